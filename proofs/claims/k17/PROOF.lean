import PyProof.Rows.All
import Wide.All
import OpenK.AllK
import Wide.FinOn
import PySem.Challenge.RW_slanttables_k17_steps
set_option compiler.extract_closed false
set_option Elab.async false
set_option linter.all false
set_option maxRecDepth 100000
set_option exponentiation.threshold 400
set_option maxHeartbeats 8000000
def cV:=@PySem.Heap.lt_size
def cW:=@Nat.lt_of_lt_of_le
def iy:=@Nat.lt_irrefl
def Am:=@Array.append_assoc
def fR:=@Nat.ne_of_lt
def uO:=@Nat.lt_trans
def Yag:=@List.mem_filter
def Yah:=@List.mem_range
def f8:=@Nat.le_trans
def nz:=@Nat.le_of_lt
def yk:=@List.filterMap_cons
def kW:=@List.mem_cons_self
def i8:=@List.mem_cons_of_mem
def ym:=@PySem.Heap.get?_none_of_le
def Yao:=@List.mem_cons
def Yap:=@List.mem_append
def An:=@List.mem_append_left
def Yar:=@List.getElem?_eq_some_iff
def eP:=@List.getElem?_set_self
def et:=@List.getElem?_set_ne
def yo:=@Array.length_toList
def cX:=@PySem.Heap.get?_push_of_some
def i9:=@Bool.false_ne_true
def yq:=@Nat.ne_of_gt
def f9:=@PySem.Heap.get?_push_size
def bM:=@Nat.le_refl
def YaA:=@List.mem_filterMap
def nA:=@List.mem_append_right
def kE:=@Bool.eq_iff_iff
def eM:=@List.size_toArray
def kX:=@PySem.Heap.size_push
def Ao:=@Nat.lt_succ_self
def jS:=@Nat.zero_le
def rG:=@List.append_nil
def YaI:=@List.nodup_cons
def uP:=@List.of_mem_zip
def gT:=@List.length_take
def jE:=@List.getElem?_append_right
def mo:=@List.getElem?_replicate
def jT:=@List.getElem?_append_left
def cA:=@List.getElem?_map
def Ap:=@List.getElem?_take_of_lt
def iz:=@List.mem_of_getElem?
def eu:=@List.length_append
def bP:=@List.length_map
def pF:=@List.length_replicate
theorem jF(n:Nat):(n:Int).toNat=n:=rfl
def ja:=@List.length_drop
def cT:=@Bool.and_eq_true
def uQ:=@PySem.Heap.get?_update_self
def rH:=@PySem.Heap.get?_update_other
def dv:=@List.length_set
def yt:=@List.all_cons
def yu:=@List.any_cons
def tS:=@List.reverse_cons
theorem gp{α}{a:α}{n}:List.replicate (n+1) a=a::List.replicate n a:=rfl
def qG:=@List.flatten_cons
def nD:=@List.append_assoc
def lQ:=@List.length_singleton
def qH:=@Nat.succ_mul
def yv:=@Nat.add_comm
theorem fw{α}(l:List α):[]++l=l:=rfl
def h8:=@List.map_nil
def da:=@List.map_cons
def kY:=@List.lookup_cons
def rJ:=@Bool.not_eq_true'
def Aq:=@List.forIn_cons
def eG:=@Bool.false_eq_true
def tT:=@Option.map_some
def Ybh:=@List.all_eq_true
def uR:=@Bool.or_eq_true
def Ar:=@Nat.le_of_succ_le
def jj:=@Nat.lt_or_ge
def aY:=@List.getD_eq_getElem?_getD
def As:=@List.ext_getElem?
def iA:=@List.getElem?_range
def eI:=@List.getElem?_eq_none
def At:=@List.length_reverse
def Ybq:=@Array.getElem?_eq_some_iff
def tU:=@List.contains_cons
def Au:=@PySem.Heap.get?_push_at
def jl:=@Nat.le_succ
theorem dQ{α}{a:α}{l:List α}:(a::l).length=l.length+1:=rfl
theorem jm{α}:([]:List α).length=0:=rfl
def dh:=@List.not_mem_nil
def Av:=@Int.toNat_of_nonneg
def Yby:=@Bool.or_eq_true_iff
def nE:=@Int.mul_comm
def yw:=@Int.mul_zero
def YbB:=@List.mem_iff_getElem
def bR:=@List.getElem?_eq_getElem
def jG:=@List.getElem_mem
def qI:=@List.drop_zero
def tV:=@List.drop_eq_getElem_cons
def mq:=@List.length_zipWith
def jH:=@Nat.pow_le_pow_right
def Aw:=@Int.mul_ediv_cancel_left
def gq:=@Int.natAbs_mul
theorem kZ(n:Nat):(n:Int).natAbs=n:=rfl
def rK:=@Nat.pow_add
def qJ:=@Nat.mul_le_mul_right
def Ax:=@Nat.mul_ne_zero
def uS:=@Nat.pow_succ
def Ay:=@Int.natAbs_add_le
def Ea:=@Int.sign_eq_neg_one_of_neg
def yx:=@Rat.num_intCast
def yy:=@Rat.den_intCast
def yz:=@Nat.one_lt_two_pow
def YbU:=@List.mem_map
def Az:=@Int.gcd_pos_of_ne_zero_right
def yA:=@Int.neg_mul_neg
def yB:=@Int.mul_fdiv_cancel_left
def tW:=@Int.one_mul
def uT:=@Bool.and_true
def dR:=@List.map_map
def ia:=@List.map_congr_left
def uU:=@Rat.num_divInt_den
theorem ic{α}{a:α}{l k:List α}:(a::l)++k=a::(l++k):=rfl
theorem dO{α}{a:α}{l:List α}:(a::l)[0]? = some a:=rfl
theorem fN{α}{a:α}{n:Nat}{l:List α}:(a::l)[n+1]? = l[n]? :=rfl
def lR:=@List.replicate_zero
def AA:=@Int.fmod_eq_emod_of_nonneg
def gu:=@Bool.not_true
def tX:=@Bool.true_and
def pG:=@Nat.lt_of_le_of_lt
def AB:=@Rat.divInt_ofNat
def rL:=@Rat.add_zero
def nF:=@Nat.min_eq_left
def yC:=@List.take_of_length_le
def uV:=@Int.fdiv_eq_ediv_of_nonneg
def pH:=@List.map_drop
def mr:=@List.map_take
def k6:=@List.mem_of_mem_drop
def pI:=@List.mem_of_mem_take
def AC:=@Int.fmod_nonneg_of_pos
def nG:=@List.length_range
def yD:=@List.map_reverse
def iB:=@List.map_append
def Yco:=@List.mem_replicate
def uW:=@List.map_set
def AD:=@List.mem_or_eq_of_mem_set
def tY:=@List.getElem?_drop
def uX:=@Nat.sub_self
def nI:=@Bool.not_false
def Ycu:=@List.mem_singleton
def rM:=@Nat.zero_add
def Ycw:=@Rat.num_eq_zero
def pJ:=@Int.mul_ne_zero
def gL:=@Rat.div_def
def qK:=@Rat.divInt_mul_divInt
def tZ:=@Nat.mul_lt_mul''
def AE:=@List.getElem?_set
def AF:=@Rat.zero_divInt
def t4:=@Rat.divInt_mul_right
def gM:=@Rat.zero_mul
def rN:=@List.getElem_zipWith
def AG:=@List.zipWith_map
def yE:=@List.map_zipWith
def yF:=@Nat.lt_succ_of_lt
def yG:=@List.getElem?_take
def rO:=@Rat.mul_one
def jn:=@Rat.mul_zero
def yH:=@Rat.mul_inv_cancel
def yI:=@Rat.mul_assoc
def pK:=@Rat.inv_mul_cancel
def YcP:=@List.pairwise_cons
def uY:=@List.getD_cons_zero
def t5:=@List.getD_cons_succ
def uZ:=@Rat.intCast_mul
def t6:=@Rat.mul_comm
def nJ:=@Rat.one_mul
def pL:=@Nat.mul_le_mul
def yJ:=@Rat.divInt_eq_div
def rP:=@List.range_succ
section
open PySem PySem.Spec PyProof.Rows PySem.W
def N3:=@wpAny_bind
abbrev N4:=PySem.W.Frag
def N5:=@wpAny_pure
def N6:=@absurd
def N7:=@decide_eq_true_eq
def N8:=@Option.some.inj
def N9:=@decide_eq_true
def Oa:=@boot_isinstance
def Ob:=@Ne.symm
def Oc:=@PySem.mem_of_lookup
def Od:=@wpAny_loadPart_at
def Oe:=@wpAny_field
def Of:=@wpAny_mono
def Og:=@wpAny_newObj_type
def Oh:=@False.elim
def Oi:=@boot_len
def Oj:=@beq_self_eq_true
def Ol:=@decide_eq_false
def Om:=@wpAny_holding
def On:=@wpAny_truthy_bool
def Oo:=@beq_eq_false_iff_ne
def Op:=@boot_tuple
def Oq:=@wpAny_standAt
def Os:=@wpAny_call_entry
def Ot:=@wpAny_seqItems
def Ou:=@wpAny_setField_rec
def Ov:=@wpAny_passesOwn
def Ow:=@wpAny_isSubtype_exc
def Ox:=@wpAny_Call_Name_kw
def Oy:=@beq_iff_eq
def Oz:=@wpAny_execs_nil
def OA:=@wpAny_rule
def OB:=@wpAny_setField
def OC:=@wpAny_pyIter_enum
def OD:=@wpAny_typeOf
def OE:=@wpAny_updateSeq_pair
def OF:=@wpAny_onRaise
end
namespace L2
open PySem PySem.Spec PyProof.Rows
variable{κ:Type}{a b it dx:Addr}{P prog:Program}{w:World}{h h' base:Heap}{x name qual:Str}{e c tg:Expr}{pins:List (Addr×Obj)}{s s':Shared}{g':Array GenState}{t' i j k n:Nat}{d':Drawn}{ch fp:List Addr}{N ps:List Str}{A:Around}{Q:Value->Shared->Prop}{f:Value->Value->Sem Value}{pos pos' p:Pos}{K:N4}{es:List Expr}{g:Int->Int->Int}{op:CmpOp}{body:List Stmt}{us:List Value}{mA mg:Str->Option Value}{kw:List (Str×Value)}{fd:FuncData}{outer:List Env}{scope:Scope}{osl:Array (Option Value)}
abbrev jI:=Sum Int Str
def qL:jI->Value->Bool
 |.inl k,v=>Value.isInt k v
 |.inr x,v=>Value.isStrOf x v
def AH(w:World):jI->Int
 |.inl k=>hashInt k
 |.inr x=>hashStr w x
theorem bD:∀{k:jI} {v:Value},qL k v=true->(∃i t,k=Sum.inl i/\v=Value.int i t)\/(∃x t,k=Sum.inr x/\v=Value.str x t)
 |.inl i,v,h=>by
  obtain⟨t,e⟩:=Value.isInt_shape (k:=i) (v:=v) h;exact .inl ⟨i,t,rfl,e⟩
 |.inr x,v,h=>by
  obtain⟨t,e⟩:=Value.isStrOf_shape (x:=x) (v:=v) h;exact .inr ⟨x,t,rfl,e⟩
theorem rR(a b:Int):decide ((Sum.inl a:jI)=Sum.inl b)=(a==b):=by
 by_cases e:a=b
 .subst e;simp
 .have h:¬(Sum.inl a:jI)=Sum.inl b:=λq=>e (Sum.inl.inj q)
  rw[Ol h];exact(beq_eq_false_iff_ne.mpr e).symm
theorem rS(a b:Str):decide ((Sum.inr a:jI)=Sum.inr b)=decide (a=b):=by
 by_cases e:a=b
 .subst e;simp
 .have h:¬(Sum.inr a:jI)=Sum.inr b:=λq=>e (Sum.inr.inj q)
  rw[Ol h,Ol e]
def rT(a:Int)(b:Str):decide ((Sum.inl a:jI)=Sum.inr b)=false:=Ol (λq=>nomatch q)
def rV(a:Str)(b:Int):decide ((Sum.inr a:jI)=Sum.inl b)=false:=Ol (λq=>nomatch q)
def iC(prog:Program)(w:World):PySem.KeyKind prog w jI where
 is:=qL
 hash:=AH w
 inj:=λv a b ha hb=>by
  rcases bD ha with⟨i,t,rfl,rfl⟩|⟨x,t,rfl,rfl⟩
  .rcases bD hb with⟨j,u,rfl,e⟩|⟨y,u,rfl,e⟩
   .injection e with e1 _;rw[e1]
   .exact nomatch e
  .rcases bD hb with⟨j,u,rfl,e⟩|⟨y,u,rfl,e⟩
   .exact nomatch e
   .injection e with e1 _;rw[e1]
 byValue:=λk v h=>by
  rcases bD h with⟨i,t,rfl,rfl⟩|⟨x,t,rfl,rfl⟩<;>rfl
 pyHash:=λhv h=>by
  rcases bD hv with⟨i,t,rfl,rfl⟩|⟨x,t,rfl,rfl⟩
  .exact wpAny_pyHash_int h
  .exact wpAny_pyHash_str h
 eqBool:=λhu hv h=>by
  rcases bD hu with⟨i,t,rfl,rfl⟩|⟨x,t,rfl,rfl⟩
  .rcases bD hv with⟨j,u,rfl,rfl⟩|⟨y,u,rfl,rfl⟩
   .rw[rR] at h;exact wpAny_eqBool_int h
   .rw[rT] at h;exact SeqAt.EqAt.int_str i t y u _ _ _ _ h
  .rcases bD hv with⟨j,u,rfl,rfl⟩|⟨y,u,rfl,rfl⟩
   .rw[rV] at h;exact SeqAt.EqAt.str_int x t j u _ _ _ _ h
   .rw[rS] at h;exact wpAny_eqBool_str h
 «strs»:=λk x t v h=>by
  rcases bD h with⟨i,u,rfl,e⟩|⟨y,u,rfl,e⟩
  .exact nomatch e
  .injection e with e1 _
   subst e1;cases v<;>rfl
inductive V where
 |non|bl (b:Bool)|int (i:Int)|str (x:Str)|byt (b:Array UInt8)|flt (b:UInt64)|ref (a:Addr)|ty (n:String)
 deriving DecidableEq
variable{σ':List (Option V)}{v:V}{xs vs:List V}{gV:List V->List V->List V}
def RelV:V->Value->Prop
 |.non,u=>u=Value.none
 |.bl b,u=>u=Value.bool b
 |.int i,u=>∃t,u=Value.int i t
 |.str x,u=>∃t,u=Value.str x t
 |.byt b,u=>∃t,u=Value.bytes b t
 |.flt b,u=>∃t,u=Value.float b t
 |.ref a,u=>u=Value.ref a
 |.ty n,u=>u=Value.type n
abbrev Vals:List V->List Value->Prop:=Paired RelV
def Vals.length{xs:List V}{us:List Value}(r:Vals xs us):xs.length=us.length:=Paired.length r
theorem Vals.get:∀{xs:List V} {us:List Value} {i:Nat} {x:V},Vals xs us->xs[i]? = some x->∃u,us[i]? = some u/\RelV x u
 |_,_,_,_,.nil,e=>by simp at e
 |_,_,0,_,.cons r _,e=>by simp at e;subst e;exact⟨_,rfl,r⟩
 |_,_,i+1,x,.cons _ t,e=>by
  obtain⟨u,h1,h2⟩:=Vals.get (i:=i) (x:=x) t (by simpa using e);exact⟨u,by simpa using h1,h2⟩
theorem Vals.set{x:V}{u:Value}(r:RelV x u):∀{xs:List V} {us:List Value} (i:Nat),Vals xs us->Vals (xs.set i x) (us.set i u)
 |_,_,_,.nil=>.nil
 |_,_,0,.cons _ t=>.cons r t
 |_,_,i+1,.cons q t=>.cons q (Vals.set r i t)
theorem Vals.append:∀{xs ys:List V} {us ws:List Value},Vals xs us->Vals ys ws->Vals (xs++ys) (us++ws)
 |_,_,_,_,.nil,s=>s
 |_,_,_,_,.cons r t,s=>.cons r (Vals.append t s)
theorem Vals.take:∀{xs:List V} {us:List Value} (n:Nat),Vals xs us->Vals (xs.take n) (us.take n)
 |_,_,0,_=>.nil
 |_,_,_+1,.nil=>.nil
 |_,_,n+1,.cons r t=>.cons r (Vals.take n t)
theorem Vals.drop:∀{xs:List V} {us:List Value} (n:Nat),Vals xs us->Vals (xs.drop n) (us.drop n)
 |_,_,0,r=>r
 |_,_,_+1,.nil=>.nil
 |_,_,n+1,.cons _ t=>Vals.drop n t
def u0:Option V->Option Value->Prop
 |some v,some u=>RelV v u
 |none,none=>True
 |_,_=>False
def KV:List (κ×V)->List (κ×Value)->Prop:=Paired λ(p:κ×V) (q:κ×Value)=>p.1=q.1/\RelV p.2 q.2
def kV:jI->V
 |.inl i=>.int i
 |.inr x=>.str x
inductive HO where
 |lst (xs:List V)
 |tup (xs:List V)
 |dK (kvs:List (jI×V))|dT (kvs:List (List jI×V))
 |set (S:Int->Bool) (n:Nat)
 |ins (C dx:Addr) (fs:List (Str×V))
 |own (x:Addr)
 |xd (fs:List (Str×V))
 |met (f x:Addr)
 |rng (lo hi:Int)
 |frz (o:Obj) (u:HO)
 |tbl (ps:Array Value)
 |ext (φ:Heap->Prop)
variable{o:HO}
abbrev Hp:=Addr->Option HO
variable{H H':Hp}
def upd(H:Hp)(a:Addr)(o:HO):Hp:=λb=>if b=a then some o else H b
def aL:upd H a o a=some o:=by unfold upd;rw[if_pos rfl]
def aH(h:b≠a):upd H a o b=H b:=by unfold upd;rw[if_neg h]
def pM{u:HO}:upd (upd H a o) a u=upd H a u:=by
 funext b;unfold upd;split<;>rfl
def cZ(h:H a=some o)(h':H b=none):a≠b:=by
 intro e;subst e;rw[h] at h';cases h'
section
variable(P:Program)(w:World)
def ObjOk(H:Hp)(h:Heap)(a:Addr):HO->Prop
 |.lst xs=>xs.length<=sizeLine/\∃(its:List Value) (n:Nat),Vals xs its/\h.get? a=some { cls:=.type "list",data:=.seq its.toArray n }
 |.tup xs=>xs.length<=sizeLine/\∃its:List Value,Vals xs its/\IsTup h a its.toArray
 |.dK kvs=>kvs.length<=sizeLine/\(a==sysModules)=false/\∃vs,KV kvs vs/\h.DictOf (iC P w) a vs
 |.dT kvs=>kvs.length<=sizeLine/\(a==sysModules)=false/\∃xs:List (List jI×Addr×Value),
   Paired (λ(p:List jI×V) (q:List jI×Addr×Value)=>p.1=q.1/\H q.2.1=some (.tup (p.1.map kV))/\RelV p.2 q.2.2) kvs xs/\
   ∃o es ep,h.get? a=some o/\o.ExactDict/\o.data=.dict es ep/\es.toList=xs.map (entryOfKey (tupleKind (iC P w)))/\(xs.map (·.1)).Nodup
 |.set S n=>h.SetOf (intKind P w) a S n
 |.ins C dx fs=>H dx=some (.own a)/\fs.length<=1000/\dx≠a/\h.get? a=some (PySem.W.instObj C dx)/\
   ∃mA,h.Ns1 dx mA/\(∀f,u0 (fs.lookup f) (mA f))/\PySem.Within mA (fs.map (·.1))
 |.own _=>∃o,h.get? a=some o
 |.xd fs=>∃mA,h.Ns1 a mA/\∀f,u0 (fs.lookup f) (mA f)
 |.rng lo hi=>∃t u v,h.get? a=some { cls:=.type "range",data:=.fields #[.int lo t,.int hi u,.int 1 v] }
 |.frz o u=>h.get? a=some o/\ObjOk H h a u
 |.tbl ps=>h.get? a=some { cls:=.none,data:=.fields ps }
 |.met f x=>h.get? a=some (PySem.W.methodObj (.ref f) (.ref x))
 |.ext φ=>φ h/\(∃o,h.get? a=some o)/\∀h1 h2:Heap,φ h1->(∀o,h1.get? a=some o->h2.get? a=some o)->φ h2
def HOk(H:Hp)(h:Heap):Prop:=∀a o,H a=some o->ObjOk P w H h a o
end
section
theorem ObjOk.lt(x:ObjOk P w H h a o):a<h.objs.size:=by
 cases o with
 |lst xs=>obtain⟨_,_,_,_,e⟩:=x;exact cV e
 |tup xs=>obtain⟨_,_,_,p⟩:=x;exact p.lt
 |dK kvs=>obtain⟨_,_,_,_,o,_,_,e,_⟩:=x;exact cV e
 |dT kvs=>obtain⟨_,_,_,_,o,_,_,e,_⟩:=x;exact cV e
 |set S n=>obtain⟨o,_,_,_,e,_⟩:=x;exact cV e
 |ins C dx fs=>obtain⟨_,_,_,e,_⟩:=x;exact cV e
 |own y=>obtain⟨_,e⟩:=x;exact cV e
 |xd fs=>obtain⟨_,⟨_,_,_,e,_⟩,_⟩:=x;exact cV e
 |rng lo hi=>obtain⟨_,_,_,e⟩:=x;exact cV e
 |frz ob u=>obtain⟨e,_⟩:=x;exact cV e
 |tbl ps=>exact cV (show h.get? a=some _ from x)
 |met f y=>exact cV (show h.get? a=some _ from x)
 |ext φ=>obtain⟨_,⟨_,e⟩,_⟩:=x;exact cV e
theorem Paired.mapP{α β:Type}{F G:α->β->Prop}:∀{l₁:List α} {l₂:List β},Paired F l₁ l₂->(∀a b,F a b->G a b)->Paired G l₁ l₂
 |_,_,.nil,_=>.nil
 |_,_,.cons r t,f=>.cons (f _ _ r) (Paired.mapP t f)
theorem ObjOk.stay(x:ObjOk P w H h a o)(k:∀b u,(b=a\/H b=some (.own a))->h.get? b=some u->h'.get? b=some u)
  (ho:∀b,H b=some (.own a)->H' b=some (.own a)) (ht:∀b xs,H b=some (.tup xs)->H' b=some (.tup xs)):ObjOk P w H' h' a o:=by
 induction o with
 |lst xs=>obtain⟨z,its,n,r,e⟩:=x;exact⟨z,its,n,r,k _ _ (.inl rfl) e⟩
 |tup xs=>obtain⟨z,its,r,ob,e,c⟩:=x;exact⟨z,its,r,ob,k _ _ (.inl rfl) e,c⟩
 |dK kvs=>obtain⟨z,y,vs,r,ob,es,ep,e,c⟩:=x;exact⟨z,y,vs,r,ob,es,ep,k _ _ (.inl rfl) e,c⟩
 |dT kvs=>
  obtain⟨z,y,xs,r,ob,es,ep,e,c⟩:=x;exact⟨z,y,xs,Paired.mapP r λp q z=>⟨z.1,ht _ _ z.2.1,z.2.2⟩,ob,es,ep,k _ _ (.inl rfl) e,c⟩
 |set S n=>obtain⟨ob,es,ep,t,e,c⟩:=x;exact⟨ob,es,ep,t,k _ _ (.inl rfl) e,c⟩
 |ins C dx fs=>
  obtain⟨d,z,ne,e,mA,⟨od,es,ep,e2,c⟩,r⟩:=x;exact⟨ho _ d,z,ne,k _ _ (.inl rfl) e,mA,⟨od,es,ep,k _ _ (.inr d) e2,c⟩,r⟩
 |own y=>obtain⟨ob,e⟩:=x;exact⟨ob,k _ _ (.inl rfl) e⟩
 |xd fs=>obtain⟨mA,⟨od,es,ep,e,c⟩,r⟩:=x;exact⟨mA,⟨od,es,ep,k _ _ (.inl rfl) e,c⟩,r⟩
 |rng lo hi=>obtain⟨t,u,v,e⟩:=x;exact⟨t,u,v,k _ _ (.inl rfl) e⟩
 |frz ob u ih=>obtain⟨e,q⟩:=x;exact⟨k _ _ (.inl rfl) e,ih q⟩
 |tbl ps=>
  have e:h.get? a=some { cls:=.none,data:=.fields ps }:=x;show h'.get? a=some { cls:=.none,data:=.fields ps };exact k a _ (.inl rfl) e
 |met f y=>
  have e:h.get? a=some (PySem.W.methodObj (.ref f) (.ref y)):=x;show h'.get? a=some (PySem.W.methodObj (.ref f) (.ref y));exact k a _ (.inl rfl) e
 |ext φ=>obtain⟨p,⟨o,e⟩,st⟩:=x;exact⟨st _ _ p λo q=>k _ _ (.inl rfl) q,⟨o,k _ _ (.inl rfl) e⟩,st⟩
def HOk.lt(x:HOk P w H h)(e:H a=some o):a<h.objs.size:=(x a o e).lt
theorem HOk.fresh(x:HOk P w H h)(e:h.objs.size<=a):H a=none:=by
 cases q:H a with
 |none=>rfl
 |some u=>exact N6 (cW (x.lt q) e) (iy _)
theorem HOk.kept(x:HOk P w H h)(k:∀b u,h.get? b=some u->h'.get? b=some u):HOk P w H h':=λa o e=>
 (x a o e).stay (λb u _ q=>k b u q) (λ_ q=>q) λ_ _ q=>q
theorem HOk.laid(x:HOk P w H h)(k:∀b u,h.get? b=some u->h'.get? b=some u)(hp:h.objs.size<=a)(new:ObjOk P w (upd H a o) h' a o):HOk P w (upd H a o) h':=λb u e=>by
 have hn:=x.fresh hp
 by_cases hb:b=a
 .subst hb;rw[aL] at e;cases e;exact new
 .rw[aH hb] at e
  exact(x b u e).stay (λc v _ q=>k c v q) (λc q=>by rw[aH (cZ q hn)];exact q) λc xs q=>by rw[aH (cZ q hn)];exact q
end
def Rd(H:Hp)(a:Addr)(u:HO):Prop:=H a=some u\/∃o,H a=some (.frz o u)
def Rd.of{u:HO}(h:H a=some u):Rd H a u:=.inl h
theorem Rd.ok{u:HO}(r:Rd H a u)(x:HOk P w H h):ObjOk P w H h a u:=by
 rcases r with r|⟨o,r⟩
 .exact x a u r
 .obtain⟨_,q⟩:=x a _ r
  exact q
def yK:Option HO->Prop
 |some (.lst _)=>True
 |some (.dK _)=>True
 |some (.dT _)=>True
 |some (.set _ _)=>True
 |some (.ins _ _ _)=>True
 |some (.ext _)=>True
 |_=>False
section
variable{x e:Addr}{o':HO}
theorem HOk.write(ok:HOk P w H h)(mu:yK (H x))(he:e=x\/H e=some (.own x))(k:∀b u,b≠e->h.get? b=some u->h'.get? b=some u)(heo:∃u,h'.get? e=some u)
  (new:ObjOk P w (upd H x o') h' x o'):HOk P w (upd H x o') h':=λb u q=>by
 have nown:∀c y,H c=some (.own y)->c≠x:=λc y r z=>by subst z;rw[r] at mu;exact mu
 have ntup:∀c xs,H c=some (.tup xs)->c≠x:=λc xs r z=>by subst z;rw[r] at mu;exact mu
 by_cases hb:b=x
 .subst hb;rw[aL] at q;cases q;exact new
 .rw[aH hb] at q
  by_cases hbe:b=e
  .have q':H b=some (.own x):=by
    rcases he with z|z
    .exact N6 (hbe.trans z) hb
    .rw[hbe];exact z
   rw[q] at q';cases q';obtain⟨v,hv⟩:=heo;exact⟨v,by rw[hbe];exact hv⟩
  .refine(ok b u q).stay (λc v hc r=>k c v ?_ r) (λc r=>by rw[aH (nown c b r)];exact r) λc xs r=>by rw[aH (ntup c xs r)];exact r
   rcases hc with rfl|hc
   .exact hbe
   .rintro rfl
    rcases he with z|z
    .exact nown c b hc z
    .rw[hc] at z;cases z;exact hb rfl
end
structure Un(fs ex:List Addr)(H H':Hp)(h h':Heap):Prop where
 keep:∀b o,h.get? b=some o->H b=none->b∉fs->b∉ex->h'.get? b=some o
 slot:∀b o,h.get? b=some o->H b=none->b∈fs->b∉ex->∃sl,h'.get? b=some { o with slots:=sl }
 free:∀b o,h.get? b=some o->H b=none->b∉ex->H' b=none
 there:∀b o,h.get? b=some o->b∉ex->∃o',h'.get? b=some o'
 tups:∀b xs,H b=some (.tup xs)->H' b=some (.tup xs)
 frzs:∀b o u,H b=some (.frz o u)->H' b=some (.frz o u)
 tbls:∀b ps,H b=some (.tbl ps)->∃more,H' b=some (.tbl (ps++more))
 sys:mainGlobals∉ex->(∃o,h.get? mainGlobals=some o)->(∀xs,H sysModules≠some (.lst xs))->∀xs,H' sysModules≠some (.lst xs)
section
variable{fs fs' ex ex':List Addr}{H1 H2:Hp}{h1 h2:Heap}{x e:Addr}
theorem Un.any(u:Un fs ex H H1 h h1){ob:Obj}(q:h.get? b=some ob)(n:H b=none)(hx:b∉ex):∃sl,h1.get? b=some { ob with slots:=sl }:=by
 by_cases hb:b∈fs
 .exact u.slot b ob q n hb hx
 .exact⟨ob.slots,u.keep b ob q n hb hx⟩
theorem Un.trans(a:Un fs ex H H1 h h1)(b:Un fs ex H1 H2 h1 h2):Un fs ex H H2 h h2 where
 keep:=λc ob q n hc hx=>b.keep c ob (a.keep c ob q n hc hx) (a.free c ob q n hx) hc hx
 slot:=λc ob q n hc hx=>by
  obtain⟨sl,e1⟩:=a.slot c ob q n hc hx;obtain⟨sl',e2⟩:=b.slot c _ e1 (a.free c ob q n hx) hc hx;exact⟨sl',e2⟩
 free:=λc ob q n hx=>by
  obtain⟨o',e1⟩:=a.there c ob q hx;exact b.free c o' e1 (a.free c ob q n hx) hx
 there:=λc ob q hx=>by
  obtain⟨o',e1⟩:=a.there c ob q hx;exact b.there c o' e1 hx
 tups:=λc xs q=>b.tups c xs (a.tups c xs q)
 frzs:=λc ob xs q=>b.frzs c ob xs (a.frzs c ob xs q)
 tbls:=λc ps q=>by
  obtain⟨m1,e1⟩:=a.tbls c ps q;obtain⟨m2,e2⟩:=b.tbls c _ e1;exact⟨m1++m2,by rw[e2,Am]⟩
 sys:=λhx ⟨o,e⟩ n=>b.sys hx (a.there _ o e hx) (a.sys hx ⟨o,e⟩ n)
theorem Un.kept(k:∀b u,h.get? b=some u->h'.get? b=some u):Un fs ex H H h h':=
 ⟨λb ob q _ _ _=>k b ob q,λb ob q _ _ _=>⟨ob.slots,k b ob q⟩,λ_ _ _ n _=>n,λb ob q _=>⟨ob,k b ob q⟩,λ_ _ q=>q,λ_ _ _ q=>q,λ_ ps q=>⟨#[],by rw[q];simp⟩,λ_ _ n=>n⟩
def Un.refl:Un fs ex H H h h:=Un.kept λ_ _ q=>q
theorem Un.laid(k:∀b u,h.get? b=some u->h'.get? b=some u)(hp:h.objs.size<=a)(hn:H a=none):Un fs ex H (upd H a o) h h' where
 keep:=λb u q _ _ _=>k b u q
 slot:=λb u q _ _ _=>⟨u.slots,k b u q⟩
 free:=λb u q n _=>by rw[aH (fR (cW (cV q) hp))];exact n
 there:=λb u q _=>⟨u,k b u q⟩
 tups:=λb xs q=>by rw[aH (cZ q hn)];exact q
 frzs:=λb u xs q=>by rw[aH (cZ q hn)];exact q
 tbls:=λb ps q=>⟨#[],by rw[aH (cZ q hn),q];simp⟩
 sys:=λ_ ⟨_,q⟩ n=>by rw[aH (fR (cW (uO (by decide) (cV q)) hp))];exact n
theorem Un.write(mu:yK (H x))(he:e=x\/H e=some (.own x))(k:∀b u,b≠e->h.get? b=some u->h'.get? b=some u)(heo:∃u,h'.get? e=some u)(hk:(∃us,H x=some (.lst us))\/∀us,o≠.lst us):Un fs ex H (upd H x o) h h':=by
 have hx:∀b,H b=none->b≠x:=λb n z=>by subst z;rw[n] at mu;exact mu
 have hb:∀b,H b=none->b≠e:=λb n z=>by
  subst z;rcases he with r|r
  .exact hx b n r
  .rw[n] at r;cases r
 have hm:∀b u,H b=some u->¬yK (some u)->b≠x:=λb u q nm z=>by subst z;rw[q] at mu;exact nm mu
 refine ⟨λb u q n _ _=>k b u (hb b n) q,λb u q n _ _=>⟨u.slots,k b u (hb b n) q⟩,λb u q n _=>by rw [aH (hx b n)];exact n,λb u q _=>?_,
  λb xs q=>by rw[aH (hm b _ q λz=>z)];exact q,λb u xs q=>by rw[aH (hm b _ q λz=>z)];exact q,λb ps q=>⟨#[],by rw[aH (hm b _ q λz=>z),q];simp⟩,λ_ _ n ys=>by
   by_cases z:sysModules=x
   .rw[z,aL]
    rcases hk with⟨us,hk⟩|hk
    .exact N6 (z▸hk) (n us)
    .exact λy=>hk ys (N8 y)
   .rw[aH z];exact n ys⟩
 by_cases hbe:b=e
 .subst hbe;exact heo
 .exact⟨u,k b u hbe q⟩
theorem Un.mono(u:Un fs ex H H1 h h1)(hs:∀b∈fs,b∈fs')(hx:∀b∈ex,b∈ex'):Un fs' ex' H H1 h h1:=
 ⟨λb ob q n hb he=>u.keep b ob q n (λz=>hb (hs b z)) λz=>he (hx b z),λ_ _ q n _ he=>u.any q n λz=>he (hx _ z),λb ob q n he=>u.free b ob q n λz=>he (hx b z),λb ob q he=>u.there b ob q λz=>he (hx b z),u.tups,u.frzs,u.tbls,λhe=>u.sys λz=>he (hx _ z)⟩
end
def yL(h:Heap)(H:Hp):List Addr:=(List.range h.objs.size).filter λa=>(H a).isSome
def iD(h:Heap)(H:Hp):Heap:=PySem.W.hideAll h (yL h H)
def k9(h:Heap)(H:Hp):(iD h H).objs.size=h.objs.size:=PySem.W.hideAll_size _ _
theorem ms{o:Obj}(e:h.get? b=some o)(n:H b=none):(iD h H).get? b=some o:=
 PySem.W.hideAll_get _ e λhm=>by
  have q:(H b).isSome=true:=(Yag.mp hm).2;rw[n] at q;simp at q
theorem pN{o:Obj}(e:(iD h H).get? b=some o):h.get? b=some o/\H b=none:=by
 have e':h.get? b=some o:=PySem.W.of_hideAll (yL h H) e;refine⟨e',?_⟩;cases q:H b with
 |none=>rfl
 |some x=>
  have hm:b∈yL h H:=Yag.mpr ⟨Yah.mpr (cV e'),by simp[q]⟩;have z:(iD h H).get? b=none:=PySem.W.hideAll_none (yL h H) hm;rw[z] at e;cases e
def pO(g h:Heap)(L:Addr):List (Addr×Obj):=(List.range h.objs.size).filterMap λa=>if a=L\/(g.get? a).isSome=true then none else(h.get? a).map λo=>(a,o)
def rest(g h:Heap)(L d:Addr):List (Addr×Obj):=(pO g h L).filter λp=>decide (p.1≠d)
structure Mod(K:N4)(mg:Str->Option Value)(base:Heap):Prop where
 kin:K.In base
 glob:base.Ns mainGlobals mg
 blt:∃mb,base.Ns builtinsNs mb/\∀x:Str,x≠ "__name__" ->mb x=bootBuiltins x
 nolimit:base.NoLimit
structure Cx where
 prog:Program
 w:World
 K:N4
 mg:Str->Option Value
 base:Heap
 A:Around
 N:List Str
 s₀:Shared
 H₀:Hp
 env:Env
 outer:List Env
 stack:List Env
 ex:List Addr
 fn:Str->Bool
 calm:Bool
 pn:List (Addr×Obj)
 xe:Value->Shared->Prop
variable{X:Cx}
def cM(l:List Env):List Addr:=l.filterMap (·.frame)
abbrev Cx.fs(X:Cx):List Addr:=cM X.outer
def kF(sc:Scope)(x:Str):Prop:=sc.names.lookup x=some .local\/sc.names.lookup x=some .cell\/sc.names.lookup x=some .free
def lS(sc:Scope)(x:Str):Prop:=sc.names.lookup x=some .local\/sc.names.lookup x=some .cell
def AI(env:Env)(h:Heap)(m:Str->Option Value)(x:Str)(u:Value):Prop:=
 (env.kindOf x=some .local/\m x=some u)\/((env.kindOf x=some .cell\/env.kindOf x=some .free)/\∃c,env.cells.lookup x=some c/\h.IsCell c (some u))
structure Cx.Ok(X:Cx):Prop where
 mod:Mod X.K X.mg X.base
 kind:X.env.scope.kind=.function
 glob:X.env.globals=mainGlobals
 blt:X.env.builtins=builtinsNs
 above:X.s₀.heap.objs.size<=X.env.locals
 inj:∀x y c,X.env.cells.lookup x=some c->X.env.cells.lookup y=some c->x=y
 has:∀x,(X.env.kindOf x=some .cell\/X.env.kindOf x=some .free)->∃c,X.env.cells.lookup x=some c
 cab:∀x c,X.fn x=true->X.env.cells.lookup x=some c->X.s₀.heap.objs.size<=c
 hd:X.calm=true->X.A.handled=none
 frames:X.A.frames=some X.stack
 stk:X.stack=X.outer\/(X.stack=X.env::X.outer/\X.env.frame=some X.env.locals)
 exf:∀b∈X.ex,b≠X.env.locals/\∀x c,X.env.cells.lookup x=some c->c≠b
 bs:∀b o,X.base.get? b=some o->X.s₀.heap.get? b=some o/\X.H₀ b=none
 bsz:X.base.objs.size<=X.s₀.heap.objs.size
 noex:∀b o,X.base.get? b=some o->b∉X.ex
 exfs:∀b∈X.ex,b∉X.fs
 funs:X.s₀.heap.FunFrames X.base X.outer
 frf:∀b∈X.fs,X.H₀ b=none
 sys0:∀xs,X.H₀ sysModules≠some (.lst xs)
structure Inv(X:Cx)(pins:List (Addr×Obj))(σ:List (Option V))(H:Hp)(s:Shared):Prop where
 ok:X.Ok
 os:s.os=X.s₀.os
 bare:AllBare s.gens
 base:Un X.fs X.ex X.H₀ H X.s₀.heap s.heap
 loc:∃m,s.heap.Ns X.env.locals m/\∀(i:Nat) (x:Str) (v:V),X.N[i]? = some x->σ[i]? = some (some v)->kF X.env.scope x->∃u,RelV v u/\AI X.env s.heap m x u
 cell:∀x c,X.env.cells.lookup x=some c->∃v,s.heap.IsCell c v
 free:H X.env.locals=none
 freeC:∀x c,X.env.cells.lookup x=some c->H c=none
 pin:∀p∈X.pn++pins,s.heap.get? p.1=some p.2/\H p.1=none/\p.1≠X.env.locals/\p.1∉X.fs/\∀v,p.2.data≠.cell v
 hok:HOk X.prog X.w H s.heap
 len:σ.length=X.N.length
section
variable{σ:List (Option V)}
theorem Cx.Ok.nofr(ok:X.Ok){o:Obj}(e:X.base.get? b=some o):b∉X.fs:=λhb=>by
 have:=(ok.funs.mem hb).1;rw[e] at this;cases this
theorem Inv.bs(I:Inv X pins σ H s):∀b o,X.base.get? b=some o->s.heap.get? b=some o/\H b=none:=λb o e=>
 ⟨I.base.keep b o (I.ok.bs b o e).1 (I.ok.bs b o e).2 (I.ok.nofr e) (I.ok.noex b o e),I.base.free b o (I.ok.bs b o e).1 (I.ok.bs b o e).2 (I.ok.noex b o e)⟩
theorem Inv.bk(I:Inv X pins σ H s):∀b o,X.base.get? b=some o->s.heap.get? b=some o:=λb o e=>(I.bs b o e).1
def Inv.mod(I:Inv X pins σ H s):Mod X.K X.mg X.base:=I.ok.mod
theorem Inv.hasG(I:Inv X pins σ H s):∃o,s.heap.get? mainGlobals=some o:=by
 obtain⟨o,_,_,e,_⟩:=I.ok.mod.glob;exact⟨o,I.bk _ _ e⟩
theorem Inv.sysn(I:Inv X pins σ H s):∀xs,H sysModules≠some (.lst xs):=by
 obtain⟨o,_,_,e,_⟩:=I.ok.mod.glob;exact I.base.sys (I.ok.noex _ _ e) ⟨o,(I.ok.bs _ _ e).1⟩ I.ok.sys0
def Inv.kIn(I:Inv X pins σ H s):X.K.In s.heap:=I.ok.mod.kin.keeps I.bk
theorem Inv.fr(I:Inv X pins σ H s):∃m,Fr X.base X.env.locals s.heap m:=
 let⟨m,hn,_⟩:=I.loc
 ⟨m,hn,I.bk,f8 I.ok.bsz I.ok.above⟩
def Inv.lt(I:Inv X pins σ H s):X.env.locals<s.heap.objs.size:=let⟨_,hn,_⟩:=I.loc;hn.lt
theorem Inv.sz(I:Inv X pins σ H s):X.s₀.heap.objs.size<=s.heap.objs.size:=f8 I.ok.above (nz I.lt)
theorem Inv.nofs(I:Inv X pins σ H s)(h:s.heap.objs.size<=a):a∉X.fs:=λhb=>by
 obtain⟨_,o,ho,_⟩:=I.ok.funs.mem hb;exact N6 (cW (cV ho) (f8 I.sz h)) (iy _)
theorem Inv.cne(I:Inv X pins σ H s):∀x c,X.env.cells.lookup x=some c->c≠X.env.locals:=λx c e z=>by
 obtain⟨v,o,ho,hd⟩:=I.cell x c e;obtain⟨m,⟨o',es,ep,ho',hd',_⟩,_⟩:=I.loc;rw[z,ho'] at ho;cases ho;rw[hd'] at hd;cases hd
theorem Inv.funs(I:Inv X pins σ H s):s.heap.FunFrames X.base X.outer:=by
 have all:∀(l:List Env),(∀b∈cM l,b∈X.fs)->X.s₀.heap.FunFrames X.base l->s.heap.FunFrames X.base l:=by
  intro l
  induction l with
  |nil=>intro _ _;trivial
  |cons env r ih=>
   intro hs hl;obtain⟨hk,⟨L,o,hf,hn,ho,hd⟩,hr⟩:=hl;have hL:L∈X.fs:=hs L (by unfold cM;rw[yk,hf];exact kW);obtain⟨sl,e⟩:=I.base.slot L o ho (I.ok.frf L hL) hL λz=>I.ok.exfs L z hL;exact⟨hk,⟨L,_,hf,hn,e,hd⟩,ih (λb hb=>hs b (by unfold cM;rw[yk,hf];exact i8 _ hb)) hr⟩
 exact all X.outer (λ_ hb=>hb) I.ok.funs
theorem Inv.stack(I:Inv X pins σ H s):s.heap.FunFrames X.base X.stack:=by
 rcases I.ok.stk with e|⟨e,hf⟩
 .rw[e];exact I.funs
 .rw[e]
  obtain⟨m,hn,_⟩:=I.loc;refine .cons (by rw[I.ok.kind];decide) hf hn ?_ I.funs;exact ym (f8 I.ok.bsz I.ok.above)
theorem Inv.stkSub(I:Inv X pins σ H s):∀b∈cM X.stack,b∈X.env.locals::X.fs:=λb hb=>by
 rcases I.ok.stk with e|⟨e,hf⟩
 .rw[e] at hb;exact i8 _ hb
 .rw[e] at hb
  unfold cM at hb;rw[yk,hf] at hb;exact hb
theorem Inv.stkFree(I:Inv X pins σ H s):∀b∈cM X.stack,H b=none:=λb hb=>by
 rcases Yao.mp (I.stkSub b hb) with e|hb
 .rw[e];exact I.free
 .obtain⟨_,o,ho,_⟩:=I.ok.funs.mem hb
  exact I.base.free b o ho (I.ok.frf b hb) λz=>I.ok.exfs b z hb
theorem Inv.step(I:Inv X pins σ H s)
  (hch:∀b∈ch,(b∈X.ex\/X.s₀.heap.objs.size<=b)/\b≠X.env.locals/\(∀x c,X.env.cells.lookup x=some c->c≠b)/\∀p∈X.pn++pins,p.1≠b)
  (keep:∀b o,b≠X.env.locals->b∉X.fs->b∉ch->s.heap.get? b=some o->H b=none->h'.get? b=some o)
  (slot:∀b o,b≠X.env.locals->b∈X.fs->b∉ch->s.heap.get? b=some o->H b=none->∃sl,h'.get? b=some { o with slots:=sl }) (free:∀b o,b∉ch->s.heap.get? b=some o->H b=none->H' b=none)
  (there:∀b o,b∉ch->s.heap.get? b=some o->∃o',h'.get? b=some o')
  (tups:∀b xs,H b=some (.tup xs)->H' b=some (.tup xs)) (frzs:∀b o u,H b=some (.frz o u)->H' b=some (.frz o u)) (tbls:∀b ps,H b=some (.tbl ps)->∃more,H' b=some (.tbl (ps++more)))
  (ns:∀m,s.heap.Ns X.env.locals m->h'.Ns X.env.locals m) (hok:HOk X.prog X.w H' h') (hg:AllBare g') (sy:(∀xs,H sysModules≠some (.lst xs))->∀xs,H' sysModules≠some (.lst xs)) :
  Inv X pins σ H' { s with heap:=h',gens:=g',drawn:=d',toks:=t' }:=by
 have neL:∀b o,X.s₀.heap.get? b=some o->b≠X.env.locals:=λb o e=>fR (cW (cV e) I.ok.above);have neC:∀b o,X.s₀.heap.get? b=some o->b∉X.ex->b∉ch:=λb o e hx hb=>by
  rcases(hch b hb).1 with z|z
  .exact hx z
  .exact N6 (cW (cV e) z) (iy _)
 have cellK:∀x c,X.env.cells.lookup x=some c->∀v,s.heap.IsCell c v->h'.IsCell c v:=λx c e v ⟨o,ho,hd⟩=>by
  have nch:c∉ch:=λz=>(hch c z).2.2.1 x c e rfl
  by_cases hc:c∈X.fs
  .obtain⟨sl,q⟩:=slot c o (I.cne x c e) hc nch ho (I.freeC x c e)
   exact⟨_,q,hd⟩
  .exact⟨o,keep c o (I.cne x c e) hc nch ho (I.freeC x c e),hd⟩
 refine⟨I.ok,I.os,hg,⟨λb o e n hb hx=>?_,λb o e n hb hx=>?_,λb o e n hx=>?_,λb o e hx=>?_,λb xs e=>tups b xs (I.base.tups b xs e),λb o xs e=>frzs b o xs (I.base.frzs b o xs e),λb ps e=>?_,λx0 e0 n=>sy (I.base.sys x0 e0 n)⟩,?_,λx c e=>?_,?_,λx c e=>?_,λp hp=>?_,hok,I.len⟩
 .exact keep b o (neL b o e) hb (neC b o e hx) (I.base.keep b o e n hb hx) (I.base.free b o e n hx)
 .obtain⟨sl,e1⟩:=I.base.slot b o e n hb hx
  obtain⟨sl',e2⟩:=slot b _ (neL b o e) hb (neC b o e hx) e1 (I.base.free b o e n hx);exact⟨sl',e2⟩
 .obtain⟨o',e1⟩:=I.base.there b o e hx
  exact free b o' (neC b o e hx) e1 (I.base.free b o e n hx)
 .obtain⟨o',e1⟩:=I.base.there b o e hx
  exact there b o' (neC b o e hx) e1
 .obtain⟨m1,e1⟩:=I.base.tbls b ps e
  obtain⟨m2,e2⟩:=tbls b _ e1;exact⟨m1++m2,by rw[e2,Am]⟩
 .obtain⟨m,hn,hl⟩:=I.loc
  refine⟨m,ns m hn,λi x v e1 e2 e3=>?_⟩;obtain⟨u,r,l⟩:=hl i x v e1 e2 e3;refine⟨u,r,?_⟩;rcases l with l|⟨k,c,e,z⟩
  .exact .inl l
  .exact .inr ⟨k,c,e,cellK x c e _ z⟩
 .obtain⟨v,z⟩:=I.cell x c e
  exact⟨v,cellK x c e v z⟩
 .obtain⟨m,⟨o,_,_,ho,_⟩,_⟩:=I.loc
  exact free _ o (λz=>(hch _ z).2.1 rfl) ho I.free
 .obtain⟨v,o,ho,hd⟩:=I.cell x c e
  exact free c o (λz=>(hch c z).2.2.1 x c e rfl) ho (I.freeC x c e)
 .obtain⟨e,n,ne,nf,d⟩:=I.pin p hp
  have nch:p.1∉ch:=λz=>(hch p.1 z).2.2.2 p hp rfl;exact⟨keep p.1 p.2 ne nf nch e n,free p.1 p.2 nch e n,ne,nf,d⟩
theorem Inv.un(I:Inv X pins σ H s)(u:Un X.fs [] H H' s.heap h')(hok:HOk X.prog X.w H' h'):Inv X pins σ H' { s with heap:=h',toks:=t' }:=by
 obtain⟨m,⟨o,es,ep,ho,r⟩,_⟩:=id I.loc;obtain⟨sl,hL⟩:=u.any ho I.free (by simp);exact I.step (g':=s.gens) (d':=s.drawn) (ch:=[]) (λ_ z=>nomatch z) (λb o _ hb _ e n=>u.keep b o e n hb (by simp)) (λb o _ hb _ e n=>u.slot b o e n hb (by simp)) (λb o _ e n=>u.free b o e n (by simp)) (λb o _ e=>u.there b o e (by simp)) u.tups u.frzs u.tbls (λm' hm=>by
  obtain⟨o',es',ep',ho',r'⟩:=hm;rw[ho] at ho';cases ho';exact⟨_,es',ep',hL,r'⟩) hok I.bare (u.sys (by simp) I.hasG)
theorem Inv.call(I:Inv X pins σ H s)(u:Un (cM X.stack) ch H H' s.heap h')(hok:HOk X.prog X.w H' h')(hg:AllBare g')
  (hch:∀b∈ch,(b∈X.ex\/X.s₀.heap.objs.size<=b)/\b≠X.env.locals/\(∀x c,X.env.cells.lookup x=some c->c≠b)/\∀p∈X.pn++pins,p.1≠b) :
  Inv X pins σ H' { s with heap:=h',gens:=g',drawn:=d',toks:=t' }:=by
 obtain⟨m,⟨o,es,ep,ho,r⟩,_⟩:=id I.loc;obtain⟨sl,hL⟩:=u.any ho I.free λz=>(hch _ z).2.1 rfl;exact I.step (ch:=ch) hch (λb o hL hb hc e n=>u.keep b o e n (λz=>(Yao.mp (I.stkSub b z)).elim hL hb) hc) (λb o _ _ hc e n=>u.any e n hc) (λb o hc e n=>u.free b o e n hc) (λb o hc e=>u.there b o e hc) u.tups u.frzs u.tbls (λm' hm=>by
  obtain⟨o',es',ep',ho',r'⟩:=hm;rw[ho] at ho';cases ho';exact ⟨_,es',ep',hL,r'⟩) hok hg (u.sys (λz=>by
   obtain⟨o0,_,_,e0,_⟩:=I.ok.mod.glob;rcases(hch _ z).1 with y|y
   .exact I.ok.noex _ _ e0 y
   .exact N6 (cW (cV (I.ok.bs _ _ e0).1) y) (iy _)) I.hasG)
theorem Inv.turned(I:Inv X pins σ H s)(k:∀b o,b≠it->s.heap.get? b=some o->h'.get? b=some o)(hn:H it=none)(hL:it≠X.env.locals)
  (h1:it∈X.ex\/X.s₀.heap.objs.size<=it) (h2:∀x c,X.env.cells.lookup x=some c->c≠it) (h3:∀p∈X.pn++pins,p.1≠it):Inv X pins σ H { s with heap:=h',toks:=t' }:=by
 have nit:∀b u,H b=some u->b≠it:=λb u e z=>by rw[z,hn] at e;cases e
 refine I.step (g':=s.gens) (d':=s.drawn) (ch:=[it]) (λb hb=>?_) (λb o _ _ hc e _=>k b o (λz=>hc (by simp[z])) e) (λb o _ _ hc e _=>⟨o.slots,k b o (λz=>hc (by simp[z])) e⟩) (λ_ _ _ _ n=>n)
  (λb o hc e=>⟨o,k b o (λz=>hc (by simp[z])) e⟩) (λ_ _ e=>e) (λ_ _ _ e=>e) (λb ps e=>⟨#[],by rw[e];simp⟩) (λm hm=>?_) (λb u e=>?_) I.bare (λn=>n)
 .have e:b=it:=by simpa using hb
  subst e;exact⟨h1,hL,h2,h3⟩
 .obtain⟨o,es,ep,ho,r⟩:=hm
  exact⟨o,es,ep,k _ o (Ob hL) ho,r⟩
 .refine(I.hok b u e).stay (λc v hc q=>k c v ?_ q) (λ_ q=>q) λ_ _ q=>q
  rcases hc with z|z
  .rw[z];exact nit b u e
  .exact nit c _ z
theorem Inv.tok(I:Inv X pins σ H s)(t:Nat):Inv X pins σ H { s with toks:=t }:=I.un (h':=s.heap) (t':=t) Un.refl I.hok
theorem Inv.kept{t':Nat}(I:Inv X pins σ H s)(k:∀b u,s.heap.get? b=some u->h'.get? b=some u):Inv X pins σ H { s with heap:=h',toks:=t' }:=I.un (Un.kept k) (I.hok.kept k)
theorem Inv.laid{a:Addr}{o:HO}{t':Nat}(I:Inv X pins σ H s)(k:∀b u,s.heap.get? b=some u->h'.get? b=some u)(hp:s.heap.objs.size<=a)(new:ObjOk X.prog X.w (upd H a o) h' a o) :
  Inv X pins σ (upd H a o) { s with heap:=h',toks:=t' }:=I.un (Un.laid k hp (I.hok.fresh hp)) (I.hok.laid k hp new)
theorem Inv.write{x e:Addr}{o:HO}{t':Nat}(I:Inv X pins σ H s)(mu:yK (H x))(he:e=x\/H e=some (.own x))(k:∀b u,b≠e->s.heap.get? b=some u->h'.get? b=some u)(heo:∃u,h'.get? e=some u)
  (new:ObjOk X.prog X.w (upd H x o) h' x o) (hk:(∃us,H x=some (.lst us))\/∀us,o≠.lst us):Inv X pins σ (upd H x o) { s with heap:=h',toks:=t' }:=I.un (Un.write mu he k heo hk) (I.hok.write mu he k heo new)
theorem Inv.weak(I:Inv X pins σ H s)(hl:σ'.length=σ.length)(w:∀(i:Nat) v,σ'[i]? = some (some v)->σ[i]? = some (some v)):Inv X pins σ' H s:=
 ⟨I.ok,I.os,I.bare,I.base,let⟨m,hn,hl'⟩:=I.loc;⟨m,hn,λi x v e1 e2 e3=>hl' i x v e1 (w i v e2) e3⟩,I.cell,I.free,I.freeC,I.pin,I.hok,hl.trans I.len⟩
theorem Inv.pins_of{pins':List (Addr×Obj)}(I:Inv X pins σ H s)(h:∀p∈pins',s.heap.get? p.1=some p.2/\H p.1=none/\p.1≠X.env.locals/\p.1∉X.fs/\∀v,p.2.data≠.cell v):Inv X pins' σ H s:=
 ⟨I.ok,I.os,I.bare,I.base,I.loc,I.cell,I.free,I.freeC,λp hp=>(Yap.mp hp).elim (λz=>I.pin p (An _ z)) (h p),I.hok,I.len⟩
theorem jo(hN:N.Nodup)(a:N[i]? = some x)(b:N[j]? = some x):i=j:=by
 obtain⟨h1,e1⟩:=Yar.mp a;obtain⟨h2,e2⟩:=Yar.mp b;exact(List.getElem_inj hN).mp (e1.trans e2.symm)
theorem fz{M:Model}{E:Value->Shared->Prop}{u:Value}{Q:Unit->Shared->Prop}(I:Inv X pins σ H s)(hN:X.N.Nodup)(hi:X.N[i]? = some x)(hx:lS X.env.scope x)(r:RelV v u)
  (h:∀s',Inv X pins (σ.set i (some v)) H s'->(∃a,Heap.SameBut a s.heap s'.heap/\(a=X.env.locals\/X.env.cells.lookup x=some a))->Q () s') (hf:X.fn x=true\/X.env.scope.names.lookup x=some .local:=by first|exact .inl rfl|exact .inr rfl|assumption):wpAny M A (storeName X.env x u) Q E s:=by
 obtain⟨m,hn,hl⟩:=id I.loc;have hcls:(X.env.scope.kind==.class||(X.env.scope.kind==.module&&X.env.locals != X.env.globals))=false:=by rw[I.ok.kind];rfl
 have hiσ:i<σ.length:=by rw[I.len];exact(Yar.mp hi).1
 have cne:=I.cne;have tracked:∀{a:Addr} {h':Heap},(∃o,s.heap.get? a=some o/\H a=none)->Heap.SameBut a s.heap h'->HOk X.prog X.w H h':=λ{a h'} ha hs b ob e=>by
  obtain⟨_,_,hfree⟩:=ha;refine(I.hok b ob e).stay (λc w' hc q=>(hs.2 c ?_).trans q) (λ_ q=>q) λ_ _ q=>q;rintro rfl;rcases hc with rfl|hc
  .rw[hfree] at e;cases e
  .rw[hfree] at hc;cases hc
 rcases hx with hk|hk
 .refine wpAny_storeName_local hk hn (λh' hn' hs=>?_) hcls
  obtain⟨oL,_,_,hoL,_⟩:=id hn;refine h _ ⟨I.ok,I.os,I.bare,⟨λb o e n hb hx=>?_,λb o e n hb hx=>?_,I.base.free,λb o e hx=>?_,I.base.tups,I.base.frzs,I.base.tbls,I.base.sys⟩,⟨_,hn',λj y v' e1 e2 e3=>?_⟩,λy c e=>?_,I.free,I.freeC,λp hp=>?_,tracked ⟨oL,hoL,I.free⟩ hs,by simpa using I.len⟩ ⟨_,hs,.inl rfl⟩
  .exact(hs.2 b (fR (cW (cV e) I.ok.above))).trans (I.base.keep b o e n hb hx)
  .obtain⟨sl,e1⟩:=I.base.slot b o e n hb hx
   exact⟨sl,(hs.2 b (fR (cW (cV e) I.ok.above))).trans e1⟩
  .obtain⟨o',e1⟩:=I.base.there b o e hx
   exact⟨o',(hs.2 b (fR (cW (cV e) I.ok.above))).trans e1⟩
  .by_cases hj:j=i
   .subst hj
    rw[hi] at e1;cases e1;rw[eP hiσ] at e2;cases e2;exact⟨u,r,.inl ⟨hk,by simp⟩⟩
   .rw[et (Ob hj)] at e2
    obtain⟨u',r',q⟩:=hl j y v' e1 e2 e3;refine⟨u',r',?_⟩;rcases q with⟨k,e⟩|⟨k,c,e,z⟩
    .refine .inl ⟨k,?_⟩
     have:y≠x:=λe=>hj (jo hN e1 (e▸hi));simp[this,e]
    .exact .inr ⟨k,c,e,z.sameBut hs (cne y c e)⟩
  .obtain⟨w',z⟩:=I.cell y c e
   exact⟨w',z.sameBut hs (cne y c e)⟩
  .obtain⟨e,n,ne,nf,d⟩:=I.pin p hp
   exact⟨(hs.2 p.1 ne).trans e,n,ne,nf,d⟩
 .have hfn:X.fn x=true:=by
   rcases hf with z|z
   .exact z
   .rw[z] at hk;cases hk
  obtain⟨c,hc⟩:=I.ok.has x (.inl hk);obtain⟨w',z⟩:=I.cell x c hc;refine wpAny_storeName_cell I.ok.kind hk hc z (λh' hc' hs=>?_);obtain⟨oc,hoc,hocd⟩:=id z;refine h { s with heap:=h' } ⟨I.ok,I.os,I.bare,⟨λb o e n hb hx=>?_,λb o e n hb hx=>?_,I.base.free,λb o e hx=>?_,I.base.tups,I.base.frzs,I.base.tbls,I.base.sys⟩,⟨m,hn.sameBut hs (Ob (cne x c hc)),λj y v' e1 e2 e3=>?_⟩,λy c' e=>?_,I.free,I.freeC,λp hp=>?_,tracked ⟨oc,hoc,I.freeC x c hc⟩ hs,by simpa using I.len⟩ ⟨c,hs,.inr hc⟩
  .exact(hs.2 b (fR (cW (cV e) (I.ok.cab x c hfn hc)))).trans (I.base.keep b o e n hb hx)
  .obtain⟨sl,e1⟩:=I.base.slot b o e n hb hx
   exact⟨sl,(hs.2 b (fR (cW (cV e) (I.ok.cab x c hfn hc)))).trans e1⟩
  .obtain⟨o',e1⟩:=I.base.there b o e hx
   exact⟨o',(hs.2 b (fR (cW (cV e) (I.ok.cab x c hfn hc)))).trans e1⟩
  .by_cases hj:j=i
   .subst hj
    rw[hi] at e1;cases e1;rw[eP hiσ] at e2;cases e2;exact⟨u,r,.inr ⟨.inl hk,c,hc,hc'⟩⟩
   .rw[et (Ob hj)] at e2
    obtain⟨u',r',q⟩:=hl j y v' e1 e2 e3;refine⟨u',r',?_⟩;rcases q with q|⟨k,c',e,z'⟩
    .exact .inl q
    .refine .inr ⟨k,c',e,z'.sameBut hs ?_⟩
     rintro rfl;exact hj (jo hN e1 (I.ok.inj _ _ _ e hc▸hi))
  .by_cases hcc:c'=c
   .subst hcc;exact⟨_,hc'⟩
   .obtain⟨w2,z2⟩:=I.cell y c' e
    exact⟨w2,z2.sameBut hs hcc⟩
  .obtain⟨e,n,ne,nf,d⟩:=I.pin p hp
   refine⟨(hs.2 p.1 ?_).trans e,n,ne,nf,d⟩;intro q;rw[q,hoc] at e;have q':oc=p.2:=N8 e;exact d w' (by rw[<-q'];exact hocd)
theorem dY{M:Model}{E:Value->Shared->Prop}{u:Value}{Q:Unit->Shared->Prop}(I:Inv X pins σ H s)(hN:X.N.Nodup)(hi:X.N[i]? = some x)(hx:lS X.env.scope x)(r:RelV v u)
  (h:∀s',Inv X pins (σ.set i (some v)) H s'->Q () s') (hf:X.fn x=true\/X.env.scope.names.lookup x=some .local:=by first|exact .inl rfl|exact .inr rfl|assumption):wpAny M A (storeName X.env x u) Q E s:=
 fz I hN hi hx r (λs' I' _=>h s' I') hf
theorem Inv.call'(I:Inv X pins σ H s)(ho:s'.os=s.os)(u:Un (cM X.stack) ch H H' s.heap s'.heap)(hok:HOk X.prog X.w H' s'.heap)(hg:AllBare s'.gens)
  (hch:∀b∈ch,(b∈X.ex\/X.s₀.heap.objs.size<=b)/\b≠X.env.locals/\(∀x c,X.env.cells.lookup x=some c->c≠b)/\∀p∈X.pn++pins,p.1≠b):Inv X pins σ H' s':=by
 obtain⟨h',g',d',t',o'⟩:=s';have e:o'=s.os:=ho;subst e;exact I.call (g':=g') (t':=t') (d':=d') u hok hg hch
end
abbrev XK:=Value->Option Addr->Hp->Prop
abbrev St:=List (Option V)
variable{σ:St}
abbrev VK:=V->Hp->Prop
abbrev TE:=St->Hp->VK->Prop
variable{ta te:TE}
abbrev TT:=St->Hp->(Bool->Hp->Prop)->Prop
variable{tc:TT}
abbrev TA:=St->Hp->(List V->Hp->Prop)->Prop
variable{t:TA}
structure jU where
 nx:St->Hp->Prop
 rt:VK
 bk:St->Hp->Prop:=λ_ _=>False
 ct:St->Hp->Prop:=λ_ _=>False
abbrev TS:=jU->St->Hp->Prop
def EP(X:Cx)(pins:List (Addr×Obj))(σ:St)(Q:VK)(u:Value)(s':Shared):Prop:=∃v H',Inv X pins σ H' s'/\RelV v u/\Q v H'
def TP(X:Cx)(pins:List (Addr×Obj))(σ:St)(Q:Bool->Hp->Prop)(b:Bool)(s':Shared):Prop:=∃H',Inv X pins σ H' s'/\Q b H'
def AP(X:Cx)(pins:List (Addr×Obj))(σ:St)(Q:List V->Hp->Prop)(us:List Value)(s':Shared):Prop:=∃vs H',Inv X pins σ H' s'/\Vals vs us/\Q vs H'
def SP(X:Cx)(pins:List (Addr×Obj))(D:jU)(f:Flow)(s':Shared):Prop:=
 match f with
 |.next=>∃σ' H',Inv X pins σ' H' s'/\D.nx σ' H'
 |.brk=>∃σ' H',Inv X pins σ' H' s'/\D.bk σ' H'
 |.cont=>∃σ' H',Inv X pins σ' H' s'/\D.ct σ' H'
 |.ret u=>∃v σ' H',Inv X pins σ' H' s'/\RelV v u/\D.rt v H'
def PE(X:Cx)(e:Expr)(t:TE):Prop:=
 ∀(pins:List (Addr×Obj)) (s:Shared) (σ:St) (H:Hp) (Q:VK),Inv X pins σ H s->t σ H Q->wpAny (model X.prog X.w) X.A (eval e X.env) (EP X pins σ Q) X.xe s
def PT(X:Cx)(e:Expr)(t:TT):Prop:=
 ∀(pins:List (Addr×Obj)) (s:Shared) (σ:St) (H:Hp) (Q:Bool->Hp->Prop),Inv X pins σ H s->t σ H Q->wpAny (model X.prog X.w) X.A (isTrue e X.env (eval e X.env)) (TP X pins σ Q) X.xe s
def PW(X:Cx)(e:Expr)(t:TT):Prop:=
 ∀(whole:Sem Value) (pins:List (Addr×Obj)) (s:Shared) (σ:St) (H:Hp) (Q:Bool->Hp->Prop),Inv X pins σ H s->t σ H Q->wpAny (model X.prog X.w) X.A (isTrue e X.env whole) (TP X pins σ Q) X.xe s
def PW.pt{t:TT}(h:PW X e t):PT X e t:=h _
def PA(X:Cx)(es:List Expr)(t:TA):Prop:=
 ∀(pos:Pos) (pins:List (Addr×Obj)) (s:Shared) (σ:St) (H:Hp) (Q:List V->Hp->Prop),Inv X pins σ H s->t σ H Q->wpAny (model X.prog X.w) X.A (spliced (backTo pos (starEach es X.env))) (AP X pins σ Q) X.xe s
def PS(X:Cx)(st:Stmt)(t:TS):Prop:=
 ∀(pins:List (Addr×Obj)) (s:Shared) (σ:St) (H:Hp) (D:jU),Inv X pins σ H s->t D σ H->wpAny (model X.prog X.w) X.A (exec st X.env) (SP X pins D) X.xe s
def PSs(X:Cx)(st:List Stmt)(t:TS):Prop:=
 ∀(pins:List (Addr×Obj)) (s:Shared) (σ:St) (H:Hp) (D:jU),Inv X pins σ H s->t D σ H->wpAny (model X.prog X.w) X.A (execs st X.env) (SP X pins D) X.xe s
theorem bG{α:Type}{t:Sem α}{Q Q':α->Shared->Prop}{M:Model}{E:Value->Shared->Prop}(h:wpAny M A t Q E s)(hQ:∀a s,Q a s->Q' a s):wpAny M A t Q' E s:=Of h hQ λ_ _ x=>x
section
theorem N0{a b:Expr}{tb:TE}(ha:PE X a ta)(hb:PE X b tb){R:V->V->Hp->Prop}(I:Inv X pins σ H s)(h:ta σ H λx H1=>tb σ H1 λy H2=>R x y H2)
  {α:Type} {Q:α->Shared->Prop} {f:Value->Value->Sem α}
  (hf:∀v u s2 x y H2,Inv X pins σ H2 s2->RelV x v->RelV y u->R x y H2->wpAny (model X.prog X.w) X.A (f v u) Q X.xe s2) :
  wpAny (model X.prog X.w) X.A (eval a X.env) (λv s₁=>wpAny (model X.prog X.w) X.A (eval b X.env) (λu s₂=>wpAny (model X.prog X.w) X.A (f v u) Q X.xe s₂) X.xe s₁) X.xe s:=by
 refine bG (ha pins s σ H _ I h) λv s1 ⟨x,H1,I1,r1,q1⟩=>?_;refine bG (hb pins s1 σ H1 _ I1 q1) λu s2 ⟨y,H2,I2,r2,q2⟩=>?_;exact hf v u s2 x y H2 I2 r1 r2 q2
def pP(i:Nat):TE:=λσ H Q=>∃v,σ[i]? = some (some v)/\Q v H
def tC(v:V):TE:=λ_ H Q=>Q v H
theorem c6(hN:X.N[i]? = some x)(hv:kF X.env.scope x)(hd:(x==("__debug__" : Str))=false:=by decide)(hcd:(x==("__classdict__" : Str))=false:=by decide):PE X (.Name x pos) (pP i):=by
 intro pins s σ H Q I h;obtain⟨v,e,h⟩:=h;obtain⟨m,hn,hl⟩:=I.loc;obtain⟨u,r,l⟩:=hl i x v hN e hv;have fin:EP X pins σ Q u s:=⟨v,H,I,r,h⟩
 rcases l with⟨hk,hm⟩|⟨hk,c,hc,hcell⟩
 .exact wpAny_Name (wpAny_loadName_local I.ok.kind hk hn hm fin) hd
 .rcases hk with hk|hk
  .exact wpAny_Name (wpAny_loadName_cell I.ok.kind hk hc hcell fin) hd
  .exact wpAny_Name (wpAny_loadName_free I.ok.kind hk hc hcell fin hcd) hd
theorem jV{i j pos}:PE X (.Constant (.int i) j pos) (tC (.int i)):=λ_ _ _ H _ I h=>wpAny_Constant_int ⟨.int i,H,I.tok _,⟨_,rfl⟩,h⟩
theorem u3{b j pos}:PE X (.Constant (.bool b) j pos) (tC (.bl b)):=λ_ _ _ H _ I h=>Constant_bool ⟨.bl b,H,I,rfl,h⟩
theorem rW{j pos}:PE X (.Constant .none j pos) (tC .non):=λ_ _ _ H _ I h=>Constant_none ⟨.non,H,I,rfl,h⟩
theorem rX{x j pos}:PE X (.Constant (.str x) j pos) (tC (.str x)):=λ_ _ _ H _ I h=>Calls.Constant_str ⟨.str x,H,I.tok _,⟨_,rfl⟩,h⟩
def Gl(X:Cx)(x:Str):Prop:=X.env.kindOf x=some .globalImplicit
theorem eA{E:Value->Shared->Prop}{u:Value}(I:Inv X pins σ H s)(hg:Gl X x)(hm:X.mg x=some u)(h:Q u s)
  (hd:(x==("__debug__" : Str))=false:=by decide):wpAny (model X.prog X.w) X.A (eval (.Name x pos) X.env) Q E s:=
 Calls.Name_function_global I.ok.kind hg (Calls.loadGlobal_global (by rw[I.ok.glob];exact I.mod.glob.keeps I.bk) hm h) hd
theorem dZ{E:Value->Shared->Prop}{u:Value}(I:Inv X pins σ H s)(hg:Gl X x)(hm:X.mg x=none)(hv:bootBuiltins x=some u)(h:Q u s)
  (hn:x≠ "__name__" :=by decide) (hd:(x==("__debug__" : Str))=false:=by decide):wpAny (model X.prog X.w) X.A (eval (.Name x pos) X.env) Q E s:=by
 obtain⟨mb,h1,h2⟩:=I.mod.blt;exact Calls.Name_function_global I.ok.kind hg (Calls.loadGlobal_builtin (by rw[I.ok.glob];exact I.mod.glob.keeps I.bk) hm (by rw[I.ok.blt];exact h1.keeps I.bk) ((h2 x hn).trans hv) h) hd
theorem pQ{u:Value}(hg:Gl X x)(hm:X.mg x=some u)(r:RelV v u)(hd:(x==("__debug__" : Str))=false:=by decide):PE X (.Name x pos) (tC v):=
 λ_ _ _ H _ I h=>eA I hg hm ⟨v,H,I,r,h⟩ hd
theorem pR{u:Value}(hg:Gl X x)(hm:X.mg x=none)(hv:bootBuiltins x=some u)(r:RelV v u)(hn:x≠ "__name__" :=by decide)(hd:(x==("__debug__" : Str))=false:=by decide):PE X (.Name x pos) (tC v):=
 λ_ _ _ H _ I h=>dZ I hg hm hv ⟨v,H,I,r,h⟩ hn hd
variable{a b:Expr}{tb:TE}
variable{tA tB':TT}{rest:List Expr}
def AJ(t u:TT):TT:=λσ H Q=>t σ H λc H1=>if c=true then u σ H1 Q else Q false H1
def Id(t u:TT):TT:=λσ H Q=>t σ H λc H1=>if c=true then Q true H1 else u σ H1 Q
def AK(t:TT):TT:=λσ H Q=>t σ H λc H1=>Q (!c) H1
theorem pS(ha:PT X a tA):PW X (.BoolOp .And [a] pos) tA:=by
 intro wh pins s σ H Q I h;refine isTrue_and (bG (ha pins s σ H Q I h) λc s1 e=>?_);cases c with
 |true=>exact isTrue_and_nil e
 |false=>exact e
theorem rY(ha:PT X a tA):PW X (.BoolOp .Or [a] pos) tA:=by
 intro wh pins s σ H Q I h;refine isTrue_or (bG (ha pins s σ H Q I h) λc s1 e=>?_);cases c with
 |false=>exact isTrue_or_nil e
 |true=>exact e
theorem rZ(ha:PT X a tA)(hb:PW X (.BoolOp .And (b::rest) pos) tB'):PW X (.BoolOp .And (a::b::rest) pos) (AJ tA tB'):=by
 intro wh pins s σ H Q I h;refine isTrue_and (bG (ha pins s σ H _ I h) λc s1 ⟨H1,I1,q1⟩=>?_);cases c with
 |true=>exact hb wh pins s1 σ H1 Q I1 q1
 |false=>exact⟨H1,I1,q1⟩
theorem u4(ha:PT X a tA)(hb:PW X (.BoolOp .Or (b::rest) pos) tB'):PW X (.BoolOp .Or (a::b::rest) pos) (Id tA tB'):=by
 intro wh pins s σ H Q I h;refine isTrue_or (bG (ha pins s σ H _ I h) λc s1 ⟨H1,I1,q1⟩=>?_);cases c with
 |true=>exact⟨H1,I1,q1⟩
 |false=>exact hb wh pins s1 σ H1 Q I1 q1
theorem r8(ha:PT X a tA):PT X (.UnaryOp .Not a pos) (AK tA):=by
 intro pins s σ H Q I h;exact isTrue_not (ha pins s σ H (λc H1=>Q (!c) H1) I h)
def u5(ta tb:TE):TE:=λσ H Q=>ta σ H λx H1=>∃c,x=.bl c/\if c=true then tb σ H1 Q else Q (.bl false) H1
def u6(ta:TE):TE:=λσ H Q=>ta σ H λx H1=>∃c,x=.bl c/\Q (.bl (!c)) H1
theorem sd{op}{t:TE}(h:PE X a t):PE X (.BoolOp op [a] pos) t:=λpins s σ H Q I hw=>BoolOp_one (h pins s σ H Q I hw)
theorem se(ha:PE X a ta)(hb:PE X (.BoolOp .And (b::rest) pos) tb):PE X (.BoolOp .And (a::b::rest) pos) (u5 ta tb):=by
 intro pins s σ H Q I h;refine BoolOp_and (bG (ha pins s σ H _ I h) λv s1 ⟨x,H1,I1,r1,q1⟩=>?_);obtain⟨c,rfl,q1⟩:=q1;cases r1;refine On ?_;cases c with
 |true=>exact hb pins s1 σ H1 Q I1 q1
 |false=>exact⟨.bl false,H1,I1,rfl,q1⟩
theorem sf(ha:PE X a ta):PE X (.UnaryOp .Not a pos) (u6 ta):=by
 intro pins s σ H Q I h;refine UnaryOp_ (bG (ha pins s σ H _ I h) λv s1 ⟨x,H1,I1,r1,q1⟩=>?_);obtain⟨c,rfl,q1⟩:=q1;cases r1;exact not_of (On ⟨.bl (!c),H1,I1,rfl,q1⟩)
def Ie(t:TT)(ta tb:TE):TE:=λσ H Q=>t σ H λc H1=>if c=true then ta σ H1 Q else tb σ H1 Q
theorem mw(hc:PT X c tA)(ha:PE X a ta)(hb:PE X b tb):PE X (.IfExp c a b pos) (Ie tA ta tb):=by
 intro pins s σ H Q I h;refine wpAny_IfExp (bG (hc pins s σ H _ I h) λd s1 ⟨H1,I1,q1⟩=>?_);cases d with
 |true=>exact ha pins s1 σ H1 Q I1 q1
 |false=>exact hb pins s1 σ H1 Q I1 q1
end
def SqL(K:N4)(H:Hp)(a:Addr)(xs:List V):Prop:=
 Rd H a (.lst xs)\/
  ∃(o:Obj) (its:Array Value) (n:Nat),K.lookup a=some o/\o.cls=.type "list" /\o.dict=none/\o.data=.seq its n/\its.size<=sizeLine/\Vals xs its.toList
def SqT(K:N4)(H:Hp)(a:Addr)(xs:List V):Prop:=
 Rd H a (.tup xs)\/
  ∃(o:Obj) (its:Array Value) (n:Nat),K.lookup a=some o/\o.cls=.type "tuple" /\o.data=.seq its n/\its.size<=sizeLine/\Vals xs its.toList
def AL:Value->Option V
 |.none=>some .non
 |.bool b=>some (.bl b)
 |.int i _=>some (.int i)
 |.str x _=>some (.str x)
 |.bytes b _=>some (.byt b)
 |.float b _=>some (.flt b)
 |.ref a=>some (.ref a)
 |.type n=>some (.ty n)
 |_=>none
theorem RelV.abs{x:V}{u:Value}(r:RelV x u):AL u=some x:=by
 cases x with
 |non=>cases r;rfl
 |bl _=>cases r;rfl
 |int _=>obtain⟨t,rfl⟩:=r;rfl
 |str _=>obtain⟨t,rfl⟩:=r;rfl
 |byt _=>obtain⟨t,rfl⟩:=r;rfl
 |flt _=>obtain⟨t,rfl⟩:=r;rfl
 |ref _=>cases r;rfl
 |ty _=>cases r;rfl
def RelV.inj{x y:V}{u:Value}(r:RelV x u)(q:RelV y u):x=y:=N8 (r.abs.symm.trans q.abs)
theorem Vals.inj:∀{xs ys:List V} {us:List Value},Vals xs us->Vals ys us->xs=ys
 |_,_,_,.nil,.nil=>rfl
 |_,_,_,.cons r t,.cons r' t'=>by rw[r.inj r',Vals.inj t t']
section
variable{ys:List V}
def SqL.of(h:H a=some (.lst xs)):SqL K H a xs:=.inl (.inl h)
def SqT.of(h:H a=some (.tup xs)):SqT K H a xs:=.inl (.inl h)
theorem Inv.list(I:Inv X pins σ H s)(h:SqL X.K H a xs):∃its:List Value,Vals xs its/\PlainL s.heap a its.toArray/\xs.length<=sizeLine:=by
 rcases h with h|⟨o,its,n,hk,hc,hd,hs,hz,r⟩
 .obtain⟨z,its,n,r,e⟩:=h.ok I.hok
  exact⟨its,r,⟨_,n,e,rfl,rfl,rfl⟩,z⟩
 .refine⟨its.toList,r,⟨o,n,I.kIn a o hk,hc,hd,by simpa using hs⟩,?_⟩
  have e:=r.length;simp only[yo] at e;omega
theorem Inv.tuple(I:Inv X pins σ H s)(h:SqT X.K H a xs):∃its:List Value,Vals xs its/\IsTup s.heap a its.toArray/\xs.length<=sizeLine:=by
 rcases h with h|⟨o,its,n,hk,hc,hs,hz,r⟩
 .obtain⟨z,its,r,p⟩:=h.ok I.hok
  exact⟨its,r,p,z⟩
 .refine⟨its.toList,r,⟨o,I.kIn a o hk,hc,n,by simpa using hs⟩,?_⟩
  have e:=r.length;simp only[yo] at e;omega
theorem Inv.list_inj(I:Inv X pins σ H s)(h:SqL X.K H a xs)(h':SqL X.K H a ys):xs=ys:=by
 obtain⟨its,r,⟨o,n,e,_,_,d⟩,_⟩:=I.list h;obtain⟨its',r',⟨o',n',e',_,_,d'⟩,_⟩:=I.list h';rw[e] at e';cases e';rw[d] at d';injection d' with d1 _
 have:its=its':=by simpa using congrArg Array.toList d1
 subst this;exact r.inj r'
theorem Inv.tuple_inj(I:Inv X pins σ H s)(h:SqT X.K H a xs)(h':SqT X.K H a ys):xs=ys:=by
 obtain⟨its,r,⟨o,e,_,n,d⟩,_⟩:=I.tuple h;obtain⟨its',r',⟨o',e',_,n',d'⟩,_⟩:=I.tuple h';rw[e] at e';cases e';rw[d] at d';injection d' with d1 _
 have:its=its':=by simpa using congrArg Array.toList d1
 subst this;exact r.inj r'
end
abbrev Cx.wish(X:Cx)(E:Value->Shared->Prop):Cx:={ X with xe:=E }
abbrev Cx.nox(X:Cx):Cx:=X.wish λ_ _=>False
theorem Cx.Ok.wish{X:Cx}(ok:X.Ok)(E:Value->Shared->Prop):(X.wish E).Ok:=
 ⟨ok.mod,ok.kind,ok.glob,ok.blt,ok.above,ok.inj,ok.has,ok.cab,ok.hd,ok.frames,ok.stk,ok.exf,ok.bs,ok.bsz,ok.noex,ok.exfs,ok.funs,ok.frf,ok.sys0⟩
theorem Cx.Ok.unwish{E:Value->Shared->Prop}(ok:(X.wish E).Ok):X.Ok:=
 ⟨ok.mod,ok.kind,ok.glob,ok.blt,ok.above,ok.inj,ok.has,ok.cab,ok.hd,ok.frames,ok.stk,ok.exf,ok.bs,ok.bsz,ok.noex,ok.exfs,ok.funs,ok.frf,ok.sys0⟩
section
variable{E:Value->Shared->Prop}
theorem Inv.wish(I:Inv X pins σ H s)(E:Value->Shared->Prop):Inv (X.wish E) pins σ H s:=⟨I.ok.wish E,I.os,I.bare,I.base,I.loc,I.cell,I.free,I.freeC,I.pin,I.hok,I.len⟩
theorem Inv.unwish(I:Inv (X.wish E) pins σ H s):Inv X pins σ H s:=⟨I.ok.unwish,I.os,I.bare,I.base,I.loc,I.cell,I.free,I.freeC,I.pin,I.hok,I.len⟩
theorem SP.unwish{D:jU}{f:Flow}{s':Shared}(h:SP (X.wish E) pins D f s'):SP X pins D f s':=by
 cases f with
 |next=>obtain⟨σ',H',I,q⟩:=h;exact⟨σ',H',I.unwish,q⟩
 |brk=>obtain⟨σ',H',I,q⟩:=h;exact⟨σ',H',I.unwish,q⟩
 |cont=>obtain⟨σ',H',I,q⟩:=h;exact⟨σ',H',I.unwish,q⟩
 |ret u=>obtain⟨v,σ',H',I,r,q⟩:=h;exact⟨v,σ',H',I.unwish,r,q⟩
theorem PE.nox{t:TE}(h:PE X.nox e t):PE X e t:=λpins s σ H Q I hw=>
 Of (h pins s σ H Q (I.wish _) hw) (λ_ _ ⟨v,H',I',r,q⟩=>⟨v,H',I'.unwish,r,q⟩) λ_ _ z=>Oh z
theorem PT.nox{t:TT}(h:PT X.nox e t):PT X e t:=λpins s σ H Q I hw=>
 Of (h pins s σ H Q (I.wish _) hw) (λ_ _ ⟨H',I',q⟩=>⟨H',I'.unwish,q⟩) λ_ _ z=>Oh z
theorem PSs.nox{st:List Stmt}{t:TS}(h:PSs X.nox st t):PSs X st t:=λpins s σ H D I hw=>
 Of (h pins s σ H D (I.wish _) hw) (λ_ _ q=>q.unwish) λ_ _ z=>Oh z
end
section
variable{st:Stmt}{rest:List Stmt}{t u:TS}
def u7:TS:=λD σ H=>D.nx σ H
def AM(t u:TS):TS:=λD σ H=>t { D with nx:=u D } σ H
def pT:PSs X [] u7:=λ_ _ σ H _ I h=>Oz ⟨σ,H,I,h⟩
theorem jp(h1:PS X st t)(h2:PSs X rest u):PSs X (st::rest) (AM t u):=by
 intro pins s σ H D I h;refine wpAny_execs_cons (bG (h1 pins s σ H { D with nx:=u D } I h) λf s1 q=>?_);cases f with
 |next=>
  obtain⟨σ',H',I',q⟩:=q;exact h2 pins s1 σ' H' D I' q
 |ret v=>exact q
 |brk=>exact q
 |cont=>exact q
theorem iF(h1:PS X st t):PSs X [st] t:=by
 intro pins s σ H D I h;refine wpAny_execs_cons (bG (h1 pins s σ H D I h) λf s1 q=>?_);cases f with
 |next=>exact Oz q
 |ret v=>exact q
 |brk=>exact q
 |cont=>exact q
def Inv.quiet(I:Inv X pins σ H s):interactive X.env=false:=by simp[interactive,I.ok.kind]
def u8(te:TE):TS:=λD σ H=>te σ H λ_ H1=>D.nx σ H1
theorem kG(he:PE X e te)(hs:swapsWith e none pos.line X.env=pure false:=by rfl):PS X (.Expr e pos) (u8 te):=by
 intro pins s σ H D I h;exact wpAny_Expr_any (bG (he pins s σ H _ I h) λv s1 ⟨x,H1,I1,r1,q1⟩=>⟨σ,H1,I1,q1⟩) I.quiet hs
def AN(te:TE):TS:=λD σ H=>te σ H D.rt
theorem mx(he:PE X e te):PS X (.Return (some e) pos) (AN te):=by
 intro pins s σ H D I h;exact wpAny_Return_some (bG (he pins s σ H _ I h) λv s1 ⟨x,H1,I1,r1,q1⟩=>⟨x,σ,H1,I1,r1,q1⟩)
def AO(c:TT)(t u:TS):TS:=λD σ H=>c σ H λb H1=>if b=true then t D σ H1 else u D σ H1
theorem u9{a b:List Stmt}(hc:PT X c tc)(ha:PSs X a t)(hb:PSs X b u):PS X (.If c a b pos) (AO tc t u):=by
 intro pins s σ H D I h;refine wpAny_If (bG (hc pins s σ H _ I h) λd s1 ⟨H1,I1,q1⟩=>?_);cases d with
 |true=>exact ha pins s1 σ H1 D I1 q1
 |false=>exact hb pins s1 σ H1 D I1 q1
end
abbrev TG:=V->St->Hp->(St->Hp->Prop)->Prop
abbrev sh:=List V->St->Hp->(St->Hp->Prop)->Prop
def PG(X:Cx)(target:Expr)(t:TG):Prop:=
 ∀(pins:List (Addr×Obj)) (s:Shared) (σ:St) (H:Hp) (v:V) (u:Value) (Q:St->Hp->Prop),Inv X pins σ H s->RelV v u->t v σ H Q->
  wpAny (model X.prog X.w) X.A (assign target X.env u) (λ_ s'=>∃σ' H',Inv X pins σ' H' s'/\Q σ' H') X.xe s
def va(X:Cx)(ts:List Expr)(t:sh):Prop:=
 ∀(pins:List (Addr×Obj)) (s:Shared) (σ:St) (H:Hp) (vs:List V) (us:List Value) (Q:St->Hp->Prop),Inv X pins σ H s->Vals vs us->t vs σ H Q->
  wpAny (model X.prog X.w) X.A (assignInOrder ((assignEach ts X.env).map (·.2)) us) (λ_ s'=>∃σ' H',Inv X pins σ' H' s'/\Q σ' H') X.xe s
abbrev si:=V->V->V->Hp->(Hp->Prop)->Prop
def vb(X:Cx)(t:si):Prop:=
 ∀(pins:List (Addr×Obj)) (s:Shared) (σ:St) (H:Hp) (o i v:V) (ov iv u:Value) (Q:Hp->Prop),Inv X pins σ H s->RelV o ov->RelV i iv->RelV v u->t o i v H Q->
  wpAny (model X.prog X.w) X.A (setItem ov iv u) (λ_ s'=>∃H',Inv X pins σ H' s'/\Q H') X.xe s
abbrev yM:=V->V->Hp->VK->Prop
def Eb(X:Cx)(op:Operator)(t:yM):Prop:=
 ∀(pins:List (Addr×Obj)) (s:Shared) (σ:St) (H:Hp) (x y:V) (v u:Value) (Q:VK),Inv X pins σ H s->RelV x v->RelV y u->t x y H Q->
  wpAny (model X.prog X.w) X.A (inplaceOp op v u) (EP X pins σ Q) X.xe s
section
def kH(i:Nat):TG:=λv σ H Q=>Q (σ.set i (some v)) H
theorem pU(hN:X.N.Nodup)(hi:X.N[i]? = some x)(hx:lS X.env.scope x)(hf:X.fn x=true\/X.env.scope.names.lookup x=some .local:=by first|exact .inl rfl|exact .inr rfl|assumption):PG X (.Name x pos) (kH i):=by
 intro pins s σ H v u Q I r h;exact wpAny_assign_Name (dY I hN hi hx r (λs' I'=>⟨_,H,I',h⟩) hf)
def AQ:sh:=λvs σ H Q=>vs=[]/\Q σ H
def vc(t:TG)(u:sh):sh:=λvs σ H Q=>∃v r,vs=v::r/\t v σ H λσ' H'=>u r σ' H' Q
theorem kI:va X [] AQ:=by
 intro pins s σ H vs us Q I r h;obtain⟨e,h⟩:=h;subst e;cases r;exact assignInOrder_nil ⟨σ,H,I,h⟩
theorem gv{t:TG}{u:sh}(h1:PG X e t)(h2:va X es u)
  (hs:(assignEach (e::es) X.env).map (·.2)=assign e X.env::(assignEach es X.env).map (·.2):=by rfl):va X (e::es) (vc t u):=by
 intro pins s σ H vs us Q I r h;obtain⟨v,vr,e1,h⟩:=h;subst e1;cases r with
 |cons r rr=>
  rw[hs];refine assignInOrder_cons (bG (h1 pins s σ H _ _ _ I r h) λ_ s1 ⟨σ1,H1,I1,q1⟩=>?_);exact h2 pins s1 σ1 H1 _ _ Q I1 rr q1
def AR(K:N4)(n:Nat)(t:sh):TG:=λv σ H Q=>∃a xs,v=.ref a/\SqT K H a xs/\xs.length=n/\t xs σ H Q
theorem my{t:sh}(hc:X.calm=true)(h:va X es t)
  (hn:(assignEach es X.env).length=n:=by rfl) (hst:(assignEach es X.env).findIdx? (·.1)=none:=by rfl):PG X (.Tuple es k pos) (AR X.K n t):=by
 intro pins s σ H v u Q I r hw;obtain⟨a,xs,e1,hq,hl,hw⟩:=hw;subst e1;cases r;obtain⟨its,rv,ht,hz⟩:=I.tuple hq;refine assign_Tuple_tuple (I.ok.hd hc) ht (by simp[hn,<-hl,rv.length]) hst λh' hx=>?_;have I1:Inv X pins σ H { s with heap:=h' }:=I.kept (t':=s.toks) λb o e=>hx b o (fR (cV e)) e;exact h pins _ σ H xs _ Q I1 (by simpa using rv) hw
def AS(to ti:TE)(t:si):TG:=λv σ H Q=>to σ H λo H1=>ti σ H1 λi H2=>t o i v H2 λH3=>Q σ H3
theorem iG{o i:Expr}{to ti:TE}{t:si}(ho:PE X o to)(hi:PE X i ti)(hs:vb X t)
  (ha:∀ v,assign (.Subscript o i pos) X.env v=(do
   let ov <-holding [v] (eval o X.env)
   let iv <-holding [v,ov] (eval i X.env)
   standAt pos
   holding [v,ov,iv] (setItem ov iv v)
   release [v,ov,iv] []):=by intro _;rfl):PG X (.Subscript o i pos) (AS to ti t):=by
 intro pins s σ H v u Q I r h;rw[ha];refine N3 (Om (bG (ho pins s σ H _ I h) λov s1 ⟨x,H1,I1,r1,q1⟩=>?_));refine N3 (Om (bG (hi pins s1 σ H1 _ I1 q1) λiv s2 ⟨y,H2,I2,r2,q2⟩=>?_));refine N3 (Oq (N3 (Om (bG (hs pins s2 σ H2 x y v ov iv u _ I2 r1 r2 r q2) λ_ s3 ⟨H3,I3,q3⟩=>?_))));exact wpAny_release ⟨σ,H3,I3,q3⟩
def sj(te:TE)(g:TG):TS:=λD σ H=>te σ H λx H1=>g x σ H1 D.nx
theorem iH{g:TG}(he:PE X e te)(hg:PG X tg g)(hs:swapsWithSole [tg] e pos.line X.env=pure false:=by rfl)(hw:swappedStores [tg] e X.env=pure none:=by rfl)
  (h1:(assignEach [tg] X.env).map (·.2)=[assign tg X.env]:=by rfl):PS X (.Assign [tg] e pos) (sj te g):=by
 intro pins s σ H D I h;refine wpAny_Assign_stores (bG (he pins s σ H _ I h) λv s1 ⟨x,H1,I1,r1,q1⟩=>?_) hs hw;rw[h1];exact bG (hg pins s1 σ H1 x v _ I1 r1 q1) λ_ s2 q=>q
theorem iI(hN:X.N.Nodup)(hi:X.N[i]? = some x)(hx:lS X.env.scope x)(he:PE X e te)(hs:swapsWith e (some (.Name x pos')) pos.line X.env=pure false:=by rfl)(hf:X.fn x=true\/X.env.scope.names.lookup x=some .local:=by first|exact .inl rfl|exact .inr rfl|assumption) :
  PS X (.Assign [.Name x pos'] e pos) (sj te (kH i)):=by
 intro pins s σ H D I h;refine wpAny_Assign_Name (bG (he pins s σ H _ I h) λv s1 ⟨y,H1,I1,r1,q1⟩=>?_) hs;exact dY I1 hN hi hx r1 (λs2 I2=>⟨_,H1,I2,q1⟩) hf
def AT(i j:Nat)(ta:TA):TS:=λD σ H=>ta σ H λvs H1=>∃v w,vs=[v,w]/\D.nx ((σ.set i (some v)).set j (some w)) H1
theorem sr{y:Str}{a b:Expr}{ta:TA}{px py pt:Pos}{kt k2 pt2}(hc:X.calm=true)(hN:X.N.Nodup)(hi:X.N[i]? = some x)(hj:X.N[j]? = some y)(hij:i≠j)
  (hx:X.env.scope.names.lookup x=some .local) (hy:X.env.scope.names.lookup y=some .local) (ha:PA X [a,b] ta)
  (hw:swappedStores [.Tuple [.Name x px,.Name y py] kt pt] (.Tuple [a,b] k2 pt2) X.env=pure (some [x,y]))
  (hs:swapsWithSole [.Tuple [.Name x px,.Name y py] kt pt] (.Tuple [a,b] k2 pt2) pos.line X.env=pure false:=by rfl) :
  PS X (.Assign [.Tuple [.Name x px,.Name y py] kt pt] (.Tuple [a,b] k2 pt2) pos) (AT i j ta):=by
 intro pins s σ H D I h;rw[exec_Assign_arm];refine N3 (Oq ?_);rw[hs];refine N3 (N5 ?_);rw[if_neg (by decide)];refine N3 (Tuple_ (bG (ha _ pins s σ H _ I h) λus s1 ⟨vs,H1,I1,r1,q1⟩=>?_));obtain⟨v,w,e1,q1⟩:=q1;subst e1;obtain⟨u1,u2,rfl,rv,rw'⟩:∃u1 u2,us=[u1,u2]/\RelV v u1/\RelV w u2:=by
  cases r1 with
  |cons p q=>
   cases q with
   |cons p' q'=>
    cases q';exact⟨_,_,rfl,p,p'⟩
 refine Og ?_ (by show 2<=sizeLine;decide);have I2:Inv X pins σ H1 { s1 with heap:=s1.heap.push { cls:=.type "tuple",data:=.seq [u1,u2].toArray } }:=I1.kept (t':=s1.toks) λb o e=>cX _ e;rw[hw];refine N3 (N5 ?_);show wpAny (model X.prog X.w) X.A (do rule "assign.swapped-stores";let items <-unpackItems (.ref s1.heap.objs.size) 2 none;assignInOrder [λv=>bindName X.env y v,λv=>bindName X.env x v] items.reverse;pure Flow.next) _ _ _;refine N3 (OA (N3 (unpackItems_tuple (items:=#[u1,u2]) (I.ok.hd hc) (IsTup.new s1.heap _) λh' hx'=>?_)));have I3:=I2.kept (h':=h') (t':=s1.toks) λb o e=>hx' b o (fR (cV e)) e;show wpAny _ _ (assignInOrder [λv=>bindName X.env y v,λv=>bindName X.env x v] [u2,u1] >>= λ_=>pure Flow.next) _ _ _;refine N3 (assignInOrder_cons (wpAny_bindName (dY I3 hN hj (.inl hy) rw' (λs2 I4=>?_) (.inr hy))));refine assignInOrder_cons (wpAny_bindName (dY I4 hN hi (.inl hx) rv (λs3 I5=>assignInOrder_nil (N5 ?_)) (.inr hx)));rw[List.set_comm _ _ (Ob hij)] at I5;exact⟨_,H1,I5,q1⟩
def AU(i:Nat)(te:TE)(ti:yM):TS:=λD σ H=>∃x,σ[i]? = some (some x)/\te σ H λy H1=>ti x y H1 λz H2=>D.nx (σ.set i (some z)) H2
theorem ss{op:Operator}{ti:yM}(hN:X.N.Nodup)(hi:X.N[i]? = some x)(hx:lS X.env.scope x)(he:PE X e te)(ho:Eb X op ti)(hf:X.fn x=true\/X.env.scope.names.lookup x=some .local:=by first|exact .inl rfl|exact .inr rfl|assumption) :
  PS X (.AugAssign (.Name x pos') op e pos) (AU i te ti):=by
 intro pins s σ H D I h;obtain⟨v,e1,h⟩:=h;obtain⟨m,hn,hl⟩:=I.loc;have vis:kF X.env.scope x:=by rcases hx with k|k;exact .inl k;exact .inr (.inl k)
 obtain⟨u,r,l⟩:=hl i x v hi e1 vis;refine wpAny_AugAssign_Name ?_;have go:wpAny (model X.prog X.w) X.A (eval e X.env) (λw s₂=>wpAny (model X.prog X.w) X.A (inplaceOp op u w) (λr s₃=>wpAny (model X.prog X.w) X.A (storeName X.env x r) (λ_=>SP X pins D .next) X.xe s₃) X.xe s₂) X.xe s:=by
  refine bG (he pins s σ H _ I h) λw s1 ⟨y,H1,I1,r1,q1⟩=>?_;refine bG (ho pins s1 σ H1 v y u w _ I1 r r1 q1) λz s2 ⟨zv,H2,I2,r2,q2⟩=>?_;exact dY I2 hN hi hx r2 (λs3 I3=>⟨_,H2,I3,q2⟩) hf
 rcases l with⟨hk,hm⟩|⟨hk,c,hc,hcell⟩
 .exact wpAny_loadName_local I.ok.kind hk hn hm go
 .rcases hk with hk|hk
  .exact wpAny_loadName_cell I.ok.kind hk hc hcell go
  .rcases hx with k|k
   .have:X.env.scope.names.lookup x=some .free:=hk
    rw[k] at this;cases this
   .have:X.env.scope.names.lookup x=some .free:=hk
    rw[k] at this;cases this
def Ig(f:Int->Int->Int):yM:=λx y H Q=>∃i j,x=.int i/\y=.int j/\Q (.int (f i j)) H
theorem su:Eb X .Add (Ig λi j=>i+j):=by
 intro pins s σ H x y v u Q I r1 r2 h;obtain⟨i,j,e1,e2,q⟩:=h;subst e1;subst e2;obtain⟨t,rfl⟩:=r1;obtain⟨t',rfl⟩:=r2;exact iadd_int ⟨.int _,H,I.tok _,⟨_,rfl⟩,q⟩
end
section
def sx(c:TT)(tb:TS):TS:=λD σ H=>∃W:Nat->St->Hp->Prop,(∃m,W m σ H)/\∀m σ H,W m σ H->
 c σ H λb H1=>if b=true then∃N:St->Hp->Prop,(∀σ' H',N σ' H'->∃m',m'<m/\W m' σ' H')/\tb { D with nx:=N,ct:=N,bk:=D.nx } σ H1 else D.nx σ H1
theorem mz{tb:TS}(hp:PassesOwn (model X.prog X.w) X.A X.env X.xe)(hc:PT X c tc)(hb:PSs X body tb):PS X (.While c body [] pos) (sx tc tb):=by
 intro pins s σ H D I h;obtain⟨W,⟨m0,w0⟩,turn⟩:=h;refine wpAny_While (codeAny_whileLoop (λn s'=>∃σ' H',Inv X pins σ' H' s'/\W n σ' H') ?_ m0 ⟨σ,H,I,w0⟩);rintro n s1 ⟨σ1,H1,I1,w1⟩;refine Ov hp (bG (hc pins s1 σ1 H1 _ I1 (turn n σ1 H1 w1)) λb s2 ⟨H2,I2,q2⟩=>?_);cases b with
 |true=>
  obtain⟨N,hN,q2⟩:=q2;rw[if_pos rfl];refine Ov hp (bG (hb pins s2 σ1 H2 _ I2 q2) λf s3 q3=>?_);cases f with
  |next=>
   obtain⟨σ3,H3,I3,n3⟩:=q3;obtain⟨m',hm,w3⟩:=hN σ3 H3 n3;exact⟨m',hm,σ3,H3,I3,w3⟩
  |cont=>
   obtain⟨σ3,H3,I3,n3⟩:=q3;obtain⟨m',hm,w3⟩:=hN σ3 H3 n3;exact⟨m',hm,σ3,H3,I3,w3⟩
  |brk=>exact q3
  |ret v=>exact q3
 |false=>
  rw[if_neg i9];exact Oz ⟨σ1,H2,I2,q2⟩
end
structure It where
 go:Nat->Hp->Prop
 yld:Nat->Hp->V->Hp->Prop
 stop:Nat->Hp->Prop
def eV(X:Cx)(pins:List (Addr×Obj))(H:Hp)(b:Addr):Prop:=
 H b=none/\b≠X.env.locals/\b∉X.fs/\(b∈X.ex\/X.s₀.heap.objs.size<=b)/\(∀x c,X.env.cells.lookup x=some c->c≠b)/\∀p∈X.pn++pins,p.1≠b
theorem Inv.fpOk(I:Inv X pins σ H s)(hb:s.heap.objs.size<=b)(hn:H' b=none):eV X pins H' b:=by
 refine⟨hn,yq (cW I.lt hb),I.nofs hb,.inr (f8 I.sz hb),λx c e z=>?_,λp hp z=>?_⟩
 .obtain⟨v,q⟩:=I.cell x c e
  exact N6 (cW q.lt (by rw[z];exact hb)) (iy _)
 .exact N6 (cW (cV (I.pin p hp).1) (by rw[z];exact hb)) (iy _)
structure jq(P:Program)(w:World)(K:N4)(tg:Expr)(J:It)(fp:List Addr)(it:Addr)(tn:Nat->Heap->Prop):Prop where
 mem:it∈fp
 obj:∀i h,tn i h->∀b∈fp,∃o,h.get? b=some o/\∀v,o.data≠.cell v
 keep:∀i h h',tn i h->(∀b∈fp,∀o,h.get? b=some o->h'.get? b=some o)->tn i h'
 item:∀(X:Cx),X.prog=P->X.w=w->X.K=K->X.calm=true->∀(i:Nat) (pins:List (Addr×Obj)) (s:Shared) (σ:St) (H:Hp) (E:Value->Shared->Prop),Inv X pins σ H s->(∀b∈fp,eV X pins H b)->tn i s.heap->J.go i H->
  wpAny (model P w) X.A (pyNext (.ref it)) (λr s1=>∃ u,r=some u/\
   wpAny (model P w) X.A (letOwnedTupleGo tg (.ref it) u) (λ_ s2=>∃x H',Inv X pins σ H' s2/\RelV x u/\J.yld i H x H'/\tn (i+1) s2.heap/\∀b∈fp,H' b=none) E s1) E s
 done:∀(X:Cx),X.prog=P->X.w=w->X.K=K->X.calm=true->∀(i:Nat) (pins:List (Addr×Obj)) (s:Shared) (σ:St) (H:Hp) (E:Value->Shared->Prop),Inv X pins σ H s->(∀b∈fp,eV X pins H b)->tn i s.heap->J.stop i H->
  wpAny (model P w) X.A (pyNext (.ref it)) (λr s1=>r=none/\Inv X pins σ H s1) E s
 self:∀(A:Around) (i:Nat) (s:Shared) (Q:Value->Shared->Prop) (E:Value->Shared->Prop),tn i s.heap->Q (.ref it) s->wpAny (model P w) A (pyIter (.ref it)) Q E s
abbrev TI:=St->Hp->(It->Hp->Prop)->Prop
def Ed(X:Cx)(pins:List (Addr×Obj))(σ:St)(tg:Expr)(R:It->Hp->Prop)(itv:Value)(s2:Shared):Prop:=
 ∃(it:Addr) (fp:List Addr) (tn:Nat->Heap->Prop) (J:It) (H':Hp),itv=.ref it/\Inv X pins σ H' s2/\jq X.prog X.w X.K tg J fp it tn/\tn 0 s2.heap/\(∀b∈fp,eV X pins H' b)/\R J H'
def PI(X:Cx)(tg iter:Expr)(wi:TI):Prop:=
 ∀(pins:List (Addr×Obj)) (s:Shared) (σ:St) (H:Hp) (R:It->Hp->Prop),Inv X pins σ H s->wi σ H R->
  wpAny (model X.prog X.w) X.A (eval iter X.env) (λv s1=>wpAny (model X.prog X.w) X.A (pyIter v) (Ed X pins σ tg R) X.xe s1) X.xe s
theorem mB{M:Model}{E:Value->Shared->Prop}{u:Value}{o:Obj}{n:String}{vs:Array Value}{Q:Unit->Shared->Prop}(ho:s.heap.get? it=some o)(hc:o.cls = .type n)(hd:o.data = .fields vs)
    (hn:["enumerate", "zip", "dict_itemiterator", "dict_reverseitemiterator", "odict_iterator", "itertools.zip_longest", "itertools.pairwise"].contains n=false) (hQ:Q () s):wpAny M A (letOwnedTupleGo tg (.ref it) u) Q E s:=by
  unfold letOwnedTupleGo;cases tg<;>first
    |exact N5 hQ
    | (cases u<;>first
        |exact N5 hQ
        | (refine N3 (wpAny_load ho ?_)
           rw[hc,hd];show wpAny M A (if(["enumerate", "zip", "dict_itemiterator", "dict_reverseitemiterator", "odict_iterator", "itertools.zip_longest", "itertools.pairwise"].contains n&&vs[0]? == some (rawInt _))=true then _ else _) Q E s;rw[if_neg (by intro h;rw[hn,Bool.false_and] at h;cases h)];exact N5 hQ))
def Ee(K:N4)(a:Addr):It:=
 ⟨λi H=>∃xs x,SqL K H a xs/\xs[i]? = some x,λi H x H'=>H'=H/\∀xs,SqL K H a xs->xs[i]? = some x,λi H=>∃xs,SqL K H a xs/\xs.length<=i⟩
def AV(K:N4)(a:Addr):It:=
 ⟨λi H=>∃xs x,SqT K H a xs/\xs[i]? = some x,λi H x H'=>H'=H/\∀xs,SqT K H a xs->xs[i]? = some x,λi H=>∃xs,SqT K H a xs/\xs.length<=i⟩
def vd(lo:Int)(n:Nat):It:=⟨λi _=>i<n,λi H x H'=>H'=H/\x=.int (lo+i),λi _=>n<=i⟩
theorem la(a it:Addr):jq P w K tg (Ee K a) [it] it (λi h=>h.IsListIter it a i) where
 mem:=by simp
 obj:=λi h st b hb=>by
  have e:b=it:=by simpa using hb
  subst e;obtain⟨o,e,c,d⟩:=st;exact⟨o,e,λv z=>by rw[d] at z;cases z⟩
 keep:=λi h h' st k=>st.at λo e=>k it (by simp) o e
 item:=by
  intro X hP hw hK hc i pins s σ H E I hf st hg;subst hP hw hK;obtain⟨xs,x,hq,hx⟩:=hg;obtain⟨its,rv,p,hz⟩:=I.list hq;obtain⟨u,hu,ru⟩:=rv.get hx;obtain⟨f0,f1,f2,f3,f4,f5⟩:=hf it (by simp);refine wpAny_pyNext_list_item st p.isList (x:=u) (by simpa using hu) λh' st' sb=>?_;have I1:Inv X pins σ H { s with heap:=h' }:=I.turned (t':=s.toks) (λb o hb e=>(sb.2 b hb).trans e) f0 f1 f3 f4 f5;obtain⟨o,e,c,d⟩:=id st';exact⟨u,rfl,mB (s:={ s with heap:=h' }) e c d (by decide) ⟨x,H,I1,ru,⟨rfl,λys hy=>by rw[I.list_inj hy hq];exact hx⟩,st',λb hb=>(hf b hb).1⟩⟩
 done:=by
  intro X hP hw hK hc i pins s σ H E I hf st hg;subst hP hw hK;obtain⟨xs,hq,hx⟩:=hg;obtain⟨its,rv,p,hz⟩:=I.list hq;obtain⟨f0,f1,f2,f3,f4,f5⟩:=hf it (by simp);have hl:=rv.length;exact wpAny_pyNext_list_end (I.ok.hd hc) st p.isList (by simp;omega) λh' eb=>⟨rfl,I.turned (t':=s.toks) (λb o hb e=>eb b o hb e) f0 f1 f3 f4 f5⟩
 self:=λ_ _ _ _ _ st h=>wpAny_pyIter_listiter st h
theorem jW(a it:Addr):jq P w K tg (AV K a) [it] it (λi h=>h.IsTupleIter it a i) where
 mem:=by simp
 obj:=λi h st b hb=>by
  have e:b=it:=by simpa using hb
  subst e;obtain⟨o,e,c,d⟩:=st;exact⟨o,e,λv z=>by rw[d] at z;cases z⟩
 keep:=λi h h' st k=>st.at λo e=>k it (by simp) o e
 item:=by
  intro X hP hw hK hc i pins s σ H E I hf st hg;subst hP hw hK;obtain⟨xs,x,hq,hx⟩:=hg;obtain⟨its,rv,p,hz⟩:=I.tuple hq;obtain⟨u,hu,ru⟩:=rv.get hx;obtain⟨f0,f1,f2,f3,f4,f5⟩:=hf it (by simp);refine wpAny_pyNext_tuple_item st (show s.heap.IsTuple a its.toArray from p) (x:=u) (by simpa using hu) λh' st' sb=>?_;have I1:Inv X pins σ H { s with heap:=h' }:=I.turned (t':=s.toks) (λb o hb e=>(sb.2 b hb).trans e) f0 f1 f3 f4 f5;obtain⟨o,e,c,d⟩:=id st';exact⟨u,rfl,mB (s:={ s with heap:=h' }) e c d (by decide) ⟨x,H,I1,ru,⟨rfl,λys hy=>by rw[I.tuple_inj hy hq];exact hx⟩,st',λb hb=>(hf b hb).1⟩⟩
 done:=by
  intro X hP hw hK hc i pins s σ H E I hf st hg;subst hP hw hK;obtain⟨xs,hq,hx⟩:=hg;obtain⟨its,rv,p,hz⟩:=I.tuple hq;obtain⟨f0,f1,f2,f3,f4,f5⟩:=hf it (by simp);have hl:=rv.length;exact wpAny_pyNext_tuple_end (I.ok.hd hc) st (show s.heap.IsTuple a its.toArray from p) (by simp;omega) λh' eb=>⟨rfl,I.turned (t':=s.toks) (λb o hb e=>eb b o hb e) f0 f1 f3 f4 f5⟩
 self:=λ_ _ _ _ _ st h=>wpAny_pyIter_tupleiter st h
theorem jX(it:Addr)(lo:Int)(n:Nat):jq P w K tg (vd lo n) [it] it (λi h=>IsRangeIter h it (lo+(i:Nat)*1) ((n:Int)-(i:Nat)) 1) where
 mem:=by simp
 obj:=λi h st b hb=>by
  have e:b=it:=by simpa using hb
  subst e;exact ⟨_,st,λv z=>by
   have z':Data.fields _=Data.cell v:=z;cases z'⟩
 keep:=λi h h' st k=>k it (by simp) _ st
 item:=by
  intro X hP hw hK hc i pins s σ H E I hf st hg;subst hP hw hK;obtain⟨f0,f1,f2,f3,f4,f5⟩:=hf it (by simp);have W:=Walks.range (prog:=X.prog) (w:=X.w) (I.ok.hd hc) it lo 1 n;refine W.item i s _ _ hg st λv h' tk hv st' kk=>?_;obtain⟨t,rfl⟩:=hv;have I1:Inv X pins σ H { s with heap:=h',toks:=tk }:=I.turned (λb o hb e=>kk b o (by simpa using hb) e) f0 f1 f3 f4 f5;refine⟨_,rfl,mB (s:={ s with heap:=h',toks:=tk }) (n:= "range_iterator") st' rfl rfl (by decide) ⟨.int (lo+i),H,I1,⟨t,?_⟩,⟨rfl,rfl⟩,st',λb hb=>(hf b hb).1⟩⟩;rw[Int.mul_one]
 done:=by
  intro X hP hw hK hc i pins s σ H E I hf st hg;subst hP hw hK;obtain⟨f0,f1,f2,f3,f4,f5⟩:=hf it (by simp);exact wpAny_pyNext_range_end (I.ok.hd hc) st (by have:n<=i:=hg;omega) λh' eb=>⟨rfl,I.turned (t':=s.toks) (λb o hb e=>eb b o hb e) f0 f1 f3 f4 f5⟩
 self:=λ_ _ _ _ _ st h=>wpAny_pyIter_rangeiter st h
section
theorem jr{R:It->Hp->Prop}{E:Value->Shared->Prop}{lo hi:Int}{t u v:Tok}{tk:Nat}(I:Inv X pins σ H s)(h1:-(2^62)<=lo)(h2:lo<2^62)(h3:-(2^62)<=hi)(h4:hi<2^62)
  (q:R (vd lo (hi-lo).toNat) H):wpAny (model X.prog X.w) X.A (pyIter (.ref s.heap.objs.size)) (Ed X pins σ tg R) E { s with heap:=s.heap.push { cls:=.type "range",data:=.fields #[.int lo t,.int hi u,.int 1 v] },toks:=tk }:=by
 refine wpAny_pyIter_range (IsRange.new ..) (small_one h1 h2 h3 h4) ?_;have I1:Inv X pins σ H { s with heap:=s.heap.push { cls:=.type "range",data:=.fields #[.int lo t,.int hi u,.int 1 v] },toks:=tk }:=I.kept λb o e=>cX _ e;refine ⟨(s.heap.push { cls:=.type "range",data:=.fields #[.int lo t,.int hi u,.int 1 v] }).objs.size,[(s.heap.push { cls:=.type "range",data:=.fields #[.int lo t,.int hi u,.int 1 v] }).objs.size],_,_,H,rfl,
  I1.kept (t':=tk) λb o e=>cX _ e,jX _ lo (hi-lo).toNat,?_,λb hb=>?_,q⟩
 .have e1:lo+((0:Nat):Int)*1=lo:=by simp
  have e2:(((hi-lo).toNat:Nat):Int)-((0:Nat):Int)=Builtin.Range.rangeSize lo hi 1:=by rw[rangeSize_one];split<;>omega
  show IsRangeIter _ _ (lo+((0:Nat):Int)*1) ((((hi-lo).toNat:Nat):Int)-((0:Nat):Int)) 1;rw[e1,e2];exact f9 _ rfl
 .have e:b=(s.heap.push { cls:=.type "range",data:=.fields #[.int lo t,.int hi u,.int 1 v] }).objs.size:=by simpa using hb
  subst e;exact I1.fpOk (bM _) (I1.hok.fresh (bM _))
def ve(ta:TA):TI:=λσ H R=>ta σ H λvs H1=>∃j:Int,vs=[.int j]/\-(2^62)<=j/\j<2^62/\R (vd 0 j.toNat) H1
def vf(ta:TA):TI:=λσ H R=>ta σ H λvs H1=>∃i j:Int,vs=[.int i,.int j]/\(-(2^62)<=i/\i<2^62/\-(2^62)<=j/\j<2^62)/\R (vd i (j-i).toNat) H1
theorem lb{a:Expr}{ta:TA}(hg:Gl X "range")(hm:X.mg "range" = none)(ha:PA X [a] ta)(hs:starEach [a] X.env=[(false,eval a X.env)]:=by rfl):PI X tg (.Call (.Name "range" p) [a] [] pos) (ve ta):=by
 intro pins s σ H R I h;refine Call_ (dZ I hg hm boot_range (PyProof.Rows.callWith_type1 (bG (ha pos pins s σ H _ I h) λus s1 ⟨vs,H1,I1,r1,q1⟩=>?_) hs rfl));obtain⟨j,e,q1,q2,q⟩:=q1;subst e;cases r1 with
 |cons r rr=>
  cases rr;obtain⟨t,rfl⟩:=r;exact call_range_1 (jr I1 (by omega) (by omega) q1 q2 (by simpa using q))
theorem lg{a b:Expr}{ta:TA}(hg:Gl X "range")(hm:X.mg "range" = none)(ha:PA X [a,b] ta)(hs:starEach [a,b] X.env=[(false,eval a X.env),(false,eval b X.env)]:=by rfl)(hs2:starEach [b] X.env=[(false,eval b X.env)]:=by rfl) :
  PI X tg (.Call (.Name "range" p) [a,b] [] pos) (vf ta):=by
 intro pins s σ H R I h;refine Call_ (dZ I hg hm boot_range (PyProof.Rows.callWith_type1 (bG (ha pos pins s σ H _ I h) λus s1 ⟨vs,H1,I1,r1,q1⟩=>?_) (by rw[hs,hs2]) (by rw[hs2];rfl)));obtain⟨i,j,e,⟨q1,q2,q3,q4⟩,q⟩:=q1;subst e;cases r1 with
 |cons r rr=>
  cases rr with
  |cons r' rr=>
   cases rr;obtain⟨t,rfl⟩:=r;obtain⟨t',rfl⟩:=r';exact call_range_2 (jr I1 q1 q2 q3 q4 q)
def AW(wi:TI)(g:TG)(tb:TS):TS:=λD σ H=>wi σ H λJ H1=>∃W:Nat->Nat->St->Hp->Prop,(∃m,W 0 m σ H1)/\∀i m σ H,W i m σ H->
 (J.stop i H/\D.nx σ H)\/(J.go i H/\∃N:St->Hp->Prop,(∀σ' H',N σ' H'->∃m',m'<m/\W (i+1) m' σ' H')/\∀x H',J.yld i H x H'->g x σ H' λσ2 H2=>tb { D with nx:=N,ct:=N,bk:=D.nx } σ2 H2)
def gw(fp:List Addr)(h:Heap):List (Addr×Obj):=fp.filterMap λb=>(h.get? b).map λo=>(b,o)
def dH{o:Obj}(hb:b∈fp)(e:h.get? b=some o):(b,o)∈gw fp h:=YaA.mpr ⟨b,hb,by rw[e];rfl⟩
theorem lh{p:Addr×Obj}(hp:p∈gw fp h):p.1∈fp/\h.get? p.1=some p.2:=by
 obtain⟨b,hb,e⟩:=YaA.mp hp;cases q:h.get? b with
 |none=>rw[q] at e;cases e
 |some o=>
  rw[q] at e;have e':(b,o)=p:=N8 e;subst e';exact⟨hb,q⟩
theorem Inv.pinned(I:Inv X pins σ H s)(hf:∀b∈fp,eV X pins H b)(ho:∀b∈fp,∃o,s.heap.get? b=some o/\∀v,o.data≠.cell v):Inv X (pins++gw fp s.heap) σ H s:=
 I.pins_of λp hp=>(Yap.mp hp).elim (λz=>I.pin p (nA _ z)) λz=>by
  obtain⟨hb,e⟩:=lh z;obtain⟨f0,f1,f2,_⟩:=hf p.1 hb;obtain⟨o,e',d⟩:=ho p.1 hb;rw[e] at e';cases e';exact⟨e,f0,f1,f2,d⟩
theorem Inv.unpinned{pl:List (Addr×Obj)}(I:Inv X (pins++pl) σ H s):Inv X pins σ H s:=I.pins_of λp hp=>I.pin p (nA _ (An _ hp))
theorem sB{iter:Expr}{wi:TI}{g:TG}{tb:TS}(hp:PassesOwn (model X.prog X.w) X.A X.env X.xe)(hc:X.calm=true)(hi:PI X tg iter wi)(hg:PG X tg g)(hb:PSs X body tb)
  (hs:∀x,foldedSetIterable iter X.env x=pure x:=by intro _;rfl):PS X (.For tg iter body [] pos) (AW wi g tb):=by
 intro pins s σ H D I h;refine wpAny_For (bG (hi pins s σ H _ I h) λv s1 h1=>bG h1 λitv s2 h2=>?_) hs;obtain⟨it,fp,tn,J,H2,e,I2,T,st2,f2,W,⟨m0,w0⟩,turn⟩:=h2;subst e
 -- what stays true of the iterator's objects through the loop
 have stat:∀{H':Hp},(∀b∈fp,H' b=none)->∀b∈fp,eV X pins H' b:=λhn b hb=>⟨hn b hb,(f2 b hb).2⟩;refine codeAny_forLoop_any (λn s'=>∃i σ' H',Inv X pins σ' H' s'/\tn i s'.heap/\(∀b∈fp,H' b=none)/\W i n σ' H') ?_ m0 ⟨0,σ,H2,I2,st2,λb hb=>(f2 b hb).1,w0⟩;rintro n s3 ⟨i,σ3,H3,I3,st3,fr3,w3⟩;rcases turn i n σ3 H3 w3 with⟨stop,qn⟩|⟨go,N,hN,step⟩
 .refine Ov hp (bG (T.done X rfl rfl rfl hc i pins s3 σ3 H3 X.xe I3 (stat fr3) st3 stop) λr s4 ⟨hr,I4⟩=>?_)
  subst hr;exact Oz ⟨σ3,H3,I4,qn⟩
 .refine Ov hp (bG (T.item X rfl rfl rfl hc i pins s3 σ3 H3 X.xe I3 (stat fr3) st3 go) λr s4 ⟨u,hr,h4⟩=>?_)
  subst hr;refine Ov hp (bG h4 λ_ s5 ⟨x,H5,I5,r5,y5,st5,fr5⟩=>?_);have I5':=I5.pinned (stat fr5) (T.obj _ _ st5);refine Ov hp (bG (hg _ s5 σ3 H5 x u _ I5' r5 (step x H5 y5)) λ_ s6 ⟨σ6,H6,I6,q6⟩=>?_);refine Ov hp (bG (hb _ s6 σ6 H6 _ I6 q6) λf s7 q7=>?_);have again:∀{σ7:St} {H7:Hp},Inv X (pins++gw fp s5.heap) σ7 H7 s7->N σ7 H7->∃m,m<n/\∃i σ' H',Inv X pins σ' H' s7/\tn i s7.heap/\(∀b∈fp,H' b=none)/\W i m σ' H':=λ{σ7 H7} I7 n7=>by
   obtain⟨m',hm,w7⟩:=hN σ7 H7 n7;refine⟨m',hm,i+1,σ7,H7,I7.unpinned,T.keep _ _ _ st5 λb hb o e=>(I7.pin (b,o) (nA _ (nA _ (dH hb e)))).1,λb hb=>?_,w7⟩;obtain⟨o,e,d⟩:=T.obj _ _ st5 b hb;exact(I7.pin (b,o) (nA _ (nA _ (dH hb e)))).2.1
  cases f with
  |next=>obtain⟨σ7,H7,I7,n7⟩:=q7;exact again I7 n7
  |cont=>obtain⟨σ7,H7,I7,n7⟩:=q7;exact again I7 n7
  |brk=>obtain⟨σ7,H7,I7,q7⟩:=q7;exact⟨σ7,H7,I7.unpinned,q7⟩
  |ret v=>obtain⟨x7,σ7,H7,I7,r7,q7⟩:=q7;exact⟨x7,σ7,H7,I7.unpinned,r7,q7⟩
end
abbrev R2:=V->V->Hp->VK->Prop
variable{r r':R2}
def OpR(X:Cx)(f:Value->Value->Sem Value)(r:R2):Prop:=
 ∀(pins:List (Addr×Obj)) (s:Shared) (σ:St) (H:Hp) (x y:V) (v u:Value) (Q:VK),Inv X pins σ H s->RelV x v->RelV y u->r x y H Q->
  wpAny (model X.prog X.w) X.A (f v u) (EP X pins σ Q) X.xe s
def yN(X:Cx)(f:Value->Sem Value)(r:V->Hp->VK->Prop):Prop:=
 ∀(pins:List (Addr×Obj)) (s:Shared) (σ:St) (H:Hp) (x:V) (v:Value) (Q:VK),Inv X pins σ H s->RelV x v->r x H Q->
  wpAny (model X.prog X.w) X.A (f v) (EP X pins σ Q) X.xe s
def CallR(X:Cx)(f:Value)(r:List V->Hp->VK->Prop):Prop:=
 ∀(pins:List (Addr×Obj)) (s:Shared) (σ:St) (H:Hp) (xs:List V) (us:List Value) (Q:VK),Inv X pins σ H s->Vals xs us->r xs H Q->
  wpAny (model X.prog X.w) X.A (call f us) (EP X pins σ Q) X.xe s
def AX(X:Cx)(r:V->Hp->(Bool->Hp->Prop)->Prop):Prop:=
 ∀(pins:List (Addr×Obj)) (s:Shared) (σ:St) (H:Hp) (x:V) (v:Value) (Q:Bool->Hp->Prop),Inv X pins σ H s->RelV x v->r x H Q->
  wpAny (model X.prog X.w) X.A (truthy v) (TP X pins σ Q) X.xe s
def yO(r:R2)(ta tb:TE):TE:=λσ H Q=>ta σ H λx H1=>tb σ H1 λy H2=>r x y H2 Q
def Ih(r:V->Hp->VK->Prop)(ta:TE):TE:=λσ H Q=>ta σ H λx H1=>r x H1 Q
def rI(C:Int->Int->Prop)(g:Int->Int->V):R2:=λx y H Q=>∃i j,x=.int i/\y=.int j/\C i j/\Q (g i j) H
def pV(g:Int->Int->V):R2:=λx y H Q=>∃i j,x=.int i/\y=.int j/\Q (g i j) H
def rU(g:Int->V):V->Hp->VK->Prop:=λx H Q=>∃i,x=.int i/\Q (g i) H
section
variable{a b:Expr}{tb tc:TE}
theorem sC(ha:PE X a ta)(hb:PE X b tb){R:V->V->Hp->Prop}(I:Inv X pins σ H s)
  (h:ta σ H λx H1=>tb σ H1 λy H2=>R x y H2)
  (hf:∀v u s2 x y H2,Inv X pins σ H2 s2->RelV x v->RelV y u->R x y H2->wpAny (model X.prog X.w) X.A (f v u) Q X.xe s2) :
  wpAny (model X.prog X.w) X.A (eval a X.env) (λv s₁=>wpAny (model X.prog X.w) X.A (eval b X.env) (λu s₂=>wpAny (model X.prog X.w) X.A (f v u) Q X.xe s₂) X.xe s₁) X.xe s:=by
 refine bG (ha pins s σ H _ I h) λv s1 ⟨x,H1,I1,r1,q1⟩=>?_;refine bG (hb pins s1 σ H1 _ I1 q1) λu s2 ⟨y,H2,I2,r2,q2⟩=>?_;exact hf v u s2 x y H2 I2 r1 r2 q2
theorem mC{op:Operator}(ho:OpR X (binaryOp op) r)(ha:PE X a ta)(hb:PE X b tb):PE X (.BinOp a op b pos) (yO r ta tb):=by
 intro pins s σ H Q I h;exact wpAny_BinOp (sC ha hb I h λv u s2 x y H2 I2 rx ry q=>ho pins s2 σ H2 x y v u Q I2 rx ry q)
theorem qM{op:UnaryOp}{r:V->Hp->VK->Prop}(ho:yN X (unaryOp op) r)(ha:PE X a ta):PE X (.UnaryOp op a pos) (Ih r ta):=by
 intro pins s σ H Q I h;exact UnaryOp_ (bG (ha pins s σ H _ I h) λv s1 ⟨x,H1,I1,r1,q1⟩=>ho pins s1 σ H1 x v Q I1 r1 q1)
theorem yP{C:Int->Int->Prop}
  (rule:∀(i j:Int) (t u:Tok) (s:Shared) (Q:Value->Shared->Prop) (E:Value->Shared->Prop),C i j->Q (.int (g i j) s.toks) { s with toks:=s.toks+1 }->wpAny (model X.prog X.w) X.A (f (.int i t) (.int j u)) Q E s) :
  OpR X f (rI C λi j=>.int (g i j)):=by
 intro pins s σ H x y v u Q I rx ry h;obtain⟨i,j,rfl,rfl,hc,q⟩:=h;obtain⟨t,rfl⟩:=rx;obtain⟨t',rfl⟩:=ry;exact rule i j t t' s _ _ hc ⟨.int (g i j),H,I.tok _,⟨_,rfl⟩,q⟩
theorem vg
  (rule:∀(i j:Int) (t u:Tok) (s:Shared) (Q:Value->Shared->Prop) (E:Value->Shared->Prop),Q (.int (g i j) s.toks) { s with toks:=s.toks+1 }->wpAny (model X.prog X.w) X.A (f (.int i t) (.int j u)) Q E s) :
  OpR X f (pV λi j=>.int (g i j)):=by
 intro pins s σ H x y v u Q I rx ry h;obtain⟨i,j,rfl,rfl,q⟩:=h;obtain⟨t,rfl⟩:=rx;obtain⟨t',rfl⟩:=ry;exact rule i j t t' s _ _ ⟨.int (g i j),H,I.tok _,⟨_,rfl⟩,q⟩
theorem pW{g:Int->Int->Bool}
  (rule:∀(i j:Int) (t u:Tok) (s:Shared) (Q:Value->Shared->Prop) (E:Value->Shared->Prop),Q (.bool (g i j)) s->wpAny (model X.prog X.w) X.A (f (.int i t) (.int j u)) Q E s) :
  OpR X f (pV λi j=>.bl (g i j)):=by
 intro pins s σ H x y v u Q I rx ry h;obtain⟨i,j,rfl,rfl,q⟩:=h;obtain⟨t,rfl⟩:=rx;obtain⟨t',rfl⟩:=ry;exact rule i j t t' s _ _ ⟨.bl (g i j),H,I,rfl,q⟩
def sD(i j:Int):Prop:=0<=j/\j<=1000000/\i.natAbs<2^64
def CMul(i j:Int):Prop:=(-(2^64)<i/\i<2^64)\/(-(2^64)<j/\j<2^64)
theorem CMul.ok{i j:Int}(h:CMul i j):IntMulOk i j:=by
 rcases h with⟨h1,h2⟩|⟨h1,h2⟩
 .exact .of_left (intBits_le_64 h1 h2)
 .exact .of_right (intBits_le_64 h1 h2)
def sE:OpR X (binaryOp .Add) (pV λi j=>.int (i+j)):=vg λ_ _ _ _ _ _ _ q=>add_int q
def sF:OpR X (binaryOp .Sub) (pV λi j=>.int (i-j)):=vg λ_ _ _ _ _ _ _ q=>sub_int q
theorem pX:OpR X (binaryOp .Mod) (rI (λ_ j=>j≠0) λi j=>.int (i.fmod j)):=yP λ_ _ _ _ _ _ _ hc q=>mod_int' hc q
theorem sG:OpR X (binaryOp .Pow) (rI sD λi j=>.int (i^j.toNat)):=yP λ_ _ _ _ _ _ _ hc q=>pow_int_small hc.1 hc.2.1 hc.2.2 q
theorem Ii{f:Value->Sem Value}{g:Int->Int}
  (rule:∀(i:Int) (t:Tok) (s:Shared) (Q:Value->Shared->Prop) (E:Value->Shared->Prop),Q (.int (g i) s.toks) { s with toks:=s.toks+1 }->wpAny (model X.prog X.w) X.A (f (.int i t)) Q E s) :
  yN X f (rU λi=>.int (g i)):=by
 intro pins s σ H x v Q I rx h;obtain⟨i,rfl,q⟩:=h;obtain⟨t,rfl⟩:=rx;exact rule i t s _ _ ⟨.int (g i),H,I.tok _,⟨_,rfl⟩,q⟩
def mD:yN X (unaryOp .USub) (rU λi=>.int (-i)):=Ii λ_ _ _ _ _ q=>neg_int q
end
def AY:V->V->Bool
 |.non,.non=>true|.non,.int _=>true|.int _,.non=>true|.non,.bl _=>true|.bl _,.non=>true|.non,.str _=>true|.str _,.non=>true
 |.int _,.int _=>true|.bl _,.bl _=>true|.str _,.str _=>true|.byt _,.byt _=>true
 |.int _,.str _=>true|.str _,.int _=>true|.bl _,.str _=>true|.str _,.bl _=>true
 |_,_=>false
def Ij:R2:=λx y H Q=>AY x y=true/\Q (.bl (!decide (x=y))) H
def pY{i j:Int}:decide (V.int i=V.int j)=(i==j):=by
 rw[kE];simp
def sH{i j:Bool}:decide (V.bl i=V.bl j)=(i==j):=by
 rw[kE];simp
def pZ{i j:Str}:decide (V.str i=V.str j)=(i==j):=by
 rw[kE];simp
theorem p6{i j:Array UInt8}:decide (V.byt i=V.byt j)=(i.toList==j.toList):=by
 rw[kE];cases i;cases j;simp
section
variable{a b:Expr}{tb tc:TE}
theorem bQ{Q:VK}{k k':Bool}(I:Inv X pins σ H s)(q:Q (.bl k) H)(e:k=k'):EP X pins σ Q (.bool k') s:=by
 subst e;exact⟨.bl k,H,I,rfl,q⟩
theorem vh:OpR X (compareOp .NotEq) Ij:=by
 intro pins s σ H x y v u Q I rx ry h;obtain⟨hs,q⟩:=h;cases x with
 |non=>
  cases rx;cases y with
  |non=>cases ry;exact PySem.EqNone.ne_none_none (bQ I q (by simp))
  |bl j=>cases ry;exact PySem.EqNone.ne_none_bool (bQ I q (by simp))
  |int j=>obtain⟨t',rfl⟩:=ry;exact PySem.EqNone.ne_none_int (bQ I q (by simp))
  |str j=>obtain⟨t',rfl⟩:=ry;exact PySem.EqNone.ne_none_str (bQ I q (by simp))
  |_=>exact N6 (show false=true from hs) i9
 |bl i=>
  cases rx;cases y with
  |non=>cases ry;exact PySem.EqNone.ne_bool_none (bQ I q (by simp))
  |bl j=>cases ry;exact ne_bool (bQ I q (congrArg not sH))
  |str j=>obtain⟨t',rfl⟩:=ry;exact PySem.EqMixed.ne_bool_str (bQ I q (by simp))
  |_=>exact N6 (show false=true from hs) i9
 |int i=>
  obtain⟨t,rfl⟩:=rx;cases y with
  |non=>cases ry;exact PySem.EqNone.ne_int_none (bQ I q (by simp))
  |int j=>obtain⟨t',rfl⟩:=ry;exact ne_int (bQ I q (congrArg not pY))
  |str j=>obtain⟨t',rfl⟩:=ry;exact PySem.EqMixed.ne_int_str (bQ I q (by simp))
  |_=>exact N6 (show false=true from hs) i9
 |str i=>
  obtain⟨t,rfl⟩:=rx;cases y with
  |non=>cases ry;exact PySem.EqNone.ne_str_none (bQ I q (by simp))
  |bl j=>cases ry;exact PySem.EqMixed.ne_str_bool (bQ I q (by simp))
  |int j=>obtain⟨t',rfl⟩:=ry;exact PySem.EqMixed.ne_str_int (bQ I q (by simp))
  |str j=>obtain⟨t',rfl⟩:=ry;exact ne_str (bQ I q (congrArg not pZ))
  |_=>exact N6 (show false=true from hs) i9
 |byt i=>
  obtain⟨t,rfl⟩:=rx;cases y with
  |byt j=>obtain⟨t',rfl⟩:=ry;exact PySem.W.ne_bytes (bQ I q (congrArg not p6))
  |_=>exact N6 (show false=true from hs) i9
 |_=>cases y<;>exact N6 (show false=true from hs) i9
theorem OpR.or(h:OpR X f r)(h':OpR X f r'):OpR X f (λx y H Q=>r x y H Q\/r' x y H Q):=by
 intro pins s σ H x y v u Q I rx ry q;rcases q with q|q
 .exact h pins s σ H x y v u Q I rx ry q
 .exact h' pins s σ H x y v u Q I rx ry q
theorem mE(b:Expr)(h:op≠.In:=by decide)(h2:op≠.NotIn:=by decide):behindInMarks op b=false:=by
 have e1:(op==CmpOp.In)=false:=by cases op<;>first|rfl|exact N6 rfl h
 have e2:(op==CmpOp.NotIn)=false:=by cases op<;>first|rfl|exact N6 rfl h2
 cases b<;>simp[behindInMarks,e1,e2]
theorem p7(ho:OpR X (compareOp op) r)(ha:PE X a ta)(hb:PE X b tb)(hm:behindInMarks op b=false):PE X (.Compare a [op] [b] pos) (yO r ta tb):=by
 intro pins s σ H Q I h;exact wpAny_Compare1 (sC ha hb I h λv u s2 x y H2 I2 rx ry q=>ho pins s2 σ H2 x y v u Q I2 rx ry q) hm
def qN(t:TE):TT:=λσ H Q=>t σ H λx H'=>∃k,x=.bl k/\Q k H'
theorem p8(ho:OpR X (compareOp op) r)(ha:PE X a ta)(hb:PE X b tb)(hm:behindInMarks op b=false):PT X (.Compare a [op] [b] pos) (qN (yO r ta tb)):=by
 intro pins s σ H Q I h;refine wpAny_isTrue_Compare1 (bG (ha pins s σ H _ I h) λv s1 ⟨x,H1,I1,r1,q1⟩=>bG (hb pins s1 σ H1 _ I1 q1) λu s2 ⟨y,H2,I2,r2,q2⟩=>
  bG (ho pins s2 σ H2 x y v u _ I2 r1 r2 q2) λc s3 ⟨z,H3,I3,r3,k,e,q3⟩=>?_) hm
 subst e;cases r3;exact On ⟨H3,I3,q3⟩
def mF(r r':R2)(ta tb tc:TE):TE:=λσ H Q=>ta σ H λx H1=>tb σ H1 λy H2=>r x y H2 λz H3=>∃k,z=.bl k/\
 (if k=true then tc σ H3 λw' H4=>r' y w' H4 Q else Q (.bl false) H3)
theorem mG{op':CmpOp}(ho:OpR X (compareOp op) r)(ho':OpR X (compareOp op') r')(ha:PE X a ta)(hb:PE X b tb)(hc:PE X c tc)
  (hm:lastMarks [op,op'] [b,c]=false:=by with_unfolding_all rfl):PE X (.Compare a [op,op'] [b,c] pos) (mF r r' ta tb tc):=by
 intro pins s σ H Q I h;refine Compare_chain (bG (ha pins s σ H _ I h) λv s1 ⟨x,H1,I1,r1,q1⟩=>chain_link (bG (hb pins s1 σ H1 _ I1 q1) λu s2 ⟨y,H2,I2,r2,q2⟩=>
  bG (ho pins s2 σ H2 x y v u _ I2 r1 r2 q2) λd s3 ⟨z,H3,I3,r3,k,e,q3⟩=>?_)) hm
 subst e;cases r3;refine On ?_;cases k with
 |false=>exact ite_ff ⟨.bl false,H3,I3,rfl,q3⟩
 |true=>exact ite_tt (chain_last (bG (hc pins s3 σ H3 _ I3 q3) λw' s4 ⟨z',H4,I4,r4,q4⟩=>ho' pins s4 σ H4 y z' u w' Q I4 r2 r4 q4))
theorem mH{op':CmpOp}(ho:OpR X (compareOp op) r)(ho':OpR X (compareOp op') r')(ha:PE X a ta)(hb:PE X b tb)(hc:PE X c tc)
  (hm:lastMarks [op,op'] [b,c]=false:=by with_unfolding_all rfl):PT X (.Compare a [op,op'] [b,c] pos) (qN (mF r r' ta tb tc)):=by
 intro pins s σ H Q I h;refine isTrue_chain (bG (ha pins s σ H _ I h) λv s1 ⟨x,H1,I1,r1,q1⟩=>test_link (bG (hb pins s1 σ H1 _ I1 q1) λu s2 ⟨y,H2,I2,r2,q2⟩=>
  bG (ho pins s2 σ H2 x y v u _ I2 r1 r2 q2) λd s3 ⟨z,H3,I3,r3,k,e,q3⟩=>?_)) hm
 subst e;cases r3;refine On ?_;cases k with
 |false=>
  obtain⟨k',e',q'⟩:=q3;cases e';exact ite_ff ⟨H3,I3,q'⟩
 |true=>
  refine ite_tt (test_last (bG (hc pins s3 σ H3 _ I3 q3) λw' s4 ⟨z',H4,I4,r4,q4⟩=>bG (ho' pins s4 σ H4 y z' u w' _ I4 r2 r4 q4) λd' s5 ⟨z2,H5,I5,r5,k2,e2,q5⟩=>?_));subst e2;cases r5;exact On ⟨H5,I5,q5⟩
def vj(K:N4)(x:V)(H:Hp)(k:Bool):Prop:=
 match x with
 |.non=>k=false
 |.bl b=>k=b
 |.int i=>k=(i != 0)
 |.str y=>y.length<=sizeLine/\k=((y.length:Int) != 0)
 |.byt y=>y.size<=sizeLine/\k=((y.size:Int) != 0)
 |.ref p=>(∃xs,SqL K H p xs/\k = !xs.isEmpty)\/(∃xs,SqT K H p xs/\k = !xs.isEmpty)\/∃kvs,H p=some (.dK kvs)/\k = !kvs.isEmpty
 |_=>False
theorem jY{kvs:List (κ×V)}{vs:List (κ×Value)}(r:KV kvs vs):(!vs.isEmpty) = !kvs.isEmpty:=by
 cases r<;>rfl
def gx{its:List Value}(r:Vals xs its):(!its.toArray.isEmpty) = !xs.isEmpty:=by
 cases r<;>simp
def fA:(sizeLine:Nat)<2^63:=by rw[sizeLine_eq];decide
theorem sJ:AX X (λx H Q=>∃k,vj X.K x H k/\Q k H):=by
 intro pins s σ H x v Q I rx h;obtain⟨k,e,q⟩:=h;have hl:=fA;have hs:sizeLine=16777216:=sizeLine_eq;cases x with
 |non=>
  cases rx;have e':k=false:=e;subst e';exact truthy_none ⟨H,I,q⟩
 |bl b=>
  cases rx;have e':k=b:=e;subst e';exact On ⟨H,I,q⟩
 |int i=>
  obtain⟨t,rfl⟩:=rx;have e':k=(i != 0):=e;subst e';exact PySem.P.truthy_int ⟨H,I,q⟩
 |str y=>
  obtain⟨t,rfl⟩:=rx;obtain⟨hy,e'⟩:y.length<=sizeLine/\k=((y.length:Int) != 0):=e;subst e';exact PySem.P.truthy_str (by omega) ⟨H,I.tok _,q⟩
 |byt y=>
  obtain⟨t,rfl⟩:=rx;obtain⟨hy,e'⟩:y.size<=sizeLine/\k=((y.size:Int) != 0):=e;subst e';exact PySem.W.truthy_bytes (by omega) ⟨H,I.tok _,q⟩
 |ref p=>
  cases rx;have e':(∃xs,SqL X.K H p xs/\k = !xs.isEmpty)\/(∃xs,SqT X.K H p xs/\k = !xs.isEmpty)\/∃kvs,H p=some (.dK kvs)/\k = !kvs.isEmpty:=e;rcases e' with⟨xs,hx,e'⟩|⟨xs,hx,e'⟩|⟨kvs,hx,e'⟩
  .subst e'
   obtain⟨its,r,pl,hz⟩:=I.list hx;have hlen:=r.length;exact wpAny_truthy_list pl.isList (by simp only[eM];omega) ⟨H,I.tok _,by rw[gx r];exact q⟩
  .subst e'
   obtain⟨its,r,pl,hz⟩:=I.tuple hx;have hlen:=r.length;exact truthy_tuple pl (by simp only[eM];omega) ⟨H,I.tok _,by rw[gx r];exact q⟩
  .subst e'
   obtain⟨hz,hS,vs,r,m⟩:kvs.length<=sizeLine/\(p==sysModules)=false/\∃vs,KV kvs vs/\s.heap.DictOf (iC X.prog X.w) p vs:=I.hok p _ hx;have hlen:kvs.length=vs.length:=Paired.length r;exact wpAny_truthy_dict hS m (by omega) ⟨H,I.tok _,by rw[jY r];exact q⟩
 |_=>exact(show False from e).elim
theorem mI(ha:PE X a ta)(he:∀whole,isTrue a X.env whole=(do let v <-whole;standAt a.pos;holding [v] (truthy v))) :
  PT X a (λσ H Q=>ta σ H λx H'=>∃k,vj X.K x H' k/\Q k H'):=by
 intro pins s σ H Q I h;exact isTrue_plain (bG (ha pins s σ H _ I h) λv s1 ⟨x,H1,I1,r1,q1⟩=>sJ pins s1 σ H1 x v Q I1 r1 q1) (he _)
theorem eN{x:V}(r:Vals [x] us):∃u,us=[u]/\RelV x u:=by
 cases r with
 |cons r1 r2=>cases r2;exact⟨_,rfl,r1⟩
theorem kJ{x y:V}(r:Vals [x,y] us):∃u w',us=[u,w']/\RelV x u/\RelV y w':=by
 cases r with
 |cons r1 r2=>
  cases r2 with
  |cons r3 r4=>cases r4;exact⟨_,_,rfl,r1,r3⟩
theorem mJ:CallR X (.builtin "abs") (λxs H Q=>∃i,xs=[.int i]/\Q (.int (if i<0 then -i else i)) H):=by
 intro pins s σ H xs us Q I r h;obtain⟨i,rfl,q⟩:=h;obtain⟨u,rfl,t,rfl⟩:=eN r;exact call_abs_int λu tk=>⟨.int (if i<0 then -i else i),H,I.tok _,⟨_,rfl⟩,q⟩
theorem li(hc:X.calm=true):CallR X (.builtin "max") (λxs H Q=>∃i j,xs=[.int i,.int j]/\Q (.int (if j>i then j else i)) H):=by
 intro pins s σ H xs us Q I r h;obtain⟨i,j,rfl,q⟩:=h;obtain⟨u,w',rfl,⟨t,rfl⟩,⟨t',rfl⟩⟩:=kJ r;refine max_two_ints (I.ok.hd hc) λh' tk k=>⟨_,H,I.kept k,?_,q⟩
 by_cases hj:j>i
 .rw[if_pos hj,if_pos hj];exact⟨_,rfl⟩
 .rw[if_neg hj,if_neg hj];exact⟨_,rfl⟩
theorem lj:CallR X (.type "int") (λxs H Q=>(∃i,xs=[.int i]/\Q (.int i) H)\/∃k,xs=[.bl k]/\Q (.int (if k then 1 else 0)) H):=by
 intro pins s σ H xs us Q I r h;rcases h with⟨i,rfl,q⟩|⟨k,rfl,q⟩
 .obtain⟨u,rfl,t,rfl⟩:=eN r
  exact call_int_int ⟨.int i,H,I,⟨_,rfl⟩,q⟩
 .obtain⟨u,rfl,r1⟩:=eN r
  cases r1;exact call_int_bool ⟨.int (if k then 1 else 0),H,I.tok _,⟨_,rfl⟩,q⟩
end
structure ObjM(h:Heap)(x dx C:Addr)(mA:Str->Option Value):Prop where
 obj:h.get? x=some (PySem.W.instObj C dx)
 ns:h.Ns1 dx mA
 ne:dx≠x
theorem lm(n:h.Ns1 dx mA):∃od,h.get? dx=some od/\∀name,PySem.W.lookIn name od=some (mA name):=by
 obtain⟨o,es,ep,ho,hd,hk,_,hm⟩:=n;refine⟨o,ho,λname=>?_⟩;have e:=hm name;unfold nsFind findBy at e;rw[<-Array.find?_toList] at e;unfold PySem.W.lookIn;rw[hd];dsimp only;split
 .rename_i y q
  rw[q] at e;exact congrArg some e
 .rename_i q
  rw[q] at e;have a:es.toList.any (·.refKey)=false:=by
   rw[List.any_eq_false];intro y hy;obtain⟨z,t,hkey⟩:=hk y (Array.mem_toList_iff.mp hy);simp[DictEntry.refKey,hkey]
  have a':¬es.toList.any (·.refKey)=true:=by rw[a];exact i9
  rw[if_neg a'];exact congrArg some e
theorem ObjM.look{x C:Addr}(I:ObjM h x dx C mA):∃od,PySem.W.InstAt h x (PySem.W.instObj C dx) C (some od)/\∀name,PySem.W.lookIn name od=some (mA name):=
 let⟨od,ho,hl⟩:=lm I.ns
 ⟨od,⟨I.obj,rfl,rfl,ho⟩,hl⟩
section
variable{E:Value->Shared->Prop}{x C f:Addr}{v:Value}
end
section
variable{C:Addr}{fs fs':List (Str×V)}
end
structure Cls(K:N4)(C:Addr):Prop where
 pg:PySem.W.plainGet K C Str.empty=true
 hd:PySem.W.hasDictIn K C=true
 po:PySem.W.plainOver K C=true
 sa:PySem.W.findIn K (.ref C) "__setattr__" = some (some (.builtin "object.__setattr__"))
def Cls.get{C:Addr}(c:Cls K C)(f:Str):PySem.W.plainGet K C f=true:=c.pg
section
variable{C:Addr}{fs:List (Str×V)}{f:Str}{E:Value->Shared->Prop}
theorem Inv.made(I:Inv X pins σ H s):Inv X pins σ (upd (upd H s.heap.objs.size (.own (s.heap.objs.size+1))) (s.heap.objs.size+1) (.ins C s.heap.objs.size []))
  { s with heap:=(s.heap.push PySem.W.emptyDict).push (PySem.W.instObj C s.heap.objs.size) }:=by
 have e1:(s.heap.push PySem.W.emptyDict).get? s.heap.objs.size=some PySem.W.emptyDict:=f9 s.heap rfl;have e2:((s.heap.push PySem.W.emptyDict).push (PySem.W.instObj C s.heap.objs.size)).get? (s.heap.objs.size+1)=some (PySem.W.instObj C s.heap.objs.size):=by
  have:=f9 (s.heap.push PySem.W.emptyDict) (o:=PySem.W.instObj C s.heap.objs.size) rfl
  rwa [kX] at this
 have e3:(s.heap.push PySem.W.emptyDict).Ns s.heap.objs.size (λ_=>none):=⟨PySem.W.emptyDict,#[],_,e1,rfl,(λe he=>N6 he (by simp)),λ_=>rfl⟩
 have I1:=I.laid (a:=s.heap.objs.size) (o:=.own (s.heap.objs.size+1)) (h':=s.heap.push PySem.W.emptyDict) (t':=s.toks) (λb u q=>cX _ q) (bM _) ⟨_,e1⟩;refine I1.laid (a:=s.heap.objs.size+1) (o:=.ins C s.heap.objs.size []) (t':=s.toks) (λb u q=>cX _ q) (Nat.le_of_eq (kX _ _)) ?_;have ne:s.heap.objs.size≠s.heap.objs.size+1:=fR (Ao _);refine⟨by rw[aH ne,aL],jS _,ne,e2,λ_=>none,(Heap.Ns1.of_empty e3).at λo q=>cX _ q,λ_=>True.intro,λy hy=>N6 rfl hy⟩
theorem p9{env:Env}{f:Str}(hb:attributeBase e f env (eval e env)=eval e env)
  (h:wpAny (model prog w) A (eval e env) (λo s₁=>wpAny (model prog w) A (getAttr o f true) Q E s₁) E s):wpAny (model prog w) A (eval (.Attribute e f pos) env) Q E s:=
 Attribute_any_ h (by rw[arm_eval_Attribute,hb])
end
section
variable{o value:Expr}{f:Str}{tpos:Pos}{tv:TE}
end
section
variable{E:Value->Shared->Prop}{c:Value}{b:Bool}
end
structure Room(k:Nat)(A:Around):Prop where
 hd:A.handled=none
 gd:A.guards=some []
 dp:A.depth+3*k+5<recursionLimit
 un:A.units+16*k+200<cLine
theorem Room.mono(r:Room k A)(h:j<=k):Room j A:=⟨r.hd,r.gd,by have:=r.dp;omega,by have:=r.un;omega⟩
theorem Room.deeper{k:Nat}{A:Around}(r:Room (k+1) A)(env:Env):Room k (A.deeper env):=
 ⟨r.hd,r.gd,by have:=r.dp;show A.depth+1+3*k+5<_;omega,by have:=r.un;show A.units+3+16*k+200<_;omega⟩
theorem Room.in1{k:Nat}{A:Around}(r:Room (k+1) A):Room k A.in1:=
 ⟨r.hd,r.gd,by have:=r.dp;show A.depth+3*k+5<_;omega,by have:=r.un;show A.units+1+16*k+200<_;omega⟩
theorem jZ{C:Addr}:(A.under (.builtin "type.__call__" ⟨.ref C::us,kw⟩)).depth=A.depth+1:=by
 first|rfl|simp[Around.under,Code.weight,Code.isCreation,Code.isGuard,Code.isCaller,Code.frames,Code.isFrame,guardIds]
theorem j0{C:Addr}:(A.under (.builtin "type.__call__" ⟨.ref C::us,kw⟩)).units=A.units+1:=by
 first|rfl|simp[Around.under,Code.cUnits,Code.frames,Code.isFrame]
theorem Room.make(r:Room (k+1) A)(C:Addr)(us:List Value)(kw:List (Str×Value)):Room k (A.under (.builtin "type.__call__" ⟨.ref C::us,kw⟩)):=
 ⟨r.hd,by first|exact r.gd|simp[Around.under,Code.weight,Code.isCreation,Code.isGuard,Code.isCaller,Code.frames,Code.isFrame,guardIds,r.gd],by have:=r.dp;rw[jZ];omega,by have:=r.un;rw[j0];omega⟩
def Room.depth{k:Nat}{A:Around}(r:Room k A):A.depth<recursionLimit:=by have:=r.dp;omega
def Room.units{k:Nat}{A:Around}(r:Room k A):A.units+64<cLine:=by have:=r.un;omega
def vm:TA:=λ_ H Q=>Q [] H
def qO(ta:TE)(tr:TA):TA:=λσ H Q=>ta σ H λx H1=>tr σ H1 λxs H2=>Q (x::xs) H2
section
def j3:PA X [] vm:=λ_ _ _ _ H Q I h=>Calls.spliced_nil ⟨[],H,I,.nil,h⟩
theorem iJ(ha:PE X e te)(hr:PA X es t)(hs:starEach (e::es) X.env=(false,eval e X.env)::starEach es X.env:=by rfl):PA X (e::es) (qO te t):=by
 intro pos pins s σ H Q I h;rw[hs];show wpAny _ _ (spliced ((false,eval e X.env)::backTo pos (starEach es X.env))) _ _ s;refine Calls.spliced_cons (bG (ha pins s σ H _ I h) λu s1 ⟨x,H1,I1,r1,q1⟩=>?_);exact bG (hr pos pins s1 σ H1 _ I1 q1) λus s2 ⟨xs,H2,I2,r2,q2⟩=>⟨x::xs,H2,I2,.cons r1 r2,q2⟩
def AZ(t:TA):TE:=λσ H Q=>t σ H λxs H1=>xs.length<=sizeLine/\∀p,H1 p=none->Q (.ref p) (upd H1 p (.tup xs))
def A1(t:TA):TE:=λσ H Q=>t σ H λxs H1=>xs.length<=sizeLine/\∀p,H1 p=none->Q (.ref p) (upd H1 p (.lst xs))
theorem sK{x1}(h:PA X es t):PE X (.Tuple es x1 pos) (AZ t):=by
 intro pins s σ H Q I hq;refine wpAny_Tuple_spliced (bG (h pos pins s σ H _ I hq) λus s1 ⟨xs,H1,I1,r,z,q⟩=>⟨by rw[<-r.length];exact z,?_⟩);have hf:H1 s1.heap.objs.size=none:=I1.hok.fresh (bM _);refine⟨.ref s1.heap.objs.size,upd H1 s1.heap.objs.size (.tup xs),I1.laid (t':=s1.toks) (λb u e=>cX _ e) (bM _) ?_,rfl,q _ hf⟩;exact⟨z,us,r,⟨_,f9 _ rfl,rfl,_,rfl⟩⟩
theorem sL(h:PA X es t):PE X (.List es pos) (A1 t):=by
 intro pins s σ H Q I hq;refine wpAny_List_spliced (bG (h pos pins s σ H _ I hq) λus s1 ⟨xs,H1,I1,r,z,q⟩=>⟨by rw[<-r.length];exact z,?_⟩);have hf:H1 s1.heap.objs.size=none:=I1.hok.fresh (bM _);refine⟨.ref s1.heap.objs.size,upd H1 s1.heap.objs.size (.lst xs),I1.laid (t':=s1.toks) (λb u e=>cX _ e) (bM _) ?_,rfl,q _ hf⟩;exact⟨z,us,0,r,f9 _ rfl⟩
end
abbrev Sp:=List V->Hp->VK->XK->Prop
abbrev lT:=List Env->Hp->Shared->XK->Value->Shared->Prop
variable{CX:lT}
structure Env0(P:Program)(w:World)(K:N4)(mg:Str->Option Value)(base:Heap)(A:Around)(outer:List Env)(s:Shared)(H:Hp):Prop where
 frames:A.frames=some outer
 mod:Mod K mg base
 bs:∀b o,base.get? b=some o->s.heap.get? b=some o/\H b=none
 bsz:base.objs.size<=s.heap.objs.size
 funs:s.heap.FunFrames base outer
 frf:∀b∈cM outer,H b=none
 hok:HOk P w H s.heap
 bare:AllBare s.gens
 sysn:∀xs,H sysModules≠some (.lst xs)
def CE(outer:List Env)(P:Program)(w:World)(H:Hp)(s:Shared)(Q:VK)(u:Value)(s':Shared):Prop:=
 ∃v H',s'.os=s.os/\AllBare s'.gens/\Un (cM outer) [] H H' s.heap s'.heap/\HOk P w H' s'.heap/\RelV v u/\Q v H'
def CR(CX:lT)(outer:List Env)(P:Program)(w:World)(H:Hp)(s:Shared)(Q:VK)(E:XK)(r:Result)(s':Shared):Prop:=
 match r with
 |.ok (.ret u)=>CE outer P w H s Q u s'
 |.ok _=>False
 |.error e=>CX outer H s E e s'
structure FnOk(P:Program)(w:World)(K:N4)(mg:Str->Option Value)(base:Heap)(CX:lT)(k:Nat)(f:Addr)(fd:FuncData)(ps:List Str)(sp:Sp):Prop where
 len:∀vs H Q E,sp vs H Q E->vs.length=ps.length
 run:∀(A:Around) (outer:List Env) (s:Shared) (H:Hp) (args:Args) (us:List Value) (vs:List V) (Q:VK) (E:XK),Room k A->Env0 P w K mg base A outer s H->BindsTo s fd args (ps.zip us)->Vals vs us->sp vs H Q E->
  codeAny (model P w) A (.call (.ref f) args) (CR CX outer P w H s Q E) s
theorem FnOk.mono{P:Program}{w:World}{K:N4}{mg:Str->Option Value}{base:Heap}{CX:lT}{j k:Nat}{f:Addr}{fd:FuncData}{ps:List Str}{sp:Sp}(F:FnOk P w K mg base CX j f fd ps sp)(h:j<=k) :
  FnOk P w K mg base CX k f fd ps sp:=⟨F.len,λA outer s H args us vs Q E hr=>F.run A outer s H args us vs Q E (hr.mono h)⟩
theorem FnOk.imp{f:Addr}{sp sp':Sp}(F:FnOk P w K mg base CX k f fd ps sp)
  (h:∀vs H Q E,sp' vs H Q E->sp vs H Q E):FnOk P w K mg base CX k f fd ps sp':=
 ⟨λvs H Q E q=>F.len vs H Q E (h _ _ _ _ q),λA outer s H args us vs Q E hr he hb hv hs=>F.run A outer s H args us vs Q E hr he hb hv (h _ _ _ _ hs)⟩
theorem Env0.make(e:Env0 P w K mg base A outer s H)(C:Addr)(us:List Value)(kw:List (Str×Value)) :
  Env0 P w K mg base (A.under (.builtin "type.__call__" ⟨.ref C::us,kw⟩)) outer s H:=⟨by first|exact e.frames|(simpa[Around.under,Code.envs,Code.isFrame,pushEnvs] using e.frames),e.mod,e.bs,e.bsz,e.funs,e.frf,e.hok,e.bare,e.sysn⟩
theorem Env0.in1{P:Program}{w:World}{K:N4}{mg:Str->Option Value}{base:Heap}{A:Around}{outer:List Env}{s:Shared}{H:Hp}(e:Env0 P w K mg base A outer s H) :
  Env0 P w K mg base A.in1 outer s H:=⟨e.frames,e.mod,e.bs,e.bsz,e.funs,e.frf,e.hok,e.bare,e.sysn⟩
section
theorem Inv.env0(I:Inv X pins σ H s):Env0 X.prog X.w X.K X.mg X.base X.A X.stack s H:=
 ⟨I.ok.frames,I.ok.mod,I.bs,f8 I.ok.bsz I.sz,I.stack,I.stkFree,I.hok,I.bare,I.sysn⟩
theorem Inv.after{Q:VK}{u:Value}(I:Inv X pins σ H s)(h:CE X.stack X.prog X.w H s Q u s'):EP X pins σ Q u s':=by
 obtain⟨v,H',os,bare,un,hok,r,q⟩:=h;obtain⟨hh,g,d,t,os'⟩:=s';obtain rfl:os'=s.os:=os;exact⟨v,H',I.call (h':=hh) (g':=g) (d':=d) (t':=t) (ch:=[]) un hok bare (λb z=>N6 z (by simp)),r,q⟩
end
def qP(sp:Sp)(dvs:List V)(E:XK)(t:TA):TE:=λσ H Q=>t σ H λvs H1=>sp (vs++dvs) H1 Q E
def Binds(K:N4)(fd:FuncData)(ps:List Str)(ds:List Value):Prop:=
 ∀(s:Shared) (us:List Value),K.In s.heap->(us++ds).length=ps.length->BindsTo s fd ⟨us,[]⟩ (ps.zip (us++ds))
theorem Binds.all(h:∀us:List Value,us.length=ps.length->bindArgs fd ⟨us,[]⟩=pure (ps.zip us)):Binds K fd ps []:=λs us _ hl=>by
 rw[rG] at hl ⊢;exact .of_eq (h us hl)
def cc(CX:lT)(X:Cx)(E:XK):Prop:=∀(pins:List (Addr×Obj)) (σ:St) (H:Hp) (s:Shared) (e:Value) (s':Shared),Inv X pins σ H s->CX X.stack H s E e s'->X.xe e s'
section
variable{f C:Addr}{sp:Sp}{dvs:List V}{ds:List Value}{E:XK}{m:Str}{apos:Pos}{o:Expr}
theorem sM{Q:VK}(F:FnOk X.prog X.w X.K X.mg X.base CX k f fd ps sp)(hr:Room k X.A)(hb:Binds X.K fd ps ds)(hd:Vals dvs ds)(hx:cc CX X E)
  (I:Inv X pins σ H s) (r:Vals vs us) (h:sp (vs++dvs) H Q E):wpAny (model X.prog X.w) X.A (call (.ref f) us) (EP X pins σ Q) X.xe s:=by
 have r2:Vals (vs++dvs) (us++ds):=r.append hd;have hl:(us++ds).length=ps.length:=by rw[<-r2.length];exact F.len _ _ _ _ h
 refine wpAny_call (codeAny_mono (F.run X.A X.stack s H ⟨us,[]⟩ (us++ds) (vs++dvs) Q E hr I.env0 (hb s us I.kIn hl) r2 h) λr s' hq=>?_);cases r with
 |error e=>exact hx pins σ H s e s' I hq
 |ok fl=>
  cases fl with
  |ret u=>exact I.after hq
  |next=>exact Oh hq
  |brk=>exact Oh hq
  |cont=>exact Oh hq
theorem kK(F:FnOk X.prog X.w X.K X.mg X.base CX k f fd ps sp)(hr:Room k X.A)(hg:Gl X x)(hm:X.mg x=some (.ref f))(hk:PySem.W.keepIn X.K (.ref f)=true)(hb:Binds X.K fd ps ds)(hd:Vals dvs ds)(hx:cc CX X E)
  (ha:PA X (e::es) t) (hdb:(x==("__debug__" : Str))=false:=by decide) (he:starEach (e::es) X.env=(false,eval e X.env)::starEach es X.env:=by rfl) (hpl:(backTo pos (starEach es X.env)).any (·.1)=false:=by rfl) :
  PE X (.Call (.Name x p) (e::es) [] pos) (qP sp dvs E t):=by
 intro pins s σ H Q I h;refine Ox (eA I hg hm ?_ hdb);refine PySem.W.callWith_K (h₀:=X.base) I.ok.mod.kin hk (bG (ha pos pins s σ H _ I h) λus s1 ⟨vs,H1,I1,r,q⟩=>⟨I1.kIn,?_⟩) he hpl;exact sM F hr hb hd hx I1 r q
end
section
variable{f C:Addr}{ks:List Str}{sp:Sp}{E:XK}{m:Str}{apos kpos:Pos}{o:Expr}{kws:List Keyword}{tk:TA}{nm:Option Str}
variable{g:List Value->List Value->List Value}
end
structure bI(N P:List Str)(sc:Scope):Prop where
 kind:sc.kind=.function
 co:sc.isCoroutine=false
 gen:sc.isGenerator=false
 nd:N.Nodup
 pre:N.take P.length=P
 par:∀x∈P,sc.names.lookup x=some .local\/sc.names.lookup x=some .cell
 nofree:∀y∈sc.names,y.2≠.free
theorem ie{kindOf:Str->Option NameKind}{x:Str}:∀{binds:List (Str×Value)} {m:Str->Option Value},(∀v,(x,v)∉binds)->bindL kindOf binds m x=m x
 |[],_,_=>rfl
 |(n,v)::r,m,h=>by
  unfold bindL;rw[ie λw hw=>h w (i8 _ hw)];split
  .have:x≠n:=by rintro rfl;exact h v kW
   simp[this]
  .rfl
theorem ig{kindOf:Str->Option NameKind}{x:Str}:∀{binds:List (Str×Value)} {m:Str->Option Value},(∀v,(x,v)∉binds)->bindC kindOf binds m x=m x
 |[],_,_=>rfl
 |(n,v)::r,m,h=>by
  unfold bindC;rw[ig λw hw=>h w (i8 _ hw)];split
  .rfl
  .have:x≠n:=by rintro rfl;exact h v kW
   simp[this]
theorem fD{kindOf:Str->Option NameKind}{x:Str}{v:Value}:∀{P:List Str} {vs:List Value} {i:Nat} {m:Str->Option Value},P.Nodup->P[i]? = some x->vs[i]? = some v->kindOf x=some .local->
  bindL kindOf (P.zip vs) m x=some v
 |[],_,_,_,_,h,_,_=>by simp at h
 |_::_,[],_,_,_,_,h,_=>by simp at h
 |p::P,w::vs,0,m,nd,h1,h2,hk=>by
  simp at h1 h2;subst h1;subst h2;show bindL kindOf ((p,w)::P.zip vs) m p=_;unfold bindL;rw[ie λv hv=>(YaI.mp nd).1 (uP hv).1,if_pos hk];simp
 |p::P,w::vs,i+1,m,nd,h1,h2,hk=>by
  show bindL kindOf ((p,w)::P.zip vs) m x=_;unfold bindL;exact fD (i:=i) (YaI.mp nd).2 (by simpa using h1) (by simpa using h2) hk
theorem fE{kindOf:Str->Option NameKind}{x:Str}{v:Value}:∀{P:List Str} {vs:List Value} {i:Nat} {m:Str->Option Value},P.Nodup->P[i]? = some x->vs[i]? = some v->kindOf x≠some .local->
  bindC kindOf (P.zip vs) m x=some v
 |[],_,_,_,_,h,_,_=>by simp at h
 |_::_,[],_,_,_,_,h,_=>by simp at h
 |p::P,w::vs,0,m,nd,h1,h2,hk=>by
  simp at h1 h2;subst h1;subst h2;show bindC kindOf ((p,w)::P.zip vs) m p=_;unfold bindC;rw[ig λv hv=>(YaI.mp nd).1 (uP hv).1,if_neg hk];simp
 |p::P,w::vs,i+1,m,nd,h1,h2,hk=>by
  show bindC kindOf ((p,w)::P.zip vs) m x=_;unfold bindC;exact fE (i:=i) (YaI.mp nd).2 (by simpa using h1) (by simpa using h2) hk
def start(N:List Str)(vs:List V):St:=vs.map some++List.replicate (N.length-vs.length) none
def cB(CX:lT)(P:Program)(w:World)(K:N4)(mg:Str->Option Value)(base:Heap)(N:List Str)(qual:Str)(scope:Scope)(f:Addr)(cd:Value)(A:Around)(outer:List Env)(s:Shared)(H:Hp)(E:XK):Cx where
 prog:=P
 w:=w
 K:=K
 mg:=mg
 base:=base
 A:=A.deeper (envOfC qual scope s.heap.objs.size f cd)
 N:=N
 s₀:=s
 H₀:=H
 env:=envOfC qual scope s.heap.objs.size f cd
 outer:=outer
 stack:=envOfC qual scope s.heap.objs.size f cd::outer
 ex:=[]
 calm:=true
 fn:=λ_=>true
 pn:=[]
 xe:=λe s'=>wpAny (model P w) (A.deeper (envOfC qual scope s.heap.objs.size f cd)) (leaving (envOfC qual scope s.heap.objs.size f cd) e) (λ_ s''=>CX outer H s E e s'') (λe' s''=>CX outer H s E e' s'') s'
theorem d6{sc:Scope}(h:sc.names.lookup x=some .cell):∃c,(cellsFrom n sc.names []).lookup x=some c:=by
 have q:=PySem.W.cellsFrom_some sc.names n [] (.inl h);exact Option.isSome_iff_exists.mp q
theorem lu{f:Addr}{cd:Value}{s1:Shared}{E:XK}
  (S:bI N ps scope) (hd:A.handled=none) (e0:Env0 P w K mg base A outer s H) (hl:vs.length=ps.length) (r:Vals vs us)
  (x:InCallC s s.heap.objs.size (bindL (envOfC qual scope s.heap.objs.size f cd).kindOf (ps.zip us) λ_=>none) (cellsFrom (s.heap.objs.size+1) scope.names []) (bindC (envOfC qual scope s.heap.objs.size f cd).kindOf (ps.zip us) λ_=>none) s1) :
  Inv (cB CX P w K mg base N qual scope f cd A outer s H E) [] (start N vs) H s1:=by
 have hpl:ps.length<=N.length:=by have:=congrArg List.length S.pre;rw[gT] at this;omega
 obtain⟨h1,tk,rfl,hk⟩:=x.done;have noA:∀b:Addr,b∉(cB CX P w K mg base N qual scope f cd A outer s H E).ex:=λb z=>N6 (show b∈([]:List Addr) from z) (by simp);refine ⟨⟨e0.mod,S.kind,rfl,rfl,bM _,λy z c h1 h2=>?_,λy hy=>?_,λy c _ h=>?_,λ_=>hd,Around.frames_deeper e0.frames,.inr ⟨rfl,rfl⟩,λb z=>N6 z (noA b),e0.bs,e0.bsz,λb _ _=>noA b,λb z=>N6 z (noA b),e0.funs,e0.frf,e0.sysn⟩,
  rfl,e0.bare,Un.kept hk,⟨_,x.toInCall.ns,λi y v h1 h2 h3=>?_⟩,λy c h=>⟨_,x.cell y c h⟩,e0.hok.fresh (bM _),λy c h=>?_,λp hp=>N6 (show p∈([]:List (Addr×Obj)) from hp) (by simp),e0.hok.kept hk,?_⟩
 .exact name_of_addr x.apart (Oc h1) (Oc h2)
 .have hy:scope.names.lookup y=some .cell\/scope.names.lookup y=some .free:=hy
  rcases hy with hy|hy
  .exact d6 hy
  .exact N6 rfl (S.nofree _ (Oc hy))
 .exact nz (x.above y c (Oc h))
 .have hi:i<vs.length:=by
   unfold start at h2
   by_cases hi:i<vs.length
   .exact hi
   .rw[jE (by simpa using hi)] at h2
    rw[mo] at h2;split at h2<;>cases h2
  have ha:vs[i]? = some v:=by
   unfold start at h2;rw[jT (by simpa using hi),cA] at h2;cases e:vs[i]? with
   |none=>rw[e] at h2;cases h2
   |some a=>rw[e] at h2;cases h2;rfl
  obtain⟨u,hu,rv⟩:=r.get ha;have hp:ps[i]? = some y:=by
   rw[<-S.pre,Ap (by omega)];exact h1
  have ndP:ps.Nodup:=by rw[<-S.pre];exact S.nd.sublist (List.take_sublist _ _)
  refine⟨u,rv,?_⟩;rcases S.par y (iz hp) with k|k
  .exact .inl ⟨k,fD ndP hp hu k⟩
  .obtain⟨c,e⟩:=d6 (n:=s.heap.objs.size+1) k
   refine .inr ⟨.inl k,c,e,?_⟩;have q:=x.cell y c e;rw[fE ndP hp hu (by show scope.names.lookup y≠_;rw[k];decide)] at q;exact q
 .exact e0.hok.fresh (nz (x.above y c (Oc h)))
 .unfold start
  show _=N.length;rw[eu,bP,pF];omega
theorem kL{f:Addr}{params:Arguments}{dV kV doc pm cdv ct oc:Value}{an od:Option Addr}
 {sp:Sp} (lk:K.lookup f=some ⟨oc,od,.func (PySem.W.fnOf name qual params body scope dV kV doc pm an cdv ct),osl⟩) (hcd:PySem.W.codeIn K cdv qual=true) (S:bI N ps scope)
  (len:∀vs H Q E,sp vs H Q E->vs.length=ps.length)
  (hbody:∀ (A:Around) (outer:List Env) (s:Shared) (H:Hp) (vs:List V) (Q:VK) (E:XK),Room k (A.deeper (envOfC qual scope s.heap.objs.size f cdv))->sp vs H Q E->
   ∃t,PSs (cB CX P w K mg base N qual scope f cdv A outer s H E) body t/\t { nx:=λ_ H'=>Q .non H',rt:=Q } (start N vs) H) :
  FnOk P w K mg base CX (k+1) f (PySem.W.fnOf name qual params body scope dV kV doc pm an cdv ct) ps sp:=by
 refine⟨len,λA outer s H args us vs Q E hr e0 hb r hsp=>?_⟩;have hl:=len _ _ _ _ hsp;have KX:K.In s.heap:=e0.mod.kin.keeps λb o e=>(e0.bs b o e).1;have lim:s.heap.NoLimit:=e0.mod.nolimit.keeps λb o e=>(e0.bs b o e).1;have hkind:∀y∈ps.zip us,scope.names.lookup y.1=some .local\/(scope.names.lookup y.1=some .cell/\((cellsFrom (s.heap.objs.size+1) scope.names []).lookup y.1).isSome=true):=λ⟨n,v⟩ hy=>by
  rcases S.par n (uP hy).1 with q|q
  .exact .inl q
  .exact .inr ⟨q,PySem.W.cellsFrom_some _ _ _ (.inl q)⟩
 refine codeAny_call_function hr.depth (KX _ _ lk) rfl S.co S.gen rfl (PySem.W.codeRec_of KX hcd) (hb _ _ _ _ ?_);refine wpAny_newFunctionEnv_cells S.kind hkind λenv he s1 x=>?_;subst he;refine⟨lim.keeps x.toInCall.keep,codeAny_func ?_⟩;obtain⟨t,ht,hq⟩:=hbody A outer s H vs Q E (hr.deeper _) hsp;have I:Inv (cB CX P w K mg base N qual scope f cdv A outer s H E) [] (start N vs) H s1:=lu S hr.hd e0 hl r x;refine Of (ht [] s1 (start N vs) H _ I hq) (λfl s' hs=>?_) λe s' hs=>hs;have fin:∀{σ':St} {H':Hp} {v:V} {u:Value},Inv (cB CX P w K mg base N qual scope f cdv A outer s H E) [] σ' H' s'->RelV v u->Q v H'->CE outer P w H s Q u s':=
  λ{σ' H' v u} J rv q=>⟨v,H',J.os,J.bare,J.base,J.hok,rv,q⟩
 cases fl with
 |ret u=>
  obtain⟨v,σ',H',J,rv,q⟩:=hs;exact fin J rv q
 |next=>
  obtain⟨σ',H',J,q⟩:=hs;exact fin (v:=V.non) (u:=Value.none) J rfl q
 |brk=>
  obtain⟨_,_,_,q⟩:=hs;exact Oh q
 |cont=>
  obtain⟨_,_,_,q⟩:=hs;exact Oh q
section
variable{id T:String}{r:List V->Hp->VK->Prop}
def Ef(r:List V->Hp->VK->Prop)(t:TA):TE:=λσ H Q=>t σ H λvs H1=>r vs H1 Q
theorem mK(hc:CallR X (.builtin id) r)(hg:Gl X x)(hm:X.mg x=none)(hv:bootBuiltins x=some (.builtin id))(ha:PA X (e::es) t)(hn:x≠ "__name__" :=by decide)(hdb:(x==("__debug__" : Str))=false:=by decide)
  (he:starEach (e::es) X.env=(false,eval e X.env)::starEach es X.env:=by rfl) (hpl:(backTo pos (starEach es X.env)).any (·.1)=false:=by rfl):PE X (.Call (.Name x p) (e::es) [] pos) (Ef r t):=by
 intro pins s σ H Q I h;refine Ox (dZ I hg hm hv ?_ hn hdb);exact PyProof.Rows.callWith_builtin1 (bG (ha pos pins s σ H _ I h) λus s1 ⟨vs,H1,I1,r1,q1⟩=>hc pins s1 σ H1 vs us Q I1 r1 q1) he hpl
theorem ii(hc:CallR X (.type T) r)(hg:Gl X x)(hm:X.mg x=none)(hv:bootBuiltins x=some (.type T))(ha:PA X (e::es) t)(hn:x≠ "__name__" :=by decide)(hdb:(x==("__debug__" : Str))=false:=by decide)
  (he:starEach (e::es) X.env=(false,eval e X.env)::starEach es X.env:=by rfl) (hpl:(backTo pos (starEach es X.env)).any (·.1)=false:=by rfl):PE X (.Call (.Name x p) (e::es) [] pos) (Ef r t):=by
 intro pins s σ H Q I h;refine Ox (dZ I hg hm hv ?_ hn hdb);exact PyProof.Rows.callWith_type1 (bG (ha pos pins s σ H _ I h) λus s1 ⟨vs,H1,I1,r1,q1⟩=>hc pins s1 σ H1 vs us Q I1 r1 q1) he hpl
end
end L2
namespace HT
open PySem PyProof.Rows
section
open PySem.SeqAt
open PySem.AutoSeq1 (wpAny_loadPart')
open PySem.MeetsSeq PySem.MeetsSeq2 PySem.MeetsSeq3
end
section
variable{prog:Program}{w:World}{A:Around}{E:Value->Shared->Prop}{s:Shared}
theorem cat_tup{t b:Addr}{vs ws:List Value}{Q:Value->Shared->Prop}(ht:IsTup s.heap t vs.toArray)(hb:IsTup s.heap b ws.toArray)(hv:vs≠[])
  (h1:ws=[]->Q (.ref t) s) (h2:ws≠[]->Q (.ref s.heap.objs.size) { s with heap:=s.heap.push { cls:=.type "tuple",data:=.seq (vs++ws).toArray } })
  (hsz:vs.length+ws.length<=sizeLine):wpAny (model prog w) A (binaryOp .Add (.ref t) (.ref b)) Q E s:=by
 obtain⟨⟨cls,dd,data,sl⟩,ho,hc,n,hd⟩:=id ht;obtain⟨⟨cls2,dd2,data2,sl2⟩,ho2,hc2,n2,hd2⟩:=id hb;simp only at hc hd hc2 hd2;subst hc hd hc2 hd2;have e:vs.toArray++ws.toArray=(vs++ws).toArray:=by simp
 by_cases hw:ws=[]
 .exact concat_meets ⟨_,ho,rfl⟩ ⟨_,ho2,rfl⟩ noFill_tuple_add seq_tuple_add PySem.F.slot_tuple_add PySem.F.entry_tuple_add (PySem.F.args_tuple_add_2 _ _)
   (tuple_addW1 t b vs.toArray ws.toArray n n2 dd dd2 sl sl2 (by simpa using hv) (by simp[hw])) ⟨ho,ho2,h1 hw⟩
 .refine concat_meets ⟨_,ho,rfl⟩ ⟨_,ho2,rfl⟩ noFill_tuple_add seq_tuple_add PySem.F.slot_tuple_add PySem.F.entry_tuple_add (PySem.F.args_tuple_add_2 _ _)
   (tuple_addW2 t b vs.toArray ws.toArray n n2 dd dd2 sl sl2 (by simpa using hv) (by simpa using hw) (by rw[eM,eM];exact hsz)) ⟨ho,ho2,?_⟩
  rw[e];exact h2 hw
def sIx(n d:Nat):Option Int->Nat
 |none=>d
 |some v=>if v<0 then(v+(n:Int)).toNat else min v.toNat n
def sIx_none(n d:Nat):sIx n d none=d:=rfl
theorem sIx_nat(n d k:Nat):sIx n d (some (k:Int))=min k n:=by
 show(if(k:Int)<0 then((k:Int)+(n:Int)).toNat else min (k:Int).toNat n)=min k n;rw[if_neg (by omega),jF]
theorem sO(n d:Nat)(hd:d<=n)(o:Option Int):sIx n d o<=n:=by
 cases o with
 |none=>exact hd
 |some v=>
  show(if v<0 then(v+(n:Int)).toNat else min v.toNat n)<=n
  by_cases hv:v<0
  .rw[if_pos hv];omega
  .rw[if_neg hv];exact Nat.min_le_right _ _
theorem kM(v:Int)(n d:Nat):(if v<0 then max (v+(n:Int)) 0 else min v (n:Int))=((sIx n d (some v):Nat):Int):=by
 show(if v<0 then max (v+(n:Int)) 0 else min v (n:Int))=(((if v<0 then(v+(n:Int)).toNat else min v.toNat n):Nat):Int)
 by_cases hv:v<0
 .simp only[if_pos hv];omega
 .simp only[if_neg hv];omega
theorem j4(lo hi:Option Int)(n:Nat):Builtin.Slice.sliceAdjust lo hi 1 (n:Int)=(((sIx n 0 lo:Nat):Int),((sIx n n hi:Nat):Int)):=by
 have h1:¬((1:Int)<0):=by omega
 unfold Builtin.Slice.sliceAdjust;simp only[h1,if_false];refine Prod.ext ?_ ?_
 .cases lo with
  |none=>rfl
  |some v=>exact kM v n 0
 .cases hi with
  |none=>rfl
  |some v=>exact kM v n n
theorem j5(i j:Nat):Builtin.Slice.slicePlaces (i:Int) (j:Int) 1=j-i:=by
 unfold Builtin.Slice.slicePlaces;have h1:(1:Int)>0:=by omega
 simp only[h1,if_true,Int.ediv_one];split<;>omega
theorem gy{v:Value}{o:Option Int}{Q:Option Int->Shared->Prop}(p:IsPart v o)(h:Q o s):wpAny (model prog w) A (Builtin.Slice.slicePartIndex v) Q E s:=by
 cases p with
 |none=>exact slicePart_none h
 |int i t=>exact slicePart_int h
theorem dB{sl:Addr}{vl vu:Value}{lo hi:Option Int}{n:Nat}{Q:Int×Int×Nat->Shared->Prop}(hs:s.heap.IsSliceOf sl vl vu .none)(pl:IsPart vl lo)(pu:IsPart vu hi)
  (h:Q (((sIx n 0 lo:Nat):Int),1,sIx n n hi-sIx n 0 lo) s):wpAny (model prog w) A (Builtin.Slice.sliceApplied (.ref sl) (pure (n:Int))) Q E s:=by
 obtain⟨os,hos,hcs,hds⟩:=id hs;unfold Builtin.Slice.sliceApplied Builtin.Slice.sliceFields;refine N3 (N3 (Oe hos hds (x:=vl) rfl (N3 (Oe hos hds (x:=vu) rfl (N3 (Oe hos hds (x:=.none) rfl (N5 ?_)))))));refine N3 (slicePart_none ?_);show wpAny _ _ (if((1:Int)==0)=true then _ else _) _ _ s;rw[if_neg (by decide)];refine N3 (gy pl (N3 (gy pu (N3 (N5 ?_)))));show wpAny _ _ (match Builtin.Slice.sliceAdjust lo hi 1 (n:Int) with|(lo,hi)=>pure (lo,(1:Int),Builtin.Slice.slicePlaces lo hi 1)) _ _ s;rw[j4 lo hi n];show wpAny _ _ (pure (((sIx n 0 lo:Nat):Int),(1:Int),Builtin.Slice.slicePlaces ((sIx n 0 lo:Nat):Int) ((sIx n n hi:Nat):Int) 1)) _ _ s;rw[j5];exact N5 h
theorem mL(xs:Array Value)(i k:Nat):((List.range k).filterMap λ(m:Nat)=>xs[((i:Int)+(m:Int)*1).toNat]?).toArray=((xs.toList.drop i).take k).toArray:=by
 have e:(λ(m:Nat)=>xs[((i:Int)+(m:Int)*1).toNat]?)=λm=>xs[i+m]?:=by
  funext m;have:((i:Int)+(m:Int)*1).toNat=i+m:=by omega
  rw[this]
 rw[e];have:=pick_run xs i k;rw[List.filterMap_map] at this;have e2:((λx=>xs[x]?)∘λx=>i+x)=λm=>xs[i+m]?:=rfl;rw[e2] at this;rw[this]
theorem getItem_tuple_cut{t sl:Addr}{items:Array Value}{vl vu:Value}{lo hi:Option Int}{Q:Value->Shared->Prop}(ht:IsTup s.heap t items)(hs:s.heap.IsSliceOf sl vl vu .none)(pl:IsPart vl lo)(pu:IsPart vu hi)
  (hw:¬(sIx items.size 0 lo=0/\sIx items.size items.size hi=items.size))
  (h:Q (.ref s.heap.objs.size) { s with heap:=s.heap.push { cls:=.type "tuple",data:=.seq ((items.toList.drop (sIx items.size 0 lo)).take (sIx items.size items.size hi-sIx items.size 0 lo)).toArray } })
  (hsz:items.size<=sizeLine):wpAny (model prog w) A (getItem (.ref t) (.ref sl)) Q E s:=by
 have htake:sizeOk (.seq ((items.toList.drop (sIx items.size 0 lo)).take (sIx items.size items.size hi-sIx items.size 0 lo)).toArray):=by
  show((items.toList.drop (sIx items.size 0 lo)).take (sIx items.size items.size hi-sIx items.size 0 lo)).toArray.size<=sizeLine;rw[eM,gT,ja,yo];omega
 have hj:sIx items.size items.size hi<=items.size:=sO _ _ (bM _) hi;obtain⟨os,hos,hcs,hds⟩:=id hs;have hTs:s.TypeIs (.ref sl) "slice" :=⟨os,hos,hcs⟩
 unfold getItem
 try with_reducible refine Om ?_
 first|refine N3 (N5 ?_)|skip
 refine N3 (wpAny_sequenceKey ht.typeIs (by decide) ?_);refine N3 (wpAny_callSpecial?_slot (name:=Str.ofString "__getitem__") ht.typeIs PyProof.Rows.slot_tuple_getitem
  (Os PyProof.Rows.slot_tuple_getitem ht.typeIs entry_tuple_getitem ?_ (args_tuple_getitem _ _)))
 show wpAny _ _ (Builtin.Tuple.tupleItemsOf (.ref t) >>= _) _ _ s;refine N3 (tupleItemsOf_ ht ?_);refine N3 (OD hTs ?_);rw[if_pos (by decide)];refine N3 (dB hs pl pu ?_);have hno:¬((((sIx items.size 0 lo:Nat):Int)==0&&(1:Int)==1&&(sIx items.size items.size hi-sIx items.size 0 lo)==items.size)=true):=by
  intro q;rw[cT,cT] at q;have q1:((sIx items.size 0 lo:Nat):Int)=0:=eq_of_beq q.1.1;have q2:sIx items.size items.size hi-sIx items.size 0 lo=items.size:=eq_of_beq q.2;exact hw ⟨by omega,by omega⟩
 show wpAny _ _ (if(((sIx items.size 0 lo:Nat):Int)==0&&(1:Int)==1&&(sIx items.size items.size hi-sIx items.size 0 lo)==items.size)=true then _ else _) _ _ s;rw[if_neg hno,mL]
 first
  |exact N3 (m:=Builtin.Tuple.tupleExact _) (Og (N5 ⟨_,rfl,N5 h⟩) htake)
  |exact N3 (m:=Builtin.Tuple.tupleExact _) (Og (N3 (N5 (N5 ⟨_,rfl,N5 h⟩))) htake)
  |exact N3 (N3 (m:=Builtin.Tuple.tupleExact _) (Og (N5 (N5 ⟨_,rfl,N5 h⟩)) htake))
  |exact N3 (N3 (m:=Builtin.Tuple.tupleExact _) (Og (N5 ⟨_,rfl,N5 h⟩) htake))
end
end HT
namespace L2
open PySem PySem.Spec PyProof.Rows
variable{X:Cx}{e:Expr}{pos:Pos}{r:V->Option Int->Option Int->Hp->VK->Prop}{xs:List V}{n j t':Nat}{i:Int}{v:Value}{pins:List (Addr×Obj)}{σ:St}{H:Hp}{s:Shared}{its':List Value}{f:Array Value->Array Value}{A:Around}{x:V}{T:String}
abbrev TO:=St->Hp->(Option Int->Hp->Prop)->Prop
def PO(X:Cx)(e:Option Expr)(t:TO):Prop:=
 ∀(pins:List (Addr×Obj)) (s:Shared) (σ:St) (H:Hp) (Q:Option Int->Hp->Prop),Inv X pins σ H s->t σ H Q->
  wpAny (model X.prog X.w) X.A (evalPart e X.env) (λu s'=>∃o H',Inv X pins σ H' s'/\IsPart u o/\Q o H') X.xe s
def qa:TO:=λ_ H Q=>Q none H
def vn(t:TE):TO:=λσ H Q=>t σ H λx H1=>∃i,x=.int i/\Q (some i) H1
section
variable{te:TE}{lo hi:Option Expr}{tl th:TO}{p2:Pos}
theorem qb:PO X none qa:=by
 intro pins s σ H Q I h;rw[evalPart_none];exact N5 ⟨none,H,I,.none,h⟩
theorem qc(h:PE X e te):PO X (some e) (vn te):=by
 intro pins s σ H Q I hw;rw[evalPart_some];refine bG (h pins s σ H _ I hw) λu s1 ⟨x,H1,I1,r1,q1⟩=>?_;obtain⟨i,rfl,q⟩:=q1;obtain⟨t,rfl⟩:=r1;exact⟨some i,H1,I1,.int i t,q⟩
def SlR(X:Cx)(r:V->Option Int->Option Int->Hp->VK->Prop):Prop:=
 ∀(pins:List (Addr×Obj)) (s:Shared) (σ:St) (H:Hp) (x:V) (v vl vu:Value) (lo hi:Option Int) (sl:Addr) (Q:VK),Inv X pins σ H s->RelV x v->s.heap.IsSliceOf sl vl vu .none->IsPart vl lo->IsPart vu hi->r x lo hi H Q->
  ∃T id,typeLookup (.type T) "__getitem__" = pure (some (.builtin id))/\s.TypeIs v T/\wpAny (model X.prog X.w) X.A (getItem v (.ref sl)) (EP X pins σ Q) X.xe s
theorem SlR.or{r':V->Option Int->Option Int->Hp->VK->Prop}(h:SlR X r)(h':SlR X r'):SlR X (λx lo hi H Q=>r x lo hi H Q\/r' x lo hi H Q):=by
 intro pins s σ H x v vl vu lo hi sl Q I rx hs pl pu q;rcases q with q|q
 .exact h pins s σ H x v vl vu lo hi sl Q I rx hs pl pu q
 .exact h' pins s σ H x v vl vu lo hi sl Q I rx hs pl pu q
def Ik(r:V->Option Int->Option Int->Hp->VK->Prop)(te:TE)(tl th:TO):TE:=λσ H Q=>te σ H λx H1=>tl σ H1 λl H2=>th σ H2 λu H3=>r x l u H3 Q
theorem mM(hr:SlR X r)(he:PE X e te)(hl:PO X lo tl)(hu:PO X hi th):PE X (.Subscript e (.Slice lo hi none p2) pos) (Ik r te tl th):=by
 intro pins s σ H Q I h;refine Subscript_ (bG (he pins s σ H _ I h) λv s1 ⟨x,H1,I1,r1,q1⟩=>?_);refine wpAny_Slice (bG (hl pins s1 σ H1 _ I1 q1) λvl s2 ⟨l,H2,I2,pl,q2⟩=>bG (hu pins s2 σ H2 _ I2 q2) λvu s3 ⟨u,H3,I3,pu,q3⟩=>?_);rw[evalPart_none];refine N5 ?_;have I4:Inv X pins σ H3 { s3 with heap:=s3.heap.push { cls:=.type "slice",data:=.fields #[vl,vu,.none] } }:=I3.kept (t':=s3.toks) λb ob q=>cX _ q;obtain⟨T,id,hT,ht,hg⟩:=hr pins { s3 with heap:=s3.heap.push { cls:=.type "slice",data:=.fields #[vl,vu,.none] } } σ H3 x v vl vu l u s3.heap.objs.size Q I4 r1 (Heap.IsSliceOf.new ..) pl pu q3;show wpAny (model X.prog X.w) X.A (subscriptTail e (.Slice lo hi none p2) v (.ref s3.heap.objs.size)) (EP X pins σ Q) X.xe { s3 with heap:=s3.heap.push { cls:=.type "slice",data:=.fields #[vl,vu,.none] } };exact tail_any (ops:=[.ref s3.heap.objs.size,v]) ht hT hg (by with_unfolding_all rfl)
def jt(xs:List V)(lo hi:Option Int):List V:=(xs.drop (HT.sIx xs.length 0 lo)).take (HT.sIx xs.length xs.length hi-HT.sIx xs.length 0 lo)
theorem fO(xs:List V)(lo hi:Option Int):(jt xs lo hi).length<=xs.length:=by
 unfold jt;rw[gT,ja];omega
def A2(K:N4):V->Option Int->Option Int->Hp->VK->Prop:=λx lo hi H Q=>∃a xs,x=.ref a/\SqT K H a xs/\
 ¬(HT.sIx xs.length 0 lo=0/\HT.sIx xs.length xs.length hi=xs.length)/\∀p,H p=none->Q (.ref p) (upd H p (.tup (jt xs lo hi)))
theorem sl_tup:SlR X (A2 X.K):=by
 intro pins s σ H x v vl vu lo hi sl Q I rx hs pl pu h;obtain⟨a,xs,rfl,hx,hw,q⟩:=h;cases rx;obtain⟨its,r,ht,hz⟩:=I.tuple hx;have hlen:its.toArray.size=xs.length:=by rw[eM];exact r.length.symm
 refine⟨"tuple",_,PyProof.Rows.slot_tuple_getitem.lookup,ht.typeIs,?_⟩;refine HT.getItem_tuple_cut ht hs pl pu (by rw[hlen];exact hw) ?_ (by rw[hlen];exact hz);rw[hlen];refine⟨.ref s.heap.objs.size,_,I.laid (t':=s.toks) (o:=.tup (jt xs lo hi)) (λb ob q=>cX _ q) (bM _) ?_,rfl,q _ (I.hok.fresh (bM _))⟩;exact⟨f8 (fO xs lo hi) hz,_,(r.drop (HT.sIx xs.length 0 lo)).take (HT.sIx xs.length xs.length hi-HT.sIx xs.length 0 lo),IsTup.new _ _⟩
def vo(K:N4):R2:=λx y H Q=>∃a b xs ys,x=.ref a/\y=.ref b/\SqT K H a xs/\SqT K H b ys/\xs≠[]/\xs.length+ys.length<=sizeLine/\
 (ys=[]->Q (.ref a) H)/\(ys≠[]->∀p,H p=none->Q (.ref p) (upd H p (.tup (xs++ys))))
theorem Vals.nil_iff{us:List Value}(r:Vals xs us):us=[]↔xs=[]:=by
 cases r with
 |nil=>simp
 |cons _ _=>simp
theorem qd:OpR X (binaryOp .Add) (vo X.K):=by
 intro pins s σ H x y v u Q I rx ry h;obtain⟨a,b,xs,ys,rfl,rfl,ha,hb,hx,hz,q1,q2⟩:=h;cases rx;cases ry;obtain⟨its,r1,p1,_⟩:=I.tuple ha;obtain⟨its2,r2,p2,_⟩:=I.tuple hb;refine HT.cat_tup p1 p2 (λz=>hx (r1.nil_iff.mp z)) (λz=>⟨.ref a,H,I,rfl,q1 (r2.nil_iff.mp z)⟩) (λz=>?_) (by rw[<-r1.length,<-r2.length];exact hz);refine⟨.ref s.heap.objs.size,_,I.laid (t':=s.toks) (o:=.tup (xs++ys)) (λb ob q=>cX _ q) (bM _) ?_,rfl,q2 (λw=>z (r2.nil_iff.mpr w)) _ (I.hok.fresh (bM _))⟩;exact⟨by rw[eu];exact hz,_,r1.append r2,IsTup.new _ _⟩
end
def jb(n:Nat)(i:Int):Option Nat:=if 0<=i then(if i<n then some i.toNat else none) else if -(n:Int)<=i then some (i+n).toNat else none
def dw{α:Type}(xs:List α)(i:Int):Option α:=(jb xs.length i).bind λj=>xs[j]?
theorem kN(h:jb n i=some j):seqIndex? i n=some j/\j<n/\-(n:Int)<=i/\i<n:=by
 unfold jb at h
 by_cases h0:0<=i
 .rw[if_pos h0] at h
  by_cases h1:i<n
  .rw[if_pos h1] at h
   have e:i.toNat=j:=N8 h;exact⟨by rw[seqIndex_of h0 h1,e],by omega,by omega,h1⟩
  .rw[if_neg h1] at h;cases h
 .rw[if_neg h0] at h
  by_cases h1:-(n:Int)<=i
  .rw[if_pos h1] at h
   have e:(i+n).toNat=j:=N8 h;exact⟨by rw[seqIndex_neg (by omega) h1,e],by omega,h1,by omega⟩
  .rw[if_neg h1] at h;cases h
theorem iK{α:Type}{xs:List α}{v:α}(h:dw xs i=some v):∃j,seqIndex? i xs.length=some j/\xs[j]? = some v/\j<xs.length/\-(xs.length:Int)<=i/\i<xs.length:=by
 unfold dw at h;cases e:jb xs.length i with
 |none=>rw[e] at h;cases h
 |some j=>
  rw[e] at h;obtain⟨h1,h2,h3,h4⟩:=kN e;exact⟨j,h1,h,h2,h3,h4⟩
theorem bS{α:Type}{xs:List α}{v:α}(h:xs[j]? = some v):dw xs (j:Int)=some v:=by
 have hj:j<xs.length:=(Yar.mp h).1;have e:jb xs.length (j:Int)=some j:=by
  unfold jb;rw[if_pos (by omega),if_pos (by omega)];simp
 unfold dw;rw[e];exact h
theorem mO{α:Type}(xs:List α)(v:α):dw (xs++[v]) (-1)=some v:=by
 have hl:(xs++[v]).length=xs.length+1:=by simp
 have e:jb (xs++[v]).length (-1)=some xs.length:=by
  unfold jb;rw[hl,if_neg (by decide),if_pos (by omega)];congr 1;omega
 unfold dw;rw[e];show(xs++[v])[xs.length]? = some v;simp
def iM(b:Expr):Prop:=∀o i,subscripted b false o i=operate [o,i] (getItem o i)
def IxR(X:Cx)(r:R2):Prop:=
 ∀(value slice:Expr) (pins:List (Addr×Obj)) (s:Shared) (σ:St) (H:Hp) (x y:V) (v u:Value) (Q:VK),Inv X pins σ H s->RelV x v->RelV y u->r x y H Q->
  subscripted slice false v u=operate [v,u] (getItem v u)->wpAny (model X.prog X.w) X.A (subscriptTail value slice v u) (EP X pins σ Q) X.xe s
def MtR(X:Cx)(id:String)(r:V->List V->Hp->VK->Prop):Prop:=
 ∀(pins:List (Addr×Obj)) (s:Shared) (σ:St) (H:Hp) (x:V) (xs:List V) (v:Value) (us:List Value) (Q:VK),Inv X pins σ H s->RelV x v->Vals xs us->r x xs H Q->
  wpAny (model X.prog X.w) X.A (call (.builtin id) (v::us)) (EP X pins σ Q) X.xe s
section
variable{a b:Expr}{ta tb:TE}
theorem IxR.or{r r':R2}(h:IxR X r)(h':IxR X r'):IxR X (λx y H Q=>r x y H Q\/r' x y H Q):=by
 intro value slice pins s σ H x y v u Q I rx ry q hs;rcases q with q|q
 .exact h value slice pins s σ H x y v u Q I rx ry q hs
 .exact h' value slice pins s σ H x y v u Q I rx ry q hs
theorem MtR.or{id:String}{r r':V->List V->Hp->VK->Prop}(h:MtR X id r)(h':MtR X id r'):MtR X id (λx xs H Q=>r x xs H Q\/r' x xs H Q):=by
 intro pins s σ H x xs v us Q I rx rs q;rcases q with q|q
 .exact h pins s σ H x xs v us Q I rx rs q
 .exact h' pins s σ H x xs v us Q I rx rs q
theorem qQ{r:R2}(hr:IxR X r)(ha:PE X a ta)(hb:PE X b tb)(hs:iM b):PE X (.Subscript a b pos) (yO r ta tb):=by
 intro pins s σ H Q I h;exact Subscript_ (sC ha hb I h λv u s2 x y H2 I2 rx ry q=>hr a b pins s2 σ H2 x y v u Q I2 rx ry q (hs _ _))
def vp(K:N4):R2:=λx y H Q=>∃p xs i v,x=.ref p/\y=.int i/\SqL K H p xs/\dw xs i=some v/\Q v H
def vq(K:N4):R2:=λx y H Q=>∃p xs i v,x=.ref p/\y=.int i/\SqT K H p xs/\dw xs i=some v/\Q v H
def vt:R2:=λx y H Q=>∃z i c,x=.str z/\y=.int i/\z.length<=sizeLine/\dw z.cps.toList i=some c/\Q (.str ⟨#[c]⟩) H
theorem ix_list:IxR X (vp X.K):=by
 intro value slice pins s σ H x y v u Q I rx ry h hs;obtain⟨p,xs,i,z,rfl,rfl,hq,he,q⟩:=h;cases rx;obtain⟨t,rfl⟩:=ry;obtain⟨its,r,pl,hz⟩:=I.list hq;obtain⟨j,h1,h2,h3,h4,h5⟩:=iK he;obtain⟨w,ew,rw'⟩:=r.get h2;have hl:=r.length;have hn:=fA;have fin:EP X pins σ Q w s:=⟨z,H,I,rw',q⟩
 by_cases h0:0<=i
 .have hj:i.toNat=j:=by
   rw[seqIndex_of h0 h5] at h1;exact N8 h1
  exact item_listR pl.isList h0 (by omega) (by rw[hj];simpa using ew) fin hs
 .have hj:(i+(its.toArray.size:Int)).toNat=j:=by
   rw[seqIndex_neg (by omega) h4] at h1;rw[eM,<-hl];exact N8 h1
  exact subscriptTail_builtinR (x:=w) pl.isList.typeIs slot_list_getitem.lookup
   (wpAny_getItem_list_neg (Q:=λr s'=>r=w/\EP X pins σ Q r s') pl.isList (by omega) (by rw[eM]<;>omega) (by omega) (by rw[hj];simpa using ew) ⟨rfl,fin⟩) hs
theorem ix_tup:IxR X (vq X.K):=by
 intro value slice pins s σ H x y v u Q I rx ry h hs;obtain⟨p,xs,i,z,rfl,rfl,hq,he,q⟩:=h;cases rx;obtain⟨t,rfl⟩:=ry;obtain⟨its,r,pl,hz⟩:=I.tuple hq;obtain⟨j,h1,h2,h3,h4,h5⟩:=iK he;obtain⟨w,ew,rw'⟩:=r.get h2;have hl:=r.length;have hn:=fA;have fin:EP X pins σ Q w s:=⟨z,H,I,rw',q⟩
 exact subscriptTail_builtinR (x:=w) pl.typeIs slot_tuple_getitem.lookup
  (getItem_tuple (j:=j) (Q:=λr s'=>r=w/\EP X pins σ Q r s') pl (by omega) (by omega) (by rw[eM,<-hl];exact h1) (by simpa using ew) ⟨rfl,fin⟩) hs
theorem sP:IxR X vt:=by
 intro value slice pins s σ H x y v u Q I rx ry h hs;obtain⟨z,i,c,rfl,rfl,hz,he,q⟩:=h;obtain⟨t,rfl⟩:=rx;obtain⟨t',rfl⟩:=ry;obtain⟨j,h1,h2,h3,h4,h5⟩:=iK he;have hl:z.cps.toList.length=z.length:=by simp[Str.length]
 rw[hl] at h1 h4 h5;have hn:=fA;exact tail_any (typeIs_str s z t) slot_str_getitem.lookup (getItem_str (c:=c) (by
  have e1:decide (i < -(2^63:Int))=false:=Ol (by omega);have e2:decide (i ≥ 2^63)=false:=Ol (by omega);rw[e1,e2,Bool.or_false]) (by rw[h1];simpa using h2) ⟨.str ⟨#[c]⟩,H,I.tok _,⟨_,rfl⟩,q⟩) hs
def Eg(K:N4):R2:=λx y H Q=>vp K x y H Q\/vq K x y H Q\/vt x y H Q
def j6:IxR X (Eg X.K):=ix_list.or (ix_tup.or sP)
theorem j7(its:List Value)(n j:Nat)(u:Value):Obj.mapSeq (·.setIfInBounds j u) { cls:=.type "list",data:=.seq its.toArray n }={ cls:=.type "list",data:=.seq (its.set j u).toArray n }:=by
 simp[Obj.mapSeq]
theorem Inv.lst{pins:List (Addr×Obj)}{σ:St}{H:Hp}{s:Shared}{p:Addr}{xs:List V}(I:Inv X pins σ H s)(h:H p=some (.lst xs)) :
  ∃(its:List Value) (n:Nat),Vals xs its/\s.heap.get? p=some { cls:=.type "list",data:=.seq its.toArray n }/\xs.length<=sizeLine:=by
 obtain⟨z,its,n,r,e⟩:=I.hok p _ h;exact⟨its,n,r,e,z⟩
theorem Inv.lstUpd{p:Addr}{ys:List V}{its:List Value}{n':Nat}{f:Obj->Obj}(I:Inv X pins σ H s)(h:H p=some (.lst xs))
  (ho:s.heap.get? p=some { cls:=.type "list",data:=.seq its.toArray n }) (hf:f { cls:=.type "list",data:=.seq its.toArray n }={ cls:=.type "list",data:=.seq its'.toArray n' }) (r:Vals ys its') (hz:ys.length<=sizeLine) (t:Nat) :
  Inv X pins σ (upd H p (.lst ys)) { s with heap:=s.heap.update p f,toks:=t }:=by
 have e:(s.heap.update p f).get? p=some { cls:=.type "list",data:=.seq its'.toArray n' }:=by
  rw[uQ f ho (by rw[hf]<;>rfl),hf]
 refine I.write (x:=p) (e:=p) (by rw[h];trivial) (.inl rfl) (λb u hb q=>(rH _ _ (Ob hb)).trans q) ⟨_,e⟩ ?_ (.inl ⟨_,h⟩);exact⟨hz,its',n',r,e⟩
def vv:V->V->V->Hp->(Hp->Prop)->Prop:=λo i v H Q=>∃p xs k j,o=.ref p/\i=.int k/\H p=some (.lst xs)/\jb xs.length k=some j/\Q (upd H p (.lst (xs.set j v)))
theorem eW:vb X vv:=by
 intro pins s σ H o i v ov iv u Q I ro ri rv h;obtain⟨p,xs,k,j,rfl,rfl,hp,hj,q⟩:=h;cases ro;obtain⟨t,rfl⟩:=ri;obtain⟨its,n,r,ho,hz⟩:=I.lst hp;obtain⟨h1,h2,h3,h4⟩:=kN hj;have hl:=r.length;have hn:=fA;have I':Inv X pins σ (upd H p (.lst (xs.set j v))) { s with heap:=s.heap.update p (Obj.mapSeq (·.setIfInBounds j u)) }:=
  I.lstUpd hp ho (j7 its n j u) (r.set rv j) (by rw[dv];exact hz) s.toks
 by_cases h0:0<=k
 .have hk:k.toNat=j:=by
   rw[seqIndex_of h0 h4] at h1;exact N8 h1
  exact PySem.W.ki_setAt ho h0 (by omega) (by rw[eM,<-hl];exact h4) (by rw[hk];exact⟨_,I',q⟩)
 .have hk:(k+(its.toArray.size:Int)).toNat=j:=by
   rw[seqIndex_neg (by omega) h3] at h1;rw[eM,<-hl];exact N8 h1
  exact PySem.W.ki_setBack ho (by omega) (by rw[eM,<-hl];exact h3) (by omega) (by rw[hk];exact⟨_,I',q⟩)
theorem iN(lo hi:Option Int)(n:Nat):(sliceBounds lo hi none n).1=((HT.sIx n 0 lo:Nat):Int)/\(sliceBounds lo hi none n).2.1=((HT.sIx n n hi:Nat):Int)/\(sliceBounds lo hi none n).2.2=1:=by
 refine⟨?_,?_,rfl⟩
 .cases lo with
  |none=>simp[sliceBounds,HT.sIx]
  |some i=>
   simp only[sliceBounds,HT.sIx,Option.getD_none,show(1:Int)>0 by decide,if_true]
   by_cases h:i<0
   .simp only[h,if_true]<;>omega
   .simp only[h,if_false]<;>omega
 .cases hi with
  |none=>simp[sliceBounds,HT.sIx]
  |some i=>
   simp only[sliceBounds,HT.sIx,Option.getD_none,show(1:Int)>0 by decide,if_true]
   by_cases h:i<0
   .simp only[h,if_true]<;>omega
   .simp only[h,if_false]<;>omega
theorem gU(its:List Value)(lo hi:Option Int):slicePick its.toArray lo hi none=((its.drop (HT.sIx its.length 0 lo)).take (HT.sIx its.length its.length hi-HT.sIx its.length 0 lo)).toArray:=by
 obtain⟨h1,h2,h3⟩:=iN lo hi its.toArray.size;unfold slicePick;rw[h1,h2,h3];simp only[sliceRange_one,pick_run,eM]<;>rfl
def A3(K:N4):V->Option Int->Option Int->Hp->VK->Prop:=λx lo hi H Q=>∃a xs,x=.ref a/\SqL K H a xs/\∀p,H p=none->Q (.ref p) (upd H p (.lst (jt xs lo hi)))
theorem sl_list:SlR X (A3 X.K):=by
 intro pins s σ H x v vl vu lo hi sl Q I rx hs pl pu h;obtain⟨a,xs,rfl,hx,q⟩:=h;cases rx;obtain⟨its,r,ht,hz⟩:=I.list hx;have hlen:=r.length;refine⟨"list",_,slot_list_getitem.lookup,ht.isList.typeIs,?_⟩;refine wpAny_getItem_list_slice ht.isList hs pl pu .none (by simp) ?_ (by rw[eM]<;>omega);rw[gU,<-hlen];refine⟨.ref s.heap.objs.size,_,I.laid (t':=s.toks) (o:=.lst (jt xs lo hi)) (λb ob q=>cX _ q) (bM _) ?_,rfl,q _ (I.hok.fresh (bM _))⟩;exact⟨f8 (fO xs lo hi) hz,_,0,(r.drop (HT.sIx xs.length 0 lo)).take (HT.sIx xs.length xs.length hi-HT.sIx xs.length 0 lo),f9 _ rfl⟩
def eX:V->Bool
 |.non=>true
 |.bl _=>true
 |.int _=>true
 |.str _=>true
 |_=>false
def qR:V->V->Bool
 |.non,.non=>true
 |.bl a,.bl b=>a==b
 |.bl a,.int b=>(if a then 1 else 0)==b
 |.int a,.bl b=>a==(if b then 1 else 0)
 |.int a,.int b=>a==b
 |.str a,.str b=>a==b
 |_,_=>false
theorem sQ{y:V}{u:Value}(ry:RelV y u)(rx:RelV x v)(fy:eX y=true)(fx:eX x=true):SeqAt.EqAt A s u v (qR y x):=by
 cases y with
 |non=>
  cases ry;cases x with
  |non=>cases rx;exact SeqAt.EqAt.same _
  |bl b=>cases rx;exact SeqAt.EqAt.none_bool b
  |int b=>obtain⟨t,rfl⟩:=rx;exact SeqAt.EqAt.none_int b t
  |str b=>obtain⟨t,rfl⟩:=rx;exact SeqAt.EqAt.none_str b t
  |_=>exact N6 (show false=true from fx) i9
 |bl a=>
  cases ry;cases x with
  |non=>cases rx;exact SeqAt.EqAt.bool_none a
  |bl b=>cases rx;exact SeqAt.EqAt.bool_bool a b
  |int b=>obtain⟨t,rfl⟩:=rx;exact SeqAt.EqAt.bool_int a b t
  |str b=>obtain⟨t,rfl⟩:=rx;exact SeqAt.EqAt.bool_str a b t
  |_=>exact N6 (show false=true from fx) i9
 |int a=>
  obtain⟨t',rfl⟩:=ry;cases x with
  |non=>cases rx;exact SeqAt.EqAt.int_none a t'
  |bl b=>cases rx;exact SeqAt.EqAt.int_bool a t' b
  |int b=>obtain⟨t,rfl⟩:=rx;exact SeqAt.EqAt.int_int a t' b t
  |str b=>obtain⟨t,rfl⟩:=rx;exact SeqAt.EqAt.int_str a t' b t
  |_=>exact N6 (show false=true from fx) i9
 |str a=>
  obtain⟨t',rfl⟩:=ry;cases x with
  |non=>cases rx;exact SeqAt.EqAt.str_none a t'
  |bl b=>cases rx;exact SeqAt.EqAt.str_bool a t' b
  |int b=>obtain⟨t,rfl⟩:=rx;exact SeqAt.EqAt.str_int a t' b t
  |str b=>obtain⟨t,rfl⟩:=rx;exact SeqAt.EqAt.str_str a t' b t
  |_=>exact N6 (show false=true from fx) i9
 |_=>exact N6 (show false=true from fy) i9
def qe(x:V)(u:Value):Bool:=match u with
 |.none=>qR .non x
 |.bool b=>qR (.bl b) x
 |.int i _=>qR (.int i) x
 |.str z _=>qR (.str z) x
 |_=>false
theorem mP{y:V}{u:Value}(r:RelV y u)(f:eX y=true):qe x u=qR y x:=by
 cases y with
 |non=>cases r;rfl
 |bl b=>cases r;rfl
 |int i=>obtain⟨t,rfl⟩:=r;rfl
 |str z=>obtain⟨t,rfl⟩:=r;rfl
 |_=>exact N6 (show false=true from f) i9
theorem iO{x:V}:∀{xs:List V} {us:List Value},Vals xs us->xs.all eX=true->us.any (qe x)=xs.any λy=>qR y x
 |_,_,.nil,_=>rfl
 |y::xs,u::us,.cons r t,f=>by
  rw[yt,cT] at f;rw[yu,yu,mP r f.1,iO t f.2]
theorem gz{A:Around}{s:Shared}{x:V}{v:Value}(rx:RelV x v)(fx:eX x=true):∀{xs:List V} {us:List Value},Vals xs us->xs.all eX=true->∀u∈us,SeqAt.EqAt A s u v (qe x u)
 |_,_,.nil,_=>λu hu=>by cases hu
 |y::xs,u::us,.cons r t,f=>λu' hu=>by
  rw[yt,cT] at f;rcases Yao.mp hu with rfl|hu
  .rw[mP r f.1];exact sQ r rx f.1 fx
  .exact gz rx fx t f.2 u' hu
def yQ(x:V)(xs:List V):Bool:=xs.any λy=>qR y x
def Ei(K:N4)(neg:Bool):R2:=λx y H Q=>∃p xs,y=.ref p/\(SqL K H p xs\/SqT K H p xs)/\eX x=true/\xs.all eX=true/\Q (.bl (if neg then !yQ x xs else yQ x xs)) H
theorem iP:OpR X (compareOp .NotIn) (Ei X.K true):=by
 intro pins s σ H x y v u Q I rx ry h;obtain⟨p,xs,rfl,hq,fx,fs,q⟩:=h;cases ry;rcases hq with hq|hq
 .obtain⟨its,r,pl,hz⟩:=I.list hq
  refine SeqAt.notIn_listAt (qe x) pl.isList (λw hw=>gz rx fx r fs w (by simpa using hw)) ⟨.bl _,H,I,rfl,?_⟩;rw[show its.toArray.any (qe x)=its.any (qe x) by simp,iO r fs];exact q
 .obtain⟨its,r,pl,hz⟩:=I.tuple hq
  refine SeqAt.notIn_tupleAt (qe x) pl (λw hw=>gz rx fx r fs w (by simpa using hw)) ⟨.bl _,H,I,rfl,?_⟩;rw[show its.toArray.any (qe x)=its.any (qe x) by simp,iO r fs];exact q
theorem iQ:CallR X (.builtin "len") (λxs H Q=>∃p ys,xs=[.ref p]/\(SqL X.K H p ys\/SqT X.K H p ys)/\Q (.int ys.length) H):=by
 intro pins s σ H xs us Q I r h;obtain⟨p,ys,rfl,hq,q⟩:=h;obtain⟨u,rfl,rx⟩:=eN r;cases rx;have hn:=fA;rcases hq with hq|hq
 .obtain⟨its,r',pl,hz⟩:=I.list hq
  have hlen:=r'.length;exact Calls.call_len_list pl.isList (by simp only[eM]<;>omega) ⟨.int ys.length,H,I.tok _,⟨s.toks+1,by rw[eM,hlen]⟩,q⟩
 .obtain⟨its,r',pl,hz⟩:=I.tuple hq
  have hlen:=r'.length;exact len_tuple pl (by simp only[eM]<;>omega) ⟨.int ys.length,H,I.tok _,⟨s.toks+1,by rw[eM,hlen]⟩,q⟩
theorem CallR.or{f:Value}{r r':List V->Hp->VK->Prop}(h:CallR X f r)(h':CallR X f r'):CallR X f (λxs H Q=>r xs H Q\/r' xs H Q):=by
 intro pins s σ H xs us Q I rs q;rcases q with q|q
 .exact h pins s σ H xs us Q I rs q
 .exact h' pins s σ H xs us Q I rs q
theorem iR:CallR X (.type "list") (λxs H Q=>∃p ys,xs=[.ref p]/\(SqL X.K H p ys\/SqT X.K H p ys)/\∀l,H l=none->Q (.ref l) (upd H l (.lst ys))):=by
 intro pins s σ H xs us Q I r h;obtain⟨p,ys,rfl,hq,q⟩:=h;obtain⟨u,rfl,rx⟩:=eN r;cases rx;have fin:∀(its:List Value),Vals ys its->ys.length<=sizeLine->∀(h':Heap) (c':Nat),(∀b o',s.heap.get? b=some o'->h'.get? b=some o')->
   h'.get? s.heap.objs.size=some { cls:=.type "list",dict:=none,data:=.seq its.toArray c',slots:=#[] }->EP X pins σ Q (.ref s.heap.objs.size) { s with heap:=h' }:=λits r' hz h' c' kp e=>
  ⟨.ref s.heap.objs.size,_,I.laid (t':=s.toks) kp (bM _) (show ObjOk X.prog X.w _ h' _ (.lst ys) from⟨hz,its,c',r',e⟩),rfl,q _ (I.hok.fresh (bM _))⟩
 rcases hq with hq|hq
 .obtain⟨its,r',pl,hz⟩:=I.list hq
  have hlen:=r'.length;obtain⟨o,ho,hc,n,hd⟩:=pl.isList;exact call_list_seq p (.inl rfl) ho hc hd (λh' c' kp e=>fin its r' hz h' c' kp e) (by simp only[eM]<;>omega)
 .obtain⟨its,r',pl,hz⟩:=I.tuple hq
  have hlen:=r'.length;obtain⟨o,ho,hc,n,hd⟩:=pl;exact call_list_seq p (.inr rfl) ho hc hd (λh' c' kp e=>fin its r' hz h' c' kp e) (by simp only[eM]<;>omega)
theorem gW:CallR X (.type "tuple") (λxs H Q=>∃p ys,xs=[.ref p]/\((SqL X.K H p ys/\∀l,H l=none->Q (.ref l) (upd H l (.tup ys)))\/(SqT X.K H p ys/\Q (.ref p) H))):=by
 intro pins s σ H xs us Q I r h;obtain⟨p,ys,rfl,h⟩:=h;obtain⟨u,rfl,rx⟩:=eN r;cases rx;rcases h with⟨hq,q⟩|⟨hq,q⟩
 .obtain⟨its,r',pl,hz⟩:=I.list hq
  have hlen:=r'.length;refine call_tuple_list pl.isList (λh' kp=>?_) (by simp only[eM]<;>omega);have I1:Inv X pins σ H { s with heap:=h' }:=I.kept (t':=s.toks) kp;have I2:Inv X pins σ (upd H h'.objs.size (.tup ys)) { s with heap:=h'.push { cls:=.type "tuple",data:=.seq its.toArray } }:=
   I1.laid (t':=s.toks) (λb o e=>cX _ e) (bM _) (show ObjOk X.prog X.w _ _ _ (.tup ys) from⟨hz,its,r',IsTup.new _ _⟩)
  exact⟨.ref h'.objs.size,_,I2,rfl,q _ (I1.hok.fresh (bM _))⟩
 .obtain⟨its,r',pl,hz⟩:=I.tuple hq
  exact call_tuple_same pl ⟨.ref p,H,I,rfl,q⟩
def Ej(K:N4)(T:String)(x:V)(H:Hp):Prop:=match x with
 |.str _=>T = "str"
 |.int _=>T = "int"
 |.ref p=>(T = "list" /\∃xs,SqL K H p xs)\/(T = "tuple" /\∃o,K.lookup p=some o/\o.cls=.type "tuple" /\o.dict=none)\/
   (T = "dict" /\((∃kvs,H p=some (.dK kvs))\/∃kvs,H p=some (.dT kvs)))\/(T = "set" /\∃S n,H p=some (.set S n))
 |_=>False
theorem sR(I:Inv X pins σ H s)(r:RelV x v)(ty:Ej X.K T x H) :
  s.TypeIs v T/\∀a,v=.ref a->∃ob,s.heap.get? a=some ob/\ob.dict=none:=by
 cases x with
 |str z=>
  obtain⟨t,rfl⟩:=r;cases(show T = "str" from ty);exact⟨typeIs_str s z t,λ_ e=>nomatch e⟩
 |int i=>
  obtain⟨t,rfl⟩:=r;cases(show T = "int" from ty);exact⟨typeIs_int s i t,λ_ e=>nomatch e⟩
 |ref p=>
  cases r;rcases ty with⟨rfl,xs,hq⟩|⟨rfl,o,hk,hc,hd⟩|⟨rfl,hk⟩|⟨rfl,S,n,hk⟩
  .obtain⟨its,_,pl,_⟩:=I.list hq
   refine⟨pl.isList.typeIs,λa e=>?_⟩;cases e;obtain⟨o,n,e,c,hd,_⟩:=pl;exact⟨o,e,hd⟩
  .refine⟨⟨o,I.kIn p o hk,hc⟩,λa e=>?_⟩
   cases e;exact⟨o,I.kIn _ o hk,hd⟩
  .have z:∃o,s.heap.get? p=some o/\o.ExactDict:=by
    rcases hk with⟨kvs,hk⟩|⟨kvs,hk⟩
    .obtain⟨_,_,_,_,o,_,_,e,ex,_⟩:=I.hok p _ hk
     exact⟨o,e,ex⟩
    .obtain⟨_,_,_,_,o,_,_,e,ex,_⟩:=I.hok p _ hk
     exact⟨o,e,ex⟩
   obtain⟨o,e,ex⟩:=z;refine⟨⟨o,e,ex.1⟩,λa e2=>?_⟩;cases e2;exact⟨o,e,ex.2.1⟩
  .obtain⟨o,_,_,_,e,ex,_⟩:=I.hok p _ hk
   refine⟨⟨o,e,ex.1⟩,λa e2=>?_⟩;cases e2;exact⟨o,e,ex.2.1⟩
 |_=>exact Oh ty
def Il(K:N4)(T:String)(r:V->List V->Hp->VK->Prop)(to:TE)(t:TA):TE:=λσ H Q=>to σ H λx H1=>Ej K T x H1/\t σ H1 λxs H2=>r x xs H2 Q
variable{o:Expr}{es:List Expr}{to:TE}{t:TA}{name:Str}{apos cpos:Pos}{id:String}{r:V->List V->Hp->VK->Prop}
theorem qS(pa:PlainAttrs T)(slot:Slot T name id)(hty:typeOf (.builtin id)=pure (.type "method_descriptor"))(hm:MtR X id r)(ho:PE X o to)(ha:PA X (e::es) t)
  (hbase:attributeBase o name X.env (eval o X.env)=eval o X.env:=by rfl)
  (hfew:((backTo cpos (starEach (e::es) X.env)).all (λx=>!x.1) && (backToKw cpos (keywordEach [] X.env)).all (λx=>x.1.isSome)
   && decide ((e::es).length+([]:List Keyword).length+(if([]:List Keyword).isEmpty then 0 else 1)<30))=true:=by rfl)
  (hline:(apos.endLine==cpos.line)=true:=by rfl) (hs:starEach (e::es) X.env=(false,eval e X.env)::starEach es X.env:=by rfl) (hplain:(backTo cpos (starEach es X.env)).any (·.1)=false:=by rfl) :
  PE X (.Call (.Attribute o name apos) (e::es) [] cpos) (Il X.K T r to t):=by
 intro pins s σ H Q I h;refine wpAny_Call_method_late hbase hfew hline rfl (bG (ho pins s σ H _ I h) λv s1 ⟨x,H1,I1,r1,ty,q1⟩=>?_);obtain⟨h1,h2⟩:=sR I1 r1 ty;refine⟨T,id,pa,slot,hty,h1,h2,?_⟩;have hA:=ha cpos pins s1 σ H1 _ I1 q1;rw[hs] at hA ⊢;refine Calls.callWith_builtin (by show(false||(backTo cpos (starEach es X.env)).any (·.1))=false;rw[hplain]<;>rfl) (Calls.evalArgs_plain ?_);exact bG hA λus s2 ⟨vs,H2,I2,r2,q2⟩=>hm pins s2 σ H2 x vs v us Q I2 r1 r2 q2
/- xs.append(e),list.index on a module's tuple .. are MtR facts of 06m -/
end
def Im(X:Cx)(id:String)(r:V->List V->Hp->VK->Prop):Prop:=
 ∀(pins:List (Addr×Obj)) (s:Shared) (σ:St) (H:Hp) (x:V) (xs:List V) (v:Value) (us:List Value) (Q:VK),Inv X pins σ H s->RelV x v->Vals xs us->r x xs H Q->
  wpAny (model X.prog X.w) X.A (call (.builtin id) (v::us)) (EP X pins σ Q) X.xe s
theorem Vals.one:∀{x:V} {us:List Value},Vals [x] us->∃u,us=[u]/\RelV x u
 |_,_,.cons r .nil=>⟨_,rfl,r⟩
theorem Vals.two:∀{x y:V} {us:List Value},Vals [x,y] us->∃u v,us=[u,v]/\RelV x u/\RelV y v
 |_,_,_,.cons r (.cons q .nil)=>⟨_,_,rfl,r,q⟩
def Vals.zero:∀{us:List Value},Vals [] us->us=[]
 |_,.nil=>rfl
theorem Vals.reverse{xs:List V}{us:List Value}(h:Vals xs us):Vals xs.reverse us.reverse:=by
 induction h with
 |nil=>exact .nil
 |cons r t ih=>rw[tS,tS];exact Vals.append ih (.cons r .nil)
theorem Vals.rep{xs:List V}{us:List Value}(h:Vals xs us):∀k:Nat,Vals (List.replicate k xs).flatten (List.replicate k us).flatten
 |0=>.nil
 |k+1=>by
  rw[gp,gp,qG,qG];exact Vals.append h (Vals.rep h k)
theorem eD(its:List Value):∀(k:Nat) (acc:List Value),
  List.foldl (λx1 x2=>x1++x2) acc.toArray (List.replicate k its.toArray)=(acc++(List.replicate k its).flatten).toArray
 |0,acc=>by simp
 |k+1,acc=>by
  have e:acc.toArray++its.toArray=(acc++its).toArray:=by simp
  have e2:(acc++its)++(List.replicate k its).flatten=acc++(List.replicate (k+1) its).flatten:=by
   rw[gp,qG,nD]
  rw[<-e2,<-eD its k (acc++its),<-e,gp,List.foldl_cons]
section
variable{l b:Addr}{ys zs:List V}
theorem Inv.lset{its:List Value}(I:Inv X pins σ H s)(hH:H l=some (.lst xs))
  (e:s.heap.get? l=some { cls:=.type "list",data:=.seq its.toArray n }) (hf:f its.toArray=its'.toArray) (hv:Vals ys its') (hz:ys.length<=sizeLine) :
  Inv X pins σ (upd H l (.lst ys)) { s with heap:=s.heap.update l (Obj.mapSeq f),toks:=t' }:=by
 have q:=PySem.IsL.update e f;rw[hf] at q;refine I.write (x:=l) (e:=l) (by rw[hH];exact trivial) (.inl rfl) (λb' u hb hu=>(rH s.heap (Obj.mapSeq f) (Ob hb)).trans hu) ⟨_,q⟩ ?_ (.inl ⟨_,hH⟩);exact⟨hz,its',_,hv,q⟩
theorem Inv.lnew{its:List Value}(I:Inv X pins σ H s)(hv:Vals ys its)(hz:ys.length<=sizeLine) :
  Inv X pins σ (upd H s.heap.objs.size (.lst ys)) { s with heap:=s.heap.push { cls:=.type "list",data:=.seq its.toArray },toks:=t' }:=
 I.laid (λ_ _ q=>cX _ q) (bM _) ⟨hz,its,0,hv,f9 _ rfl⟩
def Inv.fresh(I:Inv X pins σ H s):H s.heap.objs.size=none:=I.hok.fresh (bM _)
theorem Inv.lstM(I:Inv X pins σ H s)(hH:H l=some (.lst xs)):xs.length<=sizeLine/\∃(its:List Value) (n:Nat),Vals xs its/\xs.length=its.length/\s.heap.get? l=some { cls:=.type "list",data:=.seq its.toArray n }:=by
 obtain⟨z,its,n,r,e⟩:=I.hok l _ hH;exact⟨z,its,n,r,r.length,e⟩
theorem mQ(h:n<=sizeLine):Builtin.List.listTooLong n=false:=by
 unfold Builtin.List.listTooLong;exact Ol (by omega)
end
section
def qf:V->List V->Hp->VK->Prop:=λx vs H Q=>∃l xs y,x=.ref l/\vs=[y]/\H l=some (.lst xs)/\xs.length<sizeLine/\Q .non (upd H l (.lst (xs++[y])))
theorem lv:Im X "list.append" qf:=by
 intro pins s σ H x vs v us Q I rx rv h;obtain⟨l,xs,y,rfl,rfl,hH,hz,q⟩:=h;cases rx;obtain⟨u,rfl,ru⟩:=rv.one;obtain⟨z,its,n,r,hl,e⟩:=I.lstM hH;refine call_meets F.slot_list_append ⟨_,e,rfl⟩ F.entry_list_append (F.args_list_append_2 _ _) (PySem.list_append l its.toArray n u (by rw[eM];omega)) ⟨e,?_⟩;refine⟨.non,_,I.lset (its':=its++[u]) hH e (by simp) (r.append (.cons ru .nil)) ?_,rfl,q⟩;rw[eu,lQ];omega
def A4:R2:=λx y H Q=>∃l k xs,x=.ref l/\y=.int k/\H l=some (.lst xs)/\-(2^63)<=k/\k<2^63/\xs.length*k.toNat<=sizeLine/\
 ∀p,H p=none->Q (.ref p) (upd H p (.lst (List.replicate k.toNat xs).flatten))
theorem iU{α:Type}(xs:List α)(k:Nat):(List.replicate k xs).flatten.length=k*xs.length:=by
 induction k with
 |zero=>simp
 |succ k ih=>rw[gp,qG,eu,ih,qH,yv]
theorem mR:OpR X (binaryOp .Mult) A4:=by
 intro pins s σ H x y v u Q I rx ry h;obtain⟨l,k,xs,rfl,rfl,hH,h1,h2,hz,q⟩:=h;cases rx;obtain⟨t,rfl⟩:=ry;obtain⟨z,its,n,r,hl,e⟩:=I.lstM hH;have hlen:its.toArray.size*k.toNat<=sizeLine:=by rw[eM,<-hl];exact hz
 have hcap:¬its.toArray.size*k.toNat>(2^63-1)/8:=by
  have:(sizeLine:Nat)<=(2^63-1)/8:=by decide
  omega
 have hfit:¬(!Builtin.List.listFitsIndex k)=true:=by
  rw[fitsIndex_both h1 h2];exact i9
 have hlong:¬Builtin.List.listTooLong (its.toArray.size*k.toNat)=true:=by
  rw[mQ hlen];exact i9
 have hnew:List.foldl (λx1 x2=>x1++x2) #[] (List.replicate (if its.toArray.isEmpty=true then 0 else k.toNat) its.toArray)=(List.replicate k.toNat its).flatten.toArray:=by
  have f0:∀m:Nat,List.foldl (λx1 x2=>x1++x2) #[] (List.replicate m its.toArray)=(List.replicate m its).flatten.toArray:=λm=>by
   have:=eD its m [];rw[fw] at this;exact this
  rw[f0];cases its with
  |nil=>simp
  |cons a r'=>rw[if_neg (by simp)]
 refine wpAny_binaryOp_repeat_ref (T:= "list") (U:= "int") (by decide) ⟨_,e,rfl⟩ (λs'=>typeIs_int s' k t) noFill_list_mul F.fills_int_mul F.slot_int_rmul repeat_list F.slot_int_index.lookup
  (call_meets F.slot_int_rmul (typeIs_int s k t) F.entry_int_rmul (F.args_int_rmul_2 _ _) (int___rmul___int_list k t l its.toArray n)
   ⟨e,rfl,⟨_,e,rfl⟩,call_meets F.slot_list_mul ⟨_,e,rfl⟩ F.entry_list_mul (F.args_list_mul_2 _ _) (AutoListH.list___mul___list_int_3 l its.toArray n k t hfit hcap hlong) ⟨e,?_⟩⟩)
 rw[hnew];exact⟨.ref _,_,I.lnew (t':=s.toks) (r.rep k.toNat) (by rw[iU,Nat.mul_comm];exact hz),rfl,q _ I.fresh⟩
end
section
variable{prog:Program}{w:World}{E:Value->Shared->Prop}
end
end L2
namespace Att
open PySem PySem.W PySem.Calls PyProof.Rows
theorem fS{P:Params}{h:Heap}:∀(ns:List Int) (vs:List Value),WellAll P h vs (ns.map WData.int)->IntsAre vs ns:=by
 intro ns
 induction ns with
 |nil=>
  intro vs w;rw[h8] at w;cases w;exact .nil
 |cons n ns ih=>
  intro vs w;rw[da] at w;cases w with
  |cons a b=>
   cases a;exact .cons _ _ (ih _ b)
theorem lw{l:OpenLaw}{n:Nat}(hn:l.most=some n){P:Params}{h:Heap}{args:List WData}{vals:List Value}
  (hpre:l.row.toRowW.claim.pre args=true) (hwl:WellAll P h vals args) :
  ∃a vs ns,vals=[Value.ref a]/\args=[WData.list (ns.map WData.int)]/\h.get? a=some { cls:=.type "list",data:=.seq vs.toArray }/\IntsAre vs ns/\ns.length<=n:=by
 have hsh:WShape.hasAll [] args [.list .int]=true:=(pre_splitW hpre).1;have hc:l.pre.holds [] { args:=args }=true:=(pre_splitW hpre).2;obtain⟨d,r,rfl,h1,h2⟩:=hasAllW_cons hsh;obtain rfl:=hasAllW_nil h2;obtain⟨xs,rfl,h3⟩:=hasW_list h1;obtain⟨ns,rfl⟩:=items_int h3;have hlen:ns.length<=n:=by
  unfold OpenLaw.pre at hc;have h4:(WTm.not (.lt (.lit (.int (n:Int))) (.len (.arg 0)))).holds [] { args:=[.list (ns.map .int)] }=true:=by
   have h4:=(holds_andW hc).1;rw[hn] at h4;exact h4
  have h5:=condW_of h4 (w_not (w_lt w_lit (w_len_list (w_arg rfl))));rw[bP] at h5;refine Nat.le_of_not_lt λq=>?_;have q':(n:Int)<((ns.length:Nat):Int):=by omega
  first
   |(rw[N9 q'] at h5;exact N6 h5 (by decide))
   |(simp at h5;omega)
 cases hwl with
 |cons w1 w2=>
  cases w2;cases w1 with
  |list ho hall=>exact⟨_,_,ns,rfl,rfl,ho,fS ns _ hall,hlen⟩
theorem ly(l:OpenLaw)(args:List WData):l.row.toRowW.claim.post args (.bool true) args=true:=
 postW_of (r:=l.row.toRowW) (X:=(true==true))
  (show WShape.has [] (.bool true) .bool=true by first|rfl|decide|simp[WShape.has,WShape.arms,WShape.armsAll])
  (show(WTm.eq .res (.lit (.bool true))).value [] { args:=args,res:=some (.bool true),after:=args }=some (.bool (true==true)) from w_eq_bool (w_res rfl) w_lit) rfl
theorem attach_call{l:OpenLaw}{n:Nat}{q:Program}{loose:List Str}{XP:(Str->Option Value)->Heap->Prop}{YP:World->Heap->Prop}{d:DefRec}
  (hn:l.most=some n) (hdf:d.params.defaults=[])
  (call:∀ (w:World) (s₀ s₁:Shared) (mg mb:Str->Option Value) (fa:Addr) (o:Obj) (pm cd doc:Value) (a:Addr) (vs:List Value) (ns:List Int),
   Ground q loose [] XP w s₀ mg mb s₁.heap->YP w s₁.heap->
   s₁.heap.get? fa=some o->o.data=.func (docDef d.name d.params d.body d.scope pm cd doc)->s₁.heap.CodeRec cd d.name->mg d.name=some (.ref fa)->
   s₁.heap.get? a=some { cls:=.type "list",data:=.seq vs.toArray }->IntsAre vs ns->ns.length<=n->(a==sysModules)=false->s₁.gens = #[]->
   codeAny (model l.prog w) callerA (.call (.ref fa) ⟨[.ref a],[]⟩) (λr s'=>r=.ok (.ret (.bool true))/\OldK s₁.heap s'.heap/\s'.os=s₁.os/\AllBare s'.gens) s₁) :
  WalkO q loose XP YP l.row.toRowW d [] (λf vs=>PySem.call f vs):=by
 intro w s₀ s₁ mg mb G Y fa o pm cd doc dV kV ho hd hcd hD hmg hg args vals as hpre hlay hrd hwl hlo;obtain rfl:dV=.none:=Dflts.none hD hdf;obtain rfl:kV=.none:=Dflts.noKw hD;obtain⟨a,vs,ns,rfl,rfl,hobj,hints,hlen⟩:=lw hn hpre hwl;have hsy:(a == sysModules)=false:=hlo a (by
  cases hrd with
  |cons h1 h2=>cases h1;simp)
 refine enter_call (codeAny_mono (call w s₀ s₁ mg mb fa o pm cd doc a vs ns G Y ho (fd_plain hd) hcd hmg hobj hints hlen hsy hg) λr s' hq=>?_);obtain⟨rfl,h2,h3,h4⟩:=hq;exact⟨.inl ⟨.bool true,.bool true,[],rfl,λ_=>rfl,.bool true,ly l _,λ_=>⟨List.Pairwise.nil,λ_ hm=>(nomatch hm)⟩⟩,h2,h3,h4⟩
section
variable{prog:Program}{w:World}{A:Around}{E:Value->Shared->Prop}{s:Shared}{K:Frag}
end
end Att
namespace L2
open PySem PySem.Spec PyProof.Rows
variable{P:Program}{w:World}{K:N4}{mg:Str->Option Value}{k:Nat}{a f:Addr}{fd:FuncData}{x qual:Str}{l:PySem.W.OpenLaw}{XP:(Str->Option Value)->Heap->Prop}{YP:World->Heap->Prop}{st:Stmt}{ps vars:List Str}{osl:Array (Option Value)}{X:Cx}{pos:Pos}{H H1:Hp}{scope sc:Scope}{env:Env}{A:Around}{s:Shared}{Q:Env->Shared->Prop}{pins:List (Addr×Obj)}{σ:St}{sel:List Nat}{fp:List Addr}{tn:Nat->Heap->Prop}{wi:TI}
theorem ij:∀{vs:List Value} {ns:List Int},IntsAre vs ns->Vals (ns.map V.int) vs
 |_,_,.nil=>.nil
 |_,_,.cons n t h=>.cons ⟨t,rfl⟩ (ij h)
def qg(H:Hp):Prop:=∀b,H b=none\/∃o xs,H b=some (.frz o (.lst xs))
theorem mS{mb:Str->Option Value}{CX:lT}{fa:Addr}{sp:Sp}{s₁:Shared}{vs:List Value}{ns:List Int}
  (KX:K.In s₁.heap) (hns:s₁.heap.Ns mainGlobals mg) (hb:s₁.heap.Ns builtinsNs mb) (hbb:∀x:Str,x≠ "__name__" ->mb x=bootBuiltins x) (hlim:s₁.heap.NoLimit) (hg:s₁.gens = #[])
  (ha:s₁.heap.get? a=some { cls:=.type "list",data:=.seq vs.toArray }) (hi:IntsAre vs ns) (hl:ns.length<=sizeLine) (hsy:(a==sysModules)=false) (hr:Room k callerA)
  (F:∀base:Heap,K.In base->base.Ns mainGlobals mg->FnOk P w K mg base CX k fa fd [x] sp) (hbind:∀(s:Shared) (u:Value),BindsTo s fd ⟨[u],[]⟩ [(x,u)])
  (hsp:∀H:Hp,qg H->SqL K H a (ns.map V.int)->sp [.ref a] H (λv _=>v=.bl true) λ_ _ _=>False)
  (hCX:∀H e s',CX [] H s₁ (λ_ _ _=>False) e s'->False) :
  codeAny (model P w) callerA (.call (.ref fa) ⟨[.ref a],[]⟩) (λr s'=>r=.ok (.ret (.bool true))/\OldK s₁.heap s'.heap/\s'.os=s₁.os/\AllBare s'.gens) s₁:=by
 have rv:=ij hi;have lenV:=hi.length
 -- from an abstract heap in which nothing but the script may be tracked
 have core:∀H:Hp,qg H->SqL K H a (ns.map V.int)->HOk P w H s₁.heap->(∀b,H b≠none->b=a)->(H a≠none->K.lookup a=none)->
   codeAny (model P w) callerA (.call (.ref fa) ⟨[.ref a],[]⟩) (λr s'=>r=.ok (.ret (.bool true))/\OldK s₁.heap s'.heap/\s'.os=s₁.os/\AllBare s'.gens) s₁:=by
  intro H hO hS hok hA hK;have base_of:∀{b:Addr} {o:Obj},s₁.heap.get? b=some o->H b=none->(iD s₁.heap H).get? b=some o:=λe n=>ms e n;have noA:∀{b:Addr} {o:Obj} {es:Array DictEntry} {ep:Nat},s₁.heap.get? b=some o->o.data=.dict es ep->H b=none:=λ{b o es ep} e d=>by
   cases q:H b with
   |none=>rfl
   |some u=>
    have e':b=a:=hA b (by rw[q];simp);subst e';rw[ha] at e;cases e;have d':Data.seq vs.toArray _=Data.dict es ep:=d;cases d'
  have nsK:∀{b:Addr} {m:Str->Option Value},s₁.heap.Ns b m->(iD s₁.heap H).Ns b m:=λ{b m} ⟨o,es,ep,e,d,r⟩=>⟨o,es,ep,base_of e (noA e d),d,r⟩;have hKb:K.In (iD s₁.heap H):=λb o e=>base_of (KX b o e) (by
   cases q:H b with
   |none=>rfl
   |some u=>
    have e':b=a:=hA b (by rw[q];simp);subst e';rw[hK (by rw[q];simp)] at e;cases e)
  have hM:Mod K mg (iD s₁.heap H):=⟨hKb,nsK hns,⟨mb,nsK hb,hbb⟩,let⟨mc,h1,h2⟩:=hlim;⟨mc,nsK h1,h2⟩⟩
  have e0:Env0 P w K mg (iD s₁.heap H) callerA [] s₁ H:=⟨rfl,hM,λb o e=>pN e,Nat.le_of_eq (k9 _ _),trivial,λb hb=>N6 (show b∈([]:List Addr) from hb) (by simp),hok,.of_eq hg,λxs q=>N6 (hA sysModules (by rw[q];simp)).symm (beq_eq_false_iff_ne.mp hsy)⟩
  refine codeAny_mono ((F _ hKb (nsK hns)).run callerA [] s₁ H ⟨[.ref a],[]⟩ [.ref a] [.ref a] _ _ hr e0 (hbind s₁ (.ref a)) (.cons rfl .nil) (hsp H hO hS)) λr s' h=>?_;cases r with
  |error e=>exact(hCX H e s' h).elim
  |ok fl=>
   cases fl with
   |next=>exact Oh h
   |brk=>exact Oh h
   |cont=>exact Oh h
   |ret u=>
    obtain⟨v,H',os,bare,un,hok',r',q⟩:=h;have q':v=.bl true:=q;subst q';obtain rfl:u=Value.bool true:=r';refine⟨rfl,OldK.of_keep λb o e=>?_,os,bare⟩;cases q:H b with
    |none=>exact un.keep b o e q (by intro z;exact N6 (show b∈([]:List Addr) from z) (by simp)) (by simp)
    |some u=>
     rcases hO b with z|⟨ob,xs,z⟩
     .rw[q] at z;cases z
     .have z2:=un.frzs b ob _ z
      obtain⟨e1,_⟩:=hok b _ z;obtain⟨e2,_⟩:=hok' b _ z2;rw[e] at e1;cases e1;exact e2
 cases hk:K.lookup a with
 |some o=>
  -- the script is one of the module's own objects
  have e:=KX a o hk;rw[ha] at e;cases e;refine core (λ_=>none) (λ_=>.inl rfl) (.inr ⟨_,vs.toArray,_,hk,rfl,rfl,rfl,by rw[eM,lenV];exact hl,by simpa using rv⟩) (λb u z=>by have z':(none:Option HO)=some u:=z;cases z') (λb z=>N6 rfl z) λz=>N6 rfl z
 |none=>
  refine core (λb=>if b=a then some (.frz { cls:=.type "list",data:=.seq vs.toArray } (.lst (ns.map V.int))) else none) (λb=>?_) (.inl (.inr ⟨{ cls:=.type "list",data:=.seq vs.toArray },if_pos rfl⟩)) (λb u z=>?_) (λb z=>?_) λ_=>hk
  .by_cases hb:b=a
   .exact .inr ⟨_,_,if_pos hb⟩
   .exact .inl (if_neg hb)
  .by_cases hb:b=a
   .have z':=(if_pos hb).symm.trans z
    cases z';subst hb;exact⟨ha,by rw[bP];exact hl,vs,_,rv,ha⟩
   .have z':=(if_neg hb).symm.trans z
    cases z'
  .by_cases hb:b=a
   .exact hb
   .exact N6 (if_neg hb) z
theorem walk_of{n:Nat}{q:Program}{loose:List Str}{d:DefRec}{K:Params->N4}{CX:World->lT}{sp:World->Sp}
  (hn:l.most=some n) (hn2:n<=sizeLine) (hdf:d.params.defaults=[]) (hr:Room k callerA)
  (hY:∀(w:World) (h:Heap),YP w h->(K w.params).In h)
  (F:∀ (w:World) (mg:Str->Option Value) (fa:Addr) (h:Heap),(K w.params).In h->h.Ns mainGlobals mg->mg d.name=some (.ref fa)->
   ∃fd:FuncData,(∀(s:Shared) (u:Value),BindsTo s fd ⟨[u],[]⟩ [(x,u)])/\
    ∀base:Heap,(K w.params).In base->base.Ns mainGlobals mg->FnOk l.prog w (K w.params) mg base (CX w) k fa fd [x] (sp w))
  (hsp:∀(w:World) (H:Hp) (a:Addr) (ns:List Int),ns.length<=n->qg H->SqL (K w.params) H a (ns.map V.int)->sp w [.ref a] H (λv _=>v=.bl true) λ_ _ _=>False)
  (hCX:∀(w:World) (H:Hp) (s:Shared) (e:Value) (s':Shared),CX w [] H s (λ_ _ _=>False) e s'->False) :
  PySem.W.WalkO q loose XP YP l.row.toRowW d [] (λf vs=>PySem.call f vs):=by
 refine Att.attach_call hn hdf λw s₀ s₁ mg mb fa o pm cd doc a vs ns G Y ho hd hcd hmg hobj hints hlen hsy hg=>?_;have KX:=hY w _ Y;obtain⟨fd,hb,hF⟩:=F w mg fa _ KX G.T.g hmg;exact mS KX G.T.g G.T.b G.T.builtins G.T.nolimit hg hobj hints (f8 hlen hn2) hsy hr hF hb (λH hO hS=>hsp w H a ns hlen hO hS) λH e s'=>hCX w H s₁ e s'
def bT(s:Stmt):Arguments:=match s with
 |.FunctionDef _ a _ _ _ _ _ _ _ _=>a
 |_=>{ posonlyargs:=[],args:=[],vararg:=none,kwonlyargs:=[],kw_defaults:=[],kwarg:=none,defaults:=[] }
def aW(s:Stmt):List Stmt:=match s with
 |.FunctionDef _ _ b _ _ _ _ _ _ _=>b
 |_=>[]
def aE(s:Stmt):Scope:=match s with
 |.FunctionDef _ _ _ _ _ _ sc _ _ _=>sc
 |_=>{ kind:=.function,names:=[],isGenerator:=false,isCoroutine:=false }
abbrev yR:lT:=λ_ _ _ _ _ _=>False
abbrev E0:XK:=λ_ _ _=>False
structure Fun(K:N4)(x qual:Str)(st:Stmt)(f:Addr)(fd:FuncData):Prop where
 ex:∃(oc:Value) (od:Option Addr) (kV doc pm:Value) (an:Option Addr) (cdv ct:Value) (osl:Array (Option Value)),
  fd=PySem.W.fnOf x qual (bT st) (aW st) (aE st) .none kV doc pm an cdv ct/\K.lookup f=some ⟨oc,od,.func fd,osl⟩/\PySem.W.codeIn K cdv qual=true
 kp:PySem.W.keepIn K (.ref f)=true
section
variable{base:Heap}
theorem Fun.ok{N:List Str}{sp:Sp}(F:Fun K x qual st f fd)(S:bI N ps (aE st))(len:∀vs H Q E,sp vs H Q E->vs.length=ps.length)
  (hbody:∀ (cdv:Value) (A:Around) (outer:List Env) (s:Shared) (H:Hp) (vs:List V) (Q:VK) (E:XK),Room k (A.deeper (envOfC qual (aE st) s.heap.objs.size f cdv))->sp vs H Q E->
   ∃t,PSs (cB yR P w K mg base N qual (aE st) f cdv A outer s H E).nox (aW st) t/\t { nx:=λ_ H'=>Q .non H',rt:=Q } (start N vs) H):FnOk P w K mg base yR (k+1) f fd ps sp:=by
 obtain⟨oc,od,kV,doc,pm,an,cdv,ct,osl,rfl,lk,hcd⟩:=F.ex;refine kL lk hcd S len λA outer s H vs Q E hr hsp=>?_;obtain⟨t,h,q⟩:=hbody cdv A outer s H vs Q E hr hsp;exact⟨t,h.nox,q⟩
theorem Fun.binds(F:Fun K x qual st f fd)
  (h:∀(kV doc pm:Value) (an:Option Addr) (cdv ct:Value) (us:List Value),us.length=ps.length->bindArgs (PySem.W.fnOf x qual (bT st) (aW st) (aE st) .none kV doc pm an cdv ct) ⟨us,[]⟩=pure (ps.zip us)):Binds K fd ps []:=by
 obtain⟨oc,od,kV,doc,pm,an,cdv,ct,osl,rfl,lk,hcd⟩:=F.ex;exact .all (h kV doc pm an cdv ct)
theorem mT{oc:Value}{od an:Option Addr}{kV doc pm cdv ct:Value}(l:K.lookup f=some ⟨oc,od,.func (PySem.W.fnOf x qual (bT st) (aW st) (aE st) .none kV doc pm an cdv ct),osl⟩)
  (c:PySem.W.codeIn K cdv qual=true) (k:PySem.W.keepIn K (.ref f)=true):Fun K x qual st f (PySem.W.fnOf x qual (bT st) (aW st) (aE st) .none kV doc pm an cdv ct):=⟨⟨oc,od,kV,doc,pm,an,cdv,ct,osl,rfl,l,c⟩,k⟩
end
section
theorem pv(i:Nat)(hN:X.N[i]? = some x:=by rfl)(hv:kF X.env.scope x:=by first|exact Or.inl rfl|exact Or.inr (Or.inl rfl)|exact Or.inr (Or.inr rfl))(hd:(x==("__debug__" : Str))=false:=by decide)
  (hcd:(x==("__classdict__" : Str))=false:=by decide):PE X (.Name x pos) (pP i):=c6 hN hv hd hcd
end
def Same(H H':Hp):Prop:=∀b o,H b=some o->H' b=some o
def Same.refl(H:Hp):Same H H:=λ_ _ h=>h
def Same.trans{H2:Hp}(a:Same H H1)(b:Same H1 H2):Same H H2:=λc o h=>b c o (a c o h)
theorem Same.free{H':Hp}(e:Same H H'){l:Addr}(h:H' l=Option.none):H l=Option.none:=by
 cases q:H l with
 |none=>rfl
 |some o=>
  rw[e l o q] at h;cases h
theorem Same.seq{H':Hp}{xs:List V}(e:Same H H')(h:SqL K H a xs):SqL K H' a xs:=by
 rcases h with(h|⟨o,h⟩)|h
 .exact .inl (.inl (e _ _ h))
 .exact .inl (.inr ⟨o,e _ _ h⟩)
 .exact .inr h
def qT:List (Str×NameKind)->Bool
 |[]=>true
 |(n,_)::r=>!(r.any λy=>y.1==n)&&qT r
def lU(sc outer:Scope):Bool:=
 decide (sc.kind=.function)&&qT sc.names&&sc.names.all λy=>!decide (y.2=.free)||(decide (outer.names.lookup y.1=some .cell)||decide (outer.names.lookup y.1=some .free))
theorem A5{α:Type}:∀{l:List (Str×α)} {n:Str},(l.any λy=>y.1==n)=false->l.lookup n=none
 |[],_,_=>rfl
 |(k,v)::r,n,h=>by
  simp only[yu,Bool.or_eq_false_iff] at h;have e:(n==k)=false:=by
   have:=h.1;simp only[Oo] at this ⊢;exact λz=>this z.symm
  rw[kY,e];exact A5 h.2
theorem A6:∀{l:List (Str×NameKind)} {n:Str} {k:NameKind},qT l=true->(n,k)∈l->l.lookup n=some k
 |(m,j)::r,n,k,nd,h=>by
  simp only[qT,cT,rJ] at nd;rcases Yao.mp h with e|h2
  .cases e;simp
  .have hm:n≠m:=by
    rintro rfl;have:(r.any λy=>y.1==n)=true:=List.any_eq_true.mpr ⟨_,h2,by simp⟩;rw[nd.1] at this;cases this
   rw[kY,beq_eq_false_iff_ne.mpr hm];exact A6 nd.2 h2
def c7(cells:List (Str×Addr)):List (Str×NameKind)->List (Str×Addr)->List (Str×Addr)
 |[],acc=>acc
 |(n,k)::r,acc=>if k==.free then c7 cells r ((n,(cells.lookup n).getD 0)::acc) else c7 cells r acc
theorem vw{cells:List (Str×Addr)}{x:Str}:∀{names:List (Str×NameKind)} {acc:List (Str×Addr)},qT names=true->
  ((names.lookup x=some .free->∃c,(c7 cells names acc).lookup x=some c/\(cells.lookup x).getD 0=c)/\(names.lookup x≠some .free->(c7 cells names acc).lookup x=acc.lookup x))
 |[],acc,_=>⟨λh=>by simp at h,λ_=>rfl⟩
 |(m,k)::r,acc,nd=>by
  simp only[qT,cT,rJ] at nd
  by_cases hm:x=m
  .subst hm
   have hr:r.lookup x=none:=A5 nd.1;rw[show List.lookup x ((x,k)::r)=some k by simp];have ih:=@vw cells x r
   by_cases hk:k=.free
   .subst hk
    refine⟨λ_=>⟨_,?_,rfl⟩,λh=>N6 rfl h⟩;show(c7 cells r ((x,_)::acc)).lookup x=_;rw[(ih nd.2).2 (by rw[hr];simp)];simp
   .refine⟨λh=>N6 (N8 h) hk,λ_=>?_⟩
    have:c7 cells ((x,k)::r) acc=c7 cells r acc:=by
     show(if k==.free then _ else _)=_;rw[if_neg (by simpa using hk)]
    rw[this,(ih nd.2).2 (by rw[hr];simp)]
  .have e:List.lookup x ((m,k)::r)=r.lookup x:=by rw[kY,beq_eq_false_iff_ne.mpr hm]
   rw[e]
   by_cases hk:k=.free
   .subst hk
    have ih:=@vw cells x r ((m,(cells.lookup m).getD 0)::acc) nd.2;have e2:List.lookup x ((m,(cells.lookup m).getD 0)::acc)=acc.lookup x:=by rw[kY,beq_eq_false_iff_ne.mpr hm]
    rw[e2] at ih;exact ih
   .have:c7 cells ((m,k)::r) acc=c7 cells r acc:=by
     show(if k==.free then _ else _)=_;rw[if_neg (by simpa using hk)]
    rw[this];exact @vw cells x r acc nd.2
theorem Ek(h:∀y∈scope.names,y.2=.free->∃c,env.cells.lookup y.1=some c):closureFor scope env=pure (c7 env.cells scope.names []):=by
  have gen:∀ (names:List (Str×NameKind)) (acc:List (Str×Addr)),(∀ y∈names,y.2 = .free->∃ c,env.cells.lookup y.1=some c)->
      (forIn names acc (fun (x:Str×NameKind) (r:List (Str×Addr))=>(if (x.2 == NameKind.free)=true then (do
        let c <-cellOf env x.1
        pure (ForInStep.yield ((x.1,c)::r))) else pure (ForInStep.yield r):Sem (ForInStep (List (Str×Addr))))))=(pure (c7 env.cells names acc):Sem (List (Str×Addr))):=by
    intro names
    induction names with
    |nil=>intro acc _;rfl
    |cons y r ih=>
      intro acc hh;obtain⟨n,k⟩:=y;rw[Aq]
      by_cases hk:k=.free
      · subst hk
        obtain⟨c,hc⟩:=hh (n,.free) kW rfl;have hc':env.cells.lookup n=some c:=hc;have e:cellOf env n=pure c:=by unfold cellOf;rw[hc']
        simp only[Oj,if_true,e];have:=ih ((n,c)::acc) λy hy=>hh y (i8 _ hy);have e3:c7 env.cells ((n,.free)::r) acc=c7 env.cells r ((n,c)::acc):=by
          show(if _ then _ else _)=_;rw[hc'];rfl
        rw[e3,<-this];rfl
      · have hb:(k==NameKind.free)=false:=by simpa using hk
        simp only[hb,eG,if_false];have:=ih acc λy hy=>hh y (i8 _ hy);have e3:c7 env.cells ((n,k)::r) acc=c7 env.cells r acc:=by
          show(if _ then _ else _)=_;rw[if_neg (by simpa using hk)]
        rw[e3,<-this];rfl
  unfold closureFor;have:=gen scope.names [] h
  first
    |exact this
    | (show (forIn scope.names [] _ >>= λcs=>pure cs)=_
       refine Eq.trans (congrArg (· >>= λcs=>pure cs) this) rfl)
theorem qU{x:Str}:∀(names:List (Str×NameKind)) (n:Nat) (acc acc':List (Str×Addr)),qT names=true->
  ((names.lookup x=some .cell->(cellsFrom n names acc).lookup x=(cellsFrom n names acc').lookup x)/\(names.lookup x≠some .cell->(cellsFrom n names acc).lookup x=acc.lookup x))
 |[],_,_,_,_=>⟨λh=>by simp at h,λ_=>rfl⟩
 |(m,k)::r,n,acc,acc',nd=>by
  simp only[qT,cT,rJ] at nd
  by_cases hm:x=m
  .subst hm
   have hr:r.lookup x=none:=A5 nd.1;rw[show List.lookup x ((x,k)::r)=some k by simp]
   by_cases hk:k=.cell
   .subst hk
    refine⟨λ_=>?_,λh=>N6 rfl h⟩;have a:=(@qU x r (n+1) ((x,n)::acc) acc' nd.2).2 (by rw[hr];simp);have b:=(@qU x r (n+1) ((x,n)::acc') acc' nd.2).2 (by rw[hr];simp);show(cellsFrom (n+1) r ((x,n)::acc)).lookup x=(cellsFrom (n+1) r ((x,n)::acc')).lookup x;rw[a,b];simp
   .refine⟨λh=>N6 (N8 h) hk,λ_=>?_⟩
    have e:cellsFrom n ((x,k)::r) acc=cellsFrom n r acc:=by
     show(if k==.cell then _ else _)=_;rw[if_neg (by simpa using hk)]
    rw[e,(@qU x r n acc acc' nd.2).2 (by rw[hr];simp)]
  .have e:List.lookup x ((m,k)::r)=r.lookup x:=by rw[kY,beq_eq_false_iff_ne.mpr hm]
   rw[e]
   by_cases hk:k=.cell
   .subst hk
    have ih:=@qU x r (n+1) ((m,n)::acc) ((m,n)::acc') nd.2;have e2:List.lookup x ((m,n)::acc)=acc.lookup x:=by rw[kY,beq_eq_false_iff_ne.mpr hm]
    rw[e2] at ih;exact ih
   .have e3:∀a:List (Str×Addr),cellsFrom n ((m,k)::r) a=cellsFrom n r a:=λa=>by
     show(if k==.cell then _ else _)=_;rw[if_neg (by simpa using hk)]
    rw[e3,e3];exact @qU x r n acc acc' nd.2
theorem El:(relabel sc env).names.lookup x=(sc.names.lookup x).map λk=>if(k==NameKind.free&&env.scope.kind==.function&&env.kindOf x==some .cell)=true then .cell else k:=by
 show List.lookup x (sc.names.map _)=_;generalize sc.names=l
 induction l with
 |nil=>rfl
 |cons y r ih=>
  obtain⟨m,k⟩:=y
  by_cases hx:x=m
  .subst hx
   simp only[da]
   by_cases hc:(k==NameKind.free&&env.scope.kind==.function&&env.kindOf x==some .cell)=true
   .rw[if_pos hc]
    simp only[kY,Oj,tT];rw[if_pos hc]
   .rw[if_neg hc]
    simp only[kY,Oj,tT];rw[if_neg hc]
  .have hb:(x==m)=false:=beq_eq_false_iff_ne.mpr hx
   simp only[da]
   by_cases hc:(k==NameKind.free&&env.scope.kind==.function&&env.kindOf m==some .cell)=true
   .rw[if_pos hc];simp only[kY,hb];exact ih
   .rw[if_neg hc];simp only[kY,hb];exact ih
def jJ(sc:Scope)(env:Env)(C:Addr):Env:=
 { scope:=relabel sc env,locals:=C,globals:=env.globals,cells:=cellsFrom (C+1) sc.names (c7 env.cells sc.names []),qual:=env.qual,func:=none,code:=env.code,frame:=env.frame,builtins:=env.builtins }
theorem Io{M:Model}{E:Value->Shared->Prop}
  (h:Q { scope:=sc,locals:=s.heap.objs.size,globals:=env.globals,cells:=cellsFrom (s.heap.objs.size+1) sc.names (c7 env.cells sc.names []),qual:=env.qual,func:=none,code:=env.code,frame:=env.frame,builtins:=env.builtins }
   { s with heap:=pushCells (s.heap.push { cls:=.type "dict",data:=.dict #[] }) sc.names }) :
  wpAny M A (newFunctionEnv sc env.globals (c7 env.cells sc.names []) [] env.qual none .none (some env)) Q E s:=by
 simp only[newFunctionEnv,Option.isSome_some,if_true];refine N3 (wpAny_alloc ?_);refine N3 (wpAny_layCells _ (λname kind cells=>by cases hkc:kind==NameKind.cell<;>simp[hkc]) _ _ _ _ ?_);rw[show({ s with heap:=s.heap.push { cls:=.type "dict",data:=.dict #[] } }:Shared).heap.objs.size=s.heap.objs.size+1 from kX ..];exact N3 (N5 (N5 h))
def Cx.lc(X:Cx)(sc:Scope)(vars:List Str)(sel:List Nat)(s:Shared)(H:Hp)(fp:List Addr):Cx where
 prog:=X.prog
 w:=X.w
 K:=X.K
 mg:=X.mg
 base:=X.base
 A:=X.A
 N:=vars++sel.map λj=>X.N.getD j ""
 s₀:=s
 H₀:=H
 env:=jJ sc X.env s.heap.objs.size
 outer:=X.stack
 stack:=X.stack
 ex:=fp
 fn:=λx=>decide (sc.names.lookup x=some .cell)
 calm:=X.calm
 pn:=[]
 xe:=λ_ _=>False
def sS(N:List Str)(sc:Scope)(sel:List Nat):Bool:=sel.all λj=>match N[j]? with
 |some x=>decide (sc.names.lookup x=some .free)
 |none=>false
def gX(nv:Nat)(sel:List Nat)(σ:St):St:=List.replicate nv none++sel.map λj=>(σ[j]?).getD none
section
theorem A7(I:Inv X pins σ H s)(ok:lU sc X.env.scope=true):∀y∈sc.names,y.2=.free->∃c,X.env.cells.lookup y.1=some c:=λy hy hk=>by
 simp only[lU,cT,Ybh,uR,rJ,N7,decide_eq_false_iff_not] at ok;rcases ok.2 y hy with z|z
 .exact N6 hk z
 .exact I.ok.has y.1 z
theorem Ip(I:Inv X pins σ H s)(ok:lU sc X.env.scope=true)(so:sS X.N sc sel=true)(hf:∀b∈fp,eV X pins H b)(ho:∀b∈fp,∃o,s.heap.get? b=some o)(ha:X.env.scope.kind=.function:=by rfl) :
  Inv (X.lc sc vars sel s H fp) [] (gX vars.length sel σ) H { s with heap:=pushCells (s.heap.push { cls:=.type "dict",data:=.dict #[] }) sc.names }:=by
 have hcl:=A7 I ok;have ok':=ok;simp only[lU,cT,Ybh,uR,rJ,N7,decide_eq_false_iff_not] at ok';obtain⟨⟨hk,nd⟩,hfree⟩:=ok';have szp:(s.heap.push { cls:=.type "dict",data:=.dict #[] }).objs.size=s.heap.objs.size+1:=kX ..;have keep:∀b o,s.heap.get? b=some o->(pushCells (s.heap.push { cls:=.type "dict",data:=.dict #[] }) sc.names).get? b=some o:=λb o e=>pushCells_keeps _ _ _ _ (cX _ e);have okc:=cellsFrom_ok sc.names (s.heap.push { cls:=.type "dict",data:=.dict #[] }) (s.heap.objs.size+1) [] ⟨λ_ _ hm=>(nomatch hm),List.Pairwise.nil⟩ (by rw[szp];exact bM _);rw[szp] at okc
 -- the cells of the block
 have own:∀x,sc.names.lookup x=some .cell->∃c,(jJ sc X.env s.heap.objs.size).cells.lookup x=some c/\(x,c)∈cellsFrom (s.heap.objs.size+1) sc.names []:=λx hx=>by
  have e:=(qU sc.names (s.heap.objs.size+1) (c7 X.env.cells sc.names []) [] nd).1 hx;obtain⟨c,hc⟩:=d6 (sc:=sc) (n:=s.heap.objs.size+1) hx;exact⟨c,by show(cellsFrom _ _ _).lookup x=_;rw[e];exact hc,Oc hc⟩
 have clo:∀x,sc.names.lookup x=some .free->∃c,(jJ sc X.env s.heap.objs.size).cells.lookup x=some c/\X.env.cells.lookup x=some c:=λx hx=>by
  have e:=(qU sc.names (s.heap.objs.size+1) (c7 X.env.cells sc.names []) [] nd).2 (by rw[hx];decide);obtain⟨c,h1,h2⟩:=(@vw X.env.cells x sc.names [] nd).1 hx;obtain⟨c',h3⟩:=hcl (x,.free) (Oc hx) rfl;have h3':X.env.cells.lookup x=some c':=h3;rw[h3'] at h2;have h4:c'=c:=h2;subst h4;exact⟨c',by show(cellsFrom _ _ _).lookup x=_;rw[e];exact h1,h3'⟩
 have oth:∀x c,(jJ sc X.env s.heap.objs.size).cells.lookup x=some c->sc.names.lookup x=some .cell\/sc.names.lookup x=some .free:=λx c hc=>by
  by_cases h1:sc.names.lookup x=some .cell
  .exact .inl h1
  .by_cases h2:sc.names.lookup x=some .free
   .exact .inr h2
   .have e:=(qU sc.names (s.heap.objs.size+1) (c7 X.env.cells sc.names []) [] nd).2 h1
    have e2:=(@vw X.env.cells x sc.names [] nd).2 h2;have hc':(cellsFrom (s.heap.objs.size+1) sc.names (c7 X.env.cells sc.names [])).lookup x=some c:=hc;rw[e,e2] at hc';simp at hc'
 have ownC:∀x c,(x,c)∈cellsFrom (s.heap.objs.size+1) sc.names []->(pushCells (s.heap.push { cls:=.type "dict",data:=.dict #[] }) sc.names).IsCell c none/\s.heap.objs.size+1<=c:=λx c h=>okc.empty x c h;have cloLt:∀x c,X.env.cells.lookup x=some c->c<s.heap.objs.size:=λx c h=>by
  obtain⟨v,q⟩:=I.cell x c h;exact q.lt
 have noA:∀b∈fp,b<s.heap.objs.size:=λb hb=>by obtain⟨o,e⟩:=ho b hb;exact cV e
 refine ⟨⟨I.ok.mod,hk,I.ok.glob,I.ok.blt,bM _,λx y c h1 h2=>?_,λx hx=>?_,λx c hx h=>?_,I.ok.hd,I.ok.frames,.inl rfl,λb hb=>⟨fR (noA b hb),λx c h=>?_⟩,I.bs,f8 I.ok.bsz I.sz,λb o e hb=>?_,λb hb hq=>?_,I.stack,I.stkFree,I.sysn⟩,
  rfl,I.bare,Un.kept keep,⟨λ_=>none,?_,λi x v h1 h2 h3=>?_⟩,λx c h=>?_,I.hok.fresh (bM _),λx c h=>?_,λp hp=>N6 (show p∈([]:List (Addr×Obj)) from hp) (by simp),I.hok.kept keep,?_⟩
 ·-- inj
  replace h1:(jJ sc X.env s.heap.objs.size).cells.lookup x=some c:=h1;replace h2:(jJ sc X.env s.heap.objs.size).cells.lookup y=some c:=h2;rcases oth x c h1 with k1|k1<;>rcases oth y c h2 with k2|k2
  .obtain⟨c1,e1,m1⟩:=own x k1
   obtain⟨c2,e2,m2⟩:=own y k2;rw[h1] at e1;rw[h2] at e2;cases e1;cases e2;exact name_of_addr okc.apart m1 m2
  .obtain⟨c1,e1,m1⟩:=own x k1
   obtain⟨c2,e2,m2⟩:=clo y k2;rw[h1] at e1;rw[h2] at e2;cases e1;cases e2;exact N6 (cW (cloLt y c m2) (Ar (ownC x c m1).2)) (iy _)
  .obtain⟨c1,e1,m1⟩:=clo x k1
   obtain⟨c2,e2,m2⟩:=own y k2;rw[h1] at e1;rw[h2] at e2;cases e1;cases e2;exact N6 (cW (cloLt x c m1) (Ar (ownC y c m2).2)) (iy _)
  .obtain⟨c1,e1,m1⟩:=clo x k1
   obtain⟨c2,e2,m2⟩:=clo y k2;rw[h1] at e1;rw[h2] at e2;cases e1;cases e2;exact I.ok.inj x y c m1 m2
 ·-- has
  have hx':(relabel sc X.env).names.lookup x=some .cell\/(relabel sc X.env).names.lookup x=some .free:=hx;rw[El] at hx';cases q:sc.names.lookup x with
  |none=>rw[q] at hx';simp at hx'
  |some k=>
   cases k with
   |cell=>obtain⟨c,e,_⟩:=own x q;exact⟨c,e⟩
   |free=>obtain⟨c,e,_⟩:=clo x q;exact⟨c,e⟩
   | «local»=>rw[q] at hx';simp at hx'
   |globalExplicit=>rw[q] at hx';simp at hx'
   |globalImplicit=>rw[q] at hx';simp at hx'
 .have hx':sc.names.lookup x=some .cell:=of_decide_eq_true hx
  obtain⟨c1,e1,m1⟩:=own x hx';have h':(jJ sc X.env s.heap.objs.size).cells.lookup x=some c:=h;rw[h'] at e1;cases e1;have:=(ownC x c m1).2;show s.heap.objs.size<=c;omega
 .rcases oth x c h with k|k
  .obtain⟨c1,e1,m1⟩:=own x k
   rw[show(jJ sc X.env s.heap.objs.size).cells.lookup x=some c from h] at e1;cases e1;exact λz=>N6 (cW (noA b hb) (Ar (ownC x c m1).2)) (by rw[z];exact iy _)
  .obtain⟨c1,e1,m1⟩:=clo x k
   rw[show(jJ sc X.env s.heap.objs.size).cells.lookup x=some c from h] at e1;cases e1;exact(hf b hb).2.2.2.2.1 x c m1
 .have q:=(hf b hb).2.2.2.1
  rcases q with q|q
  .exact I.ok.noex b o e q
  .exact N6 (cW (cV (I.ok.bs b o e).1) q) (iy _)
 .rcases Yao.mp (I.stkSub b hq) with z|z
  .exact(hf b hb).2.1 z
  .exact(hf b hb).2.2.1 z
 ·-- the names' dict
  refine Heap.Ns.keeps (h:=s.heap.push { cls:=.type "dict",data:=.dict #[] }) ?_ (λb o e=>pushCells_keeps _ _ _ _ e);exact⟨_,#[],_,f9 _ rfl,rfl,λe he=>N6 he (by simp),λ_=>rfl⟩
 ·-- what is seen
  have hi:vars.length<=i:=by
   rcases jj i vars.length with z|z
   .exfalso
    unfold gX at h2;rw[jT (by simpa using z),mo] at h2;split at h2<;>cases h2
   .exact z
  unfold gX at h2;rw[jE (by simpa using hi),pF,cA] at h2;have h1':(vars++sel.map λj=>X.N.getD j "")[i]? = some x:=h1;rw[jE hi,cA] at h1';cases q:sel[i-vars.length]? with
  |none=>rw[q] at h2;cases h2
  |some j=>
   rw[q] at h1' h2;have e1:X.N.getD j "" = x:=N8 h1';have e2:(σ[j]?).getD none=some v:=N8 h2;have hj:∃y,X.N[j]? = some y/\sc.names.lookup y=some .free:=by
    have:=Ybh.mp so j (iz q);cases z:X.N[j]? with
    |none=>rw[z] at this;cases this
    |some y=>rw[z] at this;exact⟨y,rfl,of_decide_eq_true this⟩
   obtain⟨y,hy,hyf⟩:=hj;have:y=x:=by
    rw[<-e1,aY,hy];rfl
   subst this;have e3:σ[j]? = some (some v):=by
    cases z:σ[j]? with
    |none=>rw[z] at e2;cases e2
    |some w=>rw[z] at e2;exact congrArg some e2
   obtain⟨c,k1,k2⟩:=clo y hyf;have vis:kF X.env.scope y:=by
    rcases hfree (y,.free) (Oc hyf) with z|z|z
    .exact N6 rfl z
    .exact .inr (.inl z)
    .exact .inr (.inr z)
   obtain⟨m,hn,hl⟩:=I.loc;obtain⟨u,r,l⟩:=hl j y v hy e3 vis;refine⟨u,r,?_⟩;have notloc:X.env.kindOf y≠some .local:=by
    rcases hfree (y,.free) (Oc hyf) with z|z|z
    .exact N6 rfl z
    .show X.env.scope.names.lookup y≠_;rw[z];decide
    .show X.env.scope.names.lookup y≠_;rw[z];decide
   rcases l with⟨z,_⟩|⟨_,c',e',q'⟩
   .exact N6 z notloc
   .rw[k2] at e';cases e'
    have kk:(jJ sc X.env s.heap.objs.size).kindOf y=some .cell\/(jJ sc X.env s.heap.objs.size).kindOf y=some .free:=by
     show(relabel sc X.env).names.lookup y=_\/(relabel sc X.env).names.lookup y=_;rw[El,hyf];simp only[tT];split
     .exact .inl rfl
     .exact .inr rfl
    exact .inr ⟨kk,c,k1,q'.keeps keep⟩
 .rcases oth x c h with k|k
  .obtain⟨c1,e1,m1⟩:=own x k
   rw[show(jJ sc X.env s.heap.objs.size).cells.lookup x=some c from h] at e1;cases e1;exact⟨none,(ownC x c m1).1⟩
  .obtain⟨c1,e1,m1⟩:=clo x k
   rw[show(jJ sc X.env s.heap.objs.size).cells.lookup x=some c from h] at e1;cases e1;obtain⟨v,q⟩:=I.cell x c m1;exact⟨v,q.keeps keep⟩
 .rcases oth x c h with k|k
  .obtain⟨c1,e1,m1⟩:=own x k
   rw[show(jJ sc X.env s.heap.objs.size).cells.lookup x=some c from h] at e1;cases e1;exact I.hok.fresh (by have:=(ownC x c m1).2;omega)
  .obtain⟨c1,e1,m1⟩:=clo x k
   rw[show(jJ sc X.env s.heap.objs.size).cells.lookup x=some c from h] at e1;cases e1;exact I.freeC x c m1
 .show(gX vars.length sel σ).length=(vars++sel.map _).length
  unfold gX;simp
end
def PF(X:Cx)(ifs:List Expr)(t:TT):Prop:=
 ∀(pins:List (Addr×Obj)) (s:Shared) (σ:St) (H:Hp) (Q:Bool->Hp->Prop),Inv X pins σ H s->t σ H Q->
  wpAny (model X.prog X.w) X.A (forIn ifs true λc r=>if r=true then do let ok <-isTrue c X.env (eval c X.env);pure (ForInStep.yield ok) else pure (ForInStep.yield r)) (TP X pins σ Q) X.xe s
def vz:TT:=λ_ H Q=>Q true H
def Iq:PF X [] vz:=λ_ _ _ H _ I h=>wpAny_tests_nil ⟨H,I,h⟩
theorem Ir{c:Expr}{t:TT}(h:PT X c t):PF X [c] t:=λpins s σ H Q I q=>wpAny_tests_one (h pins s σ H Q I q)
def vA(g:TG)(tf:TT)(te:TE)(J:It)(D:Addr)(Q:Hp->Prop)(W:Nat->Nat->List V->St->Hp->Prop):Prop:=
 ∀ i m ys σ2 H2,W i m ys σ2 H2->H2 D=some (.lst ys)/\((J.stop i H2/\Q H2)\/(J.go i H2/\∀ x H3,J.yld i H2 x H3->g x σ2 H3 λσ4 H4=>tf σ4 H4 λb H5=>
  if b=true then te σ4 H5 λv H6=>H6 D=some (.lst ys)/\ys.length<sizeLine/\∃m',m'<m/\W (i+1) m' (ys++[v]) σ4 (upd H6 D (.lst (ys++[v]))) else∃m',m'<m/\W (i+1) m' ys σ4 H5))
def A8(wi:TI)(nv:Nat)(sel:List Nat)(g:TG)(tf:TT)(te:TE):TE:=λσ H Q=>wi σ H λJ H1=>∀D,H1 D=none->
 ∃W:Nat->Nat->List V->St->Hp->Prop,(∃m,W 0 m [] (gX nv sel σ) (upd H1 D (.lst [])))/\vA g tf te J D (Q (.ref D)) W
section
variable{s2:Shared}{elt target iter:Expr}{ifs:List Expr}{g:TG}{tf:TT}{te:TE}
theorem Iu{prog:Program}{R:Result->Shared->Prop}{it acc:Value}(I:Nat->Shared->Prop)
  (turn:∀ n s,I n s->wpAny (model prog w) A (pyNext it) (λr s₁=>match r with
   |none=>R (.ok .next) s₁
   | some v=>wpAny (model prog w) A (letOwnedTupleGo target it v) (λ_ s₁'=>wpAny (model prog w) A (assign target env v) (λ_ s₂=>
     wpAny (model prog w) A (forIn ifs true λc r=>if r=true then do let ok <- isTrue c env (eval c env);pure (ForInStep.yield ok) else pure (ForInStep.yield r)) (λok s₃=>
      if ok=true then wpAny (model prog w) A (eval elt env) (λx s₄=>
       wpAny (model prog w) A (call (.builtin "list.append") [acc,x]) (λ_ s₅=>∃m,m<n/\I m s₅) (λ_ _=>False) s₄) (λ_ _=>False) s₃
      else∃m,m<n/\I m s₃) (λ_ _=>False) s₂) (λ_ _=>False) s₁') (λ_ _=>False) s₁) (λ_ _=>False) s)
  (n:Nat) (h:I n s) :
  codeAny (model prog w) A (.compLoop (.ListComp elt [⟨target,iter,ifs,0⟩] scope pos) 0 it acc env) R s:=by
 refine codeAny_loop rfl I (λn s hI=>?_) n h;show wpAny _ A ((compTurn (.ListComp elt [⟨target,iter,ifs,0⟩] scope pos) 0 it acc env).onRaise (λx=>do noteFrame x env;theTreesLotGoes x)) _ _ s;refine wpAny_noted ?_;rw[compTurn_list];refine N3 (Oq (N3 (Of (turn n s hI) (λr s₁ h₁=>?_) λ_ _ h'=>h'.elim)));cases r with
 |none=>exact N5 h₁
 |some v=>
  refine N3 (Of h₁ (λ_ s₁' h₁'=>?_) λ_ _ h'=>h'.elim);refine N3 (Of h₁' (λ_ s₂ h₂=>N3 (Of h₂ (λok s₃ h₃=>?_) λ_ _ h'=>h'.elim)) λ_ _ h'=>h'.elim);cases ok with
  |false=>exact N5 ⟨rfl,h₃⟩
  |true=>
   exact N3 (N3 (Of h₃ (λx s₄ h₄=>N3 (Of h₄ (λ_ s₅ h₅=>N5 (N5 ⟨rfl,h₅⟩)) λ_ _ h'=>h'.elim)) λ_ _ h'=>h'.elim))
theorem Em{J:It}{it:Addr}{Q:VK}{E:Value->Shared->Prop}{R:Value->Addr->Result->Shared->Prop}(hc:X.calm=true)
  (hg:∀s H fp,PG (X.lc sc vars sel s H fp) target g) (hf:∀s H fp,PF (X.lc sc vars sel s H fp) ifs tf) (he:∀s H fp,PE (X.lc sc vars sel s H fp) elt te)
  (ok:lU sc X.env.scope=true) (so:sS X.N sc sel=true)
  (I2:Inv X pins σ H1 s2) (T:jq X.prog X.w X.K target J fp it tn) (st2:tn 0 s2.heap) (f2:∀b∈fp,eV X pins H1 b)
  (q:∀D,H1 D=none->∃W:Nat->Nat->List V->St->Hp->Prop,(∃m,W 0 m [] (gX vars.length sel σ) (upd H1 D (.lst [])))/\vA g tf te J D (Q (.ref D)) W)
  (hR:∀D C H' s',Inv X pins σ H' s'->Q (.ref D) H'->(∃m,s'.heap.Ns C m)->eV X pins H' C->R (.ref D) C (.ok .next) s') :
  wpAny (model X.prog X.w) X.A (newList []) (λacc s₃=>wpAny (model X.prog X.w) X.A (newFunctionEnv sc X.env.globals (c7 X.env.cells sc.names []) [] X.env.qual none .none (some X.env)) (λcenv s₄=>
   codeAny (model X.prog X.w) X.A (.compStart (.ListComp elt [⟨target,iter,ifs,0⟩] sc pos) 0 (.ref it) acc { cenv with scope:=relabel sc X.env }) (R acc cenv.locals) s₄) E s₃) E s2:=by
 refine Og ?_;have hD0:H1 s2.heap.objs.size=none:=I2.hok.fresh (bM _);obtain⟨W,⟨m0,w0⟩,turn⟩:=q _ hD0;have I3:Inv X pins σ (upd H1 s2.heap.objs.size (.lst [])) { s2 with heap:=s2.heap.push { cls:=.type "list",data:=.seq ([]:List Value).toArray },toks:=s2.toks }:=I2.lnew (ys:=[]) .nil (jS _);have ho2:∀b∈fp,∃o,s2.heap.get? b=some o/\∀v,o.data≠.cell v:=T.obj _ _ st2;have lt2:∀b∈fp,b<s2.heap.objs.size:=λb hb=>by obtain⟨o,e,_⟩:=ho2 b hb;exact cV e
 have f3:∀b∈fp,eV X pins (upd H1 s2.heap.objs.size (.lst [])) b:=λb hb=>⟨by rw[aH (fR (lt2 b hb))];exact(f2 b hb).1,(f2 b hb).2⟩;have ho3:∀b∈fp,∃o,(s2.heap.push { cls:=.type "list",data:=.seq ([]:List Value).toArray }).get? b=some o:=λb hb=>by obtain⟨o,e,_⟩:=ho2 b hb;exact⟨o,cX _ e⟩
 refine Io (s:={ s2 with heap:=s2.heap.push { cls:=.type "list",data:=.seq ([]:List Value).toArray },toks:=s2.toks }) ?_;generalize hs3:({ s2 with heap:=s2.heap.push { cls:=.type "list",data:=.seq ([]:List Value).toArray },toks:=s2.toks }:Shared)=s3 at I3 ⊢;have kp23:∀b o,s2.heap.get? b=some o->s3.heap.get? b=some o:=λb o e=>by rw[<-hs3];exact cX _ e
 have sz3:s3.heap.objs.size=s2.heap.objs.size+1:=by rw[<-hs3];exact kX ..
 have os3:s3.os=s2.os:=by rw[<-hs3]
 have ho3':∀b∈fp,∃o,s3.heap.get? b=some o:=λb hb=>by rw[<-hs3];exact ho3 b hb
 have I4:=Ip (vars:=vars) I3 ok so f3 ho3' I2.ok.kind;have kp4:∀b o,s3.heap.get? b=some o->(pushCells (s3.heap.push { cls:=.type "dict",data:=.dict #[] }) sc.names).get? b=some o:=λb o e=>pushCells_keeps _ _ _ _ (cX _ e);have st4:tn 0 (pushCells (s3.heap.push { cls:=.type "dict",data:=.dict #[] }) sc.names):=T.keep _ _ _ st2 λb hb o e=>kp4 b o (kp23 b o e)
 -- what stays true of the iterator
 have stat:∀{H':Hp},(∀b∈fp,H' b=none)->∀b∈fp,eV (X.lc sc vars sel s3 (upd H1 s2.heap.objs.size (.lst [])) fp) [] H' b:=λ{H'} hn b hb=>by
  refine⟨hn b hb,(I4.ok.exf b hb).1,I4.ok.exfs b hb,.inl hb,λx c e z=>(I4.ok.exf b hb).2 x c e z,λp hp=>N6 (show p∈([]:List (Addr×Obj)) from hp) (by simp)⟩
 have loop:codeAny (model X.prog X.w) X.A (.compLoop (.ListComp elt [⟨target,iter,ifs,0⟩] sc pos) 0 (.ref it) (.ref s2.heap.objs.size) (jJ sc X.env s3.heap.objs.size))
   (R (.ref s2.heap.objs.size) s3.heap.objs.size) { s3 with heap:=pushCells (s3.heap.push { cls:=.type "dict",data:=.dict #[] }) sc.names }:=by
  refine Iu (λn s'=>∃i ys σ' H',Inv (X.lc sc vars sel s3 (upd H1 s2.heap.objs.size (.lst [])) fp) [] σ' H' s'/\tn i s'.heap/\(∀b∈fp,H' b=none)/\W i n ys σ' H') ?_ m0
   ⟨0,[],_,_,I4,st4,λb hb=>(f3 b hb).1,w0⟩
  rintro n s5 ⟨i,ys,σ5,H5,I5,st5,fr5,w5⟩;obtain⟨hD,⟨stop,qn⟩|⟨go,step⟩⟩:=turn i n ys σ5 H5 w5
  .refine bG (T.done (X.lc sc vars sel s3 (upd H1 s2.heap.objs.size (.lst [])) fp) rfl rfl rfl hc i [] s5 σ5 H5 _ I5 (stat fr5) st5 stop) λr s6 ⟨hr,I6⟩=>?_
   subst hr;have un:Un (cM X.stack) fp H1 H5 s2.heap s6.heap:=by
    have a:Un (cM X.stack) fp H1 (upd H1 s2.heap.objs.size (.lst [])) s2.heap s3.heap:=Un.laid kp23 (bM _) hD0;exact a.trans I6.base
   have I7:Inv X pins σ H5 s6:=I2.call' (ch:=fp) (I6.os.trans os3) un I6.hok I6.bare λb hb=>⟨(f2 b hb).2.2.2.1,(f2 b hb).2.1,(f2 b hb).2.2.2.2.1,(f2 b hb).2.2.2.2.2⟩;refine hR _ _ H5 s6 I7 qn ?_ ?_
   .obtain⟨m,hn,_⟩:=I6.loc
    exact⟨m,hn⟩
   .exact I3.fpOk (bM _) I6.free
  .refine bG (T.item (X.lc sc vars sel s3 (upd H1 s2.heap.objs.size (.lst [])) fp) rfl rfl rfl hc i [] s5 σ5 H5 _ I5 (stat fr5) st5 go) λr s6 ⟨u,hr,h6⟩=>?_
   subst hr;refine bG h6 λ_ s7 ⟨x,H7,I7,r7,y7,st7,fr7⟩=>?_;have I7':=I7.pinned (stat fr7) (T.obj _ _ st7);refine bG (hg _ _ _ _ s7 σ5 H7 x u _ I7' r7 (step x H7 y7)) λ_ s8 ⟨σ8,H8,I8,q8⟩=>?_;refine bG (hf _ _ _ _ s8 σ8 H8 _ I8 q8) λb s9 ⟨H9,I9,q9⟩=>?_;have back:∀{σ':St} {H':Hp} {s':Shared},Inv (X.lc sc vars sel s3 (upd H1 s2.heap.objs.size (.lst [])) fp) ([]++gw fp s7.heap) σ' H' s'->tn (i+1) s'.heap/\∀b∈fp,H' b=none:=λ{σ' H' s'} I'=>by
    refine⟨T.keep _ _ _ st7 λb hb o e=>(I'.pin (b,o) (nA _ (nA _ (dH hb e)))).1,λb hb=>?_⟩;obtain⟨o,e,d⟩:=T.obj _ _ st7 b hb;exact(I'.pin (b,o) (nA _ (nA _ (dH hb e)))).2.1
   cases b with
   |false=>
    rw[if_neg (by decide)] at q9 ⊢;obtain⟨m',hm,w9⟩:=q9;exact⟨m',hm,i+1,ys,σ8,H9,I9.unpinned,(back I9).1,(back I9).2,w9⟩
   |true=>
    rw[if_pos rfl] at q9 ⊢;refine bG (he _ _ _ _ s9 σ8 H9 _ I9 q9) λv sA ⟨y,HA,IA,rA,hDA,hz,m',hm,wA⟩=>?_;obtain⟨z,its,nn,rr,hl,e⟩:=IA.lstM hDA;refine call_meets F.slot_list_append ⟨_,e,rfl⟩ F.entry_list_append (F.args_list_append_2 _ _) (PySem.list_append _ its.toArray nn v (by rw[eM];omega)) ⟨e,?_⟩;have IB:=IA.lset (its':=its++[v]) (f:=(·.push v)) (t':=sA.toks) hDA e (by simp) (rr.append (.cons rA .nil)) (by rw[eu,lQ];omega);exact⟨m',hm,i+1,ys++[y],σ8,_,IB.unpinned,(back IB).1,(back IB).2,wA⟩
 exact codeAny_compStart_list loop (T.self _ 0 _ _ _ st4 loop)
theorem vB(vars:List Str)(sel:List Nat)(hc:X.calm=true)(hi:PI X target iter wi)
  (ok:lU sc X.env.scope=true) (so:sS X.N sc sel=true)
  (hg:∀s H fp,PG (X.lc sc vars sel s H fp) target g) (hf:∀s H fp,PF (X.lc sc vars sel s H fp) ifs tf) (he:∀s H fp,PE (X.lc sc vars sel s H fp) elt te)
  (hs:∀x,foldedSetIterable iter X.env x=pure x:=by intro _;rfl):PE X (.ListComp elt [⟨target,iter,ifs,0⟩] sc pos) (A8 wi vars.length sel g tf te):=by
 intro pins s σ H Q I h;rw[eval_ListComp];have ok':=ok;simp only[lU,cT,N7] at ok';refine wpAny_comprehension_free (use:=none) rfl hs (Ek (A7 I ok)) ok'.1.1 (λx hx hl=>?_) ?_
 .obtain⟨n,k⟩:=x
  have hl':k=.local:=hl;subst hl';exact A6 ok'.1.2 hx
 .refine bG (hi pins s σ H _ I h) λv s1 h1=>bG h1 λitv s2 h2=>?_
  obtain⟨it,fp,tn,J,H2,e,I2,T,st2,f2,q⟩:=h2;subst e;refine Em (Q:=Q) hc hg hf he ok so I2 T st2 f2 q λD C H' s' I' q' hn fC=>?_;obtain⟨m,hn⟩:=hn;refine⟨m,hn,λh' hs'=>?_⟩;obtain⟨f0,f1,f2,f3,f4,f5⟩:=fC;exact⟨.ref D,H',I'.turned (t':=s'.toks) (λb o hb e=>(hs'.2 b hb).trans e) f0 f1 f3 f4 f5,rfl,q'⟩
theorem En{i:Nat}{pos' spos:Pos}(vars:List Str)(sel:List Nat)(hc:X.calm=true)(hN:X.N.Nodup)(hix:X.N[i]? = some x)(hx:lS X.env.scope x)(hi:PI X target iter wi)
  (ok:lU sc X.env.scope=true) (so:sS X.N sc sel=true)
  (hg:∀s H fp,PG (X.lc sc vars sel s H fp) target g) (hf:∀s H fp,PF (X.lc sc vars sel s H fp) ifs tf) (he:∀s H fp,PE (X.lc sc vars sel s H fp) elt te)
  (hsw:swapsWith (.ListComp elt [⟨target,iter,ifs,0⟩] sc pos) (some (.Name x pos')) spos.line X.env=pure true)
  (hs:∀x,foldedSetIterable iter X.env x=pure x:=by intro _;rfl) (hfn:X.fn x=true\/X.env.scope.names.lookup x=some .local:=by first|exact .inl rfl|exact .inr rfl|assumption) :
  PS X (.Assign [.Name x pos'] (.ListComp elt [⟨target,iter,ifs,0⟩] sc pos) spos) (sj (A8 wi vars.length sel g tf te) (kH i)):=by
 intro pins s σ H D I h;rw[exec_Assign_Name_used _ _ _ _ hsw];refine N3 (Oq (N3 ?_));show wpAny _ X.A (do let _ <-comprehension (.ListComp elt [⟨target,iter,ifs,0⟩] sc pos) sc X.env _ (newList []) false (eval iter X.env) (some (assign (.Name x pos') X.env))) _ _ s;have ok':=ok;simp only[lU,cT,N7] at ok';refine N3 (Of (wpAny_comprehension_free (use:=some (assign (.Name x pos') X.env)) (Q:=λ_ s'=>SP X pins D .next s') rfl hs (Ek (A7 I ok)) ok'.1.1 (λx hx hl=>?_) ?_) (λ_ s' q=>N5 (N5 q)) λ_ _ e=>e)
 .obtain⟨n,k⟩:=x
  have hl':k=.local:=hl;subst hl';exact A6 ok'.1.2 hx
 .refine bG (hi pins s σ H _ I h) λv s1 h1=>bG h1 λitv s2 h2=>?_
  obtain⟨it,fp,tn,J,H2,e,I2,T,st2,f2,q⟩:=h2;subst e;refine Em (Q:=λv H'=>kH i v σ H' D.nx) hc hg hf he ok so I2 T st2 f2 q λD' C H' s' I' q' hn fC=>?_;obtain⟨m,hn⟩:=hn;obtain⟨f0,f1,f2,f3,f4,f5⟩:=id fC;refine wpAny_assign_Name (fz I' hN hix hx (v:=.ref D') rfl (λs'' I'' ⟨a,sb,ha⟩=>?_) hfn);have hCa:C≠a:=by
   rcases ha with z|z
   .rw[z];exact f1
   .exact Ob (f4 x a z)
  refine⟨m,hn.sameBut sb hCa,λh' hs'=>?_⟩;exact⟨_,H',I''.turned (t':=s''.toks) (λb o hb e=>(hs'.2 b hb).trans e) f0 f1 f3 f4 f5,q'⟩
end
end L2
namespace HT
open PySem PySem.Spec PyProof.Rows
section
variable{prog:Program}{w:World}{A:Around}{E:Value->Shared->Prop}{s:Shared}
theorem getItem_tuple_whole{t sl:Addr}{items:Array Value}{vl vu:Value}{lo hi:Option Int}{Q:Value->Shared->Prop}(ht:IsTup s.heap t items)(hs:s.heap.IsSliceOf sl vl vu .none)(pl:IsPart vl lo)(pu:IsPart vu hi)
  (hw:sIx items.size 0 lo=0/\sIx items.size items.size hi=items.size) (h:Q (.ref t) s):wpAny (model prog w) A (getItem (.ref t) (.ref sl)) Q E s:=by
 obtain⟨os,hos,hcs,hds⟩:=id hs;have hTs:s.TypeIs (.ref sl) "slice" :=⟨os,hos,hcs⟩
 unfold getItem
 try with_reducible refine Om ?_
 first|refine N3 (N5 ?_)|skip
 refine N3 (wpAny_sequenceKey ht.typeIs (by decide) ?_);refine N3 (wpAny_callSpecial?_slot (name:=Str.ofString "__getitem__") ht.typeIs PyProof.Rows.slot_tuple_getitem
  (Os PyProof.Rows.slot_tuple_getitem ht.typeIs entry_tuple_getitem ?_ (args_tuple_getitem _ _)))
 show wpAny _ _ (Builtin.Tuple.tupleItemsOf (.ref t) >>= _) _ _ s;refine N3 (tupleItemsOf_ ht ?_);refine N3 (OD hTs ?_);rw[if_pos (by decide)];refine N3 (dB hs pl pu ?_);have hyes:(((sIx items.size 0 lo:Nat):Int)==0&&(1:Int)==1&&(sIx items.size items.size hi-sIx items.size 0 lo)==items.size)=true:=by
  rw[hw.1,hw.2];simp
 show wpAny _ _ (if(((sIx items.size 0 lo:Nat):Int)==0&&(1:Int)==1&&(sIx items.size items.size hi-sIx items.size 0 lo)==items.size)=true then _ else _) _ _ s;rw[if_pos hyes];have ex:Builtin.Tuple.tupleIsExact (.ref t)=(do return(<-typeOf (.ref t))==.type "tuple"):=rfl;rw[ex];refine N3 (N3 (OD ht.typeIs (N5 ?_)));rw[if_pos (by decide)]
 first
  |exact N3 (OA (N3 (N5 (N5 ⟨_,rfl,N5 h⟩))))
  |exact N3 (OA (N5 ⟨_,rfl,N5 h⟩))
  |exact N3 (OA (N3 (N5 ⟨_,rfl,N5 h⟩)))
theorem Iv{sl:Addr}{tk:Tok}{n:Nat}{Q:Int×Int×Nat->Shared->Prop}(hs:s.heap.IsSliceOf sl .none .none (.int (-1) tk))
  (h:Q ((n:Int)-1,-1,n) s):wpAny (model prog w) A (Builtin.Slice.sliceApplied (.ref sl) (pure (n:Int))) Q E s:=by
 obtain⟨os,hos,hcs,hds⟩:=id hs;unfold Builtin.Slice.sliceApplied Builtin.Slice.sliceFields;refine N3 (N3 (Oe hos hds (x:=.none) rfl (N3 (Oe hos hds (x:=.none) rfl (N3 (Oe hos hds (x:=.int (-1) tk) rfl (N5 ?_)))))));refine N3 (slicePart_int ?_);show wpAny _ _ (if((-1:Int)==0)=true then _ else _) _ _ s;rw[if_neg (by decide)];refine N3 (slicePart_none (N3 (slicePart_none (N3 (N5 ?_)))));show wpAny _ _ (match Builtin.Slice.sliceAdjust none none (-1) (n:Int) with|(lo,hi)=>pure (lo,(-1:Int),Builtin.Slice.slicePlaces lo hi (-1))) _ _ s;have e:Builtin.Slice.sliceAdjust none none (-1) (n:Int)=((n:Int)-1,-1):=by
  unfold Builtin.Slice.sliceAdjust;simp
 rw[e];have e2:Builtin.Slice.slicePlaces ((n:Int)-1) (-1) (-1)=n:=by
  unfold Builtin.Slice.slicePlaces;simp
  try omega
 show wpAny _ _ (pure ((n:Int)-1,(-1:Int),Builtin.Slice.slicePlaces ((n:Int)-1) (-1) (-1))) _ _ s;rw[e2];exact N5 h
theorem pick_rev(xs:Array Value):((List.range xs.size).filterMap λ(m:Nat)=>xs[((xs.size:Int)-1+(m:Int)*(-1)).toNat]?)=xs.toList.reverse:=by
 refine As λi=>?_;have gen:∀(l:List Nat),(∀m∈l,m<xs.size)->(l.filterMap λ(m:Nat)=>xs[((xs.size:Int)-1+(m:Int)*(-1)).toNat]?)=l.map λm=>xs.toList.getD (xs.size-1-m) .none:=by
  intro l
  induction l with
  |nil=>intro _;rfl
  |cons m r ih=>
   intro hm;have h1:m<xs.size:=hm m kW;have h2:((xs.size:Int)-1+(m:Int)*(-1)).toNat=xs.size-1-m:=by omega
   have h3:xs.size-1-m<xs.size:=by omega
   rw[yk,h2,Array.getElem?_eq_getElem h3,da,ih λk hk=>hm k (i8 _ hk)];simp[aY,h3]
 rw[gen _ λm hm=>Yah.mp hm]
 by_cases hi:i<xs.size
 .rw[cA,iA hi,List.getElem?_reverse (by simpa using hi)]
  simp[aY];rw[Array.getElem?_eq_getElem (by omega)];simp
 .rw[eI (by simp;omega),eI (by simp;omega)]
theorem getItem_tuple_rev{t sl:Addr}{items:Array Value}{tk:Tok}{Q:Value->Shared->Prop}(ht:IsTup s.heap t items)(hs:s.heap.IsSliceOf sl .none .none (.int (-1) tk))(hsz:items.size<=sizeLine)
  (h:Q (.ref s.heap.objs.size) { s with heap:=s.heap.push { cls:=.type "tuple",data:=.seq items.toList.reverse.toArray } }):wpAny (model prog w) A (getItem (.ref t) (.ref sl)) Q E s:=by
 have htake:sizeOk (.seq items.toList.reverse.toArray):=by
  show items.toList.reverse.toArray.size<=sizeLine;simpa using hsz
 obtain⟨os,hos,hcs,hds⟩:=id hs;have hTs:s.TypeIs (.ref sl) "slice" :=⟨os,hos,hcs⟩
 unfold getItem
 try with_reducible refine Om ?_
 first|refine N3 (N5 ?_)|skip
 refine N3 (wpAny_sequenceKey ht.typeIs (by decide) ?_);refine N3 (wpAny_callSpecial?_slot (name:=Str.ofString "__getitem__") ht.typeIs PyProof.Rows.slot_tuple_getitem
  (Os PyProof.Rows.slot_tuple_getitem ht.typeIs entry_tuple_getitem ?_ (args_tuple_getitem _ _)))
 show wpAny _ _ (Builtin.Tuple.tupleItemsOf (.ref t) >>= _) _ _ s;refine N3 (tupleItemsOf_ ht ?_);refine N3 (OD hTs ?_);rw[if_pos (by decide)];refine N3 (Iv hs ?_);show wpAny _ _ (if((((items.size:Int)-1)==0&&(-1:Int)==1&&items.size==items.size)=true) then _ else _) _ _ s;rw[if_neg (by simp),pick_rev]
 first
  |exact N3 (m:=Builtin.Tuple.tupleExact _) (Og (N5 ⟨_,rfl,N5 h⟩) htake)
  |exact N3 (m:=Builtin.Tuple.tupleExact _) (Og (N3 (N5 (N5 ⟨_,rfl,N5 h⟩))) htake)
  |exact N3 (N3 (m:=Builtin.Tuple.tupleExact _) (Og (N5 (N5 ⟨_,rfl,N5 h⟩)) htake))
  |exact N3 (N3 (m:=Builtin.Tuple.tupleExact _) (Og (N5 ⟨_,rfl,N5 h⟩) htake))
end
end HT
namespace L2
open PySem PySem.Spec PyProof.Rows
variable{X:Cx}{e:Expr}{pos p:Pos}{xs vs ys:Array Value}{us bm bmB:List Value}{A:Around}{s:Shared}{P prog:Program}{base h h':Heap}{env:Env}{outer:List Env}{l b a f:Addr}{Q:Value->Shared->Prop}{oe o:Obj}{w:World}{g:Array GenState}{d:Drawn}{t t' i n1 k:Nat}{os:OsState}{q x n name qual:Str}{N sn ns ps:List Str}{hdct ab κ κ':Bool}{col:Option Bool}{dd:Option Addr}{newId:String}{mN m mg:Str->Option Value}{y:Option Value}{v cd:Value}{tk:Tok}{H:Hp}{K:N4}{scope:Scope}{pins:List (Addr×Obj)}{σ:St}{es:List Expr}{ta:TA}{fd:FuncData}
section
variable{te:TE}{p2:Pos}
def vC(K:N4):V->Option Int->Option Int->Hp->VK->Prop:=λx lo hi H Q=>∃a xs,x=.ref a/\SqT K H a xs/\
 (HT.sIx xs.length 0 lo=0/\HT.sIx xs.length xs.length hi=xs.length)/\Q (.ref a) H
theorem Iw:SlR X (vC X.K):=by
 intro pins s σ H x v vl vu lo hi sl Q I rx hs pl pu h;obtain⟨a,xs,rfl,hx,hw,q⟩:=h;cases rx;obtain⟨its,r,ht,hz⟩:=I.tuple hx;have hlen:its.toArray.size=xs.length:=by rw[eM];exact r.length.symm
 refine⟨"tuple",_,PyProof.Rows.slot_tuple_getitem.lookup,ht.typeIs,?_⟩;exact HT.getItem_tuple_whole ht hs pl pu (by rw[hlen];exact hw) ⟨.ref a,H,I,rfl,q⟩
def A9(r:V->Hp->VK->Prop)(te:TE):TE:=λσ H Q=>te σ H λx H1=>r x H1 Q
def Ba(K:N4):V->Hp->VK->Prop:=λx H Q=>∃a xs,x=.ref a/\((SqT K H a xs/\∀p,H p=none->Q (.ref p) (upd H p (.tup xs.reverse)))\/(SqL K H a xs/\∀p,H p=none->Q (.ref p) (upd H p (.lst xs.reverse))))
theorem Vals.rev{xs:List V}(r:Vals xs us):Vals xs.reverse us.reverse:=by
 induction xs generalizing us with
 |nil=>cases r;exact .nil
 |cons x xs ih=>cases r with|cons r t=>rw[tS,tS];exact(ih t).append (.cons r .nil)
theorem Ix(its:List Value):slicePick its.toArray none none (some (-1))=its.reverse.toArray:=by
 have e:slicePick its.toArray none none (some (-1))=((sliceRange ((its.length:Int)-1) (-1) (-1)).filterMap (its.toArray[·]?)).toArray:=by
  unfold slicePick sliceBounds;simp
 rw[e];congr 1;have h:=HT.pick_rev its.toArray;rw[eM] at h;have h':its.toArray.toList.reverse=its.reverse:=by simp
 rw[h'] at h;rw[<-h];unfold sliceRange;simp only[show¬((-1:Int)>0) by decide,if_false];have hn:(if(-1:Int)<(its.length:Int)-1 then(its.length:Int) else 0).toNat=its.length:=by split<;>omega
 simp;rw[hn];rfl
theorem Iy{j pos3 pos4}(he:PE X e te):PE X (.Subscript e (.Slice none none (some (.UnaryOp .USub (.Constant (.int 1) j pos3) pos4)) p2) pos) (A9 (Ba X.K) te):=by
 intro pins s σ H Q I h;refine Subscript_ (bG (he pins s σ H _ I h) λv s1 ⟨x,H1,I1,r1,a,xs,ex,q1⟩=>?_);subst ex;cases r1;refine wpAny_Slice ?_;rw[evalPart_none];refine N5 (N5 ?_);rw[evalPart_some];refine bG (qM (mD (X:=X)) jV pins s1 σ H1 (λx H'=>x=.int (-1)/\H'=H1) I1 ⟨1,rfl,rfl,rfl⟩) λu s3 ⟨y,H3,I3,r3,e3,e4⟩=>?_;subst e3;obtain rfl:=e4.symm;obtain⟨tk,rfl⟩:=r3;have I4:Inv X pins σ H1 { s3 with heap:=s3.heap.push { cls:=.type "slice",data:=.fields #[.none,.none,.int (-1) tk] } }:=I3.kept (t':=s3.toks) λb ob q=>cX _ q;show wpAny (model X.prog X.w) X.A (subscriptTail e (.Slice none none (some (.UnaryOp .USub (.Constant (.int 1) j pos3) pos4)) p2) (.ref a) (.ref s3.heap.objs.size)) (EP X pins σ Q) X.xe { s3 with heap:=s3.heap.push { cls:=.type "slice",data:=.fields #[.none,.none,.int (-1) tk] } };rcases q1 with⟨hx,q1⟩|⟨hx,q1⟩
 .obtain⟨its,r,ht,hz⟩:=I4.tuple hx
  have hlen:=r.length;refine tail_any (ops:=[.ref a,.ref s3.heap.objs.size]) ht.typeIs PyProof.Rows.slot_tuple_getitem.lookup (HT.getItem_tuple_rev ht (Heap.IsSliceOf.new ..) (by rw[eM];omega) ?_) (by with_unfolding_all rfl);refine⟨.ref _,_,I4.laid (t':=s3.toks) (o:=.tup xs.reverse) (λb ob q=>cX _ q) (bM _) ?_,rfl,q1 _ (I4.hok.fresh (bM _))⟩;exact⟨by rw[At];exact hz,_,r.rev,IsTup.new _ _⟩
 .obtain⟨its,r,ht,hz⟩:=I4.list hx
  have hlen:=r.length;refine tail_any (ops:=[.ref a,.ref s3.heap.objs.size]) ht.isList.typeIs slot_list_getitem.lookup (wpAny_getItem_list_slice ht.isList (Heap.IsSliceOf.new ..) .none .none (.int (-1) tk) (by simp) ?_ (by rw[eM];omega)) (by with_unfolding_all rfl);rw[Ix];refine⟨.ref _,_,I4.laid (t':=s3.toks) (o:=.lst xs.reverse) (λb ob q=>cX _ q) (bM _) ?_,rfl,q1 _ (I4.hok.fresh (bM _))⟩;exact⟨by rw[At];exact hz,_,0,r.rev,f9 _ rfl⟩
end
namespace Fl
def lA(P:Obj->Prop):Prop:=∀(o:Obj) f,P o->P (o.mapFields f)
theorem Iz(o:Obj)(f:Array Value->Array Value):(o.mapFields f).dict=o.dict:=by
 unfold Obj.mapFields;split<;>rfl
def Is(cls:Value)(dx:Option Addr)(o:Obj):Prop:=o.cls=cls/\o.dict=dx
theorem Is.firm{cls:Value}{dx:Option Addr}:lA (Is cls dx):=λo f h=>⟨(Obj.cls_mapFields o f).trans h.1,(Iz o f).trans h.2⟩
def Tr(P:Obj->Prop)(base:Heap)(e:Addr)(fl:Value)(h:Heap):Prop:=
 ∃(oe:Obj) (vs:Array Value) (T:Addr) (oT:Obj) (ts:Array Value),h.get? e=some oe/\P oe/\oe.data=.fields vs/\vs[1]? = some (.ref T)/\base.get? T=none/\T≠e/\h.get? T=some oT/\oT.data=.fields ts/\ts[3]? = some fl
structure Up(P:Obj->Prop)(base:Heap)(l:List Env)(e:Addr)(fl:Value)(h:Heap):Prop where
 st:base.StaysIn h
 new:base.get? e=none
 fr:h.FunFrames base l
 tr:Tr P base e fl h
section
variable{M:Model}{E:Value->Shared->Prop}{P:Obj->Prop}{l:List Env}{L e:Addr}{fl:Value}{Q:Unit->Shared->Prop}
theorem entry(hP:lA P){head:Value}{b:Bool}(hA:A.frames=some (env::outer))(hl:s.heap.FunFrames base (env::outer))(hf:env.frame=some L)(he:s.heap.get? e=some oe)(hp:P oe)
  (st:base.StaysIn s.heap) (new:base.get? e=none) (hd:oe.data=.fields vs) (hz:1<vs.size) (k:∀h',Up P base (env::outer) e (rawInt L) h'->s.heap.UpToSlots h'->Q () { s with heap:=h' }) :
  wpAny M A (do let a <-frameOf env;let pl <-entryPlaceOf L b;let c <-EntryCells.newEntry head a .none (rawInt L) .none pl;setField (.ref e) 1 c) Q E s:=by
 have out:e∉(env::outer).filterMap (·.frame):=λz=>by
  obtain⟨_,o,ho,nf⟩:=hl.mem z;cases he.symm.trans ho;exact nf vs hd
 refine N3 (wpAny_frameOf_fun hA hl hf λh1 so=>?_);refine N3 (wpAny_entryPlaceOf λpl place=>?_);unfold EntryCells.newEntry newFields;refine N3 (Og ?_ (place.sizeOk5 _ _ _ _ _));generalize ho:({ cls:=.type "traceback",dict:=none,data:=.fields ([head,.ref L,.none,rawInt L,.none]++(if pl.isEmpty then List.replicate 6 Value.none else pl)).toArray }:Obj)=ob;have e1:h1.get? e=some oe:=(so.2.1 e out).trans he;have ne:h1.objs.size≠e:=yq (cV e1);have e2:(h1.push ob).get? e=some oe:=cX ob e1;have fr0:ob.isFreed=false:=by rw[<-ho];exact Obj.isFreed_of_fields rfl
 refine OB e2 hd hz (k _ ?_ ?_)
 .have e3:=uQ (Obj.mapFields (·.setIfInBounds 1 (Value.ref h1.objs.size))) e2 (Obj.isFreed_of_fields (Obj.data_mapFields hd _))
  have oth:∀{c o},c≠e->h1.get? c=some o->((h1.push ob).update e (Obj.mapFields (·.setIfInBounds 1 (Value.ref h1.objs.size)))).get? c=some o:=λne hc=>(rH _ _ (Ob ne)).trans (cX ob hc);refine⟨λc o hc=>?_,new,hl.of_keeps λc o hc nf=>?_,_,_,h1.objs.size,ob,_,e3,hP _ _ hp,Obj.data_mapFields hd _,by simp[hz],?_,ne,(rH _ _ (Ob ne)).trans (f9 h1 fr0),by rw[<-ho],?_⟩
  .exact oth (λz=>by rw[z,new] at hc;cases hc) ((so.2.1 c λz=>by rw[(hl.mem z).1] at hc;cases hc).trans (st c o hc))
  .obtain⟨sl,hs⟩:=so.2.2 c o hc
   exact⟨_,oth (λz=>by rw[z,he] at hc;cases hc;exact nf vs hd) hs,rfl⟩
  .cases q:base.get? h1.objs.size with
   |none=>rfl
   |some o=>
    have:h1.get? h1.objs.size=some o:=(so.2.1 _ λz=>by rw[(hl.mem z).1] at q;cases q).trans (st _ o q);exact N6 (cV this) (iy _)
  .rcases place with rfl|⟨_,_,_,_,_,_,_,rfl⟩<;>simp
 .intro c o hc nf
  obtain⟨sl,hs⟩:=so.2.2 c o hc;exact⟨sl,(rH _ _ (Ob λz=>by rw[z,he] at hc;cases hc;exact nf vs hd)).trans (cX ob hs)⟩
theorem IC(hP:lA P)(hA:A.frames=some (env::outer))(hl:s.heap.FunFrames base (env::outer))(hf:env.frame=some L)(he:s.heap.get? e=some oe)(hp:P oe)
  (st:base.StaysIn s.heap) (new:base.get? e=none) (hd:oe.data=.fields vs) (h1:vs[1]? = some .none) (k:∀h',Up P base (env::outer) e (rawInt L) h'->s.heap.UpToSlots h'->Q () { s with heap:=h' }) :
  wpAny M A (noteFrame (.ref e) env) Q E s:=by
 unfold noteFrame;simp only[hf];refine N3 (Oe he hd h1 ?_);rw[if_neg (by decide)];exact entry hP hA hl hf he hp st new hd (Ybq.mp h1).1 k
theorem note(hP:lA P)(hA:A.frames=some (env::outer))(hf:env.frame=some L)(u:Up P base (env::outer) e .none s.heap)
  (k:∀h',Up P base (env::outer) e (rawInt L) h'->s.heap.UpToSlots h'->Q () { s with heap:=h' }):wpAny M A (noteFrame (.ref e) env) Q E s:=by
 obtain⟨st,new,fr,oe,vs,T,oT,ts,he,hp,hd,h1,nT,Te,hT,dT,h3⟩:=u;unfold noteFrame;simp only[hf];refine N3 (Oe he hd h1 ?_);rw[if_pos (show(Value.ref T != Value.none)=true from by simp)];refine N3 (Oe hT dT h3 ?_);rw[if_neg (by simp[rawInt])];refine N3 (OB hT dT (Ybq.mp h3).1 ?_);have oth:∀{c o},c≠T->s.heap.get? c=some o->(s.heap.update T (Obj.mapFields (·.setIfInBounds 3 Value.none))).get? c=some o:=λne hc=>(rH _ _ (Ob ne)).trans hc;have notT:∀{c o},s.heap.get? c=some o->(∀vs,o.data≠.fields vs)->c≠T:=λhc nf z=>by
  rw[z,hT] at hc;cases hc;exact nf ts dT
 refine entry hP hA (fr.of_keeps λc o hc nf=>⟨o,oth (notT hc nf) hc,rfl⟩) hf (oth (Ob Te) he) hp (λc o hc=>oth (λz=>by rw[z,nT] at hc;cases hc) (st c o hc)) new hd (Ybq.mp h1).1 λh' u' up=>k h' u' λc o hc nf=>up c o (oth (notT hc nf) hc) nf
theorem lands(u:Up P base l e fl s.heap)(k:∀h',Up P base l e .none h'->s.heap.UpToSlots h'->Q () { s with heap:=h' }):wpAny M A (setFlight (.ref e) none) Q E s:=by
 obtain⟨st,new,fr,oe,vs,T,oT,ts,he,hp,hd,h1,nT,Te,hT,dT,h3⟩:=u;have oth:∀{c o},c≠T->s.heap.get? c=some o->(s.heap.update T (Obj.mapFields (·.setIfInBounds 3 ((none:Option Addr).elim Value.none λf=>rawInt f)))).get? c=some o:=λne hc=>(rH _ _ (Ob ne)).trans hc;have notT:∀{c o},s.heap.get? c=some o->(∀vs,o.data≠.fields vs)->c≠T:=λhc nf z=>by
  rw[z,hT] at hc;cases hc;exact nf ts dT
 have z3:=(Ybq.mp h3).1;unfold setFlight;refine N3 (Oe he hd h1 ?_);rw[if_pos (show(Value.ref T != Value.none)=true from by simp)];refine OB hT dT z3 (k _ ⟨λc o hc=>oth (λz=>by rw[z,nT] at hc;cases hc) (st c o hc),new,fr.of_keeps λc o hc nf=>⟨o,oth (notT hc nf) hc,rfl⟩,oe,vs,T,_,_,oth (Ob Te) he,hp,hd,h1,nT,Te,uQ _ hT (Obj.isFreed_of_fields (Obj.data_mapFields dT _)),Obj.data_mapFields dT _,by simp[z3]⟩ λc o hc nf=>⟨o.slots,oth (notT hc nf) hc⟩)
theorem Up.out(u:Up P base (env::outer) e fl s.heap):Up P base outer e fl s.heap:=⟨u.st,u.new,u.fr.2.2,u.tr⟩
theorem Up.there(u:Up P base l e fl h):∃ob,h.get? e=some ob/\P ob/\∃vs,ob.data=.fields vs:=by
 obtain⟨oe,vs,_,_,_,he,hp,hd,_⟩:=u.tr;exact⟨oe,he,hp,vs,hd⟩
theorem leaves(hP:lA P)(hA:A.frames=some (env::outer))(hf:env.frame=some L)(u:Up P base (env::outer) e .none s.heap)(k:∀h',Up P base outer e .none h'->s.heap.UpToSlots h'->Q () { s with heap:=h' }) :
  wpAny M A (leaving env (.ref e)) Q E s:=by
 unfold leaving;exact N3 (note hP hA hf u λh1 u1 up1=>lands (s:={ s with heap:=h1 }) u1 λh2 u2 up2=>k h2 ⟨u2.st,u2.new,u2.fr.2.2,u2.tr⟩ (up1.trans up2))
theorem leaves_new(hP:lA P)(hA:A.frames=some (env::outer))(hl:s.heap.FunFrames base (env::outer))(hf:env.frame=some L)(he:s.heap.get? e=some oe)(hp:P oe)
  (st:base.StaysIn s.heap) (new:base.get? e=none) (hd:oe.data=.fields vs) (h1:vs[1]? = some .none) (k:∀h',Up P base outer e .none h'->s.heap.UpToSlots h'->Q () { s with heap:=h' }):wpAny M A (leaving env (.ref e)) Q E s:=by
 unfold leaving;exact N3 (IC hP hA hl hf he hp st new hd h1 λh1 u1 up1=>lands (s:={ s with heap:=h1 }) u1 λh2 u2 up2=>k h2 ⟨u2.st,u2.new,u2.fr.2.2,u2.tr⟩ (up1.trans up2))
end
abbrev sT(C t:Addr)(dx:Option Addr):Obj:={ cls:=.ref C,dict:=dx,data:=.fields #[.ref t,.none,.none,.none,.bool false,.none] }
section
variable{M:Model}{E:Value->Shared->Prop}
variable{nm:Str}{C N fI:Addr}{bs:List Value}{sub:List Value}{k0 k1 k2 k3 k5:Option Value}{B initId:String}{rest:List Value}{oI:Obj}
theorem ID{x:Sem Value}{Q:Flow->Shared->Prop}(hb:bm.contains (.type "BaseException")=true)(hh:A.handled=none)
  (hx:wpAny M A x (λv s1=>∃e t dx,v=.ref e/\s1.heap.get? C=some (excClassObj nm q C N bs bm hdct sn sub ab col dd k0 k1 k2 k3 k5 newId)/\s1.heap.get? e=some (sT C t dx)/\E (.ref e) s1) E s) :
  wpAny M A (raiseStmt env (some x) none) Q E s:=by
 have isB:(Value.ref C::bm).contains (.type "BaseException")=true:=by
  rw[tU,hb,Bool.or_true]
 unfold raiseStmt;refine N3 (Of hx (λv s1 y=>?_) λ_ _ z=>z);obtain⟨e,t,dx,rfl,cC,ce,k⟩:=y;obtain⟨hp,g,d,tk,os⟩:=s1
 repeat (first|with_reducible refine Od ce ?_|with_reducible refine Od cC ?_|(with_reducible refine Ow cC ?_;rw[isB])|wp_step)
 exact wpAny_raiseNew_none hh k
theorem IE(F:ExcBaseFacts B newId initId bmB)(T:OwnTail h bmB bm){Q:Fin->Shared->Prop}(hC:h.get? C=some (excClassObj nm q C N bs bm hdct sn sub ab col dd k0 k1 k2 k3 k5 newId))(hn:h.Ns N mN)(hi:mN "__init__" = some (.ref fI))
  (hf:h.get? fI=some oI) (hc:oI.cls=.type "function") (k:∀h' e,Heap.MadeExcOf h h' e (.ref C) rest->wpAny (model prog w) A (call (.ref fI) (.ref e::rest)) (λr s'=>r=.none/\Q (.done (.ret (.ref e))) s') E ⟨h',g,d,t,os⟩)
  (hr:rest.length<=sizeLine:=by size_fits):wpAny (model prog w) A (Builtin.«type.__call__» ⟨.ref C::rest,[]⟩) Q E ⟨h,g,d,t,os⟩:=by
 repeat (first|with_reducible refine Od hC ?_|with_reducible refine wpAny_madeBy_exc hC ?_|wp_step)
 refine codeAny_call_builtin_code (Code.quiet_builtin _ F.quiet) (wpAny_check_new_subT F T hC (codeAny_exc_new_subT F T hC ?_ hr));show wpAny _ _ _ _ _ _;generalize e0:h.push { cls:=.type "tuple",data:=.seq rest.toArray }=h0;generalize e1:h0.push (sT C h.objs.size none)=h1;have sz0:h0.objs.size=h.objs.size+1:=by rw[<-e0,kX]
 have up:∀b o,h.get? b=some o->h1.get? b=some o:=λb o z=>by
  rw[<-e1,<-e0];exact cX _ (cX _ z)
 have at1:h1.get? (h.objs.size+1)=some (sT C h.objs.size none):=by
  rw[<-e1];exact Au sz0.symm rfl
 have att:h1.get? h.objs.size=some { cls:=.type "tuple",data:=.seq rest.toArray }:=by
  rw[<-e1,<-e0];exact cX _ (Au rfl rfl)
 have C1:=up _ _ hC;have N1:h1.Ns N mN:=by
  obtain⟨o,es,ep,z,r⟩:=hn;exact⟨o,es,ep,up _ _ z,r⟩
 have T1:OwnTail h1 bmB bm:=T.keeps up;have me:(Value.ref C::bm).contains (.ref C)=true:=by simp
 unfold isInstance
 repeat (first|with_reducible refine Od at1 ?_|(with_reducible refine Ow C1 ?_;rw[me])|wp_step)
 show wpAny _ _ (typeLookup (.ref C) _) _ _ _;refine wpAny_typeLookup_tail C1 N1 T1 F.mroIs F.init.lookup ?_;rw[hi];refine Om (N3 ?_);unfold bindSpecial;refine N3 (OD (T:= "function") ⟨_,up _ _ hf,hc⟩ ?_);rw[if_pos (by decide)];have new1:h.get? (h.objs.size+1)=none:=ym (jl _);have new0:h.get? h.objs.size=none:=ym (bM _);refine N5 (N3 (Of (k h1 (h.objs.size+1) ⟨up,new1,h.objs.size,at1,new0,att⟩) (λr s' z=>?_) λ_ _ z=>z));obtain⟨rfl,z⟩:=z
 wp_walk
 exact z
theorem IF(F:ExcBaseFacts B newId initId bmB)(T:OwnTail h bmB bm)(hC:h.get? C=some (excClassObj nm q C N bs bm hdct sn sub ab col dd k0 k1 k2 k3 k5 newId))(hn:h.Ns N mN)(hi:mN "__init__" = some (.ref fI))
  (hf:h.get? fI=some oI) (hc:oI.cls=.type "function") (k:∀h' e,Heap.MadeExcOf h h' e (.ref C) rest->wpAny (model prog w) (A.under (.builtin "type.__call__" ⟨.ref C::rest,[]⟩)) (call (.ref fI) (.ref e::rest)) (λr s'=>r=.none/\Q (.ref e) s') E ⟨h',g,d,t,os⟩)
  (hr:rest.length<=sizeLine:=by size_fits):wpAny (model prog w) A (call (.ref C) rest) Q E ⟨h,g,d,t,os⟩:=by
 have q1:=tc_lookup;have q2:=tc_bind (.ref C);have q3:(⟨h,g,d,t,os⟩:Shared).TypeIs (.ref C) "type" :=⟨_,hC,rfl⟩
 refine wpAny_call (codeAny_of_tree ?_);show wpAny _ _ (callAny (.ref C) _) _ _ _
 repeat (any_goals (first|assumption|with_reducible refine Od hC ?_|wp_step))
 refine⟨rfl,codeAny_call_builtin_at (Code.quiet_builtin _ (by decide +kernel)) entry_typeCall (wpAny_check_type_call_sub hC (IE (hr:=hr) F T hC hn hi hf hc k))⟩
theorem IG(F:ExcBaseFacts B newId initId bmB){np cpos:Pos}{args:List Expr}{Q:Flow->Shared->Prop}(hb:bm.contains (.type "BaseException")=true)(hh:A.handled=none)(hp:(backTo cpos (starEach args env)).any (·.1)=false)(hi:mN "__init__" = some (.ref fI))(hc:oI.cls=.type "function")
  (k:wpAny (model prog w) A (eval (.Name x np) env) (λf s1=>f = .ref C/\wpAny (model prog w) A (evalArgs (.ref C) true (backTo cpos (starEach args env)) [])
   (λa s2=>a.kw=[]/\a.pos.length<=sizeLine/\s2.heap.get? C=some (excClassObj nm q C N bs bm hdct sn sub ab col dd k0 k1 k2 k3 k5 newId)/\s2.heap.Ns N mN/\OwnTail s2.heap bmB bm/\s2.heap.get? fI=some oI/\
    ∀h' e,Heap.MadeExcOf s2.heap h' e (.ref C) a.pos->wpAny (model prog w) (A.under (.builtin "type.__call__" ⟨.ref C::a.pos,[]⟩)) (call (.ref fI) (.ref e::a.pos))
     (λr s3=>r=.none/\∃t dx,s3.heap.get? C=some (excClassObj nm q C N bs bm hdct sn sub ab col dd k0 k1 k2 k3 k5 newId)/\s3.heap.get? e=some (sT C t dx)/\E (.ref e) s3) E { s2 with heap:=h' }) E s1) E s) :
  wpAny (model prog w) A (exec (.Raise (some (.Call (.Name x np) args [] cpos)) none pos) env) Q E s:=by
 rw[arm_exec_Raise];refine N3 (Oq (ID (C:=C) (nm:=nm) (q:=q) (N:=N) (bs:=bs) (bm:=bm) (hdct:=hdct) (sn:=sn) (sub:=sub) (ab:=ab) (col:=col) (dd:=dd) (k0:=k0) (k1:=k1) (k2:=k2) (k3:=k3) (k5:=k5) (newId:=newId) hb hh ?_));refine N3 (Of (wpAny_Call_ofName (Of k (λf s1 y=>?_) λ_ _ z=>z)) (λv s3 y=>N3 (Oq (N5 y))) λ_ _ z=>z);obtain⟨rfl,y⟩:=y;unfold callWith;refine N3 (Om (Of y (λa s2 y=>N3 (Oq ?_)) λ_ _ z=>z));obtain⟨ap,ak⟩:=a;obtain⟨rfl,hl,cC,cN,T,cI,y⟩:=y;obtain⟨hp',g,d,tk,os⟩:=s2;simp only[hp];refine N3 (wpAny_keeperOf_exc cC (N3 (IF (hr:=hl) F T cC cN hi cI hc λh' e m=>Of (y h' e m) (λr s3 z=>?_) λ_ _ z=>z)));obtain⟨rfl,t,dx,z1,z2,z3⟩:=z;exact⟨rfl,N3 (Om (wpAny_point (N5 ⟨e,t,dx,rfl,z1,z2,z3⟩)))⟩
end
end Fl
namespace Fl
open PySem.Builtin PySem.Builtin.ObjectAttr
inductive Tl (h:Heap) (ns:List Str) (bmB:List Value):List Value->Prop
 |last:Tl h ns bmB bmB
 |more {a:Addr} {c:Value} {dd:Option Addr} {cd:ClassData} {sl:Array (Option Value)} {m:Str->Option Value} {l:List Value}:h.get? a=some ⟨c,dd,.cls cd,sl⟩->h.Ns cd.ns m->(∀n∈ns,m n=none)->Tl h ns bmB l->Tl h ns bmB (.ref a::l)
section
variable{l:List Value}
theorem Tl.has(T:Tl h ns bmB l){X:String}{b:Bool}(q:bmB.contains (.type X)=b):l.contains (.type X)=b:=by
 induction T with
 |last=>exact q
 |more _ _ _ _ ih=>rw[tU,ih];rfl
theorem Tl.keeps(T:Tl h ns bmB l)(k:∀b o,h.get? b=some o->h'.get? b=some o):Tl h' ns bmB l:=by
 induction T with
 |last=>exact .last
 |more a b c _ ih=>exact .more (k _ _ a) (b.keeps k) c ih
theorem Tl.own(T:Tl h ns bmB l)(i:("__init__" : Str)∈ns):OwnTail h bmB l:=by
 induction T with
 |last=>exact .base
 |more a b c _ ih=>exact .own a b (c _ i) ih
theorem Tl.passes(T:Tl h ns bmB l)(self:Value)(what:Str):refuseLoop self what l=refuseLoop self what bmB:=by
 induction T with
 |last=>rfl
 |more _ _ _ _ ih=>rw[refuseLoop_ref,ih]
end
section
variable{M:Model}{E:Value->Shared->Prop}
variable{nm:Str}{C N x:Addr}{bs:List Value}{sub:List Value}{k0 k1 k2 k3 k5:Option Value}{B sa owner:String}
theorem vD{l:List Value}{Q:Option Value->Shared->Prop}(T:Tl h ns bmB l)(i:n∈ns)(r:lookupAlong bmB n=pure y)(k:Q y ⟨h,g,d,t,os⟩):wpAny M A (lookupAlong l n) Q E ⟨h,g,d,t,os⟩:=by
 induction T with
 |last=>
  rw[r];exact N5 k
 |more a b c _ ih=>
  rw[lookupAlong_cons];refine N3 (wpAny_classOwn_cls a b ?_);rw[c n i];exact ih
theorem look{Q:Option Value->Shared->Prop}(hC:h.get? C=some (excClassObj nm q C N bs bm hdct sn sub ab col dd k0 k1 k2 k3 k5 newId))(hN:h.Ns N mN)(hm:mN n=none)(T:Tl h ns bmB bm)(i:n∈ns)
  (b:mroOf (.type B)=pure bmB) (hB:typeLookup (.type B) n=pure y) (k:Q y ⟨h,g,d,t,os⟩):wpAny M A (typeLookup (.ref C) n) Q E ⟨h,g,d,t,os⟩:=by
 have r:lookupAlong bmB n=pure y:=by
  rw[typeLookup_eq,b] at hB;exact hB
 rw[typeLookup_eq];refine N3 (wpAny_mroOf_exc hC ?_);rw[lookupAlong_cons];refine N3 (wpAny_classOwn_exc hC hN ?_);rw[hm];exact vD T i r k
theorem IH{Q:Unit->Shared->Prop}(SF:StoreFacts B bmB sa owner)(hC:h.get? C=some (excClassObj nm q C N bs bm true sn sub ab col dd k0 k1 k2 k3 k5 newId))(hN:h.Ns N mN)(T:Tl h ns bmB bm)
  (m1:mN "__setattr__" = none) (m2:mN name=none) (i1:("__setattr__" : Str)∈ns) (i2:name∈ns) (hB:typeLookup (.type B) name=pure none) (hx:h.get? x=some o) (hc:o.cls=.ref C) (hd:o.dict=none) (hv:o.data=.fields vs)
  (k:∀h' tk dx m,h.get? dx=none->dx≠x->h'.get? x=some { o with dict:=some dx }->h'.Ns1 dx m->m name=some v->(∀n,n≠name->m n=none)->(∀b u,b≠x->h.get? b=some u->h'.get? b=some u)->Q () ⟨h',g,d,tk,os⟩) :
  wpAny (model prog w) A (setAttr (.ref x) name v) Q E ⟨h,g,d,t,os⟩:=by
 have bi:=SF.slot.bind (.ref x);have own:(Value.ref C::bm).contains (.type owner)=true:=by rw[tU,T.has SF.hasOwner,Bool.or_true]
 have pass:=SF.passes (.ref x);unfold setAttr callSpecial? specialOf
 repeat (any_goals (first|assumption|(with_reducible refine Od hx ?_;rw[hc])|with_reducible refine look hC hN m1 T i1 SF.mro SF.slot.lookup ?_|wp_step))
 refine codeAny_call_builtin SF.slot.plain SF.entry ?_;simp only[checkBuiltinCall,SF.kind,SF.split];refine N3 ?_;unfold isInstance
 repeat (first|(with_reducible refine Od hx ?_;rw[hc])|(with_reducible refine Ow hC ?_;rw[own])|wp_step)
 have chk:∀{R:Unit->Shared->Prop} {z:Shared},R () z->wpAny (model prog w) A.in1 (match Manifest.signature? sa with|some sig=>Bind.checkArgs sa sig ⟨[.ref x]++[.str name t,v],[]⟩|_=>pure ()) R (λe s'=>E e s') z:=by
  intro R z r;cases e:Manifest.signature? sa with
  |none=>exact N5 r
  |some sig=>
   have ar:=SF.args (.ref x) (.str name t) v;simp only[argsOk,e] at ar;have ar':Bind.checkArgs sa sig ⟨[.ref x]++[.str name t,v],[]⟩=pure ():=ar;show wpAny _ _ (Bind.checkArgs sa sig ⟨[.ref x]++[.str name t,v],[]⟩) _ _ _;rw[ar'];exact N5 r
 refine chk ?_;clear chk;unfold Builtin.«object.__setattr__»
 repeat (first|rw[refuse_eq]|(rw[refuseLoop_ref,T.passes,pass])|(with_reducible refine Od hx ?_;rw[hc])|with_reducible refine wpAny_mroOf_exc hC ?_|with_reducible refine look hC hN m2 T i2 SF.mro hB ?_|wp_step)
 rw[hd,if_neg (by simp[typeHasDict]),hv];generalize e1:h.push { cls:=.type "dict",data:=.dict #[] }=h1;have in1:∀b u,h.get? b=some u->h1.get? b=some u:=λb u z=>by rw[<-e1];exact cX _ z
 have nx:x≠h.objs.size:=fR (cV hx);refine N3 (wpAny_alloc' ?_);rw[e1];refine N3 (wpAny_update' (in1 _ _ hx) (N5 ?_));have fr:({ o with dict:=some h.objs.size }:Obj).isFreed=false:=Obj.isFreed_of_fields hv;generalize e2:(h1.update x λo=>{ cls:=o.cls,dict:=some h.objs.size,data:=o.data,slots:=o.slots })=h2;have at2:h2.get? x=some { o with dict:=some h.objs.size }:=by rw[<-e2];exact uQ _ (in1 _ _ hx) fr
 have oth:∀b,b≠x->h2.get? b=h1.get? b:=λb ne=>by rw[<-e2];exact Heap.get?_update_ne _ _ _ _ ne
 have new2:h2.get? h.objs.size=some { cls:=.type "dict",data:=.dict #[] }:=by
  rw[oth _ (Ob nx),<-e1];exact Au rfl rfl
 have emp:h2.Ns h.objs.size (λ_=>none):=⟨_,#[],_,new2,rfl,λe z=>N6 z (by simp),λ_=>rfl⟩
 show wpAny _ _ (storeInDict h.objs.size (.str name t) name v) _ _ _;unfold storeInDict newKeyGuard;refine N3 (N5 (N3 (wpAny_nsSet1 (Heap.Ns1.of_empty emp) λh3 n3 same=>?_)));obtain⟨oD,es,ep,g1,g2,g3⟩:=n3.count (Within.cons name v Within.nil);refine N3 (wpAny_lookBehind g1 (by rw[g2];exact pastItsLine_dict (f8 g3 (by rw[dQ,jm,sizeLine_eq];omega))) ?_)
 wp_walk
 refine k h3 _ h.objs.size _ (ym (bM _)) (Ob nx) ((same.2 x nx).trans at2) n3 (by simp) (λn ne=>by simp[ne]) λb u ne z=>?_;exact(same.2 b (fR (cV z))).trans ((oth b ne).trans (in1 b u z))
end
section
variable{M:Model}{E:Value->Shared->Prop}
variable{nm:Str}{C N dx:Addr}{bs:List Value}{sub:List Value}{k0 k1 k2 k3 k5:Option Value}{B:String}
theorem Zn{Q:PySem.Fin->Shared->Prop}(FB:ExcAttrBase B bmB)(hC:h.get? C=some (excClassObj nm q C N bs bm true sn sub ab col dd k0 k1 k2 k3 k5 newId))(hN:h.Ns N mN)(T:Tl h ns bmB bm)
  (m3:mN name=none) (i3:name∈ns) (hB:typeLookup (.type B) name=pure none)
  (hx:h.get? a=some o) (hc:o.cls=.ref C) (hd:o.dict=some dx) (hv:o.data=.fields vs) (hm:h.Ns dx m) (hn:m name=some v) (k:Q (.done (.ret v)) ⟨h,g,d,t,os⟩):wpAny (model prog w) A (Builtin.«object.__getattribute__» ⟨[.ref a,.str name tk],[]⟩) Q E ⟨h,g,d,t,os⟩:=by
 repeat (any_goals (first|assumption|(with_reducible refine Od hx ?_;rw[hc])|with_reducible refine look hC hN m3 T i3 FB.mro hB ?_|wp_step))
 rw[hv];dsimp only;unfold instanceDict
 repeat (any_goals (first|assumption|with_reducible refine Od hx ?_|wp_step))
 rw[hd,hc];dsimp only
 repeat (any_goals (first|assumption|(with_reducible refine wpAny_nsGet hm ?_;rw[hn])|with_reducible refine Od hC ?_|wp_step))
theorem get_field{ex:Bool}(FB:ExcAttrBase B bmB)(hC:h.get? C=some (excClassObj nm q C N bs bm true sn sub ab col dd k0 k1 k2 k3 k5 newId))(hN:h.Ns N mN)(T:Tl h ns bmB bm)
  (m1:mN "__getattribute__" = none) (m2:mN "__getattr__" = none) (m3:mN name=none) (i1:("__getattribute__" : Str)∈ns) (i2:("__getattr__" : Str)∈ns) (i3:name∈ns) (hB:typeLookup (.type B) name=pure none)
  (hx:h.get? a=some o) (hc:o.cls=.ref C) (hd:o.dict=some dx) (hv:o.data=.fields vs) (hm:h.Ns dx m) (hn:m name=some v) (ho:handedOut v=pure v) (k:Q v ⟨h,g,d,t+1,os⟩):wpAny (model prog w) A (getAttr (.ref a) name ex) Q E ⟨h,g,d,t,os⟩:=by
 have bi:=FB.ga.bind (.ref a);have x0:(ex&&onTheHeap (Value.builtin "BaseException.__getattribute__"))=false:=by cases ex<;>rfl
 have x2:(Value.builtin "BaseException.__getattribute__" == Value.builtin "object.__getattribute__")=false:=by decide +kernel
 have x1:(onTheHeap (Value.ref C)&&Value.builtin "BaseException.__getattribute__" == Value.builtin "object.__getattribute__")=false:=by rw[x2];rfl
 have kd:builtinKind "BaseException.__getattribute__" = some .slot:=by decide +kernel
 have sp:splitId "BaseException.__getattribute__" = some ("BaseException", "__getattribute__"):=by decide +kernel
 have isB:(Value.ref C::bm).contains (.type "BaseException")=true:=by rw[tU,T.has FB.hasBase];rfl
 have ar:=F.args_bexc_ga (.ref a) (.str name t);have chk:∀{M:Model} {A:Around} {E:Value->Shared->Prop} {R:Unit->Shared->Prop} {u:Nat},R () ⟨h,g,d,u,os⟩->wpAny M A (checkBuiltinCall "BaseException.__getattribute__" ⟨[.ref a]++[.str name t],[]⟩) R E ⟨h,g,d,u,os⟩:=by
  intro M A E R u r;simp only[checkBuiltinCall,kd,sp];refine N3 ?_;unfold isInstance
  repeat (first|(with_reducible refine Od hx ?_;rw[hc])|(with_reducible refine Ow hC ?_;rw[isB])|wp_step)
  exact r
 unfold getAttr
 repeat (any_goals (first|assumption|(with_reducible refine Od hx ?_;rw[hc])|with_reducible refine look hC hN m1 T i1 FB.mro FB.ga.lookup ?_|with_reducible refine look hC hN m2 T i2 FB.mro FB.noGetattr ?_|wp_step))
 refine codeAny_call_builtin FB.ga.plain F.entry_bexc_ga (chk (Zn FB hC hN T m3 i3 hB hx hc hd hv hm hn ?_));show wpAny _ _ (handedOut v) _ _ _;rw[ho];exact N5 k
end
end Fl
def cU(P:Program)(w:World):lT:=λouter H s E e s'=>∃(ea:Addr) (cls:Value) (dx:Option Addr) (H':Hp) (B:Heap),e=.ref ea/\Fl.Up (Fl.Is cls dx) B outer ea .none s'.heap/\s'.os=s.os/\AllBare s'.gens/\Un (cM outer) [] H H' s.heap s'.heap/\HOk P w H' s'.heap/\
 (∀b o,s.heap.get? b=some o->b∉cM outer->∃o',B.get? b=some o')/\(∀b u,H' b=some u->∃o,B.get? b=some o)/\E cls dx H'
def cK:cc (cU P w) X E0:=λ_ _ _ _ _ _ _ ⟨_,_,_,_,_,_,_,_,_,_,_,_,_,z⟩=>z.elim
theorem HOk.through{B h2:Heap}(hok:HOk P w H h)(hT:∀ b u,H b=some u->∃ o,B.get? b=some o)(s1:B.StaysIn h)(s2:B.StaysIn h2):HOk P w H h2:=λa o e=>(hok a o e).stay (λb u hb q=>by
  have hb':∃v,H b=some v:=by
   rcases hb with rfl|hb
   .exact⟨_,e⟩
   .exact⟨_,hb⟩
  obtain⟨v,hv⟩:=hb';obtain⟨o',eB⟩:=hT b v hv;have:=s1 b o' eB;rw[q] at this;cases this;exact s2 b _ eB) (λ_ z=>z) λ_ _ z=>z
section
variable{E:XK}
theorem vE{l:List Env}(h:b∈cM l):b∈cM (env::l):=by
 unfold cM at h ⊢;obtain⟨e,h1,h2⟩:=YaA.mp h;exact YaA.mpr ⟨e,i8 _ h1,h2⟩
theorem Eo:cc (cU P w) (cB (cU P w) P w K mg base N qual scope f cd A outer s H E) E:=by
 rintro pins σ H1 s1 _ s' I ⟨ea,cls,dx,H',B,rfl,fl,hos,hbare,un,hok,hB,hT,hE⟩;have nostk:∀b o,s.heap.get? b=some o->b∉cM outer->b∉cM (envOfC qual scope s.heap.objs.size f cd::outer):=λb o e hb hm=>by
  rcases Yao.mp (I.stkSub b hm) with z|z
  .have l1:=cV e
   have l2:s.heap.objs.size<=(envOfC qual scope s.heap.objs.size f cd).locals:=I.ok.above;have z':b=(envOfC qual scope s.heap.objs.size f cd).locals:=z;rw[<-z'] at l2;exact N6 (cW l1 l2) (iy _)
  .exact hb z
 have ib:Un (cM outer) [] H H1 s.heap s1.heap:=I.base;show wpAny (model P w) (A.deeper (envOfC qual scope s.heap.objs.size f cd)) (leaving (envOfC qual scope s.heap.objs.size f cd) (.ref ea)) (λ_ s''=>cU P w outer H s E (.ref ea) s'') _ s';refine Fl.leaves Fl.Is.firm I.ok.frames rfl fl λh2 fl2 up=>?_;have frm:∀b,b∈cM (envOfC qual scope s.heap.objs.size f cd::outer)->∃o,s'.heap.get? b=some o/\∀vs,o.data≠.fields vs:=λb hb=>(fl.fr.mem hb).2;refine⟨ea,cls,dx,H',B,rfl,fl2,hos.trans I.os,hbare,⟨λb o e n hb _=>?_,λb o e n hb _=>?_,λb o e n _=>?_,λb o e _=>?_,λb xs e=>un.tups b xs (ib.tups b xs e),λb o xs e=>un.frzs b o xs (ib.frzs b o xs e),λb ps e=>?_,λ_ ⟨o,e⟩ n=>un.sys (by simp) (ib.there _ o e (by simp)) (ib.sys (by simp) ⟨o,e⟩ n)⟩,hok.through hT fl.st fl2.st,λb o e hb=>?_,hT,hE⟩
 .have e1:=ib.keep b o e n hb (by simp)
  have n1:=ib.free b o e n (by simp);have e2:=un.keep b o e1 n1 (nostk b o e hb) (by simp);obtain⟨o',eB⟩:=hB b o e1 (nostk b o e hb);have:=fl.st b o' eB;rw[e2] at this;cases this;exact fl2.st b _ eB
 .obtain⟨sl,e1⟩:=ib.slot b o e n hb (by simp)
  have n1:=ib.free b o e n (by simp);obtain⟨sl',e2⟩:=un.slot b _ e1 n1 (vE hb) (by simp);obtain⟨o3,e3,nf⟩:=frm b (vE hb);rw[e2] at e3;cases e3;obtain⟨sl3,e4⟩:=up b _ e2 nf;exact⟨sl3,e4⟩
 .obtain⟨o',e1⟩:=ib.there b o e (by simp)
  exact un.free b o' e1 (ib.free b o e n (by simp)) (by simp)
 .obtain⟨o',e1⟩:=ib.there b o e (by simp)
  by_cases hb:b∈cM (envOfC qual scope s.heap.objs.size f cd::outer)
  .obtain⟨o3,e3,nf⟩:=frm b hb
   obtain⟨sl3,e4⟩:=up b _ e3 nf;exact⟨_,e4⟩
  .obtain⟨o2,eB⟩:=hB b o' e1 hb
   exact⟨o2,fl2.st b _ eB⟩
 .obtain⟨m1,e1⟩:=ib.tbls b ps e
  obtain⟨m2,e2⟩:=un.tbls b _ e1;exact⟨m1++m2,by rw[e2,Am]⟩
 .obtain⟨o',e1⟩:=ib.there b o e (by simp)
  exact hB b o' e1 (nostk b o e hb)
def iV(X:Cx)(E:XK):Prop:=∀(pins:List (Addr×Obj)) (σ:St) (H:Hp) (s:Shared) (h':Heap) (e:Addr) (cls:Value) (args:List Value),Inv X pins σ H s->Heap.MadeExcOf s.heap h' e cls args->E cls none H->X.xe (.ref e) { s with heap:=h' }
theorem Ep:iV (cB (cU P w) P w K mg base N qual scope f cd A outer s H E) E:=by
 intro pins σ H1 s1 h2 e cls args I hx hE;have ib:Un (cM outer) [] H H1 s.heap s1.heap:=I.base;have neL:∀b o,s.heap.get? b=some o->b∉cM outer->b∉cM (envOfC qual scope s.heap.objs.size f cd::outer):=λb o e hb hm=>by
  rcases Yao.mp (I.stkSub b hm) with z|z
  .have l1:=cV e
   have l2:s.heap.objs.size<=(envOfC qual scope s.heap.objs.size f cd).locals:=I.ok.above;have z':b=(envOfC qual scope s.heap.objs.size f cd).locals:=z;rw[<-z'] at l2;exact N6 (cW l1 l2) (iy _)
  .exact hb z
 have stk:s1.heap.FunFrames base (envOfC qual scope s.heap.objs.size f cd::outer):=I.stack;have frm:∀b,b∈cM (envOfC qual scope s.heap.objs.size f cd::outer)->∃o,s1.heap.get? b=some o/\∀vs,o.data≠.fields vs:=λb hb=>(stk.mem hb).2;have inB:∀{b o},s1.heap.get? b=some o->b∉cM (envOfC qual scope s.heap.objs.size f cd::outer)->(PySem.W.hideAll s1.heap (cM (envOfC qual scope s.heap.objs.size f cd::outer))).get? b=some o:=λe hb=>PySem.W.hideAll_get _ e hb;have hT:∀b u,H1 b=some u->∃o,(PySem.W.hideAll s1.heap (cM (envOfC qual scope s.heap.objs.size f cd::outer))).get? b=some o:=λb u hu=>by
  have hb:b∉cM (envOfC qual scope s.heap.objs.size f cd::outer):=λhm=>by
   have:=I.stkFree b hm;rw[hu] at this;cases this
  have l:=I.hok.lt hu;have:∃o,s1.heap.get? b=some o:=by
   have q:=I.hok b u hu;cases u with
   |lst xs=>obtain⟨_,_,_,_,e⟩:=q;exact⟨_,e⟩
   |tup xs=>obtain⟨_,_,_,o,e,_⟩:=q;exact⟨_,e⟩
   |dK kvs=>obtain⟨_,_,_,_,o,_,_,e,_⟩:=q;exact⟨_,e⟩
   |dT kvs=>obtain⟨_,_,_,_,o,_,_,e,_⟩:=q;exact⟨_,e⟩
   |set S n=>obtain⟨o,_,_,_,e,_⟩:=q;exact⟨_,e⟩
   |ins C dx fs=>obtain⟨_,_,_,e,_⟩:=q;exact⟨_,e⟩
   |own y=>obtain⟨o,e⟩:=q;exact⟨_,e⟩
   |xd fs=>obtain⟨_,⟨o,_,_,e,_⟩,_⟩:=q;exact⟨_,e⟩
   |rng lo hi=>obtain⟨_,_,_,e⟩:=q;exact⟨_,e⟩
   |frz ob u=>obtain⟨e,_⟩:=q;exact⟨_,e⟩
   |tbl ps=>exact⟨_,(show s1.heap.get? b=some _ from q)⟩
   |met f y=>exact⟨_,(show s1.heap.get? b=some _ from q)⟩
   |ext φ=>obtain⟨_,⟨o,e⟩,_⟩:=q;exact⟨_,e⟩
  obtain⟨o,e⟩:=this;exact⟨o,inB e hb⟩
 show wpAny (model P w) (A.deeper (envOfC qual scope s.heap.objs.size f cd)) (leaving (envOfC qual scope s.heap.objs.size f cd) (.ref e)) (λ_ s''=>cU P w outer H s E (.ref e) s'') _ _;obtain⟨tt,he,_,_⟩:=hx.there;have newB:(PySem.W.hideAll s1.heap (cM (envOfC qual scope s.heap.objs.size f cd::outer))).get? e=none:=by
  cases q:(PySem.W.hideAll s1.heap (cM (envOfC qual scope s.heap.objs.size f cd::outer))).get? e with
  |none=>rfl
  |some o=>
   have:=PySem.W.of_hideAll _ q;rw[hx.new] at this;cases this
 refine Fl.leaves_new (P:=Fl.Is cls none) (base:=PySem.W.hideAll s1.heap (cM (envOfC qual scope s.heap.objs.size f cd::outer))) Fl.Is.firm I.ok.frames ((PySem.W.funFrames_hide stk λenv he b hb=>YaA.mpr ⟨env,he,hb⟩).of_keeps λb o hb _=>⟨o,hx.keeps b o hb,rfl⟩) rfl he ⟨rfl,rfl⟩
  (λb o q=>hx.keeps b o (PySem.W.of_hideAll _ q)) newB rfl rfl λh3 fl up=>?_
 have st1:(PySem.W.hideAll s1.heap (cM (envOfC qual scope s.heap.objs.size f cd::outer))).StaysIn s1.heap:=λb o q=>PySem.W.of_hideAll _ q;refine⟨e,cls,none,H1,_,rfl,fl,I.os,I.bare,⟨λb o e n hb _=>?_,λb o e n hb _=>?_,λb o e n _=>ib.free b o e n (by simp),λb o e _=>?_,λb xs e=>ib.tups b xs e,λb o xs e=>ib.frzs b o xs e,λb ps e=>ib.tbls b ps e,λ_ eg n=>ib.sys (by simp) eg n⟩,I.hok.through hT st1 fl.st,λb o e hb=>?_,hT,hE⟩
 .exact fl.st b o (inB (ib.keep b o e n hb (by simp)) (neL b o e hb))
 .obtain⟨sl,e1⟩:=ib.slot b o e n hb (by simp)
  obtain⟨o3,e3,nf⟩:=frm b (vE hb);rw[e1] at e3;cases e3;obtain⟨sl3,e4⟩:=up b _ (hx.keeps b _ e1) nf;exact⟨sl3,e4⟩
 .obtain⟨o',e1⟩:=ib.there b o e (by simp)
  by_cases hb:b∈cM (envOfC qual scope s.heap.objs.size f cd::outer)
  .obtain⟨o3,e3,nf⟩:=frm b hb
   obtain⟨sl3,e4⟩:=up b _ (hx.keeps b _ e3) nf;exact⟨_,e4⟩
  .exact⟨o',fl.st b o' (inB e1 hb)⟩
 .obtain⟨o',e1⟩:=ib.there b o e (by simp)
  exact⟨o',inB e1 (neL b o e hb)⟩
end
section
variable{tg:Expr}
def Bb(K:N4)(tl:TE):TI:=λσ H R=>tl σ H λx H1=>∃a,x=.ref a/\(((∃xs,SqL K H1 a xs)/\R (Ee K a) H1)\/((∃xs,SqT K H1 a xs)/\R (AV K a) H1))
theorem II{l:Expr}{tl:TE}(hl:PE X l tl):PI X tg l (Bb X.K tl):=by
 intro pins s σ H R I h;refine bG (hl pins s σ H _ I h) λv s1 ⟨x,H1,I1,r1,q1⟩=>?_;obtain⟨a,e,⟨⟨xs,hq⟩,q⟩|⟨⟨xs,hq⟩,q⟩⟩:=q1
 .subst e
  cases r1;obtain⟨its,rv,p,hz⟩:=I1.list hq;refine wpAny_pyIter_list p.isList ?_;refine⟨s1.heap.objs.size,[s1.heap.objs.size],_,_,H1,rfl,I1.kept (t':=s1.toks) λb o e=>cX _ e,la a _,⟨_,f9 _ rfl,rfl,rfl⟩,λb hb=>?_,q⟩;have e:b=s1.heap.objs.size:=by simpa using hb
  subst e;exact I1.fpOk (bM _) (I1.hok.fresh (bM _))
 .subst e
  cases r1;obtain⟨its,rv,p,hz⟩:=I1.tuple hq;refine wpAny_pyIter_tuple (show s1.heap.IsTuple a its.toArray from p) ?_;refine⟨s1.heap.objs.size,[s1.heap.objs.size],_,_,H1,rfl,I1.kept (t':=s1.toks) λb o e=>cX _ e,jW a _,⟨_,f9 _ rfl,rfl,rfl⟩,λb hb=>?_,q⟩;have e:b=s1.heap.objs.size:=by simpa using hb
  subst e;exact I1.fpOk (bM _) (I1.hok.fresh (bM _))
end
theorem Inv.turnedL(ts:List Addr)(I:Inv X pins σ H s)(k:∀b o,b∉ts->s.heap.get? b=some o->h'.get? b=some o)
  (hf:∀b∈ts,eV X pins H b):Inv X pins σ H { s with heap:=h',toks:=t' }:=by
 refine I.step (g':=s.gens) (d':=s.drawn) (ch:=ts) (λb hb=>?_) (λb o _ _ hc e _=>k b o hc e) (λb o _ _ hc e _=>⟨o.slots,k b o hc e⟩) (λ_ _ _ _ n=>n)
  (λb o hc e=>⟨o,k b o hc e⟩) (λ_ _ e=>e) (λ_ _ _ e=>e) (λb ps e=>⟨#[],by rw[e];simp⟩) (λm hm=>?_) (λb u e=>?_) I.bare (λn=>n)
 .obtain⟨_,f1,_,f3,f4,f5⟩:=hf b hb
  exact⟨f3,f1,f4,f5⟩
 .obtain⟨o,es,ep,ho,r⟩:=hm
  exact⟨o,es,ep,k _ o (λz=>(hf _ z).2.1 rfl) ho,r⟩
 .have nt:∀c v,H c=some v->c∉ts:=λc v q z=>by rw[(hf c z).1] at q;cases q
  refine(I.hok b u e).stay (λc v hc q=>k c v ?_ q) (λ_ q=>q) λ_ _ q=>q;rcases hc with z|z
  .rw[z];exact nt b u e
  .exact nt c _ z
def SIt(κ:Bool)(h:Heap)(it l:Addr)(i:Nat):Prop:=match κ with
 |true=>h.IsTupleIter it l i
 |false=>h.IsListIter it l i
def SSq(κ:Bool)(h:Heap)(l:Addr)(xs:Array Value):Prop:=match κ with
 |true=>h.IsTuple l xs
 |false=>h.IsList l xs
section
variable{it:Addr}
theorem SIt.keep(x:SIt κ h it l i)(k:∀o,h.get? it=some o->h'.get? it=some o):SIt κ h' it l i:=by
 cases κ
 .exact Heap.IsListIter.at x k
 .exact Heap.IsTupleIter.at x k
theorem SIt.obj(x:SIt κ h it l i):∃o,h.get? it=some o/\(∀v,o.data≠.cell v):=by
 cases κ
 all_goals
  obtain⟨o,e,_,d⟩:=x;exact⟨o,e,λv z=>by rw[d] at z;cases z⟩
theorem SSq.keep(x:SSq κ h l xs)(k:∀o,h.get? l=some o->h'.get? l=some o):SSq κ h' l xs:=by
 cases κ
 all_goals
  obtain⟨o,e,r⟩:=x;exact⟨o,k o e,r⟩
end
section
variable{E:Value->Shared->Prop}{it:Addr}{x:Value}
theorem vF(hi:SIt κ s.heap it l i)(hl:SSq κ s.heap l xs)(hx:xs[i]? = some x)(q:∀h',SIt κ h' it l (i+1)->Heap.SameBut it s.heap h'->Q x { s with heap:=h' }) :
  wpAny (model prog w) A (Builtin.SmallTypes.nextOf (.ref it)) Q E s:=by
 cases κ with
 |false=>exact wpAny_nextOf_list_item hi hl hx q
 |true=>
  have ht:s.heap.IsTupleIter it l i:=hi;obtain⟨ob,hob,hcl,hda⟩:=id ht;obtain⟨sq,hsq,_,nn,hds⟩:=(show s.heap.IsTuple l xs from hl)
  unfold Builtin.SmallTypes.nextOf;refine N3 (wpAny_callSpecial?_slot (name:=Str.ofString "__next__") ht.typeIs F.slot_tuple_iterator_next (Os F.slot_tuple_iterator_next ht.typeIs F.entry_tuple_iterator_next ?_ (F.args_tuple_iterator_next_1 _)));show wpAny _ _ (field (.ref it) 0 >>= _) _ E s;refine N3 (Oe hob hda (x:=.ref l) rfl ?_);show wpAny _ _ (if(Value.ref l==Value.none)=true then _ else _) _ E s;rw[if_neg (show¬((Value.ref l==Value.none)=true) by exact i9)];show wpAny _ _ (field (.ref it) 1 >>= _) _ E s;refine N3 (Oe hob hda (x:=.int i 0) rfl ?_);show wpAny _ _ (seqItems? (.ref l) >>= _) _ E s;refine N3 (Ot hsq hds ?_);simp only[jF,hx];refine N3 (OB hob hda (by simp) (N5 ⟨x,rfl,N5 (q _ ?_ (Heap.SameBut.update ..))⟩));exact⟨_,uQ _ hob (Obj.isFreed_of_fields (Obj.data_mapFields hda _)),(Obj.cls_mapFields ..).trans hcl,by rw[Obj.data_mapFields hda];simp[rawInt]⟩
theorem t7(hh:A.handled=none)(hi:SIt κ s.heap it l i)(hl:SSq κ s.heap l xs)(hx:xs[i]? = none)
  (q:∀h' e,Heap.ExtBut it s.heap h'->(∃o,h'.get? e=some o/\o.cls=.type "StopIteration")->E (.ref e) { s with heap:=h' }) :
  wpAny (model prog w) A (Builtin.SmallTypes.nextOf (.ref it)) Q E s:=by
 cases κ with
 |false=>exact wpAny_nextOf_list_end hh hi hl hx q
 |true=>
  have ht:s.heap.IsTupleIter it l i:=hi;obtain⟨ob,hob,hcl,hda⟩:=id ht;obtain⟨sq,hsq,_,nn,hds⟩:=(show s.heap.IsTuple l xs from hl)
  unfold Builtin.SmallTypes.nextOf;refine N3 (wpAny_callSpecial?_slot (name:=Str.ofString "__next__") ht.typeIs F.slot_tuple_iterator_next (Os F.slot_tuple_iterator_next ht.typeIs F.entry_tuple_iterator_next ?_ (F.args_tuple_iterator_next_1 _)));show wpAny _ _ (field (.ref it) 0 >>= _) _ E s;refine N3 (Oe hob hda (x:=.ref l) rfl ?_);show wpAny _ _ (if(Value.ref l==Value.none)=true then _ else _) _ E s;rw[if_neg (show¬((Value.ref l==Value.none)=true) by exact i9)];show wpAny _ _ (field (.ref it) 1 >>= _) _ E s;refine N3 (Oe hob hda (x:=.int i 0) rfl ?_);show wpAny _ _ (seqItems? (.ref l) >>= _) _ E s;refine N3 (Ot hsq hds ?_);simp only[jF,hx];refine N3 (OA (N3 (OB hob hda (by simp) ?_)));show wpAny _ _ (newExc (.type "StopIteration") [] >>= _) _ E _;refine N3 ?_;simp only[newExc,newTuple];refine N3 (Og ?_ (by size_fits));refine N3 (m:=firstArgMember _ _) (wpAny_of_eq (a:=Value.none) (by first|rfl|(rw[firstArgMember];rfl)) (Og ?_ (by size_fits)));simp only[raiseNew];refine N3 (wpAny_handled ?_);rw[show A.in1.handled=none from hh];exact N3 (N5 (wpAny_throw (q _ _ (((Heap.SameBut.update ..).extBut.push _).push _) ⟨_,f9 _ rfl,rfl⟩)))
end
structure vG(z TI TO j1 j2:Addr):Prop where
 a:TI≠z
 b:TO≠z
 c:j1≠z
 d:j2≠z
 e:TI≠TO
 f:TI≠j1
 g:TI≠j2
 h:TO≠j1
 i:TO≠j2
 j:j1≠j2
def t8(z TI TO j1 j2 l:Addr):Prop:=l≠z/\l≠TI/\l≠TO/\l≠j1/\l≠j2
section
variable{E:Value->Shared->Prop}{z TI TO j1 j2 l1 l2:Addr}{x y a b:Value}
theorem IJ(D:vG z TI TO j1 j2)(d1:t8 z TI TO j1 j2 l1)(d2:t8 z TI TO j1 j2 l2)
  (zz:IsZip s.heap z TI TO .none) (zi:IsPair s.heap TI (.ref j1) (.ref j2)) (zo:IsPair s.heap TO a b) (u1:SIt κ s.heap j1 l1 i) (u2:SIt κ' s.heap j2 l2 i) (v1:SSq κ s.heap l1 xs) (v2:SSq κ' s.heap l2 ys) (ex:xs[i]? = some x) (ey:ys[i]? = some y)
  (q:∀ h',IsZip h' z TI TO (rawInt s.heap.objs.size)->IsPair h' TO x y->SIt κ h' j1 l1 (i+1)->SIt κ' h' j2 l2 (i+1)->IsPair h' s.heap.objs.size x y->h'.objs.size=s.heap.objs.size+1->
   (∀c o,c≠z->c≠TO->c≠j1->c≠j2->s.heap.get? c=some o->h'.get? c=some o)->Q (.ref s.heap.objs.size) { s with heap:=h' }) :
  wpAny (model prog w) A (Builtin.«zip.__next__» ⟨[.ref z],[]⟩) (λfin s'=>∃v,fin=.done (.ret v)/\Q v s') E s:=by
 obtain⟨o1z,_,o1O,o11,o12⟩:=d1;obtain⟨o2z,_,o2O,o21,o22⟩:=d2;show wpAny _ _ (field (.ref z) 2 >>= _) _ E _;refine N3 (Oe zz rfl (x:=.bool false) rfl ?_);show wpAny _ _ (field (.ref z) 3 >>= _) _ E _;refine N3 (Oe zz rfl (x:=.ref TI) rfl (N3 (Ot zi rfl ?_)));show wpAny _ _ (Builtin.SmallTypes.ownedTupleIsFree (.ref z) >>= _) _ E _;refine N3 ?_;unfold Builtin.SmallTypes.ownedTupleIsFree;refine N3 (Oe zz rfl (x:=.none) rfl (N5 ?_));simp only[if_true];refine N3 (OA (N3 (Oe zz rfl (x:=.ref TO) rfl (N3 (Ou zz (by simp) λg1 zz1 k1=>?_)))));replace zz1:IsZip g1 z TI TO .ellipsis:=zz1;refine N3 ?_;simp only[List.zipIdx_cons,List.zipIdx_nil,Aq,List.forIn_nil];refine N3 (N3 (OF ?_));show wpAny _ _ (Builtin.SmallTypes.nextOf (.ref j1) >>= _) _ _ _;refine N3 (vF (u1.keep λo e=>k1.extBut _ o D.c e) (v1.keep λo e=>k1.extBut _ o o1z e) ex λg2 u1' k2=>N5 ?_);have zo2:IsPair g2 TO a b:=k2.extBut _ _ D.h (k1.extBut _ _ D.b zo);refine N3 (Ot zo2 rfl (N3 (OE zo2 λg3 zo3 k3=>?_)));replace zo3:IsPair g3 TO x b:=zo3;refine N3 (wpAny_letGo (N5 ?_));refine N3 (N3 (OF ?_));show wpAny _ _ (Builtin.SmallTypes.nextOf (.ref j2) >>= _) _ _ _;refine N3 (vF (u2.keep λo e=>k3.extBut _ o D.i.symm (k2.extBut _ o D.j.symm (k1.extBut _ o D.d e))) (v2.keep λo e=>k3.extBut _ o o2O (k2.extBut _ o o21 (k1.extBut _ o o2z e))) ey λg4 u2' k4=>N5 ?_);have zo4:IsPair g4 TO x b:=k4.extBut _ _ D.i zo3;refine N3 (Ot zo4 rfl (N3 (OE zo4 λg5 zo5 k5=>?_)));replace zo5:IsPair g5 TO x y:=zo5;refine N3 (wpAny_letGo (N5 (N5 (N3 (Ot zo5 rfl (N3 (wpAny_newTuple ?_)))))));have sz:g5.objs.size=s.heap.objs.size:=by rw[k5.1,k4.1,k3.1,k2.1,k1.1]
 have zz5:IsZip g5 z TI TO .ellipsis:=k5.extBut _ _ D.b.symm (k4.extBut _ _ D.d.symm (k3.extBut _ _ D.b.symm (k2.extBut _ _ D.c.symm zz1)));have kk:∀c o,c≠z->c≠TO->c≠j1->c≠j2->s.heap.get? c=some o->g5.get? c=some o:=λc o c1 c2 c3 c4 e=>k5.extBut _ _ c2 (k4.extBut _ _ c4 (k3.extBut _ _ c2 (k2.extBut _ _ c3 (k1.extBut _ _ c1 e))));have r1:SIt κ g5 j1 l1 (i+1):=u1'.keep λo e=>k5.extBut _ o D.h.symm (k4.extBut _ o D.j (k3.extBut _ o D.h.symm e));have r2:SIt κ' g5 j2 l2 (i+1):=u2'.keep λo e=>k5.extBut _ o D.i.symm e;have zlt:z<g5.objs.size:=cV zz5;show wpAny _ _ (Builtin.SmallTypes.ownedTupleHandOut (.ref z) (.ref g5.objs.size) >>= _) _ E _;refine N3 ?_;unfold Builtin.SmallTypes.ownedTupleHandOut;have zz6:IsZip (g5.push { cls:=.type "tuple",data:=.seq #[x,y] }) z TI TO .ellipsis:=cX _ zz5;refine N3 (Ou zz6 (by simp) λg7 zz7 k7=>?_);replace zz7:IsZip g7 z TI TO (rawInt g5.objs.size):=zz7;refine Ou zz7 (by simp) λg8 zz8 k8=>?_;replace zz8:IsZip g8 z TI TO (rawInt g5.objs.size):=zz8;have up:∀c o,c≠z->g5.get? c=some o->g8.get? c=some o:=λc o c1 e=>k8.extBut _ _ c1 (k7.extBut _ _ c1 (cX _ e));have tt8:IsPair g8 g5.objs.size x y:=k8.extBut _ _ (yq zlt) (k7.extBut _ _ (yq zlt) (f9 _ rfl));have sz8:g8.objs.size=g5.objs.size+1:=by rw[k8.1,k7.1,kX]
 rw[sz] at zz8 tt8 sz8;refine N5 ⟨_,rfl,?_⟩;show Q (.ref g5.objs.size) _;rw[sz];exact q g8 zz8 (up _ _ D.b zo5) (r1.keep λo e=>up _ o D.c e) (r2.keep λo e=>up _ o D.d e) tt8 sz8 λc o c1 c2 c3 c4 e=>up c o c1 (kk c o c1 c2 c3 c4 e)
theorem IK{Q:Fin->Shared->Prop}(hh:A.handled=none)(D:vG z TI TO j1 j2)(d1:t8 z TI TO j1 j2 l1)(d2:t8 z TI TO j1 j2 l2)
  (zz:IsZip s.heap z TI TO .none) (zi:IsPair s.heap TI (.ref j1) (.ref j2)) (zo:IsPair s.heap TO a b) (u1:SIt κ s.heap j1 l1 i) (u2:SIt κ' s.heap j2 l2 i) (v1:SSq κ s.heap l1 xs) (v2:SSq κ' s.heap l2 ys) (en:xs[i]? = none\/ys[i]? = none)
  (q:∀h' e,(∀c o,c≠z->c≠TO->c≠j1->c≠j2->s.heap.get? c=some o->h'.get? c=some o)->(∃o,h'.get? e=some o/\o.cls=.type "StopIteration")->E (.ref e) { s with heap:=h' }) :
  wpAny (model prog w) A (Builtin.«zip.__next__» ⟨[.ref z],[]⟩) Q E s:=by
 obtain⟨o1z,_,o1O,o11,o12⟩:=d1;obtain⟨o2z,_,o2O,o21,o22⟩:=d2;show wpAny _ _ (field (.ref z) 2 >>= _) _ E _;refine N3 (Oe zz rfl (x:=.bool false) rfl ?_);show wpAny _ _ (field (.ref z) 3 >>= _) _ E _;refine N3 (Oe zz rfl (x:=.ref TI) rfl (N3 (Ot zi rfl ?_)));show wpAny _ _ (Builtin.SmallTypes.ownedTupleIsFree (.ref z) >>= _) _ E _;refine N3 ?_;unfold Builtin.SmallTypes.ownedTupleIsFree;refine N3 (Oe zz rfl (x:=.none) rfl (N5 ?_));simp only[if_true];refine N3 (OA (N3 (Oe zz rfl (x:=.ref TO) rfl (N3 (Ou zz (by simp) λg1 zz1 k1=>?_)))));replace zz1:IsZip g1 z TI TO .ellipsis:=zz1;refine N3 ?_;simp only[List.zipIdx_cons,List.zipIdx_nil,Aq,List.forIn_nil];refine N3 (N3 (OF ?_));show wpAny _ _ (Builtin.SmallTypes.nextOf (.ref j1) >>= _) _ _ _;cases ex:xs[i]? with
 |none=>
  refine N3 (t7 hh (u1.keep λo e=>k1.extBut _ o D.c e) (v1.keep λo e=>k1.extBut _ o o1z e) ex λg2 e k2 ⟨oe,e1,e2⟩=>?_);have zz2:IsZip g2 z TI TO .ellipsis:=k2 _ _ D.c.symm zz1;have ne:e≠z:=λr=>by subst r;rw[zz2] at e1;cases e1;simp at e2
  exact Ou zz2 (by simp) λg3 _ k3=>q g3 e (λc o c1 _ c3 _ r=>k3.extBut _ _ c1 (k2 _ _ c3 (k1.extBut _ _ c1 r))) ⟨oe,k3.extBut _ _ ne e1,e2⟩
 |some x=>
  have ey:ys[i]? = none:=en.elim (λh=>by rw[ex] at h;cases h) id;refine N3 (vF (u1.keep λo e=>k1.extBut _ o D.c e) (v1.keep λo e=>k1.extBut _ o o1z e) ex λg2 u1' k2=>N5 ?_);have zo2:IsPair g2 TO a b:=k2.extBut _ _ D.h (k1.extBut _ _ D.b zo);refine N3 (Ot zo2 rfl (N3 (OE zo2 λg3 zo3 k3=>?_)));refine N3 (wpAny_letGo (N5 ?_));refine N3 (N3 (OF ?_));show wpAny _ _ (Builtin.SmallTypes.nextOf (.ref j2) >>= _) _ _ _;refine N3 (t7 hh (u2.keep λo e=>k3.extBut _ o D.i.symm (k2.extBut _ o D.j.symm (k1.extBut _ o D.d e))) (v2.keep λo e=>k3.extBut _ o o2O (k2.extBut _ o o21 (k1.extBut _ o o2z e))) ey λg4 e k4 ⟨oe,e1,e2⟩=>?_);have zz4:IsZip g4 z TI TO .ellipsis:=k4 _ _ D.d.symm (k3.extBut _ _ D.b.symm (k2.extBut _ _ D.c.symm zz1));have ne:e≠z:=λr=>by subst r;rw[zz4] at e1;cases e1;simp at e2
  exact Ou zz4 (by simp) λg5 _ k5=>q g5 e (λc o c1 c2 c3 c4 r=>k5.extBut _ _ c1 (k4 _ _ c4 (k3.extBut _ _ c2 (k2.extBut _ _ c3 (k1.extBut _ _ c1 r))))) ⟨oe,k5.extBut _ _ ne e1,e2⟩
end
section
theorem Inv.turnedN{o:HO}(ts:List Addr)(I:Inv X pins σ H s)(k:∀b o,b∉ts->s.heap.get? b=some o->h'.get? b=some o)
  (hf:∀b∈ts,eV X pins H b) (hp:s.heap.objs.size<=a) (new:ObjOk X.prog X.w (upd H a o) h' a o):Inv X pins σ (upd H a o) { s with heap:=h',toks:=t' }:=by
 have hn:H a=none:=I.hok.fresh hp;have nea:∀b u,H b=some u->b≠a:=λb u e z=>by rw[z,hn] at e;cases e
 have neb:∀b u,s.heap.get? b=some u->b≠a:=λb u e z=>by subst z;exact N6 (cW (cV e) hp) (iy _)
 refine I.step (g':=s.gens) (d':=s.drawn) (ch:=ts) (λb hb=>?_) (λb o _ _ hc e _=>k b o hc e) (λb o _ _ hc e _=>⟨o.slots,k b o hc e⟩) (λb u _ e n=>by rw[aH (neb b u e)];exact n)
  (λb o hc e=>⟨o,k b o hc e⟩) (λb xs e=>by rw [aH (nea _ _ e)];exact e) (λb _ _ e=>by rw [aH (nea _ _ e)];exact e) (λb ps e=>⟨#[],by rw [aH (nea _ _ e),e];simp⟩) (λm hm=>?_) (λb u e=>?_) I.bare (λn ys=>by
   obtain⟨og,eg⟩:=I.hasG;rw[aH (fR (cW (uO (by decide) (cV eg)) hp))];exact n ys)
 .obtain⟨_,f1,_,f3,f4,f5⟩:=hf b hb
  exact⟨f3,f1,f4,f5⟩
 .obtain⟨o,es,ep,ho,r⟩:=hm
  exact⟨o,es,ep,k _ o (λz=>(hf _ z).2.1 rfl) ho,r⟩
 .by_cases hb:b=a
  .subst hb;rw[aL] at e;cases e;exact new
  .rw[aH hb] at e
   have nt:∀c v,H c=some v->c∉ts:=λc v q z=>by rw[(hf c z).1] at q;cases q
   refine(I.hok b u e).stay (λc v hc q=>k c v ?_ q) (λc q=>by rw[aH (nea _ _ q)];exact q) λc _ q=>by rw[aH (nea _ _ q)];exact q
   rcases hc with z|z
   .rw[z];exact nt b u e
   .exact nt c _ z
def Sq(K:N4)(κ:Bool)(H:Hp)(a:Addr)(xs:List V):Prop:=match κ with
 |true=>SqT K H a xs
 |false=>SqL K H a xs
theorem Inv.sq{xs:List V}(I:Inv X pins σ H s)(h:Sq X.K κ H a xs):∃its:List Value,Vals xs its/\SSq κ s.heap a its.toArray/\xs.length<=sizeLine:=by
 cases κ with
 |false=>obtain⟨its,r,p,hz⟩:=I.list h;exact⟨its,r,p.isList,hz⟩
 |true=>obtain⟨its,r,p,hz⟩:=I.tuple h;exact⟨its,r,(show s.heap.IsTuple a its.toArray from p),hz⟩
theorem Inv.sq_inj{xs ys:List V}(I:Inv X pins σ H s)(h:Sq X.K κ H a xs)(h':Sq X.K κ H a ys):xs=ys:=by
 cases κ with
 |false=>exact I.list_inj h h'
 |true=>exact I.tuple_inj h h'
theorem Inv.sq_out{xs:List V}(I:Inv X pins σ H s)(h:Sq X.K κ H a xs)(f:eV X pins H b):a≠b:=by
 rintro rfl;have hk:∀o,X.K.lookup a=some o->False:=λo e=>by
  have e1:=I.ok.mod.kin a o e;rcases f.2.2.2.1 with z|z
  .exact I.ok.noex a o e1 z
  .exact N6 (cW (cV (I.ok.bs a o e1).1) z) (iy _)
 have hr:∀u,Rd H a u->False:=λu r=>by
  rcases r with r|⟨o,r⟩
  .rw[f.1] at r;cases r
  .rw[f.1] at r;cases r
 cases κ with
 |false=>
  rcases h with h|⟨o,_,_,e,_⟩
  .exact hr _ h
  .exact hk o e
 |true=>
  rcases h with h|⟨o,_,_,e,_⟩
  .exact hr _ h
  .exact hk o e
end
def Er(K:N4)(κ κ':Bool)(a b:Addr):It:=
  ⟨λi H=>∃ xs ys x y,Sq K κ H a xs/\Sq K κ' H b ys/\xs[i]? = some x/\ys[i]? = some y,
   λi H v H'=>∃p x y,v=.ref p/\H p=none/\H'=upd H p (.tup [x,y])/\(∀xs,Sq K κ H a xs->xs[i]? = some x)/\(∀ys,Sq K κ' H b ys->ys[i]? = some y),
   λi H=>∃xs ys,Sq K κ H a xs/\Sq K κ' H b ys/\(xs.length<=i\/ys.length<=i)⟩
theorem IL{ps:Pos}(a b z TI TO j1 j2:Addr)(D:vG z TI TO j1 j2) :
  jq P w K (.Tuple es n1 ps) (Er K κ κ' a b) [z,TI,TO,j1,j2] z (λi h=>IsZip h z TI TO .none/\IsPair h TI (.ref j1) (.ref j2)/\(∃u v,IsPair h TO u v)/\SIt κ h j1 a i/\SIt κ' h j2 b i) where
 mem:=by simp
 obj:=λi h ⟨q1,q2,⟨u,v,q3⟩,q4,q5⟩ c hc=>by
  simp only[Yao,dh,or_false] at hc;rcases hc with rfl|rfl|rfl|rfl|rfl
  .exact⟨_,q1,λv e=>by cases e⟩
  .exact⟨_,q2,λv e=>by cases e⟩
  .exact⟨_,q3,λv e=>by cases e⟩
  .exact q4.obj
  .exact q5.obj
 keep:=λi h h' ⟨q1,q2,⟨u,v,q3⟩,q4,q5⟩ k=>
  ⟨k z (by simp) _ q1,k TI (by simp) _ q2,⟨u,v,k TO (by simp) _ q3⟩,q4.keep λo e=>k j1 (by simp) o e,q5.keep λo e=>k j2 (by simp) o e⟩
 item:=by
  intro X hP hw hK hc i pins s σ H E I hf ⟨q1,q2,⟨u,v,q3⟩,q4,q5⟩ hg;subst hP hw hK;obtain⟨xs,ys,x,y,hx,hy,ex,ey⟩:=hg;obtain⟨its,rv,p,hz⟩:=I.sq hx;obtain⟨its',rv',p',hz'⟩:=I.sq hy;obtain⟨ux,hux,rux⟩:=rv.get ex;obtain⟨uy,huy,ruy⟩:=rv'.get ey;have out:∀{κ:Bool} {c:Addr} {xs:List V},Sq X.K κ H c xs->t8 z TI TO j1 j2 c:=λhq=>
   ⟨I.sq_out hq (hf z (by simp)),I.sq_out hq (hf TI (by simp)),I.sq_out hq (hf TO (by simp)),I.sq_out hq (hf j1 (by simp)),I.sq_out hq (hf j2 (by simp))⟩
  have hT:s.TypeIs (.ref z) "zip" :=⟨_,q1,rfl⟩
  unfold pyNext;refine N3 (wpAny_attempt (wpAny_callSpecial?_slot (name:=Str.ofString "__next__") hT F.slot_zip_next (Os F.slot_zip_next hT F.entry_zip_next
   (IJ D (out hx) (out hy) q1 q2 q3 q4 q5 p p' (x:=ux) (y:=uy) (by simpa using hux) (by simpa using huy) λh' a1 a2 a3 a4 a5 a6 a7=>N5 ⟨_,rfl,?_⟩) (F.args_zip_next_1 _))))
  refine wpAny_letOwnedTupleGo_zip (s:={ s with heap:=h' }) a1 λh2 b1 b2=>?_;have lt:∀{c o},s.heap.get? c=some o->c≠s.heap.objs.size:=λe=>fR (cV e);have zl:=lt q1;have up:∀c o,c∉[z,TI,TO,j1,j2]->s.heap.get? c=some o->h2.get? c=some o:=λc o hc e=>by
   simp only[Yao,dh,or_false,not_or] at hc;exact b2.extBut _ _ hc.1 (a7 c o hc.1 hc.2.2.1 hc.2.2.2.1 hc.2.2.2.2 e)
  refine⟨.ref s.heap.objs.size,upd H s.heap.objs.size (.tup [x,y]),Inv.turnedN (s:=s) (t':=s.toks) [z,TI,TO,j1,j2] I up hf (bM _) ?_,rfl,⟨s.heap.objs.size,x,y,rfl,I.fresh,rfl,λxs' h'=>by rw[I.sq_inj h' hx];exact ex,λys' h'=>by rw[I.sq_inj h' hy];exact ey⟩,?_,λc hc=>?_⟩
  .refine⟨by rw[sizeLine_eq];simp,[ux,uy],.cons rux (.cons ruy .nil),?_⟩
   exact⟨_,b2.extBut _ _ (Ob zl) a5,rfl,_,rfl⟩
  .exact⟨b1,b2.extBut _ _ D.a (a7 _ _ D.a D.e D.f D.g q2),⟨_,_,b2.extBut _ _ D.b a2⟩,a3.keep λo e=>b2.extBut _ o D.c e,a4.keep λo e=>b2.extBut _ o D.d e⟩
  .have he:∃o,s.heap.get? c=some o:=by
    simp only[Yao,dh,or_false] at hc;rcases hc with rfl|rfl|rfl|rfl|rfl
    .exact⟨_,q1⟩
    .exact⟨_,q2⟩
    .exact⟨_,q3⟩
    .obtain⟨o,e,_⟩:=q4.obj;exact⟨o,e⟩
    .obtain⟨o,e,_⟩:=q5.obj;exact⟨o,e⟩
   obtain⟨o,e⟩:=he;rw[aH (lt e)];exact(hf c hc).1
 done:=by
  intro X hP hw hK hc i pins s σ H E I hf ⟨q1,q2,⟨u,v,q3⟩,q4,q5⟩ hg;subst hP hw hK;obtain⟨xs,ys,hx,hy,en⟩:=hg;obtain⟨its,rv,p,hz⟩:=I.sq hx;obtain⟨its',rv',p',hz'⟩:=I.sq hy;have l1:=rv.length;have l2:=rv'.length;have out:∀{κ:Bool} {c:Addr} {xs:List V},Sq X.K κ H c xs->t8 z TI TO j1 j2 c:=λhq=>
   ⟨I.sq_out hq (hf z (by simp)),I.sq_out hq (hf TI (by simp)),I.sq_out hq (hf TO (by simp)),I.sq_out hq (hf j1 (by simp)),I.sq_out hq (hf j2 (by simp))⟩
  have hT:s.TypeIs (.ref z) "zip" :=⟨_,q1,rfl⟩
  unfold pyNext;refine N3 (wpAny_attempt (wpAny_callSpecial?_slot (name:=Str.ofString "__next__") hT F.slot_zip_next (Os F.slot_zip_next hT F.entry_zip_next
   (IK (I.ok.hd hc) D (out hx) (out hy) q1 q2 q3 q4 q5 p p' (by rcases en with z|z;exact .inl (by simp;omega);exact .inr (by simp;omega)) λh' e k ⟨o,e1,e2⟩=>?_) (F.args_zip_next_1 _))))
  refine N3 (wpAny_isInstance (s:={ s with heap:=h' }) (T:= "StopIteration") (b:=true) ⟨o,e1,e2⟩ isSubtype_stop (N5 ⟨rfl,?_⟩));refine I.turnedL (t':=s.toks) [z,TI,TO,j1,j2] (λc o hc e=>?_) hf;simp only[Yao,dh,or_false,not_or] at hc;exact k c o hc.1 hc.2.2.1 hc.2.2.2.1 hc.2.2.2.2 e
 self:=λ_ _ _ _ _ st h=>wpAny_pyIter_zip st.1 h
def io(κ:Bool)(l:Addr):Obj:={ cls:=.type (match κ with|true=> "tuple_iterator" |false=> "list_iterator"),data:=.fields #[.ref l,.int 0 0] }
theorem yS{j:Addr}(e:h.get? j=some (io κ l)):SIt κ h j l 0:=by
 cases κ
 all_goals exact⟨_,e,rfl,rfl⟩
theorem sU{E:Value->Shared->Prop}(hl:SSq κ s.heap l xs)(q:Q (.ref s.heap.objs.size) { s with heap:=s.heap.push (io κ l) }) :
  wpAny (model prog w) A (pyIter (.ref l)) Q E s:=by
 cases κ with
 |false=>exact wpAny_pyIter_list hl q
 |true=>exact wpAny_pyIter_tuple hl q
abbrev vH(κ:Bool)(h:Heap)(l1:Addr):Heap:=h.push (io κ l1)
abbrev vI(κ κ':Bool)(h:Heap)(l1 l2:Addr):Heap:=(vH κ h l1).push (io κ' l2)
abbrev vJ(κ κ':Bool)(h:Heap)(l1 l2:Addr):Heap:=(vI κ κ' h l1 l2).push { cls:=.type "tuple",data:=.seq #[.ref h.objs.size,.ref (vH κ h l1).objs.size] }
abbrev vK(κ κ':Bool)(h:Heap)(l1 l2:Addr):Heap:=(vJ κ κ' h l1 l2).push { cls:=.type "tuple",data:=.seq #[.none,.none] }
abbrev nK(κ κ':Bool)(h:Heap)(l1 l2:Addr):Heap:=(vK κ κ' h l1 l2).push { cls:=.type "zip",data:=.fields #[.none,.bool false,.bool false,.ref (vI κ κ' h l1 l2).objs.size,.ref (vJ κ κ' h l1 l2).objs.size] }
theorem IM(κ κ':Bool)(l1 l2:Addr)(xs ys:Array Value) :
  Meets (Builtin.«zip.__new__» ⟨[.type "zip",.ref l1,.ref l2],[]⟩) (λ_ R s=>SSq κ s.heap l1 xs/\SSq κ' s.heap l2 ys/\R (.ok (.ret (.ref (vK κ κ' s.heap l1 l2).objs.size))) { s with heap:=nK κ κ' s.heap l1 l2 }):=
 .of_wp λprog w A R s h=>by
  obtain⟨hp,g,d,tk,os⟩:=s;obtain⟨hl1,hl2,h⟩:=h;have hsub:=sub_zip;have L1:SSq κ (Shared.heap ⟨hp,g,d,tk,os⟩) l1 xs:=hl1;have L2':SSq κ' (Shared.heap ⟨hp.push (io κ l1),g,d,tk,os⟩) l2 ys:=hl2.keep λo e=>cX _ e
  wp_walk using sU L1,sU L2'
  exact⟨_,rfl,h⟩
theorem IN{E:Value->Shared->Prop}{l1 l2:Addr}(hl1:SSq κ s.heap l1 xs)(hl2:SSq κ' s.heap l2 ys)
  (h:∀ h',IsZip h' (s.heap.objs.size+4) (s.heap.objs.size+2) (s.heap.objs.size+3) .none->IsPair h' (s.heap.objs.size+2) (.ref s.heap.objs.size) (.ref (s.heap.objs.size+1))->
   IsPair h' (s.heap.objs.size+3) .none .none->SIt κ h' s.heap.objs.size l1 0->SIt κ' h' (s.heap.objs.size+1) l2 0->
   (∀c o,s.heap.get? c=some o->h'.get? c=some o)->Q (.ref (s.heap.objs.size+4)) { s with heap:=h' }) :
  wpAny (model prog w) A (call (.type "zip") [.ref l1,.ref l2]) Q E s:=by
 refine callType_new F.called_zip (by decide) (F.typeCall_zip_2 _ _) (F.newCall_zip_2 _ _) (λobj=>F.args_object_init_3 obj _ _) F.entry_zip_new (IM κ κ' l1 l2 xs ys) ⟨hl1,hl2,?_⟩;have z1:(vH κ s.heap l1).objs.size=s.heap.objs.size+1:=kX ..;have z2:(vI κ κ' s.heap l1 l2).objs.size=s.heap.objs.size+2:=by rw[kX,z1]
 have z3:(vJ κ κ' s.heap l1 l2).objs.size=s.heap.objs.size+3:=by rw[kX,z2]
 have z4:(vK κ κ' s.heap l1 l2).objs.size=s.heap.objs.size+4:=by rw[kX,z3]
 have up5:∀{c o},(vK κ κ' s.heap l1 l2).get? c=some o->(nK κ κ' s.heap l1 l2).get? c=some o:=λe=>cX _ e;have up4:∀{c o},(vJ κ κ' s.heap l1 l2).get? c=some o->(nK κ κ' s.heap l1 l2).get? c=some o:=λe=>up5 (cX _ e);have up3:∀{c o},(vI κ κ' s.heap l1 l2).get? c=some o->(nK κ κ' s.heap l1 l2).get? c=some o:=λe=>up4 (cX _ e);have up2:∀{c o},(vH κ s.heap l1).get? c=some o->(nK κ κ' s.heap l1 l2).get? c=some o:=λe=>up3 (cX _ e);have ob:∀κ l,(io κ l).isFreed=false:=λκ l=>rfl;have g5:(nK κ κ' s.heap l1 l2).get? (vK κ κ' s.heap l1 l2).objs.size=some _:=f9 _ rfl;have g4:(nK κ κ' s.heap l1 l2).get? (vJ κ κ' s.heap l1 l2).objs.size=some _:=up5 (f9 _ rfl);have g3:(nK κ κ' s.heap l1 l2).get? (vI κ κ' s.heap l1 l2).objs.size=some _:=up4 (f9 _ rfl);have g2:(nK κ κ' s.heap l1 l2).get? (vH κ s.heap l1).objs.size=some _:=up3 (f9 _ (ob κ' l2));have g1:(nK κ κ' s.heap l1 l2).get? s.heap.objs.size=some _:=up2 (f9 _ (ob κ l1));show _/\_;rw[z2,z3,z4] at g5;rw[z1,z2] at g3;rw[z3] at g4;rw[z1] at g2;rw[z4];exact⟨⟨_,g5,rfl⟩,h _ g5 g3 g4 (yS g1) (yS g2) λc o x=>up2 (cX _ x)⟩
theorem IO(n:Nat):vG (n+4) (n+2) (n+3) n (n+1):=
 ⟨(by omega:n+2≠n+4),(by omega:n+3≠n+4),(by omega:n≠n+4),(by omega:n+1≠n+4),(by omega:n+2≠n+3),(by omega:n+2≠n),(by omega:n+2≠n+1),(by omega:n+3≠n),(by omega:n+3≠n+1),(by omega:n≠n+1)⟩
def Bc(n b:Nat)(h:b=n+4\/b=n+2\/b=n+3\/b=n\/b=n+1):n<=b:=by omega
section
def Be(K:N4)(ta:TA):TI:=λσ H R=>ta σ H λvs H1=>∃κ κ' a b,vs=[.ref a,.ref b]/\(∃xs,Sq K κ H1 a xs)/\(∃ys,Sq K κ' H1 b ys)/\R (Er K κ κ' a b) H1
theorem IP{a b:Expr}{ps:Pos}(hg:Gl X "zip")(hm:X.mg "zip" = none)(ha:PA X [a,b] ta)(hs:starEach [a,b] X.env=[(false,eval a X.env),(false,eval b X.env)]:=by rfl)(hs2:starEach [b] X.env=[(false,eval b X.env)]:=by rfl) :
  PI X (.Tuple es n1 ps) (.Call (.Name "zip" p) [a,b] [] pos) (Be X.K ta):=by
 intro pins s σ H R I h;refine Call_ (dZ I hg hm boot_zip (PyProof.Rows.callWith_type1 (bG (ha pos pins s σ H _ I h) λus s1 ⟨vs,H1,I1,r1,q1⟩=>?_) (by rw[hs,hs2]) (by rw[hs2];rfl)));obtain⟨κ,κ',l1,l2,e,⟨xs,hx⟩,⟨ys,hy⟩,q⟩:=q1;subst e;cases r1 with
 |cons r rr=>
  cases rr with
  |cons r' rr=>
   cases rr;cases r;cases r';obtain⟨its,rv,p1,hz⟩:=I1.sq hx;obtain⟨its',rv',p2,hz'⟩:=I1.sq hy;refine IN p1 p2 λh' a1 a2 a3 a4 a5 k=>wpAny_pyIter_zip (s:={ s1 with heap:=h' }) a1 ?_;have D:vG (s1.heap.objs.size+4) (s1.heap.objs.size+2) (s1.heap.objs.size+3) s1.heap.objs.size (s1.heap.objs.size+1):=IO _;refine⟨_,[s1.heap.objs.size+4,s1.heap.objs.size+2,s1.heap.objs.size+3,s1.heap.objs.size,s1.heap.objs.size+1],_,_,H1,rfl,I1.kept (t':=s1.toks) k,IL (κ:=κ) (κ':=κ') l1 l2 _ _ _ _ _ D,⟨a1,a2,⟨_,_,a3⟩,a4,a5⟩,λb hb=>?_,q⟩;have hb':s1.heap.objs.size<=b:=by
    simp only[Yao,dh,or_false] at hb;exact Bc _ _ hb
   exact I1.fpOk hb' (I1.hok.fresh hb')
end
theorem Es{C:Addr}(X:K.In h)(q:PySem.W.excIn K C bmB newId=true) :
  ∃(bm:List Value) (N:Addr) (nm qn:Str) (bs:List Value) (hd:Bool) (sn:List Str) (sub:List Value) (ab:Bool) (col:Option Bool) (dd:Option Addr) (k0 k1 k2 k3 k5:Option Value) (mN:Str->Option Value),
   h.get? C=some (excClassObj nm qn C N bs bm hd sn sub ab col dd k0 k1 k2 k3 k5 newId)/\h.Ns N mN/\mN "__init__" = none/\OwnTail h bmB bm:=by
 unfold PySem.W.excIn at q;split at q
 .rename_i dd cd sl ho
  split at q
  .rename_i C' bm k0 k1 k2 k3 n k5 hm hs
   simp only[cT,Oy,rJ] at q;obtain⟨⟨⟨⟨⟨rfl,rfl⟩,hdel⟩,ht⟩,hok⟩,hni⟩:=q;obtain⟨nm,bs,mro,ns,qn,hd,sn,sub,ab,col,del⟩:=cd;dsimp only at hm hdel hok hni;subst hm hdel;have hsl:sl = #[k0,k1,k2,k3,some (.builtin n),k5]:=by
    cases sl with
    |mk l=>exact congrArg Array.mk hs
   subst hsl;exact⟨bm,ns,nm,qn,bs,hd,sn,sub,ab,col,dd,k0,k1,k2,k3,k5,_,X _ _ ho,.of_isNs (PySem.W.isNs_of_in X hok),PySem.W.nsMap_none_of_in X hok hni,PySem.W.tail_of_in X ht⟩
  .cases q
 .cases q
section
variable{EX:XK}{C:Addr}{np cpos:Pos}{B initId:String}
theorem IQ(hr:iV X EX)(hc:X.calm=true)(hm:X.mg x=some (.ref C))(hq:PySem.W.excIn X.K C bmB newId=true)(FB:ExcBaseFacts B newId initId bmB)(hg:Gl X x:=by rfl)(hd:(x==("__debug__" : Str))=false:=by decide) :
  PS X (.Raise (some (.Call (.Name x np) [] [] cpos)) none pos) (λ_ _ H=>EX (.ref C) none H):=by
 intro pins s σ H D I h;obtain⟨bm,N,nm,qn,bs,hdc,sn,sub,ab,col,dd,k0,k1,k2,k3,k5,mN,hC,hN,hni,T⟩:=Es I.kIn hq;refine wpAny_Raise_call_subT (C:=C) (nm:=nm) (q:=qn) (N:=N) (bs:=bs) (bm:=bm) (hdct:=hdc) (sn:=sn) (sub:=sub) (ab:=ab) (col:=col) (dd:=dd) (k0:=k0) (k1:=k1) (k2:=k2) (k3:=k3) (k5:=k5)
  FB (mN:=mN) (T.hasType FB.hasBase) (I.ok.hd hc) rfl hni (eA I hg hm ⟨rfl,?_⟩ hd)
 exact evalArgs_empty ⟨rfl,jS _,hC,hN,T,λh' e hx=>hr pins σ H s h' e (.ref C) [] I hx h⟩
end
section
variable{H':Hp}{s':Shared}{B h2:Heap}
theorem Inv.fsStk(I:Inv X pins σ H s)(hb:b∈X.fs):b∈cM X.stack:=by
 rcases I.ok.stk with z|⟨z,_⟩
 .rw[z];exact hb
 .rw[z];exact vE hb
theorem Inv.fly(I:Inv X pins σ H s)(hos:s'.os=s.os)(hbare:AllBare s'.gens)(un:Un (cM X.stack) [] H H' s.heap s'.heap)(hok:HOk X.prog X.w H' s'.heap)
  (hB:∀b o,s.heap.get? b=some o->b∉cM X.stack->∃o',B.get? b=some o') (hT:∀b u,H' b=some u->∃o,B.get? b=some o) (st1:B.StaysIn s'.heap) (st2:B.StaysIn h2) (up:s'.heap.UpToSlots h2)
  (frm:∀b∈cM X.stack,∃o,s'.heap.get? b=some o/\∀vs,o.data≠.fields vs):Inv X pins σ H' { s' with heap:=h2 }:=by
 have I':Inv X pins σ H' s':=I.call' hos un hok hbare (ch:=[]) (λb z=>N6 z (by simp));have nostk:∀b o,X.s₀.heap.get? b=some o->b∉X.fs->b∉cM X.stack:=λb o e hb hm=>by
  rcases Yao.mp (I.stkSub b hm) with z|z
  .have l1:=cV e
   have l2:=I.ok.above;rw[<-z] at l2;exact N6 (cW l1 l2) (iy _)
  .exact hb z
 have inB:∀{b o},s.heap.get? b=some o->b∉cM X.stack->∀{u},s'.heap.get? b=some u->h2.get? b=some u:=λ{b o} e hb {u} q=>by
  obtain⟨o',eB⟩:=hB b o e hb;have:=st1 b o' eB;rw[q] at this;cases this;exact st2 b _ eB
 have cellK:∀c v,s'.heap.IsCell c v->h2.IsCell c v:=λc v ⟨o,ho,hd⟩=>by
  obtain⟨sl,e⟩:=up c o ho λvs z=>by rw[hd] at z;cases z
  exact⟨_,e,hd⟩
 refine⟨I'.ok,I'.os,I'.bare,⟨λb o e n hb hx=>?_,λb o e n hb hx=>?_,I'.base.free,λb o e hx=>?_,I'.base.tups,I'.base.frzs,I'.base.tbls,I'.base.sys⟩,?_,λx c e=>?_,I'.free,I'.freeC,λp hp=>?_,hok.through hT st1 st2,I'.len⟩
 .exact inB (I.base.keep b o e n hb hx) (nostk b o e hb) (I'.base.keep b o e n hb hx)
 .obtain⟨sl,e1⟩:=I'.base.slot b o e n hb hx
  obtain⟨o3,e3,nf⟩:=frm b (I.fsStk hb);rw[e1] at e3;cases e3;obtain⟨sl2,e4⟩:=up b _ e1 nf;exact⟨sl2,e4⟩
 .obtain⟨o',e1⟩:=I'.base.there b o e hx
  by_cases hb:b∈cM X.stack
  .obtain⟨o3,e3,nf⟩:=frm b hb
   obtain⟨sl,e4⟩:=up b _ e3 nf;exact⟨_,e4⟩
  .obtain⟨o2,e2⟩:=I.base.there b o e hx
   exact⟨o',inB e2 hb e1⟩
 .obtain⟨m,hn,hl⟩:=I'.loc
  refine⟨m,up.ns hn,λi x v e1 e2 e3=>?_⟩;obtain⟨u,r,l⟩:=hl i x v e1 e2 e3;refine⟨u,r,?_⟩;rcases l with l|⟨k,c,e,z⟩
  .exact .inl l
  .exact .inr ⟨k,c,e,cellK c _ z⟩
 .obtain⟨v,z⟩:=I'.cell x c e
  exact⟨v,cellK c v z⟩
 .obtain⟨e,n,ne,nf,d⟩:=I'.pin p hp
  obtain⟨e0,n0,_⟩:=I.pin p hp;have hb:p.1∉cM X.stack:=λhm=>by
   rcases Yao.mp (I.stkSub _ hm) with z|z
   .exact ne z
   .exact nf z
  exact⟨inB e0 hb e,n,ne,nf,d⟩
theorem Inv.track{u:HO}(I:Inv X pins σ H s)(hn:H a=none)(h0:X.s₀.heap.get? a=none)(hL:a≠X.env.locals)(hC:∀x c,X.env.cells.lookup x=some c->c≠a)(hP:∀p∈X.pn++pins,p.1≠a)
  (new:ObjOk X.prog X.w (upd H a u) s.heap a u) (hu:∀us,u≠.lst us):Inv X pins σ (upd H a u) s:=by
 have nea:∀b v,H b=some v->b≠a:=λb v e z=>by rw[z,hn] at e;cases e
 refine ⟨I.ok,I.os,I.bare,⟨I.base.keep,I.base.slot,λb o e n hx=>?_,I.base.there,λb xs e=>?_,λb o xs e=>?_,λb ps e=>?_,λx0 e0 n ys=>by
   by_cases z:sysModules=a
   .rw[z,aL];exact λy=>hu ys (N8 y)
   .rw[aH z];exact I.base.sys x0 e0 n ys⟩,I.loc,I.cell,?_,λx c e=>?_,λp hp=>?_,λb v e=>?_,I.len⟩
 .rw[aH (λz=>by rw[z,h0] at e;cases e)]
  exact I.base.free b o e n hx
 .have:=I.base.tups b xs e
  rw[aH (nea _ _ this)];exact this
 .have:=I.base.frzs b o xs e
  rw[aH (nea _ _ this)];exact this
 .obtain⟨m,e1⟩:=I.base.tbls b ps e
  exact⟨m,by rw[aH (nea _ _ e1)];exact e1⟩
 .rw[aH (Ob hL)];exact I.free
 .rw[aH (hC x c e)];exact I.freeC x c e
 .obtain⟨e,n,r⟩:=I.pin p hp
  exact⟨e,by rw[aH (hP p hp)];exact n,r⟩
 .by_cases hb:b=a
  .subst hb;rw[aL] at e;cases e;exact new
  .rw[aH hb] at e
   exact(I.hok b v e).stay (λ_ _ _ q=>q) (λc q=>by rw[aH (nea _ _ q)];exact q) λc _ q=>by rw[aH (nea _ _ q)];exact q
end
abbrev Cx.tr(X:Cx)(E:Value->Shared->Prop)(pins:List (Addr×Obj)):Cx:={ X with xe:=E,pn:=X.pn++pins }
abbrev Cx.hnd(X:Cx)(e:Addr)(E:Value->Shared->Prop):Cx:={ X with A:=X.A.mark (some (.ref e)),calm:=false,xe:=E }
section
variable{pins':List (Addr×Obj)}{E:Value->Shared->Prop}{e:Addr}
theorem Inv.tr(I:Inv X pins σ H s):Inv (X.tr E pins) [] σ H s:=⟨⟨I.ok.mod,I.ok.kind,I.ok.glob,I.ok.blt,I.ok.above,I.ok.inj,I.ok.has,I.ok.cab,I.ok.hd,I.ok.frames,I.ok.stk,I.ok.exf,I.ok.bs,I.ok.bsz,I.ok.noex,I.ok.exfs,I.ok.funs,I.ok.frf,I.ok.sys0⟩,I.os,I.bare,I.base,I.loc,I.cell,I.free,I.freeC,λp hp=>I.pin p (by simpa using hp),I.hok,I.len⟩
theorem Inv.untr(I:Inv (X.tr E pins) pins' σ H s):Inv X pins σ H s:=⟨⟨I.ok.mod,I.ok.kind,I.ok.glob,I.ok.blt,I.ok.above,I.ok.inj,I.ok.has,I.ok.cab,I.ok.hd,I.ok.frames,I.ok.stk,I.ok.exf,I.ok.bs,I.ok.bsz,I.ok.noex,I.ok.exfs,I.ok.funs,I.ok.frf,I.ok.sys0⟩,I.os,I.bare,I.base,I.loc,I.cell,I.free,I.freeC,λp hp=>I.pin p (An _ hp),I.hok,I.len⟩
theorem SP.untr{D:jU}{f:Flow}{s':Shared}(h:SP (X.tr E pins) pins' D f s'):SP X pins D f s':=by
 cases f with
 |next=>obtain⟨σ',H',I,q⟩:=h;exact⟨σ',H',I.untr,q⟩
 |brk=>obtain⟨σ',H',I,q⟩:=h;exact⟨σ',H',I.untr,q⟩
 |cont=>obtain⟨σ',H',I,q⟩:=h;exact⟨σ',H',I.untr,q⟩
 |ret u=>obtain⟨v,σ',H',I,r,q⟩:=h;exact⟨v,σ',H',I.untr,r,q⟩
theorem Inv.hnd(I:Inv X pins σ H s):Inv (X.hnd e E) pins σ H s:=⟨⟨I.ok.mod,I.ok.kind,I.ok.glob,I.ok.blt,I.ok.above,I.ok.inj,I.ok.has,I.ok.cab,(λz=>by cases z),I.ok.frames,I.ok.stk,I.ok.exf,I.ok.bs,I.ok.bsz,I.ok.noex,I.ok.exfs,I.ok.funs,I.ok.frf,I.ok.sys0⟩,I.os,I.bare,I.base,I.loc,I.cell,I.free,I.freeC,I.pin,I.hok,I.len⟩
theorem Inv.unhnd(hd:X.calm=true->X.A.handled=none)(I:Inv (X.hnd e E) pins σ H s):Inv X pins σ H s:=⟨⟨I.ok.mod,I.ok.kind,I.ok.glob,I.ok.blt,I.ok.above,I.ok.inj,I.ok.has,I.ok.cab,hd,I.ok.frames,I.ok.stk,I.ok.exf,I.ok.bs,I.ok.bsz,I.ok.noex,I.ok.exfs,I.ok.funs,I.ok.frf,I.ok.sys0⟩,I.os,I.bare,I.base,I.loc,I.cell,I.free,I.freeC,I.pin,I.hok,I.len⟩
end
theorem IR{M:Model}{E:Value->Shared->Prop}{ea C Cs:Addr}{Q:Bool->Shared->Prop}(X:K.In s.heap)(hs:PySem.W.excIn K Cs bmB newId=true)(hbase:bmB.contains (.type "BaseException")=true)
  (he:∃oe,s.heap.get? ea=some oe/\oe.cls=.ref C) (hsub:PySem.W.mroIn K C (.ref Cs)=some true) (q:Q true s):wpAny M A (excMatches (.ref ea) (.ref Cs)) Q E s:=by
 obtain⟨bm,N,nm,qn,bs,hd,sn,sub,ab,col,dd,k0,k1,k2,k3,k5,mN,hC,hN,hni,T⟩:=Es X hs;obtain⟨oe,he,hcls⟩:=he;have hcB:(Value.ref Cs::bm).contains (.type "BaseException")=true:=by rw[tU,T.hasType hbase,Bool.or_true]
 have f:=tc_notTuple;have LS:PySem.W.Looks M s.heap (isSubtype (.ref C) (.ref Cs)) true:=PySem.W.looks_mroIn X hsub;obtain⟨hh,g,d,tk,os⟩:=s;unfold excMatches
 repeat (first|(with_reducible refine Od he ?_;rw[hcls])|with_reducible refine Od hC ?_|(with_reducible refine Ow hC ?_;rw[hcB])|with_reducible refine LS.at ?_|wp_step)
 exact q
section
theorem Inv.names(I:Inv X pins σ H s)(hn:h'.Ns X.env.locals m)(hs:Heap.SameBut X.env.locals s.heap h'):Inv X pins (List.replicate σ.length none) H { s with heap:=h',toks:=t' }:=by
 have ne:∀b o,X.s₀.heap.get? b=some o->b≠X.env.locals:=λb o e=>fR (cW (cV e) I.ok.above);have same:∀b,b≠X.env.locals->h'.get? b=s.heap.get? b:=λb hb=>hs.2 b hb;have nH:∀b u,H b=some u->b≠X.env.locals:=λb u e z=>by rw[z,I.free] at e;cases e
 refine⟨I.ok,I.os,I.bare,⟨λb o e n hb hx=>?_,λb o e n hb hx=>?_,I.base.free,λb o e hx=>?_,I.base.tups,I.base.frzs,I.base.tbls,I.base.sys⟩,⟨m,hn,λi x v _ e2 _=>?_⟩,λx c e=>?_,I.free,I.freeC,λp hp=>?_,λb u e=>?_,by rw[pF];exact I.len⟩
 .show h'.get? b=_
  rw[same b (ne b o e)];exact I.base.keep b o e n hb hx
 .obtain⟨sl,e1⟩:=I.base.slot b o e n hb hx
  refine⟨sl,?_⟩;show h'.get? b=_;rw[same b (ne b o e)];exact e1
 .obtain⟨o',e1⟩:=I.base.there b o e hx
  refine⟨o',?_⟩;show h'.get? b=_;rw[same b (ne b o e)];exact e1
 .rw[mo] at e2
  split at e2<;>cases e2
 .obtain⟨v,o,ho,hd⟩:=I.cell x c e
  refine⟨v,o,?_,hd⟩;show h'.get? c=_;rw[same c (I.cne x c e)];exact ho
 .obtain⟨e,n,nl,r⟩:=I.pin p hp
  refine⟨?_,n,nl,r⟩;show h'.get? p.1=_;rw[same _ nl];exact e
 .refine(I.hok b u e).stay (λc v hc q=>?_) (λ_ q=>q) λ_ _ q=>q
  show h'.get? c=_;rw[same c ?_]
  .exact q
  .rcases hc with rfl|hc
   .exact nH _ _ e
   .exact nH _ _ hc
end
structure RoomU(k:Nat)(A:Around):Prop where
 dp:A.depth+3*k+5<recursionLimit
 un:A.units+16*k+200<cLine
theorem RoomU.mono{j:Nat}(r:RoomU k A)(h:j<=k):RoomU j A:=⟨by have:=r.dp;omega,by have:=r.un;omega⟩
theorem RoomU.deeper{k:Nat}{A:Around}(r:RoomU (k+1) A)(env:Env):RoomU k (A.deeper env):=
 ⟨by have:=r.dp;show A.depth+1+3*k+5<_;omega,by have:=r.un;show A.units+3+16*k+200<_;omega⟩
def RoomU.depth{k:Nat}{A:Around}(r:RoomU k A):A.depth<recursionLimit:=by have:=r.dp;omega
def RoomU.units{k:Nat}{A:Around}(r:RoomU k A):A.units+64<cLine:=by have:=r.un;omega
def Room.u(r:Room k A):RoomU k A:=⟨r.dp,r.un⟩
theorem RoomU.mark{k:Nat}{A:Around}{v:Option Value}(r:RoomU k A):RoomU k (A.mark v):=⟨r.dp,r.un⟩
structure yT(P:Program)(w:World)(K:N4)(mg:Str->Option Value)(base:Heap)(k:Nat)(f:Addr)(fd:FuncData)(ps:List Str)(sp:Sp):Prop where
 len:∀vs H Q E,sp vs H Q E->vs.length=ps.length
 run:∀(A:Around) (outer:List Env) (s:Shared) (H:Hp) (args:Args) (us:List Value) (vs:List V) (Q:VK) (E:XK),RoomU k A->Env0 P w K mg base A outer s H->BindsTo s fd args (ps.zip us)->Vals vs us->sp vs H Q E->
  codeAny (model P w) A (.call (.ref f) args) (CR yR outer P w H s Q E) s
def sV(P:Program)(w:World)(K:N4)(mg:Str->Option Value)(base:Heap)(N:List Str)(qual:Str)(scope:Scope)(f:Addr)(cd:Value)(A:Around)(outer:List Env)(s:Shared)(H:Hp):Cx:=
 { cB yR P w K mg base N qual scope f cd A outer s H E0 with calm:=false,xe:=λ_ _=>False }
theorem IS{s1:Shared}{vs:List V}
  (S:bI N ps scope) (e0:Env0 P w K mg base A outer s H) (hl:vs.length=ps.length) (r:Vals vs us)
  (x:InCallC s s.heap.objs.size (bindL (envOfC qual scope s.heap.objs.size f cd).kindOf (ps.zip us) λ_=>none) (cellsFrom (s.heap.objs.size+1) scope.names []) (bindC (envOfC qual scope s.heap.objs.size f cd).kindOf (ps.zip us) λ_=>none) s1) :
  Inv (sV P w K mg base N qual scope f cd A outer s H) [] (start N vs) H s1:=by
 have hpl:ps.length<=N.length:=by have:=congrArg List.length S.pre;rw[gT] at this;omega
 obtain⟨h1,tk,rfl,hk⟩:=x.done;have noA:∀b:Addr,b∉(sV P w K mg base N qual scope f cd A outer s H).ex:=λb z=>N6 (show b∈([]:List Addr) from z) (by simp);refine ⟨⟨e0.mod,S.kind,rfl,rfl,bM _,λy z c h1 h2=>?_,λy hy=>?_,λy c _ h=>?_,(λz=>by cases z),Around.frames_deeper e0.frames,.inr ⟨rfl,rfl⟩,λb z=>N6 z (noA b),e0.bs,e0.bsz,λb _ _=>noA b,λb z=>N6 z (noA b),e0.funs,e0.frf,e0.sysn⟩,
  rfl,e0.bare,Un.kept hk,⟨_,x.toInCall.ns,λi y v h1 h2 h3=>?_⟩,λy c h=>⟨_,x.cell y c h⟩,e0.hok.fresh (bM _),λy c h=>?_,λp hp=>N6 (show p∈([]:List (Addr×Obj)) from hp) (by simp),e0.hok.kept hk,?_⟩
 .exact name_of_addr x.apart (Oc h1) (Oc h2)
 .have hy:scope.names.lookup y=some .cell\/scope.names.lookup y=some .free:=hy
  rcases hy with hy|hy
  .exact d6 hy
  .exact N6 rfl (S.nofree _ (Oc hy))
 .exact nz (x.above y c (Oc h))
 .have hi:i<vs.length:=by
   unfold start at h2
   by_cases hi:i<vs.length
   .exact hi
   .rw[jE (by simpa using hi)] at h2
    rw[mo] at h2;split at h2<;>cases h2
  have ha:vs[i]? = some v:=by
   unfold start at h2;rw[jT (by simpa using hi),cA] at h2;cases e:vs[i]? with
   |none=>rw[e] at h2;cases h2
   |some a=>rw[e] at h2;cases h2;rfl
  obtain⟨u,hu,rv⟩:=r.get ha;have hp:ps[i]? = some y:=by
   rw[<-S.pre,Ap (by omega)];exact h1
  have ndP:ps.Nodup:=by rw[<-S.pre];exact S.nd.sublist (List.take_sublist _ _)
  refine⟨u,rv,?_⟩;rcases S.par y (iz hp) with k|k
  .exact .inl ⟨k,fD ndP hp hu k⟩
  .obtain⟨c,e⟩:=d6 (n:=s.heap.objs.size+1) k
   refine .inr ⟨.inl k,c,e,?_⟩;have q:=x.cell y c e;rw[fE ndP hp hu (by show scope.names.lookup y≠_;rw[k];decide)] at q;exact q
 .exact e0.hok.fresh (nz (x.above y c (Oc h)))
 .unfold start
  show _=N.length;rw[eu,bP,pF];omega
theorem Fun.okU{st:Stmt}{sp:Sp}(F:Fun K x qual st f fd)(S:bI N ps (aE st))(len:∀vs H Q E,sp vs H Q E->vs.length=ps.length)
  (hbody:∀ (cdv:Value) (A:Around) (outer:List Env) (s:Shared) (H:Hp) (vs:List V) (Q:VK) (E:XK),RoomU k (A.deeper (envOfC qual (aE st) s.heap.objs.size f cdv))->sp vs H Q E->
   ∃t,PSs (sV P w K mg base N qual (aE st) f cdv A outer s H) (aW st) t/\t { nx:=λ_ H'=>Q .non H',rt:=Q } (start N vs) H):yT P w K mg base (k+1) f fd ps sp:=by
 obtain⟨oc,od,kV,doc,pm,an,cdv,ct,osl,rfl,lk,hcd⟩:=F.ex;refine⟨len,λA outer s H args us vs Q E hr e0 hb r hsp=>?_⟩;have hl:=len _ _ _ _ hsp;have KX:K.In s.heap:=e0.mod.kin.keeps λb o e=>(e0.bs b o e).1;have lim:s.heap.NoLimit:=e0.mod.nolimit.keeps λb o e=>(e0.bs b o e).1;have hkind:∀y∈ps.zip us,(aE st).names.lookup y.1=some .local\/((aE st).names.lookup y.1=some .cell/\((cellsFrom (s.heap.objs.size+1) (aE st).names []).lookup y.1).isSome=true):=λ⟨n,v⟩ hy=>by
  rcases S.par n (uP hy).1 with q|q
  .exact .inl q
  .exact .inr ⟨q,PySem.W.cellsFrom_some _ _ _ (.inl q)⟩
 refine codeAny_call_function hr.depth (KX _ _ lk) rfl S.co S.gen rfl (PySem.W.codeRec_of KX hcd) (hb _ _ _ _ ?_);refine wpAny_newFunctionEnv_cells S.kind hkind λenv he s1 x=>?_;subst he;refine⟨lim.keeps x.toInCall.keep,codeAny_func ?_⟩;obtain⟨t,ht,hq⟩:=hbody cdv A outer s H vs Q E (hr.deeper _) hsp;have I:Inv (sV P w K mg base N qual (aE st) f cdv A outer s H) [] (start N vs) H s1:=IS S e0 hl r x;refine Of (ht [] s1 (start N vs) H _ I hq) (λfl s' hs=>?_) λe s' hs=>hs.elim;have fin:∀{σ':St} {H':Hp} {v:V} {u:Value},Inv (sV P w K mg base N qual (aE st) f cdv A outer s H) [] σ' H' s'->RelV v u->Q v H'->CE outer P w H s Q u s':=
  λ{σ' H' v u} J rv q=>⟨v,H',J.os,J.bare,J.base,J.hok,rv,q⟩
 cases fl with
 |ret u=>
  obtain⟨v,σ',H',J,rv,q⟩:=hs;exact fin J rv q
 |next=>
  obtain⟨σ',H',J,q⟩:=hs;exact fin (v:=V.non) (u:=Value.none) J rfl q
 |brk=>
  obtain⟨_,_,_,q⟩:=hs;exact Oh q
 |cont=>
  obtain⟨_,_,_,q⟩:=hs;exact Oh q
section
variable{sp:Sp}{E:XK}{t:TA}
theorem IT(F:yT X.prog X.w X.K X.mg X.base k f fd ps sp)(hr:RoomU k X.A)(hg:Gl X x)(hm:X.mg x=some (.ref f))(hk:PySem.W.keepIn X.K (.ref f)=true)(hb:Binds X.K fd ps [])
  (ha:PA X (e::es) t) (hdb:(x==("__debug__" : Str))=false:=by decide) (he:starEach (e::es) X.env=(false,eval e X.env)::starEach es X.env:=by rfl) (hpl:(backTo pos (starEach es X.env)).any (·.1)=false:=by rfl) :
  PE X (.Call (.Name x p) (e::es) [] pos) (qP sp [] E t):=by
 have F':∀(pins:List (Addr×Obj)) (σ:St) (H:Hp) (s:Shared) (Q:VK) (us:List Value) (vs:List V),Inv X pins σ H s->Vals vs us->sp (vs++[]) H Q E->wpAny (model X.prog X.w) X.A (call (.ref f) us) (EP X pins σ Q) X.xe s:=by
  intro pins σ H s Q us vs I r h;have r2:Vals (vs++[]) (us++[]):=by simpa using r
  have hl:(us++[]).length=ps.length:=by rw[<-r2.length];exact F.len _ _ _ _ h
  refine wpAny_call (codeAny_mono (F.run X.A X.stack s H ⟨us,[]⟩ (us++[]) (vs++[]) Q E hr I.env0 (hb s us I.kIn hl) r2 h) λr s' hq=>?_);cases r with
  |error e=>exact Oh hq
  |ok fl=>
   cases fl with
   |ret u=>exact I.after hq
   |next=>exact Oh hq
   |brk=>exact Oh hq
   |cont=>exact Oh hq
 intro pins s σ H Q I h;refine Ox (eA I hg hm ?_ hdb);refine PySem.W.callWith_K (h₀:=X.base) I.ok.mod.kin hk (bG (ha pos pins s σ H _ I h) λus s1 ⟨vs,H1,I1,r,q⟩=>⟨I1.kIn,?_⟩) he hpl;exact F' pins σ H1 s1 Q us vs I1 r q
end
section
open PySem PySem.Spec PySem.Calls PyProof.Rows PySem.W Builtin Builtin.ObjectAttr Builtin.Getset_descriptor
def XAt(h:Heap)(x C:Addr):Prop:=∃ox,h.get? x=some ox/\ox.cls=.ref C/\notCls ox=true
structure gY(K:Frag)(D:Addr):Prop where
 ga:findIn K (.ref D) "__getattribute__" = some (some (.builtin "BaseException.__getattribute__"))
 gn:findIn K (.ref D) "__getattr__" = some none
 be:mroIn K D (.type "BaseException")=some true
 is:(clsIn K D).isSome=true
 at':findIn K (.ref D) "__class__" = some (some (.builtin "object.__class__"))
 gt:specialIn K (.builtin "object.__class__") "__get__" = some (some (.builtin "getset_descriptor.__get__"))
 tk:takesIn K (.builtin "object.__class__")=some true
 ob:mroIn K D (.type "object")=some true
section
variable{E:Value->Shared->Prop}{K:Frag}{x D:Addr}
theorem XAt.type{M:Model}(I:XAt h x D):Looks M h (typeOf (.ref x)) (.ref D):=by
 obtain⟨ox,h1,h2,_⟩:=I;exact h2▸(Looks.ld h1).andThen .now
theorem IU{M:Model}(X:K.In h)(c:gY K D):Looks M h (find (.ref x) (.ref D) "__class__") (.bind (.builtin "getset_descriptor.__get__") (.builtin "object.__class__")):=by
 have L1:=looks_findIn (M:=M) X c.at';have L2:Looks M h (getOf (some (.builtin "object.__class__"))) (some (.builtin "getset_descriptor.__get__")):=looks_specialIn X c.gt;have L3:=looks_takesIn (M:=M) X c.tk;refine L1.andThen (L2.andThen ?_);exact(show Looks M h (dataDescriptor? (some (.builtin "object.__class__")) (some (.builtin "getset_descriptor.__get__"))) (some (.builtin "getset_descriptor.__get__",.builtin "object.__class__")) from L3.andThen .now).andThen (Looks.tag .now)
theorem IV{tp:Value}{R:Result->Shared->Prop}(X:K.In s.heap)(I:XAt s.heap x D)(hm:mroIn K D (.type "object")=some true)
  (h:R (.ok (.ret (.ref D))) s):codeAny (model prog w) A (.call (.builtin "getset_descriptor.__get__") ⟨[.builtin "object.__class__",.ref x,tp],[]⟩) R s:=by
 obtain⟨hh,g,dr,t,os⟩:=s;have L0:=I.type (M:=model prog w);have L1:=looks_mroIn (M:=model prog w) X hm;refine codeAny_call_builtin KF.slot_gs.plain KF.entry_gs (KF.slot_gs.check _ _ _ _ _ _ _ _ KF.type_class (KF.args_gs _ _ _) ?_);unfold Builtin.«getset_descriptor.__get__» descrGet;rw[dga_obj];refine N3 (N5 ?_);unfold descrGetter descrCheckInstance descrNameAndClass isInstance;simp only[KF.owner_class]
 repeat lk
 refine⟨Code.quiet_builtin _ (by decide +kernel),codeAny_builtin KF.entry_class ?_⟩;unfold Builtin.«object.__class__» shownTypeOf
 repeat lk
 exact h
theorem IW{M:Model}{nameV:Value}{Q:Unit->Shared->Prop}(X:K.In s.heap)(I:XAt s.heap x D)(c:gY K D)(hq:Q () s):wpAny M A (checkBuiltinCall "BaseException.__getattribute__" ⟨[.ref x,nameV],[]⟩) Q E s:=by
 have hk:builtinKind "BaseException.__getattribute__" = some .slot:=by decide +kernel
 have hsplit:splitId "BaseException.__getattribute__" = some ("BaseException", "__getattribute__"):=by decide +kernel
 have ha:=PySem.F.args_bexc_ga (.ref x) nameV;have L0:=I.type (M:=M);have L1:=looks_mroIn (M:=M) X c.be;simp only[checkBuiltinCall,hk,hsplit];refine N3 ?_;unfold isInstance;refine N3 (L0.at (L1.at ?_))
 repeat (first|assumption|wp_step)
theorem IX{Q:Fin->Shared->Prop}(X:K.In s.heap)(I:XAt s.heap x D)(c:gY K D)(hq:Q (.done (.ret (.ref D))) s) :
  wpAny (model prog w) A (Builtin.«object.__getattribute__» ⟨[.ref x,.str "__class__" tk],[]⟩) Q E s:=by
 obtain⟨hh,g,d,t,os⟩:=s;have L0:=I.type (M:=model prog w);have L2:=IU (x:=x) (M:=model prog w) X c
 repeat (any_goals (first|assumption|(with_reducible refine L0.at ?_)|(with_reducible refine L2.at ?_)|wp_step))
 exact IV (K:=K) (s:=⟨hh,g,d,t,os⟩) X I c.ob (N5 hq)
theorem vL{R:Result->Shared->Prop}(X:K.In s.heap)(I:XAt s.heap x D)(c:gY K D)(hq:R (.ok (.ret (.ref D))) s) :
  codeAny (model prog w) A (.call (.builtin "BaseException.__getattribute__") ⟨[.ref x,.str "__class__" tk],[]⟩) R s:=
 codeAny_call_builtin PySem.F.attr_ValueError.ga.plain PySem.F.entry_bexc_ga (IW X I c (IX X I c hq))
theorem IY{Q:Option Value->Shared->Prop}(X:K.In s.heap)(I:XAt s.heap x D)(c:gY K D)(h:Q (some (.ref D)) { s with toks:=s.toks+1 }):wpAny (model prog w) A (getAttr? (.ref x) "__class__") Q E s:=by
 obtain⟨hh,g,d,t,os⟩:=s;have L0:=I.type (M:=model prog w);have L1:=looks_findIn (M:=model prog w) X c.ga;have L3:=looks_findIn (M:=model prog w) X c.gn;have f3:=PySem.F.attr_ValueError.ga.bind (.ref x);have hx2:(Value.builtin "BaseException.__getattribute__" == Value.builtin "object.__getattribute__")=false:=by decide +kernel
 have hx1:(onTheHeap (Value.ref D)&&Value.builtin "BaseException.__getattribute__" == Value.builtin "object.__getattribute__")=false:=by rw[hx2];rfl
 unfold getAttr? getAttrBy?
 repeat (any_goals (first|assumption|(with_reducible refine L0.at ?_)|(with_reducible refine L1.at ?_)|(with_reducible refine L3.at ?_)|wp_step))
 exact vL (K:=K) (s:=⟨hh,g,d,t+1,os⟩) X I c (handed_on rfl (N5 h))
theorem Et(c:gY K D):KitX K (.ref x) (.ref D) (λh=>XAt h x D) where
 ty:=λ_ _ _ I=>I.type
 it:=λ_ _ X _=>by
  have hcD:=c.is;unfold clsIn at hcD;split at hcD
  .rename_i c' d' cd' sl' ho
   intro A' Q' E' s' k q;unfold isType loadHead;exact N3 (wpAny_loadPart (k _ _ (X _ _ ho)) (N5 q))
  .cases hcD
 ne:=λh tp dd its n sl X htp=>by
  have hcD:=c.is;refine Bool.eq_false_iff.mpr λq=>?_;have e:D=tp:=Value.ref.inj (beq_iff_eq.mp q);subst e;unfold clsIn at hcD;split at hcD
  .rename_i c' d' cd' sl' ho
   have z:=(X _ _ ho).symm.trans htp;cases z
  .cases hcD
 ca:=λX I k=>IY X I c k
end
end
theorem IZ:fillsNumberSlot (.type "tuple") "mul" = pure false:=
 PySem.fillsNumberSlot_seq (id:= "tuple.__mul__") (r:=some (.builtin "tuple.__rmul__")) PySem.F.slot_tuple_mul.lookup (by decide +kernel) PySem.F.slot_tuple_rmul.lookup (by decide +kernel)
theorem I0:seqRepeat? (.type "tuple")=pure (some (.builtin "tuple.__mul__")):=by
 unfold seqRepeat?;rw[PySem.seqSlot_of (T:= "tuple") (name:= "__mul__") (id:= "tuple.__mul__") PySem.F.slot_tuple_mul.lookup (by decide +kernel),PySem.seqSlot_of (T:= "tuple") (name:= "__rmul__") (id:= "tuple.__rmul__") PySem.F.slot_tuple_rmul.lookup (by decide +kernel)];rfl
theorem Ja(a:Int)(t:Tok)(l:Addr)(items:Array Value)(n:Nat)(dd:Option Addr)(sl:Array (Option Value)) :
  Meets (Builtin.«int.__rmul__» ⟨[.int a t,.ref l],[]⟩) (λ_ R s=>s.heap.get? l=some { cls:=.type "tuple",dict:=dd,data:=.seq items n,slots:=sl }/\R (.ok (.ret Value.notImplemented)) s):=
 .of_wp λprog w A R s h=>by obtain⟨hp,g,d,tk,os⟩:=s;obtain⟨hl,h⟩:=h;wp_walk;exact⟨_,rfl,h⟩
theorem Jb(l:Addr)(items:Array Value)(n:Nat)(dd:Option Addr)(sl:Array (Option Value))(k:Int)(t:Tok)(h1:-(2^63)<=k)(h1':k<2^63)(h2:(items.isEmpty||k==1)=true) :
  Meets (Builtin.«tuple.__mul__» ⟨[.ref l,.int k t],[]⟩) (λ_ R s=>s.heap.get? l=some { cls:=.type "tuple",dict:=dd,data:=.seq items n,slots:=sl }/\R (.ok (.ret (Value.ref l))) s):=by
 intro prog w A R s h;obtain⟨hp,g,d,tk,os⟩:=s;obtain⟨hl,h⟩:=h;have f1:=AutoSeq1.idx_int;have c1:¬(decide (k < -2^63)||decide (k ≥ 2^63))=true:=by simp;omega
 unfold Builtin.«tuple.__mul__»
 wp_walk using wpAny_loadPart' hl
 rw[if_neg c1]
 wp_walk using wpAny_loadPart' hl
 exact h
theorem Jc(l:Addr)(items:Array Value)(n:Nat)(dd:Option Addr)(sl:Array (Option Value))(k:Int)(t:Tok)(h1:-(2^63)<=k)(h1':k<2^63)(h2:¬(items.isEmpty||k==1)=true)(h3:k<=0) :
  Meets (Builtin.«tuple.__mul__» ⟨[.ref l,.int k t],[]⟩) (λ_ R s=>s.heap.get? l=some { cls:=.type "tuple",dict:=dd,data:=.seq items n,slots:=sl }/\R (.ok (.ret (Value.ref s.heap.objs.size))) { s with heap:=s.heap.push { cls:=Value.type "tuple",data:=Data.seq #[] } }):=by
 intro prog w A R s h;obtain⟨hp,g,d,tk,os⟩:=s;obtain⟨hl,h⟩:=h;have f1:=AutoSeq1.idx_int;have c1:¬(decide (k < -2^63)||decide (k ≥ 2^63))=true:=by simp;omega
 have c2:(decide (k<=0)||items.isEmpty)=true:=by simp[h3]
 unfold Builtin.«tuple.__mul__»
 wp_walk using wpAny_loadPart' hl
 rw[if_neg c1]
 wp_walk using wpAny_loadPart' hl
 exact h
theorem Jd(l:Addr)(items:Array Value)(n:Nat)(dd:Option Addr)(sl:Array (Option Value))(k:Int)(t:Tok)(h1:-(2^63)<=k)(h1':k<2^63)(h2:¬(items.isEmpty||k==1)=true)(h3:0<k)(h4:items.size*k.toNat<=sizeLine) :
  Meets (Builtin.«tuple.__mul__» ⟨[.ref l,.int k t],[]⟩) (λ_ R s=>s.heap.get? l=some { cls:=.type "tuple",dict:=dd,data:=.seq items n,slots:=sl }/\R (.ok (.ret (Value.ref s.heap.objs.size))) { s with heap:=s.heap.push { cls:=Value.type "tuple",data:=Data.seq (List.foldl (λx1 x2=>x1++x2) #[] (List.replicate k.toNat items)) } }):=by
 intro prog w A R s h;obtain⟨hp,g,d,tk,os⟩:=s;obtain⟨hl,h⟩:=h;have f1:=AutoSeq1.idx_int;have c1:¬(decide (k < -2^63)||decide (k ≥ 2^63))=true:=by simp;omega
 have c2:¬(decide (k<=0)||items.isEmpty)=true:=by
  have:items.isEmpty=false:=by cases q:items.isEmpty<;>simp_all
  simp[this];omega
 have hk:(items.size:Int)*k=((items.size*k.toNat:Nat):Int):=by rw[Int.natCast_mul,Av (by omega)]
 have hsl:(sizeLine:Nat)=2^24:=rfl;have c3:¬((items.size:Int)*k>(2^63-1)/8):=by rw[hk];omega
 have c4:¬Builtin.Tuple.tupleTooMany ((items.size:Int)*k)=true:=λz=>by have z':=of_decide_eq_true z;rw[hk] at z';omega
 unfold Builtin.«tuple.__mul__»
 wp_walk using wpAny_loadPart' hl
 rw[if_neg c1]
 wp_walk using wpAny_loadPart' hl
 rw[if_neg c3]
 wp_walk using wpAny_loadPart' hl
 rw[if_neg c4]
 wp_walk using wpAny_loadPart' hl
 have hnew:List.foldl (λx1 x2=>x1++x2) #[] (List.replicate k.toNat items)=(List.replicate k.toNat items.toList).flatten.toArray:=by
  have:=eD items.toList k.toNat [];rw[fw] at this;simpa using this
 have c5:¬((List.foldl (λx1 x2=>x1++x2) #[] (List.replicate k.toNat items)).size>sizeLine):=by
  rw[hnew,eM,iU,yo,Nat.mul_comm];omega
 rw[if_neg c5]
 wp_walk using wpAny_loadPart' hl
 exact h
section
theorem Inv.tnew{ys:List V}{its:List Value}(I:Inv X pins σ H s)(hv:Vals ys its)(hz:ys.length<=sizeLine) :
  Inv X pins σ (upd H s.heap.objs.size (.tup ys)) { s with heap:=s.heap.push { cls:=.type "tuple",data:=.seq its.toArray },toks:=t' }:=
 I.laid (λ_ _ q=>cX _ q) (bM _) ⟨hz,its,hv,IsTup.new _ _⟩
def vM(K:N4):R2:=λx y H Q=>∃l k xs,x=.ref l/\y=.int k/\SqT K H l xs/\-(2^63)<=k/\k<2^63/\xs.length*k.toNat<=sizeLine/\
 ((xs=[]\/k=1)->Q (.ref l) H)/\∀p,H p=none->Q (.ref p) (upd H p (.tup (List.replicate k.toNat xs).flatten))
theorem Je:OpR X (binaryOp .Mult) (vM X.K):=by
 intro pins s σ H x y v u Q I rx ry h;obtain⟨l,k,xs,rfl,rfl,hq,h1,h2,hz,q1,q2⟩:=h;cases rx;obtain⟨t,rfl⟩:=ry;obtain⟨its,r,pl,_⟩:=I.tuple hq;have hl:xs.length=its.length:=r.length;obtain⟨⟨cls,dd,data,sl⟩,ho,hc,n,hd⟩:=id pl;simp only at hc hd;subst hc hd;refine wpAny_binaryOp_repeat_ref (T:= "tuple") (U:= "int") (by decide) ⟨_,ho,rfl⟩ (λs'=>typeIs_int s' k t) IZ PySem.F.fills_int_mul PySem.F.slot_int_rmul I0 PySem.F.slot_int_index.lookup
  (call_meets PySem.F.slot_int_rmul (typeIs_int s k t) PySem.F.entry_int_rmul (PySem.F.args_int_rmul_2 _ _) (Ja k t l its.toArray n dd sl) ⟨ho,rfl,⟨_,ho,rfl⟩,?_⟩)
 by_cases hs:(its.toArray.isEmpty||k==1)=true
 .refine call_meets PySem.F.slot_tuple_mul ⟨_,ho,rfl⟩ PySem.F.entry_tuple_mul (PySem.F.args_tuple_mul_2 _ _) (Jb l its.toArray n dd sl k t h1 h2 hs) ⟨ho,⟨.ref l,H,I,rfl,q1 ?_⟩⟩
  rw[uR] at hs;rcases hs with hs|hs
  .exact .inl (r.nil_iff.mp (by simpa using hs))
  .exact .inr (beq_iff_eq.mp hs)
 .by_cases h3:k<=0
  .refine call_meets PySem.F.slot_tuple_mul ⟨_,ho,rfl⟩ PySem.F.entry_tuple_mul (PySem.F.args_tuple_mul_2 _ _) (Jc l its.toArray n dd sl k t h1 h2 hs h3) ⟨ho,⟨.ref _,_,I.tnew (its:=[]) (ys:=(List.replicate k.toNat xs).flatten) (t':=s.toks) ?_ ?_,rfl,q2 _ I.fresh⟩⟩
   .rw[show k.toNat=0 by omega];exact .nil
   .rw[show k.toNat=0 by omega];exact jS _
  .have hnew:List.foldl (λx1 x2=>x1++x2) #[] (List.replicate k.toNat its.toArray)=(List.replicate k.toNat its).flatten.toArray:=by
    have:=eD its k.toNat [];rw[fw] at this;exact this
   refine call_meets PySem.F.slot_tuple_mul ⟨_,ho,rfl⟩ PySem.F.entry_tuple_mul (PySem.F.args_tuple_mul_2 _ _) (Jd l its.toArray n dd sl k t h1 h2 hs (by omega) (by rw[eM,<-hl];exact hz)) ⟨ho,?_⟩;rw[hnew];exact⟨.ref _,_,I.tnew (t':=s.toks) (r.rep k.toNat) (by rw[iU,Nat.mul_comm];exact hz),rfl,q2 _ I.fresh⟩
end
theorem Jf(h:Heap)(hb:sysModules<h.objs.size):ObjOk P w H (h.push { cls:=.type "dict",data:=.dict #[] }) h.objs.size (.dK []):=
 ⟨jS _,beq_eq_false_iff_ne.mpr (Ob (fR hb)),[],.nil,Heap.DictOf.new h⟩
theorem Jg:PE X (.Dict [] [] pos) (λ_ H Q=>∀p,H p=none->Q (.ref p) (upd H p (.dK []))):=λpins s σ H Q I h=>
 wpAny_Dict_empty ⟨.ref s.heap.objs.size,_,I.laid (a:=s.heap.objs.size) (o:=.dK []) (t':=s.toks) (λ_ _ q=>cX _ q) (bM _) (Jf s.heap (uO (by decide) (I.mod.glob.keeps I.bk).lt)),rfl,h _ (I.hok.fresh (bM _))⟩
theorem Jh(hh:A.handled=none)(it l:Addr)(hne:l≠it)(xs:Array Value):Draws prog w A it [it,l] xs.size (λi v=>xs[i]? = some v) (λi h=>SIt κ h it l i/\SSq κ h l xs) where
 live:=λ_ _ st=>let⟨o,ho,_⟩:=st.1.obj;⟨o,ho⟩
 frame:=λ_ _ _ st hk=>⟨st.1.keep λo e=>hk it (by simp) o e,st.2.keep λo e=>hk l (by simp) o e⟩
 item:=λi s Q E hi st hQ=>vF st.1 st.2 (x:=xs[i]) (by simp[hi]) λh' hit' hs'=>hQ _ h' s.toks (by simp[hi]) ⟨hit',st.2.keep λo e=>hs'.extBut l o hne e⟩ hs'
 done:=λs Q E st hE=>t7 hh st.1 st.2 (by simp) hE
theorem Ji(hh:A.handled=none)(it l:Addr)(xs:Array Value)(n:Nat)(hn:xs[n]? = none):Draws prog w A it [it,l] n (λ_ _=>False) (λj h=>j=n/\SIt κ h it l n/\SSq κ h l xs) where
 live:=λ_ _ st=>let⟨o,ho,_⟩:=st.2.1.obj;⟨o,ho⟩
 frame:=λ_ _ _ st hk=>⟨st.1,st.2.1.keep λo e=>hk it (by simp) o e,st.2.2.keep λo e=>hk l (by simp) o e⟩
 item:=λi s Q E hi st hQ=>N6 st.1 (fR hi)
 done:=λs Q E st hE=>t7 hh st.2.1 st.2.2 hn hE
abbrev nM(κ:Bool)(h:Heap)(l:Addr):Heap:=h.push (io κ l)
abbrev Bf(κ:Bool)(h:Heap)(l:Addr):Heap:=(nM κ h l).push { cls:=.type "enumerate",data:=.fields #[.none,.bool false,.ref h.objs.size,rawInt 0,.none,.none] }
theorem Jj(l:Addr)(xs:Array Value)(n:Nat)(dct:Option Addr)(sl:Array (Option Value)) :
  Meets (Builtin.«enumerate.__new__» ⟨[.type "enumerate",.ref l],[]⟩) (λ_ R s=>s.heap.get? l=some { cls:=.type "tuple",dict:=dct,data:=.seq xs n,slots:=sl }/\R (.ok (.ret (.ref (nM true s.heap l).objs.size))) { s with heap:=Bf true s.heap l }):=
 .of_wp λprog w A R s h=>by
  obtain⟨hp,g,d,tk,os⟩:=s;obtain⟨hl,h⟩:=h;have hsub:=sub_enumerate;have hT:SSq true (Shared.heap ⟨hp,g,d,tk,os⟩) l xs:=(show Heap.IsTuple _ l xs from⟨_,hl,rfl,n,rfl⟩)
  wp_walk using AutoSeq1.wpAny_loadPart' hl
  refine wpAny_stack_any λst=>(N5 ?_);split
  .rename_i c _ _ _ _ _
   cases(c==Value.type "enumerate")<;>(wp_walk using AutoSeq1.wpAny_loadPart' hl,sU hT;exact⟨_,rfl,h⟩)
  .wp_walk using AutoSeq1.wpAny_loadPart' hl,sU hT
   exact⟨_,rfl,h⟩
theorem Jk{E:Value->Shared->Prop}(hL:SSq κ s.heap l xs)
  (h:∀h',IsEnum h' (s.heap.objs.size+1) s.heap.objs.size 0 .none->SIt κ h' s.heap.objs.size l 0->(∀b o,s.heap.get? b=some o->h'.get? b=some o)->Q (.ref (s.heap.objs.size+1)) { s with heap:=h' }) :
  wpAny (model prog w) A (call (.type "enumerate") [.ref l]) Q E s:=by
 cases κ with
 |false=>exact call_enumerate_list hL λh' he hi _ hk=>h h' he hi hk
 |true=>
  obtain⟨⟨c,dct,dt,sl⟩,hl,hc,n,hd⟩:=(show s.heap.IsTuple l xs from hL)
  replace hc:c=.type "tuple" :=hc;replace hd:dt=.seq xs n:=hd;subst hc hd;refine callType_new F.called_enumerate (by decide) (F.typeCall_enumerate_1 _) (F.newCall_enumerate_1 _) (λobj=>F.args_object_init_2 obj _) F.entry_enumerate_new (Jj l xs n dct sl) ⟨hl,?_⟩;have hz:(nM true s.heap l).objs.size=s.heap.objs.size+1:=kX ..;have g2:(Bf true s.heap l).get? (nM true s.heap l).objs.size=some _:=f9 _ rfl;have g1:(Bf true s.heap l).get? s.heap.objs.size=some _:=cX _ (f9 _ rfl);show _/\_;rw[hz] at g2 ⊢;exact⟨⟨_,g2,rfl⟩,h _ g2 (yS g1) λb o x=>cX _ (cX _ x)⟩
def Eu(K:N4)(κ:Bool)(a:Addr):It:=
  ⟨λi H=>∃ xs x,Sq K κ H a xs/\xs[i]? = some x,
   λi H v H'=>∃p x,v=.ref p/\H p=none/\H'=upd H p (.tup [.int i,x])/\∀xs,Sq K κ H a xs->xs[i]? = some x,
   λi H=>∃xs,Sq K κ H a xs/\xs.length<=i⟩
theorem Jl{ps:Pos}(a e it:Addr)(hne:e≠it) :
  jq P w K (.Tuple es n1 ps) (Eu K κ a) [e,it] e (λi h=>(∃old,IsEnum h e it i old)/\SIt κ h it a i) where
 mem:=by simp
 obj:=λi h ⟨⟨old,q1⟩,q2⟩ c hc=>by
  simp only[Yao,dh,or_false] at hc;rcases hc with rfl|rfl
  .exact⟨_,q1,λv e=>by cases e⟩
  .exact q2.obj
 keep:=λi h h' ⟨⟨old,q1⟩,q2⟩ k=>⟨⟨old,k e (by simp) _ q1⟩,q2.keep λo x=>k it (by simp) o x⟩
 item:=by
  intro X hP hw hK hc i pins s σ H E I hf ⟨⟨old,q1⟩,q2⟩ hg;subst hP hw hK;obtain⟨xs,x,hx,ex⟩:=hg;obtain⟨its,rv,p,hz⟩:=I.sq hx;obtain⟨ux,hux,rux⟩:=rv.get ex;have oe:=I.sq_out hx (hf e (by simp));have oi:=I.sq_out hx (hf it (by simp));have hi:i<its.toArray.size:=by have:=(Yar.mp hux).1;simpa using this
  refine wpAny_pyNext_enum_itemD (Jh (κ:=κ) (A:=X.A.in1) (I.ok.hd hc) it a oi its.toArray) q1 ⟨q2,p⟩ hi hne (by simp[hne,Ob oe]) λy h' tk b1 b2 b3 b4 b5 b6=>⟨_,rfl,?_⟩;have ey:y=ux:=by
   have:its[i]? = some y:=by simpa using b1
   rw[hux] at this;exact(N8 this).symm
  subst ey;refine wpAny_letOwnedTupleGo_enum (s:={ s with heap:=h',toks:=tk+1 }) b2 λh2 c1 c2=>?_;have lt:∀{c o},s.heap.get? c=some o->c≠s.heap.objs.size:=λz=>fR (cV z);have el:=lt q1;have up:∀c o,c∉[e,it]->s.heap.get? c=some o->h2.get? c=some o:=λc o hc z=>by
   simp only[Yao,dh,or_false,not_or] at hc;exact c2.extBut _ _ hc.1 (b6 c o hc.1 hc.2 z)
  refine⟨.ref s.heap.objs.size,upd H s.heap.objs.size (.tup [.int i,x]),Inv.turnedN (s:=s) (t':=tk+1) [e,it] I up hf (bM _) ?_,rfl,⟨s.heap.objs.size,x,rfl,I.fresh,rfl,λxs' h'=>by rw[I.sq_inj h' hx];exact ex⟩,?_,λc hc=>?_⟩
  .refine⟨by rw[sizeLine_eq];simp,[.int i tk,y],.cons ⟨_,rfl⟩ (.cons rux .nil),?_⟩
   exact⟨_,c2.extBut _ _ (Ob el) b4,rfl,_,rfl⟩
  .exact⟨⟨_,by simpa using c1⟩,b3.1.keep λo z=>c2.extBut _ o (Ob hne) z⟩
  .have he:∃o,s.heap.get? c=some o:=by
    simp only[Yao,dh,or_false] at hc;rcases hc with rfl|rfl
    .exact⟨_,q1⟩
    .obtain⟨o,z,_⟩:=q2.obj;exact⟨o,z⟩
   obtain⟨o,z⟩:=he;rw[aH (lt z)];exact(hf c hc).1
 done:=by
  intro X hP hw hK hc i pins s σ H E I hf ⟨⟨old,q1⟩,q2⟩ hg;subst hP hw hK;obtain⟨xs,hx,en⟩:=hg;obtain⟨its,rv,p,hz⟩:=I.sq hx;have l1:=rv.length;have oi:=I.sq_out hx (hf it (by simp));refine wpAny_pyNext_enum_endD (Ji (κ:=κ) (A:=X.A.in1) (I.ok.hd hc) it a its.toArray i (by simp;omega)) q1 ⟨rfl,q2,p⟩ λh' k=>⟨rfl,?_⟩;refine I.turnedL (t':=s.toks) [e,it] (λc o hc z=>?_) hf;simp only[Yao,dh,or_false,not_or] at hc;exact k c o hc.2 z
 self:=λ_ _ _ _ _ st h=>let⟨⟨_,q⟩,_⟩:=st;OC q h
def Ev(n b:Nat)(h:b=n+1\/b=n):n<=b:=by omega
section
def vN(K:N4)(ta:TA):TI:=λσ H R=>ta σ H λvs H1=>∃κ a,vs=[.ref a]/\(∃xs,Sq K κ H1 a xs)/\R (Eu K κ a) H1
theorem Jm{a:Expr}{ps:Pos}(hg:Gl X "enumerate")(hm:X.mg "enumerate" = none)(ha:PA X [a] ta)(hs:starEach [a] X.env=[(false,eval a X.env)]:=by rfl) :
  PI X (.Tuple es n1 ps) (.Call (.Name "enumerate" p) [a] [] pos) (vN X.K ta):=by
 intro pins s σ H R I h;refine Call_ (dZ I hg hm boot_enumerate (PyProof.Rows.callWith_type1 (bG (ha pos pins s σ H _ I h) λus s1 ⟨vs,H1,I1,r1,q1⟩=>?_) hs rfl));obtain⟨κ,l,rfl,⟨xs,hx⟩,q⟩:=q1;cases r1 with
 |cons r rr=>
  cases rr;cases r;obtain⟨its,rv,p1,hz⟩:=I1.sq hx;refine Jk p1 λh' a1 a2 k=>OC (s:={ s1 with heap:=h' }) a1 ?_;refine⟨_,[s1.heap.objs.size+1,s1.heap.objs.size],_,_,H1,rfl,I1.kept (t':=s1.toks) k,Jl (κ:=κ) l _ _ (Nat.succ_ne_self _),⟨⟨_,a1⟩,a2⟩,λb hb=>?_,q⟩;have hb':s1.heap.objs.size<=b:=by
   simp only[Yao,dh,or_false] at hb;exact Ev _ _ hb
  exact I1.fpOk hb' (I1.hok.fresh hb')
end
end L2
namespace PySem
open Sem (wp)
open AutoSeq1 (wpAny_loadPart')
section
variable{prog:Program}{w:World}{A:Around}{E:Value->Shared->Prop}{s:Shared}
def Zp3(h:Heap)(a t:Addr)(i:Int):Prop:=∃o,h.get? a=some o/\o.cls=.type "reversed" /\o.data=.fields #[.ref t,rawInt i]
theorem Zp3.at{h h':Heap}{a t:Addr}{i:Int}(x:Zp3 h a t i)(e:∀o,h.get? a=some o->h'.get? a=some o):Zp3 h' a t i:=let⟨o,ho,r⟩:=x;⟨o,e _ ho,r⟩
end
section
variable{prog:Program}{w:World}{A:Around}{E:Value->Shared->Prop}{s:Shared}
end
end PySem
namespace L2
open PySem PySem.Spec PyProof.Rows
variable{X:Cx}{pos:Pos}
section
variable{CX:lT}{E:XK}{c e:Expr}{es:List Expr}{tc:TE}{t:TA}
end
open PySem.Builtin PySem.Builtin.Str in
section
variable{tg:Expr}
variable{p2:Pos}{a b:Expr}{ta tb:TE}
end
end L2
namespace PySem
theorem Jn{prog:Program}{w:World}{A:Around}{E:Value->Shared->Prop}{s:Shared}{T newId initId:String}{Bn Bi:Builtin}{args:List Value}{kw:List (Str×Value)}{S:Spec}{Q Q₁:Value->Shared->Prop}(ft:TypeCalled T newId initId)
  (hct:checkTypeCall T ⟨args,kw⟩=pure ()) (hcn:checkBuiltinCall newId ⟨.type T::args,kw⟩=pure ())
  (entryN:entryFor table newId=some Bn) (entryI:entryFor table initId=some Bi) (g:Meets (Bn ⟨.type T::args,kw⟩) S)
  (h:S A.in1 (wants Q₁ E) s)
  (hnext:∀obj s₁,Q₁ obj s₁->s₁.TypeIs obj T/\argsOk initId ⟨obj::args,kw⟩/\∃Si,Meets (Bi ⟨obj::args,kw⟩) Si/\Si A.in1 (wants (λr s₂=>r=.none/\Q obj s₂) E) s₁) :
  wpAny (model prog w) A (call (.type T) args kw) Q E s:=by
 obtain⟨c,tl,hmro⟩:=ft.mro;have hmade:=ft.made;have hsub:=ft.sub;refine wpAny_call (codeAny_of_tree ?_);show wpAny _ _ (callAny (.type T) _) _ _ _;refine N5 ⟨Code.quiet_builtin _ (by decide +kernel),codeAny_builtin F.entry_type_call ?_⟩;rw[Around.under_plain (weight_type_call_type T args kw) (units_type_call_type T args kw)];have h1:=ft.notType;have h2:=ft.canCreate
 repeat (any_goals (first|assumption|wp_step))
 refine codeAny_mono (codeAny_call_builtin ft.plain entryN (wpAny_of_eq hcn (g prog w A.in1 _ s h))) λr s₁ hr=>?_;cases r with
 |error e=>exact hr
 |ok fl=>
  cases fl with
  |ret obj=>
   obtain⟨hT,hok,Si,gi,hsi⟩:=hnext _ _ hr;have hli:=ft.init.lookup;have hbi:=ft.init.bind obj
   repeat (any_goals (first|assumption|wp_step))
   refine codeAny_mono (codeAny_call_builtin ft.init.plain entryI (ft.init.check _ _ _ _ _ _ _ _ hT hok (gi prog w A.in1 _ s₁ hsi))) λr₂ s₂ hr₂=>?_;cases r₂ with
   |error e=>exact hr₂
   |ok fl₂=>
    cases fl₂ with
    |ret r=>
     obtain⟨rfl,hq⟩:=hr₂
     repeat (any_goals (first|assumption|wp_step))
    |_=>exact hr₂.elim
  |_=>exact hr.elim
theorem Jo{T newId:String}{self:Value}{rest:List Value}{kw:List (Str×Value)}(hl:typeLookup (.type T) "__init__" = pure (some (.builtin "object.__init__")))
  (hm:Bind.madeBy (.type T)=pure (some newId)) (hne:(some newId != some "object.__new__")=true) :
  Meets (Builtin.«object.__init__» ⟨self::rest,kw⟩) (λ_ R s=>s.TypeIs self T/\R (.ok (.ret .none)) s):=by
 refine Meets.of_wp λprog w A R s hs=>?_;obtain⟨hT,hq⟩:=hs;cases rest with
 |nil=>
  cases kw with
  |nil=>exact N5 ⟨_,rfl,hq⟩
  |cons k kw=>
   repeat (any_goals (first|assumption|wp_step))
   exact⟨_,rfl,hq⟩
 |cons a rest=>
  repeat (any_goals (first|assumption|wp_step))
  exact⟨_,rfl,hq⟩
theorem Jp{M:Model}{A:Around}{E:Value->Shared->Prop}{s:Shared}{env:Env}{pos:Pos}{T:String}{e:Expr}{rest:List Expr}{kws:List Keyword}{Q:Value->Shared->Prop}
  (h:wpAny M A (spliced (backTo pos (starEach (e::rest) env))) (λvs s₁=>wpAny M A (evalAll ((backToKw pos (keywordEach kws env)).map (·.2)))
   (λkvs s₂=>wpAny M A (call (.type T) vs (((backToKw pos (keywordEach kws env)).filterMap (·.1)).zip kvs)) Q E s₂) E s₁) E s)
  (he:backTo pos (starEach (e::rest) env)=(false,eval e env)::backTo pos (starEach rest env):=by rfl)
  (hplain:(backTo pos (starEach (e::rest) env)).any (·.1)=false:=by rfl)
  (hall:(backToKw pos (keywordEach kws env)).all (·.1.isSome)=true:=by rfl)
  (hkw:(backToKw pos (keywordEach kws env)).any (·.1.isNone)=false:=by rfl) :
  wpAny M A (callWith pos (.type T) [] (backTo pos (starEach (e::rest) env)) (backToKw pos (keywordEach kws env))) Q E s:=by
 rw[he] at h hplain ⊢;unfold callWith;refine N3 (Om (Of (PyProof.Rows.evalArgs_kwB (Q:=λa s₁=>wpAny M A (call (.type T) ([]++a.pos) a.kw) Q E s₁) hall h) (λa s₁ h₁=>N3 (Oq ?_)) λ_ _ x=>x));simp only[hplain,hkw,Bool.or_false];refine N3 (N5 ?_);exact N3 (Of h₁ (λr s₂ hr=>N3 (Om (wpAny_point (N5 hr)))) λ_ _ x=>x)
end PySem
namespace L2
open PySem PySem.Spec PyProof.Rows
variable{prog P:Program}{w:World}{A:Around}{s:Shared}{Q:Value->Shared->Prop}{K:N4}{es:List Expr}{n1 k:Nat}{ps pos:Pos}{X:Cx}{a:Expr}{h base:Heap}{m mg:Str->Option Value}{fI e b:Addr}{newId:String}{f qual:Str}{H:Hp}{fd:FuncData}
def Jq(a b:Value):checkTypeCall "enumerate" ⟨[a],[("start",b)]⟩=pure ():=by kernel_rfl
theorem Jr(a b:Value):checkBuiltinCall "enumerate.__new__" ⟨[.type "enumerate",a],[("start",b)]⟩=pure ():=by kernel_rfl
theorem Js(o a b:Value):argsOk "object.__init__" ⟨[o,a],[("start",b)]⟩:=by unfold argsOk;kernel_rfl
theorem Jt(l:Addr)(xs:Array Value)(n:Nat)(t:Tok)(dct:Option Addr)(sl:Array (Option Value)) :
  Meets (Builtin.«enumerate.__new__» ⟨[.type "enumerate",.ref l],[("start",.int 1 t)]⟩) (λ_ R s=>s.heap.get? l=some { cls:=.type "list",dict:=dct,data:=.seq xs n,slots:=sl }/\
   R (.ok (.ret (.ref (nM false s.heap l).objs.size))) { s with heap:=(nM false s.heap l).push { cls:=.type "enumerate",data:=.fields #[.none,.bool false,.ref s.heap.objs.size,rawInt 1,.none,.none] } }):=
 .of_wp λprog w A R s h=>by
  obtain⟨hp,g,d,tk,os⟩:=s;obtain⟨hl,h⟩:=h;have hsub:=sub_enumerate;have hT:SSq false (Shared.heap ⟨hp,g,d,tk,os⟩) l xs:=(show Heap.IsList _ l xs from⟨_,hl,rfl,n,rfl⟩)
  wp_walk using AutoSeq1.wpAny_loadPart' hl
  refine wpAny_stack_any λst=>(N5 ?_);split
  .rename_i c _ _ _ _ _
   cases(c==Value.type "enumerate")
   .wp_walk using AutoSeq1.wpAny_loadPart' hl,sU hT
    exact⟨_,rfl,h⟩
   .wp_walk using AutoSeq1.wpAny_loadPart' hl,sU hT
    exact⟨_,rfl,h⟩
  .wp_walk using AutoSeq1.wpAny_loadPart' hl,sU hT
   exact⟨_,rfl,h⟩
theorem Ju{E:Value->Shared->Prop}{l:Addr}{t:Tok}{xs:Array Value}(hL:SSq false s.heap l xs)
  (h:∀h',IsEnum h' (s.heap.objs.size+1) s.heap.objs.size 1 .none->SIt false h' s.heap.objs.size l 0->(∀b o,s.heap.get? b=some o->h'.get? b=some o)->Q (.ref (s.heap.objs.size+1)) { s with heap:=h' }) :
  wpAny (model prog w) A (call (.type "enumerate") [.ref l] [("start",.int 1 t)]) Q E s:=by
 obtain⟨⟨c,dct,dt,sl⟩,hl,hc,n,hd⟩:=(show s.heap.IsList l xs from hL)
 replace hc:c=.type "list" :=hc;replace hd:dt=.seq xs n:=hd;subst hc hd;refine Jn (Q₁:=λobj s₁=>s₁.TypeIs obj "enumerate" /\Q obj s₁) F.called_enumerate (Jq _ _) (Jr _ _) F.entry_enumerate_new F.entry_object_init (Jt l xs n t dct sl) ⟨hl,?_⟩ λobj _ hq=>⟨hq.1,Js obj _ _,_,Jo F.called_enumerate.init.lookup F.called_enumerate.made (by decide),hq.1,rfl,hq.2⟩;have hz:(nM false s.heap l).objs.size=s.heap.objs.size+1:=kX ..;have g2:((nM false s.heap l).push { cls:=.type "enumerate",data:=.fields #[.none,.bool false,.ref s.heap.objs.size,rawInt 1,.none,.none] }).get? (nM false s.heap l).objs.size=some _:=f9 _ rfl;have g1:((nM false s.heap l).push { cls:=.type "enumerate",data:=.fields #[.none,.bool false,.ref s.heap.objs.size,rawInt 1,.none,.none] }).get? s.heap.objs.size=some _:=cX _ (f9 _ rfl);show _/\_;rw[hz] at g2 ⊢;exact⟨⟨_,g2,rfl⟩,h _ g2 (yS g1) λb o x=>cX _ (cX _ x)⟩
theorem Jv(hh:A.handled=none)(it l:Addr)(hne:l≠it)(xs:Array Value):Draws prog w A it [it,l] (xs.size+1) (λi v=>xs[i-1]? = some v) (λi h=>1<=i/\SIt false h it l (i-1)/\SSq false h l xs) where
 live:=λ_ _ st=>let⟨o,ho,_⟩:=st.2.1.obj;⟨o,ho⟩
 frame:=λ_ _ _ st hk=>⟨st.1,st.2.1.keep λo e=>hk it (by simp) o e,st.2.2.keep λo e=>hk l (by simp) o e⟩
 item:=λi s Q E hi st hQ=>by
  have h2:=st.1;have hi':i-1<xs.size:=by omega
  exact vF st.2.1 st.2.2 (x:=xs[i-1]) (by simp[hi']) λh' hit' hs'=>hQ _ h' s.toks (by simp[hi']) ⟨by omega,by rw[show i+1-1=i-1+1 by omega];exact hit',st.2.2.keep λo e=>hs'.extBut l o hne e⟩ hs'
 done:=λs Q E st hE=>t7 hh st.2.1 st.2.2 (by simp) hE
theorem Jw(hh:A.handled=none)(it l:Addr)(xs:Array Value)(n:Nat)(hn:xs[n]? = none):Draws prog w A it [it,l] (n+1) (λ_ _=>False) (λj h=>j=n+1/\SIt false h it l n/\SSq false h l xs) where
 live:=λ_ _ st=>let⟨o,ho,_⟩:=st.2.1.obj;⟨o,ho⟩
 frame:=λ_ _ _ st hk=>⟨st.1,st.2.1.keep λo e=>hk it (by simp) o e,st.2.2.keep λo e=>hk l (by simp) o e⟩
 item:=λi s Q E hi st hQ=>N6 st.1 (fR hi)
 done:=λs Q E st hE=>t7 hh st.2.1 st.2.2 hn hE
def vO(K:N4)(a:Addr):It:=
  ⟨λi H=>∃ xs x,Sq K false H a xs/\xs[i]? = some x,
   λi H v H'=>∃p x,v=.ref p/\H p=none/\H'=upd H p (.tup [.int ((i+1:Nat):Int),x])/\∀xs,Sq K false H a xs->xs[i]? = some x,
   λi H=>∃xs,Sq K false H a xs/\xs.length<=i⟩
theorem Jx(a e it:Addr)(hne:e≠it) :
  jq P w K (.Tuple es n1 ps) (vO K a) [e,it] e (λi h=>(∃old,IsEnum h e it ((i+1:Nat):Int) old)/\SIt false h it a i) where
 mem:=by simp
 obj:=λi h ⟨⟨old,q1⟩,q2⟩ c hc=>by
  simp only[Yao,dh,or_false] at hc;rcases hc with rfl|rfl
  .exact⟨_,q1,λv e=>by cases e⟩
  .exact q2.obj
 keep:=λi h h' ⟨⟨old,q1⟩,q2⟩ k=>⟨⟨old,k e (by simp) _ q1⟩,q2.keep λo x=>k it (by simp) o x⟩
 item:=by
  intro X hP hw hK hc i pins s σ H E I hf ⟨⟨old,q1⟩,q2⟩ hg;subst hP hw hK;obtain⟨xs,x,hx,ex⟩:=hg;obtain⟨its,rv,p,hz⟩:=I.sq hx;obtain⟨ux,hux,rux⟩:=rv.get ex;have oe:=I.sq_out hx (hf e (by simp));have oi:=I.sq_out hx (hf it (by simp));have hi:i<its.toArray.size:=by have:=(Yar.mp hux).1;simpa using this
  refine wpAny_pyNext_enum_itemD (i:=i+1) (Jv (A:=X.A.in1) (I.ok.hd hc) it a oi its.toArray) q1 ⟨by omega,by rw[Nat.add_sub_cancel];exact q2,p⟩ (by omega) hne (by simp[hne,Ob oe]) λy h' tk b1 b2 b3 b4 b5 b6=>⟨_,rfl,?_⟩;have ey:y=ux:=by
   have:its[i]? = some y:=by simpa using b1
   rw[hux] at this;exact(N8 this).symm
  subst ey;refine wpAny_letOwnedTupleGo_enum (s:={ s with heap:=h',toks:=tk+1 }) b2 λh2 c1 c2=>?_;have lt:∀{c o},s.heap.get? c=some o->c≠s.heap.objs.size:=λz=>fR (cV z);have el:=lt q1;have up:∀c o,c∉[e,it]->s.heap.get? c=some o->h2.get? c=some o:=λc o hc z=>by
   simp only[Yao,dh,or_false,not_or] at hc;exact c2.extBut _ _ hc.1 (b6 c o hc.1 hc.2 z)
  refine⟨.ref s.heap.objs.size,upd H s.heap.objs.size (.tup [.int ((i+1:Nat):Int),x]),Inv.turnedN (s:=s) (t':=tk+1) [e,it] I up hf (bM _) ?_,rfl,⟨s.heap.objs.size,x,rfl,I.fresh,rfl,λxs' h'=>by rw[I.sq_inj h' hx];exact ex⟩,?_,λc hc=>?_⟩
  .refine⟨by rw[sizeLine_eq];simp,[.int ((i+1:Nat):Int) tk,y],.cons ⟨_,rfl⟩ (.cons rux .nil),?_⟩
   exact⟨_,c2.extBut _ _ (Ob el) b4,rfl,_,rfl⟩
  .refine⟨⟨y,?_⟩,?_⟩
   .have e1:(((i+1+1:Nat)):Int)=((i+1:Nat):Int)+1:=by omega
    rw[e1];exact c1
   .have:=b3.2.1.keep (h':=h2) λo z=>c2.extBut _ o (Ob hne) z
    rwa [show i+1+1-1=i+1 by omega] at this
  .have he:∃o,s.heap.get? c=some o:=by
    simp only[Yao,dh,or_false] at hc;rcases hc with rfl|rfl
    .exact⟨_,q1⟩
    .obtain⟨o,z,_⟩:=q2.obj;exact⟨o,z⟩
   obtain⟨o,z⟩:=he;rw[aH (lt z)];exact(hf c hc).1
 done:=by
  intro X hP hw hK hc i pins s σ H E I hf ⟨⟨old,q1⟩,q2⟩ hg;subst hP hw hK;obtain⟨xs,hx,en⟩:=hg;obtain⟨its,rv,p,hz⟩:=I.sq hx;have l1:=rv.length;have oi:=I.sq_out hx (hf it (by simp));refine wpAny_pyNext_enum_endD (Jw (A:=X.A.in1) (I.ok.hd hc) it a its.toArray i (by simp;omega)) q1 ⟨rfl,q2,p⟩ λh' k=>⟨rfl,?_⟩;refine I.turnedL (t':=s.toks) [e,it] (λc o hc z=>?_) hf;simp only[Yao,dh,or_false,not_or] at hc;exact k c o hc.2 z
 self:=λ_ _ _ _ _ st h=>let⟨⟨_,q⟩,_⟩:=st;OC q h
section
def Jy(K:N4)(ta:TA):TI:=λσ H R=>ta σ H λvs H1=>∃a,vs=[.ref a]/\(∃xs,Sq K false H1 a xs)/\R (vO K a) H1
theorem Jz{ta:TA}{p kp cp:Pos}{j:Nat}(hg:Gl X "enumerate")(hm:X.mg "enumerate" = none)(ha:PA X [a] ta)(hs:starEach [a] X.env=[(false,eval a X.env)]:=by rfl) :
  PI X (.Tuple es n1 ps) (.Call (.Name "enumerate" p) [a] [⟨some "start",.Constant (.int 1) j cp,kp⟩] pos) (Jy X.K ta):=by
 intro pins s σ H R I h;refine Ox (dZ I hg hm boot_enumerate ?_);refine Jp (bG (ha pos pins s σ H _ I h) λus s1 ⟨vs,H1,I1,r1,q1⟩=>?_) (by rw[hs];rfl) (by rw[hs];rfl);obtain⟨l,rfl,⟨xs,hx⟩,q⟩:=q1;cases r1 with
 |cons r rr=>
  cases rr;cases r;refine PyProof.Rows.kws_cons (wpAny_Constant_int (PyProof.Rows.kws_nil ?_));obtain⟨its,rv,p1,hz⟩:=I1.sq hx;refine Ju (s:={ s1 with toks:=s1.toks+1 }) p1 λh' a1 a2 k=>OC (s:={ s1 with heap:=h',toks:=s1.toks+1 }) a1 ?_;refine⟨_,[s1.heap.objs.size+1,s1.heap.objs.size],_,_,H1,rfl,I1.kept (t':=s1.toks+1) k,Jx l _ _ (Nat.succ_ne_self _),⟨⟨_,a1⟩,a2⟩,λb hb=>?_,q⟩;have hb':s1.heap.objs.size<=b:=by
   simp only[Yao,dh,or_false] at hb;exact Ev _ _ hb
  exact I1.fpOk hb' (I1.hok.fresh hb')
end
namespace Fl
def quiet(f:Str):List Str:=["__setattr__", "__getattribute__", "__getattr__",f]
def yU(K:N4)(ns:List Str)(bmB:List Value):List Value->Bool
 |[]=>bmB==[]
 |v::r=>(v::r)==bmB||match v with
  | .ref a=>(match K.lookup a with
   |some ⟨_,_,.cls cd,_⟩=>PySem.W.nsOkIn K cd.ns&&ns.all (λn=>PySem.W.nsIn K cd.ns n==some none)&&yU K ns bmB r
   |_=>false)
  |_=>false
theorem Ew{K:N4}{h:Heap}{ns:List Str}{bmB:List Value}(X:K.In h):∀{l:List Value},yU K ns bmB l=true->Tl h ns bmB l
 |[],e=>by rw[<-beq_iff_eq.mp e];exact .last
 |v::r,e=>by
  unfold yU at e;rcases Yby.mp e with q|q
  .rw[<-beq_iff_eq.mp q];exact .last
  .split at q
   .split at q
    .rename_i ho
     simp only[cT,Ybh,Oy] at q;exact .more (X _ _ ho) (.of_isNs (PySem.W.isNs_of_in X q.1.1)) (λn hn=>PySem.W.nsMap_none_of_in X q.1.1 (q.1.2 n hn)) (Ew X q.2)
    .cases q
   .cases q
theorem vP{N:Addr}{n:Str}{v:Value}(X:K.In h)(G:h.Ns N m)(e:PySem.W.nsIn K N n=some (some v)):m n=some v:=by
 obtain⟨ob,es,ep,at1,at2,_,fnd⟩:=G;unfold PySem.W.nsIn at e;split at e
 .rename_i z
  have y:=X _ _ z;rw[at1] at y;cases y;cases at2;split at e
  .rename_i found
   cases e;rw[<-fnd];unfold nsFind findBy;rw[<-Array.find?_toList,found];rfl
  .split at e<;>cases e
 .cases e
def clsF(K:N4)(C:Addr)(bmB:List Value)(newId:String)(f:Str)(fI:Addr):Bool:=match K.lookup C with
 | some ⟨.type "type",_,.cls cd,sl⟩=>(match cd.mro,sl.toList with
  |.ref C'::bm,[_,_,_,_,some (.builtin n),_]=>C'==C&&n==newId && !cd.hasDel&&cd.hasDict&&yU K ("__init__" ::quiet f) bmB bm&&PySem.W.nsOkIn K cd.ns&&PySem.W.nsIn K cd.ns "__init__" == some (some (.ref fI))&&(quiet f).all (λn=>PySem.W.nsIn K cd.ns n==some none)
  |_,_=>false)
 |_=>false
structure CF(h:Heap)(C:Addr)(bmB:List Value)(newId:String)(f:Str)(fI:Addr):Prop where
 h:∃(bm:List Value) (N:Addr) (nm qn:Str) (bs:List Value) (sn:List Str) (sub:List Value) (ab:Bool) (col:Option Bool) (dd:Option Addr) (k0 k1 k2 k3 k5:Option Value) (mN:Str->Option Value),
  h.get? C=some (excClassObj nm qn C N bs bm true sn sub ab col dd k0 k1 k2 k3 k5 newId)/\h.Ns N mN/\mN "__init__" = some (.ref fI)/\(∀n∈quiet f,mN n=none)/\Tl h ("__init__" ::quiet f) bmB bm
theorem clsF_of{C:Addr}{bmB:List Value}(X:K.In h)(q:clsF K C bmB newId f fI=true):CF h C bmB newId f fI:=by
 unfold clsF at q;split at q
 .rename_i dd cd sl ho
  split at q
  .rename_i C' bm k0 k1 k2 k3 n k5 hm hs
   simp only[cT,Oy,rJ,Ybh] at q;obtain⟨⟨⟨⟨⟨⟨⟨rfl,rfl⟩,hdel⟩,hdc⟩,ht⟩,hok⟩,hi⟩,hq⟩:=q;obtain⟨nm,bs,mro,ns,qn,hd,sn,sub,ab,col,del⟩:=cd;dsimp only at hm hdel hok hi hq hdc;subst hm hdel hdc;have hsl:sl = #[k0,k1,k2,k3,some (.builtin n),k5]:=by
    cases sl with
    |mk l=>exact congrArg Array.mk hs
   subst hsl;have kC:h.Ns ns (h.nsMap ns):=.of_isNs (PySem.W.isNs_of_in X hok);exact⟨bm,ns,nm,qn,bs,sn,sub,ab,col,dd,k0,k1,k2,k3,k5,_,X _ _ ho,kC,vP X kC hi,λm hm=>PySem.W.nsMap_none_of_in X hok (hq m hm),Ew X ht⟩
  .cases q
 .cases q
def exX(C t e:Addr)(dx:Option Addr):HO:=.ext λh=>h.get? e=some (sT C t dx)
def rem(H:Hp)(e:Addr):Hp:=λb=>if b=e then none else H b
def rem_ne(h:b≠e):rem H e b=H b:=if_neg h
def JA:rem H e e=none:=if_pos rfl
theorem Ey{u:HO}(h:rem H e b=some u):b≠e/\H b=some u:=by
 unfold rem at h;split at h
 .cases h
 .rename_i ne;exact⟨ne,h⟩
theorem HOk.obj(k:HOk P w H h){u:HO}(e:H b=some u):∃o,h.get? b=some o:=by
 have q:=k b u e;cases u with
 |lst xs=>obtain⟨_,_,_,_,e⟩:=q;exact⟨_,e⟩
 |tup xs=>obtain⟨_,_,_,o,e,_⟩:=q;exact⟨_,e⟩
 |dK kvs=>obtain⟨_,_,_,_,o,_,_,e,_⟩:=q;exact⟨_,e⟩
 |dT kvs=>obtain⟨_,_,_,_,o,_,_,e,_⟩:=q;exact⟨_,e⟩
 |set S n=>obtain⟨o,_,_,_,e,_⟩:=q;exact⟨_,e⟩
 |ins C dx fs=>obtain⟨_,_,_,e,_⟩:=q;exact⟨_,e⟩
 |own y=>obtain⟨o,e⟩:=q;exact⟨_,e⟩
 |xd fs=>obtain⟨_,⟨o,_,_,e,_⟩,_⟩:=q;exact⟨_,e⟩
 |rng lo hi=>obtain⟨_,_,_,e⟩:=q;exact⟨_,e⟩
 |frz ob u=>obtain⟨e,_⟩:=q;exact⟨_,e⟩
 |tbl ps=>exact⟨_,(show h.get? b=some _ from q)⟩
 |met f y=>exact⟨_,(show h.get? b=some _ from q)⟩
 |ext φ=>obtain⟨_,⟨o,e⟩,_⟩:=q;exact⟨_,e⟩
def RaisD(X:Cx)(E:XK):Prop:=∀(pins:List (Addr×Obj)) (σ:St) (H:Hp) (s:Shared) (e C t:Addr) (dx:Option Addr),Inv X pins σ H s->H e=some (exX C t e dx)->X.s₀.heap.get? e=none->E (.ref C) dx (rem H e)->X.xe (.ref e) s
section
variable{N:List Str}{scope:Scope}{f:Addr}{cd:Value}{outer:List Env}{E:XK}
theorem raisd_cx:RaisD (cB (cU P w) P w K mg base N qual scope f cd A outer s H E) E:=by
 intro pins σ H1 s1 e C t dx I he new hE;have ib:Un (cM outer) [] H H1 s.heap s1.heap:=I.base;have obj:s1.heap.get? e=some (sT C t dx):=(I.hok e _ he).1;generalize hS:envOfC qual scope s.heap.objs.size f cd::outer=S;have neL:∀b o,s.heap.get? b=some o->b∉cM outer->b∉cM S:=λb o q hb hm=>by
  rw[<-hS] at hm;rcases Yao.mp (I.stkSub b hm) with z|z
  .have l2:s.heap.objs.size<=(envOfC qual scope s.heap.objs.size f cd).locals:=I.ok.above
   have z':b=(envOfC qual scope s.heap.objs.size f cd).locals:=z;rw[<-z'] at l2;exact N6 (cW (cV q) l2) (iy _)
  .exact hb z
 have stk:s1.heap.FunFrames base S:=by rw[<-hS];exact I.stack
 have frm:∀b,b∈cM S->∃o,s1.heap.get? b=some o/\∀vs,o.data≠.fields vs:=λb hb=>(stk.mem hb).2;have noE:∀b o,s.heap.get? b=some o->b≠e:=λb o q z=>by
  rw[z] at q;have new':s.heap.get? e=none:=new;rw[new'] at q;cases q
 have eF:e∉cM S:=λz=>by
  obtain⟨o,q,nf⟩:=frm e z;rw[obj] at q;cases q;exact nf _ rfl
 let B:=PySem.W.hideAll s1.heap (e::cM S)
 have inB:∀{b o},s1.heap.get? b=some o->b≠e->b∉cM S->B.get? b=some o:=λq ne hb=>PySem.W.hideAll_get _ q λz=>(Yao.mp z).elim ne hb;have st:B.StaysIn s1.heap:=λb o q=>PySem.W.of_hideAll _ q;have newB:B.get? e=none:=PySem.W.hideAll_none _ (kW ..);have hT:∀b u,rem H1 e b=some u->∃o,B.get? b=some o:=λb u q=>by
  obtain⟨ne,q⟩:=Ey q;obtain⟨o,z⟩:=HOk.obj I.hok q;refine⟨o,inB z ne λhm=>?_⟩;rw[<-hS] at hm;have:=I.stkFree b hm;rw[q] at this;cases this
 have hok1:HOk P w (rem H1 e) s1.heap:=λb u q=>by
  obtain⟨ne,q⟩:=Ey q;refine(I.hok b u q).stay (λ_ _ _ z=>z) (λc z=>?_) λc xs z=>?_
  .rw[rem_ne (λy=>by rw[y,he] at z;cases z)];exact z
  .rw[rem_ne (λy=>by rw[y,he] at z;cases z)];exact z
 show wpAny (model P w) (A.deeper (envOfC qual scope s.heap.objs.size f cd)) (leaving (envOfC qual scope s.heap.objs.size f cd) (.ref e)) (λ_ s''=>cU P w outer H s E (.ref e) s'') _ _;have fB:s1.heap.FunFrames B (envOfC qual scope s.heap.objs.size f cd::outer):=by
  rw[hS];exact PySem.W.funFrames_hide stk λenv hv b hb=>i8 _ (YaA.mpr ⟨env,hv,hb⟩)
 refine leaves_new (P:=Is (.ref C) dx) Is.firm I.ok.frames fB rfl obj ⟨rfl,rfl⟩ st newB rfl rfl λh3 fl up=>?_;refine ⟨e,.ref C,dx,rem H1 e,B,rfl,fl,I.os,I.bare,⟨λb o q n hb _=>?_,λb o q n hb _=>?_,λb o q n _=>?_,λb o q _=>?_,λb xs q=>?_,λb o xs q=>?_,λb ps q=>?_,λ_ eg n ys=>by
   by_cases y:sysModules=e
   .rw[y,JA];exact λz=>by cases z
   .rw[rem_ne y];exact ib.sys (by simp) eg n ys⟩,HOk.through hok1 hT st fl.st,λb o q hb=>?_,hT,hE⟩
 .exact fl.st b o (inB (ib.keep b o q n hb (by simp)) (noE b o q) (neL b o q hb))
 .obtain⟨sl,e1⟩:=ib.slot b o q n hb (by simp)
  obtain⟨o3,e3,nf⟩:=frm b (by rw[<-hS];exact vE hb);rw[e1] at e3;cases e3;obtain⟨sl3,e4⟩:=up b _ e1 nf;exact⟨sl3,e4⟩
 .rw[rem_ne (noE b o q)]
  exact ib.free b o q n (by simp)
 .obtain⟨o',e1⟩:=ib.there b o q (by simp)
  by_cases hb:b∈cM S
  .obtain⟨o3,e3,nf⟩:=frm b hb
   obtain⟨sl3,e4⟩:=up b _ e3 nf;exact⟨_,e4⟩
  .exact⟨o',fl.st b o' (inB e1 (noE b o q) hb)⟩
 .have:=ib.tups b xs q
  rw[rem_ne (λy=>by rw[y,he] at this;cases this)];exact this
 .have:=ib.frzs b o xs q
  rw[rem_ne (λy=>by rw[y,he] at this;cases this)];exact this
 .obtain⟨m,e1⟩:=ib.tbls b ps q
  exact⟨m,by rw[rem_ne (λy=>by rw[y,he] at e1;cases e1)];exact e1⟩
 .obtain⟨o',e1⟩:=ib.there b o q (by simp)
  exact⟨o',inB e1 (noE b o q) (neL b o q hb)⟩
end
abbrev bmV:List Value:=[.type "ValueError",.type "Exception",.type "BaseException",.type "object"]
section
variable{C:Addr}{o value:Expr}{pos':Pos}
def vQ(C:Addr)(f:Str):TS:=λD σ H=>∃e t k,σ[0]? = some (some (.ref e))/\σ[1]? = some (some (.int k))/\H e=some (exX C t e none)/\∀d,H d=none->d≠e->D.nx σ (upd (upd H e (exX C t e (some d))) d (.xd [(f,.int k)]))
theorem iI(hq:clsF X.K C bmV newId f fI=true)(hB:typeLookup (.type "ValueError") f=pure none)(ho:PE X o (pP 0))(hv:PE X value (pP 1))(hs:swapsWith value (some (.Attribute o f pos')) pos.line X.env=pure false) :
  PS X (.Assign [.Attribute o f pos'] value pos) (vQ C f):=by
 rintro pins s σ H D I ⟨e,t,k,h0,h1,he,q⟩;refine plainObj_wpAny_Assign_Attribute (bG (hv pins s σ H (λv H'=>v=.int k/\H'=H) I ⟨_,h1,rfl,rfl⟩) λu s1 ⟨y,H1,I1,ry,ey,eH⟩=>?_) hs;subst ey eH;refine bG (ho pins s1 σ H1 (λv H'=>v=.ref e/\H'=H1) I1 ⟨_,h0,rfl,rfl⟩) λov s2 ⟨x,H2,I2,rx,ex,eH⟩=>?_;subst ex eH;cases rx;have obj:s2.heap.get? e=some (sT C t none):=(I2.hok e _ he).1;obtain⟨bm,N,nm,qn,bs,sn,sub,ab,col,dd,k0,k1,k2,k3,k5,mN,hC,hN,_,qm,T⟩:=(clsF_of I2.kIn hq).h;obtain⟨hp,g,dr,tk,os⟩:=s2;dsimp only at obj hC hN T I2;refine IH (B:= "ValueError") PySem.F.store_ValueError hC hN T (qm _ (by simp[quiet])) (qm _ (by simp[quiet])) (by simp[quiet]) (by simp[quiet]) hB obj rfl rfl rfl λh' tk' d m nd ne x1 x2 x3 x4 x5=>?_;have Hd:H2 d=none:=by
  cases z:H2 d with
  |none=>rfl
  |some w=>
   obtain⟨o,y⟩:=HOk.obj I2.hok z;have y':hp.get? d=some o:=y;rw[nd] at y';cases y'
 have ned:∀{b o},hp.get? b=some o->b≠d:=λz y=>by rw[y,nd] at z;cases z
 have nee:∀{b},H2 b=none->b≠e:=λz y=>by rw[y,he] at z;cases z
 have at1:∀{b},b≠d->b≠e->upd (upd H2 e (exX C t e (some d))) d (.xd [(f,.int k)]) b=H2 b:=λy z=>by rw[aH y,aH z]
 have un:Un X.fs [] H2 (upd (upd H2 e (exX C t e (some d))) d (.xd [(f,.int k)])) hp h':=by
  refine ⟨λb o z n _ _=>x5 b o (nee n) z,λb o z n _ _=>⟨o.slots,x5 b o (nee n) z⟩,λb o z n _=>?_,λb o z _=>?_,λb xs z=>?_,λb o xs z=>?_,λb ps z=>⟨#[],?_⟩,λ_ _ n ys=>by
   by_cases y:sysModules=d
   .rw[y,aL];exact λz=>by cases z
   by_cases v:sysModules=e
   .rw[aH y,v,aL];exact λz=>by first|cases z|(unfold exX at z;cases z)
   .rw[at1 y v];exact n ys⟩
  .rw[at1 (ned z) (nee n)];exact n
  .by_cases y:b=e
   .rw[y];exact⟨_,x1⟩
   .exact⟨o,x5 b o y z⟩
  .rw[at1 (λy=>by rw[y,Hd] at z;cases z) (λy=>by rw[y,he] at z;cases z)];exact z
  .rw[at1 (λy=>by rw[y,Hd] at z;cases z) (λy=>by rw[y,he] at z;cases z)];exact z
  .rw[at1 (λy=>by rw[y,Hd] at z;cases z) (λy=>by rw[y,he] at z;cases z),z];simp
 have hok:HOk X.prog X.w (upd (upd H2 e (exX C t e (some d))) d (.xd [(f,.int k)])) h':=λb u z=>by
  by_cases y:b=d
  .subst y
   rw[aL] at z;cases z;refine⟨m,x2,λn=>?_⟩
   by_cases w:n=f
   .subst w
    rw[x3];simp only[kY,Oj];exact ry
   .rw[x4 n w]
    have:(n==f)=false:=beq_eq_false_iff_ne.mpr w;simp only[kY,this,List.lookup_nil];trivial
  .rw[aH y] at z
   by_cases w:b=e
   .subst w
    rw[aL] at z;cases z;exact⟨x1,⟨_,x1⟩,λ_ _ p r=>r _ p⟩
   .rw[aH w] at z
    refine(I2.hok b u z).stay (λc v hc r=>?_) (λc r=>?_) λc xs r=>?_
    .refine x5 c v (λp=>?_) r
     rcases hc with hc|hc
     .exact w (hc.symm.trans p)
     .rw[p,he] at hc;cases hc
    .rw[at1 (λp=>by rw[p,Hd] at r;cases r) (λp=>by rw[p,he] at r;cases r)];exact r
    .rw[at1 (λp=>by rw[p,Hd] at r;cases r) (λp=>by rw[p,he] at r;cases r)];exact r
 exact⟨σ,_,I2.un (t':=tk') un hok,q d Hd ne⟩
end
def spI(C:Addr)(f:Str):Sp:=λvs H Q _=>∃e t k,vs=[.ref e,.int k]/\H e=some (exX C t e none)/\∀d,H d=none->d≠e->Q .non (upd (upd H e (exX C t e (some d))) d (.xd [(f,.int k)]))
theorem init_ok{x a0 a1:Str}{st:Stmt}{C fJ:Addr}{p0 p1 pos':Pos}(F:Fun K x qual st fI fd)(sc:bI [a0,a1] [a0,a1] (aE st))
  (hq:clsF K C bmV newId f fJ=true) (hB:typeLookup (.type "ValueError") f=pure none) (hb:aW st=[.Assign [.Attribute (.Name a0 p0) f pos'] (.Name a1 p1) pos])
  (hs:∀env,swapsWith (.Name a1 p1) (some (.Attribute (.Name a0 p0) f pos')) pos.line env=pure false) (d0:(a0==("__debug__" : Str))=false) (d1:(a1==("__debug__" : Str))=false) (c0:(a0==("__classdict__" : Str))=false) (c1:(a1==("__classdict__" : Str))=false) :
  FnOk P w K mg base (cU P w) (k+1) fI fd [a0,a1] (spI C f):=by
 obtain⟨oc,od,kV,doc,pm,an,cdv,ct,osl,rfl,lk,hcd⟩:=F.ex;have v0:kF (aE st) a0:=(sc.par a0 (by simp)).elim .inl λz=>.inr (.inl z);have v1:kF (aE st) a1:=(sc.par a1 (by simp)).elim .inl λz=>.inr (.inl z);refine kL lk hcd sc (λvs H Q E ⟨e,t,k,z,_⟩=>by rw[z];rfl) λA outer s H vs Q E hr hsp=>?_;obtain⟨e,t,k,rfl,he,q⟩:=hsp;refine⟨vQ C f,?_,e,t,k,rfl,rfl,he,q⟩;rw[hb];exact iF (iI (X:=cB (cU P w) P w K mg base [a0,a1] qual (aE st) fI cdv A outer s H E) hq hB (c6 rfl v0 d0 c0) (c6 rfl v1 d1 c1) (hs _))
section
variable{EX:XK}{C:Addr}{x:Str}{ps:List Str}{ta:TE}{np cpos:Pos}
theorem ps_raisef(hr:RaisD X EX)(hc:X.calm=true)(hm:X.mg x=some (.ref C))(hq:clsF X.K C bmV "ValueError.__new__" f fI=true)(Fi:FnOk X.prog X.w X.K X.mg X.base (cU X.prog X.w) k fI fd ps (spI C f))(hro:Room (k+1) X.A)(hb:Binds X.K fd ps [])(hl:∃od osl,X.K.lookup fI=some ⟨.type "function",od,.func fd,osl⟩)
  (ha:PE X a ta) (hg:Gl X x:=by rfl) (hd:(x==("__debug__" : Str))=false:=by decide) (he:starEach [a] X.env=[(false,eval a X.env)]:=by rfl) (hex:X.ex=[]:=by rfl) :
  PS X (.Raise (some (.Call (.Name x np) [a] [] cpos)) none pos) (λ_ σ H=>ta σ H λv H1=>∃n,v=.int n/\∀d,H1 d=none->EX (.ref C) (some d) (upd H1 d (.xd [(f,.int n)]))):=by
 intro pins s σ H D I h;obtain⟨bm,N,nm,qn,bs,sn,sub,ab,col,dd,k0,k1,k2,k3,k5,mN,hC,hN,hi,qm,T⟩:=(clsF_of I.mod.kin hq).h;have isB:bm.contains (.type "BaseException")=true:=T.has (by decide +kernel);obtain⟨od,osl,lI⟩:=hl;have hoI:=I.mod.kin _ _ lI;refine IG (C:=C) (nm:=nm) (q:=qn) (N:=N) (bs:=bs) (bm:=bm) (hdct:=true) (sn:=sn) (sub:=sub) (ab:=ab) (col:=col) (dd:=dd) (k0:=k0) (k1:=k1) (k2:=k2) (k3:=k3) (k5:=k5) (mN:=mN) (fI:=fI) (oI:=⟨.type "function",od,.func fd,osl⟩) PySem.F.excBase_ValueError isB (I.ok.hd hc) (by rw[he];rfl) hi rfl (eA I hg hm ⟨rfl,?_⟩ hd);have hp:=iJ (X:=X) (e:=a) (es:=[]) ha j3 (by rw[he];rfl);have go:=hp cpos pins s σ H (λvs H1=>match vs with|[v]=>∃n,v=.int n/\∀d,H1 d=none->EX (.ref C) (some d) (upd H1 d (.xd [(f,.int n)]))|_=>False) I;rw[he] at go ⊢;refine Calls.evalArgs_plain (bG (go (by
  unfold qO vm;exact h)) λus s2 ⟨vs,H2,I2,rv,q⟩=>?_)
 obtain⟨v,rfl⟩:∃v,vs=[v]:=by
  match vs,q with
  |[v],_=>exact⟨v,rfl⟩
 obtain⟨n,rfl,q⟩:=q;have ul:us.length=1:=rv.length.symm;refine⟨rfl,by rw[ul];decide,I2.bk _ _ hC,hN.keeps I2.bk,(T.keeps I2.bk).own (by simp),I2.bk _ _ hoI,λh' e m=>?_⟩;obtain⟨t,at1,_,_⟩:=m.there;have I3:Inv X pins σ H2 { s2 with heap:=h' }:=I2.kept (t':=s2.toks) m.keeps;have noE:∀{b o},s2.heap.get? b=some o->b≠e:=λz y=>by rw[y,m.new] at z;cases z
 have He:H2 e=none:=by
  cases z:H2 e with
  |none=>rfl
  |some u=>obtain⟨o,y⟩:=HOk.obj I2.hok z;exact N6 rfl (noE y)
 have h0:X.s₀.heap.get? e=none:=by
  cases z:X.s₀.heap.get? e with
  |none=>rfl
  |some o=>obtain⟨o',y⟩:=I2.base.there e o z (by rw[hex];simp);exact N6 rfl (noE y)
 have hL:e≠X.env.locals:=λz=>by
  obtain⟨_,⟨o,_,_,y,_⟩,_⟩:=I2.loc;exact noE y z.symm
 have I4:Inv X pins σ (upd H2 e (exX C t e none)) { s2 with heap:=h' }:=I3.track He h0 hL (λy c z w=>by
  obtain⟨v,o,ho,_⟩:=I2.cell y c z;exact noE ho w) (λp hp w=>noE (I2.pin p hp).1 w) ⟨at1,⟨_,at1⟩,λ_ _ p r=>r _ p⟩ (λ_ z=>by first|cases z|(unfold exX at z;cases z))
 have hlen:(Value.ref e::us++[]).length=ps.length:=by
  have:=Fi.len [.ref e,.int n] (upd H2 e (exX C t e none)) (λ_ _=>True) E0 ⟨e,t,n,rfl,aL,λ_ _ _=>trivial⟩;rw[<-this,rG,dQ,ul];rfl
 have bi:=hb { s2 with heap:=h' } (.ref e::us) I4.kIn hlen;rw[rG] at bi;refine wpAny_call (codeAny_mono (Fi.run _ X.stack _ _ ⟨.ref e::us,[]⟩ (.ref e::us) [.ref e,.int n] (λv H5=>v = .non/\∃ d,H2 d=none/\d≠e/\H5=upd (upd H2 e (exX C t e (some d))) d (.xd [(f,.int n)])) E0 (hro.make C us []) (I4.env0.make C us []) bi (.cons rfl rv)
  ⟨e,t,n,rfl,aL,λd hd ne=>⟨rfl,d,by rw[aH ne] at hd;exact hd,ne,by rw[pM]⟩⟩) λr s3 z=>?_)
 cases r with
 |error e'=>exact(cK pins σ _ _ e' s3 I4 z:_)
 |ok fl=>
  cases fl with
  |ret u=>
   obtain⟨v,H',I5,r5,rfl,d,hd,ne,rfl⟩:=I4.after z;have e5:upd (upd H2 e (exX C t e (some d))) d (.xd [(f,.int n)]) e=some (exX C t e (some d)):=by rw[aH (Ob ne),aL]
   refine⟨r5,t,some d,I5.bk _ _ hC,(I5.hok e _ e5).1,hr pins σ _ s3 e C t (some d) I5 e5 h0 ?_⟩;have:rem (upd (upd H2 e (exX C t e (some d))) d (.xd [(f,.int n)])) e=upd H2 d (.xd [(f,.int n)]):=by
    funext b;unfold rem upd
    by_cases y:b=e
    .rw[if_pos y,if_neg (λw=>ne (w.symm.trans y)),y,He]
    .rw[if_neg y,if_neg y]
   rw[this];exact q d hd
  |next=>exact Oh z
  |brk=>exact Oh z
  |cont=>exact Oh z
end
end Fl
end L2
namespace LP
namespace Dt
abbrev R:=Nat->Int
def m2(a b:R)(p q:Nat):Int:=a p*b q-a q*b p
def m3(a b c:R)(p q r:Nat):Int:=c r*m2 a b p q-c q*m2 a b p r+c p*m2 a b q r
def m4(a b c d:R)(p q r s:Nat):Int:=d s*m3 a b c p q r-d r*m3 a b c p q s+d q*m3 a b c p r s-d p*m3 a b c q r s
def m5(a b c d e:R)(p q r s t:Nat):Int:=e t*m4 a b c d p q r s-e s*m4 a b c d p q r t+e r*m4 a b c d p q s t-e q*m4 a b c d p r s t+e p*m4 a b c d q r s t
section
variable(a b c d e:R)(p q r s t j:Nat)
def s0:m2 a b p j*1=b j*a p-b p*a j:=by unfold m2;grind
def s1:m3 a b c p q j*a p=m2 a c p j*m2 a b p q-m2 a c p q*m2 a b p j:=by unfold m3 m2;grind
theorem s2:m4 a b c d p q r j*m2 a b p q=m3 a b d p q j*m3 a b c p q r-m3 a b d p q r*m3 a b c p q j:=by unfold m4 m3 m2;grind
theorem pl:m3 a b c p q r*m3 a b c p s j=m3 a b c p q s*m3 a b c p r j-m3 a b c p q j*m3 a b c p r s:=by unfold m3 m2;grind
theorem Bg:m3 a b c p q r*m3 a b c q s j=m3 a b c p q s*m3 a b c q r j-m3 a b c p q j*m3 a b c q r s:=by unfold m3 m2;grind
theorem JB:m3 a b c p q r*m3 a b c r s j=m3 a b c p r s*m3 a b c q r j-m3 a b c p r j*m3 a b c q r s:=by unfold m3 m2;grind
theorem s3:m5 a b c d e p q r s j*m3 a b c p q r=m4 a b c e p q r j*m4 a b c d p q r s-m4 a b c e p q r s*m4 a b c d p q r j:=by
 have h1:=pl a b c p q r s j;have h2:=Bg a b c p q r s j;have h3:=JB a b c p q r s j;unfold m5 m4;generalize m3 a b c p q r=x1 at *;generalize m3 a b c p q s=x2 at *;generalize m3 a b c p q j=x3 at *;generalize m3 a b c p r s=x4 at *;generalize m3 a b c p r j=x5 at *;generalize m3 a b c p s j=x6 at *;generalize m3 a b c q r s=x7 at *;generalize m3 a b c q r j=x8 at *;generalize m3 a b c q s j=x9 at *;generalize m3 a b c r s j=y1 at *;generalize d p=d1;generalize d q=d2;generalize d r=d3;generalize d s=d4;generalize d j=d5;generalize e p=e1;generalize e q=e2;generalize e r=e3;generalize e s=e4;generalize e j=e5;grind
def j8:m3 a b c p q r=a p*m2 b c q r-a q*m2 b c p r+a r*m2 b c p q:=by unfold m3 m2;grind
def j9:m3 a b c p q r=b q*m2 a c p r-b p*m2 a c q r-b r*m2 a c p q:=by unfold m3 m2;grind
theorem gZ:m4 a b c d p q r s=a p*m3 b c d q r s-a q*m3 b c d p r s+a r*m3 b c d p q s-a s*m3 b c d p q r:=by
 unfold m4;rw[j8 a b c,j8 a b c,j8 a b c,j8 a b c];unfold m3;grind
theorem ju:m4 a b c d p q r s=b q*m3 a c d p r s-b p*m3 a c d q r s-b r*m3 a c d p q s+b s*m3 a c d p q r:=by
 unfold m4;rw[j9 a b c,j9 a b c,j9 a b c,j9 a b c];unfold m3;grind
theorem lB:m4 a b c d p q r s=c p*m3 a b d q r s-c q*m3 a b d p r s+c r*m3 a b d p q s-c s*m3 a b d p q r:=by
 unfold m4 m3;grind
theorem ke:m5 a b c d e p q r s t=a p*m4 b c d e q r s t-a q*m4 b c d e p r s t+a r*m4 b c d e p q s t-a s*m4 b c d e p q r t+a t*m4 b c d e p q r s:=by
 unfold m5;rw[gZ a b c d,gZ a b c d,gZ a b c d,gZ a b c d,gZ a b c d];unfold m4;grind
theorem sW:m5 a b c d e p q r s t=b q*m4 a c d e p r s t-b p*m4 a c d e q r s t-b r*m4 a c d e p q s t+b s*m4 a c d e p q r t-b t*m4 a c d e p q r s:=by
 unfold m5;rw[ju a b c d,ju a b c d,ju a b c d,ju a b c d,ju a b c d];unfold m4;grind
theorem Bh:m5 a b c d e p q r s t=c p*m4 a b d e q r s t-c q*m4 a b d e p r s t+c r*m4 a b d e p q s t-c s*m4 a b d e p q r t+c t*m4 a b d e p q r s:=by
 unfold m5;rw[lB a b c d,lB a b c d,lB a b c d,lB a b c d,lB a b c d];unfold m4;grind
theorem Bj:m5 a b c d e p q r s t=d q*m4 a b c e p r s t-d p*m4 a b c e q r s t-d r*m4 a b c e p q s t+d s*m4 a b c e p q r t-d t*m4 a b c e p q r s:=by
 unfold m5 m4;grind
def vR:m2 b a p q = - m2 a b p q:=by unfold m2;grind
def Ez:m3 b a c p q r = - m3 a b c p q r:=by unfold m3;simp only[vR a b];grind
def yV:m3 a c b p q r = - m3 a b c p q r:=by rw[j8,j8 a b c];simp only[vR b c];grind
def vS:m3 c b a p q r = - m3 a b c p q r:=by rw[j9 c b a,j9 a b c];simp only[vR a c];grind
def EA:m4 b a c d p q r s = - m4 a b c d p q r s:=by unfold m4;simp only[Ez a b];grind
def EB:m4 a c b d p q r s = - m4 a b c d p q r s:=by unfold m4;simp only[yV a b];grind
def EC:m4 c b a d p q r s = - m4 a b c d p q r s:=by unfold m4;simp only[vS a b];grind
def yW:m4 a b d c p q r s = - m4 a b c d p q r s:=by rw[gZ,gZ a b c d];simp only[yV b c];grind
def yX:m4 a d c b p q r s = - m4 a b c d p q r s:=by rw[gZ,gZ a b c d];simp only[vS b c];grind
theorem vT:m4 d b c a p q r s = - m4 a b c d p q r s:=by rw[ju d b c a,ju a b c d];simp only[vS a c];grind
theorem vU:m5 b a c d e p q r s t = - m5 a b c d e p q r s t:=by unfold m5;simp only[EA a b c d];grind
theorem vV:m5 a c b d e p q r s t = - m5 a b c d e p q r s t:=by unfold m5;simp only[EB a b c d];grind
theorem vW:m5 c b a d e p q r s t = - m5 a b c d e p q r s t:=by unfold m5;simp only[EC a b c d];grind
theorem vX:m5 a b d c e p q r s t = - m5 a b c d e p q r s t:=by unfold m5;simp only[yW a b c d];grind
theorem vY:m5 a d c b e p q r s t = - m5 a b c d e p q r s t:=by unfold m5;simp only[yX a b c d];grind
theorem vZ:m5 d b c a e p q r s t = - m5 a b c d e p q r s t:=by unfold m5;simp only[vT a b c d];grind
theorem ED:m5 a b c e d p q r s t = - m5 a b c d e p q r s t:=by rw[ke,ke a b c d e];simp only[yW b c d e];grind
theorem EE:m5 a b e d c p q r s t = - m5 a b c d e p q r s t:=by rw[ke,ke a b c d e];simp only[yX b c d e];grind
theorem EF:m5 a e c d b p q r s t = - m5 a b c d e p q r s t:=by rw[ke,ke a b c d e];simp only[vT b c d e];grind
theorem EG:m5 e b c d a p q r s t = - m5 a b c d e p q r s t:=by rw[sW e b c d a,sW a b c d e];simp only[vT a c d e];grind
end
def M(A:Nat->R):Nat->Nat->R
 |0,i,j=>A i j
 |1,i,j=>m2 (A 0) (A i) 0 j
 |2,i,j=>m3 (A 0) (A 1) (A i) 0 1 j
 |3,i,j=>m4 (A 0) (A 1) (A 2) (A i) 0 1 2 j
 |4,i,j=>m5 (A 0) (A 1) (A 2) (A 3) (A i) 0 1 2 3 j
 |_,_,_=>0
def dt(A:Nat->R):Nat->Int
 |0=>1
 |k+1=>M A k k k
theorem JC(A:Nat->R){k:Nat}(hk:k<4)(i j:Nat):M A (k+1) i j*dt A k=M A k i j*M A k k k-M A k i k*M A k k j:=by
 match k,hk with
 |0,_=>exact s0 _ _ _ _
 |1,_=>exact s1 _ _ _ _ _ _
 |2,_=>exact s2 _ _ _ _ _ _ _ _
 |3,_=>exact s3 _ _ _ _ _ _ _ _ _ _
theorem EH{A B:Nat->R}{k i j:Nat}(h:∀l,l<k->A l=B l)(hi:A i=B i):M A k i j=M B k i j:=by
 match k with
 |0=>show A i j=B i j;rw[hi]
 |1=>show m2 _ _ _ _=m2 _ _ _ _;rw[hi,h 0 (by omega)]
 |2=>show m3 _ _ _ _ _ _=m3 _ _ _ _ _ _;rw[hi,h 0 (by omega),h 1 (by omega)]
 |3=>show m4 _ _ _ _ _ _ _ _=m4 _ _ _ _ _ _ _ _;rw[hi,h 0 (by omega),h 1 (by omega),h 2 (by omega)]
 |4=>show m5 _ _ _ _ _ _ _ _ _ _=m5 _ _ _ _ _ _ _ _ _ _;rw[hi,h 0 (by omega),h 1 (by omega),h 2 (by omega),h 3 (by omega)]
 |_+5=>rfl
def sw(A:Nat->R)(x y:Nat):Nat->R:=λi=>if i=x then A y else if i=y then A x else A i
theorem Bl(A:Nat->R){n x y:Nat}(hn:n<=5)(hxy:x<y)(hy:y<n):dt (sw A x y) n = - dt A n:=by
 match n,hn,y,hy,x,hxy with
 |1,_,0,_,x,h=>exact N6 h (Nat.not_lt_zero x)
 |2,_,1,_,0,_=>exact vR _ _ _ _
 |3,_,1,_,0,_=>exact Ez _ _ _ _ _ _
 |3,_,2,_,0,_=>exact vS _ _ _ _ _ _
 |3,_,2,_,1,_=>exact yV _ _ _ _ _ _
 |4,_,1,_,0,_=>exact EA _ _ _ _ _ _ _ _
 |4,_,2,_,0,_=>exact EC _ _ _ _ _ _ _ _
 |4,_,2,_,1,_=>exact EB _ _ _ _ _ _ _ _
 |4,_,3,_,0,_=>exact vT _ _ _ _ _ _ _ _
 |4,_,3,_,1,_=>exact yX _ _ _ _ _ _ _ _
 |4,_,3,_,2,_=>exact yW _ _ _ _ _ _ _ _
 |5,_,1,_,0,_=>exact vU _ _ _ _ _ _ _ _ _ _
 |5,_,2,_,0,_=>exact vW _ _ _ _ _ _ _ _ _ _
 |5,_,2,_,1,_=>exact vV _ _ _ _ _ _ _ _ _ _
 |5,_,3,_,0,_=>exact vZ _ _ _ _ _ _ _ _ _ _
 |5,_,3,_,1,_=>exact vY _ _ _ _ _ _ _ _ _ _
 |5,_,3,_,2,_=>exact vX _ _ _ _ _ _ _ _ _ _
 |5,_,4,_,0,_=>exact EG _ _ _ _ _ _ _ _ _ _
 |5,_,4,_,1,_=>exact EF _ _ _ _ _ _ _ _ _ _
 |5,_,4,_,2,_=>exact EE _ _ _ _ _ _ _ _ _ _
 |5,_,4,_,3,_=>exact ED _ _ _ _ _ _ _ _ _ _
def bB(f:Nat->Int):Nat->Int
 |0=>0
 |n+1=>bB f n+f n
theorem t9{f g:Nat->Int}:∀{n:Nat},(∀i,i<n->f i=g i)->bB f n=bB g n
 |0,_=>rfl
 |n+1,h=>by rw[bB,bB,t9 (λi hi=>h i (by omega)),h n (by omega)]
theorem yY{f:Nat->Int}:∀{n:Nat},(∀i,i<n->f i=0)->bB f n=0
 |0,_=>rfl
 |n+1,h=>by rw[bB,yY (λi hi=>h i (by omega)),h n (by omega)];rfl
theorem Bm(f g:Nat->Int):∀n:Nat,bB (λi=>f i+g i) n=bB f n+bB g n
 |0=>rfl
 |n+1=>by rw[bB,bB,bB,Bm f g n];omega
theorem Bo(f:Nat->Int)(c:Int):∀n:Nat,bB (λi=>c*f i) n=c*bB f n
 |0=>by simp[bB]
 |n+1=>by rw[bB,bB,Bo f c n,Int.mul_add]
theorem EI(f:Nat->Nat->Int)(m:Nat):∀n:Nat,bB (λi=>bB (λj=>f i j) m) n=bB (λj=>bB (λi=>f i j) n) m
 |0=>by rw[bB];exact(yY λ_ _=>rfl).symm
 |n+1=>by
  rw[bB,EI f m n,<-Bm];rfl
theorem Bp{f:Nat->Int}{k:Nat}:∀{n:Nat},k<n->(∀i,i<n->i≠k->f i=0)->bB f n=f k
 |0,h,_=>by omega
 |n+1,h,h0=>by
  rw[bB]
  by_cases e:k=n
  .subst e
   rw[yY (λi hi=>h0 i (by omega) (by omega)),Int.zero_add]
  .rw[Bp (k:=k) (by omega) (λi hi hk=>h0 i (by omega) hk),h0 n (by omega) (Ob e),Int.add_zero]
def sk(k i:Nat):Nat:=if i<k then i else i+1
def cut(A:Nat->R)(k j:Nat):Nat->R:=λi l=>A (sk k i) (sk j l)
def sg(n:Nat):Int:=if n%2=0 then 1 else -1
def gA(A:Nat->R)(n k j:Nat):Int:=sg (k+j)*dt (cut A k j) (n-1)
def rep(A:Nat->R)(k:Nat)(x:R):Nat->R:=λi=>if i=k then x else A i
def dc(A:Nat->R)(c:Nat->Nat):Nat->Int
 |0=>1
 |1=>A 0 (c 0)
 |2=>m2 (A 0) (A 1) (c 0) (c 1)
 |3=>m3 (A 0) (A 1) (A 2) (c 0) (c 1) (c 2)
 |4=>m4 (A 0) (A 1) (A 2) (A 3) (c 0) (c 1) (c 2) (c 3)
 |5=>m5 (A 0) (A 1) (A 2) (A 3) (A 4) (c 0) (c 1) (c 2) (c 3) (c 4)
 |_=>0
section
variable(a b c d e:R)(p q r s t j:Nat)
def Bq:m2 a b p q=a p*b q-b p*a q:=by unfold m2;grind
def Bt:m2 a b p q = - (a q*b p)+b q*a p:=by unfold m2;grind
def mU:m3 a b c p q r=a p*m2 b c q r-b p*m2 a c q r+c p*m2 a b q r:=by unfold m3 m2;grind
theorem mV:m3 a b c p q r = - (a q*m2 b c p r)+b q*m2 a c p r-c q*m2 a b p r:=by unfold m3 m2;grind
def mW:m3 a b c p q r=a r*m2 b c p q-b r*m2 a c p q+c r*m2 a b p q:=by unfold m3 m2;grind
theorem lC:m4 a b c d p q r s=a p*m3 b c d q r s-b p*m3 a c d q r s+c p*m3 a b d q r s-d p*m3 a b c q r s:=by unfold m4;rw[mU a b c p r s,mU a b c p q s,mU a b c p q r];unfold m3;grind
theorem lD:m4 a b c d p q r s = - (a q*m3 b c d p r s)+b q*m3 a c d p r s-c q*m3 a b d p r s+d q*m3 a b c p r s:=by unfold m4;rw[mU a b c q r s,mV a b c p q s,mV a b c p q r];unfold m3;grind
theorem lE:m4 a b c d p q r s=a r*m3 b c d p q s-b r*m3 a c d p q s+c r*m3 a b d p q s-d r*m3 a b c p q s:=by unfold m4;rw[mV a b c q r s,mV a b c p r s,mW a b c p q r];unfold m3;grind
theorem lF:m4 a b c d p q r s = - (a s*m3 b c d p q r)+b s*m3 a c d p q r-c s*m3 a b d p q r+d s*m3 a b c p q r:=by unfold m4;rw[mW a b c q r s,mW a b c p r s,mW a b c p q s];unfold m3;grind
theorem Bu:m5 a b c d e p q r s t=a p*m4 b c d e q r s t-b p*m4 a c d e q r s t+c p*m4 a b d e q r s t-d p*m4 a b c e q r s t+e p*m4 a b c d q r s t:=by unfold m5;rw[lC a b c d p r s t,lC a b c d p q s t,lC a b c d p q r t,lC a b c d p q r s];unfold m4;grind
theorem Bv:m5 a b c d e p q r s t = - (a q*m4 b c d e p r s t)+b q*m4 a c d e p r s t-c q*m4 a b d e p r s t+d q*m4 a b c e p r s t-e q*m4 a b c d p r s t:=by unfold m5;rw[lC a b c d q r s t,lD a b c d p q s t,lD a b c d p q r t,lD a b c d p q r s];unfold m4;grind
theorem Bw:m5 a b c d e p q r s t=a r*m4 b c d e p q s t-b r*m4 a c d e p q s t+c r*m4 a b d e p q s t-d r*m4 a b c e p q s t+e r*m4 a b c d p q s t:=by unfold m5;rw[lD a b c d q r s t,lD a b c d p r s t,lE a b c d p q r t,lE a b c d p q r s];unfold m4;grind
theorem Bx:m5 a b c d e p q r s t = - (a s*m4 b c d e p q r t)+b s*m4 a c d e p q r t-c s*m4 a b d e p q r t+d s*m4 a b c e p q r t-e s*m4 a b c d p q r t:=by unfold m5;rw[lE a b c d q r s t,lE a b c d p r s t,lE a b c d p q s t,lF a b c d p q r s];unfold m4;grind
theorem By:m5 a b c d e p q r s t=a t*m4 b c d e p q r s-b t*m4 a c d e p q r s+c t*m4 a b d e p q r s-d t*m4 a b c e p q r s+e t*m4 a b c d p q r s:=by unfold m5;rw[lF a b c d q r s t,lF a b c d p r s t,lF a b c d p q s t,lF a b c d p q r t];unfold m4;grind
def EJ:m2 a b p p=0:=by unfold m2;grind
def v3:m3 a b c p p r=0:=by unfold m3 m2;grind
def v4:m3 a b c p q p=0:=by unfold m3 m2;grind
def v6:m3 a b c p q q=0:=by unfold m3 m2;grind
def v7:m4 a b c d p p r s=0:=by unfold m4;simp only[v3];unfold m3 m2;grind
def v8:m4 a b c d p q p s=0:=by unfold m4;simp only[v3,v4];unfold m3 m2;grind
def v9:m4 a b c d p q r p=0:=by unfold m4;simp only[v4];unfold m3 m2;grind
def wd:m4 a b c d p q q s=0:=by unfold m4;simp only[v3,v6];unfold m3 m2;grind
def wg:m4 a b c d p q r q=0:=by unfold m4;simp only[v4,v6];unfold m3 m2;grind
def wj:m4 a b c d p q r r=0:=by unfold m4;simp only[v6];unfold m3 m2;grind
def EK:m5 a b c d e p p r s t=0:=by unfold m5;simp only[v7];unfold m4 m3 m2;grind
def EL:m5 a b c d e p q p s t=0:=by unfold m5;simp only[v7,v8];unfold m4 m3 m2;grind
def EM:m5 a b c d e p q r p t=0:=by unfold m5;simp only[v8,v9];unfold m4 m3 m2;grind
def EN:m5 a b c d e p q r s p=0:=by unfold m5;simp only[v9];unfold m4 m3 m2;grind
def Zq:m5 a b c d e p q q s t=0:=by unfold m5;simp only[v7,wd];unfold m4 m3 m2;grind
def EO:m5 a b c d e p q r q t=0:=by unfold m5;simp only[v8,wd,wg];unfold m4 m3 m2;grind
def EQ:m5 a b c d e p q r s q=0:=by unfold m5;simp only[v9,wg];unfold m4 m3 m2;grind
def ER:m5 a b c d e p q r r t=0:=by unfold m5;simp only[wd,wj];unfold m4 m3 m2;grind
def ES:m5 a b c d e p q r s r=0:=by unfold m5;simp only[wg,wj];unfold m4 m3 m2;grind
def ET:m5 a b c d e p q r s s=0:=by unfold m5;simp only[wj];unfold m4 m3 m2;grind
end
theorem wk(A:Nat->R)(x:R){n k:Nat}(hn:n<=5)(hk:k<n):bB (λj=>x j*gA A n k j) n=dt (rep A k x) n:=by
 match n,hn,k,hk with
 |1,_,0,_=>show 0+x 0*(1*1)=x 0;grind
 |2,_,0,_=>show 0+x 0*(1*(A 1) 1)+x 1*(-1*(A 1) 0)=m2 x (A 1) 0 1;unfold m2;grind
 |2,_,1,_=>show 0+x 0*(-1*(A 0) 1)+x 1*(1*(A 0) 0)=m2 (A 0) x 0 1;unfold m2;grind
 |3,_,0,_=>show 0+x 0*(1*m2 (A 1) (A 2) 1 2)+x 1*(-1*m2 (A 1) (A 2) 0 2)+x 2*(1*m2 (A 1) (A 2) 0 1)=m3 x (A 1) (A 2) 0 1 2;rw[j8];grind
 |3,_,1,_=>show 0+x 0*(-1*m2 (A 0) (A 2) 1 2)+x 1*(1*m2 (A 0) (A 2) 0 2)+x 2*(-1*m2 (A 0) (A 2) 0 1)=m3 (A 0) x (A 2) 0 1 2;rw[j9];grind
 |3,_,2,_=>show 0+x 0*(1*m2 (A 0) (A 1) 1 2)+x 1*(-1*m2 (A 0) (A 1) 0 2)+x 2*(1*m2 (A 0) (A 1) 0 1)=m3 (A 0) (A 1) x 0 1 2;unfold m3;grind
 |4,_,0,_=>show 0+x 0*(1*m3 (A 1) (A 2) (A 3) 1 2 3)+x 1*(-1*m3 (A 1) (A 2) (A 3) 0 2 3)+x 2*(1*m3 (A 1) (A 2) (A 3) 0 1 3)+x 3*(-1*m3 (A 1) (A 2) (A 3) 0 1 2)=m4 x (A 1) (A 2) (A 3) 0 1 2 3;rw[gZ];grind
 |4,_,1,_=>show 0+x 0*(-1*m3 (A 0) (A 2) (A 3) 1 2 3)+x 1*(1*m3 (A 0) (A 2) (A 3) 0 2 3)+x 2*(-1*m3 (A 0) (A 2) (A 3) 0 1 3)+x 3*(1*m3 (A 0) (A 2) (A 3) 0 1 2)=m4 (A 0) x (A 2) (A 3) 0 1 2 3;rw[ju];grind
 |4,_,2,_=>show 0+x 0*(1*m3 (A 0) (A 1) (A 3) 1 2 3)+x 1*(-1*m3 (A 0) (A 1) (A 3) 0 2 3)+x 2*(1*m3 (A 0) (A 1) (A 3) 0 1 3)+x 3*(-1*m3 (A 0) (A 1) (A 3) 0 1 2)=m4 (A 0) (A 1) x (A 3) 0 1 2 3;rw[lB];grind
 |4,_,3,_=>show 0+x 0*(-1*m3 (A 0) (A 1) (A 2) 1 2 3)+x 1*(1*m3 (A 0) (A 1) (A 2) 0 2 3)+x 2*(-1*m3 (A 0) (A 1) (A 2) 0 1 3)+x 3*(1*m3 (A 0) (A 1) (A 2) 0 1 2)=m4 (A 0) (A 1) (A 2) x 0 1 2 3;unfold m4;grind
 |5,_,0,_=>show 0+x 0*(1*m4 (A 1) (A 2) (A 3) (A 4) 1 2 3 4)+x 1*(-1*m4 (A 1) (A 2) (A 3) (A 4) 0 2 3 4)+x 2*(1*m4 (A 1) (A 2) (A 3) (A 4) 0 1 3 4)+x 3*(-1*m4 (A 1) (A 2) (A 3) (A 4) 0 1 2 4)+x 4*(1*m4 (A 1) (A 2) (A 3) (A 4) 0 1 2 3)=m5 x (A 1) (A 2) (A 3) (A 4) 0 1 2 3 4;rw[ke];grind
 |5,_,1,_=>show 0+x 0*(-1*m4 (A 0) (A 2) (A 3) (A 4) 1 2 3 4)+x 1*(1*m4 (A 0) (A 2) (A 3) (A 4) 0 2 3 4)+x 2*(-1*m4 (A 0) (A 2) (A 3) (A 4) 0 1 3 4)+x 3*(1*m4 (A 0) (A 2) (A 3) (A 4) 0 1 2 4)+x 4*(-1*m4 (A 0) (A 2) (A 3) (A 4) 0 1 2 3)=m5 (A 0) x (A 2) (A 3) (A 4) 0 1 2 3 4;rw[sW];grind
 |5,_,2,_=>show 0+x 0*(1*m4 (A 0) (A 1) (A 3) (A 4) 1 2 3 4)+x 1*(-1*m4 (A 0) (A 1) (A 3) (A 4) 0 2 3 4)+x 2*(1*m4 (A 0) (A 1) (A 3) (A 4) 0 1 3 4)+x 3*(-1*m4 (A 0) (A 1) (A 3) (A 4) 0 1 2 4)+x 4*(1*m4 (A 0) (A 1) (A 3) (A 4) 0 1 2 3)=m5 (A 0) (A 1) x (A 3) (A 4) 0 1 2 3 4;rw[Bh];grind
 |5,_,3,_=>show 0+x 0*(-1*m4 (A 0) (A 1) (A 2) (A 4) 1 2 3 4)+x 1*(1*m4 (A 0) (A 1) (A 2) (A 4) 0 2 3 4)+x 2*(-1*m4 (A 0) (A 1) (A 2) (A 4) 0 1 3 4)+x 3*(1*m4 (A 0) (A 1) (A 2) (A 4) 0 1 2 4)+x 4*(-1*m4 (A 0) (A 1) (A 2) (A 4) 0 1 2 3)=m5 (A 0) (A 1) (A 2) x (A 4) 0 1 2 3 4;rw[Bj];grind
 |5,_,4,_=>show 0+x 0*(1*m4 (A 0) (A 1) (A 2) (A 3) 1 2 3 4)+x 1*(-1*m4 (A 0) (A 1) (A 2) (A 3) 0 2 3 4)+x 2*(1*m4 (A 0) (A 1) (A 2) (A 3) 0 1 3 4)+x 3*(-1*m4 (A 0) (A 1) (A 2) (A 3) 0 1 2 4)+x 4*(1*m4 (A 0) (A 1) (A 2) (A 3) 0 1 2 3)=m5 (A 0) (A 1) (A 2) (A 3) x 0 1 2 3 4;unfold m5;grind
theorem wm(A:Nat->R)(i:Nat){n j:Nat}(hn:n<=5)(hj:j<n):bB (λk=>A k i*gA A n k j) n=dc A (λl=>if l=j then i else l) n:=by
 match n,hn,j,hj with
 |1,_,0,_=>show 0+A 0 i*(1*1)=(A 0) i;grind
 |2,_,0,_=>show 0+A 0 i*(1*(A 1) 1)+A 1 i*(-1*(A 0) 1)=m2 (A 0) (A 1) i 1;rw[Bq (A 0) (A 1)];grind
 |2,_,1,_=>show 0+A 0 i*(-1*(A 1) 0)+A 1 i*(1*(A 0) 0)=m2 (A 0) (A 1) 0 i;rw[Bt (A 0) (A 1)];grind
 |3,_,0,_=>show 0+A 0 i*(1*m2 (A 1) (A 2) 1 2)+A 1 i*(-1*m2 (A 0) (A 2) 1 2)+A 2 i*(1*m2 (A 0) (A 1) 1 2)=m3 (A 0) (A 1) (A 2) i 1 2;rw[mU (A 0) (A 1) (A 2)];grind
 |3,_,1,_=>show 0+A 0 i*(-1*m2 (A 1) (A 2) 0 2)+A 1 i*(1*m2 (A 0) (A 2) 0 2)+A 2 i*(-1*m2 (A 0) (A 1) 0 2)=m3 (A 0) (A 1) (A 2) 0 i 2;rw[mV (A 0) (A 1) (A 2)];grind
 |3,_,2,_=>show 0+A 0 i*(1*m2 (A 1) (A 2) 0 1)+A 1 i*(-1*m2 (A 0) (A 2) 0 1)+A 2 i*(1*m2 (A 0) (A 1) 0 1)=m3 (A 0) (A 1) (A 2) 0 1 i;rw[mW (A 0) (A 1) (A 2)];grind
 |4,_,0,_=>show 0+A 0 i*(1*m3 (A 1) (A 2) (A 3) 1 2 3)+A 1 i*(-1*m3 (A 0) (A 2) (A 3) 1 2 3)+A 2 i*(1*m3 (A 0) (A 1) (A 3) 1 2 3)+A 3 i*(-1*m3 (A 0) (A 1) (A 2) 1 2 3)=m4 (A 0) (A 1) (A 2) (A 3) i 1 2 3;rw[lC (A 0) (A 1) (A 2) (A 3)];grind
 |4,_,1,_=>show 0+A 0 i*(-1*m3 (A 1) (A 2) (A 3) 0 2 3)+A 1 i*(1*m3 (A 0) (A 2) (A 3) 0 2 3)+A 2 i*(-1*m3 (A 0) (A 1) (A 3) 0 2 3)+A 3 i*(1*m3 (A 0) (A 1) (A 2) 0 2 3)=m4 (A 0) (A 1) (A 2) (A 3) 0 i 2 3;rw[lD (A 0) (A 1) (A 2) (A 3)];grind
 |4,_,2,_=>show 0+A 0 i*(1*m3 (A 1) (A 2) (A 3) 0 1 3)+A 1 i*(-1*m3 (A 0) (A 2) (A 3) 0 1 3)+A 2 i*(1*m3 (A 0) (A 1) (A 3) 0 1 3)+A 3 i*(-1*m3 (A 0) (A 1) (A 2) 0 1 3)=m4 (A 0) (A 1) (A 2) (A 3) 0 1 i 3;rw[lE (A 0) (A 1) (A 2) (A 3)];grind
 |4,_,3,_=>show 0+A 0 i*(-1*m3 (A 1) (A 2) (A 3) 0 1 2)+A 1 i*(1*m3 (A 0) (A 2) (A 3) 0 1 2)+A 2 i*(-1*m3 (A 0) (A 1) (A 3) 0 1 2)+A 3 i*(1*m3 (A 0) (A 1) (A 2) 0 1 2)=m4 (A 0) (A 1) (A 2) (A 3) 0 1 2 i;rw[lF (A 0) (A 1) (A 2) (A 3)];grind
 |5,_,0,_=>show 0+A 0 i*(1*m4 (A 1) (A 2) (A 3) (A 4) 1 2 3 4)+A 1 i*(-1*m4 (A 0) (A 2) (A 3) (A 4) 1 2 3 4)+A 2 i*(1*m4 (A 0) (A 1) (A 3) (A 4) 1 2 3 4)+A 3 i*(-1*m4 (A 0) (A 1) (A 2) (A 4) 1 2 3 4)+A 4 i*(1*m4 (A 0) (A 1) (A 2) (A 3) 1 2 3 4)=m5 (A 0) (A 1) (A 2) (A 3) (A 4) i 1 2 3 4;rw[Bu (A 0) (A 1) (A 2) (A 3) (A 4)];grind
 |5,_,1,_=>show 0+A 0 i*(-1*m4 (A 1) (A 2) (A 3) (A 4) 0 2 3 4)+A 1 i*(1*m4 (A 0) (A 2) (A 3) (A 4) 0 2 3 4)+A 2 i*(-1*m4 (A 0) (A 1) (A 3) (A 4) 0 2 3 4)+A 3 i*(1*m4 (A 0) (A 1) (A 2) (A 4) 0 2 3 4)+A 4 i*(-1*m4 (A 0) (A 1) (A 2) (A 3) 0 2 3 4)=m5 (A 0) (A 1) (A 2) (A 3) (A 4) 0 i 2 3 4;rw[Bv (A 0) (A 1) (A 2) (A 3) (A 4)];grind
 |5,_,2,_=>show 0+A 0 i*(1*m4 (A 1) (A 2) (A 3) (A 4) 0 1 3 4)+A 1 i*(-1*m4 (A 0) (A 2) (A 3) (A 4) 0 1 3 4)+A 2 i*(1*m4 (A 0) (A 1) (A 3) (A 4) 0 1 3 4)+A 3 i*(-1*m4 (A 0) (A 1) (A 2) (A 4) 0 1 3 4)+A 4 i*(1*m4 (A 0) (A 1) (A 2) (A 3) 0 1 3 4)=m5 (A 0) (A 1) (A 2) (A 3) (A 4) 0 1 i 3 4;rw[Bw (A 0) (A 1) (A 2) (A 3) (A 4)];grind
 |5,_,3,_=>show 0+A 0 i*(-1*m4 (A 1) (A 2) (A 3) (A 4) 0 1 2 4)+A 1 i*(1*m4 (A 0) (A 2) (A 3) (A 4) 0 1 2 4)+A 2 i*(-1*m4 (A 0) (A 1) (A 3) (A 4) 0 1 2 4)+A 3 i*(1*m4 (A 0) (A 1) (A 2) (A 4) 0 1 2 4)+A 4 i*(-1*m4 (A 0) (A 1) (A 2) (A 3) 0 1 2 4)=m5 (A 0) (A 1) (A 2) (A 3) (A 4) 0 1 2 i 4;rw[Bx (A 0) (A 1) (A 2) (A 3) (A 4)];grind
 |5,_,4,_=>show 0+A 0 i*(1*m4 (A 1) (A 2) (A 3) (A 4) 0 1 2 3)+A 1 i*(-1*m4 (A 0) (A 2) (A 3) (A 4) 0 1 2 3)+A 2 i*(1*m4 (A 0) (A 1) (A 3) (A 4) 0 1 2 3)+A 3 i*(-1*m4 (A 0) (A 1) (A 2) (A 4) 0 1 2 3)+A 4 i*(1*m4 (A 0) (A 1) (A 2) (A 3) 0 1 2 3)=m5 (A 0) (A 1) (A 2) (A 3) (A 4) 0 1 2 3 i;rw[By (A 0) (A 1) (A 2) (A 3) (A 4)];grind
theorem Bz(A:Nat->R){n i j:Nat}(hn:n<=5)(hi:i<n)(hj:j<n)(ne:i≠j):dc A (λl=>if l=j then i else l) n=0:=by
 match n,hn,i,hi,j,hj,ne with
 |1,_,0,_,0,_,ne=>exact N6 rfl ne
 |2,_,0,_,0,_,ne=>exact N6 rfl ne
 |2,_,0,_,1,_,_=>show m2 (A 0) (A 1) 0 0=0;exact EJ _ _ _
 |2,_,1,_,0,_,_=>show m2 (A 0) (A 1) 1 1=0;exact EJ _ _ _
 |2,_,1,_,1,_,ne=>exact N6 rfl ne
 |3,_,0,_,0,_,ne=>exact N6 rfl ne
 |3,_,0,_,1,_,_=>show m3 (A 0) (A 1) (A 2) 0 0 2=0;exact v3 _ _ _ _ _
 |3,_,0,_,2,_,_=>show m3 (A 0) (A 1) (A 2) 0 1 0=0;exact v4 _ _ _ _ _
 |3,_,1,_,0,_,_=>show m3 (A 0) (A 1) (A 2) 1 1 2=0;exact v3 _ _ _ _ _
 |3,_,1,_,1,_,ne=>exact N6 rfl ne
 |3,_,1,_,2,_,_=>show m3 (A 0) (A 1) (A 2) 0 1 1=0;exact v6 _ _ _ _ _
 |3,_,2,_,0,_,_=>show m3 (A 0) (A 1) (A 2) 2 1 2=0;exact v4 _ _ _ _ _
 |3,_,2,_,1,_,_=>show m3 (A 0) (A 1) (A 2) 0 2 2=0;exact v6 _ _ _ _ _
 |3,_,2,_,2,_,ne=>exact N6 rfl ne
 |4,_,0,_,0,_,ne=>exact N6 rfl ne
 |4,_,0,_,1,_,_=>show m4 (A 0) (A 1) (A 2) (A 3) 0 0 2 3=0;exact v7 _ _ _ _ _ _ _
 |4,_,0,_,2,_,_=>show m4 (A 0) (A 1) (A 2) (A 3) 0 1 0 3=0;exact v8 _ _ _ _ _ _ _
 |4,_,0,_,3,_,_=>show m4 (A 0) (A 1) (A 2) (A 3) 0 1 2 0=0;exact v9 _ _ _ _ _ _ _
 |4,_,1,_,0,_,_=>show m4 (A 0) (A 1) (A 2) (A 3) 1 1 2 3=0;exact v7 _ _ _ _ _ _ _
 |4,_,1,_,1,_,ne=>exact N6 rfl ne
 |4,_,1,_,2,_,_=>show m4 (A 0) (A 1) (A 2) (A 3) 0 1 1 3=0;exact wd _ _ _ _ _ _ _
 |4,_,1,_,3,_,_=>show m4 (A 0) (A 1) (A 2) (A 3) 0 1 2 1=0;exact wg _ _ _ _ _ _ _
 |4,_,2,_,0,_,_=>show m4 (A 0) (A 1) (A 2) (A 3) 2 1 2 3=0;exact v8 _ _ _ _ _ _ _
 |4,_,2,_,1,_,_=>show m4 (A 0) (A 1) (A 2) (A 3) 0 2 2 3=0;exact wd _ _ _ _ _ _ _
 |4,_,2,_,2,_,ne=>exact N6 rfl ne
 |4,_,2,_,3,_,_=>show m4 (A 0) (A 1) (A 2) (A 3) 0 1 2 2=0;exact wj _ _ _ _ _ _ _
 |4,_,3,_,0,_,_=>show m4 (A 0) (A 1) (A 2) (A 3) 3 1 2 3=0;exact v9 _ _ _ _ _ _ _
 |4,_,3,_,1,_,_=>show m4 (A 0) (A 1) (A 2) (A 3) 0 3 2 3=0;exact wg _ _ _ _ _ _ _
 |4,_,3,_,2,_,_=>show m4 (A 0) (A 1) (A 2) (A 3) 0 1 3 3=0;exact wj _ _ _ _ _ _ _
 |4,_,3,_,3,_,ne=>exact N6 rfl ne
 |5,_,0,_,0,_,ne=>exact N6 rfl ne
 |5,_,0,_,1,_,_=>show m5 (A 0) (A 1) (A 2) (A 3) (A 4) 0 0 2 3 4=0;exact EK _ _ _ _ _ _ _ _ _
 |5,_,0,_,2,_,_=>show m5 (A 0) (A 1) (A 2) (A 3) (A 4) 0 1 0 3 4=0;exact EL _ _ _ _ _ _ _ _ _
 |5,_,0,_,3,_,_=>show m5 (A 0) (A 1) (A 2) (A 3) (A 4) 0 1 2 0 4=0;exact EM _ _ _ _ _ _ _ _ _
 |5,_,0,_,4,_,_=>show m5 (A 0) (A 1) (A 2) (A 3) (A 4) 0 1 2 3 0=0;exact EN _ _ _ _ _ _ _ _ _
 |5,_,1,_,0,_,_=>show m5 (A 0) (A 1) (A 2) (A 3) (A 4) 1 1 2 3 4=0;exact EK _ _ _ _ _ _ _ _ _
 |5,_,1,_,1,_,ne=>exact N6 rfl ne
 |5,_,1,_,2,_,_=>show m5 (A 0) (A 1) (A 2) (A 3) (A 4) 0 1 1 3 4=0;exact Zq _ _ _ _ _ _ _ _ _
 |5,_,1,_,3,_,_=>show m5 (A 0) (A 1) (A 2) (A 3) (A 4) 0 1 2 1 4=0;exact EO _ _ _ _ _ _ _ _ _
 |5,_,1,_,4,_,_=>show m5 (A 0) (A 1) (A 2) (A 3) (A 4) 0 1 2 3 1=0;exact EQ _ _ _ _ _ _ _ _ _
 |5,_,2,_,0,_,_=>show m5 (A 0) (A 1) (A 2) (A 3) (A 4) 2 1 2 3 4=0;exact EL _ _ _ _ _ _ _ _ _
 |5,_,2,_,1,_,_=>show m5 (A 0) (A 1) (A 2) (A 3) (A 4) 0 2 2 3 4=0;exact Zq _ _ _ _ _ _ _ _ _
 |5,_,2,_,2,_,ne=>exact N6 rfl ne
 |5,_,2,_,3,_,_=>show m5 (A 0) (A 1) (A 2) (A 3) (A 4) 0 1 2 2 4=0;exact ER _ _ _ _ _ _ _ _ _
 |5,_,2,_,4,_,_=>show m5 (A 0) (A 1) (A 2) (A 3) (A 4) 0 1 2 3 2=0;exact ES _ _ _ _ _ _ _ _ _
 |5,_,3,_,0,_,_=>show m5 (A 0) (A 1) (A 2) (A 3) (A 4) 3 1 2 3 4=0;exact EM _ _ _ _ _ _ _ _ _
 |5,_,3,_,1,_,_=>show m5 (A 0) (A 1) (A 2) (A 3) (A 4) 0 3 2 3 4=0;exact EO _ _ _ _ _ _ _ _ _
 |5,_,3,_,2,_,_=>show m5 (A 0) (A 1) (A 2) (A 3) (A 4) 0 1 3 3 4=0;exact ER _ _ _ _ _ _ _ _ _
 |5,_,3,_,3,_,ne=>exact N6 rfl ne
 |5,_,3,_,4,_,_=>show m5 (A 0) (A 1) (A 2) (A 3) (A 4) 0 1 2 3 3=0;exact ET _ _ _ _ _ _ _ _ _
 |5,_,4,_,0,_,_=>show m5 (A 0) (A 1) (A 2) (A 3) (A 4) 4 1 2 3 4=0;exact EN _ _ _ _ _ _ _ _ _
 |5,_,4,_,1,_,_=>show m5 (A 0) (A 1) (A 2) (A 3) (A 4) 0 4 2 3 4=0;exact EQ _ _ _ _ _ _ _ _ _
 |5,_,4,_,2,_,_=>show m5 (A 0) (A 1) (A 2) (A 3) (A 4) 0 1 4 3 4=0;exact ES _ _ _ _ _ _ _ _ _
 |5,_,4,_,3,_,_=>show m5 (A 0) (A 1) (A 2) (A 3) (A 4) 0 1 2 4 4=0;exact ET _ _ _ _ _ _ _ _ _
 |5,_,4,_,4,_,ne=>exact N6 rfl ne
theorem JD(A:Nat->R)(k:Nat):rep A k (A k)=A:=by
 funext i;unfold rep;split
 .rename_i h;rw[h]
 .rfl
theorem wn(A:Nat->R){n i k:Nat}(hn:n<=5)(hi:i<n)(hk:k<n)(ne:i≠k):dt (rep A k (A i)) n=0:=by
 have e:∀x y,(x=i/\y=k)\/(x=k/\y=i)->sw (rep A k (A i)) x y=rep A k (A i):=λx y h=>by
  funext l;unfold sw rep;rcases h with⟨rfl,rfl⟩|⟨rfl,rfl⟩
  .by_cases h1:l=x
   .subst h1;simp[ne]
   .by_cases h2:l=y
    .subst h2;simp[h1,ne]
    .simp[h1,h2]
  .by_cases h1:l=x
   .subst h1;simp[ne]
   .by_cases h2:l=y
    .subst h2;simp[h1]
    .simp[h1,h2]
 rcases Nat.lt_or_gt_of_ne ne with h|h
 .have:=Bl (rep A k (A i)) hn h hk
  rw[e _ _ (.inl ⟨rfl,rfl⟩)] at this;omega
 .have:=Bl (rep A k (A i)) hn h hi
  rw[e _ _ (.inr ⟨rfl,rfl⟩)] at this;omega
theorem wq(A:Nat->R){n:Nat}(hn:n<=5):dc A (λl=>l) n=dt A n:=by
 match n,hn with
 |0,_=>rfl
 |1,_=>rfl
 |2,_=>rfl
 |3,_=>rfl
 |4,_=>rfl
 |5,_=>rfl
theorem BA(A:Nat->R){n i k:Nat}(hn:n<=5)(hi:i<n)(hk:k<n):bB (λj=>A i j*gA A n k j) n=if i=k then dt A n else 0:=by
 rw[wk A (A i) hn hk];split
 .rename_i h;rw[h,JD]
 .rename_i h;exact wn A hn hi hk h
theorem wr(A:Nat->R){n i j:Nat}(hn:n<=5)(hi:i<n)(hj:j<n):bB (λk=>A k i*gA A n k j) n=if i=j then dt A n else 0:=by
 rw[wm A i hn hj];split
 .rename_i h
  subst h;rw[show(λl=>if l=i then i else l)=(λl=>l) from by funext l;split<;>omega];exact wq A hn
 .rename_i h;exact Bz A hn hi hj h
theorem JE(A:Nat->R){n:Nat}(hn:n<=5){w:Nat->Int}(h:∀i,i<n->bB (λj=>A i j*w j) n=0){j:Nat}(hj:j<n):dt A n*w j=0:=by
 have e:bB (λk=>gA A n k j*bB (λl=>A k l*w l) n) n=dt A n*w j:=by
  rw[t9 (g:=λk=>bB (λl=>gA A n k j*(A k l*w l)) n) (λk _=>(Bo _ _ n).symm),EI];rw [t9 (g:=λl=>w l*bB (λk=>A k l*gA A n k j) n) (λl _=>by
   rw[<-Bo];exact t9 λk _=>by rw[nE (w l),<-Int.mul_assoc,nE (gA A n k j)])]
  rw[Bp (k:=j) hj (λi hi ne=>by rw[wr A hn hi hj,if_neg ne,yw]),wr A hn hj hj,if_pos rfl,nE]
 rw[<-e];exact yY λk hk=>by rw[h k hk,yw]
end Dt
end LP
namespace LP
open PySem PySem.Spec PyProof.Rows L2
variable{n b p k i j n1 m:Nat}{dx od an:Option Addr}{K:N4}{vs us:List V}{e c tg elt target iter:Expr}{H H1 H2 H0:Hp}{a f fa:Addr}{o:HO}{σ:L2.St}{X:Cx}{EX:XK}{pos p2 pos' spos apos cpos np:Pos}{x qual name:Str}{op:CmpOp}{es ifs:List Expr}{t:List (List Int)}{T:Nat->Nat->Rat}{fd:FuncData}{ps L:List Str}{pins:List (Addr×Obj)}{s:List Int}{lo hi:Option Int}{st:Stmt}{sc:Scope}{body:List Stmt}{P:Program}{mg:Str->Option Value}{base h:Heap}{q:Rat}{r piv:List Rat}{l:PySem.W.OpenLaw}{A:Nat->R}{ld rs:List (List Rat)}{pl':List Nat}{osl:Array (Option Value)}{XP:(Str->Option Value)->Heap->Prop}{YP:World->Heap->Prop}
inductive D where
 |non|bl (b:Bool)|int (i:Int)|str (x:Str)|tup (xs:List D)|lst (xs:List D)|dic|pen|cls (n:Str)|exc (n:Str)|ty (n:String)|scr (xs:List D)
variable{ds xs ys:List D}{d y:D}{v:Except Str D}{xss:List (List D)}{Q:D->Prop}{g:List D->(D->Prop)->Prop}{Q' dom QL:List D->Prop}{val:List D->D}{rel:List D->D->Prop}
structure Wd where
 G:Hp
 Pn:Addr->Prop
variable{W1 W2 W0:Wd}
def KT(K:N4)(a:Addr)(vs:List V):Prop:=
 ∃(o:Obj) (its:Array Value) (n:Nat),K.lookup a=some o/\o.cls=.type "tuple" /\o.data=.seq its n/\its.size<=sizeLine/\Vals vs its.toList
def ik(K:N4)(n:Str):Option Addr:=match PySem.W.nsIn K mainGlobals n with
 |some (some (.ref a))=>some a
 |_=>none
def xtab:List (Str×Str×Str×Int):=[("NotStrong1", "NotStrong", "size",1),("NotStrong2", "NotStrong", "size",2),("NotStrong3", "NotStrong", "size",3),("NotStrong4", "NotStrong", "size",4),("NotStrong5", "NotStrong", "size",5),("NoText0", "NoText", "row",0),("NoText1", "NoText", "row",1),("NoText2", "NoText", "row",2),("NoText3", "NoText", "row",3),("NoText4", "NoText", "row",4),("NoText5", "NoText", "row",5),("NoText6", "NoText", "row",6),("NoText7", "NoText", "row",7),("NoText8", "NoText", "row",8),("NoText9", "NoText", "row",9),("NoText10", "NoText", "row",10),("NoText11", "NoText", "row",11),("NoText12", "NoText", "row",12),("NoText13", "NoText", "row",13),("NoText14", "NoText", "row",14),("NoText15", "NoText", "row",15)]
def d7(n:Str):Option (Str×Str×Int):=(xtab.find? λr=>r.1==n).map (·.2)
def gb(n:Str):Str:=match d7 n with
 |some r=>r.1
 |none=>n
def qh(C a:Addr)(dx:Option Addr):HO:=.ext λh=>∃oe,h.get? a=some oe/\oe.cls=.ref C/\PySem.W.notCls oe=true/\oe.dict=dx/\∃vs,oe.data=.fields vs
def XD(W:Wd)(n:Str)(dx:Option Addr):Prop:=∀c f k,d7 n=some (c,f,k)->∃d,dx=some d/\W.G d=some (.xd [(f,.int k)])
def XD.none{W:Wd}{n:Str}(h:d7 n=none):XD W n dx:=λc f k e=>by rw[h] at e;cases e
theorem XD.mono{W W':Wd}{n:Str}(g:∀a o,W.G a=some o->W'.G a=some o)(h:XD W n dx):XD W' n dx:=λc f k e=>let⟨d,e1,e2⟩:=h c f k e;⟨d,e1,g _ _ e2⟩
def JF{n:Str}(h:d7 n=none):gb n=n:=by unfold gb;rw[h]
def KL(K:N4)(a:Addr)(vs:List V):Prop:=
 ∃(o:Obj) (its:Array Value) (n:Nat),K.lookup a=some o/\o.cls=.type "list" /\o.dict=none/\o.data=.seq its n/\its.size<=sizeLine/\Vals vs its.toList
mutual
inductive Rep (K:N4) (W:Wd):V->D->Prop
 |non:Rep K W .non .non
 |bl (b:Bool):Rep K W (.bl b) (.bl b)
 |int (i:Int):Rep K W (.int i) (.int i)
 |str (x:Str):Rep K W (.str x) (.str x)
 |tup {a:Addr} {vs:List V} {ds:List D}:W.G a=some (.tup vs)->Reps K W vs ds->Rep K W (.ref a) (.tup ds)
 |ktup {a:Addr} {vs:List V} {ds:List D}:KT K a vs->Reps K W vs ds->Rep K W (.ref a) (.tup ds)
 |lst {a:Addr} {vs:List V} {ds:List D}:W.G a=some (.lst vs)->Reps K W vs ds->Rep K W (.ref a) (.lst ds)
 |scr {a:Addr} {vs:List V} {ds:List D}:((∃o,W.G a=some (.frz o (.lst vs)))\/KL K a vs)->Reps K W vs ds->Rep K W (.ref a) (.scr ds)
 |dic {a:Addr}:W.G a=some (.dK [])->Rep K W (.ref a) .dic
 |pen {a:Addr}:W.Pn a->Rep K W (.ref a) .pen
 |cls {a:Addr} {n:Str}:ik K n=some a->Rep K W (.ref a) (.cls n)
 |exc {a C:Addr} {n:Str} {dx:Option Addr}:W.G a=some (qh C a dx)->ik K (gb n)=some C->XD W n dx->Rep K W (.ref a) (.exc n)
 |ty (n:String):Rep K W (.ty n) (.ty n)
inductive Reps (K:N4) (W:Wd):List V->List D->Prop
 |nil:Reps K W [] []
 |cons {v:V} {d:D} {vs:List V} {ds:List D}:Rep K W v d->Reps K W vs ds->Reps K W (v::vs) (d::ds)
end
section
variable{W W':Wd}
mutual
theorem Rep.mono(g:∀a o,W.G a=some o->W'.G a=some o)(p:∀a,W.Pn a->W'.Pn a):∀{v:V} {d:D},Rep K W v d->Rep K W' v d
 |_,_,.non=>.non
 |_,_,.bl b=>.bl b
 |_,_,.int i=>.int i
 |_,_,.str x=>.str x
 |_,_,.tup e r=>.tup (g _ _ e) (Reps.mono g p r)
 |_,_,.ktup e r=>.ktup e (Reps.mono g p r)
 |_,_,.lst e r=>.lst (g _ _ e) (Reps.mono g p r)
 |_,_,.scr e r=>.scr (e.elim (λ⟨o,z⟩=>.inl ⟨o,g _ _ z⟩) .inr) (Reps.mono g p r)
 |_,_,.dic e=>.dic (g _ _ e)
 |_,_,.pen e=>.pen (p _ e)
 |_,_,.cls e=>.cls e
 |_,_,.exc e h x=>.exc (g _ _ e) h (x.mono g)
 |_,_,.ty n=>.ty n
theorem Reps.mono(g:∀a o,W.G a=some o->W'.G a=some o)(p:∀a,W.Pn a->W'.Pn a):∀{vs:List V} {ds:List D},Reps K W vs ds->Reps K W' vs ds
 |_,_,.nil=>.nil
 |_,_,.cons r t=>.cons (Rep.mono g p r) (Reps.mono g p t)
end
theorem Reps.length:∀{vs:List V} {ds:List D},Reps K W vs ds->vs.length=ds.length
 |_,_,.nil=>rfl
 |_,_,.cons _ t=>by simp[Reps.length t]
theorem Reps.get:∀{vs:List V} {ds:List D} {i:Nat} {d:D},Reps K W vs ds->ds[i]? = some d->∃v,vs[i]? = some v/\Rep K W v d
 |_,_,_,_,.nil,e=>by simp at e
 |_,_,0,_,.cons r _,e=>by simp at e;subst e;exact⟨_,rfl,r⟩
 |_,_,i+1,d,.cons _ t,e=>by
  obtain⟨u,h1,h2⟩:=Reps.get (i:=i) (d:=d) t (by simpa using e);exact⟨u,by simpa using h1,h2⟩
theorem Reps.append:∀{vs us:List V} {ds es:List D},Reps K W vs ds->Reps K W us es->Reps K W (vs++us) (ds++es)
 |_,_,_,_,.nil,s=>s
 |_,_,_,_,.cons r t,s=>.cons r (Reps.append t s)
theorem Reps.take:∀{vs:List V} {ds:List D} (n:Nat),Reps K W vs ds->Reps K W (vs.take n) (ds.take n)
 |_,_,0,_=>.nil
 |_,_,_+1,.nil=>.nil
 |_,_,n+1,.cons r t=>.cons r (Reps.take n t)
theorem Reps.drop:∀{vs:List V} {ds:List D} (n:Nat),Reps K W vs ds->Reps K W (vs.drop n) (ds.drop n)
 |_,_,0,r=>r
 |_,_,_+1,.nil=>.nil
 |_,_,n+1,.cons _ t=>Reps.drop n t
theorem Reps.set{v:V}{d:D}(r:Rep K W v d):∀{vs:List V} {ds:List D} (i:Nat),Reps K W vs ds->Reps K W (vs.set i v) (ds.set i d)
 |_,_,_,.nil=>.nil
 |_,_,0,.cons _ t=>.cons r t
 |_,_,i+1,.cons q t=>.cons q (Reps.set r i t)
theorem Reps.rev(r:Reps K W vs ds):Reps K W vs.reverse ds.reverse:=by
 induction vs generalizing ds with
 |nil=>cases r;exact .nil
 |cons v vs ih=>cases r with|cons r t=>rw[tS,tS];exact(ih t).append (.cons r .nil)
theorem Reps.one(r:Reps K W us [d]):∃v,us=[v]/\Rep K W v d:=by
 cases r with|cons r t=>cases t;exact⟨_,rfl,r⟩
theorem Reps.two{e:D}(r:Reps K W us [d,e]):∃v u,us=[v,u]/\Rep K W v d/\Rep K W u e:=by
 cases r with|cons r t=>cases t with|cons r' t=>cases t;exact⟨_,_,rfl,r,r'⟩
end
def Zoq(H:Hp)(a:Addr):Prop:=∃i j k:Int,H a=some (.lst [.int i,.int j,.int k])
structure WOk(W:Wd)(H:Hp):Prop where
 g:∀a o,W.G a=some o->H a=some o
 p:∀a,W.Pn a->Zoq H a/\W.G a=none
structure Ext(W:Wd)(H:Hp)(W':Wd)(H':Hp):Prop where
 ok:WOk W' H'
 g:∀a o,W.G a=some o->W'.G a=some o
 p:∀a,W.Pn a->W'.Pn a
 gf:∀a,W.G a=none->W'.G a≠none->H a=none
 pf:∀a,¬W.Pn a->W'.Pn a->H a=none
 h:∀a o,H a=some o->¬W.Pn a->H' a=some o
section
variable{W:Wd}
theorem Ext.refl(ok:WOk W H):Ext W H W H:=⟨ok,λ_ _ e=>e,λ_ e=>e,λ_ e n=>N6 e n,λ_ n e=>N6 e n,λ_ _ e _=>e⟩
def Zoq.ne(p:Zoq H a):H a≠none:=by obtain⟨_,_,_,e⟩:=p;rw[e];simp
theorem Ext.isN(x:Ext W H W1 H1)(h:H1 a=none):H a=none:=by
 cases q:H a with
 |none=>rfl
 |some o=>
  by_cases hp:W.Pn a
  .exact N6 h ((x.ok.p a (x.p a hp)).1.ne)
  .rw[x.h a o q hp] at h;cases h
theorem Ext.trans(x:Ext W H W1 H1)(y:Ext W1 H1 W2 H2):Ext W H W2 H2 where
 ok:=y.ok
 g:=λa o e=>y.g a o (x.g a o e)
 p:=λa e=>y.p a (x.p a e)
 gf:=λa e n=>by
  cases q:W1.G a with
  |none=>exact x.isN (y.gf a q n)
  |some o=>exact x.gf a e (by rw[q];simp)
 pf:=λa e n=>by
  by_cases q:W1.Pn a
  .exact x.pf a e q
  .exact x.isN (y.pf a q n)
 h:=λa o e n=>y.h a o (x.h a o e n) λq=>by have:=x.pf a n q;rw[e] at this;cases this
def Ext.rep(x:Ext W H W1 H1){v:V}(r:Rep K W v d):Rep K W1 v d:=r.mono x.g x.p
theorem Ext.reps(x:Ext W H W1 H1){v:List V}{d:List D}(r:Reps K W v d):Reps K W1 v d:=r.mono x.g x.p
def Wd.put(W:Wd)(a:Addr)(o:HO):Wd:=⟨upd W.G a o,W.Pn⟩
theorem Ext.put{a:Addr}{o:HO}(ok:WOk W H)(h:H a=none):Ext W H (W.put a o) (upd H a o) where
 ok:=⟨λb u e=>by
   unfold Wd.put at e;dsimp only at e
   by_cases hb:b=a
   .subst hb;rw[aL] at e ⊢;exact e
   .rw[aH hb] at e ⊢;exact ok.g b u e,
  λb hb=>by
   have⟨p1,p2⟩:=ok.p b hb;have hne:b≠a:=λz=>p1.ne (by rw[z];exact h);refine⟨?_,by unfold Wd.put;dsimp only;rw[aH hne];exact p2⟩;obtain⟨i,j,k,e⟩:=p1;exact⟨i,j,k,by rw[aH hne];exact e⟩⟩
 g:=λb u e=>by
  have:b≠a:=λz=>by have:=ok.g b u e;rw[z,h] at this;cases this
  unfold Wd.put;dsimp only;rw[aH this];exact e
 p:=λb e=>e
 gf:=λb e n=>by
  by_cases hb:b=a
  .rw[hb];exact h
  .unfold Wd.put at n;dsimp only at n;rw[aH hb] at n;exact N6 e n
 pf:=λb n e=>N6 e n
 h:=λb u e _=>by
  have:b≠a:=λz=>by rw[z,h] at e;cases e
  rw[aH this];exact e
theorem Ext.new(ok:WOk W H)(h:H a=none):Ext W H W (upd H a o) where
 ok:=⟨λb u e=>by
   have q:=ok.g b u e;have:b≠a:=λz=>by rw[z,h] at q;cases q
   rw[aH this];exact q,
  λb hb=>by
   have⟨p1,p2⟩:=ok.p b hb;have hne:b≠a:=λz=>p1.ne (by rw[z];exact h);obtain⟨i,j,k,e⟩:=p1;exact⟨⟨i,j,k,by rw[aH hne];exact e⟩,p2⟩⟩
 g:=λ_ _ e=>e
 p:=λ_ e=>e
 gf:=λ_ e n=>N6 e n
 pf:=λ_ n e=>N6 e n
 h:=λb u e _=>by
  have:b≠a:=λz=>by rw[z,h] at e;cases e
  rw[aH this];exact e
theorem WOk.fresh(ok:WOk W H)(h:H a=none):W.G a=none/\¬W.Pn a:=by
 refine⟨?_,λp=>(ok.p a p).1.ne h⟩;cases q:W.G a with
 |none=>rfl
 |some o=>have:=ok.g a o q;rw[h] at this;cases this
theorem Ext.pub(x:Ext W H W1 H1)(h:H a=none)(e:H1 a=some o)(n:¬W1.Pn a)(ng:W1.G a=none):Ext W H (W1.put a o) H1 where
 ok:=⟨λb u q=>by
   unfold Wd.put at q
   by_cases hb:b=a
   .subst hb;dsimp only at q;rw[aL] at q;cases q;exact e
   .dsimp only at q;rw[aH hb] at q;exact x.ok.g b u q,
  λb hb=>by
   have⟨p1,p2⟩:=x.ok.p b hb;have hne:b≠a:=λz=>n (by rw[<-z];exact hb);exact⟨p1,by unfold Wd.put;dsimp only;rw[aH hne];exact p2⟩⟩
 g:=λb u q=>by
  have q1:=x.g b u q;have:b≠a:=λz=>by rw[z,ng] at q1;cases q1
  unfold Wd.put;dsimp only;rw[aH this];exact q1
 p:=x.p
 gf:=λb q m=>by
  by_cases hb:b=a
  .rw[hb];exact h
  .unfold Wd.put at m;dsimp only at m;rw[aH hb] at m;exact x.gf b q m
 pf:=x.pf
 h:=x.h
theorem qi(ng:W.G a=none):∀b u,W.G b=some u->(W.put a o).G b=some u:=λb u q=>by
 have:b≠a:=λz=>by rw[z,ng] at q;cases q
 unfold Wd.put;dsimp only;rw[aH this];exact q
theorem Ext.chg{o':HO}(x:Ext W H W1 H1)(h:H a=none)(e:H1 a=some o)(n:¬W1.Pn a)(ng:W1.G a=none):Ext W H W1 (upd H1 a o') where
 ok:=⟨λb u q=>by
   have:b≠a:=λz=>by rw[z,ng] at q;cases q
   rw[aH this];exact x.ok.g b u q,
  λb hb=>by
   have⟨p1,p2⟩:=x.ok.p b hb;have hne:b≠a:=λz=>n (by rw[<-z];exact hb);obtain⟨i,j,k,e⟩:=p1;exact⟨⟨i,j,k,by rw[aH hne];exact e⟩,p2⟩⟩
 g:=x.g
 p:=x.p
 gf:=x.gf
 pf:=x.pf
 h:=λb u q m=>by
  have:b≠a:=λz=>by rw[z,h] at q;cases q
  rw[aH this];exact x.h b u q m
end
inductive SV where
 |un|d (x:D)|ow (xs:List D)|oo (xss:List (List D))
abbrev cQ:=List SV
variable{ρ ρ':cQ}
def Own1(K:N4)(H0:Hp)(W:Wd)(H:Hp)(b:Addr)(xs:List D):Prop:=∃vs,H b=some (HO.lst vs)/\W.G b=none/\¬W.Pn b/\H0 b=none/\Reps K W vs xs
structure OwnT(K:N4)(H0:Hp)(W:Wd)(H:Hp)(a:Addr)(bs:List Addr)(xss:List (List D)):Prop where
 a1:H a=some (HO.lst (bs.map V.ref))
 a2:W.G a=none
 a3:¬W.Pn a
 a4:H0 a=none
 nd:(a::bs).Nodup
 len:bs.length=xss.length
 row:∀(i:Nat) b,bs[i]? = some b->∃xs,xss[i]? = some xs/\Own1 K H0 W H b xs
structure OOs(K:N4)(H0:Hp)(W:Wd)(σ:L2.St)(H:Hp)(ρ:cQ):Prop where
 t:∀(i:Nat) xss,ρ[i]? = some (SV.oo xss)->∃a bs,σ[i]? = some (some (V.ref a))/\OwnT K H0 W H a bs xss/\∀(j:Nat) ys c,ρ[j]? = some (SV.ow ys)->σ[j]? = some (some (V.ref c))->c∉a::bs
 u:∀(i j:Nat) xss yss,ρ[i]? = some (SV.oo xss)->ρ[j]? = some (SV.oo yss)->i=j
structure SOk(K:N4)(W0:Wd)(H0:Hp)(W:Wd)(σ:L2.St)(H:Hp)(ρ:cQ):Prop where
 ext:Ext W0 H0 W H
 len:ρ.length=σ.length
 d:∀(i:Nat) x,ρ[i]? = some (SV.d x)->∃v:V,σ[i]? = some (some v)/\Rep K W v x
 o:∀(i:Nat) xs,ρ[i]? = some (SV.ow xs)->∃a vs,σ[i]? = some (some (V.ref a))/\H a=some (HO.lst vs)/\W.G a=none/\¬W.Pn a/\H0 a=none/\Reps K W vs xs
 ne:∀(i j:Nat) xs ys a,i≠j->ρ[i]? = some (SV.ow xs)->ρ[j]? = some (SV.ow ys)->σ[i]? = some (some (V.ref a))->σ[j]?≠some (some (V.ref a))
 oo:OOs K H0 W σ H ρ
section
variable{W:Wd}
def SOk.ok(s:SOk K W0 H0 W σ H ρ):WOk W H:=s.ext.ok
theorem Own1.step{b:Addr}(o:Own1 K H0 W H b xs)(x:Ext W H W1 H1):Own1 K H0 W1 H1 b xs:=by
 obtain⟨vs,e2,e3,e4,e5,r⟩:=o;refine⟨vs,x.h b _ e2 e4,?_,λq=>?_,e5,x.reps r⟩
 .cases q:W1.G b with
  |none=>rfl
  |some o=>have:=x.gf b e3 (by rw[q];simp);rw[e2] at this;cases this
 .have:=x.pf b e4 q;rw[e2] at this;cases this
theorem OwnT.step{a:Addr}{bs:List Addr}{xss:List (List D)}(o:OwnT K H0 W H a bs xss)(x:Ext W H W1 H1):OwnT K H0 W1 H1 a bs xss:=by
 refine⟨x.h a _ o.a1 o.a3,?_,λq=>?_,o.a4,o.nd,o.len,λi b e=>let⟨xs,e1,q⟩:=o.row i b e;⟨xs,e1,q.step x⟩⟩
 .cases q:W1.G a with
  |none=>rfl
  |some u=>have:=x.gf a o.a2 (by rw[q];simp);rw[o.a1] at this;cases this
 .have:=x.pf a o.a3 q;rw[o.a1] at this;cases this
theorem OwnT.here{c:Addr}{bs:List Addr}(o:OwnT K H0 W H a bs xss)(h:H c=none):c∉a::bs:=λq=>by
 rcases Yao.mp q with rfl|q
 .rw[o.a1] at h;cases h
 .obtain⟨i,hi,rfl⟩:=YbB.mp q
  obtain⟨xs,_,vs,e,_⟩:=o.row i _ (bR hi);rw[e] at h;cases h
theorem OwnT.noPen{c:Addr}{bs:List Addr}(o:OwnT K H0 W H a bs xss)(h:W.Pn c):c∉a::bs:=λq=>by
 rcases Yao.mp q with rfl|q
 .exact o.a3 h
 .obtain⟨i,hi,rfl⟩:=YbB.mp q
  obtain⟨xs,_,vs,_,_,e,_⟩:=o.row i _ (bR hi);exact e h
theorem OwnT.upd{a c:Addr}{o':HO}{bs:List Addr}{xss:List (List D)}(o:OwnT K H0 W H a bs xss)(h:c∉a::bs):OwnT K H0 W (upd H c o') a bs xss:=by
 have ha:a≠c:=λz=>h (by rw[z];simp);refine⟨by rw[aH ha];exact o.a1,o.a2,o.a3,o.a4,o.nd,o.len,λi b e=>?_⟩;obtain⟨xs,e1,vs,q⟩:=o.row i b e;have hb:b≠c:=λz=>h (by rw[<-z];exact i8 _ (iz e));exact⟨xs,e1,vs,by rw[aH hb];exact q⟩
theorem OwnT.put{a c:Addr}{o':HO}{bs:List Addr}{xss:List (List D)}(o:OwnT K H0 W H a bs xss)(h:c∉a::bs)(hc:W.G c=none):OwnT K H0 (W.put c o') H a bs xss:=by
 have ha:a≠c:=λz=>h (by rw[z];simp);refine⟨o.a1,by unfold Wd.put;dsimp only;rw[aH ha];exact o.a2,o.a3,o.a4,o.nd,o.len,λi b e=>?_⟩;obtain⟨xs,e1,vs,q1,q2,q3,q4,q5⟩:=o.row i b e;have hb:b≠c:=λz=>h (by rw[<-z];exact i8 _ (iz e));exact⟨xs,e1,vs,q1,by unfold Wd.put;dsimp only;rw[aH hb];exact q2,q3,q4,q5.mono (qi hc) λ_ z=>z⟩
theorem OOs.none(h:∀(i:Nat) xss,ρ[i]?≠some (SV.oo xss)):OOs K H0 W σ H ρ:=⟨λi xss e=>N6 e (h i xss),λi j xss yss e=>N6 e (h i xss)⟩
theorem OOs.step(o:OOs K H0 W σ H ρ)(x:Ext W H W1 H1):OOs K H0 W1 σ H1 ρ:=⟨λi xss e=>let⟨a,bs,e1,q,n⟩:=o.t i xss e;⟨a,bs,e1,q.step x,n⟩,o.u⟩
theorem OOs.set{σ':L2.St}(o:OOs K H0 W σ H ρ){i:Nat}{y:SV}(hy:∀xss,y≠.oo xss)(hσ:∀j,i≠j->σ'[j]? = σ[j]?)(hw:∀ys c,y=.ow ys->σ'[i]? = some (some (V.ref c))->∀(j:Nat) xss a bs,i≠j->ρ[j]? = some (SV.oo xss)->σ[j]? = some (some (V.ref a))->OwnT K H0 W H a bs xss->(∀(j:Nat) ys c,ρ[j]? = some (SV.ow ys)->σ[j]? = some (some (V.ref c))->c∉a::bs)->c∉a::bs):OOs K H0 W σ' H (ρ.set i y):=by
 have nt:∀{j:Nat} {xss:List (List D)},(ρ.set i y)[j]? = some (SV.oo xss)->i≠j/\ρ[j]? = some (SV.oo xss):=λ{j xss} e=>by
  by_cases h:i=j
  .subst h
   by_cases hi:i<ρ.length
   .rw[eP hi] at e;cases e;exact N6 rfl (hy xss)
   .rw[eI (by rw[dv];omega)] at e;cases e
  .rw[et h] at e;exact⟨h,e⟩
 refine⟨λj xss e=>?_,λj k xss yss e1 e2=>o.u j k xss yss (nt e1).2 (nt e2).2⟩;obtain⟨h,e'⟩:=nt e;clear e;obtain⟨a,bs,e1,q,n⟩:=o.t j xss e';refine⟨a,bs,by rw[hσ j h];exact e1,q,λk ys c ek ec=>?_⟩
 by_cases hk:i=k
 .subst hk
  by_cases hi:i<ρ.length
  .rw[eP hi] at ek;cases ek;exact hw ys c rfl ec j xss a bs h e' e1 q n
  .rw[eI (by rw[dv];omega)] at ek;cases ek
 .rw[et hk] at ek
  rw[hσ k hk] at ec;exact n k ys c ek ec
theorem SOk.step(s:SOk K W0 H0 W σ H ρ)(x:Ext W H W1 H1):SOk K W0 H0 W1 σ H1 ρ where
 ext:=s.ext.trans x
 len:=s.len
 d:=λi y e=>let⟨v,e1,r⟩:=s.d i y e;⟨v,e1,x.rep r⟩
 o:=λi ys e=>by
  obtain⟨a,vs,e1,e2,e3,e4,e5,r⟩:=s.o i ys e;refine⟨a,vs,e1,x.h a _ e2 e4,?_,λq=>?_,e5,x.reps r⟩
  .cases q:W1.G a with
   |none=>rfl
   |some o=>have:=x.gf a e3 (by rw[q];simp);rw[e2] at this;cases this
  .have:=x.pf a e4 q;rw[e2] at this;cases this
 ne:=s.ne
 oo:=s.oo.step x
end
abbrev Ex:=Str
def ua(K:N4)(W:Wd)(_:Hp)(cls:Value)(dx:Option Addr)(ex:Ex):Prop:=∃C,ik K (gb ex)=some C/\cls=.ref C/\XD W ex dx
def jv(K:N4)(W0:Wd)(H0:Hp)(E:Ex->Prop)(EX:XK):Prop:=∀ex W' H' cls dx,E ex->Ext W0 H0 W' H'->ua K W' H' cls dx ex->EX cls dx H'
abbrev WE:=(Ex->Prop)->cQ->(D->Prop)->Prop
variable{wa wb wc w we wv wo:WE}
abbrev WT:=(Ex->Prop)->cQ->(Bool->Prop)->Prop
variable{w' wt wf:WT}
abbrev WA:=(Ex->Prop)->cQ->(List D->Prop)->Prop
variable{wi:WA}
def RQ(K:N4)(W:Wd)(H:Hp)(Q:VK)(d:D):Prop:=∀v W' H',Ext W H W' H'->Rep K W' v d->Q v H'
structure PX(X:Cx)(EX:XK)(e:Expr)(w:WE):Prop where
 t:∃t,PE X e t/\∀W0 H0 W σ H ρ E Q,SOk X.K W0 H0 W σ H ρ->jv X.K W0 H0 E EX->w E ρ (RQ X.K W H Q)->t σ H Q
 mono:∀E ρ P P',(∀d,P d->P' d)->w E ρ P->w E ρ P'
structure jw(X:Cx)(EX:XK)(e:Expr)(w:WT):Prop where
 t:∃t,PT X e t/\∀W0 H0 W σ H ρ E Q,SOk X.K W0 H0 W σ H ρ->jv X.K W0 H0 E EX->w E ρ (λb=>∀W' H',Ext W H W' H'->Q b H')->t σ H Q
 mono:∀E ρ P P',(∀d,P d->P' d)->w E ρ P->w E ρ P'
structure iW(X:Cx)(EX:XK)(es:List Expr)(w:WA):Prop where
 t:∃t,PA X es t/\∀W0 H0 W σ H ρ E Q,SOk X.K W0 H0 W σ H ρ->jv X.K W0 H0 E EX->w E ρ (λds=>∀vs W' H',Ext W H W' H'->Reps X.K W' vs ds->Q vs H')->t σ H Q
 mono:∀E ρ P P',(∀d,P d->P' d)->w E ρ P->w E ρ P'
structure PXL(X:Cx)(EX:XK)(e:Expr)(w:WA):Prop where
 t:∃t,PE X e t/\∀W0 H0 W σ H ρ E Q,SOk X.K W0 H0 W σ H ρ->jv X.K W0 H0 E EX->
  w E ρ (λds=>∀a vs W' H',Ext W H W' H'->H' a=some (.lst vs)->W'.G a=none->¬W'.Pn a->H a=none->Reps X.K W' vs ds->Q (.ref a) H')->t σ H Q
 mono:∀E ρ P P',(∀d,P d->P' d)->w E ρ P->w E ρ P'
structure Nds where
 nx:cQ->Prop
 rt:D->Prop
 bk:cQ->Prop:=λ_=>False
 ct:cQ->Prop:=λ_=>False
variable{N:Nds}
structure Wle(F W:Wd):Prop where
 g:∀a o,F.G a=some o->W.G a=some o
 p:∀a,F.Pn a->W.Pn a
def Wle.refl(F:Wd):Wle F F:=⟨λ_ _ e=>e,λ_ e=>e⟩
theorem Wle.trans{F W V:Wd}(a:Wle F W)(b:Wle W V):Wle F V:=⟨λx o e=>b.g x o (a.g x o e),λx e=>b.p x (a.p x e)⟩
def Wle.ext{F W:Wd}(a:Wle F W)(x:Ext W H W1 H1):Wle F W1:=a.trans ⟨x.g,x.p⟩
structure BB(K:N4)(W0:Wd)(H0:Hp)(F:Wd)(Dn:jU)(N:Nds):Prop where
 nx:∀W σ H ρ,SOk K W0 H0 W σ H ρ->Wle F W->N.nx ρ->Dn.nx σ H
 rt:∀d v W H,Ext W0 H0 W H->Rep K W v d->N.rt d->Dn.rt v H
 bk:∀W σ H ρ,SOk K W0 H0 W σ H ρ->Wle F W->N.bk ρ->Dn.bk σ H
 ct:∀W σ H ρ,SOk K W0 H0 W σ H ρ->Wle F W->N.ct ρ->Dn.ct σ H
structure Nds.le(N N':Nds):Prop where
 nx:∀ρ,N.nx ρ->N'.nx ρ
 rt:∀d,N.rt d->N'.rt d
 bk:∀ρ,N.bk ρ->N'.bk ρ
 ct:∀ρ,N.ct ρ->N'.ct ρ
def Nds.le.refl(N:Nds):N.le N:=⟨λ_ h=>h,λ_ h=>h,λ_ h=>h,λ_ h=>h⟩
abbrev WS:=(Ex->Prop)->Nds->cQ->Prop
variable{z z' zb:WS}
structure PZ(X:Cx)(EX:XK)(st:Stmt)(z:WS):Prop where
 t:∃t,PS X st t/\∀W0 H0 F W σ H ρ E Dn N,SOk X.K W0 H0 W σ H ρ->Wle F W->jv X.K W0 H0 E EX->BB X.K W0 H0 F Dn N->z E N ρ->t Dn σ H
 mono:∀E ρ N N',N.le N'->z E N ρ->z E N' ρ
structure jc(X:Cx)(EX:XK)(st:List Stmt)(z:WS):Prop where
 t:∃t,PSs X st t/\∀W0 H0 F W σ H ρ E Dn N,SOk X.K W0 H0 W σ H ρ->Wle F W->jv X.K W0 H0 E EX->BB X.K W0 H0 F Dn N->z E N ρ->t Dn σ H
 mono:∀E ρ N N',N.le N'->z E N ρ->z E N' ρ
section
variable{W:Wd}{Q:VK}
theorem RQ.ext(h:RQ K W H Q d)(x:Ext W H W1 H1):RQ K W1 H1 Q d:=λv W' H' y r=>h v W' H' (x.trans y) r
def RQ.now(h:RQ K W H Q d)(ok:WOk W H){v:V}(r:Rep K W v d):Q v H:=h v W H (.refl ok) r
theorem RQ.tup{vs:List V}{ds:List D}(h:RQ K W H Q (.tup ds))(ok:WOk W H)(r:Reps K W vs ds){p:Addr}(hp:H p=none):Q (.ref p) (upd H p (.tup vs)):=by
 have x:=Ext.put (o:=.tup vs) ok hp;exact h _ _ _ x (.tup (by unfold Wd.put;dsimp only;rw[aL]) (x.reps r))
theorem RQ.lst{vs:List V}{ds:List D}(h:RQ K W H Q (.lst ds))(ok:WOk W H)(r:Reps K W vs ds){p:Addr}(hp:H p=none):Q (.ref p) (upd H p (.lst vs)):=by
 have x:=Ext.put (o:=.lst vs) ok hp;exact h _ _ _ x (.lst (by unfold Wd.put;dsimp only;rw[aL]) (x.reps r))
theorem Rep.sqt{a:V}(r:Rep K W a (.tup ds))(ok:WOk W H):∃p vs,a=.ref p/\SqT K H p vs/\Reps K W vs ds:=by
 cases r with
 |tup e r=>exact⟨_,_,rfl,.inl (.inl (ok.g _ _ e)),r⟩
 |ktup e r=>exact⟨_,_,rfl,.inr e,r⟩
theorem Rd.up{u:HO}(r:Rd W.G a u)(ok:WOk W H):Rd H a u:=r.elim (λz=>.inl (ok.g _ _ z)) λ⟨o,z⟩=>.inr ⟨o,ok.g _ _ z⟩
theorem Rep.sql{a:V}(r:Rep K W a (.lst ds))(ok:WOk W H):∃p vs,a=.ref p/\SqL K H p vs/\Reps K W vs ds:=by
 cases r with
 |lst e r=>exact⟨_,_,rfl,.inl (.inl (ok.g _ _ e)),r⟩
theorem Rep.sqs{a:V}(r:Rep K W a (.scr ds))(ok:WOk W H):∃p vs,a=.ref p/\SqL K H p vs/\Reps K W vs ds:=by
 cases r with
 |scr e r=>exact⟨_,_,rfl,e.elim (λ⟨o,e⟩=>.inl (.inr ⟨o,ok.g _ _ e⟩)) .inr,r⟩
end
section
def wN(i:Nat):WE:=λ_ ρ Q=>match ρ[i]? with
 |some (.d x)=>Q x
 |_=>False
theorem aD(i:Nat)(hN:X.N[i]? = some x:=by rfl)(hv:kF X.env.scope x:=by first|exact Or.inl rfl|exact Or.inr (Or.inl rfl)|exact Or.inr (Or.inr rfl))(hd:(x==("__debug__" : Str))=false:=by decide)
  (hcd:(x==("__classdict__" : Str))=false:=by decide):PX X EX (.Name x pos) (wN i):=by
 refine⟨⟨_,c6 hN hv hd hcd,λW0 H0 W σ H ρ E Q s _ h=>?_⟩,λE ρ P P' hp h=>?_⟩
 .unfold wN at h
  split at h
  .rename_i x e
   obtain⟨v,e1,r⟩:=s.d i x e;exact⟨v,e1,h.now s.ok r⟩
  .exact h.elim
 .unfold wN at h ⊢
  split at h
  .exact hp _ h
  .exact h.elim
def wC(d:D):WE:=λ_ _ Q=>Q d
theorem wC.mono:∀(E:Ex->Prop) ρ P P',(∀d,P d->P' d)->wC d E ρ P->wC d E ρ P':=λ_ _ _ _ hp h=>hp _ h
theorem aJ{i j}:PX X EX (.Constant (.int i) j pos) (wC (.int i)):=⟨⟨_,jV,λ_ _ _ _ _ _ _ _ s _ h=>RQ.now h s.ok (.int i)⟩,wC.mono⟩
theorem jd{b j}:PX X EX (.Constant (.bool b) j pos) (wC (.bl b)):=⟨⟨_,u3,λ_ _ _ _ _ _ _ _ s _ h=>RQ.now h s.ok (.bl b)⟩,wC.mono⟩
theorem jx{j}:PX X EX (.Constant .none j pos) (wC .non):=⟨⟨_,rW,λ_ _ _ _ _ _ _ _ s _ h=>RQ.now h s.ok .non⟩,wC.mono⟩
theorem je{x j}:PX X EX (.Constant (.str x) j pos) (wC (.str x)):=⟨⟨_,rX,λ_ _ _ _ _ _ _ _ s _ h=>RQ.now h s.ok (.str x)⟩,wC.mono⟩
theorem BC{v:V}{u:Value}(hm:X.mg x=some u)(r:RelV v u)(rd:∀W,Rep X.K W v d)(hg:Gl X x:=by rfl)(hd:(x==("__debug__" : Str))=false:=by decide):PX X EX (.Name x pos) (wC d):=
 ⟨⟨_,pQ hg hm r hd,λ_ _ _ _ _ _ _ _ s _ h=>RQ.now h s.ok (rd _)⟩,wC.mono⟩
theorem JG{v:V}{u:Value}(hm:X.mg x=none)(hv:bootBuiltins x=some u)(r:RelV v u)(rd:∀W,Rep X.K W v d)(hg:Gl X x:=by rfl)(hn:x≠ "__name__" :=by decide)(hd:(x==("__debug__" : Str))=false:=by decide):PX X EX (.Name x pos) (wC d):=
 ⟨⟨_,pR hg hm hv r hn hd,λ_ _ _ _ _ _ _ _ s _ h=>RQ.now h s.ok (rd _)⟩,wC.mono⟩
end
abbrev G2:=D->D->(D->Prop)->Prop
structure fT(X:Cx)(f:Value->Value->Sem Value)(g:G2):Prop where
 t:∃r,OpR X f r/\∀W H x y dx dy Q,WOk W H->Rep X.K W x dx->Rep X.K W y dy->g dx dy (RQ X.K W H Q)->r x y H Q
 mono:∀x y P P',(∀d,P d->P' d)->g x y P->g x y P'
section
variable{a b:Expr}
def w2(g:G2)(wa wb:WE):WE:=λE ρ Q=>wa E ρ λx=>wb E ρ λy=>g x y Q
theorem w2.mono{g:G2}(ha:PX X EX a wa)(hb:PX X EX b wb)(hg:∀x y P P',(∀d,P d->P' d)->g x y P->g x y P'):∀E ρ P P',(∀d,P d->P' d)->w2 g wa wb E ρ P->w2 g wa wb E ρ P':=
 λE ρ P P' hp h=>ha.mono E ρ _ _ (λx hx=>hb.mono E ρ _ _ (λy hy=>hg x y _ _ hp hy) hx) h
theorem lG{ta tb:TE}{R:V->V->Hp->Prop}{G:D->D->Prop}{W:Wd}{E:Ex->Prop}(hma:∀E ρ P P',(∀d,P d->P' d)->wa E ρ P->wa E ρ P')(hmb:∀E ρ P P',(∀d,P d->P' d)->wb E ρ P->wb E ρ P')
  (ka:∀W0 H0 W σ H ρ E Q,SOk X.K W0 H0 W σ H ρ->jv X.K W0 H0 E EX->wa E ρ (RQ X.K W H Q)->ta σ H Q) (kb:∀W0 H0 W σ H ρ E Q,SOk X.K W0 H0 W σ H ρ->jv X.K W0 H0 E EX->wb E ρ (RQ X.K W H Q)->tb σ H Q)
  (s:SOk X.K W0 H0 W σ H ρ) (eo:jv X.K W0 H0 E EX) (h:wa E ρ λx=>wb E ρ λy=>G x y)
  (k:∀W2 H2 x y dx dy,Ext W H W2 H2->Rep X.K W2 x dx->Rep X.K W2 y dy->G dx dy->R x y H2):ta σ H λx H1=>tb σ H1 λy H2=>R x y H2:=
 ka W0 H0 W σ H ρ E _ s eo (hma E ρ _ _ (λdx hx v W1 H1 x1 r1=>kb W0 H0 W1 σ H1 ρ E _ (s.step x1) eo (hmb E ρ _ _ (λdy hy u W2 H2 x2 r2=>k W2 H2 v u dx dy (x1.trans x2) (x2.rep r1) r2 hy) hx)) h)
theorem aV{op:Operator}{g:G2}(ho:fT X (binaryOp op) g)(ha:PX X EX a wa)(hb:PX X EX b wb):PX X EX (.BinOp a op b pos) (w2 g wa wb):=by
 obtain⟨ta,pa,ka⟩:=ha.t;obtain⟨tb,pb,kb⟩:=hb.t;obtain⟨r,pr,kr⟩:=ho.t;refine⟨⟨_,mC pr pa pb,λW0 H0 W σ H ρ E Q s eo h=>?_⟩,w2.mono ha hb ho.mono⟩;exact lG ha.mono hb.mono ka kb s eo h λW2 H2 x y dx dy x2 rx ry hg=>kr W2 H2 x y dx dy Q x2.ok rx ry (ho.mono _ _ _ _ (λd hd=>RQ.ext hd x2) hg)
theorem lV{g:G2}(ho:fT X (compareOp op) g)(ha:PX X EX a wa)(hb:PX X EX b wb)(hm:behindInMarks op b=false:=by first|exact mE _|with_unfolding_all rfl):PX X EX (.Compare a [op] [b] pos) (w2 g wa wb):=by
 obtain⟨ta,pa,ka⟩:=ha.t;obtain⟨tb,pb,kb⟩:=hb.t;obtain⟨r,pr,kr⟩:=ho.t;refine⟨⟨_,p7 pr pa pb hm,λW0 H0 W σ H ρ E Q s eo h=>?_⟩,w2.mono ha hb ho.mono⟩;exact lG ha.mono hb.mono ka kb s eo h λW2 H2 x y dx dy x2 rx ry hg=>kr W2 H2 x y dx dy Q x2.ok rx ry (ho.mono _ _ _ _ (λd hd=>RQ.ext hd x2) hg)
def isB(Q:Bool->Prop):D->Prop
 |.bl b=>Q b
 |_=>False
theorem isB.mono{Q Q':Bool->Prop}(h:∀b,Q b->Q' b):∀d,isB Q d->isB Q' d
 |.bl b,z=>h b z
 |.non,z=>z|.int _,z=>z|.str _,z=>z|.tup _,z=>z|.lst _,z=>z|.dic,z=>z|.pen,z=>z|.cls _,z=>z|.exc _,z=>z|.ty _,z=>z|.scr _,z=>z
def wT(w:WE):WT:=λE ρ Q=>w E ρ (isB Q)
theorem sX{Q:Bool->Prop}(h:isB Q d):∃b,d=.bl b/\Q b:=by
 cases d with
 |bl b=>exact⟨b,rfl,h⟩
 |_=>exact h.elim
theorem wT.mono{w:WE}(h:∀E ρ P P',(∀d,P d->P' d)->w E ρ P->w E ρ P'):∀E ρ P P',(∀d,P d->P' d)->wT w E ρ P->wT w E ρ P':=λE ρ _ _ hp z=>h E ρ _ _ (isB.mono hp) z
theorem dA{g:G2}(ho:fT X (compareOp op) g)(ha:PX X EX a wa)(hb:PX X EX b wb)(hm:behindInMarks op b=false:=by first|exact mE _|with_unfolding_all rfl):jw X EX (.Compare a [op] [b] pos) (wT (w2 g wa wb)):=by
 obtain⟨ta,pa,ka⟩:=ha.t;obtain⟨tb,pb,kb⟩:=hb.t;obtain⟨r,pr,kr⟩:=ho.t;refine⟨⟨_,p8 pr pa pb hm,λW0 H0 W σ H ρ E Q s eo h=>?_⟩,wT.mono (w2.mono ha hb ho.mono)⟩;refine lG ha.mono hb.mono ka kb s eo h λW2 H2 x y dx dy x2 rx ry hg=>kr W2 H2 x y dx dy _ x2.ok rx ry (ho.mono _ _ _ _ (λd hd v W' H' x' r'=>?_) hg);obtain⟨b,rfl,q⟩:=sX hd;cases r';exact⟨b,rfl,q W' H' (x2.trans x')⟩
theorem Zb(ha:PX X EX a wa)(he:∀whole,isTrue a X.env whole=(do let v <-whole;standAt a.pos;holding [v] (truthy v)):=by intro _;rfl):jw X EX a (wT wa):=by
 obtain⟨ta,pa,ka⟩:=ha.t;refine⟨⟨_,mI pa he,λW0 H0 W σ H ρ E Q s eo h=>?_⟩,wT.mono ha.mono⟩;refine ka W0 H0 W σ H ρ E _ s eo (ha.mono _ _ _ _ (λd hd v W' H' x' r'=>?_) h);obtain⟨b,rfl,q⟩:=sX hd;cases r';exact⟨b,rfl,q W' H' x'⟩
def bW(w:WT):WT:=λE ρ Q=>w E ρ λb=>Q (!b)
theorem jf{w:WT}(ha:jw X EX a w):jw X EX (.UnaryOp .Not a pos) (bW w):=by
 obtain⟨ta,pa,ka⟩:=ha.t;refine⟨⟨_,r8 pa,λW0 H0 W σ H ρ E Q s eo h=>?_⟩,λE ρ P P' hp h=>ha.mono _ _ _ _ (λb hb=>hp _ hb) h⟩;exact ka W0 H0 W σ H ρ E _ s eo h
structure PXW(X:Cx)(EX:XK)(e:Expr)(w:WT):Prop where
 t:∃t,PW X e t/\∀W0 H0 W σ H ρ E Q,SOk X.K W0 H0 W σ H ρ->jv X.K W0 H0 E EX->w E ρ (λb=>∀W' H',Ext W H W' H'->Q b H')->t σ H Q
 mono:∀E ρ P P',(∀d,P d->P' d)->w E ρ P->w E ρ P'
def PXW.pxt{w:WT}(h:PXW X EX a w):jw X EX a w:=let⟨t,p,k⟩:=h.t;⟨⟨t,p.pt,k⟩,h.mono⟩
variable{rest:List Expr}
def eY(w w':WT):WT:=λE ρ Q=>w E ρ λb=>if b=true then w' E ρ Q else Q false
def gB(w w':WT):WT:=λE ρ Q=>w E ρ λb=>if b=true then Q true else w' E ρ Q
theorem JH{w:WT}(ha:jw X EX a w):PXW X EX (.BoolOp .And [a] pos) w:=let⟨t,p,k⟩:=ha.t;⟨⟨t,pS p,k⟩,ha.mono⟩
theorem qj{w:WT}(ha:jw X EX a w):PXW X EX (.BoolOp .Or [a] pos) w:=let⟨t,p,k⟩:=ha.t;⟨⟨t,rY p,k⟩,ha.mono⟩
theorem JI{w:WT}(ha:jw X EX a w)(hb:PXW X EX (.BoolOp .And (b::rest) pos) w'):PXW X EX (.BoolOp .And (a::b::rest) pos) (eY w w'):=by
 obtain⟨ta,pa,ka⟩:=ha.t;obtain⟨tb,pb,kb⟩:=hb.t;refine⟨⟨_,rZ pa pb,λW0 H0 W σ H ρ E Q s eo h=>?_⟩,λE ρ P P' hp h=>ha.mono _ _ _ _ (λb hb'=>?_) h⟩
 .refine ka W0 H0 W σ H ρ E _ s eo (ha.mono _ _ _ _ (λb hb' W1 H1 x1=>?_) h)
  cases b with
  |true=>
   rw[if_pos rfl] at hb' ⊢;exact kb W0 H0 W1 σ H1 ρ E _ (s.step x1) eo (hb.mono _ _ _ _ (λb hq W' H' x'=>hq W' H' (x1.trans x')) hb')
  |false=>rw[if_neg (by decide)] at hb' ⊢;exact hb' W1 H1 x1
 .cases b with
  |true=>rw[if_pos rfl] at hb' ⊢;exact hb.mono _ _ _ _ hp hb'
  |false=>rw[if_neg (by decide)] at hb' ⊢;exact hp _ hb'
theorem qk{w:WT}(ha:jw X EX a w)(hb:PXW X EX (.BoolOp .Or (b::rest) pos) w'):PXW X EX (.BoolOp .Or (a::b::rest) pos) (gB w w'):=by
 obtain⟨ta,pa,ka⟩:=ha.t;obtain⟨tb,pb,kb⟩:=hb.t;refine⟨⟨_,u4 pa pb,λW0 H0 W σ H ρ E Q s eo h=>?_⟩,λE ρ P P' hp h=>ha.mono _ _ _ _ (λb hb'=>?_) h⟩
 .refine ka W0 H0 W σ H ρ E _ s eo (ha.mono _ _ _ _ (λb hb' W1 H1 x1=>?_) h)
  cases b with
  |true=>rw[if_pos rfl] at hb' ⊢;exact hb' W1 H1 x1
  |false=>
   rw[if_neg (by decide)] at hb' ⊢;exact kb W0 H0 W1 σ H1 ρ E _ (s.step x1) eo (hb.mono _ _ _ _ (λb hq W' H' x'=>hq W' H' (x1.trans x')) hb')
 .cases b with
  |true=>rw[if_pos rfl] at hb' ⊢;exact hp _ hb'
  |false=>rw[if_neg (by decide)] at hb' ⊢;exact hb.mono _ _ _ _ hp hb'
end
section
variable{p:Pos}{a b:Expr}{rest:List Expr}
def gC(wa wb:WE):WE:=λE ρ Q=>wa E ρ (isB λb=>if b=true then wb E ρ Q else Q (.bl false))
def fU(wa wb:WE):WE:=λE ρ Q=>wa E ρ (isB λb=>if b=true then Q (.bl true) else wb E ρ Q)
def kf(wa:WE):WE:=λE ρ Q=>wa E ρ (isB λb=>Q (.bl (!b)))
theorem nN{op}(h:PX X EX a wa):PX X EX (.BoolOp op [a] pos) wa:=let⟨t,q,k⟩:=h.t;⟨⟨t,sd q,k⟩,h.mono⟩
theorem nO(ha:PX X EX a wa)(hb:PX X EX (.BoolOp .And (b::rest) pos) wb):PX X EX (.BoolOp .And (a::b::rest) pos) (gC wa wb):=by
 obtain⟨ta,pa,ka⟩:=ha.t;obtain⟨tb,pb,kb⟩:=hb.t;refine⟨⟨_,se pa pb,λW0 H0 W σ H ρ E Q s eo h=>?_⟩,λE ρ P P' hp h=>ha.mono _ _ _ _ (isB.mono λb hb'=>?_) h⟩
 .refine ka W0 H0 W σ H ρ E _ s eo (ha.mono _ _ _ _ (λd hd v W1 H1 x1 r1=>?_) h)
  obtain⟨b,rfl,q⟩:=sX hd;cases r1;refine⟨b,rfl,?_⟩;cases b with
  |true=>rw[if_pos rfl] at q ⊢;exact kb W0 H0 W1 σ H1 ρ E _ (s.step x1) eo (hb.mono _ _ _ _ (λd hd=>RQ.ext hd x1) q)
  |false=>rw[if_neg (by decide)] at q ⊢;exact q _ W1 H1 x1 (.bl false)
 .cases b with
  |true=>rw[if_pos rfl] at hb' ⊢;exact hb.mono _ _ _ _ hp hb'
  |false=>rw[if_neg (by decide)] at hb' ⊢;exact hp _ hb'
theorem EU(ha:PX X EX a wa):PX X EX (.UnaryOp .Not a pos) (kf wa):=by
 obtain⟨ta,pa,ka⟩:=ha.t;refine⟨⟨_,sf pa,λW0 H0 W σ H ρ E Q s eo h=>?_⟩,λE ρ P P' hp h=>ha.mono _ _ _ _ (isB.mono λb hb'=>hp _ hb') h⟩;refine ka W0 H0 W σ H ρ E _ s eo (ha.mono _ _ _ _ (λd hd v W1 H1 x1 r1=>?_) h);obtain⟨b,rfl,q⟩:=sX hd;cases r1;exact⟨b,rfl,q _ W1 H1 x1 (.bl _)⟩
def jK(wt:WT)(wa wb:WE):WE:=λE ρ Q=>wt E ρ λb=>if b=true then wa E ρ Q else wb E ρ Q
theorem BD(hc:jw X EX c wt)(ha:PX X EX a wa)(hb:PX X EX b wb):PX X EX (.IfExp c a b pos) (jK wt wa wb):=by
 obtain⟨ta,pa,ka⟩:=ha.t;obtain⟨tb,pb,kb⟩:=hb.t;obtain⟨tc,pc,kc⟩:=hc.t;refine⟨⟨_,mw pc pa pb,λW0 H0 W σ H ρ E Q s eo h=>?_⟩,λE ρ P P' hp h=>hc.mono _ _ _ _ (λb hb'=>?_) h⟩
 .refine kc W0 H0 W σ H ρ E _ s eo (hc.mono _ _ _ _ (λb q W1 H1 x1=>?_) h)
  cases b with
  |true=>rw[if_pos rfl] at q ⊢;exact ka W0 H0 W1 σ H1 ρ E _ (s.step x1) eo (ha.mono _ _ _ _ (λd hd=>RQ.ext hd x1) q)
  |false=>rw[if_neg (by decide)] at q ⊢;exact kb W0 H0 W1 σ H1 ρ E _ (s.step x1) eo (hb.mono _ _ _ _ (λd hd=>RQ.ext hd x1) q)
 .cases b with
  |true=>rw[if_pos rfl] at hb' ⊢;exact ha.mono _ _ _ _ hp hb'
  |false=>rw[if_neg (by decide)] at hb' ⊢;exact hb.mono _ _ _ _ hp hb'
def Zbj(g g':G2)(wa wb wc:WE):WE:=λE ρ Q=>wa E ρ λx=>wb E ρ λy=>g x y (isB λk=>if k=true then wc E ρ λz=>g' y z Q else Q (.bl false))
theorem Zbj.mono{g g':G2}(ha:PX X EX a wa)(hb:PX X EX b wb)(hc:PX X EX c wc)(hg:∀x y P P',(∀d,P d->P' d)->g x y P->g x y P')(hg':∀x y P P',(∀d,P d->P' d)->g' x y P->g' x y P') :
  ∀E ρ P P',(∀d,P d->P' d)->Zbj g g' wa wb wc E ρ P->Zbj g g' wa wb wc E ρ P':=λE ρ P P' hp h=>
 ha.mono _ _ _ _ (λx hx=>hb.mono _ _ _ _ (λy hy=>hg x y _ _ (isB.mono λk hk=>by
  cases k with
  |true=>rw[if_pos rfl] at hk ⊢;exact hc.mono _ _ _ _ (λz hz=>hg' y z _ _ hp hz) hk
  |false=>rw[if_neg (by decide)] at hk ⊢;exact hp _ hk) hy) hx) h
theorem EV{op':CmpOp}{g g':G2}(ho:fT X (compareOp op) g)(ho':fT X (compareOp op') g')(ha:PX X EX a wa)(hb:PX X EX b wb)(hc:PX X EX c wc)
  (hm:lastMarks [op,op'] [b,c]=false:=by with_unfolding_all rfl):PX X EX (.Compare a [op,op'] [b,c] pos) (Zbj g g' wa wb wc):=by
 obtain⟨ta,pa,ka⟩:=ha.t;obtain⟨tb,pb,kb⟩:=hb.t;obtain⟨tc,pc,kc⟩:=hc.t;obtain⟨r,pr,kr⟩:=ho.t;obtain⟨r',pr',kr'⟩:=ho'.t;refine⟨⟨_,mG pr pr' pa pb pc hm,λW0 H0 W σ H ρ E Q s eo h=>?_⟩,Zbj.mono ha hb hc ho.mono ho'.mono⟩;refine lG ha.mono hb.mono ka kb s eo h λW2 H2 x y dx dy x2 rx ry hg=>kr W2 H2 x y dx dy _ x2.ok rx ry (ho.mono _ _ _ _ (λd hd v W3 H3 x3 r3=>?_) hg);obtain⟨k,rfl,q⟩:=sX hd;cases r3;refine⟨k,rfl,?_⟩;cases k with
 |true=>
  rw[if_pos rfl] at q ⊢;refine kc W0 H0 W3 σ H3 ρ E _ (s.step (x2.trans x3)) eo (hc.mono _ _ _ _ (λdz hz w W4 H4 x4 r4=>?_) q);exact kr' W4 H4 y w dy dz Q x4.ok (x4.rep (x3.rep ry)) r4 (ho'.mono _ _ _ _ (λd hd=>RQ.ext hd (x2.trans (x3.trans x4))) hz)
 |false=>rw[if_neg (by decide)] at q ⊢;exact q _ W3 H3 (x2.trans x3) (.bl false)
theorem JJ{op':CmpOp}{g g':G2}(ho:fT X (compareOp op) g)(ho':fT X (compareOp op') g')(ha:PX X EX a wa)(hb:PX X EX b wb)(hc:PX X EX c wc)
  (hm:lastMarks [op,op'] [b,c]=false:=by with_unfolding_all rfl):jw X EX (.Compare a [op,op'] [b,c] pos) (wT (Zbj g g' wa wb wc)):=by
 obtain⟨ta,pa,ka⟩:=ha.t;obtain⟨tb,pb,kb⟩:=hb.t;obtain⟨tc,pc,kc⟩:=hc.t;obtain⟨r,pr,kr⟩:=ho.t;obtain⟨r',pr',kr'⟩:=ho'.t;refine⟨⟨_,mH pr pr' pa pb pc hm,λW0 H0 W σ H ρ E Q s eo h=>?_⟩,wT.mono (Zbj.mono ha hb hc ho.mono ho'.mono)⟩;refine lG ha.mono hb.mono ka kb s eo h λW2 H2 x y dx dy x2 rx ry hg=>kr W2 H2 x y dx dy _ x2.ok rx ry (ho.mono _ _ _ _ (λd hd v W3 H3 x3 r3=>?_) hg);obtain⟨k,rfl,q⟩:=sX hd;cases r3;refine⟨k,rfl,?_⟩;cases k with
 |true=>
  rw[if_pos rfl] at q ⊢;refine kc W0 H0 W3 σ H3 ρ E _ (s.step (x2.trans x3)) eo (hc.mono _ _ _ _ (λdz hz w W4 H4 x4 r4=>?_) q);refine kr' W4 H4 y w dy dz _ x4.ok (x4.rep (x3.rep ry)) r4 (ho'.mono _ _ _ _ (λd hd v5 W5 H5 x5 r5=>?_) hz);obtain⟨b,rfl,q'⟩:=sX hd;cases r5;exact⟨b,rfl,q' W5 H5 (x2.trans (x3.trans (x4.trans x5)))⟩
 |false=>rw[if_neg (by decide)] at q ⊢;exact⟨false,rfl,q W3 H3 (x2.trans x3)⟩
def aA:WA:=λ_ _ Q=>Q []
def aC(w:WE)(t:WA):WA:=λE ρ Q=>w E ρ λx=>t E ρ λxs=>Q (x::xs)
theorem aG:iW X EX [] aA:=⟨⟨_,j3,λ_ _ W _ H _ _ _ s _ h=>h [] W H (.refl s.ok) .nil⟩,λ_ _ _ _ hp h=>hp _ h⟩
theorem Za{t:WA}(ha:PX X EX e w)(hr:iW X EX es t)(hs:starEach (e::es) X.env=(false,eval e X.env)::starEach es X.env:=by rfl):iW X EX (e::es) (aC w t):=by
 obtain⟨ta,pa,ka⟩:=ha.t;obtain⟨tr,pr,kr⟩:=hr.t;refine⟨⟨_,iJ pa pr hs,λW0 H0 W σ H ρ E Q s eo h=>?_⟩,λE ρ P P' hp h=>ha.mono _ _ _ _ (λd hd=>hr.mono _ _ _ _ (λds hds=>hp _ hds) hd) h⟩;refine ka W0 H0 W σ H ρ E _ s eo (ha.mono _ _ _ _ (λd hd v W1 H1 x1 r1=>?_) h);exact kr W0 H0 W1 σ H1 ρ E _ (s.step x1) eo (hr.mono _ _ _ _ (λds hds vs W2 H2 x2 r2=>hds _ W2 H2 (x1.trans x2) (.cons (x2.rep r1) r2)) hd)
def aO:Nat:=10000
def nQ(h:n<=aO):n<=sizeLine:=f8 h (by rw[sizeLine_eq];decide)
def aZ(t:WA):WE:=λE ρ Q=>t E ρ λxs=>xs.length<=aO/\Q (.tup xs)
def bL(t:WA):WA:=λE ρ Q=>t E ρ λxs=>xs.length<=aO/\Q xs
theorem dI{t:WA}{x1}(h:iW X EX es t):PX X EX (.Tuple es x1 pos) (aZ t):=by
 obtain⟨ta,pa,ka⟩:=h.t;refine⟨⟨_,sK pa,λW0 H0 W σ H ρ E Q s eo hw=>?_⟩,λE ρ P P' hp z=>h.mono _ _ _ _ (λds hds=>⟨hds.1,hp _ hds.2⟩) z⟩;refine ka W0 H0 W σ H ρ E _ s eo (h.mono _ _ _ _ (λds hds vs W1 H1 x1 r1=>?_) hw);refine⟨by rw[r1.length];exact nQ hds.1,λq hq=>?_⟩;exact(RQ.ext hds.2 x1).tup x1.ok r1 hq
theorem gO{t:WA}(h:iW X EX es t):PXL X EX (.List es pos) (bL t):=by
 obtain⟨ta,pa,ka⟩:=h.t;refine⟨⟨_,sL pa,λW0 H0 W σ H ρ E Q s eo hw=>?_⟩,λE ρ P P' hp z=>h.mono _ _ _ _ (λds hds=>⟨hds.1,hp _ hds.2⟩) z⟩;refine ka W0 H0 W σ H ρ E _ s eo (h.mono _ _ _ _ (λds hds vs W1 H1 x1 r1=>?_) hw);refine⟨by rw[r1.length];exact nQ hds.1,λq hq=>?_⟩;exact hds.2 q vs W1 _ (x1.trans (.new x1.ok hq)) aL (x1.ok.fresh hq).1 (x1.ok.fresh hq).2 (x1.isN hq) r1
def wL(t:WA):WE:=λE ρ Q=>t E ρ λds=>Q (.lst ds)
theorem PXL.px{t:WA}(h:PXL X EX e t):PX X EX e (wL t):=by
 obtain⟨ta,pa,ka⟩:=h.t;refine⟨⟨_,pa,λW0 H0 W σ H ρ E Q s eo hw=>?_⟩,λE ρ P P' hp z=>h.mono _ _ _ _ (λds hds=>hp _ hds) z⟩;refine ka W0 H0 W σ H ρ E _ s eo (h.mono _ _ _ _ (λds hds a vs W1 H1 x1 e1 e2 e3 e4 r1=>?_) hw);refine hds _ _ _ (x1.pub e4 e1 e3 e2) (.lst (by unfold Wd.put;dsimp only;rw[aL]) (r1.mono (qi e2) λ_ z=>z))
structure d8(X:Cx)(f:Value)(g:List D->(D->Prop)->Prop):Prop where
 t:∃r,CallR X f r/\∀W H vs ds Q,WOk W H->Reps X.K W vs ds->g ds (RQ X.K W H Q)->r vs H Q
 mono:∀ds P P',(∀d,P d->P' d)->g ds P->g ds P'
structure qV(X:Cx)(f:Value)(g:List D->(List D->Prop)->Prop):Prop where
 t:∃r,CallR X f r/\∀W H vs ds Q,WOk W H->Reps X.K W vs ds->g ds (λes=>∀a us,H a=none->Reps X.K W us es->Q (.ref a) (upd H a (.lst us)))->r vs H Q
 mono:∀ds P P',(∀d,P d->P' d)->g ds P->g ds P'
def wB(g:List D->(D->Prop)->Prop)(t:WA):WE:=λE ρ Q=>t E ρ λds=>g ds Q
def aB(g:List D->(List D->Prop)->Prop)(t:WA):WA:=λE ρ Q=>t E ρ λds=>g ds Q
variable{id T:String}{t:WA}
theorem cD(hc:d8 X (.builtin id) g)(hm:X.mg x=none)(hv:bootBuiltins x=some (.builtin id))(ha:iW X EX (e::es) t)(hg:Gl X x:=by rfl)(hn:x≠ "__name__" :=by decide)(hdb:(x==("__debug__" : Str))=false:=by decide)
  (he:starEach (e::es) X.env=(false,eval e X.env)::starEach es X.env:=by rfl) (hpl:(backTo pos (starEach es X.env)).any (·.1)=false:=by rfl):PX X EX (.Call (.Name x p) (e::es) [] pos) (wB g t):=by
 obtain⟨ta,pa,ka⟩:=ha.t;obtain⟨r,pr,kr⟩:=hc.t;refine⟨⟨_,mK pr hg hm hv pa hn hdb he hpl,λW0 H0 W σ H ρ E Q s eo h=>?_⟩,λE ρ P P' hp z=>ha.mono _ _ _ _ (λds hds=>hc.mono _ _ _ hp hds) z⟩;exact ka W0 H0 W σ H ρ E _ s eo (ha.mono _ _ _ _ (λds hds vs W1 H1 x1 r1=>kr W1 H1 vs ds Q x1.ok r1 (hc.mono _ _ _ (λd hd=>RQ.ext hd x1) hds)) h)
theorem lW(hc:d8 X (.type T) g)(hm:X.mg x=none)(hv:bootBuiltins x=some (.type T))(ha:iW X EX (e::es) t)(hg:Gl X x:=by rfl)(hn:x≠ "__name__" :=by decide)(hdb:(x==("__debug__" : Str))=false:=by decide)
  (he:starEach (e::es) X.env=(false,eval e X.env)::starEach es X.env:=by rfl) (hpl:(backTo pos (starEach es X.env)).any (·.1)=false:=by rfl):PX X EX (.Call (.Name x p) (e::es) [] pos) (wB g t):=by
 obtain⟨ta,pa,ka⟩:=ha.t;obtain⟨r,pr,kr⟩:=hc.t;refine⟨⟨_,ii pr hg hm hv pa hn hdb he hpl,λW0 H0 W σ H ρ E Q s eo h=>?_⟩,λE ρ P P' hp z=>ha.mono _ _ _ _ (λds hds=>hc.mono _ _ _ hp hds) z⟩;exact ka W0 H0 W σ H ρ E _ s eo (ha.mono _ _ _ _ (λds hds vs W1 H1 x1 r1=>kr W1 H1 vs ds Q x1.ok r1 (hc.mono _ _ _ (λd hd=>RQ.ext hd x1) hds)) h)
theorem yZ{g:List D->(List D->Prop)->Prop}(hc:qV X (.type T) g)(hm:X.mg x=none)(hv:bootBuiltins x=some (.type T))(ha:iW X EX (e::es) t)(hg:Gl X x:=by rfl)(hn:x≠ "__name__" :=by decide)(hdb:(x==("__debug__" : Str))=false:=by decide)
  (he:starEach (e::es) X.env=(false,eval e X.env)::starEach es X.env:=by rfl) (hpl:(backTo pos (starEach es X.env)).any (·.1)=false:=by rfl):PXL X EX (.Call (.Name x p) (e::es) [] pos) (aB g t):=by
 obtain⟨ta,pa,ka⟩:=ha.t;obtain⟨r,pr,kr⟩:=hc.t;refine⟨⟨_,ii pr hg hm hv pa hn hdb he hpl,λW0 H0 W σ H ρ E Q s eo h=>?_⟩,λE ρ P P' hp z=>ha.mono _ _ _ _ (λds hds=>hc.mono _ _ _ hp hds) z⟩;refine ka W0 H0 W σ H ρ E _ s eo (ha.mono _ _ _ _ (λds hds vs W1 H1 x1 r1=>kr W1 H1 vs ds Q x1.ok r1 (hc.mono _ _ _ (λes' hd a us hn' r2=>?_) hds)) h);exact hd a us W1 _ (x1.trans (.new x1.ok hn')) aL (x1.ok.fresh hn').1 (x1.ok.fresh hn').2 (x1.isN hn') r2
abbrev bK:=List D->(Ex->Prop)->(D->Prop)->Prop
def lX(S:bK):Prop:=∀ds E E' Q Q',(∀ex,E ex->E' ex)->(∀d,Q d->Q' d)->S ds E Q->S ds E' Q'
def fV(K:N4)(S:bK):Sp:=λvs H Q EX=>∃ds W,WOk W H/\Reps K W vs ds/\S ds (λex=>∀W' H' cls dx,Ext W H W' H'->ua K W' H' cls dx ex->EX cls dx H') (RQ K W H Q)
def wF(S:bK)(t:WA):WE:=λE ρ Q=>t E ρ λds=>S ds E Q
theorem JK{CX:lT}{S:bK}(F:FnOk X.prog X.w X.K X.mg X.base CX k f fd ps (fV X.K S))(hS:lX S)(hr:Room k X.A)(hm:X.mg x=some (.ref f))(hk:PySem.W.keepIn X.K (.ref f)=true)(hb:Binds X.K fd ps [])
  (hx:cc CX X EX) (ha:iW X EX (e::es) t) (hg:Gl X x:=by rfl) (hdb:(x==("__debug__" : Str))=false:=by decide) (he:starEach (e::es) X.env=(false,eval e X.env)::starEach es X.env:=by rfl) (hpl:(backTo pos (starEach es X.env)).any (·.1)=false:=by rfl) :
  PX X EX (.Call (.Name x p) (e::es) [] pos) (wF S t):=by
 obtain⟨ta,pa,ka⟩:=ha.t;refine⟨⟨_,kK F hr hg hm hk hb .nil hx pa hdb he hpl,λW0 H0 W σ H ρ E Q s eo h=>?_⟩,λE ρ P P' hp z=>ha.mono _ _ _ _ (λds hds=>hS _ _ _ _ _ (λ_ q=>q) hp hds) z⟩;refine ka W0 H0 W σ H ρ E _ s eo (ha.mono _ _ _ _ (λds hds vs W1 H1 x1 r1=>?_) h);refine⟨ds,W1,x1.ok,by rw[rG];exact r1,hS _ _ _ _ _ (λex hex W' H' cls dx x' r'=>?_) (λd hd=>RQ.ext hd x1) hds⟩;exact eo ex W' H' cls dx hex (s.ext.trans (x1.trans x')) r'
structure BE(X:Cx)(g:G2):Prop where
 t:∃r,IxR X r/\∀W H x y dx dy Q,WOk W H->Rep X.K W x dx->Rep X.K W y dy->g dx dy (RQ X.K W H Q)->r x y H Q
 mono:∀x y P P',(∀d,P d->P' d)->g x y P->g x y P'
theorem bE{g:G2}(ho:BE X g)(ha:PX X EX a wa)(hb:PX X EX b wb)(hs:iM b:=by exact λ_ _=>rfl):PX X EX (.Subscript a b pos) (w2 g wa wb):=by
 obtain⟨ta,pa,ka⟩:=ha.t;obtain⟨tb,pb,kb⟩:=hb.t;obtain⟨r,pr,kr⟩:=ho.t;refine⟨⟨_,qQ pr pa pb hs,λW0 H0 W σ H ρ E Q s eo h=>?_⟩,w2.mono ha hb ho.mono⟩;exact lG ha.mono hb.mono ka kb s eo h λW2 H2 x y dx dy x2 rx ry hg=>kr W2 H2 x y dx dy Q x2.ok rx ry (ho.mono _ _ _ _ (λd hd=>RQ.ext hd x2) hg)
structure EW(X:Cx)(f:Value->Sem Value)(g:D->(D->Prop)->Prop):Prop where
 t:∃r,yN X f r/\∀W H x dx Q,WOk W H->Rep X.K W x dx->g dx (RQ X.K W H Q)->r x H Q
 mono:∀x P P',(∀d,P d->P' d)->g x P->g x P'
def w1(g:D->(D->Prop)->Prop)(wa:WE):WE:=λE ρ Q=>wa E ρ λx=>g x Q
theorem Ze{op:UnaryOp}{g:D->(D->Prop)->Prop}(ho:EW X (unaryOp op) g)(ha:PX X EX a wa):PX X EX (.UnaryOp op a pos) (w1 g wa):=by
 obtain⟨ta,pa,ka⟩:=ha.t;obtain⟨r,pr,kr⟩:=ho.t;refine⟨⟨_,qM pr pa,λW0 H0 W σ H ρ E Q s eo h=>?_⟩,λE ρ P P' hp z=>ha.mono _ _ _ _ (λd hd=>ho.mono _ _ _ hp hd) z⟩;exact ka W0 H0 W σ H ρ E _ s eo (ha.mono _ _ _ _ (λd hd v W1 H1 x1 r1=>kr W1 H1 v d Q x1.ok r1 (ho.mono _ _ _ (λd hd=>RQ.ext hd x1) hd)) h)
structure ub(X:Cx)(EX:XK)(e:Option Expr)(w:(Ex->Prop)->cQ->(Option Int->Prop)->Prop):Prop where
 t:∃t,PO X e t/\∀W0 H0 W σ H ρ E Q,SOk X.K W0 H0 W σ H ρ->jv X.K W0 H0 E EX->w E ρ (λo=>∀W' H',Ext W H W' H'->Q o H')->t σ H Q
 mono:∀E ρ P P',(∀d,P d->P' d)->w E ρ P->w E ρ P'
def isI(Q:Int->Prop):D->Prop
 |.int i=>Q i
 |_=>False
theorem isI.mono{Q Q':Int->Prop}(h:∀b,Q b->Q' b):∀d,isI Q d->isI Q' d
 |.int b,z=>h b z
 |.non,z=>z|.bl _,z=>z|.str _,z=>z|.tup _,z=>z|.lst _,z=>z|.dic,z=>z|.pen,z=>z|.cls _,z=>z|.exc _,z=>z|.ty _,z=>z|.scr _,z=>z
theorem nR{Q:Int->Prop}(h:isI Q d):∃b,d=.int b/\Q b:=by
 cases d with
 |int b=>exact⟨b,rfl,h⟩
 |_=>exact h.elim
def eZ:(Ex->Prop)->cQ->(Option Int->Prop)->Prop:=λ_ _ Q=>Q none
def dJ(w:WE):(Ex->Prop)->cQ->(Option Int->Prop)->Prop:=λE ρ Q=>w E ρ (isI λi=>Q (some i))
theorem jL:ub X EX none eZ:=⟨⟨_,qb,λ_ _ W _ H _ _ _ s _ h=>h W H (.refl s.ok)⟩,λ_ _ _ _ hp h=>hp _ h⟩
theorem fP(ha:PX X EX a wa):ub X EX (some a) (dJ wa):=by
 obtain⟨ta,pa,ka⟩:=ha.t;refine⟨⟨_,qc pa,λW0 H0 W σ H ρ E Q s eo h=>?_⟩,λE ρ P P' hp z=>ha.mono _ _ _ _ (isI.mono λi hi=>hp _ hi) z⟩;refine ka W0 H0 W σ H ρ E _ s eo (ha.mono _ _ _ _ (λd hd v W1 H1 x1 r1=>?_) h);obtain⟨i,rfl,q⟩:=nR hd;cases r1;exact⟨i,rfl,q W1 H1 x1⟩
def bA{α:Type}(xs:List α)(lo hi:Option Int):List α:=(xs.drop (HT.sIx xs.length 0 lo)).take (HT.sIx xs.length xs.length hi-HT.sIx xs.length 0 lo)
def gCut(x:D)(lo hi:Option Int)(Q:D->Prop):Prop:=match x with
 |.tup xs=>Q (.tup (bA xs lo hi))
 |.lst xs=>Q (.lst (bA xs lo hi))
 |.scr xs=>Q (.lst (bA xs lo hi))
 |_=>False
end
variable{S:bK}
def Bd(i:Int):Prop:=i.natAbs<2^8990
theorem Bd.log{i:Int}(h:Bd i):i.natAbs.log2<8990:=by
 by_cases h0:i.natAbs=0
 .rw[h0];decide
 .exact(Nat.log2_lt h0).mpr h
theorem Bd.bits{i:Int}(h:Bd i):Builtin.Int.intBits i<=2^20:=by
 unfold Builtin.Int.intBits;have:=h.log;have e:(2:Nat)^20=1048576:=by decide
 split<;>omega
def qW(i j:Int):Prop:=Bd i/\Bd j
def BF(_ j:Int):Prop:=j≠0/\Bd j
section
theorem Zpk:OpR X (binaryOp .Mult) (rI qW λi j=>.int (i*j)):=yP λ_ _ _ _ _ _ _ hc q=>mul_int q (IntMulOk.of_bits hc.1.bits hc.2.bits)
theorem JL:OpR X (binaryOp .FloorDiv) (rI BF λi j=>.int (i.fdiv j)):=yP λ_ _ _ _ _ _ _ hc q=>floordiv_int hc.1 q (.inl (PyProof.noPylong_of_log2 (by have:=hc.2.log;omega)))
def gI2(C:Int->Int->Prop)(kd:Int->Int->D):G2:=λx y Q=>match x,y with
 |.int i,.int j=>C i j/\Q (kd i j)
 |_,_=>False
theorem gI2.mono{C:Int->Int->Prop}{kd:Int->Int->D}:∀x y P P',(∀d,P d->P' d)->gI2 C kd x y P->gI2 C kd x y P':=λx y P P' hp hg=>by
 unfold gI2 at hg ⊢;split at hg
 .exact⟨hg.1,hp _ hg.2⟩
 .exact hg.elim
theorem gI2.get{C:Int->Int->Prop}{kd:Int->Int->D}{x:D}(h:gI2 C kd x y Q):∃i j,x=.int i/\y=.int j/\C i j/\Q (kd i j):=by
 unfold gI2 at h;split at h
 .exact⟨_,_,rfl,rfl,h.1,h.2⟩
 .exact h.elim
theorem qX{f:Value->Value->Sem Value}{C:Int->Int->Prop}{k:Int->Int->V}{kd:Int->Int->D}(h:OpR X f (rI C k))(hk:∀W i j,Rep X.K W (k i j) (kd i j)):fT X f (gI2 C kd):=
 ⟨⟨_,h,λW H x y dx dy Q ok rx ry hg=>by
  obtain⟨i,j,rfl,rfl,hc,q⟩:=hg.get;cases rx;cases ry;exact⟨_,_,rfl,rfl,hc,q.now ok (hk _ _ _)⟩⟩,gI2.mono⟩
theorem uc{f:Value->Value->Sem Value}{k:Int->Int->V}(h:OpR X f (pV k)):OpR X f (rI (λ_ _=>True) k):=λpins s σ H x y v u Q I rx ry ⟨i,j,e1,e2,_,q⟩=>h pins s σ H x y v u Q I rx ry ⟨i,j,e1,e2,q⟩
def ge:fT X (binaryOp .Sub) (gI2 (λ_ _=>True) λi j=>.int (i-j)):=qX (uc sF) λ_ _ _=>.int _
def ql:fT X (binaryOp .Mod) (gI2 (λ_ j=>j≠0) λi j=>.int (i.fmod j)):=qX pX λ_ _ _=>.int _
def lY:fT X (binaryOp .FloorDiv) (gI2 BF λi j=>.int (i.fdiv j)):=qX JL λ_ _ _=>.int _
def EY:fT X (binaryOp .Pow) (gI2 sD λi j=>.int (i^j.toNat)):=qX sG λ_ _ _=>.int _
def JM:OpR X (compareOp .Lt) (pV λi j=>.bl (decide (i<j))):=pW λ_ _ _ _ _ _ _ q=>lt_int q
def JN:OpR X (compareOp .LtE) (pV λi j=>.bl (decide (i<=j))):=pW λ_ _ _ _ _ _ _ q=>le_int q
def JO:OpR X (compareOp .Gt) (pV λi j=>.bl (decide (i>j))):=pW λ_ _ _ _ _ _ _ q=>gt_int q
theorem JP:OpR X (compareOp .GtE) (pV λi j=>.bl (decide (i ≥ j))):=pW λ_ _ _ _ _ _ _ q=>ge_int q
theorem sY:fT X (compareOp .Lt) (gI2 (λ_ _=>True) λi j=>.bl (decide (i<j))):=qX (uc JM) λ_ _ _=>.bl _
theorem kj:fT X (compareOp .LtE) (gI2 (λ_ _=>True) λi j=>.bl (decide (i<=j))):=qX (uc JN) λ_ _ _=>.bl _
theorem wu:fT X (compareOp .Gt) (gI2 (λ_ _=>True) λi j=>.bl (decide (i>j))):=qX (uc JO) λ_ _ _=>.bl _
theorem BG:fT X (compareOp .GtE) (gI2 (λ_ _=>True) λi j=>.bl (decide (i ≥ j))):=qX (uc JP) λ_ _ _=>.bl _
theorem jg:EW X (unaryOp .USub) (λx Q=>isI (λi=>Q (.int (-i))) x):=
 ⟨⟨_,mD,λW H x dx Q ok rx hg=>by
  obtain⟨i,rfl,q⟩:=nR hg;cases rx;exact⟨i,rfl,q.now ok (.int _)⟩⟩,λx P P' hp h=>isI.mono (λi hi=>hp _ hi) x h⟩
mutual
def g6:D->Option PyData
 |.non=>some .none
 |.bl b=>some (.bool b)
 |.int i=>some (.int i)
 |.str x=>some (.str x)
 |.tup xs=>(fG xs).map .tuple
 |.lst xs=>(fG xs).map .list
 |.dic=>none
 |.pen=>none
 |.cls _=>none
 |.exc _=>none
 |.ty _=>none
 |.scr _=>none
def fG:List D->Option (List PyData)
 |[]=>some []
 |x::r=>match g6 x,fG r with
  |some a,some b=>some (a::b)
  |_,_=>none
end
variable{s:Shared}{W:Wd}
mutual
theorem ww(I:Inv X pins σ H s)(ok:WOk W H):∀{v:V} {d:D} {u:Value} {p:PyData},Rep X.K W v d->RelV v u->g6 d=some p->∃as,Reads s.heap u p as
 |_,_,u,p,.non,r,e=>by cases e;cases r;exact⟨_,.none⟩
 |_,_,u,p,.bl b,r,e=>by cases e;cases r;exact⟨_,.bool b⟩
 |_,_,u,p,.int i,r,e=>by cases e;obtain⟨t,rfl⟩:=r;exact⟨_,.int i t⟩
 |_,_,u,p,.str x,r,e=>by cases e;obtain⟨t,rfl⟩:=r;exact⟨_,.str x t⟩
 |.ref a,.tup ds,u,p,.tup e0 rs,r,e=>by
  cases r;cases q:fG ds with
  |none=>rw[g6,q] at e;cases e
  |some ps=>
   rw[g6,q] at e;cases e;obtain⟨its,rv,⟨o,h1,h2,n,h3⟩,_⟩:=I.tuple (xs:=_) (SqT.of (ok.g _ _ e0));obtain⟨as,ra⟩:=y0 I ok rs rv q;exact⟨_,.tuple h1 h2 h3 (by simpa using ra)⟩
 |.ref a,.tup ds,u,p,.ktup e0 rs,r,e=>by
  cases r;cases q:fG ds with
  |none=>rw[g6,q] at e;cases e
  |some ps=>
   rw[g6,q] at e;cases e;obtain⟨its,rv,⟨o,h1,h2,n,h3⟩,_⟩:=I.tuple (xs:=_) (.inr e0);obtain⟨as,ra⟩:=y0 I ok rs rv q;exact⟨_,.tuple h1 h2 h3 (by simpa using ra)⟩
 |.ref a,.lst ds,u,p,.lst e0 rs,r,e=>by
  cases r;cases q:fG ds with
  |none=>rw[g6,q] at e;cases e
  |some ps=>
   rw[g6,q] at e;cases e;obtain⟨its,rv,⟨o,n,h1,h2,h3,h4⟩,_⟩:=I.list (xs:=_) (SqL.of (ok.g _ _ e0));obtain⟨as,ra⟩:=y0 I ok rs rv q;exact⟨_,.list h1 h2 h4 (by simpa using ra)⟩
 |_,_,u,p,.dic _,r,e=>by rw[g6] at e;cases e
 |_,_,u,p,.pen _,r,e=>by rw[g6] at e;cases e
 |_,_,u,p,.cls _,r,e=>by rw[g6] at e;cases e
 |_,_,u,p,.exc _ _ _,r,e=>by rw[g6] at e;cases e
 |_,_,u,p,.ty _,r,e=>by rw[g6] at e;cases e
 |_,_,u,p,.scr _ _,r,e=>by rw[g6] at e;cases e
theorem y0(I:Inv X pins σ H s)(ok:WOk W H):∀{vs:List V} {ds:List D} {us:List Value} {ps:List PyData},Reps X.K W vs ds->Vals vs us->fG ds=some ps->∃as,ReadsAll s.heap us ps as
 |_,_,us,ps,.nil,r,e=>by rw[fG] at e;cases e;cases r;exact⟨_,.nil⟩
 |_,d::ds,us,ps,.cons rd rs,r,e=>by
  rw[fG] at e;cases q1:g6 d with
  |none=>rw[q1] at e;cases e
  |some a=>
   cases q2:fG ds with
   |none=>rw[q1,q2] at e;cases e
   |some b=>
    rw[q1,q2] at e;cases e;cases r with
    |cons r1 r2=>
     obtain⟨as,ra⟩:=ww I ok rd r1 q1;obtain⟨bs,rb⟩:=y0 I ok rs r2 q2;exact⟨_,.cons ra rb⟩
end
def gEq(neg:Bool):G2:=λx y Q=>∃p q,g6 x=some p/\g6 y=some q/\PySem.SeqAt.shaped p=true/\PySem.SeqAt.shaped q=true/\Q (.bl (if neg then !PyData.eqv p q else PyData.eqv p q))
theorem gEq.mono{neg:Bool}:∀x y P P',(∀d,P d->P' d)->gEq neg x y P->gEq neg x y P':=λx y P P' hp ⟨p,q,h1,h2,h3,h4,h5⟩=>⟨p,q,h1,h2,h3,h4,hp _ h5⟩
theorem cE(hu:X.A.units+64<cLine):fT X (compareOp .Eq) (gEq false):=by
 refine⟨⟨λx y H Q=>∃W dx dy,WOk W H/\Rep X.K W x dx/\Rep X.K W y dy/\gEq false dx dy (RQ X.K W H Q),?_,λW H x y dx dy Q ok rx ry hg=>⟨W,dx,dy,ok,rx,ry,hg⟩⟩,gEq.mono⟩;rintro pins s σ H x y v u Q I rx ry ⟨W,dx,dy,ok,r1,r2,p,q,h1,h2,h3,h4,h5⟩;obtain⟨as,ra⟩:=ww I ok r1 rx h1;obtain⟨bs,rb⟩:=ww I ok r2 ry h2;exact eq_dataH ra rb h3 h4 hu ⟨.bl _,H,I,rfl,h5.now ok (.bl _)⟩
theorem iX(hu:X.A.units+64<cLine):fT X (compareOp .NotEq) (gEq true):=by
 refine⟨⟨λx y H Q=>∃W dx dy,WOk W H/\Rep X.K W x dx/\Rep X.K W y dy/\gEq true dx dy (RQ X.K W H Q),?_,λW H x y dx dy Q ok rx ry hg=>⟨W,dx,dy,ok,rx,ry,hg⟩⟩,gEq.mono⟩;rintro pins s σ H x y v u Q I rx ry ⟨W,dx,dy,ok,r1,r2,p,q,h1,h2,h3,h4,h5⟩;obtain⟨as,ra⟩:=ww I ok r1 rx h1;obtain⟨bs,rb⟩:=ww I ok r2 ry h2;exact ne_dataH ra rb h3 h4 hu ⟨.bl _,H,I,rfl,h5.now ok (.bl _)⟩
end
section
variable{a:Expr}
def gAdd:G2:=λx y Q=>match x,y with
 |.int i,.int j=>Q (.int (i+j))
 |.lst xs,.lst ys=>xs.length+ys.length<=aO/\Q (.lst (xs++ys))
 |.tup xs,.tup ys=>xs.length+ys.length<=aO/\Q (.tup (xs++ys))
 |_,_=>False
theorem gAdd.mono:∀x y P P',(∀d,P d->P' d)->gAdd x y P->gAdd x y P':=λx y P P' hp hg=>by
 unfold gAdd at hg ⊢;split at hg
 .exact hp _ hg
 .exact⟨hg.1,hp _ hg.2⟩
 .exact⟨hg.1,hp _ hg.2⟩
 .exact hg.elim
def wx(K:N4):R2:=λx y H Q=>∃l b xs zs,x=.ref l/\y=.ref b/\SqL K H l xs/\SqL K H b zs/\xs.length+zs.length<=sizeLine/\∀p,H p=none->Q (.ref p) (upd H p (.lst (xs++zs)))
theorem ZmJ:OpR X (binaryOp .Add) (wx X.K):=by
 intro pins s σ H x y v u Q I rx ry h;obtain⟨l,b,xs,zs,rfl,rfl,hH,hB,hz,q⟩:=h;cases rx;cases ry;obtain⟨its,r,pl,z⟩:=I.list hH;obtain⟨its2,r2,Bg,z2⟩:=I.list hB;have hl:=r.length;have hl2:=r2.length;obtain⟨⟨cls,dd,data,sl⟩,n,ho,hc,_,hd⟩:=pl;obtain⟨⟨cls2,dd2,data2,sl2⟩,n2,ho2,hc2,_,hd2⟩:=Bg;simp only at hc hd hc2 hd2;subst hc hd hc2 hd2;have e:its.toArray++its2.toArray=(its++its2).toArray:=by simp
 refine concat_meets ⟨_,ho,rfl⟩ ⟨_,ho2,rfl⟩ noFill_list_add seq_list_add PySem.F.slot_list_add PySem.F.entry_list_add (PySem.F.args_list_add_2 _ _) (list_addW l b its.toArray its2.toArray n n2 dd dd2 sl sl2 (by simp;omega)) ⟨ho,ho2,?_⟩;rw[e];exact⟨.ref _,_,I.lnew (t':=s.toks) (r.append r2) (by rw[eu];omega),rfl,q _ I.fresh⟩
def JQ(K:N4):R2:=λx y H Q=>∃a b xs ys,x=.ref a/\y=.ref b/\SqT K H a xs/\SqT K H b ys/\xs.length+ys.length<=sizeLine/\
 (xs=[]->Q (.ref b) H)/\(ys=[]->Q (.ref a) H)/\∀p,H p=none->Q (.ref p) (upd H p (.tup (xs++ys)))
theorem JR:OpR X (binaryOp .Add) (JQ X.K):=by
 intro pins s σ H x y v u Q I rx ry h;obtain⟨a,b,xs,ys,rfl,rfl,ha,hb,hz,q1,q2,q3⟩:=h
 by_cases hx:xs=[]
 .cases rx
  cases ry;obtain⟨its,r1,p1,_⟩:=I.tuple ha;obtain⟨its2,r2,p2,_⟩:=I.tuple hb;have hi:its=[]:=r1.nil_iff.mpr hx;obtain⟨⟨cls,dd,data,sl⟩,ho,hc,n,hd⟩:=id p1;obtain⟨⟨cls2,dd2,data2,sl2⟩,ho2,hc2,n2,hd2⟩:=id p2;simp only at hc hd hc2 hd2;subst hc hd hc2 hd2;exact concat_meets ⟨_,ho,rfl⟩ ⟨_,ho2,rfl⟩ noFill_tuple_add seq_tuple_add PySem.F.slot_tuple_add PySem.F.entry_tuple_add (PySem.F.args_tuple_add_2 _ _)
   (tuple_addW0 a b its.toArray its2.toArray n n2 dd dd2 sl sl2 (by simp[hi])) ⟨ho,ho2,⟨.ref b,H,I,rfl,q1 hx⟩⟩
 .exact qd pins s σ H _ _ v u Q I rx ry ⟨a,b,xs,ys,rfl,rfl,ha,hb,hx,hz,q2,λ_=>q3⟩
theorem db:fT X (binaryOp .Add) gAdd:=by
 refine⟨⟨_,(uc sE).or (ZmJ.or JR),λW H x y dx dy Q ok rx ry hg=>?_⟩,gAdd.mono⟩;unfold gAdd at hg;split at hg
 .cases rx;cases ry
  exact .inl ⟨_,_,rfl,rfl,trivial,hg.now ok (.int _)⟩
 .obtain⟨p,vs,rfl,h1,r1⟩:=rx.sql ok
  obtain⟨q,us,rfl,h2,r2⟩:=ry.sql ok;refine .inr (.inl ⟨p,q,vs,us,rfl,rfl,h1,h2,by rw[r1.length,r2.length];exact nQ hg.1,λa ha=>hg.2.lst ok (r1.append r2) ha⟩)
 .obtain⟨p,vs,rfl,h1,r1⟩:=rx.sqt ok
  obtain⟨q,us,rfl,h2,r2⟩:=ry.sqt ok;rename_i xs ys;refine .inr (.inr ⟨p,q,vs,us,rfl,rfl,h1,h2,by rw[r1.length,r2.length];exact nQ hg.1,λe=>?_,λe=>?_,λa ha=>hg.2.tup ok (r1.append r2) ha⟩)
  .subst e
   cases r1;exact hg.2.now ok ry
  .subst e
   cases r2;rw[rG] at hg;exact hg.2.now ok rx
 .exact hg.elim
def gMul:G2:=λx y Q=>match x,y with
 |.int i,.int j=>qW i j/\Q (.int (i*j))
 |.lst xs,.int k=>k<1000/\-1000<k/\xs.length*k.toNat<=aO/\Q (.lst (List.replicate k.toNat xs).flatten)
 |_,_=>False
theorem gMul.mono:∀x y P P',(∀d,P d->P' d)->gMul x y P->gMul x y P':=λx y P P' hp hg=>by
 unfold gMul at hg ⊢;split at hg
 .exact⟨hg.1,hp _ hg.2⟩
 .exact⟨hg.1,hg.2.1,hg.2.2.1,hp _ hg.2.2.2⟩
 .exact hg.elim
theorem BH{W:Wd}(r:Reps K W vs ds)(n:Nat):Reps K W (List.replicate n vs).flatten (List.replicate n ds).flatten:=by
 induction n with
 |zero=>exact .nil
 |succ n ih=>rw[gp,gp,qG,qG];exact r.append ih
theorem d9:fT X (binaryOp .Mult) gMul:=by
 refine⟨⟨_,Zpk.or mR,λW H x y dx dy Q ok rx ry hg=>?_⟩,gMul.mono⟩;unfold gMul at hg;split at hg
 .cases rx;cases ry
  exact .inl ⟨_,_,rfl,rfl,hg.1,hg.2.now ok (.int _)⟩
 .cases ry
  cases rx with
  | @lst l vs _ e r=>
   refine .inr ⟨l,_,vs,rfl,rfl,ok.g _ _ e,by omega,by omega,?_,λp hp=>hg.2.2.2.lst ok (BH r _) hp⟩;rw[r.length];exact nQ hg.2.2.1
 .exact hg.elim
theorem y3{W:Wd}(r:Reps K W vs xs){i:Int}(h:dw xs i=some d):∃v,dw vs i=some v/\Rep K W v d:=by
 unfold dw at h ⊢;rw[r.length];cases q:jb xs.length i with
 |none=>rw[q] at h;cases h
 |some k=>
  rw[q] at h;obtain⟨v,e,rv⟩:=r.get (show xs[k]? = some d from h);exact⟨v,e,rv⟩
def gIx:G2:=λx y Q=>isI (λi=>match x with
 |.tup xs=>∃d,dw xs i=some d/\Q d
 |.lst xs=>∃d,dw xs i=some d/\Q d
 |.scr xs=>∃d,dw xs i=some d/\Q d
 |_=>False) y
theorem gIx.mono:∀ x y P P',(∀ d,P d->P' d)->gIx x y P->gIx x y P':=λx y P P' hp hg=>isI.mono (λi h=>by
 split at h
 .obtain⟨d,e,q⟩:=h;exact⟨d,e,hp _ q⟩
 .obtain⟨d,e,q⟩:=h;exact⟨d,e,hp _ q⟩
 .obtain⟨d,e,q⟩:=h;exact⟨d,e,hp _ q⟩
 .exact h.elim) y hg
theorem aQ:BE X gIx:=by
 refine⟨⟨_,j6,λW H x y dx dy Q ok rx ry hg=>?_⟩,gIx.mono⟩;obtain⟨i,rfl,h⟩:=nR hg;cases ry;split at h
 .obtain⟨d,e,q⟩:=h
  obtain⟨p,vs,rfl,h1,r1⟩:=rx.sqt ok;obtain⟨v,e1,rv⟩:=y3 r1 e;exact .inr (.inl ⟨p,vs,i,v,rfl,rfl,h1,e1,q.now ok rv⟩)
 .obtain⟨d,e,q⟩:=h
  obtain⟨p,vs,rfl,h1,r1⟩:=rx.sql ok;obtain⟨v,e1,rv⟩:=y3 r1 e;exact .inl ⟨p,vs,i,v,rfl,rfl,h1,e1,q.now ok rv⟩
 .obtain⟨d,e,q⟩:=h
  obtain⟨p,vs,rfl,h1,r1⟩:=rx.sqs ok;obtain⟨v,e1,rv⟩:=y3 r1 e;exact .inl ⟨p,vs,i,v,rfl,rfl,h1,e1,q.now ok rv⟩
 .exact h.elim
theorem Reps.cut{W:Wd}(r:Reps K W vs ds)(lo hi:Option Int):Reps K W (jt vs lo hi) (bA ds lo hi):=by
 unfold jt bA;rw[r.length];exact(r.drop _).take _
theorem JS(h:HT.sIx xs.length 0 lo=0/\HT.sIx xs.length xs.length hi=xs.length):bA xs lo hi=xs:=by
 unfold bA;rw[h.1,h.2];simp
theorem gCut.mono:∀x P P',(∀d,P d->P' d)->gCut x lo hi P->gCut x lo hi P':=λx P P' hp hg=>by
 unfold gCut at hg ⊢;split at hg
 .exact hp _ hg
 .exact hp _ hg
 .exact hp _ hg
 .exact hg.elim
def bU(wa:WE)(wl wh:(Ex->Prop)->cQ->(Option Int->Prop)->Prop):WE:=λE ρ Q=>wa E ρ λx=>wl E ρ λl=>wh E ρ λh=>gCut x l h Q
theorem g9{lo hi:Option Expr}{wl wh}(ha:PX X EX a wa)(hl:ub X EX lo wl)(hh:ub X EX hi wh):PX X EX (.Subscript a (.Slice lo hi none p2) pos) (bU wa wl wh):=by
 obtain⟨ta,pa,ka⟩:=ha.t;obtain⟨tl,pl,kl⟩:=hl.t;obtain⟨th,ph,kh⟩:=hh.t;refine⟨⟨_,mM (sl_list.or (sl_tup.or Iw)) pa pl ph,λW0 H0 W σ H ρ E Q s eo h=>?_⟩,λE ρ P P' hp h=>ha.mono _ _ _ _ (λx hx=>hl.mono _ _ _ _ (λl hl'=>hh.mono _ _ _ _ (λu hu=>gCut.mono x _ _ hp hu) hl') hx) h⟩;refine ka W0 H0 W σ H ρ E _ s eo (ha.mono _ _ _ _ (λdx hx v W1 H1 x1 r1=>?_) h);refine kl W0 H0 W1 σ H1 ρ E _ (s.step x1) eo (hl.mono _ _ _ _ (λl hl' W2 H2 x2=>?_) hx);refine kh W0 H0 W2 σ H2 ρ E _ ((s.step x1).step x2) eo (hh.mono _ _ _ _ (λu hu W3 H3 x3=>?_) hl');have r3:=(x2.trans x3).rep r1;have hu':=gCut.mono dx _ _ (λd hd=>RQ.ext hd (x1.trans (x2.trans x3))) hu;unfold gCut at hu';split at hu'
 .obtain⟨p,vs,rfl,h1,rr⟩:=r3.sqt x3.ok
  rename_i xs
  by_cases hw:HT.sIx vs.length 0 l=0/\HT.sIx vs.length vs.length u=vs.length
  .refine .inr (.inr ⟨p,vs,rfl,h1,hw,?_⟩)
   rw[rr.length] at hw;rw[JS hw] at hu';exact hu'.now x3.ok r3
  .exact .inr (.inl ⟨p,vs,rfl,h1,hw,λq hq=>hu'.tup x3.ok (rr.cut l u) hq⟩)
 .obtain⟨p,vs,rfl,h1,rr⟩:=r3.sql x3.ok
  exact .inl ⟨p,vs,rfl,h1,λq hq=>hu'.lst x3.ok (rr.cut l u) hq⟩
 .obtain⟨p,vs,rfl,h1,rr⟩:=r3.sqs x3.ok
  exact .inl ⟨p,vs,rfl,h1,λq hq=>hu'.lst x3.ok (rr.cut l u) hq⟩
 .exact hu'.elim
def gRev:D->(D->Prop)->Prop:=λx Q=>match x with
 |.tup xs=>Q (.tup xs.reverse)
 |.lst xs=>Q (.lst xs.reverse)
 |_=>False
theorem gRev.mono:∀x P P',(∀d,P d->P' d)->gRev x P->gRev x P':=λx P P' hp hg=>by
 unfold gRev at hg ⊢;split at hg
 .exact hp _ hg
 .exact hp _ hg
 .exact hg.elim
theorem JT{j pos3 pos4}(ha:PX X EX a wa):PX X EX (.Subscript a (.Slice none none (some (.UnaryOp .USub (.Constant (.int 1) j pos3) pos4)) p2) pos) (w1 gRev wa):=by
 obtain⟨ta,pa,ka⟩:=ha.t;refine⟨⟨_,Iy pa,λW0 H0 W σ H ρ E Q s eo h=>?_⟩,λE ρ P P' hp h=>ha.mono _ _ _ _ (λx hx=>gRev.mono x _ _ hp hx) h⟩;refine ka W0 H0 W σ H ρ E _ s eo (ha.mono _ _ _ _ (λdx hx v W1 H1 x1 r1=>?_) h);have hu':=gRev.mono dx _ _ (λd hd=>RQ.ext hd x1) hx;unfold gRev at hu';split at hu'
 .obtain⟨p,vs,rfl,h1,rr⟩:=r1.sqt x1.ok
  exact⟨p,vs,rfl,.inl ⟨h1,λq hq=>hu'.tup x1.ok rr.rev hq⟩⟩
 .obtain⟨p,vs,rfl,h1,rr⟩:=r1.sql x1.ok
  exact⟨p,vs,rfl,.inr ⟨h1,λq hq=>hu'.lst x1.ok rr.rev hq⟩⟩
 .exact hu'.elim
def bX:List D->(D->Prop)->Prop:=λds Q=>match ds with
 |[.tup xs]=>Q (.int xs.length)
 |[.lst xs]=>Q (.int xs.length)
 |[.scr xs]=>Q (.int xs.length)
 |_=>False
theorem gg:d8 X (.builtin "len") bX:=by
 refine⟨⟨_,iQ,λW H vs ds Q ok r hg=>?_⟩,λds P P' hp hg=>?_⟩
 .unfold bX at hg
  split at hg
  .obtain⟨v,rfl,rv⟩:=r.one
   obtain⟨p,us,rfl,h1,rr⟩:=rv.sqt ok;exact⟨p,us,rfl,.inr h1,by rw[rr.length];exact hg.now ok (.int _)⟩
  .obtain⟨v,rfl,rv⟩:=r.one
   obtain⟨p,us,rfl,h1,rr⟩:=rv.sql ok;exact⟨p,us,rfl,.inl h1,by rw[rr.length];exact hg.now ok (.int _)⟩
  .obtain⟨v,rfl,rv⟩:=r.one
   obtain⟨p,us,rfl,h1,rr⟩:=rv.sqs ok;exact⟨p,us,rfl,.inl h1,by rw[rr.length];exact hg.now ok (.int _)⟩
  .exact hg.elim
 .unfold bX at hg ⊢
  split at hg
  .exact hp _ hg
  .exact hp _ hg
  .exact hp _ hg
  .exact hg.elim
def fW{α:Type}:List D->(List D->Prop)->Prop:=λds Q=>match ds with
 |[.tup xs]=>Q xs
 |[.lst xs]=>Q xs
 |[.scr xs]=>Q xs
 |_=>False
theorem y4:qV X (.type "list") (fW (α:=Unit)):=by
 refine⟨⟨_,iR,λW H vs ds Q ok r hg=>?_⟩,λds P P' hp hg=>?_⟩
 .unfold fW at hg
  split at hg
  .obtain⟨v,rfl,rv⟩:=r.one
   obtain⟨p,us,rfl,h1,rr⟩:=rv.sqt ok;exact⟨p,us,rfl,.inr h1,λl hl=>hg l us hl rr⟩
  .obtain⟨v,rfl,rv⟩:=r.one
   obtain⟨p,us,rfl,h1,rr⟩:=rv.sql ok;exact⟨p,us,rfl,.inl h1,λl hl=>hg l us hl rr⟩
  .obtain⟨v,rfl,rv⟩:=r.one
   obtain⟨p,us,rfl,h1,rr⟩:=rv.sqs ok;exact⟨p,us,rfl,.inl h1,λl hl=>hg l us hl rr⟩
  .exact hg.elim
 .unfold fW at hg ⊢
  split at hg
  .exact hp _ hg
  .exact hp _ hg
  .exact hp _ hg
  .exact hg.elim
def jM:List D->(D->Prop)->Prop:=λds Q=>match ds with
 |[.tup xs]=>Q (.tup xs)
 |[.lst xs]=>Q (.tup xs)
 |_=>False
theorem qY:d8 X (.type "tuple") jM:=by
 refine⟨⟨_,gW,λW H vs ds Q ok r hg=>?_⟩,λds P P' hp hg=>?_⟩
 .unfold jM at hg
  split at hg
  .obtain⟨v,rfl,rv⟩:=r.one
   obtain⟨p,us,rfl,h1,rr⟩:=rv.sqt ok;exact⟨p,us,rfl,.inr ⟨h1,hg.now ok rv⟩⟩
  .obtain⟨v,rfl,rv⟩:=r.one
   obtain⟨p,us,rfl,h1,rr⟩:=rv.sql ok;exact⟨p,us,rfl,.inl ⟨h1,λl hl=>hg.tup ok rr hl⟩⟩
  .exact hg.elim
 .unfold jM at hg ⊢
  split at hg
  .exact hp _ hg
  .exact hp _ hg
  .exact hg.elim
def iY:List D->(D->Prop)->Prop:=λds Q=>match ds with
 |[.int i]=>Q (.int (if i<0 then -i else i))
 |_=>False
theorem BI:d8 X (.builtin "abs") iY:=by
 refine⟨⟨_,mJ,λW H vs ds Q ok r hg=>?_⟩,λds P P' hp hg=>?_⟩
 .unfold iY at hg
  split at hg
  .obtain⟨v,rfl,rv⟩:=r.one
   cases rv;exact⟨_,rfl,hg.now ok (.int _)⟩
  .exact hg.elim
 .unfold iY at hg ⊢
  split at hg
  .exact hp _ hg
  .exact hg.elim
def km:List D->(D->Prop)->Prop:=λds Q=>match ds with
 |[.int i,.int j]=>Q (.int (if j>i then j else i))
 |_=>False
theorem wy(hc:X.calm=true):d8 X (.builtin "max") km:=by
 refine⟨⟨_,li hc,λW H vs ds Q ok r hg=>?_⟩,λds P P' hp hg=>?_⟩
 .unfold km at hg
  split at hg
  .obtain⟨v,u,rfl,rv,ru⟩:=r.two
   cases rv;cases ru;exact⟨_,_,rfl,hg.now ok (.int _)⟩
  .exact hg.elim
 .unfold km at hg ⊢
  split at hg
  .exact hp _ hg
  .exact hg.elim
def gD:List D->(D->Prop)->Prop:=λds Q=>match ds with
 |[.int i]=>Q (.int i)
 |[.bl b]=>Q (.int (if b then 1 else 0))
 |_=>False
theorem y6:d8 X (.type "int") gD:=by
 refine⟨⟨_,lj,λW H vs ds Q ok r hg=>?_⟩,λds P P' hp hg=>?_⟩
 .unfold gD at hg
  split at hg
  .obtain⟨v,rfl,rv⟩:=r.one
   cases rv;exact .inl ⟨_,rfl,hg.now ok (.int _)⟩
  .obtain⟨v,rfl,rv⟩:=r.one
   cases rv;exact .inr ⟨_,rfl,hg.now ok (.int _)⟩
  .exact hg.elim
 .unfold gD at hg ⊢
  split at hg
  .exact hp _ hg
  .exact hp _ hg
  .exact hg.elim
end
section
variable{a:Expr}
def y8:D->Option String
 |.non=>some "NoneType" |.bl _=>some "bool" |.int _=>some "int" |.str _=>some "str" |.tup _=>some "tuple" |.lst _=>some "list" |.dic=>some "dict"
 |.pen=>none|.cls _=>none|.exc _=>none|.ty _=>none|.scr _=>none
def jy(t T:String):Bool:=t==T||(t == "bool" && T == "int")
def y9:List String:=["int", "bool", "str", "tuple", "list"]
theorem JU(K:N4){t T:String}(ht:y8 d=some t)(hT:T∈y9):PySem.W.kitOne K (.type t) (.type T)=some (jy t T):=by
 simp only[y9,Yao,dh,or_false] at hT;cases d<;>first
  |(cases ht;done)
  |(cases ht;rcases hT with rfl|rfl|rfl|rfl|rfl<;>rfl)
def gIs:List D->(D->Prop)->Prop:=λds Q=>match ds with
 |[x,.ty T]=>∃t,y8 x=some t/\T∈y9/\Q (.bl (jy t T))
 |_=>False
theorem gIs.mono:∀ds P P',(∀d,P d->P' d)->gIs ds P->gIs ds P':=λds P P' hp hg=>by
 unfold gIs at hg ⊢;split at hg
 .obtain⟨t,h1,h2,h3⟩:=hg;exact⟨t,h1,h2,hp _ h3⟩
 .exact hg.elim
theorem qo:d8 X (.builtin "isinstance") gIs:=by
 refine⟨⟨λvs H Q=>∃W ds,WOk W H/\Reps X.K W vs ds/\gIs ds (RQ X.K W H Q),?_,λW H vs ds Q ok r hg=>⟨W,ds,ok,r,hg⟩⟩,gIs.mono⟩;rintro pins s σ H vs us Q I rv ⟨W,ds,ok,rs,hg⟩;unfold gIs at hg;split at hg
 .rename_i x T
  obtain⟨t,h1,h2,q⟩:=hg;obtain⟨v,w',rfl,r1,r2⟩:=rs.two;cases r2;obtain⟨u,u2,rfl,ru,ru2⟩:=kJ rv;obtain rfl:u2=Value.type T:=ru2;have e:=JU X.K h1 h2;have fin:∀tk,EP X pins σ Q (.bool (jy t T)) { s with toks:=tk }:=λtk=>⟨.bl _,H,I.tok tk,rfl,q.now ok (.bl _)⟩;cases r1 with
  |non=>cases h1;cases ru;exact PySem.W.kia_one PySem.W.kitx_none I.kIn True.intro e (λz=>nomatch z) fin
  |bl b=>cases h1;cases ru;exact PySem.W.kia_one PySem.W.kitx_bool I.kIn True.intro e (λz=>nomatch z) fin
  |int i=>cases h1;obtain⟨t',rfl⟩:=ru;exact PySem.W.kia_one PySem.W.kitx_int I.kIn True.intro e (λz=>nomatch z) fin
  |str i=>cases h1;obtain⟨t',rfl⟩:=ru;exact PySem.W.kia_one PySem.W.kitx_str I.kIn True.intro e (λz=>nomatch z) fin
  |tup e0 rr=>
   cases h1;cases ru;obtain⟨its,_,⟨o,h1,h2,_⟩,_⟩:=I.tuple (SqT.of (ok.g _ _ e0));exact PySem.W.kia_one PySem.W.kitx_tuple I.kIn ⟨o,h1,h2⟩ e (λz=>nomatch z) fin
  |ktup e0 rr=>
   cases h1;cases ru;obtain⟨its,_,⟨o,h1,h2,_⟩,_⟩:=I.tuple (.inr e0);exact PySem.W.kia_one PySem.W.kitx_tuple I.kIn ⟨o,h1,h2⟩ e (λz=>nomatch z) fin
  |lst e0 rr=>
   cases h1;cases ru;obtain⟨its,_,⟨o,n,h1,h2,_⟩,_⟩:=I.list (SqL.of (ok.g _ _ e0));exact PySem.W.kia_one PySem.W.kitx_list I.kIn ⟨o,h1,h2⟩ e (λz=>nomatch z) fin
  | @dic a e0=>
   cases h1;cases ru;obtain⟨_,_,vs,_,p⟩:=(show ObjOk X.prog X.w H s.heap a (.dK []) from I.hok a _ (ok.g _ _ e0))
   obtain⟨o,es,ep,h1,h2,_⟩:=p;exact PySem.W.kia_one PySem.W.kitx_dict I.kIn ⟨o,h1,h2.1⟩ e (λz=>nomatch z) fin
  |pen _=>cases h1
  |cls _=>cases h1
  |exc _ _=>cases h1
  |ty _=>cases h1
  |scr _ _=>cases h1
 .exact hg.elim
theorem JV(hc:X.calm=true):CallR X (.builtin "all") (λxs H Q=>∃(p:Addr) (bs:List Bool),xs=[.ref p]/\SqL X.K H p (bs.map V.bl)/\Q (.bl (bs.all id)) H):=by
 intro pins s σ H xs us Q I r h;obtain⟨p,bs,rfl,hq,q⟩:=h;obtain⟨u,rfl,ru⟩:=eN r;cases ru;obtain⟨its,rv,pl,hz⟩:=I.list hq;have hpl:p<s.heap.objs.size:=by obtain⟨o,n,e,_⟩:=pl;exact cV e
 have hits:its=bs.map Value.bool:=by
  clear hz pl hq q
  induction bs generalizing its with
  |nil=>cases rv;rfl
  |cons b bs ih=>
   cases rv with
   |cons r1 r2=>
    obtain rfl:_=Value.bool b:=r1;rw[da,ih _ r2]
 subst hits;refine call_all_walk (wpAny_pyIter_list pl.isList ?_);have hh:X.A.in1.handled=none:=I.ok.hd hc;refine⟨s.heap.objs.size,_,_,_,_,_,λi=>(bs[i]?).getD true,rfl,Walks.list hh _ p (fR hpl) (bs.map Value.bool).toArray,⟨⟨_,f9 _ rfl,rfl,rfl⟩,pl.isList.at λo e=>cX _ e⟩,λi v s' Q' E' hP hQ=>?_,λh' tk hk=>?_⟩
 .have hP':(bs.map Value.bool)[i]? = some v:=by simpa using hP
  rw[cA] at hP';cases e:bs[i]? with
  |none=>rw[e] at hP';cases hP'
  |some b=>
   rw[e] at hP';have:v=Value.bool b:=(N8 hP').symm;subst this;refine On ?_;have e2:(bs[i]?).getD true=b:=by rw[e];rfl
   dsimp only at hQ;rw[e2] at hQ;exact hQ
 .have e:((List.range (bs.map Value.bool).toArray.size).all λi=>(bs[i]?).getD true)=bs.all id:=by
   rw[eM,bP,kE,Ybh,Ybh];constructor
   .intro h b hb
    obtain⟨i,hi,e⟩:=YbB.mp hb;have:=h i (Yah.mpr hi);rw[bR hi] at this;rw[<-e];exact this
   .intro h i hi
    have hi':=Yah.mp hi;rw[bR hi'];exact h _ (jG hi')
  rw[e];refine⟨.bl (bs.all id),H,?_,rfl,q⟩;refine I.kept λb o e=>hk b o ?_ (cX _ e);intro z;have:b=s.heap.objs.size:=by simpa using z
  exact N6 (cV e) (by rw[this];exact iy _)
def kq:List D->(D->Prop)->Prop:=λds Q=>match ds with
 |[.lst xs]=>∃bs:List Bool,xs=bs.map D.bl/\Q (.bl (bs.all id))
 |_=>False
theorem EZ{K:N4}{W:Wd}:∀{vs:List V} {bs:List Bool},Reps K W vs (bs.map D.bl)->vs=bs.map V.bl
 |_,[],.nil=>rfl
 |_,b::bs,.cons r t=>by cases r;rw[da,EZ t]
theorem BJ(hc:X.calm=true):d8 X (.builtin "all") kq:=by
 refine⟨⟨_,JV hc,λW H vs ds Q ok r hg=>?_⟩,λds P P' hp hg=>?_⟩
 .unfold kq at hg
  split at hg
  .obtain⟨bs,rfl,q⟩:=hg
   obtain⟨v,rfl,rv⟩:=r.one;obtain⟨p,us,rfl,h1,rr⟩:=rv.sql ok;rw[EZ rr] at h1;exact⟨p,bs,rfl,h1,q.now ok (.bl _)⟩
  .exact hg.elim
 .unfold kq at hg ⊢
  split at hg
  .obtain⟨bs,e,q⟩:=hg;exact⟨bs,e,hp _ q⟩
  .exact hg.elim
end
section
variable{W:Wd}
theorem SOk.set(s:SOk K W0 H0 W σ H ρ){i:Nat}{v:V}{x:D}(r:Rep K W v x):SOk K W0 H0 W (σ.set i (some v)) H (ρ.set i (.d x)) where
 ext:=s.ext
 len:=by rw[dv,dv];exact s.len
 d:=λj y e=>by
  by_cases h:i=j
  .subst h
   by_cases hi:i<ρ.length
   .rw[eP hi] at e
    cases e;exact⟨v,eP (by rw[<-s.len];exact hi),r⟩
   .rw[eI (by rw[dv];omega)] at e;cases e
  .rw[et h] at e ⊢;exact s.d j y e
 o:=λj ys e=>by
  by_cases h:i=j
  .subst h
   by_cases hi:i<ρ.length
   .rw[eP hi] at e;cases e
   .rw[eI (by rw[dv];omega)] at e;cases e
  .rw[et h] at e ⊢;exact s.o j ys e
 ne:=λj k xs ys a hjk e1 e2 e3=>by
  have nj:i≠j:=λh=>by
   subst h
   by_cases hi:i<ρ.length
   .rw[eP hi] at e1;cases e1
   .rw[eI (by rw[dv];omega)] at e1;cases e1
  have nk:i≠k:=λh=>by
   subst h
   by_cases hi:i<ρ.length
   .rw[eP hi] at e2;cases e2
   .rw[eI (by rw[dv];omega)] at e2;cases e2
  rw[et nj] at e1 e3;rw[et nk] at e2 ⊢;exact s.ne j k xs ys a hjk e1 e2 e3
 oo:=s.oo.set (λ_ h=>by cases h) (λj h=>et h) λ_ _ h=>by cases h
theorem SOk.own(s1:SOk K W0 H0 W1 σ H1 ρ)(x:Ext W1 H1 W H)(hz:H1 a=none)(h1:H a=some (.lst vs))(h2:W.G a=none)(h3:¬W.Pn a)(r:Reps K W vs xs):SOk K W0 H0 W (σ.set i (some (.ref a))) H (ρ.set i (.ow xs)):=by
 have s:=s1.step x;have h4:H0 a=none:=s1.ext.isN hz;have hn:∀(j:Nat) ys b,j≠i->ρ[j]? = some (SV.ow ys)->σ[j]? = some (some (V.ref b))->b≠a:=λj ys b _ ej eb q=>by
  obtain⟨b',us,q1,q2,_⟩:=s1.o j ys ej;rw[eb] at q1;cases q1;rw[q,hz] at q2;cases q2
 exact{
  ext:=s.ext
  len:=by rw[dv,dv];exact s.len
  d:=λj y e=>by
    by_cases h:i=j
    · subst h
      by_cases hi:i<ρ.length
      · rw[eP hi] at e;cases e
      · rw[eI (by rw[dv];omega)] at e;cases e
    · rw[et h] at e ⊢;exact s.d j y e
  o:=λj ys e=>by
    by_cases h:i=j
    · subst h
      by_cases hi:i<ρ.length
      · rw[eP hi] at e
        cases e;exact⟨a,vs,eP (by rw[<-s.len];exact hi),h1,h2,h3,h4,r⟩
      · rw[eI (by rw[dv];omega)] at e;cases e
    · rw[et h] at e ⊢;exact s.o j ys e
  ne:=λj k ys zs b hjk e1 e2 e3 e4=>by
    by_cases hj:i=j
    · subst hj
      by_cases hi:i<ρ.length
      · rw[eP (by rw[<-s.len];exact hi)] at e3
        cases e3;rw[et hjk] at e2 e4;exact hn k zs _ (Ob hjk) e2 e4 rfl
      · rw[eI (by rw[dv];omega)] at e1;cases e1
    · by_cases hk:i=k
      · subst hk
        by_cases hi:i<ρ.length
        · rw[eP (by rw[<-s.len];exact hi)] at e4
          cases e4;rw[et hj] at e1 e3;exact hn j ys _ (Ob hj) e1 e3 rfl
        · rw[eI (by rw[dv];omega)] at e2;cases e2
      · rw[et hj] at e1 e3
        rw[et hk] at e2 e4;exact s.ne j k ys zs b hjk e1 e2 e3 e4
  oo:=by
    refine⟨λj xss e=>?_,λj k xss yss e1 e2=>?_⟩
    · have h:i≠j:=λh=>by
        subst h
        by_cases hi:i<ρ.length
        · rw[eP hi] at e;cases e
        · rw[eI (by rw[dv];omega)] at e;cases e
      rw[et h] at e;obtain⟨a',bs,e1,q,n⟩:=s1.oo.t j xss e;refine⟨a',bs,by rw[et h];exact e1,q.step x,λk ys c ek ec=>?_⟩
      by_cases hk:i=k
      · subst hk
        by_cases hi:i<ρ.length
        · rw[eP (by rw[<-s.len];exact hi)] at ec
          cases ec;exact q.here hz
        · rw[eI (by rw[dv];omega)] at ek;cases ek
      · rw[et hk] at ek ec
        exact n k ys c ek ec
    · have g:∀ {j:Nat} {xss:List (List D)},(ρ.set i (.ow xs))[j]? = some (SV.oo xss)->ρ[j]? = some (SV.oo xss):=fun {j xss} e=>by
        by_cases h:i=j
        · subst h
          by_cases hi:i<ρ.length
          · rw[eP hi] at e;cases e
          · rw[eI (by rw[dv];omega)] at e;cases e
        · rw[et h] at e;exact e
      exact s.oo.u j k xss yss (g e1) (g e2) }
def pub(i:Nat)(ρ:cQ):cQ:=match ρ[i]? with
 |some (.ow xs)=>ρ.set i (.d (.lst xs))
 |_=>ρ
theorem SOk.pub(s:SOk K W0 H0 W σ H ρ)(i:Nat):∃W',SOk K W0 H0 W' σ H (LP.pub i ρ)/\Wle W W':=by
 unfold LP.pub;split
 .rename_i xs e
  obtain⟨a,vs,e1,e2,e3,e4,e5,r⟩:=s.o i xs e;have hi:i<ρ.length:=(Yar.mp e).1;refine⟨W.put a (.lst vs),⟨s.ext.pub e5 e2 e4 e3,by rw[dv];exact s.len,λj y ej=>?_,λj ys ej=>?_,λj k ys zs b hjk ej ek e6=>?_,?_⟩,⟨qi e3,λ_ z=>z⟩⟩
  .by_cases h:i=j
   .subst h
    rw[eP hi] at ej;cases ej;exact⟨_,e1,.lst (by unfold Wd.put;dsimp only;rw[aL]) (r.mono (qi e3) λ_ z=>z)⟩
   .rw[et h] at ej
    obtain⟨v,q1,q2⟩:=s.d j y ej;exact⟨v,q1,q2.mono (qi e3) λ_ z=>z⟩
  .have h:i≠j:=λh=>by subst h;rw[eP hi] at ej;cases ej
   rw[et h] at ej;obtain⟨b,us,q1,q2,q3,q4,q5,rr⟩:=s.o j ys ej;have hba:b≠a:=λz=>s.ne i j xs ys a h e ej e1 (by rw[<-z];exact q1);refine⟨b,us,q1,q2,?_,q4,q5,rr.mono (qi e3) λ_ z=>z⟩;unfold Wd.put;dsimp only;rw[aH hba];exact q3
  .have h:i≠j:=λh=>by subst h;rw[eP hi] at ej;cases ej
   have h':i≠k:=λh=>by subst h;rw[eP hi] at ek;cases ek
   rw[et h] at ej;rw[et h'] at ek;exact s.ne j k ys zs b hjk ej ek e6
  .exact OOs.set ⟨λj xss ej=>let⟨a',bs,q1,q,n⟩:=s.oo.t j xss ej;⟨a',bs,q1,q.put (n i xs a e e1) e3,n⟩,s.oo.u⟩ (λ_ h=>by cases h) (λ_ _=>rfl) λ_ _ h=>by cases h
 .exact⟨W,s,.refl W⟩
theorem SOk.chg(s:SOk K W0 H0 W σ H ρ){i:Nat}{a:Addr}{xs ys:List D}{us:List V}(e:ρ[i]? = some (.ow xs))(e1:σ[i]? = some (some (.ref a)))(r:Reps K W us ys):SOk K W0 H0 W σ (upd H a (.lst us)) (ρ.set i (.ow ys)):=by
 obtain⟨a',vs,q1,q2,q3,q4,q5,rr⟩:=s.o i xs e;rw[e1] at q1;cases q1;have hi:i<ρ.length:=(Yar.mp e).1;refine⟨s.ext.chg q5 q2 q4 q3,by rw[dv];exact s.len,λj y ej=>?_,λj zs ej=>?_,λj k ys' zs b hjk ej ek e6=>?_,OOs.set ⟨λj xss ej=>let⟨a',bs,p1,q,n⟩:=s.oo.t j xss ej;⟨a',bs,p1,q.upd (n i xs a e e1),n⟩,s.oo.u⟩ (λ_ h=>by cases h) (λ_ _=>rfl) λys c _ ec j xss a' bs _ ej ea _ n=>n i xs c e ec⟩
 .have h:i≠j:=λh=>by subst h;rw[eP hi] at ej;cases ej
  rw[et h] at ej;exact s.d j y ej
 .by_cases h:i=j
  .subst h
   rw[eP hi] at ej;cases ej;exact⟨a,us,e1,aL,q3,q4,q5,r⟩
  .rw[et h] at ej
   obtain⟨b,ws,p1,p2,p3,p4,p5,pr⟩:=s.o j zs ej;have hba:b≠a:=λz=>s.ne i j xs zs a h e ej e1 (by rw[<-z];exact p1);exact⟨b,ws,p1,by rw[aH hba];exact p2,p3,p4,p5,pr⟩
 .by_cases h:i=j
  .subst h
   rw[et hjk] at ek;exact s.ne i k xs zs b hjk e ek e6
  .rw[et h] at ej
   by_cases h':i=k
   .subst h'
    intro z;exact s.ne i j xs ys' b h e ej z e6
   .rw[et h'] at ek
    exact s.ne j k ys' zs b hjk ej ek e6
end
section
variable{rest:List Stmt}{a b:Expr}
def cO:WS:=λ_ N ρ=>N.nx ρ
def aI(z z':WS):WS:=λE N ρ=>z E { N with nx:=z' E N } ρ
theorem Nds.le_nx{N':Nds}(h:N.le N'){n n':cQ->Prop}(hn:∀ρ,n ρ->n' ρ):Nds.le { N with nx:=n } { N' with nx:=n' }:=⟨hn,h.rt,h.bk,h.ct⟩
theorem dj:jc X EX [] cO:=⟨⟨_,pT,λ_ _ _ W σ H ρ _ Dn N s fl _ no h=>no.nx W σ H ρ s fl h⟩,λ_ _ _ _ hl h=>hl.nx _ h⟩
theorem aT(h1:PZ X EX st z)(h2:jc X EX rest z'):jc X EX (st::rest) (aI z z'):=by
 obtain⟨t1,p1,k1⟩:=h1.t;obtain⟨t2,p2,k2⟩:=h2.t;refine⟨⟨_,jp p1 p2,λW0 H0 F W σ H ρ E Dn N s fl eo no h=>?_⟩,λE ρ N N' hl h=>h1.mono _ _ _ _ (Nds.le_nx hl λρ' h'=>h2.mono _ _ _ _ hl h') h⟩;exact k1 W0 H0 F W σ H ρ E _ { N with nx:=z' E N } s fl eo ⟨λW1 σ1 H1 ρ1 s1 f1 hn=>k2 W0 H0 F W1 σ1 H1 ρ1 E Dn N s1 f1 eo no hn,no.rt,no.bk,no.ct⟩ h
theorem aX(h1:PZ X EX st z):jc X EX [st] z:=by
 obtain⟨t1,p1,k1⟩:=h1.t;exact⟨⟨_,iF p1,k1⟩,h1.mono⟩
def de(i:Nat)(z:WS):WS:=λE N ρ=>z E N (pub i ρ)
theorem sZ(i:Nat){sts:List Stmt}(h:jc X EX sts z):jc X EX sts (de i z):=by
 obtain⟨t,p,k⟩:=h.t;refine⟨⟨t,p,λW0 H0 F W σ H ρ E Dn N s fl eo no h=>?_⟩,λE ρ N N' hl q=>h.mono _ _ _ _ hl q⟩;obtain⟨W',s',f'⟩:=s.pub i;exact k W0 H0 F W' σ H _ E Dn N s' (fl.trans f') eo no h
def fQ(w:WE):WS:=λE N ρ=>w E ρ λ_=>N.nx ρ
theorem td(he:PX X EX e w)(hs:swapsWith e none pos.line X.env=pure false:=by rfl):PZ X EX (.Expr e pos) (fQ w):=by
 obtain⟨t,p,k⟩:=he.t;refine⟨⟨_,kG p hs,λW0 H0 F W σ H ρ E Dn N s fl eo no h=>?_⟩,λE ρ N N' hl q=>he.mono _ _ _ _ (λ_=>hl.nx ρ) q⟩;exact k W0 H0 W σ H ρ E _ s eo (he.mono _ _ _ _ (λd hd v W1 H1 x1 r1=>no.nx W1 σ H1 ρ (s.step x1) (fl.ext x1) hd) h)
def aM(w:WE):WS:=λE N ρ=>w E ρ N.rt
theorem bC(he:PX X EX e w):PZ X EX (.Return (some e) pos) (aM w):=by
 obtain⟨t,p,k⟩:=he.t;refine⟨⟨_,mx p,λW0 H0 F W σ H ρ E Dn N s fl eo no h=>?_⟩,λE ρ N N' hl q=>he.mono _ _ _ _ hl.rt q⟩;exact k W0 H0 W σ H ρ E _ s eo (he.mono _ _ _ _ (λd hd v W1 H1 x1 r1=>no.rt d v W1 H1 (s.ext.trans x1) r1 hd) h)
def cL(w:WT)(z z':WS):WS:=λE N ρ=>w E ρ λb=>if b=true then z E N ρ else z' E N ρ
theorem dm{w:WT}{as bs:List Stmt}(hc:jw X EX c w)(ha:jc X EX as z)(hb:jc X EX bs z'):PZ X EX (.If c as bs pos) (cL w z z'):=by
 obtain⟨t,p,k⟩:=hc.t;obtain⟨ta,pa,ka⟩:=ha.t;obtain⟨tb,pb,kb⟩:=hb.t;refine⟨⟨_,u9 p pa pb,λW0 H0 F W σ H ρ E Dn N s fl eo no h=>?_⟩,λE ρ N N' hl q=>hc.mono _ _ _ _ (λb hb'=>?_) q⟩
 .refine k W0 H0 W σ H ρ E _ s eo (hc.mono _ _ _ _ (λb hb' W1 H1 x1=>?_) h)
  cases b with
  |true=>rw[if_pos rfl] at hb' ⊢;exact ka W0 H0 F W1 σ H1 ρ E Dn N (s.step x1) (fl.ext x1) eo no hb'
  |false=>rw[if_neg (by decide)] at hb' ⊢;exact kb W0 H0 F W1 σ H1 ρ E Dn N (s.step x1) (fl.ext x1) eo no hb'
 .cases b with
  |true=>rw[if_pos rfl] at hb' ⊢;exact ha.mono _ _ _ _ hl hb'
  |false=>rw[if_neg (by decide)] at hb' ⊢;exact hb.mono _ _ _ _ hl hb'
def aR(i:Nat)(w:WE):WS:=λE N ρ=>w E ρ λx=>N.nx (ρ.set i (.d x))
theorem bV(i:Nat)(he:PX X EX e w)(hN:X.N.Nodup)(hi:X.N[i]? = some x:=by rfl)(hx:lS X.env.scope x:=by first|exact Or.inl rfl|exact Or.inr rfl)(hs:swapsWith e (some (.Name x pos')) pos.line X.env=pure false:=by rfl)
  (hf:X.fn x=true\/X.env.scope.names.lookup x=some .local:=by first|exact .inl rfl|exact .inr rfl|assumption):PZ X EX (.Assign [.Name x pos'] e pos) (aR i w):=by
 obtain⟨t,p,k⟩:=he.t;refine⟨⟨_,iI hN hi hx p hs hf,λW0 H0 F W σ H ρ E Dn N s fl eo no h=>?_⟩,λE ρ N N' hl q=>he.mono _ _ _ _ (λ_=>hl.nx _) q⟩;exact k W0 H0 W σ H ρ E _ s eo (he.mono _ _ _ _ (λd hd v W1 H1 x1 r1=>no.nx W1 _ H1 _ ((s.step x1).set r1) (fl.ext x1) hd) h)
def cH(i:Nat)(t:WA):WS:=λE N ρ=>t E ρ λxs=>N.nx (ρ.set i (.ow xs))
theorem qp(i:Nat){t:WA}(he:PXL X EX e t)(hN:X.N.Nodup)(hi:X.N[i]? = some x:=by rfl)(hx:lS X.env.scope x:=by first|exact Or.inl rfl|exact Or.inr rfl)(hs:swapsWith e (some (.Name x pos')) pos.line X.env=pure false:=by rfl)
  (hf:X.fn x=true\/X.env.scope.names.lookup x=some .local:=by first|exact .inl rfl|exact .inr rfl|assumption):PZ X EX (.Assign [.Name x pos'] e pos) (cH i t):=by
 obtain⟨t,p,k⟩:=he.t;refine⟨⟨_,iI hN hi hx p hs hf,λW0 H0 F W σ H ρ E Dn N s fl eo no h=>?_⟩,λE ρ N N' hl q=>he.mono _ _ _ _ (λ_=>hl.nx _) q⟩;refine k W0 H0 W σ H ρ E _ s eo (he.mono _ _ _ _ (λxs hd a vs W1 H1 x1 e1 e2 e3 e4 r1=>no.nx W1 _ H1 _ (s.own x1 e4 e1 e2 e3 r1) (fl.ext x1) hd) h)
end
def qq(K:N4)(W:Wd)(J:It)(ds:List D):Prop:=
 ∀W2 H2 (i:Nat),(∀a o,W.G a=some o->W2.G a=some o)->(∀a,W.Pn a->W2.Pn a)->WOk W2 H2->
  (∀d,ds[i]? = some d->J.go i H2/\∀x H3,J.yld i H2 x H3->∃W3,Ext W2 H2 W3 H3/\Rep K W3 x d)/\(ds.length<=i->J.stop i H2)
structure lZ(X:Cx)(EX:XK)(tg iter:Expr)(w:WA):Prop where
 t:∃t,PI X tg iter t/\∀W0 H0 W σ H ρ E R,SOk X.K W0 H0 W σ H ρ->jv X.K W0 H0 E EX->w E ρ (λds=>∀W' H' J,Ext W H W' H'->qq X.K W' J ds->R J H')->t σ H R
 mono:∀E ρ P P',(∀d,P d->P' d)->w E ρ P->w E ρ P'
section
variable{p:Pos}{a b:Expr}
def isL(Q:List D->Prop):D->Prop
 |.lst xs=>Q xs
 |_=>False
theorem Zj{Q:List D->Prop}(h:isL Q d):∃xs,d=.lst xs/\Q xs:=by
 cases d with
 |lst xs=>exact⟨xs,rfl,h⟩
 |_=>exact h.elim
theorem isL.mono{Q:List D->Prop}(h:∀b,Q b->Q' b):∀d,isL Q d->isL Q' d:=λd z=>by
 obtain⟨xs,rfl,q⟩:=Zj z;exact h _ q
def isT(Q:List D->Prop):D->Prop
 |.tup xs=>Q xs
 |_=>False
theorem JW{Q:List D->Prop}(h:isT Q d):∃xs,d=.tup xs/\Q xs:=by
 cases d with
 |tup xs=>exact⟨xs,rfl,h⟩
 |_=>exact h.elim
theorem isT.mono{Q:List D->Prop}(h:∀b,Q b->Q' b):∀d,isT Q d->isT Q' d:=λd z=>by
 obtain⟨xs,rfl,q⟩:=JW z;exact h _ q
def iL(w:WE):WA:=λE ρ Q=>w E ρ (isL Q)
def iT(w:WE):WA:=λE ρ Q=>w E ρ (isT Q)
def rng(lo:Int)(n:Nat):List D:=(List.range n).map λ(k:Nat)=>D.int (lo+k)
theorem E1{W:Wd}(lo:Int)(n:Nat):qq K W (vd lo n) (rng lo n):=by
 intro W2 H2 i g2 p2 ok2;refine⟨λd hd=>?_,λhi=>?_⟩
 .unfold rng at hd
  rw[cA] at hd
  by_cases hi:i<n
  .rw[iA hi] at hd
   cases hd;refine⟨hi,λx H3 y=>?_⟩;obtain⟨rfl,rfl⟩:=y;exact⟨W2,.refl ok2,.int _⟩
  .rw[eI (by simpa using hi)] at hd;cases hd
 .have:(rng lo n).length=n:=by unfold rng;simp
  rw[this] at hi;exact hi
def i1(Q:List D->Prop):List D->Prop
 |[.int j]=>-10000<=j/\j<10000/\Q (rng 0 j.toNat)
 |_=>False
def i2(Q:List D->Prop):List D->Prop
 |[.int i,.int j]=>(-10000<=i/\i<10000/\-10000<=j/\j<10000)/\Q (rng i (j-i).toNat)
 |_=>False
theorem i1.mono{Q:List D->Prop}(h:∀b,Q b->Q' b):∀d,i1 Q d->i1 Q' d:=λd z=>by
 unfold i1 at z ⊢;split at z
 .exact⟨z.1,z.2.1,h _ z.2.2⟩
 .exact z.elim
theorem i2.mono{Q:List D->Prop}(h:∀b,Q b->Q' b):∀d,i2 Q d->i2 Q' d:=λd z=>by
 unfold i2 at z ⊢;split at z
 .exact⟨z.1,h _ z.2⟩
 .exact z.elim
def gh(t:WA):WA:=λE ρ Q=>t E ρ (i1 Q)
def gP(t:WA):WA:=λE ρ Q=>t E ρ (i2 Q)
theorem mX{t:WA}(hm:X.mg "range" = none)(ha:iW X EX [a] t)(hg:Gl X "range" :=by rfl)(hs:starEach [a] X.env=[(false,eval a X.env)]:=by rfl):lZ X EX tg (.Call (.Name "range" p) [a] [] pos) (gh t):=by
 obtain⟨t,q,k⟩:=ha.t;refine⟨⟨_,lb hg hm q hs,λW0 H0 W σ H ρ E R s eo h=>?_⟩,λE ρ P P' hp h=>ha.mono _ _ _ _ (i1.mono hp) h⟩;refine k W0 H0 W σ H ρ E _ s eo (ha.mono _ _ _ _ (λds hd vs W1 H1 x1 r1=>?_) h);unfold i1 at hd;split at hd
 .obtain⟨v,rfl,rv⟩:=r1.one
  cases rv;exact⟨_,rfl,by omega,by omega,hd.2.2 W1 H1 _ x1 (E1 _ _)⟩
 .exact hd.elim
theorem ud{t:WA}(hm:X.mg "range" = none)(ha:iW X EX [a,b] t)(hg:Gl X "range" :=by rfl)(hs:starEach [a,b] X.env=[(false,eval a X.env),(false,eval b X.env)]:=by rfl)(hs2:starEach [b] X.env=[(false,eval b X.env)]:=by rfl) :
  lZ X EX tg (.Call (.Name "range" p) [a,b] [] pos) (gP t):=by
 obtain⟨t,q,k⟩:=ha.t;refine⟨⟨_,lg hg hm q hs hs2,λW0 H0 W σ H ρ E R s eo h=>?_⟩,λE ρ P P' hp h=>ha.mono _ _ _ _ (i2.mono hp) h⟩;refine k W0 H0 W σ H ρ E _ s eo (ha.mono _ _ _ _ (λds hd vs W1 H1 x1 r1=>?_) h);unfold i2 at hd;split at hd
 .obtain⟨v,u,rfl,rv,ru⟩:=r1.two
  cases rv;cases ru;exact⟨_,_,rfl,⟨by omega,by omega,by omega,by omega⟩,hd.2 W1 H1 _ x1 (E1 _ _)⟩
 .exact hd.elim
end
abbrev WG:=D->cQ->(cQ->Prop)->Prop
def ZhZ(ρ:cQ):Prop:=∀(i:Nat),(∀xs,ρ[i]?≠some (SV.ow xs))/\∀xss,ρ[i]?≠some (SV.oo xss)
structure qr(X:Cx)(tg:Expr)(g:WG):Prop where
 t:∃t,PG X tg t/\∀W0 H0 W σ H ρ d v Q,SOk X.K W0 H0 W σ H ρ->Rep X.K W v d->g d ρ (λρ'=>∀σ',SOk X.K W0 H0 W σ' H ρ'->Q σ' H)->t v σ H Q
 mono:∀d ρ P P',(∀r,P r->P' r)->g d ρ P->g d ρ P'
 own:∀d ρ P,ZhZ ρ->g d ρ P->g d ρ (λr=>ZhZ r/\P r)
section
theorem ZhZ.set{ρ:cQ}(h:ZhZ ρ)(i:Nat)(d:D):ZhZ (ρ.set i (.d d)):=λj=>by
 by_cases hj:i=j
 .subst hj
  by_cases hi:i<ρ.length
  .rw[eP hi];exact⟨λ_ e=>(by cases e),λ_ e=>(by cases e)⟩
  .rw[eI (by rw[dv];omega)];exact⟨λ_ e=>(by cases e),λ_ e=>(by cases e)⟩
 .rw[et hj];exact h j
def gN(i:Nat):WG:=λd ρ k=>k (ρ.set i (.d d))
theorem cR(i:Nat)(hN:X.N.Nodup)(hi:X.N[i]? = some x:=by rfl)(hx:lS X.env.scope x:=by first|exact Or.inl rfl|exact Or.inr rfl)(hf:X.fn x=true\/X.env.scope.names.lookup x=some .local:=by first|exact .inl rfl|exact .inr rfl|assumption) :
  qr X (.Name x pos) (gN i):=
 ⟨⟨_,pU hN hi hx hf,λW0 H0 W σ H ρ d v Q s r h=>h _ (s.set r)⟩,λd ρ P P' hp h=>hp _ h,λd ρ P ho h=>⟨ho.set i d,h⟩⟩
end
def ZbT(nv:Nat)(sel:List Nat)(ρ:cQ):cQ:=List.replicate nv .un++sel.map λj=>match ρ[j]? with
 |some (.d x)=>.d x
 |_=>.un
theorem ZbT.own(nv:Nat)(sel:List Nat)(ρ:cQ):ZhZ (ZbT nv sel ρ):=λi=>by
 have key:∀sv,(ZbT nv sel ρ)[i]? = some sv->sv=.un\/∃x,sv=.d x:=λsv e=>by
  unfold ZbT at e;rcases jj i nv with h|h
  .rw[jT (by simpa using h),mo] at e
   rw[if_pos h] at e;cases e;exact .inl rfl
  .rw[jE (by simpa using h),cA] at e
   cases q:sel[i-(List.replicate nv SV.un).length]? with
   |none=>rw[q] at e;cases e
   |some j=>
    rw[q] at e;have e':=N8 e;dsimp only at e';split at e'
    .exact .inr ⟨_,e'.symm⟩
    .exact .inl e'.symm
 refine⟨λxs e=>?_,λxs e=>?_⟩
 .rcases key _ e with z|⟨x,z⟩<;>cases z
 .rcases key _ e with z|⟨x,z⟩<;>cases z
def No:Ex->Prop:=λ_=>False
def lcW(g:WG)(wf:WT)(we:WE):List D->cQ->List D->(List D->Prop)->Prop
 |[],_,acc,Q=>Q acc
 |d::ds,ρ,acc,Q=>g d ρ λρ2=>wf No ρ2 λb=>if b=true then we No ρ2 λy=>acc.length<aO/\lcW g wf we ds ρ2 (acc++[y]) Q else lcW g wf we ds ρ2 acc Q
structure ue(X:Cx)(EX:XK)(ifs:List Expr)(w:WT):Prop where
 t:∃t,PF X ifs t/\∀W0 H0 W σ H ρ E Q,SOk X.K W0 H0 W σ H ρ->jv X.K W0 H0 E EX->w E ρ (λb=>∀W' H',Ext W H W' H'->Q b H')->t σ H Q
 mono:∀E ρ P P',(∀d,P d->P' d)->w E ρ P->w E ρ P'
def dL:WT:=λ_ _ Q=>Q true
section
variable{vars:List Str}{sel:List Nat}{g:WG}
theorem im:ue X EX [] dL:=⟨⟨_,Iq,λ_ _ W _ H _ _ _ s _ h=>h W H (.refl s.ok)⟩,λ_ _ _ _ hp h=>hp _ h⟩
def E2(h:jw X EX c wf):ue X EX [c] wf:=let⟨t,q,k⟩:=h.t;⟨⟨t,Ir q,k⟩,h.mono⟩
theorem lcW.mono(hg:∀d ρ P P',(∀r,P r->P' r)->g d ρ P->g d ρ P')(hf:∀E ρ P P',(∀d,P d->P' d)->wf E ρ P->wf E ρ P')(he:∀E ρ P P',(∀d,P d->P' d)->we E ρ P->we E ρ P') :
  ∀ds ρ acc P P',(∀xs,P xs->P' xs)->lcW g wf we ds ρ acc P->lcW g wf we ds ρ acc P'
 |[],_,acc,P,P',hp,h=>hp _ h
 | d::ds,ρ,acc,P,P',hp,h=>hg _ _ _ _ (λr hr=>hf _ _ _ _ (λb hb=>by
   cases b with
   |true=>rw[if_pos rfl] at hb ⊢;exact he _ _ _ _ (λy hy=>⟨hy.1,lcW.mono hg hf he ds r _ P P' hp hy.2⟩) hb
   |false=>rw[if_neg (by decide)] at hb ⊢;exact lcW.mono hg hf he ds r _ P P' hp hb) hr) h
def aLC(wi:WA)(nv:Nat)(sel:List Nat)(g:WG)(wf:WT)(we:WE):WA:=λE ρ Q=>wi E ρ λds=>lcW g wf we ds (ZbT nv sel ρ) [] Q
theorem aLC.mono(hi:lZ X EX target iter wi)(hg:∀d ρ P P',(∀r,P r->P' r)->g d ρ P->g d ρ P')(hf:∀E ρ P P',(∀d,P d->P' d)->wf E ρ P->wf E ρ P')(he:∀E ρ P P',(∀d,P d->P' d)->we E ρ P->we E ρ P') :
  ∀E ρ P P',(∀d,P d->P' d)->aLC wi vars.length sel g wf we E ρ P->aLC wi vars.length sel g wf we E ρ P':=λE ρ P P' hp h=>hi.mono _ _ _ _ (λds hds=>lcW.mono hg hf he ds _ _ _ _ hp hds) h
theorem SOk.lc{W:Wd}(s:SOk X.K W0 H0 W σ H ρ)(nv:Nat)(sel:List Nat):SOk X.K W0 H0 W (gX nv sel σ) H (ZbT nv sel ρ) where
 ext:=s.ext
 len:=by unfold ZbT gX;simp
 d:=λi x e=>by
  unfold ZbT at e;rcases jj i nv with h|h
  .rw[jT (by simpa using h),mo] at e
   split at e<;>cases e
  .rw[jE (by simpa using h),cA,pF] at e
   cases q:sel[i-nv]? with
   |none=>rw[q] at e;cases e
   |some j=>
    rw[q] at e;have e':=N8 e;dsimp only at e';split at e'
    .rename_i y ey
     cases e';obtain⟨v,ev,r⟩:=s.d j x ey;refine⟨v,?_,r⟩;unfold gX;rw[jE (by simpa using h),pF,cA,q];show some ((σ[j]?).getD none)=_;rw[ev];rfl
    .cases e'
 o:=λi xs e=>N6 e ((ZbT.own nv sel ρ i).1 xs)
 ne:=λi j xs ys a _ e=>N6 e ((ZbT.own nv sel ρ i).1 xs)
 oo:=.none λi=>(ZbT.own nv sel ρ i).2
theorem SOk.chgD{W:Wd}{o':HO}(s:SOk K W0 H0 W σ H ρ)(ho:ZhZ ρ)(h0:H0 a=none)(h1:H a=some o)(h2:¬W.Pn a)(h3:W.G a=none):SOk K W0 H0 W σ (upd H a o') ρ:=
 ⟨s.ext.chg h0 h1 h2 h3,s.len,s.d,λi xs e=>N6 e ((ho i).1 xs),λi j xs ys a _ e=>N6 e ((ho i).1 xs),.none λi=>(ho i).2⟩
theorem BK(hi:lZ X EX target iter wi)(hg:∀s H fp,qr (X.lc sc vars sel s H fp) target g)(hf:∀s H fp,ue (X.lc sc vars sel s H fp) E0 ifs wf)(he:∀s H fp,PX (X.lc sc vars sel s H fp) E0 elt we) :
  ∃(ti:TI) (tg:TG) (tf:TT) (te:TE),PI X target iter ti/\(∀s H fp,PG (X.lc sc vars sel s H fp) target tg)/\(∀s H fp,PF (X.lc sc vars sel s H fp) ifs tf)/\(∀s H fp,PE (X.lc sc vars sel s H fp) elt te)/\
   ∀W0 H0 W σ H ρ E Q,SOk X.K W0 H0 W σ H ρ->jv X.K W0 H0 E EX->
    aLC wi vars.length sel g wf we E ρ (λds=>∀a vs W' H',Ext W H W' H'->H' a=some (.lst vs)->W'.G a=none->¬W'.Pn a->H a=none->Reps X.K W' vs ds->Q (.ref a) H')->A8 ti vars.length sel tg tf te σ H Q:=by
 obtain⟨ti,pi,ki⟩:=hi.t;refine ⟨ti,λv σ H Q=>∃ W0 H0 W ρ d,SOk X.K W0 H0 W σ H ρ/\Rep X.K W v d/\g d ρ (λρ'=>∀ σ',SOk X.K W0 H0 W σ' H ρ'->Q σ' H),
  λσ H Q=>∃W0 H0 W ρ,SOk X.K W0 H0 W σ H ρ/\wf No ρ (λb=>∀W' H',Ext W H W' H'->Q b H'),
  λσ H Q=>∃W0 H0 W ρ,SOk X.K W0 H0 W σ H ρ/\we No ρ (RQ X.K W H Q),pi,λs1 H1 fp=>?_,λs1 H1 fp=>?_,λs1 H1 fp=>?_,?_⟩
 .obtain⟨t,q,k⟩:=(hg s1 H1 fp).t
  rintro pins s σ H v u Q I r ⟨W0,H0,W,ρ,d,s',r',h⟩;exact q pins s σ H v u Q I r (k W0 H0 W σ H ρ d v Q s' r' h)
 .obtain⟨t,q,k⟩:=(hf s1 H1 fp).t
  rintro pins s σ H Q I ⟨W0,H0,W,ρ,s',h⟩;exact q pins s σ H Q I (k W0 H0 W σ H ρ No Q s' (λ_ _ _ _ _ z=>z.elim) h)
 .obtain⟨t,q,k⟩:=(he s1 H1 fp).t
  rintro pins s σ H Q I ⟨W0,H0,W,ρ,s',h⟩;exact q pins s σ H Q I (k W0 H0 W σ H ρ No Q s' (λ_ _ _ _ _ z=>z.elim) h)
 .have gm:=(hg {} (λ_=>none) []).mono
  have go:=(hg {} (λ_=>none) []).own;have fm:=(hf {} (λ_=>none) []).mono;have em:=(he {} (λ_=>none) []).mono;intro W0 H0 W σ H ρ E Q s eo h;refine ki W0 H0 W σ H ρ E _ s eo (hi.mono _ _ _ _ (λds hds W1 H1 J x1 it D hD=>?_) h);have hDf:=x1.ok.fresh hD;have hD0:H0 D=none:=s.ext.isN (x1.isN hD);refine ⟨λi m ys σ2 H2=>m=ds.length - i/\i<=ds.length/\∃ W2 ρ2 acc,Ext W1 H1 W2 H2/\SOk X.K W0 H0 W2 σ2 H2 ρ2/\ZhZ ρ2/\H2 D=some (.lst ys)/\W2.G D=none/\¬ W2.Pn D/\Reps X.K W2 ys acc/\
   lcW g wf we (ds.drop i) ρ2 acc (λds=>∀a vs W' H',Ext W H W' H'->H' a=some (.lst vs)->W'.G a=none->¬W'.Pn a->H a=none->Reps X.K W' vs ds->Q (.ref a) H'),⟨_,rfl,jS _,W1,_,[],.new x1.ok hD,?_,ZbT.own _ _ ρ,aL,hDf.1,hDf.2,.nil,by rw[qI];exact hds⟩,?_⟩
  .exact(((s.step x1).step (.new x1.ok hD)).lc vars.length sel)
  .rintro i m ys σ2 H2 ⟨rfl,hi',W2,ρ2,acc,x2,s2,no2,hD2,g2,p2,r2,q2⟩
   refine⟨hD2,?_⟩;obtain⟨itg,its⟩:=it W2 H2 i x2.g x2.p x2.ok;rcases jj i ds.length with hlt|hge
   .have hd:ds[i]? = some ds[i]:=bR hlt
    obtain⟨go',yl⟩:=itg _ hd;refine .inr ⟨go',λx H3 y=>?_⟩;obtain⟨W3,x3,r3⟩:=yl x H3 y;rw[tV hlt] at q2;have keepD:∀{W' H'},Ext W2 H2 W' H'->H' D=some (.lst ys)/\W'.G D=none/\¬W'.Pn D:=λ{W' H'} x'=>by
     refine⟨x'.h D _ hD2 p2,?_,λz=>?_⟩
     .cases q:W'.G D with
      |none=>rfl
      |some o=>have:=x'.gf D g2 (by rw[q];simp);rw[hD2] at this;cases this
     .have:=x'.pf D p2 z;rw[hD2] at this;cases this
    refine⟨W0,H0,W3,ρ2,ds[i],s2.step x3,r3,gm _ _ _ _ (λρ4 hr σ4 s4=>?_) (go _ _ _ no2 q2)⟩;obtain⟨no4,hr⟩:=hr;refine⟨W0,H0,W3,ρ4,s4,fm _ _ _ _ (λb hb W5 H5 x5=>?_) hr⟩;cases b with
    |false=>
     rw[if_neg (by decide)] at hb ⊢;have kD:=keepD (x3.trans x5);exact⟨ds.length-(i+1),by omega,rfl,hlt,W5,ρ4,acc,x2.trans (x3.trans x5),s4.step x5,no4,kD.1,kD.2.1,kD.2.2,(x3.trans x5).reps r2,hb⟩
    |true=>
     rw[if_pos rfl] at hb ⊢;refine⟨W0,H0,W5,ρ4,s4.step x5,em _ _ _ _ (λy hy v W6 H6 x6 r6=>?_) hb⟩;have xx:=x3.trans (x5.trans x6);have kD:=keepD xx;have hl:ys.length=acc.length:=r2.length;refine⟨kD.1,by rw[hl];exact cW hy.1 (nQ (bM _)),ds.length-(i+1),by omega,rfl,hlt,W6,ρ4,acc++[y],(x2.trans xx).chg hD kD.1 kD.2.2 kD.2.1,?_,no4,aL,kD.2.1,kD.2.2,(xx.reps r2).append (.cons r6 .nil),hy.2⟩;exact((s4.step x5).step x6).chgD no4 hD0 kD.1 kD.2.2 kD.2.1
   .have e:i=ds.length:=by omega
    refine .inl ⟨its hge,?_⟩;rw[List.drop_of_length_le hge] at q2;exact q2 D ys W2 H2 (x1.trans x2) hD2 g2 p2 (x1.isN hD) r2
theorem iq(vars:List Str)(sel:List Nat)(hc:X.calm=true)(hi:lZ X EX target iter wi)(hg:∀s H fp,qr (X.lc sc vars sel s H fp) target g)(hf:∀s H fp,ue (X.lc sc vars sel s H fp) E0 ifs wf)(he:∀s H fp,PX (X.lc sc vars sel s H fp) E0 elt we)
  (ok:lU sc X.env.scope=true:=by rfl) (so:sS X.N sc sel=true:=by rfl) (hs:∀x,foldedSetIterable iter X.env x=pure x:=by intro _;rfl):PXL X EX (.ListComp elt [⟨target,iter,ifs,0⟩] sc pos) (aLC wi vars.length sel g wf we):=by
 obtain⟨ti,tg,tf,te,pi,pg,pf,pe,k⟩:=BK hi hg hf he;exact⟨⟨_,vB vars sel hc pi ok so pg pf pe hs,k⟩,aLC.mono hi (hg {} (λ_=>none) []).mono (hf {} (λ_=>none) []).mono (he {} (λ_=>none) []).mono⟩
theorem wz(i:Nat)(vars:List Str)(sel:List Nat)(hc:X.calm=true)(hN:X.N.Nodup)(hi:lZ X EX target iter wi)(hg:∀s H fp,qr (X.lc sc vars sel s H fp) target g)(hf:∀s H fp,ue (X.lc sc vars sel s H fp) E0 ifs wf)(he:∀s H fp,PX (X.lc sc vars sel s H fp) E0 elt we)
  (hix:X.N[i]? = some x:=by rfl) (hx:lS X.env.scope x:=by first|exact Or.inl rfl|exact Or.inr rfl)
  (hsw:swapsWith (.ListComp elt [⟨target,iter,ifs,0⟩] sc pos) (some (.Name x pos')) spos.line X.env=pure true:=by rfl)
  (ok:lU sc X.env.scope=true:=by rfl) (so:sS X.N sc sel=true:=by rfl) (hs:∀x,foldedSetIterable iter X.env x=pure x:=by intro _;rfl) (hfn:X.fn x=true\/X.env.scope.names.lookup x=some .local:=by first|exact .inl rfl|exact .inr rfl|assumption) :
  PZ X EX (.Assign [.Name x pos'] (.ListComp elt [⟨target,iter,ifs,0⟩] sc pos) spos) (cH i (aLC wi vars.length sel g wf we)):=by
 obtain⟨ti,tg,tf,te,pi,pg,pf,pe,k⟩:=BK hi hg hf he;have am:=aLC.mono (vars:=vars) (sel:=sel) hi (hg {} (λ_=>none) []).mono (hf {} (λ_=>none) []).mono (he {} (λ_=>none) []).mono;refine⟨⟨_,En vars sel hc hN hix hx pi ok so pg pf pe hsw hs hfn,λW0 H0 F W σ H ρ E Dn N s fl eo no h=>?_⟩,λE ρ N N' hl q=>am _ _ _ _ (λ_=>hl.nx _) q⟩;refine k W0 H0 W σ H ρ E _ s eo (am _ _ _ _ (λxs hd a vs W1 H1 x1 e1 e2 e3 e4 r1=>no.nx W1 _ H1 _ (s.own x1 e4 e1 e2 e3 r1) (fl.ext x1) hd) h)
def ZbS(g:WG)(zb:WS)(E:Ex->Prop)(N:Nds):List D->cQ->Prop
 |[],ρ=>N.nx ρ
 |d::ds,ρ=>g d ρ λρ1=>zb E { nx:=ZbS g zb E N ds,rt:=N.rt,bk:=N.nx,ct:=ZbS g zb E N ds } ρ1
def bN(wi:WA)(g:WG)(zb:WS):WS:=λE N ρ=>wi E ρ λds=>ZbS g zb E N ds ρ
theorem ZbS.mono{zb:WS}(hg:∀d ρ P P',(∀r,P r->P' r)->g d ρ P->g d ρ P')(hb:∀E ρ N N',N.le N'->zb E N ρ->zb E N' ρ){E:Ex->Prop}{N N':Nds}(hl:N.le N'):∀ds ρ,ZbS g zb E N ds ρ->ZbS g zb E N' ds ρ
 |[],ρ,h=>hl.nx _ h
 |d::ds,ρ,h=>hg _ _ _ _ (λr hr=>hb E r { nx:=ZbS g zb E N ds,rt:=N.rt,bk:=N.nx,ct:=ZbS g zb E N ds } _ ⟨ZbS.mono hg hb hl ds,hl.rt,hl.nx,ZbS.mono hg hb hl ds⟩ hr) h
theorem jz(hp:PassesOwn (model X.prog X.w) X.A X.env X.xe)(hc:X.calm=true)(hi:lZ X EX target iter wi)(hg:qr X target g)(hb:jc X EX body zb)
  (hs:∀x,foldedSetIterable iter X.env x=pure x:=by intro _;rfl):PZ X EX (.For target iter body [] pos) (bN wi g zb):=by
 obtain⟨ti,pi,ki⟩:=hi.t;obtain⟨tg,pg,kg⟩:=hg.t;obtain⟨tb,pb,kb⟩:=hb.t;refine⟨⟨_,sB hp hc pi pg pb hs,λW0 H0 F W σ H ρ E Dn N s fl eo no h=>?_⟩,λE ρ N N' hl q=>hi.mono _ _ _ _ (λds hds=>ZbS.mono hg.mono hb.mono hl ds ρ hds) q⟩;refine ki W0 H0 W σ H ρ E _ s eo (hi.mono _ _ _ _ (λds hds W1 H1 J x1 it=>?_) h);refine⟨λi m σ2 H2=>m=ds.length-i/\i<=ds.length/\∃W2 ρ2,SOk X.K W0 H0 W2 σ2 H2 ρ2/\Wle W1 W2/\ZbS g zb E N (ds.drop i) ρ2,⟨_,rfl,jS _,W1,ρ,s.step x1,.refl W1,by rw[qI];exact hds⟩,?_⟩;rintro i m σ2 H2 ⟨rfl,hi',W2,ρ2,s2,f2,q2⟩;obtain⟨itg,its⟩:=it W2 H2 i f2.g f2.p s2.ok;have fF:∀{V:Wd},Wle W1 V->Wle F V:=λf=>(fl.ext x1).trans f;rcases jj i ds.length with hlt|hge
 .have hd:ds[i]? = some ds[i]:=bR hlt
  obtain⟨go',yl⟩:=itg _ hd;rw[tV hlt] at q2;refine .inr ⟨go',λσ3 H3=>∃W3 ρ3,SOk X.K W0 H0 W3 σ3 H3 ρ3/\Wle W1 W3/\ZbS g zb E N (ds.drop (i+1)) ρ3,λσ3 H3 ⟨W3,ρ3,s3,f3,q3⟩=>⟨ds.length-(i+1),by omega,rfl,hlt,W3,ρ3,s3,f3,q3⟩,λx H3 y=>?_⟩;obtain⟨W3,x3,r3⟩:=yl x H3 y;refine kg W0 H0 W3 σ2 H3 ρ2 ds[i] x _ (s2.step x3) r3 (hg.mono _ _ _ _ (λρ4 hr σ4 s4=>?_) q2);refine kb W0 H0 W1 W3 σ4 H3 ρ4 E _ { nx:=ZbS g zb E N (ds.drop (i+1)),rt:=N.rt,bk:=N.nx,ct:=ZbS g zb E N (ds.drop (i+1)) } s4 (f2.ext x3) eo ⟨λW5 σ5 H5 ρ5 s5 f5 h5=>⟨W5,ρ5,s5,f5,h5⟩,no.rt,λW5 σ5 H5 ρ5 s5 f5 h5=>no.nx W5 σ5 H5 ρ5 s5 (fF f5) h5,λW5 σ5 H5 ρ5 s5 f5 h5=>⟨W5,ρ5,s5,f5,h5⟩⟩ hr
 .have e:i=ds.length:=by omega
  refine .inl ⟨its hge,?_⟩;rw[List.drop_of_length_le hge] at q2;exact no.nx W2 σ2 H2 ρ2 s2 (fF f2) q2
end
def dS(N:List Str)(ds:List D):cQ:=ds.map .d++List.replicate (N.length-ds.length) .un
abbrev Rd(S:List D->(Ex->Prop)->(D->Prop)->Prop)(z:WS)(N:List Str):Prop:=∀ds E Q,S ds E Q->z E { nx:=λ_=>Q .non,rt:=Q } (dS N ds)
theorem BL{W:Wd}{N:List Str}(ok:WOk W H)(r:Reps K W vs ds):SOk K W H W (start N vs) H (dS N ds) where
 ext:=.refl ok
 len:=by unfold dS L2.start;simp[r.length]
 d:=λi x e=>by
  unfold dS at e;rcases jj i ds.length with h|h
  .rw[jT (by simpa using h),cA] at e
   cases q:ds[i]? with
   |none=>rw[q] at e;cases e
   |some y=>
    rw[q] at e;cases e;obtain⟨v,ev,rv⟩:=r.get q;refine⟨v,?_,rv⟩;unfold L2.start;rw[jT (by rw[bP,r.length];exact h),cA,ev];rfl
  .rw[jE (by simpa using h),mo] at e
   split at e<;>cases e
 o:=λi xs e=>by
  unfold dS at e;rcases jj i ds.length with h|h
  .rw[jT (by simpa using h),cA] at e
   cases q:ds[i]? with
   |none=>rw[q] at e;cases e
   |some y=>rw[q] at e;cases e
  .rw[jE (by simpa using h),mo] at e
   split at e<;>cases e
 ne:=λi j xs ys a _ e=>by
  unfold dS at e;rcases jj i ds.length with h|h
  .rw[jT (by simpa using h),cA] at e
   cases q:ds[i]? with
   |none=>rw[q] at e;cases e
   |some y=>rw[q] at e;cases e
  .rw[jE (by simpa using h),mo] at e
   split at e<;>cases e
 oo:=.none λi xs e=>by
  unfold dS at e;rcases jj i ds.length with h|h
  .rw[jT (by simpa using h),cA] at e
   cases q:ds[i]? with
   |none=>rw[q] at e;cases e
   |some y=>rw[q] at e;cases e
  .rw[jE (by simpa using h),mo] at e
   split at e<;>cases e
section
variable{w:World}
theorem tj{N:List Str}(F:Fun K x qual st f fd)(sc:bI N ps (aE st))(len:∀ds E Q,S ds E Q->ds.length=ps.length)
  (hbody:∀ (cdv:Value) (A:Around) (outer:List Env) (s:Shared) (H:Hp) (E:XK),Room k (A.deeper (envOfC qual (aE st) s.heap.objs.size f cdv))->
   cc (cU P w) (cB (cU P w) P w K mg base N qual (aE st) f cdv A outer s H E) E->iV (cB (cU P w) P w K mg base N qual (aE st) f cdv A outer s H E) E->
   jc (cB (cU P w) P w K mg base N qual (aE st) f cdv A outer s H E) E (aW st) z)
  (h:∀ds E Q,S ds E Q->z E { nx:=λ_=>Q .non,rt:=Q } (dS N ds)):FnOk P w K mg base (cU P w) (k+1) f fd ps (fV K S):=by
 obtain⟨oc,od,kV,doc,pm,an,cdv,ct,osl,rfl,lk,hcd⟩:=F.ex;refine kL lk hcd sc (λvs H Q E hs=>?_) λA outer s H vs Q E hr hs=>?_
 .obtain⟨ds,W,_,r,hS⟩:=hs
  rw[r.length];exact len _ _ _ hS
 .obtain⟨ds,W,ok,r,hS⟩:=hs
  obtain⟨t,p,k⟩:=(hbody cdv A outer s H E hr Eo Ep).t;refine ⟨t,p,k W H W W (start N vs) H (dS N ds) (λex=>∀ W' H' cls dx,Ext W H W' H'->ua K W' H' cls dx ex->E cls dx H') _ { nx:=λ_=>RQ K W H Q .non,rt:=RQ K W H Q } (BL ok r) (.refl W) (λex W' H' cls dx he x r=>he W' H' cls dx x r)
   ⟨λW1 σ1 H1 ρ1 s1 _ q=>q _ W1 H1 s1.ext .non,λd v W1 H1 x1 r1 q=>q v W1 H1 x1 r1,λ_ _ _ _ _ _ q=>q.elim,λ_ _ _ _ _ _ q=>q.elim⟩ (h ds _ _ hS)⟩
end
structure Fp(P:Program)(w:World)(K:N4)(mg:Str->Option Value)(base:Heap)(k:Nat)(x:Str)(ps:List Str)(S:bK):Prop where
 ok:∃f fd,FnOk P w K mg base (cU P w) k f fd ps (fV K S)/\mg x=some (.ref f)/\PySem.W.keepIn K (.ref f)=true/\Binds K fd ps []
 mono:lX S
section
variable{p:Pos}{t:WA}
theorem aS(G:Fp X.prog X.w X.K X.mg X.base k x ps S)(hr:Room j X.A)(hx:cc (cU X.prog X.w) X EX)(ha:iW X EX (e::es) t)(hk:k<=j:=by decide)(hg:Gl X x:=by rfl)(hdb:(x==("__debug__" : Str))=false:=by decide)(he:starEach (e::es) X.env=(false,eval e X.env)::starEach es X.env:=by rfl)(hpl:(backTo pos (starEach es X.env)).any (·.1)=false:=by rfl) :
  PX X EX (.Call (.Name x p) (e::es) [] pos) (wF S t):=by
 obtain⟨f,fd,F,hm,kp,hb⟩:=G.ok;exact JK F G.mono (hr.mono hk) hm kp hb hx ha hg hdb he hpl
def bJ(z:WS):WS:=λ_ N ρ=>z No N ρ
theorem i4(h:PZ X.nox E0 st z):PZ X EX st (bJ z):=by
 obtain⟨t,p,k⟩:=h.t;refine⟨⟨t,λpins s σ H D I hw=>Of (p pins s σ H D (I.wish _) hw) (λ_ _ q=>q.unwish) λ_ _ z=>Oh z,λW0 H0 F W σ H ρ E Dn N s fl eo no q=>k W0 H0 F W σ H ρ No Dn N s fl (λ_ _ _ _ _ z=>z.elim) no q⟩,λE ρ N N' hl q=>h.mono _ _ _ _ hl q⟩
end
section
variable{p:Pos}{a b:Expr}
def isS(Q:List D->Prop):D->Prop
 |.lst xs=>Q xs
 |.tup xs=>Q xs
 |_=>False
theorem isS.mono{Q:List D->Prop}(h:∀b,Q b->Q' b):∀d,isS Q d->isS Q' d:=λd z=>by
 cases d<;>first|exact h _ z|exact z
def iS(w:WE):WA:=λE ρ Q=>w E ρ (isS Q)
theorem Zc(he:PX X EX e w):lZ X EX tg e (iS w):=by
 obtain⟨t,q,k⟩:=he.t;refine⟨⟨_,II q,λW0 H0 W σ H ρ E R s eo h=>?_⟩,λE ρ P P' hp h=>he.mono _ _ _ _ (isS.mono hp) h⟩;refine k W0 H0 W σ H ρ E _ s eo (he.mono _ _ _ _ (λd hd v W1 H1 x1 r1=>?_) h);have keyT:∀{l:Addr} {vs:List V} {xs:List D},(∀W' H' J,Ext W H W' H'->qq X.K W' J xs->R J H')->(∀W2 H2,(∀a o,W1.G a=some o->W2.G a=some o)->WOk W2 H2->SqT X.K H2 l vs)->Reps X.K W1 vs xs->(∃ys,SqT X.K H1 l ys)/\R (AV X.K l) H1:=by
  intro l vs xs hq sq rr;refine⟨⟨vs,sq W1 H1 (λ_ _ z=>z) x1.ok⟩,hq W1 H1 _ x1 λW2 H2 i g2 p2 ok2=>⟨λd hd=>?_,λhi=>⟨vs,sq W2 H2 g2 ok2,by rw[rr.length];exact hi⟩⟩⟩;obtain⟨v,ev,rv⟩:=rr.get hd;refine⟨⟨vs,v,sq W2 H2 g2 ok2,ev⟩,λx H3 y=>?_⟩;obtain⟨rfl,y⟩:=y;have:=y vs (sq W2 _ g2 ok2);rw[ev] at this;cases this;exact⟨W2,.refl ok2,rv.mono g2 p2⟩
 cases r1 with
 | @lst l vs xs e1 rr=>
  have hq:∀W' H' J,Ext W H W' H'->qq X.K W' J xs->R J H':=hd;refine⟨l,rfl,.inl ⟨⟨vs,SqL.of (x1.ok.g _ _ e1)⟩,hq W1 H1 _ x1 λW2 H2 i g2 p2 ok2=>⟨λd hd=>?_,λhi=>⟨vs,SqL.of (ok2.g _ _ (g2 _ _ e1)),by rw[rr.length];exact hi⟩⟩⟩⟩;obtain⟨v,ev,rv⟩:=rr.get hd;have sq:SqL X.K H2 l vs:=SqL.of (ok2.g _ _ (g2 _ _ e1));refine⟨⟨vs,v,sq,ev⟩,λx H3 y=>?_⟩;obtain⟨rfl,y⟩:=y;have:=y vs sq;rw[ev] at this;cases this;exact⟨W2,.refl ok2,rv.mono g2 p2⟩
 |tup e1 rr=>exact⟨_,rfl,.inr (keyT hd (λW2 H2 g2 ok2=>SqT.of (ok2.g _ _ (g2 _ _ e1))) rr)⟩
 |ktup e1 rr=>exact⟨_,rfl,.inr (keyT hd (λW2 H2 g2 ok2=>.inr e1) rr)⟩
 |non=>exact hd.elim
 |bl _=>exact hd.elim
 |int _=>exact hd.elim
 |str _=>exact hd.elim
 |dic _=>exact hd.elim
 |pen _=>exact hd.elim
 |cls _=>exact hd.elim
 |exc _ _=>exact hd.elim
 |ty _=>exact hd.elim
 |scr _ _=>exact hd.elim
theorem nS{T:String}(hm:X.mg x=none)(hv:bootBuiltins x=some (.type T))(hg:Gl X x:=by rfl)(hn:x≠ "__name__" :=by decide)(hd:(x==("__debug__" : Str))=false:=by decide):PX X EX (.Name x pos) (wC (.ty T)):=
 JG (v:=.ty T) hm hv rfl (λ_=>.ty T) hg hn hd
theorem JX{i:Int}{t:Tok}(hm:X.mg x=some (.int i t))(hg:Gl X x:=by rfl)(hd:(x==("__debug__" : Str))=false:=by decide):PX X EX (.Name x pos) (wC (.int i)):=
 BC (v:=.int i) hm ⟨t,rfl⟩ (λ_=>.int i) hg hd
theorem JY{a:Addr}(hm:X.mg x=some (.ref a))(hk:KT X.K a vs)(hr:∀W,Reps X.K W vs ds)(hg:Gl X x:=by rfl)(hd:(x==("__debug__" : Str))=false:=by decide):PX X EX (.Name x pos) (wC (.tup ds)):=
 BC (v:=.ref a) hm rfl (λW=>.ktup hk (hr W)) hg hd
end
def detS(n:Nat)(dom:List D->Prop)(val:List D->D):bK:=λds _ Q=>ds.length=n/\dom ds/\Q (val ds)
def detS.mono:lX (detS n dom val):=λds E E' Q Q' _ hQ h=>⟨h.1,h.2.1,hQ _ h.2.2⟩
theorem detS.len(hp:ps.length=n):∀ds E Q,detS n dom val ds E Q->ds.length=ps.length:=λds E Q h=>h.1.trans hp.symm
def ndS(n:Nat)(dom:List D->Prop)(rel:List D->D->Prop):bK:=λds _ Q=>ds.length=n/\dom ds/\∀d,rel ds d->Q d
theorem ndS.mono:lX (ndS n dom rel):=λds E E' Q Q' _ hQ h=>⟨h.1,h.2.1,λd r=>hQ _ (h.2.2 d r)⟩
theorem ndS.len(hp:ps.length=n):∀ds E Q,ndS n dom rel ds E Q->ds.length=ps.length:=λds E Q h=>h.1.trans hp.symm
theorem Fp.nd{w:World}(h:FnOk P w K mg base (cU P w) k f fd ps (fV K (ndS n dom rel)))(hm:mg x=some (.ref f))(kp:PySem.W.keepIn K (.ref f)=true)(hb:Binds K fd ps []) :
  Fp P w K mg base k x ps (ndS n dom rel):=⟨⟨f,fd,h,hm,kp,hb⟩,ndS.mono⟩
theorem JZ{neg:Bool}{i j:Int}(h:Q (.bl (if neg then !(i==j) else i==j))):gEq neg (.int i) (.int j) Q:=by
 refine⟨.int i,.int j,rfl,rfl,rfl,rfl,?_⟩;exact h
theorem lH{neg:Bool}{i j:Int}:gEq neg (.int i) (.int j) Q↔Q (.bl (if neg then !(i==j) else i==j)):=
 ⟨λ⟨p,q,h1,h2,_,_,h⟩=>by cases h1;cases h2;exact h,JZ⟩
section
variable{a b:Expr}{g:WG}
abbrev tm:=List D->cQ->(cQ->Prop)->Prop
structure qs(X:Cx)(ts:List Expr)(g:tm):Prop where
 t:∃t,va X ts t/\∀W0 H0 W σ H ρ ds vs Q,SOk X.K W0 H0 W σ H ρ->Reps X.K W vs ds->g ds ρ (λρ'=>∀σ',SOk X.K W0 H0 W σ' H ρ'->Q σ' H)->t vs σ H Q
 mono:∀d ρ P P',(∀r,P r->P' r)->g d ρ P->g d ρ P'
 own:∀d ρ P,ZhZ ρ->g d ρ P->g d ρ (λr=>ZhZ r/\P r)
def fq:tm:=λds ρ k=>match ds with
 |[]=>k ρ
 |_=>False
def dC(g:WG)(gs:tm):tm:=λds ρ k=>match ds with
 |d::ds=>g d ρ λρ'=>gs ds ρ' k
 |_=>False
theorem l4:qs X [] fq:=by
 refine⟨⟨_,kI,λW0 H0 W σ H ρ ds vs Q s r h=>?_⟩,λd ρ P P' hp h=>?_,λd ρ P ho h=>?_⟩
 .cases r with
  |nil=>exact⟨rfl,h σ s⟩
  |cons _ _=>exact h.elim
 .cases d with
  |nil=>exact hp _ h
  |cons _ _=>exact h.elim
 .cases d with
  |nil=>exact⟨ho,h⟩
  |cons _ _=>exact h.elim
theorem gj{gs:tm}(h1:qr X e g)(h2:qs X es gs)(hs:(assignEach (e::es) X.env).map (·.2)=assign e X.env::(assignEach es X.env).map (·.2):=by rfl):qs X (e::es) (dC g gs):=by
 obtain⟨t1,p1,k1⟩:=h1.t;obtain⟨t2,p2,k2⟩:=h2.t;refine⟨⟨_,gv p1 p2 hs,λW0 H0 W σ H ρ ds vs Q s r h=>?_⟩,λd ρ P P' hp h=>?_,λd ρ P ho h=>?_⟩
 .cases r with
  |nil=>exact h.elim
  |cons r rr=>exact⟨_,_,rfl,k1 W0 H0 W σ H ρ _ _ _ s r (h1.mono _ _ _ _ (λρ' h' σ' s'=>k2 W0 H0 W σ' H ρ' _ _ Q s' rr h') h)⟩
 .cases d with
  |nil=>exact h.elim
  |cons d ds=>exact h1.mono _ _ _ _ (λr hr=>h2.mono _ _ _ _ hp hr) h
 .cases d with
  |nil=>exact h.elim
  |cons d ds=>exact h1.mono _ _ _ _ (λr hr=>h2.own _ _ _ hr.1 hr.2) (h1.own _ _ _ ho h)
def e7(n:Nat)(gs:tm):WG:=λd ρ k=>match d with
 |.tup xs=>xs.length=n/\gs xs ρ k
 |_=>False
theorem l5{gs:tm}(hc:X.calm=true)(h:qs X es gs)(hn:(assignEach es X.env).length=n:=by rfl)(hst:(assignEach es X.env).findIdx? (·.1)=none:=by rfl):qr X (.Tuple es k pos) (e7 n gs):=by
 obtain⟨t,p,kk⟩:=h.t;refine⟨⟨_,my hc p hn hst,λW0 H0 W σ H ρ d v Q s r q=>?_⟩,λd ρ P P' hp q=>?_,λd ρ P ho q=>?_⟩
 .unfold e7 at q
  split at q
  .obtain⟨a,vs,rfl,h1,rr⟩:=r.sqt s.ok
   exact⟨a,vs,rfl,h1,rr.length.trans q.1,kk W0 H0 W σ H ρ _ _ Q s rr q.2⟩
  .exact q.elim
 .unfold e7 at q ⊢
  split at q
  .exact⟨q.1,h.mono _ _ _ _ hp q.2⟩
  .exact q.elim
 .unfold e7 at q ⊢
  split at q
  .exact⟨q.1,h.own _ _ _ ho q.2⟩
  .exact q.elim
def eJ(w:WE)(g:WG):WS:=λE N ρ=>w E ρ λd=>g d ρ N.nx
theorem E3(he:PX X EX e w)(hg:qr X tg g)(hs:swapsWithSole [tg] e pos.line X.env=pure false:=by rfl)(hw:swappedStores [tg] e X.env=pure none:=by rfl)
  (h1:(assignEach [tg] X.env).map (·.2)=[assign tg X.env]:=by rfl):PZ X EX (.Assign [tg] e pos) (eJ w g):=by
 obtain⟨t,p,k⟩:=he.t;obtain⟨t2,p2,k2⟩:=hg.t;refine⟨⟨_,iH p p2 hs hw h1,λW0 H0 F W σ H ρ E Dn N s fl eo no h=>?_⟩,λE ρ N N' hl q=>he.mono _ _ _ _ (λd hd=>hg.mono _ _ _ _ hl.nx hd) q⟩;refine k W0 H0 W σ H ρ E _ s eo (he.mono _ _ _ _ (λd hd v W1 H1 x1 r1=>?_) h);exact k2 W0 H0 W1 σ H1 ρ d v _ (s.step x1) r1 (hg.mono _ _ _ _ (λρ' h' σ' s'=>no.nx W1 σ' H1 ρ' s' (fl.ext x1) h') hd)
def eK(i j:Nat)(t:WA):WS:=λE N ρ=>t E ρ λds=>match ds with
 |[x,y]=>N.nx ((ρ.set i (.d x)).set j (.d y))
 |_=>False
theorem BM(i j:Nat){y:Str}{t:WA}{px py pt:Pos}{kt k2 pt2}(hN:X.N.Nodup)(ha:iW X EX [a,b] t)(hc:X.calm=true:=by rfl)(hi:X.N[i]? = some x:=by rfl)(hj:X.N[j]? = some y:=by rfl)(hij:i≠j:=by decide)
  (hx:X.env.scope.names.lookup x=some .local:=by rfl) (hy:X.env.scope.names.lookup y=some .local:=by rfl)
  (hw:swappedStores [.Tuple [.Name x px,.Name y py] kt pt] (.Tuple [a,b] k2 pt2) X.env=pure (some [x,y]):=by rfl)
  (hs:swapsWithSole [.Tuple [.Name x px,.Name y py] kt pt] (.Tuple [a,b] k2 pt2) pos.line X.env=pure false:=by rfl) :
  PZ X EX (.Assign [.Tuple [.Name x px,.Name y py] kt pt] (.Tuple [a,b] k2 pt2) pos) (eK i j t):=by
 obtain⟨ta,p,k⟩:=ha.t;refine⟨⟨_,sr hc hN hi hj hij hx hy p hw hs,λW0 H0 F W σ H ρ E Dn N s fl eo no h=>?_⟩,λE ρ N N' hl q=>ha.mono _ _ _ _ (λds hd=>?_) q⟩
 .refine k W0 H0 W σ H ρ E _ s eo (ha.mono _ _ _ _ (λds hd vs W1 H1 x1 r1=>?_) h)
  split at hd
  .obtain⟨v,u,rfl,rv,ru⟩:=r1.two
   exact⟨v,u,rfl,no.nx W1 _ H1 _ (((s.step x1).set rv).set ru) (fl.ext x1) hd⟩
  .exact hd.elim
 .split at hd
  .exact hl.nx _ hd
  .exact hd.elim
def BN(c:WT)(zb:WS):WS:=λE N ρ=>∃I:Nat->cQ->Prop,(∃m,I m ρ)/\∀m ρ,I m ρ->c E ρ λb=>
 if b=true then zb E { nx:=λρ'=>∃m',m'<m/\I m' ρ',rt:=N.rt,bk:=N.nx,ct:=λρ'=>∃m',m'<m/\I m' ρ' } ρ else N.nx ρ
theorem Zl(hp:PassesOwn (model X.prog X.w) X.A X.env X.xe)(hc:jw X EX c wt)(hb:jc X EX body zb):PZ X EX (.While c body [] pos) (BN wt zb):=by
 obtain⟨tc,pc,kc⟩:=hc.t;obtain⟨tb,pb,kb⟩:=hb.t;refine⟨⟨_,mz hp pc pb,λW0 H0 F W σ H ρ E Dn N s fl eo no h=>?_⟩,λE ρ N N' hl q=>?_⟩
 .obtain⟨I,⟨m0,i0⟩,turn⟩:=h
  refine⟨λm σ H=>∃W ρ,SOk X.K W0 H0 W σ H ρ/\Wle F W/\I m ρ,⟨m0,W,ρ,s,fl,i0⟩,?_⟩;rintro m σ2 H2 ⟨W2,ρ2,s2,f2,i2⟩;refine kc W0 H0 W2 σ2 H2 ρ2 E _ s2 eo (hc.mono _ _ _ _ (λb hb' W3 H3 x3=>?_) (turn m ρ2 i2));cases b with
  |true=>
   rw[if_pos rfl] at hb' ⊢;refine⟨λσ4 H4=>∃m',m'<m/\∃W ρ,SOk X.K W0 H0 W σ4 H4 ρ/\Wle F W/\I m' ρ,λσ4 H4 ⟨m',hm,q⟩=>⟨m',hm,q⟩,?_⟩;exact kb W0 H0 F W3 σ2 H3 ρ2 E _ { nx:=λρ'=>∃m',m'<m/\I m' ρ',rt:=N.rt,bk:=N.nx,ct:=λρ'=>∃m',m'<m/\I m' ρ' } (s2.step x3) (f2.ext x3) eo
    ⟨λW5 σ5 H5 ρ5 s5 f5 ⟨m',hm,q⟩=>⟨m',hm,W5,ρ5,s5,f5,q⟩,no.rt,λW5 σ5 H5 ρ5 s5 f5 q=>no.nx W5 σ5 H5 ρ5 s5 f5 q,λW5 σ5 H5 ρ5 s5 f5 ⟨m',hm,q⟩=>⟨m',hm,W5,ρ5,s5,f5,q⟩⟩ hb'
  |false=>rw[if_neg (by decide)] at hb' ⊢;exact no.nx W3 σ2 H3 ρ2 (s2.step x3) (f2.ext x3) hb'
 .obtain⟨I,i0,turn⟩:=q
  refine⟨I,i0,λm ρ i=>hc.mono _ _ _ _ (λb hb'=>?_) (turn m ρ i)⟩;cases b with
  |true=>rw[if_pos rfl] at hb' ⊢;exact hb.mono E ρ { nx:=λρ'=>∃m',m'<m/\I m' ρ',rt:=N.rt,bk:=N.nx,ct:=λρ'=>∃m',m'<m/\I m' ρ' } _ ⟨λ_ z=>z,hl.rt,hl.nx,λ_ z=>z⟩ hb'
  |false=>rw[if_neg (by decide)] at hb' ⊢;exact hl.nx _ hb'
theorem J0{tc:TT}(hc:PT X c tc)(hs:exec (.Assert c none pos) X.env=(do standAt pos;if<-isTrue c X.env (eval c X.env) then pure .next else assertFails c.pos (evalOpt none X.env)):=by rfl):PS X (.Assert c none pos) (λD σ H=>tc σ H λb H1=>b=true/\D.nx σ H1):=by
 intro pins s σ H D I h;rw[hs];refine N3 (Oq (N3 (bG (hc pins s σ H _ I h) λb s1 ⟨H1,I1,e,q⟩=>?_)));subst e;rw[if_pos rfl];exact N5 ⟨σ,H1,I1,q⟩
def kO(c:WT):WS:=λE N ρ=>c E ρ λb=>b=true/\N.nx ρ
theorem J1(hc:jw X EX c wt)(hs:exec (.Assert c none pos) X.env=(do standAt pos;if<-isTrue c X.env (eval c X.env) then pure .next else assertFails c.pos (evalOpt none X.env)):=by rfl):PZ X EX (.Assert c none pos) (kO wt):=by
 obtain⟨tc,pc,kc⟩:=hc.t;refine⟨⟨_,J0 pc hs,λW0 H0 F W σ H ρ E Dn N s fl eo no h=>?_⟩,λE ρ N N' hl q=>hc.mono _ _ _ _ (λb hb=>⟨hb.1,hl.nx _ hb.2⟩) q⟩;exact kc W0 H0 W σ H ρ E _ s eo (hc.mono _ _ _ _ (λb hb W1 H1 x1=>⟨hb.1,no.nx W1 σ H1 ρ (s.step x1) (fl.ext x1) hb.2⟩) h)
def cS(i:Nat)(w:WE):WS:=λE N ρ=>match ρ[i]? with
 |some (.ow xs)=>w E ρ λd=>xs.length<aO/\N.nx (ρ.set i (.ow (xs++[d])))
 |_=>False
theorem wD(i:Nat){p:Pos}(he:PX X EX e w)(hN:X.N[i]? = some x:=by rfl)(hv:kF X.env.scope x:=by first|exact Or.inl rfl|exact Or.inr (Or.inl rfl)|exact Or.inr (Or.inr rfl))(hd:(x==("__debug__" : Str))=false:=by decide)
  (hcd:(x==("__classdict__" : Str))=false:=by decide) (hbase:attributeBase (.Name x p) "append" X.env (eval (.Name x p) X.env)=eval (.Name x p) X.env:=by rfl)
  (hfew:((backTo cpos (starEach [e] X.env)).all (λx=>!x.1)&&(backToKw cpos (keywordEach [] X.env)).all (λx=>x.1.isSome)&&decide ([e].length+([]:List Keyword).length+(if([]:List Keyword).isEmpty then 0 else 1)<30))=true:=by rfl)
  (hline:(apos.endLine==cpos.line)=true:=by rfl) (hs:starEach [e] X.env=(false,eval e X.env)::starEach [] X.env:=by rfl) (hplain:(backTo cpos (starEach [] X.env)).any (·.1)=false:=by rfl)
  (hsw:swapsWith (.Call (.Attribute (.Name x p) "append" apos) [e] [] cpos) none pos.line X.env=pure false:=by rfl):PZ X EX (.Expr (.Call (.Attribute (.Name x p) "append" apos) [e] [] cpos) pos) (cS i w):=by
 obtain⟨t,pe,k⟩:=he.t;refine⟨⟨_,kG (qS PySem.F.plainAttrs_list PySem.F.slot_list_append PySem.F.type_list_append lv (c6 hN hv hd hcd) (iJ pe j3 hs) hbase hfew hline hs hplain) hsw,λW0 H0 F W σ H ρ E Dn N s fl eo no h=>?_⟩,λE ρ N N' hl q=>?_⟩
 .unfold cS at h
  split at h
  .rename_i xs ex
   obtain⟨a,vs,e1,e2,e3,e4,e5,r⟩:=s.o i xs ex;refine⟨_,e1,.inl ⟨rfl,vs,SqL.of e2⟩,?_⟩;refine k W0 H0 W σ H ρ E _ s eo (he.mono _ _ _ _ (λd hd v W1 H1 x1 r1=>?_) h);have e2':=x1.h a _ e2 e4;refine⟨a,vs,v,rfl,rfl,e2',by rw[r.length];exact cW hd.1 (nQ (bM _)),?_⟩;exact no.nx W1 σ _ _ ((s.step x1).chg ex e1 ((x1.reps r).append (.cons r1 .nil))) (fl.ext x1) hd.2
  .exact h.elim
 .unfold cS at q ⊢
  split at q
  .exact he.mono _ _ _ _ (λd hd=>⟨hd.1,hl.nx _ hd.2⟩) q
  .exact q.elim
end
section
variable{p ps:Pos}{a b:Expr}
theorem Rep.sq{W:Wd}{v:V}{Q:List D->Prop}(r:Rep K W v d)(h:isS Q d):∃κ l vs xs,v=.ref l/\Reps K W vs xs/\Q xs/\∀W2 H2,(∀a o,W.G a=some o->W2.G a=some o)->WOk W2 H2->Sq K κ H2 l vs:=by
 cases r with
 |lst e1 rr=>exact⟨false,_,_,_,rfl,rr,h,λW2 H2 g ok=>SqL.of (ok.g _ _ (g _ _ e1))⟩
 |tup e1 rr=>exact⟨true,_,_,_,rfl,rr,h,λW2 H2 g ok=>SqT.of (ok.g _ _ (g _ _ e1))⟩
 |ktup e1 rr=>exact⟨true,_,_,_,rfl,rr,h,λW2 H2 g ok=>.inr e1⟩
 |_=>exact h.elim
def du(xs ys:List D):List D:=List.zipWith (λx y=>.tup [x,y]) xs ys
def iZ(t:WA):WA:=λE ρ Q=>t E ρ λds=>match ds with
 |[x,y]=>isS (λxs=>isS (λys=>Q (du xs ys)) y) x
 |_=>False
theorem BO{t:WA}(hm:X.mg "zip" = none)(ha:iW X EX [a,b] t)(hg:Gl X "zip" :=by rfl)(hs:starEach [a,b] X.env=[(false,eval a X.env),(false,eval b X.env)]:=by rfl)(hs2:starEach [b] X.env=[(false,eval b X.env)]:=by rfl) :
  lZ X EX (.Tuple es n1 ps) (.Call (.Name "zip" p) [a,b] [] pos) (iZ t):=by
 obtain⟨t,q,k⟩:=ha.t;refine⟨⟨_,IP hg hm q hs hs2,λW0 H0 W σ H ρ E R s eo h=>?_⟩,λE ρ P P' hp h=>ha.mono _ _ _ _ (λds hd=>?_) h⟩
 .refine k W0 H0 W σ H ρ E _ s eo (ha.mono _ _ _ _ (λds hd vs W1 H1 x1 r1=>?_) h)
  split at hd
  .obtain⟨v,u,rfl,rv,ru⟩:=r1.two
   obtain⟨κ,l,vs,xs,rfl,rr,hd,sq⟩:=rv.sq hd;obtain⟨κ',l',us,ys,rfl,rr',hd,sq'⟩:=ru.sq hd;refine⟨κ,κ',l,l',rfl,⟨vs,sq W1 H1 (λ_ _ z=>z) x1.ok⟩,⟨us,sq' W1 H1 (λ_ _ z=>z) x1.ok⟩,hd W1 H1 _ x1 λW2 H2 i g2 p2 ok2=>⟨λd hd=>?_,λhi=>?_⟩⟩
   .have s1:=sq W2 H2 g2 ok2
    have s2:=sq' W2 H2 g2 ok2;unfold du at hd;rw[List.getElem?_zipWith] at hd;cases ex:xs[i]? with
    |none=>rw[ex] at hd;cases hd
    |some x=>
     cases ey:ys[i]? with
     |none=>rw[ex,ey] at hd;cases hd
     |some y=>
      rw[ex,ey] at hd;cases hd;obtain⟨vx,evx,rvx⟩:=rr.get ex;obtain⟨vy,evy,rvy⟩:=rr'.get ey;refine⟨⟨vs,us,vx,vy,s1,s2,evx,evy⟩,λz H3 hy=>?_⟩;obtain⟨q,x',y',rfl,hq,rfl,e1,e2⟩:=hy;have e1:=e1 _ s1;have e2:=e2 _ s2;rw[evx] at e1;rw[evy] at e2;cases e1;cases e2;have xt:=Ext.put (o:=.tup [vx,vy]) ok2 hq;exact⟨_,xt,.tup (by unfold Wd.put;dsimp only;rw[aL]) (.cons (xt.rep (rvx.mono g2 p2)) (.cons (xt.rep (rvy.mono g2 p2)) .nil))⟩
   .refine⟨vs,us,sq W2 H2 g2 ok2,sq' W2 H2 g2 ok2,?_⟩
    rw[rr.length,rr'.length];unfold du at hi;rw[mq] at hi;omega
  .exact hd.elim
 .split at hd
  .exact isS.mono (λxs h1=>isS.mono (λys h2=>hp _ h2) _ h1) _ hd
  .exact hd.elim
def ir(i:Nat)(wi wv:WE):WS:=λE N ρ=>match ρ[i]? with
 |some (.ow xs)=>wv E ρ λd=>wi E ρ (isI λk=>∃j,jb xs.length k=some j/\N.nx (ρ.set i (.ow (xs.set j d))))
 |_=>False
theorem BP(i:Nat){wi:WE}{ix:Expr}(hix:PX X EX ix wi)(he:PX X EX e wv)(hN:X.N[i]? = some x:=by rfl)(hv:kF X.env.scope x:=by first|exact Or.inl rfl|exact Or.inr (Or.inl rfl)|exact Or.inr (Or.inr rfl))(hd:(x==("__debug__" : Str))=false:=by decide)
  (hcd:(x==("__classdict__" : Str))=false:=by decide)
  (ha:∀ v,assign (.Subscript (.Name x p) ix spos) X.env v=(do
   let ov <-holding [v] (eval (.Name x p) X.env)
   let iv <-holding [v,ov] (eval ix X.env)
   standAt spos
   holding [v,ov,iv] (setItem ov iv v)
   release [v,ov,iv] []):=by intro _;rfl)
  (hs:swapsWithSole [.Subscript (.Name x p) ix spos] e pos.line X.env=pure false:=by rfl) (hw:swappedStores [.Subscript (.Name x p) ix spos] e X.env=pure none:=by rfl)
  (h1:(assignEach [.Subscript (.Name x p) ix spos] X.env).map (·.2)=[assign (.Subscript (.Name x p) ix spos) X.env]:=by rfl):PZ X EX (.Assign [.Subscript (.Name x p) ix spos] e pos) (ir i wi wv):=by
 obtain⟨t,pe,k⟩:=he.t;obtain⟨ti,pi,ki⟩:=hix.t;refine⟨⟨_,iH pe (iG (c6 hN hv hd hcd) pi eW ha) hs hw h1,λW0 H0 F W σ H ρ E Dn N s fl eo no h=>?_⟩,λE ρ N N' hl q=>?_⟩
 .unfold ir at h
  split at h
  .rename_i xs ex
   obtain⟨a,vs,e1,e2,e3,e4,e5,r⟩:=s.o i xs ex;refine k W0 H0 W σ H ρ E _ s eo (he.mono _ _ _ _ (λd hd v W1 H1 x1 r1=>⟨_,e1,?_⟩) h);refine ki W0 H0 W1 σ H1 ρ E _ (s.step x1) eo (hix.mono _ _ _ _ (λdi hdi vi W2 H2 x2 r2=>?_) hd);obtain⟨kk,rfl,j,hj,hn⟩:=nR hdi;cases r2;have xx:=x1.trans x2;have e2':=xx.h a _ e2 e4;refine⟨a,vs,kk,j,rfl,rfl,e2',by rw[r.length];exact hj,?_⟩;exact no.nx W2 σ _ _ ((s.step xx).chg ex e1 (Reps.set (x2.rep r1) j (xx.reps r))) (fl.ext xx) hn
  .exact h.elim
 .unfold ir at q ⊢
  split at q
  .exact he.mono _ _ _ _ (λd hd=>hix.mono _ _ _ _ (isI.mono λkk ⟨j,hj,hn⟩=>⟨j,hj,hl.nx _ hn⟩) hd) q
  .exact q.elim
end
mutual
def e8:D->Bool
 |.lst _=>false
 |.scr _=>false
 |.dic=>false
 |.tup xs=>lJ xs
 |.non=>true
 |.bl _=>true
 |.int _=>true
 |.str _=>true
 |.pen=>true
 |.cls _=>true
 |.exc _=>true
 |.ty _=>true
def lJ:List D->Bool
 |[]=>true
 |x::r=>e8 x&&lJ r
end
def Wd.rem(W:Wd)(a:Addr):Wd:=⟨λb=>if b=a then none else W.G b,W.Pn⟩
section
variable{W:Wd}
def Wd.rem_ne{b:Addr}(h:b≠a):(W.rem a).G b=W.G b:=by unfold Wd.rem;dsimp only;rw[if_neg h]
def Wd.rem_same:(W.rem a).G a=none:=by unfold Wd.rem;dsimp only;rw[if_pos rfl]
mutual
theorem Rep.rem(h:W.G a=some (.lst us)):∀{v:V} {d:D},Rep K W v d->e8 d=true->Rep K (W.rem a) v d
 |_,_,.non,_=>.non
 |_,_,.bl b,_=>.bl b
 |_,_,.int i,_=>.int i
 |_,_,.str x,_=>.str x
 |_,_,.tup e r,f=>.tup (by rw[Wd.rem_ne (λz=>by rw[z,h] at e;cases e)];exact e) (Reps.rem h r (by rw[e8] at f;exact f))
 |_,_,.ktup e r,f=>.ktup e (Reps.rem h r (by rw[e8] at f;exact f))
 |_,_,.lst e r,f=>by rw[e8] at f;cases f
 |_,_,.scr e r,f=>by rw[e8] at f;cases f
 |_,_,.dic e,f=>by rw[e8] at f;cases f
 |_,_,.pen e,_=>.pen e
 |_,_,.cls e,_=>.cls e
 |_,_,.exc e n x,_=>.exc (by rw[Wd.rem_ne (λz=>by rw[z,h] at e;cases e)];exact e) n λc f k q=>let⟨d,e1,e2⟩:=x c f k q;⟨d,e1,by rw[Wd.rem_ne (λz=>by rw[z,h] at e2;cases e2)];exact e2⟩
 |_,_,.ty n,_=>.ty n
theorem Reps.rem(h:W.G a=some (.lst us)):∀{vs:List V} {ds:List D},Reps K W vs ds->lJ ds=true->Reps K (W.rem a) vs ds
 |_,_,.nil,_=>.nil
 |_,_,.cons r t,f=>by
  rw[lJ,cT] at f;exact .cons (Rep.rem h r f.1) (Reps.rem h t f.2)
end
theorem Ext.bor(x:Ext (W.put a (.lst us)) H W2 H2)(hg:W.G a=none):Ext W H (W2.rem a) H2 where
 ok:=⟨λb o e=>by
   by_cases hb:b=a
   .subst hb;rw[Wd.rem_same] at e;cases e
   .rw[Wd.rem_ne hb] at e;exact x.ok.g b o e,
  λb hb=>⟨(x.ok.p b hb).1,by
   by_cases hba:b=a
   .subst hba;exact Wd.rem_same
   .rw[Wd.rem_ne hba];exact(x.ok.p b hb).2⟩⟩
 g:=λb o e=>by
  have hb:b≠a:=λz=>by rw[z,hg] at e;cases e
  rw[Wd.rem_ne hb];exact x.g b o (by unfold Wd.put;dsimp only;rw[aH hb];exact e)
 p:=x.p
 gf:=λb e n=>by
  by_cases hb:b=a
  .subst hb;exact N6 Wd.rem_same n
  .rw[Wd.rem_ne hb] at n
   exact x.gf b (by unfold Wd.put;dsimp only;rw[aH hb];exact e) n
 pf:=x.pf
 h:=x.h
theorem SOk.pubAt(s:SOk K W0 H0 W σ H ρ)(e:ρ[i]? = some (.ow xs))(e1:σ[i]? = some (some (V.ref a)))(e2:H a=some (.lst us))(e3:W.G a=none)(e4:¬W.Pn a)(e5:H0 a=none)(r:Reps K W us xs) :
  SOk K W0 H0 (W.put a (.lst us)) σ H (LP.pub i ρ):=by
 have ep:LP.pub i ρ=ρ.set i (.d (.lst xs)):=by unfold LP.pub;rw[e]
 rw[ep];have hi:i<ρ.length:=(Yar.mp e).1;refine⟨s.ext.pub e5 e2 e4 e3,by rw[dv];exact s.len,λj y ej=>?_,λj ys ej=>?_,λj k ys zs b hjk ej ek e6=>?_,OOs.set ⟨λj xss ej=>let⟨a',bs,q1,q,n⟩:=s.oo.t j xss ej;⟨a',bs,q1,q.put (n i xs a e e1) e3,n⟩,s.oo.u⟩ (λ_ h=>by cases h) (λ_ _=>rfl) λ_ _ h=>by cases h⟩
 .by_cases h:i=j
  .subst h
   rw[eP hi] at ej;cases ej;exact⟨_,e1,.lst (by unfold Wd.put;dsimp only;rw[aL]) (r.mono (qi e3) λ_ z=>z)⟩
  .rw[et h] at ej
   obtain⟨v,q1,q2⟩:=s.d j y ej;exact⟨v,q1,q2.mono (qi e3) λ_ z=>z⟩
 .have h:i≠j:=λh=>by subst h;rw[eP hi] at ej;cases ej
  rw[et h] at ej;obtain⟨b,us',q1,q2,q3,q4,q5,rr⟩:=s.o j ys ej;have hba:b≠a:=λz=>s.ne i j xs ys a h e ej e1 (by rw[<-z];exact q1);refine⟨b,us',q1,q2,?_,q4,q5,rr.mono (qi e3) λ_ z=>z⟩;unfold Wd.put;dsimp only;rw[aH hba];exact q3
 .have h:i≠j:=λh=>by subst h;rw[eP hi] at ej;cases ej
  have h':i≠k:=λh=>by subst h;rw[eP hi] at ek;cases ek
  rw[et h] at ej;rw[et h'] at ek;exact s.ne j k ys zs b hjk ej ek e6
theorem SOk.lend(s:SOk K W0 H0 W σ H ρ)(i:Nat):(LP.pub i ρ=ρ)\/∃a us,SOk K W0 H0 (W.put a (.lst us)) σ H (LP.pub i ρ)/\W.G a=none/\H a=some (.lst us)/\(W.put a (.lst us)).G a=some (.lst us):=by
 cases e:ρ[i]? with
 |none=>exact .inl (by unfold LP.pub;rw[e])
 |some sv=>
  cases sv with
  |un=>exact .inl (by unfold LP.pub;rw[e])
  |d x=>exact .inl (by unfold LP.pub;rw[e])
  |oo xss=>exact .inl (by unfold LP.pub;rw[e])
  |ow xs=>
   obtain⟨a,us,e1,e2,e3,e4,e5,r⟩:=s.o i xs e;exact .inr ⟨a,us,s.pubAt e e1 e2 e3 e4 e5 r,e3,e2,by unfold Wd.put;dsimp only;rw[aL]⟩
end
section
variable{p ps:Pos}{a b:Expr}
def dD(i:Nat)(w:WE):WE:=λE ρ Q=>w E (pub i ρ) λd=>e8 d=true/\Q d
theorem zc(i:Nat)(he:PX X EX e w):PX X EX e (dD i w):=by
 obtain⟨t,q,k⟩:=he.t;refine⟨⟨t,q,λW0 H0 W σ H ρ E Q s eo h=>?_⟩,λE ρ P P' hp h=>he.mono _ _ _ _ (λd hd=>⟨hd.1,hp _ hd.2⟩) h⟩;unfold dD at h;rcases s.lend i with ep|⟨a,us,s',e3,e2,e6⟩
 .rw[ep] at h
  exact k W0 H0 W σ H ρ E Q s eo (he.mono _ _ _ _ (λd hd=>hd.2) h)
 .exact k W0 H0 _ σ H _ E Q s' eo (he.mono _ _ _ _ (λd hd v W2 H2 x2 r2=>hd.2 v _ H2 (x2.bor e3) (r2.rem (x2.g _ _ e6) hd.1)) h)
def eQ(i:Nat)(w:WT):WT:=λE ρ Q=>w E (pub i ρ) Q
theorem J2(i:Nat){w:WT}(he:jw X EX e w):jw X EX e (eQ i w):=by
 obtain⟨t,q,k⟩:=he.t;refine⟨⟨t,q,λW0 H0 W σ H ρ E Q s eo h=>?_⟩,λE ρ P P' hp h=>he.mono _ _ _ _ hp h⟩;unfold eQ at h;rcases s.lend i with ep|⟨a,us,s',e3,e2,e6⟩
 .rw[ep] at h
  exact k W0 H0 W σ H ρ E Q s eo h
 .exact k W0 H0 _ σ H _ E Q s' eo (he.mono _ _ _ _ (λd hd W2 H2 x2=>hd _ H2 (x2.bor e3)) h)
def df(i:Nat)(t:WA):WA:=λE ρ Q=>t E (pub i ρ) λds=>lJ ds=true/\Q ds
theorem zd(i:Nat){t:WA}(he:PXL X EX e t):PXL X EX e (df i t):=by
 obtain⟨t,q,k⟩:=he.t;refine⟨⟨t,q,λW0 H0 W σ H ρ E Q s eo h=>?_⟩,λE ρ P P' hp h=>he.mono _ _ _ _ (λd hd=>⟨hd.1,hp _ hd.2⟩) h⟩;unfold df at h;rcases s.lend i with ep|⟨a,us,s',e3,e2,e6⟩
 .rw[ep] at h
  exact k W0 H0 W σ H ρ E Q s eo (he.mono _ _ _ _ (λd hd=>hd.2) h)
 .refine k W0 H0 _ σ H _ E Q s' eo (he.mono _ _ _ _ (λd hd b vs W2 H2 x2 h1 h2 h3 h4 r2=>?_) h)
  have hb:b≠a:=λz=>by rw[z,e2] at h4;cases h4
  exact hd.2 b vs _ H2 (x2.bor e3) h1 (by rw[Wd.rem_ne hb];exact h2) h3 h4 (r2.rem (x2.g _ _ e6) hd.1)
def dE(i:Nat)(wb:WE):WE:=λE ρ Q=>match ρ[i]? with
 |some (.ow xs)=>wb E ρ (isI λk=>∃d,dw xs k=some d/\Q d)
 |_=>False
theorem wE(i:Nat)(hb:PX X EX b wb)(hN:X.N[i]? = some x:=by rfl)(hv:kF X.env.scope x:=by first|exact Or.inl rfl|exact Or.inr (Or.inl rfl)|exact Or.inr (Or.inr rfl))(hd:(x==("__debug__" : Str))=false:=by decide)
  (hcd:(x==("__classdict__" : Str))=false:=by decide) (hs:iM b:=by exact λ_ _=>rfl):PX X EX (.Subscript (.Name x p) b pos) (dE i wb):=by
 obtain⟨tb,pb,kb⟩:=hb.t;refine⟨⟨_,qQ j6 (c6 hN hv hd hcd) pb hs,λW0 H0 W σ H ρ E Q s eo h=>?_⟩,λE ρ P P' hp h=>?_⟩
 .unfold dE at h
  split at h
  .rename_i xs ex
   obtain⟨a,vs,e1,e2,e3,e4,e5,r⟩:=s.o i xs ex;refine⟨_,e1,kb W0 H0 W σ H ρ E _ s eo (hb.mono _ _ _ _ (λd hd v W1 H1 x1 r1=>?_) h)⟩;obtain⟨kk,rfl,d,hat,hq⟩:=nR hd;cases r1;obtain⟨v,e6,rv⟩:=y3 (x1.reps r) hat;exact .inl ⟨a,vs,kk,v,rfl,rfl,SqL.of (x1.h a _ e2 e4),e6,hq v W1 H1 x1 rv⟩
  .exact h.elim
 .unfold dE at h ⊢
  split at h
  .exact hb.mono _ _ _ _ (isI.mono λk ⟨d,h1,h2⟩=>⟨d,h1,hp _ h2⟩) h
  .exact h.elim
def NL(K:N4)(W:Wd)(H:Hp)(Q:VK)(ds:List D):Prop:=∀a vs W' H',Ext W H W' H'->H' a=some (.lst vs)->W'.G a=none->¬W'.Pn a->H a=none->Reps K W' vs ds->Q (.ref a) H'
theorem NL.new{K:N4}{W W1:Wd}{H H1:Hp}{Q:VK}{ds:List D}{vs:List V}(h:NL K W H Q ds)(x1:Ext W H W1 H1)(r:Reps K W1 vs ds){q:Addr}(hq:H1 q=none):Q (.ref q) (upd H1 q (.lst vs)):=
 h q vs W1 _ (x1.trans (.new x1.ok hq)) aL (x1.ok.fresh hq).1 (x1.ok.fresh hq).2 (x1.isN hq) r
def eL(wa wb:WE):WA:=λE ρ Q=>wa E ρ (isL λxs=>wb E ρ (isL λys=>xs.length+ys.length<=aO/\Q (xs++ys)))
theorem BQ(ha:PX X EX a wa)(hb:PX X EX b wb):PXL X EX (.BinOp a .Add b pos) (eL wa wb):=by
 obtain⟨ta,pa,ka⟩:=ha.t;obtain⟨tb,pb,kb⟩:=hb.t;refine⟨⟨_,mC ZmJ pa pb,λW0 H0 W σ H ρ E Q s eo h=>?_⟩,λE ρ P P' hp h=>ha.mono _ _ _ _ (isL.mono λxs hx=>hb.mono _ _ _ _ (isL.mono λys hy=>⟨hy.1,hp _ hy.2⟩) hx) h⟩;refine ka W0 H0 W σ H ρ E _ s eo (ha.mono _ _ _ _ (λd hd v W1 H1 x1 r1=>?_) h);obtain⟨xs,rfl,hd⟩:=Zj hd;refine kb W0 H0 W1 σ H1 ρ E _ (s.step x1) eo (hb.mono _ _ _ _ (λd hd u W2 H2 x2 r2=>?_) hd);obtain⟨ys,rfl,hd⟩:=Zj hd;obtain⟨p,vs,rfl,h1,q1⟩:=(x2.rep r1).sql x2.ok;obtain⟨q,us,rfl,h2,q2⟩:=r2.sql x2.ok;exact⟨p,q,vs,us,rfl,rfl,h1,h2,by rw[q1.length,q2.length];exact nQ hd.1,λa ha=>NL.new hd.2 (x1.trans x2) (q1.append q2) ha⟩
def e9(wa wb:WE):WA:=λE ρ Q=>wa E ρ (isL λxs=>wb E ρ (isI λk=>k<1000/\-1000<k/\xs.length*k.toNat<=aO/\Q (List.replicate k.toNat xs).flatten))
theorem Zp(ha:PX X EX a wa)(hb:PX X EX b wb):PXL X EX (.BinOp a .Mult b pos) (e9 wa wb):=by
 obtain⟨ta,pa,ka⟩:=ha.t;obtain⟨tb,pb,kb⟩:=hb.t;refine⟨⟨_,mC mR pa pb,λW0 H0 W σ H ρ E Q s eo h=>?_⟩,λE ρ P P' hp h=>ha.mono _ _ _ _ (isL.mono λxs hx=>hb.mono _ _ _ _ (isI.mono λys hy=>⟨hy.1,hy.2.1,hy.2.2.1,hp _ hy.2.2.2⟩) hx) h⟩;refine ka W0 H0 W σ H ρ E _ s eo (ha.mono _ _ _ _ (λd hd v W1 H1 x1 r1=>?_) h);obtain⟨xs,rfl,hd⟩:=Zj hd;refine kb W0 H0 W1 σ H1 ρ E _ (s.step x1) eo (hb.mono _ _ _ _ (λd hd u W2 H2 x2 r2=>?_) hd);obtain⟨kk,rfl,hd⟩:=nR hd;cases r2;cases x2.rep r1 with
 | @lst l vs _ e r=>
  refine⟨l,kk,vs,rfl,rfl,x2.ok.g _ _ e,by omega,by omega,?_,λq hq=>NL.new hd.2.2.2 (x1.trans x2) (BH r _) hq⟩;rw[r.length];exact nQ hd.2.2.1
def aCut(wa:WE)(wl wh:(Ex->Prop)->cQ->(Option Int->Prop)->Prop):WA:=λE ρ Q=>wa E ρ λx=>wl E ρ λl=>wh E ρ λh=>match x with
 |.lst xs=>Q (bA xs l h)
 |.scr xs=>Q (bA xs l h)
 |_=>False
theorem aCut.mono{wl wh}{lo hi:Option Expr}(ha:PX X EX a wa)(hl:ub X EX lo wl)(hh:ub X EX hi wh):∀E ρ P P',(∀d,P d->P' d)->aCut wa wl wh E ρ P->aCut wa wl wh E ρ P':=
 λE ρ P P' hp h=>ha.mono _ _ _ _ (λx hx=>hl.mono _ _ _ _ (λl hl'=>hh.mono _ _ _ _ (λu hu=>by
  split at hu
  .exact hp _ hu
  .exact hp _ hu
  .exact hu.elim) hl') hx) h
end
section
variable{W:Wd}{i j k:Int}
def Wd.pen(W:Wd)(a:Addr):Wd:=⟨W.G,λb=>b=a\/W.Pn b⟩
theorem Ext.pen(x:Ext W H W1 H1)(h:H a=none)(e:H1 a=some (.lst [.int i,.int j,.int k]))(ng:W1.G a=none):Ext W H (W1.pen a) H1 where
 ok:=⟨x.ok.g,λb hb=>by
  rcases hb with rfl|hb
  .exact⟨⟨i,j,k,e⟩,ng⟩
  .exact x.ok.p b hb⟩
 g:=x.g
 p:=λb hb=>.inr (x.p b hb)
 gf:=x.gf
 pf:=λb n hb=>by
  rcases hb with rfl|hb
  .exact h
  .exact x.pf b n hb
 h:=x.h
theorem Ext.ink(x:Ext W H W1 H1)(hp:W1.Pn a):Ext W H W1 (upd H1 a (.lst [.int i,.int j,.int k])) where
 ok:=⟨λb o e=>by
   have hb:b≠a:=λz=>by rw[z,(x.ok.p a hp).2] at e;cases e
   rw[aH hb];exact x.ok.g b o e,
  λb hb=>by
   by_cases hba:b=a
   .subst hba;exact⟨⟨i,j,k,aL⟩,(x.ok.p b hb).2⟩
   .obtain⟨⟨i',j',k',e⟩,n⟩:=x.ok.p b hb
    exact⟨⟨i',j',k',by rw[aH hba];exact e⟩,n⟩⟩
 g:=x.g
 p:=x.p
 gf:=x.gf
 pf:=x.pf
 h:=λb o e n=>by
  have q:=x.h b o e n;have hb:b≠a:=λz=>by subst z;have:=x.pf b n hp;rw[e] at this;cases this
  rw[aH hb];exact q
theorem SOk.ink(s:SOk K W0 H0 W σ H ρ)(hp:W.Pn a):SOk K W0 H0 W σ (upd H a (.lst [.int i,.int j,.int k])) ρ where
 ext:=s.ext.ink hp
 len:=s.len
 d:=s.d
 o:=λn ys e=>by
  obtain⟨b,vs,e1,e2,e3,e4,e5,r⟩:=s.o n ys e;exact⟨b,vs,e1,by rw[aH (λz=>e4 (by rw[z];exact hp))];exact e2,e3,e4,e5,r⟩
 ne:=s.ne
 oo:=⟨λn xss e=>let⟨a',bs,e1,q,m⟩:=s.oo.t n xss e;⟨a',bs,e1,q.upd (q.noPen hp),m⟩,s.oo.u⟩
end
section
variable{p ps:Pos}{a b:Expr}
def fb(t:WA):WE:=λE ρ Q=>t E ρ λds=>(∃i j k,ds=[.int i,.int j,.int k])/\Q .pen
theorem J3{t:WA}(he:PXL X EX e t):PX X EX e (fb t):=by
 obtain⟨t,q,k⟩:=he.t;refine⟨⟨t,q,λW0 H0 W σ H ρ E Q s eo h=>?_⟩,λE ρ P P' hp h=>he.mono _ _ _ _ (λd hd=>⟨hd.1,hp _ hd.2⟩) h⟩;refine k W0 H0 W σ H ρ E Q s eo (he.mono _ _ _ _ (λds hd a vs W1 H1 x1 e1 e2 e3 e4 r1=>?_) h);obtain⟨⟨i,j,k,rfl⟩,hd⟩:=hd;have ev:vs=[.int i,.int j,.int k]:=by
  cases r1 with|cons r t=>cases r;cases t with|cons r t=>cases r;cases t with|cons r t=>cases r;cases t;rfl
 subst ev;exact hd _ _ _ (x1.pen e4 e1 e2) (.pen (.inl rfl))
def dU:G2:=λx y Q=>x=.pen/\(y=.int 0\/y=.int 1\/y=.int 2)/\∀n,Q (.int n)
theorem wG:BE X dU:=by
 refine⟨⟨_,j6,λW H x y dx dy Q ok rx ry hg=>?_⟩,λx y P P' hp h=>⟨h.1,h.2.1,λn=>hp _ (h.2.2 n)⟩⟩;obtain⟨rfl,hy,hq⟩:=hg;cases rx with
 | @pen a hp=>
  obtain⟨⟨i,j,k,e⟩,ng⟩:=ok.p a hp;have key:∀(m:Int) (v:V),dw [V.int i,.int j,.int k] m=some v->(∃n,v=.int n)->Eg X.K (.ref a) (.int m) H Q:=λm v hv ⟨n,hn⟩=>by
   subst hn;exact .inl ⟨a,_,m,_,rfl,rfl,SqL.of e,hv,(hq n).now ok (.int n)⟩
  rcases hy with rfl|rfl|rfl
  .cases ry;exact key 0 (.int i) rfl ⟨i,rfl⟩
  .cases ry;exact key 1 (.int j) rfl ⟨j,rfl⟩
  .cases ry;exact key 2 (.int k) rfl ⟨k,rfl⟩
def eR(i:Nat)(wv:WE):WS:=λE N ρ=>ρ[i]? = some (.d .pen)/\wv E ρ (isI λ_=>N.nx ρ)
theorem E4(i:Nat)(m:Int){j}{ipos:Pos}(he:PX X EX e wv)(hm:m=0\/m=1\/m=2:=by decide)(hN:X.N[i]? = some x:=by rfl)(hv:kF X.env.scope x:=by first|exact Or.inl rfl|exact Or.inr (Or.inl rfl)|exact Or.inr (Or.inr rfl))(hd:(x==("__debug__" : Str))=false:=by decide)
  (hcd:(x==("__classdict__" : Str))=false:=by decide)
  (ha:∀ v,assign (.Subscript (.Name x p) (.Constant (.int m) j ipos) spos) X.env v=(do
   let ov <-holding [v] (eval (.Name x p) X.env)
   let iv <-holding [v,ov] (eval (.Constant (.int m) j ipos) X.env)
   standAt spos
   holding [v,ov,iv] (setItem ov iv v)
   release [v,ov,iv] []):=by intro _;rfl)
  (hs:swapsWithSole [.Subscript (.Name x p) (.Constant (.int m) j ipos) spos] e pos.line X.env=pure false:=by rfl) (hw:swappedStores [.Subscript (.Name x p) (.Constant (.int m) j ipos) spos] e X.env=pure none:=by rfl)
  (h1:(assignEach [.Subscript (.Name x p) (.Constant (.int m) j ipos) spos] X.env).map (·.2)=[assign (.Subscript (.Name x p) (.Constant (.int m) j ipos) spos) X.env]:=by rfl):PZ X EX (.Assign [.Subscript (.Name x p) (.Constant (.int m) j ipos) spos] e pos) (eR i wv):=by
 obtain⟨t,pe,k⟩:=he.t;refine⟨⟨_,iH pe (iG (c6 hN hv hd hcd) jV eW ha) hs hw h1,λW0 H0 F W σ H ρ E Dn N s fl eo no h=>?_⟩,λE ρ N N' hl q=>⟨q.1,he.mono _ _ _ _ (isI.mono λ_ hn=>hl.nx _ hn) q.2⟩⟩;obtain⟨hpen,h⟩:=h;obtain⟨v0,e0,r0⟩:=s.d i .pen hpen;cases r0 with
 | @pen a hp=>
  refine k W0 H0 W σ H ρ E _ s eo (he.mono _ _ _ _ (λd hd v W1 H1 x1 r1=>⟨_,e0,?_⟩) h);obtain⟨n,rfl,hn⟩:=nR hd;cases r1;have hp1:=x1.p a hp;obtain⟨⟨i',j',k',e'⟩,ng⟩:=x1.ok.p a hp1;rcases hm with rfl|rfl|rfl
  .exact⟨a,_,0,0,rfl,rfl,e',rfl,no.nx W1 σ _ ρ ((s.step x1).ink hp1) (fl.ext x1) hn⟩
  .exact⟨a,_,1,1,rfl,rfl,e',rfl,no.nx W1 σ _ ρ ((s.step x1).ink hp1) (fl.ext x1) hn⟩
  .exact⟨a,_,2,2,rfl,rfl,e',rfl,no.nx W1 σ _ ρ ((s.step x1).ink hp1) (fl.ext x1) hn⟩
end
abbrev fH:G2:=gI2 (λ_ _=>True) λi j=>.int (i-j)
abbrev qt:G2:=gI2 (λ_ j=>j≠0) λi j=>.int (i.fmod j)
abbrev fc:G2:=gI2 BF λi j=>.int (i.fdiv j)
abbrev E5:G2:=gI2 sD λi j=>.int (i^j.toNat)
abbrev tu:G2:=gI2 (λ_ _=>True) λi j=>.bl (decide (i<j))
abbrev ku:G2:=gI2 (λ_ _=>True) λi j=>.bl (decide (i<=j))
abbrev wH:G2:=gI2 (λ_ _=>True) λi j=>.bl (decide (i>j))
abbrev BT:G2:=gI2 (λ_ _=>True) λi j=>.bl (decide (i ≥ j))
abbrev ff:D->(D->Prop)->Prop:=λx Q=>isI (λi=>Q (.int (-i))) x
abbrev l6:WS:=λ_ _ _=>False
def fnS{α:Type}(enc:α->List D)(dom:α->Prop)(val:α->D):bK:=λds _ Q=>∃a,ds=enc a/\dom a/\Q (val a)
theorem fnS.mono{α:Type}{enc:α->List D}{dom:α->Prop}{val:α->D}:lX (fnS enc dom val):=λds E E' Q Q' _ hQ ⟨a,h1,h2,h3⟩=>⟨a,h1,h2,hQ _ h3⟩
theorem fnS.len{α:Type}{enc:α->List D}{dom:α->Prop}{val:α->D}(hp:∀a,(enc a).length=ps.length):∀ds E Q,fnS enc dom val ds E Q->ds.length=ps.length:=λds E Q ⟨a,h1,_⟩=>by rw[h1];exact hp a
def exQ(E:Ex->Prop)(Q:D->Prop):Except Str D->Prop
 |.ok v=>Q v
 |.error e=>E e
theorem exQ.mono{E E':Ex->Prop}{Q':D->Prop}(hE:∀e,E e->E' e)(hQ:∀d,Q d->Q' d):∀r,exQ E Q r->exQ E' Q' r
 |.ok v,h=>hQ v h
 |.error e,h=>hE e h
def xS{α:Type}(enc:α->List D)(dom:α->Prop)(res:α->Except Str D):bK:=λds E Q=>∃a,ds=enc a/\dom a/\exQ E Q (res a)
theorem xS.mono{α:Type}{enc:α->List D}{dom:α->Prop}{res:α->Except Str D}:lX (xS enc dom res):=λds E E' Q Q' hE hQ ⟨a,h1,h2,h3⟩=>⟨a,h1,h2,exQ.mono hE hQ _ h3⟩
theorem xS.ok{α:Type}{enc:α->List D}{dom:α->Prop}{res:α->Except Str D}{E:Ex->Prop}{v:D}(a:α)(h:ds=enc a)(hd:dom a)(e:res a=.ok v)(q:Q v):xS enc dom res ds E Q:=⟨a,h,hd,by rw[e];exact q⟩
theorem xS.err{α:Type}{enc:α->List D}{dom:α->Prop}{res:α->Except Str D}{E:Ex->Prop}{n:Str}(a:α)(h:ds=enc a)(hd:dom a)(e:res a=.error n)(q:E n):xS enc dom res ds E Q:=⟨a,h,hd,by rw[e];exact q⟩
theorem xS.len{α:Type}{enc:α->List D}{dom:α->Prop}{res:α->Except Str D}(hp:∀a,(enc a).length=ps.length):∀ds E Q,xS enc dom res ds E Q->ds.length=ps.length:=λds E Q ⟨a,h1,_⟩=>by rw[h1];exact hp a
def rlS{α:Type}(enc:α->List D)(dom:α->Prop)(rel:α->D->Prop):bK:=λds _ Q=>∃a,ds=enc a/\dom a/\∀d,rel a d->Q d
theorem rlS.mono{α:Type}{enc:α->List D}{dom:α->Prop}{rel:α->D->Prop}:lX (rlS enc dom rel):=λds E E' Q Q' _ hQ ⟨a,h1,h2,h3⟩=>⟨a,h1,h2,λd r=>hQ _ (h3 d r)⟩
theorem rlS.len{α:Type}{enc:α->List D}{dom:α->Prop}{rel:α->D->Prop}(hp:∀a,(enc a).length=ps.length):∀ds E Q,rlS enc dom rel ds E Q->ds.length=ps.length:=λds E Q ⟨a,h1,_⟩=>by rw[h1];exact hp a
theorem Fp.of{w:World}(h:FnOk P w K mg base (cU P w) k f fd ps (fV K S))(m:lX S)(hm:mg x=some (.ref f))(kp:PySem.W.keepIn K (.ref f)=true)(hb:Binds K fd ps []) :
  Fp P w K mg base k x ps S:=⟨⟨f,fd,h,hm,kp,hb⟩,m⟩
section
variable{tail:cQ}{Q:List D->Prop}
theorem uf{f:D->D}(h:∀d∈ds,∀Q:D->Prop,Q (f d)->we No (.d d::tail) Q):∀(sv:SV) (acc:List D),acc.length+ds.length<=aO->Q (acc++ds.map f)->lcW (gN 0) dL we ds (sv::tail) acc Q:=by
 induction ds with
 |nil=>intro sv acc _ hq;simpa[lcW] using hq
 |cons d ds ih=>
  intro sv acc hl hq;rw[lcW];show we No (SV.d d::tail) _;refine h d (kW ..) _ ⟨?_,?_⟩
  .rw[dQ] at hl;omega
  .refine ih (λd hd=>h d (i8 _ hd)) (.d d) _ ?_ ?_
   .rw[eu,lQ];rw[dQ] at hl;omega
   .rw[nD];exact hq
theorem J4{R:D->D->Prop}(h:∀d∈ds,∀Q:D->Prop,(∀y,R d y->Q y)->we No (.d d::tail) Q):∀(sv:SV) (acc:List D),acc.length+ds.length<=aO->(∀ys,ys.length=ds.length->(∀y∈ys,∃d,d∈ds/\R d y)->Q (acc++ys))->lcW (gN 0) dL we ds (sv::tail) acc Q:=by
 induction ds with
 |nil=>intro sv acc _ hq;simpa[lcW] using hq [] rfl (by simp)
 |cons d ds ih=>
  intro sv acc hl hq;rw[lcW];show we No (SV.d d::tail) _;refine h d (kW ..) _ λy hy=>⟨?_,?_⟩
  .rw[dQ] at hl;omega
  .refine ih (λd hd=>h d (i8 _ hd)) (.d d) _ ?_ λys hl' hys=>?_
   .rw[eu,lQ];rw[dQ] at hl;omega
   .rw[nD]
    refine hq (y::ys) (by rw[dQ,dQ,hl']) λz hz=>?_;rcases Yao.mp hz with rfl|hz
    .exact⟨d,kW ..,hy⟩
    .obtain⟨d',h1,h2⟩:=hys z hz;exact⟨d',i8 _ h1,h2⟩
theorem E6{f:D->D->D}:∀(xs ys:List D),(∀p∈xs.zip ys,∀Q:D->Prop,Q (f p.1 p.2)->we No (.d p.1::.d p.2::tail) Q)->∀(sv sv':SV) (acc:List D),acc.length+(xs.zip ys).length<=aO->Q (acc++List.zipWith f xs ys)->
  lcW (e7 2 (dC (gN 0) (dC (gN 1) fq))) dL we (du xs ys) (sv::sv'::tail) acc Q
 |[],ys,_,sv,sv',acc,_,hq=>by
  have e:du [] ys=[]:=by simp[du]
  rw[e,lcW];simpa using hq
 |x::xs,[],_,sv,sv',acc,_,hq=>by
  have e:du (x::xs) []=[]:=by simp[du]
  rw[e,lcW];simpa using hq
 |x::xs,y::ys,h,sv,sv',acc,hl,hq=>by
  have e:du (x::xs) (y::ys)=.tup [x,y]::du xs ys:=by simp[du]
  rw[e,lcW];refine⟨rfl,?_⟩;show we No (SV.d x::SV.d y::tail) _;refine h (x,y) (by simp) _ ⟨?_,?_⟩
  .simp at hl;omega
  .refine E6 xs ys (λp hp=>h p (by simp[hp])) _ _ _ ?_ ?_
   .simp at hl ⊢;omega
   .rw[nD];simpa using hq
end
mutual
def dX:D->Nat->Bool
 |.non,_=>true
 |.bl _,_=>true
 |.int _,_=>true
 |.str x,_=>PyData.canLay0 (.str x)
 |.tup xs,n=>decide (0<n)&&jA xs (n-1)
 |.lst xs,n=>decide (0<n)&&jA xs (n-1)
 |.dic,_=>false
 |.pen,_=>false
 |.cls _,_=>false
 |.exc _,_=>false
 |.ty _,_=>false
 |.scr _,_=>false
def jA:List D->Nat->Bool
 |[],_=>true
 |x::r,n=>dX x n&&jA r n
end
mutual
def pd:D->PyData
 |.non=>.none
 |.bl b=>.bool b
 |.int i=>.int i
 |.str x=>.str x
 |.tup xs=>.tuple (fu xs)
 |.lst xs=>.list (fu xs)
 |.dic=>.none
 |.pen=>.none
 |.cls _=>.none
 |.exc _=>.none
 |.ty _=>.none
 |.scr _=>.none
def fu:List D->List PyData
 |[]=>[]
 |x::r=>pd x::fu r
end
mutual
theorem ze:∀(x:D) (n:Nat),dX x n=true->g6 x=some (pd x)/\(pd x).canLay0=true/\(pd x).depth<=n
 |.non,n,_=>⟨rfl,rfl,by rw[pd,PyData.depth];exact jS _⟩
 |.bl _,n,_=>⟨rfl,rfl,by rw[pd,PyData.depth];exact jS _⟩
 |.int _,n,_=>⟨rfl,rfl,by rw[pd,PyData.depth];exact jS _⟩
 |.str x,n,h=>⟨rfl,by rw[dX] at h;exact h,by rw[pd,PyData.depth];exact jS _⟩
 |.tup xs,n,h=>by
  rw[dX,cT,N7] at h;obtain⟨h1,h2,h3⟩:=BU xs (n-1) h.2;refine⟨by rw[g6,h1,pd];rfl,by rw[pd,PyData.canLay0];exact h2,by rw[pd,PyData.depth];omega⟩
 |.lst xs,n,h=>by
  rw[dX,cT,N7] at h;obtain⟨h1,h2,h3⟩:=BU xs (n-1) h.2;refine⟨by rw[g6,h1,pd];rfl,by rw[pd,PyData.canLay0];exact h2,by rw[pd,PyData.depth];omega⟩
 |.dic,n,h=>by rw[dX] at h;cases h
 |.pen,n,h=>by rw[dX] at h;cases h
 |.cls _,n,h=>by rw[dX] at h;cases h
 |.exc _,n,h=>by rw[dX] at h;cases h
 |.ty _,n,h=>by rw[dX] at h;cases h
 |.scr _,n,h=>by rw[dX] at h;cases h
theorem BU:∀(xs:List D) (n:Nat),jA xs n=true->fG xs=some (fu xs)/\PyData.canLayAll0 (fu xs)=true/\PyData.depthAll (fu xs)<=n
 |[],n,_=>⟨by rw[fG,fu],by rw[fu,PyData.canLayAll0],by rw[fu,PyData.depthAll];exact jS _⟩
 |x::r,n,h=>by
  rw[jA,cT] at h;obtain⟨h1,h2,h3⟩:=ze x n h.1;obtain⟨q1,q2,q3⟩:=BU r n h.2;exact⟨by rw[fG,h1,q1,fu],by rw[fu,PyData.canLayAll0,h2,q2];rfl,by rw[fu,PyData.depthAll];omega⟩
end
def gE(x y:D):Bool:=PyData.eqv (pd x) (pd y)
theorem wI{x:D}{neg:Bool}(hx:dX x 60=true)(hy:dX y 60=true)(h:Q (.bl (if neg then !gE x y else gE x y))):gEq neg x y Q:=by
 obtain⟨a1,a2,a3⟩:=ze x 60 hx;obtain⟨b1,b2,b3⟩:=ze y 60 hy;refine⟨pd x,pd y,a1,b1,?_,?_,h⟩
 .unfold PySem.SeqAt.shaped;rw[a2,N9 (by omega)];rfl
 .unfold PySem.SeqAt.shaped;rw[b2,N9 (by omega)];rfl
mutual
theorem E9:∀p:PyData,p.canLay0=true->PyData.eqv p p=true
 |.none,_=>by rw[PyData.eqv]
 |.bool b,_=>by rw[PyData.eqv];exact Oj b
 |.int i,_=>by rw[PyData.eqv];exact Oj i
 |.str x,_=>by rw[PyData.eqv];exact Oj x
 |.list xs,h=>by rw[PyData.eqv];exact BV xs (by rw[PyData.canLay0] at h;exact h)
 |.tuple xs,h=>by rw[PyData.eqv];exact BV xs (by rw[PyData.canLay0] at h;exact h)
 |.dict _,h=>by rw[PyData.canLay0] at h;cases h
theorem BV:∀ps:List PyData,PyData.canLayAll0 ps=true->PyData.eqvAll ps ps=true
 |[],_=>by rw[PyData.eqvAll]
 |p::ps,h=>by
  rw[PyData.canLayAll0,cT] at h;rw[PyData.eqvAll,E9 p h.1,BV ps h.2];rfl
end
def Fa{x:D}(h:dX x n=true):gE x x=true:=E9 _ (ze x n h).2.1
theorem ug{x:D}{neg:Bool}(hx:dX x 60=true)(h:Q (.bl (!neg))):gEq neg x x Q:=by
 refine wI hx hx ?_;rw[Fa hx];cases neg<;>exact h
def BW(i:Int)(n:Nat):dX (.int i) n=true:=by rw[dX]
theorem Fb(h:∀x∈xs,dX x n=true):jA xs n=true:=by
 induction xs with
 |nil=>rw[jA]
 |cons x xs ih=>rw[jA,h x (kW ..),ih λy hy=>h y (i8 _ hy)];rfl
def zg(h:∀x∈xs,dX x n=true):dX (.tup xs) (n+1)=true:=by rw[dX,Fb (n:=n+1-1) h];simp
def Fc(h:∀x∈xs,dX x n=true):dX (.lst xs) (n+1)=true:=by rw[dX,Fb (n:=n+1-1) h];simp
def shq(q:Rat):D:=.tup [.int q.num,.int (q.den:Int)]
def aK(r:List Rat):D:=.tup (r.map shq)
def Sz(n:Nat)(q:Rat):Prop:=q.num.natAbs<2^n/\q.den<2^n
theorem Sz.mono(l:n<=m)(h:Sz n q):Sz m q:=
 have:=jH (n:=2) (by decide) l
 ⟨cW h.1 this,cW h.2 this⟩
theorem Fd{a:Int}{g:Nat}(hg:g≠0)(h:(g:Int)∣a):(a/(g:Int)).natAbs<=a.natAbs:=by
 obtain⟨c,rfl⟩:=h;have hg':(g:Int)≠0:=by exact_mod_cast hg
 rw[Aw _ hg',gq,kZ];exact Nat.le_mul_of_pos_left _ (by omega)
theorem Fe(a:Int)(hb:b≠0):(mkRat a b).num.natAbs<=a.natAbs/\(mkRat a b).den<=b:=by
 rw[Rat.num_mkRat,Rat.den_mkRat,if_neg hb,if_neg hb];refine⟨Fd (λz=>?_) (Int.ofNat_dvd_left.mpr (Nat.gcd_dvd_right ..)),Nat.div_le_self _ _⟩;rw[Nat.gcd_eq_zero_iff] at z;exact hb z.1
theorem tw{a:Nat}(h:a<2^n)(h':b<2^m):a*b<2^(n+m):=by
 rw[rK];rcases Nat.eq_zero_or_pos a with rfl|ha
 .rw[Nat.zero_mul];exact Nat.mul_pos (Nat.pow_pos (by decide)) (Nat.pow_pos (by decide))
 .exact cW (Nat.mul_lt_mul_of_pos_left h' ha) (qJ _ (nz h))
theorem Sz.add{p:Rat}(h:Sz n p)(h':Sz m q):Sz (n+m+1) (p+q):=by
 rw[Rat.add_def'];have z:p.den*q.den≠0:=Ax p.den_nz q.den_nz;have:=Fe (p.num*q.den+q.num*p.den) z;have a1:=tw h.1 h'.2;have a2:=tw h'.1 h.2;have a3:=tw h.2 h'.2;rw[yv m n] at a2;have e:2^(n+m+1)=2^(n+m)+2^(n+m):=by rw[uS];omega
 have t:=Ay (p.num*q.den) (q.num*p.den);rw[gq,gq,kZ,kZ] at t;exact⟨by omega,by omega⟩
def Sz.neg{p:Rat}(h:Sz n p):Sz n (-p):=⟨by rw[Rat.neg_num,Int.natAbs_neg];exact h.1,h.2⟩
theorem Sz.sub{p:Rat}(h:Sz n p)(h':Sz m q):Sz (n+m+1) (p-q):=by rw[Rat.sub_eq_add_neg];exact h.add h'.neg
theorem Sz.mul{p:Rat}(h:Sz n p)(h':Sz m q):Sz (n+m) (p*q):=by
 rw[Rat.mul_def'];have z:p.den*q.den≠0:=Ax p.den_nz q.den_nz;have:=Fe (p.num*q.num) z;have a1:=tw h.1 h'.1;have a3:=tw h.2 h'.2;rw[gq] at this;exact⟨by omega,by omega⟩
theorem Sz.inv{p:Rat}(h:Sz n p):Sz n p⁻¹:=by
 unfold Sz;rw[Rat.num_inv,Rat.den_inv,gq,kZ];have:=p.den_pos;have h1:=h.1;have h2:=h.2;constructor
 .rcases Int.lt_trichotomy p.num 0 with z|z|z
  .rw[Ea z];simpa using h2
  .rw[z];simp;omega
  .rw[Int.sign_eq_one_of_pos z];simpa using h2
 .split
  .omega
  .exact h1
theorem Sz.int(i:Int)(hn:0<n)(h:i.natAbs<2^n):Sz n (i:Rat):=⟨by rw[yx];exact h,by rw[yy];exact yz (by omega)⟩
theorem Sz.zero(hn:0<n):Sz n (0:Rat):=⟨by rw[Rat.zero_num];exact Nat.two_pow_pos n,by rw[Rat.zero_den];exact yz (by omega)⟩
theorem Sz.bd(h:Sz n q)(l:n<=8990):Bd q.num/\Bd (q.den:Int):=by
 have:=h.mono l;exact⟨this.1,by unfold Bd;rw[kZ];exact this.2⟩
def B2(p q:Rat):Prop:=∃n m,Sz n p/\Sz m q/\n+m<8990
def B2.of{p:Rat}(h:Sz n p)(h':Sz m q)(l:n+m<8990):B2 p q:=⟨n,m,h,h',l⟩
theorem B2.mul{p:Rat}(h:B2 p q):qW p.num q.den/\qW q.num p.den/\qW p.den q.den/\qW p.num q.num/\Bd ((p.den:Int)*q.den)/\(p.den:Int)*q.den≠0/\qW p.den q.num/\(Bd ((p.den:Int)*q.num)):=by
 obtain⟨n,m,h1,h2,l⟩:=h;have b1:=h1.bd (by omega);have b2:=h2.bd (by omega);refine⟨⟨b1.1,b2.2⟩,⟨b2.1,b1.2⟩,⟨b1.2,b2.2⟩,⟨b1.1,b2.1⟩,?_,?_,⟨b1.2,b2.1⟩,?_⟩
 .have:=tw h1.2 h2.2
  unfold Bd;rw[gq,kZ,kZ];exact cW this (jH (by decide) (by omega))
 .have:=Ax p.den_nz q.den_nz
  exact_mod_cast this
 .have:=tw h1.2 h2.1
  unfold Bd;rw[gq,kZ];exact cW this (jH (by decide) (by omega))
def cY:List Rat->List Rat->Rat
 |[],_=>0
 |_::_,[]=>0
 |x::xs,y::ys=>x*y+cY xs ys
def Ka(q:Rat)(n:Nat):dX (shq q) (n+1)=true:=zg (by simp[dX])
theorem Ff(r:List Rat)(n:Nat):dX (aK r) (n+2)=true:=zg λx hx=>by
 obtain⟨q,_,rfl⟩:=YbU.mp hx;exact Ka q n
def aN(xs:List Int):D:=.tup (xs.map .int)
def dP(xs:List Int):D:=.lst (xs.map .int)
theorem Fg{t b:Int}(hb:b≠0):(t.fdiv (if b<0 then -(Int.gcd t b:Int) else(Int.gcd t b:Int))=(Rat.divInt t b).num)/\(b.fdiv (if b<0 then -(Int.gcd t b:Int) else(Int.gcd t b:Int))=((Rat.divInt t b).den:Int)):=by
 have hg:0<Int.gcd t b:=Az _ hb;have hg':(0:Int)<(Int.gcd t b:Int):=by exact_mod_cast hg
 obtain⟨c,hc⟩:=Int.gcd_dvd_left (a:=t) (b:=b);obtain⟨d,hd⟩:=Int.gcd_dvd_right (a:=t) (b:=b);rw[Rat.num_divInt,Rat.den_divInt,if_neg hb,Int.gcd_comm b t];generalize Int.gcd t b=g at *;subst hc hd;have gne:(g:Int)≠0:=by omega
 split
 .rename_i h
  have hd:d<0:=by
   rcases Int.lt_or_le d 0 with z|z
   .exact z
   .have:=Int.mul_nonneg (Int.le_of_lt hg') z;omega
  rw[Ea h];constructor
  .rw[show(g:Int)*c=(-(g:Int))*(-c) by rw[yA],yB _ (by omega),yA,show(-1:Int)*((g:Int)*c)=(g:Int)*(-c) by rw[Int.neg_mul,tW,Int.mul_neg],Aw _ gne]
  .rw[show(g:Int)*d=(-(g:Int))*(-d) by rw[yA],yB _ (by omega),yA,gq,kZ,Nat.mul_div_cancel_left _ hg]
   omega
 .rename_i h
  have hd:0<d:=by
   rcases Int.lt_or_le 0 d with z|z
   .exact z
   .exfalso
    have h1:(g:Int)*d<=0:=by
     have:=Int.mul_le_mul_of_nonneg_left z (Int.le_of_lt hg')
     rwa [yw] at this
    omega
  have hp:0<(g:Int)*d:=Int.mul_pos hg' hd;rw[Int.sign_eq_one_of_pos hp,tW];constructor
  .rw[yB _ gne,Aw _ gne]
  .rw[yB _ gne,gq,kZ,Nat.mul_div_cancel_left _ hg]
   omega
mutual
def kd:D->Bool
 |.tup xs=>decide (xs.length<=5000)&&qZ xs
 |.lst xs=>decide (xs.length<=5000)&&qZ xs
 |.non=>true
 |.bl _=>true
 |.int _=>true
 |.str _=>true
 |.dic=>true
 |.pen=>false
 |.cls _=>false
 |.exc _=>false
 |.ty _=>false
 |.scr _=>false
def qZ:List D->Bool
 |[]=>true
 |x::r=>kd x&&qZ r
end
theorem Fh:∀{xs:List D},qZ xs=true->∀x∈xs,kd x=true
 |x::r,h,y,hy=>by
  rw[qZ,cT] at h;rcases Yao.mp hy with rfl|hy
  .exact h.1
  .exact Fh h.2 y hy
theorem BX:∀{xs:List D},(∀x∈xs,kd x=true)->qZ xs=true
 |[],_=>by rw[qZ]
 |x::r,h=>by rw[qZ,h x (kW ..),BX λy hy=>h y (i8 _ hy)];rfl
theorem qu(h:kd (.tup xs)=true):xs.length<=5000/\∀x∈xs,kd x=true:=by
 rw[kd,cT,N7] at h;exact⟨h.1,Fh h.2⟩
theorem kP(h1:xs.length<=5000)(h2:∀x∈xs,kd x=true):kd (.tup xs)=true:=by rw[kd,N9 h1,BX h2];rfl
theorem Fj(h1:xs.length<=5000)(h2:∀x∈xs,kd x=true):kd (.lst xs)=true:=by rw[kd,N9 h1,BX h2];rfl
theorem wJ{x:D}(h:kd x=true):∃t,y8 x=some t:=by
 cases x<;>first
  |exact⟨_,rfl⟩
  |(rw[kd] at h;cases h)
def Kb(q:Rat):kd (shq q)=true:=kP (by simp) (by simp[kd])
theorem zj(h:r.length<=5000):kd (aK r)=true:=kP (by simpa using h) λx hx=>by
 obtain⟨q,_,rfl⟩:=YbU.mp hx;exact Kb q
theorem Fk{r:List Int}(h:r.length<=5000):kd (aN r)=true:=kP (by simpa using h) λx hx=>by
 obtain⟨q,_,rfl⟩:=YbU.mp hx;rw[kd]
def nU:D->Bool
 |.int _=>true
 |_=>false
def gF(l m:Int):D->Bool
 |.int i=>decide (l<=i)&&decide (i<=m)
 |_=>false
def lK(l m:Int):D->Bool
 |.tup xs=>xs.all (gF l m)
 |_=>false
def dM:D->Bool
 |.tup [.int t,.int b]=>decide (0<b)&&(Int.gcd t b==1)
 |_=>false
def jN(n:Int):D->Bool
 |.tup xs=>((xs.length:Int)==n)&&xs.all dM
 |_=>false
def wK(l m:Int):D->Bool
 |.tup xs=>decide (l<=(xs.length:Int))&&decide ((xs.length:Int)<=m)&&xs.all dM
 |_=>false
def uh:bK:=fnS (λx:D=>[x]) (λx=>kd x=true) λx=>.bl (nU x)
def wO:bK:=fnS (λx:D×Int×Int=>[x.1,.int x.2.1,.int x.2.2]) (λx=>kd x.1=true) λx=>.bl (gF x.2.1 x.2.2 x.1)
def zk:bK:=fnS (λx:D×Int×Int=>[x.1,.int x.2.1,.int x.2.2]) (λx=>kd x.1=true) λx=>.bl (lK x.2.1 x.2.2 x.1)
def zm:bK:=fnS (λx:Int×Int=>[.int x.1,.int x.2]) (λ_=>True) λx=>.int (Int.gcd x.1 x.2)
def BY:bK:=fnS (λx:D=>[x]) (λx=>kd x=true) λx=>.bl (dM x)
def zn:bK:=fnS (λx:D×Int×Int=>[x.1,.int x.2.1,.int x.2.2]) (λx=>kd x.1=true) λx=>.bl (wK x.2.1 x.2.2 x.1)
def zp:bK:=fnS (λx:D×Int=>[x.1,.int x.2]) (λx=>kd x.1=true) λx=>.bl (jN x.2 x.1)
def tx:bK:=fnS (λx:Int×Int=>[.int x.1,.int x.2]) (λx=>x.2≠0/\Bd x.2) λx=>shq (Rat.divInt x.1 x.2)
def wP:bK:=fnS (λx:Rat×Rat=>[shq x.1,shq x.2]) (λx=>B2 x.1 x.2) λx=>shq (x.1+x.2)
def wQ:bK:=fnS (λx:Rat×Rat=>[shq x.1,shq x.2]) (λx=>B2 x.1 x.2) λx=>shq (x.1-x.2)
def rc:bK:=fnS (λx:Rat×Rat=>[shq x.1,shq x.2]) (λx=>B2 x.1 x.2) λx=>shq (x.1*x.2)
def qv:bK:=fnS (λx:Rat×Rat=>[shq x.1,shq x.2]) (λx=>B2 x.1 x.2/\x.2≠0) λx=>shq (x.1/x.2)
def lL(b:Bool)(xs:List D):D:=if b then .tup xs else .lst xs
def tz:bK:=fnS (λx:Bool×List Int=>[lL x.1 (x.2.map .int)]) (λx=>x.2.length<=5000) λx=>aK (x.2.map λ(i:Int)=>(i:Rat))
def BR(p q:List Rat):Prop:=∃n m,(∀x∈p,Sz n x)/\(∀x∈q,Sz m x)/\p.length*(n+m+1)+(n+m)+1<8990
def zq:bK:=fnS (λx:(Bool×Bool)×List Rat×List Rat=>[lL x.1.1 (x.2.1.map shq),lL x.1.2 (x.2.2.map shq)]) (λx=>BR x.2.1 x.2.2) λx=>shq (cY x.2.1 x.2.2)
structure IsSl(s:List Int)(n:Nat):Prop where
 len:s.length+1=2*n
 n1:1<=n
 n5:n<=5
 b:∀x∈s,-50<=x/\x<=50
def tbl(s:List Int)(n:Nat):List (List Int):=(List.range n).map λi=>(s.drop (n-1-i)).take n
def i6(s:List Int)(n:Nat):D:=.lst ((tbl s n).map dP)
def fg:D->Bool
 |.tup xs=>xs.all (gF (-50) 50)&&decide (xs.length%2=1)&&decide (xs.length<=9)
 |_=>false
abbrev SL:=List Int×Nat
def kQ:bK:=fnS (λx:List D=>[.tup x]) (λx=>x.length<=5000) λx=>.int (((x.length:Int)+1)/2)
def wR:bK:=fnS (λx:D=>[x]) (λx=>kd x=true) λx=>.bl (fg x)
def ui:D->Int
 |.int i=>i
 |_=>0
def sI:D->List Int
 |.tup xs=>xs.map ui
 |_=>[]
def sN(x:D):Nat:=((sI x).length+1)/2
def gQ(x:D)(v:Except Str D):Except Str D:=if fg x=true then v else .error "NoSlants"
def qw:bK:=xS (λx:D=>[x]) (λx=>kd x=true) λx=>gQ x (.ok .non)
def wS:bK:=xS (λx:D=>[x]) (λx=>kd x=true) λx=>gQ x (.ok (i6 (sI x) (sN x)))
def BZ(n:Int):D->Bool
 |.lst xs=>((xs.length:Int)==n)&&xs.all nU
 |_=>false
def tB:D->Bool
 |.lst xs=>!(xs.length==0)&&xs.all (BZ xs.length)
 |_=>false
def hd(r:List Int):Int:=r.headD 0
def cor(s:List Int)(n k:Nat):List Int:=(s.drop (n-k)).take (2*k-1)
def mY:bK:=xS (λx:D×D=>[x.1,x.2]) (λx=>kd x.1=true/\kd x.2=true) λx=>gQ x.1 (if gF 1 (sN x.1) x.2=true then .ok (aN (cor (sI x.1) (sN x.1) (ui x.2).toNat)) else .error "NoNumber")
def uj:bK:=xS (λx:D×D=>[x.1,x.2]) (λx=>kd x.1=true/\kd x.2=true) λx=>gQ x.1 (.ok (.bl (jN (sN x.1) x.2)))
def c8(r:List Int):List Rat:=r.map λ(i:Int)=>(i:Rat)
def zt:bK:=fnS (λx:SL=>[aN x.1]) (λx=>IsSl x.1 x.2) λx=>.lst ((tbl x.1 x.2).map λr=>aK (c8 r))
def c9(s:List Int)(n:Nat)(r:List Rat):List Rat:=(tbl s n).map λline=>cY (c8 line) r
def BS(r:List Rat):Prop:=∃m,(∀x∈r,Sz m x)/\m<=1400
def re:D->Rat
 |.tup [.int t,.int b]=>Rat.divInt t b
 |_=>0
def rQ:D->List Rat
 |.tup xs=>xs.map re
 |_=>[]
def uk:bK:=xS (λx:D×D=>[x.1,x.2]) (λx=>kd x.1=true/\kd x.2=true/\∀r,x.2=aK r->BS r) λx=>gQ x.1 (if jN (sN x.1) x.2=true then .ok (aK (c9 (sI x.1) (sN x.1) (rQ x.2))) else .error "NoRow")
section
variable{E:Ex->Prop}{x:D}{l m a b:Int}{p:Rat}
def Kc(h:kd x=true)(q:Q (.bl (gF l m x))):wO [x,.int l,.int m] E Q:=⟨(x,l,m),rfl,h,q⟩
def Kd(h:kd x=true)(q:Q (.bl (lK l m x))):zk [x,.int l,.int m] E Q:=⟨(x,l,m),rfl,h,q⟩
def Ke(h:kd x=true)(q:Q (.bl (wK l m x))):zn [x,.int l,.int m] E Q:=⟨(x,l,m),rfl,h,q⟩
def Kf(h:kd x=true)(q:Q (.bl (jN a x))):zp [x,.int a] E Q:=⟨(x,a),rfl,h,q⟩
def Fm(h:B2 p q)(z:Q (shq (p-q))):wQ [shq p,shq q] E Q:=⟨(p,q),rfl,h,z⟩
def Fn(h:B2 p q)(z:Q (shq (p*q))):rc [shq p,shq q] E Q:=⟨(p,q),rfl,h,z⟩
def B0(h:B2 p q)(h':q≠0)(z:Q (shq (p/q))):qv [shq p,shq q] E Q:=⟨(p,q),rfl,⟨h,h'⟩,z⟩
theorem Fo{xs:List Int}(h:xs.length<=5000)(q:Q (aK (c8 xs))):tz [dP xs] E Q:=⟨(false,xs),rfl,h,q⟩
theorem Kg{xs:List Int}(h:xs.length<=5000)(q:Q (aK (c8 xs))):tz [aN xs] E Q:=⟨(true,xs),rfl,h,q⟩
theorem Kh{p q:List Rat}(h:BR p q)(z:Q (shq (cY p q))):zq [aK p,aK q] E Q:=⟨((true,true),p,q),rfl,h,z⟩
def IsSl.l9(h:IsSl s n):s.length<=9:=by have:=h.len;have:=h.n5;omega
theorem Fq(h:xs.length<=5000)(q:Q (.int (((xs.length:Int)+1)/2))):kQ [.tup xs] E Q:=⟨xs,rfl,h,q⟩
theorem qx(h:IsSl s n)(q:Q (.int n)):kQ [aN s] E Q:=by
 have:=h.l9;have:=h.len;refine Fq (by simp;omega) ?_;have e:(((s.map D.int).length:Int)+1)/2=n:=by rw[bP];omega
 rw[e];exact q
def Ki(h:kd x=true)(q:Q (.bl (fg x))):wR [x] E Q:=⟨x,rfl,h,q⟩
theorem Kj(h:IsSl s n):fg (aN s)=true:=by
 unfold fg aN;simp only[bP];have hl:=h.len;have h5:=h.n5;have h1:=h.n1;rw[N9 (by omega:s.length%2=1),N9 (by omega:s.length<=9),uT,uT,Ybh];intro x hx;obtain⟨i,hi,rfl⟩:=YbU.mp hx;have:=h.b i hi;simp[gF,this.1,this.2]
def IsSl.kd{s:List Int}{n:Nat}(h:IsSl s n):kd (aN s)=true:=Fk (by have:=h.l9;omega)
theorem Kk(q:Rat):dM (shq q)=true:=by
 unfold dM shq;have h1:(0:Int)<(q.den:Int):=by exact_mod_cast q.den_pos
 have h2:Int.gcd q.num (q.den:Int)=1:=q.reduced;simp[h2,q.den_pos]
def B1(r:List Rat):jN r.length (aK r)=true:=by
 unfold jN aK;simp[Kk]
theorem fX(s:List Int):sI (aN s)=s:=by show(s.map D.int).map ui=s;rw[dR];exact(ia λ_ _=>rfl).trans (List.map_id _)
def IsSl.sN(h:IsSl s n):sN (aN s)=n:=by unfold LP.sN;rw[fX];have:=h.len;omega
def jO(h:IsSl s n):gQ (aN s) v=v:=by unfold gQ;rw[Kj h,if_pos rfl]
def l7(h:fg x=false):gQ x v=.error "NoSlants" :=by unfold gQ;rw[h,if_neg (by decide)]
theorem nV(h:fg x=true):∃s n,x=aN s/\IsSl s n:=by
 cases x<;>try (cases h;done)
 rename_i xs;simp only[fg,cT,N7,Ybh] at h;obtain⟨⟨h1,h2⟩,h3⟩:=h;have e:xs=(xs.map ui).map D.int:=by
  rw[dR];refine((ia λx hx=>?_).trans (List.map_id _)).symm;have:=h1 x hx;cases x<;>first|rfl|cases this
 refine⟨xs.map ui,(xs.length+1)/2,by unfold aN;rw[<-e],⟨by rw[bP];omega,by omega,by omega,λi hi=>?_⟩⟩;obtain⟨x,hx,rfl⟩:=YbU.mp hi;have:=h1 x hx;cases x<;>first|(cases this;done)|skip
 simp only[gF,cT,N7] at this;exact this
def wU(q:Rat):re (shq q)=q:=by unfold re shq;exact uU q
theorem tD(r:List Rat):rQ (aK r)=r:=by show(r.map shq).map re=r;rw[dR];exact(ia λq _=>wU q).trans (List.map_id _)
def Kl{r':List Rat}(h:aK r=aK r'):r=r':=by rw[<-tD r,h,tD]
theorem Km(h:dM d=true):∃q,d=shq q:=by
 unfold dM at h;split at h
 .rename_i t b
  simp only[cT,N7,Oy] at h;have hb:((b.toNat:Nat):Int)=b:=Av (by omega);refine⟨⟨t,b.toNat,by omega,?_⟩,?_⟩
  .have:b.natAbs=b.toNat:=by omega
   have h2:=h.2;unfold Int.gcd at h2;rw[this] at h2;exact h2
  .unfold shq
   rw[hb]
 .cases h
theorem Fs:∀{xs:List D},xs.all dM=true->∃r:List Rat,xs=r.map shq
 |[],_=>⟨[],rfl⟩
 |x::xs,h=>by
  rw[yt,cT] at h;obtain⟨q,rfl⟩:=Km h.1;obtain⟨r,rfl⟩:=Fs h.2;exact⟨q::r,rfl⟩
theorem B3{a:Int}(h:jN a x=true):∃r,x=aK r/\(r.length:Int)=a:=by
 cases x<;>try (cases h;done)
 rename_i xs;simp only[jN,cT,Oy] at h;obtain⟨r,rfl⟩:=Fs h.2;exact⟨r,rfl,by simpa using h.1⟩
def Ft(h:IsSl s n)(q:Q .non):qw [aN s] E Q:=xS.ok (aN s) rfl h.kd (jO h) q
def Fu(h:kd x=true)(hb:fg x=false)(e:E "NoSlants"):qw [x] E Q:=xS.err x rfl h (l7 hb) e
theorem Fv(h:IsSl s n)(q:Q (i6 s n)):wS [aN s] E Q:=xS.ok (aN s) rfl h.kd (by(try dsimp only);rw[jO h,fX,h.sN]) q
theorem um(h:IsSl s n)(h1:1<=k)(h2:k<=n)(q:Q (aN (cor s n k))):mY [aN s,.int k] E Q:=xS.ok (aN s,.int k) rfl ⟨h.kd,by rw [kd]⟩ (by
 have e:gF 1 (n:Int) (.int k)=true:=by simp[gF];omega
 dsimp only;rw[jO h,h.sN,fX,e,if_pos rfl];rfl) q
theorem Fw(h:IsSl s n)(hk:kd x=true)(q:Q (.bl (jN n x))):uj [aN s,x] E Q:=xS.ok (aN s,x) rfl ⟨h.kd,hk⟩ (by(try dsimp only);rw[jO h,h.sN]) q
theorem Kn(h:kd x=true)(hk:kd y=true)(hb:fg x=false)(e:E "NoSlants"):uj [x,y] E Q:=xS.err (x,y) rfl ⟨h,hk⟩ (l7 hb) e
theorem Ko(h:IsSl s n)(q:Q (.lst ((tbl s n).map λr=>aK (c8 r)))):zt [aN s] E Q:=⟨(s,n),rfl,h,q⟩
theorem Zf(h:IsSl s n)(hl:r.length=n)(hb:BS r)(q:Q (aK (c9 s n r))):uk [aN s,aK r] E Q:=xS.ok (aN s,aK r) rfl ⟨h.kd,zj (by have:=h.n5;omega),λr' e=>by rw [<- Kl e];exact hb⟩ (by
 have er:jN n (aK r)=true:=by rw[<-hl];exact B1 r
 dsimp only;rw[jO h,h.sN,fX,er,if_pos rfl,tD]) q
end
theorem tE{C:Addr}(h:PySem.W.nsIn K mainGlobals x=some (some (.ref C))):ik K x=some C:=by unfold ik;rw[h]
section
variable{C:Addr}{newId initId:String}{bmB:List Value}
def iu(x:Str):WS:=λE _ _=>E x
structure XC(K:N4)(mg:Str->Option Value)(x:Str):Prop where
 h:∃(C:Addr) (newId initId:String) (bmB:List Value),ik K x=some C/\mg x=some (.ref C)/\PySem.W.excIn K C bmB newId=true/\ExcBaseFacts "ValueError" newId initId bmB
theorem wV(hr:iV X EX)(hx:XC X.K X.mg x)(hc:X.calm=true:=by rfl)(hxn:d7 x=none:=by decide)(hg:Gl X x:=by rfl)(hd:(x==("__debug__" : Str))=false:=by decide) :
  PZ X EX (.Raise (some (.Call (.Name x np) [] [] cpos)) none pos) (iu x):=by
 obtain⟨C,newId,initId,bmB,h1,h2,h3,h4⟩:=hx.h;exact⟨⟨_,IQ hr hc h2 h3 h4 hg hd,λW0 H0 F W σ H ρ E Dn N s fl eo no q=>eo x W H (.ref C) none q s.ext ⟨C,by rw[JF hxn];exact h1,rfl,.none hxn⟩⟩,λE ρ N N' hl q=>q⟩
end
def uo(n i:Nat)(ex:Str):cQ:=(List.replicate n SV.un).set i (.d (.exc ex))
structure XT(K:N4)(mg:Str->Option Value)(x:Str)(L:List Str):Prop where
 h:∃(C:Addr) (newId:String) (bmB:List Value),mg x=some (.ref C)/\PySem.W.excIn K C bmB newId=true/\bmB.contains (.type "BaseException")=true/\∀n∈L,∀D,ik K (gb n)=some D->PySem.W.mroIn K D (.ref C)=some true
section
def fK(L:List Str)(n i:Nat)(zb zh:WS):WS:=λ_ N ρ=>∃E':Ex->Prop,(∀ex,E' ex->ex∈L/\zh No { nx:=λ_=>False,rt:=N.rt } (uo n i ex))/\zb E' N ρ
theorem Kp(L:List Str)(i:Nat){n cx:Str}{suite:List Stmt}{b0:Stmt}{zh:WS}{hpos:Pos}(hcx:XT X.K X.mg cx L)(hN:X.N.Nodup)
  (hb:∀xe pins EX',cc (cU X.prog X.w) (X.tr xe pins) EX'->jc (X.tr xe pins) EX' body zb) (hh:∀e xe,jc (X.hnd e xe) E0 (b0::suite) zh)
  (hstk:X.stack=X.env::X.outer/\X.env.frame=some X.env.locals:=by exact⟨rfl,rfl⟩) (hi:X.N[i]? = some n:=by rfl) (hx:X.env.scope.names.lookup n=some .local:=by rfl)
  (hg:Gl X cx:=by rfl) (hd:(cx==("__debug__" : Str))=false:=by decide) (hkf:X.env.scope.kind=.function:=by rfl) (hex:X.ex=[]:=by rfl) :
  PZ X EX (.Try body [.ExceptHandler (some (.Name cx np)) (some n) (b0::suite) hpos] [] [] pos) (fK L X.N.length i zb zh):=by
 have hbm:=(hb (λ_ _=>False) [] E0 cK).mono;refine⟨⟨λD σ H=>∃W0 H0 F W ρ N,SOk X.K W0 H0 W σ H ρ/\Wle F W/\BB X.K W0 H0 F D N/\fK L X.N.length i zb zh No N ρ,?_,λW0 H0 F W σ H ρ E Dn N s fl eo no h=>⟨W0,H0,F,W,ρ,N,s,fl,no,h⟩⟩,λE ρ N N' hl ⟨E',h1,h2⟩=>⟨E',λex he=>⟨(h1 ex he).1,(hh 0 λ_ _=>False).mono _ _ { nx:=λ_=>False,rt:=N.rt } { nx:=λ_=>False,rt:=N'.rt } ⟨λ_ z=>z,hl.rt,λ_ z=>z,λ_ z=>z⟩ (h1 ex he).2⟩,hbm _ _ _ _ hl h2⟩⟩;rintro pins s σ H D I ⟨W0,H0,F,W,ρ,N,so,fl,no,E',hE',hz⟩;obtain⟨Cs,newId,bmB,hm,hexc,hbase,hsub⟩:=hcx.h;have hcalm:=I.ok.hd
 let Eh:Value->Shared->Prop:=λe s1=>wpAny (model X.prog X.w) X.A (noteFrame e X.env) (λ_ s2=>wpAny (model X.prog X.w) X.A (setFlight e none) (λ_ s3=>wpAny (model X.prog X.w) X.A (handleBy e X.env [.ExceptHandler (some (.Name cx np)) (some n) (b0::suite) hpos]) (SP X pins D) X.xe s3) X.xe s2) X.xe s1
 have pass:cc (cU X.prog X.w) (X.tr Eh pins) (λcls dx H'=>∃W' ex,Ext W0 H0 W' H'/\ua X.K W' H' cls dx ex/\E' ex):=by
  rintro pins' σ1 H1 s1 _ s' I1 ⟨ea,cls,dx,H',B,rfl,fly,hos,hbare,un,hok,hB,hT,W',ex,x',⟨C,hcl,rfl,hxd⟩,he⟩;have J:Inv X pins σ1 H1 s1:=I1.untr;obtain⟨hL,hw⟩:=hE' ex he;have fly':Fl.Up (Fl.Is (.ref C) dx) B (X.env::X.outer) ea .none s'.heap:=by rw[<-hstk.1];exact fly
  have frm:∀b∈cM X.stack,∃o,s'.heap.get? b=some o/\∀vs,o.data≠.fields vs:=λb hb=>(fly.fr.mem hb).2;show wpAny (model X.prog X.w) X.A (noteFrame (.ref ea) X.env) _ _ s';refine Fl.note Fl.Is.firm (by rw[J.ok.frames,hstk.1]) hstk.2 fly' λh4 held4 up4=>?_;refine Fl.lands (s:={ s' with heap:=h4 }) held4 λh5 fl5 up5=>?_;have up45:=up4.trans up5;have J5:Inv X pins σ1 H' { s' with heap:=h5 }:=J.fly hos hbare un hok hB hT fly.st fl5.st up45 frm;refine wpAny_handleBy_cons (codeAny_handlers_test ?_) (by intro q;cases q);refine eA (X:=X.hnd ea X.xe) J5.hnd hg hm ?_ hd;refine IR J5.kIn hexc hbase (let⟨ob,z1,z2,_⟩:=fl5.there;⟨ob,z1,z2.1⟩) (hsub ex hL C hcl) ?_;refine codeAny_handlers_suite_as ?_;refine Fl.lands (s:={ s' with heap:=h5 }) fl5 λh6 fl6 up6=>?_;have J6:Inv X pins σ1 H' { s' with heap:=h6 }:=J.fly hos hbare un hok hB hT fly.st fl6.st (up45.trans up6) frm
  -- the exception's own object
  obtain⟨oe0,g1,g2,vs0,g3⟩:=fly.there;have nofr:ea∉cM X.stack:=λhm=>by
   obtain⟨o,e,nf⟩:=frm ea hm;rw[g1] at e;cases e;exact nf _ g3
  have nB:B.get? ea=none:=fly.new;have noS:s1.heap.get? ea=none:=by
   cases q:s1.heap.get? ea with
   |none=>rfl
   |some o=>obtain⟨o',e⟩:=hB ea o q nofr;rw[nB] at e;cases e
  have hn':H' ea=none:=by
   cases q:H' ea with
   |none=>rfl
   |some u=>obtain⟨o,e⟩:=hT ea u q;rw[nB] at e;cases e
  have no0:X.s₀.heap.get? ea=none:=by
   cases q:X.s₀.heap.get? ea with
   |none=>rfl
   |some o=>
    obtain⟨o',e⟩:=J.base.there ea o q (by rw[hex];simp);rw[noS] at e;cases e
  have nL:ea≠X.env.locals:=λz=>by
   obtain⟨m,⟨o,es,ep,ho,_⟩,_⟩:=J.loc;rw[<-z,noS] at ho;cases ho
  have nC:∀x c,X.env.cells.lookup x=some c->c≠ea:=λx c e z=>by
   obtain⟨v,o,ho,_⟩:=J.cell x c e;rw[z,noS] at ho;cases ho
  have nP:∀p∈X.pn++pins,p.1≠ea:=λp hp z=>by
   have:=(J.pin p hp).1;rw[z,noS] at this;cases this
  obtain⟨oe,q1,q2,vs,q3⟩:=fl6.there;refine fz (X:=X.hnd ea X.xe) (v:=.ref ea) J6.hnd hN hi (Or.inl hx) rfl (λs7 J7 sb=>?_) (.inr hx);have hat:∃oe,s7.heap.get? ea=some oe/\oe.cls=.ref C/\PySem.W.notCls oe=true/\oe.dict=dx/\∃vs,oe.data=.fields vs:=by
   obtain⟨a,hs,ha⟩:=sb;have hne:ea≠a:=λz=>by
    rcases ha with ha|ha
    .exact nL (z.trans ha)
    .exact nC _ _ ha z.symm
   refine⟨oe,(hs.2 ea hne).trans q1,q2.1,?_,q2.2,vs,q3⟩;unfold PySem.W.notCls;rw[q3]
  have J8:Inv (X.hnd ea λ_ _=>False) pins (σ1.set i (some (.ref ea))) (upd H' ea (qh C ea dx)) s7:=by
   refine((J7.unhnd hcalm).hnd).track hn' no0 nL nC nP ⟨hat,?_,?_⟩ (λ_ z=>by first|cases z|(unfold qh at z;cases z))
   .obtain⟨o,e,_⟩:=hat;exact⟨o,e⟩
   .rintro g1 g2 ⟨o,e,r⟩ k
    exact⟨o,k o e,r⟩
  have xt:Ext W' H' (W'.put ea (qh C ea dx)) (upd H' ea (qh C ea dx)):=Ext.put x'.ok hn';have hil:i<X.N.length:=(Yar.mp hi).1;have so2:SOk X.K W0 H0 (W'.put ea (qh C ea dx)) (σ1.set i (some (.ref ea))) (upd H' ea (qh C ea dx)) (uo X.N.length i ex):=by
   have hlen:σ1.length=X.N.length:=J.len;have slot:∀(j:Nat) sv,(uo X.N.length i ex)[j]? = some sv->sv=.un\/(j=i/\sv=.d (.exc ex)):=λj sv e=>by
    unfold uo at e
    by_cases h:i=j
    .subst h
     rw[eP (by simpa using hil)] at e;cases e;exact .inr ⟨rfl,rfl⟩
    .rw[et h,mo] at e
     split at e
     .cases e;exact .inl rfl
     .cases e
   refine⟨x'.trans xt,by unfold uo;rw[dv,dv,pF,hlen],λj y e=>?_,λj ys e=>?_,λj k ys zs b _ e=>?_,.none λj xss e=>?_⟩
   .rcases slot j _ e with z|⟨rfl,z⟩
    .cases z
    .cases z
     exact⟨.ref ea,eP (by rw[hlen];exact hil),.exc (by unfold Wd.put;dsimp only;rw[aL]) hcl (hxd.mono xt.g)⟩
   .rcases slot j _ e with z|⟨_,z⟩<;>cases z
   .rcases slot j _ e with z|⟨_,z⟩<;>cases z
   .rcases slot j _ e with z|⟨_,z⟩<;>cases z
  obtain⟨th,ph,kh⟩:=(hh ea λ_ _=>False).t;refine Of (ph pins s7 _ _ { nx:=λ_ _=>False,rt:=D.rt } J8 (kh W0 H0 _ _ _ _ _ No _ { nx:=λ_=>False,rt:=N.rt } so2 (.refl _) (λ_ _ _ _ _ z=>z.elim)
   ⟨λ_ _ _ _ _ _ z=>z.elim,no.rt,λ_ _ _ _ _ _ z=>z.elim,λ_ _ _ _ _ _ z=>z.elim⟩ hw)) (λf s9 q=>?_) λ_ _ z=>z.elim
  cases f with
  |next=>obtain⟨_,_,_,z⟩:=q;exact z.elim
  |brk=>obtain⟨_,_,_,z⟩:=q;exact z.elim
  |cont=>obtain⟨_,_,_,z⟩:=q;exact z.elim
  |ret u=>
   obtain⟨v,σ9,H9,J9,r9,q9⟩:=q;have K9:=J9.unhnd hcalm;obtain⟨m,hns,_⟩:=K9.loc;exact wpAny_nameGoes hx hns (by rw[hkf];rfl) λh' m' hn2 hs2=>⟨v,_,H9,K9.names hn2 hs2,r9,q9⟩
 obtain⟨tb,pb,kb⟩:=(hb Eh pins _ pass).t;refine wpAny_Try_except (Of (pb [] s σ H D I.tr (kb W0 H0 F W σ H ρ E' D N so fl (λex W' H' cls dx he x r=>⟨W',ex,x,r,he⟩) no hz)) (λf s1 q=>?_) λe s1 q=>q);cases f with
 |next=>exact Oz q.untr
 |brk=>exact q.untr
 |cont=>exact q.untr
 |ret u=>exact q.untr
end
section
variable{w:World}
theorem B5{N:List Str}(F:Fun K x qual st f fd)(sc:bI N ps (aE st))(len:∀ds E Q,S ds E Q->ds.length=ps.length)
  (hbody:∀ (cdv:Value) (A:Around) (outer:List Env) (s:Shared) (H:Hp),RoomU k (A.deeper (envOfC qual (aE st) s.heap.objs.size f cdv))->
   jc (sV P w K mg base N qual (aE st) f cdv A outer s H) E0 (aW st) z)
  (h:∀ds E Q,S ds E Q->z No { nx:=λ_=>Q .non,rt:=Q } (dS N ds)):yT P w K mg base (k+1) f fd ps (fV K S):=by
 refine F.okU sc (λvs H Q E hs=>?_) λcdv A outer s H vs Q E hr hs=>?_
 .obtain⟨ds,W,_,r,hS⟩:=hs
  rw[r.length];exact len _ _ _ hS
 .obtain⟨ds,W,ok,r,hS⟩:=hs
  obtain⟨t,p,k⟩:=(hbody cdv A outer s H hr).t;exact ⟨t,p,k W H W W (start N vs) H (dS N ds) No _ { nx:=λ_=>RQ K W H Q .non,rt:=RQ K W H Q } (BL ok r) (.refl W) (λ_ _ _ _ _ z=>z.elim)
   ⟨λW1 σ1 H1 ρ1 s1 _ q=>q _ W1 H1 s1.ext .non,λd v W1 H1 x1 r1 q=>q v W1 H1 x1 r1,λ_ _ _ _ _ _ q=>q.elim,λ_ _ _ _ _ _ q=>q.elim⟩ (h ds _ _ hS)⟩
structure B6(P:Program)(w:World)(K:N4)(mg:Str->Option Value)(base:Heap)(k:Nat)(x:Str)(ps:List Str)(S:bK):Prop where
 ok:∃f fd,yT P w K mg base k f fd ps (fV K S)/\mg x=some (.ref f)/\PySem.W.keepIn K (.ref f)=true/\Binds K fd ps []
 mono:lX S
end
section
variable{p:Pos}{t:WA}
theorem Fx(G:B6 X.prog X.w X.K X.mg X.base k x ps S)(hr:RoomU j X.A)(ha:iW X EX (e::es) t)(hk:k<=j:=by decide)(hg:Gl X x:=by rfl)(hdb:(x==("__debug__" : Str))=false:=by decide)(he:starEach (e::es) X.env=(false,eval e X.env)::starEach es X.env:=by rfl)(hpl:(backTo pos (starEach es X.env)).any (·.1)=false:=by rfl) :
  PX X EX (.Call (.Name x p) (e::es) [] pos) (wF S t):=by
 obtain⟨f,fd,F,hm,kp,hb⟩:=G.ok;obtain⟨ta,pa,ka⟩:=ha.t;have hS:=G.mono;refine⟨⟨_,IT (E:=EX) F (hr.mono hk) hg hm kp hb pa hdb he hpl,λW0 H0 W σ H ρ E Q s eo h=>?_⟩,λE ρ P P' hp z=>ha.mono _ _ _ _ (λds hds=>hS _ _ _ _ _ (λ_ q=>q) hp hds) z⟩;refine ka W0 H0 W σ H ρ E _ s eo (ha.mono _ _ _ _ (λds hds vs W1 H1 x1 r1=>?_) h);refine⟨ds,W1,x1.ok,by rw[rG];exact r1,hS _ _ _ _ _ (λex hex W' H' cls dx x' r'=>?_) (λd hd=>RQ.ext hd x1) hds⟩;exact eo ex W' H' cls dx hex (s.ext.trans (x1.trans x')) r'
end
structure XI(K:N4)(L M:List Str):Prop where
 c:∀n∈L,∃D,ik K (gb n)=some D/\gY K D/\PySem.W.kitOne K (.ref D) (.type "ValueError")=some true/\∀m∈M,∃C,ik K m=some C/\PySem.W.kitOne K (.ref D) (.ref C)=some (gb n==m)
section
variable{a:Expr}{M:List Str}
def gIsX(L M:List Str):List D->(D->Prop)->Prop:=λds Q=>match ds with
 |[.exc n,.cls m]=>n∈L/\m∈M/\Q (.bl (gb n==m))
 |[.exc n,.ty T]=>n∈L/\T = "ValueError" /\Q (.bl true)
 |_=>False
theorem gIsX.mono:∀ds P P',(∀d,P d->P' d)->gIsX L M ds P->gIsX L M ds P':=λds P P' hp hg=>by
 unfold gIsX at hg ⊢;split at hg
 .exact⟨hg.1,hg.2.1,hp _ hg.2.2⟩
 .exact⟨hg.1,hg.2.1,hp _ hg.2.2⟩
 .exact hg.elim
theorem mZ(hx:XI X.K L M):d8 X (.builtin "isinstance") (gIsX L M):=by
 refine⟨⟨λvs H Q=>∃W ds,WOk W H/\Reps X.K W vs ds/\gIsX L M ds (RQ X.K W H Q),?_,λW H vs ds Q ok r hg=>⟨W,ds,ok,r,hg⟩⟩,gIsX.mono⟩;rintro pins s σ H vs us Q I rv ⟨W,ds,ok,rs,hg⟩;have fin:∀{b:Bool},RQ X.K W H Q (.bl b)->∀tk,EP X pins σ Q (.bool b) { s with toks:=tk }:=λq tk=>⟨.bl _,H,I.tok tk,rfl,q.now ok (.bl _)⟩;have look:∀{x:V} {u:Value} {n:Str},n∈L->Rep X.K W x (.exc n)->RelV x u->∃a D,u=.ref a/\ik X.K (gb n)=some D/\XAt s.heap a D:=λ{x u n} hn r ru=>by
  cases r with
  | @exc a C n dx e0 e1 _=>
   cases ru;obtain⟨hx,_⟩:=(show ObjOk X.prog X.w H s.heap a (qh C a dx) from I.hok a _ (ok.g _ _ e0))
   exact⟨a,C,rfl,e1,let⟨oe,z1,z2,z3,_⟩:=hx;⟨oe,z1,z2,z3⟩⟩
 unfold gIsX at hg;split at hg
 .rename_i n m
  obtain⟨h1,h2,q⟩:=hg;obtain⟨v,w',rfl,r1,r2⟩:=rs.two;obtain⟨u,u2,rfl,ru,ru2⟩:=kJ rv;obtain⟨a,D,rfl,hD,hat⟩:=look h1 r1 ru;obtain⟨D',e1,cx,_,hm⟩:=hx.c n h1;rw[hD] at e1;cases e1;obtain⟨C,e2,hk⟩:=hm m h2;cases r2 with
  |cls e3=>
   rw[e3] at e2;cases e2;cases ru2;exact PySem.W.kia_one (Et cx) I.kIn hat hk (λz=>nomatch z) (fin q)
 .rename_i n T
  obtain⟨h1,rfl,q⟩:=hg;obtain⟨v,w',rfl,r1,r2⟩:=rs.two;obtain⟨u,u2,rfl,ru,ru2⟩:=kJ rv;obtain⟨a,D,rfl,hD,hat⟩:=look h1 r1 ru;obtain⟨D',e1,cx,hk,_⟩:=hx.c n h1;rw[hD] at e1;cases e1;cases r2;obtain rfl:u2=Value.type "ValueError" :=ru2;exact PySem.W.kia_one (Et cx) I.kIn hat hk (λz=>nomatch z) (fin q)
 .exact hg.elim
theorem Kq{a:Addr}(hm:X.mg x=some (.ref a))(hc:ik X.K x=some a)(hg:Gl X x:=by rfl)(hd:(x==("__debug__" : Str))=false:=by decide):PX X EX (.Name x pos) (wC (.cls x)):=
 BC (v:=.ref a) hm rfl (λW=>.cls hc) hg hd
end
structure B7(X:Cx)(id:String)(g:D->List D->(D->Prop)->Prop):Prop where
 t:∃r,MtR X id r/\∀W H x vs dx ds Q,WOk W H->Rep X.K W x dx->Reps X.K W vs ds->g dx ds (RQ X.K W H Q)->r x vs H Q
 ty:∀dx ds P,g dx ds P->∃xs,dx=.lst xs
 mono:∀x ds P P',(∀d,P d->P' d)->g x ds P->g x ds P'
def wM(g:D->List D->(D->Prop)->Prop)(wo:WE)(t:WA):WE:=λE ρ Q=>wo E ρ λx=>(∃xs,x=.lst xs)/\t E ρ λds=>g x ds Q
section
variable{o:Expr}{t:WA}{id:String}{g:D->List D->(D->Prop)->Prop}
theorem Fy(slot:Slot "list" name id)(hty:typeOf (.builtin id)=pure (.type "method_descriptor"))(hm:B7 X id g)(ho:PX X EX o wo)(ha:iW X EX (e::es) t)
  (hbase:attributeBase o name X.env (eval o X.env)=eval o X.env:=by rfl)
  (hfew:((backTo cpos (starEach (e::es) X.env)).all (λx=>!x.1) && (backToKw cpos (keywordEach [] X.env)).all (λx=>x.1.isSome)
   && decide ((e::es).length+([]:List Keyword).length+(if([]:List Keyword).isEmpty then 0 else 1)<30))=true:=by rfl)
  (hline:(apos.endLine==cpos.line)=true:=by rfl) (hs:starEach (e::es) X.env=(false,eval e X.env)::starEach es X.env:=by rfl) (hplain:(backTo cpos (starEach es X.env)).any (·.1)=false:=by rfl) :
  PX X EX (.Call (.Attribute o name apos) (e::es) [] cpos) (wM g wo t):=by
 obtain⟨to,po,ko⟩:=ho.t;obtain⟨ta,pa,ka⟩:=ha.t;obtain⟨r,pr,kr⟩:=hm.t;refine⟨⟨_,qS PySem.F.plainAttrs_list slot hty pr po pa hbase hfew hline hs hplain,λW0 H0 W σ H ρ E Q s eo h=>?_⟩,λE ρ P P' hp z=>ho.mono _ _ _ _ (λx ⟨h1,h2⟩=>⟨h1,ha.mono _ _ _ _ (λds hds=>hm.mono _ _ _ _ hp hds) h2⟩) z⟩;refine ko W0 H0 W σ H ρ E _ s eo (ho.mono _ _ _ _ (λd hd v W1 H1 x1 r1=>?_) h);obtain⟨⟨xs,rfl⟩,h2⟩:=hd;cases r1 with
 | @lst a vs ds e1 rr=>
  refine⟨.inl ⟨rfl,vs,SqL.of (x1.ok.g _ _ e1)⟩,?_⟩;refine ka W0 H0 W1 σ H1 ρ E _ (s.step x1) eo (ha.mono _ _ _ _ (λds hds us W2 H2 x2 r2=>?_) h2);exact kr W2 H2 _ us _ ds Q x2.ok (.lst (x2.g _ _ e1) (rr.mono x2.g x2.p)) r2 (hm.mono _ _ _ _ (λd hd=>RQ.ext hd (x1.trans x2)) hds)
end
def zu(bs:List Bool):List D:=bs.map .bl
def B8:D->List D->(D->Prop)->Prop:=λx ds Q=>∃bs b,x=.lst (zu bs)/\ds=[.bl b]/\Q (.int (bs.countP (· == b):Nat))
def B9:D->List D->(D->Prop)->Prop:=λx ds Q=>∃bs b j,x=.lst (zu bs)/\ds=[.bl b]/\bs[j]? = some b/\(∀i<j,bs[i]?≠some b)/\Q (.int (j:Nat))
theorem Ca{K:N4}{W:Wd}:∀{bs:List Bool} {vs:List V} {its:List Value},Reps K W vs (zu bs)->Vals vs its->its=bs.map Value.bool
 |[],_,_,.nil,.nil=>rfl
 |b::bs,_,_,.cons r1 r2,.cons v1 v2=>by
  cases r1;obtain rfl:_=Value.bool b:=v1;rw[Ca r2 v2];rfl
theorem Fz(k:Bool):∀(bs:List Bool),(bs.map Value.bool).countP (isBoolOf k)=bs.countP (· == k)
 |[]=>rfl
 |b::bs=>by rw[da,List.countP_cons,List.countP_cons,Fz k bs];rfl
section
theorem Kr:B7 X "list.count" B8:=by
 refine⟨⟨λx vs H Q=>∃W dx ds,WOk W H/\Rep X.K W x dx/\Reps X.K W vs ds/\B8 dx ds (RQ X.K W H Q),?_,λW H x vs dx ds Q ok r rs hg=>⟨W,dx,ds,ok,r,rs,hg⟩⟩,λdx ds P ⟨bs,b,h,_⟩=>⟨_,h⟩,λx ds P P' hp ⟨bs,b,h1,h2,h3⟩=>⟨bs,b,h1,h2,hp _ h3⟩⟩;rintro pins s σ H x vs v us Q I rx rv ⟨W,dx,ds,ok,r,rs,bs,b,rfl,rfl,q⟩;obtain⟨y,rfl,ry⟩:=rs.one;cases ry;obtain⟨u,rfl,ru⟩:=eN rv;obtain rfl:u=Value.bool b:=ru;cases r with
 | @lst a xs ds e1 rr=>
  cases rx;obtain⟨its,rvs,pl,hz⟩:=I.list (SqL.of (ok.g _ _ e1));have hits:=Ca rr rvs;subst hits;obtain⟨⟨cls,dd,data,sl⟩,ho,hc,n,hd⟩:=pl.isList;simp only at hc hd;subst hc hd;refine call_meets PySem.F.slot_list_count ⟨_,ho,rfl⟩ PySem.F.entry_list_count (PySem.F.args_list_count_2 _ _) (SeqAt.list_countAt a _ n dd sl (.bool b) (isBoolOf b)) ⟨ho,λy hy=>?_,?_⟩
  .have hy':y∈bs.map Value.bool:=by simpa using hy
   obtain⟨c,_,rfl⟩:=YbU.mp hy';exact PySem.SeqAt.EqAt.bool_bool c b
  .rw[show((bs.map Value.bool).toArray.toList)=bs.map Value.bool from rfl,Fz]
   exact⟨.int _,H,I.tok _,⟨_,rfl⟩,q.now ok (.int _)⟩
theorem Ks:B7 X "list.index" B9:=by
 refine⟨⟨λx vs H Q=>∃W dx ds,WOk W H/\Rep X.K W x dx/\Reps X.K W vs ds/\B9 dx ds (RQ X.K W H Q),?_,λW H x vs dx ds Q ok r rs hg=>⟨W,dx,ds,ok,r,rs,hg⟩⟩,λdx ds P ⟨bs,b,j,h,_⟩=>⟨_,h⟩,λx ds P P' hp ⟨bs,b,j,h1,h2,h3,h4,h5⟩=>⟨bs,b,j,h1,h2,h3,h4,hp _ h5⟩⟩;rintro pins s σ H x vs v us Q I rx rv ⟨W,dx,ds,ok,r,rs,bs,b,j,rfl,rfl,hj,hno,q⟩;obtain⟨y,rfl,ry⟩:=rs.one;cases ry;obtain⟨u,rfl,ru⟩:=eN rv;obtain rfl:u=Value.bool b:=ru;cases r with
 | @lst a xs ds e1 rr=>
  cases rx;obtain⟨its,rvs,pl,hz⟩:=I.list (SqL.of (ok.g _ _ e1));have hits:=Ca rr rvs;subst hits;have hlen:xs.length=bs.length:=by rw[rr.length];unfold zu;rw[bP]
  obtain⟨⟨cls,dd,data,sl⟩,ho,hc,n,hd⟩:=pl.isList;simp only at hc hd;subst hc hd;have hjl:j<bs.length:=(Yar.mp hj).1;have hsz:((bs.map Value.bool).toArray).size=bs.length:=by simp
  refine call_meets PySem.F.slot_list_index ⟨_,ho,rfl⟩ PySem.F.entry_list_index (PySem.F.args_list_index_2 _ _) (SeqAt.list_indexAt a _ n dd sl (.bool b) (isBoolOf b) j (by rw[hsz];exact hjl) ?_ ?_ ?_) ⟨ho,λy hy=>?_,?_⟩
  .rw[sizeLine_eq] at hz
   have:bs.length<=2^62:=by first|(have:=hz;simp at this;omega)|omega
   have:=hjl;omega
  .have:=(Yar.mp hj).2
   simp only[List.getElem_toArray,List.getElem_map,isBoolOf];rw[this];simp
  .intro m hm hlt
   have hm':m<bs.length:=by rw[hsz] at hm;exact hm
   have:=hno m hlt;rw[bR hm'] at this;simp only[List.getElem_toArray,List.getElem_map,isBoolOf];exact Bool.eq_false_iff.mpr λz=>this (by rw[beq_iff_eq.mp z])
  .have hy':y∈bs.map Value.bool:=by simpa using hy
   obtain⟨c,_,rfl⟩:=YbU.mp hy';exact PySem.SeqAt.EqAt.bool_bool c b
  .exact⟨.int _,H,I.tok _,⟨_,rfl⟩,q.now ok (.int _)⟩
end
section
def ZdB:G2:=λx y Q=>match x,y with
 |.tup xs,.int k=>k<1000/\-1000<k/\xs.length*k.toNat<=aO/\Q (.tup (List.replicate k.toNat xs).flatten)
 |_,_=>False
theorem ZdB.mono:∀x y P P',(∀d,P d->P' d)->ZdB x y P->ZdB x y P':=λx y P P' hp hg=>by
 unfold ZdB at hg ⊢;split at hg
 .exact⟨hg.1,hg.2.1,hg.2.2.1,hp _ hg.2.2.2⟩
 .exact hg.elim
theorem Cb:fT X (binaryOp .Mult) ZdB:=by
 refine⟨⟨_,Je,λW H x y dx dy Q ok rx ry hg=>?_⟩,ZdB.mono⟩;unfold ZdB at hg;split at hg
 .obtain⟨p,vs,rfl,h1,r1⟩:=rx.sqt ok
  cases ry;rename_i xs k;refine⟨p,k,vs,rfl,rfl,h1,by omega,by omega,by rw[r1.length];exact nQ hg.2.2.1,λe=>?_,λa ha=>hg.2.2.2.tup ok (BH r1 _) ha⟩;have e':(List.replicate k.toNat xs).flatten=xs:=by
   rcases e with e|e
   .subst e;cases r1;simp
   .subst e;simp
  have q:=hg.2.2.2;rw[e'] at q;exact q.now ok rx
 .exact hg.elim
end
section
theorem Kt:PX X EX (.Dict [] [] pos) (wC .dic):=by
 refine⟨⟨_,Jg,λW0 H0 W σ H ρ E Q s eo h p hp=>?_⟩,λE ρ P P' hp h=>hp _ h⟩;exact h (.ref p) (W.put p (.dK [])) _ (Ext.put s.ok hp) (.dic (by unfold Wd.put;dsimp only;rw[aL]))
def its(js:List Int):List D:=js.map .int
def gIn(neg:Bool):G2:=λx y Q=>∃i js,x=.int i/\(y=.lst (its js)\/y=.tup (its js))/\Q (.bl (if neg then !js.contains i else js.contains i))
theorem gIn.mono{neg:Bool}:∀x y P P',(∀d,P d->P' d)->gIn neg x y P->gIn neg x y P':=λx y P P' hp ⟨i,js,h1,h2,h3⟩=>⟨i,js,h1,h2,hp _ h3⟩
theorem Cc{K:N4}{W:Wd}:∀{js:List Int} {vs:List V},Reps K W vs (its js)->vs=js.map V.int
 |[],_,.nil=>rfl
 |j::js,_,.cons r t=>by cases r;rw[Cc t];rfl
theorem Cd(i:Int):∀js:List Int,yQ (.int i) (js.map V.int)=js.contains i
 |[]=>rfl
 |j::js=>by
  have ih:=Cd i js;unfold yQ at ih ⊢;rw[da,yu,ih,tU];congr 1;show(j==i)=(i==j)
  rw[kE,Oy,Oy];exact⟨Eq.symm,Eq.symm⟩
def Ce:∀js:List Int,(js.map V.int).all eX=true
 |[]=>rfl
 |j::js=>by rw[da,yt,Ce js];rfl
theorem wW{neg:Bool}{W:Wd}{x y:V}{dx dy:D}{Q:VK}(ok:WOk W H)(rx:Rep X.K W x dx)(ry:Rep X.K W y dy)(hg:gIn neg dx dy (RQ X.K W H Q)):Ei X.K neg x y H Q:=by
 obtain⟨i,js,rfl,h,q⟩:=hg;cases rx;rcases h with rfl|rfl
 .obtain⟨p,vs,rfl,h1,r1⟩:=ry.sql ok
  obtain rfl:=Cc r1;exact⟨p,_,rfl,.inl h1,rfl,Ce js,by rw[Cd];exact q.now ok (.bl _)⟩
 .obtain⟨p,vs,rfl,h1,r1⟩:=ry.sqt ok
  obtain rfl:=Cc r1;exact⟨p,_,rfl,.inr h1,rfl,Ce js,by rw[Cd];exact q.now ok (.bl _)⟩
theorem wX:fT X (compareOp .NotIn) (gIn true):=⟨⟨_,iP,λW H x y dx dy Q ok rx ry hg=>wW ok rx ry hg⟩,gIn.mono⟩
def ZpF:List D->(D->Prop)->Prop:=λds Q=>∃x p,ds=[x]/\g6 x=some p/\p.showable=true/\p.hasDict=false/\p.depth<=32/\p.shown.length<=sizeLine/\Q (.str p.shown)
theorem ZpF.mono:∀ds P P',(∀d,P d->P' d)->ZpF ds P->ZpF ds P':=λds P P' hp ⟨x,p,h1,h2,h3,h4,h5,h6,h7⟩=>⟨x,p,h1,h2,h3,h4,h5,h6,hp _ h7⟩
end
abbrev Ziq:List Str:=["thing"]
def FA:WS:=(aM (gC (wB gIs (aC (wN 0) (aC (wC (.ty "int")) aA))) (kf (wB gIs (aC (wN 0) (aC (wC (.ty "bool")) aA))))))
abbrev ZhE:List Str:=["thing", "least", "most"]
def FC:WS:=(aM (gC (wF uh (aC (wN 0) aA)) (Zbj ku ku (wN 1) (wN 0) (wN 2))))
abbrev Zgy:List Str:=["thing", "least", "most"]
def FD:WS:=(aM (gC (wB gIs (aC (wN 0) (aC (wC (.ty "tuple")) aA))) (wB kq (aC (wL (aLC (iS (wN 0)) 1 [1,2] (gN 0) dL (wF wO (aC (wN 0) (aC (wN 1) (aC (wN 2) aA)))))) aA))))
abbrev Zd5:List Str:=["one", "other"]
def FE:WS:=(aI (bJ (BN (wT (w2 (gEq true) (wN 1) (wC (D.int (0))))) (eK 0 1 (aC (wN 1) (aC (w2 qt (wN 0) (wN 1)) aA))))) (aM (wB iY (aC (wN 0) aA))))
abbrev Zir:List Str:=["thing", "top", "bottom"]
def FF:WS:=(aI (cL (gB (bW (wT (wB gIs (aC (wN 0) (aC (wC (.ty "tuple")) aA))))) (wT (w2 (gEq true) (wB bX (aC (wN 0) aA)) (wC (D.int (2)))))) (aM (wC (D.bl false))) cO) (aI (eJ (wN 0) (e7 2 (dC (gN 1) (dC (gN 2) fq)))) (aI (cL (gB (bW (wT (wF uh (aC (wN 1) aA)))) (bW (wT (wF uh (aC (wN 2) aA))))) (aM (wC (D.bl false))) cO) (aM (gC (w2 wH (wN 2) (wC (D.int (0)))) (w2 (gEq false) (wF zm (aC (wN 1) (aC (wN 2) aA))) (wC (D.int (1)))))))))
abbrev Zew:List Str:=["thing", "least", "most"]
def FG:WS:=(aI (cL (gB (bW (wT (wB gIs (aC (wN 0) (aC (wC (.ty "tuple")) aA))))) (bW (wT (Zbj ku ku (wN 1) (wB bX (aC (wN 0) aA)) (wN 2))))) (aM (wC (D.bl false))) cO) (aM (wB kq (aC (wL (aLC (iS (wN 0)) 1 [] (gN 0) dL (wF BY (aC (wN 0) aA)))) aA))))
abbrev ZlF:List Str:=["thing", "many"]
def FH:WS:=(aM (wF zn (aC (wN 0) (aC (wN 1) (aC (wN 1) aA)))))
abbrev Zin:List Str:=["top", "bottom", "divisor"]
def FI:WS:=(aI (kO (wT (w2 (gEq true) (wN 1) (wC (D.int (0)))))) (aI (aR 2 (wF zm (aC (wN 0) (aC (wN 1) aA)))) (aI (cL (wT (w2 tu (wN 1) (wC (D.int (0))))) (aR 2 (w1 ff (wN 2))) cO) (aM (aZ (aC (w2 fc (wN 0) (wN 2)) (aC (w2 fc (wN 1) (wN 2)) aA)))))))
abbrev ZoR:List Str:=["one", "other"]
def FJ:WS:=(aM (wF tx (aC (w2 gAdd (w2 gMul (w2 gIx (wN 0) (wC (D.int (0)))) (w2 gIx (wN 1) (wC (D.int (1))))) (w2 gMul (w2 gIx (wN 1) (wC (D.int (0)))) (w2 gIx (wN 0) (wC (D.int (1)))))) (aC (w2 gMul (w2 gIx (wN 0) (wC (D.int (1)))) (w2 gIx (wN 1) (wC (D.int (1))))) aA))))
abbrev Zny:List Str:=["one", "other"]
def FK:WS:=(aM (wF tx (aC (w2 gMul (w2 gIx (wN 0) (wC (D.int (0)))) (w2 gIx (wN 1) (wC (D.int (0))))) (aC (w2 gMul (w2 gIx (wN 0) (wC (D.int (1)))) (w2 gIx (wN 1) (wC (D.int (1))))) aA))))
abbrev ZlC:List Str:=["numbers"]
def FM:WS:=(aM (wB jM (aC (wL (aLC (iS (wN 0)) 1 [] (gN 0) dL (aZ (aC (wN 0) (aC (wC (D.int (1))) aA))))) aA)))
abbrev ZdF:List Str:=["one", "other", "total", "left", "right"]
def FN:WS:=(aI (aR 2 (wC (D.tup [(D.int (0)),(D.int (1))]))) (aI (bJ (bN (iZ (aC (wN 0) (aC (wN 1) aA))) (e7 2 (dC (gN 3) (dC (gN 4) fq))) (aR 2 (wF wP (aC (wN 2) (aC (wF rc (aC (wN 3) (aC (wN 4) aA))) aA)))))) (aM (wN 2))))
abbrev Zj1:List Str:=["slants"]
def FO:WS:=(aM (w2 fc (w2 gAdd (wB bX (aC (wN 0) aA)) (wC (D.int (1)))) (wC (D.int (2)))))
abbrev ZfO:List Str:=["thing"]
def FP:WS:=(aI (cL (gB (bW (wT (wF zk (aC (wN 0) (aC (wC (.int (-50))) (aC (wC (.int (50))) aA)))))) (wT (w2 (gEq false) (w2 qt (wB bX (aC (wN 0) aA)) (wC (D.int (2)))) (wC (D.int (0)))))) (aM (wC (D.bl false))) cO) (aM (w2 ku (wF kQ (aC (wN 0) aA)) (wC (.int (5))))))
abbrev ZfQ:List Str:=["thing"]
def FQ:WS:=(cL (bW (wT (wF wR (aC (wN 0) aA)))) (iu (PySem.Str.ofString "NoSlants")) cO)
abbrev Zim:List Str:=["slants", "size"]
def FR:WS:=(aI (fQ (wF qw (aC (wN 0) aA))) (aI (aR 1 (wF kQ (aC (wN 0) aA))) (aM (wL (aLC (gh (aC (wN 1) aA)) 1 [0,1] (gN 0) dL (wL (aB (fW (α:=Unit)) (aC (bU (wN 1) (dJ (w2 fH (w2 fH (wN 2) (wC (D.int (1)))) (wN 0))) (dJ (w2 fH (w2 fH (w2 gMul (wC (D.int (2))) (wN 2)) (wC (D.int (1)))) (wN 0)))) aA))))))))
abbrev ZlG:List Str:=["slants", "size", "whole_size"]
def FS:WS:=(aI (fQ (wF qw (aC (wN 0) aA))) (aI (aR 2 (wF kQ (aC (wN 0) aA))) (aI (cL (bW (wT (wF wO (aC (wN 1) (aC (wC (D.int (1))) (aC (wN 2) aA)))))) (iu (PySem.Str.ofString "NoNumber")) cO) (aM (bU (wN 0) (dJ (w2 fH (wN 2) (wN 1))) (dJ (w2 fH (w2 gAdd (wN 2) (wN 1)) (wC (D.int (1))))))))))
abbrev Zip:List Str:=["slants", "thing"]
def Zi:WS:=(aI (fQ (wF qw (aC (wN 0) aA))) (aM (wF zp (aC (wN 1) (aC (wF kQ (aC (wN 0) aA)) aA)))))
abbrev Zgv:List Str:=["slants"]
def FT:WS:=(aM (wL (aLC (iS (wF wS (aC (wN 0) aA))) 1 [] (gN 0) dL (wF tz (aC (wN 0) aA)))))
abbrev ZhC:List Str:=["slants", "row"]
def FU:WS:=(aI (cL (bW (wT (wF uj (aC (wN 0) (aC (wN 1) aA))))) (iu (PySem.Str.ofString "NoRow")) cO) (aM (wB jM (aC (wL (aLC (iS (wF zt (aC (wN 0) aA))) 1 [1] (gN 0) dL (wF zq (aC (wN 0) (aC (wN 1) aA))))) aA))))
local macro_rules | `(tactic| walk_at "wp")=>`(tactic| simp only[aM,aI,cL,aR,cO,fQ,de,cH,bN,kO,eK,eJ,cS,ir,eR,l6,bJ,iu,gC,fU,kf,eY,gB,bW,wT,jK,w1,w2,wB,wF,wL,aZ,bU,Zbj,aB,bL,aC,aA,aLC,ZbT,dL,iS,iL,iT,gh,gP,iZ,i1,i2,isS,isL,isT,isB,isI,eZ,dJ,wN,wC,gN,e7,dC,fq,gI2,gAdd,gMul,gIx,dU,gCut,gRev,bX,fW,jM,iY,km,gD,lH,fb,dD,eQ,df,dE,eL,e9,aCut,dS,pub,da,h8,dQ,jm,ic,fw,List.replicate,dO,fN,List.set_cons_zero,List.set_cons_succ,Nat.reduceSub,Nat.reduceAdd,gp,lR,true_and,eG,if_true,if_false,ite_true,ite_false])
local macro_rules | `(tactic| walk_at "go")=>`(tactic| ((try dsimp only at *);(try walk_at "wp");(try dsimp only)))
theorem tF{x:D}{T:String}(h:kd x=true)(hT:T∈y9)(q:∀t,y8 x=some t->Q (.bl (jy t T))):gIs [x,.ty T] Q:=by
 obtain⟨t,ht⟩:=wJ h;exact⟨t,ht,hT,q t ht⟩
theorem FV:Rd uh FA Ziq:=by
 rintro _ E Q ⟨x,rfl,hk,q⟩;unfold FA;walk_at "wp";refine tF hk (by decide) λt ht=>?_;cases x<;>cases ht<;>first
  |exact q
  |exact tF hk (by decide) λt ht=>by cases ht;exact q
theorem Ku:Rd wO FC ZhE:=by
 rintro _ E Q ⟨⟨x,l,m⟩,rfl,hk,q⟩;unfold FC;walk_at "go";refine⟨x,rfl,hk,?_⟩;cases x<;>try exact q
 rename_i i;simp only[nU,isB,if_true,gI2,true_and]
 by_cases h:l<=i
 .simp only[h,decide_true,if_true]
  simpa[gF,h] using q
 .simp only[h,decide_false,if_false,eG]
  simpa[gF,h] using q
theorem Kv:Rd zk FD Zgy:=by
 rintro _ E Q ⟨⟨x,l,m⟩,rfl,hk,q⟩;unfold FD;walk_at "go";refine tF hk (by decide) λt ht=>?_;cases x<;>cases ht<;>try exact q
 rename_i xs;obtain⟨hl,hx⟩:=qu hk;show lcW _ _ _ xs _ _ _;refine uf (f:=λd=>.bl (gF l m d)) (λd hd Q hq=>?_) .un [] (by simp[aO];omega) ?_
 .walk_at "go"
  exact⟨(d,l,m),rfl,hx d hd,hq⟩
 .refine⟨xs.map (gF l m),by simp,?_⟩
  simpa[List.all_map,Function.comp_def,lK] using q
theorem FW(a b:Int):Int.gcd b (a.fmod b)=Int.gcd a b:=by
 have e:a.fmod b=a-b*a.fdiv b:=by have:=Int.mul_fdiv_add_fmod a b;omega
 rw[e,Int.gcd_sub_mul_left_right,Int.gcd_comm]
theorem FX(a:Int){b:Int}(h:b≠0):(a.fmod b).natAbs<b.natAbs:=by
 have key:∀a b:Int,0<b->0<=a.fmod b/\a.fmod b<b:=λa b z=>by
  rw[AA _ (Int.le_of_lt z)];exact⟨Int.emod_nonneg _ (by omega),Int.emod_lt_of_pos _ z⟩
 rcases Int.lt_or_lt_of_ne h with z|z
 .have h1:=key (-a) (-b) (by omega)
  rw[Int.neg_fmod_neg] at h1;omega
 .have h1:=key a b z
  omega
theorem Kw:Rd zm FE Zd5:=by
 rintro _ E Q ⟨⟨a,b⟩,rfl,_,q⟩;unfold FE;walk_at "go";refine⟨λm ρ=>∃x y:Int,m=y.natAbs/\ρ=[.d (.int x),.d (.int y)]/\Int.gcd x y=Int.gcd a b,⟨_,a,b,rfl,rfl,rfl⟩,?_⟩;rintro m _ ⟨x,y,rfl,rfl,hg⟩;walk_at "go"
 by_cases hy:y=0
 .subst hy
  simp only[Oj,gu,eG,if_false];rw[Int.gcd_zero_right] at hg;rw[<-hg] at q;have:(if x<0 then -x else x)=((x.natAbs:Nat):Int):=by split<;>omega
  rw[this];exact q
 .rw[if_pos (by simpa using hy)]
  exact⟨hy,_,FX x hy,_,_,rfl,rfl,by rw[FW];exact hg⟩
theorem Kx(h:xs.length≠2):dM (.tup xs)=false:=by
 unfold dM;split
 .rename_i e
  cases e;exact N6 rfl h
 .rfl
theorem Ky{a b:D}(h:nU a=false):dM (.tup [a,b])=false:=by
 unfold dM;split
 .rename_i e
  cases e;cases h
 .rfl
theorem Kz{a b:D}(h:nU b=false):dM (.tup [a,b])=false:=by
 unfold dM;split
 .rename_i e
  cases e;cases h
 .rfl
def Cf{a:D}(h:nU a=true):∃i,a=.int i:=by
 cases a<;>first
  |exact⟨_,rfl⟩
  |cases h
theorem KA:Rd BY FF Zir:=by
 rintro _ E Q ⟨x,rfl,hk,q⟩;unfold FF;walk_at "go";refine tF hk (by decide) λt ht=>?_;cases x<;>cases ht<;>try exact q
 rename_i xs;obtain⟨hl,hx⟩:=qu hk;walk_at "go";simp only[show jy "tuple" "tuple" = true from rfl,gu,eG,if_false]
 by_cases h2:xs.length=2
 .match xs,h2,hx,q with
  |[a,b],_,hx,q=>
  rw[if_neg (by simp)];walk_at "go";refine⟨a,rfl,hx a (by simp),?_⟩;walk_at "go";cases ha:nU a with
  |false=>rw[Ky ha] at q;exact q
  |true=>
   obtain⟨i,rfl⟩:=Cf ha;simp only[gu,eG,if_false];refine⟨b,rfl,hx b (by simp),?_⟩;walk_at "go";cases hb:nU b with
   |false=>rw[Kz hb] at q;exact q
   |true=>
    obtain⟨j,rfl⟩:=Cf hb;simp only[gu,eG,if_false];walk_at "go"
    by_cases h:0<j
    .simp only[show j>0 from h,decide_true,if_true]
     refine⟨(i,j),rfl,trivial,?_⟩;walk_at "go";have:dM (.tup [.int i,.int j])=(((Int.gcd i j:Nat):Int)==1):=by
      simp only[dM,h,decide_true,tX];rw[kE];simp;omega
     rw[this] at q;simpa using q
    .have h':¬j>0:=h
     simp only[h',decide_false,if_false,eG];simpa[dM,h] using q
 .rw[Kx h2] at q
  rw[if_pos (by simpa using λz=>h2 (by exact_mod_cast z))];exact q
theorem KB:Rd zn FG Zew:=by
 rintro _ E Q ⟨⟨x,l,m⟩,rfl,hk,q⟩;unfold FG;walk_at "go";refine tF hk (by decide) λt ht=>?_;cases x<;>cases ht<;>try exact q
 rename_i xs;obtain⟨hl,hx⟩:=qu hk;walk_at "go";simp only[show jy "tuple" "tuple" = true from rfl,gu,eG,if_false];simp only[wK] at q;cases h1:decide (l<=(xs.length:Int)) with
 |false=>rw[h1] at q;simpa using q
 |true=>
  cases h2:decide ((xs.length:Int)<=m) with
  |false=>rw[h1,h2] at q;simpa using q
  |true=>
   simp only[if_true,gu,eG,if_false];walk_at "go";refine uf (f:=λd=>.bl (dM d)) (λd hd Q hq=>?_) .un [] (by simp[aO];omega) ?_
   .walk_at "go"
    exact⟨d,rfl,hx d hd,hq⟩
   .refine⟨xs.map dM,by simp,?_⟩
    rw[h1,h2] at q;simpa[List.all_map,Function.comp_def] using q
theorem KC(n:Int)(x:D):wK n n x=jN n x:=by
 cases x<;>try rfl
 rename_i xs;simp only[wK,jN];congr 1;rw[kE];simp;omega
theorem KD:Rd zp FH ZlF:=by
 rintro _ E Q ⟨⟨x,n⟩,rfl,hk,q⟩;unfold FH;walk_at "go";refine Ke hk ?_;rw[KC];exact q
def Bd.le{i j:Int}(h:i.natAbs<=j.natAbs)(b:Bd j):Bd i:=pG h b
theorem KG:Rd tx FI Zin:=by
 rintro _ E Q ⟨⟨t,b⟩,rfl,⟨hb,hd⟩,q⟩;unfold FI;walk_at "go";refine⟨by simpa using hb,(t,b),rfl,trivial,?_⟩;walk_at "go";have hg:0<Int.gcd t b:=Az _ hb;have hle:Int.gcd t b<=b.natAbs:=Nat.le_of_dvd (by omega) (Int.gcd_dvd_natAbs_right ..);obtain⟨e1,e2⟩:=Fg (t:=t) hb;unfold shq at q;rw[<-e1,<-e2] at q
 by_cases h:b<0
 .simp only[h,decide_true,if_true] at q ⊢
  refine⟨⟨by omega,Bd.le (by omega) hd⟩,⟨by omega,Bd.le (by omega) hd⟩,by simp[aO],q⟩
 .simp only[h,decide_false,if_false,eG] at q ⊢
  refine⟨⟨by omega,Bd.le (by omega) hd⟩,⟨by omega,Bd.le (by omega) hd⟩,by simp[aO],q⟩
def rg(h:Q (.int q.num)):gIx (shq q) (.int 0) Q:=⟨_,rfl,h⟩
def fY(h:Q (.int q.den)):gIx (shq q) (.int 1) Q:=⟨_,rfl,h⟩
theorem FY:Rd wP FJ ZoR:=by
 rintro _ E Q ⟨⟨p,q⟩,rfl,hb,h⟩;obtain⟨b1,b2,b3,b4,b5,b6,b7,b8⟩:=hb.mul;unfold FJ;simp only[aM,wF,aC,w2,wN,wC,dS,da,ic,dO,fN];refine rg (fY ⟨b1,rg (fY ⟨b2,fY (fY ⟨b3,?_⟩)⟩)⟩);refine⟨(_,_),rfl,⟨b6,b5⟩,?_⟩;dsimp only at h ⊢;have e:Rat.divInt (p.num*q.den+q.num*p.den) ((p.den:Int)*q.den)=p+q:=by
  rw[Rat.add_def',<-AB];rfl
 rw[e];exact h
theorem FZ:Rd rc FK Zny:=by
 rintro _ E Q ⟨⟨p,q⟩,rfl,hb,h⟩;obtain⟨b1,b2,b3,b4,b5,b6,b7,b8⟩:=hb.mul;unfold FK;simp only[aM,wF,aC,w2,wN,wC,dS,da,ic,dO,fN];refine rg (rg ⟨b4,fY (fY ⟨b3,?_⟩)⟩);refine⟨(_,_),rfl,⟨b6,b5⟩,?_⟩;dsimp only at h ⊢;have e:Rat.divInt (p.num*q.num) ((p.den:Int)*q.den)=p*q:=by
  rw[Rat.mul_def',<-AB];rfl
 rw[e];exact h
def KH{b:Bool}{Q:List D->Prop}(h:Q xs):isS Q (lL b xs):=by cases b<;>exact h
def Cg(i:Int):shq (i:Rat)=.tup [.int i,.int 1]:=by unfold shq;rw[yx,yy];rfl
theorem KI:Rd tz FM ZlC:=by
 rintro _ E Q ⟨⟨b,xs⟩,rfl,hl,q⟩;dsimp only at hl q;unfold FM;simp only[aM,wB,aC,aA,wL,aLC,iS,wN,dS,ZbT,List.replicate,da,h8,ic,fw,dO];refine KH (uf (f:=λd=>.tup [d,.int 1]) (λd hd Q hq=>?_) .un [] (by simp[aO];omega) ?_)
 .walk_at "go"
  exact⟨by simp[aO],hq⟩
 .have e:(xs.map D.int).map (λd=>D.tup [d,.int 1])=(xs.map λ(i:Int)=>(i:Rat)).map shq:=by
   rw[dR,dR];exact ia λi _=>(Cg i).symm
  rw[fw,e];exact q
theorem KJ:Rd zq FN ZdF:=by
 rintro _ E Q ⟨⟨⟨b1,b2⟩,p,q⟩,rfl,⟨n,m,hp,hq,hb⟩,h⟩;dsimp only at hp hq hb h;unfold FN;simp only[aI,aR,wC,dS,da,h8,dQ,jm,ic,fw,List.replicate,List.set_cons_succ,List.set_cons_zero,bJ,bN,iZ,aC,aA,wN,dO,fN,Nat.reduceSub,Nat.reduceAdd];have key:∀(p' q':List Rat) (s:Rat) (sv sv':SV) (j:Nat),(∀x∈p',Sz n x)->(∀x∈q',Sz m x)->Sz (j*(n+m+1)+1) s->j+p'.length<=p.length->s+cY p' q'=cY p q->
   ZbS (e7 2 (dC (gN 3) (dC (gN 4) fq))) (aR 2 (wF wP (aC (wN 2) (aC (wF rc (aC (wN 3) (aC (wN 4) aA))) aA)))) No { nx:=aM (wN 2) E { nx:=λ_=>Q .non,rt:=Q },rt:=Q,bk:=λ_=>False,ct:=λ_=>False }
    (du (p'.map shq) (q'.map shq)) [.d (lL b1 (p.map shq)),.d (lL b2 (q.map shq)),.d (shq s),sv,sv']:=by
  intro p'
  induction p' with
  |nil=>
   intro q' s sv sv' j _ _ _ _ he;rw[cY,rL] at he;simp only[du,h8,List.zipWith_nil_left,ZbS];show Q (shq s);rw[he];exact h
  |cons x p' ih=>
   intro q' s sv sv' j h1 h2 h3 h4 he;cases q' with
   |nil=>
    rw[cY,rL] at he;simp only[du,h8,List.zipWith_nil_right,ZbS];show Q (shq s);rw[he];exact h
   |cons y q'=>
    have hx:=h1 x (by simp);have hy:=h2 y (by simp);rw[dQ] at h4;have hj:j*(n+m+1)<=p.length*(n+m+1):=qJ _ (by omega);have hj':(j+1)*(n+m+1)<=p.length*(n+m+1):=qJ _ (by omega);rw[qH] at hj';simp only[du,da,List.zipWith_cons_cons,ZbS];refine⟨rfl,?_⟩;simp only[dC,fq,gN,aR,wF,aC,aA,wN,dO,fN,List.set_cons_succ,List.set_cons_zero];refine⟨(x,y),rfl,B2.of hx hy (by omega),?_⟩;refine⟨(s,x*y),rfl,B2.of h3 (hx.mul hy) (by omega),?_⟩;refine ih q' (s+x*y) _ _ (j+1) (λz hz=>h1 z (by simp[hz])) (λz hz=>h2 z (by simp[hz])) ?_ (by omega) ?_
    .refine(h3.add (hx.mul hy)).mono ?_
     rw[qH];omega
    .rw[cY] at he
     rw[Rat.add_assoc];exact he
 have e0:D.tup [D.int 0,D.int 1]=shq 0:=rfl;rw[e0];have k:=key p q 0 .un .un 0 hp hq (Sz.zero (by omega)) (by omega) (Rat.zero_add _);cases b1<;>cases b2<;>exact k
theorem l8{α:Type}{we:WE}{tail:cQ}{Q:List D->Prop}{g f:α->D}:∀(L:List α),(∀a∈L,∀Q:D->Prop,Q (f a)->we No (.d (g a)::tail) Q)->∀(sv:SV) (acc:List D),acc.length+L.length<=aO->Q (acc++L.map f)->lcW (gN 0) dL we (L.map g) (sv::tail) acc Q
 |[],_,sv,acc,_,hq=>by simpa[lcW] using hq
 |a::L,h,sv,acc,hl,hq=>by
  rw[da,lcW];show we No (SV.d (g a)::tail) _;rw[dQ] at hl;refine h a (kW ..) _ ⟨by omega,l8 L (λd hd=>h d (i8 _ hd)) _ _ ?_ ?_⟩
  .rw[eu,lQ];omega
  .rw[nD];exact hq
theorem Ch{α:Type}{xs:List α}{i:Int}{x:α}(hi:i=k)(h:xs[k]? = some x):dw xs i=some x:=by rw[hi];exact bS h
theorem KK{α:Type}{xs:List α}{a:Nat}(h:a<=b)(hb:b<=xs.length):bA xs (some (a:Int)) (some (b:Int))=(xs.drop a).take (b-a):=by
 unfold bA;rw[HT.sIx_nat,HT.sIx_nat,nF hb,nF (f8 h hb)]
theorem Ci{α:Type}{xs:List α}{i j:Int}{a:Nat}(hi:i=a)(hj:j=b)(h:a<=b)(hb:b<=xs.length):bA xs (some i) (some j)=(xs.drop a).take (b-a):=by
 rw[hi,hj];exact KK h hb
theorem F1{α:Type}{xs:List α}{a:Nat}(h:a<=xs.length):bA xs (some (a:Int)) none=xs.drop a:=by
 unfold bA;rw[HT.sIx_nat,HT.sIx_none,nF h,<-ja,List.take_length]
theorem zw{α:Type}{xs:List α}{i:Int}(hi:i=b):bA xs none (some i)=xs.take b:=by
 unfold bA;rw[hi,HT.sIx_nat,HT.sIx_none,qI,Nat.sub_zero];rcases Nat.le_total b xs.length with h|h
 .rw[nF h]
 .rw[Nat.min_eq_right h,List.take_length,yC h]
def kR{i:Int}(h:i.natAbs<2^n)(l:n<=8990):Bd i:=cW h (jH (by decide) l)
theorem KM:Rd kQ FO Zj1:=by
 rintro _ E Q ⟨x,rfl,hl,q⟩;unfold FO;walk_at "go";refine⟨⟨by decide,kR (n:=2) (by decide) (by omega)⟩,?_⟩;rw[uV _ (by decide)];exact q
theorem KN:Rd wR FP ZfO:=by
 rintro _ E Q ⟨x,rfl,hk,q⟩;unfold FP;walk_at "go";refine Kd hk ?_;walk_at "go";cases ha:lK (-50) 50 x with
 |false=>
  have:fg x=false:=by
   cases x<;>try rfl
   simp only[lK] at ha;simp only[fg,ha,Bool.false_and]
  rw[this] at q;simpa using q
 |true=>
  cases x<;>try (cases ha;done)
  rename_i xs;obtain⟨hl,hx⟩:=qu hk;walk_at "go";simp only[gu,eG,if_false];refine⟨by decide,?_⟩;simp only[lK] at ha;simp only[fg,ha,tX] at q;rw[AA _ (by decide)]
  by_cases h:xs.length%2=1
  .rw[if_neg (by simp;omega)]
   walk_at "go";refine Fq hl ?_;walk_at "go";rw[N9 h,tX] at q;have e:decide (((xs.length:Int)+1)/2<=5)=decide (xs.length<=9):=by
    rw[decide_eq_decide];omega
   rw[e];exact q
  .rw[if_pos (by simp;omega)]
   rw[Ol h,Bool.false_and] at q;exact q
theorem KO:Rd qw FQ ZfQ:=by
 rintro _ E Q ⟨x,rfl,h,q⟩;unfold FQ;walk_at "go";refine Ki h ?_;walk_at "go";unfold gQ at q;cases e:fg x with
 |false=>rw[e] at q;exact q
 |true=>rw[e] at q;exact q
theorem Cj{x:D}{E:Ex->Prop}(h:kd x=true)(hb:fg x=false->E "NoSlants")(hg:∀s n,x=aN s->IsSl s n->Q .non):qw [x] E Q:=by
 cases e:fg x with
 |false=>exact Fu h e (hb e)
 |true=>
  obtain⟨s,n,rfl,hs⟩:=nV e;exact Ft hs (hg s n rfl hs)
theorem m6{x:D}{E:Ex->Prop}(e:fg x=false)(q:exQ E Q (gQ x v)):E "NoSlants" :=by
 rw[l7 e] at q;exact q
def m7{E:Ex->Prop}(h:IsSl s n)(q:exQ E Q (gQ (aN s) v)):exQ E Q v:=by
 rw[jO h] at q;exact q
theorem KP:Rd wS FR Zim:=by
 rintro _ E Q ⟨x,rfl,hk,q⟩;unfold FR;walk_at "go";refine Cj hk (λe=>m6 e q) λs n e h=>?_;subst e;replace q:Q (i6 s n):=by have:=m7 h q;rw[fX,h.sN] at this;exact this
 refine qx h ?_;walk_at "go";have h5:=h.n5;have hl:=h.len;refine⟨by omega,by omega,?_⟩;rw[jF];refine uf (f:=λd=>match d with|.int i=>dP ((s.drop (n-1-i.toNat)).take n)|_=>.non) (λd hd Q hq=>?_) .un [] (by simp[rng,aO];omega) ?_
 .obtain⟨i,hi,rfl⟩:=YbU.mp hd
  rw[Yah] at hi;walk_at "go";refine⟨⟨kR (n:=2) (by decide) (by omega),kR (n:=10) (by omega) (by omega)⟩,?_⟩;have e:bA (s.map D.int) (some ((n:Int)-1-(0+(i:Int)))) (some (2*(n:Int)-1-(0+(i:Int))))=((s.drop (n-1-i)).take n).map D.int:=by
   rw[Ci (a:=n-1-i) (b:=2*n-1-i) (by omega) (by omega) (by omega) (by rw[bP];omega),show 2*n-1-i-(n-1-i)=n by omega,<-pH,<-mr]
  show Q (D.lst (bA (s.map D.int) _ _));rw[e];have e2:(0+(i:Int)).toNat=i:=by omega
  rw[e2] at hq;exact hq
 .have e:(rng 0 n).map (λd=>match d with|.int i=>dP ((s.drop (n-1-i.toNat)).take n)|_=>.non)=(tbl s n).map dP:=by
   unfold rng tbl;rw[dR,dR];refine ia λi _=>?_;simp
  rw[fw,e];exact q
def jP(s:List Int)(n:Nat):(tbl s n).length=n:=by simp[tbl]
theorem m8(h:IsSl s n):∀r∈tbl s n,r.length=n/\∀x∈r,-50<=x/\x<=50:=by
 intro r hr;unfold tbl at hr;obtain⟨i,hi,rfl⟩:=YbU.mp hr;rw[Yah] at hi;have hl:=h.len;refine⟨by rw[gT,ja];omega,λx hx=>h.b x (k6 (pI hx))⟩
theorem KQ:Rd mY FS ZlG:=by
 rintro _ E Q ⟨⟨x,k⟩,rfl,⟨hk,hk2⟩,q⟩;dsimp only at hk hk2 q;unfold FS;walk_at "go";refine Cj hk (λe=>m6 e q) λs n e h=>?_;subst e;replace q:=m7 h q;rw[h.sN,fX] at q;have hl:=h.len;refine qx h ?_;walk_at "go";refine Kc hk2 ?_;walk_at "go";cases e:gF 1 (n:Int) k with
 |false=>
  rw[e] at q;exact q
 |true=>
  rw[e] at q;have q:Q (aN (cor s n (ui k).toNat)):=q;obtain⟨i,rfl⟩:∃i,k=.int i:=by cases k<;>first|exact⟨_,rfl⟩|cases e
  simp only[gF,cT,N7] at e;obtain⟨k,rfl⟩:∃k:Nat,i=k:=⟨i.toNat,by omega⟩
  simp only[gu,eG,if_false];unfold aN;walk_at "go";rw[Ci (a:=n-k) (b:=n+k-1) (by omega) (by omega) (by omega) (by rw[bP];omega),show n+k-1-(n-k)=2*k-1 by omega,<-pH,<-mr];exact q
theorem KR:Rd uj Zi Zip:=by
 rintro _ E Q ⟨⟨x,y⟩,rfl,⟨hk,hk2⟩,q⟩;dsimp only at hk hk2 q;unfold Zi;walk_at "go";refine Cj hk (λe=>m6 e q) λs n e h=>?_;subst e;replace q:=m7 h q;rw[h.sN] at q;exact qx h (Kf hk2 q)
theorem KS:Rd zt FT Zgv:=by
 rintro _ E Q ⟨⟨s,n⟩,rfl,h,q⟩;have h5:=h.n5;unfold FT;walk_at "go";refine Fv h ?_;unfold i6;walk_at "go";refine uf (f:=λd=>match d with|.lst xs=>.tup (xs.map λx=>.tup [x,.int 1])|_=>.non) (λd hd Q hq=>?_) .un [] (by simp[jP,aO];omega) ?_
 .obtain⟨r,hr,rfl⟩:=YbU.mp hd
  walk_at "go";have:=(m8 h r hr).1;refine Fo (by omega) ?_;have e:aK (c8 r)=.tup ((r.map D.int).map λx=>.tup [x,.int 1]):=by
   unfold aK c8;rw[dR,dR];exact congrArg D.tup (ia λi _=>Cg i)
  rw[e];exact hq
 .have e:((tbl s n).map dP).map (λd=>match d with|.lst xs=>.tup (xs.map λx=>.tup [x,.int 1])|_=>.non)=(tbl s n).map λr=>aK (c8 r):=by
   rw[dR];refine ia λr _=>?_;unfold aK c8;simp only[Function.comp_apply,dP];rw[dR,dR];exact congrArg D.tup (ia λi _=>(Cg i).symm)
  rw[fw,e];exact q
def Ck{x:Int}(h:-50<=x/\x<=50):Sz 6 (x:Rat):=Sz.int x (by omega) (by omega)
theorem KU:Rd uk FU ZhC:=by
 rintro _ E Q ⟨⟨x,y⟩,rfl,⟨hk,hk2,hbs⟩,q⟩;dsimp only at hk hk2 hbs q;unfold FU;walk_at "go";cases e:fg x with
 |false=>exact Kn hk hk2 e (m6 e q)
 |true=>
 obtain⟨s,n,rfl,h⟩:=nV e;have h5:=h.n5;refine Fw h hk2 ?_;replace q:=m7 h q;rw[h.sN,fX] at q;walk_at "go";cases er:jN n y with
 |false=>rw[er] at q;exact q
 |true=>
 rw[er] at q;obtain⟨r,rfl,hl'⟩:=B3 er;have hl:r.length=n:=by omega
 have q:Q (aK (c9 s n (rQ (aK r)))):=q;rw[tD] at q;obtain⟨m,hm,hb⟩:=hbs r rfl;simp only[gu,eG,if_false];refine Ko h ?_;walk_at "go";have key:∀line∈tbl s n,BR (c8 line) r:=λline hline=>by
  obtain⟨h1,h2⟩:=m8 h line hline;refine⟨6,m,λx hx=>?_,hm,?_⟩
  .obtain⟨i,hi,rfl⟩:=YbU.mp hx
   exact Ck (h2 i hi)
  .have:(c8 line).length=n:=by unfold c8;rw[bP];exact h1
   rw[this];have:n*(6+m+1)<=5*(6+m+1):=qJ _ h5;omega
 refine l8 (g:=λline=>aK (c8 line)) (f:=λline=>shq (cY (c8 line) r)) (tbl s n) (λline hl' Q hq=>?_) .un [] (by simp[jP,aO];omega) ?_
 .walk_at "go"
  exact Kh (key line hl') hq
 .have e:(tbl s n).map (λline=>shq (cY (c8 line) r))=(c9 s n r).map shq:=by
   unfold c9;rw[dR];rfl
  rw[fw,e];exact q
def zx:bK:=fnS (λx:List Int×Nat=>[.scr (x.1.map .int),.int x.2]) (λ_=>True) λx=>.int (x.1.getD x.2 0)
def wY:bK:=rlS (λx:Int=>[.int x]) (λ_=>True) λ_ d=>∃j:Int,d=.int j
def uq:bK:=fnS (λx:Int=>[.int x]) (λ_=>True) λ_=>.pen
def kS:bK:=rlS (λm:Nat=>[.pen,.int m]) (λm=>0<m/\m<2^30) λm d=>∃k:Nat,d=.int k/\k<m
def wZ:bK:=tx
def zA:bK:=wP
def ur:bK:=rc
def w4:bK:=rlS (λ_:Unit=>[.pen]) (λ_=>True) λ_ d=>∃s n,IsSl s n/\d=aN s
section
variable{E:Ex->Prop}{x:D}{l m a b:Int}{p:Rat}
theorem KW{xs:List Int}(q:Q (.int (xs.getD i 0))):zx [.scr (xs.map .int),.int i] E Q:=⟨(xs,i),rfl,trivial,q⟩
theorem F3(q:∀j:Int,Q (.int j)):wY [.int a] E Q:=⟨a,rfl,trivial,λd ⟨j,hd⟩=>by rw[hd];exact q j⟩
def Cm(q:Q .pen):uq [.int a] E Q:=⟨a,rfl,trivial,q⟩
theorem m9(h:0<n)(h':n<2^30)(q:∀k:Nat,k<n->Q (.int k)):kS [.pen,.int n] E Q:=⟨n,rfl,⟨h,h'⟩,λd ⟨k,hd,hk⟩=>by rw[hd];exact q k hk⟩
def KY(h:B2 p q)(z:Q (shq (p+q))):zA [shq p,shq q] E Q:=⟨(p,q),rfl,h,z⟩
def Cn(h:B2 p q)(z:Q (shq (p*q))):ur [shq p,shq q] E Q:=⟨(p,q),rfl,h,z⟩
theorem F5(q:∀s n,IsSl s n->Q (aN s)):w4 [.pen] E Q:=⟨(),rfl,trivial,λd ⟨s,n,h,hd⟩=>by rw[hd];exact q s n h⟩
end
abbrev Ze4:List Str:=["_law_script", "_law_k"]
def F6:WS:=(aI (cL (wT (w2 tu (wN 1) (wB bX (aC (wN 0) aA)))) (aM (w2 gIx (wN 0) (wN 1))) cO) (aM (wC (D.int (0)))))
abbrev ZhJ:List Str:=["_law_seed"]
def F7:WS:=(aI (aR 0 (w2 qt (w2 gAdd (wN 0) (wC (D.int (7919)))) (wC (D.int (2147483647))))) (aM (w2 qt (w2 gAdd (w2 gAdd (w2 gMul (wN 0) (wN 0)) (w2 gMul (wC (D.int (48271))) (wN 0))) (wC (D.int (12345)))) (wC (D.int (2147483629))))))
abbrev ZfS:List Str:=["_law_cell", "_law_left"]
def F8:WS:=(aI (aR 1 (wB km (aC (wN 0) (aC (w2 fH (wC (D.int (0))) (wN 0)) aA)))) (aM (fb (bL (aC (wN 1) (aC (wB gD (aC (w2 BT (wN 1) (w2 E5 (wC (D.int (10))) (wC (D.int (18))))) aA)) (aC (w2 qt (wN 1) (wC (D.int (1000003)))) aA)))))))
abbrev ZhK:List Str:=["_law_pen", "_law_many", "_law_found"]
def F9:WS:=(aI (cL (wT (w2 (gEq false) (w2 dU (wN 0) (wC (D.int (1)))) (wC (D.int (1))))) (aI (aR 2 (w2 qt (w2 dU (wN 0) (wC (D.int (0)))) (wN 1))) (aI (eR 0 (w2 fc (w2 dU (wN 0) (wC (D.int (0)))) (wN 1))) (aM (wN 2)))) cO) (aI (eR 0 (wF wY (aC (w2 gAdd (wF wY (aC (w2 dU (wN 0) (wC (D.int (2)))) aA)) (wC (D.int (7)))) aA))) (aM (w2 qt (w2 fc (w2 dU (wN 0) (wC (D.int (2)))) (wC (D.int (64)))) (wN 1)))))
abbrev ZgC:List Str:=["_law_top", "_law_bottom", "_law_one", "_law_other"]
def Ga:WS:=(aI (eK 2 3 (aC (wB iY (aC (wN 0) aA)) (aC (wB iY (aC (wN 1) aA)) aA))) (aI (bJ (BN (wT (w2 (gEq true) (wN 3) (wC (D.int (0))))) (eK 2 3 (aC (wN 3) (aC (w2 qt (wN 2) (wN 3)) aA))))) (aI (cL (wT (w2 tu (wN 1) (wC (D.int (0))))) (aR 2 (w2 fH (wC (D.int (0))) (wN 2))) cO) (aM (aZ (aC (w2 fc (wN 0) (wN 2)) (aC (w2 fc (wN 1) (wN 2)) aA)))))))
abbrev Zis:List Str:=["_law_one", "_law_other"]
def KZ:WS:=(aM (wF wZ (aC (w2 gAdd (w2 gMul (w2 gIx (wN 0) (wC (D.int (0)))) (w2 gIx (wN 1) (wC (D.int (1))))) (w2 gMul (w2 gIx (wN 1) (wC (D.int (0)))) (w2 gIx (wN 0) (wC (D.int (1)))))) (aC (w2 gMul (w2 gIx (wN 0) (wC (D.int (1)))) (w2 gIx (wN 1) (wC (D.int (1))))) aA))))
abbrev ZgA:List Str:=["_law_one", "_law_other"]
def K0:WS:=(aM (wF wZ (aC (w2 gMul (w2 gIx (wN 0) (wC (D.int (0)))) (w2 gIx (wN 1) (wC (D.int (0))))) (aC (w2 gMul (w2 gIx (wN 0) (wC (D.int (1)))) (w2 gIx (wN 1) (wC (D.int (1))))) aA))))
abbrev Zd7:List Str:=["_law_pen", "_law_size", "_law_way", "_law_span", "_law_some"]
def Gb:WS:=(aI (aR 1 (w2 gAdd (wC (D.int (1))) (wF kS (aC (wN 0) (aC (wC (D.int (5))) aA))))) (aI (aR 2 (wF kS (aC (wN 0) (aC (wC (D.int (7))) aA)))) (aI (aR 3 (w2 gIx (wL (bL (aC (wC (D.int (1))) (aC (wC (D.int (2))) (aC (wC (D.int (3))) (aC (wC (D.int (50))) aA)))))) (wF kS (aC (wN 0) (aC (wC (D.int (4))) aA))))) (aI (cH 4 (aLC (gh (aC (w2 fH (w2 gMul (wC (D.int (2))) (wN 1)) (wC (D.int (1)))) aA)) 1 [0,3] (gN 0) dL (w2 fH (wF kS (aC (wN 1) (aC (w2 gAdd (w2 gMul (wC (D.int (2))) (wN 2)) (wC (D.int (1)))) aA))) (wN 2)))) (aI (cL (wT (w2 (gEq false) (wN 2) (wC (D.int (0))))) (cH 4 (df 4 (eL (bU (wN 4) eZ (dJ (wN 1))) (w1 gRev (bU (wN 4) eZ (dJ (w2 fH (wN 1) (wC (D.int (1)))))))))) cO) (aI (cL (wT (w2 (gEq false) (wN 2) (wC (D.int (1))))) (cH 4 (df 4 (eL (bU (wN 4) (dJ (wC (D.int (1)))) (dJ (wN 1))) (bU (wN 4) eZ (dJ (wN 1)))))) cO) (aI (cL (wT (w2 (gEq false) (wN 2) (wC (D.int (2))))) (cH 4 (df 4 (eL (bU (wN 4) eZ (dJ (wN 1))) (w2 gMul (wL (bL (aC (wC (D.int (0))) aA))) (w2 fH (wN 1) (wC (D.int (1)))))))) cO) (aI (cL (wT (w2 (gEq false) (wN 2) (wC (D.int (3))))) (ir 4 (w2 fH (wN 1) (wC (D.int (1)))) (wC (D.int (0)))) cO) (aI (cL (wT (w2 (gEq false) (wN 2) (wC (D.int (4))))) (cH 4 (df 4 (e9 (bU (wN 4) eZ (dJ (wC (D.int (1))))) (w2 fH (w2 gMul (wC (D.int (2))) (wN 1)) (wC (D.int (1))))))) cO) (de 4 (aM (wB jM (aC (wN 4) aA)))))))))))))
theorem K1:Rd zx F6 Ze4:=by
 rintro _ E Q ⟨⟨xs,i⟩,rfl,_,q⟩;unfold F6;walk_at "go"
 by_cases h:i<xs.length
 .rw[if_pos (by simp[h])]
  refine⟨.int (xs.getD i 0),Ch rfl ?_,q⟩;rw[cA,aY,bR h];rfl
 .rw[if_neg (by simp;omega)]
  rw[aY,eI (by omega)] at q;exact q
theorem K2:Rd wY F7 ZhJ:=by
 rintro _ E Q ⟨x,rfl,_,q⟩;unfold F7;walk_at "go";have h1:=AC (x+7919) (show(0:Int)<2147483647 by decide);have h2:=Int.fmod_lt_of_pos (x+7919) (show(0:Int)<2147483647 by decide);have b:Bd ((x+7919).fmod 2147483647):=kR (n:=32) (by omega) (by omega);exact⟨by decide,⟨b,b⟩,⟨kR (n:=32) (by decide) (by omega),b⟩,by decide,q _ ⟨_,rfl⟩⟩
theorem K3:Rd uq F8 ZfS:=by
 rintro _ E Q ⟨x,rfl,_,q⟩;unfold F8;walk_at "go";exact⟨⟨by decide,by decide,by decide⟩,by decide,by decide,⟨_,_,_,rfl⟩,q⟩
theorem K4:Rd kS F9 ZhK:=by
 rintro _ E Q ⟨m,rfl,⟨h0,h1⟩,q⟩;have hb:Bd (m:Int):=kR (n:=30) (by omega) (by omega);have fin:∀x:Int,Q (.int (x.fmod m)):=λx=>by
  have h1:=AC x (show(0:Int)<m by omega);have h2:=Int.fmod_lt_of_pos x (show(0:Int)<m by omega);exact q _ ⟨(x.fmod m).toNat,by rw[Av h1],by omega⟩
 unfold F9;walk_at "go";refine⟨by simp,λj=>?_⟩;walk_at "go";split
 .refine⟨by simp,λi=>⟨by omega,?_⟩⟩
  walk_at "go";exact⟨by simp,λi'=>⟨⟨by omega,hb⟩,fin i⟩⟩
 .refine⟨by simp,λk=>F3 λk1=>?_⟩
  walk_at "go";refine F3 λk2=>?_;walk_at "go";exact⟨by simp,λk3=>⟨⟨by decide,kR (n:=7) (by decide) (by omega)⟩,by omega,fin _⟩⟩
def Gc(x:Int):(if x<0 then -x else x)=((x.natAbs:Nat):Int):=by split<;>omega
theorem K6:Rd wZ Ga ZgC:=by
 rintro _ E Q ⟨⟨t,b⟩,rfl,⟨hb,hd⟩,q⟩;have hg:0<Int.gcd t b:=Az _ hb;have hle:Int.gcd t b<=b.natAbs:=Nat.le_of_dvd (by omega) (Int.gcd_dvd_natAbs_right ..);obtain⟨e1,e2⟩:=Fg (t:=t) hb;unfold shq at q;dsimp only at q e1 e2;rw[<-e1,<-e2] at q;unfold Ga;walk_at "go";refine⟨λm ρ=>∃x y:Int,m=y.natAbs/\ρ=[.d (.int t),.d (.int b),.d (.int x),.d (.int y)]/\0<=x/\0<=y/\Int.gcd x y=Int.gcd t b,⟨_,_,_,rfl,rfl,by omega,by omega,?_⟩,?_⟩
 .rw[Gc,Gc]
  simp[Int.gcd]
 rintro m _ ⟨x,y,rfl,rfl,hx,hy,hg'⟩;walk_at "go"
 by_cases hy0:y=0
 .subst hy0
  simp only[Oj,gu,eG,if_false];rw[Int.gcd_zero_right] at hg';have hx':x=((Int.gcd t b:Nat):Int):=by omega
  by_cases h:b<0
  .simp only[h,decide_true,if_true] at q ⊢
   have ez:0-x = -((Int.gcd t b:Nat):Int):=by omega
   rw[ez];refine⟨⟨by omega,Bd.le (by omega) hd⟩,⟨by omega,Bd.le (by omega) hd⟩,by simp[aO],q⟩
  .simp only[h,decide_false,if_false,eG] at q ⊢
   rw[hx'];refine⟨⟨by omega,Bd.le (by omega) hd⟩,⟨by omega,Bd.le (by omega) hd⟩,by simp[aO],q⟩
 .rw[if_pos (by simpa using hy0)]
  refine⟨hy0,_,FX x hy0,_,_,rfl,rfl,hy,AC _ (by omega),by rw[FW];exact hg'⟩
def K7:Rd zA KZ Zis:=FY
def La:Rd ur K0 ZgA:=FZ
theorem Co{t b:Int}(hb:b≠0)(h1:t.natAbs<2^n)(h2:b.natAbs<2^n):Sz n (Rat.divInt t b):=by
 unfold Sz;rw[Rat.num_divInt,Rat.den_divInt,if_neg hb];have hg:Int.gcd b t≠0:=by
  have:=Int.gcd_pos_of_ne_zero_left t hb;omega
 refine⟨pG (Fd hg ?_) ?_,pG (Nat.div_le_self _ _) h2⟩
 .exact Int.dvd_mul_of_dvd_right (Int.gcd_dvd_right ..)
 .rw[gq,Int.natAbs_sign_of_ne_zero hb,Nat.one_mul];exact h1
local macro_rules | `(tactic| walk_at "w1")=>`(tactic| simp only[aM,cL,aR,cO,fQ,de,cH,bN,kO,eK,eJ,cS,ir,eR,l6,bJ,iu,gC,fU,kf,eY,gB,bW,wT,jK,w1,w2,wB,wF,wL,aZ,bU,Zbj,aB,bL,aC,aA,aLC,ZbT,dL,iS,iL,iT,gh,gP,iZ,i1,i2,isS,isL,isT,isB,isI,eZ,dJ,wN,wC,gN,e7,dC,fq,gI2,gAdd,gMul,gIx,dU,gCut,gRev,bX,fW,jM,iY,km,gD,lH,fb,dD,eQ,df,dE,eL,e9,aCut,dS,pub,da,h8,dQ,jm,ic,fw,List.replicate,dO,fN,List.set_cons_zero,List.set_cons_succ,Nat.reduceSub,Nat.reduceAdd,gp,lR,true_and,eG,if_true,if_false,ite_true,ite_false])
local macro_rules | `(tactic| walk_at "st")=>`(tactic| ((try dsimp only at *);(try walk_at "w1");(try dsimp only)))
def bH{E:Ex->Prop}(h:z E { N with nx:=z' E N } ρ):aI z z' E N ρ:=h
theorem w6{E:Ex->Prop}(I:cQ->Prop)(hz:∀nx:cQ->Prop,(∀ρ,I ρ->nx ρ)->z E { N with nx:=nx } ρ)(hr:∀ρ,I ρ->z' E N ρ):aI z z' E N ρ:=hz _ hr
theorem eE{c:WT}{E:Ex->Prop}{b:Bool}(hc:∀Q:Bool->Prop,Q b->c E ρ Q)(h1:b=true->zb E N ρ)(h2:b=false->N.nx ρ):cL c zb cO E N ρ:=by
 refine hc _ ?_;cases b with
 |true=>rw[if_pos rfl];exact h1 rfl
 |false=>rw[if_neg (by decide)];exact h2 rfl
theorem zB(xs:List Int):lJ (xs.map D.int)=true:=by
 induction xs with
 |nil=>rfl
 |cons x xs ih=>rw[da,lJ,ih];rfl
theorem Lb(h:∀y∈ys,∃i:Int,y=.int i/\-50<=i/\i<=50):∃s:List Int,ys=s.map D.int/\∀x∈s,-50<=x/\x<=50:=by
 induction ys with
 |nil=>exact⟨[],rfl,by simp⟩
 |cons y ys ih=>
  obtain⟨s,rfl,hs⟩:=ih λz hz=>h z (by simp[hz]);obtain⟨i,rfl,h1,h2⟩:=h y (by simp);exact ⟨i::s,rfl,λx hx=>by
   rcases Yao.mp hx with rfl|hx
   .exact⟨h1,h2⟩
   .exact hs x hx⟩
theorem Lc:Rd w4 Gb Zd7:=by
 rintro _ E Q ⟨_,rfl,_,q⟩;have fin:∀(s:List Int) (n:Nat),s.length+1=2*n->1<=n->n<=5->(∀x∈s,-50<=x/\x<=50)->Q (D.tup (s.map D.int)):=λs n h1 h2 h3 h4=>q _ ⟨s,n,⟨h1,h2,h3,h4⟩,rfl⟩;unfold Gb;refine bH ?_;walk_at "st";refine m9 (n:=5) (by decide) (by decide) λk hk=>?_;walk_at "st";refine bH ?_;walk_at "st";refine m9 (n:=7) (by decide) (by decide) λway hw=>?_;walk_at "st";refine bH ?_;walk_at "st";refine⟨by decide,m9 (n:=4) (by decide) (by decide) λsp hsp=>?_⟩;have hgr:∃g:Nat,(1<=g/\g<=50)/\dw [D.int 1,D.int 2,D.int 3,D.int 50] (sp:Int)=some (.int g):=by
  have:sp=0\/sp=1\/sp=2\/sp=3:=by omega
  rcases this with rfl|rfl|rfl|rfl
  .exact⟨1,by decide,rfl⟩
  .exact⟨2,by decide,rfl⟩
  .exact⟨3,by decide,rfl⟩
  .exact⟨50,by decide,rfl⟩
 obtain⟨g,hg,hat⟩:=hgr;walk_at "st";refine⟨_,hat,bH ?_⟩;walk_at "st";refine⟨⟨kR (n:=2) (by decide) (by omega),kR (n:=10) (by omega) (by omega)⟩,by omega,by omega,?_⟩;refine J4 (R:=λ_ y=>∃i:Int,y=.int i/\-50<=i/\i<=50) (λd hd Q hq=>?_) .un [] (by simp[rng,aO];omega) λys hl hys=>?_
 .walk_at "go"
  refine⟨⟨kR (n:=2) (by decide) (by omega),kR (n:=10) (by omega) (by omega)⟩,?_⟩;have e:(2:Int)*(g:Int)+1=((2*g+1:Nat):Int):=by omega
  rw[e];refine m9 (by omega) (by omega) λj hj=>?_;walk_at "go";exact hq _ ⟨_,rfl,by omega,by omega⟩
 .obtain⟨s,rfl,hs⟩:=Lb λy hy=>let⟨_,_,h⟩:=hys y hy;h
  simp only[rng,bP,nG] at hl;rw[fw];have hm:∀x∈s,-50<=x/\x<=50:=hs;have hsl:s.length+1=2*(1+k):=by omega
  have hn:(1:Int)+(k:Int)=((1+k:Nat):Int):=by omega
  generalize 1+k=n at hn hsl;have n1:1<=n:=by omega
  have n5:n<=5:=by omega
  rw[hn];clear hl hys hat hsp hk q hn;have c1:∀{s:List Int},s.length+1=2*n->bA (s.map D.int) none (some (n:Int))=(s.take n).map D.int:=λ_=>by rw[zw rfl,mr]
  have c2:∀{s:List Int},s.length+1=2*n->bA (s.map D.int) none (some ((n:Int)-1))=(s.take (n-1)).map D.int:=λ_=>by rw[zw (b:=n-1) (by omega),mr]
  have c3:∀{s:List Int},s.length+1=2*n->bA (s.map D.int) (some 1) (some (n:Int))=((s.drop 1).take (n-1)).map D.int:=λh=>by
   rw[Ci (i:=1) (a:=1) (b:=n) (by decide) rfl n1 (by rw[bP];omega),mr,pH]
  have mt:∀{s:List Int} {j:Nat},(∀x∈s,-50<=x/\x<=50)->∀x∈s.take j,-50<=x/\x<=50:=λh x hx=>h x (pI hx);refine w6 (λρ=>∃s:List Int,ρ=[.d .pen,.d (.int n),.d (.int way),.d (.int g),.ow (s.map .int)]/\s.length+1=2*n/\∀x∈s,-50<=x/\x<=50) (λnx hnx=>?_) ?_
  .walk_at "st"
   split
   .rw[c1 hsl,c2 hsl,<-yD,<-iB]
    refine⟨?_,zB _,hnx _ ⟨_,rfl,?_,λx hx=>?_⟩⟩
    .simp[aO];omega
    .simp only[eu,At,gT];omega
    .rcases Yap.mp hx with hx|hx
     .exact mt hm x hx
     .exact mt hm x (List.mem_reverse.mp hx)
   .exact hnx _ ⟨s,rfl,hsl,hm⟩
  clear hs hm hsl s;rintro _ ⟨s,rfl,hsl,hm⟩;refine w6 (λρ=>∃s:List Int,ρ=[.d .pen,.d (.int n),.d (.int way),.d (.int g),.ow (s.map .int)]/\s.length+1=2*n/\∀x∈s,-50<=x/\x<=50) (λnx hnx=>?_) ?_
  .walk_at "st"
   split
   .rw[c1 hsl,c3 hsl,<-iB]
    refine⟨?_,zB _,hnx _ ⟨_,rfl,?_,λx hx=>?_⟩⟩
    .simp[aO];omega
    .simp only[eu,ja,gT];omega
    .rcases Yap.mp hx with hx|hx
     .exact hm x (k6 (pI hx))
     .exact mt hm x hx
   .exact hnx _ ⟨s,rfl,hsl,hm⟩
  clear hm hsl s;rintro _ ⟨s,rfl,hsl,hm⟩;refine w6 (λρ=>∃s:List Int,ρ=[.d .pen,.d (.int n),.d (.int way),.d (.int g),.ow (s.map .int)]/\s.length+1=2*n/\∀x∈s,-50<=x/\x<=50) (λnx hnx=>?_) ?_
  .walk_at "st"
   split
   .have e:(List.replicate ((n:Int)-1).toNat [D.int 0]).flatten=(List.replicate (n-1) (0:Int)).map D.int:=by
     rw[show((n:Int)-1).toNat=n-1 by omega,List.map_replicate];generalize n-1=j
     induction j with
     |zero=>rfl
     |succ j ih=>rw[gp,qG,ih,gp];rfl
    rw[c1 hsl,e,<-iB];refine⟨by decide,by omega,by omega,by unfold aO;omega,?_,zB _,hnx _ ⟨_,rfl,?_,λx hx=>?_⟩⟩
    .simp[aO];omega
    .simp only[eu,pF,gT];omega
    .rcases Yap.mp hx with hx|hx
     .exact mt hm x hx
     .rw[(Yco.mp hx).2];omega
   .exact hnx _ ⟨s,rfl,hsl,hm⟩
  clear hm hsl s;rintro _ ⟨s,rfl,hsl,hm⟩;refine w6 (λρ=>∃s:List Int,ρ=[.d .pen,.d (.int n),.d (.int way),.d (.int g),.ow (s.map .int)]/\s.length+1=2*n/\∀x∈s,-50<=x/\x<=50) (λnx hnx=>?_) ?_
  .walk_at "st"
   split
   .refine⟨n-1,?_,hnx _ ⟨s.set (n-1) 0,by rw[uW],by rw[dv];exact hsl,λx hx=>?_⟩⟩
    .unfold jb
     rw[if_pos (by omega),if_pos (by rw[bP];omega),show((n:Int)-1).toNat=n-1 by omega]
    .rcases AD hx with hx|rfl
     .exact hm x hx
     .omega
   .exact hnx _ ⟨s,rfl,hsl,hm⟩
  clear hm hsl s;rintro _ ⟨s,rfl,hsl,hm⟩;refine w6 (λρ=>∃s:List Int,ρ=[.d .pen,.d (.int n),.d (.int way),.d (.int g),.ow (s.map .int)]/\s.length+1=2*n/\∀x∈s,-50<=x/\x<=50) (λnx hnx=>?_) ?_
  .walk_at "st"
   split
   .obtain⟨x0,s',rfl⟩:∃x0 s',s=x0::s':=by
     cases s with
     |nil=>simp at hsl;omega
     |cons x0 s'=>exact⟨x0,s',rfl⟩
    have e1:bA ((x0::s').map D.int) none (some 1)=[D.int x0]:=by rw[zw (i:=1) (b:=1) (by decide)];simp
    have e2:(List.replicate (2*(n:Int)-1).toNat [D.int x0]).flatten=(List.replicate (2*n-1) x0).map D.int:=by
     rw[show(2*(n:Int)-1).toNat=2*n-1 by omega,List.map_replicate];generalize 2*n-1=j
     induction j with
     |zero=>rfl
     |succ j ih=>rw[gp,qG,ih,gp];rfl
    rw[e1,e2];refine⟨⟨kR (n:=2) (by decide) (by omega),kR (n:=10) (by omega) (by omega)⟩,by omega,by omega,?_,zB _,hnx _ ⟨_,rfl,?_,λx hx=>?_⟩⟩
    .simp[aO];omega
    .rw[pF];omega
    .rw[(Yco.mp hx).2];exact hm x0 (by simp)
   .exact hnx _ ⟨s,rfl,hsl,hm⟩
  clear hm hsl s;rintro _ ⟨s,rfl,hsl,hm⟩;walk_at "st";exact fin s n hsl n1 n5 hm
abbrev LX:List Str:=["NoSlants", "NoRow", "NoNumber", "NoLine", "NotEven", "NotFull"]
abbrev MX:List Str:=["NoSlants", "NoRow", "NoNumber", "NoLine", "NotEven", "NotFull", "NotStrong", "NoText", "TooGreat"]
def Cp(n:Str):Str:=if n == "NoSlants" then "slants" else if n == "NoRow" then "row" else if n == "NoNumber" then "number" else if n == "NoLine" then "line" else if n == "NotEven" then "even" else "full"
mutual
def dW(m:Nat):D->Bool
 |.int i=>decide (i.natAbs<2^m)
 |.tup xs=>hJ m xs
 |.lst xs=>hJ m xs
 |_=>true
def hJ(m:Nat):List D->Bool
 |[]=>true
 |x::r=>dW m x&&hJ m r
end
theorem ut{m:Nat}:∀{xs:List D},hJ m xs=true↔∀x∈xs,dW m x=true
 |[]=>by simp[hJ]
 |x::r=>by rw[hJ,cT,ut];simp
def Zmm:dW m (shq q)=true↔Sz m q:=by
 unfold shq Sz;rw[dW,hJ,hJ,hJ,dW,dW];simp
theorem Ziz:dW m (aK r)=true↔∀x∈r,Sz m x:=by
 unfold aK;rw[dW,ut];constructor
 .intro h x hx
  exact Zmm.mp (h _ (List.mem_map_of_mem hx))
 .intro h x hx
  obtain⟨q,hq,rfl⟩:=YbU.mp hx;exact Zmm.mpr (h q hq)
def zC:bK:=uh
def zD:bK:=rlS (λx:SL=>[.pen,aN x.1]) (λx=>IsSl x.1 x.2) λ_ d=>kd d=true/\tB d=false
def zE:bK:=wR
section
variable{E:Ex->Prop}{x:D}
def Ld(h:kd x=true)(q:Q (.bl (nU x))):zC [x] E Q:=⟨x,rfl,h,q⟩
theorem Le(h:IsSl s n)(q:∀d,kd d=true->Q d):zD [.pen,aN s] E Q:=⟨(s,n),rfl,h,λd h1=>q d h1.1⟩
def Gd(h:kd x=true)(q:Q (.bl (fg x))):zE [x] E Q:=⟨x,rfl,h,q⟩
end
abbrev Zgz:List Str:=["_law_found"]
def Lg:WS:=(aM (gC (wB gIs (aC (wN 0) (aC (wC (.ty "int")) aA))) (kf (wB gIs (aC (wN 0) (aC (wC (.ty "bool")) aA))))))
abbrev Zd8:List Str:=["_law_pen", "_law_slants", "_law_spot", "_law_odd", "_law_some"]
def Ge:WS:=(aI (aR 2 (wF kS (aC (wN 0) (aC (w2 gAdd (wB bX (aC (wN 1) aA)) (wC (D.int (1)))) aA)))) (aI (aR 3 (w2 gIx (wL (bL (aC (wC (D.int (51))) (aC (w1 ff (wC (D.int (51)))) (aC (wC (D.bl true)) (aC (wC D.non) (aC (wC (D.str (PySem.Str.ofString "0"))) (aC (aZ (aC (wC (D.int (0))) aA)) (aC (w2 E5 (wC (D.int (10))) (wC (D.int (30)))) aA))))))))) (wF kS (aC (wN 0) (aC (wC (D.int (7))) aA))))) (aI (aR 4 (wL (bL (aC (w2 gAdd (w2 gAdd (w2 gAdd (bU (wN 1) eZ (dJ (wN 2))) (aZ (aC (wN 3) aA))) (bU (wN 1) (dJ (w2 gAdd (wN 2) (wC (D.int (1))))) eZ)) (w2 ZdB (aZ (aC (wN 3) aA)) (wB gD (aC (w2 (gEq false) (wN 2) (wB bX (aC (wN 1) aA))) aA)))) (aC (w2 gAdd (wN 1) (aZ (aC (wC (D.int (0))) aA))) (aC (wL (aB (fW (α:=Unit)) (aC (wN 1) aA))) aA)))))) (aI (aR 4 (w2 gAdd (wN 4) (wL (bL (aC (aZ aA) (aC (w2 ZdB (aZ (aC (wC (D.int (1))) aA)) (wC (D.int (11)))) (aC (w2 ZdB (aZ (aC (wC (D.int (0))) aA)) (wC (D.int (2)))) (aC (wC D.non) (aC (wC (D.int (5))) (aC (wC .dic) (aC (wC (D.str (PySem.Str.ofString "0"))) (aC (aZ (aC (wN 1) aA)) (aC (bU (wN 1) (dJ (wC (D.int (1)))) eZ) aA))))))))))))) (aM (w2 gIx (wN 4) (wF kS (aC (wN 0) (aC (wC (D.int (12))) aA)))))))))
abbrev ZcS:List Str:=["_law_thing"]
def Gf:WS:=(aI (cL (gB (bW (wT (wB gIs (aC (wN 0) (aC (wC (.ty "tuple")) aA))))) (wT (w2 (gIn true) (wB bX (aC (wN 0) aA)) (aZ (aC (wC (D.int (1))) (aC (wC (D.int (3))) (aC (wC (D.int (5))) (aC (wC (D.int (7))) (aC (wC (D.int (9))) aA))))))))) (aM (wC (D.bl false))) cO) (aM (wB kq (aC (wL (aLC (iS (wN 0)) 1 [] (gN 0) dL (gC (wF zC (aC (wN 0) aA)) (Zbj ku ku (w1 ff (wC (D.int (50)))) (wN 0) (wC (D.int (50))))))) aA))))
def sm:Nat->(Nat->Rat)->Rat
 |0,_=>0
 |n+1,f=>f 0+sm n λi=>f (i+1)
theorem Lh{α:Type}(r:List α)(d:α):r=(List.range r.length).map λi=>r.getD i d:=by
 refine As λi=>?_;rcases jj i r.length with h|h
 .rw[cA,iA h,tT,aY,bR h];rfl
 .rw[eI h,eI (by simpa using h)]
theorem Gg{α:Type}{f g:Nat->α}(h:∀i,i<n->f i=g i):(List.range n).map f=(List.range n).map g:=
 ia λi hi=>h i (Yah.mp hi)
def ent(s:List Int)(n i j:Nat):Int:=s.getD (n-1-i+j) 0
theorem Li(h:IsSl s n):tbl s n=(List.range n).map λi=>(List.range n).map λj=>ent s n i j:=by
 unfold tbl;refine Gg λi hi=>As λj=>?_;have hl:=h.len;rcases jj j n with hj|hj
 .rw[Ap hj,tY,cA,iA hj,bR (by omega)]
  unfold ent;rw[tT,aY,bR (by omega)];rfl
 .rw[eI (by rw[gT];omega),eI (by simpa using hj)]
theorem gR(h:IsSl s n)(h1:1<=k)(h2:k<=n):IsSl (cor s n k) k:=by
 have hl:=h.len;have h5:=h.n5;refine⟨?_,h1,by omega,λx hx=>h.b x (k6 (pI hx))⟩;unfold cor;rw[gT,ja];omega
def Cq(h:IsSl s n):cor s n n=s:=by
 have hl:=h.len;unfold cor;rw[uX,qI,yC (by omega)]
def bF(n p:Nat):List Rat:=(List.range n).map λj=>if j=p then 1 else 0
theorem Gh{g:WG}{zb:WS}{E:Ex->Prop}{N:Nds}(I:cQ->Prop):∀(ds:List D),(∀d∈ds,∀ρ,I ρ->∀nx:cQ->Prop,(∀ρ,I ρ->nx ρ)->g d ρ λρ1=>zb E { nx:=nx,rt:=N.rt,bk:=N.nx,ct:=nx } ρ1)->(∀ρ,I ρ->N.nx ρ)->∀ρ,I ρ->ZbS g zb E N ds ρ
 |[],_,hn,ρ,i=>hn ρ i
 |d::ds,h,hn,ρ,i=>h d (kW ..) ρ i _ (Gh I ds (λd hd=>h d (i8 _ hd)) hn)
theorem Cr{g:WG}{zb:WS}{E:Ex->Prop}{N:Nds}(I:List D->cQ->Prop)(h:∀d ds ρ,I (d::ds) ρ->∀nx:cQ->Prop,(∀ρ,I ds ρ->nx ρ)->g d ρ λρ1=>zb E { nx:=nx,rt:=N.rt,bk:=N.nx,ct:=nx } ρ1)(hn:∀ρ,I [] ρ->N.nx ρ):∀(ds:List D) ρ,I ds ρ->ZbS g zb E N ds ρ
 |[],ρ,i=>hn ρ i
 |d::ds,ρ,i=>h d ds ρ i _ (Cr I h hn ds)
theorem qy(n:Nat):rng 0 n=(List.range n).map λ(k:Nat)=>D.int (k:Int):=by
 unfold rng;exact ia λk _=>by rw[Int.zero_add]
section
variable{QI:Int->Prop}{QB:Bool->Prop}{i j:Int}{b:Bool}{o o':Option Int}
def ma:isB QB (.bl b)=QB b:=rfl
def nW:isI QI (.int i)=QI i:=rfl
def nX:isL QL (.lst xs)=QL xs:=rfl
def nY:isL QL (dP s)=QL (s.map .int):=rfl
def nZ:isL QL (i6 s n)=QL ((tbl s n).map dP):=rfl
def n4:isT QL (.tup xs)=QL xs:=rfl
def n6:isS QL (.lst xs)=QL xs:=rfl
def n8:isS QL (.tup xs)=QL xs:=rfl
def n9:isS QL (aK r)=QL (r.map shq):=rfl
def oa:isS QL (aN s)=QL (s.map .int):=rfl
def oh:isS QL (dP s)=QL (s.map .int):=rfl
def oj:isS QL (i6 s n)=QL ((tbl s n).map dP):=rfl
def Zd:bX [.tup xs] Q=Q (.int xs.length):=rfl
def ol:bX [.lst xs] Q=Q (.int xs.length):=rfl
def om:bX [.scr xs] Q=Q (.int xs.length):=rfl
def oq:bX [aK r] Q=Q (.int r.length):=by show Q (.int ((r.map shq).length:Int))=_;rw[bP]
def ot:bX [aN s] Q=Q (.int s.length):=by show Q (.int ((s.map D.int).length:Int))=_;rw[bP]
def ou:bX [dP s] Q=Q (.int s.length):=by show Q (.int ((s.map D.int).length:Int))=_;rw[bP]
def oy:bX [i6 s n] Q=Q (.int n):=by show Q (.int (((tbl s n).map dP).length:Int))=_;rw[bP,jP]
def oA:gIx (.tup xs) (.int i) Q = ∃d,dw xs i=some d/\Q d:=rfl
def oB:gIx (.lst xs) (.int i) Q = ∃d,dw xs i=some d/\Q d:=rfl
def oC:gIx (.scr xs) (.int i) Q = ∃d,dw xs i=some d/\Q d:=rfl
def oE:gIx (aK r) (.int i) Q = ∃d,dw (r.map shq) i=some d/\Q d:=rfl
def oF:gIx (aN s) (.int i) Q = ∃d,dw (s.map .int) i=some d/\Q d:=rfl
def oG:gIx (dP s) (.int i) Q = ∃d,dw (s.map .int) i=some d/\Q d:=rfl
def oH:gIx (i6 s n) (.int i) Q = ∃d,dw ((tbl s n).map dP) i=some d/\Q d:=rfl
def oJ:gCut (.tup xs) o o' Q=Q (.tup (bA xs o o')):=rfl
def oK:gCut (.lst xs) o o' Q=Q (.lst (bA xs o o')):=rfl
def oM:gCut (.scr xs) o o' Q=Q (.lst (bA xs o o')):=rfl
def oN:gCut (aK r) o o' Q=Q (.tup (bA (r.map shq) o o')):=rfl
def oO:gCut (aN s) o o' Q=Q (.tup (bA (s.map .int) o o')):=rfl
def oP:gCut (dP s) o o' Q=Q (.lst (bA (s.map .int) o o')):=rfl
def oQ:gCut (i6 s n) o o' Q=Q (.lst (bA ((tbl s n).map dP) o o')):=rfl
def oR:gRev (.tup xs) Q=Q (.tup xs.reverse):=rfl
def oS:gRev (.lst xs) Q=Q (.lst xs.reverse):=rfl
def oU:gRev (aK r) Q=Q (aK r.reverse):=by show Q (.tup (r.map shq).reverse)=_;rw[<-yD];rfl
def oV:gRev (aN s) Q=Q (aN s.reverse):=by show Q (.tup (s.map D.int).reverse)=_;rw[<-yD];rfl
def oW:gRev (dP s) Q=Q (dP s.reverse):=by show Q (.lst (s.map D.int).reverse)=_;rw[<-yD];rfl
def oX{α:Type}:fW (α:=α) [.tup xs] QL=QL xs:=rfl
def oY{α:Type}:fW (α:=α) [.lst xs] QL=QL xs:=rfl
def oZ{α:Type}:fW (α:=α) [aN s] QL=QL (s.map .int):=rfl
def o1:jM [.tup xs] Q=Q (.tup xs):=rfl
def o4:jM [.lst xs] Q=Q (.tup xs):=rfl
def o5:jM [dP s] Q=Q (aN s):=rfl
def o6:gAdd (.int i) (.int j) Q=Q (.int (i+j)):=rfl
def o7:gAdd (.lst xs) (.lst ys) Q=(xs.length+ys.length<=aO/\Q (.lst (xs++ys))):=rfl
def o8:gAdd (.tup xs) (.tup ys) Q=(xs.length+ys.length<=aO/\Q (.tup (xs++ys))):=rfl
def o9:gMul (.int i) (.int j) Q=(qW i j/\Q (.int (i*j))):=rfl
theorem pj:gMul (.lst xs) (.int j) Q=(j<1000/\-1000<j/\xs.length*j.toNat<=aO/\Q (.lst (List.replicate j.toNat xs).flatten)):=rfl
def gG{C:Int->Int->Prop}{kd:Int->Int->D}:gI2 C kd (.int i) (.int j) Q=(C i j/\Q (kd i j)):=rfl
def pk:iY [.int i] Q=Q (.int (if i<0 then -i else i)):=rfl
def pp:km [.int i,.int j] Q=Q (.int (if j>i then j else i)):=rfl
def pq:gD [.bl b] Q=Q (.int (if b then 1 else 0)):=rfl
def pz:gD [.int i] Q=Q (.int i):=rfl
def pA:kq [.lst xs] Q = ∃bs:List Bool,xs=bs.map D.bl/\Q (.bl (bs.all id)):=rfl
def hU:i1 QL [.int j]=(-10000<=j/\j<10000/\QL (rng 0 j.toNat)):=rfl
theorem hV:i2 QL [.int i,.int j]=((-10000<=i/\i<10000/\-10000<=j/\j<10000)/\QL (rng i (j-i).toNat)):=rfl
end
local macro_rules | `(tactic| walk_at "w1")=>`(tactic| simp only [aM,cL,aR,cO,fQ,de,cH,bN,kO,eK,eJ,cS,ir,eR,l6,bJ,iu,fK,wM,ZdB,gC,fU,kf,eY,gB,bW,wT,jK,w1,w2,wB,wF,wL,aZ,bU,Zbj,aB,bL,aC,aA,aLC,ZbT,dL,iS,iL,iT,gh,gP,iZ,eZ,dJ,wN,wC,gN,e7,dC,fq,dU,lH,fb,dD,eQ,df,dE,eL,e9,aCut,dS,pub,da,h8,dQ,jm,ic,fw,List.replicate,dO,fN,List.set_cons_zero,List.set_cons_succ,Nat.reduceSub,Nat.reduceAdd,gp,lR,true_and,eG,if_true,if_false,ite_true,ite_false,jF,gu,nI,
 ma,nW,nX,nY,nZ,n4,n6,n8,n9,oa,oh,oj,Zd,ol,om,oq,ot,ou,oy,oA,oB,oC,oE,oF,oG,oH,oJ,oK,oM,oN,oO,oP,oQ,oR,oS,oU,oV,oW,oX,oY,oZ,o1,o4,o5,o6,o7,o8,o9,pj,gG,pk,pp,pq,pz,pA,hU,hV])
local macro_rules | `(tactic| walk_at "nx")=>`(tactic| ((try dsimp only);(refine bH ?_);walk_at "st"))
def Lj:Rd zC Lg Zgz:=FV
theorem Lk:Rd zE Gf ZcS:=by
 rintro _ E Q ⟨x,rfl,hk,q⟩;unfold Gf;walk_at "nx";refine tF hk (by decide) λt ht=>?_;cases x<;>cases ht<;>try exact q
 rename_i xs;obtain⟨hl,hx⟩:=qu hk;walk_at "st";simp only[show jy "tuple" "tuple" = true from rfl,gu,eG,if_false];refine⟨by decide,xs.length,[1,3,5,7,9],rfl,.inr rfl,?_⟩;walk_at "st";have e1:([1,3,5,7,9]:List Int).contains (xs.length:Int)=(decide (xs.length%2=1)&&decide (xs.length<=9)):=by
  rw[kE,cT,N7,N7,List.contains_iff_mem];simp only[Yao,dh,or_false];omega
 rw[e1];replace q:Q (.bl (xs.all (gF (-50) 50)&&decide (xs.length%2=1)&&decide (xs.length<=9))):=q;rw[Bool.and_assoc] at q;cases e2:(decide (xs.length%2=1)&&decide (xs.length<=9)) with
 |false=>
  rw[e2,Bool.and_false] at q;exact q
 |true=>
  rw[e2,uT] at q;simp only[gu,eG,if_false];walk_at "st";refine uf (f:=λd=>.bl (gF (-50) 50 d)) (λd hd Q hq=>?_) .un [] (by simp[aO];omega) ?_
  .walk_at "st"
   refine Ld (hx d hd) ?_;cases hw:nU d with
   |false=>
    have:gF (-50) 50 d=false:=by cases d<;>first|rfl|cases hw
    rw[this] at hq;exact hq
   |true=>
    obtain⟨i,rfl⟩:=Cf hw;simp only[isB,if_true,gI2,true_and]
    by_cases h:-50<=i
    .simp only[h,decide_true,if_true]
     simpa[gF,h] using hq
    .simp only[h,decide_false,if_false,eG]
     simpa[gF,h] using hq
  .refine⟨xs.map (gF (-50) 50),by simp,?_⟩
   simpa[List.all_map,Function.comp_def] using q
theorem Ll(a b c d:Int):gE (.tup [.int a,.int b]) (.tup [.int c,.int d])=(a==c&&b==d):=by
 simp[gE,pd,fu,PyData.eqv,PyData.eqvAll]
theorem zF{P:D->Prop}(h:k<xs.length)(hp:∀x∈xs,P x):∃d,dw xs (k:Int)=some d/\P d:=⟨xs[k],bS (bR h),hp _ (jG h)⟩
theorem Ct{a b:Option Int}(h:∀x∈xs,kd x=true):∀x∈bA xs a b,kd x=true:=λx hx=>h x (by unfold bA at hx;exact k6 (pI hx))
def zG{a b:Option Int}:(bA xs a b).length<=xs.length:=by unfold bA;rw[gT,ja];omega
def Lm(h:xs.length+ys.length<=aO)(q:Q (.tup (xs++ys))):gAdd (.tup xs) (.tup ys) Q:=⟨h,q⟩
def gS(h:n<=5000):n<=aO:=by unfold aO;omega
theorem Ln:Rd zD Ge Zd8:=by
 rintro _ E Q ⟨⟨s,n⟩,rfl,h,q⟩;dsimp only at h q;have h9:=h.l9;unfold Ge;walk_at "nx";refine m9 (n:=s.length+1) (by omega) (by omega) λk hk=>?_;walk_at "st";walk_at "nx";refine⟨by decide,⟨by decide,by decide,by decide⟩,by decide,m9 (n:=7) (by decide) (by decide) λk7 hk7=>?_⟩;obtain ⟨odd,hat,hodd⟩:=zF (P:=λd=>kd d=true) (xs:=[D.int 51,D.int (-51),D.bl true,D.non,D.str "0",D.tup [D.int 0],D.int (10 ^ Int.toNat 30)]) (k:=k7) (by simpa using hk7) (by
  intro x hx;simp only[Yao,dh,or_false] at hx;rcases hx with rfl|rfl|rfl|rfl|rfl|rfl|rfl<;>first|(rw[kd];done)|exact kP (by decide) (by simp[kd]))
 refine⟨_,hat,?_⟩;walk_at "nx";have hc1:(bA (s.map D.int) none (some (k:Int))).length<=9:=by have:=zG (xs:=s.map D.int) (a:=none) (b:=some (k:Int));rw[bP] at this;omega
 have hc2:(bA (s.map D.int) (some ((k:Int)+1)) none).length<=9:=by have:=zG (xs:=s.map D.int) (a:=some ((k:Int)+1)) (b:=none);rw[bP] at this;omega
 have hks:∀x∈s.map D.int,kd x=true:=λx hx=>by obtain⟨i,_,rfl⟩:=YbU.mp hx;rw[kd]
 have hk1:=Ct (a:=none) (b:=some (k:Int)) hks;have hk2:=Ct (a:=some ((k:Int)+1)) (b:=none) hks;generalize bA (s.map D.int) none (some (k:Int))=c1 at hc1 hk1 ⊢;generalize bA (s.map D.int) (some ((k:Int)+1)) none=c2 at hc2 hk2 ⊢;obtain⟨m,hm,hm1⟩:∃m:Nat,(if((k:Int)==(s.length:Int))=true then(1:Int) else 0)=m/\m<=1:=by
  split
  .exact⟨1,rfl,by omega⟩
  .exact⟨0,rfl,by omega⟩
 rw[hm,jF];have hrep:(List.replicate m [odd]).flatten=List.replicate m odd:=by
  rcases(show m=0\/m=1 by omega) with rfl|rfl<;>rfl
 rw[hrep];refine⟨by decide,gS (by omega),gS (by simp;omega),by decide,by omega,by omega,gS (by omega),gS (by simp;omega),by decide,Lm (gS (by simp;omega)) ⟨by decide,?_⟩⟩;walk_at "nx";refine⟨by decide,by decide,by decide,by decide,by decide,by decide,by decide,by decide,by decide,by decide,by decide,by decide,m9 (n:=12) (by decide) (by decide) λk12 hk12=>?_⟩;obtain ⟨d,hd,hkd⟩:=zF (P:=λd=>kd d=true/\tB d=false) (xs:=[D.tup (c1++[odd]++c2++List.replicate m odd),D.tup (List.map D.int s++[D.int 0]),D.lst (List.map D.int s),D.tup [],D.tup (List.replicate (Int.toNat 11) [D.int 1]).flatten,
   D.tup (List.replicate (Int.toNat 2) [D.int 0]).flatten,D.non,D.int 5,D.dic,D.str "0",D.tup [aN s],D.tup (bA (List.map D.int s) (some 1) none)]) (k:=k12) (by simpa using hk12) (by
  intro x hx;simp only[Yao,dh,or_false] at hx;have nt:∀ys,tB (.tup ys)=false:=λ_=>rfl;rcases hx with rfl|rfl|rfl|rfl|rfl|rfl|rfl|rfl|rfl|rfl|rfl|rfl
  all_goals refine⟨?_,by first|rfl|exact nt _|(cases s<;>rfl)⟩
  .refine kP (by simp;omega) λx hx=>?_
   simp only[Yap,Yao,dh,or_false,Yco] at hx;rcases hx with((hx|rfl)|hx)|⟨_,rfl⟩
   .exact hk1 x hx
   .exact hodd
   .exact hk2 x hx
   .exact hodd
  .refine kP (by simp;omega) λx hx=>?_
   simp only[Yap,Yao,dh,or_false] at hx;rcases hx with hx|rfl
   .exact hks x hx
   .rw[kd]
  .exact Fj (by simp;omega) hks
  .exact kP (by simp) (by simp)
  .exact kP (by decide) (by simp[List.replicate,kd])
  .exact kP (by decide) (by simp[List.replicate,kd])
  .rw[kd]
  .rw[kd]
  .rw[kd]
  .rw[kd]
  .exact kP (by simp) λx hx=>by rw[Ycu.mp hx];exact Fk (by omega)
  .exact kP (by have:=zG (xs:=s.map D.int) (a:=some 1) (b:=none);rw[bP] at this;omega) (Ct hks))
 exact⟨d,hd,q d hkd⟩
def gd(d:D):Prop:=kd d=true/\dW 72 d=true
theorem w8{g:WG}{E:Ex->Prop}(I:Nat->cQ->Prop)(n:Nat)(h:∀k,k<n->∀ρ,I k ρ->∀nx:cQ->Prop,(∀ρ,I (k+1) ρ->nx ρ)->g (.int k) ρ λρ1=>zb E { nx:=nx,rt:=N.rt,bk:=N.nx,ct:=nx } ρ1)(hn:∀ρ,I n ρ->N.nx ρ)(ρ:cQ)(h0:I 0 ρ):ZbS g zb E N (rng 0 n) ρ:=by
 refine Cr (λds ρ=>∃k,k<=n/\ds=(rng 0 n).drop k/\I k ρ) ?_ ?_ _ ρ ⟨0,jS _,by rw[qI],h0⟩
 .rintro d ds ρ ⟨k,hk,e,i⟩ nx hnx
  have hlen:(rng 0 n).length=n:=by unfold rng;simp
  have hkn:k<n:=by
   rcases jj k n with z|z
   .exact z
   .rw[List.drop_eq_nil_of_le (by omega)] at e;cases e
  rw[tV (by omega)] at e;injection e with e1 e2
  have e3:(rng 0 n)[k]'(by omega)=.int k:=by unfold rng;simp
  rw[e1,e3];exact h k hkn ρ i nx λρ' i'=>hnx ρ' ⟨k+1,hkn,e2,i'⟩
 .rintro ρ ⟨k,hk,e,i⟩
  have hlen:(rng 0 n).length=n:=by unfold rng;simp
  have hkn:k=n:=by
   rcases jj k n with z|z
   .rw[tV (by omega)] at e;cases e
   .omega
  subst hkn;exact hn ρ i
def rh:bootBuiltins "repr" = some (.builtin "repr"):=by decide +kernel
def Lo:bootBuiltins "ValueError" = some (.type "ValueError"):=by decide +kernel
theorem clsX_of{D:Addr}(g:PySem.W.findIn K (.ref D) "__getattribute__" = some (some (.builtin "BaseException.__getattribute__")))(gn:PySem.W.findIn K (.ref D) "__getattr__" = some none)(be:PySem.W.mroIn K D (.type "BaseException")=some true)(h:PySem.W.hasDictIn K D=true)(a:PySem.W.findIn K (.ref D) "__class__" = some (some (.builtin "object.__class__")))(gt:PySem.W.specialIn K (.builtin "object.__class__") "__get__" = some (some (.builtin "getset_descriptor.__get__")))(tk:PySem.W.takesIn K (.builtin "object.__class__")=some true)(ob:PySem.W.mroIn K D (.type "object")=some true):gY K D:=
 ⟨g,gn,be,by obtain⟨cd,hc,_⟩:=PySem.W.any_some h;rw[hc];rfl,a,gt,tk,ob⟩
section
def gNeS:G2:=λx y Q=>∃a b,x=.str a/\y=.str b/\Q (.bl (!(a==b)))
theorem gNeS.mono:∀x y P P',(∀d,P d->P' d)->gNeS x y P->gNeS x y P':=λx y P P' hp ⟨a,b,h1,h2,h3⟩=>⟨a,b,h1,h2,hp _ h3⟩
theorem zH:fT X (compareOp .NotEq) gNeS:=by
 refine⟨⟨_,vh,λW H x y dx dy Q ok rx ry hg=>?_⟩,gNeS.mono⟩;obtain⟨a,b,rfl,rfl,q⟩:=hg;cases rx;cases ry;have e:decide (V.str a=V.str b)=(a==b):=by rw[kE];simp
 rw[<-e] at q;exact⟨rfl,q.now ok (.bl _)⟩
end
def xa(q:Q (.bl false)):gNeS (.str x) (.str x) Q:=⟨x,x,rfl,rfl,by rw[Oj];exact q⟩
section
variable{p:Pos}{g:WG}
def Cu:WE:=λ_ _ _=>False
theorem Lp:PX X EX e Cu:=⟨⟨λ_ _ _=>False,λ_ _ _ _ _ _ h=>h.elim,λ_ _ _ _ _ _ _ _ _ _ h=>h.elim⟩,λ_ _ _ _ _ h=>h⟩
theorem Lq{t:WA}{T:TE}(k:∀W0 H0 W σ H ρ E Q,SOk X.K W0 H0 W σ H ρ->jv X.K W0 H0 E EX->t E ρ (λds=>∀a vs W' H',Ext W H W' H'->H' a=some (.lst vs)->W'.G a=none->¬W'.Pn a->H a=none->Reps X.K W' vs ds->Q (.ref a) H')->T σ H Q)
  (m:∀E ρ P P',(∀d,P d->P' d)->t E ρ P->t E ρ P') (i:Nat):∀W0 H0 W σ H ρ E Q,SOk X.K W0 H0 W σ H ρ->jv X.K W0 H0 E EX->df i t E ρ (λds=>∀a vs W' H',Ext W H W' H'->H' a=some (.lst vs)->W'.G a=none->¬W'.Pn a->H a=none->Reps X.K W' vs ds->Q (.ref a) H')->T σ H Q:=by
 intro W0 H0 W σ H ρ E Q s eo h;unfold df at h;rcases s.lend i with ep|⟨a,us,s',e3,e2,e6⟩
 .rw[ep] at h
  exact k W0 H0 W σ H ρ E Q s eo (m _ _ _ _ (λd hd=>hd.2) h)
 .refine k W0 H0 _ σ H _ E Q s' eo (m _ _ _ _ (λd hd b vs W2 H2 x2 h1 h2 h3 h4 r2=>?_) h)
  have hb:b≠a:=λz=>by rw[z,e2] at h4;cases h4
  exact hd.2 b vs _ H2 (x2.bor e3) h1 (by rw[Wd.rem_ne hb];exact h2) h3 h4 (r2.rem (x2.g _ _ e6) hd.1)
theorem Lr(i j:Nat)(vars:List Str)(sel:List Nat)(hc:X.calm=true)(hN:X.N.Nodup)(hi:lZ X EX target iter wi)(hg:∀s H fp,qr (X.lc sc vars sel s H fp) target g)(hf:∀s H fp,ue (X.lc sc vars sel s H fp) E0 ifs wf)(he:∀s H fp,PX (X.lc sc vars sel s H fp) E0 elt we)
  (hix:X.N[i]? = some x:=by rfl) (hx:lS X.env.scope x:=by first|exact Or.inl rfl|exact Or.inr rfl)
  (hsw:swapsWith (.ListComp elt [⟨target,iter,ifs,0⟩] sc pos) (some (.Name x pos')) spos.line X.env=pure true:=by rfl)
  (ok:lU sc X.env.scope=true:=by rfl) (so:sS X.N sc sel=true:=by rfl) (hs:∀x,foldedSetIterable iter X.env x=pure x:=by intro _;rfl) (hfn:X.fn x=true\/X.env.scope.names.lookup x=some .local:=by first|exact .inl rfl|exact .inr rfl|assumption) :
  PZ X EX (.Assign [.Name x pos'] (.ListComp elt [⟨target,iter,ifs,0⟩] sc pos) spos) (cH i (df j (aLC wi vars.length sel g wf we))):=by
 obtain⟨ti,tg,tf,te,pi,pg,pf,pe,k⟩:=BK hi hg hf he;have am:=aLC.mono (vars:=vars) (sel:=sel) hi (hg {} (λ_=>none) []).mono (hf {} (λ_=>none) []).mono (he {} (λ_=>none) []).mono;refine⟨⟨_,En vars sel hc hN hix hx pi ok so pg pf pe hsw hs hfn,λW0 H0 F W σ H ρ E Dn N s fl eo no h=>?_⟩,λE ρ N N' hl q=>am _ _ _ _ (λ_ hq=>⟨hq.1,hl.nx _ hq.2⟩) q⟩;refine Lq k am j W0 H0 W σ H ρ E _ s eo (am _ _ _ _ (λxs hd=>⟨hd.1,λa vs W1 H1 x1 e1 e2 e3 e4 r1=>no.nx W1 _ H1 _ (s.own x1 e4 e1 e2 e3 r1) (fl.ext x1) hd.2⟩) h)
def Gi:D->Bool
 |.non=>true
 |.bl _=>true
 |_=>false
def Cv:D->D->Bool
 |.non,.non=>true
 |.bl a,.bl b=>a==b
 |_,_=>false
def gIsC(neg:Bool):G2:=λx y Q=>Gi y=true/\Q (.bl (if neg then !Cv x y else Cv x y))
theorem gIsC.mono{neg:Bool}:∀x y P P',(∀d,P d->P' d)->gIsC neg x y P->gIsC neg x y P':=λ_ _ _ _ hp h=>⟨h.1,hp _ h.2⟩
theorem Gj{W:Wd}{x y:V}{v u:Value}{dx dy:D}(r1:Rep K W x dx)(r2:Rep K W y dy)(rx:RelV x v)(ry:RelV y u)(h:Gi dy=true):plainIs v u=true/\(v==u)=Cv dx dy:=by
  cases r2<;>first
    |(cases h;done)
    | (cases ry;cases r1<;>first
        |(cases rx;first|exact⟨rfl,rfl⟩|(rename_i a b;cases a<;>cases b<;>exact⟨rfl,rfl⟩))
        |(obtain⟨t,rfl⟩:=rx;exact⟨rfl,rfl⟩))
theorem Cw:fT X (compareOp .Is) (gIsC false):=by
 refine⟨⟨λx y H Q=>∃W dx dy,WOk W H/\Rep X.K W x dx/\Rep X.K W y dy/\gIsC false dx dy (RQ X.K W H Q),?_,λW H x y dx dy Q ok rx ry hg=>⟨W,dx,dy,ok,rx,ry,hg⟩⟩,gIsC.mono⟩;rintro pins s σ H x y v u Q I rx ry ⟨W,dx,dy,ok,r1,r2,h1,h2⟩;obtain⟨p,e⟩:=Gj r1 r2 rx ry h1;exact wpAny_is_plain p (bQ I (h2.now ok (.bl _)) (by rw[e];rfl))
theorem Cy:fT X (compareOp .IsNot) (gIsC true):=by
 refine⟨⟨λx y H Q=>∃W dx dy,WOk W H/\Rep X.K W x dx/\Rep X.K W y dy/\gIsC true dx dy (RQ X.K W H Q),?_,λW H x y dx dy Q ok rx ry hg=>⟨W,dx,dy,ok,rx,ry,hg⟩⟩,gIsC.mono⟩;rintro pins s σ H x y v u Q I rx ry ⟨W,dx,dy,ok,r1,r2,h1,h2⟩;obtain⟨p,e⟩:=Gj r1 r2 rx ry h1;exact wpAny_isNot_plain p (bQ I (h2.now ok (.bl _)) (by rw[e];rfl))
end
mutual
def i7:D->Option PyData
 |.non=>some .none
 |.bl b=>some (.bool b)
 |.int i=>some (.int i)
 |.str x=>some (.str x)
 |.tup xs=>(fZ xs).map .tuple
 |.lst xs=>(fZ xs).map .list
 |.dic=>some (.dict [])
 |_=>none
def fZ:List D->Option (List PyData)
 |[]=>some []
 |x::r=>match i7 x,fZ r with
  |some a,some b=>some (a::b)
  |_,_=>none
end
mutual
def jh:D->Bool
 |.lst _=>false
 |.tup xs=>kx xs
 |_=>true
def kx:List D->Bool
 |[]=>true
 |x::r=>jh x&&kx r
end
section
variable{s:Shared}{W:Wd}
mutual
theorem Gk(I:Inv X pins σ H s)(ok:WOk W H):∀{v:V} {d:D} {u:Value} {p:PyData},Rep X.K W v d->RelV v u->i7 d=some p->∃as,Reads s.heap u p as/\(jh d=true->sysModules∉as)
 |_,_,u,p,.non,r,e=>by cases e;cases r;exact⟨_,.none,λ_=>by simp⟩
 |_,_,u,p,.bl b,r,e=>by cases e;cases r;exact⟨_,.bool b,λ_=>by simp⟩
 |_,_,u,p,.int i,r,e=>by cases e;obtain⟨t,rfl⟩:=r;exact⟨_,.int i t,λ_=>by simp⟩
 |_,_,u,p,.str x,r,e=>by cases e;obtain⟨t,rfl⟩:=r;exact⟨_,.str x t,λ_=>by simp⟩
 |.ref a,.tup ds,u,p,.tup e0 rs,r,e=>by
  cases r;cases q:fZ ds with
  |none=>rw[i7,q] at e;cases e
  |some ps=>
   rw[i7,q] at e;cases e;obtain⟨its,rv,⟨o,h1,h2,n,h3⟩,_⟩:=I.tuple (xs:=_) (SqT.of (ok.g _ _ e0));obtain⟨as,ra,hs⟩:=zI I ok rs rv q;exact⟨_,.tuple h1 h2 h3 (by simpa using ra),λz=>hs (by rw[jh] at z;exact z)⟩
 |.ref a,.tup ds,u,p,.ktup e0 rs,r,e=>by
  cases r;cases q:fZ ds with
  |none=>rw[i7,q] at e;cases e
  |some ps=>
   rw[i7,q] at e;cases e;obtain⟨its,rv,⟨o,h1,h2,n,h3⟩,_⟩:=I.tuple (xs:=_) (.inr e0);obtain⟨as,ra,hs⟩:=zI I ok rs rv q;exact⟨_,.tuple h1 h2 h3 (by simpa using ra),λz=>hs (by rw[jh] at z;exact z)⟩
 |.ref a,.lst ds,u,p,.lst e0 rs,r,e=>by
  cases r;cases q:fZ ds with
  |none=>rw[i7,q] at e;cases e
  |some ps=>
   rw[i7,q] at e;cases e;obtain⟨its,rv,⟨o,n,h1,h2,h3,h4⟩,_⟩:=I.list (xs:=_) (SqL.of (ok.g _ _ e0));obtain⟨as,ra,hs⟩:=zI I ok rs rv q;exact⟨_,.list h1 h2 h4 (by simpa using ra),λz=>by rw[jh] at z;cases z⟩
 |.ref a,.dic,u,p,.dic e0,r,e=>by
  cases r;cases e;have ho:=I.hok _ _ (ok.g _ _ e0);obtain⟨_,hn,vs,kv,o,es,n,h1,h2,h3,_,h4,_⟩:=ho;cases kv;have e:es.toList=[]:=by
   generalize es.toList=l at h4;cases h4;rfl
  refine⟨_,.dict h1 h2.1 h3 (as:=[]) (bs:=[]) ?_ ?_,λ_=>?_⟩
  .rw[e];exact .nil
  .rw[e];exact .nil
  .have:=beq_eq_false_iff_ne.mp hn
   simpa using λz=>this z.symm
 |_,_,u,p,.pen _,r,e=>by rw[i7] at e<;>first|cases e|(intros;rename_i z;cases z)
 |_,_,u,p,.cls _,r,e=>by rw[i7] at e<;>first|cases e|(intros;rename_i z;cases z)
 |_,_,u,p,.exc _ _ _,r,e=>by rw[i7] at e<;>first|cases e|(intros;rename_i z;cases z)
 |_,_,u,p,.ty _,r,e=>by rw[i7] at e<;>first|cases e|(intros;rename_i z;cases z)
 |_,_,u,p,.scr _ _,r,e=>by rw[i7] at e<;>first|cases e|(intros;rename_i z;cases z)
theorem zI(I:Inv X pins σ H s)(ok:WOk W H):∀{vs:List V} {ds:List D} {us:List Value} {ps:List PyData},Reps X.K W vs ds->Vals vs us->fZ ds=some ps->∃as,ReadsAll s.heap us ps as/\(kx ds=true->sysModules∉as)
 |_,_,us,ps,.nil,r,e=>by rw[fZ] at e;cases e;cases r;exact⟨_,.nil,λ_=>by simp⟩
 |_,d::ds,us,ps,.cons rd rs,r,e=>by
  rw[fZ] at e;cases q1:i7 d with
  |none=>rw[q1] at e;cases e
  |some a=>
   cases q2:fZ ds with
   |none=>rw[q1,q2] at e;cases e
   |some b=>
    rw[q1,q2] at e;cases e;cases r with
    |cons r1 r2=>
     obtain⟨as,ha,h1⟩:=Gk I ok rd r1 q1;obtain⟨bs,hb,h2⟩:=zI I ok rs r2 q2;exact ⟨_,.cons ha hb,λq z=>by
      rw[kx,cT] at q;exact(Yap.mp z).elim (h1 q.1) (h2 q.2)⟩
end
def Zfl:List D->(D->Prop)->Prop:=λds Q=>∃x p,ds=[x]/\i7 x=some p/\p.showable=true/\(p.hasDict=true->jh x=true)/\p.depth<=32/\p.shown.length<=sizeLine/\Q (.str p.shown)
theorem Zfl.mono:∀ds P P',(∀d,P d->P' d)->Zfl ds P->Zfl ds P':=λds P P' hp ⟨x,p,h1,h2,h3,h4,h5,h6,h7⟩=>⟨x,p,h1,h2,h3,h4,h5,h6,hp _ h7⟩
theorem rj(hg:X.A.guards=some [])(hu:X.A.units+64<cLine):d8 X (.builtin "repr") Zfl:=by
 refine⟨⟨λvs H Q=>∃W ds,WOk W H/\Reps X.K W vs ds/\Zfl ds (RQ X.K W H Q),?_,λW H vs ds Q ok r hg=>⟨W,ds,ok,r,hg⟩⟩,Zfl.mono⟩;rintro pins s σ H vs us Q I rv ⟨W,ds,ok,rs,x,p,rfl,h1,h2,h3,h4,h5,q⟩;obtain⟨v,rfl,r⟩:=rs.one;obtain⟨u,rfl,ru⟩:=eN rv;obtain⟨as,ra,hs⟩:=Gk I ok r ru h1;have fin:∀{s':Shared} {tk:Tok},Inv X pins σ H s'->EP X pins σ Q (.str p.shown tk) s':=λI'=>⟨.str _,H,I',⟨_,rfl⟩,q.now ok (.str _)⟩;cases u with
 |ref a=>exact repr_of_reads' ra h2 (λz=>hs (h3 z)) hg (by omega) (λ_ _ e=>e) (λh' u tk hk=>fin (I.kept hk)) h5
 |none=>cases ra;exact PySem.P.repr_of_none (fin (I.tok _))
 |bool b=>cases ra;exact PySem.P.repr_of_bool (fin (I.tok _))
 |int i t=>cases ra;exact PySem.P.repr_of_int (by simpa[PyData.showable] using h2) (fin (I.tok _))
 |str y t=>cases ra;exact PySem.P.repr_of_str (fin (I.tok _)) h5
 |_=>cases ra
end
mutual
def bx(b:Nat):D->Nat->Bool
 |.non,_=>true
 |.bl _,_=>true
 |.int i,_=>decide (i.natAbs<2^90)
 |.str x,_=>decide (x.cps.size<=4)&&x.cps.toList.all λc=>decide (c<16^8)
 |.dic,_=>true
 |.tup xs,n=>decide (0<n)&&decide (xs.length<=b)&&jQ b xs (n-1)
 |.lst xs,n=>decide (0<n)&&decide (xs.length<=b)&&jQ b xs (n-1)
 |.pen,_=>false
 |.cls _,_=>false
 |.exc _,_=>false
 |.ty _,_=>false
 |.scr _,_=>false
def jQ(b:Nat):List D->Nat->Bool
 |[],_=>true
 |x::r,n=>bx b x n&&jQ b r n
end
mutual
def iw:D->Bool
 |.dic=>false
 |.tup xs=>gH xs
 |.lst xs=>gH xs
 |_=>true
def gH:List D->Bool
 |[]=>true
 |x::r=>iw x&&gH r
end
def Bk(b:Nat):Nat->Nat
 |0=>4
 |n+1=>b*(Bk b n+1)
theorem xb{b:Nat}(h:1<=b):∀n,4<=Bk b n
 |0=>bM _
 |n+1=>by
  have:=xb h n;have:1*(Bk b n+1)<=b*(Bk b n+1):=qJ _ h;rw[Bk];omega
theorem zJ:∀{xs:List D},kx xs=true↔∀x∈xs,jh x=true
 |[]=>by simp[kx]
 |x::r=>by rw[kx,cT,zJ];simp
theorem xc:∀{xs:List D},gH xs=true↔∀x∈xs,iw x=true
 |[]=>by simp[gH]
 |x::r=>by rw[gH,cT,xc];simp
def Gm(x:D):Str:=((i7 x).getD .none).shown
def dl(x:D):Bool:=jh x||iw x
def Ls(q:Rat):jh (shq q)=true:=rfl
def Lu(q:Rat):iw (shq q)=true:=rfl
theorem Cz(r:List Rat):jh (aK r)=true:=by
 unfold aK;rw[jh,zJ];intro x hx;obtain⟨q,_,rfl⟩:=YbU.mp hx;exact Ls q
theorem zK(r:List Rat):iw (aK r)=true:=by
 unfold aK;rw[iw,xc];intro x hx;obtain⟨q,_,rfl⟩:=YbU.mp hx;exact Lu q
def tG(T:List (List Rat)):D:=.tup (T.map aK)
def xg:D->Bool
 |.tup xs=>decide (1<=xs.length)&&decide (xs.length<=5)&&xs.all (jN xs.length)
 |_=>false
def fh(B:List (List Rat))(j:Nat):List Rat:=B.map λl=>l.getD j 0
structure IsT(T:List (List Rat))(n:Nat):Prop where
 len:T.length=n
 row:∀r∈T,r.length=n
 n1:1<=n
 n5:n<=5
def SzT(m:Nat)(T:List (List Rat)):Prop:=∀r∈T,∀x∈r,Sz m x
section
variable{E:Ex->Prop}{x:D}
theorem IsT.tb{T:List (List Rat)}(h:IsT T n):xg (tG T)=true:=by
 have h1:=h.n1;have h5:=h.n5;have hl:=h.len;unfold xg tG;simp only[bP];rw[N9 (by omega),N9 (by omega)];simp only[tX,Ybh];intro x hx;obtain⟨r,hr,rfl⟩:=YbU.mp hx;rw[hl,<-h.row r hr];exact B1 r
theorem IsT.kd{T:List (List Rat)}{n:Nat}(h:IsT T n):kd (tG T)=true:=by
 have h5:=h.n5;have hl:=h.len;refine kP (by simp;omega) λx hx=>?_;obtain⟨r,hr,rfl⟩:=YbU.mp hx;exact zj (by have:=h.row r hr;omega)
def uu(B:List (List Rat))(j:Nat):(fh B j).length=B.length:=by unfold fh;rw[bP]
end
namespace B
section
variable{E:Ex->Prop}{x:D}{a b:Int}
end
end B
theorem SzT.mono{m m':Nat}{T:List (List Rat)}(h:SzT m T)(l:m<=m'):SzT m' T:=λr hr x hx=>(h r hr x hx).mono l
namespace B
theorem cut_two{α:Type}(xs:List α)(k:Nat):(bA xs none (some (k:Int))).length+(bA xs (some ((k:Int)+1)) none).length<=xs.length:=by
 unfold bA;rw[show(k:Int)+1=((k+1:Nat):Int) by omega,HT.sIx_nat,HT.sIx_none,HT.sIx_nat,HT.sIx_none];simp only[gT,ja];omega
theorem mem_cut{α:Type}{xs:List α}{a b:Option Int}{x:α}(h:x∈bA xs a b):x∈xs:=by unfold bA at h;exact k6 (pI h)
theorem Gn(h:(∀x∈xs,jh x=true)\/∀x∈xs,iw x=true):dl (.tup xs)=true:=by
 unfold dl;rw[jh,iw,uR,zJ,xc];exact h
theorem dl_lst(h:∀x∈xs,iw x=true):dl (.lst xs)=true:=by
 unfold dl;rw[jh,iw,uR,xc];exact .inr h
theorem nm_at{E:Ex->Prop}(h:ρ[i]? = some (.d d)):∀P:D->Prop,P d->wN i E ρ P:=λP q=>by unfold wN;rw[h];exact q
end B
section
variable{p ps:Pos}{a b:Expr}
def fi:Nat->List D->List D
 |_,[]=>[]
 |i,x::xs=>.tup [.int i,x]::fi (i+1) xs
theorem CA:∀(i:Nat) (xs:List D),(fi i xs).length=xs.length
 |_,[]=>rfl
 |i,x::xs=>by rw[fi,dQ,dQ,CA]
theorem CB:∀(i j:Nat) (xs:List D) (d:D),(fi i xs)[j]? = some d->∃x,xs[j]? = some x/\d=.tup [.int ((i+j:Nat):Int),x]
 |_,_,[],_,h=>by simp[fi] at h
 |i,0,x::xs,d,h=>by
  rw[fi,dO] at h;exact⟨x,rfl,(N8 h).symm⟩
 |i,j+1,x::xs,d,h=>by
  rw[fi,fN] at h;obtain⟨y,e1,e2⟩:=CB (i+1) j xs d h;exact⟨y,by rw[fN];exact e1,by rw[e2,show i+1+j=i+(j+1) by omega]⟩
def iE(t:WA):WA:=λE ρ Q=>t E ρ λds=>match ds with
 |[x]=>isS (λxs=>Q (fi 0 xs)) x
 |_=>False
theorem uv{t:WA}(hm:X.mg "enumerate" = none)(ha:iW X EX [a] t)(hg:Gl X "enumerate" :=by rfl)(hs:starEach [a] X.env=[(false,eval a X.env)]:=by rfl) :
  lZ X EX (.Tuple es n1 ps) (.Call (.Name "enumerate" p) [a] [] pos) (iE t):=by
 obtain⟨t,q,k⟩:=ha.t;refine⟨⟨_,Jm hg hm q hs,λW0 H0 W σ H ρ E R s eo h=>?_⟩,λE ρ P P' hp h=>ha.mono _ _ _ _ (λds hd=>?_) h⟩
 .refine k W0 H0 W σ H ρ E _ s eo (ha.mono _ _ _ _ (λds hd vs W1 H1 x1 r1=>?_) h)
  split at hd
  .obtain⟨v,rfl,rv⟩:=r1.one
   obtain⟨κ,l,vs,xs,rfl,rr,hd,sq⟩:=rv.sq hd;refine⟨κ,l,rfl,⟨vs,sq W1 H1 (λ_ _ z=>z) x1.ok⟩,hd W1 H1 _ x1 λW2 H2 i g2 p2 ok2=>⟨λd hd=>?_,λhi=>?_⟩⟩
   .have s1:=sq W2 H2 g2 ok2
    obtain⟨x,ex,rfl⟩:=CB 0 i xs d hd;obtain⟨vx,evx,rvx⟩:=rr.get ex;refine⟨⟨vs,vx,s1,evx⟩,λz H3 hy=>?_⟩;obtain⟨q,x',rfl,hq,rfl,e1⟩:=hy;have e1:=e1 _ s1;rw[evx] at e1;cases e1;have xt:=Ext.put (o:=.tup [.int i,vx]) ok2 hq;rw[rM];exact⟨_,xt,.tup (by unfold Wd.put;dsimp only;rw[aL]) (.cons (.int _) (.cons (xt.rep (rvx.mono g2 p2)) .nil))⟩
   .refine⟨vs,sq W2 H2 g2 ok2,?_⟩
    rw[rr.length];rw[CA] at hi;omega
  .exact hd.elim
 .split at hd
  .exact isS.mono (λxs h1=>hp _ h1) _ hd
  .exact hd.elim
end
section
variable{p p1 ps sp1 sp2:Pos}{a b:Expr}
def is2(Q:D->D->Prop):D->Prop
 |.tup [x,y]=>Q x y
 |_=>False
theorem is2.mono{Q Q':D->D->Prop}(h:∀x y,Q x y->Q' x y):∀d,is2 Q d->is2 Q' d:=λd z=>by
 unfold is2 at z ⊢;split at z
 .exact h _ _ z
 .exact z.elim
theorem Lv{Q:D->D->Prop}(h:is2 Q d):∃x y,d=.tup [x,y]/\Q x y:=by
 unfold is2 at h;split at h
 .exact⟨_,_,rfl,h⟩
 .exact h.elim
def uw(i:Nat)(wv w1 w2:WE):WS:=λE N ρ=>match ρ[i]? with
 |some (.ow xs)=>wv E ρ (is2 λx y=>w1 E ρ (isI λk1=>∃j1,jb xs.length k1=some j1/\w2 E (ρ.set i (.ow (xs.set j1 x))) (isI λk2=>∃j2,jb xs.length k2=some j2/\N.nx (ρ.set i (.ow ((xs.set j1 x).set j2 y))))))
 |_=>False
theorem Lw(i:Nat){w1 w2:WE}{fY ix2:Expr}{kt:Nat}{pt:Pos}(he:PX X EX e wv)(h1:PX X EX fY w1)(h2:PX X EX ix2 w2)(hc:X.calm=true:=by rfl)(hN:X.N[i]? = some x:=by rfl)(hv:kF X.env.scope x:=by first|exact Or.inl rfl|exact Or.inr (Or.inl rfl)|exact Or.inr (Or.inr rfl))(hd:(x==("__debug__" : Str))=false:=by decide)
  (hcd:(x==("__classdict__" : Str))=false:=by decide)
  (ha1:∀ v,assign (.Subscript (.Name x p1) fY sp1) X.env v=(do
   let ov <-holding [v] (eval (.Name x p1) X.env)
   let iv <-holding [v,ov] (eval fY X.env)
   standAt sp1
   holding [v,ov,iv] (setItem ov iv v)
   release [v,ov,iv] []):=by intro _;rfl)
  (ha2:∀ v,assign (.Subscript (.Name x p2) ix2 sp2) X.env v=(do
   let ov <-holding [v] (eval (.Name x p2) X.env)
   let iv <-holding [v,ov] (eval ix2 X.env)
   standAt sp2
   holding [v,ov,iv] (setItem ov iv v)
   release [v,ov,iv] []):=by intro _;rfl)
  (hs1:(assignEach [.Subscript (.Name x p1) fY sp1,.Subscript (.Name x p2) ix2 sp2] X.env).map (·.2)=assign (.Subscript (.Name x p1) fY sp1) X.env::(assignEach [.Subscript (.Name x p2) ix2 sp2] X.env).map (·.2):=by rfl)
  (hs2:(assignEach [.Subscript (.Name x p2) ix2 sp2] X.env).map (·.2)=assign (.Subscript (.Name x p2) ix2 sp2) X.env::(assignEach [] X.env).map (·.2):=by rfl)
  (hn:(assignEach [.Subscript (.Name x p1) fY sp1,.Subscript (.Name x p2) ix2 sp2] X.env).length=2:=by rfl) (hst:(assignEach [.Subscript (.Name x p1) fY sp1,.Subscript (.Name x p2) ix2 sp2] X.env).findIdx? (·.1)=none:=by rfl)
  (hs:swapsWithSole [.Tuple [.Subscript (.Name x p1) fY sp1,.Subscript (.Name x p2) ix2 sp2] kt pt] e pos.line X.env=pure false:=by rfl) (hw:swappedStores [.Tuple [.Subscript (.Name x p1) fY sp1,.Subscript (.Name x p2) ix2 sp2] kt pt] e X.env=pure none:=by rfl)
  (h3:(assignEach [.Tuple [.Subscript (.Name x p1) fY sp1,.Subscript (.Name x p2) ix2 sp2] kt pt] X.env).map (·.2)=[assign (.Tuple [.Subscript (.Name x p1) fY sp1,.Subscript (.Name x p2) ix2 sp2] kt pt) X.env]:=by rfl) :
  PZ X EX (.Assign [.Tuple [.Subscript (.Name x p1) fY sp1,.Subscript (.Name x p2) ix2 sp2] kt pt] e pos) (uw i wv w1 w2):=by
 obtain⟨t,pe,k⟩:=he.t;obtain⟨t1,pi1,k1⟩:=h1.t;obtain⟨t2,pi2,k2⟩:=h2.t;refine⟨⟨_,iH pe (my hc (gv (iG (c6 hN hv hd hcd) pi1 eW ha1) (gv (iG (c6 hN hv hd hcd) pi2 eW ha2) kI hs2) hs1) hn hst) hs hw h3,λW0 H0 F W σ H ρ E Dn N s fl eo no h=>?_⟩,λE ρ N N' hl q=>?_⟩
 .unfold uw at h
  split at h
  .rename_i xs ex
   obtain⟨a,vs,e1,e2,e3,e4,e5,r⟩:=s.o i xs ex;have hi:i<ρ.length:=(Yar.mp ex).1;refine k W0 H0 W σ H ρ E _ s eo (he.mono _ _ _ _ (λd hd v W1 H1 x1 r1=>?_) h);obtain⟨dx,dy,rfl,hd⟩:=Lv hd;obtain⟨q,us,rfl,sq,ru⟩:=r1.sqt x1.ok;obtain⟨vx,vy,rfl,rx,ry⟩:=ru.two;refine⟨q,[vx,vy],rfl,sq,rfl,vx,[vy],rfl,⟨_,e1,?_⟩⟩;refine k1 W0 H0 W1 σ H1 ρ E _ (s.step x1) eo (h1.mono _ _ _ _ (λdi hdi vi W2 H2 x2 r2=>?_) hd);obtain⟨kk,rfl,j,hj,hn2⟩:=nR hdi;cases r2;have xx:=x1.trans x2;have e2':=xx.h a _ e2 e4;refine⟨a,vs,kk,j,rfl,rfl,e2',by rw[r.length];exact hj,?_⟩;have s2:=(s.step xx).chg ex e1 (Reps.set (x2.rep rx) j (xx.reps r));refine⟨vy,[],rfl,⟨_,e1,?_⟩⟩;have ex2:(ρ.set i (.ow (xs.set j dx)))[i]? = some (.ow (xs.set j dx)):=eP hi;obtain⟨a',vs',f1,f2,f3,f4,f5,fr⟩:=s2.o i _ ex2;refine k2 W0 H0 W2 σ _ _ E _ s2 eo (h2.mono _ _ _ _ (λdk hdk vk W3 H3 x3 r3=>?_) hn2);obtain⟨k',rfl,j',hj',hn3⟩:=nR hdk;cases r3;have ea:a'=a:=by rw[e1] at f1;cases f1;rfl
   subst ea;have e2'':=x3.h _ _ f2 f4;refine⟨_,vs',k',j',rfl,rfl,e2'',by rw[fr.length,dv];exact hj',rfl,?_⟩;have s3:=(s2.step x3).chg ex2 e1 (Reps.set (x3.rep (x2.rep ry)) j' (x3.reps fr));rw[List.set_set] at s3;exact no.nx W3 σ _ _ s3 ((fl.ext xx).ext x3 |> λz=>z) hn3
  .exact h.elim
 .unfold uw at q ⊢
  split at q
  .exact he.mono _ _ _ _ (is2.mono λx y hxy=>h1.mono _ _ _ _ (isI.mono λk1 ⟨j1,a1,b1⟩=>⟨j1,a1,h2.mono _ _ _ _ (isI.mono λk2 ⟨j2,a2,b2⟩=>⟨j2,a2,hl.nx _ b2⟩) b1⟩) hxy) q
  .exact q.elim
end
section
variable{p p1:Pos}{a:Expr}
end
def Go(f l:List Rat)(i j k:Nat):Rat:=f.getD (i-k) 0*l.getD (f.length-1-j+k) 0
def Lx(f l:List Rat)(i j k:Nat):Rat:=l.getD (i-k-1) 0*f.getD (f.length-j+k) 0
def sp(f l:List Rat)(i j:Nat):Nat->Rat
 |0=>0
 |k+1=>if k<min i j then sp f l i j k+Go f l i j k-Lx f l i j k else sp f l i j k+Go f l i j k
section
variable{E:Ex->Prop}{f l:List Rat}
end
abbrev Znz:List Str:=["one", "other"]
def Gp:WS:=(aM (wF tx (aC (w2 fH (w2 gMul (w2 gIx (wN 0) (wC (D.int (0)))) (w2 gIx (wN 1) (wC (D.int (1))))) (w2 gMul (w2 gIx (wN 1) (wC (D.int (0)))) (w2 gIx (wN 0) (wC (D.int (1)))))) (aC (w2 gMul (w2 gIx (wN 0) (wC (D.int (1)))) (w2 gIx (wN 1) (wC (D.int (1))))) aA))))
abbrev N_by:List Str:=["one", "other"]
def xh:WS:=(aM (wF tx (aC (w2 gMul (w2 gIx (wN 0) (wC (D.int (0)))) (w2 gIx (wN 1) (wC (D.int (1))))) (aC (w2 gMul (w2 gIx (wN 0) (wC (D.int (1)))) (w2 gIx (wN 1) (wC (D.int (0))))) aA))))
theorem Ly:Rd wQ Gp Znz:=by
 rintro _ E Q ⟨⟨p,q⟩,rfl,hb,h⟩;obtain⟨b1,b2,b3,b4,b5,b6,b7,b8⟩:=hb.mul;unfold Gp;simp only[aM,wF,aC,w2,wN,wC,dS,da,ic,dO,fN];refine rg (fY ⟨b1,rg (fY ⟨b2,?_⟩)⟩);dsimp only;simp only[gG,true_and];refine fY (fY ⟨b3,?_⟩);refine⟨(_,_),rfl,⟨b6,b5⟩,?_⟩;dsimp only at h ⊢;have e:Rat.divInt (p.num*q.den-q.num*p.den) ((p.den:Int)*q.den)=p-q:=by
  rw[Rat.sub_def',<-AB];rfl
 rw[e];exact h
theorem xj:Rd qv xh N_by:=by
 rintro _ E Q ⟨⟨p,q⟩,rfl,⟨hb,h0⟩,h⟩;dsimp only at hb h0 h;obtain⟨b1,b2,b3,b4,b5,b6,b7,b8⟩:=hb.mul;unfold xh;simp only[aM,wF,aC,w2,wN,wC,dS,da,ic,dO,fN];refine rg (fY ⟨b1,fY (rg ⟨b7,?_⟩)⟩);have hq:q.num≠0:=λz=>h0 (Ycw.mp z);refine⟨(_,_),rfl,⟨pJ (by exact_mod_cast p.den_nz) hq,b8⟩,?_⟩;dsimp only at h ⊢;have e:Rat.divInt (p.num*q.den) ((p.den:Int)*q.num)=p/q:=by
  rw[gL,Rat.inv_def];have:p*Rat.divInt (q.den:Int) q.num=Rat.divInt p.num p.den*Rat.divInt (q.den:Int) q.num:=by rw[uU]
  rw[this,qK]
 rw[e];exact h
theorem Lz(p q:Rat):gE (shq p) (shq q)=decide (p=q):=by
 unfold shq;rw[Ll,kE];simp only[cT,Oy,N7];constructor
 .rintro⟨h1,h2⟩
  exact Rat.ext h1 (by exact_mod_cast h2)
 .rintro rfl
  exact⟨rfl,rfl⟩
namespace B.C
def ga(r:List Int)(k:Nat):Int:=r.getD k 0
def gr(t:List (List Int))(k:Nat):List Int:=t.getD k []
def jB(row here:List Int)(a:Nat)(last:Int):List Int:=(List.range row.length).map λj=>(ga row j*ga here a-ga row a*ga here j).fdiv last
def lM(t:List (List Int))(a:Nat):List Nat:=((List.range (t.length-a)).map (a + ·)).filter λk=>ga (gr t k) a != 0
def ee(t:List (List Int))(a g:Nat):List (List Int):=(t.set a (gr t g)).set g (gr t a)
def gI(t:List (List Int))(a k:Nat)(last:Int):List (List Int):=(List.range t.length).map λi=>if a<i/\i<k then jB (gr t i) (gr t a) a last else gr t i
structure tH where
 t:List (List Int)
 s:Int
 l:Int
def ky(a:Nat)(x:tH):Option tH:=match lM x.t a with
 |[]=>none
 |g::_=>let t1:=ee x.t a g
  let t2:=gI t1 a t1.length x.l
  some ⟨t2,x.s*(1-2*(if g=a then 0 else 1)),ga (gr t2 a) a⟩
def fj(t:List (List Int)):Nat->Option tH
 |0=>some ⟨t,1,1⟩
 |a+1=>(fj t a).bind (ky a)
def jC(t:List (List Int)):Int:=match fj t t.length with
 |none=>0
 |some x=>x.s*x.l
def Gq(c:Nat):Nat->Nat
 |0=>c
 |a+1=>2*Gq c a+1
abbrev bt:Nat->Nat:=Gq 6
structure Sm(b n:Nat)(t:List (List Int)):Prop where
 len:t.length=n
 row:∀r∈t,r.length=n
 sm:∀r∈t,∀x∈r,x.natAbs<2^b
theorem Sm.up{c:Nat}(h:Sm b n t)(l:b<=c):Sm c n t:=⟨h.len,h.row,λr hr x hx=>cW (h.sm r hr x hx) (jH (by decide) l)⟩
def LA{a b:Int}(h:b≠0):(a.fdiv b).natAbs<=a.natAbs:=Int.natAbs_fdiv_le_natAbs a b
theorem Sm.gr{b n k:Nat}{t:List (List Int)}(h:Sm b n t)(hk:k<n):t[k]? = some (gr t k)/\(C.gr t k).length=n/\∀x∈C.gr t k,x.natAbs<2^b:=by
 have e:=h.len;have:t[k]? = some (C.gr t k):=by unfold C.gr;rw[aY,bR (by omega)];rfl
 have hm:=iz this;exact⟨this,h.row _ hm,h.sm _ hm⟩
theorem ga_lt{r:List Int}(h:∀x∈r,x.natAbs<2^b):(ga r k).natAbs<2^b:=by
 unfold ga;rw[aY];cases e:r[k]? with
 |none=>exact Nat.two_pow_pos b
 |some v=>exact h _ (iz e)
theorem ga_get{r:List Int}(h:r.length=n)(hk:k<n):r[k]? = some (ga r k):=by
 unfold ga;rw[aY,bR (by omega)];rfl
theorem tak_num{w x y z:Int}(h1:w.natAbs<2^b)(h2:x.natAbs<2^b)(h3:y.natAbs<2^b)(h4:z.natAbs<2^b):(w*x-y*z).natAbs<2^(2*b+1):=by
 have m1:(w*x).natAbs<2^b*2^b:=by rw[gq];exact tZ h1 h2
 have m2:(y*z).natAbs<2^b*2^b:=by rw[gq];exact tZ h3 h4
 have:=Int.natAbs_sub_le (w*x) (y*z);rw[uS,show 2*b=b+b by omega,rK];omega
theorem LB{a:Nat}{row here:List Int}{last:Int}(h1:row.length=n)(h2:∀x∈row,x.natAbs<2^b)(h3:∀x∈here,x.natAbs<2^b)(hl:last≠0):(jB row here a last).length=n/\∀x∈jB row here a last,x.natAbs<2^(2*b+1):=by
 refine⟨by unfold jB;rw[bP,nG];exact h1,λx hx=>?_⟩;obtain⟨j,_,rfl⟩:=YbU.mp hx;exact pG (LA hl) (tak_num (ga_lt h2) (ga_lt h3) (ga_lt h2) (ga_lt h3))
theorem zL{r:List Int}(h:i<t.length):gr (t.set i r) k=if k=i then r else gr t k:=by
 unfold gr;rw[aY,AE,aY]
 by_cases e:i=k
 .subst e
  rw[if_pos rfl,if_pos rfl,if_pos h];rfl
 .rw[if_neg e,if_neg (Ob e)]
theorem LC{a g:Nat}(h:Sm b n t)(ha:a<n)(hg:g<n):Sm b n (ee t a g):=by
 have e:=h.len;have m:∀r∈ee t a g,r∈t:=λr hr=>by
  unfold ee at hr;rcases AD hr with hr|rfl
  .rcases AD hr with hr|rfl
   .exact hr
   .exact iz (h.gr hg).1
  .exact iz (h.gr ha).1
 exact⟨by unfold ee;rw[dv,dv];exact e,λr hr=>h.row r (m r hr),λr hr=>h.sm r (m r hr)⟩
theorem Gr{a g:Nat}(h:Sm b n t)(ha:a<n)(hg:g<n):gr (ee t a g) a=gr t g:=by
 have e:=h.len;unfold ee;rw[zL (by rw[dv];omega)]
 by_cases z:a=g
 .subst z;rw[if_pos rfl]
 .rw[if_neg z,zL (by omega),if_pos rfl]
theorem LD{a g:Nat}(h:Sm b n t)(hg:g∈lM t a):a<=g/\g<n/\ga (gr t g) a≠0:=by
 have e:=h.len;unfold lM at hg;obtain⟨h1,h2⟩:=Yag.mp hg;obtain⟨k,hk,rfl⟩:=YbU.mp h1;rw[Yah] at hk;exact⟨by omega,by omega,by simpa using h2⟩
theorem CD{a:Nat}{l:Int}(hi:i<t.length):gr (gI t a k l) i=if a<i/\i<k then jB (gr t i) (gr t a) a l else gr t i:=by
 show(gI t a k l).getD i []=_;unfold gI;rw[aY,cA,iA hi];rfl
theorem LE{a:Nat}{l:Int}(h:Sm b n t)(ha:a<n)(hl:l≠0):Sm (2*b+1) n (gI t a k l):=by
 have e:=h.len;have key:∀r∈gI t a k l,r.length=n/\∀x∈r,x.natAbs<2^(2*b+1):=λr hr=>by
  unfold gI at hr;obtain⟨i,hi,rfl⟩:=YbU.mp hr;have hi':i<n:=by rw[<-e];simpa using hi
  split
  .exact LB (h.gr hi').2.1 (h.gr hi').2.2 (h.gr ha).2.2 hl
  .exact⟨(h.gr hi').2.1,λx hx=>cW ((h.gr hi').2.2 x hx) (jH (by decide) (by omega))⟩
 exact⟨by unfold gI;rw[bP,nG];exact e,λr hr=>(key r hr).1,λr hr=>(key r hr).2⟩
def tabD(t:List (List Int)):D:=.lst (t.map dP)
end B.C
namespace Dt
open B.C
def tA(t:List (List Int)):Nat->R:=λi j=>ga (gr t i) j
theorem xk(P:Nat->R){a:Nat}(ha:a<=4)(hk:k<a)(j:Nat):M P a k j=0:=by
 match a,ha,k,hk with
 |1,_,0,_=>have:=vR (P 0) (P 0) 0 j;show m2 _ _ _ _=0;omega
 |2,_,0,_=>have:=vS (P 0) (P 1) (P 0) 0 1 j;show m3 _ _ _ _ _ _=0;omega
 |2,_,1,_=>have:=yV (P 0) (P 1) (P 1) 0 1 j;show m3 _ _ _ _ _ _=0;omega
 |3,_,0,_=>have:=vT (P 0) (P 1) (P 2) (P 0) 0 1 2 j;show m4 _ _ _ _ _ _ _ _=0;omega
 |3,_,1,_=>have:=yX (P 0) (P 1) (P 2) (P 1) 0 1 2 j;show m4 _ _ _ _ _ _ _ _=0;omega
 |3,_,2,_=>have:=yW (P 0) (P 1) (P 2) (P 2) 0 1 2 j;show m4 _ _ _ _ _ _ _ _=0;omega
 |4,_,0,_=>have:=EG (P 0) (P 1) (P 2) (P 3) (P 0) 0 1 2 3 j;show m5 _ _ _ _ _ _ _ _ _ _=0;omega
 |4,_,1,_=>have:=EF (P 0) (P 1) (P 2) (P 3) (P 1) 0 1 2 3 j;show m5 _ _ _ _ _ _ _ _ _ _=0;omega
 |4,_,2,_=>have:=EE (P 0) (P 1) (P 2) (P 3) (P 2) 0 1 2 3 j;show m5 _ _ _ _ _ _ _ _ _ _=0;omega
 |4,_,3,_=>have:=ED (P 0) (P 1) (P 2) (P 3) (P 3) 0 1 2 3 j;show m5 _ _ _ _ _ _ _ _ _ _=0;omega
def nv(P:Nat->R)(a:Nat):Nat->Int:=λj=>match a,j with
 |0,0=>1
 |1,0=>- P 0 1
 |1,1=>P 0 0
 |2,0=>m2 (P 0) (P 1) 1 2
 |2,1=>- m2 (P 0) (P 1) 0 2
 |2,2=>m2 (P 0) (P 1) 0 1
 |3,0=>- m3 (P 0) (P 1) (P 2) 1 2 3
 |3,1=>m3 (P 0) (P 1) (P 2) 0 2 3
 |3,2=>- m3 (P 0) (P 1) (P 2) 0 1 3
 |3,3=>m3 (P 0) (P 1) (P 2) 0 1 2
 |4,0=>m4 (P 0) (P 1) (P 2) (P 3) 1 2 3 4
 |4,1=>- m4 (P 0) (P 1) (P 2) (P 3) 0 2 3 4
 |4,2=>m4 (P 0) (P 1) (P 2) (P 3) 0 1 3 4
 |4,3=>- m4 (P 0) (P 1) (P 2) (P 3) 0 1 2 4
 |4,4=>m4 (P 0) (P 1) (P 2) (P 3) 0 1 2 3
 |_,_=>0
theorem LF(P:Nat->R){a:Nat}(ha:a<=4)(h:a<j):nv P a j=0:=by
 match a,ha,j,h with
 |0,_,_+1,_=>rfl
 |1,_,_+2,_=>rfl
 |2,_,_+3,_=>rfl
 |3,_,_+4,_=>rfl
 |4,_,_+5,_=>rfl
theorem xm(P:Nat->R){a:Nat}(ha:a<=4):nv P a a=dt P a:=by
 match a,ha with
 |0,_=>rfl
 |1,_=>rfl
 |2,_=>rfl
 |3,_=>rfl
 |4,_=>rfl
theorem Gu{f:Nat->Int}{m:Nat}:∀{n:Nat},m<=n->(∀j,m<=j->f j=0)->bB f n=bB f m
 |0,h,_=>by rw[Nat.le_zero.mp h]
 |n+1,h,h0=>by
  by_cases e:m=n+1
  .rw[e]
  .rw[bB,h0 n (by omega),Int.add_zero]
   exact Gu (by omega) h0
theorem LG(P:Nat->R){a:Nat}(ha:a<=4)(hn:a<n):bB (λj=>P k j*nv P a j) n=M P a k a:=by
 rw[Gu (m:=a+1) (by omega) (λj hj=>by rw[LF P ha (by omega),yw])]
 match a,ha with
 |0,_=>show 0+P k 0*1=P k 0;omega
 |1,_=>show 0+P k 0*(- P 0 1)+P k 1*P 0 0=m2 (P 0) (P k) 0 1;unfold m2;grind
 |2,_=>show 0+P k 0*m2 (P 0) (P 1) 1 2+P k 1*(- m2 (P 0) (P 1) 0 2)+P k 2*m2 (P 0) (P 1) 0 1=m3 (P 0) (P 1) (P k) 0 1 2;unfold m3;grind
 |3,_=>show 0+P k 0*(- m3 (P 0) (P 1) (P 2) 1 2 3)+P k 1*m3 (P 0) (P 1) (P 2) 0 2 3+P k 2*(- m3 (P 0) (P 1) (P 2) 0 1 3)+P k 3*m3 (P 0) (P 1) (P 2) 0 1 2=m4 (P 0) (P 1) (P 2) (P k) 0 1 2 3;unfold m4;grind
 |4,_=>show 0+P k 0*m4 (P 0) (P 1) (P 2) (P 3) 1 2 3 4+P k 1*(- m4 (P 0) (P 1) (P 2) (P 3) 0 2 3 4)+P k 2*m4 (P 0) (P 1) (P 2) (P 3) 0 1 3 4+P k 3*(- m4 (P 0) (P 1) (P 2) (P 3) 0 1 2 4)+P k 4*m4 (P 0) (P 1) (P 2) (P 3) 0 1 2 3=m5 (P 0) (P 1) (P 2) (P 3) (P k) 0 1 2 3 4;unfold m5;grind
structure Br(A:Nat->R)(n a:Nat)(x:tH)(P:Nat->R):Prop where
 sm:∃b,Sm b n x.t
 l0:x.l≠0
 sgn:dt A n=x.s*dt P n
 last:x.l=dt P a
 ent:∀i,a<=i->i<n->∀j,j<n->ga (gr x.t i) j=M P a i j
 row:∀i,i<n->∃i',i'<n/\A i=P i'
theorem LH{B:Nat->R}(h:∀l,l<k->A l=B l):dt A k=dt B k:=by
 cases k with
 |zero=>rfl
 |succ k=>exact EH (λl hl=>h l (by omega)) (h k (by omega))
theorem LI{row here:List Int}{a:Nat}{l:Int}(hj:j<row.length):ga (jB row here a l) j=(ga row j*ga here a-ga row a*ga here j).fdiv l:=by
 show(jB row here a l).getD j 0=_;unfold jB;rw[aY,cA,iA hj];rfl
theorem Br.step{a:Nat}{x y:tH}{P:Nat->R}(h:Br A n a x P)(hn:n<=5)(ha:a<n)(e:ky a x=some y):∃P',Br A n (a+1) y P':=by
 obtain⟨b,sm⟩:=h.sm;have xl:=sm.len;unfold ky at e;split at e
 .cases e
 rename_i g gs eg;cases e;obtain⟨g1,g2,g3⟩:=LD sm (g:=g) (by rw[eg];simp);have w:=LC sm ha g2;have wl:=w.len;have swr:∀k,k<n->gr (ee x.t a g) k=if k=g then gr x.t a else if k=a then gr x.t g else gr x.t k:=λk hk=>by
  unfold ee;rw[zL (by rw[dv];omega),zL (by omega)]
 refine⟨sw P a g,⟨_,LE (k:=(ee x.t a g).length) w ha h.l0⟩,?_,?_,?_,λi hi hin j hj=>?_,λi hi=>?_⟩
 .show ga (gr (gI (ee x.t a g) a (ee x.t a g).length x.l) a) a≠0
  rw[CD (by omega),if_neg (by omega),Gr sm ha g2];exact g3
 .show dt A n=x.s*(1-2*(if g=a then 0 else 1))*dt (sw P a g) n
  rw[h.sgn]
  by_cases e:g=a
  .subst e
   rw[if_pos rfl,show sw P g g=P from by funext i;unfold sw;split<;>simp_all];grind
  .rw[if_neg e,Bl P hn (by omega:a<g) g2]
   grind
 .show ga (gr (gI (ee x.t a g) a (ee x.t a g).length x.l) a) a=M (sw P a g) a a a
  rw[CD (by omega),if_neg (by omega),Gr sm ha g2,h.ent g g1 g2 a ha];have:M (sw P a g) a a a=M (λl=>if l=g then sw P a g a else sw P a g l) a g a:=by
   have h1:∀(B:Nat->R) (k:Nat),M B k k k=M (λl=>if l=g then B k else B l) k g k->True:=λ_ _ _=>trivial
   match a,ha,g1 with
   |0,_,_=>simp[M]
   |1,_,_=>simp only[M];rw[if_neg (by omega)];simp
   |2,_,_=>simp only[M];rw[if_neg (by omega),if_neg (by omega)];simp
   |3,_,_=>simp only[M];rw[if_neg (by omega),if_neg (by omega),if_neg (by omega)];simp
   |4,_,_=>simp only[M];rw[if_neg (by omega),if_neg (by omega),if_neg (by omega),if_neg (by omega)];simp
   |_+5,h,_=>omega
  rw[this];refine EH (λl hl=>?_) ?_
  .show P l=if l=g then _ else sw P a g l
   unfold sw;rw[if_neg (by omega),if_neg (by omega),if_neg (by omega)]
  .show P g=if g=g then sw P a g a else _
   unfold sw;rw[if_pos rfl,if_pos rfl]
 .have hai:a<i:=by omega
  have hA:∀k,a<=k->k<n->∀j,j<n->ga (gr (ee x.t a g) k) j=M (sw P a g) a k j:=λk hk hkn j hj=>by
   have low:∀l,l<a->P l=sw P a g l:=λl hl=>by unfold sw;rw[if_neg (by omega),if_neg (by omega)]
   have mv:∀k',a<=k'->k'<n->P k'=sw P a g k->M P a k' j=M (sw P a g) a k j:=λk' h1 h2 h3=>by
    have hh:∀(B C:Nat->R) (i i':Nat),(∀l,l<a->B l=C l)->B i=C i'->M B a i j=M C a i' j:=λB C i i' q1 q2=>by
     match a,q1 with
     |0,_=>show B i j=C i' j;rw[q2]
     |1,q1=>simp only[M];rw[q2,q1 0 (by omega)]
     |2,q1=>simp only[M];rw[q2,q1 0 (by omega),q1 1 (by omega)]
     |3,q1=>simp only[M];rw[q2,q1 0 (by omega),q1 1 (by omega),q1 2 (by omega)]
     |4,q1=>simp only[M];rw[q2,q1 0 (by omega),q1 1 (by omega),q1 2 (by omega),q1 3 (by omega)]
     |_+5,_=>simp only[M]
    exact hh _ _ _ _ low h3
   rw[swr k hkn]
   by_cases e1:k=g
   .subst e1
    rw[if_pos rfl,h.ent a (bM _) ha j hj];refine mv a (bM _) ha ?_;unfold sw
    by_cases e2:k=a
    .subst e2;rw[if_pos rfl]
    .rw[if_neg e2,if_pos rfl]
   .rw[if_neg e1]
    by_cases e2:k=a
    .subst e2
     rw[if_pos rfl,h.ent g g1 g2 j hj];refine mv g g1 g2 ?_;unfold sw;rw[if_pos rfl]
    .rw[if_neg e2,h.ent k hk hkn j hj]
     refine mv k hk hkn ?_;unfold sw;rw[if_neg e2,if_neg e1]
  show ga (gr (gI (ee x.t a g) a (ee x.t a g).length x.l) i) j=M (sw P a g) (a+1) i j;rw[CD (by omega),if_pos ⟨hai,by omega⟩,LI (by rw[(w.gr hin).2.1];exact hj),hA i (by omega) hin j hj,hA a (bM _) ha a ha,hA i (by omega) hin a ha,hA a (bM _) ha j hj,<-JC (sw P a g) (k:=a) (by omega) i j];have el:dt (sw P a g) a=x.l:=by
   rw[h.last];exact LH λl hl=>by unfold sw;rw[if_neg (by omega),if_neg (by omega)]
  rw[el];exact Int.mul_fdiv_cancel _ h.l0
 .obtain⟨i',h1,h2⟩:=h.row i hi
  by_cases e1:i'=a
  .subst e1
   refine⟨g,g2,?_⟩;rw[h2];unfold sw
   by_cases e2:g=i'
   .subst e2;rw[if_pos rfl]
   .rw[if_neg e2,if_pos rfl]
  .by_cases e2:i'=g
   .subst e2
    refine⟨a,ha,?_⟩;rw[h2];unfold sw;rw[if_pos rfl]
   .refine⟨i',h1,?_⟩
    rw[h2];unfold sw;rw[if_neg e1,if_neg e2]
theorem Br.run{b n:Nat}{t:List (List Int)}(h:Sm b n t)(hn:n<=5):∀{a:Nat},a<=n->∀{x:tH},fj t a=some x->∃P,Br (tA t) n a x P
 |0,_,x,e=>by
  cases e;exact⟨tA t,⟨b,h⟩,show(1:Int)≠0 by decide,by show _=1*_;rw[tW],rfl,λi _ _ j _=>rfl,λi hi=>⟨i,hi,rfl⟩⟩
 |a+1,ha,x,e=>by
  rw[fj] at e;cases e1:fj t a with
  |none=>rw[e1] at e;cases e
  |some y=>
   rw[e1] at e;obtain⟨P,hP⟩:=Br.run h hn (by omega) e1;exact hP.step hn (by omega) e
theorem Gv{t:List (List Int)}:∀{n:Nat},fj t n=none->∃a x,a<n/\fj t a=some x/\lM x.t a=[]
 |0,e=>by cases e
 |n+1,e=>by
  rw[fj] at e;cases e1:fj t n with
  |none=>
   obtain⟨a,x,h1,h2,h3⟩:=Gv e1;exact⟨a,x,by omega,h2,h3⟩
  |some x=>
   rw[e1] at e;refine⟨n,x,by omega,e1,?_⟩;have e:ky n x=none:=e;unfold ky at e;split at e
   .assumption
   .cases e
theorem Gw(h:Sm b n t)(hn:n<=5):(jC t=dt (tA t) n/\jC t≠0/\∃x,fj t n=some x)\/(jC t=0/\∃w:Nat->Int,(∃a,a<n/\w a≠0)/\∀i,i<n->bB (λj=>tA t i j*w j) n=0):=by
 unfold jC;rw[h.len];cases e:fj t n with
 |some x=>
  obtain⟨P,hP⟩:=Br.run h hn (bM _) e;refine .inl ⟨?_,?_,x,rfl⟩
  .show x.s*x.l=_
   rw[hP.last,hP.sgn]
  .show x.s*x.l≠0
   refine pJ ?_ hP.l0;have:∀{a:Nat} {x:tH},fj t a=some x->x.s≠0:=λ{a}=>by
    induction a with
    |zero=>intro x e;cases e;exact show(1:Int)≠0 by decide
    |succ a ih=>
     intro x e;rw[fj] at e;cases e1:fj t a with
     |none=>rw[e1] at e;cases e
     |some y=>
      rw[e1] at e;have e:ky a y=some x:=e;unfold ky at e;split at e
      .cases e
      .cases e
       exact pJ (ih e1) (by split<;>decide)
   exact this e
 |none=>
  obtain⟨a,x,ha,ea,eg⟩:=Gv e;obtain⟨P,hP⟩:=Br.run h hn (nz ha) ea;obtain⟨b',sm⟩:=hP.sm;have xl:=sm.len;have z:∀k,k<n->M P a k a=0:=λk hk=>by
   by_cases hka:k<a
   .exact xk P (by omega) hka a
   .rw[<-hP.ent k (by omega) hk a ha]
    refine Classical.byContradiction λc=>?_;have:k∈lM x.t a:=by
     unfold lM;refine Yag.mpr ⟨YbU.mpr ⟨k-a,Yah.mpr (by omega),by omega⟩,by simpa using c⟩
    rw[eg] at this;cases this
  refine .inr ⟨rfl,nv P a,⟨a,ha,?_⟩,λi hi=>?_⟩
  .rw[xm P (by omega),<-hP.last]
   exact hP.l0
  .obtain⟨i',h1,h2⟩:=hP.row i hi
   rw[h2,LG P (by omega) ha];exact z i' h1
theorem zM(h:Sm b n t)(hn:n<=5):jC t=dt (tA t) n:=by
 rcases Gw h hn with⟨e,_⟩|⟨e,w,⟨a,ha,wa⟩,hw⟩
 .exact e
 .rw[e]
  rcases Int.mul_eq_zero.mp (JE (tA t) hn hw ha) with z|z
  .exact z.symm
  .exact N6 z wa
theorem Gx(h:Sm b n t)(hn:n<=5)(e:jC t=0):∃w:Nat->Int,(∃a,a<n/\w a≠0)/\∀i,i<n->bB (λj=>tA t i j*w j) n=0:=by
 rcases Gw h hn with⟨_,z,_⟩|⟨_,hw⟩
 .exact N6 e z
 .exact hw
end Dt
namespace B.C
def bd_of{x:Int}(h:x.natAbs<2^b)(hb:b<=8990):Bd x:=cW h (jH (by decide) hb)
end B.C
theorem zN{g:WG}{E:Ex->Prop}(lo:Int)(I:Nat->cQ->Prop)(n:Nat)(h:∀k,k<n->∀ρ,I k ρ->∀nx:cQ->Prop,(∀ρ,I (k+1) ρ->nx ρ)->g (.int (lo+k)) ρ λρ1=>zb E { nx:=nx,rt:=N.rt,bk:=N.nx,ct:=nx } ρ1)(hn:∀ρ,I n ρ->N.nx ρ)(ρ:cQ)(h0:I 0 ρ):ZbS g zb E N (rng lo n) ρ:=by
 refine Cr (λds ρ=>∃k,k<=n/\ds=(rng lo n).drop k/\I k ρ) ?_ ?_ _ ρ ⟨0,jS _,by rw[qI],h0⟩
 .rintro d ds ρ ⟨k,hk,e,i⟩ nx hnx
  have hlen:(rng lo n).length=n:=by unfold rng;simp
  rcases jj k n with hkn|hkn
  .rw[tV (by omega)] at e
   injection e with e1 e2
   have e3:d=.int (lo+k):=by rw[e1];unfold rng;simp
   rw[e3];exact h k hkn ρ i nx λρ' i'=>hnx ρ' ⟨k+1,by omega,e2,i'⟩
  .rw[List.drop_eq_nil_of_le (by omega)] at e
   cases e
 .rintro ρ ⟨k,hk,e,i⟩
  have hlen:(rng lo n).length=n:=by unfold rng;simp
  have:k=n:=by
   have:=congrArg List.length e;rw[ja,hlen] at this;simp at this;omega
  subst this;exact hn ρ i
theorem CG{α:Type}{wf:WT}{tail:cQ}{Q:List D->Prop}{g:α->D}{p:α->Bool}:∀(L:List α),(∀a∈L,∀P:Bool->Prop,P (p a)->wf No (.d (g a)::tail) P)->∀(sv:SV) (acc:List D),acc.length+L.length<=aO->Q (acc++(L.filter p).map g)->lcW (gN 0) wf (wN 0) (L.map g) (sv::tail) acc Q
 |[],_,sv,acc,_,hq=>by simpa[lcW] using hq
 |a::L,h,sv,acc,hl,hq=>by
  rw[da,lcW];show wf No (SV.d (g a)::tail) _;rw[dQ] at hl;refine h a (by simp) _ ?_;cases e:p a with
  |true=>
   rw[if_pos rfl];refine⟨by omega,CG L (λb hb=>h b (by simp[hb])) _ _ (by rw[eu,lQ];omega) ?_⟩;rw[List.filter_cons_of_pos e,da] at hq;rw[nD];exact hq
  |false=>
   rw[if_neg (by decide)];refine CG L (λb hb=>h b (by simp[hb])) _ _ (by omega) ?_;rw[List.filter_cons_of_neg (by rw[e];decide)] at hq;exact hq
namespace B.C
theorem own_by{t:WA}{E:Ex->Prop}(e:ρ.set i (.ow xs)=ρ')(ht:∀P:List D->Prop,P xs->t E ρ P)(h:N.nx ρ'):cH i t E N ρ:=ht _ (by rw[e];exact h)
def pub_by{E:Ex->Prop}(e:pub i ρ=ρ')(h:z E N ρ'):de i z E N ρ:=by unfold de;rw[e];exact h
theorem ixN_nat(h:k<n):jb n (k:Int)=some k:=by
 unfold jb;rw[if_pos (by omega),if_pos (by omega),jF]
theorem gr_map{a:Int}(hk:k<t.length)(ea:a=k):dw (t.map dP) a=some (dP (gr t k)):=by
 subst ea;refine bS ?_;rw[cA];unfold gr;rw[aY,bR hk];rfl
theorem flats_nats(L:List Nat):lJ (L.map λ(k:Nat)=>D.int (k:Int))=true:=by
 induction L with
 |nil=>rfl
 |cons a L ih=>rw[da,lJ,ih];rfl
theorem swap_by{w1 w2:WE}{E:Ex->Prop}{x:D}{k1 k2:Nat}(e:ρ[i]? = some (.ow xs))(hv:∀P:D->Prop,P (.tup [x,y])->wv E ρ P)(h1:∀P:D->Prop,P (.int k1)->w1 E ρ P)(h2:∀P:D->Prop,P (.int k2)->w2 E (ρ.set i (.ow (xs.set k1 x))) P)
  (l1:k1<xs.length) (l2:k2<xs.length) (h:N.nx (ρ.set i (.ow ((xs.set k1 x).set k2 y)))):uw i wv w1 w2 E N ρ:=by
 unfold uw;rw[e];exact hv _ (h1 _ ⟨k1,ixN_nat l1,h2 _ ⟨k2,ixN_nat l2,h⟩⟩)
section
variable{E:Ex->Prop}{f l:List Rat}{a x y:Rat}
end
def cutL(r:List Int)(i:Nat):List Int:=r.take i++r.drop (i+1)
def tI(t:List (List Int))(i j:Nat):List (List Int):=(t.take j++t.drop (j+1)).map λr=>cutL r i
def sgn(i j:Nat):Int:=1-2*(((i:Int)+j)%2)
theorem cut_mem{α:Type}{r:List α}{x:α}(h:x∈r.take i++r.drop (i+1)):x∈r:=by
 rcases Yap.mp h with h|h
 .exact pI h
 .exact k6 h
theorem prt_sm(h:Sm 6 n t)(hi:i<n)(hj:j<n):Sm 6 (n-1) (tI t i j):=by
 have e:=h.len;refine⟨?_,λr hr=>?_,λr hr x hx=>?_⟩
 .unfold tI
  simp only[bP,eu,gT,ja];omega
 .obtain⟨r',hr',rfl⟩:=YbU.mp hr
  have:=h.row r' (cut_mem hr');unfold cutL;simp only[eu,gT,ja];omega
 .obtain⟨r',hr',rfl⟩:=YbU.mp hr
  exact h.sm r' (cut_mem hr') x (cut_mem hx)
def sgn_one(i j:Nat):sgn i j=1\/sgn i j = -1:=by
 unfold sgn;omega
mutual
def bx(b:Nat):D->Nat->Bool
 |.non,_=>true
 |.bl _,_=>true
 |.int i,_=>decide (i.natAbs<2^300)
 |.str x,_=>decide (x.cps.size<=4)&&x.cps.toList.all λc=>decide (c<16^8)
 |.dic,_=>true
 |.tup xs,n=>decide (0<n)&&decide (xs.length<=b)&&jQ b xs (n-1)
 |.lst xs,n=>decide (0<n)&&decide (xs.length<=b)&&jQ b xs (n-1)
 |.pen,_=>false
 |.cls _,_=>false
 |.exc _,_=>false
 |.ty _,_=>false
 |.scr _,_=>false
def jQ(b:Nat):List D->Nat->Bool
 |[],_=>true
 |x::r,n=>bx b x n&&jQ b r n
end
theorem ZkM{b:Nat}:∀{xs:List D} {n:Nat},jQ b xs n=true↔∀x∈xs,bx b x n=true
 |[],_=>by simp[jQ]
 |x::r,n=>by rw[jQ,cT,ZkM];simp
theorem LJ{i:Int}(h:i.natAbs<2^300):i.natAbs.log2<1920/\(PyData.shown (.int i)).length<=310:=by
 have hl:i.natAbs.log2<300:=by
  by_cases z:i.natAbs=0
  .rw[z];decide
  .exact(Nat.log2_lt z).mpr h
 refine⟨by omega,?_⟩;have a1:=int_text_length_le (k:=300) (by decide) hl;have f:(PyData.shown (.int i)).length=(toString i).length:=by
  rw[PyData.shown];exact PySem.ofString_length _
 rw[f];omega
mutual
theorem xn{b:Nat}(hb:1<=b):∀(x:D) (n:Nat),bx b x n=true->∃p,i7 x=some p/\p.showable=true/\p.depth<=n+1/\p.leavesShort 310=true/\p.bulk<=Bk b n/\(iw x=true->p.hasDict=false)
 |.non,n,_=>⟨_,rfl,rfl,by simp[PyData.depth],rfl,by simp[PyData.bulk],λ_=>rfl⟩
 |.bl _,n,_=>⟨_,rfl,rfl,by simp[PyData.depth],rfl,by simp[PyData.bulk],λ_=>rfl⟩
 |.int i,n,h=>by
  rw[bx,N7] at h;obtain⟨h1,h2⟩:=LJ h;exact⟨_,rfl,by simp[PyData.showable,h1],by simp[PyData.depth],by simp[PyData.leavesShort,h2],by simp[PyData.bulk],λ_=>by simp[PyData.hasDict]⟩
 |.str x,n,h=>by
  rw[bx,cT,N7] at h;have:=xb hb n;exact⟨_,rfl,by simp[PyData.showable],by simp[PyData.depth],by rw[PyData.leavesShort];exact h.2,by rw[PyData.bulk];omega,λ_=>by simp[PyData.hasDict]⟩
 |.dic,n,h=>⟨.dict [],rfl,by simp[PyData.showable,PyData.showableKv],by simp[PyData.depth,PyData.depthKv],by simp[PyData.leavesShort,PyData.leavesShortKv],by simp[PyData.bulk,PyData.bulkKv],λz=>by rw[iw] at z;cases z⟩
 |.tup xs,n,h=>by
  rw[bx,cT,cT,N7,N7] at h;obtain⟨⟨h0,hl⟩,h⟩:=h;obtain⟨ps,e1,e2,e3,e4,e5,e6⟩:=CH hb xs (n-1) h;refine⟨.tuple ps,by rw[i7,e1];rfl,by rw[PyData.showable];exact e2,by rw[PyData.depth];omega,by rw[PyData.leavesShort];exact e4,?_,λz=>by rw[iw] at z;rw[PyData.hasDict];exact e6 z⟩;rw[PyData.bulk];obtain⟨m,rfl⟩:∃m,n=m+1:=⟨n-1,by omega⟩
  rw[Bk];exact f8 e5 (qJ _ hl)
 |.lst xs,n,h=>by
  rw[bx,cT,cT,N7,N7] at h;obtain⟨⟨h0,hl⟩,h⟩:=h;obtain⟨ps,e1,e2,e3,e4,e5,e6⟩:=CH hb xs (n-1) h;refine⟨.list ps,by rw[i7,e1];rfl,by rw[PyData.showable];exact e2,by rw[PyData.depth];omega,by rw[PyData.leavesShort];exact e4,?_,λz=>by rw[iw] at z;rw[PyData.hasDict];exact e6 z⟩;rw[PyData.bulk];obtain⟨m,rfl⟩:∃m,n=m+1:=⟨n-1,by omega⟩
  rw[Bk];exact f8 e5 (qJ _ hl)
 |.pen,n,h=>by rw[bx] at h;cases h
 |.cls _,n,h=>by rw[bx] at h;cases h
 |.exc _,n,h=>by rw[bx] at h;cases h
 |.ty _,n,h=>by rw[bx] at h;cases h
 |.scr _,n,h=>by rw[bx] at h;cases h
theorem CH{b:Nat}(hb:1<=b):∀(xs:List D) (n:Nat),jQ b xs n=true->∃ps,fZ xs=some ps/\PyData.showableAll ps=true/\PyData.depthAll ps<=n+1/\PyData.leavesShortAll 310 ps=true/\PyData.bulkAll ps<=xs.length*(Bk b n+1)/\(gH xs=true->PyData.hasDictAll ps=false)
 |[],n,_=>⟨[],rfl,rfl,by simp[PyData.depthAll],rfl,by simp[PyData.bulkAll],λ_=>rfl⟩
 |x::r,n,h=>by
  rw[jQ,cT] at h;obtain⟨p,a1,a2,a3,a4,a5,a6⟩:=xn hb x n h.1;obtain⟨ps,b1,b2,b3,b4,b5,b6⟩:=CH hb r n h.2;refine⟨p::ps,by rw[fZ,a1,b1],by rw[PyData.showableAll,a2,b2];rfl,by rw[PyData.depthAll];omega,by rw[PyData.leavesShortAll,a4,b4];rfl,?_,λz=>?_⟩
  .rw[PyData.bulkAll,dQ,qH];omega
  .rw[gH,cT] at z
   rw[PyData.hasDictAll,a6 z.1,b6 z.2];rfl
end
theorem repr_bx{x:D}(h:bx b x n=true)(hd:dl x=true)(q:Q (.str (Gm x)))(hb:1<=b:=by decide)(hn:n<=20:=by decide)(hs:312*Bk b n+310<=sizeLine:=by decide):Zfl [x] Q:=by
 obtain⟨p,h1,h2,h3,h4,h5,h6⟩:=xn hb x n h;unfold Gm at q;rw[h1] at q;refine⟨x,p,rfl,h1,h2,λz=>?_,by omega,?_,q⟩
 .unfold dl at hd
  rcases Yby.mp hd with e|e
  .exact e
  .rw[h6 e] at z;cases z
 .have:=PyData.shown_le_bulk 310 (by decide) p h4
  have:(310+2)*p.bulk<=312*Bk b n:=Nat.mul_le_mul_left _ h5;omega
mutual
theorem CJ{b:Nat}:∀(x:D) {n m:Nat},n<=m->bx b x n=true->bx b x m=true
 |.non,_,_,_,h=>h
 |.bl _,_,_,_,h=>h
 |.int _,_,_,_,h=>h
 |.str _,_,_,_,h=>h
 |.dic,_,_,_,h=>h
 |.tup xs,n,m,l,h=>by
  rw[bx,cT,cT,N7,N7] at h ⊢;exact⟨⟨by omega,h.1.2⟩,CK xs (by omega) h.2⟩
 |.lst xs,n,m,l,h=>by
  rw[bx,cT,cT,N7,N7] at h ⊢;exact⟨⟨by omega,h.1.2⟩,CK xs (by omega) h.2⟩
 |.pen,n,_,_,h=>by rw[bx] at h;cases h
 |.cls _,n,_,_,h=>by rw[bx] at h;cases h
 |.exc _,n,_,_,h=>by rw[bx] at h;cases h
 |.ty _,n,_,_,h=>by rw[bx] at h;cases h
 |.scr _,n,_,_,h=>by rw[bx] at h;cases h
theorem CK{b:Nat}:∀(xs:List D) {n m:Nat},n<=m->jQ b xs n=true->jQ b xs m=true
 |[],_,_,_,_=>by rw[jQ]
 |x::r,n,m,l,h=>by
  rw[jQ,cT] at h ⊢;exact⟨CJ x l h.1,CK r l h.2⟩
end
theorem bx_tup(hl:xs.length<=b)(h:∀x∈xs,bx b x n=true):bx b (.tup xs) (n+1)=true:=by
 rw[bx,N9 hl,N9 (Nat.succ_pos n),ZkM.mpr (by simpa using h)];rfl
theorem bx_lst(hl:xs.length<=b)(h:∀x∈xs,bx b x n=true):bx b (.lst xs) (n+1)=true:=by
 rw[bx,N9 hl,N9 (Nat.succ_pos n),ZkM.mpr (by simpa using h)];rfl
theorem LK(hb:2<=b)(h:Sz 223 q):bx b (shq q) (n+1)=true:=by
 unfold shq;refine bx_tup hb λx hx=>?_;simp only[Yao,dh,or_false] at hx;have h1:q.num.natAbs<2^300:=uO h.1 (by decide);have h2:(q.den:Int).natAbs<2^300:=uO (by simpa using h.2) (by decide:2^223<2^300);rcases hx with rfl|rfl
 .rw[bx,N9 h1]
 .rw[bx,N9 h2]
theorem bx_rowq(hb:2<=b)(hl:r.length<=b)(h:∀x∈r,Sz 223 x):bx b (aK r) (n+2)=true:=by
 unfold aK;refine bx_tup (by simpa using hl) λx hx=>?_;obtain⟨q,hq,rfl⟩:=YbU.mp hx;exact LK hb (h q hq)
end B.C
namespace B
section
variable{E:Ex->Prop}{x z:D}{p:List Rat}
end
end B
section
variable{t:WA}
end
section
def gEqS:G2:=λx y Q=>∃a b,x=.str a/\y=.str b/\Q (.bl (a==b))
theorem gEqS.mono:∀x y P P',(∀d,P d->P' d)->gEqS x y P->gEqS x y P':=λx y P P' hp ⟨a,b,h1,h2,h3⟩=>⟨a,b,h1,h2,hp _ h3⟩
end
namespace B.C
section
variable{E:Ex->Prop}{x:D}{f l:List Rat}
end
theorem or_by{w:WT}{E:Ex->Prop}{b c:Bool}(hw:∀ P:Bool->Prop,P b->w E ρ P)(hw':∀ P:Bool->Prop,P c->w' E ρ P):∀ P:Bool->Prop,P (b || c)->gB w w' E ρ P:=λP h=>hw _ (by
 cases b with
 |true=>rw[if_pos rfl];exact h
 |false=>rw[if_neg (by decide)];exact hw' _ h)
theorem one_at{a b:Int}{E:Ex->Prop}:∀P:D->Prop,P (.tup [.tup [.int a,.int b]])->aZ (aC (aZ (aC (wC (.int a)) (aC (wC (.int b)) aA))) aA) E ρ P:=λP h=>⟨show 2<=aO by decide,show 1<=aO by decide,h⟩
def okp(d:D):Prop:=∃a b,d=.tup [a,b]/\bx 7 a 3=true/\bx 7 b 3=true/\dl (.tup [a,b])=true
theorem okp.of{a b:D}(h1:bx 7 a 3=true)(h2:bx 7 b 3=true)(h3:dl (.tup [a,b])=true):okp (.tup [a,b]):=⟨a,b,rfl,h1,h2,h3⟩
theorem LL{a b:D}(h1:jh a=true)(h2:iw a=true)(h:dl b=true):dl (.tup [a,b])=true/\dl (.tup [b,a])=true:=by
 refine ⟨Gn ?_,Gn ?_⟩<;>(
  rcases Yby.mp (show(jh b||iw b)=true from h) with e|e
  .refine .inl λx hx=>?_
   simp only[Yao,dh,or_false] at hx;rcases hx with rfl|rfl<;>assumption
  .refine .inr λx hx=>?_
   simp only[Yao,dh,or_false] at hx;rcases hx with rfl|rfl<;>assumption)
def LM(r:List Rat):dl (aK r)=true:=by unfold dl;rw[Cz];rfl
theorem Gy(h:r.length<=7)(hs:∀x∈r,Sz 223 x):bx 7 (aK r) 3=true:=CJ _ (n:=2) (by decide) (bx_rowq (by decide) h hs)
theorem okp.rows{p:List Rat}(h1:p.length<=7)(h2:r.length<=7)(s1:∀x∈p,Sz 223 x)(s2:∀x∈r,Sz 223 x):okp (.tup [aK p,aK r]):=.of (Gy h1 s1) (Gy h2 s2) (LL (Cz _) (zK _) (LM _)).1
theorem tbl_Sm(h:IsSl s n):Sm 6 n (tbl s n):=⟨jP s n,λr hr=>(m8 h r hr).1,λr hr x hx=>by
 have:=(m8 h r hr).2 x hx;show x.natAbs<64;omega⟩
end B.C
def jR(s:List Int)(n:Nat)(x:D)(u:List Rat):Bool:=jN n x&&decide (c9 s n (rQ x)=u)
def lN(s:List Int)(n:Nat):D->Bool
 |.tup [a,b]=>jR s n a (bF n 0)&&jR s n b (bF n (n-1))
 |_=>false
def xo:bK:=fnS (λx:Nat×Nat=>[.int x.1,.int x.2]) (λx=>x.2<=5) λx=>aK (bF x.2 x.1)
def xp:bK:=fnS (λx:SL×D×List Rat=>[aN x.1.1,x.2.1,aK x.2.2]) (λx=>IsSl x.1.1 x.1.2/\kd x.2.1=true/\dW 300 x.2.1=true) λx=>.bl (jR x.1.1 x.1.2 x.2.1 x.2.2)
def uz:bK:=fnS (λx:SL×D=>[aN x.1.1,x.2]) (λx=>IsSl x.1.1 x.1.2/\kd x.2=true/\dW 300 x.2=true) λx=>.bl (lN x.1.1 x.1.2 x.2)
section
variable{E:Ex->Prop}{x:D}
def Gz(h:n<=5)(q:Q (aK (bF n k))):xo [.int k,.int n] E Q:=⟨(k,n),rfl,h,q⟩
theorem GA(h:IsSl s n)(h1:kd x=true)(h2:dW 300 x=true)(q:Q (.bl (jR s n x r))):xp [aN s,x,aK r] E Q:=⟨((s,n),x,r),rfl,⟨h,h1,h2⟩,q⟩
theorem GB(h:IsSl s n)(h1:kd x=true)(h2:dW 300 x=true)(q:Q (.bl (lN s n x))):uz [aN s,x] E Q:=⟨((s,n),x),rfl,⟨h,h1,h2⟩,q⟩
end
theorem GC{α:Type}[DecidableEq α]{f:α->D}(h:∀a b,gE (f a) (f b)=decide (a=b)):∀xs ys:List α,PyData.eqvAll (fu (xs.map f)) (fu (ys.map f))=decide (xs=ys)
 |[],[]=>by simp[fu,PyData.eqvAll]
 |[],_::_=>by simp[fu,PyData.eqvAll]
 |_::_,[]=>by simp[fu,PyData.eqvAll]
 |x::xs,y::ys=>by
  have:=h x y;unfold gE at this;rw[da,da,fu,fu,PyData.eqvAll,this,GC h xs ys,kE];simp
theorem LN{α:Type}[DecidableEq α]{f:α->D}(h:∀a b,gE (f a) (f b)=decide (a=b))(xs ys:List α):gE (.tup (xs.map f)) (.tup (ys.map f))=decide (xs=ys):=by
 unfold gE;rw[pd,pd,PyData.eqv,GC h]
def LO(a b:List Rat):gE (aK a) (aK b)=decide (a=b):=LN Lz a b
namespace B.C.E
section
variable{E:Ex->Prop}{x:D}{S T:List (List Rat)}
end
end B.C.E
abbrev ZlE:List Str:=["place", "many"]
def GD:WS:=(aM (wF tz (aC (wL (aLC (gh (aC (wN 1) aA)) 1 [0] (gN 0) dL (wB gD (aC (w2 (gEq false) (wN 0) (wN 1)) aA)))) aA)))
abbrev ZnA:List Str:=["slants", "thing", "row"]
def GE:WS:=(aM (gC (wF uj (aC (wN 0) (aC (wN 1) aA))) (w2 (gEq false) (wF uk (aC (wN 0) (aC (wN 1) aA))) (wN 2))))
abbrev ZhF:List Str:=["slants", "thing", "size"]
def GF:WS:=(aI (cL (gB (bW (wT (wB gIs (aC (wN 1) (aC (wC (.ty "tuple")) aA))))) (wT (w2 (gEq true) (wB bX (aC (wN 1) aA)) (wC (D.int (2)))))) (aM (wC (D.bl false))) cO) (aI (aR 2 (wF kQ (aC (wN 0) aA))) (aM (gC (wF xp (aC (wN 0) (aC (w2 gIx (wN 1) (wC (D.int (0)))) (aC (wF xo (aC (wC (D.int (0))) (aC (wN 2) aA))) aA)))) (wF xp (aC (wN 0) (aC (w2 gIx (wN 1) (wC (D.int (1)))) (aC (wF xo (aC (w2 fH (wN 2) (wC (D.int (1)))) (aC (wN 2) aA))) aA))))))))
def rm(n k:Nat):(bF n k).length=n:=by unfold bF;rw[bP,nG]
theorem GG(n k:Nat):c8 ((List.range n).map λi:Nat=>if(i:Int)=(k:Int) then(1:Int) else 0)=bF n k:=by
 unfold c8 bF;rw[dR];refine ia λi _=>?_;show(((if(i:Int)=(k:Int) then(1:Int) else 0):Int):Rat)=_
 by_cases e:i=k
 .rw[if_pos (by omega),if_pos e];rfl
 .rw[if_neg (by omega),if_neg e];rfl
theorem LQ:Rd xo GD ZlE:=by
 rintro _ E Q ⟨⟨k,n⟩,rfl,h,q⟩;dsimp only at h q;unfold GD;walk_at "st";refine⟨by omega,by omega,?_⟩;rw[qy];refine l8 (g:=λi:Nat=>D.int (i:Int)) (f:=λi:Nat=>D.int (if(i:Int)=(k:Int) then 1 else 0)) (List.range n) (λi hi Q hq=>?_) .un [] (by simp[aO];omega) ?_
 .walk_at "st"
  by_cases e:(i:Int)=(k:Int)
  .rw[if_pos e] at hq
   simpa[e] using hq
  .rw[if_neg e] at hq
   simpa[e] using hq
 .have:=Fo (E:=E) (Q:=Q) (xs:=(List.range n).map λi:Nat=>if(i:Int)=(k:Int) then(1:Int) else 0) (by simp;omega) (by rw[GG];exact q)
  unfold dP at this;rw[dR] at this;exact this
theorem LR:Rd xp GE ZnA:=by
 rintro _ E Q ⟨⟨⟨s,n⟩,x,u⟩,rfl,⟨h,hk,hs⟩,q⟩;dsimp only at h hk hs q;unfold GE;walk_at "st";refine Fw h hk ?_;walk_at "st";unfold jR at q;cases e:jN n x with
 |false=>rw[e] at q;simpa using q
 |true=>
  rw[e] at q;obtain⟨r,rfl,hr⟩:=B3 e;simp only[if_true];refine Zf h (by omega) ⟨300,Ziz.mp hs,by decide⟩ (wI (Ff _ 58) (Ff _ 58) ?_);simp only[eG,if_false];rw[LO];rw[tD,tX] at q;exact q
theorem LT{a b:D}(h:dW m (.tup [a,b])=true):dW m a=true/\dW m b=true:=by
 rw[dW,ut] at h;exact⟨h a (by simp),h b (by simp)⟩
theorem LU{a b:D}(h:kd (.tup [a,b])=true):kd a=true/\kd b=true:=⟨(qu h).2 a (by simp),(qu h).2 b (by simp)⟩
theorem LV(h:xs.length≠2):lN s n (.tup xs)=false:=by
 match xs,h with
 |[],_=>rfl
 |[_],_=>rfl
 |[_,_],h=>exact N6 rfl h
 |_::_::_::_,_=>rfl
def LW(h:xs.length=2):∃a b,xs=[a,b]:=by
 match xs,h with
 |[a,b],_=>exact⟨a,b,rfl⟩
theorem LY:Rd uz GF ZhF:=by
 rintro _ E Q ⟨⟨⟨s,n⟩,x⟩,rfl,⟨h,hk,hs⟩,q⟩;dsimp only at h hk hs q;have n1:=h.n1;have n5:=h.n5;unfold GF;walk_at "nx";refine tF hk (by decide) λty ht=>?_;cases x<;>cases ht<;>try exact q
 rename_i xs;walk_at "st";simp only[show jy "tuple" "tuple" = true from rfl,gu,eG,if_false]
 by_cases e:xs.length=2
 .obtain⟨a,b,rfl⟩:=LW e
  obtain⟨sa,sb⟩:=LT hs;obtain⟨ka,kb⟩:=LU hk;simp only[dQ,jm];rw[if_neg (by simp)];walk_at "nx";refine qx h ?_;walk_at "st";refine⟨a,rfl,Gz (k:=0) n5 (GA h ka sa ?_)⟩;walk_at "st";replace q:Q (.bl (jR s n a (bF n 0)&&jR s n b (bF n (n-1)))):=q;cases ea:jR s n a (bF n 0) with
  |false=>rw[ea] at q;simpa using q
  |true=>
   rw[ea,tX] at q;simp only[if_true];refine⟨b,rfl,?_⟩;rw[show(n:Int)-1=((n-1:Nat):Int) by omega];exact Gz n5 (GA h kb sb q)
 .rw[LV e] at q
  rw[if_pos (by simpa using λz=>e (by exact_mod_cast z))];exact q
def bZ(a:List Rat)(s:Rat)(c:List Rat):List Rat:=List.zipWith (λl r=>l-s*r) a c
def hW(a:List Rat)(s:Rat):List Rat:=a.map λx=>x/s
def eT:List (List Rat)->Nat->Option Nat
 |[],_=>none
 |r::R,p=>if r.getD p 0=0 then(eT R p).map (· + 1) else some 0
def dg(R:List (List Rat))(lead:List Rat)(p:Nat):List (List Rat):=R.map λr=>bZ r (r.getD p 0) lead
structure Cl where
 ld:List (List Rat)
 pl:List Nat
 rs:List (List Rat)
def tJ(R:List (List Rat))(a p:Nat):List Rat:=hW (R.getD a []) ((R.getD a []).getD p 0)
def xq(p:Nat)(x:Cl):Cl:=match eT x.rs p with
 |none=>x
 |some a=>⟨dg x.ld (tJ x.rs a p) p++[tJ x.rs a p],x.pl++[p],dg (x.rs.take a++x.rs.drop (a+1)) (tJ x.rs a p) p⟩
def gl(R:List (List Rat)):Nat->Cl
 |0=>⟨[],[],R⟩
 |p+1=>xq p (gl R p)
structure Lf(b m:Nat)(row:List Rat):Prop where
 ex:∃(c:List Int) (e:Int),c.length=m/\e≠0/\e.natAbs<2^b/\(∀x∈c,x.natAbs<2^b)/\row=c.map λx=>Rat.divInt x e
theorem Lf.len{row:List Rat}(h:Lf b m row):row.length=m:=by
 obtain⟨c,e,h1,_,_,_,rfl⟩:=h.ex;rw[bP];exact h1
theorem Lf.mono{b':Nat}{row:List Rat}(l:b<=b')(h:Lf b m row):Lf b' m row:=by
 obtain⟨c,e,h1,h2,h3,h4,h5⟩:=h.ex;have p:2^b<=2^b':=jH (by decide) l;exact⟨c,e,h1,h2,cW h3 p,λx hx=>cW (h4 x hx) p,h5⟩
theorem Lf.sz{row:List Rat}(h:Lf b m row):∀x∈row,Sz b x:=by
 obtain⟨c,e,h1,h2,h3,h4,rfl⟩:=h.ex;intro x hx;obtain⟨y,hy,rfl⟩:=YbU.mp hx;exact Co h2 (h4 y hy) h3
theorem Lf.get{row:List Rat}(h:Lf b m row)(hk:k<m):row[k]? = some (row.getD k 0)/\Sz b (row.getD k 0):=by
 have e:row[k]? = some (row.getD k 0):=by rw[aY,bR (by rw[h.len];exact hk)];rfl
 exact⟨e,h.sz _ (iz e)⟩
theorem Lf.int{c:List Int}(hb:0<b)(h:∀x∈c,x.natAbs<2^b):Lf b c.length (c8 c):=by
 refine⟨c,1,rfl,by decide,?_,h,?_⟩
 .show 1<2^b
  exact yz (by omega)
 .unfold c8
  exact ia λx _=>by have:=uU (x:Rat);rw[yx,yy] at this;exact this.symm
theorem CL{c e:Int}(he:e≠0):Rat.divInt c e≠0↔c≠0:=by
 constructor
 .rintro h rfl
  exact h (AF e)
 .intro h z
  have e1:Rat.divInt c e*Rat.divInt e c=1:=by
   rw[qK,nE e c];have:=t4 (n:=1) (d:=1) (pJ h he);rw[tW] at this;rw[this];rfl
  rw[z,gM] at e1;exact N6 e1 (by decide)
theorem Lf.norm{row:List Rat}(h:Lf b m row)(hp:p<m)(h0:row.getD p 0≠0):Lf b m (hW row (row.getD p 0)):=by
 obtain⟨c,e,h1,h2,h3,h4,rfl⟩:=h.ex;have hc:c[p]? = some (c.getD p 0):=by rw[aY,bR (by omega)];rfl
 have eg:(c.map λx=>Rat.divInt x e).getD p 0=Rat.divInt (c.getD p 0) e:=by
  rw[aY,cA,hc];rfl
 rw[eg] at h0 ⊢;have hc0:c.getD p 0≠0:=(CL h2).mp h0;refine⟨c,c.getD p 0,h1,hc0,h4 _ (iz hc),h4,?_⟩;unfold hW;rw[dR];refine ia λx _=>?_;show Rat.divInt x e/(Rat.divInt (c.getD p 0) e)=Rat.divInt x (c.getD p 0);rw[gL,Rat.inv_divInt,qK _ _ ,nE e];exact t4 h2
theorem LZ{w x y z:Int}(h1:w.natAbs<2^b)(h2:x.natAbs<2^b)(h3:y.natAbs<2^b)(h4:z.natAbs<2^b):(w*x-y*z).natAbs<2^(2*b+1):=by
 have m1:(w*x).natAbs<2^b*2^b:=by rw[gq];exact tZ h1 h2
 have m2:(y*z).natAbs<2^b*2^b:=by rw[gq];exact tZ h3 h4
 have:=Int.natAbs_sub_le (w*x) (y*z);rw[uS,show 2*b=b+b by omega,rK];omega
theorem Lf.less{row:List Rat}(h:Lf b m row)(hq:Lf b m piv)(hp:p<m):Lf (2*b+1) m (bZ row (row.getD p 0) piv):=by
 obtain⟨c,e,h1,h2,h3,h4,rfl⟩:=h.ex;obtain⟨d,f,g1,g2,g3,g4,rfl⟩:=hq.ex;have hc:c[p]? = some (c.getD p 0):=by rw[aY,bR (by omega)];rfl
 have eg:(c.map λx=>Rat.divInt x e).getD p 0=Rat.divInt (c.getD p 0) e:=by
  rw[aY,cA,hc];rfl
 rw[eg];have bc:(c.getD p 0).natAbs<2^b:=h4 _ (iz hc);refine⟨List.zipWith (λx y=>x*f-c.getD p 0*y) c d,e*f,by rw[mq];omega,pJ h2 g2,?_,λz hz=>?_,?_⟩
 .rw[gq,uS,show 2*b=b+b by omega,rK]
  have:=tZ h3 g3;omega
 .obtain⟨i,hi,e1⟩:=YbB.mp hz
  rw[rN] at e1;rw[<-e1];exact LZ (h4 _ (jG _)) g3 bc (g4 _ (jG _))
 .unfold bZ
  rw[AG,yE];refine congrArg (λg=>List.zipWith g c d) ?_;funext x y;rw[qK,Rat.divInt_sub_divInt _ _ h2 (pJ h2 g2)];rw[show x*(e*f)-c.getD p 0*y*e=(x*f-c.getD p 0*y)*e by grind,nE e (e*f)];exact(t4 h2)
def bq(b:Nat):Nat->Nat
 |0=>b
 |k+1=>2*bq b k+1
theorem zO{b:Nat}:∀{k k':Nat},k<=k'->bq b k<=bq b k'
 |k,0,h=>by rw[Nat.le_zero.mp h];exact bM _
 |k,k'+1,h=>by
  by_cases e:k=k'+1
  .rw[e];exact bM _
  .have:=zO (b:=b) (k:=k) (k':=k') (by omega)
   rw[bq];omega
theorem zP:∀{R:List (List Rat)} {p a:Nat},eT R p=some a->a<R.length/\(R.getD a []).getD p 0≠0
 |[],_,_,h=>nomatch h
 |r::R,p,a,h=>by
  rw[eT] at h;split at h
  .cases e:eT R p with
   |none=>rw[e] at h;cases h
   |some b=>
    rw[e] at h;have h':b+1=a:=by simpa using h
    subst h';obtain⟨h1,h2⟩:=zP e;exact⟨by simpa using h1,by simpa using h2⟩
  .rename_i h0
   have h':0=a:=by simpa using h
   subst h';exact⟨by simp,by simpa using h0⟩
structure qz(b w p m:Nat)(x:Cl):Prop where
 ld:∀r∈x.ld,Lf (bq b p) w r
 rs:∀r∈x.rs,Lf (bq b p) w r
 ln:x.ld.length+x.rs.length=m
 pl:x.pl.length=x.ld.length
 lt:∀a∈x.pl,a<p
def ji{R:List (List Rat)}{a:Nat}(h:a<R.length):R.getD a []∈R:=by
 rw[aY,bR h];exact jG _
theorem mem_cut{α:Type}{R:List α}{a:Nat}{r:α}(h:r∈R.take a++R.drop (a+1)):r∈R:=by
 rcases Yap.mp h with h|h
 .exact pI h
 .exact k6 h
theorem L4{w a:Nat}{x:Cl}(h:qz b w p m x)(hp:p<w)(e:eT x.rs p=some a):Lf (bq b p) w (tJ x.rs a p):=by
 obtain⟨h1,h2⟩:=zP e;exact(h.rs _ (ji h1)).norm hp h2
theorem L5{w:Nat}{x:Cl}(h:qz b w p m x)(hp:p<w):qz b w (p+1) m (xq p x):=by
 have up:bq b p<=bq b (p+1):=zO (by omega);unfold xq;split
 .exact⟨λr hr=>(h.ld r hr).mono up,λr hr=>(h.rs r hr).mono up,h.ln,h.pl,λa ha=>yF (h.lt a ha)⟩
 .rename_i a e
  have hl:=L4 h hp e;obtain⟨h1,h2⟩:=zP e;have ln:=h.ln;refine⟨λr hr=>?_,λr hr=>?_,?_,?_,λc hc=>?_⟩
  .rcases Yap.mp hr with hr|hr
   .unfold dg at hr
    obtain⟨r0,hr0,rfl⟩:=YbU.mp hr;exact(h.ld r0 hr0).less hl hp
   .rw[Ycu.mp hr];exact hl.mono up
  .unfold dg at hr
   obtain⟨r0,hr0,rfl⟩:=YbU.mp hr;exact(h.rs r0 (mem_cut hr0)).less hl hp
  .show(dg _ _ _++[_]).length+(dg _ _ _).length=m
   unfold dg;simp only[eu,bP,lQ,gT,ja];omega
  .show(x.pl++[p]).length=(dg _ _ _++[_]).length
   unfold dg;rw[eu,eu,bP,h.pl];rfl
  .rcases Yap.mp hc with hc|hc
   .exact yF (h.lt c hc)
   .rw[Ycu.mp hc];exact Ao p
theorem CM{b w:Nat}{R:List (List Rat)}(h:∀r∈R,Lf b w r):∀{p:Nat},p<=w->qz b w p R.length (gl R p)
 |0,_=>⟨(λr hr=>by cases hr),h,(by simp[gl]),rfl,(λa ha=>by cases ha)⟩
 |p+1,hp=>L5 (CM h (by omega)) (by omega)
def xr(xs:List Nat):D:=.lst (xs.map λ(k:Nat)=>D.int (k:Int))
def uA:bK:=fnS (λx:Nat×List Rat×Rat=>[aK x.2.1,shq x.2.2]) (λx=>2*x.1<8990/\x.2.1.length<=1000/\(∀y∈x.2.1,Sz x.1 y)/\Sz x.1 x.2.2/\x.2.2≠0) λx=>aK (hW x.2.1 x.2.2)
def xu:bK:=fnS (λx:(Nat×Rat)×List Rat×List Rat=>[aK x.2.1,shq x.1.2,aK x.2.2]) (λx=>3*x.1.1<8990/\x.2.1.length<=1000/\(∀y∈x.2.1,Sz x.1.1 y)/\Sz x.1.1 x.1.2/\∀y∈x.2.2,Sz x.1.1 y) λx=>aK (bZ x.2.1 x.1.2 x.2.2)
def xv(place n:Nat)(L:List (List Rat))(pl:List Nat):List Rat:=(L.zip pl).foldl (λrow x=>row.set x.2 (0-x.1.getD place 0)) (bF n place)
def eO(s:List Int)(n:Nat):List (List Rat):=(tbl s n).map c8
def dN(s:List Int)(n:Nat):Cl:=gl (eO s n) n
def cy(s:List Int)(n:Nat):List (List Rat):=((List.range n).filter λp=>!(dN s n).pl.contains p).map λp=>xv p n (dN s n).ld (dN s n).pl
def hX(n:Nat):Nat->List (List Rat)->List (List Rat)
 |_,[]=>[]
 |k,r::R=>(r++bF n k)::hX n (k+1) R
def fk(s:List Int)(n:Nat):List (List Rat):=hX n 0 (eO s n)
def hZ(s:List Int)(n:Nat):List (List Rat):=(gl (fk s n) n).ld.map λr=>r.drop n
section
variable{E:Ex->Prop}{x:D}{w:Nat}{t lead:List Rat}{R L:List (List Rat)}{q0:Rat}{pl:List Nat}
theorem CN(h1:2*b<8990)(h2:r.length<=1000)(h3:∀y∈r,Sz b y)(h4:Sz b q0)(h5:q0≠0)(q:Q (aK (hW r q0))):uA [aK r,shq q0] E Q:=⟨(b,r,q0),rfl,⟨h1,h2,h3,h4,h5⟩,q⟩
theorem GH(h1:3*b<8990)(h2:r.length<=1000)(h3:∀y∈r,Sz b y)(h4:Sz b q0)(h5:∀y∈t,Sz b y)(q:Q (aK (bZ r q0 t))):xu [aK r,shq q0,aK t] E Q:=⟨((b,q0),r,t),rfl,⟨h1,h2,h3,h4,h5⟩,q⟩
end
abbrev ZlD:List Str:=["row", "share"]
def CO:WS:=(aM (wB jM (aC (wL (aLC (iS (wN 0)) 1 [1] (gN 0) dL (wF qv (aC (wN 0) (aC (wN 1) aA))))) aA)))
abbrev Zio:List Str:=["one", "share", "other"]
def CP:WS:=(aM (wB jM (aC (wL (aLC (iZ (aC (wN 0) (aC (wN 2) aA))) 2 [1] (e7 2 (dC (gN 0) (dC (gN 1) fq))) dL (wF wQ (aC (wN 0) (aC (wF rc (aC (wN 2) (aC (wN 1) aA))) aA))))) aA)))
local macro_rules | `(tactic| walk_at "w1")=>`(tactic| simp only [aM,cL,aR,cO,fQ,de,cH,bN,kO,eK,eJ,cS,ir,eR,l6,bJ,iu,fK,wM,ZdB,gC,fU,kf,eY,gB,bW,wT,jK,w1,w2,wB,wF,wL,aZ,bU,Zbj,aB,bL,aC,aA,aLC,ZbT,dL,iS,iE,iL,iT,gh,gP,iZ,eZ,dJ,wN,wC,gN,e7,dC,fq,dU,lH,fb,dD,eQ,df,dE,eL,e9,aCut,dS,pub,da,h8,dQ,jm,ic,fw,List.replicate,dO,fN,List.set_cons_zero,List.set_cons_succ,Nat.reduceSub,Nat.reduceAdd,gp,lR,true_and,eG,if_true,if_false,ite_true,ite_false,jF,gu,nI,
 ma,nW,nX,nY,nZ,n4,n6,n8,n9,oa,oh,oj,Zd,ol,om,oq,ot,ou,oy,oA,oB,oC,oE,oF,oG,oH,oJ,oK,oM,oN,oO,oP,oQ,oR,oS,oU,oV,oW,oX,oY,oZ,o1,o4,o5,o6,o7,o8,o9,pj,gG,pk,pp,pq,pz,pA,hU,hV])
theorem L6:Rd uA CO ZlD:=by
 rintro _ E Q ⟨⟨b,r,q0⟩,rfl,⟨h1,h2,h3,h4,h5⟩,q⟩;dsimp only at h1 h2 h3 h4 h5 q;show CO E _ [.d (aK r),.d (shq q0)];unfold CO aK;walk_at "st";refine l8 (g:=shq) (f:=λx:Rat=>shq (x/q0)) r (λx hx Q hq=>?_) .un [] (by simp[aO];omega) ?_
 .walk_at "st"
  exact B0 (B2.of (h3 x hx) h4 (by omega)) h5 hq
 .walk_at "st"
  unfold aK hW at q;rw[dR] at q;exact q
theorem GI{we:WE}{tail:cQ}{Q:List D->Prop}{f:Rat->Rat->D}:∀(A C:List Rat),(∀x∈A,∀y∈C,∀Q:D->Prop,Q (f x y)->we No (.d (shq x)::.d (shq y)::tail) Q)->∀(sv sv':SV) (acc:List D),acc.length+A.length<=aO->Q (acc++List.zipWith f A C)->lcW (e7 2 (dC (gN 0) (dC (gN 1) fq))) dL we (du (A.map shq) (C.map shq)) (sv::sv'::tail) acc Q
 |[],C,_,sv,sv',acc,_,hq=>by simpa[lcW,du] using hq
 |x::A,[],_,sv,sv',acc,_,hq=>by simpa[lcW,du] using hq
 |x::A,y::C,h,sv,sv',acc,hl,hq=>by
  have e:du ((x::A).map shq) ((y::C).map shq)=.tup [shq x,shq y]::du (A.map shq) (C.map shq):=by simp[du]
  rw[e,lcW];refine⟨rfl,?_⟩;rw[dQ] at hl;refine h x (by simp) y (by simp) _ ⟨by omega,GI A C (λa ha c hc=>h a (by simp[ha]) c (by simp[hc])) _ _ _ (by simp;omega) ?_⟩;rw[nD];simpa using hq
theorem L7:Rd xu CP Zio:=by
 rintro _ E Q ⟨⟨⟨b,q0⟩,r,t⟩,rfl,⟨h1,h2,h3,h4,h5⟩,q⟩;dsimp only at h1 h2 h3 h4 h5 q;show CP E _ [.d (aK r),.d (shq q0),.d (aK t)];unfold CP aK;walk_at "st";refine GI (f:=λx y=>shq (x-q0*y)) r t (λx hx y hy Q hq=>?_) .un .un [] (by simp[aO];omega) ?_
 .walk_at "st"
  exact Fn (B2.of h4 (h5 y hy) (by omega)) (Fm (B2.of (h3 x hx) (h4.mul (h5 y hy)) (by omega)) hq)
 .walk_at "st"
  unfold aK bZ at q;rw[yE] at q;exact q
theorem GJ(h:k<r.length):dw (r.map shq) (k:Int)=some (shq (r.getD k 0)):=by
 refine bS ?_;rw[cA,aY,bR h];rfl
theorem uB(h:IsSl s n):∀r∈eO s n,Lf 6 n r:=λr hr=>by
 unfold eO at hr;obtain⟨t,ht,rfl⟩:=YbU.mp hr;obtain⟨h1,h2⟩:=m8 h t ht;have:=Lf.int (b:=6) (c:=t) (by decide) λx hx=>by have:=h2 x hx;show _<64;omega
 rw[h1] at this;exact this
def pB:(eO s n).length=n:=by unfold eO;rw[bP,jP]
def L8(h:n<=5):bq 6 n<=223:=by
 have:=zO (b:=6) h;have e:bq 6 5=223:=by decide
 omega
def cF(place:Nat):List (List Rat)->List Nat->List Rat->List Rat
 |l::L,a::pl,row=>cF place L pl (row.set a (0-l.getD place 0))
 |_,_,row=>row
theorem GK(place:Nat):∀(L:List (List Rat)) (pl:List Nat) (row:List Rat),(L.zip pl).foldl (λrow x=>row.set x.2 (0-x.1.getD place 0)) row=cF place L pl row
 |[],_,_=>by simp[cF]
 |_::_,[],_=>by simp[cF]
 |l::L,a::pl,row=>by rw[List.zip_cons_cons,List.foldl_cons,cF];exact GK place L pl _
theorem GL(n:Nat):∀(R:List (List Rat)) (k:Nat),(hX n k R).length=R.length
 |[],_=>rfl
 |r::R,k=>by rw[hX,dQ,GL n R (k+1)];rfl
theorem L9(n k:Nat):∃c:List Int,bF n k=c8 c/\c.length=n/\∀x∈c,x.natAbs<2^6:=by
 refine⟨(List.range n).map λi:Nat=>if(i:Int)=(k:Int) then(1:Int) else 0,(GG n k).symm,by simp,λx hx=>?_⟩;obtain⟨i,_,rfl⟩:=YbU.mp hx;split<;>decide
theorem GM{n m:Nat}:∀(T:List (List Int)) (k:Nat),(∀r∈T,r.length=m/\∀x∈r,x.natAbs<2^6)->∀r∈hX n k (T.map c8),Lf 6 (m+n) r
 |[],_,_,r,hr=>nomatch hr
 |t::T,k,h,r,hr=>by
  rw[da,hX] at hr;rcases Yao.mp hr with rfl|hr
  .obtain⟨c,e,cl,cb⟩:=L9 n k
   obtain⟨t1,t2⟩:=h t (by simp);have:=Lf.int (b:=6) (c:=t++c) (by decide) λx hx=>by
    rcases Yap.mp hx with hx|hx
    .exact t2 x hx
    .exact cb x hx
   rw[eu,t1,cl] at this;rw[e];unfold c8 at this ⊢;rw[iB] at this;exact this
  .exact GM T (k+1) (λr hr=>h r (by simp[hr])) r hr
theorem GN(h:IsSl s n):∀r∈fk s n,Lf 6 (n+n) r:=by
 unfold fk eO;refine GM _ _ λr hr=>?_;obtain⟨h1,h2⟩:=m8 h r hr;exact⟨h1,λx hx=>by have:=h2 x hx;show _<64;omega⟩
def zQ(s:List Int)(n:Nat):(fk s n).length=n:=by unfold fk;rw[GL,pB]
theorem Ma(h:IsSl s n):(∀r∈hZ s n,r.length=n/\∀y∈r,Sz 223 y)/\(hZ s n).length<=n:=by
 have ok:=CM (GN h) (p:=n) (by omega);have l:=ok.ln;rw[zQ] at l;have n5:=h.n5;unfold hZ;refine⟨λr hr=>?_,by rw[bP];omega⟩;obtain⟨t,ht,rfl⟩:=YbU.mp hr;refine⟨by rw[ja,(ok.ld t ht).len];omega,λy hy=>((ok.ld t ht).sz y (k6 hy)).mono (L8 n5)⟩
def CQ(h:p<n):(r.take n).getD p 0=r.getD p 0:=by
 rw[aY,aY,yG,if_pos h]
theorem GO{n p:Nat}(h:p<n):∀R:List (List Rat),eT (R.map (List.take n)) p=eT R p
 |[]=>rfl
 |r::R=>by rw[da,eT,eT,CQ h,GO h R]
theorem Mb(a c:List Rat)(q:Rat)(n:Nat):bZ (a.take n) q (c.take n)=(bZ a q c).take n:=by
 unfold bZ;rw[List.take_zipWith]
theorem GP(h:p<n)(R:List (List Rat))(c:List Rat):dg (R.map (List.take n)) (c.take n) p=(dg R c p).map (List.take n):=by
 unfold dg;rw[dR,dR];refine ia λr _=>?_;show bZ (r.take n) ((r.take n).getD p 0) (c.take n)=(bZ r (r.getD p 0) c).take n;rw[CQ h,Mb]
theorem Mc(R:List (List Rat))(a n:Nat):(R.map (List.take n)).getD a []=(R.getD a []).take n:=by
 rw[aY,aY,cA];cases R[a]? with
 |none=>simp
 |some r=>rfl
theorem Md(h:p<n)(R:List (List Rat))(a:Nat):tJ (R.map (List.take n)) a p=(tJ R a p).take n:=by
 unfold tJ;rw[Mc,CQ h];unfold hW;rw[mr]
theorem GQ{n:Nat}(A:List (List Rat)):∀p:Nat,p<=n->(gl (A.map (List.take n)) p).ld=(gl A p).ld.map (List.take n)/\(gl (A.map (List.take n)) p).pl=(gl A p).pl/\(gl (A.map (List.take n)) p).rs=(gl A p).rs.map (List.take n)
 |0,_=>⟨rfl,rfl,rfl⟩
 |p+1,h=>by
  obtain⟨h1,h2,h3⟩:=GQ (n:=n) A p (by omega);rw[gl,gl];generalize gl (A.map (List.take n)) p=y at h1 h2 h3;generalize gl A p=x at h1 h2 h3;obtain⟨yl,yp,yr⟩:=y
  try dsimp only at h1 h2 h3
  subst h1 h2 h3;unfold xq;dsimp only;have hp:p<n:=by omega
  rw[GO hp];cases e:eT x.rs p with
  |none=>exact⟨rfl,rfl,rfl⟩
  |some a=>
   dsimp only;rw[Md hp,GP hp,<-mr,<-pH,<-iB,GP hp,iB];exact⟨rfl,rfl,rfl⟩
theorem GR{n:Nat}:∀(R:List (List Rat)) (k:Nat),(∀r∈R,r.length=n)->(hX n k R).map (List.take n)=R
 |[],_,_=>rfl
 |r::R,k,h=>by
  rw[hX,da,GR R (k+1) (λx hx=>h x (by simp[hx])),<-h r (by simp),List.take_left'];rfl
def Me(h:IsSl s n):(fk s n).map (List.take n)=eO s n:=GR _ _ λr hr=>(uB h r hr).len
def aP(f:Nat->Rat):Nat->Rat
 |0=>0
 |n+1=>aP f n+f n
theorem dG{f g:Nat->Rat}:∀{n:Nat},(∀i,i<n->f i=g i)->aP f n=aP g n
 |0,_=>rfl
 |n+1,h=>by rw[aP,aP,dG (λi hi=>h i (by omega)),h n (by omega)]
theorem tK{f:Nat->Rat}:∀{n:Nat},(∀i,i<n->f i=0)->aP f n=0
 |0,_=>rfl
 |n+1,h=>by rw[aP,tK (λi hi=>h i (by omega)),h n (by omega),rL]
theorem kA{f:Nat->Rat}{k:Nat}:∀{n:Nat},k<n->(∀i,i<n->i≠k->f i=0)->aP f n=f k
 |0,h,_=>by omega
 |n+1,h,h0=>by
  rw[aP]
  by_cases e:k=n
  .subst e
   rw[tK (λi hi=>h0 i (by omega) (by omega)),Rat.zero_add]
  .rw[kA (k:=k) (by omega) (λi hi hk=>h0 i (by omega) hk),h0 n (by omega) (Ob e),rL]
theorem na(f g:Nat->Rat):∀n:Nat,aP (λi=>f i-g i) n=aP f n-aP g n
 |0=>by simp only[aP];grind
 |n+1=>by rw[aP,aP,aP,na f g n];grind
theorem uC(f:Nat->Rat):∀n:Nat,aP f (n+1)=f 0+aP (λi=>f (i+1)) n
 |0=>by simp only[aP];grind
 |n+1=>by rw[aP,uC f n,aP];grind
theorem md:∀(r x:List Rat) (n:Nat),r.length=n->x.length=n->cY r x=aP (λj=>r.getD j 0*x.getD j 0) n
 |[],[],_,h,_=>by subst h;rfl
 |[],_::_,n,h,h'=>by simp at h h';omega
 |_::_,[],n,h,h'=>by simp at h h';omega
 |a::r,y::x,n,h,h'=>by
  subst h;rw[cY,md r x r.length rfl (by simpa using h'),dQ,uC];rfl
theorem Mf{x:List Rat}(hr:r.length=n)(hx:x.length=n):cY (hW r q) x=cY r x/q:=by
 clear hr hx;unfold hW
 induction r generalizing x with
 |nil=>show(0:Rat)=0/q;rw[gL,gM]
 |cons a r ih=>
  cases x with
  |nil=>show(0:Rat)=0/q;rw[gL,gM]
  |cons y x=>
   rw[da,cY,cY,ih,gL,gL,gL];grind
theorem zR{c x:List Rat}(h:r.length=c.length):cY (bZ r q c) x=cY r x-q*cY c x:=by
 unfold bZ
 induction r generalizing c x with
 |nil=>
  cases c with
  |nil=>show(0:Rat)=0-q*0;grind
  |cons _ _=>simp at h
 |cons a r ih=>
  cases c with
  |nil=>simp at h
  |cons b c=>
   cases x with
   |nil=>show(0:Rat)=0-q*0;grind
   |cons y x=>
    rw[List.zipWith_cons_cons,cY,cY,cY,ih (by simpa using h)];grind
theorem GS(hr:r.length=n)(hk:k<n):cY r (bF n k)=r.getD k 0:=by
 rw[md r (bF n k) n hr (rm n k),kA hk]
 .rw[unit_at' hk,if_pos rfl,rO]
 .intro i hi e
  rw[unit_at' hi,if_neg e,jn]
where
 unit_at' {n k i:Nat} (hi:i<n):(bF n k).getD i 0=if i=k then 1 else 0:=by
  unfold bF;rw[aY,cA,iA hi];rfl
def uD(hi:i<n):(bF n k).getD i 0=if i=k then 1 else 0:=by
 unfold bF;rw[aY,cA,iA hi];rfl
theorem zS{x:List Rat}{a:Nat}{v:Rat}(ha:a<x.length):(x.set a v).getD i 0=if i=a then v else x.getD i 0:=by
 rw[aY,AE,aY]
 by_cases e:a=i
 .subst e;rw[if_pos rfl,if_pos rfl,if_pos ha];rfl
 .rw[if_neg e,if_neg (Ob e)]
theorem Mg{x:List Rat}{a:Nat}{v:Rat}(hr:r.length=n)(hx:x.length=n)(ha:a<n)(h0:x.getD a 0=0):cY r (x.set a v)=cY r x+r.getD a 0*v:=by
 rw[md r _ n hr (by rw[dv];exact hx),md r x n hr hx];have:aP (λj=>r.getD j 0*(x.set a v).getD j 0-r.getD j 0*x.getD j 0) n=r.getD a 0*v:=by
  rw[kA ha]
  .rw[zS (by omega),if_pos rfl,h0,jn];grind
  .intro i hi e
   rw[zS (by omega),if_neg e];grind
 rw[na] at this;grind
structure Ec(n:Nat)(R:List (List Rat))(p:Nat)(ld:List (List Rat))(pl:List Nat)(rs:List (List Rat)):Prop where
 wl:∀r∈ld,r.length=n
 ws:∀r∈rs,r.length=n
 ll:ld.length=pl.length
 nul:∀x:List Rat,x.length=n->((∀r∈R,cY r x=0)↔(∀r∈ld,cY r x=0)/\∀r∈rs,cY r x=0)
 lt:∀a∈pl,a<p
 asc:pl.Pairwise (· < ·)
 one:∀i j,i<ld.length->j<pl.length->(ld.getD i []).getD (pl.getD j 0) 0=if i=j then 1 else 0
 low:∀i,i<ld.length->∀q,q<pl.getD i 0->(ld.getD i []).getD q 0=0
 zer:∀r∈rs,∀q,q<p->r.getD q 0=0
theorem Ec.start{R:List (List Rat)}(h:∀r∈R,r.length=n):Ec n R 0 [] [] R:=⟨by simp,h,rfl,λx _=>by simp,by simp,.nil,λi j hi=>by simp at hi,λi hi=>by simp at hi,λr _ q hq=>by omega⟩
theorem Ec.skip{R:List (List Rat)}{pl:List Nat}(h:Ec n R p ld pl rs)(h0:∀r∈rs,r.getD p 0=0):Ec n R (p+1) ld pl rs:=
 ⟨h.wl,h.ws,h.ll,h.nul,λa ha=>yF (h.lt a ha),h.asc,h.one,h.low,λr hr q hq=>by
  by_cases e:q=p
  .rw[e];exact h0 r hr
  .exact h.zer r hr q (by omega)⟩
theorem Ec.pivot{R rs1 rs2:List (List Rat)}{pl:List Nat}{lead:List Rat}(h:Ec n R p ld pl rs)(hp:p<n)(hr0:r.getD p 0≠0)(hrs:∀t,t∈rs↔t=r\/t∈rs1)(hld:lead=hW r (r.getD p 0))(h2:∀t,t∈rs2↔∃u∈rs1,t=bZ u (u.getD p 0) lead):Ec n R (p+1) (dg ld lead p++[lead]) (pl++[p]) rs2:=by
 have rr:r∈rs:=(hrs r).mpr (.inl rfl);have rl:=h.ws r rr;have ll:lead.length=n:=by rw[hld];unfold hW;rw[bP];exact rl
 have lat:∀j,lead.getD j 0=r.getD j 0/r.getD p 0:=λj=>by
  rw[hld];unfold hW;rw[aY,cA,aY (i:=j)];cases r[j]? with
  |none=>show(0:Rat)=0/_;rw[gL,gM]
  |some x=>rfl
 have lp:lead.getD p 0=1:=by rw[lat,gL,yH _ hr0]
 have lz:∀q,q<p->lead.getD q 0=0:=λq hq=>by rw[lat,h.zer r rr q hq,gL,gM]
 have lesL:∀(u:List Rat) (z:Rat),u.length=n->(bZ u z lead).length=n:=λu z hu=>by unfold bZ;rw[mq];omega
 have lesA:∀(u:List Rat) (z:Rat) (j:Nat),u.length=n->(bZ u z lead).getD j 0=u.getD j 0-z*lead.getD j 0:=λu z j hu=>by
  unfold bZ;simp only[aY]
  by_cases hj:j<n
  .rw[bR (by rw[mq];omega),bR (by omega),bR (by omega),rN]
   rfl
  .rw[eI (by rw[mq];omega),eI (by omega),eI (by omega)]
   show(0:Rat)=0-z*0;grind
 have wlen:(dg ld lead p).length=ld.length:=by unfold dg;rw[bP]
 have wat:∀i,i<ld.length->(dg ld lead p++[lead]).getD i []=bZ (ld.getD i []) ((ld.getD i []).getD p 0) lead:=λi hi=>by
  rw[aY,jT (by omega)];unfold dg;rw[cA,aY,bR hi];rfl
 have wlast:(dg ld lead p++[lead]).getD ld.length []=lead:=by
  rw[aY,jE (by omega),wlen,uX];rfl
 have plat:∀i,i<pl.length->(pl++[p]).getD i 0=pl.getD i 0:=λi hi=>by
  rw[aY,jT hi,aY]
 have plast:(pl++[p]).getD pl.length 0=p:=by
  rw[aY,jE (bM _),uX];rfl
 have plt:∀i,i<pl.length->pl.getD i 0<p:=λi hi=>by
  rw[aY,bR hi];exact h.lt _ (jG _)
 have ldm:∀i,i<ld.length->ld.getD i []∈ld:=λi hi=>ji hi;have hll:=h.ll;refine⟨λt ht=>?_,λt ht=>?_,?_,λx hx=>?_,λa ha=>?_,?_,λi j hi hj=>?_,λi hi q hq=>?_,λt ht q hq=>?_⟩
 .rcases Yap.mp ht with ht|ht
  .unfold dg at ht
   obtain⟨u,hu,rfl⟩:=YbU.mp ht;exact lesL u _ (h.wl u hu)
  .rw[Ycu.mp ht];exact ll
 .obtain⟨u,hu,rfl⟩:=(h2 t).mp ht
  exact lesL u _ (h.ws u ((hrs u).mpr (.inr hu)))
 .rw[eu,eu,wlen,hll];rfl
 .rw[h.nul x hx]
  have dl:cY lead x=cY r x/r.getD p 0:=by rw[hld];exact Mf rl hx
  constructor
  .rintro⟨g1,g2⟩
   have z:cY lead x=0:=by rw[dl,g2 r rr,gL,gM]
   refine⟨λt ht=>?_,λt ht=>?_⟩
   .rcases Yap.mp ht with ht|ht
    .unfold dg at ht
     obtain⟨u,hu,rfl⟩:=YbU.mp ht;rw[zR (by rw[h.wl u hu,ll]),g1 u hu,z];grind
    .rw[Ycu.mp ht];exact z
   .obtain⟨u,hu,rfl⟩:=(h2 t).mp ht
    have hu':=(hrs u).mpr (.inr hu);rw[zR (by rw[h.ws u hu',ll]),g2 u hu',z];grind
  .rintro⟨g1,g2⟩
   have z:cY lead x=0:=g1 lead (by simp);have zr:cY r x=0:=by
    rw[dl,gL] at z;have:cY r x*(r.getD p 0)⁻¹*r.getD p 0=0:=by rw[z,gM]
    rw[yI,pK _ hr0,rO] at this;exact this
   refine⟨λt ht=>?_,λt ht=>?_⟩
   .have:=g1 (bZ t (t.getD p 0) lead) (Yap.mpr (.inl (by unfold dg;exact List.mem_map_of_mem (f:=λr=>bZ r (r.getD p 0) lead) ht)))
    rw[zR (by rw[h.wl t ht,ll]),z] at this;grind
   .rcases(hrs t).mp ht with rfl|hu
    .exact zr
    .have:=g2 (bZ t (t.getD p 0) lead) ((h2 _).mpr ⟨t,hu,rfl⟩)
     rw[zR (by rw[h.ws t ht,ll]),z] at this;grind
 .rcases Yap.mp ha with ha|ha
  .exact yF (h.lt a ha)
  .rw[Ycu.mp ha];exact Ao p
 .refine List.pairwise_append.mpr ⟨h.asc,by simp,λa ha b hb=>?_⟩
  rw[Ycu.mp hb];exact h.lt a ha
 .rw[eu,wlen,lQ] at hi
  rw[eu,lQ] at hj
  by_cases hi':i<ld.length
  .have hw:=h.wl _ (ldm i hi')
   rw[wat i hi',lesA _ _ _ hw]
   by_cases hj':j<pl.length
   .rw[plat j hj',h.one i j hi' hj',lz _ (plt j hj')];grind
   .obtain rfl:j=pl.length:=by omega
    rw[plast,lp,if_neg (by omega)];grind
  .obtain rfl:i=ld.length:=by omega
   rw[wlast]
   by_cases hj':j<pl.length
   .rw[plat j hj',lz _ (plt j hj'),if_neg (by omega)]
   .obtain rfl:j=pl.length:=by omega
    rw[plast,lp,if_pos hll]
 .rw[eu,wlen,lQ] at hi
  by_cases hi':i<ld.length
  .have hw:=h.wl _ (ldm i hi')
   rw[plat i (by omega)] at hq;rw[wat i hi',lesA _ _ _ hw,h.low i hi' q hq,lz q (by have:=plt i (by omega);omega)];grind
  .obtain rfl:i=ld.length:=by omega
   rw[hll,plast] at hq;rw[wlast];exact lz q hq
 .obtain⟨u,hu,rfl⟩:=(h2 t).mp ht
  have hu':=(hrs u).mpr (.inr hu);rw[lesA _ _ _ (h.ws u hu')]
  by_cases e:q=p
  .rw[e,lp];grind
  .rw[h.zer u hu' q (by omega),lz q (by omega)];grind
def f6(r:List Rat)(q:Nat):List (List Rat)->List Nat->Rat
 |l::L,a::P=>r.getD a 0*l.getD q 0+f6 r q L P
 |_,_=>0
theorem GT(q:Nat):∀(L:List (List Rat)) (P:List Nat) (row:List Rat),(cF q L P row).length=row.length
 |[],_,_=>by simp[cF]
 |_::_,[],_=>by simp[cF]
 |l::L,a::P,row=>by rw[cF,GT q L P,dv]
theorem xw{q t:Nat}:∀(L:List (List Rat)) (P:List Nat) (row:List Rat),(∀a∈P,a<row.length)->t∉P->(cF q L P row).getD t 0=row.getD t 0
 |[],_,_,_,_=>by simp[cF]
 |_::_,[],_,_,_=>by simp[cF]
 |l::L,a::P,row,h,ht=>by
  rw[cF,xw L P _ (λb hb=>by rw[dv];exact h b (by simp[hb])) (λhb=>ht (by simp[hb])),zS (h a (by simp)),if_neg (λe=>ht (by simp[e]))]
theorem CU{r:List Rat}{q n:Nat}(hr:r.length=n):∀(L:List (List Rat)) (P:List Nat) (row:List Rat),row.length=n->(∀a∈P,a<n)->P.Pairwise (· < ·)->(∀a∈P,row.getD a 0=0)->cY r (cF q L P row)=cY r row-f6 r q L P
 |[],_,row,_,_,_,_=>by simp only[cF,f6];grind
 |_::_,[],row,_,_,_,_=>by simp only[cF,f6];grind
 |l::L,a::P,row,hw,hn,ha,h0=>by
  obtain⟨h1,h2⟩:=YcP.mp ha;rw [cF,CU hr L P _ (by rw [dv];exact hw) (λb hb=>hn b (by simp [hb])) h2 (λb hb=>by
   rw[zS (by rw[hw];exact hn a (by simp)),if_neg (by have:=h1 b hb;omega)];exact h0 b (by simp[hb])),Mg hr hw (hn a (by simp)) (h0 a (by simp)),f6]
  grind
theorem Zh{r:List Rat}{q:Nat}:∀(L:List (List Rat)) (P:List Nat),(∀j,j<P.length->j<L.length->r.getD (P.getD j 0) 0*(L.getD j []).getD q 0=0)->f6 r q L P=0
 |[],_,_=>by simp[f6]
 |_::_,[],_=>by simp[f6]
 |l::L,a::P,h=>by
  rw[f6,Zh L P (λj h1 h2=>by simpa using h (j+1) (by simpa using h1) (by simpa using h2))];have:=h 0 (by simp) (by simp);rw[uY,uY] at this;rw[this,rL]
theorem GU{r:List Rat}{q:Nat}:∀(L:List (List Rat)) (P:List Nat) (i:Nat),i<L.length->L.length=P.length->(∀j,j<P.length->r.getD (P.getD j 0) 0=if i=j then 1 else 0)->f6 r q L P=(L.getD i []).getD q 0
 |[],_,i,hi,_,_=>by simp at hi
 |_::_,[],i,_,hl,_=>by simp at hl
 |l::L,a::P,0,hi,hl,h=>by
  have h0:=h 0 (by simp);rw[uY,if_pos rfl] at h0;rw [f6,h0,Zh L P (λj h1 h2=>by
   have:=h (j+1) (by simpa using h1);rw[t5,if_neg (by omega)] at this;rw[this,gM]),uY]
  grind
 |l::L,a::P,i+1,hi,hl,h=>by
  have h0:=h 0 (by simp);rw[uY,if_neg (by omega)] at h0;rw [f6,h0,GU L P i (by simpa using hi) (by simpa using hl) (λj hj=>by
   have:=h (j+1) (by simpa using hj);rw[t5] at this;rw[this]
   by_cases e:i=j
   .rw[if_pos e,if_pos (by omega)]
   .rw[if_neg e,if_neg (by omega)]),t5]
  grind
theorem Ec.free{q:Nat}{R:List (List Rat)}{pl:List Nat}(h:Ec n R n ld pl rs)(hq:q<n)(hn:q∉pl):(cF q ld pl (bF n q)).length=n/\∀r∈R,cY r (cF q ld pl (bF n q))=0:=by
 have l:(cF q ld pl (bF n q)).length=n:=by rw[GT,rm]
 have z0:∀a∈pl,(bF n q).getD a 0=0:=λa ha=>by
  rw[uD (h.lt a ha),if_neg (show¬a=q from λe=>hn (by rw[<-e];exact ha))]
 refine⟨l,(h.nul _ l).mpr ⟨λr hr=>?_,λr hr=>?_⟩⟩
 .obtain⟨i,hi,e⟩:=YbB.mp hr
  have e':ld.getD i []=r:=by rw[aY,bR hi];exact e
  rw[CU (h.wl r hr) ld pl _ (rm n q) h.lt h.asc z0,GS (h.wl r hr) hq,GU ld pl i hi h.ll (λj hj=>by rw[<-e'];exact h.one i j hi hj),e'];grind
 .rw[md r _ n (h.ws r hr) l]
  exact tK λj hj=>by rw[h.zer r hr j hj,gM]
theorem Ec.sub{R ld' rs':List (List Rat)}{pl:List Nat}(h:Ec n R n ld pl rs)(h':Ec n R n ld' pl' rs'){q:Nat}(hq:q∈pl):q∈pl':=by
 refine Classical.byContradiction λhn=>?_;have qn:=h.lt q hq;obtain⟨i,hi,e⟩:=YbB.mp hq;have e':pl.getD i 0=q:=by rw[aY,bR hi];exact e
 have hi':i<ld.length:=by rw[h.ll];exact hi
 obtain⟨l,f0⟩:=h'.free qn hn;have fl:=((h.nul _ l).mp f0).1 _ (ji hi');have wl:=h.wl _ (ji hi');have z0:∀a∈pl',(bF n q).getD a 0=0:=λa ha=>by
  rw[uD (h'.lt a ha),if_neg (show¬a=q from λe=>hn (by rw[<-e];exact ha))]
 have o:=h.one i i hi' hi;rw[e',if_pos rfl] at o;rw[CU wl ld' pl' _ (rm n q) h'.lt h'.asc z0,GS wl qn,o,Zh ld' pl' (λj h1 h2=>?_)] at fl
 .exact N6 fl (by decide +kernel)
 .have hm:pl'.getD j 0∈pl':=by rw[aY,bR h1];exact jG _
  rcases Nat.lt_trichotomy (pl'.getD j 0) q with g|g|g
  .rw[h.low i hi' _ (by rw[e'];exact g),gM]
  .exact N6 (by rw[g] at hm;exact hm) hn
  .rw[h'.low j h2 q g,jn]
theorem zT:∀{a b:List Nat},a.Pairwise (· < ·)->b.Pairwise (· < ·)->(∀x,x∈a↔x∈b)->a=b
 |[],[],_,_,_=>rfl
 |[],y::b,_,_,h=>by have:=(h y).mpr (by simp);simp at this
 |x::a,[],_,_,h=>by have:=(h x).mp (by simp);simp at this
 |x::a,y::b,ha,hb,h=>by
  obtain⟨a1,a2⟩:=YcP.mp ha;obtain⟨b1,b2⟩:=YcP.mp hb;have hx:=(h x).mp (by simp);have hy:=(h y).mpr (by simp);have e:x=y:=by
   rcases Yao.mp hx with e|hx
   .exact e
   .rcases Yao.mp hy with e|hy
    .exact e.symm
    .have:=a1 y hy;have:=b1 x hx;omega
  subst e;rw[zT a2 b2 λz=>?_];constructor
  .intro hz
   rcases Yao.mp ((h z).mp (by simp[hz])) with e|e
   .have:=a1 z hz;omega
   .exact e
  .intro hz
   rcases Yao.mp ((h z).mpr (by simp[hz])) with e|e
   .have:=b1 z hz;omega
   .exact e
theorem Ec.places{R ld' rs':List (List Rat)}{pl:List Nat}(h:Ec n R n ld pl rs)(h':Ec n R n ld' pl' rs'):pl=pl':=zT h.asc h'.asc λ_=>⟨h.sub h',h'.sub h⟩
theorem Ec.uniq{q:Nat}{R ld' rs':List (List Rat)}{pl:List Nat}(h:Ec n R n ld pl rs)(h':Ec n R n ld' pl rs')(hq:q<n)(hn:q∉pl):cF q ld pl (bF n q)=cF q ld' pl (bF n q):=by
 obtain⟨l,f0⟩:=h.free hq hn;obtain⟨l',f0'⟩:=h'.free hq hn;have g1:=((h.nul _ l).mp f0).1;have g2:=((h.nul _ l').mp f0').1;have off:∀t,t∉pl->(cF q ld pl (bF n q)).getD t 0=(cF q ld' pl (bF n q)).getD t 0:=λt ht=>by
  rw[xw _ _ _ (by rw[rm];exact h.lt) ht,xw _ _ _ (by rw[rm];exact h.lt) ht]
 generalize cF q ld pl (bF n q)=f at l g1 off;generalize cF q ld' pl (bF n q)=g at l' g2 off;have on:∀t,t∈pl->f.getD t 0=g.getD t 0:=λt ht=>by
  obtain⟨i,hi,e⟩:=YbB.mp ht;have e':pl.getD i 0=t:=by rw[aY,bR hi];exact e
  have hi':i<ld.length:=by rw[h.ll];exact hi
  have wl:=h.wl _ (ji hi');have o:=h.one i i hi' hi;rw[e',if_pos rfl] at o;have d1:=g1 _ (ji hi');have d2:=g2 _ (ji hi');rw[md _ f n wl l] at d1;rw[md _ g n wl l'] at d2;have s:aP (λj=>(ld.getD i []).getD j 0*f.getD j 0-(ld.getD i []).getD j 0*g.getD j 0) n=f.getD t 0-g.getD t 0:=by
   rw[kA (k:=t) (h.lt t ht)]
   .rw[o];grind
   .intro j hj ne
    by_cases hm:j∈pl
    .obtain⟨k,hk,ek⟩:=YbB.mp hm
     have ek':pl.getD k 0=j:=by rw[aY,bR hk];exact ek
     have oz:=h.one i k hi' hk;rw[ek',if_neg (λz=>ne (by rw[<-ek',<-z,e']))] at oz;rw[oz];grind
    .rw[off j hm];grind
  rw[na,d1,d2] at s;grind
 refine List.ext_getElem (by rw[l,l']) λt h1 h2=>?_;have e1:f[t]=f.getD t 0:=by rw[aY,bR h1];rfl
 have e2:g[t]=g.getD t 0:=by rw[aY,bR h2];rfl
 rw[e1,e2]
 by_cases hm:t∈pl
 .exact on t hm
 .exact off t hm
theorem GV:∀{R:List (List Rat)} {p:Nat},eT R p=none->∀r∈R,r.getD p 0=0
 |[],_,_,r,hr=>by cases hr
 |t::R,p,h,r,hr=>by
  rw[eT] at h
  by_cases e:t.getD p 0=0
  .rw[if_pos e] at h
   rcases Yao.mp hr with rfl|hr
   .exact e
   .exact GV (by cases e2:eT R p with
     |none=>rfl
     |some a=>rw[e2] at h;cases h) r hr
  .rw[if_neg e] at h;cases h
theorem Mh{R:List (List Rat)}{a:Nat}(h:a<R.length)(t:List Rat):t∈R↔t=R.getD a []\/t∈R.take a++R.drop (a+1):=by
 have e:R=R.take a++R.getD a []::R.drop (a+1):=by
  conv=>lhs;rw[<-List.take_append_drop a R]
  rw[tV h,aY,bR h];rfl
 conv=>lhs;rw[e]
 simp only[Yap,Yao];constructor
 .rintro(h|h|h)
  .exact .inr (.inl h)
  .exact .inl h
  .exact .inr (.inr h)
 .rintro(h|h|h)
  .exact .inr (.inl h)
  .exact .inl h
  .exact .inr (.inr h)
theorem xy{n:Nat}{R:List (List Rat)}(hR:∀r∈R,r.length=n):∀p,p<=n->Ec n R p (gl R p).ld (gl R p).pl (gl R p).rs
 |0,_=>Ec.start hR
 |p+1,hp=>by
  have ih:=xy hR p (by omega);rw[gl];generalize gl R p=x at ih;unfold xq;cases e:eT x.rs p with
  |none=>exact ih.skip (GV e)
  |some a=>
   obtain⟨a1,a2⟩:=zP e;exact ih.pivot (r:=x.rs.getD a []) (rs1:=x.rs.take a++x.rs.drop (a+1)) (by omega) a2 (Mh a1) rfl λt=>by
    unfold dg;rw[YbU];constructor
    .rintro⟨u,hu,rfl⟩;exact⟨u,hu,rfl⟩
    .rintro⟨u,hu,rfl⟩;exact⟨u,hu,rfl⟩
namespace Dt
open B.C
theorem GW(f g:Nat->Rat):∀n:Nat,aP (λi=>f i+g i) n=aP f n+aP g n
 |0=>by simp only[aP];grind
 |n+1=>by rw[aP,aP,aP,GW f g n];grind
theorem fv(f:Nat->Rat)(c:Rat):∀n:Nat,aP (λi=>c*f i) n=c*aP f n
 |0=>by simp only[aP];grind
 |n+1=>by rw[aP,aP,fv f c n];grind
theorem uE(f:Nat->Nat->Rat)(m:Nat):∀n:Nat,aP (λi=>aP (λj=>f i j) m) n=aP (λj=>aP (λi=>f i j) n) m
 |0=>by rw[aP];exact(tK λ_ _=>rfl).symm
 |n+1=>by
  rw[aP,uE f m n,<-GW];rfl
theorem uF(f:Nat->Int):∀n:Nat,aP (λi=>((f i:Int):Rat)) n=((bB f n:Int):Rat)
 |0=>rfl
 |n+1=>by rw[aP,bB,uF f n,Rat.intCast_add]
theorem GX(A:Nat->R)(hn:n<=5){w:Nat->Rat}(h:∀i,i<n->aP (λj=>(A i j:Rat)*w j) n=0)(hj:j<n):(dt A n:Rat)*w j=0:=by
 have e:aP (λk=>(gA A n k j:Rat)*aP (λl=>(A k l:Rat)*w l) n) n=(dt A n:Rat)*w j:=by
  rw[dG (g:=λk=>aP (λl=>(gA A n k j:Rat)*((A k l:Rat)*w l)) n) (λk _=>(fv _ _ n).symm),uE];rw [dG (g:=λl=>w l*((bB (λk=>A k l*gA A n k j) n:Int):Rat)) (λl _=>by
   rw[<-uF,<-fv];exact dG λk _=>by rw[uZ];grind)]
  rw[kA (k:=j) hj (λi hi ne=>by rw[wr A hn hi hj,if_neg ne];exact jn _),wr A hn hj hj,if_pos rfl,t6]
 rw[<-e];exact tK λk hk=>by rw[h k hk,jn]
theorem xz{B:Nat->R}(h:∀l,l<k->∀c,c<k\/c=j->A l c=B l c)(hi:∀c,c<k\/c=j->A i c=B i c):M A k i j=M B k i j:=by
 match k with
 |0=>exact hi j (.inr rfl)
 |1=>
  simp only[M,m2];rw[h 0 (by omega) 0 (by omega),h 0 (by omega) j (by omega),hi 0 (by omega),hi j (by omega)]
 |2=>
  simp only[M,m3,m2];rw[h 0 (by omega) 0 (by omega),h 0 (by omega) 1 (by omega),h 0 (by omega) j (by omega),h 1 (by omega) 0 (by omega),h 1 (by omega) 1 (by omega),h 1 (by omega) j (by omega),hi 0 (by omega),hi 1 (by omega),hi j (by omega)]
 |3=>
  simp only[M,m4,m3,m2];rw[h 0 (by omega) 0 (by omega),h 0 (by omega) 1 (by omega),h 0 (by omega) 2 (by omega),h 0 (by omega) j (by omega),h 1 (by omega) 0 (by omega),h 1 (by omega) 1 (by omega),h 1 (by omega) 2 (by omega),h 1 (by omega) j (by omega),h 2 (by omega) 0 (by omega),h 2 (by omega) 1 (by omega),h 2 (by omega) 2 (by omega),h 2 (by omega) j (by omega),hi 0 (by omega),hi 1 (by omega),hi 2 (by omega),hi j (by omega)]
 |4=>
  simp only[M,m5,m4,m3,m2];rw[h 0 (by omega) 0 (by omega),h 0 (by omega) 1 (by omega),h 0 (by omega) 2 (by omega),h 0 (by omega) 3 (by omega),h 0 (by omega) j (by omega),h 1 (by omega) 0 (by omega),h 1 (by omega) 1 (by omega),h 1 (by omega) 2 (by omega),h 1 (by omega) 3 (by omega),h 1 (by omega) j (by omega),h 2 (by omega) 0 (by omega),h 2 (by omega) 1 (by omega),h 2 (by omega) 2 (by omega),h 2 (by omega) 3 (by omega),h 2 (by omega) j (by omega),h 3 (by omega) 0 (by omega),h 3 (by omega) 1 (by omega),h 3 (by omega) 2 (by omega),h 3 (by omega) 3 (by omega),h 3 (by omega) j (by omega),hi 0 (by omega),hi 1 (by omega),hi 2 (by omega),hi 3 (by omega),hi j (by omega)]
 |_+5=>rfl
theorem CV{B:Nat->R}(h:∀i,i<n->∀j,j<n->A i j=B i j):dt A n=dt B n:=by
 cases n with
 |zero=>rfl
 |succ k=>exact xz (λl hl c hc=>h l (by omega) c (by omega)) λc hc=>h k (by omega) c (by omega)
theorem GY(h:IsSl s n)(hi:i<n):((eO s n).getD i []).getD j 0=(tA (tbl s n) i j:Rat):=by
 have l:=jP s n;unfold eO tA gr ga;have e:(tbl s n)[i]? = some ((tbl s n).getD i []):=by rw[aY,bR (by omega)];rfl
 rw[aY (l:=List.map c8 (tbl s n)),cA,e];show(c8 ((tbl s n).getD i [])).getD j 0=_;unfold c8;rw[aY,cA,aY (l:=(tbl s n).getD i [])];cases((tbl s n).getD i [])[j]? with
 |none=>rfl
 |some v=>rfl
def mh(n:Nat)(f:Nat->Rat):List Rat:=(List.range n).map f
def rn(n:Nat)(f:Nat->Rat):(mh n f).length=n:=by unfold mh;simp
def xA{f:Nat->Rat}(h:j<n):(mh n f).getD j 0=f j:=by
 unfold mh;rw[aY,cA,iA h];rfl
theorem Mi(hr:r∈eO s n):∃i,i<n/\(eO s n).getD i []=r:=by
 obtain⟨i,hi,e⟩:=YbB.mp hr;rw[pB] at hi;exact⟨i,hi,by rw[aY,bR (by rw[pB];exact hi)];exact e⟩
theorem xB{x:List Rat}(h:IsSl s n)(hi:i<n)(hx:x.length=n):cY ((eO s n).getD i []) x=aP (λj=>(tA (tbl s n) i j:Rat)*x.getD j 0) n:=by
 have hm:(eO s n).getD i []∈eO s n:=ji (by rw[pB];exact hi);rw[md _ x n (uB h _ hm).len hx];exact dG λj _=>by rw[GY h hi]
def CW(n:Nat):(List.range n).Pairwise (· < ·):=List.pairwise_lt_range
theorem CY(h:IsSl s n):cy s n=[]↔(dN s n).pl=List.range n:=by
 have ec:=xy (n:=n) (R:=eO s n) (λr hr=>(uB h r hr).len) n (bM _);have ec:Ec n (eO s n) n (dN s n).ld (dN s n).pl (dN s n).rs:=ec;unfold cy;rw[List.map_eq_nil_iff,List.filter_eq_nil_iff];constructor
 .intro e
  refine zT ec.asc (CW n) λx=>⟨λhx=>Yah.mpr (ec.lt x hx),λhx=>?_⟩;have:=e x hx;simpa using this
 .intro e a ha
  rw[e];simpa using ha
theorem mi(h:IsSl s n):cy s n=[]↔dt (tA (tbl s n)) n≠0:=by
 have hsm:Sm 6 n (tbl s n):=⟨jP s n,λr hr=>(m8 h r hr).1,λr hr x hx=>by
  have:=(m8 h r hr).2 x hx;show x.natAbs<64;omega⟩
 have ec:Ec n (eO s n) n (dN s n).ld (dN s n).pl (dN s n).rs:=xy (n:=n) (R:=eO s n) (λr hr=>(uB h r hr).len) n (bM _);constructor
 .intro e z
  rw[<-zM hsm h.n5] at z;obtain⟨w,⟨a,ha,wa⟩,hw⟩:=Gx hsm h.n5 z;have pl:=(CY h).mp e;have nul:=(ec.nul (mh n λj=>(w j:Rat)) (rn _ _)).mp (λr hr=>by
   obtain⟨i,hi,rfl⟩:=Mi hr;rw[xB h hi (rn _ _)];have:=hw i hi;have c:=uF (λj=>tA (tbl s n) i j*w j) n;rw[this] at c;refine Eq.trans (dG λj hj=>?_) c;rw[xA hj,uZ])
  have al:a<(dN s n).ld.length:=by rw[ec.ll,pl,nG];exact ha
  have one:∀j,j<n->((dN s n).ld.getD a []).getD j 0=if a=j then 1 else 0:=λj hj=>by
   have:=ec.one a j al (by rw[pl,nG];exact hj);rw[pl] at this;rw[show(List.range n).getD j 0=j from by rw[aY,iA hj];rfl] at this;exact this
  have d:=nul.1 _ (ji al);rw[md _ _ n (ec.wl _ (ji al)) (rn _ _),kA (k:=a) ha (λj hj ne=>by rw[one j hj,if_neg (Ob ne),gM]),one a ha,if_pos rfl,xA ha,nJ] at d;exact wa (by exact_mod_cast d)
 .intro z
  rw[CY h];refine zT ec.asc (CW n) λx=>⟨λhx=>Yah.mpr (ec.lt x hx),λhx=>?_⟩;rw[Yah] at hx;refine Classical.byContradiction λhn=>?_;obtain⟨fl,f0⟩:=ec.free hx hn;have:=GX (tA (tbl s n)) h.n5 (w:=λj=>(cF x (dN s n).ld (dN s n).pl (bF n x)).getD j 0) (λi hi=>by
   rw[<-xB h hi fl];exact f0 _ (ji (by rw[pB];exact hi))) hx
  rw[xw _ _ _ (by rw[rm];exact ec.lt) hn,uD hx,if_pos rfl,rO] at this;exact z (by exact_mod_cast this)
theorem GZ{n:Nat}:∀(R:List (List Rat)) (k i:Nat),i<R.length->(hX n k R).getD i []=R.getD i []++bF n (k+i)
 |[],_,_,h=>by simp at h
 |r::R,k,0,_=>rfl
 |r::R,k,i+1,h=>by
  rw[hX,t5,GZ R (k+1) i (by simpa using h),t5,show k+1+i=k+(i+1) by omega]
theorem xC{a b:List Rat}:(a++b).getD j 0=if j<a.length then a.getD j 0 else b.getD (j-a.length) 0:=by
 split
 .rename_i h;rw[aY,jT h,aY]
 .rename_i h;rw[aY,jE (by omega),aY]
theorem CZ(f:Nat->Rat)(n:Nat):∀m:Nat,aP f (n+m)=aP f n+aP (λj=>f (n+j)) m
 |0=>by rw[aP,Nat.add_zero,rL]
 |m+1=>by rw[<-Nat.add_assoc,aP,CZ f n m,aP];grind
theorem kT(h:IsSl s n)(e:cy s n=[]):(hZ s n).length=n/\∀i k,i<n->k<n->((hZ s n).getD i []).getD k 0=(gA (tA (tbl s n)) n k i:Rat)/(dt (tA (tbl s n)) n:Rat):=by
 have dz:=(mi h).mp e;have pl:=(CY h).mp e;have alf:=GN h;have ec:=xy (n:=n+n) (R:=fk s n) (λr hr=>(alf r hr).len) n (by omega);obtain⟨t1,t2,t3⟩:=GQ (n:=n) (fk s n) n (bM _);rw[Me h] at t1 t2 t3;have pl':(gl (fk s n) n).pl=List.range n:=by rw[<-t2];exact pl
 have ok:=CM alf (p:=n) (by omega);have okn:=ok.ln;rw[zQ] at okn;have ldl:(gl (fk s n) n).ld.length=n:=by rw[ec.ll,pl',nG]
 have rs0:(gl (fk s n) n).rs=[]:=List.length_eq_zero_iff.mp (by omega);unfold hZ;generalize gl (fk s n) n=c at ec pl' ldl rs0;refine⟨by rw[bP];exact ldl,λi k hi hk=>?_⟩
 let x:Nat->Rat:=λj=>(gA (tA (tbl s n)) n k j:Rat)/(dt (tA (tbl s n)) n:Rat)
 have hx:∀r,r<n->aP (λj=>(tA (tbl s n) r j:Rat)*x j) n=if r=k then 1 else 0:=λr hr=>by
  have a:=BA (tA (tbl s n)) h.n5 hr hk;have dz':(dt (tA (tbl s n)) n:Rat)≠0:=by exact_mod_cast dz
  rw[dG (g:=λj=>(dt (tA (tbl s n)) n:Rat)⁻¹*((tA (tbl s n) r j*gA (tA (tbl s n)) n k j:Int):Rat)) (λj _=>by show _*(_/_)=_;rw[uZ,gL];grind),fv,uF,a];split
  .exact pK _ dz'
  .exact jn _
 have zl:(mh n x++mh n λj=>if j=k then -1 else 0).length=n+n:=by rw[eu,rn,rn]
 have za:∀j,j<n->(mh n x++mh n λj=>if j=k then -1 else 0).getD j 0=x j:=λj hj=>by rw[xC,rn,if_pos hj,xA hj]
 have zb:∀j,j<n->(mh n x++mh n λj=>if j=k then -1 else 0).getD (n+j) 0=if j=k then -1 else 0:=λj hj=>by rw[xC,rn,if_neg (by omega),Nat.add_sub_cancel_left,xA hj]
 have nul:=(ec.nul _ zl).mp (λr hr=>by
  obtain⟨a,ha,ea⟩:=YbB.mp hr;rw[zQ] at ha;have er:(fk s n).getD a []=r:=by rw[aY,bR (by rw[zQ];exact ha)];exact ea
  unfold fk at er;rw[GZ _ _ _ (by rw[pB];exact ha),rM] at er;have rl:=(uB h _ (ji (R:=eO s n) (a:=a) (by rw[pB];exact ha))).len;rw[md r _ (n+n) (alf r hr).len zl,CZ,<-er];rw[dG (n:=n) (g:=λj=>(tA (tbl s n) a j:Rat)*x j) (λj hj=>by rw[za j hj,xC,rl,if_pos hj,GY h ha]),hx a ha];rw [dG (n:=n) (g:=λj=>if j=a then (if j=k then -1 else 0) else 0) (λj hj=>by
   rw[zb j hj,xC,rl,if_neg (by omega),Nat.add_sub_cancel_left,uD hj];split
   .rw[nJ]
   .rw[gM])]
  rw[kA (k:=a) ha (λj hj ne=>by rw[if_neg ne]),if_pos rfl];split<;>grind)
 have il:i<c.ld.length:=by omega
 have one:∀j,j<n->(c.ld.getD i []).getD j 0=if i=j then 1 else 0:=λj hj=>by
  have:=ec.one i j il (by rw[pl',nG];exact hj);rw[pl'] at this;rw[show(List.range n).getD j 0=j from by rw[aY,iA hj];rfl] at this;exact this
 have d:=nul.1 _ (ji il);rw[md _ _ (n+n) (ec.wl _ (ji il)) zl,CZ] at d;rw[kA (n:=n) (k:=i) hi (λj hj ne=>by rw[one j hj,if_neg (Ob ne),gM]),one i hi,if_pos rfl,za i hi] at d;rw[kA (n:=n) (k:=k) hk (λj hj ne=>by rw[zb j hj,if_neg ne,jn]),zb k hk,if_pos rfl] at d;have eg:((c.ld.map λr=>r.drop n).getD i []).getD k 0=(c.ld.getD i []).getD (n+k) 0:=by
  rw[aY (l:=c.ld.map _),cA,aY (l:=c.ld),bR il];show(List.drop n (c.ld[i])).getD k 0=(c.ld[i]).getD (n+k) 0;rw[aY,tY,aY]
 rw[eg];show _=x i;grind
end Dt
namespace B.C.E
def cl(n:Nat)(d:D):Prop:=bx 7 d n=true/\jh d=true/\iw d=true
def cl.up(l:n<=m)(h:cl n d):cl m d:=⟨CJ _ l h.1,h.2⟩
theorem cl.tup{n:Nat}{xs:List D}(hl:xs.length<=7)(h:∀x∈xs,cl n x):cl (n+1) (.tup xs):=⟨bx_tup hl λx hx=>(h x hx).1,by rw[jh,zJ];exact λx hx=>(h x hx).2.1,by rw[iw,xc];exact λx hx=>(h x hx).2.2⟩
theorem cl.row(hl:r.length<=7)(h:∀x∈r,Sz 223 x):cl 2 (aK r):=⟨bx_rowq (by decide) hl h,Cz r,zK r⟩
theorem cl.two{a b:D}(h1:cl n a)(h2:cl n b):cl (n+1) (.tup [a,b]):=.tup (by simp) λx hx=>by
 simp only[Yao,dh,or_false] at hx;rcases hx with rfl|rfl<;>assumption
def cl.non{n:Nat}:cl n .non:=⟨by rw[bx],rfl,rfl⟩
def bo(d:D):Bool:=match d with
 |.tup xs=>((xs.length:Int)%2==0)
 |_=>true
end B.C.E
namespace B.C.K5
section
variable{E:Ex->Prop}{x:D}
end
end B.C.K5
namespace Dt
open B.C
theorem G0{r:List Int}{l:Nat}(hi:i<=r.length):ga (cutL r i) l=ga r (sk i l):=by
 unfold cutL ga sk;rw[aY,aY,List.getElem?_append,gT,nF hi]
 by_cases h:l<i
 .rw[if_pos h,if_pos h,yG,if_pos h]
 .rw[if_neg h,if_neg h,tY,show i+1+(l-i)=l+1 by omega]
theorem Mj(h:t.length=n)(hj:j<=n)(hk:k+1<n):gr (tI t i j) k=cutL (gr t (sk j k)) i:=by
 have e:(t.take j++t.drop (j+1))[k]? = some (gr t (sk j k)):=by
  unfold gr sk;rw[List.getElem?_append,gT,h,nF hj]
  by_cases hh:k<j
  .rw[if_pos hh,if_pos hh,yG,if_pos hh,aY,bR (by omega)];rfl
  .rw[if_neg hh,if_neg hh,tY,show j+1+(k-j)=k+1 by omega,aY,bR (by omega)];rfl
 show(tI t i j).getD k []=_;unfold tI;rw[aY,cA,e];rfl
theorem Mk(h:Sm 6 n t)(hn:n<=5)(hi:i<n)(hj:j<n):jC (tI t i j)*sgn i j=gA (tA t) n j i:=by
 unfold gA;rw[zM (prt_sm h hi hj) (by omega),nE];have e1:sgn i j=sg (j+i):=by
  unfold sgn sg;split<;>omega
 rw[e1];congr 1;refine CV λa ha b hb=>?_;show ga (gr (tI t i j) a) b=ga (gr t (sk j a)) (sk i b);have ha':sk j a<n:=by unfold sk;split<;>omega
 rw[Mj h.len (by omega) (by omega),G0 (by rw[(h.gr ha').2.1];omega)]
def Ml(h:IsSl s n):cy s n=[]↔jC (tbl s n)≠0:=by
 rw[mi h,zM (tbl_Sm h) h.n5]
end Dt
namespace Gs
open Dt
def dl(i j:Nat):Rat:=if i=j then 1 else 0
def dl_one(i:Nat):dl i i=1:=if_pos rfl
def dl_ne(h:i≠j):dl i j=0:=if_neg h
theorem sum_dl(f:Nat->Rat)(hk:k<n):aP (λi=>dl k i*f i) n=f k:=by
 rw[kA hk (λi _ ne=>by rw[dl_ne (Ob ne),gM]),dl_one,nJ]
theorem Mm(f:Nat->Rat)(hk:k<n):aP (λi=>f i*dl i k) n=f k:=by
 rw[kA hk (λi _ ne=>by rw[dl_ne ne,jn]),dl_one,rO]
theorem G1(f:Nat->Rat):∀n:Nat,aP (λk=>f (n-1-k)) n=aP f n
 |0=>rfl
 |n+1=>by
  rw[uC,aP];rw[dG (g:=λk=>f (n-1-k)) (λi hi=>by show f (n+1-1-(i+1))=_;congr 1;omega),G1 f n];show f (n+1-1-0)+_=_;rw[show n+1-1-0=n by omega];grind
structure Bk(n:Nat)(T B:Nat->Nat->Rat):Prop where
 tb:∀i j,i<n->j<n->aP (λk=>T i k*B k j) n=dl i j
 bt:∀i j,i<n->j<n->aP (λk=>B i k*T k j) n=dl i j
theorem Bk.uniq{B:Nat->Nat->Rat}(h:Bk n T B){X:Nat->Rat}(hj:j<n)(e:∀i,i<n->aP (λk=>T i k*X k) n=dl i j)(hk:k<n):X k=B k j:=by
 rw[<-sum_dl X hk];rw [dG (g:=λi=>aP (λm=>B k m*(T m i*X i)) n) (λi hi=>by
  rw[<-h.bt k i hk hi,t6,<-fv];exact dG λm _=>by grind),uE]
 rw[dG (g:=λm=>B k m*dl m j) (λm hm=>by rw[fv,e m hm])];exact Mm (λm=>B k m) hj
theorem G3(h:IsSl s n)(e:cy s n=[]):Bk n (λi j=>(tA (tbl s n) i j:Rat)) (λi j=>((hZ s n).getD i []).getD j 0):=by
 obtain⟨_,b⟩:=kT h e;have dz:(dt (tA (tbl s n)) n:Rat)≠0:=by exact_mod_cast (mi h).mp e
 constructor
 .intro i j hi hj
  rw[dG (g:=λk=>(dt (tA (tbl s n)) n:Rat)⁻¹*((tA (tbl s n) i k*gA (tA (tbl s n)) n j k:Int):Rat)) (λk hk=>by rw[b k j hk hj,uZ,gL];grind),fv,uF,BA _ h.n5 hi hj];unfold dl;split
  .exact pK _ dz
  .exact jn _
 .intro i j hi hj
  rw[dG (g:=λk=>(dt (tA (tbl s n)) n:Rat)⁻¹*((tA (tbl s n) k j*gA (tA (tbl s n)) n k i:Int):Rat)) (λk hk=>by rw[b i k hi hk,uZ,gL];grind),fv,uF,wr _ h.n5 hj hi];unfold dl
  by_cases z:j=i
  .rw[if_pos z,if_pos z.symm];exact pK _ dz
  .rw[if_neg z,if_neg (Ob z)];exact jn _
theorem tA_ent(h:IsSl s n)(hi:i<n)(hj:j<n):tA (tbl s n) i j=ent s n i j:=by
 unfold tA B.C.gr B.C.ga;rw[Li h,aY (l:=List.map _ _),cA,iA hi];show((List.range n).map λj=>ent s n i j).getD j 0=_;rw[aY,cA,iA hj];rfl
structure Tz(n:Nat)(T:Nat->Nat->Rat):Prop where
 sl:∀i j i' j',i<n->j<n->i'<n->j'<n->i+j'=i'+j->T i j=T i' j'
theorem xD(h:IsSl s n):Tz n (λi j=>(tA (tbl s n) i j:Rat)):=⟨λi j i' j' hi hj hi' hj' e=>by
 show((tA (tbl s n) i j:Int):Rat)=((tA (tbl s n) i' j':Int):Rat)
 rw[tA_ent h hi hj,tA_ent h hi' hj'];unfold ent;rw[show n-1-i+j=n-1-i'+j' by omega]⟩
theorem Bk.per{B:Nat->Nat->Rat}(h:Bk n T B)(t:Tz n T)(hi:i<n)(hj:j<n):B (n-1-j) (n-1-i)=B i j:=by
 refine h.uniq (X:=λk=>B (n-1-j) (n-1-k)) hj (λi hi=>?_) hi;rw [dG (g:=λk=>(λm=>B (n - 1 - j) m*T m (n - 1 - i)) (n - 1 - k)) (λk hk=>by
  show T i k*_=_*T (n-1-k) (n-1-i);rw[t.sl i k (n-1-k) (n-1-i) hi hk (by omega) (by omega) (by omega),t6]),G1 (λm=>B (n-1-j) m*T m (n-1-i)),h.bt _ _ (by omega) (by omega)]
 unfold dl
 by_cases z:i=j
 .rw[if_pos z,if_pos (by omega)]
 .rw[if_neg z,if_neg (by omega)]
theorem Bk.gs{B:Nat->Nat->Rat}(h:Bk (n+1) T B)(t:Tz (n+1) T)(h0:B 0 0≠0)(hi:i<n)(hj:j<n):B 0 0*B (i+1) (j+1)-B (i+1) 0*B 0 (j+1)=B 0 0*B i j-B i n*B n j:=by
 have hnn:B n n=B 0 0:=by have:=h.per t (i:=0) (j:=0) (by omega) (by omega);simpa using this
 have tt:∀i k,i<n->k<n->T (i+1) (k+1)=T i k:=λi k hi hk=>t.sl _ _ _ _ (by omega) (by omega) (by omega) (by omega) (by omega)
 -- the table times both sides
 have x1:∀i j,i<n->j<n->aP (λk=>T i k*(B 0 0*B (k+1) (j+1)-B (k+1) 0*B 0 (j+1))) n=B 0 0*dl i j:=λi j hi hj=>by
  have a:=h.tb (i+1) (j+1) (by omega) (by omega);have b:=h.tb (i+1) 0 (by omega) (by omega);rw[uC] at a b;rw[dl_ne (by omega)] at b;rw[show dl (i+1) (j+1)=dl i j from by unfold dl;by_cases z:i=j<;>simp[z]] at a;rw[dG (g:=λk=>B 0 0*(T (i+1) (k+1)*B (k+1) (j+1))-B 0 (j+1)*(T (i+1) (k+1)*B (k+1) 0)) (λk hk=>by rw[tt i k hi hk];grind),na,fv,fv];grind
 have x2:∀i j,i<n->j<n->aP (λk=>T i k*(B 0 0*B k j-B k n*B n j)) n=B 0 0*dl i j:=λi j hi hj=>by
  have a:=h.tb i j (by omega) (by omega);have b:=h.tb i n (by omega) (by omega);rw[aP] at a b;rw[dl_ne (show i≠n by omega)] at b;rw[dG (g:=λk=>B 0 0*(T i k*B k j)-B n j*(T i k*B k n)) (λk hk=>by grind),na,fv,fv];rw[hnn] at b;grind
 have x3:∀i j,i<n->j<n->aP (λk=>(B 0 0*B (i+1) (k+1)-B (i+1) 0*B 0 (k+1))*T k j) n=B 0 0*dl i j:=λi j hi hj=>by
  have a:=h.bt (i+1) (j+1) (by omega) (by omega);have b:=h.bt 0 (j+1) (by omega) (by omega);rw[uC] at a b;rw[dl_ne (by omega)] at b;rw[show dl (i+1) (j+1)=dl i j from by unfold dl;by_cases z:i=j<;>simp[z]] at a;rw[dG (g:=λk=>B 0 0*(B (i+1) (k+1)*T (k+1) (j+1))-B (i+1) 0*(B 0 (k+1)*T (k+1) (j+1))) (λk hk=>by rw[tt k j hk hj];grind),na,fv,fv];grind
 -- one back alone
 have key:B 0 0*(B 0 0*B (i+1) (j+1)-B (i+1) 0*B 0 (j+1))=B 0 0*(B 0 0*B i j-B i n*B n j):=by
  have e:∀Y:Nat->Rat,(∀m,m<n->aP (λk=>T m k*Y k) n=B 0 0*dl m j)->B 0 0*Y i=aP (λm=>(B 0 0*B (i+1) (m+1)-B (i+1) 0*B 0 (m+1))*(B 0 0*dl m j)) n:=λY hY=>by
   rw[dG (n:=n) (g:=λm=>aP (λk=>(B 0 0*B (i+1) (m+1)-B (i+1) 0*B 0 (m+1))*(T m k*Y k)) n) (λm hm=>by rw[fv,hY m hm]),uE];rw [dG (n:=n) (g:=λk=>Y k*(B 0 0*dl i k)) (λk hk=>by
    rw[<-x3 i k hi hk,<-fv];exact dG λm _=>by grind)]
   rw[dG (n:=n) (g:=λk=>B 0 0*(dl i k*Y k)) (λk _=>by grind),fv,sum_dl Y hi]
  rw[e (λk=>B 0 0*B (k+1) (j+1)-B (k+1) 0*B 0 (j+1)) (λm hm=>x1 m j hm hj),e (λk=>B 0 0*B k j-B k n*B n j) (λm hm=>x2 m j hm hj)]
 have:=congrArg (λx=>(B 0 0)⁻¹*x) key
 try dsimp only at this
 rw[<-yI,<-yI,pK _ h0,nJ,nJ] at this;exact this
end Gs
def aU(K:N4)(mg:Str->Option Value)(x:Str)(st:Stmt):Prop:=∃f fd,Fun K x x st f fd/\mg x=some (.ref f)/\ik K x=some f
def CC(K:N4)(mg:Str->Option Value)(x:Str):Prop:=∃a,mg x=some (.ref a)/\ik K x=some a
def CI(mg:Str->Option Value)(x:Str)(i:Int):Prop:=∃t,mg x=some (.int i t)
def CT(K:N4)(mg:Str->Option Value)(x:Str)(ds:List D):Prop:=∃a vs,mg x=some (.ref a)/\KT K a vs/\∀W,Reps K W vs ds
section
theorem mkF(X:K.In h)(G:h.Ns mainGlobals mg){oc:Value}{kV doc pm cdv ct:Value}(a:PySem.W.nsIn K mainGlobals x=some (some (.ref f)))(l:K.lookup f=some ⟨oc,od,.func (PySem.W.fnOf x x (bT st) (aW st) (aE st) .none kV doc pm an cdv ct),osl⟩)
  (c:PySem.W.codeIn K cdv x=true) (k:PySem.W.keepIn K (.ref f)=true):aU K mg x st:=⟨f,_,mT l c k,PySem.W.mg_of X G a,tE a⟩
theorem mkC(X:K.In h)(G:h.Ns mainGlobals mg)(a:PySem.W.nsIn K mainGlobals x=some (some (.ref f))):CC K mg x:=⟨f,PySem.W.mg_of X G a,tE a⟩
theorem mkI(X:K.In h)(G:h.Ns mainGlobals mg){i:Int}{t:Tok}(a:PySem.W.nsIn K mainGlobals x=some (some (.int i t))):CI mg x i:=⟨t,PySem.W.mg_of X G a⟩
theorem mkT(X:K.In h)(G:h.Ns mainGlobals mg){d:Option Addr}{sl:Array (Option Value)}{i j:Int}{t u:Tok}(a:PySem.W.nsIn K mainGlobals x=some (some (.ref f)))(l:K.lookup f=some ⟨.type "tuple",d,.seq #[.int i t,.int j u] n,sl⟩):CT K mg x [.int i,.int j]:=
 ⟨f,[.int i,.int j],PySem.W.mg_of X G a,⟨_,_,_,l,rfl,rfl,(by show 2<=sizeLine;decide),.cons ⟨_,rfl⟩ (.cons ⟨_,rfl⟩ .nil)⟩,λ_=>.cons (.int _) (.cons (.int _) .nil)⟩
theorem mkX(X:K.In h)(G:h.Ns mainGlobals mg)(a:PySem.W.nsIn K mainGlobals x=some (some (.ref f)))(e:PySem.W.excIn K f [.type "ValueError",.type "Exception",.type "BaseException",.type "object"] "ValueError.__new__" = true):XC K mg x:=
 ⟨f,_,_,_,tE a,PySem.W.mg_of X G a,e,PySem.F.excBase_ValueError⟩
theorem mkH(X:K.In h)(G:h.Ns mainGlobals mg)(a:PySem.W.nsIn K mainGlobals x=some (some (.ref f)))(e:PySem.W.excIn K f [.type "ValueError",.type "Exception",.type "BaseException",.type "object"] "ValueError.__new__" = true)
  (m:∀n∈L,∃D,PySem.W.nsIn K mainGlobals (gb n)=some (some (.ref D))/\PySem.W.mroIn K D (.ref f)=some true):XT K mg x L:=
 ⟨f,_,_,PySem.W.mg_of X G a,e,by decide +kernel,λn hn D hD=>by
  obtain⟨D',e1,e2⟩:=m n hn;rw[tE e1] at hD;cases hD;exact e2⟩
end
section
variable{w:World}{N:List Str}
universe u
theorem zU{α:Sort u}{F G:List Value->α}(h:∀a,F [a]=G [a]):∀us:List Value,us.length=1->F us=G us
 |[_],_=>h _
theorem zV{α:Sort u}{F G:List Value->α}(h:∀a b,F [a,b]=G [a,b]):∀us:List Value,us.length=2->F us=G us
 |[_,_],_=>h _ _
theorem zW{α:Sort u}{F G:List Value->α}(h:∀a b c,F [a,b,c]=G [a,b,c]):∀us:List Value,us.length=3->F us=G us
 |[_,_,_],_=>h _ _ _
theorem zX{α:Sort u}{F G:List Value->α}(h:∀a b c d,F [a,b,c,d]=G [a,b,c,d]):∀us:List Value,us.length=4->F us=G us
 |[_,_,_,_],_=>h _ _ _ _
theorem uG(h:aU K mg x st)
  (hbody:∀ (sc:N.Nodup) (f:Addr) (cdv:Value) (A:Around) (outer:List Env) (s:Shared) (H:Hp) (E:XK),Room k (A.deeper (envOfC x (aE st) s.heap.objs.size f cdv))->
   cc (cU P w) (cB (cU P w) P w K mg base N x (aE st) f cdv A outer s H E) E->iV (cB (cU P w) P w K mg base N x (aE st) f cdv A outer s H E) E->
   jc (cB (cU P w) P w K mg base N x (aE st) f cdv A outer s H E) E (aW st) z)
  (rd:Rd S z N)
  (sc:bI N ps (aE st):=by exact⟨rfl,rfl,rfl,by decide +kernel,rfl,by decide +kernel,by decide +kernel⟩)
  (len:∀ds E Q,S ds E Q->ds.length=ps.length:=by first|exact fnS.len λ_=>rfl|exact xS.len λ_=>rfl|exact rlS.len λ_=>rfl)
  (hb:∀ (kV doc pm:Value) (an:Option Addr) (cdv ct:Value) (us:List Value),us.length=ps.length->bindArgs (PySem.W.fnOf x x (bT st) (aW st) (aE st) .none kV doc pm an cdv ct) ⟨us,[]⟩=pure (ps.zip us):=by
   intro _ _ _ _ _ _;(first|refine zU ?_|refine zV ?_|refine zW ?_|refine zX ?_);intros;rfl)
  (mono:lX S:=by first|exact fnS.mono|exact rlS.mono|exact xS.mono):Fp P w K mg base (k+1) x ps S:=by
 obtain⟨f,fd,F,m,q⟩:=h;exact Fp.of (tj (z:=z) F sc len (λcdv A outer s H E hr hx hw=>hbody sc.nd f cdv A outer s H E hr hx hw) rd) mono m F.kp (F.binds hb)
theorem cJ(rd:Rd S z N)(h:aU K mg x st)
  (hbody:∀ {f:Addr} {cdv:Value} {A:Around} {outer:List Env} {s:Shared} {H:Hp} {E:XK} (sc:N.Nodup),Room k (A.deeper (envOfC x (aE st) s.heap.objs.size f cdv))->
   cc (cU P w) (cB (cU P w) P w K mg base N x (aE st) f cdv A outer s H E) E->iV (cB (cU P w) P w K mg base N x (aE st) f cdv A outer s H E) E->
   jc (cB (cU P w) P w K mg base N x (aE st) f cdv A outer s H E) E (aW st) z)
  (sc:bI N ps (aE st):=by exact⟨rfl,rfl,rfl,by decide +kernel,rfl,by decide +kernel,by decide +kernel⟩)
  (len:∀ds E Q,S ds E Q->ds.length=ps.length:=by first|exact fnS.len λ_=>rfl|exact xS.len λ_=>rfl|exact rlS.len λ_=>rfl)
  (hb:∀ (kV doc pm:Value) (an:Option Addr) (cdv ct:Value) (us:List Value),us.length=ps.length->bindArgs (PySem.W.fnOf x x (bT st) (aW st) (aE st) .none kV doc pm an cdv ct) ⟨us,[]⟩=pure (ps.zip us):=by
   intro _ _ _ _ _ _;(first|refine zU ?_|refine zV ?_|refine zW ?_|refine zX ?_);intros;rfl)
  (mono:lX S:=by first|exact fnS.mono|exact rlS.mono|exact xS.mono):Fp P w K mg base (k+1) x ps S:=by
 obtain⟨f,fd,F,m,q⟩:=h;exact Fp.of (tj (z:=z) F sc len (λcdv A outer s H E hr hx hw=>hbody sc.nd hr hx hw) rd) mono m F.kp (F.binds hb)
theorem C0(h:aU K mg x st)
  (hbody:∀ (sc:N.Nodup) (f:Addr) (cdv:Value) (A:Around) (outer:List Env) (s:Shared) (H:Hp),RoomU k (A.deeper (envOfC x (aE st) s.heap.objs.size f cdv))->
   jc (sV P w K mg base N x (aE st) f cdv A outer s H) E0 (aW st) z)
  (rd:∀ds E Q,S ds E Q->z No { nx:=λ_=>Q .non,rt:=Q } (dS N ds))
  (sc:bI N ps (aE st):=by exact⟨rfl,rfl,rfl,by decide +kernel,rfl,by decide +kernel,by decide +kernel⟩)
  (len:∀ds E Q,S ds E Q->ds.length=ps.length:=by first|exact fnS.len λ_=>rfl|exact xS.len λ_=>rfl|exact rlS.len λ_=>rfl)
  (hb:∀ (kV doc pm:Value) (an:Option Addr) (cdv ct:Value) (us:List Value),us.length=ps.length->bindArgs (PySem.W.fnOf x x (bT st) (aW st) (aE st) .none kV doc pm an cdv ct) ⟨us,[]⟩=pure (ps.zip us):=by
   intro _ _ _ _ _ _;(first|refine zU ?_|refine zV ?_|refine zW ?_|refine zX ?_);intros;rfl)
  (mono:lX S:=by first|exact fnS.mono|exact rlS.mono|exact xS.mono):B6 P w K mg base (k+1) x ps S:=by
 obtain⟨f,fd,F,m,q⟩:=h;exact⟨⟨f,fd,B5 (z:=z) F sc len (λcdv A outer s H hr=>hbody sc.nd f cdv A outer s H hr) rd,m,F.kp,F.binds hb⟩,mono⟩
theorem Mn(h:aU K mg x st)(hfa:mg x=some (.ref fa))
  (hbody:∀ (base:Heap) (sc:N.Nodup) (f:Addr) (cdv:Value) (A:Around) (outer:List Env) (s:Shared) (H:Hp) (E:XK),Room k (A.deeper (envOfC x (aE st) s.heap.objs.size f cdv))->
   cc (cU l.prog w) (cB (cU l.prog w) l.prog w K mg base N x (aE st) f cdv A outer s H E) E->iV (cB (cU l.prog w) l.prog w K mg base N x (aE st) f cdv A outer s H E) E->
   jc (cB (cU l.prog w) l.prog w K mg base N x (aE st) f cdv A outer s H E) E (aW st) z)
  (rd:Rd S z N)
  (sc:bI N ["_law_script"] (aE st):=by exact⟨rfl,rfl,rfl,by decide +kernel,rfl,by decide +kernel,by decide +kernel⟩)
  (len:∀ds E Q,S ds E Q->ds.length=1:=by exact fnS.len (ps:=["_law_script"]) λ_=>rfl)
  (hb:∀(kV doc pm:Value) (an:Option Addr) (cdv ct:Value) (s:Shared) (v:Value),BindsTo s (PySem.W.fnOf x x (bT st) (aW st) (aE st) .none kV doc pm an cdv ct) ⟨[v],[]⟩ [("_law_script",v)]:=by exact λ_ _ _ _ _ _ _ _=>.of_eq rfl) :
  ∃fd:FuncData,(∀(s:Shared) (v:Value),BindsTo s fd ⟨[v],[]⟩ [("_law_script",v)])/\∀base:Heap,K.In base->base.Ns mainGlobals mg->FnOk l.prog w K mg base (cU l.prog w) (k+1) fa fd ["_law_script"] (fV K S):=by
 obtain⟨f,fd,F,m,q⟩:=h;rw[m] at hfa;cases hfa;refine⟨fd,?_,λbase _ _=>tj (z:=z) F sc len (λcdv A outer s H E hr hx hw=>hbody base sc.nd _ cdv A outer s H E hr hx hw) rd⟩;obtain⟨_,_,_,_,_,_,_,_,_,rfl,_⟩:=F.ex;exact hb _ _ _ _ _ _
end
section
variable{l:List (Str×bK)}
theorem pC(h:CC X.K X.mg x)(hg:Gl X x:=by rfl)(hd:(x==("__debug__" : Str))=false:=by decide):PX X EX (.Name x pos) (wC (.cls x)):=let⟨_,m,q⟩:=h;Kq m q hg hd
theorem C2{i:Int}(h:CI X.mg x i)(hg:Gl X x:=by rfl)(hd:(x==("__debug__" : Str))=false:=by decide):PX X EX (.Name x pos) (wC (.int i)):=let⟨_,m⟩:=h;JX m hg hd
theorem xE(h:CT X.K X.mg x ds)(hg:Gl X x:=by rfl)(hd:(x==("__debug__" : Str))=false:=by decide):PX X EX (.Name x pos) (wC (.tup ds)):=let⟨_,_,m,k,r⟩:=h;JY m k r hg hd
end
section
variable{n m:Str}{D C:Addr}{M:List Str}
theorem exD(a:PySem.W.nsIn K mainGlobals n=some (some (.ref D)))(b:PySem.W.mroIn K D (.ref f)=some true):∃D,PySem.W.nsIn K mainGlobals n=some (some (.ref D))/\PySem.W.mroIn K D (.ref f)=some true:=⟨D,a,b⟩
theorem exX(a:PySem.W.nsIn K mainGlobals n=some (some (.ref D)))(c:gY K D)(k:PySem.W.kitOne K (.ref D) (.type "ValueError")=some true)(h:∀m∈M,∃C,ik K m=some C/\PySem.W.kitOne K (.ref D) (.ref C)=some (n==m)) :
  ∃D,ik K n=some D/\gY K D/\PySem.W.kitOne K (.ref D) (.type "ValueError")=some true/\∀m∈M,∃C,ik K m=some C/\PySem.W.kitOne K (.ref D) (.ref C)=some (n==m):=⟨D,tE a,c,k,h⟩
theorem exC(a:PySem.W.nsIn K mainGlobals m=some (some (.ref C)))(b:PySem.W.kitOne K (.ref D) (.ref C)=some (n==m)):∃C,ik K m=some C/\PySem.W.kitOne K (.ref D) (.ref C)=some (n==m):=⟨C,tE a,b⟩
end
section
variable{E:Ex->Prop}{x:D}
end
namespace G
structure Pk(y:D):Prop where
 kd:kd y=true
 sz:dW 300 y=true
 hd:∀a r,y=.tup (a::r)->r≠[]->dX a 60=true
def pD(n p:Nat):List Int:=(List.range n).map λi:Nat=>if(i:Int)=(p:Int) then 1 else 0
def tL:bK:=fnS (λx:Nat×Nat=>[.int x.1,.int x.2]) (λx=>x.1<=5) λx=>aN (pD x.1 x.2)
section
variable{E:Ex->Prop}{x:D}{u:List Int}
def C3(h:n<=5)(q:Q (aN (pD n k))):tL [.int n,.int k] E Q:=⟨(n,k),rfl,h,q⟩
end
abbrev ZhH:List Str:=["_law_size", "_law_place"]
def G4:WS:=(aM (wB jM (aC (wL (aLC (gh (aC (wN 0) aA)) 1 [1] (gN 0) dL (wB gD (aC (w2 (gEq false) (wN 0) (wN 1)) aA)))) aA)))
end G
namespace G
theorem Pk.at{a b:D}{r:List D}(h:Pk (.tup (a::b::r))):dX a 60=true/\LP.kd b=true/\dW 300 b=true/\LP.kd a=true:=by
 have hz:=h.sz;rw[dW,ut] at hz;exact⟨h.hd a (b::r) rfl (by simp),(qu h.kd).2 b (by simp),hz b (by simp),(qu h.kd).2 a (by simp)⟩
theorem Mo:Rd tL G4 ZhH:=by
 rintro _ E Q ⟨⟨n,k⟩,rfl,h,q⟩;dsimp only at h q;unfold G4;walk_at "st";refine⟨by omega,by omega,?_⟩;rw[qy];refine l8 (g:=λi:Nat=>D.int (i:Int)) (f:=λi:Nat=>D.int (if(i:Int)=(k:Int) then 1 else 0)) (List.range n) (λi hi Q hq=>?_) .un [] (by simp[aO];omega) ?_
 .walk_at "st"
  by_cases e:(i:Int)=(k:Int)
  .rw[if_pos e] at hq
   simpa[e] using hq
  .rw[if_neg e] at hq
   simpa[e] using hq
 .walk_at "st"
  unfold aN pD at q;rw[dR] at q;exact q
def Pk.non:Pk .non:=⟨by rw[LP.kd],by simp[dW],λ_ _ e=>nomatch e⟩
end G
def G5(m:Int):D->Bool
 |.tup xs=>xs.all (gF (-50) 50)&&decide (1<=(xs.length:Int))&&decide ((xs.length:Int)<=m)
 |_=>false
structure IsRg(r:List Int)(n:Nat):Prop where
 len:r.length=n
 n1:1<=n
 n5:n<=5
 b:∀x∈r,-50<=x/\x<=50
def C4(r:List Int):List Int:=r.drop 1++r
section
variable{E:Ex->Prop}{x:D}{r t:List Int}
theorem IsRg.nm(h:IsRg r n):G5 5 (aN r)=true:=by
 have h1:=h.n1;have h5:=h.n5;have hl:=h.len;unfold G5 aN;simp only[bP];rw[N9 (by omega:(1:Int)<=(r.length:Int)),N9 (by omega:(r.length:Int)<=5),uT,uT,Ybh];intro x hx;obtain⟨i,hi,rfl⟩:=YbU.mp hx;have:=h.b i hi;simp[gF,this.1,this.2]
theorem IsRg.sl(h:IsRg r n):IsSl (C4 r) n:=by
 have h1:=h.n1;have hl:=h.len;refine⟨by unfold C4;rw[eu,ja];omega,h1,h.n5,λx hx=>?_⟩;unfold C4 at hx;rcases Yap.mp hx with hx|hx
 .exact h.b x (k6 hx)
 .exact h.b x hx
end
theorem set_by{E:Ex->Prop}(e:ρ.set i (.d d)=ρ')(hw:∀P:D->Prop,P d->w E ρ P)(h:N.nx ρ'):aR i w E N ρ:=hw _ (by rw[e];exact h)
theorem set_rl{E:Ex->Prop}(R:D->Prop)(hw:∀P:D->Prop,(∀d,R d->P d)->w E ρ P)(h:∀d,R d->N.nx (ρ.set i (.d d))):aR i w E N ρ:=hw _ h
def ret_by{E:Ex->Prop}(hw:∀P:D->Prop,P d->w E ρ P)(h:N.rt d):aM w E N ρ:=hw _ h
theorem pair_at{w1 w2:WE}{E:Ex->Prop}{a b:D}(h1:∀P:D->Prop,P a->w1 E ρ P)(h2:∀P:D->Prop,P b->w2 E ρ P):∀P:D->Prop,P (.tup [a,b])->aZ (aC w1 (aC w2 aA)) E ρ P:=λP h=>h1 _ (h2 _ ⟨show 2<=aO by decide,h⟩)
theorem own_by{t:WA}{E:Ex->Prop}(e:ρ.set i (.ow xs)=ρ')(ht:∀P:List D->Prop,P xs->t E ρ P)(h:N.nx ρ'):cH i t E N ρ:=ht _ (by rw[e];exact h)
def c_at{E:Ex->Prop}:∀P:D->Prop,P d->wC d E ρ P:=λ_ h=>h
theorem for_seq{g:WG}{E:Ex->Prop}(hw:∀P:D->Prop,P (.lst xs)->w E ρ P)(h:ZbS g zb E N xs ρ):bN (iS w) g zb E N ρ:=hw _ h
section
variable{E:Ex->Prop}
end
namespace B.C.E.K8
section
variable{E:Ex->Prop}{c:Str}
end
end B.C.E.K8
namespace Gs
open Dt
section
theorem Mp(h:IsSl s n)(e:cy s n=[]):IsT (hZ s n) n/\SzT 223 (hZ s n):=by
 obtain⟨b1,_⟩:=Ma h;exact⟨⟨(kT h e).1,λr hr=>(b1 r hr).1,h.n1,h.n5⟩,λr hr=>(b1 r hr).2⟩
theorem xF{B:List (List Rat)}(hk:k<B.length):(fh B j).getD k 0=(B.getD k []).getD j 0:=by
 unfold fh;rw[aY (l:=List.map _ _),cA,bR hk,aY (l:=B),bR hk];rfl
theorem Mq(h:IsSl s n)(e:cy s n=[])(hp:p<n):c9 s n (fh (hZ s n) p)=bF n p:=by
 have bl:=(kT h e).1;have e1:c9 s n (fh (hZ s n) p)=(eO s n).map λl=>cY l (fh (hZ s n) p):=by unfold c9 eO;rw[dR];rfl
 rw[e1]
 conv=>lhs;rw[Lh (eO s n) []]
 rw[dR,pB];unfold bF;refine Gg λi hi=>?_;show cY ((eO s n).getD i []) (fh (hZ s n) p)=_;rw[xB h hi (by rw[uu,bl]),dG (g:=λk=>(tA (tbl s n) i k:Rat)*((hZ s n).getD k []).getD p 0) (λk hk=>by rw[xF (by omega)]),(G3 h e).tb i p hi hp];rfl
end
end Gs
theorem Ext.none{W W':Wd}{H H':Hp}{a:Addr}(x:Ext W H W' H')(h:H' a=none):H a=none:=by
 cases e:H a with
 |none=>rfl
 |some o=>
  by_cases p:W.Pn a
  .obtain⟨po,_⟩:=x.ok.p a (x.p a p)
   unfold Zoq at po;rw[h] at po;simp at po
  .rw[x.h a o e p] at h
   cases h
abbrev rp:=List D->(Ex->Prop)->(List D->Prop)->Prop
abbrev qA:=(Ex->Prop)->(List D->Prop)->cQ->Prop
def C5(S:rp):Prop:=∀ds E E' Q Q',(∀ex,E ex->E' ex)->(∀d,Q d->Q' d)->S ds E Q->S ds E' Q'
def tM(K:N4)(W:Wd)(H:Hp)(Q:VK)(rs:List D):Prop:=∀a vs W' H',Ext W H W' H'->H' a=some (.lst vs)->W'.G a=none->¬W'.Pn a->H a=none->Reps K W' vs rs->Q (.ref a) H'
structure xG(X:Cx)(EX:XK)(sts:List Stmt)(z:qA):Prop where
 t:∃t,PSs X sts t/\∀W0 H0 F W σ H ρ E Dn (QL:List D->Prop),SOk X.K W0 H0 W σ H ρ->Wle F W->jv X.K W0 H0 E EX->(∀rs,QL rs->tM X.K W0 H0 Dn.rt rs)->z E QL ρ->t Dn σ H
 mono:∀E ρ Q Q',(∀ds,Q ds->Q' ds)->z E Q ρ->z E Q' ρ
section
variable{rest:List Stmt}
def nb(z:WS)(z':qA):qA:=λE QL ρ=>z E { nx:=z' E QL,rt:=λ_=>False } ρ
theorem C6{z':qA}(h1:PZ X EX st z)(h2:xG X EX rest z'):xG X EX (st::rest) (nb z z'):=by
 obtain⟨t1,p1,k1⟩:=h1.t;obtain⟨t2,p2,k2⟩:=h2.t;refine⟨⟨_,jp p1 p2,λW0 H0 F W σ H ρ E Dn QL s fl eo no h=>?_⟩,λE ρ Q Q' hq hz=>h1.mono E ρ { nx:=z' E Q,rt:=λ_=>False } { nx:=z' E Q',rt:=λ_=>False } ⟨λρ' h'=>h2.mono _ _ _ _ hq h',λ_ q=>q,λ_ q=>q,λ_ q=>q⟩ hz⟩;exact k1 W0 H0 F W σ H ρ E _ { nx:=z' E QL,rt:=λ_=>False } s fl eo ⟨λW1 σ1 H1 ρ1 s1 f1 hn=>k2 W0 H0 F W1 σ1 H1 ρ1 E Dn QL s1 f1 eo no hn,λ_ _ _ _ _ _ q=>q.elim,λ_ _ _ _ _ _ q=>q.elim,λ_ _ _ _ _ _ q=>q.elim⟩ h
end
def G6(K:N4)(S:rp):Sp:=λvs H Q EX=>∃ds W,WOk W H/\Reps K W vs ds/\S ds (λex=>∀W' H' cls dx,Ext W H W' H'->ua K W' H' cls dx ex->EX cls dx H') (tM K W H Q)
structure C7(P:Program)(w:World)(K:N4)(mg:Str->Option Value)(base:Heap)(k:Nat)(x:Str)(ps:List Str)(S:rp):Prop where
 ok:∃f fd,FnOk P w K mg base (cU P w) k f fd ps (G6 K S)/\mg x=some (.ref f)/\PySem.W.keepIn K (.ref f)=true/\Binds K fd ps []
 mono:C5 S
section
variable{p:Pos}{t:WA}{S:rp}
def aF(S:rp)(t:WA):WA:=λE ρ Q=>t E ρ λds=>S ds E Q
theorem Mr(G:C7 X.prog X.w X.K X.mg X.base k x ps S)(hr:Room j X.A)(hx:cc (cU X.prog X.w) X EX)(ha:iW X EX (e::es) t)(hk:k<=j:=by decide)(hg:Gl X x:=by rfl)(hdb:(x==("__debug__" : Str))=false:=by decide)(he:starEach (e::es) X.env=(false,eval e X.env)::starEach es X.env:=by rfl)(hpl:(backTo pos (starEach es X.env)).any (·.1)=false:=by rfl) :
  PXL X EX (.Call (.Name x p) (e::es) [] pos) (aF S t):=by
 obtain⟨f,fd,F,hm,kp,hb⟩:=G.ok;have hS:=G.mono;obtain⟨ta,pa,ka⟩:=ha.t;refine⟨⟨_,kK F (hr.mono hk) hg hm kp hb .nil hx pa hdb he hpl,λW0 H0 W σ H ρ E Q s eo h=>?_⟩,λE ρ P P' hp z=>ha.mono _ _ _ _ (λds hds=>hS _ _ _ _ _ (λ_ q=>q) hp hds) z⟩;refine ka W0 H0 W σ H ρ E _ s eo (ha.mono _ _ _ _ (λds hds vs W1 H1 x1 r1=>?_) h);refine⟨ds,W1,x1.ok,by rw[rG];exact r1,hS _ _ _ _ _ (λex hex W' H' cls dx x' r'=>?_) (λrs hrs a vs' W' H' x' h1 g1 g2 hn rr=>hrs a vs' W' H' (x1.trans x') h1 g1 g2 (x1.none hn) rr) hds⟩;exact eo ex W' H' cls dx hex (s.ext.trans (x1.trans x')) r'
end
section
variable{w:World}{N:List Str}{S:rp}{z:qA}
theorem C8{N:List Str}{S:rp}{z:qA}(F:Fun K x qual st f fd)(sc:bI N ps (aE st))(len:∀ds E Q,S ds E Q->ds.length=ps.length)
  (hbody:∀ (cdv:Value) (A:Around) (outer:List Env) (s:Shared) (H:Hp) (E:XK),Room k (A.deeper (envOfC qual (aE st) s.heap.objs.size f cdv))->
   cc (cU P w) (cB (cU P w) P w K mg base N qual (aE st) f cdv A outer s H E) E->iV (cB (cU P w) P w K mg base N qual (aE st) f cdv A outer s H E) E->
   xG (cB (cU P w) P w K mg base N qual (aE st) f cdv A outer s H E) E (aW st) z)
  (h:∀ds E Q,S ds E Q->z E Q (dS N ds)):FnOk P w K mg base (cU P w) (k+1) f fd ps (G6 K S):=by
 obtain⟨oc,od,kV,doc,pm,an,cdv,ct,osl,rfl,lk,hcd⟩:=F.ex;refine kL lk hcd sc (λvs H Q E hs=>?_) λA outer s H vs Q E hr hs=>?_
 .obtain⟨ds,W,_,r,hS⟩:=hs
  rw[r.length];exact len _ _ _ hS
 .obtain⟨ds,W,ok,r,hS⟩:=hs
  obtain⟨t,p,k⟩:=(hbody cdv A outer s H E hr Eo Ep).t;refine⟨t,p,k W H W W (start N vs) H (dS N ds) (λex=>∀W' H' cls dx,Ext W H W' H'->ua K W' H' cls dx ex->E cls dx H') _ (tM K W H Q) (BL ok r) (.refl W) (λex W' H' cls dx he x r=>he W' H' cls dx x r) (λrs hrs=>hrs) (h ds _ _ hS)⟩
theorem C9(h:aU K mg x st)
  (hbody:∀ (sc:N.Nodup) (f:Addr) (cdv:Value) (A:Around) (outer:List Env) (s:Shared) (H:Hp) (E:XK),Room k (A.deeper (envOfC x (aE st) s.heap.objs.size f cdv))->
   cc (cU P w) (cB (cU P w) P w K mg base N x (aE st) f cdv A outer s H E) E->iV (cB (cU P w) P w K mg base N x (aE st) f cdv A outer s H E) E->
   xG (cB (cU P w) P w K mg base N x (aE st) f cdv A outer s H E) E (aW st) z)
  (rd:∀ds E Q,S ds E Q->z E Q (dS N ds)) (len:∀ds E Q,S ds E Q->ds.length=ps.length) (mono:C5 S)
  (sc:bI N ps (aE st):=by exact⟨rfl,rfl,rfl,by decide +kernel,rfl,by decide +kernel,by decide +kernel⟩)
  (hb:∀ (kV doc pm:Value) (an:Option Addr) (cdv ct:Value) (us:List Value),us.length=ps.length->bindArgs (PySem.W.fnOf x x (bT st) (aW st) (aE st) .none kV doc pm an cdv ct) ⟨us,[]⟩=pure (ps.zip us):=by
   intro _ _ _ _ _ _;(first|refine zU ?_|refine zV ?_|refine zW ?_|refine zX ?_);intros;rfl):C7 P w K mg base (k+1) x ps S:=by
 obtain⟨f,fd,F,m,q⟩:=h;exact⟨⟨f,fd,C8 (z:=z) F sc len (λcdv A outer s H E hr hx hw=>hbody sc.nd f cdv A outer s H E hr hx hw) rd,m,F.kp,F.binds hb⟩,mono⟩
end
section
def nc(i:Nat)(w:WE):WS:=λE N ρ=>match ρ[i]? with
 |some (.d (.int c))=>w E ρ (isI λd=>N.nx (ρ.set i (.d (.int (c+d)))))
 |_=>False
theorem uH(i:Nat)(he:PX X EX e w)(hN:X.N.Nodup)(hi:X.N[i]? = some x:=by rfl)(hx:lS X.env.scope x:=by first|exact Or.inl rfl|exact Or.inr rfl)
  (hf:X.fn x=true\/X.env.scope.names.lookup x=some .local:=by first|exact .inl rfl|exact .inr rfl|assumption):PZ X EX (.AugAssign (.Name x pos') .Add e pos) (nc i w):=by
 obtain⟨t,p,k⟩:=he.t;refine⟨⟨_,ss hN hi hx p su hf,λW0 H0 F W σ H ρ E Dn N s fl eo no h=>?_⟩,λE ρ N N' hl q=>?_⟩
 .unfold nc at h
  split at h
  .rename_i c ec
   obtain⟨v,e1,r⟩:=s.d i _ ec;cases r;refine⟨_,e1,k W0 H0 W σ H ρ E _ s eo (he.mono _ _ _ _ (λd hd v W1 H1 x1 r1=>?_) h)⟩;obtain⟨dn,rfl,hn⟩:=nR hd;cases r1;exact⟨c,dn,rfl,rfl,no.nx W1 _ H1 _ ((s.step x1).set (.int _)) (fl.ext x1) hn⟩
  .exact h.elim
 .unfold nc at q ⊢
  split at q
  .exact he.mono _ _ _ _ (λd hd=>isI.mono (λn hn=>hl.nx _ hn) _ hd) q
  .exact q.elim
end
section
variable{t:WA}
end
def Zo(Q:Str->Prop):D->Prop
 |.str x=>Q x
 |_=>False
theorem Ms{Q:Str->Prop}(h:Zo Q d):∃b,d=.str b/\Q b:=by
 cases d with
 |str b=>exact⟨b,rfl,h⟩
 |_=>exact h.elim
theorem Zo.mono{Q Q':Str->Prop}(h:∀b,Q b->Q' b)(d:D)(z:Zo Q d):Zo Q' d:=by
 obtain⟨b,rfl,q⟩:=Ms z;exact h b q
section
variable{o a b:Expr}{t:WA}{id:String}{g:Str->List D->(D->Prop)->Prop}
def CS(mg:Str->Option Value)(x y:Str):Prop:=∃t,mg x=some (.str y t)
theorem N2{y:Str}(X:K.In h)(G:h.Ns mainGlobals mg){t:Tok}(a:PySem.W.nsIn K mainGlobals x=some (some (.str y t))):CS mg x y:=⟨t,PySem.W.mg_of X G a⟩
end
section
variable{p ps kp cp:Pos}{a:Expr}
def Da(t:WA):WA:=λE ρ Q=>t E ρ λds=>∃xs,ds=[.lst xs]/\Q (fi 1 xs)
theorem Mt{t:WA}(hm:X.mg "enumerate" = none)(ha:iW X EX [a] t)(hg:Gl X "enumerate" :=by rfl)(hs:starEach [a] X.env=[(false,eval a X.env)]:=by rfl) :
  lZ X EX (.Tuple es n1 ps) (.Call (.Name "enumerate" p) [a] [⟨some "start",.Constant (.int 1) j cp,kp⟩] pos) (Da t):=by
 obtain⟨t,q,k⟩:=ha.t;refine⟨⟨_,Jz hg hm q hs,λW0 H0 W σ H ρ E R s eo h=>?_⟩,λE ρ P P' hp h=>ha.mono _ _ _ _ (λds ⟨xs,e,z⟩=>⟨xs,e,hp _ z⟩) h⟩;refine k W0 H0 W σ H ρ E _ s eo (ha.mono _ _ _ _ (λds ⟨xs,e,hd⟩ vs W1 H1 x1 r1=>?_) h);subst e;obtain⟨v,rfl,rv⟩:=r1.one;cases rv with
 | @lst l vs _ e1 rr=>
  have sq:∀W2 H2,(∀a o,W1.G a=some o->W2.G a=some o)->WOk W2 H2->Sq X.K false H2 l vs:=λW2 H2 g ok=>SqL.of (ok.g _ _ (g _ _ e1));refine⟨l,rfl,⟨vs,sq W1 H1 (λ_ _ z=>z) x1.ok⟩,hd W1 H1 _ x1 λW2 H2 i g2 p2 ok2=>⟨λd hd=>?_,λhi=>?_⟩⟩
  .have s1:=sq W2 H2 g2 ok2
   obtain⟨x,ex,rfl⟩:=CB 1 i xs d hd;obtain⟨vx,evx,rvx⟩:=rr.get ex;refine⟨⟨vs,vx,s1,evx⟩,λz H3 hy=>?_⟩;obtain⟨q,x',rfl,hq,rfl,e1⟩:=hy;have e1:=e1 _ s1;rw[evx] at e1;cases e1;have xt:=Ext.put (o:=.tup [.int ((i+1:Nat):Int),vx]) ok2 hq;rw[yv 1 i];exact⟨_,xt,.tup (by unfold Wd.put;dsimp only;rw[aL]) (.cons (.int _) (.cons (xt.rep (rvx.mono g2 p2)) .nil))⟩
  .refine⟨vs,sq W2 H2 g2 ok2,?_⟩
   rw[rr.length];rw[CA] at hi;omega
end
open Dt
abbrev tabD:=B.C.tabD
abbrev Sm:=B.C.Sm
def gJ(t:List (List Int))(j:Nat):List (List Int):=(t.drop 1).map λr=>B.C.cutL r j
def bO(t:List (List Int)):Int:=dt (tA t) t.length
def uI(s:List Int)(n:Nat):List Int:=(List.range n).map λk=>bO (tbl (cor s n (k+1)) (k+1))
def eh(s:List Int)(n:Nat):List Nat:=((List.range n).filter λk=>bO (tbl (cor s n (k+1)) (k+1))==0).map (· + 1)
def zY:bK:=fnS (λx:Nat×List (List Int)=>[tabD x.2,.int x.1]) (λx=>x.2.length<=5/\(∀r∈x.2,r.length=x.2.length)/\x.1<x.2.length) λx=>tabD (gJ x.2 x.1)
def kB(i:Nat):bK:=fnS (λt:List (List Int)=>[tabD t]) (λt=>Sm 10 t.length t/\t.length<=i/\i<=5) λt=>.int (bO t)
def Db:bK:=kB 5
def Dc(x:D):Except Str D:=gQ x (.ok (.int (bO (tbl (sI x) (sN x)))))
def Dd(x:D):Except Str D:=gQ x (.ok (.lst ((uI (sI x) (sN x)).map .int)))
def De(x:D):Except Str D:=gQ x (.ok (xr (eh (sI x) (sN x))))
def xH:bK:=xS (λx:D=>[x]) (λx=>kd x=true) Dc
def xI:bK:=xS (λx:D=>[x]) (λx=>kd x=true) Dd
def zZ:bK:=xS (λx:D=>[x]) (λx=>kd x=true) De
section
variable{E:Ex->Prop}{x:D}
theorem Mu(h1:t.length<=5)(h2:∀r∈t,r.length=t.length)(h3:k<t.length)(q:Q (tabD (gJ t k))):zY [tabD t,.int k] E Q:=⟨(k,t),rfl,⟨h1,h2,h3⟩,q⟩
theorem Mv(h:Sm 10 t.length t)(h5:t.length<=5)(q:Q (.int (bO t))):Db [tabD t] E Q:=⟨t,rfl,⟨h,h5,bM _⟩,q⟩
theorem Mw(h:IsSl s n)(q:Q (.int (bO (tbl s n)))):xH [aN s] E Q:=xS.ok (aN s) rfl h.kd (by(try dsimp only);unfold Dc;rw[jO h,fX,h.sN]) q
theorem Mx(h:IsSl s n)(q:Q (.lst ((uI s n).map .int))):xI [aN s] E Q:=xS.ok (aN s) rfl h.kd (by(try dsimp only);unfold Dd;rw[jO h,fX,h.sN]) q
def My(h:kd x=true)(hb:fg x=false)(e:E "NoSlants"):xI [x] E Q:=xS.err x rfl h (l7 hb) e
theorem Mz(h:IsSl s n)(q:Q (xr (eh s n))):zZ [aN s] E Q:=xS.ok (aN s) rfl h.kd (by(try dsimp only);unfold De;rw[jO h,fX,h.sN]) q
end
def z5(t:List (List Int))(j:Nat):(gJ t j).length=t.length-1:=by unfold gJ;rw[bP,ja]
theorem Df(h:Sm b n t)(hj:j<n):Sm b (n-1) (gJ t j):=by
 refine⟨by rw[z5,h.len],λr hr=>?_,λr hr x hx=>?_⟩
 .obtain⟨r',hr',rfl⟩:=YbU.mp hr
  have:=h.row r' (k6 hr');unfold B.C.cutL;simp only[eu,gT,ja];omega
 .obtain⟨r',hr',rfl⟩:=YbU.mp hr
  exact h.sm r' (k6 hr') x (B.C.cut_mem hx)
theorem MA(h:Sm b n t)(hj:j<n):bO (gJ t j)=dt (cut (tA t) 0 j) (n-1):=by
 have e:=h.len;unfold bO;rw[z5,e];refine CV λi hi k hk=>?_;show B.C.ga (B.C.gr (gJ t j) i) k=B.C.ga (B.C.gr t (sk 0 i)) (sk j k);have e1:B.C.gr (gJ t j) i=B.C.cutL (B.C.gr t (i+1)) j:=by
  show(gJ t j).getD i []=_;unfold gJ B.C.gr;rw[aY,cA,tY,aY,yv 1 i,bR (by omega)];rfl
 rw[e1,show sk 0 i=i+1 from rfl,G0 (by rw[(h.gr (k:=i+1) (by omega)).2.1];omega)]
theorem G7(h:Sm b n t)(n1:1<=n)(hn:n<=5):bB (λj=>tA t 0 j*(sg j*bO (gJ t j))) n=bO t:=by
 have:=BA (tA t) hn (i:=0) (k:=0) (by omega) (by omega);rw[if_pos rfl] at this;rw[show bO t=dt (tA t) n from by unfold bO;rw[h.len],<-this];refine t9 λj hj=>?_;unfold gA;rw[MA h hj,rM]
theorem Dg{f:Nat->Int}{B:Nat}:∀{n:Nat},(∀j,j<n->(f j).natAbs<=B)->(bB f n).natAbs<=n*B
 |0,_=>by simp[bB]
 |n+1,h=>by
  rw[bB,qH];have h1:=Dg (n:=n) λj hj=>h j (by omega);have h2:=h n (by omega);have:=Ay (bB f n) (f n);omega
def Dh(j:Nat):(sg j).natAbs=1:=by unfold sg;split<;>rfl
theorem MB{Z:Nat}(h:Sm b n t)(n1:1<=n)(hB:(bO (gJ t j)).natAbs<=Z):(tA t 0 j*(sg j*bO (gJ t j))).natAbs<=2^b*Z:=by
 rw[gq,gq,Dh,Nat.one_mul];exact pL (nz (B.C.ga_lt (h.gr (k:=0) (by omega)).2.2)) hB
theorem z6{b:Nat}:∀{n:Nat} {t:List (List Int)},Sm b n t->n<=5->(bO t).natAbs<=2^(n*(b+3))
 |0,t,h,_=>by
  unfold bO;rw[h.len,Nat.zero_mul];exact bM 1
 |n+1,t,h,hn=>by
  rw[<-G7 h (by omega) hn];refine f8 (Dg (B:=2^b*2^(n*(b+3))) λj hj=>MB h (by omega) (z6 (Df h hj) (by omega))) ?_;rw[show(n+1)*(b+3)=3+(b+n*(b+3)) from by rw[qH];omega,rK,<-rK 2 b];exact pL (by omega) (bM _)
theorem Di(h:IsSl s n)(hk:k<=n)(hi:i<k)(hj:j<k):ent (cor s n k) k i j=ent s n i j:=by
 unfold ent cor;rw[aY,yG,if_pos (by omega),tY,aY,show n-k+(k-1-i+j)=n-1-i+j by omega]
theorem MC(h:IsSl s n):Sm 10 n (tbl s n):=⟨jP s n,λr hr=>(m8 h r hr).1,λr hr x hx=>by
 have:=(m8 h r hr).2 x hx;show x.natAbs<1024;omega⟩
abbrev Zev:List Str:=["table", "column"]
def Dj:WS:=(aM (wL (aLC (iS (bU (wN 0) (dJ (wC (D.int (1)))) eZ)) 1 [1] (gN 0) dL (w2 gAdd (bU (wN 0) eZ (dJ (wN 1))) (bU (wN 0) (dJ (w2 gAdd (wN 1) (wC (D.int (1))))) eZ)))))
abbrev rq:List Str:=["table", "total", "sign", "column", "number"]
abbrev tN:List Str:=["table"]
def mj(W:WA->WE):WS:=(aI (cL (wT (w2 (gEq false) (wB bX (aC (wN 0) aA)) (wC (D.int (0))))) (aM (wC (D.int (1)))) cO) (aI (aR 1 (wC (D.int (0)))) (aI (aR 2 (wC (D.int (1)))) (aI (bJ (bN (iE (aC (w2 gIx (wN 0) (wC (D.int (0)))) aA)) (e7 2 (dC (gN 3) (dC (gN 4) fq))) (aI (nc 1 (w2 gMul (w2 gMul (wN 2) (wN 4)) (W (aC (wF zY (aC (wN 0) (aC (wN 3) aA))) aA)))) (aR 2 (w1 ff (wN 2)))))) (aM (wN 1))))))
abbrev ZhD:List Str:=["slants"]
def Dk:WS:=(aM (wF Db (aC (wF wS (aC (wN 0) aA)) aA)))
abbrev Zd4:List Str:=["slants"]
def Dl:WS:=(aI (fQ (wF qw (aC (wN 0) aA))) (aM (wL (aLC (gP (aC (wC (D.int (1))) (aC (w2 gAdd (wF kQ (aC (wN 0) aA)) (wC (D.int (1)))) aA))) 1 [0] (gN 0) dL (wF xH (aC (wF mY (aC (wN 1) (aC (wN 0) aA))) aA))))))
abbrev Zgu:List Str:=["slants"]
def Dm:WS:=(aM (wL (aLC (Da (aC (wF xI (aC (wN 0) aA)) aA)) 2 [] (e7 2 (dC (gN 0) (dC (gN 1) fq))) (wT (w2 (gEq false) (wN 1) (wC (D.int (0))))) (wN 0))))
theorem G8{g:WG}{zb:WS}{E:Ex->Prop}{N:Nds}(I:Nat->cQ->Prop):∀(xs:List D) (k0:Nat),(∀k d,xs[k]? = some d->∀ρ,I (k0+k) ρ->∀nx:cQ->Prop,(∀ρ,I (k0+k+1) ρ->nx ρ)->g (.tup [.int ((k0+k:Nat):Int),d]) ρ λρ1=>zb E { nx:=nx,rt:=N.rt,bk:=N.nx,ct:=nx } ρ1)->(∀ρ,I (k0+xs.length) ρ->N.nx ρ)->∀ρ,I k0 ρ->ZbS g zb E N (fi k0 xs) ρ
 |[],k0,_,hn,ρ,i=>hn ρ i
 | x::xs,k0,h,hn,ρ,i=>h 0 x rfl ρ i _ (G8 I xs (k0+1) (λk d hd ρ hi nx hnx=>by
   have:=h (k+1) d hd ρ (by rw[show k0+(k+1)=k0+1+k by omega];exact hi) nx (λρ hρ=>hnx ρ (by rw[show k0+1+k+1=k0+(k+1)+1 by omega];exact hρ));rw[show k0+1+k=k0+(k+1) by omega];exact this) (λρ hρ=>hn ρ (by rw[dQ,show k0+(xs.length+1)=k0+1+xs.length by omega];exact hρ)))
theorem MD:Rd zY Dj Zev:=by
 rintro _ E Q ⟨⟨k,t⟩,rfl,⟨h5,hr,hk⟩,q⟩;dsimp only at h5 hr hk q;show Dj E _ [.d (.lst (t.map dP)),.d (.int k)];unfold Dj;walk_at "st";rw[show bA (t.map dP) (some 1) none=(t.map dP).drop 1 from F1 (a:=1) (by rw[bP];omega),<-pH];refine l8 (g:=dP) (f:=λr=>dP (B.C.cutL r k)) (t.drop 1) (λr hr' Q hq=>?_) .un [] (gS (by simp;omega)) ?_
 .have rl:=hr r (k6 hr')
  unfold dP at hq ⊢;walk_at "st";rw[zw (b:=k) rfl,show((k:Int)+1)=((k+1:Nat):Int) from rfl,F1 (by rw[bP];omega)];unfold B.C.cutL at hq;rw[iB,mr,pH] at hq;exact⟨gS (by simp;omega),hq⟩
 .unfold tabD B.C.tabD gJ at q
  rw[dR] at q;exact q
def z7{x:Int}(h:x.natAbs<=2^b)(hb:b<8990):Bd x:=pG h (Nat.pow_lt_pow_right (by decide) hb)
theorem ME:∀ds E Q,kB 0 ds E Q->mj (λ_=>Cu) E { nx:=λ_=>Q .non,rt:=Q } (dS rq ds):=by
 rintro _ E Q ⟨t,rfl,⟨h,h0,_⟩,q⟩;dsimp only at h h0 q;have e:t=[]:=List.length_eq_zero_iff.mp (by omega);subst e;show mj _ E _ [.d (.lst []),.un,.un,.un,.un];unfold mj;refine bH (eE (b:=true) (λP hP=>?_) (λ_=>?_) λe=>nomatch e)
 .walk_at "st"
  exact hP
 .exact q
theorem xJ(i:Nat):∀ds E Q,kB (i+1) ds E Q->mj (wF (kB i)) E { nx:=λ_=>Q .non,rt:=Q } (dS rq ds):=by
 rintro _ E Q ⟨t,rfl,⟨h,hi,i5⟩,q⟩;dsimp only at h hi i5 q;show mj _ E _ [.d (.lst (t.map dP)),.un,.un,.un,.un];unfold mj
 by_cases t0:t=[]
 .subst t0
  refine bH (eE (b:=true) (λP hP=>?_) (λ_=>?_) λe=>nomatch e)
  .walk_at "st"
   exact hP
  .exact q
 generalize hn:t.length=n at h hi;have n1:1<=n:=by rw[<-hn];exact List.length_pos_iff.mpr t0
 refine bH (eE (b:=false) (λP hP=>?_) (λe=>nomatch e) λ_=>?_)
 .walk_at "st"
  rw[bP,hn,show((n:Int)==0)=false from by rw[Oo];omega];exact hP
 dsimp only;refine bH (LP.set_by (d:=.int 0) (ρ':=[.d (.lst (t.map dP)),.d (.int 0),.un,.un,.un]) (by rfl) LP.c_at ?_);dsimp only;refine bH (LP.set_by (d:=.int 1) (ρ':=[.d (.lst (t.map dP)),.d (.int 0),.d (.int 1),.un,.un]) (by rfl) LP.c_at ?_);dsimp only;refine bH ?_;simp only[bJ,bN];obtain⟨g1,g2,g3⟩:=h.gr (k:=0) (by omega);walk_at "st";refine⟨dP (B.C.gr t 0),B.C.gr_map (k:=0) (by omega) rfl,?_⟩;have s5:∀k,k<n->(bO (gJ t k)).natAbs<=2^((n-1)*(10+3)):=λk hk=>z6 (Df h hk) (by omega);refine G8 (λk ρ=>∃s3 s4,ρ=[.d (.lst (t.map dP)),.d (.int (bB (λj=>tA t 0 j*(sg j*bO (gJ t j))) k)),.d (.int (sg k)),s3,s4]) _ 0 ?_ ?_ _ ⟨_,_,rfl⟩
 .rintro k d hd _ ⟨s3,s4,rfl⟩ nx hnx
  rw[rM] at hnx ⊢;have hk:k<n:=by
   have:=(Yar.mp hd).1;rw[bP,g2] at this;exact this
  have ed:d=.int (tA t 0 k):=by
   rw[cA,B.C.ga_get g2 hk] at hd;exact(N8 hd).symm
  subst ed;refine⟨rfl,?_⟩;simp only[dC,fq,gN,List.set_cons_succ,List.set_cons_zero];show aI _ _ _ _ [.d (.lst (t.map dP)),.d (.int (bB (λj=>tA t 0 j*(sg j*bO (gJ t j))) k)),.d (.int (sg k)),.d (.int k),.d (.int (tA t 0 k))];generalize hS:bB (λj=>tA t 0 j*(sg j*bO (gJ t j))) k=Sk;have eS:bB (λj=>tA t 0 j*(sg j*bO (gJ t j))) (k+1)=Sk+sg k*tA t 0 k*bO (gJ t k):=by
   rw[bB,hS];grind
  have ba:(tA t 0 k).natAbs<=2^10:=nz (B.C.ga_lt g3);have bs:(sg k).natAbs<=2^0:=by rw[Dh];exact bM 1
  refine bH ?_;simp only[nc,fN,dO,w2,wN];refine⟨⟨z7 bs (by decide),z7 ba (by decide)⟩,?_⟩;simp only[wF,aC,aA,wN,fN,dO];refine Mu (t:=t) (by omega) (λr hr=>by rw[h.row r hr,hn]) (by omega) ?_;refine⟨gJ t k,rfl,⟨?_,?_,by omega⟩,?_⟩
  .rw[z5,hn];exact Df h hk
  .rw[z5,hn];omega
  have hb4:(n-1)*(10+3)<8990:=pG (pL (show n-1<=4 by omega) (bM (10+3))) (by decide);have b1:(sg k*tA t 0 k).natAbs<=2^10:=by rw[gq,Dh,Nat.one_mul];exact ba
  refine⟨⟨z7 b1 (by decide),z7 (s5 k hk) hb4⟩,?_⟩
  try dsimp only
  show aR 2 (w1 ff (wN 2)) _ _ [.d (.lst (t.map dP)),.d (.int (Sk+sg k*tA t 0 k*bO (gJ t k))),.d (.int (sg k)),.d (.int k),.d (.int (tA t 0 k))];refine LP.set_by (d:=.int (sg (k+1))) (ρ':=[.d (.lst (t.map dP)),.d (.int (Sk+sg k*tA t 0 k*bO (gJ t k))),.d (.int (sg (k+1))),.d (.int k),.d (.int (tA t 0 k))]) (by rfl) (λP hP=>?_) (hnx _ ⟨_,_,by rw[eS]⟩);have:sg (k+1) = - sg k:=by
   unfold sg
   by_cases z:k%2=0
   .rw[if_pos z,if_neg (by omega)]
   .rw[if_neg z,if_pos (by omega)];rfl
  rw[this] at hP;exact hP
 .rintro _ ⟨s3,s4,rfl⟩
  rw[bP,g2,rM,G7 h n1 (by omega)];exact q
theorem MF:Rd xH Dk ZhD:=by
 rintro _ E Q ⟨x,rfl,hk,q⟩;show Dk E _ [.d x];unfold Dk;walk_at "st";unfold Dc at q;cases e:fg x with
 |false=>exact xS.err x rfl hk (l7 e) (m6 e q)
 |true=>
 obtain⟨s,n,rfl,h⟩:=nV e;replace q:=m7 h q;rw[fX,h.sN] at q;have:=MC h;exact Fv h (Mv (t:=tbl s n) (by rw[jP];exact this) (by rw[jP];exact h.n5) q)
theorem MG(h:IsSl s n){Q:List D->Prop}(q:Q ((uI s n).map .int)):lcW (gN 0) dL (wF xH (aC (wF mY (aC (wN 1) (aC (wN 0) aA))) aA)) (rng 1 n) [.un,.d (aN s)] [] Q:=by
 have n5:=h.n5;have e:rng 1 n=(List.range n).map λ(k:Nat)=>D.int ((k+1:Nat):Int):=by
  unfold rng;exact ia λk _=>by simp;omega
 rw[e];refine l8 (g:=λk:Nat=>D.int ((k+1:Nat):Int)) (f:=λk=>D.int (bO (tbl (cor s n (k+1)) (k+1)))) (List.range n) (λk hk Q hq=>?_) .un [] (gS (by simp;omega)) ?_
 .rw[Yah] at hk
  walk_at "st";exact um h (by omega) (by omega) (Mw (gR h (by omega) (by omega)) hq)
 .unfold uI at q
  rw[dR] at q;exact q
theorem MH:Rd xI Dl Zd4:=by
 rintro _ E Q ⟨x,rfl,hk,q⟩;show Dl E _ [.d x];unfold Dl;refine bH ?_;simp only[fQ,wF,aC,aA,wN,dO];unfold Dd at q;cases e:fg x with
 |false=>exact Fu hk e (m6 e q)
 |true=>
 obtain⟨s,n,rfl,h⟩:=nV e;replace q:=m7 h q;rw[fX,h.sN] at q;have n5:=h.n5;refine Ft h ?_;simp only[aM,wL,aLC,gP,wF,aC,aA,wN,wC,w2,ZbT,dO,da,h8,List.replicate,ic,fw];refine qx h ?_;walk_at "st";refine⟨by omega,?_⟩;rw[show((n:Int)+1-1).toNat=n by omega];exact MG h q
theorem Do{Q:List D->Prop}(f:Nat->Int)(P:Nat->Bool)(hP:∀k,P k=(f k==0)):∀(n k0:Nat) (sv sv':SV) (acc:List D),acc.length+n<=5000->Q (acc++(((List.range n).filter λk=>P (k0+k)).map λk=>D.int ((k0+k+1:Nat):Int)))->lcW (e7 2 (dC (gN 0) (dC (gN 1) fq))) (wT (w2 (gEq false) (wN 1) (wC (D.int (0))))) (wN 0) (fi (k0+1) ((List.range n).map λk=>D.int (f (k0+k)))) (sv::sv'::[]) acc Q
 |0,k0,sv,sv',acc,_,hq=>by simpa[lcW,fi] using hq
 |n+1,k0,sv,sv',acc,hl,hq=>by
  rw[List.range_succ_eq_map,da,dR,fi,lcW];refine⟨rfl,?_⟩;show wT (w2 (gEq false) (wN 1) (wC (D.int 0))) No (SV.d (.int ((k0+1:Nat):Int))::SV.d (.int (f (k0+0)))::[]) _;simp only[wT,w2,wN,wC,fN,dO,lH];have eq1:(λk=>D.int (f (k0+k)))∘Nat.succ=λk=>D.int (f (k0+1+k)):=by funext k;show D.int (f (k0+(k+1)))=_;rw[show k0+(k+1)=k0+1+k by omega]
  rw[eq1];have eq2:((List.map Nat.succ (List.range n)).filter λk=>P (k0+k)).map (λk=>D.int ((k0+k+1:Nat):Int))=((List.range n).filter λk=>P (k0+1+k)).map λk=>D.int ((k0+1+k+1:Nat):Int):=by
   rw[List.filter_map,dR];have:((λk=>P (k0+k))∘Nat.succ)=λk=>P (k0+1+k):=by funext k;show P (k0+(k+1))=_;rw[show k0+(k+1)=k0+1+k by omega]
   rw[this];exact ia λk _=>by show D.int ((k0+(k+1)+1:Nat):Int)=_;rw[show k0+(k+1)+1=k0+1+k+1 by omega]
  rw[List.range_succ_eq_map] at hq;have b0:(f (k0+0)==0)=P (k0+0):=(hP _).symm;cases e:P (k0+0) with
  |true=>
   rw[List.filter_cons_of_pos (by exact e),da,eq2] at hq;rw[ma,b0,e,if_pos (show(if false=true then !true else true)=true from rfl)];show acc.length<aO/\_;refine⟨by unfold aO;omega,?_⟩;exact Do f P hP n (k0+1) _ _ _ (by simp;omega) (by rw[nD];exact hq)
  |false=>
   rw[List.filter_cons_of_neg (by rw[e];decide),eq2] at hq;rw[ma,b0,e,if_neg (show¬(if false=true then !false else false)=true by decide)];exact Do f P hP n (k0+1) _ _ _ (by omega) hq
theorem MI(h:IsSl s n){Q:List D->Prop}(q:Q ((eh s n).map λ(k:Nat)=>D.int (k:Int))):lcW (e7 2 (dC (gN 0) (dC (gN 1) fq))) (wT (w2 (gEq false) (wN 1) (wC (D.int (0))))) (wN 0) (fi 1 ((uI s n).map .int)) (.un::.un::[]) [] Q:=by
 have n5:=h.n5;unfold uI;rw[dR];have:=Do (Q:=Q) (λk=>bO (tbl (cor s n (k+1)) (k+1))) (λk=>bO (tbl (cor s n (k+1)) (k+1)) == 0) (λ_=>rfl) n 0 .un .un [] (by simp;omega) (by
  unfold eh at q;rw[dR] at q;simp only[rM,fw];exact q)
 simp only[rM] at this;exact this
theorem MJ:Rd zZ Dm Zgu:=by
 rintro _ E Q ⟨x,rfl,hk,q⟩;show Dm E _ [.d x];unfold Dm;simp only[aM,wL,aLC,Da,wF,aC,aA,wN,ZbT,dO,da,h8,List.replicate,ic,fw];unfold De at q;cases e:fg x with
 |false=>exact My hk e (m6 e q)
 |true=>
 obtain⟨s,n,rfl,h⟩:=nV e;replace q:=m7 h q;rw[fX,h.sN] at q;refine Mx h ⟨_,rfl,?_⟩;exact MI h q
namespace Gs
section
variable{B:Nat->Nat->Rat}
theorem Bk.solve(h:Bk n T B){X y:Nat->Rat}(e:∀i,i<n->aP (λk=>T i k*X k) n=y i)(hk:k<n):X k=aP (λm=>B k m*y m) n:=by
 rw[<-sum_dl X hk];rw [dG (g:=λi=>aP (λm=>B k m*(T m i*X i)) n) (λi hi=>by
  rw[<-h.bt k i hk hi,t6,<-fv];exact dG λm _=>by grind),uE]
 exact dG λm hm=>by rw[fv,e m hm]
theorem Bk.made(h:Bk n T B){y:Nat->Rat}(hi:i<n):aP (λk=>T i k*aP (λm=>B k m*y m) n) n=y i:=by
 rw[dG (g:=λk=>aP (λm=>y m*(T i k*B k m)) n) (λk _=>by rw[<-fv];exact dG λm _=>by grind),uE];rw[dG (g:=λm=>dl i m*y m) (λm hm=>by rw[fv,h.tb i m hi hm,t6])];exact sum_dl y hi
end
theorem G9{a c:List Rat}(h:a.length=c.length):(bZ a q c).getD j 0=a.getD j 0-q*c.getD j 0:=by
 unfold bZ;simp only[aY]
 by_cases hj:j<a.length
 .rw[bR (by rw[mq];omega),bR hj,bR (by omega),rN]
  rfl
 .rw[eI (by rw[mq];omega),eI (by omega),eI (by omega)]
  show(0:Rat)=0-q*0;grind
theorem z8{a c:List Rat}(h:a.length=c.length):(bZ a q c).length=a.length:=by unfold bZ;rw[mq];omega
theorem Ha{a:List Rat}:(hW a q).getD j 0=a.getD j 0/q:=by
 unfold hW;rw[aY,cA,aY];cases a[j]? with
 |none=>show(0:Rat)=0/_;rw[gL,gM]
 |some x=>rfl
def Hb{a:List Rat}:(hW a q).length=a.length:=by unfold hW;rw[bP]
theorem uJ{a b:List Rat}(ha:a.length=n)(hb:b.length=n)(h:∀k,k<n->a.getD k 0=b.getD k 0):a=b:=by
 refine List.ext_getElem (by rw[ha,hb]) λt h1 h2=>?_;have e1:a[t]=a.getD t 0:=by rw[aY,bR h1];rfl
 have e2:b[t]=b.getD t 0:=by rw[aY,bR h2];rfl
 rw[e1,e2];exact h t (by omega)
section
theorem cor_cor(hk:k<=n)(hj:j<=k)(j1:1<=j)(h:IsSl s n):cor (cor s n k) k j=cor s n j:=by
 have hl:=h.len;unfold cor;rw[List.drop_take,List.drop_drop,List.take_take];congr 1
 .omega
 .congr 1
  omega
def Stg(s:List Int)(n:Nat):Prop:=∀k,1<=k->k<=n->cy (cor s n k) k=[]
theorem tO(h:IsSl s n):eh s n=[]↔Stg s n:=by
 unfold eh Stg;rw[List.map_eq_nil_iff,List.filter_eq_nil_iff];constructor
 .intro e k k1 kn
  have:=e (k-1) (Yah.mpr (by omega));rw[show k-1+1=k by omega] at this;refine(mi (gR h k1 kn)).mpr λz=>this ?_;unfold bO;rw[jP,z];rfl
 .intro e a ha z
  rw[Yah] at ha;have:=(mi (gR h (by omega) (by omega))).mp (e (a+1) (by omega) (by omega));apply this;have z':bO (tbl (cor s n (a+1)) (a+1))=0:=by simpa using z
  unfold bO at z';rw[jP] at z';exact z'
theorem Stg.cor(h:IsSl s n)(g:Stg s n)(k1:1<=k)(kn:k<=n):Stg (cor s n k) k:=λj j1 jk=>by
 rw[cor_cor kn jk j1 h];exact g j j1 (by omega)
def Cq(h:IsSl s n):LP.cor s n n=s:=by
 have:=h.len;unfold LP.cor;rw[uX,qI,yC (by omega)]
theorem Stg.full(h:IsSl s n)(g:Stg s n):cy s n=[]:=by
 have:=g n h.n1 (bM _);rw[Cq h] at this;exact this
def dF(s:List Int)(n:Nat):List Rat:=fh (hZ s n) 0
def eU(s:List Int)(n:Nat):List Rat:=fh (hZ s n) (n-1)
def bq(s:List Int)(n i j:Nat):Rat:=((hZ s n).getD i []).getD j 0
def tq(s:List Int)(n i j:Nat):Rat:=(tA (tbl s n) i j:Rat)
def tP(h:IsSl s n)(e:cy s n=[]):Bk n (tq s n) (bq s n):=G3 h e
def MK(h:IsSl s n):Tz n (tq s n):=xD h
def lO(h:IsSl s n)(e:cy s n=[]):(dF s n).length=n:=by unfold dF;rw[uu,(kT h e).1]
def nh(h:IsSl s n)(e:cy s n=[]):(eU s n).length=n:=by unfold eU;rw[uu,(kT h e).1]
theorem xK(h:IsSl s n)(e:cy s n=[])(hk:k<n):(dF s n).getD k 0=bq s n k 0:=xF (by rw[(kT h e).1];exact hk)
theorem Dp(h:IsSl s n)(e:cy s n=[])(hk:k<n):(eU s n).getD k 0=bq s n k (n-1):=xF (by rw[(kT h e).1];exact hk)
theorem Hc(h:IsSl s n)(k1:1<=k)(hk:k<=n)(hi:i<k)(hj:j<k):tq (cor s n k) k i j=tq s n i j:=by
 unfold tq;rw[tA_ent (gR h k1 hk) hi hj,tA_ent h (by omega) (by omega),Di h hk hi hj]
theorem Zr(h:IsSl s n)(hi:i<n)(hj:j<n):(gA (tA (tbl s n)) n j i).natAbs<=2^36:=by
 have hs:=B.C.tbl_Sm h;have n5:=h.n5;have p:=B.C.prt_sm hs hi hj;rw[<-Mk hs n5 hi hj,gq];have e:(B.C.sgn i j).natAbs=1:=by rcases B.C.sgn_one i j with z|z<;>rw[z]<;>rfl
 rw[e,Nat.mul_one,zM p (by omega)];have:=z6 p (by omega);unfold bO at this;rw[p.len] at this;refine f8 this (jH (by decide) ?_);have:n-1<=4:=by omega
 exact f8 (pL this (bM (6+3))) (by decide)
theorem xL(h:IsSl s n):(dt (tA (tbl s n)) n).natAbs<=2^45:=by
 have hs:=B.C.tbl_Sm h;have:=z6 hs h.n5;unfold bO at this;rw[jP] at this;exact f8 this (jH (by decide) (f8 (pL h.n5 (bM (6+3))) (by decide)))
theorem Hf(h:IsSl s n)(e:cy s n=[])(hi:i<n)(hj:j<n):Sz 50 (bq s n i j):=by
 unfold bq;rw[(kT h e).2 i j hi hj,<-yJ];have a:=Zr h hi hj;have b:=xL h;exact Co ((mi h).mp e) (pG a (by decide)) (pG b (by decide))
theorem xM(h:IsSl s n)(e:cy s n=[]):∀x∈dF s n,Sz 50 x:=λx hx=>by
 obtain⟨i,hi,ex⟩:=YbB.mp hx;rw[lO h e] at hi;have:(dF s n).getD i 0=x:=by rw[aY,bR (by rw[lO h e];exact hi)];exact ex
 rw[<-this,xK h e hi];exact Hf h e hi (by omega)
theorem xN(h:IsSl s n)(e:cy s n=[]):∀x∈eU s n,Sz 50 x:=λx hx=>by
 obtain⟨i,hi,ex⟩:=YbB.mp hx;rw[nh h e] at hi;have:(eU s n).getD i 0=x:=by rw[aY,bR (by rw[nh h e];exact hi)];exact ex
 rw[<-this,Dp h e hi];exact Hf h e hi (by have:=h.n1;omega)
def Dq(r:List Rat):(c9 s n r).length=n:=by unfold c9;rw[bP,jP]
theorem Zk(h:IsSl s n)(hr:r.length=n)(hi:i<n):(c9 s n r).getD i 0=aP (λj=>tq s n i j*r.getD j 0) n:=by
 have e1:c9 s n r=(eO s n).map λl=>cY l r:=by unfold c9 eO;rw[dR];rfl
 rw[e1,aY,cA];have:(eO s n)[i]? = some ((eO s n).getD i []):=by rw[aY,bR (by rw[pB];exact hi)];rfl
 rw[this];exact xB h hi hr
theorem Dr(h:IsSl s n)(e:cy s n=[])(e':n=1\/2<=n/\cy (cor s n (n-1)) (n-1)=[]):bq s n 0 0≠0:=by
 have n1:=h.n1;unfold bq;rw[(kT h e).2 0 0 (by omega) (by omega)];have dz:(dt (tA (tbl s n)) n:Rat)≠0:=by exact_mod_cast (mi h).mp e
 have cz:(gA (tA (tbl s n)) n 0 0:Rat)≠0:=by
  have:gA (tA (tbl s n)) n 0 0≠0:=by
   unfold gA;rw[show sg (0+0)=1 from rfl,tW];rcases e' with rfl|⟨n2',e'⟩
   .exact show(1:Int)≠0 by decide
   .have n2:1<=n-1:=by omega
    have c:=gR h n2 (Nat.sub_le n 1);have:=(mi c).mp e';rw[<-CV (A:=tA (tbl (cor s n (n-1)) (n-1))) (B:=cut (tA (tbl s n)) 0 0) λi hi j hj=>?_]
    .exact this
    .show _=tA (tbl s n) (i+1) (j+1)
     rw[tA_ent c hi hj,Di h (Nat.sub_le n 1) hi hj,tA_ent h (by omega) (by omega)];unfold ent;rw[show n-1-i+j=n-1-(i+1)+(j+1) by omega]
  exact_mod_cast this
 intro z;rw[gL] at z;rcases Rat.mul_eq_zero.mp z with z|z
 .exact cz z
 .have:=yH _ dz
  rw[z,jn] at this;exact N6 this (by decide)
end
section
theorem Ds{a:List Rat}:(a++[0]).getD k 0=a.getD k 0:=by
 rw[xC];split
 .rfl
 .rename_i h
  have:a.getD k 0=0:=by rw[aY,eI (by omega)];rfl
  rw[this];cases k-a.length<;>rfl
def ML{a:List Rat}:((0:Rat)::a).getD (k+1) 0=a.getD k 0:=t5
def bY(s:List Int)(n:Nat):List Rat:=dF (cor s (n+1) n) n++[0]
def cG(s:List Int)(n:Nat):List Rat:=0::eU (cor s (n+1) n) n
def fL(s:List Int)(n:Nat):Rat:=(c9 s (n+1) (bY s n)).getD n 0
def gK(s:List Int)(n:Nat):Rat:=(c9 s (n+1) (cG s n)).getD 0 0
def fo(s:List Int)(n:Nat):Rat:=1-fL s n*gK s n
theorem Du(h:IsSl s (n+1))(n1:1<=n)(ec:cy (cor s (n+1) n) n=[])(hi:i<n+1):aP (λk=>tq s (n+1) i k*(bY s n).getD k 0) (n+1)=if i=n then fL s n else dl i 0:=by
 have c:=gR h n1 (jl n);have bl:(bY s n).length=n+1:=by unfold bY;rw[eu,lO c ec];rfl
 split
 .rename_i e
  subst e;rw[<-Zk h bl hi];rfl
 .rename_i e
  have hi':i<n:=by omega
  rw[aP];have z:(bY s n).getD n 0=0:=by
   unfold bY;rw[Ds,aY,eI (by rw[lO c ec];exact bM _)];rfl
  rw[z,jn,rL,<-(tP c ec).tb i 0 hi' (by omega)];refine dG λk hk=>?_;unfold bY;rw[Ds,xK c ec hk,Hc h n1 (jl n) hi' hk]
theorem Dv(h:IsSl s (n+1))(n1:1<=n)(ec:cy (cor s (n+1) n) n=[])(hi:i<n+1):aP (λk=>tq s (n+1) i k*(cG s n).getD k 0) (n+1)=if i=0 then gK s n else dl i n:=by
 have c:=gR h n1 (jl n);have bl:(cG s n).length=n+1:=by unfold cG;rw[dQ,nh c ec]
 split
 .rename_i e
  subst e;rw[<-Zk h bl hi];rfl
 .rename_i e
  obtain⟨i',rfl⟩:∃i',i=i'+1:=⟨i-1,by omega⟩
  rw[uC];have z:(cG s n).getD 0 0=0:=rfl;rw[z,jn,Rat.zero_add];have:dl (i'+1) n=dl i' (n-1):=by
   unfold dl
   by_cases q:i'+1=n
   .rw[if_pos q,if_pos (by omega)]
   .rw[if_neg q,if_neg (by omega)]
  rw[this,<-(tP c ec).tb i' (n-1) (by omega) (by omega)];refine dG λk hk=>?_;unfold cG;rw[ML,Dp c ec hk,Hc h n1 (jl n) (by omega) hk,(MK h).sl (i'+1) (k+1) i' k (by omega) (by omega) (by omega) (by omega) (by omega)]
theorem Dw(h:IsSl s (n+1))(n1:1<=n)(e:cy s (n+1)=[])(ec:cy (cor s (n+1) n) n=[])(e2:n=1\/2<=n/\cy (cor s (n+1) (n-1)) (n-1)=[]):fo s n≠0:=by
 intro z;have c:=gR h n1 (jl n);have b0:bq (cor s (n+1) n) n 0 0≠0:=Dr c ec (e2.imp id λ⟨a,b⟩=>⟨a,by rw[cor_cor (jl n) (Nat.sub_le n 1) (by omega) h];exact b⟩);have x:=(tP h e).solve (X:=λk=>(bY s n).getD k 0 - fL s n*(cG s n).getD k 0) (y:=λ_=>0) (λi hi=>by
  rw[dG (g:=λk=>tq s (n+1) i k*(bY s n).getD k 0-fL s n*(tq s (n+1) i k*(cG s n).getD k 0)) (λk _=>by grind),na,fv,Du h n1 ec hi,Dv h n1 ec hi];unfold fo at z
  by_cases i0:i=0
  .subst i0
   rw[if_neg (by omega),if_pos rfl,dl_one];exact z
  .rw[if_neg i0]
   by_cases i2:i=n
   .subst i2;rw[if_pos rfl,dl_one];grind
   .rw[if_neg i2,dl_ne i2,dl_ne i0];grind) (k:=0) (by omega)
 rw[tK (λm _=>jn _)] at x;have:(bY s n).getD 0 0=bq (cor s (n+1) n) n 0 0:=by unfold bY;rw[Ds,xK c ec (by omega)]
 rw[this] at x;have z2:(cG s n).getD 0 0=0:=rfl;rw[z2] at x;exact b0 (by grind)
theorem MM(h:IsSl s (n+1))(n1:1<=n)(e:cy s (n+1)=[])(ec:cy (cor s (n+1) n) n=[])(e2:n=1\/2<=n/\cy (cor s (n+1) (n-1)) (n-1)=[]):hW (bZ (bY s n) (fL s n) (cG s n)) (fo s n)=dF s (n+1):=by
 have c:=gR h n1 (jl n);have lz:=Dw h n1 e ec e2;have bl:(bY s n).length=n+1:=by unfold bY;rw[eu,lO c ec];rfl
 have el:(cG s n).length=n+1:=by unfold cG;rw[dQ,nh c ec]
 refine uJ (n:=n+1) (by rw[Hb,z8 (by omega),bl]) (lO h e) λk hk=>?_;rw[xK h e hk];refine(tP h e).uniq (X:=λk=>(hW (bZ (bY s n) (fL s n) (cG s n)) (fo s n)).getD k 0) (by omega) (λi hi=>?_) hk;rw[dG (g:=λk=>(fo s n)⁻¹*(tq s (n+1) i k*(bY s n).getD k 0-fL s n*(tq s (n+1) i k*(cG s n).getD k 0))) (λk _=>by rw[Ha,G9 (by omega),gL];grind),fv,na,fv,Du h n1 ec hi,Dv h n1 ec hi]
 by_cases i0:i=0
 .subst i0
  rw[if_neg (by omega),if_pos rfl,dl_one];exact pK _ lz
 .rw[if_neg i0,dl_ne i0]
  by_cases i2:i=n
  .subst i2;rw[if_pos rfl,dl_one];grind
  .rw[if_neg i2,dl_ne i2];grind
theorem MN(h:IsSl s (n+1))(n1:1<=n)(e:cy s (n+1)=[])(ec:cy (cor s (n+1) n) n=[])(e2:n=1\/2<=n/\cy (cor s (n+1) (n-1)) (n-1)=[]):hW (bZ (cG s n) (gK s n) (bY s n)) (fo s n)=eU s (n+1):=by
 have c:=gR h n1 (jl n);have lz:=Dw h n1 e ec e2;have bl:(bY s n).length=n+1:=by unfold bY;rw[eu,lO c ec];rfl
 have el:(cG s n).length=n+1:=by unfold cG;rw[dQ,nh c ec]
 refine uJ (n:=n+1) (by rw[Hb,z8 (by omega),el]) (nh h e) λk hk=>?_;rw[Dp h e hk,show n+1-1=n by omega];refine(tP h e).uniq (X:=λk=>(hW (bZ (cG s n) (gK s n) (bY s n)) (fo s n)).getD k 0) (by omega) (λi hi=>?_) hk;rw[dG (g:=λk=>(fo s n)⁻¹*(tq s (n+1) i k*(cG s n).getD k 0-gK s n*(tq s (n+1) i k*(bY s n).getD k 0))) (λk _=>by rw[Ha,G9 (by omega),gL];grind),fv,na,fv,Du h n1 ec hi,Dv h n1 ec hi]
 by_cases i2:i=n
 .subst i2
  rw[if_neg (by omega),if_pos rfl,dl_one];have:(fo s i)⁻¹*fo s i=1:=pK _ lz;unfold fo at this ⊢;rw[t6 (gK s i)];exact this
 .rw[if_neg i2,dl_ne i2]
  by_cases i0:i=0
  .subst i0;rw[if_pos rfl,dl_one];grind
  .rw[if_neg i0,dl_ne i0];grind
def solF(s:List Int)(n:Nat)(r:List Int):List Rat:=mh n λi=>aP (λm=>bq s n i m*(r.getD m 0:Rat)) n
def Hg(r:List Int):(solF s n r).length=n:=rn _ _
theorem Hh{r:List Int}(hi:i<n):(solF s n r).getD i 0=aP (λm=>bq s n i m*(r.getD m 0:Rat)) n:=xA hi
theorem sol_uniq{r:List Int}{x:List Rat}(h:IsSl s n)(e:cy s n=[])(hx:x.length=n)(hm:∀i,i<n->aP (λk=>tq s n i k*x.getD k 0) n=(r.getD i 0:Rat)):x=solF s n r:=
 uJ hx (Hg r) λk hk=>by rw[Hh hk];exact(tP h e).solve (X:=λk=>x.getD k 0) hm hk
end
end Gs
open Gs
theorem Ec.zero{R:List (List Rat)}{pl:List Nat}(h:Ec n R n ld pl rs){x:List Rat}(lx:x.length=n)(x0:∀r∈R,cY r x=0)(xf:∀t,t<n->t∉pl->x.getD t 0=0):∀t,t<n->x.getD t 0=0:=λt ht=>by
 by_cases hm:t∈pl
 .obtain⟨i,hi,e⟩:=YbB.mp hm
  have e':pl.getD i 0=t:=by rw[aY,bR hi];exact e
  have hi':i<ld.length:=by rw[h.ll];exact hi
  have wl:=h.wl _ (ji hi');have d1:=((h.nul _ lx).mp x0).1 _ (ji hi');rw[md _ x n wl lx,kA (k:=t) ht] at d1
  .have o:=h.one i i hi' hi
   rw[e',if_pos rfl] at o;rw[o,nJ] at d1;exact d1
  .intro j hj ne
   by_cases hm2:j∈pl
   .obtain⟨k,hk,ek⟩:=YbB.mp hm2
    have ek':pl.getD k 0=j:=by rw[aY,bR hk];exact ek
    have oz:=h.one i k hi' hk;rw[ek',if_neg (λz=>ne (by rw[<-ek',<-z,e']))] at oz;rw[oz,gM]
   .rw[xf j hj hm2,jn]
 .exact xf t ht hm
section
def uK(s:List Int)(n:Nat):List Nat:=(dN s n).pl
def uL(s:List Int)(n:Nat):List Nat:=(List.range n).filter λp=>!(uK s n).contains p
theorem Hi(h:IsSl s n):Ec n (eO s n) n (dN s n).ld (uK s n) (dN s n).rs:=xy (n:=n) (R:=eO s n) (λr hr=>(uB h r hr).len) n (bM _)
def ZkF:p∈uL s n↔p<n/\p∉uK s n:=by
 unfold uL;rw[Yag,Yah];simp
theorem Hj:cy s n=(uL s n).map λp=>cF p (dN s n).ld (uK s n) (bF n p):=by
 unfold cy uL uK xv;exact ia λp _=>GK _ _ _ _
theorem MO(h:IsSl s n){t:Nat}(hp:p∈uL s n)(ht:t∈uL s n):(cF p (dN s n).ld (uK s n) (bF n p)).getD t 0=Gs.dl t p:=by
 obtain⟨t1,t2⟩:=ZkF.mp ht;rw[xw _ _ _ (by rw[rm];exact(Hi h).lt) t2,uD t1];rfl
theorem MP(h:IsSl s n){f:List Rat}(hf:f∈cy s n):f.length=n/\∀r∈eO s n,cY r f=0:=by
 rw[Hj] at hf;obtain⟨p,hp,rfl⟩:=YbU.mp hf;obtain⟨p1,p2⟩:=ZkF.mp hp;exact(Hi h).free p1 p2
def HB(k:Nat)(e:Int)(x:Rat):Prop:=∃a:Int,a.natAbs<=k*2^228/\x=Rat.divInt a (6*e)
def HB.zero{e:Int}:HB 0 e 0:=⟨0,by simp,by rw[AF]⟩
theorem HB.add{e t d c:Int}{x:Rat}(e0:e≠0)(h:HB k e x)(ht:t.natAbs<=4)(hd:d=1\/d=2\/d=3)(hc:c.natAbs<2^223):HB (k+1) e (x+Rat.divInt t d*Rat.divInt c e):=by
 obtain⟨a,ab,rfl⟩:=h;obtain⟨g,hg,gd⟩:∃g:Int,g*d=6/\g.natAbs<=6:=by
  rcases hd with rfl|rfl|rfl
  .exact⟨6,rfl,by decide⟩
  .exact⟨3,rfl,by decide⟩
  .exact⟨2,rfl,by decide⟩
 have d0:d≠0:=by rcases hd with rfl|rfl|rfl<;>decide
 have g0:g≠0:=by rintro rfl;simp at hg
 refine⟨a+t*g*c,?_,?_⟩
 .refine f8 (Ay _ _) ?_
  rw[qH];refine Nat.add_le_add ab ?_;rw[gq,gq];refine f8 (pL (pL ht gd) (nz hc)) (by decide)
 .rw[qK]
  have:Rat.divInt (t*c) (d*e)=Rat.divInt (t*g*c) (6*e):=by
   rw[show t*g*c=g*(t*c) by grind,show 6*e=g*(d*e) by rw[<-hg];grind];exact(Rat.divInt_mul_left g0).symm
  rw[this,yJ,yJ,yJ,gL,gL,gL,Rat.intCast_add];grind
end
def cP(s:List Int)(n:Nat):D:=.tup [aK (dF s n),aK (eU s n)]
def qB:List Nat->D
 |[]=>.non
 |k::_=>.int (k:Int)
def qC(x:D):Except Str D:=gQ x (.ok (qB (eh (sI x) (sN x))))
structure IsR(r:List Int)(n:Nat):Prop where
 len:r.length=n
 b:∀x∈r,-1000<=x/\x<=1000
def xO:bK:=xS (λx:D=>[x]) (λx=>kd x=true) qC
def pE:bK:=fnS (λx:SL=>[aN x.1]) (λx=>IsSl x.1 x.2/\Stg x.1 x.2) λ_=>.non
def xP:bK:=fnS (λx:SL=>[aN x.1]) (λx=>IsSl x.1 x.2/\Stg x.1 x.2) λx=>cP (cor x.1 x.2 1) 1
def rz:bK:=fnS (λx:SL=>[aN x.1,cP (cor x.1 (x.2+1) x.2) x.2]) (λx=>IsSl x.1 (x.2+1)/\1<=x.2/\Stg x.1 (x.2+1)) λx=>cP x.1 (x.2+1)
section
variable{E:Ex->Prop}{x:D}{r:List Int}
theorem IsR.at(h:IsR r n)(k:Nat):(r.getD k 0).natAbs<=2^10:=by
 rw[aY];cases e:r[k]? with
 |none=>exact jS _
 |some v=>
  have:=h.b v (iz e);show v.natAbs<=1024;omega
theorem Hk(h:IsSl s n)(q:Q (qB (eh s n))):xO [aN s] E Q:=xS.ok (aN s) rfl h.kd (by(try dsimp only);unfold qC;rw[jO h,fX,h.sN]) q
def xQ(h:IsSl s n)(g:Stg s n)(q:Q .non):pE [aN s] E Q:=⟨(s,n),rfl,⟨h,g⟩,q⟩
theorem Hl(h:IsSl s n)(g:Stg s n)(q:Q (cP (cor s n 1) 1)):xP [aN s] E Q:=⟨(s,n),rfl,⟨h,g⟩,q⟩
theorem z9(h:IsSl s (n+1))(n1:1<=n)(g:Stg s (n+1))(q:Q (cP s (n+1))):rz [aN s,cP (cor s (n+1) n) n] E Q:=⟨(s,n),rfl,⟨h,n1,g⟩,q⟩
end
abbrev Zgw:List Str:=["slants", "sizes"]
def Dx:WS:=(aI (aR 1 (wF zZ (aC (wN 0) aA))) (aM (jK (wT (w2 wH (wB bX (aC (wN 1) aA)) (wC (D.int (0))))) (w2 gIx (wN 1) (wC (D.int (0)))) (wC D.non))))
abbrev Zgx:List Str:=["slants", "row"]
def Dy:WS:=(aI (aR 1 (wF uA (aC (aZ (aC (wC (D.tup [(D.int (1)),(D.int (1))])) aA)) (aC (w2 gIx (wF tz (aC (wF mY (aC (wN 0) (aC (wC (D.int (1))) aA))) aA)) (wC (D.int (0)))) aA)))) (aM (aZ (aC (wN 1) (aC (wN 1) aA)))))
abbrev ZfR:List Str:=["slants", "step", "first", "last", "below", "above", "left"]
def Dz:WS:=(aI (aR 2 (w2 gAdd (w2 gIx (wN 1) (wC (D.int (0)))) (aZ (aC (wC (D.tup [(D.int (0)),(D.int (1))])) aA)))) (aI (aR 3 (w2 gAdd (aZ (aC (wC (D.tup [(D.int (0)),(D.int (1))])) aA)) (w2 gIx (wN 1) (wC (D.int (1)))))) (aI (aR 4 (w2 gIx (wF uk (aC (wN 0) (aC (wN 2) aA))) (w1 ff (wC (D.int (1)))))) (aI (aR 5 (w2 gIx (wF uk (aC (wN 0) (aC (wN 3) aA))) (wC (D.int (0))))) (aI (aR 6 (wF wQ (aC (wC (D.tup [(D.int (1)),(D.int (1))])) (aC (wF rc (aC (wN 4) (aC (wN 5) aA))) aA)))) (aM (aZ (aC (wF uA (aC (wF xu (aC (wN 2) (aC (wN 4) (aC (wN 3) aA)))) (aC (wN 6) aA))) (aC (wF uA (aC (wF xu (aC (wN 3) (aC (wN 5) (aC (wN 2) aA)))) (aC (wN 6) aA))) aA)))))))))
section
theorem Hm{b:Nat}:∀{a c:List Rat},(∀x∈a,Sz 7 x)->(∀x∈c,Sz b x)->Sz (a.length*(b+8)+1) (cY a c)
 |[],c,_,_=>by unfold cY;exact Sz.zero (by omega)
 |_::_,[],_,_=>by unfold cY;exact Sz.zero (by omega)
 |x::a,y::c,ha,hc=>by
  rw[cY];have ih:=Hm (a:=a) (c:=c) (b:=b) (λz hz=>ha z (by simp[hz])) λz hz=>hc z (by simp[hz]);exact(((ha x (by simp)).mul (hc y (by simp))).add ih).mono (by rw[dQ,qH];omega)
theorem MQ(h:IsSl s n)(hr:∀x∈r,Sz b x):∀x∈c9 s n r,Sz (5*(b+8)+1) x:=λx hx=>by
 unfold c9 at hx;obtain⟨l,hl,rfl⟩:=YbU.mp hx;obtain⟨h1,h2⟩:=m8 h l hl;have:=Hm (a:=c8 l) (c:=r) (b:=b) (λz hz=>by
  obtain⟨i,hi,rfl⟩:=YbU.mp hz;exact(Ck (h2 i hi)).mono (by decide)) hr
 have e:(c8 l).length=n:=by unfold c8;rw[bP];exact h1
 rw[e] at this;exact this.mono (by have:=pL h.n5 (bM (b+8));omega)
theorem Hn(h:IsSl s n)(hr:∀x∈r,Sz b x)(hi:i<n):(c9 s n r)[i]? = some ((c9 s n r).getD i 0)/\Sz (5*(b+8)+1) ((c9 s n r).getD i 0):=by
 have e:(c9 s n r)[i]? = some ((c9 s n r).getD i 0):=by rw[aY,bR (by rw[Dq];exact hi)];rfl
 exact⟨e,MQ h hr _ (iz e)⟩
theorem MR(hn:r.length=n)(h:1<=n):dw (r.map shq) (-1)=some (shq (r.getD (n-1) 0)):=by
 unfold dw jb;rw[bP,hn,if_neg (by decide),if_pos (by omega),show(-1+(n:Int)).toNat=n-1 by omega];show(r.map shq)[n-1]? = _;rw[cA,aY,bR (by omega)];rfl
end
theorem MS:Rd xO Dx Zgw:=by
 rintro _ E Q ⟨x,rfl,hk,q⟩;show Dx E _ [.d x,.un];unfold Dx;unfold qC at q;cases e:fg x with
 |false=>
  refine bH ?_;walk_at "st";exact xS.err x rfl hk (l7 e) (m6 e q)
 |true=>
 obtain⟨s,n,rfl,h⟩:=nV e;replace q:=m7 h q;rw[fX,h.sN] at q;refine bH (LP.set_by (d:=xr (eh s n)) (ρ':=[.d (aN s),.d (xr (eh s n))]) (by rfl) (λP hP=>?_) ?_)
 .walk_at "st"
  exact Mz h hP
 dsimp only;generalize eh s n=W at q;unfold xr;cases W with
 |nil=>
  walk_at "st";exact q
 |cons k W=>
  walk_at "st";rw[N9 (by simp)];simp only[if_true];exact⟨_,bS (j:=0) rfl,q⟩
theorem MT(h:IsSl s 1)(e:cy s 1=[]):s.getD 0 0≠0/\hW [1] (s.getD 0 0:Rat)=dF s 1:=by
 have hl:=h.len;have d:dt (tA (tbl s 1)) 1=s.getD 0 0:=by
  show tA (tbl s 1) 0 0=_;rw[tA_ent h (by decide) (by decide)];rfl
 refine⟨by rw[<-d];exact(mi h).mp e,?_⟩;refine uJ (n:=1) rfl (lO h e) λk hk=>?_;obtain rfl:k=0:=by omega
 rw[xK h e (by decide)];unfold Gs.bq;rw[(kT h e).2 0 0 (by decide) (by decide),d];rfl
theorem MU:Rd xP Dy Zgx:=by
 rintro _ E Q ⟨⟨s,n⟩,rfl,⟨h,g⟩,q⟩;dsimp only at h g q;have n1:=h.n1;have c:=gR h (bM 1) n1;have ec:=g 1 (bM _) n1;obtain⟨z,ef⟩:=MT c ec;have cl:=c.len;have c5:(cor s n 1).length<=5000:=by omega
 have q':Q (.tup [aK (dF (cor s n 1) 1),aK (dF (cor s n 1) 1)]):=q;clear q;show Dy E _ [.d (aN s),.un];unfold Dy;refine bH (LP.set_by (d:=aK (dF (cor s n 1) 1)) (ρ':=[.d (aN s),.d (aK (dF (cor s n 1) 1))]) (by rfl) (λP hP=>?_) ?_)
 .walk_at "st"
  refine⟨by decide,?_⟩;refine um h (bM 1) n1 (Kg (xs:=cor s n 1) c5 ?_);have c0:(c8 (cor s n 1)).getD 0 0=((cor s n 1).getD 0 0:Rat):=by
   unfold c8;rw[aY,cA,aY,bR (by omega)];rfl
  refine⟨_,GJ (r:=c8 (cor s n 1)) (k:=0) (by unfold c8;rw[bP];omega),?_⟩;rw[c0];rw[<-ef] at hP;have b0:-50<=(cor s n 1).getD 0 0/\(cor s n 1).getD 0 0<=50:=by
   refine c.b _ ?_;rw[aY,bR (by omega)];exact jG _
  exact CN (b:=10) (r:=[1]) (by decide) (by decide) (λy hy=>by rw[Ycu.mp hy];exact Sz.int (n:=10) 1 (by decide) (by decide)) ((Ck b0).mono (by decide)) (by exact_mod_cast z) hP
 dsimp only;walk_at "st";exact⟨by decide,q'⟩
theorem MV:Rd rz Dz ZfR:=by
 rintro _ E Q ⟨⟨s,n⟩,rfl,⟨h,n1,g⟩,q⟩;dsimp only at h n1 g q;have n5:=h.n5;have c:=gR h n1 (jl n);have ec:=g n n1 (jl n);have e:=g.full h;have e2:n=1\/2<=n/\cy (cor s (n+1) (n-1)) (n-1)=[]:=by
  rcases jj n 2 with z|z
  .exact .inl (by omega)
  .exact .inr ⟨z,g (n-1) (by omega) (by omega)⟩
 have lz:=Dw h n1 e ec e2;have lf:=MM h n1 e ec e2;have ll:=MN h n1 e ec e2;have fl:=lO c ec;have el:=nh c ec;have bl:(bY s n).length=n+1:=by unfold bY;rw[eu,fl];rfl
 have nl:(cG s n).length=n+1:=by unfold cG;rw[dQ,el]
 have bs:∀x∈bY s n,Sz 50 x:=λx hx=>by
  unfold bY at hx;rcases Yap.mp hx with hx|hx
  .exact xM c ec x hx
  .rw[Ycu.mp hx];exact Sz.zero (by decide)
 have es:∀x∈cG s n,Sz 50 x:=λx hx=>by
  unfold cG at hx;rcases Yao.mp hx with rfl|hx
  .exact Sz.zero (by decide)
  .exact xN c ec x hx
 obtain⟨g1,z1⟩:=Hn (i:=n) h bs (by omega);obtain⟨g2,z2⟩:=Hn (i:=0) h es (by omega);have zb:Sz 291 (fL s n):=z1;have za:Sz 291 (gK s n):=z2;have zl:Sz 600 (fo s n):=((Sz.int (n:=1) 1 (by decide) (by decide)).sub (zb.mul za)).mono (by decide);have q':Q (.tup [aK (dF s (n+1)),aK (eU s (n+1))]):=q;clear q;have hb:D.tup ((dF (cor s (n+1) n) n).map shq++[D.tup [.int 0,.int 1]])=aK (bY s n):=by unfold bY aK;rw[iB];rfl
 have he:D.tup ([D.tup [.int 0,.int 1]]++(eU (cor s (n+1) n) n).map shq)=aK (cG s n):=rfl;show Dz E _ [.d (aN s),.d (cP (cor s (n+1) n) n),.un,.un,.un,.un,.un];unfold Dz;refine bH (LP.set_by (d:=aK (bY s n)) (ρ':=[.d (aN s),.d (cP (cor s (n+1) n) n),.d (aK (bY s n)),.un,.un,.un,.un]) (by rfl) (λP hP=>?_) ?_)
 .unfold cP
  walk_at "st";refine⟨_,bS (j:=0) rfl,by decide,?_⟩;rw[<-hb] at hP;exact⟨gS (by simp;omega),hP⟩
 dsimp only;refine bH (LP.set_by (d:=aK (cG s n)) (ρ':=[.d (aN s),.d (cP (cor s (n+1) n) n),.d (aK (bY s n)),.d (aK (cG s n)),.un,.un,.un]) (by rfl) (λP hP=>?_) ?_)
 .unfold cP
  walk_at "st";refine⟨by decide,_,bS (j:=1) rfl,?_⟩;rw[<-he] at hP;exact⟨gS (by simp;omega),hP⟩
 dsimp only;refine bH (LP.set_by (d:=shq (fL s n)) (ρ':=[.d (aN s),.d (cP (cor s (n+1) n) n),.d (aK (bY s n)),.d (aK (cG s n)),.d (shq (fL s n)),.un,.un]) (by rfl) (λP hP=>?_) ?_)
 .walk_at "st"
  refine Zf h bl ⟨50,bs,by decide⟩ ⟨_,MR (Dq _) (by omega),?_⟩;exact hP
 dsimp only;refine bH (LP.set_by (d:=shq (gK s n)) (ρ':=[.d (aN s),.d (cP (cor s (n+1) n) n),.d (aK (bY s n)),.d (aK (cG s n)),.d (shq (fL s n)),.d (shq (gK s n)),.un]) (by rfl) (λP hP=>?_) ?_)
 .walk_at "st"
  refine Zf h nl ⟨50,es,by decide⟩ ⟨_,GJ (k:=0) (by rw[Dq];omega),?_⟩;exact hP
 dsimp only;refine bH (LP.set_by (d:=shq (fo s n)) (ρ':=[.d (aN s),.d (cP (cor s (n+1) n) n),.d (aK (bY s n)),.d (aK (cG s n)),.d (shq (fL s n)),.d (shq (gK s n)),.d (shq (fo s n))]) (by rfl) (λP hP=>?_) ?_)
 .walk_at "st"
  refine Fn (B2.of zb za (by decide)) ?_;have:=Fm (E:=E) (Q:=P) (p:=1) (q:=fL s n*gK s n) (B2.of (Sz.int (n:=1) 1 (by decide) (by decide)) (zb.mul za) (by decide)) hP;exact this
 dsimp only;refine LP.ret_by (d:=.tup [aK (dF s (n+1)),aK (eU s (n+1))]) (LP.pair_at (λP hP=>?_) (λP hP=>?_)) q'
 .walk_at "st"
  refine GH (b:=291) (by decide) (by omega) (λy hy=>(bs y hy).mono (by decide)) zb (λy hy=>(es y hy).mono (by decide)) ?_;rw[<-lf] at hP;refine CN (b:=700) (by decide) (by rw[z8 (by omega)];omega) (λy hy=>?_) (zl.mono (by decide)) lz hP;unfold bZ at hy;obtain⟨i,hi,ey⟩:=YbB.mp hy;rw[rN] at ey;rw[<-ey];exact((bs _ (jG _)).sub (zb.mul (es _ (jG _)))).mono (by decide)
 .walk_at "st"
  refine GH (b:=291) (by decide) (by omega) (λy hy=>(es y hy).mono (by decide)) za (λy hy=>(bs y hy).mono (by decide)) ?_;rw[<-ll] at hP;refine CN (b:=700) (by decide) (by rw[z8 (by omega)];omega) (λy hy=>?_) (zl.mono (by decide)) lz hP;unfold bZ at hy;obtain⟨i,hi,ey⟩:=YbB.mp hy;rw[rN] at ey;rw[<-ey];exact((es _ (jG _)).sub (za.mul (bs _ (jG _)))).mono (by decide)
theorem Ho(r:List Rat):e8 (aK r)=true:=by
 unfold aK;rw[e8]
 induction r with
 |nil=>rfl
 |cons a r ih=>rw[da,lJ,ih];rfl
def Hq(s:List Int)(n:Nat):e8 (cP s n)=true:=by
 unfold cP;rw[e8,lJ,lJ,lJ,Ho,Ho];rfl
def DA:dw (xs++[d]) (-1)=some d:=mO xs d
namespace G
structure Lf(b m:Nat)(row:List Rat):Prop where
 ex:∃(c:List Int) (e:Int),c.length=m/\e≠0/\e.natAbs<2^b/\(∀x∈c,x.natAbs<2^b)/\row=c.map λx=>Rat.divInt x e
theorem Lf.len{row:List Rat}(h:Lf b m row):row.length=m:=by
 obtain⟨c,e,h1,_,_,_,rfl⟩:=h.ex;rw[bP];exact h1
theorem Lf.mono{b':Nat}{row:List Rat}(l:b<=b')(h:Lf b m row):Lf b' m row:=by
 obtain⟨c,e,h1,h2,h3,h4,h5⟩:=h.ex;have p:2^b<=2^b':=jH (by decide) l;exact⟨c,e,h1,h2,cW h3 p,λx hx=>cW (h4 x hx) p,h5⟩
theorem Lf.sz{row:List Rat}(h:Lf b m row):∀x∈row,Sz b x:=by
 obtain⟨c,e,h1,h2,h3,h4,rfl⟩:=h.ex;intro x hx;obtain⟨y,hy,rfl⟩:=YbU.mp hx;exact Co h2 (h4 y hy) h3
theorem Lf.get{row:List Rat}(h:Lf b m row)(hk:k<m):row[k]? = some (row.getD k 0)/\Sz b (row.getD k 0):=by
 have e:row[k]? = some (row.getD k 0):=by rw[aY,bR (by rw[h.len];exact hk)];rfl
 exact⟨e,h.sz _ (iz e)⟩
theorem Lf.int{c:List Int}(hb:0<b)(h:∀x∈c,x.natAbs<2^b):Lf b c.length (c8 c):=by
 refine⟨c,1,rfl,by decide,?_,h,?_⟩
 .show 1<2^b
  exact yz (by omega)
 .unfold c8
  exact ia λx _=>by have:=uU (x:Rat);rw[yx,yy] at this;exact this.symm
theorem CL{c e:Int}(he:e≠0):Rat.divInt c e≠0↔c≠0:=by
 constructor
 .rintro h rfl
  exact h (AF e)
 .intro h z
  have e1:Rat.divInt c e*Rat.divInt e c=1:=by
   rw[qK,nE e c];have:=t4 (n:=1) (d:=1) (pJ h he);rw[tW] at this;rw[this];rfl
  rw[z,gM] at e1;exact N6 e1 (by decide)
theorem Lf.norm{row:List Rat}(h:Lf b m row)(hp:p<m)(h0:row.getD p 0≠0):Lf b m (row.map λx=>x*(row.getD p 0)⁻¹):=by
 obtain⟨c,e,h1,h2,h3,h4,rfl⟩:=h.ex;have hc:c[p]? = some (c.getD p 0):=by rw[aY,bR (by omega)];rfl
 have eg:(c.map λx=>Rat.divInt x e).getD p 0=Rat.divInt (c.getD p 0) e:=by
  rw[aY,cA,hc];rfl
 rw[eg] at h0 ⊢;have hc0:c.getD p 0≠0:=(CL h2).mp h0;refine⟨c,c.getD p 0,h1,hc0,h4 _ (iz hc),h4,?_⟩;rw[dR];refine ia λx _=>?_;show Rat.divInt x e*(Rat.divInt (c.getD p 0) e)⁻¹=Rat.divInt x (c.getD p 0);rw[Rat.inv_divInt,qK _ _ ,nE e];exact t4 h2
theorem Lf.less{row:List Rat}(h:Lf b m row)(hq:Lf b m piv)(hp:p<m):Lf (2*b+1) m (List.zipWith (λx y=>x+row.getD p 0*(-1)*y) row piv):=by
 obtain⟨c,e,h1,h2,h3,h4,rfl⟩:=h.ex;obtain⟨d,f,g1,g2,g3,g4,rfl⟩:=hq.ex;have hc:c[p]? = some (c.getD p 0):=by rw[aY,bR (by omega)];rfl
 have eg:(c.map λx=>Rat.divInt x e).getD p 0=Rat.divInt (c.getD p 0) e:=by
  rw[aY,cA,hc];rfl
 rw[eg];have bc:(c.getD p 0).natAbs<2^b:=h4 _ (iz hc);refine⟨List.zipWith (λx y=>x*f-c.getD p 0*y) c d,e*f,by rw[mq];omega,pJ h2 g2,?_,λz hz=>?_,?_⟩
 .rw[gq,uS,show 2*b=b+b by omega,rK]
  have:=tZ h3 g3;omega
 .obtain⟨i,hi,e1⟩:=YbB.mp hz
  rw[rN] at e1;rw[<-e1];exact B.C.tak_num (h4 _ (jG _)) g3 bc (g4 _ (jG _))
 .rw[AG,yE]
  refine congrArg (λg=>List.zipWith g c d) ?_;funext x y;have e1:Rat.divInt (c.getD p 0) e*(-1)=Rat.divInt (-c.getD p 0) e:=by rw[Rat.mul_neg,rO,Rat.neg_divInt]
  rw[e1,qK,Rat.divInt_add_divInt _ _ h2 (pJ h2 g2)];rw[show x*(e*f) + -c.getD p 0*y*e=(x*f-c.getD p 0*y)*e by grind,nE e (e*f)];exact(t4 h2)
def lq(r:List Rat):D:=.lst (r.map shq)
def rr(R:List (List Rat))(i:Nat):List Rat:=R.getD i []
theorem rr_set{R:List (List Rat)}(h:i<R.length):rr (R.set i r) k=if k=i then r else rr R k:=by
 unfold rr;rw[aY,AE,aY]
 by_cases e:i=k
 .subst e
  rw[if_pos rfl,if_pos rfl,if_pos h];rfl
 .rw[if_neg e,if_neg (Ob e)]
theorem rB{R:List (List Rat)}(h:k<R.length):dw (R.map lq) (k:Int)=some (lq (rr R k)):=by
 refine bS ?_;rw[cA];unfold rr;rw[aY,bR h];rfl
theorem Aa(h:Lf b m r)(hk:k<m):dw (r.map shq) (k:Int)=some (shq (r.getD k 0)):=by
 refine bS ?_;rw[cA,(h.get hk).1];rfl
theorem Hr{E:Ex->Prop}(e:ρ.set i (.d d)=ρ')(hw:∀P:D->Prop,P d->w E ρ P)(h:N.nx ρ'):aR i w E N ρ:=hw _ (by rw[e];exact h)
theorem MW{E:Ex->Prop}{x:D}(e:(ρ.set i (.d x)).set j (.d y)=ρ')(hw:∀P:D->Prop,P (.tup [x,y])->w E ρ P)(h:N.nx ρ'):eJ w (e7 2 (dC (gN i) (dC (gN j) fq))) E N ρ:=hw _ ⟨rfl,by rw[<-e] at h;exact h⟩
theorem Hs{wi:WE}{E:Ex->Prop}(e:ρ[i]? = some (.ow xs))(hk:k<xs.length)(e2:ρ.set i (.ow (xs.set k d))=ρ')(hv:∀P:D->Prop,P d->wv E ρ P)(hi:∀P:D->Prop,P (.int k)->wi E ρ P)(h:N.nx ρ'):ir i wi wv E N ρ:=by
 unfold ir;rw[e];exact hv _ (hi _ ⟨k,B.C.ixN_nat hk,by rw[e2];exact h⟩)
theorem app_by{E:Ex->Prop}(e:ρ[i]? = some (.ow xs))(hl:xs.length<aO)(e2:ρ.set i (.ow (xs++[d]))=ρ')(hw:∀P:D->Prop,P d->w E ρ P)(h:N.nx ρ'):cS i w E N ρ:=by
 unfold cS;rw[e];exact hw _ ⟨hl,by rw[e2];exact h⟩
def row0(s u:List Int)(n i:Nat):List Int:=((List.range n).map λj=>ent s n i j)++[u.getD i 0]
end G
namespace Sv
abbrev rr:=G.rr
def jD(n:Nat)(r:List Rat)(x:Nat->Rat)(c:Rat):Prop:=aP (λj=>r.getD j 0*x j) n=c*r.getD n 0
def Eqv(n:Nat)(A R:List (List Rat)):Prop:=∀x c,(∀i,i<n->jD n (rr A i) x c)↔∀i,i<n->jD n (rr R i) x c
def Col(n p:Nat)(R:List (List Rat)):Prop:=∀i q,i<n->q<p->(rr R i).getD q 0=Gs.dl i q
def Eqv.refl{A:List (List Rat)}:Eqv n A A:=λ_ _=>Iff.rfl
theorem Eqv.trans{n:Nat}{A B C:List (List Rat)}(h:Eqv n A B)(h':Eqv n B C):Eqv n A C:=λx c=>(h x c).trans (h' x c)
theorem swap_eqv{g:Nat}{R:List (List Rat)}(hR:R.length=n)(hp:p<n)(hg:g<n):Eqv n R ((R.set p (rr R g)).set g (rr R p)):=λx c=>by
 have e:∀i,i<n->rr ((R.set p (rr R g)).set g (rr R p)) i=if i=g then rr R p else if i=p then rr R g else rr R i:=λi _=>by
  show G.rr _ _=_;rw[G.rr_set (by rw[dv];omega),G.rr_set (by omega)]
 constructor
 .intro h i hi
  rw[e i hi];split
  .exact h p hp
  .split
   .exact h g hg
   .exact h i hi
 .intro h i hi
  by_cases a:i=p
  .have:=h g hg
   rw[e g hg,if_pos rfl] at this;rw[a];exact this
  .by_cases b:i=g
   .have:=h p hp
    rw[e p hp] at this;rw[b]
    by_cases z:p=g
    .rw[if_pos z,z] at this;exact this
    .rw[if_neg z,if_pos rfl] at this;exact this
   .have:=h i hi
    rw[e i hi,if_neg b,if_neg a] at this;exact this
theorem map_at:(r.map λx=>x*q).getD k 0=r.getD k 0*q:=by
 rw[aY,cA,aY];cases r[k]? with
 |none=>show(0:Rat)=0*q;grind
 |some v=>rfl
theorem scale_eqv{R:List (List Rat)}(hR:R.length=n)(hp:p<n)(hq:q≠0):Eqv n R (R.set p ((rr R p).map λx=>x*q)):=λx c=>by
 have e:∀i,rr (R.set p ((rr R p).map λx=>x*q)) i=if i=p then(rr R p).map (λx=>x*q) else rr R i:=λi=>G.rr_set (by omega);have key:jD n ((rr R p).map λx=>x*q) x c↔jD n (rr R p) x c:=by
  unfold jD;rw[map_at,dG (g:=λj=>q*((rr R p).getD j 0*x j)) (λj _=>by rw[map_at];grind),fv];constructor
  .intro h
   have:=congrArg (λz=>q⁻¹*z) h
   try dsimp only at this
   rw[<-yI,pK _ hq,nJ] at this;rw[this,show q⁻¹*(c*((rr R p).getD n 0*q))=(q⁻¹*q)*(c*(rr R p).getD n 0) by grind,pK _ hq,nJ]
  .intro h
   rw[h];grind
 constructor
 .intro h i hi
  rw[e i];split
  .exact key.mpr (h p hp)
  .exact h i hi
 .intro h i hi
  have:=h i hi;rw[e i] at this
  by_cases z:i=p
  .rw[if_pos z] at this;rw[z];exact key.mp this
  .rw[if_neg z] at this;exact this
theorem zip_at{a b:List Rat}(h:a.length=b.length):(List.zipWith (λx y=>x+q*(-1)*y) a b).getD j 0=a.getD j 0-q*b.getD j 0:=by
 simp only[aY]
 by_cases hj:j<a.length
 .rw[bR (by rw[mq];omega),bR hj,bR (by omega),rN]
  show a[j]+q*(-1)*b[j]=a[j]-q*b[j];grind
 .rw[eI (by rw[mq];omega),eI (by omega),eI (by omega)]
  show(0:Rat)=0-q*0;grind
theorem add_eqv{T:List (List Rat)}(hT:T.length=n)(hp:p<n)(hk:k<n)(ne:k≠p)(hl:(rr T k).length=(rr T p).length):Eqv n T (T.set k (List.zipWith (λx y=>x+q*(-1)*y) (rr T k) (rr T p))):=λx c=>by
 have e:∀i,rr (T.set k (List.zipWith (λx y=>x+q*(-1)*y) (rr T k) (rr T p))) i=if i=k then List.zipWith (λx y=>x+q*(-1)*y) (rr T k) (rr T p) else rr T i:=λi=>G.rr_set (by omega);have key:jD n (rr T p) x c->(jD n (List.zipWith (λx y=>x+q*(-1)*y) (rr T k) (rr T p)) x c↔jD n (rr T k) x c):=λh=>by
  unfold jD at h ⊢;rw[zip_at hl,dG (g:=λj=>(rr T k).getD j 0*x j-q*((rr T p).getD j 0*x j)) (λj _=>by rw[zip_at hl];grind),na,fv,h];constructor<;>intro z<;>grind
 constructor
 .intro h i hi
  rw[e i];split
  .exact(key (h p hp)).mpr (h k hk)
  .exact h i hi
 .intro h
  have hpp:jD n (rr T p) x c:=by
   have:=h p hp;rw[e p,if_neg (Ob ne)] at this;exact this
  intro i hi;have:=h i hi;rw[e i] at this
  by_cases z:i=k
  .rw[if_pos z] at this;rw[z];exact(key hpp).mp this
  .rw[if_neg z] at this;exact this
section
variable{u:List Int}
def A0(s u:List Int)(n:Nat):List (List Rat):=(List.range n).map λi=>c8 (G.row0 s u n i)
theorem xR(hi:i<n)(hj:j<n):(rr (A0 s u n) i).getD j 0=(ent s n i j:Rat):=by
 show((A0 s u n).getD i []).getD j 0=_;unfold A0;rw[aY (l:=List.map _ _),cA,iA hi];show(c8 (G.row0 s u n i)).getD j 0=_;unfold c8 G.row0;rw[aY,cA,jT (by simpa using hj),cA,iA hj];rfl
theorem MY(hi:i<n):(rr (A0 s u n) i).getD n 0=(u.getD i 0:Rat):=by
 show((A0 s u n).getD i []).getD n 0=_;unfold A0;rw[aY (l:=List.map _ _),cA,iA hi];show(c8 (G.row0 s u n i)).getD n 0=_;unfold c8 G.row0;rw[aY,cA,jE (by simp)];simp
theorem DB{x:Nat->Rat}{c:Rat}(h:IsSl s n)(hi:i<n):jD n (rr (A0 s u n) i) x c↔aP (λj=>Gs.tq s n i j*x j) n=c*(u.getD i 0:Rat):=by
 unfold jD;rw[MY hi,dG (g:=λj=>Gs.tq s n i j*x j) (λj hj=>by rw[xR hi hj];unfold Gs.tq;rw[Gs.tA_ent h hi hj])]
theorem stop_free{R:List (List Rat)}(h:IsSl s n)(hp:p<n)(e:Eqv n (A0 s u n) R)(hc:Col n p R)(h0:∀k,p<=k->k<n->(rr R k).getD p 0=0):cy s n≠[]:=by
 intro ef
 let w:Nat->Rat:=λj=>if j=p then 1 else if j<p then-(rr R j).getD p 0 else 0
 have hw:∀i,i<n->jD n (rr R i) w 0:=λi hi=>by
  unfold jD;rw[gM]
  by_cases ip:i<p
  .have:aP (λj=>(rr R i).getD j 0*w j) n=aP (λj=>(if j=p then(rr R i).getD p 0 else 0)-(if j=i then(rr R i).getD p 0 else 0)) n:=dG λj hj=>by
    show(rr R i).getD j 0*(if j=p then 1 else if j<p then-(rr R j).getD p 0 else 0)=_
    by_cases a:j=p
    .rw[if_pos a,if_pos a,a,if_neg (by omega)];grind
    .rw[if_neg a,if_neg a]
     by_cases b:j<p
     .rw[if_pos b,hc i j hi b]
      by_cases d:j=i
      .rw[if_pos d,d,Gs.dl_one];grind
      .rw[if_neg d,Gs.dl_ne (Ob d)];grind
     .rw[if_neg b,if_neg (by omega)];grind
   rw[this,na,kA (k:=p) hp (λj _ ne=>by rw[if_neg ne]),kA (k:=i) hi (λj _ ne=>by rw[if_neg ne]),if_pos rfl,if_pos rfl];grind
  .refine tK λj hj=>?_
   show(rr R i).getD j 0*(if j=p then 1 else if j<p then-(rr R j).getD p 0 else 0)=0
   by_cases a:j=p
   .rw[if_pos a,a,h0 i (by omega) hi];grind
   .rw[if_neg a]
    by_cases b:j<p
    .rw[hc i j hi b,Gs.dl_ne (by omega)];grind
    .rw[if_neg b];grind
 have hA:=(e w 0).mpr hw;have:=GX (tA (tbl s n)) h.n5 (w:=w) (λi hi=>by
  have z:=(DB h hi).mp (hA i hi);rw[gM] at z;exact z) hp
 have w1:w p=1:=if_pos rfl;rw[w1,rO] at this;exact(mi h).mp ef (by exact_mod_cast this)
theorem end_sol{R:List (List Rat)}(h:IsSl s n)(hR:R.length=n)(e:Eqv n (A0 s u n) R)(hc:Col n n R):cy s n=[]/\(R.map λr=>r.getD n 0)=Gs.solF s n u:=by
 have one:∀{x:Nat->Rat} {c:Rat} {i:Nat},i<n->(jD n (rr R i) x c↔x i=c*(rr R i).getD n 0):=λ{x c i} hi=>by
  unfold jD;rw[dG (g:=λj=>Gs.dl i j*x j) (λj hj=>by rw[hc i j hi hj]),Gs.sum_dl x hi]
 have ef:cy s n=[]:=Classical.byContradiction λhn=>by
  have hm:(cy s n).getD 0 []∈cy s n:=ji (List.length_pos_iff.mpr hn);obtain⟨l,f0⟩:=MP h hm;have hA:∀i,i<n->jD n (rr (A0 s u n) i) (λj=>((cy s n).getD 0 []).getD j 0) 0:=λi hi=>by
   rw[DB h hi,gM];have:=f0 _ (ji (R:=eO s n) (a:=i) (by rw[pB];exact hi));rw[xB h hi l] at this;exact this
  have hz:=(e _ 0).mp hA;have z:∀i,i<n->((cy s n).getD 0 []).getD i 0=0:=λi hi=>by
   have:=(one hi).mp (hz i hi);rw[gM] at this;exact this
  rw[Hj] at hm z;obtain⟨p,hp,ep⟩:=YbU.mp hm;have p1:=(ZkF.mp hp).1;have f1:=MO h hp hp;rw[ep,Gs.dl_one,z p p1] at f1;exact N6 f1 (by decide +kernel)
 refine⟨ef,?_⟩;have ya:∀i,i<n->(R.map λr=>r.getD n 0).getD i 0=(rr R i).getD n 0:=λi hi=>by
  show _=(R.getD i []).getD n 0;rw[aY,cA,aY (l:=R),bR (by omega)];rfl
 refine Gs.sol_uniq h ef (by rw[bP];exact hR) λi hi=>?_;have:=(e (λk=>(R.map λr=>r.getD n 0).getD k 0) 1).mpr (λi hi=>(one hi).mpr (by rw[ya i hi,nJ])) i hi;rw[DB h hi,nJ] at this;exact this
end
end Sv
section
variable{p:Pos}{g:WG}
end
namespace G
theorem seq_inv{E:Ex->Prop}(I:cQ->Prop)(h:∀nx:cQ->Prop,(∀ρ,I ρ->nx ρ)->z E { N with nx:=nx } ρ)(h2:∀ρ,I ρ->z' E N ρ):aI z z' E N ρ:=h _ h2
end G
namespace F4
section
variable{E:Ex->Prop}{x:D}
end
end F4
namespace B.C.E.K8
theorem mk_col(h:IsSl s n)(e:cy s n=[])(hp:p<n):jR s n (aK (fh (hZ s n) p)) (bF n p)=true:=by
 obtain⟨it,_⟩:=Mp h e;unfold jR;have:=B1 (fh (hZ s n) p);rw[uu,it.len] at this;rw[this,tD,Mq h e hp];simp
end B.C.E.K8
def lP(s:List Int)(n:Nat)(u:List Int):D:=if cy s n=[] then aK (solF s n u) else .non
def xT:bK:=rz
section
variable{E:Ex->Prop}{x:D}{r:List Int}
end
namespace G.V9
def rC:bK:=fnS (λx:SL×List Int=>[aN x.1.1,aN x.2]) (λx=>IsSl x.1.1 x.1.2/\x.2.length=x.1.2/\∀y∈x.2,y.natAbs<2^10) λx=>lP x.1.1 x.1.2 x.2
def uM:bK:=fnS (λx:SL×Nat=>[aN x.1.1,.int x.2]) (λx=>IsSl x.1.1 x.1.2/\1<=x.2/\x.2<=x.1.2) λx=>aN (cor x.1.1 x.1.2 x.2)
def xU:bK:=fnS (λx:SL=>[aN x.1]) (λx=>IsSl x.1 x.2) λx=>qB (eh x.1 x.2)
def Ab:bK:=rlS (λ_:Unit=>[.pen]) (λ_=>True) λ_ d=>∃s n,d=aN s/\IsSl s n/\Stg s n
section
variable{E:Ex->Prop}{x:D}{u:List Int}
theorem DC(h:IsSl s n)(h1:u.length=n)(h2:∀y∈u,y.natAbs<2^10)(q:Q (lP s n u)):rC [aN s,aN u] E Q:=⟨((s,n),u),rfl,⟨h,h1,h2⟩,q⟩
theorem Ht(h:IsSl s n)(h1:1<=k)(h2:k<=n)(q:Q (aN (cor s n k))):uM [aN s,.int k] E Q:=⟨((s,n),k),rfl,⟨h,h1,h2⟩,q⟩
def DD(h:IsSl s n)(q:Q (qB (eh s n))):xU [aN s] E Q:=⟨(s,n),rfl,h,q⟩
theorem MZ(q:∀s n,IsSl s n->Stg s n->Q (aN s)):Ab [.pen] E Q:=⟨(),rfl,trivial,λd ⟨s,n,e,h,g⟩=>by rw[e];exact q s n h g⟩
end
end G.V9
abbrev ZdU:List Str:=["slants", "step", "size"]
def tQ:WS:=(aI (fQ (wF pE (aC (wN 0) aA))) (aI (aR 2 (wF kQ (aC (wN 0) aA))) (aI (cL (wT (w2 (gEq false) (wN 2) (wC (D.int (1))))) (iu (PySem.Str.ofString "NoNumber")) cO) (aI (cL (bW (wT (wF uz (aC (wF mY (aC (wN 0) (aC (w2 fH (wN 2) (wC (D.int (1)))) aA))) (aC (wN 1) aA))))) (iu (PySem.Str.ofString "NoRow")) cO) (aM (wF rz (aC (wN 0) (aC (wN 1) aA))))))))
namespace G.V9
abbrev DE:List Str:=["_law_slants", "_law_right", "_law_size", "_law_rows", "_law_i", "_law_place", "_law_good", "_law_top", "_law_bottom", "_law_at", "_law_part"]
def Ac:WS:=(aI (aR 2 (w2 fc (w2 gAdd (wB bX (aC (wN 0) aA)) (wC (D.int (1)))) (wC (D.int (2))))) (aI (cH 3 (bL aA)) (aI (bJ (bN (gh (aC (wN 2) aA)) (gN 4) (cS 3 (w2 gAdd (wL (aLC (gh (aC (wN 2) aA)) 1 [0,2,4] (gN 0) dL (aZ (aC (w2 gIx (wN 1) (w2 fH (w2 gAdd (w2 fH (wN 0) (wN 3)) (wN 2)) (wC (D.int (1))))) (aC (wC (D.int (1))) aA))))) (wL (bL (aC (aZ (aC (w2 gIx (wN 1) (wN 4)) (aC (wC (D.int (1))) aA))) aA))))))) (de 6 (aI (bJ (bN (gh (aC (wN 2) aA)) (gN 5) (aI (cH 6 (df 3 (aLC (gP (aC (wN 5) (aC (wN 2) aA))) 1 [3,5] (gN 0) (wT (w2 (gEq true) (w2 gIx (w2 gIx (w2 gIx (wN 1) (wN 0)) (wN 2)) (wC (D.int (0)))) (wC (D.int (0))))) (wN 0)))) (de 6 (aI (cL (wT (w2 (gEq false) (wN 6) (wL (bL aA)))) (aM (wC D.non)) cO) (de 6 (aI (uw 3 (aZ (aC (dE 3 (w2 gIx (wN 6) (wC (D.int (0))))) (aC (dE 3 (wN 5)) aA))) (wN 5) (w2 gIx (wN 6) (wC (D.int (0))))) (aI (eJ (dD 3 (w2 gIx (w2 gIx (wN 3) (wN 5)) (wN 5))) (e7 2 (dC (gN 7) (dC (gN 8) fq)))) (aI (ir 3 (wN 5) (wL (aLC (iS (dE 3 (wN 5))) 1 [7,8] (gN 0) dL (wF ur (aC (wN 0) (aC (wF wZ (aC (wN 2) (aC (wN 1) aA))) aA)))))) (bJ (bN (gh (aC (wN 2) aA)) (gN 9) (cL (wT (w2 (gEq true) (wN 9) (wN 5))) (aI (aR 10 (dD 3 (wF ur (aC (w2 gIx (w2 gIx (wN 3) (wN 9)) (wN 5)) (aC (aZ (aC (w1 ff (wC (D.int (1)))) (aC (wC (D.int (1))) aA))) aA))))) (ir 3 (wN 9) (wL (aLC (iZ (aC (dE 3 (wN 9)) (aC (dE 3 (wN 5)) aA))) 2 [10] (e7 2 (dC (gN 0) (dC (gN 1) fq))) dL (wF zA (aC (wN 0) (aC (wF ur (aC (wN 2) (aC (wN 1) aA))) aA))))))) cO)))))))))))) (de 3 (aM (wB jM (aC (wL (aLC (iS (wN 3)) 1 [2] (gN 0) dL (w2 gIx (wN 0) (wN 1)))) aA)))))))))
abbrev ZfT:List Str:=["_law_slants", "_law_k", "_law_cut"]
def DF:WS:=(aI (aR 2 (w2 fH (w2 fc (w2 gAdd (wB bX (aC (wN 0) aA)) (wC (D.int (1)))) (wC (D.int (2)))) (wN 1))) (aM (bU (wN 0) (dJ (wN 2)) (dJ (w2 fH (wB bX (aC (wN 0) aA)) (wN 2))))))
abbrev ZhG:List Str:=["_law_slants", "_law_k"]
def DG:WS:=(aI (bJ (bN (gP (aC (wC (D.int (1))) (aC (w2 gAdd (w2 fc (w2 gAdd (wB bX (aC (wN 0) aA)) (wC (D.int (1)))) (wC (D.int (2)))) (wC (D.int (1)))) aA))) (gN 1) (cL (wT (w2 (gIsC false) (wF rC (aC (wF uM (aC (wN 0) (aC (wN 1) aA))) (aC (wF tL (aC (wN 1) (aC (wC (D.int (0))) aA))) aA))) (wC D.non))) (aM (wN 1)) cO))) (aM (wC D.non)))
abbrev Zd6:List Str:=["_law_pen", "_law_slants", "_law_size"]
def DH:WS:=(aI (aR 1 (wF w4 (aC (wN 0) aA))) (aI (cL (wT (w2 (gIsC true) (wF xU (aC (wN 1) aA)) (wC D.non))) (aI (aR 2 (w2 fc (w2 gAdd (wB bX (aC (wN 1) aA)) (wC (D.int (1)))) (wC (D.int (2))))) (aI (aR 1 (wB jM (aC (wL (aLC (iS (wN 1)) 1 [] (gN 0) dL (w2 fH (w2 qt (wN 0) (wC (D.int (3)))) (wC (D.int (1)))))) aA))) (aR 1 (w2 gAdd (w2 gAdd (bU (wN 1) eZ (dJ (w2 fH (wN 2) (wC (D.int (1)))))) (aZ (aC (wC (D.int (9))) aA))) (bU (wN 1) (dJ (wN 2)) eZ))))) cO) (aM (wN 1))))
theorem rd__law_solved:Rd rC Ac DE:=by
 rintro _ E Q ⟨⟨⟨s,n⟩,u⟩,rfl,⟨h,hu,hub⟩,q⟩;dsimp only at h hu hub q;have n1:=h.n1;have n5:=h.n5;have hsl:=h.len;show Ac E _ [.d (aN s),.d (aN u),.un,.un,.un,.un,.un,.un,.un,.un,.un];unfold Ac;refine bH (Hr (d:=.int n) (ρ':=[.d (aN s),.d (aN u),.d (.int n),.un,.un,.un,.un,.un,.un,.un,.un]) (by rfl) (λP hP=>?_) ?_)
 .unfold aN
  walk_at "st";refine⟨⟨by decide,kR (n:=2) (by decide) (by omega)⟩,?_⟩;rw[bP,uV _ (by decide),show((s.length:Int)+1)/2=n by omega];exact hP
 dsimp only;refine bH (B.C.own_by (xs:=[]) (ρ':=[.d (aN s),.d (aN u),.d (.int n),.ow [],.un,.un,.un,.un,.un,.un,.un]) (by rfl) (λP hP=>⟨by decide,hP⟩) ?_);dsimp only;refine bH ?_;simp only[bJ,bN];walk_at "st";refine⟨by omega,by omega,?_⟩;refine w8 (λi ρ=>∃s4,ρ=[.d (aN s),.d (aN u),.d (.int n),.ow ((List.range i).map λi=>lq (c8 (row0 s u n i))),s4,.un,.un,.un,.un,.un,.un]) n ?_ ?_ _ ⟨_,rfl⟩
 .rintro i hi _ ⟨s4,rfl⟩ nx hnx
  simp only[gN,List.set_cons_succ,List.set_cons_zero];refine app_by (d:=lq (c8 (row0 s u n i))) (ρ':=[.d (aN s),.d (aN u),.d (.int n),.ow ((List.range (i+1)).map λi=>lq (c8 (row0 s u n i))),.d (.int i),.un,.un,.un,.un,.un,.un]) rfl (by simp[aO];omega) (by rw[rP,iB];rfl) (λP hP=>?_) (hnx _ ⟨_,rfl⟩);walk_at "st";refine⟨by omega,by omega,?_⟩;rw[qy];refine l8 (g:=λj:Nat=>D.int (j:Int)) (f:=λj:Nat=>shq (ent s n i j:Rat)) (List.range n) (λj hj Q hq=>?_) .un [] (by simp[aO];omega) ?_
  .rw[Yah] at hj
   unfold aN;walk_at "st";have e1:(s.map D.int)[n-1-i+j]? = some (.int (ent s n i j)):=by
    unfold ent;rw[cA,aY,bR (by omega)];rfl
   exact⟨_,Ch (k:=n-1-i+j) (by omega) e1,by decide,hq⟩
  .have e1:(u.map D.int)[i]? = some (.int (u.getD i 0)):=by
    rw[cA,aY,bR (by omega)];rfl
   refine⟨_,Ch rfl e1,by decide,by decide,gS (by simp;omega),?_⟩;unfold lq c8 row0 at hP;rw[iB,iB,dR,dR] at hP;exact hP
 rintro _ ⟨s4,rfl⟩;have lf0:∀i,i<n->Lf (LP.bq 10 0) (n+1) (c8 (row0 s u n i)):=λi hi=>by
  have:=Lf.int (b:=10) (c:=row0 s u n i) (by decide) λx hx=>by
   unfold row0 at hx;rcases Yap.mp hx with hx|hx
   .obtain⟨j,hj,rfl⟩:=YbU.mp hx
    rw[Yah] at hj;have hb:-50<=ent s n i j/\ent s n i j<=50:=by
     unfold ent;rw[aY,bR (by omega),Option.getD_some];exact h.b _ (jG _)
    show _<1024;omega
   .rw[Ycu.mp hx,aY,bR (by omega)]
    exact hub _ (jG _)
  unfold row0 at this ⊢;rw[eu,bP,nG,lQ] at this;exact this
 dsimp only;refine B.C.pub_by (ρ':=[.d (aN s),.d (aN u),.d (.int n),.ow ((List.range n).map λi=>lq (c8 (row0 s u n i))),s4,.un,.un,.un,.un,.un,.un]) rfl ?_;refine bH ?_;simp only[bJ,bN];walk_at "st";refine⟨by omega,by omega,?_⟩;refine w8 (λp ρ=>∃ (R:List (List Rat)) (s4 s5 s6 s7 s8 s9 s10:SV),R.length=n/\Sv.Eqv n (Sv.A0 s u n) R/\Sv.Col n p R/\(∀ i,i < n->Lf (LP.bq 10 p) (n+1) (rr R i))/\ρ=[.d (aN s),.d (aN u),.d (.int n),.ow (R.map lq),s4,s5,s6,s7,s8,s9,s10]) n ?_ ?_ _ ⟨(List.range n).map λi=>c8 (row0 s u n i),_,_,_,_,_,_,_,by simp,Sv.Eqv.refl,(λi q _ hq=>by omega),λi hi=>by
  unfold rr;rw[aY,cA,iA hi];exact lf0 i hi,by rw[dR];rfl⟩
 rotate_left
 .rintro _ ⟨R,s4,s5,s6,s7,s8,s9,s10,hR,hE,hC,hL,rfl⟩
  dsimp only;refine B.C.pub_by (ρ':=[.d (aN s),.d (aN u),.d (.int n),.d (.lst (R.map lq)),s4,s5,s6,s7,s8,s9,s10]) rfl ?_;walk_at "st";have hmem:∀r∈R,Lf (LP.bq 10 n) (n+1) r:=λr hr=>by
   obtain⟨i,hi,e⟩:=YbB.mp hr;have:=hL i (by omega);unfold rr at this;rw[aY,bR hi] at this;rw[<-e];exact this
  refine l8 (g:=lq) (f:=λr=>shq (r.getD n 0)) R (λr hr Q hq=>?_) .un [] (by simp[aO];omega) ?_
  .unfold lq
   walk_at "st";exact⟨_,Aa (hmem r hr) (by omega),hq⟩
  .walk_at "st"
   obtain⟨ef,es⟩:=Sv.end_sol h hR hE hC;unfold lP at q;rw[if_pos ef,<-es] at q;unfold aK at q;rw[dR] at q;exact q
 rintro p hp _ ⟨R,s4,s5,s6,s7,s8,s9,s10,hR,hE,hC,hL,rfl⟩ nx hnx;have bp:LP.bq 10 p<=175:=by
  have:p<=4:=by omega
  exact f8 (zO this) (by decide)
 have hRl:(R.map lq).length=n:=by rw[bP];exact hR
 show aI _ _ _ _ [.d (aN s),.d (aN u),.d (.int n),.ow (R.map lq),s4,.d (.int p),s6,s7,s8,s9,s10]
 let gs:=((List.range (n-p)).map (p + ·)).filter λk=>decide ((rr R k).getD p 0≠0)
 refine bH (B.C.own_by (xs:=gs.map λ(k:Nat)=>D.int (k:Int)) (ρ':=[.d (aN s),.d (aN u),.d (.int n),.ow (R.map lq),s4,.d (.int p),.ow (gs.map λ(k:Nat)=>D.int (k:Int)),s7,s8,s9,s10]) (by rfl) (λP hP=>?_) ?_)
 .walk_at "st"
  refine⟨⟨by omega,by omega,by omega,by omega⟩,?_⟩;have el:rng (p:Int) ((n:Int)-(p:Int)).toNat=((List.range (n-p)).map (p + ·)).map λ(k:Nat)=>D.int (k:Int):=by
   unfold rng;rw[dR,show((n:Int)-(p:Int)).toNat=n-p by omega];exact ia λk _=>by simp
  rw[el];refine CG (p:=λk=>decide ((rr R k).getD p 0≠0)) _ (λk hk P hP=>?_) .un [] (by simp[aO];omega) ?_
  .obtain⟨k',hk',rfl⟩:=YbU.mp hk
   rw[Yah] at hk';walk_at "st";refine⟨_,rB (by omega),?_⟩;unfold lq;walk_at "st";refine⟨_,Aa (hL (p+k') (by omega)) (by omega),?_⟩;unfold shq;walk_at "st";refine⟨_,bS (j:=0) rfl,?_⟩;walk_at "st";have e1:(!((rr R (p+k')).getD p 0).num==0)=decide ((rr R (p+k')).getD p 0≠0):=by
    rw[kE];simp[Ycw]
   rw[e1];exact hP
  .rw[fw]
   exact⟨B.C.flats_nats _,hP⟩
 dsimp only;refine B.C.pub_by (ρ':=[.d (aN s),.d (aN u),.d (.int n),.ow (R.map lq),s4,.d (.int p),.d (.lst (gs.map λ(k:Nat)=>D.int (k:Int))),s7,s8,s9,s10]) rfl ?_;have okg:dX (.lst (gs.map λ(k:Nat)=>D.int (k:Int))) 60=true:=Fc (n:=59) λd hd=>by
  obtain⟨k,_,rfl⟩:=YbU.mp hd;exact BW _ _
 cases eg:gs with
 |nil=>
  refine bH (eE (b:=true) (λP hP=>?_) (λ_=>by
   have ef:=Sv.stop_free h hp hE hC λk k1 k2=>Classical.byContradiction λz=>by
    have:k∈gs:=Yag.mpr ⟨YbU.mpr ⟨k-p,Yah.mpr (by omega),by omega⟩,by simpa using z⟩;rw[eg] at this;cases this
   unfold lP at q;rw[if_neg ef] at q;exact q) λe=>nomatch e)
  walk_at "st";exact⟨by decide,ug (by decide +kernel) hP⟩
 |cons g gs'=>
 obtain⟨g1,g2,g3⟩:p<=g/\g<n/\(rr R g).getD p 0≠0:=by
  have hm:g∈gs:=by rw[eg];simp
  obtain⟨h1,h2⟩:=Yag.mp hm;obtain⟨k,hk,rfl⟩:=YbU.mp h1;rw[Yah] at hk;exact⟨by omega,by omega,by simpa using h2⟩
 rw[eg] at okg;generalize hG:(List.map (λ(k:Nat)=>D.int (k:Int)) (g::gs'))=G;rw[hG] at okg;have hGa:dw G 0=some (.int g):=by rw[<-hG];exact bS (j:=0) rfl
 refine bH (eE (b:=false) (λP hP=>?_) (λe=>nomatch e) λ_=>?_)
 .walk_at "st"
  refine⟨by decide,wI okg (by decide +kernel) ?_⟩;have:gE (.lst G) (.lst [])=false:=by
   rw[<-hG];unfold gE;rw[da,pd,pd,PyData.eqv,fu,fu,PyData.eqvAll]
  rw[this];exact hP
 dsimp only;refine B.C.pub_by (ρ':=[.d (aN s),.d (aN u),.d (.int n),.ow (R.map lq),s4,.d (.int p),.d (.lst G),s7,s8,s9,s10]) rfl ?_;refine bH (B.C.swap_by (xs:=R.map lq) (x:=lq (rr R g)) (y:=lq (rr R p)) (k1:=p) (k2:=g) rfl (λP hP=>?_) (B.nm_at rfl) (λP hP=>?_) (by omega) (by omega) ?_)
 .walk_at "st"
  exact⟨_,hGa,_,rB (k:=g) (by omega),_,rB (k:=p) (by omega),by decide,hP⟩
 .walk_at "st"
  exact⟨_,hGa,hP⟩
 have eR1:((R.map lq).set p (lq (rr R g))).set g (lq (rr R p))=((R.set p (rr R g)).set g (rr R p)).map lq:=by rw[uW,uW]
 generalize hR1:(R.set p (rr R g)).set g (rr R p)=R1 at eR1;have l1:R1.length=n:=by rw[<-hR1,dv,dv];exact hR
 have a1:∀i,i<n->Lf (LP.bq 10 p) (n+1) (rr R1 i):=λi hi=>by
  rw[<-hR1,rr_set (by rw[dv];omega)];split
  .exact hL p hp
  .rw[rr_set (by omega)]
   split
   .exact hL g g2
   .exact hL i hi
 have hE1:Sv.Eqv n (Sv.A0 s u n) R1:=by rw[<-hR1];exact hE.trans (Sv.swap_eqv hR hp g2)
 have hC1:Sv.Col n p R1:=λi q hi hq=>by
  show(rr R1 i).getD q 0=_;rw[<-hR1,rr_set (by rw[dv];omega)];split
  .rename_i e
   have:(rr R p).getD q 0=Gs.dl p q:=hC p q hp hq;rw[this,e,Gs.dl_ne (by omega),Gs.dl_ne (by omega)]
  .rw[rr_set (by omega)]
   split
   .rename_i e
    have:(rr R g).getD q 0=Gs.dl g q:=hC g q g2 hq;rw[this,e,Gs.dl_ne (by omega),Gs.dl_ne (by omega)]
   .exact hC i q hi hq
 have ap:rr R1 p=rr R g:=by
  rw[<-hR1,rr_set (by rw[dv];omega)];split
  .rename_i e;rw[e]
  .rw[rr_set (by omega),if_pos rfl]
 dsimp only;show aI _ _ _ _ [.d (aN s),.d (aN u),.d (.int n),.ow (((R.map lq).set p (lq (rr R g))).set g (lq (rr R p))),s4,.d (.int p),.d (.lst G),s7,s8,s9,s10];rw[eR1];clear eR1 hGa okg hG;have pv:=a1 p hp;have pv0:(rr R1 p).getD p 0≠0:=by rw[ap];exact g3
 generalize hq0:(rr R1 p).getD p 0=q0 at pv0;have sq0:Sz (LP.bq 10 p) q0:=by rw[<-hq0];exact(pv.get (by omega)).2
 refine bH (MW (x:=.int q0.num) (y:=.int (q0.den:Int)) (ρ':=[.d (aN s),.d (aN u),.d (.int n),.ow (R1.map lq),s4,.d (.int p),.d (.lst G),.d (.int q0.num),.d (.int (q0.den:Int)),s9,s10]) (by rfl) (λP hP=>?_) ?_)
 .walk_at "st"
  refine⟨_,rB (k:=p) (by omega),?_⟩;unfold lq;walk_at "st";refine⟨_,Aa (k:=p) pv (by omega),?_⟩;rw[hq0];exact⟨rfl,hP⟩
 dsimp only;have piv:=pv.norm (p:=p) (by omega) (by rw[hq0];exact pv0);rw[hq0] at piv;have l2:p<(R1.map lq).length:=by rw[bP];omega
 refine bH (Hs (xs:=R1.map lq) (k:=p) (d:=lq ((rr R1 p).map λx=>x*q0⁻¹)) (ρ':=[.d (aN s),.d (aN u),.d (.int n),.ow ((R1.set p ((rr R1 p).map λx=>x*q0⁻¹)).map lq),s4,.d (.int p),.d (.lst G),.d (.int q0.num),.d (.int (q0.den:Int)),s9,s10]) rfl l2 (by rw[uW];rfl) (λP hP=>?_) (B.nm_at rfl) ?_)
 .walk_at "st"
  refine⟨_,rB (k:=p) (by omega),?_⟩;unfold lq;walk_at "st";refine l8 (g:=shq) (f:=λx=>shq (x*q0⁻¹)) (rr R1 p) (λx hx Q hq=>?_) .un [] (gS (by rw[pv.len,jm];omega)) ?_
  .walk_at "st"
   have hn0:q0.num≠0:=λz=>pv0 (Ycw.mp z);refine⟨(_,_),rfl,⟨hn0,(sq0.bd (by omega)).1⟩,?_⟩;dsimp only;have ei:Rat.divInt (q0.den:Int) q0.num=q0⁻¹:=by
    have:=Rat.inv_divInt q0.num (q0.den:Int);rw[uU] at this;exact this.symm
   rw[ei];exact Cn (B2.of (pv.sz x hx) sq0.inv (by omega)) hq
  .unfold lq at hP
   rw[dR] at hP;exact hP
 generalize hpr:(rr R1 p).map (λx=>x*q0⁻¹)=pr at piv;have qi0:q0⁻¹≠0:=λz=>by
  have:=yH _ pv0;rw[z,jn] at this;exact N6 this (by decide)
 have hE2:Sv.Eqv n (Sv.A0 s u n) (R1.set p pr):=by rw[<-hpr];exact hE1.trans (Sv.scale_eqv l1 hp qi0)
 have prq:∀q,q<p->pr.getD q 0=0:=λq hq=>by
  rw[<-hpr,Sv.map_at];have:(rr R1 p).getD q 0=Gs.dl p q:=hC1 p q hp hq;rw[this,Gs.dl_ne (by omega),gM]
 have prp:pr.getD p 0=1:=by rw[<-hpr,Sv.map_at,hq0,yH _ pv0]
 have hC2:Sv.Col n p (R1.set p pr):=λi q hi hq=>by
  show(rr (R1.set p pr) i).getD q 0=_;rw[rr_set (by omega)];split
  .rename_i e;rw[prq q hq,e,Gs.dl_ne (by omega)]
  .exact hC1 i q hi hq
 dsimp only;walk_at "st";refine⟨by omega,by omega,?_⟩;refine w8 (λk ρ=>∃ (T:List (List Rat)) (s9 s10:SV),T.length=n/\rr T p=pr/\Sv.Eqv n (Sv.A0 s u n) T/\Sv.Col n p T/\(∀ i,i < n->i < k->i≠p->(rr T i).getD p 0=0)/\(∀ i,i < n->Lf (if i < k then LP.bq 10 (p+1) else LP.bq 10 p) (n+1) (rr T i))/\ρ=[.d (aN s),.d (aN u),.d (.int n),.ow (T.map lq),s4,.d (.int p),.d (.lst G),.d (.int q0.num),.d (.int (q0.den:Int)),s9,s10]) n ?_ ?_ _ ⟨R1.set p pr,_,_,by rw [dv];exact l1,by rw [rr_set (by omega),if_pos rfl],hE2,hC2,(λi _ hk _=>by omega),λi hi=>by
  rw[if_neg (by omega),rr_set (by omega)];split
  .exact piv
  .exact a1 i hi,rfl⟩
 rotate_left
 .rintro _ ⟨T,s9,s10,hT,hTp,hE3,hC3,hZ3,hL2,rfl⟩
  refine hnx _ ⟨T,_,_,_,_,_,_,_,hT,hE3,λi q hi hq=>?_,λi hi=>by have:=hL2 i hi;rw[if_pos hi] at this;exact this,rfl⟩
  by_cases z:q<p
  .exact hC3 i q hi z
  .obtain rfl:q=p:=by omega
   show(rr T i).getD q 0=_
   by_cases z2:i=q
   .rw[z2,hTp,prp,Gs.dl_one]
   .rw[hZ3 i hi hi z2,Gs.dl_ne z2]
 rintro k hk _ ⟨T,s9,s10,hT,hTp,hE3,hC3,hZ3,hL2,rfl⟩ nx2 hnx2;have step:LP.bq 10 (p+1)=2*LP.bq 10 p+1:=rfl;show cL _ _ _ _ _ [.d (aN s),.d (aN u),.d (.int n),.ow (T.map lq),s4,.d (.int p),.d (.lst G),.d (.int q0.num),.d (.int (q0.den:Int)),.d (.int k),s10]
 by_cases ekp:k=p
 .refine eE (b:=false) (λP hP=>?_) (λe=>nomatch e) λ_=>hnx2 _ ⟨T,_,_,hT,hTp,hE3,hC3,(λi hi hik ne=>hZ3 i hi (by omega) ne),λi hi=>?_,rfl⟩
  .walk_at "st"
   rw[ekp];simpa using hP
  .have:=hL2 i hi
   by_cases c:i<k
   .rw[if_pos c] at this
    rw[if_pos (by omega)];exact this
   .rw[if_neg c] at this
    split
    .exact this.mono (by omega)
    .exact this
 .refine eE (b:=true) (λP hP=>?_) (λ_=>?_) λe=>nomatch e
  .walk_at "st"
   have:((k:Int)==(p:Int))=false:=by simpa using λz=>ekp (by exact_mod_cast z)
   rw[this];exact hP
  have rk:=hL2 k hk;rw[if_neg (iy _)] at rk;have gk:=rk.get (k:=p) (by omega);have hm1:Sz 1 (-1:Rat):=(Sz.int (n:=1) 1 (by decide) (by decide)).neg;generalize ha:(rr T k).getD p 0=a at gk;refine bH (Hr (d:=shq (a*(-1))) (ρ':=[.d (aN s),.d (aN u),.d (.int n),.ow (T.map lq),s4,.d (.int p),.d (.lst G),.d (.int q0.num),.d (.int (q0.den:Int)),.d (.int k),.d (shq (a*(-1)))]) (by rfl) (λP hP=>?_) ?_)
  .walk_at "st"
   refine⟨_,rB (k:=k) (by omega),?_⟩;unfold lq;walk_at "st";refine⟨_,Aa (k:=p) rk (by omega),by decide,?_⟩;rw[ha];exact Cn (q:=-1) (B2.of gk.2 hm1 (by omega)) ⟨rfl,hP⟩
  have ls:=rk.less (piv) (p:=p) (by omega);rw[ha] at ls;have l3:k<(T.map lq).length:=by rw[bP];omega
  have pl:pr.length=n+1:=piv.len;have hE4:Sv.Eqv n (Sv.A0 s u n) (T.set k (List.zipWith (λx y=>x+a*(-1)*y) (rr T k) pr)):=by
   have:=Sv.add_eqv (q:=a) hT hp hk ekp (by show(rr T k).length=(rr T p).length;rw[rk.len,hTp,pl]);rw[show Sv.rr T p=pr from hTp] at this;exact hE3.trans this
  have nw:∀q,(List.zipWith (λx y=>x+a*(-1)*y) (rr T k) pr).getD q 0=(rr T k).getD q 0-a*pr.getD q 0:=λq=>Sv.zip_at (by rw[rk.len,pl]);have hC4:Sv.Col n p (T.set k (List.zipWith (λx y=>x+a*(-1)*y) (rr T k) pr)):=λi q hi hq=>by
   show(rr (T.set k _) i).getD q 0=_;rw[rr_set (by omega)];split
   .rename_i e
    have:(rr T k).getD q 0=Gs.dl k q:=hC3 k q hk hq;rw[nw,prq q hq,this,e];grind
   .exact hC3 i q hi hq
  have hZ4:∀i,i<n->i<k+1->i≠p->(rr (T.set k (List.zipWith (λx y=>x+a*(-1)*y) (rr T k) pr)) i).getD p 0=0:=λi hi hik ne=>by
   rw[rr_set (by omega)];split
   .rw[nw,prp,ha];grind
   .exact hZ3 i hi (by omega) ne
  dsimp only;refine Hs (xs:=T.map lq) (k:=k) (d:=lq (List.zipWith (λx y=>x+a*(-1)*y) (rr T k) pr)) (ρ':=[.d (aN s),.d (aN u),.d (.int n),.ow ((T.set k (List.zipWith (λx y=>x+a*(-1)*y) (rr T k) pr)).map lq),s4,.d (.int p),.d (.lst G),.d (.int q0.num),.d (.int (q0.den:Int)),.d (.int k),.d (shq (a*(-1)))]) rfl l3 (by rw[uW];rfl) (λP hP=>?_) (B.nm_at rfl) (hnx2 _ ⟨_,_,_,by rw[dv];exact hT,by rw[rr_set (by omega),if_neg (Ob ekp)];exact hTp,hE4,hC4,hZ4,λi hi=>?_,rfl⟩)
  .walk_at "st"
   refine⟨_,rB (k:=k) (by omega),_,rB (k:=p) (by omega),?_⟩;rw[hTp];unfold lq;walk_at "st";refine E6 (f:=λx y=>shq (re x+a*(-1)*re y)) _ _ (λz hz Q hq=>?_) .un .un [] (gS ?_) ?_
   .obtain⟨z1,z2⟩:=z
    obtain⟨m1,m2⟩:=uP hz;obtain⟨x,hx,e1⟩:=YbU.mp m1;obtain⟨y,hy,e2⟩:=YbU.mp m2;dsimp only at e1 e2 hq;subst e1 e2;rw[wU,wU] at hq;walk_at "st";refine Cn (B2.of (gk.2.mul hm1) (piv.sz y hy) (by omega)) (KY (B2.of (rk.sz x hx) ((gk.2.mul hm1).mul (piv.sz y hy)) (by omega)) hq)
   .rw[List.length_zip,bP,rk.len,jm]
    omega
   .unfold lq at hP
    rw[fw];rw[yE] at hP;rw[AG];have e:(λa_1 b=>shq (re (shq a_1)+a*(-1)*re (shq b)))=λx y=>shq (x+a*(-1)*y):=by
     funext x y;rw[wU,wU]
    rw[e];exact hP
  .rw[rr_set (by omega)]
   by_cases ck:i=k
   .rw[if_pos ck,if_pos (by omega),step]
    exact ls
   .rw[if_neg ck]
    have:=hL2 i hi
    by_cases c:i<k
    .rw[if_pos c] at this
     rw[if_pos (by omega)];exact this
    .rw[if_neg c] at this
     rw[if_neg (by omega)];exact this
end G.V9
namespace G.V5
theorem size_w(h:IsSl s n){P:D->Prop}(hP:P (.int n)):bX [aN s] λx=>gAdd x (.int 1) λy=>fc y (.int 2) P:=by
 have hl:=h.len;unfold aN;walk_at "st";rw[bP];refine⟨⟨by decide,B.C.bd_of (b:=3) (by decide) (by decide)⟩,?_⟩;rw[show((s.length:Int)+1).fdiv 2=n from by rw[uV _ (by decide)];omega];exact hP
end G.V5
theorem xV{r:List Nat}(h:IsSl s n)(e:eh s n=k::r):1<=k/\k<=n/\cy (cor s n k) k≠[]/\∀j,1<=j->j<k->cy (cor s n j) j=[]:=by
 have key:∀j,j<n->(bO (tbl (cor s n (j+1)) (j+1))==0)=true->j+1∈eh s n:=λj hj z=>by
  unfold eh;exact YbU.mpr ⟨j,Yag.mpr ⟨Yah.mpr hj,z⟩,rfl⟩
 have pw:(eh s n).Pairwise (· < ·):=by
  unfold eh;rw[List.pairwise_map];exact((CW n).filter _).imp λh=>by omega
 have hk:k∈eh s n:=by rw[e];simp
 have hk':=hk;unfold eh at hk';obtain⟨i,hi,rfl⟩:=YbU.mp hk';obtain⟨h1,h2⟩:=Yag.mp hi;rw[Yah] at h1;refine⟨by omega,by omega,λz=>?_,λj j1 jk=>?_⟩
 .have:=(mi (gR h (by omega) (by omega))).mp z
  apply this;have z':bO (tbl (cor s n (i+1)) (i+1))=0:=by simpa using h2
  unfold bO at z';rw[jP] at z';exact z'
 .refine(mi (gR h j1 (by omega))).mpr λz=>?_
  have m:=key (j - 1) (by omega) (by
   rw[show j-1+1=j by omega];unfold bO;rw[jP,z];rfl)
  rw[show j-1+1=j by omega,e] at m;rw[e] at pw;rcases Yao.mp m with z2|z2
  .omega
  .have:=(YcP.mp pw).1 j z2
   omega
section
theorem xW(h:IsSl s n)(e:cy s n=[]):kd (cP s n)=true:=kP (by simp) λx hx=>by
 have l1:=lO h e;have l2:=nh h e;have:=h.n5;simp only[Yao,dh,or_false] at hx;rcases hx with rfl|rfl
 .exact zj (by omega)
 .exact zj (by omega)
theorem xX(h:IsSl s n)(e:cy s n=[]):dW 300 (cP s n)=true:=by
 have zf:dW 300 (aK (dF s n))=true:=Ziz.mpr λx hx=>(xM h e x hx).mono (by decide);have zl:dW 300 (aK (eU s n))=true:=Ziz.mpr λx hx=>(xN h e x hx).mono (by decide);unfold cP;simp only[dW,hJ];unfold aK at zf zl ⊢;rw[dW] at zf zl;simp only[dW,zf,zl];rfl
theorem Hu(h:IsSl s n)(e:cy s n=[]):lN s n (cP s n)=true:=by
 have n1:=h.n1;have mc0:=B.C.E.K8.mk_col h e (p:=0) (by omega);have mcn:=B.C.E.K8.mk_col h e (p:=n-1) (by omega);show(jR s n (aK (dF s n)) (bF n 0)&&jR s n (aK (eU s n)) (bF n (n-1)))=true;unfold dF eU;rw[mc0,mcn];rfl
theorem Hv:Rd xT tQ ZdU:=by
 rintro _ E Q ⟨⟨s,n⟩,rfl,⟨h,n1,g⟩,q⟩;dsimp only at h n1 g q;have c:=gR h n1 (jl n);have ec:=(g.cor h n1 (jl n)).full c;show tQ E _ [.d (aN s),.d (cP (cor s (n+1) n) n),.un];unfold tQ;refine bH ?_;simp only[fQ,wF,aC,aA,wN,dO];refine xQ h g ?_;refine bH (LP.set_by (d:=.int ((n+1:Nat):Int)) (ρ':=[.d (aN s),.d (cP (cor s (n+1) n) n),.d (.int ((n+1:Nat):Int))]) (by rfl) (λP hP=>?_) ?_)
 .walk_at "st"
  exact qx h hP
 dsimp only;refine bH (eE (b:=false) (λP hP=>?_) (λe=>nomatch e) λ_=>?_)
 .walk_at "st"
  rw[show((((n+1:Nat):Int))==1)=false from by rw[Oo];omega];exact hP
 dsimp only;refine bH (eE (b:=false) (λP hP=>?_) (λe=>nomatch e) λ_=>?_)
 .walk_at "st"
  rw[show(((n+1:Nat):Int)-1)=(n:Int) by omega];refine um h n1 (jl n) (GB c (xW c ec) (xX c ec) ?_);rw[Hu c ec];exact hP
 dsimp only;walk_at "st";exact z9 h n1 g q
end
namespace G.V9
theorem size_w{s:List Int}{n:Nat}(h:IsSl s n){P:D->Prop}(hP:P (.int n)):bX [aN s] λx=>gAdd x (.int 1) λy=>fc y (.int 2) P:=G.V5.size_w h hP
theorem M0:Rd uM DF ZfT:=by
 rintro _ E Q ⟨⟨⟨s,n⟩,k⟩,rfl,⟨h,k1,kn⟩,q⟩;dsimp only at h k1 kn q;have hl:=h.len;have n1:=h.n1;show DF E _ [.d (aN s),.d (.int k),.un];unfold DF;refine bH (LP.set_by (d:=.int ((n-k:Nat):Int)) (ρ':=[.d (aN s),.d (.int k),.d (.int ((n-k:Nat):Int))]) (by rfl) (λP hP=>size_w h (P:=λx=>fH x (.int k) P) ?_) ?_)
 .walk_at "st"
  rw[show((n:Int)-(k:Int))=((n-k:Nat):Int) by omega];exact hP
 dsimp only;walk_at "st";have hlm:((s.map D.int).length:Int)=(s.length:Int):=by rw[bP]
 unfold aN at q;rw[show((s.length:Int)-((n-k:Nat):Int))=((n+k-1:Nat):Int) by omega];have:bA (s.map D.int) (some ((n-k:Nat):Int)) (some ((n+k-1:Nat):Int))=(cor s n k).map D.int:=by
  unfold bA cor;rw[HT.sIx_nat,HT.sIx_nat,bP,mr,pH,nF (by omega),nF (by omega)];congr 1;omega
 rw[this];exact q
def DI(n p:Nat):(pD n p).length=n:=by unfold pD;simp
theorem DJ:∀y∈pD n p,y.natAbs<2^10:=λy hy=>by
 unfold pD at hy;obtain⟨i,_,rfl⟩:=YbU.mp hy;split<;>decide
theorem M1:Rd xU DG ZhG:=by
 rintro _ E Q ⟨⟨s,n⟩,rfl,h,q⟩;dsimp only at h q;have n1:=h.n1;have n5:=h.n5;have hl:=h.len;show DG E _ [.d (aN s),.un];unfold DG;refine bH ?_;simp only[bJ,bN];unfold aN;walk_at "st";refine⟨⟨by decide,B.C.bd_of (b:=3) (by decide) (by decide)⟩,?_⟩;rw[bP,show((s.length:Int)+1).fdiv 2=n from by rw[uV _ (by decide)];omega];refine⟨by omega,?_⟩;rw[show((n:Int)+1-1).toNat=n by omega];change ZbS _ _ _ _ _ [.d (aN s),.un];refine zN 1 (λk ρ=>(∀j,1<=j->j<=k->cy (cor s n j) j=[])/\∃s1,ρ=[.d (aN s),s1]) n ?_ ?_ _ ⟨λj j1 jk=>by omega,_,rfl⟩
 .rintro k hk _ ⟨hj,s1,rfl⟩ nx hnx
  simp only[gN,List.set_cons_succ,List.set_cons_zero];have c:=gR h (show 1<=k+1 by omega) (show k+1<=n by omega);have eC:(1+(k:Int))=((k+1:Nat):Int):=by omega
  have cnd:∀P:Bool->Prop,P (decide (cy (cor s n (k+1)) (k+1)≠[]))->wT (w2 (gIsC false) (wF rC (aC (wF uM (aC (wN 0) (aC (wN 1) aA))) (aC (wF tL (aC (wN 1) (aC (wC (D.int (0))) aA))) aA))) (wC D.non)) No [.d (aN s),.d (.int ((k+1:Nat):Int))] P:=λP hP=>by
   walk_at "st";refine Ht h (show 1<=k+1 by omega) (show k+1<=n by omega) ?_;refine C3 (n:=k+1) (k:=0) (by omega) ?_;refine DC c (DI _ _) DJ ?_;unfold lP;split
   .rename_i z
    rw[Ol (by simp[z])] at hP;exact⟨rfl,hP⟩
   .rename_i z
    rw[N9 z] at hP;exact⟨rfl,hP⟩
  rw[eC]
  by_cases z:cy (cor s n (k+1)) (k+1)=[]
  .refine eE (b:=false) (λP hP=>cnd P (by rw[Ol (by simp[z])];exact hP)) (λe=>nomatch e) λ_=>hnx _ ⟨λj j1 jk=>?_,_,rfl⟩
   rcases jj k j with y|y
   .rw[show j=k+1 by omega];exact z
   .exact hj j j1 y
  .refine eE (b:=true) (λP hP=>cnd P (by rw[N9 z];exact hP)) (λ_=>?_) λe=>nomatch e
   cases ew:eh s n with
   |nil=>exact N6 ((tO h).mp ew (k+1) (by omega) (by omega)) z
   |cons m r=>
    obtain⟨m1,mn,mf,ml⟩:=xV h ew;rw[ew] at q;have:m=k+1:=by
     rcases Nat.lt_trichotomy m (k+1) with y|y|y
     .exact N6 (hj m m1 (by omega)) mf
     .exact y
     .exact N6 (ml (k+1) (by omega) y) z
    subst this;exact q
 .rintro _ ⟨hj,s1,rfl⟩
  have:=(tO h).mpr λk k1 kn=>hj k k1 kn;rw[this] at q;exact q
def Mid(s:List Int)(n:Nat):Prop:=∀i j,i<n->j<n->if i=j then ent s n i j=9 else -1<=ent s n i j/\ent s n i j<=1
theorem Mid.full(h:IsSl s n)(m:Mid s n):cy s n=[]:=by
 refine(Ml h).mpr λz=>?_;obtain⟨w,⟨a,ha,wa⟩,hw⟩:=Gx (B.C.tbl_Sm h) h.n5 z;have n5:=h.n5;have key:∀M:Nat,(∀j,j<n->(w j).natAbs<=M)->∀j,j<n->w j=0:=by
  intro M
  induction M with
  |zero=>exact λhM j hj=>by have:=hM j hj;omega
  |succ M ih=>
   intro hM;refine ih λi hi=>?_;have e:=hw i hi;rw [t9 (g:=λj=>(if j=i then 8*w j else 0)+((ent s n i j - if j=i then 8 else 0)*w j)) (λj hj=>by
    rw[tA_ent h hi hj];split
    .grind
    .grind),Bm,Bp (k:=i) hi (λj _ ne=>by rw[if_neg ne]),if_pos rfl] at e
   have b:=Dg (f:=λj=>(ent s n i j-if j=i then 8 else 0)*w j) (B:=M+1) (n:=n) λj hj=>by
    rw[gq];have:=m i j hi hj;have c:(ent s n i j-if j=i then 8 else 0).natAbs<=1:=by
     by_cases y:i=j
     .rw[if_pos y] at this
      rw[if_pos y.symm,this];decide
     .rw[if_neg y] at this
      rw[if_neg (Ob y)];omega
    exact f8 (pL c (hM j hj)) (by omega)
   have b5:n*(M+1)<=5*(M+1):=qJ _ n5;omega
 obtain⟨M,hM⟩:∃M:Nat,∀j,j<n->(w j).natAbs<=M:=by
  have:∀m:Nat,∃M:Nat,∀j,j<m->(w j).natAbs<=M:=by
   intro m
   induction m with
   |zero=>exact⟨0,λj hj=>by omega⟩
   |succ m ih=>
    obtain⟨M,hM⟩:=ih;refine⟨M+(w m).natAbs,λj hj=>?_⟩;rcases jj j m with y|y
    .have:=hM j y;omega
    .rw[show j=m by omega];omega
  exact this n
 exact wa (key M hM a ha)
theorem Mid.stg(h:IsSl s n)(m:Mid s n):Stg s n:=λk k1 kn=>Mid.full (gR h k1 kn) λi j hi hj=>by
 rw[Di h kn hi hj];exact m i j (by omega) (by omega)
theorem xY{a b:List Int}:(a++b).getD k 0=if k<a.length then a.getD k 0 else b.getD (k-a.length) 0:=by
 simp only[aY];split
 .rename_i h;rw[jT h]
 .rename_i h;rw[jE (by omega)]
def m3(s:List Int):List Int:=s.map λx=>x.fmod 3-1
theorem xZ:∀x∈m3 s,-1<=x/\x<=1:=λx hx=>by
 unfold m3 at hx;obtain⟨y,_,rfl⟩:=YbU.mp hx;rw[AA _ (by decide)];omega
theorem M2(h:IsSl s n):IsSl ((m3 s).take (n-1)++[9]++(m3 s).drop n) n/\Mid ((m3 s).take (n-1)++[9]++(m3 s).drop n) n:=by
 have hl:=h.len;have n1:=h.n1;have ml:(m3 s).length=s.length:=by unfold m3;simp
 have b1:∀x∈(m3 s).take (n-1),-1<=x/\x<=1:=λx hx=>xZ x (pI hx);have b2:∀x∈(m3 s).drop n,-1<=x/\x<=1:=λx hx=>xZ x (k6 hx);refine⟨⟨?_,n1,h.n5,λx hx=>?_⟩,λi j hi hj=>?_⟩
 .simp only[eu,gT,ja,lQ];omega
 .rcases Yap.mp hx with hx|hx
  .rcases Yap.mp hx with hx|hx
   .have:=b1 x hx;omega
   .rw[Ycu.mp hx];decide
  .have:=b2 x hx;omega
 .unfold ent
  have tl:((m3 s).take (n-1)).length=n-1:=by rw[gT];omega
  have any:∀{L:List Int} {k:Nat},(∀x∈L,-1<=x/\x<=1)->-1<=L.getD k 0/\L.getD k 0<=1:=λ{L k} hL=>by
   rw[aY];cases e:L[k]? with
   |none=>exact⟨by decide,by decide⟩
   |some v=>exact hL v (iz e)
  split
  .rename_i e
   subst e;rw[show n-1-i+i=n-1 by omega,nD,xY,if_neg (by omega),tl,uX];rfl
  .rename_i e
   rw[nD,xY];split
   .exact any b1
   .rename_i z
    rw[tl] at z ⊢;obtain⟨t,ht⟩:∃t,n-1-i+j-(n-1)=t+1:=⟨n-1-i+j-(n-1)-1,by omega⟩
    rw[ht];show -1<=((m3 s).drop n).getD t 0/\((m3 s).drop n).getD t 0<=1;exact any b2
theorem M3:Rd Ab DH Zd6:=by
 rintro _ E Q ⟨⟨⟩,rfl,_,q⟩;dsimp only at q;show DH E _ [.d .pen,.un,.un];unfold DH;refine bH (LP.set_rl (λd=>∃s n,d=aN s/\IsSl s n) (λP hP=>?_) ?_)
 .walk_at "st"
  exact F5 λs n hs=>hP _ ⟨s,n,rfl,hs⟩
 rintro _ ⟨s,n,rfl,h⟩;dsimp only;have n1:=h.n1;have n5:=h.n5;have hl:=h.len;have ml:(m3 s).length=s.length:=by unfold m3;simp
 show aI _ _ _ _ [.d .pen,.d (aN s),.un];cases ew:eh s n with
 |nil=>
  refine bH (eE (b:=false) (λP hP=>?_) (λe=>nomatch e) λ_=>?_)
  .walk_at "st"
   refine DD h ?_;rw[ew];exact⟨rfl,hP⟩
  dsimp only;walk_at "st";exact q _ ⟨s,n,rfl,h,(tO h).mp ew⟩
 |cons m r=>
  refine bH (eE (b:=true) (λP hP=>?_) (λ_=>?_) λe=>nomatch e)
  .walk_at "st"
   refine DD h ?_;rw[ew];exact⟨rfl,hP⟩
  refine bH (LP.set_by (d:=.int n) (ρ':=[.d .pen,.d (aN s),.d (.int n)]) (by rfl) (λP hP=>size_w h hP) ?_);dsimp only;refine bH (LP.set_by (d:=aN (m3 s)) (ρ':=[.d .pen,.d (aN (m3 s)),.d (.int n)]) (by rfl) (λP hP=>?_) ?_)
  .unfold aN
   walk_at "st";refine l8 (g:=D.int) (f:=λx:Int=>D.int (x.fmod 3-1)) s (λx hx Q hq=>?_) .un [] (gS (by simp;omega)) ?_
   .walk_at "st"
    exact⟨by decide,hq⟩
   .walk_at "st"
    unfold aN m3 at hP;rw[dR] at hP;exact hP
  dsimp only;obtain⟨h',m'⟩:=M2 h;refine LP.set_by (d:=aN ((m3 s).take (n-1)++[9]++(m3 s).drop n)) (ρ':=[.d .pen,.d (aN ((m3 s).take (n-1)++[9]++(m3 s).drop n)),.d (.int n)]) (by rfl) (λP hP=>?_) ?_
  .have c1:bA ((m3 s).map D.int) none (some ((n:Int)-1))=((m3 s).take (n-1)).map D.int:=by
    unfold bA;rw[show((n:Int)-1)=((n-1:Nat):Int) by omega,HT.sIx_none,HT.sIx_nat,bP,qI,Nat.sub_zero,nF (by omega),mr]
   have c2:bA ((m3 s).map D.int) (some (n:Int)) none=((m3 s).drop n).map D.int:=by
    unfold bA;rw[HT.sIx_none,HT.sIx_nat,bP,nF (by omega),pH,yC (by simp)]
   unfold aN at hP ⊢;walk_at "st";rw[c1,c2];rw[iB,iB] at hP;refine⟨by decide,gS ?_,gS ?_,hP⟩
   .simp;omega
   .simp;omega
  dsimp only;walk_at "st";exact q _ ⟨_,n,rfl,h',m'.stg h'⟩
end G.V9
structure XF(P:Program)(w:World)(K:N4)(mg:Str->Option Value)(base:Heap)(x f:Str)(k:Nat):Prop where
 h:∃(C fI:Addr) (fd:FuncData) (ps:List Str),ik K x=some C/\mg x=some (.ref C)/\Fl.clsF K C Fl.bmV "ValueError.__new__" f fI=true/\FnOk P w K mg base (cU P w) k fI fd ps (Fl.spI C f)/\Binds K fd ps []/\∃od osl,K.lookup fI=some ⟨.type "function",od,.func fd,osl⟩
def Zm{n c f:Str}{k:Int}(h:d7 n=some (c,f,k)):gb n=c:=by unfold gb;rw[h]
section
variable{f:Str}{a:Expr}
def Hw(x f:Str)(wa:WE):WS:=λE _ ρ=>wa E ρ λd=>∃(n:Int) (ex:Str),d=.int n/\d7 ex=some (x,f,n)/\E ex
theorem M4(hr:Fl.RaisD X EX)(hx:XF X.prog X.w X.K X.mg X.base x f k)(hro:Room (k+1) X.A)(ha:PX X EX a wa)(hc:X.calm=true:=by rfl)(hg:Gl X x:=by rfl)(hd:(x==("__debug__" : Str))=false:=by decide)(he:starEach [a] X.env=[(false,eval a X.env)]:=by rfl)(hex:X.ex=[]:=by rfl) :
  PZ X EX (.Raise (some (.Call (.Name x np) [a] [] cpos)) none pos) (Hw x f wa):=by
 obtain⟨C,fI,fd,ps,h1,h2,h3,h4,h5,h6⟩:=hx.h;obtain⟨ta,pa,ka⟩:=ha.t;refine⟨⟨_,Fl.ps_raisef hr hc h2 h3 h4 hro h5 h6 pa hg hd he hex,λW0 H0 F W σ H ρ E Dn N s fl eo no q=>ka W0 H0 W σ H ρ E _ s eo (ha.mono _ _ _ _ (λd ⟨n,ex,ed,er,hE⟩=>?_) q)⟩,λE ρ N N' hl q=>q⟩;subst ed;intro v W' H' x' r';cases r';refine⟨n,rfl,λd hd=>?_⟩;have xt:Ext W' H' (W'.put d (.xd [(f,.int n)])) (upd H' d (.xd [(f,.int n)])):=Ext.put x'.ok hd;refine eo ex _ _ _ _ hE (s.ext.trans (x'.trans xt)) ⟨C,by rw[Zm er];exact h1,rfl,λc f' k' e'=>?_⟩;rw[er] at e';cases e';exact⟨d,rfl,by unfold Wd.put;dsimp only;rw[aL]⟩
def yb(x f:Str):D->(D->Prop)->Prop:=λd Q=>match d with
 |.exc n=>∃k,d7 n=some (x,f,k)/\Q (.int k)
 |_=>False
theorem M5{C fI:Addr}(h1:ik X.K x=some C)(h2:Fl.clsF X.K C Fl.bmV "ValueError.__new__" f fI=true)(hB:typeLookup (.type "ValueError") f=pure none)(ha:PX X EX a wa)(hb:attributeBase a f X.env (eval a X.env)=eval a X.env:=by rfl) :
  PX X EX (.Attribute a f pos) (w1 (yb x f) wa):=by
 obtain⟨ta,pa,ka⟩:=ha.t;refine⟨⟨λσ H Q=>ta σ H λv H1=>∃e dx k,v=.ref e/\H1 e=some (qh C e (some dx))/\H1 dx=some (.xd [(f,.int k)])/\Q (.int k) H1,?_,λW0 H0 W σ H ρ E Q s eo q=>ka W0 H0 W σ H ρ E _ s eo (ha.mono _ _ _ _ (λd q=>?_) q)⟩,λE ρ P P' hp q=>ha.mono _ _ _ _ (λd q=>?_) q⟩
 .intro pins s σ H Q I h
  refine p9 hb (bG (pa pins s σ H _ I h) λu s1 ⟨v,H1,I1,rv,e,dx,k,ev,e1,e2,q⟩=>?_);subst ev;cases rv;obtain⟨oe,g1,g2,_,g3,vs,g4⟩:=(I1.hok e _ e1).1;obtain⟨m,n1,n2⟩:=I1.hok dx _ e2;have nf:=n2 f;simp only[kY,Oj] at nf;obtain⟨bm,N,nm,qn,bs,sn,sub,ab,col,dd,k0,k1,k2,k3,k5,mN,hC,hN,_,qm,T⟩:=(Fl.clsF_of I1.kIn h2).h;obtain⟨w,ew,rw'⟩:∃w,m f=some w/\RelV (.int k) w:=by
   cases z:m f with
   |none=>rw[z] at nf;exact nf.elim
   |some w=>rw[z] at nf;exact⟨w,rfl,nf⟩
  obtain⟨tk,rfl⟩:=rw';obtain⟨hp,g,dr,tk',os⟩:=s1;exact Fl.get_field PySem.F.attrBase_ValueError hC hN T (qm _ (by simp[Fl.quiet])) (qm _ (by simp[Fl.quiet])) (qm _ (by simp[Fl.quiet])) (by simp[Fl.quiet]) (by simp[Fl.quiet]) (by simp[Fl.quiet]) hB g1 g2 g3 g4 n1.ns ew rfl ⟨.int k,H1,I1.tok _,⟨_,rfl⟩,q⟩
 .unfold yb at q
  split at q
  .rename_i n
   obtain⟨k,ek,q⟩:=q;intro v W' H' x' r';cases r' with
   | @exc e C' _ dx e0 ec xd=>
    obtain⟨d,rfl,ed⟩:=xd _ _ _ ek;rw[Zm ek,h1] at ec;cases ec;exact⟨e,d,k,rfl,x'.ok.g _ _ e0,x'.ok.g _ _ ed,q _ _ _ x' (.int _)⟩
  .exact q.elim
 .unfold yb at q ⊢
  split at q
  .obtain⟨k,ek,q⟩:=q
   exact⟨k,ek,hp _ q⟩
  .exact q.elim
end
def DK(s:Stmt):Stmt:=match s with
 |.ClassDef _ _ _ (b::_) _ _ _ _ _ _ _=>b
 |s=>s
structure XK1(K:N4)(mg:Str->Option Value)(x qual f:Str)(st:Stmt):Prop where
 h:∃(C fI:Addr) (od:Option Addr) (osl:Array (Option Value)) (kV doc pm:Value) (an:Option Addr) (cdv ct:Value),ik K x=some C/\mg x=some (.ref C)/\Fl.clsF K C Fl.bmV "ValueError.__new__" f fI=true/\
  K.lookup fI=some ⟨.type "function",od,.func (PySem.W.fnOf "__init__" qual (bT st) (aW st) (aE st) .none kV doc pm an cdv ct),osl⟩/\PySem.W.codeIn K cdv qual=true/\PySem.W.keepIn K (.ref fI)=true
section
variable{w:World}{f:Str}
theorem mkXF{hp:Heap}(X:K.In hp)(G:hp.Ns mainGlobals mg){C fI:Addr}{kV doc pm cdv ct:Value}{dd:Option Addr}{cd:ClassData}{sl:Array (Option Value)}(a:PySem.W.nsIn K mainGlobals x=some (some (.ref C)))(lc:K.lookup C=some ⟨.type "type",dd,.cls cd,sl⟩)(ni:PySem.W.nsIn K cd.ns "__init__" = some (some (.ref fI)))(q:Fl.clsF K C Fl.bmV "ValueError.__new__" f fI=true)
  (l:K.lookup fI=some ⟨.type "function",od,.func (PySem.W.fnOf "__init__" qual (bT st) (aW st) (aE st) .none kV doc pm an cdv ct),osl⟩) (c:PySem.W.codeIn K cdv qual=true) (kp:PySem.W.keepIn K (.ref fI)=true):XK1 K mg x qual f st:=
 ⟨C,fI,od,osl,kV,doc,pm,an,cdv,ct,tE a,PySem.W.mg_of X G a,q,l,c,kp⟩
theorem XK1.xf(h:XK1 K mg x qual f st)(hB:typeLookup (.type "ValueError") f=pure none)(sc:bI [("self" : Str),f] [("self" : Str),f] (aE st):=by exact⟨rfl,rfl,rfl,by decide +kernel,rfl,by decide +kernel,by decide +kernel⟩)
  (hb:∃p0 p1 pos pos',aW st=[.Assign [.Attribute (.Name "self" p0) f pos'] (.Name f p1) pos]/\∀env,swapsWith (.Name f p1) (some (.Attribute (.Name "self" p0) f pos')) pos.line env=pure false:=by exact⟨_,_,_,_,rfl,λ_=>rfl⟩)
  (bi:∀ (kV doc pm:Value) (an:Option Addr) (cdv ct:Value) (us:List Value),us.length=[("self" : Str),f].length->bindArgs (PySem.W.fnOf "__init__" qual (bT st) (aW st) (aE st) .none kV doc pm an cdv ct) ⟨us,[]⟩=pure ([("self" : Str),f].zip us):=by
   intro _ _ _ _ _ _ us hl
   match us,hl with|[_,_],_=>rfl)
  (d1:(f==("__debug__" : Str))=false:=by decide) (c1:(f==("__classdict__" : Str))=false:=by decide):XF P w K mg base x f (k+1):=by
 obtain⟨C,fI,od,osl,kV,doc,pm,an,cdv,ct,h1,h2,h3,h4,h5,h6⟩:=h.h;obtain⟨p0,p1,pos,pos',e1,e2⟩:=hb;have F:=mT h4 h5 h6;exact⟨C,fI,_,_,h1,h2,h3,Fl.init_ok F sc h3 hB e1 e2 (by decide) d1 (by decide) c1,F.binds bi,od,osl,h4⟩
section
variable{a:Expr}
theorem M6(h:XK1 X.K X.mg x qual f st)(hB:typeLookup (.type "ValueError") f=pure none)(ha:PX X EX a wa)(hb:attributeBase a f X.env (eval a X.env)=eval a X.env:=by rfl):PX X EX (.Attribute a f pos) (w1 (yb x f) wa):=by
 obtain⟨C,fI,_,_,_,_,_,_,_,_,h1,_,h3,_⟩:=h.h;exact M5 h1 h3 hB ha hb
end
theorem Hx:typeLookup (.type "ValueError") "size" = pure none:=by rw[typeLookup_type,builtinLookup_eq_fast];kernel_rfl
end
def kC(k:Nat):Str:=match k with
 |1=> "NotStrong1" |2=> "NotStrong2" |3=> "NotStrong3" |4=> "NotStrong4" |_=> "NotStrong5"
theorem Hy(h1:1<=k)(h5:k<=5):d7 (kC k)=some (("NotStrong" : Str),("size" : Str),(k:Int)):=by
 have:k=1\/k=2\/k=3\/k=4\/k=5:=by omega
 rcases this with rfl|rfl|rfl|rfl|rfl<;>decide +kernel
namespace G.V9.W
def mm(s:List Int)(n:Nat)(v:Except Str D):Except Str D:=match eh s n with
 |[]=>v
 |k::_=>.error (kC k)
def Ad(h:IsSl s n)(g:Stg s n):mm s n v=v:=by unfold mm;rw[(tO h).mpr g]
def yc{r:List Nat}(e:eh s n=k::r):mm s n v=.error (kC k):=by unfold mm;rw[e]
def nq(s:List Int)(n:Nat):D:=.lst ((List.range n).map λk=>cP (cor s n (k+1)) (k+1))
def pE:bK:=xS (λx:D=>[x]) (λx=>kd x=true) λx=>gQ x (mm (sI x) (sN x) (.ok .non))
def DL:bK:=xS (λx:D=>[x]) (λx=>kd x=true) λx=>gQ x (mm (sI x) (sN x) (.ok (nq (sI x) (sN x))))
def xT:bK:=xS (λx:D×D=>[x.1,x.2]) (λx=>kd x.1=true/\kd x.2=true/\dW 300 x.2=true) λx=>gQ x.1 (mm (sI x.1) (sN x.1) (if sN x.1=1 then .error "NoNumber" else if lN (cor (sI x.1) (sN x.1) (sN x.1-1)) (sN x.1-1) x.2=true then .ok (cP (sI x.1) (sN x.1)) else .error "NoRow"))
section
variable{E:Ex->Prop}{x:D}{r:List Int}
theorem xQ(h:IsSl s n)(g:Stg s n)(q:Q .non):pE [aN s] E Q:=xS.ok (aN s) rfl h.kd (by(try dsimp only);rw[jO h,fX,h.sN,Ad h g]) q
theorem Hz(h:IsSl s n){l:List Nat}(e:eh s n=k::l)(q:E (kC k)):pE [aN s] E Q:=xS.err (aN s) rfl h.kd (by(try dsimp only);rw[jO h,fX,h.sN,yc e]) q
end
abbrev ZfP:List Str:=["slants", "size"]
def DM:WS:=(aI (aR 1 (wF xO (aC (wN 0) aA))) (cL (wT (w2 (gIsC true) (wN 1) (wC D.non))) (Hw (PySem.Str.ofString "NotStrong") (PySem.Str.ofString "size") (wN 1)) cO))
abbrev Zct:List Str:=["slants", "steps", "size"]
def DN:WS:=(aI (fQ (wF pE (aC (wN 0) aA))) (aI (cH 1 (bL (aC (wF xP (aC (wN 0) aA)) aA))) (aI (bJ (bN (gP (aC (wC (D.int (2))) (aC (w2 gAdd (wF kQ (aC (wN 0) aA)) (wC (D.int (1)))) aA))) (gN 2) (cS 1 (dD 1 (wF rz (aC (wF mY (aC (wN 0) (aC (wN 2) aA))) (aC (w2 gIx (wN 1) (w1 ff (wC (D.int (1))))) aA))))))) (de 1 (aM (wN 1))))))
abbrev ZdU:List Str:=["slants", "step", "size"]
def tQ:WS:=(aI (fQ (wF pE (aC (wN 0) aA))) (aI (aR 2 (wF kQ (aC (wN 0) aA))) (aI (cL (wT (w2 (gEq false) (wN 2) (wC (D.int (1))))) (iu (PySem.Str.ofString "NoNumber")) cO) (aI (cL (bW (wT (wF uz (aC (wF mY (aC (wN 0) (aC (w2 fH (wN 2) (wC (D.int (1)))) aA))) (aC (wN 1) aA))))) (iu (PySem.Str.ofString "NoRow")) cO) (aM (wF rz (aC (wN 0) (aC (wN 1) aA))))))))
theorem M7:Rd pE DM ZfP:=by
 rintro _ E Q ⟨x,rfl,hk,q⟩;show DM E _ [.d x,.un];unfold DM;cases e:fg x with
 |false=>
  refine bH ?_;simp only[aR,wF,aC,aA,wN,dO];exact xS.err x rfl hk (l7 e) (m6 e q)
 |true=>
 obtain⟨s,n,rfl,h⟩:=nV e;replace q:=m7 h q;rw[fX,h.sN] at q;unfold mm at q;cases ew:eh s n with
 |nil=>
  rw[ew] at q;refine bH (LP.set_by (d:=.non) (ρ':=[.d (aN s),.d .non]) (by rfl) (λP hP=>?_) ?_)
  .walk_at "st"
   refine Hk h ?_;rw[ew];exact hP
  dsimp only;refine eE (b:=false) (λP hP=>?_) (λe=>nomatch e) λ_=>q;walk_at "st";exact⟨rfl,hP⟩
 |cons k l=>
  rw[ew] at q;obtain⟨k1,kn,_⟩:=xV h ew;refine bH (LP.set_by (d:=.int k) (ρ':=[.d (aN s),.d (.int k)]) (by rfl) (λP hP=>?_) ?_)
  .walk_at "st"
   refine Hk h ?_;rw[ew];exact hP
  dsimp only;refine eE (b:=true) (λP hP=>?_) (λ_=>?_) λe=>nomatch e
  .walk_at "st"
   exact⟨rfl,hP⟩
  .exact⟨(k:Int),kC k,rfl,Hy k1 (by have:=h.n5;omega),q⟩
theorem M8:Rd DL DN Zct:=by
 rintro _ E Q ⟨x,rfl,hk,q⟩;show DN E _ [.d x,.un,.un];unfold DN;refine bH ?_;simp only[fQ,wF,aC,aA,wN,dO];cases e:fg x with
 |false=>exact xS.err x rfl hk (l7 e) (m6 e q)
 |true=>
 obtain⟨s,n,rfl,h⟩:=nV e;replace q:=m7 h q;rw[fX,h.sN] at q;cases ew:eh s n with
 |cons k l=>
  rw[yc ew] at q;exact Hz h ew q
 |nil=>
 have g:=(tO h).mp ew;rw[Ad h g] at q;have n1:=h.n1;have n5:=h.n5;refine xQ h g ?_
 let f:Nat->D:=λk=>cP (cor s n (k+1)) (k+1)
 refine bH (LP.own_by (xs:=(List.range 1).map f) (ρ':=[.d (aN s),.ow ((List.range 1).map f),.un]) (by rfl) (λP hP=>?_) ?_)
 .simp only[bL,wF,aC,aA,wN,dO]
  exact Hl h g ⟨show 1<=aO by decide,hP⟩
 dsimp only;refine bH ?_;simp only[bJ,bN,gP,aC,aA,wC,w2,wF,wN,dO];refine qx h ?_;walk_at "st";refine⟨by omega,?_⟩;rw[show((n:Int)+1-2).toNat=n-1 by omega];refine zN 2 (λk ρ=>∃s2,ρ=[.d (aN s),.ow ((List.range (k+1)).map f),s2]) (n-1) ?_ ?_ _ ⟨_,rfl⟩
 .rintro k hk _ ⟨s2,rfl⟩ nx hnx
  have c:=gR h (show 1<=k+2 by omega) (show k+2<=n by omega);have gc:=g.cor h (show 1<=k+2 by omega) (show k+2<=n by omega);simp only[gN,List.set_cons_succ,List.set_cons_zero];show cS _ _ _ _ [.d (aN s),.ow ((List.range (k+1)).map f),.d (.int (2+k))];rw[rP,iB] at hnx;have hl:((List.range (k+1)).map f).length=k+1:=by simp
  have ha:dw ((List.range (k+1)).map f) (-1)=some (cP (cor s n (k+1)) (k+1)):=by
   rw[rP,iB];exact DA
  generalize (List.range (k+1)).map f=L at hl ha hnx;simp only[cS,dD,pub,wF,aC,aA,wN,w2,w1,wC,dO,fN,List.set_cons_succ,List.set_cons_zero];have eC:(2+(k:Int))=((k+2:Nat):Int):=by omega
  rw[eC];refine um h (show 1<=k+2 by omega) (show k+2<=n by omega) ?_;walk_at "st";refine⟨_,ha,?_⟩;have:=z9 (E:=No) (Q:=λd=>e8 d=true/\L.length<aO/\nx [.d (aN s),.ow (L++[d]),.d (.int ((k+2:Nat):Int))]) c (show 1<=k+1 by omega) gc ⟨Hq _ _,by rw[hl];unfold aO;omega,hnx _ ⟨_,rfl⟩⟩;rw[Gs.cor_cor (show k+2<=n by omega) (show k+1<=k+2 by omega) (by omega) h] at this;exact this
 .rintro _ ⟨s2,rfl⟩
  rw[show n-1+1=n by omega];dsimp only;refine B.C.pub_by (ρ':=[.d (aN s),.d (.lst ((List.range n).map f)),s2]) rfl ?_;exact q
end G.V9.W
abbrev LX5:List Str:=["NoSlants", "NoRow", "NoNumber", "NoLine", "NotEven", "NotFull", "NotStrong1", "NotStrong2", "NotStrong3", "NotStrong4", "NotStrong5"]
theorem M9(h1:1<=k)(h5:k<=5):kC k∈LX5:=by
 have:k=1\/k=2\/k=3\/k=4\/k=5:=by omega
 rcases this with rfl|rfl|rfl|rfl|rfl<;>simp[kC]
def fM(n:Str):Str:=if gb n == "NotStrong" then "strong" else Cp n
def Na:∀n∈LX,fM n=Cp n:=by decide +kernel
theorem Nb(h1:1<=k)(h5:k<=5):fM (kC k) = "strong" :=by
 have:k=1\/k=2\/k=3\/k=4\/k=5:=by omega
 rcases this with rfl|rfl|rfl|rfl|rfl<;>decide +kernel
namespace G.V9.W
def ye:bK:=fnS (λn:Str=>[.exc n]) (λn=>n∈LX5) λn=>.str (fM n)
def HC{E:Ex->Prop}{n:Str}(h:n∈LX5)(q:Q (.str (fM n))):ye [.exc n] E Q:=⟨n,rfl,h,q⟩
abbrev Zdu:List Str:=["_law_e", "_law_marks"]
def DO:WS:=(aI (aR 1 (wL (bL (aC (wB (gIsX LX5 MX) (aC (wN 0) (aC (wC (.cls (PySem.Str.ofString "NoSlants"))) aA))) (aC (wB (gIsX LX5 MX) (aC (wN 0) (aC (wC (.cls (PySem.Str.ofString "NoRow"))) aA))) (aC (wB (gIsX LX5 MX) (aC (wN 0) (aC (wC (.cls (PySem.Str.ofString "NoNumber"))) aA))) (aC (wB (gIsX LX5 MX) (aC (wN 0) (aC (wC (.cls (PySem.Str.ofString "NoLine"))) aA))) aA))))))) (aI (aR 1 (w2 gAdd (wN 1) (wL (bL (aC (wB (gIsX LX5 MX) (aC (wN 0) (aC (wC (.cls (PySem.Str.ofString "NotEven"))) aA))) (aC (wB (gIsX LX5 MX) (aC (wN 0) (aC (wC (.cls (PySem.Str.ofString "NotFull"))) aA))) (aC (wB (gIsX LX5 MX) (aC (wN 0) (aC (wC (.cls (PySem.Str.ofString "NotStrong"))) aA))) aA))))))) (aI (aR 1 (w2 gAdd (wN 1) (wL (bL (aC (wB (gIsX LX5 MX) (aC (wN 0) (aC (wC (.cls (PySem.Str.ofString "NoText"))) aA))) (aC (wB (gIsX LX5 MX) (aC (wN 0) (aC (wC (.cls (PySem.Str.ofString "TooGreat"))) aA))) aA)))))) (aI (cL (gB (bW (wT (wB (gIsX LX5 MX) (aC (wN 0) (aC (wC (.ty "ValueError")) aA))))) (wT (w2 (gEq true) (wM B8 (wN 1) (aC (wC (D.bl true)) aA)) (wC (D.int (1)))))) (aM (wC (D.str (PySem.Str.ofString "other")))) cO) (aM (w2 gIx (wL (bL (aC (wC (D.str (PySem.Str.ofString "slants"))) (aC (wC (D.str (PySem.Str.ofString "row"))) (aC (wC (D.str (PySem.Str.ofString "number"))) (aC (wC (D.str (PySem.Str.ofString "line"))) (aC (wC (D.str (PySem.Str.ofString "even"))) (aC (wC (D.str (PySem.Str.ofString "full"))) (aC (wC (D.str (PySem.Str.ofString "strong"))) (aC (wC (D.str (PySem.Str.ofString "text"))) (aC (wC (D.str (PySem.Str.ofString "great"))) aA))))))))))) (wM B9 (wN 1) (aC (wC (D.bl true)) aA))))))))
theorem nr{n m:Str}(h:n∈LX5)(hm:m∈MX)(q:Q (.bl (gb n==m))):gIsX LX5 MX [.exc n,.cls m] Q:=⟨h,hm,q⟩
theorem Nc:∀ds E Q,ye ds E Q->DO No { nx:=λ_=>Q .non,rt:=Q } (dS Zdu ds):=by
 rintro _ E Q ⟨n,rfl,hn,q⟩;unfold DO;walk_at "nx";refine nr hn (by simp) (nr hn (by simp) (nr hn (by simp) (nr hn (by simp) ⟨by decide,?_⟩)));walk_at "nx";refine nr hn (by simp) (nr hn (by simp) (nr hn (by simp) ⟨by decide,?_⟩));walk_at "st";refine⟨by decide,?_⟩;walk_at "nx";refine nr hn (by simp) (nr hn (by simp) ⟨by decide,?_⟩);walk_at "st";refine⟨by decide,?_⟩;have key:(MX.map (gb n == ·)).countP (· == true)=1/\∃j:Nat,(MX.map (gb n == ·))[j]? = some true/\(∀i<j,(MX.map (gb n == ·))[i]?≠some true)/\[D.str "slants",.str "row",.str "number",.str "line",.str "even",.str "full",.str "strong",.str "text",.str "great"][j]? = some (.str (fM n)):=by
  simp only[LX5,Yao,dh,or_false] at hn;rcases hn with rfl|rfl|rfl|rfl|rfl|rfl|rfl|rfl|rfl|rfl|rfl
  .exact⟨by decide +kernel,0,by decide +kernel,by decide +kernel,by first|rfl|decide +kernel⟩
  .exact⟨by decide +kernel,1,by decide +kernel,by decide +kernel,by first|rfl|decide +kernel⟩
  .exact⟨by decide +kernel,2,by decide +kernel,by decide +kernel,by first|rfl|decide +kernel⟩
  .exact⟨by decide +kernel,3,by decide +kernel,by decide +kernel,by first|rfl|decide +kernel⟩
  .exact⟨by decide +kernel,4,by decide +kernel,by decide +kernel,by first|rfl|decide +kernel⟩
  .exact⟨by decide +kernel,5,by decide +kernel,by decide +kernel,by first|rfl|decide +kernel⟩
  .exact⟨by decide +kernel,6,by decide +kernel,by decide +kernel,by rfl⟩
  .exact⟨by decide +kernel,6,by decide +kernel,by decide +kernel,by rfl⟩
  .exact⟨by decide +kernel,6,by decide +kernel,by decide +kernel,by rfl⟩
  .exact⟨by decide +kernel,6,by decide +kernel,by decide +kernel,by rfl⟩
  .exact⟨by decide +kernel,6,by decide +kernel,by decide +kernel,by rfl⟩
 obtain⟨k1,j,k2,k3,k4⟩:=key;walk_at "nx";refine⟨hn,rfl,?_⟩;walk_at "st";refine⟨⟨_,rfl⟩,⟨MX.map (gb n == ·),true,rfl,rfl,?_⟩⟩;rw[k1];walk_at "st";refine⟨by decide,⟨_,rfl⟩,MX.map (gb n == ·),true,j,rfl,rfl,k2,k3,?_⟩;exact⟨_,bS k4,q⟩
end G.V9.W
section
variable{p:Pos}
def qD(i:Nat):qA:=λ_ QL ρ=>match ρ[i]? with
 |some (.ow xs)=>QL xs
 |_=>False
theorem Nd(i:Nat)(hN:X.N[i]? = some x:=by rfl)(hv:kF X.env.scope x:=by first|exact .inl rfl|exact .inr (.inl rfl))(hd:(x==("__debug__" : Str))=false:=by decide)(hcd:(x==("__classdict__" : Str))=false:=by decide):xG X EX [.Return (some (.Name x p)) pos] (qD i):=by
 refine⟨⟨_,iF (mx (c6 hN hv hd hcd)),λW0 H0 F W σ H ρ E Dn QL s fl eo no h=>?_⟩,λE ρ Q Q' hq z=>?_⟩
 .unfold qD at h
  split at h
  .rename_i xs e
   obtain⟨a,vs,e1,e2,e3,e4,e5,e6⟩:=s.o i xs e;exact⟨.ref a,e1,no xs h a vs W H s.ext e2 e3 e4 e5 e6⟩
  .exact h.elim
 .unfold qD at z ⊢
  split at z
  .exact hq _ z
  .exact z.elim
end
namespace G.V9.W
def yf:rp:=λds _ Q=>∃s n,ds=[aN s]/\IsSl s n/\Stg s n/\Q ((List.range n).map λk=>cP (cor s n (k+1)) (k+1))
def Nf:C5 yf:=λ_ _ _ _ _ _ hQ ⟨s,n,e,h,g,q⟩=>⟨s,n,e,h,g,hQ _ q⟩
def Ng:∀ds E Q,yf ds E Q->ds.length=(Zct.take 1).length:=λ_ _ _ ⟨_,_,e,_⟩=>by rw[e];rfl
def Ae:qA:=(nb (fQ (wF pE (aC (wN 0) aA))) (nb (cH 1 (bL (aC (wF xP (aC (wN 0) aA)) aA))) (nb (bJ (bN (gP (aC (wC (D.int (2))) (aC (w2 gAdd (wF kQ (aC (wN 0) aA)) (wC (D.int (1)))) aA))) (gN 2) (cS 1 (dD 1 (wF rz (aC (wF mY (aC (wN 0) (aC (wN 2) aA))) (aC (w2 gIx (wN 1) (w1 ff (wC (D.int (1))))) aA))))))) (qD 1))))
theorem DP{z':qA}{E:Ex->Prop}{Q:List D->Prop}(h:z E { nx:=z' E Q,rt:=λ_=>False } ρ):nb z z' E Q ρ:=h
theorem Nh:∀ds E Q,yf ds E Q->Ae E Q (dS Zct ds):=by
 rintro _ E Q ⟨s,n,rfl,h,g,q⟩;have n1:=h.n1;have n5:=h.n5;show Ae E _ [.d (aN s),.un,.un];unfold Ae;refine DP ?_;simp only[fQ,wF,aC,aA,wN,dO];refine xQ h g ?_
 let f:Nat->D:=λk=>cP (cor s n (k+1)) (k+1)
 refine DP (LP.own_by (xs:=(List.range 1).map f) (ρ':=[.d (aN s),.ow ((List.range 1).map f),.un]) (by rfl) (λP hP=>?_) ?_)
 .simp only[bL,wF,aC,aA,wN,dO]
  exact Hl h g ⟨show 1<=aO by decide,hP⟩
 dsimp only;refine DP ?_;simp only[bJ,bN,gP,aC,aA,wC,w2,wF,wN,dO];refine qx h ?_;walk_at "st";refine⟨by omega,?_⟩;rw[show((n:Int)+1-2).toNat=n-1 by omega];refine zN 2 (λk ρ=>∃s2,ρ=[.d (aN s),.ow ((List.range (k+1)).map f),s2]) (n-1) ?_ ?_ _ ⟨_,rfl⟩
 .rintro k hk _ ⟨s2,rfl⟩ nx hnx
  have c:=gR h (show 1<=k+2 by omega) (show k+2<=n by omega);have gc:=g.cor h (show 1<=k+2 by omega) (show k+2<=n by omega);simp only[gN,List.set_cons_succ,List.set_cons_zero];show cS _ _ _ _ [.d (aN s),.ow ((List.range (k+1)).map f),.d (.int (2+k))];rw[rP,iB] at hnx;have hl:((List.range (k+1)).map f).length=k+1:=by simp
  have ha:dw ((List.range (k+1)).map f) (-1)=some (cP (cor s n (k+1)) (k+1)):=by
   rw[rP,iB];exact DA
  generalize (List.range (k+1)).map f=L at hl ha hnx;simp only[cS,dD,pub,wF,aC,aA,wN,w2,w1,wC,dO,fN,List.set_cons_succ,List.set_cons_zero];have eC:(2+(k:Int))=((k+2:Nat):Int):=by omega
  rw[eC];refine um h (show 1<=k+2 by omega) (show k+2<=n by omega) ?_;walk_at "st";refine⟨_,ha,?_⟩;have:=z9 (E:=No) (Q:=λd=>e8 d=true/\L.length<aO/\nx [.d (aN s),.ow (L++[d]),.d (.int ((k+2:Nat):Int))]) c (show 1<=k+1 by omega) gc ⟨Hq _ _,by rw[hl];unfold aO;omega,hnx _ ⟨_,rfl⟩⟩;rw[Gs.cor_cor (show k+2<=n by omega) (show k+1<=k+2 by omega) (by omega) h] at this;exact this
 .rintro _ ⟨s2,rfl⟩
  rw[show n-1+1=n by omega];dsimp only;exact q
def f7:Except Str D->D
 |.ok v=>v
 |.error e=>match d7 e with
  |some (_,_,k)=>.tup [.str (fM e),.int k]
  |none=>.str (fM e)
theorem Ni(h1:1<=k)(h5:k<=5):f7 (.error (kC k))=.tup [.str "strong",.int k]:=by
 show(match d7 (kC k) with|some (_,_,k')=>D.tup [.str (fM (kC k)),.int k']|none=>_)=_;rw[Hy h1 h5,Nb h1 h5]
theorem DQ{n:Str}(h:n∈LX):f7 (.error n)=.str (Cp n):=by
 have:∀n∈LX,d7 n=none:=by decide +kernel
 show(match d7 n with|some (_,_,k')=>D.tup [.str (fM n),.int k']|none=>_)=_;rw[this n h,Na n h]
namespace E8
section
variable{E:Ex->Prop}{x t:D}{r:List Int}{w:Nat}
end
end E8
end G.V9.W
theorem HD{x:D}(h:IsSl s n)(e:cy s n=[])(hp:p<n)(m:jR s n x (bF n p)=true):x=aK (fh (hZ s n) p):=by
 unfold jR at m;rw[cT,N7] at m;obtain⟨m1,m2⟩:=m;obtain⟨r,rfl,l⟩:=B3 m1;have l':r.length=n:=by omega
 rw[tD] at m2;congr 1;refine uJ l' (by rw[uu,(kT h e).1]) λk hk=>?_;rw[xF (by rw[(kT h e).1];exact hk)];refine(tP h e).uniq (X:=λk=>r.getD k 0) hp (λi hi=>?_) hk;rw[<-Zk h l' hi,m2,uD hi];rfl
theorem HE{x:D}(h:IsSl s n)(e:cy s n=[])(m:lN s n x=true):x=cP s n:=by
 have n1:=h.n1;cases x<;>try (cases m;done)
 rename_i xs
 match xs,m with
 |[a,b],m=>
  have m':(jR s n a (bF n 0)&&jR s n b (bF n (n-1)))=true:=m;rw[cT] at m';rw[HD h e (by omega) m'.1,HD h e (by omega) m'.2];rfl
namespace G.V9.W
theorem Hv:Rd xT tQ ZdU:=by
 rintro _ E Q ⟨⟨x,y⟩,rfl,⟨hk,hk2,hz⟩,q⟩;dsimp only at hk hk2 hz q;show tQ E _ [.d x,.d y,.un];unfold tQ;refine bH ?_;simp only[fQ,wF,aC,aA,wN,dO];cases e:fg x with
 |false=>exact xS.err x rfl hk (l7 e) (m6 e q)
 |true=>
 obtain⟨s,n,rfl,h⟩:=nV e;replace q:=m7 h q;rw[fX,h.sN] at q;cases ew:eh s n with
 |cons k l=>
  rw[yc ew] at q;exact Hz h ew q
 |nil=>
 have g:=(tO h).mp ew;rw[Ad h g] at q;have n1:=h.n1;refine xQ h g ?_;refine bH (LP.set_by (d:=.int n) (ρ':=[.d (aN s),.d y,.d (.int n)]) (by rfl) (λP hP=>?_) ?_)
 .walk_at "st"
  exact qx h hP
 dsimp only
 by_cases n0:n=1
 .rw[if_pos n0] at q
  refine bH (eE (b:=true) (λP hP=>?_) (λ_=>q) λe=>nomatch e);walk_at "st";rw[show((n:Int)==1)=true from by rw[n0];rfl];exact hP
 rw[if_neg n0] at q;obtain⟨m,rfl⟩:∃m,n=m+1:=⟨n-1,by omega⟩
 have m1:1<=m:=by omega
 have c:=gR h m1 (jl m);have ec:=(g.cor h m1 (jl m)).full c;rw[show m+1-1=m from rfl] at q;refine bH (eE (b:=false) (λP hP=>?_) (λe=>nomatch e) λ_=>?_)
 .walk_at "st"
  rw[show((((m+1:Nat):Int))==1)=false from by rw[Oo];omega];exact hP
 dsimp only;have cnd:∀P:Bool->Prop,P (!lN (cor s (m+1) m) m y)->bW (wT (wF uz (aC (wF mY (aC (wN 0) (aC (w2 fH (wN 2) (wC (D.int (1)))) aA))) (aC (wN 1) aA)))) E [.d (aN s),.d y,.d (.int ((m+1:Nat):Int))] P:=λP hP=>by
  walk_at "st";rw[show(((m+1:Nat):Int)-1)=(m:Int) by omega];exact um h m1 (jl m) (GB c hk2 hz hP)
 by_cases t:lN (cor s (m+1) m) m y=true
 .rw[if_pos t] at q
  have ey:=HE c ec t;subst ey;refine bH (eE (b:=false) (λP hP=>cnd P (by rw[t];exact hP)) (λe=>nomatch e) λ_=>?_);dsimp only;walk_at "st";exact z9 h m1 g q
 .rw[if_neg t] at q
  exact bH (eE (b:=true) (λP hP=>cnd P (by rw[Bool.not_eq_true _ |>.mp t];exact hP)) (λ_=>q) λe=>nomatch e)
end G.V9.W
namespace G.V9.W.E7
mutual
def io:D->Bool
 |.non=>true
 |.int _=>true
 |.tup xs=>qE xs
 |.lst xs=>qE xs
 |_=>false
def qE:List D->Bool
 |[]=>true
 |x::r=>io x&&qE r
end
def uN(x:D):Except Str D:=gQ x (mm (sI x) (sN x) (.ok (nq (sI x) (sN x))))
def rD(x y:D):Except Str D:=gQ x (mm (sI x) (sN x) (if sN x=1 then .error "NoNumber" else if lN (cor (sI x) (sN x) (sN x-1)) (sN x-1) y=true then .ok (cP (sI x) (sN x)) else .error "NoRow"))
def kU(w:Nat)(x y:D):Except Str D:=if w=0 then qC x else if w=1 then uN x else rD x y
def nu:bK:=fnS (λa:Nat×D×D=>[.int a.1,a.2.1,a.2.2]) (λa=>kd a.2.1=true/\kd a.2.2=true/\dW 300 a.2.2=true) λa=>f7 (kU a.1 a.2.1 a.2.2)
def Af:bK:=fnS (λx:SL=>[aN x.1]) (λx=>IsSl x.1 x.2/\Stg x.1 x.2) λx=>nq x.1 x.2
def Ag:bK:=rlS (λx:SL=>[cP x.1 x.2,.pen]) (λx=>IsSl x.1 x.2/\cy x.1 x.2=[]) λ_ d=>kd d=true/\dW 300 d=true/\dX d 60=true/\io d=true
def tR:bK:=fnS (λa:SL=>[aN a.1,.pen]) (λa=>IsSl a.1 a.2) λ_=>.bl true
def yg:bK:=fnS (λns:List Int=>[.scr (ns.map .int)]) (λns=>ns.length<=63) λ_=>.bl true
section
variable{E:Ex->Prop}{x:D}{r:List Int}{w:Nat}
theorem rE(h1:kd x=true)(h2:kd y=true)(h3:dW 300 y=true)(q:Q (f7 (kU w x y))):nu [.int w,x,y] E Q:=⟨(w,x,y),rfl,⟨h1,h2,h3⟩,q⟩
def Nj(h:IsSl s n)(g:Stg s n)(q:Q (nq s n)):Af [aN s] E Q:=⟨(s,n),rfl,⟨h,g⟩,q⟩
theorem Nk(h:IsSl s n)(g:cy s n=[])(q:∀d,kd d=true->dW 300 d=true->dX d 60=true->io d=true->Q d):Ag [cP s n,.pen] E Q:=⟨(s,n),rfl,⟨h,g⟩,λd ⟨a,b,c,e⟩=>q d a b c e⟩
def Ah(h:IsSl s n)(q:Q (.bl true)):tR [aN s,.pen] E Q:=⟨(s,n),rfl,h,q⟩
theorem Nl{e:Str}(h:kU w x y=.error e):e∈LX5:=by
 unfold kU qC uN rD gQ at h;have ns:∀{v:Except Str D} {s:List Int} {n:Nat},IsSl s n->(∀e,v=.error e->e∈LX5)->∀e,mm s n v=.error e->e∈LX5:=λ{v s n} hs hv e he=>by
  unfold mm at he;split at he
  .exact hv e he
  .rename_i k r ew
   obtain⟨k1,kn,_⟩:=xV hs ew;cases he;exact M9 k1 (by have:=hs.n5;omega)
 by_cases g:fg x=true
 .obtain⟨s,n,rfl,hs⟩:=nV g
  rw[if_pos g,if_pos g,if_pos g,fX,hs.sN] at h;split at h
  .cases h
  .split at h
   .exact ns hs (λe he=>by cases he) e h
   .refine ns hs (λe he=>?_) e h
    split at he
    .cases he;simp
    .split at he
     .cases he
     .cases he;simp
 .rw[if_neg g,if_neg g,if_neg g] at h
  have:Except.error (α:=D) ("NoSlants" : Str)=.error e:=by
   split at h
   .exact h
   .split at h<;>exact h
  cases this;simp
end
abbrev ZhI:List Str:=["_law_way", "_law_slants", "_law_step", "_law_e"]
def DR:WS:=(fK LX5 4 3 (aI (cL (wT (w2 (gEq false) (wN 0) (wC (D.int (0))))) (aM (wF xO (aC (wN 1) aA))) cO) (aM (jK (wT (w2 (gEq false) (wN 0) (wC (D.int (1))))) (wF DL (aC (wN 1) aA)) (wF xT (aC (wN 1) (aC (wN 2) aA)))))) (aI (cL (wT (wB (gIsX LX5 MX) (aC (wN 3) (aC (wC (.cls (PySem.Str.ofString "NotStrong"))) aA)))) (aM (aZ (aC (wF ye (aC (wN 3) aA)) (aC (w1 (yb (PySem.Str.ofString "NotStrong") (PySem.Str.ofString "size")) (wN 3)) aA)))) cO) (aM (wF ye (aC (wN 3) aA)))))
abbrev ZgB:List Str:=["_law_slants", "_law_found", "_law_k", "_law_part"]
def DS:WS:=(aI (cH 1 (bL aA)) (aI (bJ (bN (gP (aC (wC (D.int (1))) (aC (w2 gAdd (w2 fc (w2 gAdd (wB bX (aC (wN 0) aA)) (wC (D.int (1)))) (wC (D.int (2)))) (wC (D.int (1)))) aA))) (gN 2) (aI (aR 3 (wF uM (aC (wN 0) (aC (wN 2) aA)))) (cS 1 (aZ (aC (wF rC (aC (wN 3) (aC (wF tL (aC (wN 2) (aC (wC (D.int (0))) aA))) aA))) (aC (wF rC (aC (wN 3) (aC (wF tL (aC (wN 2) (aC (w2 fH (wN 2) (wC (D.int (1)))) aA))) aA))) aA))))))) (de 1 (aM (wN 1)))))
abbrev ZhL:List Str:=["_law_step", "_law_pen", "_law_side", "_law_row", "_law_spot", "_law_odd", "_law_bent_here", "_law_some"]
def DT:WS:=(aI (aR 2 (wF kS (aC (wN 1) (aC (wC (D.int (2))) aA)))) (aI (aR 3 (w2 gIx (wN 0) (wN 2))) (aI (aR 4 (wF kS (aC (wN 1) (aC (wB bX (aC (wN 3) aA)) aA)))) (aI (aR 5 (w2 gIx (wL (bL (aC (aZ (aC (w2 gAdd (w2 gIx (w2 gIx (wN 3) (wN 4)) (wC (D.int (0)))) (w2 gIx (w2 gIx (wN 3) (wN 4)) (wC (D.int (1))))) (aC (w2 gIx (w2 gIx (wN 3) (wN 4)) (wC (D.int (1)))) aA))) (aC (aZ (aC (wC (D.int (2))) (aC (wC (D.int (4))) aA))) (aC (wC D.non) (aC (wC (D.int (1))) (aC (aZ (aC (wC (D.int (1))) (aC (wC (D.int (0))) aA))) aA))))))) (wF kS (aC (wN 1) (aC (wC (D.int (5))) aA))))) (aI (aR 6 (w2 gAdd (w2 gAdd (bU (wN 3) eZ (dJ (wN 4))) (aZ (aC (wN 5) aA))) (bU (wN 3) (dJ (w2 gAdd (wN 4) (wC (D.int (1))))) eZ))) (aI (aR 7 (wL (bL (aC (aZ (aC (wN 6) (aC (w2 gIx (wN 0) (wC (D.int (1)))) aA))) (aC (aZ (aC (w2 gIx (wN 0) (wC (D.int (0)))) (aC (wN 6) aA))) (aC (aZ (aC (w2 gIx (wN 0) (wC (D.int (0)))) aA)) (aC (wL (aB (fW (α:=Unit)) (aC (wN 0) aA))) (aC (aZ (aC (w2 gIx (wN 0) (wC (D.int (0)))) (aC (w2 gIx (wN 0) (wC (D.int (1)))) (aC (wN 3) aA)))) aA)))))))) (aI (aR 7 (w2 gAdd (wN 7) (wL (bL (aC (aZ (aC (wL (aB (fW (α:=Unit)) (aC (wN 3) aA))) (aC (w2 gIx (wN 0) (wC (D.int (1)))) aA))) (aC (wC D.non) aA)))))) (aM (w2 gIx (w2 gAdd (wN 7) (wL (bL (aC (wC (D.int (0))) (aC (aZ (aC (w2 gAdd (wN 3) (bU (wN 3) eZ (dJ (wC (D.int (1)))))) (aC (wN 3) aA))) (aC (aZ (aC (wN 3) (aC (wC D.non) aA))) aA)))))) (wF kS (aC (wN 1) (aC (wC (D.int (10))) aA))))))))))))
abbrev ZgD:List Str:=["_law_slants", "_law_pen", "_law_weak_here", "_law_due", "_law_turn", "_law_found", "_law_bent_here"]
def DU:WS:=(aI (aR 2 (wF xU (aC (wN 0) aA))) (aI (cL (wT (w2 gNeS (wB Zfl (aC (wF nu (aC (wC (D.int (0))) (aC (wN 0) (aC (wC D.non) aA)))) aA)) (wB Zfl (aC (wN 2) aA)))) (aM (wC (D.bl false))) cO) (aI (cL (wT (w2 (gIsC true) (wN 2) (wC D.non))) (aM (gC (w2 (gEq false) (wF nu (aC (wC (D.int (1))) (aC (wN 0) (aC (wC D.non) aA)))) (aZ (aC (wC (D.str (PySem.Str.ofString "strong"))) (aC (wN 2) aA)))) (w2 (gEq false) (wF nu (aC (wC (D.int (2))) (aC (wN 0) (aC (wC D.non) aA)))) (aZ (aC (wC (D.str (PySem.Str.ofString "strong"))) (aC (wN 2) aA)))))) cO) (aI (aR 3 (wF Af (aC (wN 0) aA))) (aI (bJ (bN (gh (aC (wC (D.int (2))) aA)) (gN 4) (aI (cH 5 (aF yf (aC (wN 0) aA))) (aI (cL (eQ 5 (wT (w2 gNeS (wB Zfl (aC (wN 5) aA)) (wB Zfl (aC (wN 3) aA))))) (aM (wC (D.bl false))) cO) (cS 5 (wC (D.int (0)))))))) (aI (cL (wT (w2 (gEq false) (wB bX (aC (wN 3) aA)) (wC (D.int (1))))) (aM (gC (w2 (gEq false) (wF nu (aC (wC (D.int (2))) (aC (wN 0) (aC (wC D.non) aA)))) (wC (D.str (PySem.Str.ofString "number")))) (w2 (gEq false) (wF nu (aC (wC (D.int (2))) (aC (wN 0) (aC (w2 gIx (wN 3) (wC (D.int (0)))) aA)))) (wC (D.str (PySem.Str.ofString "number")))))) cO) (aI (cL (wT (w2 gNeS (wB Zfl (aC (wF nu (aC (wC (D.int (2))) (aC (wN 0) (aC (w2 gIx (wN 3) (w1 ff (wC (D.int (2))))) aA)))) aA)) (wB Zfl (aC (w2 gIx (wN 3) (w1 ff (wC (D.int (1))))) aA)))) (aM (wC (D.bl false))) cO) (aI (bJ (bN (gh (aC (wC (D.int (3))) aA)) (gN 4) (aI (aR 6 (wF Ag (aC (w2 gIx (wN 3) (w1 ff (wC (D.int (2))))) (aC (wN 1) aA)))) (cL (wT (w2 gNeS (wB Zfl (aC (wF nu (aC (wC (D.int (2))) (aC (wN 0) (aC (wN 6) aA)))) aA)) (wB Zfl (aC (jK (wT (w2 (gEq false) (wN 6) (w2 gIx (wN 3) (w1 ff (wC (D.int (2))))))) (w2 gIx (wN 3) (w1 ff (wC (D.int (1))))) (wC (D.str (PySem.Str.ofString "row")))) aA)))) (aM (wC (D.bl false))) cO)))) (aM (wC (D.bl true)))))))))))
abbrev HF:List Str:=["_law_script", "_law_cell", "_law_pen", "_law_slants", "_law_bad"]
def Ai:WS:=(aI (cL (gB (bW (wT (wF tR (aC (aZ (aC (wC (D.int (1))) aA)) (aC (wF uq (aC (wC (D.int (0))) aA)) aA))))) (bW (wT (wF tR (aC (aZ (aC (wC (D.int (0))) aA)) (aC (wF uq (aC (wC (D.int (0))) aA)) aA)))))) (aM (wC (D.bl false))) cO) (aI (bJ (bN (iS (w2 gAdd (wL (bL (aC (wF zx (aC (wN 0) (aC (wC (D.int (0))) aA))) aA))) (bU (wN 0) (dJ (wC (D.int (1)))) (dJ (wC (D.int (4))))))) (gN 1) (aI (aR 2 (wF uq (aC (wN 1) aA))) (aI (aR 3 (wF w4 (aC (wN 2) aA))) (aI (cL (gB (bW (wT (wF tR (aC (wN 3) (aC (wN 2) aA))))) (bW (wT (wF tR (aC (wF Ab (aC (wN 2) aA)) (aC (wN 2) aA)))))) (aM (wC (D.bl false))) cO) (aI (aR 4 (wF zD (aC (wN 2) (aC (wN 3) aA)))) (cL (eY (bW (wT (wF zE (aC (wN 4) aA)))) (wT (w2 (gEq true) (wL (aLC (gh (aC (wC (D.int (3))) aA)) 1 [4] (gN 0) dL (wF nu (aC (wN 0) (aC (wN 1) (aC (wC D.non) aA)))))) (w2 gMul (wL (bL (aC (wC (D.str (PySem.Str.ofString "slants"))) aA))) (wC (D.int (3))))))) (aM (wC (D.bl false))) cO))))))) (aM (wC (D.bl true)))))
end G.V9.W.E7
namespace G.V9.W.E8
theorem lx5_row:∀n∈LX5,(gb n == "NotStrong")=true->∃k,d7 n=some (("NotStrong" : Str),("size" : Str),k):=λn hn=>by
 simp only[LX5,Yao,dh,or_false] at hn;rcases hn with rfl|rfl|rfl|rfl|rfl|rfl|rfl|rfl|rfl|rfl|rfl
 all_goals first|(intro h;exact N6 h (by decide +kernel))|exact λ_=>⟨1,by decide +kernel⟩|exact λ_=>⟨2,by decide +kernel⟩|exact λ_=>⟨3,by decide +kernel⟩|exact λ_=>⟨4,by decide +kernel⟩|exact λ_=>⟨5,by decide +kernel⟩
theorem lx5_none:∀n∈LX5,(gb n == "NotStrong")=false->d7 n=none:=λn hn=>by
 simp only[LX5,Yao,dh,or_false] at hn;rcases hn with rfl|rfl|rfl|rfl|rfl|rfl|rfl|rfl|rfl|rfl|rfl
 all_goals first|(intro h;exact N6 h (by decide +kernel))|exact λ_=>by decide +kernel
end G.V9.W.E8
namespace G.V9.W.E7
theorem Nm:Rd nu DR ZhI:=by
 rintro _ E Q ⟨⟨w,x,y⟩,rfl,⟨h1,h2,h3⟩,q⟩;dsimp only at h1 h2 h3 q;show DR E _ [.d (.int w),.d x,.d y,.un];unfold DR;simp only[fK];refine⟨λex=>ex∈LX5/\Q (f7 (.error ex)),λex ⟨he,hq⟩=>⟨he,?_⟩,?_⟩
 .unfold uo
  show aI _ _ _ _ [.un,.un,.un,.d (.exc ex)];cases e:gb ex == "NotStrong" with
  |true=>
   obtain⟨k,ek⟩:=E8.lx5_row ex he e;refine bH (eE (b:=true) (λP hP=>?_) (λ_=>?_) λe=>nomatch e)
   .walk_at "st"
    refine nr he (by simp) ?_;rw[show(gb ex==PySem.Str.ofString "NotStrong")=true from e];exact hP
   .walk_at "st"
    refine HC he ?_;refine⟨k,ek,by decide,?_⟩;have:f7 (.error ex)=.tup [.str (fM ex),.int k]:=by
     show(match d7 ex with|some (_,_,k')=>D.tup [.str (fM ex),.int k']|none=>_)=_;rw[ek]
    rw[this] at hq;exact hq
  |false=>
   have ek:=E8.lx5_none ex he e;refine bH (eE (b:=false) (λP hP=>?_) (λe=>nomatch e) λ_=>?_)
   .walk_at "st"
    refine nr he (by simp) ?_;rw[show(gb ex==PySem.Str.ofString "NotStrong")=false from e];exact hP
   .walk_at "st"
    refine HC he ?_;have:f7 (.error ex)=.str (fM ex):=by
     show(match d7 ex with|some (_,_,k')=>D.tup [.str (fM ex),.int k']|none=>_)=_;rw[ek]
    rw[this] at hq;exact hq
 .have ans:∀{v:Except Str D},kU w x y=v->exQ (λex=>ex∈LX5/\Q (f7 (.error ex))) Q v:=λ{v} e=>by
   cases v with
   |ok d=>
    rw[e] at q;exact q
   |error ex=>
    rw[e] at q;exact⟨Nl e,q⟩
  by_cases w0:w=0
  .subst w0
   refine bH (eE (b:=true) (λP hP=>?_) (λ_=>?_) λe=>nomatch e)
   .walk_at "st"
    exact hP
   .walk_at "st"
    exact⟨x,rfl,h1,ans (v:=qC x) rfl⟩
  .refine bH (eE (b:=false) (λP hP=>?_) (λe=>nomatch e) λ_=>?_)
   .walk_at "st"
    rw[show((w:Int)==0)=false from by rw[Oo];omega];exact hP
   .by_cases w1:w=1
    .subst w1
     walk_at "st";exact⟨x,rfl,h1,ans (v:=uN x) rfl⟩
    .walk_at "st"
     rw[show((w:Int)==1)=false from by rw[Oo];omega];simp only[eG,if_false];refine⟨(x,y),rfl,⟨h1,h2,h3⟩,ans (v:=rD x y) ?_⟩;unfold kU;rw[if_neg w0,if_neg w1]
theorem HG(hm:m<n):(pD n p).getD m 0=if m=p then 1 else 0:=by
 unfold pD;rw[aY,cA,iA hm];simp only[tT,Option.getD_some]
 by_cases e:m=p
 .subst e;rw[if_pos rfl,if_pos rfl]
 .rw[if_neg (by omega),if_neg e]
theorem HH(h:IsSl s n)(e:cy s n=[])(hp:p<n):solF s n (pD n p)=fh (hZ s n) p:=by
 refine uJ (n:=n) (Hg _) (by rw[uu,(kT h e).1]) λk hk=>?_;rw[Hh hk,xF (by rw[(kT h e).1];exact hk),kA (k:=p) hp (λm hm hne=>by rw[HG hm,if_neg hne];exact jn _),HG hp,if_pos rfl];exact rO _
theorem Nn:Rd Af DS ZgB:=by
 rintro _ E Q ⟨⟨s,n⟩,rfl,⟨h,g⟩,q⟩;dsimp only at h g q;have n1:=h.n1;have n5:=h.n5;have hl:=h.len;show DS E _ [.d (aN s),.un,.un,.un];unfold DS;refine bH (LP.own_by (xs:=[]) (ρ':=[.d (aN s),.ow [],.un,.un]) rfl (λP h=>⟨by decide,h⟩) ?_);dsimp only;refine bH ?_;simp only[bJ,bN];unfold aN;walk_at "st";refine⟨⟨by decide,B.C.bd_of (b:=3) (by decide) (by decide)⟩,?_⟩;rw[bP,show((s.length:Int)+1).fdiv 2=n from by rw[uV _ (by decide)];omega];refine⟨by omega,?_⟩;rw[show((n:Int)+1-1).toNat=n by omega];change ZbS _ _ _ _ _ [.d (aN s),.ow [],.un,.un];refine zN 1 (λk ρ=>∃s2 s3,ρ=[.d (aN s),.ow ((List.range k).map λk=>cP (cor s n (k+1)) (k+1)),s2,s3]) n ?_ ?_ _ ⟨_,_,rfl⟩
 .rintro k hk _ ⟨s2,s3,rfl⟩ nx hnx
  simp only[gN,List.set_cons_succ,List.set_cons_zero];have c:=gR h (show 1<=k+1 by omega) (show k+1<=n by omega);have fe:=g (k+1) (by omega) (by omega);rw[show(1+(k:Int))=((k+1:Nat):Int) by omega];refine bH (LP.set_by (d:=aN (cor s n (k+1))) (ρ':=[.d (aN s),.ow ((List.range k).map λk=>cP (cor s n (k+1)) (k+1)),.d (.int ((k+1:Nat):Int)),.d (aN (cor s n (k+1)))]) rfl (λP hP=>?_) ?_)
  .walk_at "st"
   exact Ht h (show 1<=k+1 by omega) (show k+1<=n by omega) hP
  dsimp only;refine G.app_by (xs:=(List.range k).map λk=>cP (cor s n (k+1)) (k+1)) (d:=cP (cor s n (k+1)) (k+1)) rfl (by simp[aO];omega) rfl (λP hP=>?_) (hnx _ ⟨_,_,by rw[rP,iB];rfl⟩);walk_at "st";refine C3 (n:=k+1) (k:=0) (by omega) ?_;refine DC c (DI _ _) DJ ?_;rw[show(((k+1:Nat):Int)-1)=((k:Nat):Int) by omega];refine C3 (n:=k+1) (k:=k) (by omega) ?_;refine DC c (DI _ _) DJ ?_;unfold lP;rw[if_pos fe,if_pos fe,HH c fe (by omega),HH c fe (by omega)];exact⟨by decide,hP⟩
 .rintro _ ⟨s2,s3,rfl⟩
  exact q
structure B4(k:Nat)(x:D):Prop where
 d:kd x=true
 z:dW 300 x=true
 o:dX x k=true
 i:io x=true
theorem DV:∀{xs:List D},(∀x∈xs,io x=true)->qE xs=true
 |[],_=>by rw[qE]
 |x::r,h=>by rw[qE,h x (by simp),DV λy hy=>h y (by simp[hy])];rfl
theorem B4.tup{k:Nat}{xs:List D}(hl:xs.length<=50)(h:∀x∈xs,B4 k x):B4 (k+1) (.tup xs):=⟨kP (by omega) λx hx=>(h x hx).d,by rw[dW,ut];exact λx hx=>(h x hx).z,zg λx hx=>(h x hx).o,by rw[io];exact DV λx hx=>(h x hx).i⟩
theorem B4.lst{k:Nat}{xs:List D}(hl:xs.length<=50)(h:∀x∈xs,B4 k x):B4 (k+1) (.lst xs):=⟨Fj (by omega) λx hx=>(h x hx).d,by rw[dW,ut];exact λx hx=>(h x hx).z,Fc λx hx=>(h x hx).o,by rw[io];exact DV λx hx=>(h x hx).i⟩
theorem B4.int{k:Nat}{i:Int}(h:i.natAbs<2^300):B4 k (.int i):=⟨by rw[kd],by rw[dW];exact N9 h,BW _ _,by rw[io]⟩
def B4.non{k:Nat}:B4 k .non:=⟨by rw[kd],by rw[dW]<;>simp,by rw[dX],by rw[io]⟩
theorem B4.two{a b:Int}(ha:a.natAbs<2^300)(hb:b.natAbs<2^300):B4 (k+1) (.tup [.int a,.int b]):=B4.tup (by simp) λx hx=>by
 simp only[Yao,dh,or_false] at hx;rcases hx with rfl|rfl
 .exact .int ha
 .exact .int hb
theorem B4.shq{k:Nat}{q:Rat}(h:Sz 50 q):B4 (k+1) (LP.shq q):=B4.two (cW h.1 (jH (by decide) (by decide))) (by rw[kZ];exact cW h.2 (jH (by decide) (by decide)))
theorem Np:Rd Ag DT ZhL:=by
 rintro _ E Q ⟨⟨s,n⟩,rfl,⟨h,e⟩,q⟩;dsimp only at h e q;have n1:=h.n1;have n5:=h.n5;replace q:∀d,B4 60 d->Q d:=λd hd=>q d ⟨hd.d,hd.z,hd.o,hd.i⟩;have lf:=lO h e;have ll:=nh h e;have zf:=xM h e;have zl:=xN h e;generalize hf:dF s n=f at *;generalize hL:eU s n=l at *;show DT E _ [.d (cP s n),.d .pen,.un,.un,.un,.un,.un,.un];unfold cP;rw[hf,hL];clear hf hL;unfold DT;have zz:∀r:List Rat,r=f\/r=l->r.length=n/\∀y∈r,Sz 50 y:=λr hr=>by rcases hr with rfl|rfl;exact⟨lf,zf⟩;exact⟨ll,zl⟩
 refine bH (LP.set_rl (λd=>∃k:Nat,k<2/\d=.int k) (λP hP=>?_) ?_)
 .walk_at "st"
  exact m9 (n:=2) (by decide) (by decide) λk hk=>hP _ ⟨k,hk,rfl⟩
 rintro _ ⟨k,hk,rfl⟩;dsimp only[List.set_cons_succ,List.set_cons_zero];refine bH (LP.set_rl (λd=>∃r,(r=f\/r=l)/\d=aK r) (λP hP=>?_) ?_)
 .walk_at "st"
  match k,hk with
  |0,_=>exact⟨_,rfl,hP _ ⟨f,.inl rfl,rfl⟩⟩
  |1,_=>exact⟨_,rfl,hP _ ⟨l,.inr rfl,rfl⟩⟩
 rintro _ ⟨r,hr,rfl⟩;obtain⟨lr,zr⟩:=zz r hr;clear hr;dsimp only[List.set_cons_succ,List.set_cons_zero];refine bH (LP.set_rl (λd=>∃k:Nat,k<n/\d=.int k) (λP hP=>?_) ?_)
 .unfold aK
  walk_at "st";rw[bP,lr];exact m9 (n:=n) (by omega) (by omega) λk hk=>hP _ ⟨k,hk,rfl⟩
 rintro _ ⟨j,hj,rfl⟩;dsimp only[List.set_cons_succ,List.set_cons_zero];obtain⟨y,hy⟩:∃y,r[j]? = some y:=⟨_,bR (by omega)⟩
 have zy:=zr y (iz hy);have y1:=zy.1;have y2:=zy.2;have up:∀i:Int,i.natAbs<2^60->i.natAbs<2^300:=λi hi=>cW hi (jH (by decide) (by decide));refine bH (LP.set_rl (B4 58) (λP hP=>?_) ?_)
 .unfold aK
  walk_at "st";have ay:dw (r.map shq) (j:Int)=some (shq y):=bS (by rw[cA,hy];rfl);refine⟨shq y,ay,⟨.int y.num,rfl,shq y,ay,⟨.int y.den,rfl,shq y,ay,⟨.int y.den,rfl,by decide,by decide,by decide,by decide,m9 (n:=5) (by decide) (by decide) λk5 hk5=>?_⟩⟩⟩⟩;have yd:((y.den:Int)).natAbs<2^60:=by rw[kZ];exact cW y2 (jH (by decide) (by decide))
  have yn:(y.num+(y.den:Int)).natAbs<2^60:=by
   have:(y.num+(y.den:Int)).natAbs<=y.num.natAbs+y.den:=by omega
   exact pG this (by omega)
  obtain ⟨d,hd,hB⟩:=zF (P:=B4 58) (xs:=[D.tup [.int (y.num+(y.den:Int)),.int y.den],D.tup [.int 2,.int 4],.non,.int 1,D.tup [.int 1,.int 0]]) (k:=k5) (by simpa using hk5) (by
   intro x hx;simp only[Yao,dh,or_false] at hx;rcases hx with rfl|rfl|rfl|rfl|rfl
   .exact .two (up _ yn) (up _ yd)
   .exact .two (up _ (by decide)) (up _ (by decide))
   .exact .non
   .exact .int (up _ (by decide))
   .exact .two (up _ (by decide)) (up _ (by decide)))
  exact⟨d,hd,hP d hB⟩
 intro odd hodd;dsimp only[List.set_cons_succ,List.set_cons_zero];have hxq:∀r:List Rat,(∀y∈r,Sz 50 y)->∀x∈r.map shq,B4 58 x:=λr hz x hx=>by
  obtain⟨q,hq,rfl⟩:=YbU.mp hx;exact .shq (hz q hq)
 have row:∀r:List Rat,r.length=n->(∀y∈r,Sz 50 y)->B4 59 (aK r):=λr hl hz=>.tup (by simp;omega) (hxq r hz);refine bH (LP.set_rl (B4 59) (λP hP=>?_) ?_)
 .have ct:=B.cut_two (r.map shq) j
  rw[bP] at ct;unfold aK;walk_at "st";refine⟨by decide,gS (by omega),gS (by simp;omega),hP _ (.tup (by simp;omega) λx hx=>?_)⟩;simp only[Yap,Yao,dh,or_false] at hx;rcases hx with(hx|rfl)|hx
  .exact hxq r zr x (B.mem_cut hx)
  .exact hodd
  .exact hxq r zr x (B.mem_cut hx)
 intro T hT;dsimp only[List.set_cons_succ,List.set_cons_zero];have rf:=row f lf zf;have rl:=row l ll zl;have rr:=row r lr zr;refine bH (LP.set_rl (λd=>∃xs,d=.lst xs/\xs.length=5/\∀x∈xs,B4 60 x) (λP hP=>?_) ?_)
 .walk_at "st"
  refine⟨_,rfl,by decide,_,rfl,by decide,_,rfl,by decide,_,rfl,_,rfl,by decide,by decide,hP _ ⟨_,rfl,rfl,?_⟩⟩;intro x hx;simp only[Yao,dh,or_false] at hx;rcases hx with rfl|rfl|rfl|rfl|rfl
  .exact .tup (by simp) (by simp[hT,rl])
  .exact .tup (by simp) (by simp[hT,rf])
  .exact .tup (by simp) (by simp[rf])
  .exact .lst (by simp) (by simp[rf,rl])
  .exact .tup (by simp) (by simp[rf,rl,rr])
 rintro _ ⟨xs,rfl,hxl,hxs⟩;dsimp only[List.set_cons_succ,List.set_cons_zero];refine bH (LP.set_rl (λd=>∃xs,d=.lst xs/\xs.length=7/\∀x∈xs,B4 60 x) (λP hP=>?_) ?_)
 .unfold aK
  walk_at "st";refine⟨_,rfl,by decide,by decide,gS (by omega),hP _ ⟨_,rfl,by simp[hxl],λx hx=>?_⟩⟩;rcases Yap.mp hx with hx|hx
  .exact hxs x hx
  simp only[Yao,dh,or_false] at hx;rcases hx with rfl|rfl
  .refine .tup (by simp) λx hx=>?_
   simp only[Yao,dh,or_false] at hx;rcases hx with rfl|rfl
   .exact .lst (by simp;omega) (hxq r zr)
   .exact rl
  .exact .non
 rintro _ ⟨ys,rfl,hyl,hys⟩;dsimp only[List.set_cons_succ,List.set_cons_zero];unfold aK;walk_at "st";have c1:=zG (xs:=r.map shq) (a:=none) (b:=some 1);rw[bP] at c1;refine⟨gS (by simp;omega),by decide,by decide,by decide,gS (by omega),m9 (n:=10) (by decide) (by decide) λk10 hk10=>?_⟩;obtain ⟨d,hd,hB⟩:=zF (P:=B4 60) (xs:=ys++[D.int 0,D.tup [D.tup (r.map shq++bA (r.map shq) none (some 1)),D.tup (r.map shq)],D.tup [D.tup (r.map shq),D.non]]) (k:=k10) (by simp [hyl];omega) (by
  intro x hx;rcases Yap.mp hx with hx|hx
  .exact hys x hx
  simp only[Yao,dh,or_false] at hx;rcases hx with rfl|rfl|rfl
  .exact .int (up _ (by decide))
  .refine .tup (by simp) λx hx=>?_
   simp only[Yao,dh,or_false] at hx;rcases hx with rfl|rfl
   .refine .tup (by simp;omega) λx hx=>?_
    rcases Yap.mp hx with hx|hx
    .exact hxq r zr x hx
    .exact hxq r zr x (B.mem_cut hx)
   .exact rr
  .refine .tup (by simp) λx hx=>?_
   simp only[Yao,dh,or_false] at hx;rcases hx with rfl|rfl
   .exact rr
   .exact .non)
 exact⟨d,hd,q d hB⟩
end G.V9.W.E7
namespace G.V9.W.E8
def kdn:kd .non=true:=by rw[kd]
end G.V9.W.E8
namespace G.V9.W.E7
mutual
theorem HI:∀x y:D,io x=true->io y=true->gE x y=true->x=y
 |.non,y,_,hy,h=>by cases y<;>first|rfl|(simp[io] at hy;done)|(simp[gE,pd,PyData.eqv] at h;done)
 |.int i,y,_,hy,h=>by cases y<;>first|(simp[io] at hy;done)|(simp[gE,pd,PyData.eqv] at h;done)|(simp[gE,pd,PyData.eqv] at h;rw[h])
 |.tup xs,y,hx,hy,h=>by
  cases y with
  |tup ys=>
   rw[io] at hx hy;unfold gE at h;rw[pd,pd,PyData.eqv] at h;rw[DW xs ys hx hy h]
  |_=>first|(simp[io] at hy;done)|(simp[gE,pd,PyData.eqv] at h;done)
 |.lst xs,y,hx,hy,h=>by
  cases y with
  |lst ys=>
   rw[io] at hx hy;unfold gE at h;rw[pd,pd,PyData.eqv] at h;rw[DW xs ys hx hy h]
  |_=>first|(simp[io] at hy;done)|(simp[gE,pd,PyData.eqv] at h;done)
 |.bl _,_,hx,_,_=>by simp[io] at hx
 |.str _,_,hx,_,_=>by simp[io] at hx
 |.dic,_,hx,_,_=>by simp[io] at hx
 |.pen,_,hx,_,_=>by simp[io] at hx
 |.cls _,_,hx,_,_=>by simp[io] at hx
 |.exc _,_,hx,_,_=>by simp[io] at hx
 |.ty _,_,hx,_,_=>by simp[io] at hx
 |.scr _,_,hx,_,_=>by simp[io] at hx
theorem DW:∀xs ys:List D,qE xs=true->qE ys=true->PyData.eqvAll (fu xs) (fu ys)=true->xs=ys
 |[],[],_,_,_=>rfl
 |[],_::_,_,_,h=>by simp[fu,PyData.eqvAll] at h
 |_::_,[],_,_,h=>by simp[fu,PyData.eqvAll] at h
 |x::xs,y::ys,hx,hy,h=>by
  rw[qE,cT] at hx hy;rw[fu,fu,PyData.eqvAll,cT] at h;rw[HI x y hx.1 hy.1 h.1,DW xs ys hx.2 hy.2 h.2]
end
theorem HJ(h:IsSl s n)(e:cy s n=[]):B.C.bx 7 (cP s n) (k+3)=true:=by
 refine B.C.bx_tup (by simp) λx hx=>?_;simp only[Yao,dh,or_false] at hx;have n5:=h.n5;rcases hx with rfl|rfl
 .exact B.C.bx_rowq (by decide) (by rw[lO h e];omega) λy hy=>(xM h e y hy).mono (by decide)
 .exact B.C.bx_rowq (by decide) (by rw[nh h e];omega) λy hy=>(xN h e y hy).mono (by decide)
def HK(s:List Int)(n:Nat):iw (cP s n)=true:=by
 unfold cP;rw[iw,gH,gH,gH,zK,zK];rfl
def Nq(s:List Int)(n:Nat):dl (cP s n)=true:=by unfold dl;rw[HK];simp
theorem HL(h:IsSl s n)(e:cy s n=[]):B4 60 (cP s n):=by
 have n5:=h.n5;refine .tup (by simp) λx hx=>?_;simp only[Yao,dh,or_false] at hx;rcases hx with rfl|rfl
 .refine .tup (by rw[bP,lO h e];omega) λy hy=>?_
  obtain⟨q,hq,rfl⟩:=YbU.mp hy;exact .shq (xM h e q hq)
 .refine .tup (by rw[bP,nh h e];omega) λy hy=>?_
  obtain⟨q,hq,rfl⟩:=YbU.mp hy;exact .shq (xN h e q hq)
theorem DX(h:IsSl s n)(g:Stg s n):kU 2 (aN s) y=if n=1 then .error "NoNumber" else if lN (cor s n (n-1)) (n-1) y=true then .ok (cP s n) else .error "NoRow" :=by
 show rD (aN s) y=_;unfold rD;rw[jO h,fX,h.sN,Ad h g]
theorem Nr:Rd tR DU ZgD:=by
 rintro _ E Q ⟨⟨s,n⟩,rfl,h,q⟩;dsimp only at h q;have n1:=h.n1;have n5:=h.n5;show DU E _ [.d (aN s),.d .pen,.un,.un,.un,.un,.un];unfold DU;refine bH (LP.set_by (d:=qB (eh s n)) (ρ':=[.d (aN s),.d .pen,.d (qB (eh s n)),.un,.un,.un,.un]) (by rfl) (λP hP=>?_) ?_)
 .walk_at "st"
  exact DD h hP
 dsimp only;have bw:B.C.bx 7 (qB (eh s n)) 1=true/\dl (qB (eh s n))=true:=by
  cases ew:eh s n with
  |nil=>exact⟨by decide +kernel,by decide +kernel⟩
  |cons k l=>
   obtain⟨k1,kn,_⟩:=xV h ew;refine⟨?_,rfl⟩;show B.C.bx 7 (.int (k:Int)) 1=true;rw[B.C.bx];exact N9 (cW (show _<2^3 by rw[kZ];omega) (jH (by decide) (by decide)))
 refine bH (eE (b:=false) (λP hP=>?_) (λe=>nomatch e) λ_=>?_)
 .walk_at "st"
  refine rE (w:=0) h.kd E8.kdn (by decide +kernel) ?_;have:kU 0 (aN s) .non=.ok (qB (eh s n)):=by
   show qC (aN s)=_;unfold qC;rw[jO h,fX,h.sN]
  rw[this];exact B.C.repr_bx bw.1 bw.2 (B.C.repr_bx bw.1 bw.2 (xa hP))
 dsimp only;cases ew:eh s n with
 |cons k l=>
  obtain⟨k1,kn,_⟩:=xV h ew;have k5:k<=5:=by omega
  refine bH (eE (b:=true) (λP hP=>?_) (λ_=>?_) λe=>nomatch e)
  .walk_at "st"
   exact⟨rfl,hP⟩
  .refine LP.ret_by (d:=.bl true) (λP hP=>?_) q
   have told:∀w:Nat,w=1\/w=2->f7 (kU w (aN s) .non)=.tup [.str "strong",.int k]:=λw hw=>by
    have:kU w (aN s) .non=.error (kC k):=by
     rcases hw with rfl|rfl
     .show uN (aN s)=_
      unfold uN;rw[jO h,fX,h.sN,yc ew]
     .show rD (aN s) .non=_
      unfold rD;rw[jO h,fX,h.sN,yc ew]
    rw[this,Ni k1 k5]
   have ok1:dX (D.tup [.str "strong",.int k]) 60=true:=zg (n:=59) λy hy=>by
    simp only[Yao,dh,or_false] at hy;rcases hy with rfl|rfl
    .decide +kernel
    .exact BW _ _
   walk_at "st";refine rE (w:=1) h.kd E8.kdn (by decide +kernel) ?_;rw[told 1 (.inl rfl)];refine⟨by decide,ug ok1 ?_⟩;walk_at "st";refine rE (w:=2) h.kd E8.kdn (by decide +kernel) ?_;rw[told 2 (.inr rfl)];exact⟨by decide,ug ok1 hP⟩
 |nil=>
 have g:=(tO h).mp ew;have e:=g.full h;generalize hF:(List.range n).map (λk=>cP (cor s n (k+1)) (k+1))=F;have FL:F.length=n:=by rw[<-hF];simp
 have cf:∀k,1<=k->k<=n->IsSl (cor s n k) k/\cy (cor s n k) k=[]:=λk k1 kn=>⟨gR h k1 kn,g k k1 kn⟩;have Fl:dw F (-1)=some (cP s n):=by
  rw[<-hF];obtain⟨m,rfl⟩:∃m,n=m+1:=⟨n-1,by omega⟩
  rw[rP,iB];have:List.map (λk=>cP (cor s (m+1) (k+1)) (k+1)) [m]=[cP s (m+1)]:=by rw[da,h8,Cq h]
  rw[this];exact DA
 have bxF:B.C.bx 7 (.lst F) 4=true:=by
  refine B.C.bx_lst (n:=3) (by omega) λx hx=>?_;rw[<-hF] at hx;obtain⟨k,hk,rfl⟩:=YbU.mp hx;rw[Yah] at hk;obtain⟨c1,c2⟩:=cf (k+1) (by omega) (by omega);exact HJ (k:=0) c1 c2
 have dlF:dl (.lst F)=true:=by
  refine B.dl_lst λx hx=>?_;rw[<-hF] at hx;obtain⟨k,hk,rfl⟩:=YbU.mp hx;exact HK _ _
 refine bH (eE (b:=false) (λP hP=>?_) (λe=>nomatch e) λ_=>?_)
 .walk_at "st"
  exact⟨rfl,hP⟩
 dsimp only;refine bH (LP.set_by (d:=.lst F) (ρ':=[.d (aN s),.d .pen,.d .non,.d (.lst F),.un,.un,.un]) (by rfl) (λP hP=>?_) ?_)
 .walk_at "st"
  refine Nj h g ?_;unfold nq;rw[hF];exact hP
 dsimp only;refine G.seq_inv (λρ=>∃s4 s5,ρ=[.d (aN s),.d .pen,.d .non,.d (.lst F),s4,s5,.un]) (λnx hnx=>?_) ?_
 .simp only[bJ,bN]
  walk_at "st";refine⟨by decide,by decide,?_⟩;refine w8 (λ_ ρ=>∃s4 s5,ρ=[.d (aN s),.d .pen,.d .non,.d (.lst F),s4,s5,.un]) 2 ?_ (λρ h=>hnx ρ h) _ ⟨_,_,rfl⟩;rintro k hk _ ⟨s4,s5,rfl⟩ nx2 hnx2;show aI _ _ _ _ [.d (aN s),.d .pen,.d .non,.d (.lst F),.d (.int k),s5,.un];refine bH (B.C.own_by (xs:=F) (ρ':=[.d (aN s),.d .pen,.d .non,.d (.lst F),.d (.int k),.ow F,.un]) (by rfl) (λP hP=>?_) ?_)
  .simp only[aF,aC,aA,wN,dO,fN]
   exact⟨s,n,rfl,h,g,by rw[hF];exact hP⟩
  dsimp only;refine bH (eE (b:=false) (λP hP=>?_) (λe=>nomatch e) λ_=>?_)
  .walk_at "st"
   exact B.C.repr_bx bxF dlF (B.C.repr_bx bxF dlF (xa hP))
  dsimp only;exact G.app_by (d:=.int 0) (ρ':=[.d (aN s),.d .pen,.d .non,.d (.lst F),.d (.int k),.ow (F++[.int 0]),.un]) rfl (by rw[FL];unfold aO;omega) rfl (λP hP=>hP) (hnx2 _ ⟨_,_,rfl⟩)
 rintro _ ⟨s4,s5,rfl⟩
 by_cases hn1:n=1
 .refine bH (eE (b:=true) (λP hP=>?_) (λ_=>?_) λe=>nomatch e)
  .walk_at "st"
   rw[FL,hn1];exact hP
  .have tn:∀y,f7 (kU 2 (aN s) y)=.str "number" :=λy=>by rw[DX h g,if_pos hn1];exact DQ (by decide)
   have okn:dX (.str "number") 60=true:=by decide +kernel
   obtain⟨c1,c2⟩:=cf 1 (by omega) (by omega);have F0:dw F 0=some (cP (cor s n 1) 1):=by rw[<-hF,hn1];rfl
   have kz:=HL c1 c2;refine LP.ret_by (d:=.bl true) (λP hP=>?_) q;walk_at "st";refine rE (w:=2) h.kd E8.kdn (by decide +kernel) ?_;rw[tn];refine ug okn ?_;walk_at "st";refine⟨_,F0,rE (w:=2) h.kd kz.d kz.z ?_⟩;rw[tn];exact ug okn hP
 .refine bH (eE (b:=false) (λP hP=>?_) (λe=>nomatch e) λ_=>?_)
  .walk_at "st"
   rw[FL,show((n:Int)==1)=false from by rw[Oo];omega];exact hP
  dsimp only;obtain⟨c1,c2⟩:=cf (n-1) (by omega) (by omega);have kz:=HL c1 c2;have F2:dw F (-2)=some (cP (cor s n (n-1)) (n-1)):=by
   rw[<-hF];obtain⟨m,rfl⟩:∃m,n=m+2:=⟨n-2,by omega⟩
   unfold dw jb;rw[bP,nG];rw[if_neg (by omega),if_pos (by omega)];simp only[Option.bind_some];rw[show((-2:Int)+((m+2:Nat):Int)).toNat=m by omega,cA,iA (by omega)];rfl
  have two:lN (cor s n (n-1)) (n-1) (cP (cor s n (n-1)) (n-1))=true:=Hu c1 c2;have b1:B.C.bx 7 (cP s n) 3=true:=HJ (k:=0) h e;have d1:=Nq s n;refine bH (eE (b:=false) (λP hP=>?_) (λe=>nomatch e) λ_=>?_)
  .walk_at "st"
   refine⟨_,F2,rE (w:=2) h.kd kz.d kz.z ?_⟩;rw[DX h g,if_neg hn1,if_pos two];exact B.C.repr_bx b1 d1 ⟨_,Fl,B.C.repr_bx b1 d1 (xa hP)⟩
  dsimp only;refine G.seq_inv (λρ=>∃s4 s5 s6,ρ=[.d (aN s),.d .pen,.d .non,.d (.lst F),s4,s5,s6]) (λnx hnx=>?_) ?_
  .simp only[bJ,bN]
   walk_at "st";refine⟨by decide,by decide,?_⟩;refine w8 (λ_ ρ=>∃s4 s5 s6,ρ=[.d (aN s),.d .pen,.d .non,.d (.lst F),s4,s5,s6]) 3 ?_ (λρ h=>hnx ρ h) _ ⟨_,_,_,rfl⟩;rintro k hk _ ⟨s4,s5,s6,rfl⟩ nx2 hnx2;show aI _ _ _ _ [.d (aN s),.d .pen,.d .non,.d (.lst F),.d (.int k),s5,s6];refine bH (LP.set_rl (B4 60) (λP hP=>?_) ?_)
   .walk_at "st"
    exact⟨_,F2,Nk c1 c2 λd h1 h2 h3 h4=>hP d ⟨h1,h2,h3,h4⟩⟩
   intro d hd;dsimp only[List.set_cons_succ,List.set_cons_zero];refine eE (b:=false) (λP hP=>?_) (λe=>nomatch e) λ_=>hnx2 _ ⟨_,_,_,rfl⟩;walk_at "st";refine rE (w:=2) h.kd hd.d hd.z ?_;rw[DX h g,if_neg hn1];have dq:gE d (cP (cor s n (n-1)) (n-1))=lN (cor s n (n-1)) (n-1) d:=by
    rw[kE];constructor
    .intro z
     rw[HI _ _ hd.i kz.i z];exact two
    .intro z
     rw[HE c1 c2 z];exact Fa kz.o
   cases z:lN (cor s n (n-1)) (n-1) d with
   |true=>
    rw[if_pos rfl];refine B.C.repr_bx b1 d1 ⟨_,F2,wI hd.o kz.o ?_⟩;rw[if_neg (by simp),dq,z];walk_at "st";exact⟨_,Fl,B.C.repr_bx b1 d1 (xa hP)⟩
   |false=>
    rw[if_neg (by simp)];have br:B.C.bx 7 (.str "row") 1=true/\dl (.str "row")=true:=⟨by decide +kernel,by decide +kernel⟩
    have er:f7 (.error "NoRow")=.str "row" :=DQ (by decide);rw[er];refine B.C.repr_bx br.1 br.2 ⟨_,F2,wI hd.o kz.o ?_⟩;rw[if_neg (by simp),dq,z];walk_at "st";exact B.C.repr_bx br.1 br.2 (xa hP)
  rintro _ ⟨s4,s5,s6,rfl⟩;exact q
abbrev DE:List Str:=["_law_slants", "_law_right_here", "_law_size", "_law_rows", "_law_i", "_law_place", "_law_good", "_law_top", "_law_bottom", "_law_at", "_law_part"]
abbrev Nt:List Str:=["_law_slants", "_law_right_here"]
def rd__law_solved:Rd rC Ac DE:=λds E Q h=>G.V9.rd__law_solved ds E Q h
theorem Nu:Rd yg Ai HF:=by
 rintro _ E Q ⟨xs,rfl,hx,q⟩;dsimp only at hx q;show Ai E _ [.d (.scr (xs.map .int)),.un,.un,.un,.un];generalize hS:D.scr (xs.map .int)=S;unfold Ai;have sl1:IsSl [1] 1:=⟨rfl,by decide,by decide,by decide⟩
 have sl0:IsSl [0] 1:=⟨rfl,by decide,by decide,by decide⟩
 refine bH (eE (b:=false) (B.C.or_by (b:=false) (c:=false) (λP hP=>?_) (λP hP=>?_)) (λe=>nomatch e) λ_=>?_)
 .walk_at "st"
  exact⟨by decide,Cm (Ah (s:=[1]) sl1 hP)⟩
 .walk_at "st"
  exact⟨by decide,Cm (Ah (s:=[0]) sl0 hP)⟩
 dsimp only;refine bH ?_;simp only[bJ];have ec:∃cs:List Int,bA (xs.map D.int) (some 1) (some 4)=cs.map D.int/\cs.length<=63:=by
  refine⟨bA xs (some 1) (some 4),?_,?_⟩
  .unfold bA
   rw[bP,mr,pH]
  .unfold bA
   rw[gT,ja];omega
 obtain⟨cs,ec,hcs⟩:=ec;refine LP.for_seq (xs:=(xs.getD 0 0::cs).map D.int) (λP h=>?_) ?_
 .subst hS
  walk_at "st";refine KW (i:=0) ?_;walk_at "st";rw[ec];exact⟨by decide,by simp[aO];omega,h⟩
 clear ec hcs;refine Gh (λρ=>∃s1 s2 s3 s4,ρ=[.d S,s1,s2,s3,s4]) _ ?_ ?_ _ ⟨_,_,_,_,rfl⟩
 rotate_left
 .rintro _ ⟨s1,s2,s3,s4,rfl⟩
  exact q
 rintro d hd _ ⟨s1,s2,s3,s4,rfl⟩ nx hnx;obtain⟨c,_,rfl⟩:=YbU.mp hd;clear hd;show aI _ _ _ _ [.d S,.d (.int c),s2,s3,s4];refine bH (LP.set_by (d:=.pen) (ρ':=[.d S,.d (.int c),.d .pen,s3,s4]) (by rfl) (λP h=>?_) ?_)
 .walk_at "st"
  exact Cm h
 dsimp only;refine bH (LP.set_rl (λd=>∃s n,d=aN s/\IsSl s n) (λP h=>?_) ?_)
 .walk_at "st"
  exact F5 λs n hs=>h _ ⟨s,n,rfl,hs⟩
 rintro _ ⟨s,n,rfl,h⟩;dsimp only;show aI _ _ _ _ [.d S,.d (.int c),.d .pen,.d (aN s),s4];refine bH (eE (b:=false) (B.C.or_by (b:=false) (c:=false) (λP hP=>?_) (λP hP=>?_)) (λe=>nomatch e) λ_=>?_)
 .walk_at "st"
  exact Ah h hP
 .walk_at "st"
  exact MZ λs' n' h' _=>Ah h' hP
 dsimp only;refine bH (LP.set_rl (λd=>kd d=true) (λP hP=>?_) ?_)
 .walk_at "st"
  exact Le h λd hd=>hP d hd
 intro bad kb;dsimp only;show cL _ _ _ _ _ [.d S,.d (.int c),.d .pen,.d (aN s),.d bad];refine eE (b:=false) (λP hP=>?_) (λe=>nomatch e) λ_=>hnx _ ⟨_,_,_,_,rfl⟩;cases eb:fg bad with
 |true=>
  walk_at "st";refine Gd kb ?_;rw[eb];exact hP
 |false=>
  walk_at "st";refine Gd kb ?_;rw[eb];have told:∀w:Nat,f7 (kU w bad .non)=.str "slants" :=λw=>by
   have:kU w bad .non=.error "NoSlants" :=by
    unfold kU qC uN rD;rw[l7 eb,l7 eb,l7 eb];split
    .rfl
    .split<;>rfl
   rw[this];exact DQ (by simp)
  refine⟨by decide,by decide,?_⟩;rw[show(3:Int).toNat=3 from rfl,qy];refine l8 (g:=λj:Nat=>D.int (j:Int)) (f:=λ_=>D.str "slants") (List.range 3) (λw hw Q hq=>?_) .un [] (gS (by simp)) ?_
  .walk_at "st"
   refine rE kb E8.kdn (by decide +kernel) ?_;rw[told w];exact hq
  .exact⟨by decide,by decide,by decide,by decide,ug (by decide +kernel) hP⟩
theorem Nv{ns:List Int}(hl:ns.length<=63)(hO:qg H)(hS:SqL K H a (ns.map V.int)):fV K yg [.ref a] H (λv _=>v=.bl true) λ_ _ _=>False:=by
 have rv:∀W:Wd,Reps K W (ns.map V.int) (ns.map D.int):=λW=>by
  clear hl hS
  induction ns with
  |nil=>exact .nil
  |cons n ns ih=>exact .cons (.int n) ih
 have ok:WOk ⟨H,λ_=>False⟩ H:=⟨λ_ _ e=>e,λ_ e=>e.elim⟩
 refine⟨[.scr (ns.map .int)],⟨H,λ_=>False⟩,ok,.cons (.scr ?_ (rv _)) .nil,ns,rfl,hl,λv W' H' _ r=>?_⟩
 .rcases hS with(h|h)|h
  .rcases hO a with z|⟨o,xs,z⟩
   .rw[h] at z;cases z
   .rw[h] at z;cases z
  .exact .inl h
  .exact .inr h
 .cases r;rfl
def top(i:Nat):Stmt:=PySem.Challenge.pw_slanttables_k17_steps.main.body.getD i (.Pass ⟨0,0,0,0⟩)
structure Bs(K:N4)(mg:Str->Option Value):Prop where
 aa:aU K mg "is_whole" (top 14)
 ab:aU K mg "is_within" (top 15)
 ac:aU K mg "are_within" (top 16)
 ad:aU K mg "common_divisor" (top 17)
 ae:aU K mg "is_share" (top 18)
 af:aU K mg "is_row_within" (top 19)
 ag:aU K mg "is_row" (top 20)
 ah:aU K mg "share_by" (top 21)
 ai:aU K mg "plus" (top 22)
 aj:aU K mg "minus" (top 23)
 ak:aU K mg "times" (top 24)
 al:aU K mg "by" (top 25)
 am:aU K mg "row_of" (top 26)
 an:aU K mg "one_at" (top 27)
 ao:aU K mg "row_by" (top 28)
 ap:aU K mg "row_less" (top 29)
 aq:aU K mg "sum_of_products" (top 30)
 ar:aU K mg "size_of" (top 35)
 as:aU K mg "slants_good" (top 36)
 au:aU K mg "need_slants" (top 37)
 av:aU K mg "table_of" (top 38)
 aw:aU K mg "corner" (top 39)
 ax:aU K mg "row_good" (top 40)
 ay:aU K mg "share_rows" (top 41)
 az:aU K mg "times_row" (top 42)
 a0:aU K mg "makes" (top 43)
 a1:aU K mg "ends_good" (top 44)
 a2:aU K mg "table_without" (top 46)
 a3:aU K mg "table_number" (top 47)
 a4:aU K mg "number_of" (top 48)
 a5:aU K mg "corner_numbers" (top 49)
 a6:aU K mg "weak_sizes" (top 50)
 a7:aU K mg "first_weak" (top 52)
 a8:aU K mg "need_strong" (top 53)
 a9:aU K mg "first_step" (top 54)
 ba:aU K mg "longer_step" (top 55)
 bb:aU K mg "steps_of" (top 56)
 bc:aU K mg "step_next" (top 57)
 bd:aU K mg "_law_cell_at" (top 59)
 be:aU K mg "_law_next" (top 60)
 bf:aU K mg "_law_pen_of" (top 61)
 bg:aU K mg "_law_draw" (top 62)
 bh:aU K mg "_law_whole" (top 63)
 bi:aU K mg "_law_kind_of" (top 64)
 bj:aU K mg "_law_share" (top 65)
 bk:aU K mg "_law_add" (top 66)
 bl:aU K mg "_law_times" (top 67)
 bm:aU K mg "_law_slants_by" (top 68)
 bn:aU K mg "_law_solved" (top 69)
 bo:aU K mg "_law_unit" (top 70)
 bp:aU K mg "_law_corner" (top 71)
 bq:aU K mg "_law_weak" (top 72)
 br:aU K mg "_law_strong_by" (top 73)
 bs:aU K mg "_law_no_slants" (top 74)
 bt:aU K mg "_law_slants_good" (top 75)
 bu:aU K mg "_law_told" (top 76)
 bv:aU K mg "_law_steps" (top 77)
 bw:aU K mg "_law_bent" (top 78)
 bx:aU K mg "_law_right" (top 79)
 bz:aU K mg "law" (top 80)
 b0:mg "len" = none
 b1:mg "int" = none
 b2:mg "list" = none
 b3:mg "max" = none
 b4:mg "abs" = none
 b5:mg "range" = none
 b6:mg "tuple" = none
 b7:mg "zip" = none
 b8:mg "ValueError" = none
 b9:mg "isinstance" = none
 ca:CC K mg "NoLine"
 cb:CC K mg "NoNumber"
 cd:CC K mg "NoRow"
 ce:CC K mg "NoSlants"
 cf:CC K mg "NoText"
 cg:CC K mg "NotEven"
 ch:CC K mg "NotFull"
 ci:CC K mg "NotStrong"
 cj:CC K mg "TooGreat"
 xi:XI K LX5 MX
 ck:mg "bool" = none
 cl:mg "all" = none
 cm:CI mg "GREATEST_SIZE" (5)
 cn:CI mg "LEAST" (-50)
 co:CI mg "MOST" (50)
 cp:XC K mg "NoSlants"
 cq:XC K mg "NoNumber"
 cr:mg "enumerate" = none
 cs:CT K mg "NOUGHT" [(D.int (0)),(D.int (1))]
 ct:XC K mg "NoRow"
 cu:CT K mg "ONE" [(D.int (1)),(D.int (1))]
 cv:XK1 K mg "NotStrong" "NotStrong.__init__" "size" (DK (top 8))
 cw:XT K mg "SlantError" LX5
 cx:mg "repr" = none
section
variable{w:World}(Z:Bs K mg)
include Z
theorem Nw:Fp P w K mg base 1 "_law_cell_at" (Ze4.take 2) zx:=cJ K1 Z.bd λsc hr hx hw=>aT (dm (dA sY (aD 1) (cD gg Z.b0 Oi (Za (aD 0) aG))) (aX (bC (bE aQ (aD 0) (aD 1)))) dj) (aX (bC aJ))
theorem HM:Fp P w K mg base 1 "_law_next" (ZhJ.take 1) wY:=cJ K2 Z.be λsc hr hx hw=>aT (bV 0 (aV ql (aV db (aD 0) aJ) aJ) sc) (aX (bC (aV ql (aV db (aV db (aV d9 (aD 0) (aD 0)) (aV d9 aJ (aD 0))) aJ) aJ)))
theorem ny:Fp P w K mg base 2 "_law_draw" (ZhK.take 2) kS:=cJ K4 Z.bg λsc hr hx hw=>aT (dm (dA (cE hr.units) (bE wG (aD 0) aJ) aJ) (aT (bV 2 (aV ql (bE wG (aD 0) aJ) (aD 1)) sc) (aT (E4 0 0 (aV lY (bE wG (aD 0) aJ) (aD 1))) (aX (bC (aD 2))))) dj) (aT (E4 0 2 (aS (HM Z) hr hx (Za (aV db (aS (HM Z) hr hx (Za (bE wG (aD 0) aJ) aG)) aJ) aG))) (aX (bC (aV ql (aV lY (bE wG (aD 0) aJ) aJ) (aD 1)))))
theorem Nx:Fp P w K mg base 3 "_law_no_slants" (Zd8.take 2) zD:=cJ Ln Z.bs λsc hr hx hw=>aT (bV 2 (aS (ny Z) hr hx (Za (aD 0) (Za (aV db (cD gg Z.b0 Oi (Za (aD 1) aG)) aJ) aG))) sc) (aT (bV 3 (bE aQ (PXL.px (gO (Za aJ (Za (Ze jg aJ) (Za jd (Za jx (Za je (Za (dI (Za aJ aG)) (Za (aV EY aJ aJ) aG))))))))) (aS (ny Z) hr hx (Za (aD 0) (Za aJ aG)))) sc) (aT (bV 4 (PXL.px (gO (Za (aV db (aV db (aV db (g9 (aD 1) jL (fP (aD 2))) (dI (Za (aD 3) aG))) (g9 (aD 1) (fP (aV db (aD 2) aJ)) jL)) (aV Cb (dI (Za (aD 3) aG)) (lW y6 Z.b1 boot_int (Za (lV (cE hr.units) (aD 2) (cD gg Z.b0 Oi (Za (aD 1) aG))) aG)))) (Za (aV db (aD 1) (dI (Za aJ aG))) (Za (PXL.px (yZ y4 Z.b2 boot_list (Za (aD 1) aG))) aG))))) sc) (aT (bV 4 (aV db (aD 4) (PXL.px (gO (Za (dI aG) (Za (aV Cb (dI (Za aJ aG)) aJ) (Za (aV Cb (dI (Za aJ aG)) aJ) (Za jx (Za aJ (Za Kt (Za je (Za (dI (Za (aD 1) aG)) (Za (g9 (aD 1) (fP aJ) jL) aG)))))))))))) sc) (aX (bC (bE aQ (aD 4) (aS (ny Z) hr hx (Za (aD 0) (Za aJ aG)))))))))
theorem DY:Fp P w K mg base 1 "_law_pen_of" (ZfS.take 1) uq:=cJ K3 Z.bf λsc hr hx hw=>aT (bV 1 (cD (wy rfl) Z.b3 boot_max (Za (aD 0) (Za (aV ge aJ (aD 0)) aG))) sc) (aX (bC (J3 (gO (Za (aD 1) (Za (lW y6 Z.b1 boot_int (Za (lV BG (aD 1) (aV EY aJ aJ)) aG)) (Za (aV ql (aD 1) aJ) aG)))))))
theorem Ny:Fp P w K mg base 3 "_law_bent" (ZhL.take 2) Ag:=cJ Np Z.bw λsc hr hx hw=>aT (bV 2 (aS (ny Z) hr hx (Za (aD 1) (Za aJ aG))) sc) (aT (bV 3 (bE aQ (aD 0) (aD 2)) sc) (aT (bV 4 (aS (ny Z) hr hx (Za (aD 1) (Za (cD gg Z.b0 Oi (Za (aD 3) aG)) aG))) sc) (aT (bV 5 (bE aQ (PXL.px (gO (Za (dI (Za (aV db (bE aQ (bE aQ (aD 3) (aD 4)) aJ) (bE aQ (bE aQ (aD 3) (aD 4)) aJ)) (Za (bE aQ (bE aQ (aD 3) (aD 4)) aJ) aG))) (Za (dI (Za aJ (Za aJ aG))) (Za jx (Za aJ (Za (dI (Za aJ (Za aJ aG))) aG))))))) (aS (ny Z) hr hx (Za (aD 1) (Za aJ aG)))) sc) (aT (bV 6 (aV db (aV db (g9 (aD 3) jL (fP (aD 4))) (dI (Za (aD 5) aG))) (g9 (aD 3) (fP (aV db (aD 4) aJ)) jL)) sc) (aT (bV 7 (PXL.px (gO (Za (dI (Za (aD 6) (Za (bE aQ (aD 0) aJ) aG))) (Za (dI (Za (bE aQ (aD 0) aJ) (Za (aD 6) aG))) (Za (dI (Za (bE aQ (aD 0) aJ) aG)) (Za (PXL.px (yZ y4 Z.b2 boot_list (Za (aD 0) aG))) (Za (dI (Za (bE aQ (aD 0) aJ) (Za (bE aQ (aD 0) aJ) (Za (aD 3) aG)))) aG))))))) sc) (aT (bV 7 (aV db (aD 7) (PXL.px (gO (Za (dI (Za (PXL.px (yZ y4 Z.b2 boot_list (Za (aD 3) aG))) (Za (bE aQ (aD 0) aJ) aG))) (Za jx aG))))) sc) (aX (bC (bE aQ (aV db (aD 7) (PXL.px (gO (Za aJ (Za (dI (Za (aV db (aD 3) (g9 (aD 3) jL (fP aJ))) (Za (aD 3) aG))) (Za (dI (Za (aD 3) (Za jx aG))) aG)))))) (aS (ny Z) hr hx (Za (aD 1) (Za aJ aG))))))))))))
theorem HN:Fp P w K mg base 1 "_law_corner" (ZfT.take 2) uM:=cJ M0 Z.bp λsc hr hx hw=>aT (bV 2 (aV ge (aV lY (aV db (cD gg Z.b0 Oi (Za (aD 0) aG)) aJ) aJ) (aD 1)) sc) (aX (bC (g9 (aD 0) (fP (aD 2)) (fP (aV ge (cD gg Z.b0 Oi (Za (aD 0) aG)) (aD 2))))))
theorem DZ:Fp P w K mg base 1 "_law_share" (ZgC.take 2) wZ:=cJ K6 Z.bj λsc hr hx hw=>aT (BM 2 3 sc (Za (cD BI Z.b4 boot_abs (Za (aD 0) aG)) (Za (cD BI Z.b4 boot_abs (Za (aD 1) aG)) aG))) (aT (i4 (Zl PassesOwn.never (dA (iX hr.units) (aD 3) aJ) (aX (BM 2 3 sc (Za (aD 3) (Za (aV ql (aD 2) (aD 3)) aG)))))) (aT (dm (dA sY (aD 1) aJ) (aX (bV 2 (aV ge aJ (aD 2)) sc)) dj) (aX (bC (dI (Za (aV lY (aD 0) (aD 2)) (Za (aV lY (aD 1) (aD 2)) aG)))))))
theorem Nz:Fp P w K mg base 2 "_law_add" (Zis.take 2) zA:=cJ K7 Z.bk λsc hr hx hw=>aX (bC (aS (DZ Z) hr hx (Za (aV db (aV d9 (bE aQ (aD 0) aJ) (bE aQ (aD 1) aJ)) (aV d9 (bE aQ (aD 1) aJ) (bE aQ (aD 0) aJ))) (Za (aV d9 (bE aQ (aD 0) aJ) (bE aQ (aD 1) aJ)) aG))))
theorem D0:Fp P w K mg base 2 "_law_times" (ZgA.take 2) ur:=cJ La Z.bl λsc hr hx hw=>aX (bC (aS (DZ Z) hr hx (Za (aV d9 (bE aQ (aD 0) aJ) (bE aQ (aD 1) aJ)) (Za (aV d9 (bE aQ (aD 0) aJ) (bE aQ (aD 1) aJ)) aG))))
theorem D1:Fp P w K mg base 3 "_law_solved" Nt rC:=cJ rd__law_solved Z.bn λsc hr hx hw=>aT (bV 2 (aV lY (aV db (cD gg Z.b0 Oi (Za (aD 0) aG)) aJ) aJ) sc) (aT (qp 3 (gO aG) sc) (aT (i4 (jz PassesOwn.never rfl (mX Z.b5 (Za (aD 2) aG)) (cR 4 sc) (aX (wD 3 (aV db (PXL.px (iq ["_law_j"] [0,2,4] rfl (mX Z.b5 (Za (aD 2) aG)) (λ_ _ _=>(cR 0 (by decide +kernel:List.Nodup (["_law_j", "_law_slants", "_law_size", "_law_i"]:List Str)))) (λ_ _ _=>im) (λ_ _ _=>(dI (Za (bE aQ (aD 1) (aV ge (aV db (aV ge (aD 0) (aD 3)) (aD 2)) aJ)) (Za aJ aG)))))) (PXL.px (gO (Za (dI (Za (bE aQ (aD 1) (aD 4)) (Za aJ aG))) aG)))))))) (sZ 6 (aT (i4 (jz PassesOwn.never rfl (mX Z.b5 (Za (aD 2) aG)) (cR 5 sc) (aT (Lr 6 3 ["_law_at"] [3,5] rfl sc (ud Z.b5 (Za (aD 5) (Za (aD 2) aG))) (λ_ _ _=>(cR 0 (by decide +kernel:List.Nodup (["_law_at", "_law_rows", "_law_place"]:List Str)))) (λ_ _ _=>(E2 (dA (iX hr.units) (bE aQ (bE aQ (bE aQ (aD 1) (aD 0)) (aD 2)) aJ) aJ))) (λ_ _ _=>(aD 0))) (sZ 6 (aT (dm (dA (cE hr.units) (aD 6) (PXL.px (gO aG))) (aX (bC jx)) dj) (sZ 6 (aT (Lw 3 (dI (Za (wE 3 (bE aQ (aD 6) aJ)) (Za (wE 3 (aD 5)) aG))) (aD 5) (bE aQ (aD 6) aJ)) (aT (E3 (zc 3 (bE aQ (bE aQ (aD 3) (aD 5)) (aD 5))) (l5 rfl (gj (cR 7 sc) (gj (cR 8 sc) l4)))) (aT (BP 3 (aD 5) (PXL.px (iq ["_law_one"] [7,8] rfl (Zc (wE 3 (aD 5))) (λ_ _ _=>(cR 0 (by decide +kernel:List.Nodup (["_law_one", "_law_top", "_law_bottom"]:List Str)))) (λ_ _ _=>im) (λ_ _ _=>(aS (D0 Z) hr cK (Za (aD 0) (Za (aS (DZ Z) hr cK (Za (aD 2) (Za (aD 1) aG))) aG))))))) (aX (i4 (jz PassesOwn.never rfl (mX Z.b5 (Za (aD 2) aG)) (cR 9 sc) (aX (dm (dA (iX hr.units) (aD 9) (aD 5)) (aT (bV 10 (zc 3 (aS (D0 Z) hr cK (Za (bE aQ (bE aQ (aD 3) (aD 9)) (aD 5)) (Za (dI (Za (Ze jg aJ) (Za aJ aG))) aG)))) sc) (aX (BP 3 (aD 9) (PXL.px (iq ["_law_one", "_law_two"] [10] rfl (BO Z.b7 (Za (wE 3 (aD 9)) (Za (wE 3 (aD 5)) aG))) (λ_ _ _=>(l5 rfl (gj (cR 0 (by decide +kernel:List.Nodup (["_law_one", "_law_two", "_law_part"]:List Str))) (gj (cR 1 (by decide +kernel:List.Nodup (["_law_one", "_law_two", "_law_part"]:List Str))) l4)))) (λ_ _ _=>im) (λ_ _ _=>(aS (Nz Z) hr cK (Za (aD 0) (Za (aS (D0 Z) hr cK (Za (aD 2) (Za (aD 1) aG))) aG))))))))) dj)))))))))))))) (sZ 3 (aX (bC (lW qY Z.b6 Op (Za (PXL.px (iq ["_law_row"] [2] rfl (Zc (aD 3)) (λ_ _ _=>(cR 0 (by decide +kernel:List.Nodup (["_law_row", "_law_size"]:List Str)))) (λ_ _ _=>im) (λ_ _ _=>(bE aQ (aD 0) (aD 1))))) aG)))))))))
theorem D2:Fp P w K mg base 1 "_law_unit" (ZhH.take 2) tL:=cJ Mo Z.bo λsc hr hx hw=>aX (bC (lW qY Z.b6 Op (Za (PXL.px (iq ["_law_at"] [1] rfl (mX Z.b5 (Za (aD 0) aG)) (λ_ _ _=>(cR 0 (by decide +kernel:List.Nodup (["_law_at", "_law_place"]:List Str)))) (λ_ _ _=>im) (λ_ _ _=>(lW y6 Z.b1 boot_int (Za (lV (cE hr.units) (aD 0) (aD 1)) aG))))) aG)))
theorem NA:Fp P w K mg base 4 "_law_steps" (ZgB.take 1) Af:=cJ Nn Z.bv λsc hr hx hw=>aT (qp 1 (gO aG) sc) (aT (i4 (jz PassesOwn.never rfl (ud Z.b5 (Za aJ (Za (aV db (aV lY (aV db (cD gg Z.b0 Oi (Za (aD 0) aG)) aJ) aJ) aJ) aG))) (cR 2 sc) (aT (bV 3 (aS (HN Z) hr cK (Za (aD 0) (Za (aD 2) aG))) sc) (aX (wD 1 (dI (Za (aS (D1 Z) hr cK (Za (aD 3) (Za (aS (D2 Z) hr cK (Za (aD 2) (Za aJ aG))) aG))) (Za (aS (D1 Z) hr cK (Za (aD 3) (Za (aS (D2 Z) hr cK (Za (aD 2) (Za (aV ge (aD 2) aJ) aG))) aG))) aG)))))))) (sZ 1 (aX (bC (aD 1)))))
theorem HP:B6 P w K mg base 1 "_law_kind_of" (Zdu.take 1) ye:=C0 (z:=DO) (N:=Zdu) Z.bi (λsc _ _ _ _ _ _ hr=>(aT (bV 1 (PXL.px (gO (Za (cD (mZ Z.xi) Z.b9 Oa (Za (aD 0) (Za (pC Z.ce) aG))) (Za (cD (mZ Z.xi) Z.b9 Oa (Za (aD 0) (Za (pC Z.cd) aG))) (Za (cD (mZ Z.xi) Z.b9 Oa (Za (aD 0) (Za (pC Z.cb) aG))) (Za (cD (mZ Z.xi) Z.b9 Oa (Za (aD 0) (Za (pC Z.ca) aG))) aG)))))) sc) (aT (bV 1 (aV db (aD 1) (PXL.px (gO (Za (cD (mZ Z.xi) Z.b9 Oa (Za (aD 0) (Za (pC Z.cg) aG))) (Za (cD (mZ Z.xi) Z.b9 Oa (Za (aD 0) (Za (pC Z.ch) aG))) (Za (cD (mZ Z.xi) Z.b9 Oa (Za (aD 0) (Za (pC Z.ci) aG))) aG)))))) sc) (aT (bV 1 (aV db (aD 1) (PXL.px (gO (Za (cD (mZ Z.xi) Z.b9 Oa (Za (aD 0) (Za (pC Z.cf) aG))) (Za (cD (mZ Z.xi) Z.b9 Oa (Za (aD 0) (Za (pC Z.cj) aG))) aG))))) sc) (aT (dm (PXW.pxt (qk (jf (Zb (cD (mZ Z.xi) Z.b9 Oa (Za (aD 0) (Za (nS Z.b8 Lo) aG))))) (qj (dA (iX hr.units) (Fy PySem.F.slot_list_count PySem.F.type_list_count Kr (aD 1) (Za jd aG)) aJ)))) (aX (bC je)) dj) (aX (bC (bE aQ (PXL.px (gO (Za je (Za je (Za je (Za je (Za je (Za je (Za je (Za je (Za je aG))))))))))) (Fy PySem.F.slot_list_index PySem.F.type_list_index Ks (aD 1) (Za jd aG)))))))))) Nc
theorem D3:Fp P w K mg base 1 "is_whole" (Ziq.take 1) uh:=cJ FV Z.aa λsc hr hx hw=>aX (bC (nO (cD qo Z.b9 Oa (Za (aD 0) (Za (nS Z.b1 boot_int) aG))) (nN (EU (cD qo Z.b9 Oa (Za (aD 0) (Za (nS Z.ck boot_bool) aG)))))))
theorem HQ:Fp P w K mg base 2 "is_within" (ZhE.take 3) wO:=cJ Ku Z.ab λsc hr hx hw=>aX (bC (nO (aS (D3 Z) hr hx (Za (aD 0) aG)) (nN (EV kj kj (aD 1) (aD 0) (aD 2)))))
theorem NB:Fp P w K mg base 3 "are_within" (Zgy.take 3) zk:=cJ Kv Z.ac λsc hr hx hw=>aX (bC (nO (cD qo Z.b9 Oa (Za (aD 0) (Za (nS Z.b6 Op) aG))) (nN (cD (BJ rfl) Z.cl boot_all (Za (PXL.px (iq ["number"] [1,2] rfl (Zc (aD 0)) (λ_ _ _=>(cR 0 (by decide +kernel:List.Nodup (["number", "least", "most"]:List Str)))) (λ_ _ _=>im) (λ_ _ _=>(aS (HQ Z) hr cK (Za (aD 0) (Za (aD 1) (Za (aD 2) aG))))))) aG)))))
theorem qF:Fp P w K mg base 1 "size_of" (Zj1.take 1) kQ:=cJ KM Z.ar λsc hr hx hw=>aX (bC (aV lY (aV db (cD gg Z.b0 Oi (Za (aD 0) aG)) aJ) aJ))
theorem NC:Fp P w K mg base 4 "slants_good" (ZfO.take 1) wR:=cJ KN Z.as λsc hr hx hw=>aT (dm (PXW.pxt (qk (jf (Zb (aS (NB Z) hr hx (Za (aD 0) (Za (C2 Z.cn) (Za (C2 Z.co) aG)))))) (qj (dA (cE hr.units) (aV ql (cD gg Z.b0 Oi (Za (aD 0) aG)) aJ) aJ)))) (aX (bC jd)) dj) (aX (bC (lV kj (aS (qF Z) hr hx (Za (aD 0) aG)) (C2 Z.cm))))
theorem Aj:Fp P w K mg base 5 "need_slants" (ZfQ.take 1) qw:=cJ KO Z.au λsc hr hx hw=>aX (dm (jf (Zb (aS (NC Z) hr hx (Za (aD 0) aG)))) (aX (wV hw Z.cp)) dj)
theorem yh:Fp P w K mg base 6 "corner" (ZlG.take 2) mY:=cJ KQ Z.aw λsc hr hx hw=>aT (td (aS (Aj Z) hr hx (Za (aD 0) aG))) (aT (bV 2 (aS (qF Z) hr hx (Za (aD 0) aG)) sc) (aT (dm (jf (Zb (aS (HQ Z) hr hx (Za (aD 1) (Za aJ (Za (aD 2) aG)))))) (aX (wV hw Z.cq)) dj) (aX (bC (g9 (aD 0) (fP (aV ge (aD 2) (aD 1))) (fP (aV ge (aV db (aD 2) (aD 1)) aJ)))))))
theorem yi:Fp P w K mg base 1 "table_without" (Zev.take 2) zY:=cJ MD Z.a2 λsc hr hx hw=>aX (bC (PXL.px (iq ["row"] [1] rfl (Zc (g9 (aD 0) (fP aJ) jL)) (λ_ _ _=>(cR 0 (by decide +kernel:List.Nodup (["row", "column"]:List Str)))) (λ_ _ _=>im) (λ_ _ _=>(aV db (g9 (aD 0) jL (fP (aD 1))) (g9 (aD 0) (fP (aV db (aD 1) aJ)) jL))))))
theorem Zg:Fp P w K mg base 2 "table_number" tN (kB 0):=uG (z:=mj λ_=>Cu) (N:=rq) Z.a3 (λsc _ _ _ _ _ _ _ hr hx hw=>(aT (dm (dA (cE hr.units) (cD gg Z.b0 Oi (Za (aD 0) aG)) aJ) (aX (bC aJ)) dj) (aT (bV 1 aJ sc) (aT (bV 2 aJ sc) (aT (i4 (jz PassesOwn.never rfl (uv Z.cr (Za (bE aQ (aD 0) aJ) aG)) (l5 rfl (gj (cR 3 sc) (gj (cR 4 sc) l4))) (aT (uH 1 (aV d9 (aV d9 (aD 2) (aD 4)) Lp) sc) (aX (bV 2 (Ze jg (aD 2)) sc))))) (aX (bC (aD 1)))))))) ME
theorem ND:Fp P w K mg base 3 "table_number" tN (kB 1):=uG (z:=mj (wF (kB 0))) (N:=rq) Z.a3 (λsc _ _ _ _ _ _ _ hr hx hw=>(aT (dm (dA (cE hr.units) (cD gg Z.b0 Oi (Za (aD 0) aG)) aJ) (aX (bC aJ)) dj) (aT (bV 1 aJ sc) (aT (bV 2 aJ sc) (aT (i4 (jz PassesOwn.never rfl (uv Z.cr (Za (bE aQ (aD 0) aJ) aG)) (l5 rfl (gj (cR 3 sc) (gj (cR 4 sc) l4))) (aT (uH 1 (aV d9 (aV d9 (aD 2) (aD 4)) (aS (Zg Z) hr cK (Za (aS (yi Z) hr cK (Za (aD 0) (Za (aD 3) aG))) aG))) sc) (aX (bV 2 (Ze jg (aD 2)) sc))))) (aX (bC (aD 1)))))))) (xJ 0)
theorem NE:Fp P w K mg base 4 "table_number" tN (kB 2):=uG (z:=mj (wF (kB 1))) (N:=rq) Z.a3 (λsc _ _ _ _ _ _ _ hr hx hw=>(aT (dm (dA (cE hr.units) (cD gg Z.b0 Oi (Za (aD 0) aG)) aJ) (aX (bC aJ)) dj) (aT (bV 1 aJ sc) (aT (bV 2 aJ sc) (aT (i4 (jz PassesOwn.never rfl (uv Z.cr (Za (bE aQ (aD 0) aJ) aG)) (l5 rfl (gj (cR 3 sc) (gj (cR 4 sc) l4))) (aT (uH 1 (aV d9 (aV d9 (aD 2) (aD 4)) (aS (ND Z) hr cK (Za (aS (yi Z) hr cK (Za (aD 0) (Za (aD 3) aG))) aG))) sc) (aX (bV 2 (Ze jg (aD 2)) sc))))) (aX (bC (aD 1)))))))) (xJ 1)
theorem NF:Fp P w K mg base 5 "table_number" tN (kB 3):=uG (z:=mj (wF (kB 2))) (N:=rq) Z.a3 (λsc _ _ _ _ _ _ _ hr hx hw=>(aT (dm (dA (cE hr.units) (cD gg Z.b0 Oi (Za (aD 0) aG)) aJ) (aX (bC aJ)) dj) (aT (bV 1 aJ sc) (aT (bV 2 aJ sc) (aT (i4 (jz PassesOwn.never rfl (uv Z.cr (Za (bE aQ (aD 0) aJ) aG)) (l5 rfl (gj (cR 3 sc) (gj (cR 4 sc) l4))) (aT (uH 1 (aV d9 (aV d9 (aD 2) (aD 4)) (aS (NE Z) hr cK (Za (aS (yi Z) hr cK (Za (aD 0) (Za (aD 3) aG))) aG))) sc) (aX (bV 2 (Ze jg (aD 2)) sc))))) (aX (bC (aD 1)))))))) (xJ 2)
theorem NG:Fp P w K mg base 6 "table_number" tN (kB 4):=uG (z:=mj (wF (kB 3))) (N:=rq) Z.a3 (λsc _ _ _ _ _ _ _ hr hx hw=>(aT (dm (dA (cE hr.units) (cD gg Z.b0 Oi (Za (aD 0) aG)) aJ) (aX (bC aJ)) dj) (aT (bV 1 aJ sc) (aT (bV 2 aJ sc) (aT (i4 (jz PassesOwn.never rfl (uv Z.cr (Za (bE aQ (aD 0) aJ) aG)) (l5 rfl (gj (cR 3 sc) (gj (cR 4 sc) l4))) (aT (uH 1 (aV d9 (aV d9 (aD 2) (aD 4)) (aS (NF Z) hr cK (Za (aS (yi Z) hr cK (Za (aD 0) (Za (aD 3) aG))) aG))) sc) (aX (bV 2 (Ze jg (aD 2)) sc))))) (aX (bC (aD 1)))))))) (xJ 3)
theorem NH:Fp P w K mg base 7 "table_number" tN (kB 5):=uG (z:=mj (wF (kB 4))) (N:=rq) Z.a3 (λsc _ _ _ _ _ _ _ hr hx hw=>(aT (dm (dA (cE hr.units) (cD gg Z.b0 Oi (Za (aD 0) aG)) aJ) (aX (bC aJ)) dj) (aT (bV 1 aJ sc) (aT (bV 2 aJ sc) (aT (i4 (jz PassesOwn.never rfl (uv Z.cr (Za (bE aQ (aD 0) aJ) aG)) (l5 rfl (gj (cR 3 sc) (gj (cR 4 sc) l4))) (aT (uH 1 (aV d9 (aV d9 (aD 2) (aD 4)) (aS (NG Z) hr cK (Za (aS (yi Z) hr cK (Za (aD 0) (Za (aD 3) aG))) aG))) sc) (aX (bV 2 (Ze jg (aD 2)) sc))))) (aX (bC (aD 1)))))))) (xJ 4)
def NI:Fp P w K mg base 7 "table_number" tN Db:=NH Z
theorem HR:Fp P w K mg base 6 "table_of" (Zim.take 1) wS:=cJ KP Z.av λsc hr hx hw=>aT (td (aS (Aj Z) hr hx (Za (aD 0) aG))) (aT (bV 1 (aS (qF Z) hr hx (Za (aD 0) aG)) sc) (aX (bC (PXL.px (iq ["i"] [0,1] rfl (mX Z.b5 (Za (aD 1) aG)) (λ_ _ _=>(cR 0 (by decide +kernel:List.Nodup (["i", "slants", "size"]:List Str)))) (λ_ _ _=>im) (λ_ _ _=>(PXL.px (yZ y4 Z.b2 boot_list (Za (g9 (aD 1) (fP (aV ge (aV ge (aD 2) aJ) (aD 0))) (fP (aV ge (aV ge (aV d9 aJ (aD 2)) aJ) (aD 0)))) aG)))))))))
theorem NJ:Fp P w K mg base 8 "number_of" (ZhD.take 1) xH:=cJ MF Z.a4 λsc hr hx hw=>aX (bC (aS (NI Z) hr hx (Za (aS (HR Z) hr hx (Za (aD 0) aG)) aG)))
theorem NK:Fp P w K mg base 9 "corner_numbers" (Zd4.take 1) xI:=cJ MH Z.a5 λsc hr hx hw=>aT (td (aS (Aj Z) hr hx (Za (aD 0) aG))) (aX (bC (PXL.px (iq ["size"] [0] rfl (ud Z.b5 (Za aJ (Za (aV db (aS (qF Z) hr hx (Za (aD 0) aG)) aJ) aG))) (λ_ _ _=>(cR 0 (by decide +kernel:List.Nodup (["size", "slants"]:List Str)))) (λ_ _ _=>im) (λ_ _ _=>(aS (NJ Z) hr cK (Za (aS (yh Z) hr cK (Za (aD 1) (Za (aD 0) aG))) aG)))))))
theorem NM:Fp P w K mg base 10 "weak_sizes" (Zgu.take 1) zZ:=cJ MJ Z.a6 λsc hr hx hw=>aX (bC (PXL.px (iq ["size", "number"] [] rfl (Mt Z.cr (Za (aS (NK Z) hr hx (Za (aD 0) aG)) aG)) (λ_ _ _=>(l5 rfl (gj (cR 0 (by decide +kernel:List.Nodup (["size", "number"]:List Str))) (gj (cR 1 (by decide +kernel:List.Nodup (["size", "number"]:List Str))) l4)))) (λ_ _ _=>(E2 (dA (cE hr.units) (aD 1) aJ))) (λ_ _ _=>(aD 0)))))
theorem HS:Fp P w K mg base 11 "first_weak" (Zgw.take 1) xO:=cJ MS Z.a7 λsc hr hx hw=>aT (bV 1 (aS (NM Z) hr hx (Za (aD 0) aG)) sc) (aX (bC (BD (dA wu (cD gg Z.b0 Oi (Za (aD 1) aG)) aJ) (bE aQ (aD 1) aJ) jx)))
theorem HU:Fp P w K mg base 1 "common_divisor" (Zd5.take 2) zm:=cJ Kw Z.ad λsc hr hx hw=>aT (i4 (Zl PassesOwn.never (dA (iX hr.units) (aD 1) aJ) (aX (BM 0 1 sc (Za (aD 1) (Za (aV ql (aD 0) (aD 1)) aG)))))) (aX (bC (cD BI Z.b4 boot_abs (Za (aD 0) aG))))
theorem NN:Fp P w K mg base 2 "is_share" (Zir.take 1) BY:=cJ KA Z.ae λsc hr hx hw=>aT (dm (PXW.pxt (qk (jf (Zb (cD qo Z.b9 Oa (Za (aD 0) (Za (nS Z.b6 Op) aG))))) (qj (dA (iX hr.units) (cD gg Z.b0 Oi (Za (aD 0) aG)) aJ)))) (aX (bC jd)) dj) (aT (E3 (aD 0) (l5 rfl (gj (cR 1 sc) (gj (cR 2 sc) l4)))) (aT (dm (PXW.pxt (qk (jf (Zb (aS (D3 Z) hr hx (Za (aD 1) aG)))) (qj (jf (Zb (aS (D3 Z) hr hx (Za (aD 2) aG))))))) (aX (bC jd)) dj) (aX (bC (nO (lV wu (aD 2) aJ) (nN (lV (cE hr.units) (aS (HU Z) hr hx (Za (aD 1) (Za (aD 2) aG))) aJ)))))))
theorem NO:Fp P w K mg base 3 "is_row_within" (Zew.take 3) zn:=cJ KB Z.af λsc hr hx hw=>aT (dm (PXW.pxt (qk (jf (Zb (cD qo Z.b9 Oa (Za (aD 0) (Za (nS Z.b6 Op) aG))))) (qj (jf (JJ kj kj (aD 1) (cD gg Z.b0 Oi (Za (aD 0) aG)) (aD 2)))))) (aX (bC jd)) dj) (aX (bC (cD (BJ rfl) Z.cl boot_all (Za (PXL.px (iq ["part"] [] rfl (Zc (aD 0)) (λ_ _ _=>(cR 0 (by decide +kernel:List.Nodup (["part"]:List Str)))) (λ_ _ _=>im) (λ_ _ _=>(aS (NN Z) hr cK (Za (aD 0) aG))))) aG))))
theorem NP:Fp P w K mg base 4 "is_row" (ZlF.take 2) zp:=cJ KD Z.ag λsc hr hx hw=>aX (bC (aS (NO Z) hr hx (Za (aD 0) (Za (aD 1) (Za (aD 1) aG)))))
theorem HV:Fp P w K mg base 6 "row_good" (Zip.take 2) uj:=cJ KR Z.ax λsc hr hx hw=>aT (td (aS (Aj Z) hr hx (Za (aD 0) aG))) (aX (bC (aS (NP Z) hr hx (Za (aD 1) (Za (aS (qF Z) hr hx (Za (aD 0) aG)) aG)))))
theorem D4:Fp P w K mg base 1 "row_of" (ZlC.take 1) tz:=cJ KI Z.am λsc hr hx hw=>aX (bC (lW qY Z.b6 Op (Za (PXL.px (iq ["number"] [] rfl (Zc (aD 0)) (λ_ _ _=>(cR 0 (by decide +kernel:List.Nodup (["number"]:List Str)))) (λ_ _ _=>im) (λ_ _ _=>(dI (Za (aD 0) (Za aJ aG)))))) aG)))
theorem NQ:Fp P w K mg base 7 "share_rows" (Zgv.take 1) zt:=cJ KS Z.ay λsc hr hx hw=>aX (bC (PXL.px (iq ["numbers"] [] rfl (Zc (aS (HR Z) hr hx (Za (aD 0) aG))) (λ_ _ _=>(cR 0 (by decide +kernel:List.Nodup (["numbers"]:List Str)))) (λ_ _ _=>im) (λ_ _ _=>(aS (D4 Z) hr cK (Za (aD 0) aG))))))
theorem Ak:Fp P w K mg base 2 "share_by" (Zin.take 2) tx:=cJ KG Z.ah λsc hr hx hw=>aT (J1 (dA (iX hr.units) (aD 1) aJ)) (aT (bV 2 (aS (HU Z) hr hx (Za (aD 0) (Za (aD 1) aG))) sc) (aT (dm (dA sY (aD 1) aJ) (aX (bV 2 (Ze jg (aD 2)) sc)) dj) (aX (bC (dI (Za (aV lY (aD 0) (aD 2)) (Za (aV lY (aD 1) (aD 2)) aG)))))))
theorem NR:Fp P w K mg base 3 "plus" (ZoR.take 2) wP:=cJ FY Z.ai λsc hr hx hw=>aX (bC (aS (Ak Z) hr hx (Za (aV db (aV d9 (bE aQ (aD 0) aJ) (bE aQ (aD 1) aJ)) (aV d9 (bE aQ (aD 1) aJ) (bE aQ (aD 0) aJ))) (Za (aV d9 (bE aQ (aD 0) aJ) (bE aQ (aD 1) aJ)) aG))))
theorem D5:Fp P w K mg base 3 "times" (Zny.take 2) rc:=cJ FZ Z.ak λsc hr hx hw=>aX (bC (aS (Ak Z) hr hx (Za (aV d9 (bE aQ (aD 0) aJ) (bE aQ (aD 1) aJ)) (Za (aV d9 (bE aQ (aD 0) aJ) (bE aQ (aD 1) aJ)) aG))))
theorem NS:Fp P w K mg base 4 "sum_of_products" (ZdF.take 2) zq:=cJ KJ Z.aq λsc hr hx hw=>aT (bV 2 (xE Z.cs) sc) (aT (i4 (jz PassesOwn.never rfl (BO Z.b7 (Za (aD 0) (Za (aD 1) aG))) (l5 rfl (gj (cR 3 sc) (gj (cR 4 sc) l4))) (aX (bV 2 (aS (NR Z) hr cK (Za (aD 2) (Za (aS (D5 Z) hr cK (Za (aD 3) (Za (aD 4) aG))) aG))) sc)))) (aX (bC (aD 2))))
theorem D6:Fp P w K mg base 8 "times_row" (ZhC.take 2) uk:=cJ KU Z.az λsc hr hx hw=>aT (dm (jf (Zb (aS (HV Z) hr hx (Za (aD 0) (Za (aD 1) aG))))) (aX (wV hw Z.ct)) dj) (aX (bC (lW qY Z.b6 Op (Za (PXL.px (iq ["line"] [1] rfl (Zc (aS (NQ Z) hr hx (Za (aD 0) aG))) (λ_ _ _=>(cR 0 (by decide +kernel:List.Nodup (["line", "row"]:List Str)))) (λ_ _ _=>im) (λ_ _ _=>(aS (NS Z) hr cK (Za (aD 0) (Za (aD 1) aG)))))) aG))))
theorem HW:Fp P w K mg base 9 "makes" (ZnA.take 3) xp:=cJ LR Z.a0 λsc hr hx hw=>aX (bC (nO (aS (HV Z) hr hx (Za (aD 0) (Za (aD 1) aG))) (nN (lV (cE hr.units) (aS (D6 Z) hr hx (Za (aD 0) (Za (aD 1) aG))) (aD 2)))))
theorem HX:Fp P w K mg base 2 "one_at" (ZlE.take 2) xo:=cJ LQ Z.an λsc hr hx hw=>aX (bC (aS (D4 Z) hr hx (Za (PXL.px (iq ["at"] [0] rfl (mX Z.b5 (Za (aD 1) aG)) (λ_ _ _=>(cR 0 (by decide +kernel:List.Nodup (["at", "place"]:List Str)))) (λ_ _ _=>im) (λ_ _ _=>(lW y6 Z.b1 boot_int (Za (lV (cE hr.units) (aD 0) (aD 1)) aG))))) aG)))
theorem NT:Fp P w K mg base 10 "ends_good" (ZhF.take 2) uz:=cJ LY Z.a1 λsc hr hx hw=>aT (dm (PXW.pxt (qk (jf (Zb (cD qo Z.b9 Oa (Za (aD 1) (Za (nS Z.b6 Op) aG))))) (qj (dA (iX hr.units) (cD gg Z.b0 Oi (Za (aD 1) aG)) aJ)))) (aX (bC jd)) dj) (aT (bV 2 (aS (qF Z) hr hx (Za (aD 0) aG)) sc) (aX (bC (nO (aS (HW Z) hr hx (Za (aD 0) (Za (bE aQ (aD 1) aJ) (Za (aS (HX Z) hr hx (Za aJ (Za (aD 2) aG))) aG)))) (nN (aS (HW Z) hr hx (Za (aD 0) (Za (bE aQ (aD 1) aJ) (Za (aS (HX Z) hr hx (Za (aV ge (aD 2) aJ) (Za (aD 2) aG))) aG)))))))))
theorem HY:Fp P w K mg base 3 "minus" (Znz.take 2) wQ:=cJ Ly Z.aj λsc hr hx hw=>aX (bC (aS (Ak Z) hr hx (Za (aV ge (aV d9 (bE aQ (aD 0) aJ) (bE aQ (aD 1) aJ)) (aV d9 (bE aQ (aD 1) aJ) (bE aQ (aD 0) aJ))) (Za (aV d9 (bE aQ (aD 0) aJ) (bE aQ (aD 1) aJ)) aG))))
theorem yj:Fp P w K mg base 3 "by" (N_by.take 2) qv:=cJ xj Z.al λsc hr hx hw=>aX (bC (aS (Ak Z) hr hx (Za (aV d9 (bE aQ (aD 0) aJ) (bE aQ (aD 1) aJ)) (Za (aV d9 (bE aQ (aD 0) aJ) (bE aQ (aD 1) aJ)) aG))))
theorem D7:Fp P w K mg base 4 "row_by" (ZlD.take 2) uA:=cJ L6 Z.ao λsc hr hx hw=>aX (bC (lW qY Z.b6 Op (Za (PXL.px (iq ["part"] [1] rfl (Zc (aD 0)) (λ_ _ _=>(cR 0 (by decide +kernel:List.Nodup (["part", "share"]:List Str)))) (λ_ _ _=>im) (λ_ _ _=>(aS (yj Z) hr cK (Za (aD 0) (Za (aD 1) aG)))))) aG)))
theorem HZ:Fp P w K mg base 4 "row_less" (Zio.take 3) xu:=cJ L7 Z.ap λsc hr hx hw=>aX (bC (lW qY Z.b6 Op (Za (PXL.px (iq ["left", "right"] [1] rfl (BO Z.b7 (Za (aD 0) (Za (aD 2) aG))) (λ_ _ _=>(l5 rfl (gj (cR 0 (by decide +kernel:List.Nodup (["left", "right", "share"]:List Str))) (gj (cR 1 (by decide +kernel:List.Nodup (["left", "right", "share"]:List Str))) l4)))) (λ_ _ _=>im) (λ_ _ _=>(aS (HY Z) hr cK (Za (aD 0) (Za (aS (D5 Z) hr cK (Za (aD 2) (Za (aD 1) aG))) aG)))))) aG)))
theorem D8:Fp P w K mg base 9 "longer_step" (ZfR.take 2) rz:=cJ MV Z.ba λsc hr hx hw=>aT (bV 2 (aV db (bE aQ (aD 1) aJ) (dI (Za (xE Z.cs) aG))) sc) (aT (bV 3 (aV db (dI (Za (xE Z.cs) aG)) (bE aQ (aD 1) aJ)) sc) (aT (bV 4 (bE aQ (aS (D6 Z) hr hx (Za (aD 0) (Za (aD 2) aG))) (Ze jg aJ)) sc) (aT (bV 5 (bE aQ (aS (D6 Z) hr hx (Za (aD 0) (Za (aD 3) aG))) aJ) sc) (aT (bV 6 (aS (HY Z) hr hx (Za (xE Z.cu) (Za (aS (D5 Z) hr hx (Za (aD 4) (Za (aD 5) aG))) aG))) sc) (aX (bC (dI (Za (aS (D7 Z) hr hx (Za (aS (HZ Z) hr hx (Za (aD 2) (Za (aD 4) (Za (aD 3) aG)))) (Za (aD 6) aG))) (Za (aS (D7 Z) hr hx (Za (aS (HZ Z) hr hx (Za (aD 3) (Za (aD 5) (Za (aD 2) aG)))) (Za (aD 6) aG))) aG)))))))))
theorem D9:Fp P w K mg base 12 "need_strong" (ZfP.take 1) pE:=cJ M7 Z.a8 λsc hr hx hw=>aT (bV 1 (aS (HS Z) hr hx (Za (aD 0) aG)) sc) (aX (dm (dA Cy (aD 1) jx) (aX (M4 Fl.raisd_cx (XK1.xf (k:=0) Z.cv Hx) (hr.mono (by decide)) (aD 1))) dj))
theorem NU:Fp P w K mg base 13 "step_next" (ZdU.take 2) xT:=cJ Hv Z.bc λsc hr hx hw=>aT (td (aS (D9 Z) hr hx (Za (aD 0) aG))) (aT (bV 2 (aS (qF Z) hr hx (Za (aD 0) aG)) sc) (aT (dm (dA (cE hr.units) (aD 2) aJ) (aX (wV hw Z.cq)) dj) (aT (dm (jf (Zb (aS (NT Z) hr hx (Za (aS (yh Z) hr hx (Za (aD 0) (Za (aV ge (aD 2) aJ) aG))) (Za (aD 1) aG))))) (aX (wV hw Z.ct)) dj) (aX (bC (aS (D8 Z) hr hx (Za (aD 0) (Za (aD 1) aG))))))))
theorem Ia:Fp P w K mg base 7 "first_step" (Zgx.take 1) xP:=cJ MU Z.a9 λsc hr hx hw=>aT (bV 1 (aS (D7 Z) hr hx (Za (dI (Za (xE Z.cu) aG)) (Za (bE aQ (aS (D4 Z) hr hx (Za (aS (yh Z) hr hx (Za (aD 0) (Za aJ aG))) aG)) aJ) aG))) sc) (aX (bC (dI (Za (aD 1) (Za (aD 1) aG)))))
theorem NV:Fp P w K mg base 13 "steps_of" (Zct.take 1) DL:=cJ M8 Z.bb λsc hr hx hw=>aT (td (aS (D9 Z) hr hx (Za (aD 0) aG))) (aT (qp 1 (gO (Za (aS (Ia Z) hr hx (Za (aD 0) aG)) aG)) sc) (aT (i4 (jz PassesOwn.never rfl (ud Z.b5 (Za aJ (Za (aV db (aS (qF Z) hr cK (Za (aD 0) aG)) aJ) aG))) (cR 2 sc) (aX (wD 1 (zc 1 (aS (D8 Z) hr cK (Za (aS (yh Z) hr cK (Za (aD 0) (Za (aD 2) aG))) (Za (bE aQ (aD 1) (Ze jg aJ)) aG)))))))) (sZ 1 (aX (bC (aD 1))))))
theorem NW:C7 P w K mg base 13 "steps_of" (Zct.take 1) yf:=C9 (z:=Ae) (N:=Zct) Z.bb (λsc _ _ _ _ _ _ _ hr hx hw=>(C6 (td (aS (D9 Z) hr hx (Za (aD 0) aG))) (C6 (qp 1 (gO (Za (aS (Ia Z) hr hx (Za (aD 0) aG)) aG)) sc) (C6 (i4 (jz PassesOwn.never rfl (ud Z.b5 (Za aJ (Za (aV db (aS (qF Z) hr cK (Za (aD 0) aG)) aJ) aG))) (cR 2 sc) (aX (wD 1 (zc 1 (aS (D8 Z) hr cK (Za (aS (yh Z) hr cK (Za (aD 0) (Za (aD 2) aG))) (Za (bE aQ (aD 1) (Ze jg aJ)) aG)))))))) (Nd 1))))) Nh Ng Nf
theorem rF:Fp P w K mg base 14 "_law_told" (ZhI.take 3) nu:=cJ Nm Z.bu λsc hr hx hw=>aX (Kp LX5 3 Z.cw sc (λ_ _ _ hx1=>(aT (dm (dA (cE hr.units) (aD 0) aJ) (aX (bC (aS (HS Z) hr hx1 (Za (aD 1) aG)))) dj) (aX (bC (BD (dA (cE hr.units) (aD 0) aJ) (aS (NV Z) hr hx1 (Za (aD 1) aG)) (aS (NU Z) hr hx1 (Za (aD 1) (Za (aD 2) aG)))))))) (λ_ _=>(aT (dm (Zb (cD (mZ Z.xi) Z.b9 Oa (Za (aD 3) (Za (pC Z.ci) aG)))) (aX (bC (dI (Za (Fx (HP Z) (hr.u.mark) (Za (aD 3) aG)) (Za (M6 Z.cv Hx (aD 3)) aG))))) dj) (aX (bC (Fx (HP Z) (hr.u.mark) (Za (aD 3) aG)))))))
theorem Ib:Fp P w K mg base 4 "_law_weak" (ZhG.take 1) xU:=cJ M1 Z.bq λsc hr hx hw=>aT (i4 (jz PassesOwn.never rfl (ud Z.b5 (Za aJ (Za (aV db (aV lY (aV db (cD gg Z.b0 Oi (Za (aD 0) aG)) aJ) aJ) aJ) aG))) (cR 1 sc) (aX (dm (dA Cw (aS (D1 Z) hr cK (Za (aS (HN Z) hr cK (Za (aD 0) (Za (aD 1) aG))) (Za (aS (D2 Z) hr cK (Za (aD 1) (Za aJ aG))) aG))) jx) (aX (bC (aD 1))) dj)))) (aX (bC jx))
theorem Al:Fp P w K mg base 15 "_law_right" (ZgD.take 2) tR:=cJ Nr Z.bx λsc hr hx hw=>aT (bV 2 (aS (Ib Z) hr hx (Za (aD 0) aG)) sc) (aT (dm (dA zH (cD (rj hr.gd hr.units) Z.cx rh (Za (aS (rF Z) hr hx (Za aJ (Za (aD 0) (Za jx aG)))) aG)) (cD (rj hr.gd hr.units) Z.cx rh (Za (aD 2) aG))) (aX (bC jd)) dj) (aT (dm (dA Cy (aD 2) jx) (aX (bC (nO (lV (cE hr.units) (aS (rF Z) hr hx (Za aJ (Za (aD 0) (Za jx aG)))) (dI (Za je (Za (aD 2) aG)))) (nN (lV (cE hr.units) (aS (rF Z) hr hx (Za aJ (Za (aD 0) (Za jx aG)))) (dI (Za je (Za (aD 2) aG)))))))) dj) (aT (bV 3 (aS (NA Z) hr hx (Za (aD 0) aG)) sc) (aT (i4 (jz PassesOwn.never rfl (mX Z.b5 (Za aJ aG)) (cR 4 sc) (aT (qp 5 (Mr (NW Z) hr cK (Za (aD 0) aG)) sc) (aT (dm (J2 5 (dA zH (cD (rj hr.gd hr.units) Z.cx rh (Za (aD 5) aG)) (cD (rj hr.gd hr.units) Z.cx rh (Za (aD 3) aG)))) (aX (bC jd)) dj) (aX (wD 5 aJ)))))) (aT (dm (dA (cE hr.units) (cD gg Z.b0 Oi (Za (aD 3) aG)) aJ) (aX (bC (nO (lV (cE hr.units) (aS (rF Z) hr hx (Za aJ (Za (aD 0) (Za jx aG)))) je) (nN (lV (cE hr.units) (aS (rF Z) hr hx (Za aJ (Za (aD 0) (Za (bE aQ (aD 3) aJ) aG)))) je))))) dj) (aT (dm (dA zH (cD (rj hr.gd hr.units) Z.cx rh (Za (aS (rF Z) hr hx (Za aJ (Za (aD 0) (Za (bE aQ (aD 3) (Ze jg aJ)) aG)))) aG)) (cD (rj hr.gd hr.units) Z.cx rh (Za (bE aQ (aD 3) (Ze jg aJ)) aG))) (aX (bC jd)) dj) (aT (i4 (jz PassesOwn.never rfl (mX Z.b5 (Za aJ aG)) (cR 4 sc) (aT (bV 6 (aS (Ny Z) hr cK (Za (bE aQ (aD 3) (Ze jg aJ)) (Za (aD 1) aG))) sc) (aX (dm (dA zH (cD (rj hr.gd hr.units) Z.cx rh (Za (aS (rF Z) hr cK (Za aJ (Za (aD 0) (Za (aD 6) aG)))) aG)) (cD (rj hr.gd hr.units) Z.cx rh (Za (BD (dA (cE hr.units) (aD 6) (bE aQ (aD 3) (Ze jg aJ))) (bE aQ (aD 3) (Ze jg aJ)) je) aG))) (aX (bC jd)) dj))))) (aX (bC jd)))))))))
theorem Ic:Fp P w K mg base 3 "_law_slants_by" (Zd7.take 1) w4:=cJ Lc Z.bm λsc hr hx hw=>aT (bV 1 (aV db aJ (aS (ny Z) hr hx (Za (aD 0) (Za aJ aG)))) sc) (aT (bV 2 (aS (ny Z) hr hx (Za (aD 0) (Za aJ aG))) sc) (aT (bV 3 (bE aQ (PXL.px (gO (Za aJ (Za aJ (Za aJ (Za aJ aG)))))) (aS (ny Z) hr hx (Za (aD 0) (Za aJ aG)))) sc) (aT (wz 4 ["_law_place"] [0,3] rfl sc (mX Z.b5 (Za (aV ge (aV d9 aJ (aD 1)) aJ) aG)) (λ_ _ _=>(cR 0 (by decide +kernel:List.Nodup (["_law_place", "_law_pen", "_law_span"]:List Str)))) (λ_ _ _=>im) (λ_ _ _=>(aV ge (aS (ny Z) hr cK (Za (aD 1) (Za (aV db (aV d9 aJ (aD 2)) aJ) aG))) (aD 2)))) (aT (dm (dA (cE hr.units) (aD 2) aJ) (aX (qp 4 (zd 4 (BQ (g9 (aD 4) jL (fP (aD 1))) (JT (g9 (aD 4) jL (fP (aV ge (aD 1) aJ)))))) sc)) dj) (aT (dm (dA (cE hr.units) (aD 2) aJ) (aX (qp 4 (zd 4 (BQ (g9 (aD 4) (fP aJ) (fP (aD 1))) (g9 (aD 4) jL (fP (aD 1))))) sc)) dj) (aT (dm (dA (cE hr.units) (aD 2) aJ) (aX (qp 4 (zd 4 (BQ (g9 (aD 4) jL (fP (aD 1))) (aV d9 (PXL.px (gO (Za aJ aG))) (aV ge (aD 1) aJ)))) sc)) dj) (aT (dm (dA (cE hr.units) (aD 2) aJ) (aX (BP 4 (aV ge (aD 1) aJ) aJ)) dj) (aT (dm (dA (cE hr.units) (aD 2) aJ) (aX (qp 4 (zd 4 (Zp (g9 (aD 4) jL (fP aJ)) (aV ge (aV d9 aJ (aD 1)) aJ))) sc)) dj) (sZ 4 (aX (bC (lW qY Z.b6 Op (Za (aD 4) aG)))))))))))))
theorem NX:Fp P w K mg base 1 "_law_whole" (Zgz.take 1) zC:=cJ Lj Z.bh λsc hr hx hw=>aX (bC (nO (cD qo Z.b9 Oa (Za (aD 0) (Za (nS Z.b1 boot_int) aG))) (nN (EU (cD qo Z.b9 Oa (Za (aD 0) (Za (nS Z.ck boot_bool) aG)))))))
theorem NY:Fp P w K mg base 2 "_law_slants_good" (ZcS.take 1) zE:=cJ Lk Z.bt λsc hr hx hw=>aT (dm (PXW.pxt (qk (jf (Zb (cD qo Z.b9 Oa (Za (aD 0) (Za (nS Z.b6 Op) aG))))) (qj (dA wX (cD gg Z.b0 Oi (Za (aD 0) aG)) (dI (Za aJ (Za aJ (Za aJ (Za aJ (Za aJ aG)))))))))) (aX (bC jd)) dj) (aX (bC (cD (BJ rfl) Z.cl boot_all (Za (PXL.px (iq ["_law_one"] [] rfl (Zc (aD 0)) (λ_ _ _=>(cR 0 (by decide +kernel:List.Nodup (["_law_one"]:List Str)))) (λ_ _ _=>im) (λ_ _ _=>(nO (aS (NX Z) hr cK (Za (aD 0) aG)) (nN (EV kj kj (Ze jg aJ) (aD 0) aJ)))))) aG))))
theorem NZ:Fp P w K mg base 5 "_law_strong_by" (Zd6.take 1) Ab:=cJ M3 Z.br λsc hr hx hw=>aT (bV 1 (aS (Ic Z) hr hx (Za (aD 0) aG)) sc) (aT (dm (dA Cy (aS (Ib Z) hr hx (Za (aD 1) aG)) jx) (aT (bV 2 (aV lY (aV db (cD gg Z.b0 Oi (Za (aD 1) aG)) aJ) aJ) sc) (aT (bV 1 (lW qY Z.b6 Op (Za (PXL.px (iq ["_law_one"] [] rfl (Zc (aD 1)) (λ_ _ _=>(cR 0 (by decide +kernel:List.Nodup (["_law_one"]:List Str)))) (λ_ _ _=>im) (λ_ _ _=>(aV ge (aV ql (aD 0) aJ) aJ)))) aG)) sc) (aX (bV 1 (aV db (aV db (g9 (aD 1) jL (fP (aV ge (aD 2) aJ))) (dI (Za aJ aG))) (g9 (aD 1) (fP (aD 2)) jL)) sc)))) dj) (aX (bC (aD 1))))
theorem all_mk(hfa:mg "law" = some (.ref fa)):∃fd:FuncData,(∀(s:Shared) (v:Value),BindsTo s fd ⟨[v],[]⟩ [("_law_script",v)])/\∀base:Heap,K.In base->base.Ns mainGlobals mg->FnOk l.prog w K mg base (cU l.prog w) 16 fa fd ["_law_script"] (fV K yg):=
 Mn (z:=Ai) (N:=HF) Z.bz hfa (λ_ sc _ _ _ _ _ _ _ hr hx hw=>(aT (dm (PXW.pxt (qk (jf (Zb (aS (Al Z) hr hx (Za (dI (Za aJ aG)) (Za (aS (DY Z) hr hx (Za aJ aG)) aG))))) (qj (jf (Zb (aS (Al Z) hr hx (Za (dI (Za aJ aG)) (Za (aS (DY Z) hr hx (Za aJ aG)) aG)))))))) (aX (bC jd)) dj) (aT (i4 (jz PassesOwn.never rfl (Zc (aV db (PXL.px (gO (Za (aS (Nw Z) hr cK (Za (aD 0) (Za aJ aG))) aG))) (g9 (aD 0) (fP aJ) (fP aJ)))) (cR 1 sc) (aT (bV 2 (aS (DY Z) hr cK (Za (aD 1) aG)) sc) (aT (bV 3 (aS (Ic Z) hr cK (Za (aD 2) aG)) sc) (aT (dm (PXW.pxt (qk (jf (Zb (aS (Al Z) hr cK (Za (aD 3) (Za (aD 2) aG))))) (qj (jf (Zb (aS (Al Z) hr cK (Za (aS (NZ Z) hr cK (Za (aD 2) aG)) (Za (aD 2) aG)))))))) (aX (bC jd)) dj) (aT (bV 4 (aS (Nx Z) hr cK (Za (aD 2) (Za (aD 3) aG))) sc) (aX (dm (PXW.pxt (JI (jf (Zb (aS (NY Z) hr cK (Za (aD 4) aG)))) (JH (dA (iX hr.units) (PXL.px (iq ["_law_way"] [4] rfl (mX Z.b5 (Za aJ aG)) (λ_ _ _=>(cR 0 (by decide +kernel:List.Nodup (["_law_way", "_law_bad"]:List Str)))) (λ_ _ _=>im) (λ_ _ _=>(aS (rF Z) hr cK (Za (aD 0) (Za (aD 1) (Za jx aG))))))) (aV d9 (PXL.px (gO (Za je aG))) aJ))))) (aX (bC jd)) dj)))))))) (aX (bC jd))))) Nu
end
theorem walk{q:Program}{loose:List Str}{d:DefRec}{K:Params->N4}(hn:l.most=some 63)(hdf:d.params.defaults=[])
  (hY:∀(w:World) (h:Heap),YP w h->(K w.params).In h)
  (F:∀ (w:World) (mg:Str->Option Value) (fa:Addr) (h:Heap),(K w.params).In h->h.Ns mainGlobals mg->mg d.name=some (.ref fa)->
   ∃fd:FuncData,(∀(s:Shared) (u:Value),BindsTo s fd ⟨[u],[]⟩ [("_law_script",u)])/\∀base:Heap,(K w.params).In base->base.Ns mainGlobals mg->FnOk l.prog w (K w.params) mg base (cU l.prog w) 16 fa fd ["_law_script"] (fV (K w.params) yg)) :
  PySem.W.WalkO q loose XP YP l.row.toRowW d [] (λf vs=>PySem.call f vs):=
 L2.walk_of (n:=63) (k:=16) (x:= "_law_script") (CX:=λw=>cU l.prog w) (sp:=λw=>fV (K w.params) yg) hn (by decide) hdf ⟨rfl,rfl,by decide,by decide⟩ hY F (λ_ _ a ns hl hO hS=>Nv hl hO hS) λ_ _ _ _ _ ⟨_,_,_,_,_,_,_,_,_,_,_,_,_,z⟩=>z
end G.V9.W.E7
end LP
namespace PySem.W.Fast
def tw17926014889309359625:=0
def tw9715600359947849934:=0
def tw1347769752838040612:=0
def tw17303533103823990841:=0
def tw10045652902942942812:=0
def tw1709227451009696824:=0
def tw7968589523374716501:=0
def tw6467123081724101122:=0
def tw5909681860370614743:=0
def tw6598333878020350973:=0
def tw12926528665665576100:=0
def tw1822279071469738573:=0
def tw10459668758743842071:=0
def tw15494816806288487550:=0
def tw18244584726953358144:=0
def tw13505242420872710734:=0
def tw13159653598069251912:=0
def tw1696355089520136599:=0
def tw4370240809669160233:=0
def tw13497785803141482248:=0
def tw17019968916450313922:=0
def tw2747154121714000746:=0
def tw12294370735071331926:=0
def tw13253425686707509923:=0
def tw13171924402363852340:=0
def tw3583719073811086078:=0
def tw11223352341559997018:=0
def tw750116659238333970:=0
def tw198459600708690540:=0
def tw12886488003900593051:=0
def tw7154892659673393630:=0
def tw8897220550200691593:=0
def tw9083901223739243631:=0
def tw14579836527975403813:=0
def tw11001746894409700448:=0
def tw17976096673945330366:=0
def tw14774363949879963395:=0
def tw13837930297581370976:=0
def tw10014066810149613411:=0
def tw13464682842298318316:=0
def tw7084253089780163444:=0
def tw17893127223956133800:=0
def tw5383005197655000242:=0
def tw11607915594716382674:=0
def tw13930498605819313627:=0
def tw5229880912299642837:=0
def tw71719382503396661:=0
def tw8731562045040013647:=0
def tw1342321968255075147:=0
def tw16638626980555449796:=0
def tw16566160330740033034:=0
def tw13343716369875863366:=0
def tw15203926577763926202:=0
def tw6694021765112398252:=0
def tw8483832836536093404:=0
def tw13134490063519694489:=0
def tw7853970533800469009:=0
def tw417475945156488384:=0
def tw8006461867484167852:=0
def tw10719749608707096989:=0
def tw3457717933294443943:=0
def tw15414626577488459737:=0
def tw2075323897388289921:=0
def tw2220858172828009812:=0
def tw9341795899966651890:=0
def tw7052762569076802258:=0
def tw9987119486429150632:=0
def tw9662508420945357348:=0
def tw195888205768875860:=0
def tw1216801382513167107:=0
def tw10508878334181866747:=0
def tw6857554541467798007:=0
def tw4757877418762897538:=0
def tw14665118110992235221:=0
def tw12203607165271315429:=0
def tw14715986430820268927:=0
def tw17052271838813442552:=0
def tw4198177874324785986:=0
def tw14911338317294005356:=0
def tw11251948968359971397:=0
def tw16375903103237596469:=0
def tw16488905983342725003:=0
def tw4213168622636379709:=0
def tw341143061218595491:=0
def tw1962726971616919409:=0
def tw3574530649767325082:=0
def tw17038473643352643481:=0
def tw2744486351269015028:=0
def tw7540415025080499325:=0
def tw5538188087566840288:=0
def tw16403413673041610424:=0
def tw2495962694424351174:=0
def tw18043018440885889577:=0
def tw9365287491158968271:=0
def tw15102876624241450444:=0
def tw18267426229788539444:=0
def tw2054352959568636637:=0
def tw18000762322701122501:=0
def tw4877876113474223725:=0
def tw4561178883647876331:=0
def tw8561175808902395168:=0
def tw11528539403885599611:=0
def tw6025618470984135420:=0
def tw13972359678729632011:=0
def tw11510353865312814099:=0
def tw7285705441954778818:=0
def tw12467514296269810469:=0
def tw14481284103735882533:=0
def tw2539611471527271280:=0
def tw3419847134554926601:=0
def tw9259910399389860704:=0
def tw11009364872447934561:=0
def tw6799937685281688973:=0
def tw5070172676413128494:=0
def tw13259899903934686905:=0
def tw1222007870625662242:=0
def tw2927895433519494987:=0
def tw11421907549276724507:=0
def tw10002485725813131696:=0
def tw2135148676081708351:=0
def tw6014796870972188558:=0
def tw13516191559475068090:=0
def tw16513729522231892946:=0
def tw4860424226921627487:=0
def tw14555908389994038548:=0
def tw609730837526012955:=0
def tw156136257948853918:=0
def tw13588548059184877549:=0
def tw1700566915518312699:=0
def tw481504353680383890:=0
def tw15637627621580688376:=0
def tw15872656097656709243:=0
def tw14231328820947407708:=0
def tw17118481030989543606:=0
def tw3673161770178378020:=0
def tw16288527338319152001:=0
def tw14343358196826478989:=0
def tw16699972742719851510:=0
def tw15927699577009860617:=0
def tw12152291715083824654:=0
def tw14711750850103284588:=0
def tw9576189572288952705:=0
def tw8410909217047080579:=0
def tw10092045601936976342:=0
def tw4568870854601090594:=0
def tw5947302984166851060:=0
def tw2558637307504480271:=0
def tw176650653827759766:=0
def tw9330979340545313454:=0
def tw5382757363810409568:=0
def tw10962927476764693916:=0
def tw2863882650896691081:=0
def tw12496771080074775502:=0
def tw5827265815144466001:=0
def tw9468516717017600378:=0
def tw3557206035534617091:=0
def tw6647337894307318250:=0
def tw1477711406131630554:=0
def tw15945843825267936376:=0
def tw690346800917625690:=0
def tw3473897391683509484:=0
def tw8279863645161254855:=0
def tw9624471833333783960:=0
def tw13511037574238009434:=0
def tw7951379347175362330:=0
def tw5598617260508668538:=0
def tw13773590487182116834:=0
def tw4043348110158134661:=0
def tw17061739971525829259:=0
def tw14076991642497495967:=0
def tw6250294774096544096:=0
def tw1367027134735087640:=0
def tw9165251074498600862:=0
def tw9161456609965272121:=0
def tw2985103377690556736:=0
def tw768384492272011298:=0
def tw10416502219088200543:=0
def tw6974687521377423308:=0
def tw15655000128903782175:=0
def tw12456018776845076758:=0
def tw8681427169103920536:=0
def tw7536796403957466577:=0
def tw7044165980580626374:=0
def tw6106640557454600366:=0
def tw5796124286536853721:=0
def tw5483821818979658077:=0
def tw5081392434210751237:=0
def tw4804463043979477443:=0
def tw4555700709973161299:=0
def tw4311300803145251796:=0
def tw3930984507813355196:=0
def tw3599205710574984361:=0
def tw3259243318428238865:=0
def tw3076949335998062665:=0
def tw2757247835011678238:=0
def tw2486056062703295003:=0
def tw2459319988068033630:=0
def tw18208449725716426788:=0
def tw17958761835251694544:=0
def tw17446005883715123815:=0
def tw16323120689905283789:=0
def tw16142171412358477238:=0
def tw15906351487813263702:=0
def tw15377126269563710944:=0
def tw15113855930028330600:=0
def tw15028506139770834848:=0
def tw14966946092956839990:=0
def tw14530812296394003469:=0
def tw14185077707129313111:=0
def tw13554238944810807042:=0
def tw13194400134340953013:=0
def tw12856791687127258745:=0
def tw12666473488709226140:=0
def tw12257066004916943191:=0
def tw12055846457729848451:=0
def tw11949277494775650868:=0
def tw11821768298318459531:=0
def tw10843901221270867711:=0
def tw17562941491215956861:=0
def tw17820585836835642022:=0
def tw16304695030467232238:=0
def tw3054180606710061863:=0
def tw1973823716493151638:=0
def tw11937936685991330890:=0
def tw1971908597368554458:=0
def tw9609072324067675124:=0
def tw90012709383801591:=0
def tw5580819322557030622:=0
def tw5143399360927362558:=0
def tw492011021595091597:=0
def tw4417432381463246661:=0
def tw3691956881637828809:=0
def tw2266695814393961276:=0
def tw2098030940508763778:=0
def tw16460616132570473660:=0
def tw16442010789568043165:=0
def tw15567015762605575200:=0
def tw1416020195207277447:=0
def tw13877283982794853705:=0
def tw13423268489750836277:=0
def tw11395338449062352000:=0
def tw1833122939489787847:=0
def tw17360907212847728958:=0
def tw10090543786115592588:=0
def tw7042651461456924607:=0
def tw8813533346536898324:=0
def tw775294933689375263:=0
def tw283439510268158426:=0
def tw7764545196583666908:=0
def tw709333887702804979:=0
def tw15311615545796220551:=0
def tw11828634016046254185:=0
def tw7980855645011209504:=0
def tw13132423451647742558:=0
def tw1711160664758674504:=0
def tw9035882869191778785:=0
def tw9123854855793009782:=0
def tw7265072371468558454:=0
def tw6625317839406970685:=0
def tw575535482102362791:=0
def tw5247498664929396545:=0
def tw4442454301814719303:=0
def tw3291368157635960408:=0
def tw2096356218465669734:=0
def tw18269756821862807466:=0
def tw17012527139331856972:=0
def tw10659953952727688608:=0
def tw10627062569477255393:=0
def tw10281428019479053401:=0
def tw5888736736195403167:=0
def tw2158206600952480310:=0
def tw17754301573149705781:=0
def tw16175129001490787429:=0
def tw12689635716746057841:=0
def tw10557570981100322041:=0
def tw13374305022115867927:=0
def tw6487465348973228018:=0
def tw5137004448858747924:=0
def tw4860177459637104068:=0
def tw2653579339127105648:=0
def tw1820854230492389070:=0
def tw15056944576162175956:=0
def tw14199939336454172708:=0
def tw12949810081321974594:=0
def tw12443132172670079261:=0
def tw10883446673047655385:=0
def tw9476602140094279609:=0
def tw8732168655918202132:=0
def tw8514282204349980637:=0
def tw7874217653773494554:=0
def tw11460486530123683546:=0
def tw10749149264042564381:=0
def tw5737391729238508525:=0
def tw6769259787657426826:=0
def tw15077475374796840418:=0
def tw6318384053169560218:=0
def tw389589507876925327:=0
def tw13444871735202501755:=0
def tw9827906253489422387:=0
def tw18173189064212711340:=0
def tw17410278052594690226:=0
def tw16828703101070122617:=0
def tw1438620428022349784:=0
def tw11000265527413558842:=0
def tw11638484206435689501:=0
def tw5867853729166097573:=0
def tw4347854618605260780:=0
def tw4238981782464449681:=0
def tw1995917905990550867:=0
def tw6807593753032860913:=0
def tw6796173143960466971:=0
def tw6539060069526263725:=0
def tw5261940278987083444:=0
def tw209660618417220908:=0
def tw15710612310751815871:=0
def tw14952952754775628783:=0
def tw14923946157983989005:=0
def tw14164721797676634434:=0
def tw13418444519323095175:=0
def tw8134744900967027189:=0
def tw4753550261664382504:=0
def tw2691692366111158218:=0
def tw7303607185803637464:=0
def tw5317437042301983753:=0
def tw9719307009405494353:=0
def tw7377266884282540272:=0
def tw6987271450383653800:=0
def tw612026167401023420:=0
def tw4683565221729001834:=0
def tw1953735426079651967:=0
def tw17781507852028332247:=0
def tw15306880396155673476:=0
def tw14472056567029958948:=0
def tw12677867300209461481:=0
def tw11939251832565172747:=0
def tw15533308859100797398:=0
def tw5598859328547135005:=0
def tw2533830893946732159:=0
def tw10359780634708406992:=0
def tw13686595247180213487:=0
def tw17315760648271851465:=0
def tw1038506576987389539:=0
def tw9901814106082260794:=0
def tw6946618628921651157:=0
def tw6770471592916046017:=0
def tw4111290700617108151:=0
def tw191683201439295915:=0
def tw18136693817774113990:=0
def tw17150011150575379019:=0
def tw1657002917065045310:=0
def tw16334834162890188937:=0
def tw1561663922408674755:=0
def tw15564811660642897380:=0
def tw14585073754147470530:=0
def tw14280942708178487856:=0
def tw13031008753711353317:=0
def tw12407328466708629360:=0
def tw10766059681217039378:=0
def tw10621917508064513981:=0
def tw10488017036715722239:=0
def tw10287786889057052106:=0
def tw13495536863953144295:=0
def tw982227672980964293:=0
def tw966288902492881365:=0
def tw6843373728290307599:=0
def tw6269492520707885770:=0
def tw5787469783868819067:=0
def tw3274209623229554272:=0
def tw16838049037852244274:=0
def tw1041169519823504893:=0
def tw10240769812571184310:=0
def tw9656417231723637164:=0
def tw9635995616717511594:=0
def tw8290859014758145109:=0
def tw7088723779269281202:=0
def tw6689415521888490716:=0
def tw4957016978808823177:=0
def tw4694881341291219669:=0
def tw3509178890331657564:=0
def tw2303965654411004544:=0
def tw17510300458586118979:=0
def tw17433682708673281480:=0
def tw17391514506179182188:=0
def tw14734057153090512001:=0
def tw13152680465966302987:=0
def tw1268378893553938772:=0
def tw12317796787520413626:=0
def tw11961518355727289578:=0
def tw10971501142284873649:=0
def tw10475479979496788938:=0
def tw9638357495448737791:=0
def tw7232095065281482689:=0
def tw5899253168218988667:=0
def tw5341366289581005994:=0
def tw3409762631272355407:=0
def tw18320927677169480076:=0
def tw16753059521717807757:=0
def tw15422945141642802207:=0
def tw15134460822541687470:=0
def tw12129891022398711012:=0
def tw13905136288583107089:=0
def tw8296320818489887573:=0
def tw8206042390487797067:=0
def tw7045937327325501307:=0
def tw2916094561295892815:=0
def tw2106038085991763008:=0
def tw16810384748401799431:=0
def tw15562656192647451460:=0
def tw14630601803425116430:=0
def tw10694530512783758773:=0
def tw10461794402189975215:=0
def tw9654546270097416631:=0
def tw9513343860432995458:=0
def tw9365831832883213135:=0
def tw9251393222481372916:=0
def tw8996795889876785321:=0
def tw8976980202095113561:=0
def tw8939031411467017349:=0
def tw8777611624649971369:=0
def tw8664646611993329001:=0
def tw855082461813414674:=0
def tw8549189954596473379:=0
def tw8418282549371752463:=0
def tw8208884347248516319:=0
def tw7986507131252874092:=0
def tw7922424622430592487:=0
def tw7870624455781453154:=0
def tw7592108020590603879:=0
def tw7470173577009281443:=0
def tw7405560176227123819:=0
def tw7369188845830186688:=0
def tw7246108726459347580:=0
def tw7232802769898223465:=0
def tw7224137519577072454:=0
def tw7071635817333051703:=0
def tw7035147781281235826:=0
def tw6830573975827591296:=0
def tw6750197083826904264:=0
def tw6746772976889658045:=0
def tw6721466316516088179:=0
def tw6610379533829100939:=0
def tw6435048479291116759:=0
def tw6434868749881611117:=0
def tw6297147675839016644:=0
def tw6218160573117045509:=0
def tw6127963873151586202:=0
def tw5944260225569759244:=0
def tw5797420776149615984:=0
def tw5619368074293937416:=0
def tw5355356859018996387:=0
def tw5340409582002650592:=0
def tw5335382006208741777:=0
def tw4732400705327381185:=0
def tw4709422760897619361:=0
def tw4480308270446988845:=0
def tw4440225473237979482:=0
def tw432804458824781804:=0
def tw4208939330699402359:=0
def tw4156953702290339385:=0
def tw3965385341392637308:=0
def tw348141607047154607:=0
def tw345410606602037267:=0
def tw3205914938206814813:=0
def tw3060076024364324539:=0
def tw2999576573160093242:=0
def tw2953874982235574603:=0
def tw2951751425630401815:=0
def tw2865069828035691397:=0
def tw2816868584291817327:=0
def tw2543228174979894758:=0
def tw2516575996286233225:=0
def tw245814798312942090:=0
def tw2451434668850334487:=0
def tw2394889729772119609:=0
def tw2358660470712751727:=0
def tw2079556289539733914:=0
def tw18376036520564971153:=0
def tw18198344137356088655:=0
def tw18186600340958077841:=0
def tw17948361712983327132:=0
def tw17870910090853404259:=0
def tw17251254585484679235:=0
def tw17025217319739117781:=0
def tw16906403496308276108:=0
def tw16898022588487246590:=0
def tw1665446938124051828:=0
def tw16572054747403298428:=0
def tw16500531804090155508:=0
def tw16493038438391809779:=0
def tw16174905564005708171:=0
def tw15971733973705771149:=0
def tw15910117938084878121:=0
def tw15879281967995809940:=0
def tw15856690128183580480:=0
def tw15430851218269133712:=0
def tw15346150605486166854:=0
def tw1516016731916561738:=0
def tw14840629328077859354:=0
def tw14790974331747997746:=0
def tw14718308598389182988:=0
def tw14444411881231858238:=0
def tw14330496544159134644:=0
def tw14141459410838928410:=0
def tw14095741231130646804:=0
def tw13986511464117319322:=0
def tw13855741142754106009:=0
def tw13671495012939681624:=0
def tw13629418407740082787:=0
def tw13249888674873435759:=0
def tw13094146063950359622:=0
def tw13085741652678260106:=0
def tw1300996454432541600:=0
def tw12969534659717128723:=0
def tw1291983561865262955:=0
def tw12826497763881837205:=0
def tw12567960842073815967:=0
def tw12422456822213436732:=0
def tw12374401300782594573:=0
def tw12187874241813402300:=0
def tw12065976891268266453:=0
def tw1192806522593609306:=0
def tw11723934638779171972:=0
def tw11603126937457767304:=0
def tw1157117547163082728:=0
def tw11394743309167663159:=0
def tw1137630387836722371:=0
def tw11320140656039636898:=0
def tw11033793116487986748:=0
def tw10959218750099073473:=0
def tw10790875489653036127:=0
def tw10737428806456167270:=0
def tw10544154406884666481:=0
def tw10456794456101799768:=0
def tw10424852791902955562:=0
def tw10364455620079091302:=0
def tw10363758297141256569:=0
def tw10015991093854355515:=0
def tw9985131027914489590:=0
def tw989223418707350780:=0
def tw9753912752431767252:=0
def tw9211971847480427661:=0
def tw8914633095915994806:=0
def tw8790954888989133717:=0
def tw8703433740104253581:=0
def tw8675633913299350411:=0
def tw8136997362634508312:=0
def tw7416445526732481265:=0
def tw7259794578844031249:=0
def tw6846323759346148659:=0
def tw6833277474332190179:=0
def tw6524361771902014525:=0
def tw6305236422578076276:=0
def tw5559332619216565118:=0
def tw5435808672888049797:=0
def tw534287998768858879:=0
def tw5276167563905910134:=0
def tw5030057170516084393:=0
def tw5017197065878925940:=0
def tw4759065233201814541:=0
def tw4314309495000765045:=0
def tw403779845288842550:=0
def tw4037159772396729318:=0
def tw3858022008566340517:=0
def tw2689032369691300892:=0
def tw2594765826836024337:=0
def tw2545379782001790265:=0
def tw2153208292908994067:=0
def tw2141255572216899295:=0
def tw1844335152107750725:=0
def tw18438553431569387616:=0
def tw18328036552851962740:=0
def tw18303924339465017825:=0
def tw18254263804168837848:=0
def tw17719841908254347833:=0
def tw17552905372471659669:=0
def tw17401802127414325892:=0
def tw16879331380883108335:=0
def tw16633598381224347335:=0
def tw16606254083369349237:=0
def tw165349815469948272:=0
def tw16438737491456716437:=0
def tw16323198873809098452:=0
def tw16232039358176855155:=0
def tw1620764481849940201:=0
def tw16124567347457784481:=0
def tw1571020376928661582:=0
def tw15577338825670530134:=0
def tw15079628097958132791:=0
def tw14826475026895591733:=0
def tw14720236197431791791:=0
def tw14408510540745541576:=0
def tw14361859735145077132:=0
def tw14310010903092562634:=0
def tw13934554307480049965:=0
def tw13917585757593781209:=0
def tw13866822615696209435:=0
def tw13802886229581892996:=0
def tw13663389607289613917:=0
def tw13018176645203938182:=0
def tw12740758973704396931:=0
def tw12097532827099848237:=0
def tw11824663051135067764:=0
def tw11730208172054914262:=0
def tw11116388962511737988:=0
def tw10962361479935218427:=0
def tw10948789641298407941:=0
def tw10705849660212406035:=0
def tw10206943613384822066:=0
end PySem.W.Fast
open PySem PySem.W PyProof.Rows
set_option maxRecDepth 100000 in
set_option maxHeartbeats 0 in
theorem PySem.Challenge.cw_slanttables_k17_steps_holds : PySem.Challenge.rw_slanttables_k17_steps.Holds := by
  w_on;o_law;k_head;(case hw=>w_witness2)
  k_fill
  refine LP.G.V9.W.E7.walk (l:=PySem.Challenge.rw_slanttables_k17_steps) rfl rfl (λw h Y=>PySem.W.kIn_of Y) ?F
  case F=>
    intro w mg fa h KX G hmg;refine LP.G.V9.W.E7.all_mk ?_ hmg;constructor
    all_goals first
      |(refine' LP.mkF KX G ?a ?l ?c ?k;(case a=>k_is);(case l=>k_is);(case c=>k_is);(case k=>k_is))
      |(refine' mg_none_of KX G ?a;case a=>k_is)
      |(refine' LP.mkC KX G ?a;case a=>k_is)
      |(refine' LP.mkI KX G ?a;case a=>k_is)
      |(refine' LP.mkT KX G ?a ?l;(case a=>k_is);(case l=>k_is))
      |(refine' LP.mkXF KX G ?a ?lc ?ni ?yq ?l ?c ?k;(case a=>k_is);(case lc=>k_is);(case ni=>k_is);(case l=>k_is);(case c=>k_is);(case k=>k_is);(case yq=>kernel_rfl))
      |(refine' LP.mkX KX G ?a ?e;(case a=>k_is);(case e=>k_exc))
      |(refine' LP.mkH KX G ?a ?e ?_;(case a=>k_is);(case e=>k_exc);intro n hn;simp only[LP.LX,LP.LX5,Yao,dh,or_false] at hn;first|(rcases hn with rfl|rfl|rfl|rfl|rfl|rfl|rfl|rfl|rfl|rfl|rfl<;>(refine' LP.exD ?a ?b;(case a=>k_is);(case b=>k_is)))|(rcases hn with rfl|rfl|rfl|rfl|rfl|rfl<;>(refine' LP.exD ?a ?b;(case a=>k_is);(case b=>k_is)))|(rcases hn with rfl|rfl|rfl<;>(refine' LP.exD ?a ?b;(case a=>k_is);(case b=>k_is)))|(subst hn;refine' LP.exD ?a ?b;(case a=>k_is);(case b=>k_is)))
      | (refine ⟨λn hn=>?_⟩;simp only [LP.LX,LP.LX5,Yao,dh,or_false] at hn;rcases hn with rfl | rfl | rfl | rfl | rfl | rfl | rfl | rfl | rfl | rfl | rfl<;>
         (refine' LP.exX ?a (LP.clsX_of ?g ?n ?b ?h ?c ?d ?t ?o) ?k ?_;(case a=>k_is);(case g=>k_is);(case n=>k_is);(case b=>k_is);(case h=>k_is);(case c=>k_is);(case d=>k_is);(case t=>k_is);(case o=>k_is);(case k=>kit_is)
          intro m hm;simp only[LP.MX,LP.LX,Yao,dh,or_false] at hm;rcases hm with rfl|rfl|rfl|rfl|rfl|rfl|rfl|rfl|rfl<;>
           (refine' LP.exC ?a ?b;(case a=>k_is);(case b=>first|(refine Eq.trans (b:=some true) ?_ (by decide +kernel);kit_is)|(refine Eq.trans (b:=some false) ?_ (by decide +kernel);kit_is)))))
