import PyProof.Rows.All
import Wide.All
import OpenK.AllK
import Wide.FinOn
import PySem.Challenge.RW_slanttables_k42_papers_of_being_above
set_option genSizeOf false
set_option genInjectivity false
set_option compiler.extract_closed false
set_option Elab.async false
set_option linter.all false
set_option maxRecDepth 100000
set_option exponentiation.threshold 2000
set_option exponentiation.threshold 400
set_option maxHeartbeats 8000000
def dG:=@PySem.Heap.lt_size
def dm:=@Nat.lt_of_lt_of_le
def jd:=@Nat.lt_irrefl
def zp:=@Array.append_assoc
def im:=@Nat.ne_of_lt
def Yaf:=@List.mem_filter
def Yag:=@List.mem_range
def gT:=@Nat.le_trans
def kK:=@Nat.le_of_lt
def wS:=@List.filterMap_cons
def j8:=@List.mem_cons_self
def iH:=@List.mem_cons_of_mem
def Yam:=@List.mem_cons
def Yan:=@List.mem_append
def zq:=@List.mem_append_left
def Yap:=@List.getElem?_eq_some_iff
def fe:=@List.getElem?_set_self
def eN:=@List.getElem?_set_ne
def wU:=@Array.length_toList
def dU:=@PySem.Heap.get?_push_of_some
def je:=@Bool.false_ne_true
def wV:=@Nat.ne_of_gt
def hV:=@PySem.Heap.get?_push_size
def cB:=@Nat.le_refl
def Yay:=@List.mem_filterMap
def oA:=@List.mem_append_right
def jf:=@Bool.eq_iff_iff
def eZ:=@List.size_toArray
def qK:=@List.append_nil
def YaD:=@List.nodup_cons
def wW:=@List.of_mem_zip
def jg:=@List.length_take
def j9:=@List.getElem?_append_right
def lD:=@List.getElem?_replicate
def kL:=@List.getElem?_append_left
def cD:=@List.getElem?_map
def zt:=@List.getElem?_take_of_lt
def ip:=@List.mem_of_getElem?
def gA:=@List.length_append
def bU:=@List.length_map
def oO:=@List.length_replicate
theorem iq(n:Nat):(n:Int).toNat=n:=rfl
def mW:=@List.length_drop
def c9:=@Bool.and_eq_true
def wX:=@PySem.Heap.get?_update_self
def qL:=@PySem.Heap.get?_update_other
def et:=@List.length_set
def qM:=@List.all_cons
def wY:=@List.any_cons
theorem hX{α}{a:α}{n}:List.replicate (n+1) a=a::List.replicate n a:=rfl
def sP:=@List.flatten_cons
def mX:=@List.append_assoc
def mY:=@List.length_singleton
def oP:=@Nat.succ_mul
theorem dJ{α}(l:List α):[]++l=l:=rfl
def kN:=@Nat.mul_comm
def gB:=@List.map_nil
def cP:=@List.map_cons
def oB:=@List.lookup_cons
def sQ:=@Bool.not_eq_true'
def zw:=@List.forIn_cons
def dW:=@Bool.false_eq_true
def jE:=@Option.map_some
def oQ:=@PySem.Heap.size_push
def Ybc:=@List.all_eq_true
def zx:=@Bool.or_eq_true
def zy:=@Nat.le_of_succ_le
def gg:=@Nat.lt_or_ge
def bF:=@List.getD_eq_getElem?_getD
def iI:=@Nat.zero_le
def sR:=@List.ext_getElem?
def hZ:=@List.getElem?_range
def ff:=@List.getElem?_eq_none
def wZ:=@List.reverse_cons
def zA:=@List.length_reverse
def Ybn:=@Array.getElem?_eq_some_iff
def d7:=@List.not_mem_nil
def zB:=@Int.toNat_of_nonneg
def bP:=@List.getElem?_eq_getElem
def Ybr:=@List.mem_iff_getElem
def fT:=@List.getElem_mem
def tU:=@List.drop_zero
def sS:=@List.drop_eq_getElem_cons
def zC:=@List.getElem?_zipWith
def jw:=@List.length_zipWith
theorem dM{α}{a:α}{l:List α}:(a::l).length=l.length+1:=rfl
def jF:=@Nat.pow_le_pow_right
def zD:=@Int.mul_ediv_cancel_left
def gh:=@Int.natAbs_mul
theorem ke(n:Nat):(n:Int).natAbs=n:=rfl
def qN:=@Nat.pow_add
def CN:=@Nat.mul_lt_mul_of_pos_left
def kO:=@Nat.mul_le_mul_right
def zE:=@Nat.mul_ne_zero
def mZ:=@Nat.pow_succ
def zF:=@Int.natAbs_add_le
def zG:=@Rat.num_intCast
def zH:=@Rat.den_intCast
def w4:=@Nat.one_lt_two_pow
def YbL:=@List.mem_map
def zI:=@Int.gcd_pos_of_ne_zero_right
def w6:=@Int.neg_mul_neg
def tV:=@Int.mul_fdiv_cancel_left
def w8:=@Int.one_mul
def tW:=@Int.mul_zero
def iJ:=@List.map_congr_left
def xa:=@List.map_id
def qd:=@Rat.num_divInt_den
def oC:=@List.getElem_map
theorem jG{α}:([]:List α).length=0:=rfl
theorem gU{α}{a:α}{l k:List α}:(a::l)++k=a::(l++k):=rfl
theorem fk{α}{a:α}{l:List α}:(a::l)[0]? = some a:=rfl
theorem fO{α}{a:α}{n:Nat}{l:List α}:(a::l)[n+1]? = l[n]? :=rfl
def kf:=@List.replicate_zero
def tX:=@List.all_map
def CO:=@Int.fmod_eq_emod_of_nonneg
def fg:=@Bool.not_true
def xb:=@Bool.true_and
def jH:=@Nat.lt_of_le_of_lt
def zJ:=@Rat.divInt_ofNat
def lE:=@Rat.add_zero
theorem zK{α}{β}{γ}{f:α->β->γ}{a b l k}:List.zipWith f (a::l) (b::k)=f a b::List.zipWith f l k:=rfl
def xc:=@Rat.zero_add
def tY:=@Nat.min_eq_left
def zL:=@Int.fdiv_eq_ediv_of_nonneg
def jI:=@List.map_take
def zM:=@List.mem_of_mem_drop
def m6:=@List.mem_of_mem_take
def sT:=@List.map_reverse
def zN:=@Int.fmod_nonneg_of_pos
def xf:=@List.mem_map_of_mem
def lF:=@Bool.not_false
def tZ:=@Rat.divInt_mul_divInt
def lG:=@Int.mul_ne_zero
def sU:=@Nat.mul_le_mul
def oR:=@List.map_append
def Ycm:=@List.mem_singleton
def oS:=@List.length_range
def sV:=@List.map_replicate
def xg:=@Nat.mul_le_mul_left
def oU:=@List.map_set
def zO:=@List.mem_or_eq_of_mem_set
def Ycs:=@List.mem_reverse
def Yct:=@Rat.num_eq_zero
def kP:=@Rat.div_def
def zP:=@Int.natAbs_fdiv_le_natAbs
def sW:=@Nat.mul_lt_mul''
def xh:=@List.getElem?_set
def qe:=@Int.mul_comm
def t0:=@Rat.divInt_mul_right
def jy:=@Rat.zero_mul
def oV:=@List.getElem_zipWith
def zQ:=@List.map_zipWith
def xj:=@Nat.lt_succ_of_lt
def qO:=@Nat.not_lt_zero
def sX:=@Nat.min_self
def h8:=@Option.getD_some
def xk:=@Nat.mul_succ
def xm:=@Nat.add_zero
def sY:=@List.ext_getElem
def xo:=@List.flatten_replicate_singleton
def YcL:=@List.pairwise_cons
def t7:=@List.getD_cons_zero
def zR:=@List.getD_cons_succ
def jJ:=@Rat.intCast_mul
def xp:=@Rat.mul_comm
def t8:=@List.getElem?_take
def ua:=@Rat.divInt_eq_div
def ub:=@Rat.intCast_natCast
def xq:=@List.getElem_range
def zS:=@Nat.mul_left_comm
def YcV:=@Rat.mul_eq_zero
def xr:=@Nat.mul_assoc
section
open PySem PySem.Spec PyProof.Rows PySem.W
def Nc:=@wpAny_bind
abbrev Nd:=PySem.W.Frag
def Nf:=@wpAny_pure
def Ng:=@absurd
def Nh:=@decide_eq_true_eq
def Ni:=@boot_isinstance
def Nj:=@decide_eq_true
def Nk:=@Option.some.inj
def Nm:=@boot_len
def Nn:=@PySem.mem_of_lookup
def Np:=@wpAny_field
def Nq:=@wpAny_newObj_type
def Nr:=@Ne.symm
def Nt:=@boot_tuple
def Nu:=@False.elim
def Nv:=@wpAny_truthy_bool
def Nw:=@wpAny_mono
def Nx:=@beq_self_eq_true
def Ny:=@wpAny_call_entry
def Nz:=@wpAny_seqItems
def NA:=@wpAny_setField_rec
def NB:=@wpAny_passesOwn
def NC:=@wpAny_holding
def ND:=@wpAny_execs_nil
def NE:=@wpAny_Call_Name_kw
def NF:=@boot_list
def NG:=@wpAny_rule
def NH:=@wpAny_setField
def NI:=@of_decide_eq_true
def NJ:=@wpAny_standAt
def NK:=@decide_eq_decide
def NM:=@wpAny_updateSeq_pair
def NN:=@beq_iff_eq
def NO:=@wpAny_onRaise
end
namespace L2
open PySem PySem.Spec PyProof.Rows
variable{κ:Type}{a b it:Addr}{o:Obj}{P:Program}{w:World}{h h' base:Heap}{x name qual:Str}{e c tg:Expr}{pins:List (Addr×Obj)}{s s':Shared}{g':Array GenState}{t' i j k n:Nat}{d':Drawn}{ch fp:List Addr}{N ps:List Str}{A:Around}{Q:Value->Shared->Prop}{f:Value->Value->Sem Value}{pos pos' p:Pos}{K:Nd}{es:List Expr}{g:Int->Int->Int}{body:List Stmt}{op:CmpOp}{us:List Value}{mA mg:Str->Option Value}{fd:FuncData}{scope:Scope}{osl:Array (Option Value)}
abbrev jz:=Sum Int Str
def qf:jz->Value->Bool
 |.inl k,v=>Value.isInt k v|.inr x,v=>Value.isStrOf x v
def zT(w:World):jz->Int
 |.inl k=>hashInt k|.inr x=>hashStr w x
theorem bN:∀{k:jz} {v:Value},qf k v=true->(∃i t,k=Sum.inl i/\v=Value.int i t)\/(∃x t,k=Sum.inr x/\v=Value.str x t)
 |.inl i,v,h=>by obtain⟨t,e⟩:=Value.isInt_shape (k:=i) (v:=v) h;exact .inl ⟨i,t,rfl,e⟩
 |.inr x,v,h=>by obtain⟨t,e⟩:=Value.isStrOf_shape (x:=x) (v:=v) h;exact .inr ⟨x,t,rfl,e⟩
theorem qP(a b:Int):decide ((Sum.inl a:jz)=Sum.inl b)=(a==b):=by by_cases e:a=b;subst e;simp;have h:¬(Sum.inl a:jz)=Sum.inl b:=λq=>e (Sum.inl.inj q);rw[decide_eq_false h];exact(beq_eq_false_iff_ne.mpr e).symm
theorem qQ(a b:Str):decide ((Sum.inr a:jz)=Sum.inr b)=decide (a=b):=by by_cases e:a=b;subst e;simp;have h:¬(Sum.inr a:jz)=Sum.inr b:=λq=>e (Sum.inr.inj q);rw[decide_eq_false h,decide_eq_false e]
theorem qR(a:Int)(b:Str):decide ((Sum.inl a:jz)=Sum.inr b)=false:=decide_eq_false<|λq=>nomatch q
theorem qS(a:Str)(b:Int):decide ((Sum.inr a:jz)=Sum.inl b)=false:=decide_eq_false<|λq=>nomatch q
def iK(prog:Program)(w:World):PySem.KeyKind prog w jz where
 is:=qf
 hash:=zT w
 inj:=λv a b ha hb=>by
  rcases bN ha with⟨i,t,rfl,rfl⟩|⟨x,t,rfl,rfl⟩
  rcases bN hb with⟨j,u,rfl,e⟩|⟨y,u,rfl,e⟩
  injection e with e1 _;rw[e1]
  exact nomatch e;rcases bN hb with⟨j,u,rfl,e⟩|⟨y,u,rfl,e⟩
  exact nomatch e;injection e with e1 _;rw[e1]
 byValue:=λk v h=>by rcases bN h with⟨i,t,rfl,rfl⟩|⟨x,t,rfl,rfl⟩<;>rfl
 pyHash:=λhv h=>by
  rcases bN hv with⟨i,t,rfl,rfl⟩|⟨x,t,rfl,rfl⟩
  exact wpAny_pyHash_int h;exact wpAny_pyHash_str h
 eqBool:=λhu hv h=>by
  rcases bN hu with⟨i,t,rfl,rfl⟩|⟨x,t,rfl,rfl⟩
  rcases bN hv with⟨j,u,rfl,rfl⟩|⟨y,u,rfl,rfl⟩
  rw[qP]at h;exact wpAny_eqBool_int h;rw[qR]at h;exact SeqAt.EqAt.int_str i t y u _ _ _ _ h;rcases bN hv with⟨j,u,rfl,rfl⟩|⟨y,u,rfl,rfl⟩
  rw[qS]at h;exact SeqAt.EqAt.str_int x t j u _ _ _ _ h;rw[qQ]at h;exact wpAny_eqBool_str h
 «strs»:=λk x t v h=>by
  rcases bN h with⟨i,u,rfl,e⟩|⟨y,u,rfl,e⟩
  exact nomatch e;injection e with e1 _
  subst e1;cases v<;>rfl
set_option genInjectivity true in
inductive V where
 |non|bl (b:Bool)|int (i:Int)|str (x:Str)|byt (b:Array UInt8)|flt (b:UInt64)|ref (a:Addr)|ty (n:String)
 deriving DecidableEq
variable{v:V}{xs vs:List V}{gV:List V->List V->List V}
def RelV:V->Value->Prop
 |.non,u=>u=Value.none|.bl b,u=>u=Value.bool b|.int i,u=>∃t,u=Value.int i t|.str x,u=>∃t,u=Value.str x t|.byt b,u=>∃t,u=Value.bytes b t|.flt b,u=>∃t,u=Value.float b t|.ref a,u=>u=Value.ref a|.ty n,u=>u=Value.type n
abbrev Vals:List V->List Value->Prop:=Paired RelV
theorem Vals.length{xs:List V}{us:List Value}(r:Vals xs us):xs.length=us.length:=Paired.length r
theorem Vals.get:∀{xs:List V} {us:List Value} {i:Nat} {x:V},Vals xs us->xs[i]? = some x->∃u,us[i]? = some u/\RelV x u
 |_,_,_,_,.nil,e=>by simp at e|_,_,0,_,.cons r _,e=>by simp at e;subst e;exact⟨_,rfl,r⟩|_,_,i+1,x,.cons _ t,e=>by obtain⟨u,h1,h2⟩:=Vals.get (i:=i) (x:=x) t (by simpa using e);exact⟨u,by simpa using h1,h2⟩
theorem Vals.set{x:V}{u:Value}(r:RelV x u):∀{xs:List V} {us:List Value} (i:Nat),Vals xs us->Vals (xs.set i x) (us.set i u)
 |_,_,_,.nil=>.nil|_,_,0,.cons _ t=>.cons r t|_,_,i+1,.cons q t=>.cons q<|Vals.set r i t
theorem Vals.append:∀{xs ys:List V} {us ws:List Value},Vals xs us->Vals ys ws->Vals (xs++ys) (us++ws)
 |_,_,_,_,.nil,s=>s|_,_,_,_,.cons r t,s=>.cons r<|Vals.append t s
theorem Vals.take:∀{xs:List V} {us:List Value} (n:Nat),Vals xs us->Vals (xs.take n) (us.take n)
 |_,_,0,_=>.nil|_,_,_+1,.nil=>.nil|_,_,n+1,.cons r t=>.cons r<|Vals.take n t
theorem Vals.drop:∀{xs:List V} {us:List Value} (n:Nat),Vals xs us->Vals (xs.drop n) (us.drop n)
 |_,_,0,r=>r|_,_,_+1,.nil=>.nil|_,_,n+1,.cons _ t=>Vals.drop n t
def uc:Option V->Option Value->Prop
 |some v,some u=>RelV v u|none,none=>True|_,_=>False
def KV:List (κ×V)->List (κ×Value)->Prop:=Paired λ(p:κ×V) (q:κ×Value)=>p.1=q.1/\RelV p.2 q.2
def kV:jz->V
 |.inl i=>.int i|.inr x=>.str x
inductive HO where
 |lst (xs:List V)
 |tup (xs:List V)
 |dK (kvs:List (jz×V))|dT (kvs:List (List jz×V))
 |set (S:Int->Bool) (n:Nat)
 |ins (C dx:Addr) (fs:List (Str×V))
 |own (x:Addr)
 |xd (fs:List (Str×V))
 |met (f x:Addr)
 |rng (lo hi:Int)
 |frz (o:Obj) (u:HO)
 |tbl (ps:Array Value)
 |ext (φ:Heap->Prop)
abbrev Hp:=Addr->Option HO
variable{H H':Hp}
def upd(H:Hp)(a:Addr)(o:HO):Hp:=λb=>if b=a then some o else H b
theorem aT{o:HO}:upd H a o a=some o:=by unfold upd;rw[if_pos rfl]
theorem aI{o:HO}(h:b≠a):upd H a o b=H b:=by unfold upd;rw[if_neg h]
theorem dv{o:HO}(h:H a=some o)(h':H b=none):a≠b:=by intro e;subst e;rw[h]at h';cases h'
section
variable(P:Program)(w:World)
def ObjOk(H:Hp)(h:Heap)(a:Addr):HO->Prop
 |.lst xs=>xs.length<=sizeLine/\∃(its:List Value) (n:Nat),Vals xs its/\h.get? a=some { cls:=.type "list",data:=.seq its.toArray n }|.tup xs=>xs.length<=sizeLine/\∃its:List Value,Vals xs its/\IsTup h a its.toArray|.dK kvs=>kvs.length<=sizeLine/\(a==sysModules)=false/\∃vs,KV kvs vs/\h.DictOf (iK P w) a vs
 |.dT kvs=>kvs.length<=sizeLine/\(a==sysModules)=false/\∃xs:List (List jz×Addr×Value),
   Paired (λ(p:List jz×V) (q:List jz×Addr×Value)=>p.1=q.1/\H q.2.1=some (.tup<|p.1.map kV)/\RelV p.2 q.2.2) kvs xs/\
   ∃o es ep,h.get? a=some o/\o.ExactDict/\o.data=.dict es ep/\es.toList=xs.map (entryOfKey<|tupleKind<|iK P w)/\(xs.map (·.1)).Nodup
 |.set S n=>h.SetOf (intKind P w) a S n
 |.ins C dx fs=>H dx=some (.own a)/\fs.length<=1000/\dx≠a/\h.get? a=some (PySem.W.instObj C dx)/\
   ∃mA,h.Ns1 dx mA/\(∀f,uc (fs.lookup f)<|mA f)/\PySem.Within mA (fs.map (·.1))
 |.own _=>∃o,h.get? a=some o|.xd fs=>∃mA,h.Ns1 a mA/\∀f,uc (fs.lookup f)<|mA f
 |.rng lo hi=>∃t u v,h.get? a=some { cls:=.type "range",data:=.fields #[.int lo t,.int hi u,.int 1 v] }|.frz o u=>h.get? a=some o/\ObjOk H h a u|.tbl ps=>h.get? a=some { cls:=.none,data:=.fields ps }|.met f x=>h.get? a=some (PySem.W.methodObj (.ref f)<|.ref x)|.ext φ=>φ h/\(∃o,h.get? a=some o)/\∀h1 h2:Heap,φ h1->(∀o,h1.get? a=some o->h2.get? a=some o)->φ h2
def HOk(H:Hp)(h:Heap):Prop:=∀a o,H a=some o->ObjOk P w H h a o
end
section
variable{o:HO}
theorem ObjOk.lt(x:ObjOk P w H h a o):a<h.objs.size:=by
 cases o with
 |lst xs=>obtain⟨_,_,_,_,e⟩:=x;exact dG e
 |tup xs=>obtain⟨_,_,_,p⟩:=x;exact p.lt
 |dK kvs=>obtain⟨_,_,_,_,o,_,_,e,_⟩:=x;exact dG e
 |dT kvs=>obtain⟨_,_,_,_,o,_,_,e,_⟩:=x;exact dG e
 |set S n=>obtain⟨o,_,_,_,e,_⟩:=x;exact dG e
 |ins C dx fs=>obtain⟨_,_,_,e,_⟩:=x;exact dG e
 |own y=>obtain⟨_,e⟩:=x;exact dG e
 |xd fs=>obtain⟨_,⟨_,_,_,e,_⟩,_⟩:=x;exact dG e
 |rng lo hi=>obtain⟨_,_,_,e⟩:=x;exact dG e
 |frz ob u=>obtain⟨e,_⟩:=x;exact dG e
 |tbl ps=>exact dG (show h.get? a=some _ from x)|met f y=>exact dG (show h.get? a=some _ from x)|ext φ=>obtain⟨_,⟨_,e⟩,_⟩:=x;exact dG e
theorem Paired.mapP{α β:Type}{F G:α->β->Prop}:∀{l₁:List α} {l₂:List β},Paired F l₁ l₂->(∀a b,F a b->G a b)->Paired G l₁ l₂
 |_,_,.nil,_=>.nil|_,_,.cons r t,f=>.cons (f _ _ r)<|Paired.mapP t f
theorem ObjOk.stay(x:ObjOk P w H h a o)(k:∀b u,(b=a\/H b=some (.own a))->h.get? b=some u->h'.get? b=some u)
  (ho:∀b,H b=some (.own a)->H' b=some (.own a)) (ht:∀b xs,H b=some (.tup xs)->H' b=some (.tup xs)):ObjOk P w H' h' a o:=by
 induction o with
 |lst xs=>obtain⟨z,its,n,r,e⟩:=x;exact⟨z,its,n,r,k _ _ (.inl rfl) e⟩
 |tup xs=>obtain⟨z,its,r,ob,e,c⟩:=x;exact⟨z,its,r,ob,k _ _ (.inl rfl) e,c⟩
 |dK kvs=>obtain⟨z,y,vs,r,ob,es,ep,e,c⟩:=x;exact⟨z,y,vs,r,ob,es,ep,k _ _ (.inl rfl) e,c⟩
 |dT kvs=>
  obtain⟨z,y,xs,r,ob,es,ep,e,c⟩:=x;exact⟨z,y,xs,Paired.mapP r λp q z=>⟨z.1,ht _ _ z.2.1,z.2.2⟩,ob,es,ep,k _ _ (.inl rfl) e,c⟩
 |set S n=>obtain⟨ob,es,ep,t,e,c⟩:=x;exact⟨ob,es,ep,t,k _ _ (.inl rfl) e,c⟩
 |ins C dx fs=>
  obtain⟨d,z,ne,e,mA,⟨od,es,ep,e2,c⟩,r⟩:=x;exact⟨ho _ d,z,ne,k _ _ (.inl rfl) e,mA,⟨od,es,ep,k _ _ (.inr d) e2,c⟩,r⟩
 |own y=>obtain⟨ob,e⟩:=x;exact⟨ob,k _ _ (.inl rfl) e⟩
 |xd fs=>obtain⟨mA,⟨od,es,ep,e,c⟩,r⟩:=x;exact⟨mA,⟨od,es,ep,k _ _ (.inl rfl) e,c⟩,r⟩
 |rng lo hi=>obtain⟨t,u,v,e⟩:=x;exact⟨t,u,v,k _ _ (.inl rfl) e⟩
 |frz ob u ih=>obtain⟨e,q⟩:=x;exact⟨k _ _ (.inl rfl) e,ih q⟩
 |tbl ps=>
  have e:h.get? a=some { cls:=.none,data:=.fields ps }:=x;show h'.get? a=some { cls:=.none,data:=.fields ps };exact k a _ (.inl rfl) e
 |met f y=>
  have e:h.get? a=some (PySem.W.methodObj (.ref f)<|.ref y):=x;show h'.get? a=some (PySem.W.methodObj (.ref f)<|.ref y);exact k a _ (.inl rfl) e
 |ext φ=>obtain⟨p,⟨o,e⟩,st⟩:=x;exact⟨st _ _ p λo q=>k _ _ (.inl rfl) q,⟨o,k _ _ (.inl rfl) e⟩,st⟩
theorem HOk.lt(x:HOk P w H h)(e:H a=some o):a<h.objs.size:=(x a o e).lt
theorem HOk.fresh(x:HOk P w H h)(e:h.objs.size<=a):H a=none:=by
 cases q:H a with
 |none=>rfl|some u=>exact Ng (dm (x.lt q) e)<|jd _
theorem HOk.kept(x:HOk P w H h)(k:∀b u,h.get? b=some u->h'.get? b=some u):HOk P w H h':=λa o e=>(x a o e).stay (λb u _ q=>k b u q) (λ_ q=>q) λ_ _ q=>q
theorem HOk.laid(x:HOk P w H h)(k:∀b u,h.get? b=some u->h'.get? b=some u)(hp:h.objs.size<=a)(new:ObjOk P w (upd H a o) h' a o):HOk P w (upd H a o) h':=λb u e=>by have hn:=x.fresh hp;by_cases hb:b=a;subst hb;rw[aT]at e;cases e;exact new;rw[aI hb]at e;exact(x b u e).stay (λc v _ q=>k c v q) (λc q=>by rw[aI<|dv q hn];exact q) λc xs q=>by rw[aI<|dv q hn];exact q
end
def Rd(H:Hp)(a:Addr)(u:HO):Prop:=H a=some u\/∃o,H a=some (.frz o u)
theorem Rd.ok{u:HO}(r:Rd H a u)(x:HOk P w H h):ObjOk P w H h a u:=by
 rcases r with r|⟨o,r⟩
 exact x a u r;obtain⟨_,q⟩:=x a _ r;exact q
def xu:Option HO->Prop
 |some (.lst _)=>True|some (.dK _)=>True|some (.dT _)=>True|some (.set _ _)=>True|some (.ins _ _ _)=>True|some (.ext _)=>True|_=>False
section
variable{x e:Addr}{o':HO}
theorem HOk.write(ok:HOk P w H h)(mu:xu (H x))(he:e=x\/H e=some (.own x))(k:∀b u,b≠e->h.get? b=some u->h'.get? b=some u)(heo:∃u,h'.get? e=some u)
  (new:ObjOk P w (upd H x o') h' x o'):HOk P w (upd H x o') h':=λb u q=>by
 have nown:∀c y,H c=some (.own y)->c≠x:=λc y r z=>by subst z;rw[r]at mu;exact mu
 have ntup:∀c xs,H c=some (.tup xs)->c≠x:=λc xs r z=>by subst z;rw[r]at mu;exact mu
 by_cases hb:b=x
 .subst hb;rw[aT]at q;cases q;exact new
 .rw[aI hb]at q
  by_cases hbe:b=e
  .have q':H b=some (.own x):=by
    rcases he with z|z
    .exact Ng (hbe.trans z) hb
    .rw[hbe];exact z
   rw[q]at q';cases q';obtain⟨v,hv⟩:=heo;exact⟨v,by rw[hbe];exact hv⟩
  .refine(ok b u q).stay (λc v hc r=>k c v ?_ r) (λc r=>by rw[aI<|nown c b r];exact r) λc xs r=>by rw[aI<|ntup c xs r];exact r
   rcases hc with rfl|hc
   .exact hbe
   .rintro rfl
    rcases he with z|z
    .exact nown c b hc z
    .rw[hc]at z;cases z;exact hb rfl
end
structure Un(fs ex:List Addr)(H H':Hp)(h h':Heap):Prop where
 keep:∀b o,h.get? b=some o->H b=none->b∉fs->b∉ex->h'.get? b=some o
 slot:∀b o,h.get? b=some o->H b=none->b∈fs->b∉ex->∃sl,h'.get? b=some { o with slots:=sl }
 free:∀b o,h.get? b=some o->H b=none->b∉ex->H' b=none
 there:∀b o,h.get? b=some o->b∉ex->∃o',h'.get? b=some o'
 tups:∀b xs,H b=some (.tup xs)->H' b=some (.tup xs)
 frzs:∀b o u,H b=some (.frz o u)->H' b=some (.frz o u)
 tbls:∀b ps,H b=some (.tbl ps)->∃more,H' b=some (.tbl<|ps++more)
 sys:mainGlobals∉ex->(∃o,h.get? mainGlobals=some o)->(∀xs,H sysModules≠some (.lst xs))->∀xs,H' sysModules≠some (.lst xs)
section
variable{fs fs' ex ex':List Addr}{H1 H2:Hp}{h1 h2:Heap}{x e:Addr}{o:HO}
theorem Un.any(u:Un fs ex H H1 h h1){ob:Obj}(q:h.get? b=some ob)(n:H b=none)(hx:b∉ex):∃sl,h1.get? b=some { ob with slots:=sl }:=by by_cases hb:b∈fs;exact u.slot b ob q n hb hx;exact⟨ob.slots,u.keep b ob q n hb hx⟩
theorem Un.trans(a:Un fs ex H H1 h h1)(b:Un fs ex H1 H2 h1 h2):Un fs ex H H2 h h2 where
 keep:=λc ob q n hc hx=>b.keep c ob (a.keep c ob q n hc hx) (a.free c ob q n hx) hc hx
 slot:=λc ob q n hc hx=>by obtain⟨sl,e1⟩:=a.slot c ob q n hc hx;obtain⟨sl',e2⟩:=b.slot c _ e1 (a.free c ob q n hx) hc hx;exact⟨sl',e2⟩
 free:=λc ob q n hx=>by obtain⟨o',e1⟩:=a.there c ob q hx;exact b.free c o' e1 (a.free c ob q n hx) hx
 there:=λc ob q hx=>by obtain⟨o',e1⟩:=a.there c ob q hx;exact b.there c o' e1 hx
 tups:=λc xs q=>b.tups c xs<|a.tups c xs q
 frzs:=λc ob xs q=>b.frzs c ob xs<|a.frzs c ob xs q
 tbls:=λc ps q=>by obtain⟨m1,e1⟩:=a.tbls c ps q;obtain⟨m2,e2⟩:=b.tbls c _ e1;exact⟨m1++m2,by rw[e2,zp]⟩
 sys:=λhx ⟨o,e⟩ n=>b.sys hx (a.there _ o e hx)<|a.sys hx ⟨o,e⟩ n
theorem Un.kept(k:∀b u,h.get? b=some u->h'.get? b=some u):Un fs ex H H h h':=
 ⟨λb ob q _ _ _=>k b ob q,λb ob q _ _ _=>⟨ob.slots,k b ob q⟩,λ_ _ _ n _=>n,λb ob q _=>⟨ob,k b ob q⟩,λ_ _ q=>q,λ_ _ _ q=>q,λ_ ps q=>⟨#[],by rw[q];simp⟩,λ_ _ n=>n⟩
theorem Un.refl:Un fs ex H H h h:=Un.kept λ_ _ q=>q
theorem Un.laid(k:∀b u,h.get? b=some u->h'.get? b=some u)(hp:h.objs.size<=a)(hn:H a=none):Un fs ex H (upd H a o) h h' where
 keep:=λb u q _ _ _=>k b u q
 slot:=λb u q _ _ _=>⟨u.slots,k b u q⟩
 free:=λb u q n _=>by rw[aI<|im<|dm (dG q) hp];exact n
 there:=λb u q _=>⟨u,k b u q⟩
 tups:=λb xs q=>by rw[aI<|dv q hn];exact q
 frzs:=λb u xs q=>by rw[aI<|dv q hn];exact q
 tbls:=λb ps q=>⟨#[],by rw[aI<|dv q hn,q];simp⟩
 sys:=λ_ ⟨_,q⟩ n=>by rw[aI<|im<|dm (Nat.lt_trans (by decide)<|dG q) hp];exact n
theorem Un.write(mu:xu (H x))(he:e=x\/H e=some (.own x))(k:∀b u,b≠e->h.get? b=some u->h'.get? b=some u)(heo:∃u,h'.get? e=some u)(hk:(∃us,H x=some (.lst us))\/∀us,o≠.lst us):Un fs ex H (upd H x o) h h':=by
 have hx:∀b,H b=none->b≠x:=λb n z=>by subst z;rw[n]at mu;exact mu
 have hb:∀b,H b=none->b≠e:=λb n z=>by
  subst z;rcases he with r|r
  exact hx b n r;rw[n]at r;cases r
 have hm:∀b u,H b=some u->¬xu (some u)->b≠x:=λb u q nm z=>by subst z;rw[q]at mu;exact nm mu
 refine ⟨λb u q n _ _=>k b u (hb b n) q,λb u q n _ _=>⟨u.slots,k b u (hb b n) q⟩,λb u q n _=>by rw [aI<|hx b n];exact n,λb u q _=>?_,
  λb xs q=>by rw[aI<|hm b _ q λz=>z];exact q,λb u xs q=>by rw[aI<|hm b _ q λz=>z];exact q,λb ps q=>⟨#[],by rw[aI<|hm b _ q λz=>z,q];simp⟩,λ_ _ n ys=>by
   by_cases z:sysModules=x
   .rw[z,aT]
    rcases hk with⟨us,hk⟩|hk
    .exact Ng (z▸hk) (n us)
    .exact λy=>hk ys (Nk y)
   .rw[aI z];exact n ys⟩
 by_cases hbe:b=e;subst hbe;exact heo;exact⟨u,k b u hbe q⟩
end
def xv(h:Heap)(H:Hp):List Addr:=(List.range h.objs.size).filter λa=>(H a).isSome
def iM(h:Heap)(H:Hp):Heap:=PySem.W.hideAll h<|xv h H
theorem kQ(h:Heap)(H:Hp):(iM h H).objs.size=h.objs.size:=PySem.W.hideAll_size _ _
theorem m7(e:h.get? b=some o)(n:H b=none):(iM h H).get? b=some o:=
 PySem.W.hideAll_get _ e λhm=>by
  have q:(H b).isSome=true:=(Yaf.mp hm).2;rw[n]at q;simp at q
theorem oW(e:(iM h H).get? b=some o):h.get? b=some o/\H b=none:=by
 have e':h.get? b=some o:=PySem.W.of_hideAll (xv h H) e;refine⟨e',?_⟩;cases q:H b with
 |none=>rfl|some x=>have hm:b∈xv h H:=Yaf.mpr ⟨Yag.mpr<|dG e',by simp[q]⟩;have z:(iM h H).get? b=none:=PySem.W.hideAll_none (xv h H) hm;rw[z]at e;cases e
def oX(g h:Heap)(L:Addr):List (Addr×Obj):=(List.range h.objs.size).filterMap λa=>if a=L\/(g.get? a).isSome=true then none else(h.get? a).map λo=>(a,o)
def rest(g h:Heap)(L d:Addr):List (Addr×Obj):=(oX g h L).filter λp=>decide (p.1≠d)
structure Mod(K:Nd)(mg:Str->Option Value)(base:Heap):Prop where
 kin:K.In base
 glob:base.Ns mainGlobals mg
 blt:∃mb,base.Ns builtinsNs mb/\∀x:Str,x≠ "__name__" ->mb x=bootBuiltins x
 nolimit:base.NoLimit
structure Cx where
 prog:Program
 w:World
 K:Nd
 mg:Str->Option Value
 base:Heap
 A:Around
 N:List Str
 s₀:Shared
 H₀:Hp
 env:Env
 outer:List Env
 stack:List Env
 ex:List Addr
 fn:Str->Bool
 calm:Bool
 pn:List (Addr×Obj)
 xe:Value->Shared->Prop
variable{X:Cx}
def dC(l:List Env):List Addr:=l.filterMap (·.frame)
abbrev Cx.fs(X:Cx):List Addr:=dC X.outer
def oY(sc:Scope)(x:Str):Prop:=sc.names.lookup x=some .local\/sc.names.lookup x=some .cell\/sc.names.lookup x=some .free
def oD(sc:Scope)(x:Str):Prop:=sc.names.lookup x=some .local\/sc.names.lookup x=some .cell
def zU(env:Env)(h:Heap)(m:Str->Option Value)(x:Str)(u:Value):Prop:=
 (env.kindOf x=some .local/\m x=some u)\/((env.kindOf x=some .cell\/env.kindOf x=some .free)/\∃c,env.cells.lookup x=some c/\h.IsCell c (some u))
structure Cx.Ok(X:Cx):Prop where
 mod:Mod X.K X.mg X.base
 kind:X.env.scope.kind=.function
 glob:X.env.globals=mainGlobals
 blt:X.env.builtins=builtinsNs
 above:X.s₀.heap.objs.size<=X.env.locals
 inj:∀x y c,X.env.cells.lookup x=some c->X.env.cells.lookup y=some c->x=y
 has:∀x,(X.env.kindOf x=some .cell\/X.env.kindOf x=some .free)->∃c,X.env.cells.lookup x=some c
 cab:∀x c,X.fn x=true->X.env.cells.lookup x=some c->X.s₀.heap.objs.size<=c
 hd:X.calm=true->X.A.handled=none
 frames:X.A.frames=some X.stack
 stk:X.stack=X.outer\/(X.stack=X.env::X.outer/\X.env.frame=some X.env.locals)
 exf:∀b∈X.ex,b≠X.env.locals/\∀x c,X.env.cells.lookup x=some c->c≠b
 bs:∀b o,X.base.get? b=some o->X.s₀.heap.get? b=some o/\X.H₀ b=none
 bsz:X.base.objs.size<=X.s₀.heap.objs.size
 noex:∀b o,X.base.get? b=some o->b∉X.ex
 exfs:∀b∈X.ex,b∉X.fs
 funs:X.s₀.heap.FunFrames X.base X.outer
 frf:∀b∈X.fs,X.H₀ b=none
 sys0:∀xs,X.H₀ sysModules≠some (.lst xs)
structure Inv(X:Cx)(pins:List (Addr×Obj))(σ:List (Option V))(H:Hp)(s:Shared):Prop where
 ok:X.Ok
 os:s.os=X.s₀.os
 bare:AllBare s.gens
 base:Un X.fs X.ex X.H₀ H X.s₀.heap s.heap
 loc:∃m,s.heap.Ns X.env.locals m/\∀(i:Nat) (x:Str) (v:V),X.N[i]? = some x->σ[i]? = some (some v)->oY X.env.scope x->∃u,RelV v u/\zU X.env s.heap m x u
 cell:∀x c,X.env.cells.lookup x=some c->∃v,s.heap.IsCell c v
 free:H X.env.locals=none
 freeC:∀x c,X.env.cells.lookup x=some c->H c=none
 pin:∀p∈X.pn++pins,s.heap.get? p.1=some p.2/\H p.1=none/\p.1≠X.env.locals/\p.1∉X.fs/\∀v,p.2.data≠.cell v
 hok:HOk X.prog X.w H s.heap
 len:σ.length=X.N.length
section
variable{σ:List (Option V)}
theorem Cx.Ok.nofr(ok:X.Ok)(e:X.base.get? b=some o):b∉X.fs:=λhb=>by have:=(ok.funs.mem hb).1;rw[e]at this;cases this
theorem Inv.bs(I:Inv X pins σ H s):∀b o,X.base.get? b=some o->s.heap.get? b=some o/\H b=none:=λb o e=>
 ⟨I.base.keep b o (I.ok.bs b o e).1 (I.ok.bs b o e).2 (I.ok.nofr e)<|I.ok.noex b o e,I.base.free b o (I.ok.bs b o e).1 (I.ok.bs b o e).2<|I.ok.noex b o e⟩
theorem Inv.bk(I:Inv X pins σ H s):∀b o,X.base.get? b=some o->s.heap.get? b=some o:=λb o e=>(I.bs b o e).1
theorem Inv.mod(I:Inv X pins σ H s):Mod X.K X.mg X.base:=I.ok.mod
theorem Inv.hasG(I:Inv X pins σ H s):∃o,s.heap.get? mainGlobals=some o:=by obtain⟨o,_,_,e,_⟩:=I.ok.mod.glob;exact⟨o,I.bk _ _ e⟩
theorem Inv.sysn(I:Inv X pins σ H s):∀xs,H sysModules≠some (.lst xs):=by obtain⟨o,_,_,e,_⟩:=I.ok.mod.glob;exact I.base.sys (I.ok.noex _ _ e) ⟨o,(I.ok.bs _ _ e).1⟩ I.ok.sys0
theorem Inv.kIn(I:Inv X pins σ H s):X.K.In s.heap:=I.ok.mod.kin.keeps I.bk
theorem Inv.lt(I:Inv X pins σ H s):X.env.locals<s.heap.objs.size:=let⟨_,hn,_⟩:=I.loc;hn.lt
theorem Inv.sz(I:Inv X pins σ H s):X.s₀.heap.objs.size<=s.heap.objs.size:=gT I.ok.above<|kK I.lt
theorem Inv.nofs(I:Inv X pins σ H s)(h:s.heap.objs.size<=a):a∉X.fs:=λhb=>by obtain⟨_,o,ho,_⟩:=I.ok.funs.mem hb;exact Ng (dm (dG ho)<|gT I.sz h)<|jd _
theorem Inv.cne(I:Inv X pins σ H s):∀x c,X.env.cells.lookup x=some c->c≠X.env.locals:=λx c e z=>by obtain⟨v,o,ho,hd⟩:=I.cell x c e;obtain⟨m,⟨o',es,ep,ho',hd',_⟩,_⟩:=I.loc;rw[z,ho']at ho;cases ho;rw[hd']at hd;cases hd
theorem Inv.funs(I:Inv X pins σ H s):s.heap.FunFrames X.base X.outer:=by
 have all:∀(l:List Env),(∀b∈dC l,b∈X.fs)->X.s₀.heap.FunFrames X.base l->s.heap.FunFrames X.base l:=by
  intro l;induction l with
  |nil=>intro _ _;trivial|cons env r ih=>intro hs hl;obtain⟨hk,⟨L,o,hf,hn,ho,hd⟩,hr⟩:=hl;have hL:L∈X.fs:=hs L (by unfold dC;rw[wS,hf];exact j8);obtain⟨sl,e⟩:=I.base.slot L o ho (I.ok.frf L hL) hL λz=>I.ok.exfs L z hL;exact⟨hk,⟨L,_,hf,hn,e,hd⟩,ih (λb hb=>hs b (by unfold dC;rw[wS,hf];exact iH _ hb)) hr⟩
 exact all X.outer (λ_ hb=>hb) I.ok.funs
theorem Inv.stack(I:Inv X pins σ H s):s.heap.FunFrames X.base X.stack:=by
 rcases I.ok.stk with e|⟨e,hf⟩
 rw[e];exact I.funs;rw[e];obtain⟨m,hn,_⟩:=I.loc;refine .cons (by rw[I.ok.kind];decide) hf hn ?_ I.funs;exact Heap.get?_none_of_le<|gT I.ok.bsz I.ok.above
theorem Inv.stkSub(I:Inv X pins σ H s):∀b∈dC X.stack,b∈X.env.locals::X.fs:=λb hb=>by
 rcases I.ok.stk with e|⟨e,hf⟩
 rw[e]at hb;exact iH _ hb;rw[e]at hb;unfold dC at hb;rw[wS,hf]at hb;exact hb
theorem Inv.stkFree(I:Inv X pins σ H s):∀b∈dC X.stack,H b=none:=λb hb=>by
 rcases Yam.mp (I.stkSub b hb) with e|hb
 rw[e];exact I.free;obtain⟨_,o,ho,_⟩:=I.ok.funs.mem hb;exact I.base.free b o ho (I.ok.frf b hb) λz=>I.ok.exfs b z hb
theorem Inv.step(I:Inv X pins σ H s)
  (hch:∀b∈ch,(b∈X.ex\/X.s₀.heap.objs.size<=b)/\b≠X.env.locals/\(∀x c,X.env.cells.lookup x=some c->c≠b)/\∀p∈X.pn++pins,p.1≠b)
  (keep:∀b o,b≠X.env.locals->b∉X.fs->b∉ch->s.heap.get? b=some o->H b=none->h'.get? b=some o)
  (slot:∀b o,b≠X.env.locals->b∈X.fs->b∉ch->s.heap.get? b=some o->H b=none->∃sl,h'.get? b=some { o with slots:=sl }) (free:∀b o,b∉ch->s.heap.get? b=some o->H b=none->H' b=none)
  (there:∀b o,b∉ch->s.heap.get? b=some o->∃o',h'.get? b=some o')
  (tups:∀b xs,H b=some (.tup xs)->H' b=some (.tup xs)) (frzs:∀b o u,H b=some (.frz o u)->H' b=some (.frz o u)) (tbls:∀b ps,H b=some (.tbl ps)->∃more,H' b=some (.tbl<|ps++more))
  (ns:∀m,s.heap.Ns X.env.locals m->h'.Ns X.env.locals m) (hok:HOk X.prog X.w H' h') (hg:AllBare g') (sy:(∀xs,H sysModules≠some (.lst xs))->∀xs,H' sysModules≠some (.lst xs)) :
  Inv X pins σ H' { s with heap:=h',gens:=g',drawn:=d',toks:=t' }:=by
 have neL:∀b o,X.s₀.heap.get? b=some o->b≠X.env.locals:=λb o e=>im<|dm (dG e) I.ok.above;have neC:∀b o,X.s₀.heap.get? b=some o->b∉X.ex->b∉ch:=λb o e hx hb=>by
  rcases(hch b hb).1 with z|z
  .exact hx z
  .exact Ng (dm (dG e) z)<|jd _
 have cellK:∀x c,X.env.cells.lookup x=some c->∀v,s.heap.IsCell c v->h'.IsCell c v:=λx c e v ⟨o,ho,hd⟩=>by
  have nch:c∉ch:=λz=>(hch c z).2.2.1 x c e rfl
  by_cases hc:c∈X.fs
  .obtain⟨sl,q⟩:=slot c o (I.cne x c e) hc nch ho (I.freeC x c e)
   exact⟨_,q,hd⟩
  .exact⟨o,keep c o (I.cne x c e) hc nch ho<|I.freeC x c e,hd⟩
 refine⟨I.ok,I.os,hg,⟨λb o e n hb hx=>?_,λb o e n hb hx=>?_,λb o e n hx=>?_,λb o e hx=>?_,λb xs e=>tups b xs<|I.base.tups b xs e,λb o xs e=>frzs b o xs<|I.base.frzs b o xs e,λb ps e=>?_,λx0 e0 n=>sy<|I.base.sys x0 e0 n⟩,?_,λx c e=>?_,?_,λx c e=>?_,λp hp=>?_,hok,I.len⟩
 .exact keep b o (neL b o e) hb (neC b o e hx) (I.base.keep b o e n hb hx)<|I.base.free b o e n hx
 .obtain⟨sl,e1⟩:=I.base.slot b o e n hb hx
  obtain⟨sl',e2⟩:=slot b _ (neL b o e) hb (neC b o e hx) e1<|I.base.free b o e n hx;exact⟨sl',e2⟩
 .obtain⟨o',e1⟩:=I.base.there b o e hx
  exact free b o' (neC b o e hx) e1<|I.base.free b o e n hx
 .obtain⟨o',e1⟩:=I.base.there b o e hx
  exact there b o' (neC b o e hx) e1
 .obtain⟨m1,e1⟩:=I.base.tbls b ps e
  obtain⟨m2,e2⟩:=tbls b _ e1;exact⟨m1++m2,by rw[e2,zp]⟩
 .obtain⟨m,hn,hl⟩:=I.loc
  refine⟨m,ns m hn,λi x v e1 e2 e3=>?_⟩;obtain⟨u,r,l⟩:=hl i x v e1 e2 e3;refine⟨u,r,?_⟩;rcases l with l|⟨k,c,e,z⟩
  .exact .inl l
  .exact .inr ⟨k,c,e,cellK x c e _ z⟩
 .obtain⟨v,z⟩:=I.cell x c e
  exact⟨v,cellK x c e v z⟩
 .obtain⟨m,⟨o,_,_,ho,_⟩,_⟩:=I.loc
  exact free _ o (λz=>(hch _ z).2.1 rfl) ho I.free
 .obtain⟨v,o,ho,hd⟩:=I.cell x c e
  exact free c o (λz=>(hch c z).2.2.1 x c e rfl) ho<|I.freeC x c e
 .obtain⟨e,n,ne,nf,d⟩:=I.pin p hp
  have nch:p.1∉ch:=λz=>(hch p.1 z).2.2.2 p hp rfl;exact⟨keep p.1 p.2 ne nf nch e n,free p.1 p.2 nch e n,ne,nf,d⟩
theorem Inv.un(I:Inv X pins σ H s)(u:Un X.fs [] H H' s.heap h')(hok:HOk X.prog X.w H' h'):Inv X pins σ H' { s with heap:=h',toks:=t' }:=by
 obtain⟨m,⟨o,es,ep,ho,r⟩,_⟩:=id I.loc;obtain⟨sl,hL⟩:=u.any ho I.free (by simp);exact I.step (g':=s.gens) (d':=s.drawn) (ch:=[]) (λ_ z=>nomatch z) (λb o _ hb _ e n=>u.keep b o e n hb<|by simp) (λb o _ hb _ e n=>u.slot b o e n hb<|by simp) (λb o _ e n=>u.free b o e n<|by simp) (λb o _ e=>u.there b o e<|by simp) u.tups u.frzs u.tbls (λm' hm=>by
  obtain⟨o',es',ep',ho',r'⟩:=hm;rw[ho]at ho';cases ho';exact⟨_,es',ep',hL,r'⟩) hok I.bare<|u.sys (by simp) I.hasG
theorem Inv.call(I:Inv X pins σ H s)(u:Un (dC X.stack) ch H H' s.heap h')(hok:HOk X.prog X.w H' h')(hg:AllBare g')
  (hch:∀b∈ch,(b∈X.ex\/X.s₀.heap.objs.size<=b)/\b≠X.env.locals/\(∀x c,X.env.cells.lookup x=some c->c≠b)/\∀p∈X.pn++pins,p.1≠b) :
  Inv X pins σ H' { s with heap:=h',gens:=g',drawn:=d',toks:=t' }:=by
 obtain⟨m,⟨o,es,ep,ho,r⟩,_⟩:=id I.loc;obtain⟨sl,hL⟩:=u.any ho I.free λz=>(hch _ z).2.1 rfl;exact I.step (ch:=ch) hch (λb o hL hb hc e n=>u.keep b o e n (λz=>(Yam.mp<|I.stkSub b z).elim hL hb) hc) (λb o _ _ hc e n=>u.any e n hc) (λb o hc e n=>u.free b o e n hc) (λb o hc e=>u.there b o e hc) u.tups u.frzs u.tbls (λm' hm=>by
  obtain⟨o',es',ep',ho',r'⟩:=hm;rw[ho]at ho';cases ho';exact ⟨_,es',ep',hL,r'⟩) hok hg<|u.sys (λz=>by
   obtain⟨o0,_,_,e0,_⟩:=I.ok.mod.glob;rcases(hch _ z).1 with y|y
   .exact I.ok.noex _ _ e0 y
   .exact Ng (dm (dG (I.ok.bs _ _ e0).1) y)<|jd _) I.hasG
theorem Inv.turned(I:Inv X pins σ H s)(k:∀b o,b≠it->s.heap.get? b=some o->h'.get? b=some o)(hn:H it=none)(hL:it≠X.env.locals)
  (h1:it∈X.ex\/X.s₀.heap.objs.size<=it) (h2:∀x c,X.env.cells.lookup x=some c->c≠it) (h3:∀p∈X.pn++pins,p.1≠it):Inv X pins σ H { s with heap:=h',toks:=t' }:=by
 have nit:∀b u,H b=some u->b≠it:=λb u e z=>by rw[z,hn]at e;cases e
 refine I.step (g':=s.gens) (d':=s.drawn) (ch:=[it]) (λb hb=>?_) (λb o _ _ hc e _=>k b o (λz=>hc<|by simp[z]) e) (λb o _ _ hc e _=>⟨o.slots,k b o (λz=>hc<|by simp[z]) e⟩) (λ_ _ _ _ n=>n)
  (λb o hc e=>⟨o,k b o (λz=>hc<|by simp[z]) e⟩) (λ_ _ e=>e) (λ_ _ _ e=>e) (λb ps e=>⟨#[],by rw[e];simp⟩) (λm hm=>?_) (λb u e=>?_) I.bare (λn=>n)
 .have e:b=it:=by simpa using hb
  subst e;exact⟨h1,hL,h2,h3⟩
 .obtain⟨o,es,ep,ho,r⟩:=hm
  exact⟨o,es,ep,k _ o (Nr hL) ho,r⟩
 .refine(I.hok b u e).stay (λc v hc q=>k c v ?_ q) (λ_ q=>q) λ_ _ q=>q
  rcases hc with z|z
  .rw[z];exact nit b u e
  .exact nit c _ z
theorem Inv.tok(I:Inv X pins σ H s)(t:Nat):Inv X pins σ H { s with toks:=t }:=I.un (h':=s.heap) (t':=t) Un.refl I.hok
theorem Inv.kept{t':Nat}(I:Inv X pins σ H s)(k:∀b u,s.heap.get? b=some u->h'.get? b=some u):Inv X pins σ H { s with heap:=h',toks:=t' }:=I.un (Un.kept k)<|I.hok.kept k
theorem Inv.laid{a:Addr}{o:HO}{t':Nat}(I:Inv X pins σ H s)(k:∀b u,s.heap.get? b=some u->h'.get? b=some u)(hp:s.heap.objs.size<=a)(new:ObjOk X.prog X.w (upd H a o) h' a o) :
  Inv X pins σ (upd H a o) { s with heap:=h',toks:=t' }:=I.un (Un.laid k hp<|I.hok.fresh hp)<|I.hok.laid k hp new
theorem Inv.write{x e:Addr}{o:HO}{t':Nat}(I:Inv X pins σ H s)(mu:xu (H x))(he:e=x\/H e=some (.own x))(k:∀b u,b≠e->s.heap.get? b=some u->h'.get? b=some u)(heo:∃u,h'.get? e=some u)
  (new:ObjOk X.prog X.w (upd H x o) h' x o) (hk:(∃us,H x=some (.lst us))\/∀us,o≠.lst us):Inv X pins σ (upd H x o) { s with heap:=h',toks:=t' }:=I.un (Un.write mu he k heo hk)<|I.hok.write mu he k heo new
theorem Inv.pins_of{pins':List (Addr×Obj)}(I:Inv X pins σ H s)(h:∀p∈pins',s.heap.get? p.1=some p.2/\H p.1=none/\p.1≠X.env.locals/\p.1∉X.fs/\∀v,p.2.data≠.cell v):Inv X pins' σ H s:=
 ⟨I.ok,I.os,I.bare,I.base,I.loc,I.cell,I.free,I.freeC,λp hp=>(Yan.mp hp).elim (λz=>I.pin p<|zq _ z)<|h p,I.hok,I.len⟩
theorem jh(hN:N.Nodup)(a:N[i]? = some x)(b:N[j]? = some x):i=j:=by obtain⟨h1,e1⟩:=Yap.mp a;obtain⟨h2,e2⟩:=Yap.mp b;exact(List.getElem_inj hN).mp<|e1.trans e2.symm
theorem fU{M:Model}{E:Value->Shared->Prop}{u:Value}{Q:Unit->Shared->Prop}(I:Inv X pins σ H s)(hN:X.N.Nodup)(hi:X.N[i]? = some x)(hx:oD X.env.scope x)(r:RelV v u)
  (h:∀s',Inv X pins (σ.set i<|some v) H s'->(∃a,Heap.SameBut a s.heap s'.heap/\(a=X.env.locals\/X.env.cells.lookup x=some a))->Q () s') (hf:X.fn x=true\/X.env.scope.names.lookup x=some .local:=by first|exact .inl rfl|exact .inr rfl|assumption):wpAny M A (storeName X.env x u) Q E s:=by
 obtain⟨m,hn,hl⟩:=id I.loc;have hcls:(X.env.scope.kind==.class||(X.env.scope.kind==.module&&X.env.locals != X.env.globals))=false:=by rw[I.ok.kind];rfl
 have hiσ:i<σ.length:=by rw[I.len];exact(Yap.mp hi).1
 have cne:=I.cne;have tracked:∀{a:Addr} {h':Heap},(∃o,s.heap.get? a=some o/\H a=none)->Heap.SameBut a s.heap h'->HOk X.prog X.w H h':=λ{a h'} ha hs b ob e=>by
  obtain⟨_,_,hfree⟩:=ha;refine(I.hok b ob e).stay (λc w' hc q=>(hs.2 c ?_).trans q) (λ_ q=>q) λ_ _ q=>q;rintro rfl;rcases hc with rfl|hc
  .rw[hfree]at e;cases e
  .rw[hfree]at hc;cases hc
 rcases hx with hk|hk
 .refine wpAny_storeName_local hk hn (λh' hn' hs=>?_) hcls
  obtain⟨oL,_,_,hoL,_⟩:=id hn;refine h _ ⟨I.ok,I.os,I.bare,⟨λb o e n hb hx=>?_,λb o e n hb hx=>?_,I.base.free,λb o e hx=>?_,I.base.tups,I.base.frzs,I.base.tbls,I.base.sys⟩,⟨_,hn',λj y v' e1 e2 e3=>?_⟩,λy c e=>?_,I.free,I.freeC,λp hp=>?_,tracked ⟨oL,hoL,I.free⟩ hs,by simpa using I.len⟩ ⟨_,hs,.inl rfl⟩
  .exact(hs.2 b<|im<|dm (dG e) I.ok.above).trans (I.base.keep b o e n hb hx)
  .obtain⟨sl,e1⟩:=I.base.slot b o e n hb hx
   exact⟨sl,(hs.2 b<|im<|dm (dG e) I.ok.above).trans e1⟩
  .obtain⟨o',e1⟩:=I.base.there b o e hx
   exact⟨o',(hs.2 b<|im<|dm (dG e) I.ok.above).trans e1⟩
  .by_cases hj:j=i
   .subst hj
    rw[hi]at e1;cases e1;rw[fe hiσ]at e2;cases e2;exact⟨u,r,.inl ⟨hk,by simp⟩⟩
   .rw[eN<|Nr hj]at e2
    obtain⟨u',r',q⟩:=hl j y v' e1 e2 e3;refine⟨u',r',?_⟩;rcases q with⟨k,e⟩|⟨k,c,e,z⟩
    .refine .inl ⟨k,?_⟩
     have:y≠x:=λe=>hj<|jh hN e1 (e▸hi);simp[this,e]
    .exact .inr ⟨k,c,e,z.sameBut hs<|cne y c e⟩
  .obtain⟨w',z⟩:=I.cell y c e
   exact⟨w',z.sameBut hs<|cne y c e⟩
  .obtain⟨e,n,ne,nf,d⟩:=I.pin p hp
   exact⟨(hs.2 p.1 ne).trans e,n,ne,nf,d⟩
 .have hfn:X.fn x=true:=by
   rcases hf with z|z
   .exact z
   .rw[z]at hk;cases hk
  obtain⟨c,hc⟩:=I.ok.has x<|.inl hk;obtain⟨w',z⟩:=I.cell x c hc;refine wpAny_storeName_cell I.ok.kind hk hc z<|λh' hc' hs=>?_;obtain⟨oc,hoc,hocd⟩:=id z;refine h { s with heap:=h' } ⟨I.ok,I.os,I.bare,⟨λb o e n hb hx=>?_,λb o e n hb hx=>?_,I.base.free,λb o e hx=>?_,I.base.tups,I.base.frzs,I.base.tbls,I.base.sys⟩,⟨m,hn.sameBut hs<|Nr<|cne x c hc,λj y v' e1 e2 e3=>?_⟩,λy c' e=>?_,I.free,I.freeC,λp hp=>?_,tracked ⟨oc,hoc,I.freeC x c hc⟩ hs,by simpa using I.len⟩ ⟨c,hs,.inr hc⟩
  .exact(hs.2 b<|im<|dm (dG e)<|I.ok.cab x c hfn hc).trans (I.base.keep b o e n hb hx)
  .obtain⟨sl,e1⟩:=I.base.slot b o e n hb hx
   exact⟨sl,(hs.2 b<|im<|dm (dG e)<|I.ok.cab x c hfn hc).trans e1⟩
  .obtain⟨o',e1⟩:=I.base.there b o e hx
   exact⟨o',(hs.2 b<|im<|dm (dG e)<|I.ok.cab x c hfn hc).trans e1⟩
  .by_cases hj:j=i
   .subst hj
    rw[hi]at e1;cases e1;rw[fe hiσ]at e2;cases e2;exact⟨u,r,.inr ⟨.inl hk,c,hc,hc'⟩⟩
   .rw[eN<|Nr hj]at e2
    obtain⟨u',r',q⟩:=hl j y v' e1 e2 e3;refine⟨u',r',?_⟩;rcases q with q|⟨k,c',e,z'⟩
    .exact .inl q
    .refine .inr ⟨k,c',e,z'.sameBut hs ?_⟩
     rintro rfl;exact hj<|jh hN e1 (I.ok.inj _ _ _ e hc▸hi)
  .by_cases hcc:c'=c
   .subst hcc;exact⟨_,hc'⟩
   .obtain⟨w2,z2⟩:=I.cell y c' e
    exact⟨w2,z2.sameBut hs hcc⟩
  .obtain⟨e,n,ne,nf,d⟩:=I.pin p hp
   refine⟨(hs.2 p.1 ?_).trans e,n,ne,nf,d⟩;intro q;rw[q,hoc]at e;have q':oc=p.2:=Nk e;exact d w' (by rw[<-q'];exact hocd)
theorem ft{M:Model}{E:Value->Shared->Prop}{u:Value}{Q:Unit->Shared->Prop}(I:Inv X pins σ H s)(hN:X.N.Nodup)(hi:X.N[i]? = some x)(hx:oD X.env.scope x)(r:RelV v u)
  (h:∀s',Inv X pins (σ.set i<|some v) H s'->Q () s') (hf:X.fn x=true\/X.env.scope.names.lookup x=some .local:=by first|exact .inl rfl|exact .inr rfl|assumption):wpAny M A (storeName X.env x u) Q E s:=
 fU I hN hi hx r (λs' I' _=>h s' I') hf
theorem Inv.call'(I:Inv X pins σ H s)(ho:s'.os=s.os)(u:Un (dC X.stack) ch H H' s.heap s'.heap)(hok:HOk X.prog X.w H' s'.heap)(hg:AllBare s'.gens)
  (hch:∀b∈ch,(b∈X.ex\/X.s₀.heap.objs.size<=b)/\b≠X.env.locals/\(∀x c,X.env.cells.lookup x=some c->c≠b)/\∀p∈X.pn++pins,p.1≠b):Inv X pins σ H' s':=by
 obtain⟨h',g',d',t',o'⟩:=s';have e:o'=s.os:=ho;subst e;exact I.call (g':=g') (t':=t') (d':=d') u hok hg hch
end
abbrev XK:=Value->Option Addr->Hp->Prop
abbrev St:=List<|Option V
variable{σ:St}
abbrev VK:=V->Hp->Prop
abbrev TE:=St->Hp->VK->Prop
variable{ta tb te:TE}
abbrev TT:=St->Hp->(Bool->Hp->Prop)->Prop
variable{tc:TT}
abbrev TA:=St->Hp->(List V->Hp->Prop)->Prop
variable{t:TA}
structure jK where
 nx:St->Hp->Prop
 rt:VK
 bk:St->Hp->Prop:=λ_ _=>False
 ct:St->Hp->Prop:=λ_ _=>False
abbrev TS:=jK->St->Hp->Prop
def EP(X:Cx)(pins:List (Addr×Obj))(σ:St)(Q:VK)(u:Value)(s':Shared):Prop:=∃v H',Inv X pins σ H' s'/\RelV v u/\Q v H'
def TP(X:Cx)(pins:List (Addr×Obj))(σ:St)(Q:Bool->Hp->Prop)(b:Bool)(s':Shared):Prop:=∃H',Inv X pins σ H' s'/\Q b H'
def AP(X:Cx)(pins:List (Addr×Obj))(σ:St)(Q:List V->Hp->Prop)(us:List Value)(s':Shared):Prop:=∃vs H',Inv X pins σ H' s'/\Vals vs us/\Q vs H'
def SP(X:Cx)(pins:List (Addr×Obj))(D:jK)(f:Flow)(s':Shared):Prop:=
 match f with
 |.next=>∃σ' H',Inv X pins σ' H' s'/\D.nx σ' H'|.brk=>∃σ' H',Inv X pins σ' H' s'/\D.bk σ' H'|.cont=>∃σ' H',Inv X pins σ' H' s'/\D.ct σ' H'|.ret u=>∃v σ' H',Inv X pins σ' H' s'/\RelV v u/\D.rt v H'
def PE(X:Cx)(e:Expr)(t:TE):Prop:=
 ∀(pins:List (Addr×Obj)) (s:Shared) (σ:St) (H:Hp) (Q:VK),Inv X pins σ H s->t σ H Q->wpAny (model X.prog X.w) X.A (eval e X.env) (EP X pins σ Q) X.xe s
def PT(X:Cx)(e:Expr)(t:TT):Prop:=
 ∀(pins:List (Addr×Obj)) (s:Shared) (σ:St) (H:Hp) (Q:Bool->Hp->Prop),Inv X pins σ H s->t σ H Q->wpAny (model X.prog X.w) X.A (isTrue e X.env<|eval e X.env) (TP X pins σ Q) X.xe s
def PW(X:Cx)(e:Expr)(t:TT):Prop:=
 ∀(whole:Sem Value) (pins:List (Addr×Obj)) (s:Shared) (σ:St) (H:Hp) (Q:Bool->Hp->Prop),Inv X pins σ H s->t σ H Q->wpAny (model X.prog X.w) X.A (isTrue e X.env whole) (TP X pins σ Q) X.xe s
theorem PW.pt{t:TT}(h:PW X e t):PT X e t:=h _
def PA(X:Cx)(es:List Expr)(t:TA):Prop:=
 ∀(pos:Pos) (pins:List (Addr×Obj)) (s:Shared) (σ:St) (H:Hp) (Q:List V->Hp->Prop),Inv X pins σ H s->t σ H Q->wpAny (model X.prog X.w) X.A (spliced<|backTo pos<|starEach es X.env) (AP X pins σ Q) X.xe s
def PS(X:Cx)(st:Stmt)(t:TS):Prop:=
 ∀(pins:List (Addr×Obj)) (s:Shared) (σ:St) (H:Hp) (D:jK),Inv X pins σ H s->t D σ H->wpAny (model X.prog X.w) X.A (exec st X.env) (SP X pins D) X.xe s
def m8(X:Cx)(st:List Stmt)(t:TS):Prop:=
 ∀(pins:List (Addr×Obj)) (s:Shared) (σ:St) (H:Hp) (D:jK),Inv X pins σ H s->t D σ H->wpAny (model X.prog X.w) X.A (execs st X.env) (SP X pins D) X.xe s
theorem bW{α:Type}{t:Sem α}{Q Q':α->Shared->Prop}{M:Model}{E:Value->Shared->Prop}(h:wpAny M A t Q E s)(hQ:∀a s,Q a s->Q' a s):wpAny M A t Q' E s:=Nw h hQ λ_ _ x=>x
section
theorem M9{a b:Expr}(ha:PE X a ta)(hb:PE X b tb){R:V->V->Hp->Prop}(I:Inv X pins σ H s)(h:ta σ H λx H1=>tb σ H1 λy H2=>R x y H2)
  {α:Type} {Q:α->Shared->Prop} {f:Value->Value->Sem α}
  (hf:∀v u s2 x y H2,Inv X pins σ H2 s2->RelV x v->RelV y u->R x y H2->wpAny (model X.prog X.w) X.A (f v u) Q X.xe s2) :
  wpAny (model X.prog X.w) X.A (eval a X.env) (λv s₁=>wpAny (model X.prog X.w) X.A (eval b X.env) (λu s₂=>wpAny (model X.prog X.w) X.A (f v u) Q X.xe s₂) X.xe s₁) X.xe s:=by
 refine bW (ha pins s σ H _ I h) λv s1 ⟨x,H1,I1,r1,q1⟩=>?_;refine bW (hb pins s1 σ H1 _ I1 q1) λu s2 ⟨y,H2,I2,r2,q2⟩=>?_;exact hf v u s2 x y H2 I2 r1 r2 q2
def zV(i:Nat):TE:=λσ H Q=>∃v,σ[i]? = some (some v)/\Q v H
def tC(v:V):TE:=λ_ H Q=>Q v H
theorem fh(hN:X.N[i]? = some x)(hv:oY X.env.scope x)(hd:(x==("__debug__" : Str))=false:=by decide)(hcd:(x==("__classdict__" : Str))=false:=by decide):PE X (.Name x pos) (zV i):=by
 intro pins s σ H Q I h;obtain⟨v,e,h⟩:=h;obtain⟨m,hn,hl⟩:=I.loc;obtain⟨u,r,l⟩:=hl i x v hN e hv;have fin:EP X pins σ Q u s:=⟨v,H,I,r,h⟩;rcases l with⟨hk,hm⟩|⟨hk,c,hc,hcell⟩
 exact wpAny_Name (wpAny_loadName_local I.ok.kind hk hn hm fin) hd;rcases hk with hk|hk
 exact wpAny_Name (wpAny_loadName_cell I.ok.kind hk hc hcell fin) hd;exact wpAny_Name (wpAny_loadName_free I.ok.kind hk hc hcell fin hcd) hd
theorem jL{i j pos}:PE X (.Constant (.int i) j pos) (tC<|.int i):=λ_ _ _ H _ I h=>wpAny_Constant_int ⟨.int i,H,I.tok _,⟨_,rfl⟩,h⟩
theorem ud{b j pos}:PE X (.Constant (.bool b) j pos) (tC<|.bl b):=λ_ _ _ H _ I h=>Constant_bool ⟨.bl b,H,I,rfl,h⟩
theorem qT{j pos}:PE X (.Constant .none j pos) (tC .non):=λ_ _ _ H _ I h=>Constant_none ⟨.non,H,I,rfl,h⟩
theorem qU{x j pos}:PE X (.Constant (.str x) j pos) (tC<|.str x):=λ_ _ _ H _ I h=>Calls.Constant_str ⟨.str x,H,I.tok _,⟨_,rfl⟩,h⟩
def Gl(X:Cx)(x:Str):Prop:=X.env.kindOf x=some .globalImplicit
theorem fv{E:Value->Shared->Prop}{u:Value}(I:Inv X pins σ H s)(hg:Gl X x)(hm:X.mg x=some u)(h:Q u s)
  (hd:(x==("__debug__" : Str))=false:=by decide):wpAny (model X.prog X.w) X.A (eval (.Name x pos) X.env) Q E s:=
 Calls.Name_function_global I.ok.kind hg (Calls.loadGlobal_global (by rw[I.ok.glob];exact I.mod.glob.keeps I.bk) hm h) hd
theorem ez{E:Value->Shared->Prop}{u:Value}(I:Inv X pins σ H s)(hg:Gl X x)(hm:X.mg x=none)(hv:bootBuiltins x=some u)(h:Q u s)
  (hn:x≠ "__name__" :=by decide) (hd:(x==("__debug__" : Str))=false:=by decide):wpAny (model X.prog X.w) X.A (eval (.Name x pos) X.env) Q E s:=by
 obtain⟨mb,h1,h2⟩:=I.mod.blt;exact Calls.Name_function_global I.ok.kind hg (Calls.loadGlobal_builtin (by rw[I.ok.glob];exact I.mod.glob.keeps I.bk) hm (by rw[I.ok.blt];exact h1.keeps I.bk) ((h2 x hn).trans hv) h) hd
theorem oZ{u:Value}(hg:Gl X x)(hm:X.mg x=some u)(r:RelV v u)(hd:(x==("__debug__" : Str))=false:=by decide):PE X (.Name x pos) (tC v):=
 λ_ _ _ H _ I h=>fv I hg hm ⟨v,H,I,r,h⟩ hd
theorem o1{u:Value}(hg:Gl X x)(hm:X.mg x=none)(hv:bootBuiltins x=some u)(r:RelV v u)(hn:x≠ "__name__" :=by decide)(hd:(x==("__debug__" : Str))=false:=by decide):PE X (.Name x pos) (tC v):=
 λ_ _ _ H _ I h=>ez I hg hm hv ⟨v,H,I,r,h⟩ hn hd
variable{a b:Expr}
variable{tA tB':TT}{rest:List Expr}
def zW(t u:TT):TT:=λσ H Q=>t σ H λc H1=>if c=true then u σ H1 Q else Q false H1
def G9(t u:TT):TT:=λσ H Q=>t σ H λc H1=>if c=true then Q true H1 else u σ H1 Q
def zX(t:TT):TT:=λσ H Q=>t σ H λc H1=>Q (!c) H1
theorem o4(ha:PT X a tA):PW X (.BoolOp .And [a] pos) tA:=by
 intro wh pins s σ H Q I h;refine isTrue_and<|bW (ha pins s σ H Q I h) λc s1 e=>?_;cases c with
 |true=>exact isTrue_and_nil e|false=>exact e
theorem qV(ha:PT X a tA):PW X (.BoolOp .Or [a] pos) tA:=by
 intro wh pins s σ H Q I h;refine isTrue_or<|bW (ha pins s σ H Q I h) λc s1 e=>?_;cases c with
 |false=>exact isTrue_or_nil e|true=>exact e
theorem qW(ha:PT X a tA)(hb:PW X (.BoolOp .And (b::rest) pos) tB'):PW X (.BoolOp .And (a::b::rest) pos) (zW tA tB'):=by
 intro wh pins s σ H Q I h;refine isTrue_and<|bW (ha pins s σ H _ I h) λc s1 ⟨H1,I1,q1⟩=>?_;cases c with
 |true=>exact hb wh pins s1 σ H1 Q I1 q1|false=>exact⟨H1,I1,q1⟩
theorem ue(ha:PT X a tA)(hb:PW X (.BoolOp .Or (b::rest) pos) tB'):PW X (.BoolOp .Or (a::b::rest) pos) (G9 tA tB'):=by
 intro wh pins s σ H Q I h;refine isTrue_or<|bW (ha pins s σ H _ I h) λc s1 ⟨H1,I1,q1⟩=>?_;cases c with
 |true=>exact⟨H1,I1,q1⟩|false=>exact hb wh pins s1 σ H1 Q I1 q1
theorem qX(ha:PT X a tA):PT X (.UnaryOp .Not a pos) (zX tA):=by intro pins s σ H Q I h;exact isTrue_not<|ha pins s σ H (λc H1=>Q (!c) H1) I h
def uf(ta tb:TE):TE:=λσ H Q=>ta σ H λx H1=>∃c,x=.bl c/\if c=true then tb σ H1 Q else Q (.bl false) H1
def ug(ta:TE):TE:=λσ H Q=>ta σ H λx H1=>∃c,x=.bl c/\Q (.bl (!c)) H1
theorem qY{op}{t:TE}(h:PE X a t):PE X (.BoolOp op [a] pos) t:=λpins s σ H Q I hw=>BoolOp_one<|h pins s σ H Q I hw
theorem qZ(ha:PE X a ta)(hb:PE X (.BoolOp .And (b::rest) pos) tb):PE X (.BoolOp .And (a::b::rest) pos) (uf ta tb):=by
 intro pins s σ H Q I h;refine BoolOp_and<|bW (ha pins s σ H _ I h) λv s1 ⟨x,H1,I1,r1,q1⟩=>?_;obtain⟨c,rfl,q1⟩:=q1;cases r1;refine Nv ?_;cases c with
 |true=>exact hb pins s1 σ H1 Q I1 q1|false=>exact⟨.bl false,H1,I1,rfl,q1⟩
theorem rc(ha:PE X a ta):PE X (.UnaryOp .Not a pos) (ug ta):=by intro pins s σ H Q I h;refine UnaryOp_<|bW (ha pins s σ H _ I h) λv s1 ⟨x,H1,I1,r1,q1⟩=>?_;obtain⟨c,rfl,q1⟩:=q1;cases r1;exact not_of<|Nv ⟨.bl (!c),H1,I1,rfl,q1⟩
end
def SqL(K:Nd)(H:Hp)(a:Addr)(xs:List V):Prop:=
 Rd H a (.lst xs)\/
  ∃(o:Obj) (its:Array Value) (n:Nat),K.lookup a=some o/\o.cls=.type "list" /\o.dict=none/\o.data=.seq its n/\its.size<=sizeLine/\Vals xs its.toList
def SqT(K:Nd)(H:Hp)(a:Addr)(xs:List V):Prop:=
 Rd H a (.tup xs)\/
  ∃(o:Obj) (its:Array Value) (n:Nat),K.lookup a=some o/\o.cls=.type "tuple" /\o.data=.seq its n/\its.size<=sizeLine/\Vals xs its.toList
def zY:Value->Option V
 |.none=>some .non|.bool b=>some<|.bl b
 |.int i _=>some<|.int i
 |.str x _=>some<|.str x
 |.bytes b _=>some<|.byt b
 |.float b _=>some<|.flt b
 |.ref a=>some<|.ref a
 |.type n=>some<|.ty n
 |_=>none
theorem RelV.abs{x:V}{u:Value}(r:RelV x u):zY u=some x:=by
 cases x with
 |non=>cases r;rfl
 |bl _=>cases r;rfl
 |int _=>obtain⟨t,rfl⟩:=r;rfl
 |str _=>obtain⟨t,rfl⟩:=r;rfl
 |byt _=>obtain⟨t,rfl⟩:=r;rfl
 |flt _=>obtain⟨t,rfl⟩:=r;rfl
 |ref _=>cases r;rfl
 |ty _=>cases r;rfl
theorem RelV.inj{x y:V}{u:Value}(r:RelV x u)(q:RelV y u):x=y:=Nk<|r.abs.symm.trans q.abs
theorem Vals.inj:∀{xs ys:List V} {us:List Value},Vals xs us->Vals ys us->xs=ys
 |_,_,_,.nil,.nil=>rfl|_,_,_,.cons r t,.cons r' t'=>by rw[r.inj r',Vals.inj t t']
section
variable{ys:List V}
theorem SqL.of(h:H a=some (.lst xs)):SqL K H a xs:=.inl<|.inl h
theorem SqT.of(h:H a=some (.tup xs)):SqT K H a xs:=.inl<|.inl h
theorem Inv.list(I:Inv X pins σ H s)(h:SqL X.K H a xs):∃its:List Value,Vals xs its/\PlainL s.heap a its.toArray/\xs.length<=sizeLine:=by
 rcases h with h|⟨o,its,n,hk,hc,hd,hs,hz,r⟩
 obtain⟨z,its,n,r,e⟩:=h.ok I.hok;exact⟨its,r,⟨_,n,e,rfl,rfl,rfl⟩,z⟩;refine⟨its.toList,r,⟨o,n,I.kIn a o hk,hc,hd,by simpa using hs⟩,?_⟩;have e:=r.length;simp only[wU]at e;omega
theorem Inv.tuple(I:Inv X pins σ H s)(h:SqT X.K H a xs):∃its:List Value,Vals xs its/\IsTup s.heap a its.toArray/\xs.length<=sizeLine:=by
 rcases h with h|⟨o,its,n,hk,hc,hs,hz,r⟩
 obtain⟨z,its,r,p⟩:=h.ok I.hok;exact⟨its,r,p,z⟩;refine⟨its.toList,r,⟨o,I.kIn a o hk,hc,n,by simpa using hs⟩,?_⟩;have e:=r.length;simp only[wU]at e;omega
theorem Inv.list_inj(I:Inv X pins σ H s)(h:SqL X.K H a xs)(h':SqL X.K H a ys):xs=ys:=by
 obtain⟨its,r,⟨o,n,e,_,_,d⟩,_⟩:=I.list h;obtain⟨its',r',⟨o',n',e',_,_,d'⟩,_⟩:=I.list h';rw[e]at e';cases e';rw[d]at d';injection d' with d1 _
 have:its=its':=by simpa using congrArg Array.toList d1
 subst this;exact r.inj r'
theorem Inv.tuple_inj(I:Inv X pins σ H s)(h:SqT X.K H a xs)(h':SqT X.K H a ys):xs=ys:=by
 obtain⟨its,r,⟨o,e,_,n,d⟩,_⟩:=I.tuple h;obtain⟨its',r',⟨o',e',_,n',d'⟩,_⟩:=I.tuple h';rw[e]at e';cases e';rw[d]at d';injection d' with d1 _
 have:its=its':=by simpa using congrArg Array.toList d1
 subst this;exact r.inj r'
end
abbrev Cx.wish(X:Cx)(E:Value->Shared->Prop):Cx:={ X with xe:=E }
abbrev Cx.nox(X:Cx):Cx:=X.wish λ_ _=>False
theorem Cx.Ok.wish{X:Cx}(ok:X.Ok)(E:Value->Shared->Prop):(X.wish E).Ok:=
 ⟨ok.mod,ok.kind,ok.glob,ok.blt,ok.above,ok.inj,ok.has,ok.cab,ok.hd,ok.frames,ok.stk,ok.exf,ok.bs,ok.bsz,ok.noex,ok.exfs,ok.funs,ok.frf,ok.sys0⟩
theorem Cx.Ok.unwish{E:Value->Shared->Prop}(ok:(X.wish E).Ok):X.Ok:=
 ⟨ok.mod,ok.kind,ok.glob,ok.blt,ok.above,ok.inj,ok.has,ok.cab,ok.hd,ok.frames,ok.stk,ok.exf,ok.bs,ok.bsz,ok.noex,ok.exfs,ok.funs,ok.frf,ok.sys0⟩
section
variable{E:Value->Shared->Prop}
theorem Inv.wish(I:Inv X pins σ H s)(E:Value->Shared->Prop):Inv (X.wish E) pins σ H s:=⟨I.ok.wish E,I.os,I.bare,I.base,I.loc,I.cell,I.free,I.freeC,I.pin,I.hok,I.len⟩
theorem Inv.unwish(I:Inv (X.wish E) pins σ H s):Inv X pins σ H s:=⟨I.ok.unwish,I.os,I.bare,I.base,I.loc,I.cell,I.free,I.freeC,I.pin,I.hok,I.len⟩
theorem SP.unwish{D:jK}{f:Flow}{s':Shared}(h:SP (X.wish E) pins D f s'):SP X pins D f s':=by
 cases f with
 |next=>obtain⟨σ',H',I,q⟩:=h;exact⟨σ',H',I.unwish,q⟩
 |brk=>obtain⟨σ',H',I,q⟩:=h;exact⟨σ',H',I.unwish,q⟩
 |cont=>obtain⟨σ',H',I,q⟩:=h;exact⟨σ',H',I.unwish,q⟩
 |ret u=>obtain⟨v,σ',H',I,r,q⟩:=h;exact⟨v,σ',H',I.unwish,r,q⟩
end
section
variable{st:Stmt}{rest:List Stmt}{t u:TS}
def uh:TS:=λD σ H=>D.nx σ H
def zZ(t u:TS):TS:=λD σ H=>t { D with nx:=u D } σ H
theorem o5:m8 X [] uh:=λ_ _ σ H _ I h=>ND ⟨σ,H,I,h⟩
theorem m9(h1:PS X st t)(h2:m8 X rest u):m8 X (st::rest) (zZ t u):=by
 intro pins s σ H D I h;refine wpAny_execs_cons<|bW (h1 pins s σ H { D with nx:=u D } I h) λf s1 q=>?_;cases f with
 |next=>obtain⟨σ',H',I',q⟩:=q;exact h2 pins s1 σ' H' D I' q
 |ret v=>exact q|brk=>exact q|cont=>exact q
theorem o6(h1:PS X st t):m8 X [st] t:=by
 intro pins s σ H D I h;refine wpAny_execs_cons<|bW (h1 pins s σ H D I h) λf s1 q=>?_;cases f with
 |next=>exact ND q|ret v=>exact q|brk=>exact q|cont=>exact q
theorem Inv.quiet(I:Inv X pins σ H s):interactive X.env=false:=by simp[interactive,I.ok.kind]
def ui(te:TE):TS:=λD σ H=>te σ H λ_ H1=>D.nx σ H1
theorem kj(he:PE X e te)(hs:swapsWith e none pos.line X.env=pure false:=by rfl):PS X (.Expr e pos) (ui te):=by intro pins s σ H D I h;exact wpAny_Expr_any (bW (he pins s σ H _ I h) λv s1 ⟨x,H1,I1,r1,q1⟩=>⟨σ,H1,I1,q1⟩) I.quiet hs
def z5(te:TE):TS:=λD σ H=>te σ H D.rt
theorem re(he:PE X e te):PS X (.Return (some e) pos) (z5 te):=by intro pins s σ H D I h;exact wpAny_Return_some<|bW (he pins s σ H _ I h) λv s1 ⟨x,H1,I1,r1,q1⟩=>⟨x,σ,H1,I1,r1,q1⟩
def z6(c:TT)(t u:TS):TS:=λD σ H=>c σ H λb H1=>if b=true then t D σ H1 else u D σ H1
theorem uj{a b:List Stmt}(hc:PT X c tc)(ha:m8 X a t)(hb:m8 X b u):PS X (.If c a b pos) (z6 tc t u):=by
 intro pins s σ H D I h;refine wpAny_If<|bW (hc pins s σ H _ I h) λd s1 ⟨H1,I1,q1⟩=>?_;cases d with
 |true=>exact ha pins s1 σ H1 D I1 q1|false=>exact hb pins s1 σ H1 D I1 q1
end
abbrev TG:=V->St->Hp->(St->Hp->Prop)->Prop
abbrev rf:=List V->St->Hp->(St->Hp->Prop)->Prop
def PG(X:Cx)(target:Expr)(t:TG):Prop:=
 ∀(pins:List (Addr×Obj)) (s:Shared) (σ:St) (H:Hp) (v:V) (u:Value) (Q:St->Hp->Prop),Inv X pins σ H s->RelV v u->t v σ H Q->
  wpAny (model X.prog X.w) X.A (assign target X.env u) (λ_ s'=>∃σ' H',Inv X pins σ' H' s'/\Q σ' H') X.xe s
def uk(X:Cx)(ts:List Expr)(t:rf):Prop:=
 ∀(pins:List (Addr×Obj)) (s:Shared) (σ:St) (H:Hp) (vs:List V) (us:List Value) (Q:St->Hp->Prop),Inv X pins σ H s->Vals vs us->t vs σ H Q->
  wpAny (model X.prog X.w) X.A (assignInOrder ((assignEach ts X.env).map (·.2)) us) (λ_ s'=>∃σ' H',Inv X pins σ' H' s'/\Q σ' H') X.xe s
abbrev rg:=V->V->V->Hp->(Hp->Prop)->Prop
def um(X:Cx)(t:rg):Prop:=
 ∀(pins:List (Addr×Obj)) (s:Shared) (σ:St) (H:Hp) (o i v:V) (ov iv u:Value) (Q:Hp->Prop),Inv X pins σ H s->RelV o ov->RelV i iv->RelV v u->t o i v H Q->
  wpAny (model X.prog X.w) X.A (setItem ov iv u) (λ_ s'=>∃H',Inv X pins σ H' s'/\Q H') X.xe s
section
def km(i:Nat):TG:=λv σ H Q=>Q (σ.set i<|some v) H
theorem o7(hN:X.N.Nodup)(hi:X.N[i]? = some x)(hx:oD X.env.scope x)(hf:X.fn x=true\/X.env.scope.names.lookup x=some .local:=by first|exact .inl rfl|exact .inr rfl|assumption):PG X (.Name x pos) (km i):=by intro pins s σ H v u Q I r h;exact wpAny_assign_Name<|ft I hN hi hx r (λs' I'=>⟨_,H,I',h⟩) hf
def z7:rf:=λvs σ H Q=>vs=[]/\Q σ H
def uo(t:TG)(u:rf):rf:=λvs σ H Q=>∃v r,vs=v::r/\t v σ H λσ' H'=>u r σ' H' Q
theorem kn:uk X [] z7:=by intro pins s σ H vs us Q I r h;obtain⟨e,h⟩:=h;subst e;cases r;exact assignInOrder_nil ⟨σ,H,I,h⟩
theorem gD{t:TG}{u:rf}(h1:PG X e t)(h2:uk X es u)
  (hs:(assignEach (e::es) X.env).map (·.2)=assign e X.env::(assignEach es X.env).map (·.2):=by rfl):uk X (e::es) (uo t u):=by
 intro pins s σ H vs us Q I r h;obtain⟨v,vr,e1,h⟩:=h;subst e1;cases r with
 |cons r rr=>
  rw[hs];refine assignInOrder_cons<|bW (h1 pins s σ H _ _ _ I r h) λ_ s1 ⟨σ1,H1,I1,q1⟩=>?_;exact h2 pins s1 σ1 H1 _ _ Q I1 rr q1
def z8(K:Nd)(n:Nat)(t:rf):TG:=λv σ H Q=>∃a xs,v=.ref a/\SqT K H a xs/\xs.length=n/\t xs σ H Q
theorem nb{t:rf}(hc:X.calm=true)(h:uk X es t)
  (hn:(assignEach es X.env).length=n:=by rfl) (hst:(assignEach es X.env).findIdx? (·.1)=none:=by rfl):PG X (.Tuple es k pos) (z8 X.K n t):=by
 intro pins s σ H v u Q I r hw;obtain⟨a,xs,e1,hq,hl,hw⟩:=hw;subst e1;cases r;obtain⟨its,rv,ht,hz⟩:=I.tuple hq;refine assign_Tuple_tuple (I.ok.hd hc) ht (by simp[hn,<-hl,rv.length]) hst λh' hx=>?_;have I1:Inv X pins σ H { s with heap:=h' }:=I.kept (t':=s.toks) λb o e=>hx b o (im<|dG e) e;exact h pins _ σ H xs _ Q I1 (by simpa using rv) hw
def z9(to ti:TE)(t:rg):TG:=λv σ H Q=>to σ H λo H1=>ti σ H1 λi H2=>t o i v H2 λH3=>Q σ H3
theorem iN{o i:Expr}{to ti:TE}{t:rg}(ho:PE X o to)(hi:PE X i ti)(hs:um X t)
  (ha:∀ v,assign (.Subscript o i pos) X.env v=(do
   let ov <-holding [v] (eval o X.env)
   let iv <-holding [v,ov] (eval i X.env)
   standAt pos
   holding [v,ov,iv] (setItem ov iv v)
   release [v,ov,iv] []):=by intro _;rfl):PG X (.Subscript o i pos) (z9 to ti t):=by
 intro pins s σ H v u Q I r h;rw[ha];refine Nc<|NC (bW (ho pins s σ H _ I h) λov s1 ⟨x,H1,I1,r1,q1⟩=>?_);refine Nc<|NC (bW (hi pins s1 σ H1 _ I1 q1) λiv s2 ⟨y,H2,I2,r2,q2⟩=>?_);refine Nc<|NJ (Nc<|NC<|bW (hs pins s2 σ H2 x y v ov iv u _ I2 r1 r2 r q2) λ_ s3 ⟨H3,I3,q3⟩=>?_);exact wpAny_release ⟨σ,H3,I3,q3⟩
def rh(te:TE)(g:TG):TS:=λD σ H=>te σ H λx H1=>g x σ H1 D.nx
theorem iO{g:TG}(he:PE X e te)(hg:PG X tg g)(hs:swapsWithSole [tg] e pos.line X.env=pure false:=by rfl)(hw:swappedStores [tg] e X.env=pure none:=by rfl)
  (h1:(assignEach [tg] X.env).map (·.2)=[assign tg X.env]:=by rfl):PS X (.Assign [tg] e pos) (rh te g):=by
 intro pins s σ H D I h;refine wpAny_Assign_stores (bW (he pins s σ H _ I h) λv s1 ⟨x,H1,I1,r1,q1⟩=>?_) hs hw;rw[h1];exact bW (hg pins s1 σ H1 x v _ I1 r1 q1) λ_ s2 q=>q
theorem nc(hN:X.N.Nodup)(hi:X.N[i]? = some x)(hx:oD X.env.scope x)(he:PE X e te)(hs:swapsWith e (some<|.Name x pos') pos.line X.env=pure false:=by rfl)(hf:X.fn x=true\/X.env.scope.names.lookup x=some .local:=by first|exact .inl rfl|exact .inr rfl|assumption) :
  PS X (.Assign [.Name x pos'] e pos) (rh te<|km i):=by
 intro pins s σ H D I h;refine wpAny_Assign_Name (bW (he pins s σ H _ I h) λv s1 ⟨y,H1,I1,r1,q1⟩=>?_) hs;exact ft I1 hN hi hx r1 (λs2 I2=>⟨_,H1,I2,q1⟩) hf
def Aa(i j:Nat)(ta:TA):TS:=λD σ H=>ta σ H λvs H1=>∃v w,vs=[v,w]/\D.nx ((σ.set i<|some v).set j<|some w) H1
theorem rj{y:Str}{a b:Expr}{ta:TA}{px py pt:Pos}{kt k2 pt2}(hc:X.calm=true)(hN:X.N.Nodup)(hi:X.N[i]? = some x)(hj:X.N[j]? = some y)(hij:i≠j)
  (hx:X.env.scope.names.lookup x=some .local) (hy:X.env.scope.names.lookup y=some .local) (ha:PA X [a,b] ta)
  (hw:swappedStores [.Tuple [.Name x px,.Name y py] kt pt] (.Tuple [a,b] k2 pt2) X.env=pure (some [x,y]))
  (hs:swapsWithSole [.Tuple [.Name x px,.Name y py] kt pt] (.Tuple [a,b] k2 pt2) pos.line X.env=pure false:=by rfl) :
  PS X (.Assign [.Tuple [.Name x px,.Name y py] kt pt] (.Tuple [a,b] k2 pt2) pos) (Aa i j ta):=by
 intro pins s σ H D I h;rw[exec_Assign_arm];refine Nc<|NJ ?_;rw[hs];refine Nc<|Nf ?_;rw[if_neg<|by decide];refine Nc<|Tuple_ (bW (ha _ pins s σ H _ I h) λus s1 ⟨vs,H1,I1,r1,q1⟩=>?_);obtain⟨v,w,e1,q1⟩:=q1;subst e1;obtain⟨u1,u2,rfl,rv,rw'⟩:∃u1 u2,us=[u1,u2]/\RelV v u1/\RelV w u2:=by
  cases r1 with
  |cons p q=>
   cases q with
   |cons p' q'=>
    cases q';exact⟨_,_,rfl,p,p'⟩
 refine Nq ?_ (by show 2<=sizeLine;decide);have I2:Inv X pins σ H1 { s1 with heap:=s1.heap.push { cls:=.type "tuple",data:=.seq [u1,u2].toArray } }:=I1.kept (t':=s1.toks) λb o e=>dU _ e;rw[hw];refine Nc<|Nf ?_;show wpAny (model X.prog X.w) X.A (do rule "assign.swapped-stores";let items <-unpackItems (.ref s1.heap.objs.size) 2 none;assignInOrder [λv=>bindName X.env y v,λv=>bindName X.env x v] items.reverse;pure Flow.next) _ _ _;refine Nc<|NG (Nc<|unpackItems_tuple (items:=#[u1,u2]) (I.ok.hd hc) (IsTup.new s1.heap _) λh' hx'=>?_);have I3:=I2.kept (h':=h') (t':=s1.toks) λb o e=>hx' b o (im<|dG e) e;show wpAny _ _ (assignInOrder [λv=>bindName X.env y v,λv=>bindName X.env x v] [u2,u1] >>= λ_=>pure Flow.next) _ _ _;refine Nc<|assignInOrder_cons (wpAny_bindName<|ft I3 hN hj (.inl hy) rw' (λs2 I4=>?_)<|.inr hy);refine assignInOrder_cons<|wpAny_bindName (ft I4 hN hi (.inl hx) rv (λs3 I5=>assignInOrder_nil<|Nf ?_)<|.inr hx);rw[List.set_comm _ _<|Nr hij]at I5;exact⟨_,H1,I5,q1⟩
end
section
def rk(c:TT)(tb:TS):TS:=λD σ H=>∃W:Nat->St->Hp->Prop,(∃m,W m σ H)/\∀m σ H,W m σ H->
 c σ H λb H1=>if b=true then∃N:St->Hp->Prop,(∀σ' H',N σ' H'->∃m',m'<m/\W m' σ' H')/\tb { D with nx:=N,ct:=N,bk:=D.nx } σ H1 else D.nx σ H1
theorem nh{tb:TS}(hp:PassesOwn (model X.prog X.w) X.A X.env X.xe)(hc:PT X c tc)(hb:m8 X body tb):PS X (.While c body [] pos) (rk tc tb):=by
 intro pins s σ H D I h;obtain⟨W,⟨m0,w0⟩,turn⟩:=h;refine wpAny_While<|codeAny_whileLoop (λn s'=>∃σ' H',Inv X pins σ' H' s'/\W n σ' H') ?_ m0 ⟨σ,H,I,w0⟩;rintro n s1 ⟨σ1,H1,I1,w1⟩;refine NB hp<|bW (hc pins s1 σ1 H1 _ I1<|turn n σ1 H1 w1) λb s2 ⟨H2,I2,q2⟩=>?_;cases b with
 |true=>
  obtain⟨N,hN,q2⟩:=q2;rw[if_pos rfl];refine NB hp<|bW (hb pins s2 σ1 H2 _ I2 q2) λf s3 q3=>?_;cases f with
  |next=>
   obtain⟨σ3,H3,I3,n3⟩:=q3;obtain⟨m',hm,w3⟩:=hN σ3 H3 n3;exact⟨m',hm,σ3,H3,I3,w3⟩
  |cont=>
   obtain⟨σ3,H3,I3,n3⟩:=q3;obtain⟨m',hm,w3⟩:=hN σ3 H3 n3;exact⟨m',hm,σ3,H3,I3,w3⟩
  |brk=>exact q3|ret v=>exact q3
 |false=>rw[if_neg je];exact ND ⟨σ1,H2,I2,q2⟩
end
structure It where
 go:Nat->Hp->Prop
 yld:Nat->Hp->V->Hp->Prop
 stop:Nat->Hp->Prop
def fA(X:Cx)(pins:List (Addr×Obj))(H:Hp)(b:Addr):Prop:=
 H b=none/\b≠X.env.locals/\b∉X.fs/\(b∈X.ex\/X.s₀.heap.objs.size<=b)/\(∀x c,X.env.cells.lookup x=some c->c≠b)/\∀p∈X.pn++pins,p.1≠b
theorem Inv.fpOk(I:Inv X pins σ H s)(hb:s.heap.objs.size<=b)(hn:H' b=none):fA X pins H' b:=by
 refine⟨hn,wV<|dm I.lt hb,I.nofs hb,.inr<|gT I.sz hb,λx c e z=>?_,λp hp z=>?_⟩;obtain⟨v,q⟩:=I.cell x c e;exact Ng (dm q.lt (by rw[z];exact hb))<|jd _
 exact Ng (dm (dG (I.pin p hp).1) (by rw[z];exact hb))<|jd _
structure ji(P:Program)(w:World)(K:Nd)(tg:Expr)(J:It)(fp:List Addr)(it:Addr)(tn:Nat->Heap->Prop):Prop where
 mem:it∈fp
 obj:∀i h,tn i h->∀b∈fp,∃o,h.get? b=some o/\∀v,o.data≠.cell v
 keep:∀i h h',tn i h->(∀b∈fp,∀o,h.get? b=some o->h'.get? b=some o)->tn i h'
 item:∀(X:Cx),X.prog=P->X.w=w->X.K=K->X.calm=true->∀(i:Nat) (pins:List (Addr×Obj)) (s:Shared) (σ:St) (H:Hp) (E:Value->Shared->Prop),Inv X pins σ H s->(∀b∈fp,fA X pins H b)->tn i s.heap->J.go i H->
  wpAny (model P w) X.A (pyNext<|.ref it) (λr s1=>∃ u,r=some u/\
   wpAny (model P w) X.A (letOwnedTupleGo tg (.ref it) u) (λ_ s2=>∃x H',Inv X pins σ H' s2/\RelV x u/\J.yld i H x H'/\tn (i+1) s2.heap/\∀b∈fp,H' b=none) E s1) E s
 done:∀(X:Cx),X.prog=P->X.w=w->X.K=K->X.calm=true->∀(i:Nat) (pins:List (Addr×Obj)) (s:Shared) (σ:St) (H:Hp) (E:Value->Shared->Prop),Inv X pins σ H s->(∀b∈fp,fA X pins H b)->tn i s.heap->J.stop i H->
  wpAny (model P w) X.A (pyNext<|.ref it) (λr s1=>r=none/\Inv X pins σ H s1) E s
 self:∀(A:Around) (i:Nat) (s:Shared) (Q:Value->Shared->Prop) (E:Value->Shared->Prop),tn i s.heap->Q (.ref it) s->wpAny (model P w) A (pyIter<|.ref it) Q E s
abbrev TI:=St->Hp->(It->Hp->Prop)->Prop
def Ac(X:Cx)(pins:List (Addr×Obj))(σ:St)(tg:Expr)(R:It->Hp->Prop)(itv:Value)(s2:Shared):Prop:=
 ∃(it:Addr) (fp:List Addr) (tn:Nat->Heap->Prop) (J:It) (H':Hp),itv=.ref it/\Inv X pins σ H' s2/\ji X.prog X.w X.K tg J fp it tn/\tn 0 s2.heap/\(∀b∈fp,fA X pins H' b)/\R J H'
def PI(X:Cx)(tg iter:Expr)(wi:TI):Prop:=
 ∀(pins:List (Addr×Obj)) (s:Shared) (σ:St) (H:Hp) (R:It->Hp->Prop),Inv X pins σ H s->wi σ H R->
  wpAny (model X.prog X.w) X.A (eval iter X.env) (λv s1=>wpAny (model X.prog X.w) X.A (pyIter v) (Ac X pins σ tg R) X.xe s1) X.xe s
theorem kq{M:Model}{E:Value->Shared->Prop}{u:Value}{n:String}{vs:Array Value}{Q:Unit->Shared->Prop}(ho:s.heap.get? it=some o)(hc:o.cls = .type n)(hd:o.data = .fields vs)
    (hn:["enumerate", "zip", "dict_itemiterator", "dict_reverseitemiterator", "odict_iterator", "itertools.zip_longest", "itertools.pairwise"].contains n=false) (hQ:Q () s):wpAny M A (letOwnedTupleGo tg (.ref it) u) Q E s:=by
  unfold letOwnedTupleGo;cases tg<;>first
    |exact Nf hQ
    | (cases u<;>first
        |exact Nf hQ
        | (refine Nc (wpAny_load ho ?_)
           rw[hc,hd];show wpAny M A (if(["enumerate", "zip", "dict_itemiterator", "dict_reverseitemiterator", "odict_iterator", "itertools.zip_longest", "itertools.pairwise"].contains n&&vs[0]? == some (rawInt _))=true then _ else _) Q E s;rw[if_neg (by intro h;rw[hn,Bool.false_and]at h;cases h)];exact Nf hQ))
def CP(K:Nd)(a:Addr):It:=
 ⟨λi H=>∃xs x,SqL K H a xs/\xs[i]? = some x,λi H x H'=>H'=H/\∀xs,SqL K H a xs->xs[i]? = some x,λi H=>∃xs,SqL K H a xs/\xs.length<=i⟩
def Ad(K:Nd)(a:Addr):It:=
 ⟨λi H=>∃xs x,SqT K H a xs/\xs[i]? = some x,λi H x H'=>H'=H/\∀xs,SqT K H a xs->xs[i]? = some x,λi H=>∃xs,SqT K H a xs/\xs.length<=i⟩
def uq(lo:Int)(n:Nat):It:=⟨λi _=>i<n,λi H x H'=>H'=H/\x=.int (lo+i),λi _=>n<=i⟩
theorem kR(a it:Addr):ji P w K tg (CP K a) [it] it (λi h=>h.IsListIter it a i) where
 mem:=by simp
 obj:=λi h st b hb=>by
  have e:b=it:=by simpa using hb
  subst e;obtain⟨o,e,c,d⟩:=st;exact⟨o,e,λv z=>by rw[d]at z;cases z⟩
 keep:=λi h h' st k=>st.at λo e=>k it (by simp) o e
 item:=by intro X hP hw hK hc i pins s σ H E I hf st hg;subst hP hw hK;obtain⟨xs,x,hq,hx⟩:=hg;obtain⟨its,rv,p,hz⟩:=I.list hq;obtain⟨u,hu,ru⟩:=rv.get hx;obtain⟨f0,f1,f2,f3,f4,f5⟩:=hf it (by simp);refine wpAny_pyNext_list_item st p.isList (x:=u) (by simpa using hu) λh' st' sb=>?_;have I1:Inv X pins σ H { s with heap:=h' }:=I.turned (t':=s.toks) (λb o hb e=>(sb.2 b hb).trans e) f0 f1 f3 f4 f5;obtain⟨o,e,c,d⟩:=id st';exact⟨u,rfl,kq (s:={ s with heap:=h' }) e c d (by decide) ⟨x,H,I1,ru,⟨rfl,λys hy=>by rw[I.list_inj hy hq];exact hx⟩,st',λb hb=>(hf b hb).1⟩⟩
 done:=by intro X hP hw hK hc i pins s σ H E I hf st hg;subst hP hw hK;obtain⟨xs,hq,hx⟩:=hg;obtain⟨its,rv,p,hz⟩:=I.list hq;obtain⟨f0,f1,f2,f3,f4,f5⟩:=hf it (by simp);have hl:=rv.length;exact wpAny_pyNext_list_end (I.ok.hd hc) st p.isList (by simp;omega) λh' eb=>⟨rfl,I.turned (t':=s.toks) (λb o hb e=>eb b o hb e) f0 f1 f3 f4 f5⟩
 self:=λ_ _ _ _ _ st h=>wpAny_pyIter_listiter st h
theorem jM(a it:Addr):ji P w K tg (Ad K a) [it] it (λi h=>h.IsTupleIter it a i) where
 mem:=by simp
 obj:=λi h st b hb=>by
  have e:b=it:=by simpa using hb
  subst e;obtain⟨o,e,c,d⟩:=st;exact⟨o,e,λv z=>by rw[d]at z;cases z⟩
 keep:=λi h h' st k=>st.at λo e=>k it (by simp) o e
 item:=by intro X hP hw hK hc i pins s σ H E I hf st hg;subst hP hw hK;obtain⟨xs,x,hq,hx⟩:=hg;obtain⟨its,rv,p,hz⟩:=I.tuple hq;obtain⟨u,hu,ru⟩:=rv.get hx;obtain⟨f0,f1,f2,f3,f4,f5⟩:=hf it (by simp);refine wpAny_pyNext_tuple_item st (show s.heap.IsTuple a its.toArray from p) (x:=u) (by simpa using hu) λh' st' sb=>?_;have I1:Inv X pins σ H { s with heap:=h' }:=I.turned (t':=s.toks) (λb o hb e=>(sb.2 b hb).trans e) f0 f1 f3 f4 f5;obtain⟨o,e,c,d⟩:=id st';exact⟨u,rfl,kq (s:={ s with heap:=h' }) e c d (by decide) ⟨x,H,I1,ru,⟨rfl,λys hy=>by rw[I.tuple_inj hy hq];exact hx⟩,st',λb hb=>(hf b hb).1⟩⟩
 done:=by intro X hP hw hK hc i pins s σ H E I hf st hg;subst hP hw hK;obtain⟨xs,hq,hx⟩:=hg;obtain⟨its,rv,p,hz⟩:=I.tuple hq;obtain⟨f0,f1,f2,f3,f4,f5⟩:=hf it (by simp);have hl:=rv.length;exact wpAny_pyNext_tuple_end (I.ok.hd hc) st (show s.heap.IsTuple a its.toArray from p) (by simp;omega) λh' eb=>⟨rfl,I.turned (t':=s.toks) (λb o hb e=>eb b o hb e) f0 f1 f3 f4 f5⟩
 self:=λ_ _ _ _ _ st h=>wpAny_pyIter_tupleiter st h
theorem jN(it:Addr)(lo:Int)(n:Nat):ji P w K tg (uq lo n) [it] it (λi h=>IsRangeIter h it (lo+(i:Nat)*1) ((n:Int)-(i:Nat)) 1) where
 mem:=by simp
 obj:=λi h st b hb=>by
  have e:b=it:=by simpa using hb
  subst e;exact ⟨_,st,λv z=>by
   have z':Data.fields _=Data.cell v:=z;cases z'⟩
 keep:=λi h h' st k=>k it (by simp) _ st
 item:=by intro X hP hw hK hc i pins s σ H E I hf st hg;subst hP hw hK;obtain⟨f0,f1,f2,f3,f4,f5⟩:=hf it (by simp);have W:=Walks.range (prog:=X.prog) (w:=X.w) (I.ok.hd hc) it lo 1 n;refine W.item i s _ _ hg st λv h' tk hv st' kk=>?_;obtain⟨t,rfl⟩:=hv;have I1:Inv X pins σ H { s with heap:=h',toks:=tk }:=I.turned (λb o hb e=>kk b o (by simpa using hb) e) f0 f1 f3 f4 f5;refine⟨_,rfl,kq (s:={ s with heap:=h',toks:=tk }) (n:= "range_iterator") st' rfl rfl (by decide) ⟨.int<|lo+i,H,I1,⟨t,?_⟩,⟨rfl,rfl⟩,st',λb hb=>(hf b hb).1⟩⟩;rw[Int.mul_one]
 done:=by intro X hP hw hK hc i pins s σ H E I hf st hg;subst hP hw hK;obtain⟨f0,f1,f2,f3,f4,f5⟩:=hf it (by simp);exact wpAny_pyNext_range_end (I.ok.hd hc) st (by have:n<=i:=hg;omega) λh' eb=>⟨rfl,I.turned (t':=s.toks) (λb o hb e=>eb b o hb e) f0 f1 f3 f4 f5⟩
 self:=λ_ _ _ _ _ st h=>wpAny_pyIter_rangeiter st h
section
theorem jj{R:It->Hp->Prop}{E:Value->Shared->Prop}{lo hi:Int}{t u v:Tok}{tk:Nat}(I:Inv X pins σ H s)(h1:-(2^62)<=lo)(h2:lo<2^62)(h3:-(2^62)<=hi)(h4:hi<2^62)
  (q:R (uq lo (hi-lo).toNat) H):wpAny (model X.prog X.w) X.A (pyIter<|.ref s.heap.objs.size) (Ac X pins σ tg R) E { s with heap:=s.heap.push { cls:=.type "range",data:=.fields #[.int lo t,.int hi u,.int 1 v] },toks:=tk }:=by
 refine wpAny_pyIter_range (IsRange.new ..) (small_one h1 h2 h3 h4) ?_;have I1:Inv X pins σ H { s with heap:=s.heap.push { cls:=.type "range",data:=.fields #[.int lo t,.int hi u,.int 1 v] },toks:=tk }:=I.kept λb o e=>dU _ e;refine ⟨(s.heap.push { cls:=.type "range",data:=.fields #[.int lo t,.int hi u,.int 1 v] }).objs.size,[(s.heap.push { cls:=.type "range",data:=.fields #[.int lo t,.int hi u,.int 1 v] }).objs.size],_,_,H,rfl,
  I1.kept (t':=tk) λb o e=>dU _ e,jN _ lo (hi-lo).toNat,?_,λb hb=>?_,q⟩
 .have e1:lo+((0:Nat):Int)*1=lo:=by simp
  have e2:(((hi-lo).toNat:Nat):Int)-((0:Nat):Int)=Builtin.Range.rangeSize lo hi 1:=by rw[rangeSize_one];split<;>omega
  show IsRangeIter _ _ (lo+((0:Nat):Int)*1) ((((hi-lo).toNat:Nat):Int)-((0:Nat):Int)) 1;rw[e1,e2];exact hV _ rfl
 .have e:b=(s.heap.push { cls:=.type "range",data:=.fields #[.int lo t,.int hi u,.int 1 v] }).objs.size:=by simpa using hb
  subst e;exact I1.fpOk (cB _)<|I1.hok.fresh (cB _)
def ur(ta:TA):TI:=λσ H R=>ta σ H λvs H1=>∃j:Int,vs=[.int j]/\-(2^62)<=j/\j<2^62/\R (uq 0 j.toNat) H1
def ut(ta:TA):TI:=λσ H R=>ta σ H λvs H1=>∃i j:Int,vs=[.int i,.int j]/\(-(2^62)<=i/\i<2^62/\-(2^62)<=j/\j<2^62)/\R (uq i (j-i).toNat) H1
theorem kS{a:Expr}{ta:TA}(hg:Gl X "range")(hm:X.mg "range" = none)(ha:PA X [a] ta)(hs:starEach [a] X.env=[(false,eval a X.env)]:=by rfl):PI X tg (.Call (.Name "range" p) [a] [] pos) (ur ta):=by
 intro pins s σ H R I h;refine Call_<|ez I hg hm boot_range (PyProof.Rows.callWith_type1 (bW (ha pos pins s σ H _ I h) λus s1 ⟨vs,H1,I1,r1,q1⟩=>?_) hs rfl);obtain⟨j,e,q1,q2,q⟩:=q1;subst e;cases r1 with
 |cons r rr=>cases rr;obtain⟨t,rfl⟩:=r;exact call_range_1<|jj I1 (by omega) (by omega) q1 q2 (by simpa using q)
theorem kT{a b:Expr}{ta:TA}(hg:Gl X "range")(hm:X.mg "range" = none)(ha:PA X [a,b] ta)(hs:starEach [a,b] X.env=[(false,eval a X.env),(false,eval b X.env)]:=by rfl)(hs2:starEach [b] X.env=[(false,eval b X.env)]:=by rfl) :
  PI X tg (.Call (.Name "range" p) [a,b] [] pos) (ut ta):=by
 intro pins s σ H R I h;refine Call_<|ez I hg hm boot_range (PyProof.Rows.callWith_type1 (bW (ha pos pins s σ H _ I h) λus s1 ⟨vs,H1,I1,r1,q1⟩=>?_) (by rw[hs,hs2]) (by rw[hs2];rfl));obtain⟨i,j,e,⟨q1,q2,q3,q4⟩,q⟩:=q1;subst e;cases r1 with
 |cons r rr=>
  cases rr with
  |cons r' rr=>
   cases rr;obtain⟨t,rfl⟩:=r;obtain⟨t',rfl⟩:=r';exact call_range_2<|jj I1 q1 q2 q3 q4 q
def Af(wi:TI)(g:TG)(tb:TS):TS:=λD σ H=>wi σ H λJ H1=>∃W:Nat->Nat->St->Hp->Prop,(∃m,W 0 m σ H1)/\∀i m σ H,W i m σ H->
 (J.stop i H/\D.nx σ H)\/(J.go i H/\∃N:St->Hp->Prop,(∀σ' H',N σ' H'->∃m',m'<m/\W (i+1) m' σ' H')/\∀x H',J.yld i H x H'->g x σ H' λσ2 H2=>tb { D with nx:=N,ct:=N,bk:=D.nx } σ2 H2)
def gE(fp:List Addr)(h:Heap):List (Addr×Obj):=fp.filterMap λb=>(h.get? b).map λo=>(b,o)
theorem dX(hb:b∈fp)(e:h.get? b=some o):(b,o)∈gE fp h:=Yay.mpr ⟨b,hb,by rw[e];rfl⟩
theorem kU{p:Addr×Obj}(hp:p∈gE fp h):p.1∈fp/\h.get? p.1=some p.2:=by
 obtain⟨b,hb,e⟩:=Yay.mp hp;cases q:h.get? b with
 |none=>rw[q]at e;cases e
 |some o=>rw[q]at e;have e':(b,o)=p:=Nk e;subst e';exact⟨hb,q⟩
theorem Inv.pinned(I:Inv X pins σ H s)(hf:∀b∈fp,fA X pins H b)(ho:∀b∈fp,∃o,s.heap.get? b=some o/\∀v,o.data≠.cell v):Inv X (pins++gE fp s.heap) σ H s:=
 I.pins_of λp hp=>(Yan.mp hp).elim (λz=>I.pin p<|oA _ z) λz=>by
  obtain⟨hb,e⟩:=kU z;obtain⟨f0,f1,f2,_⟩:=hf p.1 hb;obtain⟨o,e',d⟩:=ho p.1 hb;rw[e]at e';cases e';exact⟨e,f0,f1,f2,d⟩
theorem Inv.unpinned{pl:List (Addr×Obj)}(I:Inv X (pins++pl) σ H s):Inv X pins σ H s:=I.pins_of λp hp=>I.pin p<|oA _ (zq _ hp)
theorem rm{iter:Expr}{wi:TI}{g:TG}{tb:TS}(hp:PassesOwn (model X.prog X.w) X.A X.env X.xe)(hc:X.calm=true)(hi:PI X tg iter wi)(hg:PG X tg g)(hb:m8 X body tb)
  (hs:∀x,foldedSetIterable iter X.env x=pure x:=by intro _;rfl):PS X (.For tg iter body [] pos) (Af wi g tb):=by
 intro pins s σ H D I h;refine wpAny_For (bW (hi pins s σ H _ I h) λv s1 h1=>bW h1 λitv s2 h2=>?_) hs;obtain⟨it,fp,tn,J,H2,e,I2,T,st2,f2,W,⟨m0,w0⟩,turn⟩:=h2;subst e
 have stat:∀{H':Hp},(∀b∈fp,H' b=none)->∀b∈fp,fA X pins H' b:=λhn b hb=>⟨hn b hb,(f2 b hb).2⟩;refine codeAny_forLoop_any (λn s'=>∃i σ' H',Inv X pins σ' H' s'/\tn i s'.heap/\(∀b∈fp,H' b=none)/\W i n σ' H') ?_ m0 ⟨0,σ,H2,I2,st2,λb hb=>(f2 b hb).1,w0⟩;rintro n s3 ⟨i,σ3,H3,I3,st3,fr3,w3⟩;rcases turn i n σ3 H3 w3 with⟨stop,qn⟩|⟨go,N,hN,step⟩
 .refine NB hp (bW (T.done X rfl rfl rfl hc i pins s3 σ3 H3 X.xe I3 (stat fr3) st3 stop) λr s4 ⟨hr,I4⟩=>?_)
  subst hr;exact ND ⟨σ3,H3,I4,qn⟩
 .refine NB hp (bW (T.item X rfl rfl rfl hc i pins s3 σ3 H3 X.xe I3 (stat fr3) st3 go) λr s4 ⟨u,hr,h4⟩=>?_)
  subst hr;refine NB hp<|bW h4 λ_ s5 ⟨x,H5,I5,r5,y5,st5,fr5⟩=>?_;have I5':=I5.pinned (stat fr5)<|T.obj _ _ st5;refine NB hp<|bW (hg _ s5 σ3 H5 x u _ I5' r5<|step x H5 y5) λ_ s6 ⟨σ6,H6,I6,q6⟩=>?_;refine NB hp<|bW (hb _ s6 σ6 H6 _ I6 q6) λf s7 q7=>?_;have again:∀{σ7:St} {H7:Hp},Inv X (pins++gE fp s5.heap) σ7 H7 s7->N σ7 H7->∃m,m<n/\∃i σ' H',Inv X pins σ' H' s7/\tn i s7.heap/\(∀b∈fp,H' b=none)/\W i m σ' H':=λ{σ7 H7} I7 n7=>by
   obtain⟨m',hm,w7⟩:=hN σ7 H7 n7;refine⟨m',hm,i+1,σ7,H7,I7.unpinned,T.keep _ _ _ st5 λb hb o e=>(I7.pin (b,o)<|oA _<|oA _<|dX hb e).1,λb hb=>?_,w7⟩;obtain⟨o,e,d⟩:=T.obj _ _ st5 b hb;exact(I7.pin (b,o)<|oA _<|oA _<|dX hb e).2.1
  cases f with
  |next=>obtain⟨σ7,H7,I7,n7⟩:=q7;exact again I7 n7
  |cont=>obtain⟨σ7,H7,I7,n7⟩:=q7;exact again I7 n7
  |brk=>obtain⟨σ7,H7,I7,q7⟩:=q7;exact⟨σ7,H7,I7.unpinned,q7⟩
  |ret v=>obtain⟨x7,σ7,H7,I7,r7,q7⟩:=q7;exact⟨x7,σ7,H7,I7.unpinned,r7,q7⟩
end
abbrev R2:=V->V->Hp->VK->Prop
variable{r r':R2}
def OpR(X:Cx)(f:Value->Value->Sem Value)(r:R2):Prop:=
 ∀(pins:List (Addr×Obj)) (s:Shared) (σ:St) (H:Hp) (x y:V) (v u:Value) (Q:VK),Inv X pins σ H s->RelV x v->RelV y u->r x y H Q->
  wpAny (model X.prog X.w) X.A (f v u) (EP X pins σ Q) X.xe s
def xw(X:Cx)(f:Value->Sem Value)(r:V->Hp->VK->Prop):Prop:=
 ∀(pins:List (Addr×Obj)) (s:Shared) (σ:St) (H:Hp) (x:V) (v:Value) (Q:VK),Inv X pins σ H s->RelV x v->r x H Q->
  wpAny (model X.prog X.w) X.A (f v) (EP X pins σ Q) X.xe s
def dZ(X:Cx)(f:Value)(r:List V->Hp->VK->Prop):Prop:=
 ∀(pins:List (Addr×Obj)) (s:Shared) (σ:St) (H:Hp) (xs:List V) (us:List Value) (Q:VK),Inv X pins σ H s->Vals xs us->r xs H Q->
  wpAny (model X.prog X.w) X.A (call f us) (EP X pins σ Q) X.xe s
def Ag(X:Cx)(r:V->Hp->(Bool->Hp->Prop)->Prop):Prop:=
 ∀(pins:List (Addr×Obj)) (s:Shared) (σ:St) (H:Hp) (x:V) (v:Value) (Q:Bool->Hp->Prop),Inv X pins σ H s->RelV x v->r x H Q->
  wpAny (model X.prog X.w) X.A (truthy v) (TP X pins σ Q) X.xe s
def xy(r:R2)(ta tb:TE):TE:=λσ H Q=>ta σ H λx H1=>tb σ H1 λy H2=>r x y H2 Q
def Ha(r:V->Hp->VK->Prop)(ta:TE):TE:=λσ H Q=>ta σ H λx H1=>r x H1 Q
def rI(C:Int->Int->Prop)(g:Int->Int->V):R2:=λx y H Q=>∃i j,x=.int i/\y=.int j/\C i j/\Q (g i j) H
def o8(g:Int->Int->V):R2:=λx y H Q=>∃i j,x=.int i/\y=.int j/\Q (g i j) H
def rU(g:Int->V):V->Hp->VK->Prop:=λx H Q=>∃i,x=.int i/\Q (g i) H
section
variable{a b:Expr}{tc:TE}
theorem rn(ha:PE X a ta)(hb:PE X b tb){R:V->V->Hp->Prop}(I:Inv X pins σ H s)
  (h:ta σ H λx H1=>tb σ H1 λy H2=>R x y H2)
  (hf:∀v u s2 x y H2,Inv X pins σ H2 s2->RelV x v->RelV y u->R x y H2->wpAny (model X.prog X.w) X.A (f v u) Q X.xe s2) :
  wpAny (model X.prog X.w) X.A (eval a X.env) (λv s₁=>wpAny (model X.prog X.w) X.A (eval b X.env) (λu s₂=>wpAny (model X.prog X.w) X.A (f v u) Q X.xe s₂) X.xe s₁) X.xe s:=by
 refine bW (ha pins s σ H _ I h) λv s1 ⟨x,H1,I1,r1,q1⟩=>?_;refine bW (hb pins s1 σ H1 _ I1 q1) λu s2 ⟨y,H2,I2,r2,q2⟩=>?_;exact hf v u s2 x y H2 I2 r1 r2 q2
theorem qg{op:Operator}(ho:OpR X (binaryOp op) r)(ha:PE X a ta)(hb:PE X b tb):PE X (.BinOp a op b pos) (xy r ta tb):=by intro pins s σ H Q I h;exact wpAny_BinOp<|rn ha hb I h λv u s2 x y H2 I2 rx ry q=>ho pins s2 σ H2 x y v u Q I2 rx ry q
theorem qh{op:UnaryOp}{r:V->Hp->VK->Prop}(ho:xw X (unaryOp op) r)(ha:PE X a ta):PE X (.UnaryOp op a pos) (Ha r ta):=by intro pins s σ H Q I h;exact UnaryOp_<|bW (ha pins s σ H _ I h) λv s1 ⟨x,H1,I1,r1,q1⟩=>ho pins s1 σ H1 x v Q I1 r1 q1
theorem xz{C:Int->Int->Prop}
  (rule:∀(i j:Int) (t u:Tok) (s:Shared) (Q:Value->Shared->Prop) (E:Value->Shared->Prop),C i j->Q (.int (g i j) s.toks) { s with toks:=s.toks+1 }->wpAny (model X.prog X.w) X.A (f (.int i t)<|.int j u) Q E s) :
  OpR X f (rI C λi j=>.int<|g i j):=by
 intro pins s σ H x y v u Q I rx ry h;obtain⟨i,j,rfl,rfl,hc,q⟩:=h;obtain⟨t,rfl⟩:=rx;obtain⟨t',rfl⟩:=ry;exact rule i j t t' s _ _ hc ⟨.int<|g i j,H,I.tok _,⟨_,rfl⟩,q⟩
theorem uu
  (rule:∀(i j:Int) (t u:Tok) (s:Shared) (Q:Value->Shared->Prop) (E:Value->Shared->Prop),Q (.int (g i j) s.toks) { s with toks:=s.toks+1 }->wpAny (model X.prog X.w) X.A (f (.int i t)<|.int j u) Q E s) :
  OpR X f (o8 λi j=>.int<|g i j):=by
 intro pins s σ H x y v u Q I rx ry h;obtain⟨i,j,rfl,rfl,q⟩:=h;obtain⟨t,rfl⟩:=rx;obtain⟨t',rfl⟩:=ry;exact rule i j t t' s _ _ ⟨.int<|g i j,H,I.tok _,⟨_,rfl⟩,q⟩
theorem o9{g:Int->Int->Bool}
  (rule:∀(i j:Int) (t u:Tok) (s:Shared) (Q:Value->Shared->Prop) (E:Value->Shared->Prop),Q (.bool<|g i j) s->wpAny (model X.prog X.w) X.A (f (.int i t)<|.int j u) Q E s) :
  OpR X f (o8 λi j=>.bl<|g i j):=by
 intro pins s σ H x y v u Q I rx ry h;obtain⟨i,j,rfl,rfl,q⟩:=h;obtain⟨t,rfl⟩:=rx;obtain⟨t',rfl⟩:=ry;exact rule i j t t' s _ _ ⟨.bl<|g i j,H,I,rfl,q⟩
def rq(i j:Int):Prop:=0<=j/\j<=1000000/\i.natAbs<2^64
theorem rz:OpR X (binaryOp .Add) (o8 λi j=>.int<|i+j):=uu λ_ _ _ _ _ _ _ q=>add_int q
theorem rB:OpR X (binaryOp .Sub) (o8 λi j=>.int<|i-j):=uu λ_ _ _ _ _ _ _ q=>sub_int q
theorem pj:OpR X (binaryOp .Mod) (rI (λ_ j=>j≠0) λi j=>.int<|i.fmod j):=xz λ_ _ _ _ _ _ _ hc q=>mod_int' hc q
theorem rC:OpR X (binaryOp .Pow) (rI rq λi j=>.int<|i^j.toNat):=xz λ_ _ _ _ _ _ _ hc q=>pow_int_small hc.1 hc.2.1 hc.2.2 q
theorem Hb{f:Value->Sem Value}{g:Int->Int}
  (rule:∀(i:Int) (t:Tok) (s:Shared) (Q:Value->Shared->Prop) (E:Value->Shared->Prop),Q (.int (g i) s.toks) { s with toks:=s.toks+1 }->wpAny (model X.prog X.w) X.A (f<|.int i t) Q E s) :
  xw X f (rU λi=>.int<|g i):=by
 intro pins s σ H x v Q I rx h;obtain⟨i,rfl,q⟩:=h;obtain⟨t,rfl⟩:=rx;exact rule i t s _ _ ⟨.int<|g i,H,I.tok _,⟨_,rfl⟩,q⟩
theorem nr:xw X (unaryOp .USub) (rU λi=>.int (-i)):=Hb λ_ _ _ _ _ q=>neg_int q
end
def Ah:V->V->Bool
 |.non,.non=>true|.non,.int _=>true|.int _,.non=>true|.non,.bl _=>true|.bl _,.non=>true|.non,.str _=>true|.str _,.non=>true
 |.int _,.int _=>true|.bl _,.bl _=>true|.str _,.str _=>true|.byt _,.byt _=>true
 |.int _,.str _=>true|.str _,.int _=>true|.bl _,.str _=>true|.str _,.bl _=>true
 |_,_=>false
def Hc:R2:=λx y H Q=>Ah x y=true/\Q (.bl<|decide (x=y)) H
theorem pp{i j:Int}:decide (V.int i=V.int j)=(i==j):=by rw[jf];simp
theorem rD{i j:Bool}:decide (V.bl i=V.bl j)=(i==j):=by rw[jf];simp
theorem pv{i j:Str}:decide (V.str i=V.str j)=(i==j):=by rw[jf];simp
theorem pz{i j:Array UInt8}:decide (V.byt i=V.byt j)=(i.toList==j.toList):=by rw[jf];cases i;cases j;simp
section
variable{a b:Expr}{tc:TE}
theorem cF{Q:VK}{k k':Bool}(I:Inv X pins σ H s)(q:Q (.bl k) H)(e:k=k'):EP X pins σ Q (.bool k') s:=by subst e;exact⟨.bl k,H,I,rfl,q⟩
theorem uv:OpR X (compareOp .Eq) Hc:=by
 intro pins s σ H x y v u Q I rx ry h;obtain⟨hs,q⟩:=h;cases x with
 |non=>
  cases rx;cases y with
  |non=>cases ry;exact PySem.EqNone.eq_none_none<|cF I q (by simp)
  |bl j=>cases ry;exact PySem.EqNone.eq_none_bool<|cF I q (by simp)
  |int j=>obtain⟨t',rfl⟩:=ry;exact PySem.EqNone.eq_none_int<|cF I q (by simp)
  |str j=>obtain⟨t',rfl⟩:=ry;exact PySem.EqNone.eq_none_str<|cF I q (by simp)
  |_=>exact Ng (show false=true from hs) je
 |bl i=>
  cases rx;cases y with
  |non=>cases ry;exact PySem.EqNone.eq_bool_none<|cF I q (by simp)
  |bl j=>cases ry;exact eq_bool<|cF I q rD
  |str j=>obtain⟨t',rfl⟩:=ry;exact PySem.EqMixed.eq_bool_str<|cF I q (by simp)
  |_=>exact Ng (show false=true from hs) je
 |int i=>
  obtain⟨t,rfl⟩:=rx;cases y with
  |non=>cases ry;exact PySem.EqNone.eq_int_none<|cF I q (by simp)
  |int j=>obtain⟨t',rfl⟩:=ry;exact eq_int<|cF I q pp
  |str j=>obtain⟨t',rfl⟩:=ry;exact PySem.EqMixed.eq_int_str<|cF I q (by simp)
  |_=>exact Ng (show false=true from hs) je
 |str i=>
  obtain⟨t,rfl⟩:=rx;cases y with
  |non=>cases ry;exact PySem.EqNone.eq_str_none<|cF I q (by simp)
  |bl j=>cases ry;exact PySem.EqMixed.eq_str_bool<|cF I q (by simp)
  |int j=>obtain⟨t',rfl⟩:=ry;exact PySem.EqMixed.eq_str_int<|cF I q (by simp)
  |str j=>obtain⟨t',rfl⟩:=ry;exact eq_str<|cF I q pv
  |_=>exact Ng (show false=true from hs) je
 |byt i=>
  obtain⟨t,rfl⟩:=rx;cases y with
  |byt j=>obtain⟨t',rfl⟩:=ry;exact PySem.W.eq_bytes<|cF I q pz
  |_=>exact Ng (show false=true from hs) je
 |_=>cases y<;>exact Ng (show false=true from hs) je
theorem OpR.or(h:OpR X f r)(h':OpR X f r'):OpR X f (λx y H Q=>r x y H Q\/r' x y H Q):=by
 intro pins s σ H x y v u Q I rx ry q;rcases q with q|q
 exact h pins s σ H x y v u Q I rx ry q;exact h' pins s σ H x y v u Q I rx ry q
theorem nw(b:Expr)(h:op≠.In:=by decide)(h2:op≠.NotIn:=by decide):behindInMarks op b=false:=by
 have e1:(op==CmpOp.In)=false:=by cases op<;>first|rfl|exact Ng rfl h
 have e2:(op==CmpOp.NotIn)=false:=by cases op<;>first|rfl|exact Ng rfl h2
 cases b<;>simp[behindInMarks,e1,e2]
theorem pA(ho:OpR X (compareOp op) r)(ha:PE X a ta)(hb:PE X b tb)(hm:behindInMarks op b=false):PE X (.Compare a [op] [b] pos) (xy r ta tb):=by intro pins s σ H Q I h;exact wpAny_Compare1 (rn ha hb I h λv u s2 x y H2 I2 rx ry q=>ho pins s2 σ H2 x y v u Q I2 rx ry q) hm
def qi(t:TE):TT:=λσ H Q=>t σ H λx H'=>∃k,x=.bl k/\Q k H'
theorem pB(ho:OpR X (compareOp op) r)(ha:PE X a ta)(hb:PE X b tb)(hm:behindInMarks op b=false):PT X (.Compare a [op] [b] pos) (qi<|xy r ta tb):=by
 intro pins s σ H Q I h;refine wpAny_isTrue_Compare1 (bW (ha pins s σ H _ I h) λv s1 ⟨x,H1,I1,r1,q1⟩=>bW (hb pins s1 σ H1 _ I1 q1) λu s2 ⟨y,H2,I2,r2,q2⟩=>
  bW (ho pins s2 σ H2 x y v u _ I2 r1 r2 q2) λc s3 ⟨z,H3,I3,r3,k,e,q3⟩=>?_) hm
 subst e;cases r3;exact Nv ⟨H3,I3,q3⟩
def ny(r r':R2)(ta tb tc:TE):TE:=λσ H Q=>ta σ H λx H1=>tb σ H1 λy H2=>r x y H2 λz H3=>∃k,z=.bl k/\
 (if k=true then tc σ H3 λw' H4=>r' y w' H4 Q else Q (.bl false) H3)
theorem nz{op':CmpOp}(ho:OpR X (compareOp op) r)(ho':OpR X (compareOp op') r')(ha:PE X a ta)(hb:PE X b tb)(hc:PE X c tc)
  (hm:lastMarks [op,op'] [b,c]=false:=by with_unfolding_all rfl):PE X (.Compare a [op,op'] [b,c] pos) (ny r r' ta tb tc):=by
 intro pins s σ H Q I h;refine Compare_chain (bW (ha pins s σ H _ I h) λv s1 ⟨x,H1,I1,r1,q1⟩=>chain_link (bW (hb pins s1 σ H1 _ I1 q1) λu s2 ⟨y,H2,I2,r2,q2⟩=>
  bW (ho pins s2 σ H2 x y v u _ I2 r1 r2 q2) λd s3 ⟨z,H3,I3,r3,k,e,q3⟩=>?_)) hm
 subst e;cases r3;refine Nv ?_;cases k with
 |false=>exact ite_ff ⟨.bl false,H3,I3,rfl,q3⟩|true=>exact ite_tt<|chain_last (bW (hc pins s3 σ H3 _ I3 q3) λw' s4 ⟨z',H4,I4,r4,q4⟩=>ho' pins s4 σ H4 y z' u w' Q I4 r2 r4 q4)
theorem nD{op':CmpOp}(ho:OpR X (compareOp op) r)(ho':OpR X (compareOp op') r')(ha:PE X a ta)(hb:PE X b tb)(hc:PE X c tc)
  (hm:lastMarks [op,op'] [b,c]=false:=by with_unfolding_all rfl):PT X (.Compare a [op,op'] [b,c] pos) (qi<|ny r r' ta tb tc):=by
 intro pins s σ H Q I h;refine isTrue_chain (bW (ha pins s σ H _ I h) λv s1 ⟨x,H1,I1,r1,q1⟩=>test_link (bW (hb pins s1 σ H1 _ I1 q1) λu s2 ⟨y,H2,I2,r2,q2⟩=>
  bW (ho pins s2 σ H2 x y v u _ I2 r1 r2 q2) λd s3 ⟨z,H3,I3,r3,k,e,q3⟩=>?_)) hm
 subst e;cases r3;refine Nv ?_;cases k with
 |false=>
  obtain⟨k',e',q'⟩:=q3;cases e';exact ite_ff ⟨H3,I3,q'⟩
 |true=>
  refine ite_tt<|test_last (bW (hc pins s3 σ H3 _ I3 q3) λw' s4 ⟨z',H4,I4,r4,q4⟩=>bW (ho' pins s4 σ H4 y z' u w' _ I4 r2 r4 q4) λd' s5 ⟨z2,H5,I5,r5,k2,e2,q5⟩=>?_);subst e2;cases r5;exact Nv ⟨H5,I5,q5⟩
def uw(K:Nd)(x:V)(H:Hp)(k:Bool):Prop:=
 match x with
 |.non=>k=false|.bl b=>k=b|.int i=>k=(i != 0)|.str y=>y.length<=sizeLine/\k=((y.length:Int) != 0)|.byt y=>y.size<=sizeLine/\k=((y.size:Int) != 0)|.ref p=>(∃xs,SqL K H p xs/\k = !xs.isEmpty)\/(∃xs,SqT K H p xs/\k = !xs.isEmpty)\/∃kvs,H p=some (.dK kvs)/\k = !kvs.isEmpty|_=>False
theorem jO{kvs:List (κ×V)}{vs:List (κ×Value)}(r:KV kvs vs):(!vs.isEmpty) = !kvs.isEmpty:=by cases r<;>rfl
theorem gF{its:List Value}(r:Vals xs its):(!its.toArray.isEmpty) = !xs.isEmpty:=by cases r<;>simp
theorem fV:(sizeLine:Nat)<2^63:=by rw[sizeLine_eq];decide
theorem rE:Ag X (λx H Q=>∃k,uw X.K x H k/\Q k H):=by
 intro pins s σ H x v Q I rx h;obtain⟨k,e,q⟩:=h;have hl:=fV;have hs:sizeLine=16777216:=sizeLine_eq;cases x with
 |non=>cases rx;have e':k=false:=e;subst e';exact truthy_none ⟨H,I,q⟩
 |bl b=>cases rx;have e':k=b:=e;subst e';exact Nv ⟨H,I,q⟩
 |int i=>obtain⟨t,rfl⟩:=rx;have e':k=(i != 0):=e;subst e';exact PySem.P.truthy_int ⟨H,I,q⟩
 |str y=>obtain⟨t,rfl⟩:=rx;obtain⟨hy,e'⟩:y.length<=sizeLine/\k=((y.length:Int) != 0):=e;subst e';exact PySem.P.truthy_str (by omega) ⟨H,I.tok _,q⟩
 |byt y=>obtain⟨t,rfl⟩:=rx;obtain⟨hy,e'⟩:y.size<=sizeLine/\k=((y.size:Int) != 0):=e;subst e';exact PySem.W.truthy_bytes (by omega) ⟨H,I.tok _,q⟩
 |ref p=>
  cases rx;have e':(∃xs,SqL X.K H p xs/\k = !xs.isEmpty)\/(∃xs,SqT X.K H p xs/\k = !xs.isEmpty)\/∃kvs,H p=some (.dK kvs)/\k = !kvs.isEmpty:=e;rcases e' with⟨xs,hx,e'⟩|⟨xs,hx,e'⟩|⟨kvs,hx,e'⟩
  subst e';obtain⟨its,r,pl,hz⟩:=I.list hx;have hlen:=r.length;exact wpAny_truthy_list pl.isList (by simp only[eZ];omega) ⟨H,I.tok _,by rw[gF r];exact q⟩;subst e';obtain⟨its,r,pl,hz⟩:=I.tuple hx;have hlen:=r.length;exact truthy_tuple pl (by simp only[eZ];omega) ⟨H,I.tok _,by rw[gF r];exact q⟩;subst e';obtain⟨hz,hS,vs,r,m⟩:kvs.length<=sizeLine/\(p==sysModules)=false/\∃vs,KV kvs vs/\s.heap.DictOf (iK X.prog X.w) p vs:=I.hok p _ hx;have hlen:kvs.length=vs.length:=Paired.length r;exact wpAny_truthy_dict hS m (by omega) ⟨H,I.tok _,by rw[jO r];exact q⟩
 |_=>exact(show False from e).elim
theorem nE(ha:PE X a ta)(he:∀whole,isTrue a X.env whole=(do let v <-whole;standAt a.pos;holding [v] (truthy v))) :
  PT X a (λσ H Q=>ta σ H λx H'=>∃k,uw X.K x H' k/\Q k H'):=by
 intro pins s σ H Q I h;exact isTrue_plain (bW (ha pins s σ H _ I h) λv s1 ⟨x,H1,I1,r1,q1⟩=>rE pins s1 σ H1 x v Q I1 r1 q1)<|he _
theorem eC{x:V}(r:Vals [x] us):∃u,us=[u]/\RelV x u:=by
 cases r with
 |cons r1 r2=>cases r2;exact⟨_,rfl,r1⟩
theorem ku{x y:V}(r:Vals [x,y] us):∃u w',us=[u,w']/\RelV x u/\RelV y w':=by
 cases r with
 |cons r1 r2=>
  cases r2 with
  |cons r3 r4=>cases r4;exact⟨_,_,rfl,r1,r3⟩
theorem nF:dZ X (.builtin "abs") (λxs H Q=>∃i,xs=[.int i]/\Q (.int (if i<0 then -i else i)) H):=by intro pins s σ H xs us Q I r h;obtain⟨i,rfl,q⟩:=h;obtain⟨u,rfl,t,rfl⟩:=eC r;exact call_abs_int λu tk=>⟨.int (if i<0 then -i else i),H,I.tok _,⟨_,rfl⟩,q⟩
theorem kW(hc:X.calm=true):dZ X (.builtin "max") (λxs H Q=>∃i j,xs=[.int i,.int j]/\Q (.int (if j>i then j else i)) H):=by intro pins s σ H xs us Q I r h;obtain⟨i,j,rfl,q⟩:=h;obtain⟨u,w',rfl,⟨t,rfl⟩,⟨t',rfl⟩⟩:=ku r;refine max_two_ints (I.ok.hd hc) λh' tk k=>⟨_,H,I.kept k,?_,q⟩;by_cases hj:j>i;rw[if_pos hj,if_pos hj];exact⟨_,rfl⟩;rw[if_neg hj,if_neg hj];exact⟨_,rfl⟩
theorem kX:dZ X (.type "int") (λxs H Q=>(∃i,xs=[.int i]/\Q (.int i) H)\/∃k,xs=[.bl k]/\Q (.int (if k then 1 else 0)) H):=by
 intro pins s σ H xs us Q I r h;rcases h with⟨i,rfl,q⟩|⟨k,rfl,q⟩
 obtain⟨u,rfl,t,rfl⟩:=eC r;exact call_int_int ⟨.int i,H,I,⟨_,rfl⟩,q⟩;obtain⟨u,rfl,r1⟩:=eC r;cases r1;exact call_int_bool ⟨.int (if k then 1 else 0),H,I.tok _,⟨_,rfl⟩,q⟩
end
structure Room(k:Nat)(A:Around):Prop where
 hd:A.handled=none
 gd:A.guards=some []
 dp:A.depth+3*k+5<recursionLimit
 un:A.units+16*k+200<cLine
theorem Room.mono(r:Room k A)(h:j<=k):Room j A:=⟨r.hd,r.gd,by have:=r.dp;omega,by have:=r.un;omega⟩
theorem Room.deeper{k:Nat}{A:Around}(r:Room (k+1) A)(env:Env):Room k (A.deeper env):=
 ⟨r.hd,r.gd,by have:=r.dp;show A.depth+1+3*k+5<_;omega,by have:=r.un;show A.units+3+16*k+200<_;omega⟩
theorem Room.depth{k:Nat}{A:Around}(r:Room k A):A.depth<recursionLimit:=by have:=r.dp;omega
theorem Room.units{k:Nat}{A:Around}(r:Room k A):A.units+64<cLine:=by have:=r.un;omega
def Ai:TA:=λ_ H Q=>Q [] H
def uz(ta:TE)(tr:TA):TA:=λσ H Q=>ta σ H λx H1=>tr σ H1 λxs H2=>Q (x::xs) H2
section
theorem nG:PA X [] Ai:=λ_ _ _ _ H Q I h=>Calls.spliced_nil ⟨[],H,I,.nil,h⟩
theorem kw(ha:PE X e te)(hr:PA X es t)(hs:starEach (e::es) X.env=(false,eval e X.env)::starEach es X.env:=by rfl):PA X (e::es) (uz te t):=by intro pos pins s σ H Q I h;rw[hs];show wpAny _ _ (spliced ((false,eval e X.env)::backTo pos (starEach es X.env))) _ _ s;refine Calls.spliced_cons<|bW (ha pins s σ H _ I h) λu s1 ⟨x,H1,I1,r1,q1⟩=>?_;exact bW (hr pos pins s1 σ H1 _ I1 q1) λus s2 ⟨xs,H2,I2,r2,q2⟩=>⟨x::xs,H2,I2,.cons r1 r2,q2⟩
def Aj(t:TA):TE:=λσ H Q=>t σ H λxs H1=>xs.length<=sizeLine/\∀p,H1 p=none->Q (.ref p) (upd H1 p<|.tup xs)
def Ak(t:TA):TE:=λσ H Q=>t σ H λxs H1=>xs.length<=sizeLine/\∀p,H1 p=none->Q (.ref p) (upd H1 p<|.lst xs)
theorem rF{x1}(h:PA X es t):PE X (.Tuple es x1 pos) (Aj t):=by intro pins s σ H Q I hq;refine wpAny_Tuple_spliced<|bW (h pos pins s σ H _ I hq) λus s1 ⟨xs,H1,I1,r,z,q⟩=>⟨by rw[<-r.length];exact z,?_⟩;have hf:H1 s1.heap.objs.size=none:=I1.hok.fresh<|cB _;refine⟨.ref s1.heap.objs.size,upd H1 s1.heap.objs.size<|.tup xs,I1.laid (t':=s1.toks) (λb u e=>dU _ e) (cB _) ?_,rfl,q _ hf⟩;exact⟨z,us,r,⟨_,hV _ rfl,rfl,_,rfl⟩⟩
theorem rG(h:PA X es t):PE X (.List es pos) (Ak t):=by intro pins s σ H Q I hq;refine wpAny_List_spliced<|bW (h pos pins s σ H _ I hq) λus s1 ⟨xs,H1,I1,r,z,q⟩=>⟨by rw[<-r.length];exact z,?_⟩;have hf:H1 s1.heap.objs.size=none:=I1.hok.fresh<|cB _;refine⟨.ref s1.heap.objs.size,upd H1 s1.heap.objs.size<|.lst xs,I1.laid (t':=s1.toks) (λb u e=>dU _ e) (cB _) ?_,rfl,q _ hf⟩;exact⟨z,us,0,r,hV _ rfl⟩
end
abbrev Sp:=List V->Hp->VK->XK->Prop
abbrev nI:=List Env->Hp->Shared->XK->Value->Shared->Prop
variable{CX:nI}
structure kY(P:Program)(w:World)(K:Nd)(mg:Str->Option Value)(base:Heap)(A:Around)(outer:List Env)(s:Shared)(H:Hp):Prop where
 frames:A.frames=some outer
 mod:Mod K mg base
 bs:∀b o,base.get? b=some o->s.heap.get? b=some o/\H b=none
 bsz:base.objs.size<=s.heap.objs.size
 funs:s.heap.FunFrames base outer
 frf:∀b∈dC outer,H b=none
 hok:HOk P w H s.heap
 bare:AllBare s.gens
 sysn:∀xs,H sysModules≠some (.lst xs)
def CE(outer:List Env)(P:Program)(w:World)(H:Hp)(s:Shared)(Q:VK)(u:Value)(s':Shared):Prop:=
 ∃v H',s'.os=s.os/\AllBare s'.gens/\Un (dC outer) [] H H' s.heap s'.heap/\HOk P w H' s'.heap/\RelV v u/\Q v H'
def CR(CX:nI)(outer:List Env)(P:Program)(w:World)(H:Hp)(s:Shared)(Q:VK)(E:XK)(r:Result)(s':Shared):Prop:=
 match r with
 |.ok (.ret u)=>CE outer P w H s Q u s'|.ok _=>False|.error e=>CX outer H s E e s'
structure gi(P:Program)(w:World)(K:Nd)(mg:Str->Option Value)(base:Heap)(CX:nI)(k:Nat)(f:Addr)(fd:FuncData)(ps:List Str)(sp:Sp):Prop where
 len:∀vs H Q E,sp vs H Q E->vs.length=ps.length
 run:∀(A:Around) (outer:List Env) (s:Shared) (H:Hp) (args:Args) (us:List Value) (vs:List V) (Q:VK) (E:XK),Room k A->kY P w K mg base A outer s H->BindsTo s fd args (ps.zip us)->Vals vs us->sp vs H Q E->
  codeAny (model P w) A (.call (.ref f) args) (CR CX outer P w H s Q E) s
section
theorem Inv.env0(I:Inv X pins σ H s):kY X.prog X.w X.K X.mg X.base X.A X.stack s H:=
 ⟨I.ok.frames,I.ok.mod,I.bs,gT I.ok.bsz I.sz,I.stack,I.stkFree,I.hok,I.bare,I.sysn⟩
theorem Inv.after{Q:VK}{u:Value}(I:Inv X pins σ H s)(h:CE X.stack X.prog X.w H s Q u s'):EP X pins σ Q u s':=by obtain⟨v,H',os,bare,un,hok,r,q⟩:=h;obtain⟨hh,g,d,t,os'⟩:=s';obtain rfl:os'=s.os:=os;exact⟨v,H',I.call (h':=hh) (g':=g) (d':=d) (t':=t) (ch:=[]) un hok bare<|λb z=>Ng z<|by simp,r,q⟩
end
def qj(sp:Sp)(dvs:List V)(E:XK)(t:TA):TE:=λσ H Q=>t σ H λvs H1=>sp (vs++dvs) H1 Q E
def Binds(K:Nd)(fd:FuncData)(ps:List Str)(ds:List Value):Prop:=
 ∀(s:Shared) (us:List Value),K.In s.heap->(us++ds).length=ps.length->BindsTo s fd ⟨us,[]⟩ (ps.zip<|us++ds)
theorem Binds.all(h:∀us:List Value,us.length=ps.length->bindArgs fd ⟨us,[]⟩=pure (ps.zip us)):Binds K fd ps []:=λs us _ hl=>by rw[qK]at hl ⊢;exact .of_eq<|h us hl
def dw(CX:nI)(X:Cx)(E:XK):Prop:=∀(pins:List (Addr×Obj)) (σ:St) (H:Hp) (s:Shared) (e:Value) (s':Shared),Inv X pins σ H s->CX X.stack H s E e s'->X.xe e s'
section
variable{f C:Addr}{sp:Sp}{dvs:List V}{ds:List Value}{E:XK}{m:Str}{apos:Pos}{o:Expr}
theorem rH{Q:VK}(F:gi X.prog X.w X.K X.mg X.base CX k f fd ps sp)(hr:Room k X.A)(hb:Binds X.K fd ps ds)(hd:Vals dvs ds)(hx:dw CX X E)
  (I:Inv X pins σ H s) (r:Vals vs us) (h:sp (vs++dvs) H Q E):wpAny (model X.prog X.w) X.A (call (.ref f) us) (EP X pins σ Q) X.xe s:=by
 have r2:Vals (vs++dvs) (us++ds):=r.append hd;have hl:(us++ds).length=ps.length:=by rw[<-r2.length];exact F.len _ _ _ _ h
 refine wpAny_call<|codeAny_mono (F.run X.A X.stack s H ⟨us,[]⟩ (us++ds) (vs++dvs) Q E hr I.env0 (hb s us I.kIn hl) r2 h) λr s' hq=>?_;cases r with
 |error e=>exact hx pins σ H s e s' I hq
 |ok fl=>
  cases fl with
  |ret u=>exact I.after hq|next=>exact Nu hq|brk=>exact Nu hq|cont=>exact Nu hq
theorem pC(F:gi X.prog X.w X.K X.mg X.base CX k f fd ps sp)(hr:Room k X.A)(hg:Gl X x)(hm:X.mg x=some (.ref f))(hk:PySem.W.keepIn X.K (.ref f)=true)(hb:Binds X.K fd ps ds)(hd:Vals dvs ds)(hx:dw CX X E)
  (ha:PA X (e::es) t) (hdb:(x==("__debug__" : Str))=false:=by decide) (he:starEach (e::es) X.env=(false,eval e X.env)::starEach es X.env:=by rfl) (hpl:(backTo pos<|starEach es X.env).any (·.1)=false:=by rfl) :
  PE X (.Call (.Name x p) (e::es) [] pos) (qj sp dvs E t):=by
 intro pins s σ H Q I h;refine NE<|fv I hg hm ?_ hdb;refine PySem.W.callWith_K (h₀:=X.base) I.ok.mod.kin hk (bW (ha pos pins s σ H _ I h) λus s1 ⟨vs,H1,I1,r,q⟩=>⟨I1.kIn,?_⟩) he hpl;exact rH F hr hb hd hx I1 r q
end
structure dn(N P:List Str)(sc:Scope):Prop where
 kind:sc.kind=.function
 co:sc.isCoroutine=false
 gen:sc.isGenerator=false
 nd:N.Nodup
 pre:N.take P.length=P
 par:∀x∈P,sc.names.lookup x=some .local\/sc.names.lookup x=some .cell
 nofree:∀y∈sc.names,y.2≠.free
theorem ir{kindOf:Str->Option NameKind}{x:Str}:∀{binds:List (Str×Value)} {m:Str->Option Value},(∀v,(x,v)∉binds)->bindL kindOf binds m x=m x
 |[],_,_=>rfl
 |(n,v)::r,m,h=>by
  unfold bindL;rw[ir λw hw=>h w<|iH _ hw];split;have:x≠n:=by rintro rfl;exact h v j8
  simp[this];rfl
theorem iu{kindOf:Str->Option NameKind}{x:Str}:∀{binds:List (Str×Value)} {m:Str->Option Value},(∀v,(x,v)∉binds)->bindC kindOf binds m x=m x
 |[],_,_=>rfl
 |(n,v)::r,m,h=>by
  unfold bindC;rw[iu λw hw=>h w<|iH _ hw];split;rfl;have:x≠n:=by rintro rfl;exact h v j8
  simp[this]
theorem fW{kindOf:Str->Option NameKind}{x:Str}{v:Value}:∀{P:List Str} {vs:List Value} {i:Nat} {m:Str->Option Value},P.Nodup->P[i]? = some x->vs[i]? = some v->kindOf x=some .local->
  bindL kindOf (P.zip vs) m x=some v
 |[],_,_,_,_,h,_,_=>by simp at h|_::_,[],_,_,_,_,h,_=>by simp at h
 |p::P,w::vs,0,m,nd,h1,h2,hk=>by
  simp at h1 h2;subst h1;subst h2;show bindL kindOf ((p,w)::P.zip vs) m p=_;unfold bindL;rw[ir λv hv=>(YaD.mp nd).1 (wW hv).1,if_pos hk];simp
 |p::P,w::vs,i+1,m,nd,h1,h2,hk=>by
  show bindL kindOf ((p,w)::P.zip vs) m x=_;unfold bindL;exact fW (i:=i) (YaD.mp nd).2 (by simpa using h1) (by simpa using h2) hk
theorem fX{kindOf:Str->Option NameKind}{x:Str}{v:Value}:∀{P:List Str} {vs:List Value} {i:Nat} {m:Str->Option Value},P.Nodup->P[i]? = some x->vs[i]? = some v->kindOf x≠some .local->
  bindC kindOf (P.zip vs) m x=some v
 |[],_,_,_,_,h,_,_=>by simp at h|_::_,[],_,_,_,_,h,_=>by simp at h
 |p::P,w::vs,0,m,nd,h1,h2,hk=>by
  simp at h1 h2;subst h1;subst h2;show bindC kindOf ((p,w)::P.zip vs) m p=_;unfold bindC;rw[iu λv hv=>(YaD.mp nd).1 (wW hv).1,if_neg hk];simp
 |p::P,w::vs,i+1,m,nd,h1,h2,hk=>by
  show bindC kindOf ((p,w)::P.zip vs) m x=_;unfold bindC;exact fX (i:=i) (YaD.mp nd).2 (by simpa using h1) (by simpa using h2) hk
def start(N:List Str)(vs:List V):St:=vs.map some++List.replicate (N.length-vs.length) none
def eD(CX:nI)(P:Program)(w:World)(K:Nd)(mg:Str->Option Value)(base:Heap)(N:List Str)(qual:Str)(scope:Scope)(f:Addr)(cd:Value)(A:Around)(outer:List Env)(s:Shared)(H:Hp)(E:XK):Cx where
 prog:=P
 w:=w
 K:=K
 mg:=mg
 base:=base
 A:=A.deeper<|envOfC qual scope s.heap.objs.size f cd
 N:=N
 s₀:=s
 H₀:=H
 env:=envOfC qual scope s.heap.objs.size f cd
 outer:=outer
 stack:=envOfC qual scope s.heap.objs.size f cd::outer
 ex:=[]
 calm:=true
 fn:=λ_=>true
 pn:=[]
 xe:=λe s'=>wpAny (model P w) (A.deeper<|envOfC qual scope s.heap.objs.size f cd) (leaving (envOfC qual scope s.heap.objs.size f cd) e) (λ_ s''=>CX outer H s E e s'') (λe' s''=>CX outer H s E e' s'') s'
theorem eE{sc:Scope}(h:sc.names.lookup x=some .cell):∃c,(cellsFrom n sc.names []).lookup x=some c:=by have q:=PySem.W.cellsFrom_some sc.names n []<|.inl h;exact Option.isSome_iff_exists.mp q
theorem kZ{f:Addr}{cd:Value}{outer:List Env}{s1:Shared}{E:XK}
  (S:dn N ps scope) (hd:A.handled=none) (e0:kY P w K mg base A outer s H) (hl:vs.length=ps.length) (r:Vals vs us)
  (x:InCallC s s.heap.objs.size (bindL (envOfC qual scope s.heap.objs.size f cd).kindOf (ps.zip us) λ_=>none) (cellsFrom (s.heap.objs.size+1) scope.names []) (bindC (envOfC qual scope s.heap.objs.size f cd).kindOf (ps.zip us) λ_=>none) s1) :
  Inv (eD CX P w K mg base N qual scope f cd A outer s H E) [] (start N vs) H s1:=by
 have hpl:ps.length<=N.length:=by have:=congrArg List.length S.pre;rw[jg]at this;omega
 obtain⟨h1,tk,rfl,hk⟩:=x.done;have iD:∀b:Addr,b∉(eD CX P w K mg base N qual scope f cd A outer s H E).ex:=λb z=>Ng (show b∈([]:List Addr) from z) (by simp);refine ⟨⟨e0.mod,S.kind,rfl,rfl,cB _,λy z c h1 h2=>?_,λy hy=>?_,λy c _ h=>?_,λ_=>hd,Around.frames_deeper e0.frames,.inr ⟨rfl,rfl⟩,λb z=>Ng z<|iD b,e0.bs,e0.bsz,λb _ _=>iD b,λb z=>Ng z<|iD b,e0.funs,e0.frf,e0.sysn⟩,
  rfl,e0.bare,Un.kept hk,⟨_,x.toInCall.ns,λi y v h1 h2 h3=>?_⟩,λy c h=>⟨_,x.cell y c h⟩,e0.hok.fresh<|cB _,λy c h=>?_,λp hp=>Ng (show p∈([]:List (Addr×Obj)) from hp)<|by simp,e0.hok.kept hk,?_⟩
 .exact name_of_addr x.apart (Nn h1)<|Nn h2
 .have hy:scope.names.lookup y=some .cell\/scope.names.lookup y=some .free:=hy
  rcases hy with hy|hy
  .exact eE hy
  .exact Ng rfl<|S.nofree _ (Nn hy)
 .exact kK<|x.above y c (Nn h)
 .have hi:i<vs.length:=by
   unfold start at h2
   by_cases hi:i<vs.length
   .exact hi
   .rw[j9<|by simpa using hi]at h2
    rw[lD]at h2;split at h2<;>cases h2
  have ha:vs[i]? = some v:=by
   unfold start at h2;rw[kL<|by simpa using hi,cD]at h2;cases e:vs[i]? with
   |none=>rw[e]at h2;cases h2
   |some a=>rw[e]at h2;cases h2;rfl
  obtain⟨u,hu,rv⟩:=r.get ha;have hp:ps[i]? = some y:=by
   rw[<-S.pre,zt<|by omega];exact h1
  have ndP:ps.Nodup:=by rw[<-S.pre];exact S.nd.sublist<|List.take_sublist _ _
  refine⟨u,rv,?_⟩;rcases S.par y (ip hp) with k|k
  .exact .inl ⟨k,fW ndP hp hu k⟩
  .obtain⟨c,e⟩:=eE (n:=s.heap.objs.size+1) k
   refine .inr ⟨.inl k,c,e,?_⟩;have q:=x.cell y c e;rw[fX ndP hp hu (by show scope.names.lookup y≠_;rw[k];decide)]at q;exact q
 .exact e0.hok.fresh<|kK (x.above y c<|Nn h)
 .unfold start
  show _=N.length;rw[gA,bU,oO];omega
theorem uA{f:Addr}{params:Arguments}{dV kV doc pm cdv ct oc:Value}{an od:Option Addr}
 {sp:Sp} (lk:K.lookup f=some ⟨oc,od,.func<|PySem.W.fnOf name qual params body scope dV kV doc pm an cdv ct,osl⟩) (hcd:PySem.W.codeIn K cdv qual=true) (S:dn N ps scope)
  (len:∀vs H Q E,sp vs H Q E->vs.length=ps.length)
  (hbody:∀ (A:Around) (outer:List Env) (s:Shared) (H:Hp) (vs:List V) (Q:VK) (E:XK),Room k (A.deeper<|envOfC qual scope s.heap.objs.size f cdv)->sp vs H Q E->
   ∃t,m8 (eD CX P w K mg base N qual scope f cdv A outer s H E) body t/\t { nx:=λ_ H'=>Q .non H',rt:=Q } (start N vs) H) :
  gi P w K mg base CX (k+1) f (PySem.W.fnOf name qual params body scope dV kV doc pm an cdv ct) ps sp:=by
 refine⟨len,λA outer s H args us vs Q E hr e0 hb r hsp=>?_⟩;have hl:=len _ _ _ _ hsp;have KX:K.In s.heap:=e0.mod.kin.keeps λb o e=>(e0.bs b o e).1;have lim:s.heap.NoLimit:=e0.mod.nolimit.keeps λb o e=>(e0.bs b o e).1;have hkind:∀y∈ps.zip us,scope.names.lookup y.1=some .local\/(scope.names.lookup y.1=some .cell/\((cellsFrom (s.heap.objs.size+1) scope.names []).lookup y.1).isSome=true):=λ⟨n,v⟩ hy=>by
  rcases S.par n (wW hy).1 with q|q
  .exact .inl q
  .exact .inr ⟨q,PySem.W.cellsFrom_some _ _ _<|.inl q⟩
 refine codeAny_call_function hr.depth (KX _ _ lk) rfl S.co S.gen rfl (PySem.W.codeRec_of KX hcd)<|hb _ _ _ _ ?_;refine wpAny_newFunctionEnv_cells S.kind hkind λenv he s1 x=>?_;subst he;refine⟨lim.keeps x.toInCall.keep,codeAny_func ?_⟩;obtain⟨t,ht,hq⟩:=hbody A outer s H vs Q E (hr.deeper _) hsp;have I:Inv (eD CX P w K mg base N qual scope f cdv A outer s H E) [] (start N vs) H s1:=kZ S hr.hd e0 hl r x;refine Nw (ht [] s1 (start N vs) H _ I hq) (λfl s' hs=>?_) λe s' hs=>hs;have fin:∀{σ':St} {H':Hp} {v:V} {u:Value},Inv (eD CX P w K mg base N qual scope f cdv A outer s H E) [] σ' H' s'->RelV v u->Q v H'->CE outer P w H s Q u s':=
  λ{σ' H' v u} J rv q=>⟨v,H',J.os,J.bare,J.base,J.hok,rv,q⟩
 cases fl with
 |ret u=>
  obtain⟨v,σ',H',J,rv,q⟩:=hs;exact fin J rv q
 |next=>
  obtain⟨σ',H',J,q⟩:=hs;exact fin (v:=V.non) (u:=Value.none) J rfl q
 |brk=>
  obtain⟨_,_,_,q⟩:=hs;exact Nu q
 |cont=>
  obtain⟨_,_,_,q⟩:=hs;exact Nu q
section
variable{id T:String}{r:List V->Hp->VK->Prop}
def CQ(r:List V->Hp->VK->Prop)(t:TA):TE:=λσ H Q=>t σ H λvs H1=>r vs H1 Q
theorem nJ(hc:dZ X (.builtin id) r)(hg:Gl X x)(hm:X.mg x=none)(hv:bootBuiltins x=some (.builtin id))(ha:PA X (e::es) t)(hn:x≠ "__name__" :=by decide)(hdb:(x==("__debug__" : Str))=false:=by decide)
  (he:starEach (e::es) X.env=(false,eval e X.env)::starEach es X.env:=by rfl) (hpl:(backTo pos<|starEach es X.env).any (·.1)=false:=by rfl):PE X (.Call (.Name x p) (e::es) [] pos) (CQ r t):=by
 intro pins s σ H Q I h;refine NE<|ez I hg hm hv ?_ hn hdb;exact PyProof.Rows.callWith_builtin1 (bW (ha pos pins s σ H _ I h) λus s1 ⟨vs,H1,I1,r1,q1⟩=>hc pins s1 σ H1 vs us Q I1 r1 q1) he hpl
theorem iw(hc:dZ X (.type T) r)(hg:Gl X x)(hm:X.mg x=none)(hv:bootBuiltins x=some (.type T))(ha:PA X (e::es) t)(hn:x≠ "__name__" :=by decide)(hdb:(x==("__debug__" : Str))=false:=by decide)
  (he:starEach (e::es) X.env=(false,eval e X.env)::starEach es X.env:=by rfl) (hpl:(backTo pos<|starEach es X.env).any (·.1)=false:=by rfl):PE X (.Call (.Name x p) (e::es) [] pos) (CQ r t):=by
 intro pins s σ H Q I h;refine NE<|ez I hg hm hv ?_ hn hdb;exact PyProof.Rows.callWith_type1 (bW (ha pos pins s σ H _ I h) λus s1 ⟨vs,H1,I1,r1,q1⟩=>hc pins s1 σ H1 vs us Q I1 r1 q1) he hpl
end
end L2
namespace HT
open PySem PyProof.Rows
section
variable{prog:Program}{w:World}{A:Around}{E:Value->Shared->Prop}{s:Shared}
theorem cat_tup{t b:Addr}{vs ws:List Value}{Q:Value->Shared->Prop}(ht:IsTup s.heap t vs.toArray)(hb:IsTup s.heap b ws.toArray)(hv:vs≠[])
  (h1:ws=[]->Q (.ref t) s) (h2:ws≠[]->Q (.ref s.heap.objs.size) { s with heap:=s.heap.push { cls:=.type "tuple",data:=.seq (vs++ws).toArray } })
  (hsz:vs.length+ws.length<=sizeLine):wpAny (model prog w) A (binaryOp .Add (.ref t)<|.ref b) Q E s:=by
 obtain⟨⟨cls,dd,data,sl⟩,ho,hc,n,hd⟩:=id ht;obtain⟨⟨cls2,dd2,data2,sl2⟩,ho2,hc2,n2,hd2⟩:=id hb;simp only at hc hd hc2 hd2;subst hc hd hc2 hd2;have e:vs.toArray++ws.toArray=(vs++ws).toArray:=by simp
 by_cases hw:ws=[]
 .exact concat_meets ⟨_,ho,rfl⟩ ⟨_,ho2,rfl⟩ noFill_tuple_add seq_tuple_add PySem.F.slot_tuple_add PySem.F.entry_tuple_add (PySem.F.args_tuple_add_2 _ _)
   (tuple_addW1 t b vs.toArray ws.toArray n n2 dd dd2 sl sl2 (by simpa using hv)<|by simp[hw]) ⟨ho,ho2,h1 hw⟩
 .refine concat_meets ⟨_,ho,rfl⟩ ⟨_,ho2,rfl⟩ noFill_tuple_add seq_tuple_add PySem.F.slot_tuple_add PySem.F.entry_tuple_add (PySem.F.args_tuple_add_2 _ _)
   (tuple_addW2 t b vs.toArray ws.toArray n n2 dd dd2 sl sl2 (by simpa using hv) (by simpa using hw) (by rw[eZ,eZ];exact hsz)) ⟨ho,ho2,?_⟩
  rw[e];exact h2 hw
def sIx(n d:Nat):Option Int->Nat
 |none=>d|some v=>if v<0 then(v+(n:Int)).toNat else min v.toNat n
theorem sIx_none(n d:Nat):sIx n d none=d:=rfl
theorem sIx_nat(n d k:Nat):sIx n d (some (k:Int))=min k n:=by show(if(k:Int)<0 then((k:Int)+(n:Int)).toNat else min (k:Int).toNat n)=min k n;rw[if_neg<|by omega,iq]
theorem rJ(n d:Nat)(hd:d<=n)(o:Option Int):sIx n d o<=n:=by
 cases o with
 |none=>exact hd|some v=>show(if v<0 then(v+(n:Int)).toNat else min v.toNat n)<=n;by_cases hv:v<0;rw[if_pos hv];omega;rw[if_neg hv];exact Nat.min_le_right _ _
theorem kx(v:Int)(n d:Nat):(if v<0 then max (v+(n:Int)) 0 else min v (n:Int))=((sIx n d (some v):Nat):Int):=by show(if v<0 then max (v+(n:Int)) 0 else min v (n:Int))=(((if v<0 then(v+(n:Int)).toNat else min v.toNat n):Nat):Int);by_cases hv:v<0;simp only[if_pos hv];omega;simp only[if_neg hv];omega
theorem jP(lo hi:Option Int)(n:Nat):Builtin.Slice.sliceAdjust lo hi 1 (n:Int)=(((sIx n 0 lo:Nat):Int),((sIx n n hi:Nat):Int)):=by
 have h1:¬((1:Int)<0):=by omega
 unfold Builtin.Slice.sliceAdjust;simp only[h1,if_false];refine Prod.ext ?_ ?_;cases lo with
 |none=>rfl|some v=>exact kx v n 0
 cases hi with
 |none=>rfl|some v=>exact kx v n n
theorem jQ(i j:Nat):Builtin.Slice.slicePlaces (i:Int) (j:Int) 1=j-i:=by
 unfold Builtin.Slice.slicePlaces;have h1:(1:Int)>0:=by omega
 simp only[h1,if_true,Int.ediv_one];split<;>omega
theorem gG{v:Value}{o:Option Int}{Q:Option Int->Shared->Prop}(p:IsPart v o)(h:Q o s):wpAny (model prog w) A (Builtin.Slice.slicePartIndex v) Q E s:=by
 cases p with
 |none=>exact slicePart_none h|int i t=>exact slicePart_int h
theorem dN{sl:Addr}{vl vu:Value}{lo hi:Option Int}{n:Nat}{Q:Int×Int×Nat->Shared->Prop}(hs:s.heap.IsSliceOf sl vl vu .none)(pl:IsPart vl lo)(pu:IsPart vu hi)
  (h:Q (((sIx n 0 lo:Nat):Int),1,sIx n n hi-sIx n 0 lo) s):wpAny (model prog w) A (Builtin.Slice.sliceApplied (.ref sl)<|pure (n:Int)) Q E s:=by
 obtain⟨os,hos,hcs,hds⟩:=id hs;unfold Builtin.Slice.sliceApplied Builtin.Slice.sliceFields;refine Nc<|Nc (Np hos hds (x:=vl) rfl<|Nc<|Np hos hds (x:=vu) rfl<|Nc<|Np hos hds (x:=.none) rfl<|Nf ?_);refine Nc<|slicePart_none ?_;show wpAny _ _ (if((1:Int)==0)=true then _ else _) _ _ s;rw[if_neg<|by decide];refine Nc<|gG pl (Nc<|gG pu<|Nc<|Nf ?_);show wpAny _ _ (match Builtin.Slice.sliceAdjust lo hi 1 (n:Int) with|(lo,hi)=>pure (lo,(1:Int),Builtin.Slice.slicePlaces lo hi 1)) _ _ s;rw[jP lo hi n];show wpAny _ _ (pure (((sIx n 0 lo:Nat):Int),(1:Int),Builtin.Slice.slicePlaces ((sIx n 0 lo:Nat):Int) ((sIx n n hi:Nat):Int) 1)) _ _ s;rw[jQ];exact Nf h
theorem nK(xs:Array Value)(i k:Nat):((List.range k).filterMap λ(m:Nat)=>xs[((i:Int)+(m:Int)*1).toNat]?).toArray=((xs.toList.drop i).take k).toArray:=by
 have e:(λ(m:Nat)=>xs[((i:Int)+(m:Int)*1).toNat]?)=λm=>xs[i+m]?:=by
  funext m;have:((i:Int)+(m:Int)*1).toNat=i+m:=by omega
  rw[this]
 rw[e];have:=pick_run xs i k;rw[List.filterMap_map]at this;have e2:((λx=>xs[x]?)∘λx=>i+x)=λm=>xs[i+m]?:=rfl;rw[e2]at this;rw[this]
theorem getItem_tuple_cut{t sl:Addr}{items:Array Value}{vl vu:Value}{lo hi:Option Int}{Q:Value->Shared->Prop}(ht:IsTup s.heap t items)(hs:s.heap.IsSliceOf sl vl vu .none)(pl:IsPart vl lo)(pu:IsPart vu hi)
  (hw:¬(sIx items.size 0 lo=0/\sIx items.size items.size hi=items.size))
  (h:Q (.ref s.heap.objs.size) { s with heap:=s.heap.push { cls:=.type "tuple",data:=.seq ((items.toList.drop<|sIx items.size 0 lo).take<|sIx items.size items.size hi-sIx items.size 0 lo).toArray } })
  (hsz:items.size<=sizeLine):wpAny (model prog w) A (getItem (.ref t)<|.ref sl) Q E s:=by
 have htake:sizeOk (.seq ((items.toList.drop<|sIx items.size 0 lo).take<|sIx items.size items.size hi-sIx items.size 0 lo).toArray):=by
  show((items.toList.drop<|sIx items.size 0 lo).take<|sIx items.size items.size hi-sIx items.size 0 lo).toArray.size<=sizeLine;rw[eZ,jg,mW,wU];omega
 have hj:sIx items.size items.size hi<=items.size:=rJ _ _ (cB _) hi;obtain⟨os,hos,hcs,hds⟩:=id hs;have hTs:s.TypeIs (.ref sl) "slice" :=⟨os,hos,hcs⟩
 unfold getItem
 try with_reducible refine NC ?_
 first|refine Nc (Nf ?_)|skip
 refine Nc<|wpAny_sequenceKey ht.typeIs (by decide) ?_;refine Nc (wpAny_callSpecial?_slot (name:=Str.ofString "__getitem__") ht.typeIs PyProof.Rows.slot_tuple_getitem
  (Ny PyProof.Rows.slot_tuple_getitem ht.typeIs entry_tuple_getitem ?_<|args_tuple_getitem _ _))
 show wpAny _ _ (Builtin.Tuple.tupleItemsOf (.ref t) >>= _) _ _ s;refine Nc<|tupleItemsOf_ ht ?_;refine Nc<|wpAny_typeOf hTs ?_;rw[if_pos<|by decide];refine Nc<|dN hs pl pu ?_;have hno:¬((((sIx items.size 0 lo:Nat):Int)==0&&(1:Int)==1&&(sIx items.size items.size hi-sIx items.size 0 lo)==items.size)=true):=by
  intro q;rw[c9,c9]at q;have q1:((sIx items.size 0 lo:Nat):Int)=0:=eq_of_beq q.1.1;have q2:sIx items.size items.size hi-sIx items.size 0 lo=items.size:=eq_of_beq q.2;exact hw ⟨by omega,by omega⟩
 show wpAny _ _ (if(((sIx items.size 0 lo:Nat):Int)==0&&(1:Int)==1&&(sIx items.size items.size hi-sIx items.size 0 lo)==items.size)=true then _ else _) _ _ s;rw[if_neg hno,nK]
 first
  |exact Nc (m:=Builtin.Tuple.tupleExact _)<|Nq (Nf ⟨_,rfl,Nf h⟩) htake
  |exact Nc (m:=Builtin.Tuple.tupleExact _)<|Nq (Nc<|Nf<|Nf ⟨_,rfl,Nf h⟩) htake
  |exact Nc<|Nc (m:=Builtin.Tuple.tupleExact _) (Nq (Nf<|Nf ⟨_,rfl,Nf h⟩) htake)
  |exact Nc<|Nc (m:=Builtin.Tuple.tupleExact _) (Nq (Nf ⟨_,rfl,Nf h⟩) htake)
end
end HT
namespace L2
open PySem PySem.Spec PyProof.Rows
variable{X:Cx}{e:Expr}{pos:Pos}{r:V->Option Int->Option Int->Hp->VK->Prop}{xs:List V}{n j t':Nat}{i:Int}{v:Value}{pins:List (Addr×Obj)}{σ:St}{H:Hp}{s:Shared}{its':List Value}{f:Array Value->Array Value}{A:Around}{x:V}{T:String}
abbrev TO:=St->Hp->(Option Int->Hp->Prop)->Prop
def PO(X:Cx)(e:Option Expr)(t:TO):Prop:=
 ∀(pins:List (Addr×Obj)) (s:Shared) (σ:St) (H:Hp) (Q:Option Int->Hp->Prop),Inv X pins σ H s->t σ H Q->
  wpAny (model X.prog X.w) X.A (evalPart e X.env) (λu s'=>∃o H',Inv X pins σ H' s'/\IsPart u o/\Q o H') X.xe s
def pD:TO:=λ_ H Q=>Q none H
def uB(t:TE):TO:=λσ H Q=>t σ H λx H1=>∃i,x=.int i/\Q (some i) H1
section
variable{te:TE}{lo hi:Option Expr}{tl th:TO}{p2:Pos}
theorem pE:PO X none pD:=by intro pins s σ H Q I h;rw[evalPart_none];exact Nf ⟨none,H,I,.none,h⟩
theorem pF(h:PE X e te):PO X (some e) (uB te):=by intro pins s σ H Q I hw;rw[evalPart_some];refine bW (h pins s σ H _ I hw) λu s1 ⟨x,H1,I1,r1,q1⟩=>?_;obtain⟨i,rfl,q⟩:=q1;obtain⟨t,rfl⟩:=r1;exact⟨some i,H1,I1,.int i t,q⟩
def SlR(X:Cx)(r:V->Option Int->Option Int->Hp->VK->Prop):Prop:=
 ∀(pins:List (Addr×Obj)) (s:Shared) (σ:St) (H:Hp) (x:V) (v vl vu:Value) (lo hi:Option Int) (sl:Addr) (Q:VK),Inv X pins σ H s->RelV x v->s.heap.IsSliceOf sl vl vu .none->IsPart vl lo->IsPart vu hi->r x lo hi H Q->
  ∃T id,typeLookup (.type T) "__getitem__" = pure (some<|.builtin id)/\s.TypeIs v T/\wpAny (model X.prog X.w) X.A (getItem v<|.ref sl) (EP X pins σ Q) X.xe s
theorem SlR.or{r':V->Option Int->Option Int->Hp->VK->Prop}(h:SlR X r)(h':SlR X r'):SlR X (λx lo hi H Q=>r x lo hi H Q\/r' x lo hi H Q):=by
 intro pins s σ H x v vl vu lo hi sl Q I rx hs pl pu q;rcases q with q|q
 exact h pins s σ H x v vl vu lo hi sl Q I rx hs pl pu q;exact h' pins s σ H x v vl vu lo hi sl Q I rx hs pl pu q
def Hd(r:V->Option Int->Option Int->Hp->VK->Prop)(te:TE)(tl th:TO):TE:=λσ H Q=>te σ H λx H1=>tl σ H1 λl H2=>th σ H2 λu H3=>r x l u H3 Q
theorem jk(hr:SlR X r)(he:PE X e te)(hl:PO X lo tl)(hu:PO X hi th):PE X (.Subscript e (.Slice lo hi none p2) pos) (Hd r te tl th):=by intro pins s σ H Q I h;refine Subscript_<|bW (he pins s σ H _ I h) λv s1 ⟨x,H1,I1,r1,q1⟩=>?_;refine wpAny_Slice<|bW (hl pins s1 σ H1 _ I1 q1) λvl s2 ⟨l,H2,I2,pl,q2⟩=>bW (hu pins s2 σ H2 _ I2 q2) λvu s3 ⟨u,H3,I3,pu,q3⟩=>?_;rw[evalPart_none];refine Nf ?_;have I4:Inv X pins σ H3 { s3 with heap:=s3.heap.push { cls:=.type "slice",data:=.fields #[vl,vu,.none] } }:=I3.kept (t':=s3.toks) λb ob q=>dU _ q;obtain⟨T,id,hT,ht,hg⟩:=hr pins { s3 with heap:=s3.heap.push { cls:=.type "slice",data:=.fields #[vl,vu,.none] } } σ H3 x v vl vu l u s3.heap.objs.size Q I4 r1 (Heap.IsSliceOf.new ..) pl pu q3;show wpAny (model X.prog X.w) X.A (subscriptTail e (.Slice lo hi none p2) v<|.ref s3.heap.objs.size) (EP X pins σ Q) X.xe { s3 with heap:=s3.heap.push { cls:=.type "slice",data:=.fields #[vl,vu,.none] } };exact tail_any (ops:=[.ref s3.heap.objs.size,v]) ht hT hg (by with_unfolding_all rfl)
def jl(xs:List V)(lo hi:Option Int):List V:=(xs.drop<|HT.sIx xs.length 0 lo).take<|HT.sIx xs.length xs.length hi-HT.sIx xs.length 0 lo
theorem gb(xs:List V)(lo hi:Option Int):(jl xs lo hi).length<=xs.length:=by unfold jl;rw[jg,mW];omega
def Al(K:Nd):V->Option Int->Option Int->Hp->VK->Prop:=λx lo hi H Q=>∃a xs,x=.ref a/\SqT K H a xs/\
 ¬(HT.sIx xs.length 0 lo=0/\HT.sIx xs.length xs.length hi=xs.length)/\∀p,H p=none->Q (.ref p) (upd H p<|.tup<|jl xs lo hi)
theorem sl_tup:SlR X (Al X.K):=by
 intro pins s σ H x v vl vu lo hi sl Q I rx hs pl pu h;obtain⟨a,xs,rfl,hx,hw,q⟩:=h;cases rx;obtain⟨its,r,ht,hz⟩:=I.tuple hx;have hlen:its.toArray.size=xs.length:=by rw[eZ];exact r.length.symm
 refine⟨"tuple",_,PyProof.Rows.slot_tuple_getitem.lookup,ht.typeIs,?_⟩;refine HT.getItem_tuple_cut ht hs pl pu (by rw[hlen];exact hw) ?_ (by rw[hlen];exact hz);rw[hlen];refine⟨.ref s.heap.objs.size,_,I.laid (t':=s.toks) (o:=.tup<|jl xs lo hi) (λb ob q=>dU _ q) (cB _) ?_,rfl,q _<|I.hok.fresh<|cB _⟩;exact⟨gT (gb xs lo hi) hz,_,(r.drop<|HT.sIx xs.length 0 lo).take<|HT.sIx xs.length xs.length hi-HT.sIx xs.length 0 lo,IsTup.new _ _⟩
def uC(K:Nd):R2:=λx y H Q=>∃a b xs ys,x=.ref a/\y=.ref b/\SqT K H a xs/\SqT K H b ys/\xs≠[]/\xs.length+ys.length<=sizeLine/\
 (ys=[]->Q (.ref a) H)/\(ys≠[]->∀p,H p=none->Q (.ref p) (upd H p<|.tup<|xs++ys))
theorem Vals.nil_iff{us:List Value}(r:Vals xs us):us=[]↔xs=[]:=by
 cases r with
 |nil=>simp|cons _ _=>simp
theorem pH:OpR X (binaryOp .Add) (uC X.K):=by intro pins s σ H x y v u Q I rx ry h;obtain⟨a,b,xs,ys,rfl,rfl,ha,hb,hx,hz,q1,q2⟩:=h;cases rx;cases ry;obtain⟨its,r1,p1,_⟩:=I.tuple ha;obtain⟨its2,r2,p2,_⟩:=I.tuple hb;refine HT.cat_tup p1 p2 (λz=>hx<|r1.nil_iff.mp z) (λz=>⟨.ref a,H,I,rfl,q1<|r2.nil_iff.mp z⟩) (λz=>?_) (by rw[<-r1.length,<-r2.length];exact hz);refine⟨.ref s.heap.objs.size,_,I.laid (t':=s.toks) (o:=.tup<|xs++ys) (λb ob q=>dU _ q) (cB _) ?_,rfl,q2 (λw=>z<|r2.nil_iff.mpr w) _<|I.hok.fresh<|cB _⟩;exact⟨by rw[gA];exact hz,_,r1.append r2,IsTup.new _ _⟩
end
def ky(n:Nat)(i:Int):Option Nat:=if 0<=i then(if i<n then some i.toNat else none) else if -(n:Int)<=i then some (i+n).toNat else none
def e7{α:Type}(xs:List α)(i:Int):Option α:=(ky xs.length i).bind λj=>xs[j]?
theorem kz(h:ky n i=some j):seqIndex? i n=some j/\j<n/\-(n:Int)<=i/\i<n:=by unfold ky at h;by_cases h0:0<=i;rw[if_pos h0]at h;by_cases h1:i<n;rw[if_pos h1]at h;have e:i.toNat=j:=Nk h;exact⟨by rw[seqIndex_of h0 h1,e],by omega,by omega,h1⟩;rw[if_neg h1]at h;cases h;rw[if_neg h0]at h;by_cases h1:-(n:Int)<=i;rw[if_pos h1]at h;have e:(i+n).toNat=j:=Nk h;exact⟨by rw[seqIndex_neg (by omega) h1,e],by omega,h1,by omega⟩;rw[if_neg h1]at h;cases h
theorem iP{α:Type}{xs:List α}{v:α}(h:e7 xs i=some v):∃j,seqIndex? i xs.length=some j/\xs[j]? = some v/\j<xs.length/\-(xs.length:Int)<=i/\i<xs.length:=by
 unfold e7 at h;cases e:ky xs.length i with
 |none=>rw[e]at h;cases h
 |some j=>rw[e]at h;obtain⟨h1,h2,h3,h4⟩:=kz e;exact⟨j,h1,h,h2,h3,h4⟩
theorem bC{α:Type}{xs:List α}{v:α}(h:xs[j]? = some v):e7 xs (j:Int)=some v:=by
 have hj:j<xs.length:=(Yap.mp h).1;have e:ky xs.length (j:Int)=some j:=by unfold ky;rw[if_pos<|by omega,if_pos<|by omega];simp
 unfold e7;rw[e];exact h
def iQ(b:Expr):Prop:=∀o i,subscripted b false o i=operate [o,i] (getItem o i)
def IxR(X:Cx)(r:R2):Prop:=
 ∀(value slice:Expr) (pins:List (Addr×Obj)) (s:Shared) (σ:St) (H:Hp) (x y:V) (v u:Value) (Q:VK),Inv X pins σ H s->RelV x v->RelV y u->r x y H Q->
  subscripted slice false v u=operate [v,u] (getItem v u)->wpAny (model X.prog X.w) X.A (subscriptTail value slice v u) (EP X pins σ Q) X.xe s
def Am(X:Cx)(id:String)(r:V->List V->Hp->VK->Prop):Prop:=
 ∀(pins:List (Addr×Obj)) (s:Shared) (σ:St) (H:Hp) (x:V) (xs:List V) (v:Value) (us:List Value) (Q:VK),Inv X pins σ H s->RelV x v->Vals xs us->r x xs H Q->
  wpAny (model X.prog X.w) X.A (call (.builtin id) (v::us)) (EP X pins σ Q) X.xe s
section
variable{a b:Expr}{ta tb:TE}
theorem IxR.or{r r':R2}(h:IxR X r)(h':IxR X r'):IxR X (λx y H Q=>r x y H Q\/r' x y H Q):=by
 intro value slice pins s σ H x y v u Q I rx ry q hs;rcases q with q|q
 exact h value slice pins s σ H x y v u Q I rx ry q hs;exact h' value slice pins s σ H x y v u Q I rx ry q hs
theorem qk{r:R2}(hr:IxR X r)(ha:PE X a ta)(hb:PE X b tb)(hs:iQ b):PE X (.Subscript a b pos) (xy r ta tb):=by intro pins s σ H Q I h;exact Subscript_<|rn ha hb I h λv u s2 x y H2 I2 rx ry q=>hr a b pins s2 σ H2 x y v u Q I2 rx ry q (hs _ _)
def uD(K:Nd):R2:=λx y H Q=>∃p xs i v,x=.ref p/\y=.int i/\SqL K H p xs/\e7 xs i=some v/\Q v H
def uE(K:Nd):R2:=λx y H Q=>∃p xs i v,x=.ref p/\y=.int i/\SqT K H p xs/\e7 xs i=some v/\Q v H
def uF:R2:=λx y H Q=>∃z i c,x=.str z/\y=.int i/\z.length<=sizeLine/\e7 z.cps.toList i=some c/\Q (.str ⟨#[c]⟩) H
theorem ix_list:IxR X (uD X.K):=by
 intro value slice pins s σ H x y v u Q I rx ry h hs;obtain⟨p,xs,i,z,rfl,rfl,hq,he,q⟩:=h;cases rx;obtain⟨t,rfl⟩:=ry;obtain⟨its,r,pl,hz⟩:=I.list hq;obtain⟨j,h1,h2,h3,h4,h5⟩:=iP he;obtain⟨w,ew,rw'⟩:=r.get h2;have hl:=r.length;have hn:=fV;have fin:EP X pins σ Q w s:=⟨z,H,I,rw',q⟩;by_cases h0:0<=i;have hj:i.toNat=j:=by rw[seqIndex_of h0 h5]at h1;exact Nk h1
 exact item_listR pl.isList h0 (by omega) (by rw[hj];simpa using ew) fin hs;have hj:(i+(its.toArray.size:Int)).toNat=j:=by rw[seqIndex_neg (by omega) h4]at h1;rw[eZ,<-hl];exact Nk h1
 exact subscriptTail_builtinR (x:=w) pl.isList.typeIs slot_list_getitem.lookup
  (wpAny_getItem_list_neg (Q:=λr s'=>r=w/\EP X pins σ Q r s') pl.isList (by omega) (by rw[eZ]<;>omega) (by omega) (by rw[hj];simpa using ew) ⟨rfl,fin⟩) hs
theorem ix_tup:IxR X (uE X.K):=by
 intro value slice pins s σ H x y v u Q I rx ry h hs;obtain⟨p,xs,i,z,rfl,rfl,hq,he,q⟩:=h;cases rx;obtain⟨t,rfl⟩:=ry;obtain⟨its,r,pl,hz⟩:=I.tuple hq;obtain⟨j,h1,h2,h3,h4,h5⟩:=iP he;obtain⟨w,ew,rw'⟩:=r.get h2;have hl:=r.length;have hn:=fV;have fin:EP X pins σ Q w s:=⟨z,H,I,rw',q⟩;exact subscriptTail_builtinR (x:=w) pl.typeIs slot_tuple_getitem.lookup
  (getItem_tuple (j:=j) (Q:=λr s'=>r=w/\EP X pins σ Q r s') pl (by omega) (by omega) (by rw[eZ,<-hl];exact h1) (by simpa using ew) ⟨rfl,fin⟩) hs
theorem rK:IxR X uF:=by
 intro value slice pins s σ H x y v u Q I rx ry h hs;obtain⟨z,i,c,rfl,rfl,hz,he,q⟩:=h;obtain⟨t,rfl⟩:=rx;obtain⟨t',rfl⟩:=ry;obtain⟨j,h1,h2,h3,h4,h5⟩:=iP he;have hl:z.cps.toList.length=z.length:=by simp[Str.length]
 rw[hl]at h1 h4 h5;have hn:=fV;exact tail_any (typeIs_str s z t) slot_str_getitem.lookup (getItem_str (c:=c) (by
  have e1:decide (i < -(2^63:Int))=false:=decide_eq_false (by omega);have e2:decide (i ≥ 2^63)=false:=decide_eq_false (by omega);rw[e1,e2,Bool.or_false]) (by rw[h1];simpa using h2) ⟨.str ⟨#[c]⟩,H,I.tok _,⟨_,rfl⟩,q⟩) hs
def CU(K:Nd):R2:=λx y H Q=>uD K x y H Q\/uE K x y H Q\/uF x y H Q
theorem jR:IxR X (CU X.K):=ix_list.or<|ix_tup.or rK
theorem jS(its:List Value)(n j:Nat)(u:Value):Obj.mapSeq (·.setIfInBounds j u) { cls:=.type "list",data:=.seq its.toArray n }={ cls:=.type "list",data:=.seq (its.set j u).toArray n }:=by simp[Obj.mapSeq]
theorem Inv.lst{pins:List (Addr×Obj)}{σ:St}{H:Hp}{s:Shared}{p:Addr}{xs:List V}(I:Inv X pins σ H s)(h:H p=some (.lst xs)) :
  ∃(its:List Value) (n:Nat),Vals xs its/\s.heap.get? p=some { cls:=.type "list",data:=.seq its.toArray n }/\xs.length<=sizeLine:=by
 obtain⟨z,its,n,r,e⟩:=I.hok p _ h;exact⟨its,n,r,e,z⟩
theorem Inv.lstUpd{p:Addr}{ys:List V}{its:List Value}{n':Nat}{f:Obj->Obj}(I:Inv X pins σ H s)(h:H p=some (.lst xs))
  (ho:s.heap.get? p=some { cls:=.type "list",data:=.seq its.toArray n }) (hf:f { cls:=.type "list",data:=.seq its.toArray n }={ cls:=.type "list",data:=.seq its'.toArray n' }) (r:Vals ys its') (hz:ys.length<=sizeLine) (t:Nat) :
  Inv X pins σ (upd H p<|.lst ys) { s with heap:=s.heap.update p f,toks:=t }:=by
 have e:(s.heap.update p f).get? p=some { cls:=.type "list",data:=.seq its'.toArray n' }:=by
  rw[wX f ho (by rw[hf]<;>rfl),hf]
 refine I.write (x:=p) (e:=p) (by rw[h];trivial) (.inl rfl) (λb u hb q=>(qL _ _<|Nr hb).trans q) ⟨_,e⟩ ?_<|.inl ⟨_,h⟩;exact⟨hz,its',n',r,e⟩
def uG:V->V->V->Hp->(Hp->Prop)->Prop:=λo i v H Q=>∃p xs k j,o=.ref p/\i=.int k/\H p=some (.lst xs)/\ky xs.length k=some j/\Q (upd H p<|.lst<|xs.set j v)
theorem fB:um X uG:=by
 intro pins s σ H o i v ov iv u Q I ro ri rv h;obtain⟨p,xs,k,j,rfl,rfl,hp,hj,q⟩:=h;cases ro;obtain⟨t,rfl⟩:=ri;obtain⟨its,n,r,ho,hz⟩:=I.lst hp;obtain⟨h1,h2,h3,h4⟩:=kz hj;have hl:=r.length;have hn:=fV;have I':Inv X pins σ (upd H p<|.lst<|xs.set j v) { s with heap:=s.heap.update p (Obj.mapSeq (·.setIfInBounds j u)) }:=
  I.lstUpd hp ho (jS its n j u) (r.set rv j) (by rw[et];exact hz) s.toks
 by_cases h0:0<=k;have hk:k.toNat=j:=by rw[seqIndex_of h0 h4]at h1;exact Nk h1
 exact PySem.W.ki_setAt ho h0 (by omega) (by rw[eZ,<-hl];exact h4) (by rw[hk];exact⟨_,I',q⟩);have hk:(k+(its.toArray.size:Int)).toNat=j:=by rw[seqIndex_neg (by omega) h3]at h1;rw[eZ,<-hl];exact Nk h1
 exact PySem.W.ki_setBack ho (by omega) (by rw[eZ,<-hl];exact h3) (by omega) (by rw[hk];exact⟨_,I',q⟩)
theorem iR(lo hi:Option Int)(n:Nat):(sliceBounds lo hi none n).1=((HT.sIx n 0 lo:Nat):Int)/\(sliceBounds lo hi none n).2.1=((HT.sIx n n hi:Nat):Int)/\(sliceBounds lo hi none n).2.2=1:=by
 refine⟨?_,?_,rfl⟩;cases lo with
 |none=>simp[sliceBounds,HT.sIx]|some i=>simp only[sliceBounds,HT.sIx,Option.getD_none,show(1:Int)>0 by decide,if_true];by_cases h:i<0;simp only[h,if_true]<;>omega;simp only[h,if_false]<;>omega
 cases hi with
 |none=>simp[sliceBounds,HT.sIx]|some i=>simp only[sliceBounds,HT.sIx,Option.getD_none,show(1:Int)>0 by decide,if_true];by_cases h:i<0;simp only[h,if_true]<;>omega;simp only[h,if_false]<;>omega
theorem h9(its:List Value)(lo hi:Option Int):slicePick its.toArray lo hi none=((its.drop<|HT.sIx its.length 0 lo).take<|HT.sIx its.length its.length hi-HT.sIx its.length 0 lo).toArray:=by obtain⟨h1,h2,h3⟩:=iR lo hi its.toArray.size;unfold slicePick;rw[h1,h2,h3];simp only[sliceRange_one,pick_run,eZ]<;>rfl
def An(K:Nd):V->Option Int->Option Int->Hp->VK->Prop:=λx lo hi H Q=>∃a xs,x=.ref a/\SqL K H a xs/\∀p,H p=none->Q (.ref p) (upd H p<|.lst<|jl xs lo hi)
theorem sl_list:SlR X (An X.K):=by intro pins s σ H x v vl vu lo hi sl Q I rx hs pl pu h;obtain⟨a,xs,rfl,hx,q⟩:=h;cases rx;obtain⟨its,r,ht,hz⟩:=I.list hx;have hlen:=r.length;refine⟨"list",_,slot_list_getitem.lookup,ht.isList.typeIs,?_⟩;refine wpAny_getItem_list_slice ht.isList hs pl pu .none (by simp) ?_ (by rw[eZ]<;>omega);rw[h9,<-hlen];refine⟨.ref s.heap.objs.size,_,I.laid (t':=s.toks) (o:=.lst<|jl xs lo hi) (λb ob q=>dU _ q) (cB _) ?_,rfl,q _<|I.hok.fresh<|cB _⟩;exact⟨gT (gb xs lo hi) hz,_,0,(r.drop<|HT.sIx xs.length 0 lo).take<|HT.sIx xs.length xs.length hi-HT.sIx xs.length 0 lo,hV _ rfl⟩
def fD:V->Bool
 |.non=>true|.bl _=>true|.int _=>true|.str _=>true|_=>false
def ql:V->V->Bool
 |.non,.non=>true|.bl a,.bl b=>a==b|.bl a,.int b=>(if a then 1 else 0)==b|.int a,.bl b=>a==(if b then 1 else 0)|.int a,.int b=>a==b|.str a,.str b=>a==b|_,_=>false
theorem rL{y:V}{u:Value}(ry:RelV y u)(rx:RelV x v)(fy:fD y=true)(fx:fD x=true):SeqAt.EqAt A s u v (ql y x):=by
 cases y with
 |non=>
  cases ry;cases x with
  |non=>cases rx;exact SeqAt.EqAt.same _
  |bl b=>cases rx;exact SeqAt.EqAt.none_bool b
  |int b=>obtain⟨t,rfl⟩:=rx;exact SeqAt.EqAt.none_int b t
  |str b=>obtain⟨t,rfl⟩:=rx;exact SeqAt.EqAt.none_str b t
  |_=>exact Ng (show false=true from fx) je
 |bl a=>
  cases ry;cases x with
  |non=>cases rx;exact SeqAt.EqAt.bool_none a
  |bl b=>cases rx;exact SeqAt.EqAt.bool_bool a b
  |int b=>obtain⟨t,rfl⟩:=rx;exact SeqAt.EqAt.bool_int a b t
  |str b=>obtain⟨t,rfl⟩:=rx;exact SeqAt.EqAt.bool_str a b t
  |_=>exact Ng (show false=true from fx) je
 |int a=>
  obtain⟨t',rfl⟩:=ry;cases x with
  |non=>cases rx;exact SeqAt.EqAt.int_none a t'
  |bl b=>cases rx;exact SeqAt.EqAt.int_bool a t' b
  |int b=>obtain⟨t,rfl⟩:=rx;exact SeqAt.EqAt.int_int a t' b t
  |str b=>obtain⟨t,rfl⟩:=rx;exact SeqAt.EqAt.int_str a t' b t
  |_=>exact Ng (show false=true from fx) je
 |str a=>
  obtain⟨t',rfl⟩:=ry;cases x with
  |non=>cases rx;exact SeqAt.EqAt.str_none a t'
  |bl b=>cases rx;exact SeqAt.EqAt.str_bool a t' b
  |int b=>obtain⟨t,rfl⟩:=rx;exact SeqAt.EqAt.str_int a t' b t
  |str b=>obtain⟨t,rfl⟩:=rx;exact SeqAt.EqAt.str_str a t' b t
  |_=>exact Ng (show false=true from fx) je
 |_=>exact Ng (show false=true from fy) je
def pI(x:V)(u:Value):Bool:=match u with|.none=>ql .non x|.bool b=>ql (.bl b) x|.int i _=>ql (.int i) x|.str z _=>ql (.str z) x|_=>false
theorem nM{y:V}{u:Value}(r:RelV y u)(f:fD y=true):pI x u=ql y x:=by
 cases y with
 |non=>cases r;rfl
 |bl b=>cases r;rfl
 |int i=>obtain⟨t,rfl⟩:=r;rfl
 |str z=>obtain⟨t,rfl⟩:=r;rfl
 |_=>exact Ng (show false=true from f) je
theorem iU{x:V}:∀{xs:List V} {us:List Value},Vals xs us->xs.all fD=true->us.any (pI x)=xs.any λy=>ql y x
 |_,_,.nil,_=>rfl|y::xs,u::us,.cons r t,f=>by rw[qM,c9]at f;rw[wY,wY,nM r f.1,iU t f.2]
theorem gH{A:Around}{s:Shared}{x:V}{v:Value}(rx:RelV x v)(fx:fD x=true):∀{xs:List V} {us:List Value},Vals xs us->xs.all fD=true->∀u∈us,SeqAt.EqAt A s u v (pI x u)
 |_,_,.nil,_=>λu hu=>by cases hu
 |y::xs,u::us,.cons r t,f=>λu' hu=>by
  rw[qM,c9]at f;rcases Yam.mp hu with rfl|hu
  rw[nM r f.1];exact rL r rx f.1 fx;exact gH rx fx t f.2 u' hu
def xA(x:V)(xs:List V):Bool:=xs.any λy=>ql y x
def CV(K:Nd)(neg:Bool):R2:=λx y H Q=>∃p xs,y=.ref p/\(SqL K H p xs\/SqT K H p xs)/\fD x=true/\xs.all fD=true/\Q (.bl (if neg then !xA x xs else xA x xs)) H
theorem k6:OpR X (compareOp .In) (CV X.K false):=by
 intro pins s σ H x y v u Q I rx ry h;obtain⟨p,xs,rfl,hq,fx,fs,q⟩:=h;cases ry;rcases hq with hq|hq
 obtain⟨its,r,pl,hz⟩:=I.list hq;refine SeqAt.in_listAt (pI x) pl.isList (λw hw=>gH rx fx r fs w<|by simpa using hw) ⟨.bl _,H,I,rfl,?_⟩;rw[show its.toArray.any (pI x)=its.any (pI x) by simp,iU r fs];exact q;obtain⟨its,r,pl,hz⟩:=I.tuple hq;refine SeqAt.in_tupleAt (pI x) pl (λw hw=>gH rx fx r fs w<|by simpa using hw) ⟨.bl _,H,I,rfl,?_⟩;rw[show its.toArray.any (pI x)=its.any (pI x) by simp,iU r fs];exact q
theorem iV:dZ X (.builtin "len") (λxs H Q=>∃p ys,xs=[.ref p]/\(SqL X.K H p ys\/SqT X.K H p ys)/\Q (.int ys.length) H):=by
 intro pins s σ H xs us Q I r h;obtain⟨p,ys,rfl,hq,q⟩:=h;obtain⟨u,rfl,rx⟩:=eC r;cases rx;have hn:=fV;rcases hq with hq|hq
 obtain⟨its,r',pl,hz⟩:=I.list hq;have hlen:=r'.length;exact Calls.call_len_list pl.isList (by simp only[eZ]<;>omega) ⟨.int ys.length,H,I.tok _,⟨s.toks+1,by rw[eZ,hlen]⟩,q⟩;obtain⟨its,r',pl,hz⟩:=I.tuple hq;have hlen:=r'.length;exact len_tuple pl (by simp only[eZ]<;>omega) ⟨.int ys.length,H,I.tok _,⟨s.toks+1,by rw[eZ,hlen]⟩,q⟩
theorem iW:dZ X (.type "list") (λxs H Q=>∃p ys,xs=[.ref p]/\(SqL X.K H p ys\/SqT X.K H p ys)/\∀l,H l=none->Q (.ref l) (upd H l<|.lst ys)):=by
 intro pins s σ H xs us Q I r h;obtain⟨p,ys,rfl,hq,q⟩:=h;obtain⟨u,rfl,rx⟩:=eC r;cases rx;have fin:∀(its:List Value),Vals ys its->ys.length<=sizeLine->∀(h':Heap) (c':Nat),(∀b o',s.heap.get? b=some o'->h'.get? b=some o')->
   h'.get? s.heap.objs.size=some { cls:=.type "list",dict:=none,data:=.seq its.toArray c',slots:=#[] }->EP X pins σ Q (.ref s.heap.objs.size) { s with heap:=h' }:=λits r' hz h' c' kp e=>
  ⟨.ref s.heap.objs.size,_,I.laid (t':=s.toks) kp (cB _) (show ObjOk X.prog X.w _ h' _ (.lst ys) from⟨hz,its,c',r',e⟩),rfl,q _<|I.hok.fresh<|cB _⟩
 rcases hq with hq|hq
 obtain⟨its,r',pl,hz⟩:=I.list hq;have hlen:=r'.length;obtain⟨o,ho,hc,n,hd⟩:=pl.isList;exact call_list_seq p (.inl rfl) ho hc hd (λh' c' kp e=>fin its r' hz h' c' kp e) (by simp only[eZ]<;>omega);obtain⟨its,r',pl,hz⟩:=I.tuple hq;have hlen:=r'.length;obtain⟨o,ho,hc,n,hd⟩:=pl;exact call_list_seq p (.inr rfl) ho hc hd (λh' c' kp e=>fin its r' hz h' c' kp e) (by simp only[eZ]<;>omega)
theorem ia:dZ X (.type "tuple") (λxs H Q=>∃p ys,xs=[.ref p]/\((SqL X.K H p ys/\∀l,H l=none->Q (.ref l) (upd H l<|.tup ys))\/(SqT X.K H p ys/\Q (.ref p) H))):=by
 intro pins s σ H xs us Q I r h;obtain⟨p,ys,rfl,h⟩:=h;obtain⟨u,rfl,rx⟩:=eC r;cases rx;rcases h with⟨hq,q⟩|⟨hq,q⟩
 obtain⟨its,r',pl,hz⟩:=I.list hq;have hlen:=r'.length;refine call_tuple_list pl.isList (λh' kp=>?_) (by simp only[eZ]<;>omega);have I1:Inv X pins σ H { s with heap:=h' }:=I.kept (t':=s.toks) kp;have I2:Inv X pins σ (upd H h'.objs.size<|.tup ys) { s with heap:=h'.push { cls:=.type "tuple",data:=.seq its.toArray } }:=
  I1.laid (t':=s.toks) (λb o e=>dU _ e) (cB _) (show ObjOk X.prog X.w _ _ _ (.tup ys) from⟨hz,its,r',IsTup.new _ _⟩)
 exact⟨.ref h'.objs.size,_,I2,rfl,q _<|I1.hok.fresh<|cB _⟩;obtain⟨its,r',pl,hz⟩:=I.tuple hq;exact call_tuple_same pl ⟨.ref p,H,I,rfl,q⟩
def CW(K:Nd)(T:String)(x:V)(H:Hp):Prop:=match x with
 |.str _=>T = "str"|.int _=>T = "int"
 |.ref p=>(T = "list" /\∃xs,SqL K H p xs)\/(T = "tuple" /\∃o,K.lookup p=some o/\o.cls=.type "tuple" /\o.dict=none)\/
   (T = "dict" /\((∃kvs,H p=some (.dK kvs))\/∃kvs,H p=some (.dT kvs)))\/(T = "set" /\∃S n,H p=some (.set S n))
 |_=>False
theorem rM(I:Inv X pins σ H s)(r:RelV x v)(ty:CW X.K T x H) :
  s.TypeIs v T/\∀a,v=.ref a->∃ob,s.heap.get? a=some ob/\ob.dict=none:=by
 cases x with
 |str z=>
  obtain⟨t,rfl⟩:=r;cases(show T = "str" from ty);exact⟨typeIs_str s z t,λ_ e=>nomatch e⟩
 |int i=>
  obtain⟨t,rfl⟩:=r;cases(show T = "int" from ty);exact⟨typeIs_int s i t,λ_ e=>nomatch e⟩
 |ref p=>
  cases r;rcases ty with⟨rfl,xs,hq⟩|⟨rfl,o,hk,hc,hd⟩|⟨rfl,hk⟩|⟨rfl,S,n,hk⟩
  .obtain⟨its,_,pl,_⟩:=I.list hq
   refine⟨pl.isList.typeIs,λa e=>?_⟩;cases e;obtain⟨o,n,e,c,hd,_⟩:=pl;exact⟨o,e,hd⟩
  .refine⟨⟨o,I.kIn p o hk,hc⟩,λa e=>?_⟩
   cases e;exact⟨o,I.kIn _ o hk,hd⟩
  .have z:∃o,s.heap.get? p=some o/\o.ExactDict:=by
    rcases hk with⟨kvs,hk⟩|⟨kvs,hk⟩
    .obtain⟨_,_,_,_,o,_,_,e,ex,_⟩:=I.hok p _ hk
     exact⟨o,e,ex⟩
    .obtain⟨_,_,_,_,o,_,_,e,ex,_⟩:=I.hok p _ hk
     exact⟨o,e,ex⟩
   obtain⟨o,e,ex⟩:=z;refine⟨⟨o,e,ex.1⟩,λa e2=>?_⟩;cases e2;exact⟨o,e,ex.2.1⟩
  .obtain⟨o,_,_,_,e,ex,_⟩:=I.hok p _ hk
   refine⟨⟨o,e,ex.1⟩,λa e2=>?_⟩;cases e2;exact⟨o,e,ex.2.1⟩
 |_=>exact Nu ty
def He(K:Nd)(T:String)(r:V->List V->Hp->VK->Prop)(to:TE)(t:TA):TE:=λσ H Q=>to σ H λx H1=>CW K T x H1/\t σ H1 λxs H2=>r x xs H2 Q
variable{o:Expr}{es:List Expr}{to:TE}{t:TA}{name:Str}{apos cpos:Pos}{id:String}{r:V->List V->Hp->VK->Prop}
theorem qm(pa:PlainAttrs T)(slot:Slot T name id)(hty:typeOf (.builtin id)=pure (.type "method_descriptor"))(hm:Am X id r)(ho:PE X o to)(ha:PA X (e::es) t)
  (hbase:attributeBase o name X.env (eval o X.env)=eval o X.env:=by rfl)
  (hfew:((backTo cpos<|starEach (e::es) X.env).all (λx=>!x.1) && (backToKw cpos<|keywordEach [] X.env).all (λx=>x.1.isSome)
   && decide ((e::es).length+([]:List Keyword).length+(if([]:List Keyword).isEmpty then 0 else 1)<30))=true:=by rfl)
  (hline:(apos.endLine==cpos.line)=true:=by rfl) (hs:starEach (e::es) X.env=(false,eval e X.env)::starEach es X.env:=by rfl) (hplain:(backTo cpos<|starEach es X.env).any (·.1)=false:=by rfl) :
  PE X (.Call (.Attribute o name apos) (e::es) [] cpos) (He X.K T r to t):=by
 intro pins s σ H Q I h;refine wpAny_Call_method_late hbase hfew hline rfl<|bW (ho pins s σ H _ I h) λv s1 ⟨x,H1,I1,r1,ty,q1⟩=>?_;obtain⟨h1,h2⟩:=rM I1 r1 ty;refine⟨T,id,pa,slot,hty,h1,h2,?_⟩;have hA:=ha cpos pins s1 σ H1 _ I1 q1;rw[hs]at hA ⊢;refine Calls.callWith_builtin (by show(false||(backTo cpos<|starEach es X.env).any (·.1))=false;rw[hplain]<;>rfl)<|Calls.evalArgs_plain ?_;exact bW hA λus s2 ⟨vs,H2,I2,r2,q2⟩=>hm pins s2 σ H2 x vs v us Q I2 r1 r2 q2
/- xs.append(e),list.index on a module's tuple .. are Am facts of 06m -/
end
def Hf(X:Cx)(id:String)(r:V->List V->Hp->VK->Prop):Prop:=
 ∀(pins:List (Addr×Obj)) (s:Shared) (σ:St) (H:Hp) (x:V) (xs:List V) (v:Value) (us:List Value) (Q:VK),Inv X pins σ H s->RelV x v->Vals xs us->r x xs H Q->
  wpAny (model X.prog X.w) X.A (call (.builtin id) (v::us)) (EP X pins σ Q) X.xe s
theorem Vals.one:∀{x:V} {us:List Value},Vals [x] us->∃u,us=[u]/\RelV x u
 |_,_,.cons r .nil=>⟨_,rfl,r⟩
theorem Vals.rep{xs:List V}{us:List Value}(h:Vals xs us):∀k:Nat,Vals (List.replicate k xs).flatten (List.replicate k us).flatten
 |0=>.nil|k+1=>by rw[hX,hX,sP,sP];exact Vals.append h<|Vals.rep h k
theorem eO(its:List Value):∀(k:Nat) (acc:List Value),
  List.foldl (λx1 x2=>x1++x2) acc.toArray (List.replicate k its.toArray)=(acc++(List.replicate k its).flatten).toArray
 |0,acc=>by simp
 |k+1,acc=>by
  have e:acc.toArray++its.toArray=(acc++its).toArray:=by simp
  have e2:(acc++its)++(List.replicate k its).flatten=acc++(List.replicate (k+1) its).flatten:=by
   rw[hX,sP,mX]
  rw[<-e2,<-eO its k (acc++its),<-e,hX,List.foldl_cons]
section
variable{l b:Addr}{ys zs:List V}
theorem Inv.lset{its:List Value}(I:Inv X pins σ H s)(hH:H l=some (.lst xs))
  (e:s.heap.get? l=some { cls:=.type "list",data:=.seq its.toArray n }) (hf:f its.toArray=its'.toArray) (hv:Vals ys its') (hz:ys.length<=sizeLine) :
  Inv X pins σ (upd H l<|.lst ys) { s with heap:=s.heap.update l<|Obj.mapSeq f,toks:=t' }:=by
 have q:=PySem.IsL.update e f;rw[hf]at q;refine I.write (x:=l) (e:=l) (by rw[hH];exact trivial) (.inl rfl) (λb' u hb hu=>(qL s.heap (Obj.mapSeq f)<|Nr hb).trans hu) ⟨_,q⟩ ?_<|.inl ⟨_,hH⟩;exact⟨hz,its',_,hv,q⟩
theorem Inv.lnew{its:List Value}(I:Inv X pins σ H s)(hv:Vals ys its)(hz:ys.length<=sizeLine) :
  Inv X pins σ (upd H s.heap.objs.size<|.lst ys) { s with heap:=s.heap.push { cls:=.type "list",data:=.seq its.toArray },toks:=t' }:=
 I.laid (λ_ _ q=>dU _ q) (cB _) ⟨hz,its,0,hv,hV _ rfl⟩
theorem Inv.fresh(I:Inv X pins σ H s):H s.heap.objs.size=none:=I.hok.fresh<|cB _
theorem Inv.lstM(I:Inv X pins σ H s)(hH:H l=some (.lst xs)):xs.length<=sizeLine/\∃(its:List Value) (n:Nat),Vals xs its/\xs.length=its.length/\s.heap.get? l=some { cls:=.type "list",data:=.seq its.toArray n }:=by obtain⟨z,its,n,r,e⟩:=I.hok l _ hH;exact⟨z,its,n,r,r.length,e⟩
theorem nN(h:n<=sizeLine):Builtin.List.listTooLong n=false:=by unfold Builtin.List.listTooLong;exact decide_eq_false (by omega)
end
section
def pJ:V->List V->Hp->VK->Prop:=λx vs H Q=>∃l xs y,x=.ref l/\vs=[y]/\H l=some (.lst xs)/\xs.length<sizeLine/\Q .non (upd H l<|.lst<|xs++[y])
theorem k9:Hf X "list.append" pJ:=by intro pins s σ H x vs v us Q I rx rv h;obtain⟨l,xs,y,rfl,rfl,hH,hz,q⟩:=h;cases rx;obtain⟨u,rfl,ru⟩:=rv.one;obtain⟨z,its,n,r,hl,e⟩:=I.lstM hH;refine call_meets F.slot_list_append ⟨_,e,rfl⟩ F.entry_list_append (F.args_list_append_2 _ _) (PySem.list_append l its.toArray n u (by rw[eZ];omega)) ⟨e,?_⟩;refine⟨.non,_,I.lset (its':=its++[u]) hH e (by simp) (r.append<|.cons ru .nil) ?_,rfl,q⟩;rw[gA,mY];omega
def Ao:R2:=λx y H Q=>∃l k xs,x=.ref l/\y=.int k/\H l=some (.lst xs)/\-(2^63)<=k/\k<2^63/\xs.length*k.toNat<=sizeLine/\
 ∀p,H p=none->Q (.ref p) (upd H p<|.lst (List.replicate k.toNat xs).flatten)
theorem iX{α:Type}(xs:List α)(k:Nat):(List.replicate k xs).flatten.length=k*xs.length:=by
 induction k with
 |zero=>simp|succ k ih=>rw[hX,sP,gA,ih,oP,Nat.add_comm]
theorem rN:OpR X (binaryOp .Mult) Ao:=by
 intro pins s σ H x y v u Q I rx ry h;obtain⟨l,k,xs,rfl,rfl,hH,h1,h2,hz,q⟩:=h;cases rx;obtain⟨t,rfl⟩:=ry;obtain⟨z,its,n,r,hl,e⟩:=I.lstM hH;have hlen:its.toArray.size*k.toNat<=sizeLine:=by rw[eZ,<-hl];exact hz
 have hcap:¬its.toArray.size*k.toNat>(2^63-1)/8:=by
  have:(sizeLine:Nat)<=(2^63-1)/8:=by decide
  omega
 have hfit:¬(!Builtin.List.listFitsIndex k)=true:=by rw[fitsIndex_both h1 h2];exact je
 have hlong:¬Builtin.List.listTooLong (its.toArray.size*k.toNat)=true:=by rw[nN hlen];exact je
 have hnew:List.foldl (λx1 x2=>x1++x2) #[] (List.replicate (if its.toArray.isEmpty=true then 0 else k.toNat) its.toArray)=(List.replicate k.toNat its).flatten.toArray:=by
  have f0:∀m:Nat,List.foldl (λx1 x2=>x1++x2) #[] (List.replicate m its.toArray)=(List.replicate m its).flatten.toArray:=λm=>by have:=eO its m [];rw[dJ]at this;exact this
  rw[f0];cases its with
  |nil=>simp|cons a r'=>rw[if_neg<|by simp]
 refine wpAny_binaryOp_repeat_ref (T:= "list") (U:= "int") (by decide) ⟨_,e,rfl⟩ (λs'=>typeIs_int s' k t) noFill_list_mul F.fills_int_mul F.slot_int_rmul repeat_list F.slot_int_index.lookup
  (call_meets F.slot_int_rmul (typeIs_int s k t) F.entry_int_rmul (F.args_int_rmul_2 _ _) (int___rmul___int_list k t l its.toArray n)
   ⟨e,rfl,⟨_,e,rfl⟩,call_meets F.slot_list_mul ⟨_,e,rfl⟩ F.entry_list_mul (F.args_list_mul_2 _ _) (AutoListH.list___mul___list_int_3 l its.toArray n k t hfit hcap hlong) ⟨e,?_⟩⟩)
 rw[hnew];exact⟨.ref _,_,I.lnew (t':=s.toks) (r.rep k.toNat) (by rw[iX,kN];exact hz),rfl,q _ I.fresh⟩
end
end L2
namespace Att
open PySem PySem.W PySem.Calls PyProof.Rows
theorem gl{P:Params}{h:Heap}:∀(ns:List Int) (vs:List Value),WellAll P h vs (ns.map WData.int)->IntsAre vs ns:=by
 intro ns;induction ns with
 |nil=>intro vs w;rw[gB]at w;cases w;exact .nil
 |cons n ns ih=>
  intro vs w;rw[cP]at w;cases w with
  |cons a b=>
   cases a;exact .cons _ _<|ih _ b
theorem lf{l:OpenLaw}{n:Nat}(hn:l.most=some n){P:Params}{h:Heap}{args:List WData}{vals:List Value}
  (hpre:l.row.toRowW.claim.pre args=true) (hwl:WellAll P h vals args) :
  ∃a vs ns,vals=[Value.ref a]/\args=[WData.list<|ns.map WData.int]/\h.get? a=some { cls:=.type "list",data:=.seq vs.toArray }/\IntsAre vs ns/\ns.length<=n:=by
 have hsh:WShape.hasAll [] args [.list .int]=true:=(pre_splitW hpre).1;have hc:l.pre.holds [] { args:=args }=true:=(pre_splitW hpre).2;obtain⟨d,r,rfl,h1,h2⟩:=hasAllW_cons hsh;obtain rfl:=hasAllW_nil h2;obtain⟨xs,rfl,h3⟩:=hasW_list h1;obtain⟨ns,rfl⟩:=items_int h3;have hlen:ns.length<=n:=by
  unfold OpenLaw.pre at hc;have h4:(WTm.not<|.lt (.lit<|.int (n:Int))<|.len<|.arg 0).holds [] { args:=[.list<|ns.map .int] }=true:=by
   have h4:=(holds_andW hc).1;rw[hn]at h4;exact h4
  have h5:=condW_of h4<|w_not (w_lt w_lit<|w_len_list<|w_arg rfl);rw[bU]at h5;refine Nat.le_of_not_lt λq=>?_;have q':(n:Int)<((ns.length:Nat):Int):=by omega
  first
   |(rw[Nj q']at h5;exact Ng h5<|by decide)
   |(simp at h5;omega)
 cases hwl with
 |cons w1 w2=>
  cases w2;cases w1 with
  |list ho hall=>exact⟨_,_,ns,rfl,rfl,ho,gl ns _ hall,hlen⟩
theorem lg(l:OpenLaw)(args:List WData):l.row.toRowW.claim.post args (.bool true) args=true:=
 postW_of (r:=l.row.toRowW) (X:=(true==true))
  (show WShape.has [] (.bool true) .bool=true by first|rfl|decide|simp[WShape.has,WShape.arms,WShape.armsAll])
  (show(WTm.eq .res<|.lit<|.bool true).value [] { args:=args,res:=some<|.bool true,after:=args }=some (.bool<|true==true) from w_eq_bool (w_res rfl) w_lit) rfl
theorem attach_call{l:OpenLaw}{n:Nat}{q:Program}{loose:List Str}{XP:(Str->Option Value)->Heap->Prop}{YP:World->Heap->Prop}{d:DefRec}
  (hn:l.most=some n) (hdf:d.params.defaults=[])
  (call:∀ (w:World) (s₀ s₁:Shared) (mg mb:Str->Option Value) (fa:Addr) (o:Obj) (pm cd doc:Value) (a:Addr) (vs:List Value) (ns:List Int),
   Ground q loose [] XP w s₀ mg mb s₁.heap->YP w s₁.heap->
   s₁.heap.get? fa=some o->o.data=.func (docDef d.name d.params d.body d.scope pm cd doc)->s₁.heap.CodeRec cd d.name->mg d.name=some (.ref fa)->
   s₁.heap.get? a=some { cls:=.type "list",data:=.seq vs.toArray }->IntsAre vs ns->ns.length<=n->(a==sysModules)=false->s₁.gens = #[]->
   codeAny (model l.prog w) callerA (.call (.ref fa) ⟨[.ref a],[]⟩) (λr s'=>r=.ok (.ret<|.bool true)/\OldK s₁.heap s'.heap/\s'.os=s₁.os/\AllBare s'.gens) s₁) :
  WalkO q loose XP YP l.row.toRowW d [] (λf vs=>PySem.call f vs):=by
 intro w s₀ s₁ mg mb G Y fa o pm cd doc dV kV ho hd hcd hD hmg hg args vals as hpre hlay hrd hwl hlo;obtain rfl:dV=.none:=Dflts.none hD hdf;obtain rfl:kV=.none:=Dflts.noKw hD;obtain⟨a,vs,ns,rfl,rfl,hobj,hints,hlen⟩:=lf hn hpre hwl;have hsy:(a == sysModules)=false:=hlo a (by
  cases hrd with
  |cons h1 h2=>cases h1;simp)
 refine enter_call<|codeAny_mono (call w s₀ s₁ mg mb fa o pm cd doc a vs ns G Y ho (fd_plain hd) hcd hmg hobj hints hlen hsy hg) λr s' hq=>?_;obtain⟨rfl,h2,h3,h4⟩:=hq;exact⟨.inl ⟨.bool true,.bool true,[],rfl,λ_=>rfl,.bool true,lg l _,λ_=>⟨List.Pairwise.nil,λ_ hm=>(nomatch hm)⟩⟩,h2,h3,h4⟩
end Att
namespace L2
open PySem PySem.Spec PyProof.Rows
variable{P:Program}{w:World}{K:Nd}{mg:Str->Option Value}{k:Nat}{fd:FuncData}{x:Str}{l:PySem.W.OpenLaw}{XP:(Str->Option Value)->Heap->Prop}{YP:World->Heap->Prop}{st:Stmt}{f:Addr}{osl:Array (Option Value)}{X:Cx}{scope sc:Scope}{env:Env}{A:Around}{s:Shared}{Q:Env->Shared->Prop}{pins:List (Addr×Obj)}{σ:St}{vars:List Str}{sel:List Nat}{fp:List Addr}{tn:Nat->Heap->Prop}{wi:TI}
theorem iy:∀{vs:List Value} {ns:List Int},IntsAre vs ns->Vals (ns.map V.int) vs
 |_,_,.nil=>.nil|_,_,.cons n t h=>.cons ⟨t,rfl⟩<|iy h
def pK(H:Hp):Prop:=∀b,H b=none\/∃o xs,H b=some (.frz o<|.lst xs)
theorem nO{mb:Str->Option Value}{CX:nI}{fa a:Addr}{sp:Sp}{s₁:Shared}{vs:List Value}{ns:List Int}
  (KX:K.In s₁.heap) (hns:s₁.heap.Ns mainGlobals mg) (hb:s₁.heap.Ns builtinsNs mb) (hbb:∀x:Str,x≠ "__name__" ->mb x=bootBuiltins x) (hlim:s₁.heap.NoLimit) (hg:s₁.gens = #[])
  (ha:s₁.heap.get? a=some { cls:=.type "list",data:=.seq vs.toArray }) (hi:IntsAre vs ns) (hl:ns.length<=sizeLine) (hsy:(a==sysModules)=false) (hr:Room k callerA)
  (F:∀base:Heap,K.In base->base.Ns mainGlobals mg->gi P w K mg base CX k fa fd [x] sp) (hbind:∀(s:Shared) (u:Value),BindsTo s fd ⟨[u],[]⟩ [(x,u)])
  (hsp:∀H:Hp,pK H->SqL K H a (ns.map V.int)->sp [.ref a] H (λv _=>v=.bl true) λ_ _ _=>False)
  (hCX:∀H e s',CX [] H s₁ (λ_ _ _=>False) e s'->False) :
  codeAny (model P w) callerA (.call (.ref fa) ⟨[.ref a],[]⟩) (λr s'=>r=.ok (.ret<|.bool true)/\OldK s₁.heap s'.heap/\s'.os=s₁.os/\AllBare s'.gens) s₁:=by
 have rv:=iy hi;have lenV:=hi.length
 have core:∀H:Hp,pK H->SqL K H a (ns.map V.int)->HOk P w H s₁.heap->(∀b,H b≠none->b=a)->(H a≠none->K.lookup a=none)->
   codeAny (model P w) callerA (.call (.ref fa) ⟨[.ref a],[]⟩) (λr s'=>r=.ok (.ret<|.bool true)/\OldK s₁.heap s'.heap/\s'.os=s₁.os/\AllBare s'.gens) s₁:=by
  intro H hO hS hok hA hK;have base_of:∀{b:Addr} {o:Obj},s₁.heap.get? b=some o->H b=none->(iM s₁.heap H).get? b=some o:=λe n=>m7 e n;have iD:∀{b:Addr} {o:Obj} {es:Array DictEntry} {ep:Nat},s₁.heap.get? b=some o->o.data=.dict es ep->H b=none:=λ{b o es ep} e d=>by
   cases q:H b with
   |none=>rfl
   |some u=>
    have e':b=a:=hA b (by rw[q];simp);subst e';rw[ha]at e;cases e;have d':Data.seq vs.toArray _=Data.dict es ep:=d;cases d'
  have nsK:∀{b:Addr} {m:Str->Option Value},s₁.heap.Ns b m->(iM s₁.heap H).Ns b m:=λ{b m} ⟨o,es,ep,e,d,r⟩=>⟨o,es,ep,base_of e<|iD e d,d,r⟩;have hKb:K.In (iM s₁.heap H):=λb o e=>base_of (KX b o e) (by
   cases q:H b with
   |none=>rfl
   |some u=>
    have e':b=a:=hA b (by rw[q];simp);subst e';rw[hK (by rw[q];simp)]at e;cases e)
  have hM:Mod K mg (iM s₁.heap H):=⟨hKb,nsK hns,⟨mb,nsK hb,hbb⟩,let⟨mc,h1,h2⟩:=hlim;⟨mc,nsK h1,h2⟩⟩
  have e0:kY P w K mg (iM s₁.heap H) callerA [] s₁ H:=⟨rfl,hM,λb o e=>oW e,Nat.le_of_eq<|kQ _ _,trivial,λb hb=>Ng (show b∈([]:List Addr) from hb)<|by simp,hok,.of_eq hg,λxs q=>Ng (hA sysModules (by rw[q];simp)).symm (beq_eq_false_iff_ne.mp hsy)⟩
  refine codeAny_mono ((F _ hKb<|nsK hns).run callerA [] s₁ H ⟨[.ref a],[]⟩ [.ref a] [.ref a] _ _ hr e0 (hbind s₁<|.ref a) (.cons rfl .nil)<|hsp H hO hS) λr s' h=>?_;cases r with
  |error e=>exact(hCX H e s' h).elim
  |ok fl=>
   cases fl with
   |next=>exact Nu h|brk=>exact Nu h|cont=>exact Nu h
   |ret u=>
    obtain⟨v,H',os,bare,un,hok',r',q⟩:=h;have q':v=.bl true:=q;subst q';obtain rfl:u=Value.bool true:=r';refine⟨rfl,OldK.of_keep λb o e=>?_,os,bare⟩;cases q:H b with
    |none=>exact un.keep b o e q (by intro z;exact Ng (show b∈([]:List Addr) from z)<|by simp) (by simp)
    |some u=>
     rcases hO b with z|⟨ob,xs,z⟩
     .rw[q]at z;cases z
     .have z2:=un.frzs b ob _ z
      obtain⟨e1,_⟩:=hok b _ z;obtain⟨e2,_⟩:=hok' b _ z2;rw[e]at e1;cases e1;exact e2
 cases hk:K.lookup a with
 |some o=>
  have e:=KX a o hk;rw[ha]at e;cases e;refine core (λ_=>none) (λ_=>.inl rfl) (.inr ⟨_,vs.toArray,_,hk,rfl,rfl,rfl,by rw[eZ,lenV];exact hl,by simpa using rv⟩) (λb u z=>by have z':(none:Option HO)=some u:=z;cases z') (λb z=>Ng rfl z) λz=>Ng rfl z
 |none=>
  refine core (λb=>if b=a then some (.frz { cls:=.type "list",data:=.seq vs.toArray }<|.lst<|ns.map V.int) else none) (λb=>?_) (.inl<|.inr ⟨{ cls:=.type "list",data:=.seq vs.toArray },if_pos rfl⟩) (λb u z=>?_) (λb z=>?_) λ_=>hk
  .by_cases hb:b=a
   .exact .inr ⟨_,_,if_pos hb⟩
   .exact .inl<|if_neg hb
  .by_cases hb:b=a
   .have z':=(if_pos hb).symm.trans z
    cases z';subst hb;exact⟨ha,by rw[bU];exact hl,vs,_,rv,ha⟩
   .have z':=(if_neg hb).symm.trans z
    cases z'
  .by_cases hb:b=a
   .exact hb
   .exact Ng (if_neg hb) z
theorem walk_of{n:Nat}{q:Program}{loose:List Str}{d:DefRec}{K:Params->Nd}{CX:World->nI}{sp:World->Sp}
  (hn:l.most=some n) (hn2:n<=sizeLine) (hdf:d.params.defaults=[]) (hr:Room k callerA)
  (hY:∀(w:World) (h:Heap),YP w h->(K w.params).In h)
  (F:∀ (w:World) (mg:Str->Option Value) (fa:Addr) (h:Heap),(K w.params).In h->h.Ns mainGlobals mg->mg d.name=some (.ref fa)->
   ∃fd:FuncData,(∀(s:Shared) (u:Value),BindsTo s fd ⟨[u],[]⟩ [(x,u)])/\
    ∀base:Heap,(K w.params).In base->base.Ns mainGlobals mg->gi l.prog w (K w.params) mg base (CX w) k fa fd [x] (sp w))
  (hsp:∀(w:World) (H:Hp) (a:Addr) (ns:List Int),ns.length<=n->pK H->SqL (K w.params) H a (ns.map V.int)->sp w [.ref a] H (λv _=>v=.bl true) λ_ _ _=>False)
  (hCX:∀(w:World) (H:Hp) (s:Shared) (e:Value) (s':Shared),CX w [] H s (λ_ _ _=>False) e s'->False) :
  PySem.W.WalkO q loose XP YP l.row.toRowW d [] (λf vs=>PySem.call f vs):=by
 refine Att.attach_call hn hdf λw s₀ s₁ mg mb fa o pm cd doc a vs ns G Y ho hd hcd hmg hobj hints hlen hsy hg=>?_;have KX:=hY w _ Y;obtain⟨fd,hb,hF⟩:=F w mg fa _ KX G.T.g hmg;exact nO KX G.T.g G.T.b G.T.builtins G.T.nolimit hg hobj hints (gT hlen hn2) hsy hr hF hb (λH hO hS=>hsp w H a ns hlen hO hS) λH e s'=>hCX w H s₁ e s'
def cW(s:Stmt):Arguments:=match s with|.FunctionDef _ a _ _ _ _ _ _ _ _=>a|_=>{ posonlyargs:=[],args:=[],vararg:=none,kwonlyargs:=[],kw_defaults:=[],kwarg:=none,defaults:=[] }
def bQ(s:Stmt):List Stmt:=match s with|.FunctionDef _ _ b _ _ _ _ _ _ _=>b|_=>[]
def aM(s:Stmt):Scope:=match s with|.FunctionDef _ _ _ _ _ _ sc _ _ _=>sc|_=>{ kind:=.function,names:=[],isGenerator:=false,isCoroutine:=false }
abbrev CY:nI:=λ_ _ _ _ _ _=>False
abbrev E0:XK:=λ_ _ _=>False
structure Fun(K:Nd)(x qual:Str)(st:Stmt)(f:Addr)(fd:FuncData):Prop where
 ex:∃(oc:Value) (od:Option Addr) (kV doc pm:Value) (an:Option Addr) (cdv ct:Value) (osl:Array (Option Value)),
  fd=PySem.W.fnOf x qual (cW st) (bQ st) (aM st) .none kV doc pm an cdv ct/\K.lookup f=some ⟨oc,od,.func fd,osl⟩/\PySem.W.codeIn K cdv qual=true
 kp:PySem.W.keepIn K (.ref f)=true
section
variable{base:Heap}
theorem Fun.binds{qual:Str}{ps:List Str}(F:Fun K x qual st f fd)
  (h:∀(kV doc pm:Value) (an:Option Addr) (cdv ct:Value) (us:List Value),us.length=ps.length->bindArgs (PySem.W.fnOf x qual (cW st) (bQ st) (aM st) .none kV doc pm an cdv ct) ⟨us,[]⟩=pure (ps.zip us)):Binds K fd ps []:=by
 obtain⟨oc,od,kV,doc,pm,an,cdv,ct,osl,rfl,lk,hcd⟩:=F.ex;exact .all<|h kV doc pm an cdv ct
theorem rO{qual:Str}{oc:Value}{od an:Option Addr}{kV doc pm cdv ct:Value}(l:K.lookup f=some ⟨oc,od,.func<|PySem.W.fnOf x qual (cW st) (bQ st) (aM st) .none kV doc pm an cdv ct,osl⟩)
  (c:PySem.W.codeIn K cdv qual=true) (k:PySem.W.keepIn K (.ref f)=true):Fun K x qual st f (PySem.W.fnOf x qual (cW st) (bQ st) (aM st) .none kV doc pm an cdv ct):=⟨⟨oc,od,kV,doc,pm,an,cdv,ct,osl,rfl,l,c⟩,k⟩
end
def qo:List (Str×NameKind)->Bool
 |[]=>true|(n,_)::r=>!(r.any λy=>y.1==n)&&qo r
def lH(sc outer:Scope):Bool:=
 decide (sc.kind=.function)&&qo sc.names&&sc.names.all λy=>!decide (y.2=.free)||(decide (outer.names.lookup y.1=some .cell)||decide (outer.names.lookup y.1=some .free))
theorem Ap{α:Type}:∀{l:List (Str×α)} {n:Str},(l.any λy=>y.1==n)=false->l.lookup n=none
 |[],_,_=>rfl
 |(k,v)::r,n,h=>by
  simp only[wY,Bool.or_eq_false_iff]at h;have e:(n==k)=false:=by have:=h.1;simp only[beq_eq_false_iff_ne]at this ⊢;exact λz=>this z.symm
  rw[oB,e];exact Ap h.2
theorem Aq:∀{l:List (Str×NameKind)} {n:Str} {k:NameKind},qo l=true->(n,k)∈l->l.lookup n=some k
 |(m,j)::r,n,k,nd,h=>by
  simp only[qo,c9,sQ]at nd;rcases Yam.mp h with e|h2
  cases e;simp;have hm:n≠m:=by rintro rfl;have:(r.any λy=>y.1==n)=true:=List.any_eq_true.mpr ⟨_,h2,by simp⟩;rw[nd.1]at this;cases this
  rw[oB,beq_eq_false_iff_ne.mpr hm];exact Aq nd.2 h2
def dA(cells:List (Str×Addr)):List (Str×NameKind)->List (Str×Addr)->List (Str×Addr)
 |[],acc=>acc|(n,k)::r,acc=>if k==.free then dA cells r ((n,(cells.lookup n).getD 0)::acc) else dA cells r acc
theorem uH{cells:List (Str×Addr)}{x:Str}:∀{names:List (Str×NameKind)} {acc:List (Str×Addr)},qo names=true->
  ((names.lookup x=some .free->∃c,(dA cells names acc).lookup x=some c/\(cells.lookup x).getD 0=c)/\(names.lookup x≠some .free->(dA cells names acc).lookup x=acc.lookup x))
 |[],acc,_=>⟨λh=>by simp at h,λ_=>rfl⟩
 |(m,k)::r,acc,nd=>by
  simp only[qo,c9,sQ]at nd
  by_cases hm:x=m
  .subst hm
   have hr:r.lookup x=none:=Ap nd.1;rw[show List.lookup x ((x,k)::r)=some k by simp];have ih:=@uH cells x r
   by_cases hk:k=.free
   .subst hk
    refine⟨λ_=>⟨_,?_,rfl⟩,λh=>Ng rfl h⟩;show(dA cells r ((x,_)::acc)).lookup x=_;rw[(ih nd.2).2 (by rw[hr];simp)];simp
   .refine⟨λh=>Ng (Nk h) hk,λ_=>?_⟩
    have:dA cells ((x,k)::r) acc=dA cells r acc:=by
     show(if k==.free then _ else _)=_;rw[if_neg<|by simpa using hk]
    rw[this,(ih nd.2).2 (by rw[hr];simp)]
  .have e:List.lookup x ((m,k)::r)=r.lookup x:=by rw[oB,beq_eq_false_iff_ne.mpr hm]
   rw[e]
   by_cases hk:k=.free
   .subst hk
    have ih:=@uH cells x r ((m,(cells.lookup m).getD 0)::acc) nd.2;have e2:List.lookup x ((m,(cells.lookup m).getD 0)::acc)=acc.lookup x:=by rw[oB,beq_eq_false_iff_ne.mpr hm]
    rw[e2]at ih;exact ih
   .have:dA cells ((m,k)::r) acc=dA cells r acc:=by
     show(if k==.free then _ else _)=_;rw[if_neg<|by simpa using hk]
    rw[this];exact @uH cells x r acc nd.2
theorem CZ(h:∀y∈scope.names,y.2=.free->∃c,env.cells.lookup y.1=some c):closureFor scope env=pure (dA env.cells scope.names []):=by
 have gen:∀ (names:List (Str×NameKind)) (acc:List (Str×Addr)),(∀ y∈names,y.2 = .free->∃ c,env.cells.lookup y.1=some c)->
     (forIn names acc (fun (x:Str×NameKind) (r:List (Str×Addr))=>(if (x.2 == NameKind.free)=true then (do
       let c <-cellOf env x.1
       pure (ForInStep.yield ((x.1,c)::r))) else pure (ForInStep.yield r):Sem (ForInStep<|List<|Str×Addr))))=(pure (dA env.cells names acc):Sem (List<|Str×Addr)):=by
   intro names
   induction names with
   |nil=>intro acc _;rfl
   |cons y r ih=>
     intro acc hh;obtain⟨n,k⟩:=y;rw[zw]
     by_cases hk:k=.free
     · subst hk
       obtain⟨c,hc⟩:=hh (n,.free) j8 rfl;have hc':env.cells.lookup n=some c:=hc;have e:cellOf env n=pure c:=by unfold cellOf;rw[hc']
       simp only[Nx,if_true,e];have:=ih ((n,c)::acc) λy hy=>hh y<|iH _ hy;have e3:dA env.cells ((n,.free)::r) acc=dA env.cells r ((n,c)::acc):=by
         show(if _ then _ else _)=_;rw[hc'];rfl
       rw[e3,<-this];rfl
     · have hb:(k==NameKind.free)=false:=by simpa using hk
       simp only[hb,dW,if_false];have:=ih acc λy hy=>hh y<|iH _ hy;have e3:dA env.cells ((n,k)::r) acc=dA env.cells r acc:=by
         show(if _ then _ else _)=_;rw[if_neg<|by simpa using hk]
       rw[e3,<-this];rfl
 unfold closureFor;have:=gen scope.names [] h;first
  |exact this
  | (show (forIn scope.names [] _ >>= λcs=>pure cs)=_
     refine Eq.trans (congrArg (· >>= λcs=>pure cs) this) rfl)
theorem qp{x:Str}:∀(names:List (Str×NameKind)) (n:Nat) (acc acc':List (Str×Addr)),qo names=true->
  ((names.lookup x=some .cell->(cellsFrom n names acc).lookup x=(cellsFrom n names acc').lookup x)/\(names.lookup x≠some .cell->(cellsFrom n names acc).lookup x=acc.lookup x))
 |[],_,_,_,_=>⟨λh=>by simp at h,λ_=>rfl⟩
 |(m,k)::r,n,acc,acc',nd=>by
  simp only[qo,c9,sQ]at nd
  by_cases hm:x=m
  .subst hm
   have hr:r.lookup x=none:=Ap nd.1;rw[show List.lookup x ((x,k)::r)=some k by simp]
   by_cases hk:k=.cell
   .subst hk
    refine⟨λ_=>?_,λh=>Ng rfl h⟩;have a:=(@qp x r (n+1) ((x,n)::acc) acc' nd.2).2 (by rw[hr];simp);have b:=(@qp x r (n+1) ((x,n)::acc') acc' nd.2).2 (by rw[hr];simp);show(cellsFrom (n+1) r ((x,n)::acc)).lookup x=(cellsFrom (n+1) r ((x,n)::acc')).lookup x;rw[a,b];simp
   .refine⟨λh=>Ng (Nk h) hk,λ_=>?_⟩
    have e:cellsFrom n ((x,k)::r) acc=cellsFrom n r acc:=by
     show(if k==.cell then _ else _)=_;rw[if_neg<|by simpa using hk]
    rw[e,(@qp x r n acc acc' nd.2).2 (by rw[hr];simp)]
  .have e:List.lookup x ((m,k)::r)=r.lookup x:=by rw[oB,beq_eq_false_iff_ne.mpr hm]
   rw[e]
   by_cases hk:k=.cell
   .subst hk
    have ih:=@qp x r (n+1) ((m,n)::acc) ((m,n)::acc') nd.2;have e2:List.lookup x ((m,n)::acc)=acc.lookup x:=by rw[oB,beq_eq_false_iff_ne.mpr hm]
    rw[e2]at ih;exact ih
   .have e3:∀a:List (Str×Addr),cellsFrom n ((m,k)::r) a=cellsFrom n r a:=λa=>by
     show(if k==.cell then _ else _)=_;rw[if_neg<|by simpa using hk]
    rw[e3,e3];exact @qp x r n acc acc' nd.2
theorem C0:(relabel sc env).names.lookup x=(sc.names.lookup x).map λk=>if(k==NameKind.free&&env.scope.kind==.function&&env.kindOf x==some .cell)=true then .cell else k:=by
 show List.lookup x (sc.names.map _)=_;generalize sc.names=l;induction l with
 |nil=>rfl|cons y r ih=>obtain⟨m,k⟩:=y;by_cases hx:x=m;subst hx;simp only[cP];by_cases hc:(k==NameKind.free&&env.scope.kind==.function&&env.kindOf x==some .cell)=true;rw[if_pos hc];simp only[oB,Nx,jE];rw[if_pos hc];rw[if_neg hc];simp only[oB,Nx,jE];rw[if_neg hc];have hb:(x==m)=false:=beq_eq_false_iff_ne.mpr hx;simp only[cP];by_cases hc:(k==NameKind.free&&env.scope.kind==.function&&env.kindOf m==some .cell)=true;rw[if_pos hc];simp only[oB,hb];exact ih;rw[if_neg hc];simp only[oB,hb];exact ih
def jA(sc:Scope)(env:Env)(C:Addr):Env:=
 { scope:=relabel sc env,locals:=C,globals:=env.globals,cells:=cellsFrom (C+1) sc.names<|dA env.cells sc.names [],qual:=env.qual,func:=none,code:=env.code,frame:=env.frame,builtins:=env.builtins }
theorem Hg{M:Model}{E:Value->Shared->Prop}
  (h:Q { scope:=sc,locals:=s.heap.objs.size,globals:=env.globals,cells:=cellsFrom (s.heap.objs.size+1) sc.names<|dA env.cells sc.names [],qual:=env.qual,func:=none,code:=env.code,frame:=env.frame,builtins:=env.builtins }
   { s with heap:=pushCells (s.heap.push { cls:=.type "dict",data:=.dict #[] }) sc.names }) :
  wpAny M A (newFunctionEnv sc env.globals (dA env.cells sc.names []) [] env.qual none .none<|some env) Q E s:=by
 simp only[newFunctionEnv,Option.isSome_some,if_true];refine Nc<|wpAny_alloc ?_;refine Nc<|wpAny_layCells _ (λname kind cells=>by cases hkc:kind==NameKind.cell<;>simp[hkc]) _ _ _ _ ?_;rw[show({ s with heap:=s.heap.push { cls:=.type "dict",data:=.dict #[] } }:Shared).heap.objs.size=s.heap.objs.size+1 from oQ ..];exact Nc<|Nf (Nf h)
def Cx.lc(X:Cx)(sc:Scope)(vars:List Str)(sel:List Nat)(s:Shared)(H:Hp)(fp:List Addr):Cx where
 prog:=X.prog
 w:=X.w
 K:=X.K
 mg:=X.mg
 base:=X.base
 A:=X.A
 N:=vars++sel.map λj=>X.N.getD j ""
 s₀:=s
 H₀:=H
 env:=jA sc X.env s.heap.objs.size
 outer:=X.stack
 stack:=X.stack
 ex:=fp
 fn:=λx=>decide (sc.names.lookup x=some .cell)
 calm:=X.calm
 pn:=[]
 xe:=λ_ _=>False
def rP(N:List Str)(sc:Scope)(sel:List Nat):Bool:=sel.all λj=>match N[j]? with|some x=>decide (sc.names.lookup x=some .free)|none=>false
def ic(nv:Nat)(sel:List Nat)(σ:St):St:=List.replicate nv none++sel.map λj=>(σ[j]?).getD none
section
variable{H:Hp}
theorem Ar(I:Inv X pins σ H s)(ok:lH sc X.env.scope=true):∀y∈sc.names,y.2=.free->∃c,X.env.cells.lookup y.1=some c:=λy hy hk=>by
 simp only[lH,c9,Ybc,zx,sQ,Nh,decide_eq_false_iff_not]at ok;rcases ok.2 y hy with z|z
 exact Ng hk z;exact I.ok.has y.1 z
theorem Hh(I:Inv X pins σ H s)(ok:lH sc X.env.scope=true)(so:rP X.N sc sel=true)(hf:∀b∈fp,fA X pins H b)(ho:∀b∈fp,∃o,s.heap.get? b=some o)(ha:X.env.scope.kind=.function:=by rfl) :
  Inv (X.lc sc vars sel s H fp) [] (ic vars.length sel σ) H { s with heap:=pushCells (s.heap.push { cls:=.type "dict",data:=.dict #[] }) sc.names }:=by
 have hcl:=Ar I ok;have ok':=ok;simp only[lH,c9,Ybc,zx,sQ,Nh,decide_eq_false_iff_not]at ok';obtain⟨⟨hk,nd⟩,hfree⟩:=ok';have szp:(s.heap.push { cls:=.type "dict",data:=.dict #[] }).objs.size=s.heap.objs.size+1:=oQ ..;have keep:∀b o,s.heap.get? b=some o->(pushCells (s.heap.push { cls:=.type "dict",data:=.dict #[] }) sc.names).get? b=some o:=λb o e=>pushCells_keeps _ _ _ _<|dU _ e;have okc:=cellsFrom_ok sc.names (s.heap.push { cls:=.type "dict",data:=.dict #[] }) (s.heap.objs.size+1) [] ⟨λ_ _ hm=>(nomatch hm),List.Pairwise.nil⟩ (by rw[szp];exact cB _);rw[szp]at okc
 have own:∀x,sc.names.lookup x=some .cell->∃c,(jA sc X.env s.heap.objs.size).cells.lookup x=some c/\(x,c)∈cellsFrom (s.heap.objs.size+1) sc.names []:=λx hx=>by
  have e:=(qp sc.names (s.heap.objs.size+1) (dA X.env.cells sc.names []) [] nd).1 hx;obtain⟨c,hc⟩:=eE (sc:=sc) (n:=s.heap.objs.size+1) hx;exact⟨c,by show(cellsFrom _ _ _).lookup x=_;rw[e];exact hc,Nn hc⟩
 have clo:∀x,sc.names.lookup x=some .free->∃c,(jA sc X.env s.heap.objs.size).cells.lookup x=some c/\X.env.cells.lookup x=some c:=λx hx=>by
  have e:=(qp sc.names (s.heap.objs.size+1) (dA X.env.cells sc.names []) [] nd).2 (by rw[hx];decide);obtain⟨c,h1,h2⟩:=(@uH X.env.cells x sc.names [] nd).1 hx;obtain⟨c',h3⟩:=hcl (x,.free) (Nn hx) rfl;have h3':X.env.cells.lookup x=some c':=h3;rw[h3']at h2;have h4:c'=c:=h2;subst h4;exact⟨c',by show(cellsFrom _ _ _).lookup x=_;rw[e];exact h1,h3'⟩
 have oth:∀x c,(jA sc X.env s.heap.objs.size).cells.lookup x=some c->sc.names.lookup x=some .cell\/sc.names.lookup x=some .free:=λx c hc=>by
  by_cases h1:sc.names.lookup x=some .cell
  .exact .inl h1
  .by_cases h2:sc.names.lookup x=some .free
   .exact .inr h2
   .have e:=(qp sc.names (s.heap.objs.size+1) (dA X.env.cells sc.names []) [] nd).2 h1
    have e2:=(@uH X.env.cells x sc.names [] nd).2 h2;have hc':(cellsFrom (s.heap.objs.size+1) sc.names<|dA X.env.cells sc.names []).lookup x=some c:=hc;rw[e,e2]at hc';simp at hc'
 have ownC:∀x c,(x,c)∈cellsFrom (s.heap.objs.size+1) sc.names []->(pushCells (s.heap.push { cls:=.type "dict",data:=.dict #[] }) sc.names).IsCell c none/\s.heap.objs.size+1<=c:=λx c h=>okc.empty x c h;have cloLt:∀x c,X.env.cells.lookup x=some c->c<s.heap.objs.size:=λx c h=>by
  obtain⟨v,q⟩:=I.cell x c h;exact q.lt
 have iD:∀b∈fp,b<s.heap.objs.size:=λb hb=>by obtain⟨o,e⟩:=ho b hb;exact dG e
 refine ⟨⟨I.ok.mod,hk,I.ok.glob,I.ok.blt,cB _,λx y c h1 h2=>?_,λx hx=>?_,λx c hx h=>?_,I.ok.hd,I.ok.frames,.inl rfl,λb hb=>⟨im<|iD b hb,λx c h=>?_⟩,I.bs,gT I.ok.bsz I.sz,λb o e hb=>?_,λb hb hq=>?_,I.stack,I.stkFree,I.sysn⟩,
  rfl,I.bare,Un.kept keep,⟨λ_=>none,?_,λi x v h1 h2 h3=>?_⟩,λx c h=>?_,I.hok.fresh<|cB _,λx c h=>?_,λp hp=>Ng (show p∈([]:List (Addr×Obj)) from hp)<|by simp,I.hok.kept keep,?_⟩
 ·-- inj
  replace h1:(jA sc X.env s.heap.objs.size).cells.lookup x=some c:=h1;replace h2:(jA sc X.env s.heap.objs.size).cells.lookup y=some c:=h2;rcases oth x c h1 with k1|k1<;>rcases oth y c h2 with k2|k2
  .obtain⟨c1,e1,m1⟩:=own x k1
   obtain⟨c2,e2,m2⟩:=own y k2;rw[h1]at e1;rw[h2]at e2;cases e1;cases e2;exact name_of_addr okc.apart m1 m2
  .obtain⟨c1,e1,m1⟩:=own x k1
   obtain⟨c2,e2,m2⟩:=clo y k2;rw[h1]at e1;rw[h2]at e2;cases e1;cases e2;exact Ng (dm (cloLt y c m2)<|zy (ownC x c m1).2)<|jd _
  .obtain⟨c1,e1,m1⟩:=clo x k1
   obtain⟨c2,e2,m2⟩:=own y k2;rw[h1]at e1;rw[h2]at e2;cases e1;cases e2;exact Ng (dm (cloLt x c m1)<|zy (ownC y c m2).2)<|jd _
  .obtain⟨c1,e1,m1⟩:=clo x k1
   obtain⟨c2,e2,m2⟩:=clo y k2;rw[h1]at e1;rw[h2]at e2;cases e1;cases e2;exact I.ok.inj x y c m1 m2
 ·-- has
  have hx':(relabel sc X.env).names.lookup x=some .cell\/(relabel sc X.env).names.lookup x=some .free:=hx;rw[C0]at hx';cases q:sc.names.lookup x with
  |none=>rw[q]at hx';simp at hx'
  |some k=>
   cases k with
   |cell=>obtain⟨c,e,_⟩:=own x q;exact⟨c,e⟩
   |free=>obtain⟨c,e,_⟩:=clo x q;exact⟨c,e⟩
   | «local»=>rw[q]at hx';simp at hx'|globalExplicit=>rw[q]at hx';simp at hx'|globalImplicit=>rw[q]at hx';simp at hx'
 .have hx':sc.names.lookup x=some .cell:=NI hx
  obtain⟨c1,e1,m1⟩:=own x hx';have h':(jA sc X.env s.heap.objs.size).cells.lookup x=some c:=h;rw[h']at e1;cases e1;have:=(ownC x c m1).2;show s.heap.objs.size<=c;omega
 .rcases oth x c h with k|k
  .obtain⟨c1,e1,m1⟩:=own x k
   rw[show(jA sc X.env s.heap.objs.size).cells.lookup x=some c from h]at e1;cases e1;exact λz=>Ng (dm (iD b hb)<|zy (ownC x c m1).2) (by rw[z];exact jd _)
  .obtain⟨c1,e1,m1⟩:=clo x k
   rw[show(jA sc X.env s.heap.objs.size).cells.lookup x=some c from h]at e1;cases e1;exact(hf b hb).2.2.2.2.1 x c m1
 .have q:=(hf b hb).2.2.2.1
  rcases q with q|q
  .exact I.ok.noex b o e q
  .exact Ng (dm (dG (I.ok.bs b o e).1) q)<|jd _
 .rcases Yam.mp (I.stkSub b hq) with z|z
  .exact(hf b hb).2.1 z
  .exact(hf b hb).2.2.1 z
 ·-- the names' dict
  refine Heap.Ns.keeps (h:=s.heap.push { cls:=.type "dict",data:=.dict #[] }) ?_<|λb o e=>pushCells_keeps _ _ _ _ e;exact⟨_,#[],_,hV _ rfl,rfl,λe he=>Ng he<|by simp,λ_=>rfl⟩
 ·-- what is seen
  have hi:vars.length<=i:=by
   rcases gg i vars.length with z|z
   .exfalso
    unfold ic at h2;rw[kL<|by simpa using z,lD]at h2;split at h2<;>cases h2
   .exact z
  unfold ic at h2;rw[j9<|by simpa using hi,oO,cD]at h2;have h1':(vars++sel.map λj=>X.N.getD j "")[i]? = some x:=h1;rw[j9 hi,cD]at h1';cases q:sel[i-vars.length]? with
  |none=>rw[q]at h2;cases h2
  |some j=>
   rw[q]at h1' h2;have e1:X.N.getD j "" = x:=Nk h1';have e2:(σ[j]?).getD none=some v:=Nk h2;have hj:∃y,X.N[j]? = some y/\sc.names.lookup y=some .free:=by
    have:=Ybc.mp so j<|ip q;cases z:X.N[j]? with
    |none=>rw[z]at this;cases this
    |some y=>rw[z]at this;exact⟨y,rfl,NI this⟩
   obtain⟨y,hy,hyf⟩:=hj;have:y=x:=by
    rw[<-e1,bF,hy];rfl
   subst this;have e3:σ[j]? = some (some v):=by
    cases z:σ[j]? with
    |none=>rw[z]at e2;cases e2
    |some w=>rw[z]at e2;exact congrArg some e2
   obtain⟨c,k1,k2⟩:=clo y hyf;have vis:oY X.env.scope y:=by
    rcases hfree (y,.free) (Nn hyf) with z|z|z
    .exact Ng rfl z
    .exact .inr<|.inl z
    .exact .inr<|.inr z
   obtain⟨m,hn,hl⟩:=I.loc;obtain⟨u,r,l⟩:=hl j y v hy e3 vis;refine⟨u,r,?_⟩;have notloc:X.env.kindOf y≠some .local:=by
    rcases hfree (y,.free) (Nn hyf) with z|z|z
    .exact Ng rfl z
    .show X.env.scope.names.lookup y≠_;rw[z];decide
    .show X.env.scope.names.lookup y≠_;rw[z];decide
   rcases l with⟨z,_⟩|⟨_,c',e',q'⟩
   .exact Ng z notloc
   .rw[k2]at e';cases e'
    have kk:(jA sc X.env s.heap.objs.size).kindOf y=some .cell\/(jA sc X.env s.heap.objs.size).kindOf y=some .free:=by
     show(relabel sc X.env).names.lookup y=_\/(relabel sc X.env).names.lookup y=_;rw[C0,hyf];simp only[jE];split
     .exact .inl rfl
     .exact .inr rfl
    exact .inr ⟨kk,c,k1,q'.keeps keep⟩
 .rcases oth x c h with k|k
  .obtain⟨c1,e1,m1⟩:=own x k
   rw[show(jA sc X.env s.heap.objs.size).cells.lookup x=some c from h]at e1;cases e1;exact⟨none,(ownC x c m1).1⟩
  .obtain⟨c1,e1,m1⟩:=clo x k
   rw[show(jA sc X.env s.heap.objs.size).cells.lookup x=some c from h]at e1;cases e1;obtain⟨v,q⟩:=I.cell x c m1;exact⟨v,q.keeps keep⟩
 .rcases oth x c h with k|k
  .obtain⟨c1,e1,m1⟩:=own x k
   rw[show(jA sc X.env s.heap.objs.size).cells.lookup x=some c from h]at e1;cases e1;exact I.hok.fresh (by have:=(ownC x c m1).2;omega)
  .obtain⟨c1,e1,m1⟩:=clo x k
   rw[show(jA sc X.env s.heap.objs.size).cells.lookup x=some c from h]at e1;cases e1;exact I.freeC x c m1
 .show(ic vars.length sel σ).length=(vars++sel.map _).length
  unfold ic;simp
end
def PF(X:Cx)(ifs:List Expr)(t:TT):Prop:=
 ∀(pins:List (Addr×Obj)) (s:Shared) (σ:St) (H:Hp) (Q:Bool->Hp->Prop),Inv X pins σ H s->t σ H Q->
  wpAny (model X.prog X.w) X.A (forIn ifs true λc r=>if r=true then do let ok <-isTrue c X.env (eval c X.env);pure (ForInStep.yield ok) else pure (ForInStep.yield r)) (TP X pins σ Q) X.xe s
def uI:TT:=λ_ H Q=>Q true H
theorem Hi:PF X [] uI:=λ_ _ _ H _ I h=>wpAny_tests_nil ⟨H,I,h⟩
theorem Hj{c:Expr}{t:TT}(h:PT X c t):PF X [c] t:=λpins s σ H Q I q=>wpAny_tests_one<|h pins s σ H Q I q
def uJ(g:TG)(tf:TT)(te:TE)(J:It)(D:Addr)(Q:Hp->Prop)(W:Nat->Nat->List V->St->Hp->Prop):Prop:=
 ∀ i m ys σ2 H2,W i m ys σ2 H2->H2 D=some (.lst ys)/\((J.stop i H2/\Q H2)\/(J.go i H2/\∀ x H3,J.yld i H2 x H3->g x σ2 H3 λσ4 H4=>tf σ4 H4 λb H5=>
  if b=true then te σ4 H5 λv H6=>H6 D=some (.lst ys)/\ys.length<sizeLine/\∃m',m'<m/\W (i+1) m' (ys++[v]) σ4 (upd H6 D<|.lst<|ys++[v]) else∃m',m'<m/\W (i+1) m' ys σ4 H5))
def As(wi:TI)(nv:Nat)(sel:List Nat)(g:TG)(tf:TT)(te:TE):TE:=λσ H Q=>wi σ H λJ H1=>∀D,H1 D=none->
 ∃W:Nat->Nat->List V->St->Hp->Prop,(∃m,W 0 m [] (ic nv sel σ)<|upd H1 D<|.lst [])/\uJ g tf te J D (Q<|.ref D) W
section
variable{H1:Hp}{s2:Shared}{elt target iter:Expr}{ifs:List Expr}{pos:Pos}{g:TG}{tf:TT}{te:TE}
theorem Hk{prog:Program}{R:Result->Shared->Prop}{it acc:Value}(I:Nat->Shared->Prop)
  (turn:∀ n s,I n s->wpAny (model prog w) A (pyNext it) (λr s₁=>match r with
   |none=>R (.ok .next) s₁
   | some v=>wpAny (model prog w) A (letOwnedTupleGo target it v) (λ_ s₁'=>wpAny (model prog w) A (assign target env v) (λ_ s₂=>
     wpAny (model prog w) A (forIn ifs true λc r=>if r=true then do let ok <- isTrue c env (eval c env);pure (ForInStep.yield ok) else pure (ForInStep.yield r)) (λok s₃=>
      if ok=true then wpAny (model prog w) A (eval elt env) (λx s₄=>
       wpAny (model prog w) A (call (.builtin "list.append") [acc,x]) (λ_ s₅=>∃m,m<n/\I m s₅) (λ_ _=>False) s₄) (λ_ _=>False) s₃
      else∃m,m<n/\I m s₃) (λ_ _=>False) s₂) (λ_ _=>False) s₁') (λ_ _=>False) s₁) (λ_ _=>False) s)
  (n:Nat) (h:I n s) :
  codeAny (model prog w) A (.compLoop (.ListComp elt [⟨target,iter,ifs,0⟩] scope pos) 0 it acc env) R s:=by
 refine codeAny_loop rfl I (λn s hI=>?_) n h;show wpAny _ A ((compTurn (.ListComp elt [⟨target,iter,ifs,0⟩] scope pos) 0 it acc env).onRaise (λx=>do noteFrame x env;theTreesLotGoes x)) _ _ s;refine wpAny_noted ?_;rw[compTurn_list];refine Nc<|NJ (Nc<|Nw (turn n s hI) (λr s₁ h₁=>?_) λ_ _ h'=>h'.elim);cases r with
 |none=>exact Nf h₁
 |some v=>
  refine Nc<|Nw h₁ (λ_ s₁' h₁'=>?_) λ_ _ h'=>h'.elim;refine Nc<|Nw h₁' (λ_ s₂ h₂=>Nc<|Nw h₂ (λok s₃ h₃=>?_) λ_ _ h'=>h'.elim) λ_ _ h'=>h'.elim;cases ok with
  |false=>exact Nf ⟨rfl,h₃⟩
  |true=>
   exact Nc<|Nc (Nw h₃ (λx s₄ h₄=>Nc<|Nw h₄ (λ_ s₅ h₅=>Nf<|Nf ⟨rfl,h₅⟩) λ_ _ h'=>h'.elim) λ_ _ h'=>h'.elim)
theorem C1{J:It}{it:Addr}{Q:VK}{E:Value->Shared->Prop}{R:Value->Addr->Result->Shared->Prop}(hc:X.calm=true)
  (hg:∀s H fp,PG (X.lc sc vars sel s H fp) target g) (hf:∀s H fp,PF (X.lc sc vars sel s H fp) ifs tf) (he:∀s H fp,PE (X.lc sc vars sel s H fp) elt te)
  (ok:lH sc X.env.scope=true) (so:rP X.N sc sel=true)
  (I2:Inv X pins σ H1 s2) (T:ji X.prog X.w X.K target J fp it tn) (st2:tn 0 s2.heap) (f2:∀b∈fp,fA X pins H1 b)
  (q:∀D,H1 D=none->∃W:Nat->Nat->List V->St->Hp->Prop,(∃m,W 0 m [] (ic vars.length sel σ)<|upd H1 D<|.lst [])/\uJ g tf te J D (Q<|.ref D) W)
  (hR:∀D C H' s',Inv X pins σ H' s'->Q (.ref D) H'->(∃m,s'.heap.Ns C m)->fA X pins H' C->R (.ref D) C (.ok .next) s') :
  wpAny (model X.prog X.w) X.A (newList []) (λacc s₃=>wpAny (model X.prog X.w) X.A (newFunctionEnv sc X.env.globals (dA X.env.cells sc.names []) [] X.env.qual none .none<|some X.env) (λcenv s₄=>
   codeAny (model X.prog X.w) X.A (.compStart (.ListComp elt [⟨target,iter,ifs,0⟩] sc pos) 0 (.ref it) acc { cenv with scope:=relabel sc X.env }) (R acc cenv.locals) s₄) E s₃) E s2:=by
 refine Nq ?_;have hD0:H1 s2.heap.objs.size=none:=I2.hok.fresh<|cB _;obtain⟨W,⟨m0,w0⟩,turn⟩:=q _ hD0;have I3:Inv X pins σ (upd H1 s2.heap.objs.size<|.lst []) { s2 with heap:=s2.heap.push { cls:=.type "list",data:=.seq ([]:List Value).toArray },toks:=s2.toks }:=I2.lnew (ys:=[]) .nil<|iI _;have ho2:∀b∈fp,∃o,s2.heap.get? b=some o/\∀v,o.data≠.cell v:=T.obj _ _ st2;have lt2:∀b∈fp,b<s2.heap.objs.size:=λb hb=>by obtain⟨o,e,_⟩:=ho2 b hb;exact dG e
 have f3:∀b∈fp,fA X pins (upd H1 s2.heap.objs.size<|.lst []) b:=λb hb=>⟨by rw[aI<|im<|lt2 b hb];exact(f2 b hb).1,(f2 b hb).2⟩;have ho3:∀b∈fp,∃o,(s2.heap.push { cls:=.type "list",data:=.seq ([]:List Value).toArray }).get? b=some o:=λb hb=>by obtain⟨o,e,_⟩:=ho2 b hb;exact⟨o,dU _ e⟩
 refine Hg (s:={ s2 with heap:=s2.heap.push { cls:=.type "list",data:=.seq ([]:List Value).toArray },toks:=s2.toks }) ?_;generalize hs3:({ s2 with heap:=s2.heap.push { cls:=.type "list",data:=.seq ([]:List Value).toArray },toks:=s2.toks }:Shared)=s3 at I3 ⊢;have kp23:∀b o,s2.heap.get? b=some o->s3.heap.get? b=some o:=λb o e=>by rw[<-hs3];exact dU _ e
 have sz3:s3.heap.objs.size=s2.heap.objs.size+1:=by rw[<-hs3];exact oQ ..
 have os3:s3.os=s2.os:=by rw[<-hs3]
 have ho3':∀b∈fp,∃o,s3.heap.get? b=some o:=λb hb=>by rw[<-hs3];exact ho3 b hb
 have I4:=Hh (vars:=vars) I3 ok so f3 ho3' I2.ok.kind;have kp4:∀b o,s3.heap.get? b=some o->(pushCells (s3.heap.push { cls:=.type "dict",data:=.dict #[] }) sc.names).get? b=some o:=λb o e=>pushCells_keeps _ _ _ _<|dU _ e;have st4:tn 0 (pushCells (s3.heap.push { cls:=.type "dict",data:=.dict #[] }) sc.names):=T.keep _ _ _ st2 λb hb o e=>kp4 b o<|kp23 b o e
 have stat:∀{H':Hp},(∀b∈fp,H' b=none)->∀b∈fp,fA (X.lc sc vars sel s3 (upd H1 s2.heap.objs.size<|.lst []) fp) [] H' b:=λ{H'} hn b hb=>by
  refine⟨hn b hb,(I4.ok.exf b hb).1,I4.ok.exfs b hb,.inl hb,λx c e z=>(I4.ok.exf b hb).2 x c e z,λp hp=>Ng (show p∈([]:List (Addr×Obj)) from hp)<|by simp⟩
 have loop:codeAny (model X.prog X.w) X.A (.compLoop (.ListComp elt [⟨target,iter,ifs,0⟩] sc pos) 0 (.ref it) (.ref s2.heap.objs.size)<|jA sc X.env s3.heap.objs.size)
   (R (.ref s2.heap.objs.size) s3.heap.objs.size) { s3 with heap:=pushCells (s3.heap.push { cls:=.type "dict",data:=.dict #[] }) sc.names }:=by
  refine Hk (λn s'=>∃i ys σ' H',Inv (X.lc sc vars sel s3 (upd H1 s2.heap.objs.size<|.lst []) fp) [] σ' H' s'/\tn i s'.heap/\(∀b∈fp,H' b=none)/\W i n ys σ' H') ?_ m0
   ⟨0,[],_,_,I4,st4,λb hb=>(f3 b hb).1,w0⟩
  rintro n s5 ⟨i,ys,σ5,H5,I5,st5,fr5,w5⟩;obtain⟨hD,⟨stop,qn⟩|⟨go,step⟩⟩:=turn i n ys σ5 H5 w5
  .refine bW (T.done (X.lc sc vars sel s3 (upd H1 s2.heap.objs.size<|.lst []) fp) rfl rfl rfl hc i [] s5 σ5 H5 _ I5 (stat fr5) st5 stop) λr s6 ⟨hr,I6⟩=>?_
   subst hr;have un:Un (dC X.stack) fp H1 H5 s2.heap s6.heap:=by
    have a:Un (dC X.stack) fp H1 (upd H1 s2.heap.objs.size<|.lst []) s2.heap s3.heap:=Un.laid kp23 (cB _) hD0;exact a.trans I6.base
   have I7:Inv X pins σ H5 s6:=I2.call' (ch:=fp) (I6.os.trans os3) un I6.hok I6.bare λb hb=>⟨(f2 b hb).2.2.2.1,(f2 b hb).2.1,(f2 b hb).2.2.2.2.1,(f2 b hb).2.2.2.2.2⟩;refine hR _ _ H5 s6 I7 qn ?_ ?_
   .obtain⟨m,hn,_⟩:=I6.loc
    exact⟨m,hn⟩
   .exact I3.fpOk (cB _) I6.free
  .refine bW (T.item (X.lc sc vars sel s3 (upd H1 s2.heap.objs.size<|.lst []) fp) rfl rfl rfl hc i [] s5 σ5 H5 _ I5 (stat fr5) st5 go) λr s6 ⟨u,hr,h6⟩=>?_
   subst hr;refine bW h6 λ_ s7 ⟨x,H7,I7,r7,y7,st7,fr7⟩=>?_;have I7':=I7.pinned (stat fr7)<|T.obj _ _ st7;refine bW (hg _ _ _ _ s7 σ5 H7 x u _ I7' r7<|step x H7 y7) λ_ s8 ⟨σ8,H8,I8,q8⟩=>?_;refine bW (hf _ _ _ _ s8 σ8 H8 _ I8 q8) λb s9 ⟨H9,I9,q9⟩=>?_;have back:∀{σ':St} {H':Hp} {s':Shared},Inv (X.lc sc vars sel s3 (upd H1 s2.heap.objs.size<|.lst []) fp) ([]++gE fp s7.heap) σ' H' s'->tn (i+1) s'.heap/\∀b∈fp,H' b=none:=λ{σ' H' s'} I'=>by
    refine⟨T.keep _ _ _ st7 λb hb o e=>(I'.pin (b,o)<|oA _<|oA _<|dX hb e).1,λb hb=>?_⟩;obtain⟨o,e,d⟩:=T.obj _ _ st7 b hb;exact(I'.pin (b,o)<|oA _<|oA _<|dX hb e).2.1
   cases b with
   |false=>
    rw[if_neg<|by decide]at q9 ⊢;obtain⟨m',hm,w9⟩:=q9;exact⟨m',hm,i+1,ys,σ8,H9,I9.unpinned,(back I9).1,(back I9).2,w9⟩
   |true=>
    rw[if_pos rfl]at q9 ⊢;refine bW (he _ _ _ _ s9 σ8 H9 _ I9 q9) λv sA ⟨y,HA,IA,rA,hDA,hz,m',hm,wA⟩=>?_;obtain⟨z,its,nn,rr,hl,e⟩:=IA.lstM hDA;refine call_meets F.slot_list_append ⟨_,e,rfl⟩ F.entry_list_append (F.args_list_append_2 _ _) (PySem.list_append _ its.toArray nn v (by rw[eZ];omega)) ⟨e,?_⟩;have IB:=IA.lset (its':=its++[v]) (f:=(·.push v)) (t':=sA.toks) hDA e (by simp) (rr.append<|.cons rA .nil) (by rw[gA,mY];omega);exact⟨m',hm,i+1,ys++[y],σ8,_,IB.unpinned,(back IB).1,(back IB).2,wA⟩
 exact codeAny_compStart_list loop<|T.self _ 0 _ _ _ st4 loop
theorem uK(vars:List Str)(sel:List Nat)(hc:X.calm=true)(hi:PI X target iter wi)
  (ok:lH sc X.env.scope=true) (so:rP X.N sc sel=true)
  (hg:∀s H fp,PG (X.lc sc vars sel s H fp) target g) (hf:∀s H fp,PF (X.lc sc vars sel s H fp) ifs tf) (he:∀s H fp,PE (X.lc sc vars sel s H fp) elt te)
  (hs:∀x,foldedSetIterable iter X.env x=pure x:=by intro _;rfl):PE X (.ListComp elt [⟨target,iter,ifs,0⟩] sc pos) (As wi vars.length sel g tf te):=by
 intro pins s σ H Q I h;rw[eval_ListComp];have ok':=ok;simp only[lH,c9,Nh]at ok';refine wpAny_comprehension_free (use:=none) rfl hs (CZ<|Ar I ok) ok'.1.1 (λx hx hl=>?_) ?_
 .obtain⟨n,k⟩:=x
  have hl':k=.local:=hl;subst hl';exact Aq ok'.1.2 hx
 .refine bW (hi pins s σ H _ I h) λv s1 h1=>bW h1 λitv s2 h2=>?_
  obtain⟨it,fp,tn,J,H2,e,I2,T,st2,f2,q⟩:=h2;subst e;refine C1 (Q:=Q) hc hg hf he ok so I2 T st2 f2 q λD C H' s' I' q' hn fC=>?_;obtain⟨m,hn⟩:=hn;refine⟨m,hn,λh' hs'=>?_⟩;obtain⟨f0,f1,f2,f3,f4,f5⟩:=fC;exact⟨.ref D,H',I'.turned (t':=s'.toks) (λb o hb e=>(hs'.2 b hb).trans e) f0 f1 f3 f4 f5,rfl,q'⟩
theorem C2{i:Nat}{pos' spos:Pos}(vars:List Str)(sel:List Nat)(hc:X.calm=true)(hN:X.N.Nodup)(hix:X.N[i]? = some x)(hx:oD X.env.scope x)(hi:PI X target iter wi)
  (ok:lH sc X.env.scope=true) (so:rP X.N sc sel=true)
  (hg:∀s H fp,PG (X.lc sc vars sel s H fp) target g) (hf:∀s H fp,PF (X.lc sc vars sel s H fp) ifs tf) (he:∀s H fp,PE (X.lc sc vars sel s H fp) elt te)
  (hsw:swapsWith (.ListComp elt [⟨target,iter,ifs,0⟩] sc pos) (some<|.Name x pos') spos.line X.env=pure true)
  (hs:∀x,foldedSetIterable iter X.env x=pure x:=by intro _;rfl) (hfn:X.fn x=true\/X.env.scope.names.lookup x=some .local:=by first|exact .inl rfl|exact .inr rfl|assumption) :
  PS X (.Assign [.Name x pos'] (.ListComp elt [⟨target,iter,ifs,0⟩] sc pos) spos) (rh (As wi vars.length sel g tf te)<|km i):=by
 intro pins s σ H D I h;rw[exec_Assign_Name_used _ _ _ _ hsw];refine Nc<|NJ (Nc ?_);show wpAny _ X.A (do let _ <-comprehension (.ListComp elt [⟨target,iter,ifs,0⟩] sc pos) sc X.env _ (newList []) false (eval iter X.env) (some<|assign (.Name x pos') X.env)) _ _ s;have ok':=ok;simp only[lH,c9,Nh]at ok';refine Nc<|Nw (wpAny_comprehension_free (use:=some<|assign (.Name x pos') X.env) (Q:=λ_ s'=>SP X pins D .next s') rfl hs (CZ<|Ar I ok) ok'.1.1 (λx hx hl=>?_) ?_) (λ_ s' q=>Nf<|Nf q) λ_ _ e=>e
 .obtain⟨n,k⟩:=x
  have hl':k=.local:=hl;subst hl';exact Aq ok'.1.2 hx
 .refine bW (hi pins s σ H _ I h) λv s1 h1=>bW h1 λitv s2 h2=>?_
  obtain⟨it,fp,tn,J,H2,e,I2,T,st2,f2,q⟩:=h2;subst e;refine C1 (Q:=λv H'=>km i v σ H' D.nx) hc hg hf he ok so I2 T st2 f2 q λD' C H' s' I' q' hn fC=>?_;obtain⟨m,hn⟩:=hn;obtain⟨f0,f1,f2,f3,f4,f5⟩:=id fC;refine wpAny_assign_Name<|fU I' hN hix hx (v:=.ref D') rfl (λs'' I'' ⟨a,sb,ha⟩=>?_) hfn;have hCa:C≠a:=by
   rcases ha with z|z
   .rw[z];exact f1
   .exact Nr<|f4 x a z
  refine⟨m,hn.sameBut sb hCa,λh' hs'=>?_⟩;exact⟨_,H',I''.turned (t':=s''.toks) (λb o hb e=>(hs'.2 b hb).trans e) f0 f1 f3 f4 f5,q'⟩
end
end L2
namespace HT
open PySem PySem.Spec PyProof.Rows
section
variable{prog:Program}{w:World}{A:Around}{E:Value->Shared->Prop}{s:Shared}
theorem getItem_tuple_whole{t sl:Addr}{items:Array Value}{vl vu:Value}{lo hi:Option Int}{Q:Value->Shared->Prop}(ht:IsTup s.heap t items)(hs:s.heap.IsSliceOf sl vl vu .none)(pl:IsPart vl lo)(pu:IsPart vu hi)
  (hw:sIx items.size 0 lo=0/\sIx items.size items.size hi=items.size) (h:Q (.ref t) s):wpAny (model prog w) A (getItem (.ref t)<|.ref sl) Q E s:=by
 obtain⟨os,hos,hcs,hds⟩:=id hs;have hTs:s.TypeIs (.ref sl) "slice" :=⟨os,hos,hcs⟩
 unfold getItem
 try with_reducible refine NC ?_
 first|refine Nc (Nf ?_)|skip
 refine Nc<|wpAny_sequenceKey ht.typeIs (by decide) ?_;refine Nc (wpAny_callSpecial?_slot (name:=Str.ofString "__getitem__") ht.typeIs PyProof.Rows.slot_tuple_getitem
  (Ny PyProof.Rows.slot_tuple_getitem ht.typeIs entry_tuple_getitem ?_<|args_tuple_getitem _ _))
 show wpAny _ _ (Builtin.Tuple.tupleItemsOf (.ref t) >>= _) _ _ s;refine Nc<|tupleItemsOf_ ht ?_;refine Nc<|wpAny_typeOf hTs ?_;rw[if_pos<|by decide];refine Nc<|dN hs pl pu ?_;have hyes:(((sIx items.size 0 lo:Nat):Int)==0&&(1:Int)==1&&(sIx items.size items.size hi-sIx items.size 0 lo)==items.size)=true:=by
  rw[hw.1,hw.2];simp
 show wpAny _ _ (if(((sIx items.size 0 lo:Nat):Int)==0&&(1:Int)==1&&(sIx items.size items.size hi-sIx items.size 0 lo)==items.size)=true then _ else _) _ _ s;rw[if_pos hyes];have ex:Builtin.Tuple.tupleIsExact (.ref t)=(do return(<-typeOf (.ref t))==.type "tuple"):=rfl;rw[ex];refine Nc<|Nc (wpAny_typeOf ht.typeIs<|Nf ?_);rw[if_pos<|by decide]
 first
  |exact Nc<|NG (Nc<|Nf<|Nf ⟨_,rfl,Nf h⟩)
  |exact Nc<|NG (Nf ⟨_,rfl,Nf h⟩)
  |exact Nc<|NG (Nc<|Nf ⟨_,rfl,Nf h⟩)
theorem Hl{sl:Addr}{tk:Tok}{n:Nat}{Q:Int×Int×Nat->Shared->Prop}(hs:s.heap.IsSliceOf sl .none .none (.int (-1) tk))
  (h:Q ((n:Int)-1,-1,n) s):wpAny (model prog w) A (Builtin.Slice.sliceApplied (.ref sl)<|pure (n:Int)) Q E s:=by
 obtain⟨os,hos,hcs,hds⟩:=id hs;unfold Builtin.Slice.sliceApplied Builtin.Slice.sliceFields;refine Nc<|Nc (Np hos hds (x:=.none) rfl<|Nc<|Np hos hds (x:=.none) rfl<|Nc<|Np hos hds (x:=.int (-1) tk) rfl<|Nf ?_);refine Nc<|slicePart_int ?_;show wpAny _ _ (if((-1:Int)==0)=true then _ else _) _ _ s;rw[if_neg<|by decide];refine Nc<|slicePart_none (Nc<|slicePart_none<|Nc<|Nf ?_);show wpAny _ _ (match Builtin.Slice.sliceAdjust none none (-1) (n:Int) with|(lo,hi)=>pure (lo,(-1:Int),Builtin.Slice.slicePlaces lo hi (-1))) _ _ s;have e:Builtin.Slice.sliceAdjust none none (-1) (n:Int)=((n:Int)-1,-1):=by
  unfold Builtin.Slice.sliceAdjust;simp
 rw[e];have e2:Builtin.Slice.slicePlaces ((n:Int)-1) (-1) (-1)=n:=by
  unfold Builtin.Slice.slicePlaces;simp
  try omega
 show wpAny _ _ (pure ((n:Int)-1,(-1:Int),Builtin.Slice.slicePlaces ((n:Int)-1) (-1) (-1))) _ _ s;rw[e2];exact Nf h
theorem pick_rev(xs:Array Value):((List.range xs.size).filterMap λ(m:Nat)=>xs[((xs.size:Int)-1+(m:Int)*(-1)).toNat]?)=xs.toList.reverse:=by
 refine sR λi=>?_;have gen:∀(l:List Nat),(∀m∈l,m<xs.size)->(l.filterMap λ(m:Nat)=>xs[((xs.size:Int)-1+(m:Int)*(-1)).toNat]?)=l.map λm=>xs.toList.getD (xs.size-1-m) .none:=by
  intro l;induction l with
  |nil=>intro _;rfl
  |cons m r ih=>
   intro hm;have h1:m<xs.size:=hm m j8;have h2:((xs.size:Int)-1+(m:Int)*(-1)).toNat=xs.size-1-m:=by omega
   have h3:xs.size-1-m<xs.size:=by omega
   rw[wS,h2,Array.getElem?_eq_getElem h3,cP,ih λk hk=>hm k<|iH _ hk];simp[bF,h3]
 rw[gen _ λm hm=>Yag.mp hm];by_cases hi:i<xs.size;rw[cD,hZ hi,List.getElem?_reverse<|by simpa using hi];simp[bF];rw[Array.getElem?_eq_getElem<|by omega];simp;rw[ff (by simp;omega),ff (by simp;omega)]
theorem getItem_tuple_rev{t sl:Addr}{items:Array Value}{tk:Tok}{Q:Value->Shared->Prop}(ht:IsTup s.heap t items)(hs:s.heap.IsSliceOf sl .none .none (.int (-1) tk))(hsz:items.size<=sizeLine)
  (h:Q (.ref s.heap.objs.size) { s with heap:=s.heap.push { cls:=.type "tuple",data:=.seq items.toList.reverse.toArray } }):wpAny (model prog w) A (getItem (.ref t)<|.ref sl) Q E s:=by
 have htake:sizeOk (.seq items.toList.reverse.toArray):=by
  show items.toList.reverse.toArray.size<=sizeLine;simpa using hsz
 obtain⟨os,hos,hcs,hds⟩:=id hs;have hTs:s.TypeIs (.ref sl) "slice" :=⟨os,hos,hcs⟩
 unfold getItem
 try with_reducible refine NC ?_
 first|refine Nc (Nf ?_)|skip
 refine Nc<|wpAny_sequenceKey ht.typeIs (by decide) ?_;refine Nc (wpAny_callSpecial?_slot (name:=Str.ofString "__getitem__") ht.typeIs PyProof.Rows.slot_tuple_getitem
  (Ny PyProof.Rows.slot_tuple_getitem ht.typeIs entry_tuple_getitem ?_<|args_tuple_getitem _ _))
 show wpAny _ _ (Builtin.Tuple.tupleItemsOf (.ref t) >>= _) _ _ s;refine Nc<|tupleItemsOf_ ht ?_;refine Nc<|wpAny_typeOf hTs ?_;rw[if_pos<|by decide];refine Nc<|Hl hs ?_;show wpAny _ _ (if((((items.size:Int)-1)==0&&(-1:Int)==1&&items.size==items.size)=true) then _ else _) _ _ s;rw[if_neg<|by simp,pick_rev]
 first
  |exact Nc (m:=Builtin.Tuple.tupleExact _)<|Nq (Nf ⟨_,rfl,Nf h⟩) htake
  |exact Nc (m:=Builtin.Tuple.tupleExact _)<|Nq (Nc<|Nf<|Nf ⟨_,rfl,Nf h⟩) htake
  |exact Nc<|Nc (m:=Builtin.Tuple.tupleExact _) (Nq (Nf<|Nf ⟨_,rfl,Nf h⟩) htake)
  |exact Nc<|Nc (m:=Builtin.Tuple.tupleExact _) (Nq (Nf ⟨_,rfl,Nf h⟩) htake)
end
end HT
namespace L2
open PySem PySem.Spec PyProof.Rows
variable{X:Cx}{e tg elt:Expr}{te:TE}{pos p:Pos}{xs vs ys:Array Value}{us bm bmB:List Value}{A:Around}{s:Shared}{P prog:Program}{base h h':Heap}{env:Env}{outer:List Env}{l b fI a f:Addr}{Q:Value->Shared->Prop}{oe:Obj}{w:World}{g:Array GenState}{d:Drawn}{t t' i n1 k:Nat}{os:OsState}{nm q x qual:Str}{N sn ns ps vars:List Str}{hdct κ κ':Bool}{col:Option Bool}{dd:Option Addr}{newId:String}{mN m mg:Str->Option Value}{H H1:Hp}{K:Nd}{scope sc:Scope}{cd:Value}{pins:List (Addr×Obj)}{σ:St}{es f2 ifs:List Expr}{ta:TA}{EX:XK}{fd:FuncData}{tk:Tok}{sel:List Nat}{wi2:TI}
section
variable{p2:Pos}
def uL(K:Nd):V->Option Int->Option Int->Hp->VK->Prop:=λx lo hi H Q=>∃a xs,x=.ref a/\SqT K H a xs/\
 (HT.sIx xs.length 0 lo=0/\HT.sIx xs.length xs.length hi=xs.length)/\Q (.ref a) H
theorem Hm:SlR X (uL X.K):=by
 intro pins s σ H x v vl vu lo hi sl Q I rx hs pl pu h;obtain⟨a,xs,rfl,hx,hw,q⟩:=h;cases rx;obtain⟨its,r,ht,hz⟩:=I.tuple hx;have hlen:its.toArray.size=xs.length:=by rw[eZ];exact r.length.symm
 refine⟨"tuple",_,PyProof.Rows.slot_tuple_getitem.lookup,ht.typeIs,?_⟩;exact HT.getItem_tuple_whole ht hs pl pu (by rw[hlen];exact hw) ⟨.ref a,H,I,rfl,q⟩
def At(r:V->Hp->VK->Prop)(te:TE):TE:=λσ H Q=>te σ H λx H1=>r x H1 Q
def Au(K:Nd):V->Hp->VK->Prop:=λx H Q=>∃a xs,x=.ref a/\((SqT K H a xs/\∀p,H p=none->Q (.ref p) (upd H p<|.tup xs.reverse))\/(SqL K H a xs/\∀p,H p=none->Q (.ref p) (upd H p<|.lst xs.reverse)))
theorem Vals.rev{xs:List V}(r:Vals xs us):Vals xs.reverse us.reverse:=by
 induction xs generalizing us with
 |nil=>cases r;exact .nil
 |cons x xs ih=>cases r with|cons r t=>rw[wZ,wZ];exact(ih t).append<|.cons r .nil
theorem Hn(its:List Value):slicePick its.toArray none none (some (-1))=its.reverse.toArray:=by
 have e:slicePick its.toArray none none (some (-1))=((sliceRange ((its.length:Int)-1) (-1) (-1)).filterMap (its.toArray[·]?)).toArray:=by unfold slicePick sliceBounds;simp
 rw[e];congr 1;have h:=HT.pick_rev its.toArray;rw[eZ]at h;have h':its.toArray.toList.reverse=its.reverse:=by simp
 rw[h']at h;rw[<-h];unfold sliceRange;simp only[show¬((-1:Int)>0) by decide,if_false];have hn:(if(-1:Int)<(its.length:Int)-1 then(its.length:Int) else 0).toNat=its.length:=by split<;>omega
 simp;rw[hn];rfl
theorem Ho{j pos3 pos4}(he:PE X e te):PE X (.Subscript e (.Slice none none (some<|.UnaryOp .USub (.Constant (.int 1) j pos3) pos4) p2) pos) (At (Au X.K) te):=by
 intro pins s σ H Q I h;refine Subscript_<|bW (he pins s σ H _ I h) λv s1 ⟨x,H1,I1,r1,a,xs,ex,q1⟩=>?_;subst ex;cases r1;refine wpAny_Slice ?_;rw[evalPart_none];refine Nf<|Nf ?_;rw[evalPart_some];refine bW (qh (nr (X:=X)) jL pins s1 σ H1 (λx H'=>x=.int (-1)/\H'=H1) I1 ⟨1,rfl,rfl,rfl⟩) λu s3 ⟨y,H3,I3,r3,e3,e4⟩=>?_;subst e3;obtain rfl:=e4.symm;obtain⟨tk,rfl⟩:=r3;have I4:Inv X pins σ H1 { s3 with heap:=s3.heap.push { cls:=.type "slice",data:=.fields #[.none,.none,.int (-1) tk] } }:=I3.kept (t':=s3.toks) λb ob q=>dU _ q;show wpAny (model X.prog X.w) X.A (subscriptTail e (.Slice none none (some<|.UnaryOp .USub (.Constant (.int 1) j pos3) pos4) p2) (.ref a)<|.ref s3.heap.objs.size) (EP X pins σ Q) X.xe { s3 with heap:=s3.heap.push { cls:=.type "slice",data:=.fields #[.none,.none,.int (-1) tk] } };rcases q1 with⟨hx,q1⟩|⟨hx,q1⟩
 obtain⟨its,r,ht,hz⟩:=I4.tuple hx;have hlen:=r.length;refine tail_any (ops:=[.ref a,.ref s3.heap.objs.size]) ht.typeIs PyProof.Rows.slot_tuple_getitem.lookup (HT.getItem_tuple_rev ht (Heap.IsSliceOf.new ..) (by rw[eZ];omega) ?_) (by with_unfolding_all rfl);refine⟨.ref _,_,I4.laid (t':=s3.toks) (o:=.tup xs.reverse) (λb ob q=>dU _ q) (cB _) ?_,rfl,q1 _<|I4.hok.fresh<|cB _⟩;exact⟨by rw[zA];exact hz,_,r.rev,IsTup.new _ _⟩;obtain⟨its,r,ht,hz⟩:=I4.list hx;have hlen:=r.length;refine tail_any (ops:=[.ref a,.ref s3.heap.objs.size]) ht.isList.typeIs slot_list_getitem.lookup (wpAny_getItem_list_slice ht.isList (Heap.IsSliceOf.new ..) .none .none (.int (-1) tk) (by simp) ?_ (by rw[eZ];omega)) (by with_unfolding_all rfl);rw[Hn];refine⟨.ref _,_,I4.laid (t':=s3.toks) (o:=.lst xs.reverse) (λb ob q=>dU _ q) (cB _) ?_,rfl,q1 _<|I4.hok.fresh<|cB _⟩;exact⟨by rw[zA];exact hz,_,0,r.rev,hV _ rfl⟩
end
namespace Fl
def lh(P:Obj->Prop):Prop:=∀(o:Obj) f,P o->P (o.mapFields f)
theorem Hq(o:Obj)(f:Array Value->Array Value):(o.mapFields f).dict=o.dict:=by unfold Obj.mapFields;split<;>rfl
def Is(cls:Value)(dx:Option Addr)(o:Obj):Prop:=o.cls=cls/\o.dict=dx
theorem Is.firm{cls:Value}{dx:Option Addr}:lh (Is cls dx):=λo f h=>⟨(Obj.cls_mapFields o f).trans h.1,(Hq o f).trans h.2⟩
def Tr(P:Obj->Prop)(base:Heap)(e:Addr)(fl:Value)(h:Heap):Prop:=
 ∃(oe:Obj) (vs:Array Value) (T:Addr) (oT:Obj) (ts:Array Value),h.get? e=some oe/\P oe/\oe.data=.fields vs/\vs[1]? = some (.ref T)/\base.get? T=none/\T≠e/\h.get? T=some oT/\oT.data=.fields ts/\ts[3]? = some fl
structure Up(P:Obj->Prop)(base:Heap)(l:List Env)(e:Addr)(fl:Value)(h:Heap):Prop where
 st:base.StaysIn h
 new:base.get? e=none
 fr:h.FunFrames base l
 tr:Tr P base e fl h
section
variable{M:Model}{E:Value->Shared->Prop}{P:Obj->Prop}{l:List Env}{L e:Addr}{fl:Value}{Q:Unit->Shared->Prop}
theorem qq(hP:lh P){head:Value}{b:Bool}(hA:A.frames=some (env::outer))(hl:s.heap.FunFrames base (env::outer))(hf:env.frame=some L)(he:s.heap.get? e=some oe)(hp:P oe)
  (st:base.StaysIn s.heap) (new:base.get? e=none) (hd:oe.data=.fields vs) (hz:1<vs.size) (k:∀h',Up P base (env::outer) e (rawInt L) h'->s.heap.UpToSlots h'->Q () { s with heap:=h' }) :
  wpAny M A (do let a <-frameOf env;let pl <-entryPlaceOf L b;let c <-EntryCells.newEntry head a .none (rawInt L) .none pl;setField (.ref e) 1 c) Q E s:=by
 have out:e∉(env::outer).filterMap (·.frame):=λz=>by
  obtain⟨_,o,ho,nf⟩:=hl.mem z;cases he.symm.trans ho;exact nf vs hd
 refine Nc<|wpAny_frameOf_fun hA hl hf λh1 so=>?_;refine Nc<|wpAny_entryPlaceOf λpl place=>?_;unfold EntryCells.newEntry newFields;refine Nc<|Nq ?_ (place.sizeOk5 _ _ _ _ _);generalize ho:({ cls:=.type "traceback",dict:=none,data:=.fields ([head,.ref L,.none,rawInt L,.none]++(if pl.isEmpty then List.replicate 6 Value.none else pl)).toArray }:Obj)=ob;have e1:h1.get? e=some oe:=(so.2.1 e out).trans he;have ne:h1.objs.size≠e:=wV<|dG e1;have e2:(h1.push ob).get? e=some oe:=dU ob e1;have fr0:ob.isFreed=false:=by rw[<-ho];exact Obj.isFreed_of_fields rfl
 refine NH e2 hd hz<|k _ ?_ ?_
 .have e3:=wX (Obj.mapFields (·.setIfInBounds 1 (Value.ref h1.objs.size))) e2 (Obj.isFreed_of_fields<|Obj.data_mapFields hd _)
  have oth:∀{c o},c≠e->h1.get? c=some o->((h1.push ob).update e (Obj.mapFields (·.setIfInBounds 1 (Value.ref h1.objs.size)))).get? c=some o:=λne hc=>(qL _ _<|Nr ne).trans (dU ob hc);refine⟨λc o hc=>?_,new,hl.of_keeps λc o hc nf=>?_,_,_,h1.objs.size,ob,_,e3,hP _ _ hp,Obj.data_mapFields hd _,by simp[hz],?_,ne,(qL _ _<|Nr ne).trans (hV h1 fr0),by rw[<-ho],?_⟩
  .exact oth (λz=>by rw[z,new]at hc;cases hc)<|(so.2.1 c λz=>by rw[(hl.mem z).1]at hc;cases hc).trans (st c o hc)
  .obtain⟨sl,hs⟩:=so.2.2 c o hc
   exact⟨_,oth (λz=>by rw[z,he]at hc;cases hc;exact nf vs hd) hs,rfl⟩
  .cases q:base.get? h1.objs.size with
   |none=>rfl
   |some o=>
    have:h1.get? h1.objs.size=some o:=(so.2.1 _ λz=>by rw[(hl.mem z).1]at q;cases q).trans (st _ o q);exact Ng (dG this)<|jd _
  .rcases place with rfl|⟨_,_,_,_,_,_,_,rfl⟩<;>simp
 .intro c o hc nf
  obtain⟨sl,hs⟩:=so.2.2 c o hc;exact⟨sl,(qL _ _ (Nr λz=>by rw[z,he]at hc;cases hc;exact nf vs hd)).trans (dU ob hs)⟩
theorem Hr(hP:lh P)(hA:A.frames=some (env::outer))(hl:s.heap.FunFrames base (env::outer))(hf:env.frame=some L)(he:s.heap.get? e=some oe)(hp:P oe)
  (st:base.StaysIn s.heap) (new:base.get? e=none) (hd:oe.data=.fields vs) (h1:vs[1]? = some .none) (k:∀h',Up P base (env::outer) e (rawInt L) h'->s.heap.UpToSlots h'->Q () { s with heap:=h' }) :
  wpAny M A (noteFrame (.ref e) env) Q E s:=by
 unfold noteFrame;simp only[hf];refine Nc<|Np he hd h1 ?_;rw[if_neg<|by decide];exact qq hP hA hl hf he hp st new hd (Ybn.mp h1).1 k
theorem note(hP:lh P)(hA:A.frames=some (env::outer))(hf:env.frame=some L)(u:Up P base (env::outer) e .none s.heap)
  (k:∀h',Up P base (env::outer) e (rawInt L) h'->s.heap.UpToSlots h'->Q () { s with heap:=h' }):wpAny M A (noteFrame (.ref e) env) Q E s:=by
 obtain⟨st,new,fr,oe,vs,T,oT,ts,he,hp,hd,h1,nT,Te,hT,dT,h3⟩:=u;unfold noteFrame;simp only[hf];refine Nc<|Np he hd h1 ?_;rw[if_pos (show(Value.ref T != Value.none)=true from by simp)];refine Nc<|Np hT dT h3 ?_;rw[if_neg<|by simp[rawInt]];refine Nc<|NH hT dT (Ybn.mp h3).1 ?_;have oth:∀{c o},c≠T->s.heap.get? c=some o->(s.heap.update T (Obj.mapFields (·.setIfInBounds 3 Value.none))).get? c=some o:=λne hc=>(qL _ _<|Nr ne).trans hc;have notT:∀{c o},s.heap.get? c=some o->(∀vs,o.data≠.fields vs)->c≠T:=λhc nf z=>by
  rw[z,hT]at hc;cases hc;exact nf ts dT
 refine qq hP hA (fr.of_keeps λc o hc nf=>⟨o,oth (notT hc nf) hc,rfl⟩) hf (oth (Nr Te) he) hp (λc o hc=>oth (λz=>by rw[z,nT]at hc;cases hc)<|st c o hc) new hd (Ybn.mp h1).1 λh' u' up=>k h' u' λc o hc nf=>up c o (oth (notT hc nf) hc) nf
theorem lands(u:Up P base l e fl s.heap)(k:∀h',Up P base l e .none h'->s.heap.UpToSlots h'->Q () { s with heap:=h' }):wpAny M A (setFlight (.ref e) none) Q E s:=by
 obtain⟨st,new,fr,oe,vs,T,oT,ts,he,hp,hd,h1,nT,Te,hT,dT,h3⟩:=u;have oth:∀{c o},c≠T->s.heap.get? c=some o->(s.heap.update T (Obj.mapFields (·.setIfInBounds 3 ((none:Option Addr).elim Value.none λf=>rawInt f)))).get? c=some o:=λne hc=>(qL _ _<|Nr ne).trans hc;have notT:∀{c o},s.heap.get? c=some o->(∀vs,o.data≠.fields vs)->c≠T:=λhc nf z=>by rw[z,hT]at hc;cases hc;exact nf ts dT
 have z3:=(Ybn.mp h3).1;unfold setFlight;refine Nc<|Np he hd h1 ?_;rw[if_pos (show(Value.ref T != Value.none)=true from by simp)];refine NH hT dT z3<|k _ ⟨λc o hc=>oth (λz=>by rw[z,nT]at hc;cases hc)<|st c o hc,new,fr.of_keeps λc o hc nf=>⟨o,oth (notT hc nf) hc,rfl⟩,oe,vs,T,_,_,oth (Nr Te) he,hp,hd,h1,nT,Te,wX _ hT<|Obj.isFreed_of_fields<|Obj.data_mapFields dT _,Obj.data_mapFields dT _,by simp[z3]⟩ λc o hc nf=>⟨o.slots,oth (notT hc nf) hc⟩
theorem Up.there(u:Up P base l e fl h):∃ob,h.get? e=some ob/\P ob/\∃vs,ob.data=.fields vs:=by obtain⟨oe,vs,_,_,_,he,hp,hd,_⟩:=u.tr;exact⟨oe,he,hp,vs,hd⟩
theorem leaves(hP:lh P)(hA:A.frames=some (env::outer))(hf:env.frame=some L)(u:Up P base (env::outer) e .none s.heap)(k:∀h',Up P base outer e .none h'->s.heap.UpToSlots h'->Q () { s with heap:=h' }) :
  wpAny M A (leaving env<|.ref e) Q E s:=by
 unfold leaving;exact Nc<|note hP hA hf u λh1 u1 up1=>lands (s:={ s with heap:=h1 }) u1 λh2 u2 up2=>k h2 ⟨u2.st,u2.new,u2.fr.2.2,u2.tr⟩ (up1.trans up2)
theorem leaves_new(hP:lh P)(hA:A.frames=some (env::outer))(hl:s.heap.FunFrames base (env::outer))(hf:env.frame=some L)(he:s.heap.get? e=some oe)(hp:P oe)
  (st:base.StaysIn s.heap) (new:base.get? e=none) (hd:oe.data=.fields vs) (h1:vs[1]? = some .none) (k:∀h',Up P base outer e .none h'->s.heap.UpToSlots h'->Q () { s with heap:=h' }):wpAny M A (leaving env<|.ref e) Q E s:=by
 unfold leaving;exact Nc<|Hr hP hA hl hf he hp st new hd h1 λh1 u1 up1=>lands (s:={ s with heap:=h1 }) u1 λh2 u2 up2=>k h2 ⟨u2.st,u2.new,u2.fr.2.2,u2.tr⟩ (up1.trans up2)
end
end Fl
def fP(P:Program)(w:World):nI:=λouter H s E e s'=>∃(ea:Addr) (cls:Value) (dx:Option Addr) (H':Hp) (B:Heap),e=.ref ea/\Fl.Up (Fl.Is cls dx) B outer ea .none s'.heap/\s'.os=s.os/\AllBare s'.gens/\Un (dC outer) [] H H' s.heap s'.heap/\HOk P w H' s'.heap/\
 (∀b o,s.heap.get? b=some o->b∉dC outer->∃o',B.get? b=some o')/\(∀b u,H' b=some u->∃o,B.get? b=some o)/\E cls dx H'
theorem cR:dw (fP P w) X E0:=λ_ _ _ _ _ _ _ ⟨_,_,_,_,_,_,_,_,_,_,_,_,_,z⟩=>z.elim
theorem HOk.through{B h2:Heap}(hok:HOk P w H h)(hT:∀ b u,H b=some u->∃ o,B.get? b=some o)(s1:B.StaysIn h)(s2:B.StaysIn h2):HOk P w H h2:=λa o e=>(hok a o e).stay (λb u hb q=>by
  have hb':∃v,H b=some v:=by
   rcases hb with rfl|hb
   .exact⟨_,e⟩
   .exact⟨_,hb⟩
  obtain⟨v,hv⟩:=hb';obtain⟨o',eB⟩:=hT b v hv;have:=s1 b o' eB;rw[q]at this;cases this;exact s2 b _ eB) (λ_ z=>z) λ_ _ z=>z
section
variable{E:XK}
theorem xB{l:List Env}(h:b∈dC l):b∈dC (env::l):=by unfold dC at h ⊢;obtain⟨e,h1,h2⟩:=Yay.mp h;exact Yay.mpr ⟨e,iH _ h1,h2⟩
theorem Hs:dw (fP P w) (eD (fP P w) P w K mg base N qual scope f cd A outer s H E) E:=by
 rintro pins σ H1 s1 _ s' I ⟨ea,cls,dx,H',B,rfl,fl,hos,hbare,un,hok,hB,hT,hE⟩;have nostk:∀b o,s.heap.get? b=some o->b∉dC outer->b∉dC (envOfC qual scope s.heap.objs.size f cd::outer):=λb o e hb hm=>by
  rcases Yam.mp (I.stkSub b hm) with z|z
  have l1:=dG e;have l2:s.heap.objs.size<=(envOfC qual scope s.heap.objs.size f cd).locals:=I.ok.above;have z':b=(envOfC qual scope s.heap.objs.size f cd).locals:=z;rw[<-z']at l2;exact Ng (dm l1 l2)<|jd _
  exact hb z
 have ib:Un (dC outer) [] H H1 s.heap s1.heap:=I.base;show wpAny (model P w) (A.deeper<|envOfC qual scope s.heap.objs.size f cd) (leaving (envOfC qual scope s.heap.objs.size f cd)<|.ref ea) (λ_ s''=>fP P w outer H s E (.ref ea) s'') _ s';refine Fl.leaves Fl.Is.firm I.ok.frames rfl fl λh2 fl2 up=>?_;have frm:∀b,b∈dC (envOfC qual scope s.heap.objs.size f cd::outer)->∃o,s'.heap.get? b=some o/\∀vs,o.data≠.fields vs:=λb hb=>(fl.fr.mem hb).2;refine⟨ea,cls,dx,H',B,rfl,fl2,hos.trans I.os,hbare,⟨λb o e n hb _=>?_,λb o e n hb _=>?_,λb o e n _=>?_,λb o e _=>?_,λb xs e=>un.tups b xs<|ib.tups b xs e,λb o xs e=>un.frzs b o xs<|ib.frzs b o xs e,λb ps e=>?_,λ_ ⟨o,e⟩ n=>un.sys (by simp) (ib.there _ o e<|by simp)<|ib.sys (by simp) ⟨o,e⟩ n⟩,hok.through hT fl.st fl2.st,λb o e hb=>?_,hT,hE⟩;have e1:=ib.keep b o e n hb (by simp);have n1:=ib.free b o e n (by simp);have e2:=un.keep b o e1 n1 (nostk b o e hb) (by simp);obtain⟨o',eB⟩:=hB b o e1<|nostk b o e hb;have:=fl.st b o' eB;rw[e2]at this;cases this;exact fl2.st b _ eB
 obtain⟨sl,e1⟩:=ib.slot b o e n hb (by simp);have n1:=ib.free b o e n (by simp);obtain⟨sl',e2⟩:=un.slot b _ e1 n1 (xB hb) (by simp);obtain⟨o3,e3,nf⟩:=frm b<|xB hb;rw[e2]at e3;cases e3;obtain⟨sl3,e4⟩:=up b _ e2 nf;exact⟨sl3,e4⟩
 obtain⟨o',e1⟩:=ib.there b o e (by simp);exact un.free b o' e1 (ib.free b o e n<|by simp) (by simp);obtain⟨o',e1⟩:=ib.there b o e (by simp);by_cases hb:b∈dC (envOfC qual scope s.heap.objs.size f cd::outer);obtain⟨o3,e3,nf⟩:=frm b hb;obtain⟨sl3,e4⟩:=up b _ e3 nf;exact⟨_,e4⟩;obtain⟨o2,eB⟩:=hB b o' e1 hb;exact⟨o2,fl2.st b _ eB⟩;obtain⟨m1,e1⟩:=ib.tbls b ps e;obtain⟨m2,e2⟩:=un.tbls b _ e1;exact⟨m1++m2,by rw[e2,zp]⟩;obtain⟨o',e1⟩:=ib.there b o e (by simp);exact hB b o' e1<|nostk b o e hb
def li(X:Cx)(E:XK):Prop:=∀(pins:List (Addr×Obj)) (σ:St) (H:Hp) (s:Shared) (h':Heap) (e:Addr) (cls:Value) (args:List Value),Inv X pins σ H s->Heap.MadeExcOf s.heap h' e cls args->E cls none H->X.xe (.ref e) { s with heap:=h' }
theorem Ht:li (eD (fP P w) P w K mg base N qual scope f cd A outer s H E) E:=by
 intro pins σ H1 s1 h2 e cls args I hx hE;have ib:Un (dC outer) [] H H1 s.heap s1.heap:=I.base;have neL:∀b o,s.heap.get? b=some o->b∉dC outer->b∉dC (envOfC qual scope s.heap.objs.size f cd::outer):=λb o e hb hm=>by
  rcases Yam.mp (I.stkSub b hm) with z|z
  have l1:=dG e;have l2:s.heap.objs.size<=(envOfC qual scope s.heap.objs.size f cd).locals:=I.ok.above;have z':b=(envOfC qual scope s.heap.objs.size f cd).locals:=z;rw[<-z']at l2;exact Ng (dm l1 l2)<|jd _
  exact hb z
 have stk:s1.heap.FunFrames base (envOfC qual scope s.heap.objs.size f cd::outer):=I.stack;have frm:∀b,b∈dC (envOfC qual scope s.heap.objs.size f cd::outer)->∃o,s1.heap.get? b=some o/\∀vs,o.data≠.fields vs:=λb hb=>(stk.mem hb).2;have inB:∀{b o},s1.heap.get? b=some o->b∉dC (envOfC qual scope s.heap.objs.size f cd::outer)->(PySem.W.hideAll s1.heap<|dC (envOfC qual scope s.heap.objs.size f cd::outer)).get? b=some o:=λe hb=>PySem.W.hideAll_get _ e hb;have hT:∀b u,H1 b=some u->∃o,(PySem.W.hideAll s1.heap<|dC (envOfC qual scope s.heap.objs.size f cd::outer)).get? b=some o:=λb u hu=>by
  have hb:b∉dC (envOfC qual scope s.heap.objs.size f cd::outer):=λhm=>by have:=I.stkFree b hm;rw[hu]at this;cases this
  have l:=I.hok.lt hu;have:∃o,s1.heap.get? b=some o:=by
   have q:=I.hok b u hu;cases u with
   |lst xs=>obtain⟨_,_,_,_,e⟩:=q;exact⟨_,e⟩
   |tup xs=>obtain⟨_,_,_,o,e,_⟩:=q;exact⟨_,e⟩
   |dK kvs=>obtain⟨_,_,_,_,o,_,_,e,_⟩:=q;exact⟨_,e⟩
   |dT kvs=>obtain⟨_,_,_,_,o,_,_,e,_⟩:=q;exact⟨_,e⟩
   |set S n=>obtain⟨o,_,_,_,e,_⟩:=q;exact⟨_,e⟩
   |ins C dx fs=>obtain⟨_,_,_,e,_⟩:=q;exact⟨_,e⟩
   |own y=>obtain⟨o,e⟩:=q;exact⟨_,e⟩
   |xd fs=>obtain⟨_,⟨o,_,_,e,_⟩,_⟩:=q;exact⟨_,e⟩
   |rng lo hi=>obtain⟨_,_,_,e⟩:=q;exact⟨_,e⟩
   |frz ob u=>obtain⟨e,_⟩:=q;exact⟨_,e⟩
   |tbl ps=>exact⟨_,(show s1.heap.get? b=some _ from q)⟩|met f y=>exact⟨_,(show s1.heap.get? b=some _ from q)⟩|ext φ=>obtain⟨_,⟨o,e⟩,_⟩:=q;exact⟨_,e⟩
  obtain⟨o,e⟩:=this;exact⟨o,inB e hb⟩
 show wpAny (model P w) (A.deeper<|envOfC qual scope s.heap.objs.size f cd) (leaving (envOfC qual scope s.heap.objs.size f cd)<|.ref e) (λ_ s''=>fP P w outer H s E (.ref e) s'') _ _;obtain⟨tt,he,_,_⟩:=hx.there;have newB:(PySem.W.hideAll s1.heap<|dC (envOfC qual scope s.heap.objs.size f cd::outer)).get? e=none:=by
  cases q:(PySem.W.hideAll s1.heap<|dC (envOfC qual scope s.heap.objs.size f cd::outer)).get? e with
  |none=>rfl|some o=>have:=PySem.W.of_hideAll _ q;rw[hx.new]at this;cases this
 refine Fl.leaves_new (P:=Fl.Is cls none) (base:=PySem.W.hideAll s1.heap<|dC (envOfC qual scope s.heap.objs.size f cd::outer)) Fl.Is.firm I.ok.frames ((PySem.W.funFrames_hide stk λenv he b hb=>Yay.mpr ⟨env,he,hb⟩).of_keeps λb o hb _=>⟨o,hx.keeps b o hb,rfl⟩) rfl he ⟨rfl,rfl⟩
  (λb o q=>hx.keeps b o<|PySem.W.of_hideAll _ q) newB rfl rfl λh3 fl up=>?_
 have st1:(PySem.W.hideAll s1.heap<|dC (envOfC qual scope s.heap.objs.size f cd::outer)).StaysIn s1.heap:=λb o q=>PySem.W.of_hideAll _ q;refine⟨e,cls,none,H1,_,rfl,fl,I.os,I.bare,⟨λb o e n hb _=>?_,λb o e n hb _=>?_,λb o e n _=>ib.free b o e n<|by simp,λb o e _=>?_,λb xs e=>ib.tups b xs e,λb o xs e=>ib.frzs b o xs e,λb ps e=>ib.tbls b ps e,λ_ eg n=>ib.sys (by simp) eg n⟩,I.hok.through hT st1 fl.st,λb o e hb=>?_,hT,hE⟩;exact fl.st b o<|inB (ib.keep b o e n hb<|by simp) (neL b o e hb)
 obtain⟨sl,e1⟩:=ib.slot b o e n hb (by simp);obtain⟨o3,e3,nf⟩:=frm b<|xB hb;rw[e1]at e3;cases e3;obtain⟨sl3,e4⟩:=up b _ (hx.keeps b _ e1) nf;exact⟨sl3,e4⟩
 obtain⟨o',e1⟩:=ib.there b o e (by simp);by_cases hb:b∈dC (envOfC qual scope s.heap.objs.size f cd::outer);obtain⟨o3,e3,nf⟩:=frm b hb;obtain⟨sl3,e4⟩:=up b _ (hx.keeps b _ e3) nf;exact⟨_,e4⟩;exact⟨o',fl.st b o'<|inB e1 hb⟩;obtain⟨o',e1⟩:=ib.there b o e (by simp);exact⟨o',inB e1<|neL b o e hb⟩
end
section
def Av(K:Nd)(tl:TE):TI:=λσ H R=>tl σ H λx H1=>∃a,x=.ref a/\(((∃xs,SqL K H1 a xs)/\R (CP K a) H1)\/((∃xs,SqT K H1 a xs)/\R (Ad K a) H1))
theorem Hu{l:Expr}{tl:TE}(hl:PE X l tl):PI X tg l (Av X.K tl):=by
 intro pins s σ H R I h;refine bW (hl pins s σ H _ I h) λv s1 ⟨x,H1,I1,r1,q1⟩=>?_;obtain⟨a,e,⟨⟨xs,hq⟩,q⟩|⟨⟨xs,hq⟩,q⟩⟩:=q1;subst e;cases r1;obtain⟨its,rv,p,hz⟩:=I1.list hq;refine wpAny_pyIter_list p.isList ?_;refine⟨s1.heap.objs.size,[s1.heap.objs.size],_,_,H1,rfl,I1.kept (t':=s1.toks) λb o e=>dU _ e,kR a _,⟨_,hV _ rfl,rfl,rfl⟩,λb hb=>?_,q⟩;have e:b=s1.heap.objs.size:=by simpa using hb
 subst e;exact I1.fpOk (cB _)<|I1.hok.fresh (cB _)
 subst e;cases r1;obtain⟨its,rv,p,hz⟩:=I1.tuple hq;refine wpAny_pyIter_tuple (show s1.heap.IsTuple a its.toArray from p) ?_;refine⟨s1.heap.objs.size,[s1.heap.objs.size],_,_,H1,rfl,I1.kept (t':=s1.toks) λb o e=>dU _ e,jM a _,⟨_,hV _ rfl,rfl,rfl⟩,λb hb=>?_,q⟩;have e:b=s1.heap.objs.size:=by simpa using hb
 subst e;exact I1.fpOk (cB _)<|I1.hok.fresh (cB _)
end
theorem Inv.turnedL(ts:List Addr)(I:Inv X pins σ H s)(k:∀b o,b∉ts->s.heap.get? b=some o->h'.get? b=some o)
  (hf:∀b∈ts,fA X pins H b):Inv X pins σ H { s with heap:=h',toks:=t' }:=by
 refine I.step (g':=s.gens) (d':=s.drawn) (ch:=ts) (λb hb=>?_) (λb o _ _ hc e _=>k b o hc e) (λb o _ _ hc e _=>⟨o.slots,k b o hc e⟩) (λ_ _ _ _ n=>n)
  (λb o hc e=>⟨o,k b o hc e⟩) (λ_ _ e=>e) (λ_ _ _ e=>e) (λb ps e=>⟨#[],by rw[e];simp⟩) (λm hm=>?_) (λb u e=>?_) I.bare (λn=>n)
 .obtain⟨_,f1,_,f3,f4,f5⟩:=hf b hb
  exact⟨f3,f1,f4,f5⟩
 .obtain⟨o,es,ep,ho,r⟩:=hm
  exact⟨o,es,ep,k _ o (λz=>(hf _ z).2.1 rfl) ho,r⟩
 .have nt:∀c v,H c=some v->c∉ts:=λc v q z=>by rw[(hf c z).1]at q;cases q
  refine(I.hok b u e).stay (λc v hc q=>k c v ?_ q) (λ_ q=>q) λ_ _ q=>q;rcases hc with z|z
  .rw[z];exact nt b u e
  .exact nt c _ z
def SIt(κ:Bool)(h:Heap)(it l:Addr)(i:Nat):Prop:=match κ with|true=>h.IsTupleIter it l i|false=>h.IsListIter it l i
def SSq(κ:Bool)(h:Heap)(l:Addr)(xs:Array Value):Prop:=match κ with|true=>h.IsTuple l xs|false=>h.IsList l xs
section
variable{it:Addr}
theorem SIt.keep(x:SIt κ h it l i)(k:∀o,h.get? it=some o->h'.get? it=some o):SIt κ h' it l i:=by cases κ;exact Heap.IsListIter.at x k;exact Heap.IsTupleIter.at x k
theorem SIt.obj(x:SIt κ h it l i):∃o,h.get? it=some o/\(∀v,o.data≠.cell v):=by
 cases κ;all_goals
  obtain⟨o,e,_,d⟩:=x;exact⟨o,e,λv z=>by rw[d]at z;cases z⟩
theorem SSq.keep(x:SSq κ h l xs)(k:∀o,h.get? l=some o->h'.get? l=some o):SSq κ h' l xs:=by
 cases κ;all_goals
  obtain⟨o,e,r⟩:=x;exact⟨o,k o e,r⟩
end
section
variable{E:Value->Shared->Prop}{it:Addr}{x:Value}
theorem xC(hi:SIt κ s.heap it l i)(hl:SSq κ s.heap l xs)(hx:xs[i]? = some x)(q:∀h',SIt κ h' it l (i+1)->Heap.SameBut it s.heap h'->Q x { s with heap:=h' }) :
  wpAny (model prog w) A (Builtin.SmallTypes.nextOf<|.ref it) Q E s:=by
 cases κ with
 |false=>exact wpAny_nextOf_list_item hi hl hx q
 |true=>
  have ht:s.heap.IsTupleIter it l i:=hi;obtain⟨ob,hob,hcl,hda⟩:=id ht;obtain⟨sq,hsq,_,nn,hds⟩:=(show s.heap.IsTuple l xs from hl)
  unfold Builtin.SmallTypes.nextOf;refine Nc<|wpAny_callSpecial?_slot (name:=Str.ofString "__next__") ht.typeIs F.slot_tuple_iterator_next (Ny F.slot_tuple_iterator_next ht.typeIs F.entry_tuple_iterator_next ?_<|F.args_tuple_iterator_next_1 _);show wpAny _ _ (field (.ref it) 0 >>= _) _ E s;refine Nc<|Np hob hda (x:=.ref l) rfl ?_;show wpAny _ _ (if(Value.ref l==Value.none)=true then _ else _) _ E s;rw[if_neg (show¬((Value.ref l==Value.none)=true) by exact je)];show wpAny _ _ (field (.ref it) 1 >>= _) _ E s;refine Nc<|Np hob hda (x:=.int i 0) rfl ?_;show wpAny _ _ (seqItems? (.ref l) >>= _) _ E s;refine Nc<|Nz hsq hds ?_;simp only[iq,hx];refine Nc<|NH hob hda (by simp) (Nf ⟨x,rfl,Nf<|q _ ?_<|Heap.SameBut.update ..⟩);exact⟨_,wX _ hob<|Obj.isFreed_of_fields<|Obj.data_mapFields hda _,(Obj.cls_mapFields ..).trans hcl,by rw[Obj.data_mapFields hda];simp[rawInt]⟩
theorem xD(hh:A.handled=none)(hi:SIt κ s.heap it l i)(hl:SSq κ s.heap l xs)(hx:xs[i]? = none)
  (q:∀h' e,Heap.ExtBut it s.heap h'->(∃o,h'.get? e=some o/\o.cls=.type "StopIteration")->E (.ref e) { s with heap:=h' }) :
  wpAny (model prog w) A (Builtin.SmallTypes.nextOf<|.ref it) Q E s:=by
 cases κ with
 |false=>exact wpAny_nextOf_list_end hh hi hl hx q
 |true=>
  have ht:s.heap.IsTupleIter it l i:=hi;obtain⟨ob,hob,hcl,hda⟩:=id ht;obtain⟨sq,hsq,_,nn,hds⟩:=(show s.heap.IsTuple l xs from hl)
  unfold Builtin.SmallTypes.nextOf;refine Nc<|wpAny_callSpecial?_slot (name:=Str.ofString "__next__") ht.typeIs F.slot_tuple_iterator_next (Ny F.slot_tuple_iterator_next ht.typeIs F.entry_tuple_iterator_next ?_<|F.args_tuple_iterator_next_1 _);show wpAny _ _ (field (.ref it) 0 >>= _) _ E s;refine Nc<|Np hob hda (x:=.ref l) rfl ?_;show wpAny _ _ (if(Value.ref l==Value.none)=true then _ else _) _ E s;rw[if_neg (show¬((Value.ref l==Value.none)=true) by exact je)];show wpAny _ _ (field (.ref it) 1 >>= _) _ E s;refine Nc<|Np hob hda (x:=.int i 0) rfl ?_;show wpAny _ _ (seqItems? (.ref l) >>= _) _ E s;refine Nc<|Nz hsq hds ?_;simp only[iq,hx];refine Nc<|NG (Nc<|NH hob hda (by simp) ?_);show wpAny _ _ (newExc (.type "StopIteration") [] >>= _) _ E _;refine Nc ?_;simp only[newExc,newTuple];refine Nc<|Nq ?_ (by size_fits);refine Nc (m:=firstArgMember _ _)<|wpAny_of_eq (a:=Value.none) (by first|rfl|(rw[firstArgMember];rfl)) (Nq ?_<|by size_fits);simp only[raiseNew];refine Nc<|wpAny_handled ?_;rw[show A.in1.handled=none from hh];exact Nc<|Nf (wpAny_throw<|q _ _ (((Heap.SameBut.update ..).extBut.push _).push _) ⟨_,hV _ rfl,rfl⟩)
end
structure uM(z TI TO j1 j2:Addr):Prop where
 a:TI≠z
 b:TO≠z
 c:j1≠z
 d:j2≠z
 e:TI≠TO
 f:TI≠j1
 g:TI≠j2
 h:TO≠j1
 i:TO≠j2
 j:j1≠j2
def sZ(z TI TO j1 j2 l:Addr):Prop:=l≠z/\l≠TI/\l≠TO/\l≠j1/\l≠j2
section
variable{E:Value->Shared->Prop}{z TI TO j1 j2 l1 l2:Addr}{x y a b:Value}
theorem Hv(D:uM z TI TO j1 j2)(d1:sZ z TI TO j1 j2 l1)(d2:sZ z TI TO j1 j2 l2)
  (zz:IsZip s.heap z TI TO .none) (zi:IsPair s.heap TI (.ref j1) (.ref j2)) (zo:IsPair s.heap TO a b) (u1:SIt κ s.heap j1 l1 i) (u2:SIt κ' s.heap j2 l2 i) (v1:SSq κ s.heap l1 xs) (v2:SSq κ' s.heap l2 ys) (ex:xs[i]? = some x) (ey:ys[i]? = some y)
  (q:∀ h',IsZip h' z TI TO (rawInt s.heap.objs.size)->IsPair h' TO x y->SIt κ h' j1 l1 (i+1)->SIt κ' h' j2 l2 (i+1)->IsPair h' s.heap.objs.size x y->h'.objs.size=s.heap.objs.size+1->
   (∀c o,c≠z->c≠TO->c≠j1->c≠j2->s.heap.get? c=some o->h'.get? c=some o)->Q (.ref s.heap.objs.size) { s with heap:=h' }) :
  wpAny (model prog w) A (Builtin.«zip.__next__» ⟨[.ref z],[]⟩) (λfin s'=>∃v,fin=.done (.ret v)/\Q v s') E s:=by
 obtain⟨o1z,_,o1O,o11,o12⟩:=d1;obtain⟨o2z,_,o2O,o21,o22⟩:=d2;show wpAny _ _ (field (.ref z) 2 >>= _) _ E _;refine Nc<|Np zz rfl (x:=.bool false) rfl ?_;show wpAny _ _ (field (.ref z) 3 >>= _) _ E _;refine Nc<|Np zz rfl (x:=.ref TI) rfl (Nc<|Nz zi rfl ?_);show wpAny _ _ (Builtin.SmallTypes.ownedTupleIsFree (.ref z) >>= _) _ E _;refine Nc ?_;unfold Builtin.SmallTypes.ownedTupleIsFree;refine Nc<|Np zz rfl (x:=.none) rfl (Nf ?_);simp only[if_true];refine Nc<|NG (Nc<|Np zz rfl (x:=.ref TO) rfl<|Nc<|NA zz (by simp) λg1 zz1 k1=>?_);replace zz1:IsZip g1 z TI TO .ellipsis:=zz1;refine Nc ?_;simp only[List.zipIdx_cons,List.zipIdx_nil,zw,List.forIn_nil];refine Nc<|Nc (NO ?_);show wpAny _ _ (Builtin.SmallTypes.nextOf (.ref j1) >>= _) _ _ _;refine Nc<|xC (u1.keep λo e=>k1.extBut _ o D.c e) (v1.keep λo e=>k1.extBut _ o o1z e) ex λg2 u1' k2=>Nf ?_;have zo2:IsPair g2 TO a b:=k2.extBut _ _ D.h<|k1.extBut _ _ D.b zo;refine Nc<|Nz zo2 rfl (Nc<|NM zo2 λg3 zo3 k3=>?_);replace zo3:IsPair g3 TO x b:=zo3;refine Nc<|wpAny_letGo (Nf ?_);refine Nc<|Nc (NO ?_);show wpAny _ _ (Builtin.SmallTypes.nextOf (.ref j2) >>= _) _ _ _;refine Nc<|xC (u2.keep λo e=>k3.extBut _ o D.i.symm<|k2.extBut _ o D.j.symm<|k1.extBut _ o D.d e) (v2.keep λo e=>k3.extBut _ o o2O<|k2.extBut _ o o21<|k1.extBut _ o o2z e) ey λg4 u2' k4=>Nf ?_;have zo4:IsPair g4 TO x b:=k4.extBut _ _ D.i zo3;refine Nc<|Nz zo4 rfl (Nc<|NM zo4 λg5 zo5 k5=>?_);replace zo5:IsPair g5 TO x y:=zo5;refine Nc<|wpAny_letGo (Nf<|Nf<|Nc<|Nz zo5 rfl<|Nc<|wpAny_newTuple ?_);have sz:g5.objs.size=s.heap.objs.size:=by rw[k5.1,k4.1,k3.1,k2.1,k1.1]
 have zz5:IsZip g5 z TI TO .ellipsis:=k5.extBut _ _ D.b.symm<|k4.extBut _ _ D.d.symm (k3.extBut _ _ D.b.symm<|k2.extBut _ _ D.c.symm zz1);have kk:∀c o,c≠z->c≠TO->c≠j1->c≠j2->s.heap.get? c=some o->g5.get? c=some o:=λc o c1 c2 c3 c4 e=>k5.extBut _ _ c2<|k4.extBut _ _ c4 (k3.extBut _ _ c2<|k2.extBut _ _ c3<|k1.extBut _ _ c1 e);have r1:SIt κ g5 j1 l1 (i+1):=u1'.keep λo e=>k5.extBut _ o D.h.symm<|k4.extBut _ o D.j (k3.extBut _ o D.h.symm e);have r2:SIt κ' g5 j2 l2 (i+1):=u2'.keep λo e=>k5.extBut _ o D.i.symm e;have zlt:z<g5.objs.size:=dG zz5;show wpAny _ _ (Builtin.SmallTypes.ownedTupleHandOut (.ref z) (.ref g5.objs.size) >>= _) _ E _;refine Nc ?_;unfold Builtin.SmallTypes.ownedTupleHandOut;have zz6:IsZip (g5.push { cls:=.type "tuple",data:=.seq #[x,y] }) z TI TO .ellipsis:=dU _ zz5;refine Nc<|NA zz6 (by simp) λg7 zz7 k7=>?_;replace zz7:IsZip g7 z TI TO (rawInt g5.objs.size):=zz7;refine NA zz7 (by simp) λg8 zz8 k8=>?_;replace zz8:IsZip g8 z TI TO (rawInt g5.objs.size):=zz8;have up:∀c o,c≠z->g5.get? c=some o->g8.get? c=some o:=λc o c1 e=>k8.extBut _ _ c1<|k7.extBut _ _ c1 (dU _ e);have tt8:IsPair g8 g5.objs.size x y:=k8.extBut _ _ (wV zlt)<|k7.extBut _ _ (wV zlt) (hV _ rfl);have sz8:g8.objs.size=g5.objs.size+1:=by rw[k8.1,k7.1,oQ]
 rw[sz]at zz8 tt8 sz8;refine Nf ⟨_,rfl,?_⟩;show Q (.ref g5.objs.size) _;rw[sz];exact q g8 zz8 (up _ _ D.b zo5) (r1.keep λo e=>up _ o D.c e) (r2.keep λo e=>up _ o D.d e) tt8 sz8 λc o c1 c2 c3 c4 e=>up c o c1<|kk c o c1 c2 c3 c4 e
theorem Hw{Q:Fin->Shared->Prop}(hh:A.handled=none)(D:uM z TI TO j1 j2)(d1:sZ z TI TO j1 j2 l1)(d2:sZ z TI TO j1 j2 l2)
  (zz:IsZip s.heap z TI TO .none) (zi:IsPair s.heap TI (.ref j1) (.ref j2)) (zo:IsPair s.heap TO a b) (u1:SIt κ s.heap j1 l1 i) (u2:SIt κ' s.heap j2 l2 i) (v1:SSq κ s.heap l1 xs) (v2:SSq κ' s.heap l2 ys) (en:xs[i]? = none\/ys[i]? = none)
  (q:∀h' e,(∀c o,c≠z->c≠TO->c≠j1->c≠j2->s.heap.get? c=some o->h'.get? c=some o)->(∃o,h'.get? e=some o/\o.cls=.type "StopIteration")->E (.ref e) { s with heap:=h' }) :
  wpAny (model prog w) A (Builtin.«zip.__next__» ⟨[.ref z],[]⟩) Q E s:=by
 obtain⟨o1z,_,o1O,o11,o12⟩:=d1;obtain⟨o2z,_,o2O,o21,o22⟩:=d2;show wpAny _ _ (field (.ref z) 2 >>= _) _ E _;refine Nc<|Np zz rfl (x:=.bool false) rfl ?_;show wpAny _ _ (field (.ref z) 3 >>= _) _ E _;refine Nc<|Np zz rfl (x:=.ref TI) rfl (Nc<|Nz zi rfl ?_);show wpAny _ _ (Builtin.SmallTypes.ownedTupleIsFree (.ref z) >>= _) _ E _;refine Nc ?_;unfold Builtin.SmallTypes.ownedTupleIsFree;refine Nc<|Np zz rfl (x:=.none) rfl (Nf ?_);simp only[if_true];refine Nc<|NG (Nc<|Np zz rfl (x:=.ref TO) rfl<|Nc<|NA zz (by simp) λg1 zz1 k1=>?_);replace zz1:IsZip g1 z TI TO .ellipsis:=zz1;refine Nc ?_;simp only[List.zipIdx_cons,List.zipIdx_nil,zw,List.forIn_nil];refine Nc<|Nc (NO ?_);show wpAny _ _ (Builtin.SmallTypes.nextOf (.ref j1) >>= _) _ _ _;cases ex:xs[i]? with
 |none=>
  refine Nc<|xD hh (u1.keep λo e=>k1.extBut _ o D.c e) (v1.keep λo e=>k1.extBut _ o o1z e) ex λg2 e k2 ⟨oe,e1,e2⟩=>?_;have zz2:IsZip g2 z TI TO .ellipsis:=k2 _ _ D.c.symm zz1;have ne:e≠z:=λr=>by subst r;rw[zz2]at e1;cases e1;simp at e2
  exact NA zz2 (by simp) λg3 _ k3=>q g3 e (λc o c1 _ c3 _ r=>k3.extBut _ _ c1<|k2 _ _ c3<|k1.extBut _ _ c1 r) ⟨oe,k3.extBut _ _ ne e1,e2⟩
 |some x=>
  have ey:ys[i]? = none:=en.elim (λh=>by rw[ex]at h;cases h) id;refine Nc<|xC (u1.keep λo e=>k1.extBut _ o D.c e) (v1.keep λo e=>k1.extBut _ o o1z e) ex λg2 u1' k2=>Nf ?_;have zo2:IsPair g2 TO a b:=k2.extBut _ _ D.h<|k1.extBut _ _ D.b zo;refine Nc<|Nz zo2 rfl (Nc<|NM zo2 λg3 zo3 k3=>?_);refine Nc<|wpAny_letGo (Nf ?_);refine Nc<|Nc (NO ?_);show wpAny _ _ (Builtin.SmallTypes.nextOf (.ref j2) >>= _) _ _ _;refine Nc<|xD hh (u2.keep λo e=>k3.extBut _ o D.i.symm<|k2.extBut _ o D.j.symm<|k1.extBut _ o D.d e) (v2.keep λo e=>k3.extBut _ o o2O<|k2.extBut _ o o21<|k1.extBut _ o o2z e) ey λg4 e k4 ⟨oe,e1,e2⟩=>?_;have zz4:IsZip g4 z TI TO .ellipsis:=k4 _ _ D.d.symm<|k3.extBut _ _ D.b.symm (k2.extBut _ _ D.c.symm zz1);have ne:e≠z:=λr=>by subst r;rw[zz4]at e1;cases e1;simp at e2
  exact NA zz4 (by simp) λg5 _ k5=>q g5 e (λc o c1 c2 c3 c4 r=>k5.extBut _ _ c1<|k4 _ _ c4<|k3.extBut _ _ c2<|k2.extBut _ _ c3<|k1.extBut _ _ c1 r) ⟨oe,k5.extBut _ _ ne e1,e2⟩
end
section
theorem Inv.turnedN{o:HO}(ts:List Addr)(I:Inv X pins σ H s)(k:∀b o,b∉ts->s.heap.get? b=some o->h'.get? b=some o)
  (hf:∀b∈ts,fA X pins H b) (hp:s.heap.objs.size<=a) (new:ObjOk X.prog X.w (upd H a o) h' a o):Inv X pins σ (upd H a o) { s with heap:=h',toks:=t' }:=by
 have hn:H a=none:=I.hok.fresh hp;have nea:∀b u,H b=some u->b≠a:=λb u e z=>by rw[z,hn]at e;cases e
 have neb:∀b u,s.heap.get? b=some u->b≠a:=λb u e z=>by subst z;exact Ng (dm (dG e) hp)<|jd _
 refine I.step (g':=s.gens) (d':=s.drawn) (ch:=ts) (λb hb=>?_) (λb o _ _ hc e _=>k b o hc e) (λb o _ _ hc e _=>⟨o.slots,k b o hc e⟩) (λb u _ e n=>by rw[aI<|neb b u e];exact n)
  (λb o hc e=>⟨o,k b o hc e⟩) (λb xs e=>by rw [aI<|nea _ _ e];exact e) (λb _ _ e=>by rw [aI<|nea _ _ e];exact e) (λb ps e=>⟨#[],by rw [aI<|nea _ _ e,e];simp⟩) (λm hm=>?_) (λb u e=>?_) I.bare (λn ys=>by
   obtain⟨og,eg⟩:=I.hasG;rw[aI<|im<|dm (Nat.lt_trans (by decide)<|dG eg) hp];exact n ys)
 .obtain⟨_,f1,_,f3,f4,f5⟩:=hf b hb
  exact⟨f3,f1,f4,f5⟩
 .obtain⟨o,es,ep,ho,r⟩:=hm
  exact⟨o,es,ep,k _ o (λz=>(hf _ z).2.1 rfl) ho,r⟩
 .by_cases hb:b=a
  .subst hb;rw[aT]at e;cases e;exact new
  .rw[aI hb]at e
   have nt:∀c v,H c=some v->c∉ts:=λc v q z=>by rw[(hf c z).1]at q;cases q
   refine(I.hok b u e).stay (λc v hc q=>k c v ?_ q) (λc q=>by rw[aI<|nea _ _ q];exact q) λc _ q=>by rw[aI<|nea _ _ q];exact q
   rcases hc with z|z
   .rw[z];exact nt b u e
   .exact nt c _ z
def Sq(K:Nd)(κ:Bool)(H:Hp)(a:Addr)(xs:List V):Prop:=match κ with|true=>SqT K H a xs|false=>SqL K H a xs
theorem Inv.sq{xs:List V}(I:Inv X pins σ H s)(h:Sq X.K κ H a xs):∃its:List Value,Vals xs its/\SSq κ s.heap a its.toArray/\xs.length<=sizeLine:=by
 cases κ with
 |false=>obtain⟨its,r,p,hz⟩:=I.list h;exact⟨its,r,p.isList,hz⟩
 |true=>obtain⟨its,r,p,hz⟩:=I.tuple h;exact⟨its,r,(show s.heap.IsTuple a its.toArray from p),hz⟩
theorem Inv.sq_inj{xs ys:List V}(I:Inv X pins σ H s)(h:Sq X.K κ H a xs)(h':Sq X.K κ H a ys):xs=ys:=by
 cases κ with
 |false=>exact I.list_inj h h'|true=>exact I.tuple_inj h h'
theorem Inv.sq_out{xs:List V}(I:Inv X pins σ H s)(h:Sq X.K κ H a xs)(f:fA X pins H b):a≠b:=by
 rintro rfl;have hk:∀o,X.K.lookup a=some o->False:=λo e=>by
  have e1:=I.ok.mod.kin a o e;rcases f.2.2.2.1 with z|z
  exact I.ok.noex a o e1 z;exact Ng (dm (dG (I.ok.bs a o e1).1) z)<|jd _
 have hr:∀u,Rd H a u->False:=λu r=>by
  rcases r with r|⟨o,r⟩
  rw[f.1]at r;cases r;rw[f.1]at r;cases r
 cases κ with
 |false=>
  rcases h with h|⟨o,_,_,e,_⟩
  exact hr _ h;exact hk o e
 |true=>
  rcases h with h|⟨o,_,_,e,_⟩
  exact hr _ h;exact hk o e
end
def C3(K:Nd)(κ κ':Bool)(a b:Addr):It:=
  ⟨λi H=>∃ xs ys x y,Sq K κ H a xs/\Sq K κ' H b ys/\xs[i]? = some x/\ys[i]? = some y,
   λi H v H'=>∃p x y,v=.ref p/\H p=none/\H'=upd H p (.tup [x,y])/\(∀xs,Sq K κ H a xs->xs[i]? = some x)/\(∀ys,Sq K κ' H b ys->ys[i]? = some y),
   λi H=>∃xs ys,Sq K κ H a xs/\Sq K κ' H b ys/\(xs.length<=i\/ys.length<=i)⟩
theorem Hx{ps:Pos}(a b z TI TO j1 j2:Addr)(D:uM z TI TO j1 j2) :
  ji P w K (.Tuple es n1 ps) (C3 K κ κ' a b) [z,TI,TO,j1,j2] z (λi h=>IsZip h z TI TO .none/\IsPair h TI (.ref j1) (.ref j2)/\(∃u v,IsPair h TO u v)/\SIt κ h j1 a i/\SIt κ' h j2 b i) where
 mem:=by simp
 obj:=λi h ⟨q1,q2,⟨u,v,q3⟩,q4,q5⟩ c hc=>by
  simp only[Yam,d7,or_false]at hc;rcases hc with rfl|rfl|rfl|rfl|rfl
  .exact⟨_,q1,λv e=>by cases e⟩
  .exact⟨_,q2,λv e=>by cases e⟩
  .exact⟨_,q3,λv e=>by cases e⟩
  .exact q4.obj
  .exact q5.obj
 keep:=λi h h' ⟨q1,q2,⟨u,v,q3⟩,q4,q5⟩ k=>
  ⟨k z (by simp) _ q1,k TI (by simp) _ q2,⟨u,v,k TO (by simp) _ q3⟩,q4.keep λo e=>k j1 (by simp) o e,q5.keep λo e=>k j2 (by simp) o e⟩
 item:=by
  intro X hP hw hK hc i pins s σ H E I hf ⟨q1,q2,⟨u,v,q3⟩,q4,q5⟩ hg;subst hP hw hK;obtain⟨xs,ys,x,y,hx,hy,ex,ey⟩:=hg;obtain⟨its,rv,p,hz⟩:=I.sq hx;obtain⟨its',rv',p',hz'⟩:=I.sq hy;obtain⟨ux,hux,rux⟩:=rv.get ex;obtain⟨uy,huy,ruy⟩:=rv'.get ey;have out:∀{κ:Bool} {c:Addr} {xs:List V},Sq X.K κ H c xs->sZ z TI TO j1 j2 c:=λhq=>
   ⟨I.sq_out hq<|hf z<|by simp,I.sq_out hq<|hf TI<|by simp,I.sq_out hq<|hf TO<|by simp,I.sq_out hq<|hf j1<|by simp,I.sq_out hq<|hf j2<|by simp⟩
  have hT:s.TypeIs (.ref z) "zip" :=⟨_,q1,rfl⟩
  unfold pyNext;refine Nc<|wpAny_attempt (wpAny_callSpecial?_slot (name:=Str.ofString "__next__") hT F.slot_zip_next (Ny F.slot_zip_next hT F.entry_zip_next
   (Hv D (out hx) (out hy) q1 q2 q3 q4 q5 p p' (x:=ux) (y:=uy) (by simpa using hux) (by simpa using huy) λh' a1 a2 a3 a4 a5 a6 a7=>Nf ⟨_,rfl,?_⟩) (F.args_zip_next_1 _)))
  refine wpAny_letOwnedTupleGo_zip (s:={ s with heap:=h' }) a1 λh2 b1 b2=>?_;have lt:∀{c o},s.heap.get? c=some o->c≠s.heap.objs.size:=λe=>im<|dG e;have zl:=lt q1;have up:∀c o,c∉[z,TI,TO,j1,j2]->s.heap.get? c=some o->h2.get? c=some o:=λc o hc e=>by
   simp only[Yam,d7,or_false,not_or]at hc;exact b2.extBut _ _ hc.1<|a7 c o hc.1 hc.2.2.1 hc.2.2.2.1 hc.2.2.2.2 e
  refine⟨.ref s.heap.objs.size,upd H s.heap.objs.size<|.tup [x,y],Inv.turnedN (s:=s) (t':=s.toks) [z,TI,TO,j1,j2] I up hf (cB _) ?_,rfl,⟨s.heap.objs.size,x,y,rfl,I.fresh,rfl,λxs' h'=>by rw[I.sq_inj h' hx];exact ex,λys' h'=>by rw[I.sq_inj h' hy];exact ey⟩,?_,λc hc=>?_⟩
  .refine⟨by rw[sizeLine_eq];simp,[ux,uy],.cons rux<|.cons ruy .nil,?_⟩
   exact⟨_,b2.extBut _ _ (Nr zl) a5,rfl,_,rfl⟩
  .exact⟨b1,b2.extBut _ _ D.a<|a7 _ _ D.a D.e D.f D.g q2,⟨_,_,b2.extBut _ _ D.b a2⟩,a3.keep λo e=>b2.extBut _ o D.c e,a4.keep λo e=>b2.extBut _ o D.d e⟩
  .have he:∃o,s.heap.get? c=some o:=by
    simp only[Yam,d7,or_false]at hc;rcases hc with rfl|rfl|rfl|rfl|rfl
    .exact⟨_,q1⟩
    .exact⟨_,q2⟩
    .exact⟨_,q3⟩
    .obtain⟨o,e,_⟩:=q4.obj;exact⟨o,e⟩
    .obtain⟨o,e,_⟩:=q5.obj;exact⟨o,e⟩
   obtain⟨o,e⟩:=he;rw[aI<|lt e];exact(hf c hc).1
 done:=by
  intro X hP hw hK hc i pins s σ H E I hf ⟨q1,q2,⟨u,v,q3⟩,q4,q5⟩ hg;subst hP hw hK;obtain⟨xs,ys,hx,hy,en⟩:=hg;obtain⟨its,rv,p,hz⟩:=I.sq hx;obtain⟨its',rv',p',hz'⟩:=I.sq hy;have l1:=rv.length;have l2:=rv'.length;have out:∀{κ:Bool} {c:Addr} {xs:List V},Sq X.K κ H c xs->sZ z TI TO j1 j2 c:=λhq=>
   ⟨I.sq_out hq<|hf z<|by simp,I.sq_out hq<|hf TI<|by simp,I.sq_out hq<|hf TO<|by simp,I.sq_out hq<|hf j1<|by simp,I.sq_out hq<|hf j2<|by simp⟩
  have hT:s.TypeIs (.ref z) "zip" :=⟨_,q1,rfl⟩
  unfold pyNext;refine Nc<|wpAny_attempt (wpAny_callSpecial?_slot (name:=Str.ofString "__next__") hT F.slot_zip_next (Ny F.slot_zip_next hT F.entry_zip_next
   (Hw (I.ok.hd hc) D (out hx) (out hy) q1 q2 q3 q4 q5 p p' (by rcases en with z|z;exact .inl (by simp;omega);exact .inr (by simp;omega)) λh' e k ⟨o,e1,e2⟩=>?_) (F.args_zip_next_1 _)))
  refine Nc<|wpAny_isInstance (s:={ s with heap:=h' }) (T:= "StopIteration") (b:=true) ⟨o,e1,e2⟩ isSubtype_stop (Nf ⟨rfl,?_⟩);refine I.turnedL (t':=s.toks) [z,TI,TO,j1,j2] (λc o hc e=>?_) hf;simp only[Yam,d7,or_false,not_or]at hc;exact k c o hc.1 hc.2.2.1 hc.2.2.2.1 hc.2.2.2.2 e
 self:=λ_ _ _ _ _ st h=>wpAny_pyIter_zip st.1 h
def io(κ:Bool)(l:Addr):Obj:={ cls:=.type (match κ with|true=> "tuple_iterator" |false=> "list_iterator"),data:=.fields #[.ref l,.int 0 0] }
theorem Aw{j:Addr}(e:h.get? j=some (io κ l)):SIt κ h j l 0:=by cases κ;all_goals exact⟨_,e,rfl,rfl⟩
theorem xE{E:Value->Shared->Prop}(hl:SSq κ s.heap l xs)(q:Q (.ref s.heap.objs.size) { s with heap:=s.heap.push (io κ l) }) :
  wpAny (model prog w) A (pyIter<|.ref l) Q E s:=by
 cases κ with
 |false=>exact wpAny_pyIter_list hl q|true=>exact wpAny_pyIter_tuple hl q
abbrev uN(κ:Bool)(h:Heap)(l1:Addr):Heap:=h.push<|io κ l1
abbrev uO(κ κ':Bool)(h:Heap)(l1 l2:Addr):Heap:=(uN κ h l1).push<|io κ' l2
abbrev uP(κ κ':Bool)(h:Heap)(l1 l2:Addr):Heap:=(uO κ κ' h l1 l2).push { cls:=.type "tuple",data:=.seq #[.ref h.objs.size,.ref (uN κ h l1).objs.size] }
abbrev uQ(κ κ':Bool)(h:Heap)(l1 l2:Addr):Heap:=(uP κ κ' h l1 l2).push { cls:=.type "tuple",data:=.seq #[.none,.none] }
abbrev oE(κ κ':Bool)(h:Heap)(l1 l2:Addr):Heap:=(uQ κ κ' h l1 l2).push { cls:=.type "zip",data:=.fields #[.none,.bool false,.bool false,.ref (uO κ κ' h l1 l2).objs.size,.ref (uP κ κ' h l1 l2).objs.size] }
theorem Hy(κ κ':Bool)(l1 l2:Addr)(xs ys:Array Value) :
  Meets (Builtin.«zip.__new__» ⟨[.type "zip",.ref l1,.ref l2],[]⟩) (λ_ R s=>SSq κ s.heap l1 xs/\SSq κ' s.heap l2 ys/\R (.ok<|.ret<|.ref (uQ κ κ' s.heap l1 l2).objs.size) { s with heap:=oE κ κ' s.heap l1 l2 }):=
 .of_wp λprog w A R s h=>by
  obtain⟨hp,g,d,tk,os⟩:=s;obtain⟨hl1,hl2,h⟩:=h;have hsub:=sub_zip;have L1:SSq κ (Shared.heap ⟨hp,g,d,tk,os⟩) l1 xs:=hl1;have L2':SSq κ' (Shared.heap ⟨hp.push<|io κ l1,g,d,tk,os⟩) l2 ys:=hl2.keep λo e=>dU _ e
  wp_walk using xE L1,xE L2'
  exact⟨_,rfl,h⟩
theorem Hz{E:Value->Shared->Prop}{l1 l2:Addr}(hl1:SSq κ s.heap l1 xs)(hl2:SSq κ' s.heap l2 ys)
  (h:∀ h',IsZip h' (s.heap.objs.size+4) (s.heap.objs.size+2) (s.heap.objs.size+3) .none->IsPair h' (s.heap.objs.size+2) (.ref s.heap.objs.size) (.ref<|s.heap.objs.size+1)->
   IsPair h' (s.heap.objs.size+3) .none .none->SIt κ h' s.heap.objs.size l1 0->SIt κ' h' (s.heap.objs.size+1) l2 0->
   (∀c o,s.heap.get? c=some o->h'.get? c=some o)->Q (.ref<|s.heap.objs.size+4) { s with heap:=h' }) :
  wpAny (model prog w) A (call (.type "zip") [.ref l1,.ref l2]) Q E s:=by
 refine callType_new F.called_zip (by decide) (F.typeCall_zip_2 _ _) (F.newCall_zip_2 _ _) (λobj=>F.args_object_init_3 obj _ _) F.entry_zip_new (Hy κ κ' l1 l2 xs ys) ⟨hl1,hl2,?_⟩;have z1:(uN κ s.heap l1).objs.size=s.heap.objs.size+1:=oQ ..;have z2:(uO κ κ' s.heap l1 l2).objs.size=s.heap.objs.size+2:=by rw[oQ,z1]
 have z3:(uP κ κ' s.heap l1 l2).objs.size=s.heap.objs.size+3:=by rw[oQ,z2]
 have z4:(uQ κ κ' s.heap l1 l2).objs.size=s.heap.objs.size+4:=by rw[oQ,z3]
 have up5:∀{c o},(uQ κ κ' s.heap l1 l2).get? c=some o->(oE κ κ' s.heap l1 l2).get? c=some o:=λe=>dU _ e;have up4:∀{c o},(uP κ κ' s.heap l1 l2).get? c=some o->(oE κ κ' s.heap l1 l2).get? c=some o:=λe=>up5<|dU _ e;have up3:∀{c o},(uO κ κ' s.heap l1 l2).get? c=some o->(oE κ κ' s.heap l1 l2).get? c=some o:=λe=>up4<|dU _ e;have up2:∀{c o},(uN κ s.heap l1).get? c=some o->(oE κ κ' s.heap l1 l2).get? c=some o:=λe=>up3<|dU _ e;have ob:∀κ l,(io κ l).isFreed=false:=λκ l=>rfl;have g5:(oE κ κ' s.heap l1 l2).get? (uQ κ κ' s.heap l1 l2).objs.size=some _:=hV _ rfl;have g4:(oE κ κ' s.heap l1 l2).get? (uP κ κ' s.heap l1 l2).objs.size=some _:=up5<|hV _ rfl;have g3:(oE κ κ' s.heap l1 l2).get? (uO κ κ' s.heap l1 l2).objs.size=some _:=up4<|hV _ rfl;have g2:(oE κ κ' s.heap l1 l2).get? (uN κ s.heap l1).objs.size=some _:=up3<|hV _ (ob κ' l2);have g1:(oE κ κ' s.heap l1 l2).get? s.heap.objs.size=some _:=up2<|hV _ (ob κ l1);show _/\_;rw[z2,z3,z4]at g5;rw[z1,z2]at g3;rw[z3]at g4;rw[z1]at g2;rw[z4];exact⟨⟨_,g5,rfl⟩,h _ g5 g3 g4 (Aw g1) (Aw g2) λc o x=>up2<|dU _ x⟩
theorem HB(n:Nat):uM (n+4) (n+2) (n+3) n (n+1):=
 ⟨(by omega:n+2≠n+4),(by omega:n+3≠n+4),(by omega:n≠n+4),(by omega:n+1≠n+4),(by omega:n+2≠n+3),(by omega:n+2≠n),(by omega:n+2≠n+1),(by omega:n+3≠n),(by omega:n+3≠n+1),(by omega:n≠n+1)⟩
theorem Ax(n b:Nat)(h:b=n+4\/b=n+2\/b=n+3\/b=n\/b=n+1):n<=b:=by omega
section
def Ay(K:Nd)(ta:TA):TI:=λσ H R=>ta σ H λvs H1=>∃κ κ' a b,vs=[.ref a,.ref b]/\(∃xs,Sq K κ H1 a xs)/\(∃ys,Sq K κ' H1 b ys)/\R (C3 K κ κ' a b) H1
theorem HC{a b:Expr}{ps:Pos}(hg:Gl X "zip")(hm:X.mg "zip" = none)(ha:PA X [a,b] ta)(hs:starEach [a,b] X.env=[(false,eval a X.env),(false,eval b X.env)]:=by rfl)(hs2:starEach [b] X.env=[(false,eval b X.env)]:=by rfl) :
  PI X (.Tuple es n1 ps) (.Call (.Name "zip" p) [a,b] [] pos) (Ay X.K ta):=by
 intro pins s σ H R I h;refine Call_<|ez I hg hm boot_zip (PyProof.Rows.callWith_type1 (bW (ha pos pins s σ H _ I h) λus s1 ⟨vs,H1,I1,r1,q1⟩=>?_) (by rw[hs,hs2]) (by rw[hs2];rfl));obtain⟨κ,κ',l1,l2,e,⟨xs,hx⟩,⟨ys,hy⟩,q⟩:=q1;subst e;cases r1 with
 |cons r rr=>
  cases rr with
  |cons r' rr=>
   cases rr;cases r;cases r';obtain⟨its,rv,p1,hz⟩:=I1.sq hx;obtain⟨its',rv',p2,hz'⟩:=I1.sq hy;refine Hz p1 p2 λh' a1 a2 a3 a4 a5 k=>wpAny_pyIter_zip (s:={ s1 with heap:=h' }) a1 ?_;have D:uM (s1.heap.objs.size+4) (s1.heap.objs.size+2) (s1.heap.objs.size+3) s1.heap.objs.size (s1.heap.objs.size+1):=HB _;refine⟨_,[s1.heap.objs.size+4,s1.heap.objs.size+2,s1.heap.objs.size+3,s1.heap.objs.size,s1.heap.objs.size+1],_,_,H1,rfl,I1.kept (t':=s1.toks) k,Hx (κ:=κ) (κ':=κ') l1 l2 _ _ _ _ _ D,⟨a1,a2,⟨_,_,a3⟩,a4,a5⟩,λb hb=>?_,q⟩;have hb':s1.heap.objs.size<=b:=by
    simp only[Yam,d7,or_false]at hb;exact Ax _ _ hb
   exact I1.fpOk hb'<|I1.hok.fresh hb'
end
theorem C4{C:Addr}(X:K.In h)(q:PySem.W.excIn K C bmB newId=true) :
  ∃(bm:List Value) (N:Addr) (nm qn:Str) (bs:List Value) (hd:Bool) (sn:List Str) (sub:List Value) (ab:Bool) (col:Option Bool) (dd:Option Addr) (k0 k1 k2 k3 k5:Option Value) (mN:Str->Option Value),
   h.get? C=some (excClassObj nm qn C N bs bm hd sn sub ab col dd k0 k1 k2 k3 k5 newId)/\h.Ns N mN/\mN "__init__" = none/\OwnTail h bmB bm:=by
 unfold PySem.W.excIn at q;split at q
 .rename_i dd cd sl ho
  split at q
  .rename_i C' bm k0 k1 k2 k3 n k5 hm hs
   simp only[c9,NN,sQ]at q;obtain⟨⟨⟨⟨⟨rfl,rfl⟩,hdel⟩,ht⟩,hok⟩,hni⟩:=q;obtain⟨nm,bs,mro,ns,qn,hd,sn,sub,ab,col,del⟩:=cd;dsimp only at hm hdel hok hni;subst hm hdel;have hsl:sl = #[k0,k1,k2,k3,some<|.builtin n,k5]:=by
    cases sl with
    |mk l=>exact congrArg Array.mk hs
   subst hsl;exact⟨bm,ns,nm,qn,bs,hd,sn,sub,ab,col,dd,k0,k1,k2,k3,k5,_,X _ _ ho,.of_isNs<|PySem.W.isNs_of_in X hok,PySem.W.nsMap_none_of_in X hok hni,PySem.W.tail_of_in X ht⟩
  .cases q
 .cases q
section
variable{C:Addr}{np cpos:Pos}{B initId:String}
theorem HD(hr:li X EX)(hc:X.calm=true)(hm:X.mg x=some (.ref C))(hq:PySem.W.excIn X.K C bmB newId=true)(FB:ExcBaseFacts B newId initId bmB)(hg:Gl X x:=by rfl)(hd:(x==("__debug__" : Str))=false:=by decide) :
  PS X (.Raise (some<|.Call (.Name x np) [] [] cpos) none pos) (λ_ _ H=>EX (.ref C) none H):=by
 intro pins s σ H D I h;obtain⟨bm,N,nm,qn,bs,hdc,sn,sub,ab,col,dd,k0,k1,k2,k3,k5,mN,hC,hN,hni,T⟩:=C4 I.kIn hq;refine wpAny_Raise_call_subT (C:=C) (nm:=nm) (q:=qn) (N:=N) (bs:=bs) (bm:=bm) (hdct:=hdc) (sn:=sn) (sub:=sub) (ab:=ab) (col:=col) (dd:=dd) (k0:=k0) (k1:=k1) (k2:=k2) (k3:=k3) (k5:=k5)
  FB (mN:=mN) (T.hasType FB.hasBase) (I.ok.hd hc) rfl hni (fv I hg hm ⟨rfl,?_⟩ hd)
 exact evalArgs_empty ⟨rfl,iI _,hC,hN,T,λh' e hx=>hr pins σ H s h' e (.ref C) [] I hx h⟩
end
section
variable{H':Hp}{s':Shared}{B h2:Heap}
theorem Inv.fsStk(I:Inv X pins σ H s)(hb:b∈X.fs):b∈dC X.stack:=by
 rcases I.ok.stk with z|⟨z,_⟩
 rw[z];exact hb;rw[z];exact xB hb
theorem Inv.fly(I:Inv X pins σ H s)(hos:s'.os=s.os)(hbare:AllBare s'.gens)(un:Un (dC X.stack) [] H H' s.heap s'.heap)(hok:HOk X.prog X.w H' s'.heap)
  (hB:∀b o,s.heap.get? b=some o->b∉dC X.stack->∃o',B.get? b=some o') (hT:∀b u,H' b=some u->∃o,B.get? b=some o) (st1:B.StaysIn s'.heap) (st2:B.StaysIn h2) (up:s'.heap.UpToSlots h2)
  (frm:∀b∈dC X.stack,∃o,s'.heap.get? b=some o/\∀vs,o.data≠.fields vs):Inv X pins σ H' { s' with heap:=h2 }:=by
 have I':Inv X pins σ H' s':=I.call' hos un hok hbare (ch:=[])<|λb z=>Ng z (by simp);have nostk:∀b o,X.s₀.heap.get? b=some o->b∉X.fs->b∉dC X.stack:=λb o e hb hm=>by
  rcases Yam.mp (I.stkSub b hm) with z|z
  .have l1:=dG e
   have l2:=I.ok.above;rw[<-z]at l2;exact Ng (dm l1 l2)<|jd _
  .exact hb z
 have inB:∀{b o},s.heap.get? b=some o->b∉dC X.stack->∀{u},s'.heap.get? b=some u->h2.get? b=some u:=λ{b o} e hb {u} q=>by
  obtain⟨o',eB⟩:=hB b o e hb;have:=st1 b o' eB;rw[q]at this;cases this;exact st2 b _ eB
 have cellK:∀c v,s'.heap.IsCell c v->h2.IsCell c v:=λc v ⟨o,ho,hd⟩=>by
  obtain⟨sl,e⟩:=up c o ho λvs z=>by rw[hd]at z;cases z
  exact⟨_,e,hd⟩
 refine⟨I'.ok,I'.os,I'.bare,⟨λb o e n hb hx=>?_,λb o e n hb hx=>?_,I'.base.free,λb o e hx=>?_,I'.base.tups,I'.base.frzs,I'.base.tbls,I'.base.sys⟩,?_,λx c e=>?_,I'.free,I'.freeC,λp hp=>?_,hok.through hT st1 st2,I'.len⟩
 .exact inB (I.base.keep b o e n hb hx) (nostk b o e hb)<|I'.base.keep b o e n hb hx
 .obtain⟨sl,e1⟩:=I'.base.slot b o e n hb hx
  obtain⟨o3,e3,nf⟩:=frm b<|I.fsStk hb;rw[e1]at e3;cases e3;obtain⟨sl2,e4⟩:=up b _ e1 nf;exact⟨sl2,e4⟩
 .obtain⟨o',e1⟩:=I'.base.there b o e hx
  by_cases hb:b∈dC X.stack
  .obtain⟨o3,e3,nf⟩:=frm b hb
   obtain⟨sl,e4⟩:=up b _ e3 nf;exact⟨_,e4⟩
  .obtain⟨o2,e2⟩:=I.base.there b o e hx
   exact⟨o',inB e2 hb e1⟩
 .obtain⟨m,hn,hl⟩:=I'.loc
  refine⟨m,up.ns hn,λi x v e1 e2 e3=>?_⟩;obtain⟨u,r,l⟩:=hl i x v e1 e2 e3;refine⟨u,r,?_⟩;rcases l with l|⟨k,c,e,z⟩
  .exact .inl l
  .exact .inr ⟨k,c,e,cellK c _ z⟩
 .obtain⟨v,z⟩:=I'.cell x c e
  exact⟨v,cellK c v z⟩
 .obtain⟨e,n,ne,nf,d⟩:=I'.pin p hp
  obtain⟨e0,n0,_⟩:=I.pin p hp;have hb:p.1∉dC X.stack:=λhm=>by
   rcases Yam.mp (I.stkSub _ hm) with z|z
   .exact ne z
   .exact nf z
  exact⟨inB e0 hb e,n,ne,nf,d⟩
theorem Inv.track{u:HO}(I:Inv X pins σ H s)(hn:H a=none)(h0:X.s₀.heap.get? a=none)(hL:a≠X.env.locals)(hC:∀x c,X.env.cells.lookup x=some c->c≠a)(hP:∀p∈X.pn++pins,p.1≠a)
  (new:ObjOk X.prog X.w (upd H a u) s.heap a u) (hu:∀us,u≠.lst us):Inv X pins σ (upd H a u) s:=by
 have nea:∀b v,H b=some v->b≠a:=λb v e z=>by rw[z,hn]at e;cases e
 refine ⟨I.ok,I.os,I.bare,⟨I.base.keep,I.base.slot,λb o e n hx=>?_,I.base.there,λb xs e=>?_,λb o xs e=>?_,λb ps e=>?_,λx0 e0 n ys=>by
   by_cases z:sysModules=a
   .rw[z,aT];exact λy=>hu ys (Nk y)
   .rw[aI z];exact I.base.sys x0 e0 n ys⟩,I.loc,I.cell,?_,λx c e=>?_,λp hp=>?_,λb v e=>?_,I.len⟩
 .rw[aI (λz=>by rw[z,h0]at e;cases e)]
  exact I.base.free b o e n hx
 .have:=I.base.tups b xs e
  rw[aI<|nea _ _ this];exact this
 .have:=I.base.frzs b o xs e
  rw[aI<|nea _ _ this];exact this
 .obtain⟨m,e1⟩:=I.base.tbls b ps e
  exact⟨m,by rw[aI<|nea _ _ e1];exact e1⟩
 .rw[aI<|Nr hL];exact I.free
 .rw[aI<|hC x c e];exact I.freeC x c e
 .obtain⟨e,n,r⟩:=I.pin p hp
  exact⟨e,by rw[aI<|hP p hp];exact n,r⟩
 .by_cases hb:b=a
  .subst hb;rw[aT]at e;cases e;exact new
  .rw[aI hb]at e
   exact(I.hok b v e).stay (λ_ _ _ q=>q) (λc q=>by rw[aI<|nea _ _ q];exact q) λc _ q=>by rw[aI<|nea _ _ q];exact q
end
abbrev Cx.tr(X:Cx)(E:Value->Shared->Prop)(pins:List (Addr×Obj)):Cx:={ X with xe:=E,pn:=X.pn++pins }
abbrev Cx.hnd(X:Cx)(e:Addr)(E:Value->Shared->Prop):Cx:={ X with A:=X.A.mark<|some<|.ref e,calm:=false,xe:=E }
section
variable{pins':List (Addr×Obj)}{E:Value->Shared->Prop}{e:Addr}
theorem Inv.tr(I:Inv X pins σ H s):Inv (X.tr E pins) [] σ H s:=⟨⟨I.ok.mod,I.ok.kind,I.ok.glob,I.ok.blt,I.ok.above,I.ok.inj,I.ok.has,I.ok.cab,I.ok.hd,I.ok.frames,I.ok.stk,I.ok.exf,I.ok.bs,I.ok.bsz,I.ok.noex,I.ok.exfs,I.ok.funs,I.ok.frf,I.ok.sys0⟩,I.os,I.bare,I.base,I.loc,I.cell,I.free,I.freeC,λp hp=>I.pin p<|by simpa using hp,I.hok,I.len⟩
theorem Inv.untr(I:Inv (X.tr E pins) pins' σ H s):Inv X pins σ H s:=⟨⟨I.ok.mod,I.ok.kind,I.ok.glob,I.ok.blt,I.ok.above,I.ok.inj,I.ok.has,I.ok.cab,I.ok.hd,I.ok.frames,I.ok.stk,I.ok.exf,I.ok.bs,I.ok.bsz,I.ok.noex,I.ok.exfs,I.ok.funs,I.ok.frf,I.ok.sys0⟩,I.os,I.bare,I.base,I.loc,I.cell,I.free,I.freeC,λp hp=>I.pin p<|zq _ hp,I.hok,I.len⟩
theorem SP.untr{D:jK}{f:Flow}{s':Shared}(h:SP (X.tr E pins) pins' D f s'):SP X pins D f s':=by
 cases f with
 |next=>obtain⟨σ',H',I,q⟩:=h;exact⟨σ',H',I.untr,q⟩
 |brk=>obtain⟨σ',H',I,q⟩:=h;exact⟨σ',H',I.untr,q⟩
 |cont=>obtain⟨σ',H',I,q⟩:=h;exact⟨σ',H',I.untr,q⟩
 |ret u=>obtain⟨v,σ',H',I,r,q⟩:=h;exact⟨v,σ',H',I.untr,r,q⟩
theorem Inv.hnd(I:Inv X pins σ H s):Inv (X.hnd e E) pins σ H s:=⟨⟨I.ok.mod,I.ok.kind,I.ok.glob,I.ok.blt,I.ok.above,I.ok.inj,I.ok.has,I.ok.cab,(λz=>by cases z),I.ok.frames,I.ok.stk,I.ok.exf,I.ok.bs,I.ok.bsz,I.ok.noex,I.ok.exfs,I.ok.funs,I.ok.frf,I.ok.sys0⟩,I.os,I.bare,I.base,I.loc,I.cell,I.free,I.freeC,I.pin,I.hok,I.len⟩
theorem Inv.unhnd(hd:X.calm=true->X.A.handled=none)(I:Inv (X.hnd e E) pins σ H s):Inv X pins σ H s:=⟨⟨I.ok.mod,I.ok.kind,I.ok.glob,I.ok.blt,I.ok.above,I.ok.inj,I.ok.has,I.ok.cab,hd,I.ok.frames,I.ok.stk,I.ok.exf,I.ok.bs,I.ok.bsz,I.ok.noex,I.ok.exfs,I.ok.funs,I.ok.frf,I.ok.sys0⟩,I.os,I.bare,I.base,I.loc,I.cell,I.free,I.freeC,I.pin,I.hok,I.len⟩
end
theorem HE{M:Model}{E:Value->Shared->Prop}{ea C Cs:Addr}{Q:Bool->Shared->Prop}(X:K.In s.heap)(hs:PySem.W.excIn K Cs bmB newId=true)(hbase:bmB.contains (.type "BaseException")=true)
  (he:∃oe,s.heap.get? ea=some oe/\oe.cls=.ref C) (hsub:PySem.W.mroIn K C (.ref Cs)=some true) (q:Q true s):wpAny M A (excMatches (.ref ea)<|.ref Cs) Q E s:=by
 obtain⟨bm,N,nm,qn,bs,hd,sn,sub,ab,col,dd,k0,k1,k2,k3,k5,mN,hC,hN,hni,T⟩:=C4 X hs;obtain⟨oe,he,hcls⟩:=he;have hcB:(Value.ref Cs::bm).contains (.type "BaseException")=true:=by rw[List.contains_cons,T.hasType hbase,Bool.or_true]
 have f:=tc_notTuple;have LS:PySem.W.Looks M s.heap (isSubtype (.ref C)<|.ref Cs) true:=PySem.W.looks_mroIn X hsub;obtain⟨hh,g,d,tk,os⟩:=s;unfold excMatches
 repeat (first|(with_reducible refine wpAny_loadPart_at he ?_;rw[hcls])|with_reducible refine wpAny_loadPart_at hC ?_|(with_reducible refine wpAny_isSubtype_exc hC ?_;rw[hcB])|with_reducible refine LS.at ?_|wp_step)
 exact q
section
theorem Inv.names(I:Inv X pins σ H s)(hn:h'.Ns X.env.locals m)(hs:Heap.SameBut X.env.locals s.heap h'):Inv X pins (List.replicate σ.length none) H { s with heap:=h',toks:=t' }:=by
 have ne:∀b o,X.s₀.heap.get? b=some o->b≠X.env.locals:=λb o e=>im<|dm (dG e) I.ok.above;have same:∀b,b≠X.env.locals->h'.get? b=s.heap.get? b:=λb hb=>hs.2 b hb;have nH:∀b u,H b=some u->b≠X.env.locals:=λb u e z=>by rw[z,I.free]at e;cases e
 refine⟨I.ok,I.os,I.bare,⟨λb o e n hb hx=>?_,λb o e n hb hx=>?_,I.base.free,λb o e hx=>?_,I.base.tups,I.base.frzs,I.base.tbls,I.base.sys⟩,⟨m,hn,λi x v _ e2 _=>?_⟩,λx c e=>?_,I.free,I.freeC,λp hp=>?_,λb u e=>?_,by rw[oO];exact I.len⟩;show h'.get? b=_;rw[same b<|ne b o e];exact I.base.keep b o e n hb hx;obtain⟨sl,e1⟩:=I.base.slot b o e n hb hx;refine⟨sl,?_⟩;show h'.get? b=_;rw[same b<|ne b o e];exact e1;obtain⟨o',e1⟩:=I.base.there b o e hx;refine⟨o',?_⟩;show h'.get? b=_;rw[same b<|ne b o e];exact e1;rw[lD]at e2;split at e2<;>cases e2;obtain⟨v,o,ho,hd⟩:=I.cell x c e;refine⟨v,o,?_,hd⟩;show h'.get? c=_;rw[same c<|I.cne x c e];exact ho;obtain⟨e,n,nl,r⟩:=I.pin p hp;refine⟨?_,n,nl,r⟩;show h'.get? p.1=_;rw[same _ nl];exact e;refine(I.hok b u e).stay (λc v hc q=>?_) (λ_ q=>q) λ_ _ q=>q;show h'.get? c=_;rw[same c ?_];exact q;rcases hc with rfl|hc
 exact nH _ _ e;exact nH _ _ hc
end
structure RoomU(k:Nat)(A:Around):Prop where
 dp:A.depth+3*k+5<recursionLimit
 un:A.units+16*k+200<cLine
theorem RoomU.mono{j:Nat}(r:RoomU k A)(h:j<=k):RoomU j A:=⟨by have:=r.dp;omega,by have:=r.un;omega⟩
theorem RoomU.deeper{k:Nat}{A:Around}(r:RoomU (k+1) A)(env:Env):RoomU k (A.deeper env):=
 ⟨by have:=r.dp;show A.depth+1+3*k+5<_;omega,by have:=r.un;show A.units+3+16*k+200<_;omega⟩
theorem RoomU.depth{k:Nat}{A:Around}(r:RoomU k A):A.depth<recursionLimit:=by have:=r.dp;omega
theorem RoomU.units{k:Nat}{A:Around}(r:RoomU k A):A.units+64<cLine:=by have:=r.un;omega
theorem Room.u(r:Room k A):RoomU k A:=⟨r.dp,r.un⟩
theorem RoomU.mark{k:Nat}{A:Around}{v:Option Value}(r:RoomU k A):RoomU k (A.mark v):=⟨r.dp,r.un⟩
structure xF(P:Program)(w:World)(K:Nd)(mg:Str->Option Value)(base:Heap)(k:Nat)(f:Addr)(fd:FuncData)(ps:List Str)(sp:Sp):Prop where
 len:∀vs H Q E,sp vs H Q E->vs.length=ps.length
 run:∀(A:Around) (outer:List Env) (s:Shared) (H:Hp) (args:Args) (us:List Value) (vs:List V) (Q:VK) (E:XK),RoomU k A->kY P w K mg base A outer s H->BindsTo s fd args (ps.zip us)->Vals vs us->sp vs H Q E->
  codeAny (model P w) A (.call (.ref f) args) (CR CY outer P w H s Q E) s
def rR(P:Program)(w:World)(K:Nd)(mg:Str->Option Value)(base:Heap)(N:List Str)(qual:Str)(scope:Scope)(f:Addr)(cd:Value)(A:Around)(outer:List Env)(s:Shared)(H:Hp):Cx:=
 { eD CY P w K mg base N qual scope f cd A outer s H E0 with calm:=false,xe:=λ_ _=>False }
theorem HF{s1:Shared}{vs:List V}
  (S:dn N ps scope) (e0:kY P w K mg base A outer s H) (hl:vs.length=ps.length) (r:Vals vs us)
  (x:InCallC s s.heap.objs.size (bindL (envOfC qual scope s.heap.objs.size f cd).kindOf (ps.zip us) λ_=>none) (cellsFrom (s.heap.objs.size+1) scope.names []) (bindC (envOfC qual scope s.heap.objs.size f cd).kindOf (ps.zip us) λ_=>none) s1) :
  Inv (rR P w K mg base N qual scope f cd A outer s H) [] (start N vs) H s1:=by
 have hpl:ps.length<=N.length:=by have:=congrArg List.length S.pre;rw[jg]at this;omega
 obtain⟨h1,tk,rfl,hk⟩:=x.done;have iD:∀b:Addr,b∉(rR P w K mg base N qual scope f cd A outer s H).ex:=λb z=>Ng (show b∈([]:List Addr) from z) (by simp);refine ⟨⟨e0.mod,S.kind,rfl,rfl,cB _,λy z c h1 h2=>?_,λy hy=>?_,λy c _ h=>?_,(λz=>by cases z),Around.frames_deeper e0.frames,.inr ⟨rfl,rfl⟩,λb z=>Ng z<|iD b,e0.bs,e0.bsz,λb _ _=>iD b,λb z=>Ng z<|iD b,e0.funs,e0.frf,e0.sysn⟩,
  rfl,e0.bare,Un.kept hk,⟨_,x.toInCall.ns,λi y v h1 h2 h3=>?_⟩,λy c h=>⟨_,x.cell y c h⟩,e0.hok.fresh<|cB _,λy c h=>?_,λp hp=>Ng (show p∈([]:List (Addr×Obj)) from hp)<|by simp,e0.hok.kept hk,?_⟩
 .exact name_of_addr x.apart (Nn h1)<|Nn h2
 .have hy:scope.names.lookup y=some .cell\/scope.names.lookup y=some .free:=hy
  rcases hy with hy|hy
  .exact eE hy
  .exact Ng rfl<|S.nofree _ (Nn hy)
 .exact kK<|x.above y c (Nn h)
 .have hi:i<vs.length:=by
   unfold start at h2
   by_cases hi:i<vs.length
   .exact hi
   .rw[j9<|by simpa using hi]at h2
    rw[lD]at h2;split at h2<;>cases h2
  have ha:vs[i]? = some v:=by
   unfold start at h2;rw[kL<|by simpa using hi,cD]at h2;cases e:vs[i]? with
   |none=>rw[e]at h2;cases h2
   |some a=>rw[e]at h2;cases h2;rfl
  obtain⟨u,hu,rv⟩:=r.get ha;have hp:ps[i]? = some y:=by
   rw[<-S.pre,zt<|by omega];exact h1
  have ndP:ps.Nodup:=by rw[<-S.pre];exact S.nd.sublist<|List.take_sublist _ _
  refine⟨u,rv,?_⟩;rcases S.par y (ip hp) with k|k
  .exact .inl ⟨k,fW ndP hp hu k⟩
  .obtain⟨c,e⟩:=eE (n:=s.heap.objs.size+1) k
   refine .inr ⟨.inl k,c,e,?_⟩;have q:=x.cell y c e;rw[fX ndP hp hu (by show scope.names.lookup y≠_;rw[k];decide)]at q;exact q
 .exact e0.hok.fresh<|kK (x.above y c<|Nn h)
 .unfold start
  show _=N.length;rw[gA,bU,oO];omega
theorem Fun.okU{st:Stmt}{sp:Sp}(F:Fun K x qual st f fd)(S:dn N ps (aM st))(len:∀vs H Q E,sp vs H Q E->vs.length=ps.length)
  (hbody:∀ (cdv:Value) (A:Around) (outer:List Env) (s:Shared) (H:Hp) (vs:List V) (Q:VK) (E:XK),RoomU k (A.deeper<|envOfC qual (aM st) s.heap.objs.size f cdv)->sp vs H Q E->
   ∃t,m8 (rR P w K mg base N qual (aM st) f cdv A outer s H) (bQ st) t/\t { nx:=λ_ H'=>Q .non H',rt:=Q } (start N vs) H):xF P w K mg base (k+1) f fd ps sp:=by
 obtain⟨oc,od,kV,doc,pm,an,cdv,ct,osl,rfl,lk,hcd⟩:=F.ex;refine⟨len,λA outer s H args us vs Q E hr e0 hb r hsp=>?_⟩;have hl:=len _ _ _ _ hsp;have KX:K.In s.heap:=e0.mod.kin.keeps λb o e=>(e0.bs b o e).1;have lim:s.heap.NoLimit:=e0.mod.nolimit.keeps λb o e=>(e0.bs b o e).1;have hkind:∀y∈ps.zip us,(aM st).names.lookup y.1=some .local\/((aM st).names.lookup y.1=some .cell/\((cellsFrom (s.heap.objs.size+1) (aM st).names []).lookup y.1).isSome=true):=λ⟨n,v⟩ hy=>by
  rcases S.par n (wW hy).1 with q|q
  .exact .inl q
  .exact .inr ⟨q,PySem.W.cellsFrom_some _ _ _<|.inl q⟩
 refine codeAny_call_function hr.depth (KX _ _ lk) rfl S.co S.gen rfl (PySem.W.codeRec_of KX hcd)<|hb _ _ _ _ ?_;refine wpAny_newFunctionEnv_cells S.kind hkind λenv he s1 x=>?_;subst he;refine⟨lim.keeps x.toInCall.keep,codeAny_func ?_⟩;obtain⟨t,ht,hq⟩:=hbody cdv A outer s H vs Q E (hr.deeper _) hsp;have I:Inv (rR P w K mg base N qual (aM st) f cdv A outer s H) [] (start N vs) H s1:=HF S e0 hl r x;refine Nw (ht [] s1 (start N vs) H _ I hq) (λfl s' hs=>?_) λe s' hs=>hs.elim;have fin:∀{σ':St} {H':Hp} {v:V} {u:Value},Inv (rR P w K mg base N qual (aM st) f cdv A outer s H) [] σ' H' s'->RelV v u->Q v H'->CE outer P w H s Q u s':=
  λ{σ' H' v u} J rv q=>⟨v,H',J.os,J.bare,J.base,J.hok,rv,q⟩
 cases fl with
 |ret u=>
  obtain⟨v,σ',H',J,rv,q⟩:=hs;exact fin J rv q
 |next=>
  obtain⟨σ',H',J,q⟩:=hs;exact fin (v:=V.non) (u:=Value.none) J rfl q
 |brk=>
  obtain⟨_,_,_,q⟩:=hs;exact Nu q
 |cont=>
  obtain⟨_,_,_,q⟩:=hs;exact Nu q
section
variable{sp:Sp}{E:XK}{t:TA}
theorem HG(F:xF X.prog X.w X.K X.mg X.base k f fd ps sp)(hr:RoomU k X.A)(hg:Gl X x)(hm:X.mg x=some (.ref f))(hk:PySem.W.keepIn X.K (.ref f)=true)(hb:Binds X.K fd ps [])
  (ha:PA X (e::es) t) (hdb:(x==("__debug__" : Str))=false:=by decide) (he:starEach (e::es) X.env=(false,eval e X.env)::starEach es X.env:=by rfl) (hpl:(backTo pos<|starEach es X.env).any (·.1)=false:=by rfl) :
  PE X (.Call (.Name x p) (e::es) [] pos) (qj sp [] E t):=by
 have F':∀(pins:List (Addr×Obj)) (σ:St) (H:Hp) (s:Shared) (Q:VK) (us:List Value) (vs:List V),Inv X pins σ H s->Vals vs us->sp (vs++[]) H Q E->wpAny (model X.prog X.w) X.A (call (.ref f) us) (EP X pins σ Q) X.xe s:=by
  intro pins σ H s Q us vs I r h;have r2:Vals (vs++[]) (us++[]):=by simpa using r
  have hl:(us++[]).length=ps.length:=by rw[<-r2.length];exact F.len _ _ _ _ h
  refine wpAny_call<|codeAny_mono (F.run X.A X.stack s H ⟨us,[]⟩ (us++[]) (vs++[]) Q E hr I.env0 (hb s us I.kIn hl) r2 h) λr s' hq=>?_;cases r with
  |error e=>exact Nu hq
  |ok fl=>
   cases fl with
   |ret u=>exact I.after hq|next=>exact Nu hq|brk=>exact Nu hq|cont=>exact Nu hq
 intro pins s σ H Q I h;refine NE<|fv I hg hm ?_ hdb;refine PySem.W.callWith_K (h₀:=X.base) I.ok.mod.kin hk (bW (ha pos pins s σ H _ I h) λus s1 ⟨vs,H1,I1,r,q⟩=>⟨I1.kIn,?_⟩) he hpl;exact F' pins σ H1 s1 Q us vs I1 r q
end
section
open PySem PySem.Spec PySem.Calls PyProof.Rows PySem.W Builtin Builtin.ObjectAttr Builtin.Getset_descriptor
def XAt(h:Heap)(x C:Addr):Prop:=∃ox,h.get? x=some ox/\ox.cls=.ref C/\notCls ox=true
structure ie(K:Frag)(D:Addr):Prop where
 ga:findIn K (.ref D) "__getattribute__" = some (some<|.builtin "BaseException.__getattribute__")
 gn:findIn K (.ref D) "__getattr__" = some none
 be:mroIn K D (.type "BaseException")=some true
 is:(clsIn K D).isSome=true
 at':findIn K (.ref D) "__class__" = some (some<|.builtin "object.__class__")
 gt:specialIn K (.builtin "object.__class__") "__get__" = some (some<|.builtin "getset_descriptor.__get__")
 tk:takesIn K (.builtin "object.__class__")=some true
 ob:mroIn K D (.type "object")=some true
section
variable{E:Value->Shared->Prop}{K:Frag}{x D:Addr}
theorem XAt.type{M:Model}(I:XAt h x D):Looks M h (typeOf<|.ref x) (.ref D):=by obtain⟨ox,h1,h2,_⟩:=I;exact h2▸(Looks.ld h1).andThen .now
theorem HH{M:Model}(X:K.In h)(c:ie K D):Looks M h (find (.ref x) (.ref D) "__class__") (.bind (.builtin "getset_descriptor.__get__")<|.builtin "object.__class__"):=by have L1:=looks_findIn (M:=M) X c.at';have L2:Looks M h (getOf<|some<|.builtin "object.__class__") (some<|.builtin "getset_descriptor.__get__"):=looks_specialIn X c.gt;have L3:=looks_takesIn (M:=M) X c.tk;refine L1.andThen<|L2.andThen ?_;exact(show Looks M h (dataDescriptor? (some<|.builtin "object.__class__")<|some<|.builtin "getset_descriptor.__get__") (some (.builtin "getset_descriptor.__get__",.builtin "object.__class__")) from L3.andThen .now).andThen<|Looks.tag .now
theorem HI{tp:Value}{R:Result->Shared->Prop}(X:K.In s.heap)(I:XAt s.heap x D)(hm:mroIn K D (.type "object")=some true)
  (h:R (.ok<|.ret<|.ref D) s):codeAny (model prog w) A (.call (.builtin "getset_descriptor.__get__") ⟨[.builtin "object.__class__",.ref x,tp],[]⟩) R s:=by
 obtain⟨hh,g,dr,t,os⟩:=s;have L0:=I.type (M:=model prog w);have L1:=looks_mroIn (M:=model prog w) X hm;refine codeAny_call_builtin KF.slot_gs.plain KF.entry_gs<|KF.slot_gs.check _ _ _ _ _ _ _ _ KF.type_class (KF.args_gs _ _ _) ?_;unfold Builtin.«getset_descriptor.__get__» descrGet;rw[dga_obj];refine Nc<|Nf ?_;unfold descrGetter descrCheckInstance descrNameAndClass isInstance;simp only[KF.owner_class]
 repeat lk
 refine⟨Code.quiet_builtin _<|by decide +kernel,codeAny_builtin KF.entry_class ?_⟩;unfold Builtin.«object.__class__» shownTypeOf
 repeat lk
 exact h
theorem HJ{M:Model}{nameV:Value}{Q:Unit->Shared->Prop}(X:K.In s.heap)(I:XAt s.heap x D)(c:ie K D)(hq:Q () s):wpAny M A (checkBuiltinCall "BaseException.__getattribute__" ⟨[.ref x,nameV],[]⟩) Q E s:=by
 have hk:builtinKind "BaseException.__getattribute__" = some .slot:=by decide +kernel
 have hsplit:splitId "BaseException.__getattribute__" = some ("BaseException", "__getattribute__"):=by decide +kernel
 have ha:=PySem.F.args_bexc_ga (.ref x) nameV;have L0:=I.type (M:=M);have L1:=looks_mroIn (M:=M) X c.be;simp only[checkBuiltinCall,hk,hsplit];refine Nc ?_;unfold isInstance;refine Nc<|L0.at (L1.at ?_)
 repeat (first|assumption|wp_step)
theorem HK{Q:Fin->Shared->Prop}(X:K.In s.heap)(I:XAt s.heap x D)(c:ie K D)(hq:Q (.done<|.ret<|.ref D) s) :
  wpAny (model prog w) A (Builtin.«object.__getattribute__» ⟨[.ref x,.str "__class__" tk],[]⟩) Q E s:=by
 obtain⟨hh,g,d,t,os⟩:=s;have L0:=I.type (M:=model prog w);have L2:=HH (x:=x) (M:=model prog w) X c
 repeat (any_goals (first|assumption|(with_reducible refine L0.at ?_)|(with_reducible refine L2.at ?_)|wp_step))
 exact HI (K:=K) (s:=⟨hh,g,d,t,os⟩) X I c.ob<|Nf hq
theorem uR{R:Result->Shared->Prop}(X:K.In s.heap)(I:XAt s.heap x D)(c:ie K D)(hq:R (.ok<|.ret<|.ref D) s) :
  codeAny (model prog w) A (.call (.builtin "BaseException.__getattribute__") ⟨[.ref x,.str "__class__" tk],[]⟩) R s:=
 codeAny_call_builtin PySem.F.attr_ValueError.ga.plain PySem.F.entry_bexc_ga (HJ X I c<|HK X I c hq)
theorem HL{Q:Option Value->Shared->Prop}(X:K.In s.heap)(I:XAt s.heap x D)(c:ie K D)(h:Q (some<|.ref D) { s with toks:=s.toks+1 }):wpAny (model prog w) A (getAttr? (.ref x) "__class__") Q E s:=by
 obtain⟨hh,g,d,t,os⟩:=s;have L0:=I.type (M:=model prog w);have L1:=looks_findIn (M:=model prog w) X c.ga;have L3:=looks_findIn (M:=model prog w) X c.gn;have f3:=PySem.F.attr_ValueError.ga.bind<|.ref x;have hx2:(Value.builtin "BaseException.__getattribute__" == Value.builtin "object.__getattribute__")=false:=by decide +kernel
 have hx1:(onTheHeap (Value.ref D)&&Value.builtin "BaseException.__getattribute__" == Value.builtin "object.__getattribute__")=false:=by rw[hx2];rfl
 unfold getAttr? getAttrBy?;repeat (any_goals (first|assumption|(with_reducible refine L0.at ?_)|(with_reducible refine L1.at ?_)|(with_reducible refine L3.at ?_)|wp_step))
 exact uR (K:=K) (s:=⟨hh,g,d,t+1,os⟩) X I c<|handed_on rfl (Nf h)
theorem C5(c:ie K D):KitX K (.ref x) (.ref D) (λh=>XAt h x D) where
 ty:=λ_ _ _ I=>I.type
 it:=λ_ _ X _=>by
  have hcD:=c.is;unfold clsIn at hcD;split at hcD;rename_i c' d' cd' sl' ho;intro A' Q' E' s' k q;unfold isType loadHead;exact Nc<|wpAny_loadPart (k _ _<|X _ _ ho) (Nf q)
  cases hcD
 ne:=λh tp dd its n sl X htp=>by
  have hcD:=c.is;refine Bool.eq_false_iff.mpr λq=>?_;have e:D=tp:=Value.ref.inj<|beq_iff_eq.mp q;subst e;unfold clsIn at hcD;split at hcD
  rename_i c' d' cd' sl' ho;have z:=(X _ _ ho).symm.trans htp;cases z;cases hcD
 ca:=λX I k=>HL X I c k
end
end
theorem HM:fillsNumberSlot (.type "tuple") "mul" = pure false:=
 PySem.fillsNumberSlot_seq (id:= "tuple.__mul__") (r:=some<|.builtin "tuple.__rmul__") PySem.F.slot_tuple_mul.lookup (by decide +kernel) PySem.F.slot_tuple_rmul.lookup (by decide +kernel)
theorem HN:seqRepeat? (.type "tuple")=pure (some<|.builtin "tuple.__mul__"):=by unfold seqRepeat?;rw[PySem.seqSlot_of (T:= "tuple") (name:= "__mul__") (id:= "tuple.__mul__") PySem.F.slot_tuple_mul.lookup<|by decide +kernel,PySem.seqSlot_of (T:= "tuple") (name:= "__rmul__") (id:= "tuple.__rmul__") PySem.F.slot_tuple_rmul.lookup<|by decide +kernel];rfl
theorem HP(a:Int)(t:Tok)(l:Addr)(items:Array Value)(n:Nat)(dd:Option Addr)(sl:Array (Option Value)) :
  Meets (Builtin.«int.__rmul__» ⟨[.int a t,.ref l],[]⟩) (λ_ R s=>s.heap.get? l=some { cls:=.type "tuple",dict:=dd,data:=.seq items n,slots:=sl }/\R (.ok<|.ret Value.notImplemented) s):=
 .of_wp λprog w A R s h=>by obtain⟨hp,g,d,tk,os⟩:=s;obtain⟨hl,h⟩:=h;wp_walk;exact⟨_,rfl,h⟩
theorem HQ(l:Addr)(items:Array Value)(n:Nat)(dd:Option Addr)(sl:Array (Option Value))(k:Int)(t:Tok)(h1:-(2^63)<=k)(h1':k<2^63)(h2:(items.isEmpty||k==1)=true) :
  Meets (Builtin.«tuple.__mul__» ⟨[.ref l,.int k t],[]⟩) (λ_ R s=>s.heap.get? l=some { cls:=.type "tuple",dict:=dd,data:=.seq items n,slots:=sl }/\R (.ok<|.ret<|Value.ref l) s):=by
 intro prog w A R s h;obtain⟨hp,g,d,tk,os⟩:=s;obtain⟨hl,h⟩:=h;have f1:=AutoSeq1.idx_int;have c1:¬(decide (k < -2^63)||decide (k ≥ 2^63))=true:=by simp;omega
 unfold Builtin.«tuple.__mul__»
 wp_walk using wpAny_loadPart' hl
 rw[if_neg c1]
 wp_walk using wpAny_loadPart' hl
 exact h
theorem HR(l:Addr)(items:Array Value)(n:Nat)(dd:Option Addr)(sl:Array (Option Value))(k:Int)(t:Tok)(h1:-(2^63)<=k)(h1':k<2^63)(h2:¬(items.isEmpty||k==1)=true)(h3:k<=0) :
  Meets (Builtin.«tuple.__mul__» ⟨[.ref l,.int k t],[]⟩) (λ_ R s=>s.heap.get? l=some { cls:=.type "tuple",dict:=dd,data:=.seq items n,slots:=sl }/\R (.ok<|.ret<|Value.ref s.heap.objs.size) { s with heap:=s.heap.push { cls:=Value.type "tuple",data:=Data.seq #[] } }):=by
 intro prog w A R s h;obtain⟨hp,g,d,tk,os⟩:=s;obtain⟨hl,h⟩:=h;have f1:=AutoSeq1.idx_int;have c1:¬(decide (k < -2^63)||decide (k ≥ 2^63))=true:=by simp;omega
 have c2:(decide (k<=0)||items.isEmpty)=true:=by simp[h3]
 unfold Builtin.«tuple.__mul__»
 wp_walk using wpAny_loadPart' hl
 rw[if_neg c1]
 wp_walk using wpAny_loadPart' hl
 exact h
theorem HS(l:Addr)(items:Array Value)(n:Nat)(dd:Option Addr)(sl:Array (Option Value))(k:Int)(t:Tok)(h1:-(2^63)<=k)(h1':k<2^63)(h2:¬(items.isEmpty||k==1)=true)(h3:0<k)(h4:items.size*k.toNat<=sizeLine) :
  Meets (Builtin.«tuple.__mul__» ⟨[.ref l,.int k t],[]⟩) (λ_ R s=>s.heap.get? l=some { cls:=.type "tuple",dict:=dd,data:=.seq items n,slots:=sl }/\R (.ok<|.ret<|Value.ref s.heap.objs.size) { s with heap:=s.heap.push { cls:=Value.type "tuple",data:=Data.seq (List.foldl (λx1 x2=>x1++x2) #[] (List.replicate k.toNat items)) } }):=by
 intro prog w A R s h;obtain⟨hp,g,d,tk,os⟩:=s;obtain⟨hl,h⟩:=h;have f1:=AutoSeq1.idx_int;have c1:¬(decide (k < -2^63)||decide (k ≥ 2^63))=true:=by simp;omega
 have c2:¬(decide (k<=0)||items.isEmpty)=true:=by
  have:items.isEmpty=false:=by cases q:items.isEmpty<;>simp_all
  simp[this];omega
 have hk:(items.size:Int)*k=((items.size*k.toNat:Nat):Int):=by rw[Int.natCast_mul,zB<|by omega]
 have hsl:(sizeLine:Nat)=2^24:=rfl;have c3:¬((items.size:Int)*k>(2^63-1)/8):=by rw[hk];omega
 have c4:¬Builtin.Tuple.tupleTooMany ((items.size:Int)*k)=true:=λz=>by have z':=NI z;rw[hk]at z';omega
 unfold Builtin.«tuple.__mul__»
 wp_walk using wpAny_loadPart' hl
 rw[if_neg c1]
 wp_walk using wpAny_loadPart' hl
 rw[if_neg c3]
 wp_walk using wpAny_loadPart' hl
 rw[if_neg c4]
 wp_walk using wpAny_loadPart' hl
 have hnew:List.foldl (λx1 x2=>x1++x2) #[] (List.replicate k.toNat items)=(List.replicate k.toNat items.toList).flatten.toArray:=by
  have:=eO items.toList k.toNat [];rw[dJ]at this;simpa using this
 have c5:¬((List.foldl (λx1 x2=>x1++x2) #[] (List.replicate k.toNat items)).size>sizeLine):=by
  rw[hnew,eZ,iX,wU,kN];omega
 rw[if_neg c5]
 wp_walk using wpAny_loadPart' hl
 exact h
section
theorem Inv.tnew{ys:List V}{its:List Value}(I:Inv X pins σ H s)(hv:Vals ys its)(hz:ys.length<=sizeLine) :
  Inv X pins σ (upd H s.heap.objs.size<|.tup ys) { s with heap:=s.heap.push { cls:=.type "tuple",data:=.seq its.toArray },toks:=t' }:=
 I.laid (λ_ _ q=>dU _ q) (cB _) ⟨hz,its,hv,IsTup.new _ _⟩
def uS(K:Nd):R2:=λx y H Q=>∃l k xs,x=.ref l/\y=.int k/\SqT K H l xs/\-(2^63)<=k/\k<2^63/\xs.length*k.toNat<=sizeLine/\
 ((xs=[]\/k=1)->Q (.ref l) H)/\∀p,H p=none->Q (.ref p) (upd H p<|.tup (List.replicate k.toNat xs).flatten)
theorem HU:OpR X (binaryOp .Mult) (uS X.K):=by
 intro pins s σ H x y v u Q I rx ry h;obtain⟨l,k,xs,rfl,rfl,hq,h1,h2,hz,q1,q2⟩:=h;cases rx;obtain⟨t,rfl⟩:=ry;obtain⟨its,r,pl,_⟩:=I.tuple hq;have hl:xs.length=its.length:=r.length;obtain⟨⟨cls,dd,data,sl⟩,ho,hc,n,hd⟩:=id pl;simp only at hc hd;subst hc hd;refine wpAny_binaryOp_repeat_ref (T:= "tuple") (U:= "int") (by decide) ⟨_,ho,rfl⟩ (λs'=>typeIs_int s' k t) HM PySem.F.fills_int_mul PySem.F.slot_int_rmul HN PySem.F.slot_int_index.lookup
  (call_meets PySem.F.slot_int_rmul (typeIs_int s k t) PySem.F.entry_int_rmul (PySem.F.args_int_rmul_2 _ _) (HP k t l its.toArray n dd sl) ⟨ho,rfl,⟨_,ho,rfl⟩,?_⟩)
 by_cases hs:(its.toArray.isEmpty||k==1)=true;refine call_meets PySem.F.slot_tuple_mul ⟨_,ho,rfl⟩ PySem.F.entry_tuple_mul (PySem.F.args_tuple_mul_2 _ _) (HQ l its.toArray n dd sl k t h1 h2 hs) ⟨ho,⟨.ref l,H,I,rfl,q1 ?_⟩⟩;rw[zx]at hs;rcases hs with hs|hs
 exact .inl<|r.nil_iff.mp (by simpa using hs)
 exact .inr<|beq_iff_eq.mp hs
 by_cases h3:k<=0;refine call_meets PySem.F.slot_tuple_mul ⟨_,ho,rfl⟩ PySem.F.entry_tuple_mul (PySem.F.args_tuple_mul_2 _ _) (HR l its.toArray n dd sl k t h1 h2 hs h3) ⟨ho,⟨.ref _,_,I.tnew (its:=[]) (ys:=(List.replicate k.toNat xs).flatten) (t':=s.toks) ?_ ?_,rfl,q2 _ I.fresh⟩⟩;rw[show k.toNat=0 by omega];exact .nil;rw[show k.toNat=0 by omega];exact iI _;have hnew:List.foldl (λx1 x2=>x1++x2) #[] (List.replicate k.toNat its.toArray)=(List.replicate k.toNat its).flatten.toArray:=by have:=eO its k.toNat [];rw[dJ]at this;exact this
 refine call_meets PySem.F.slot_tuple_mul ⟨_,ho,rfl⟩ PySem.F.entry_tuple_mul (PySem.F.args_tuple_mul_2 _ _) (HS l its.toArray n dd sl k t h1 h2 hs (by omega) (by rw[eZ,<-hl];exact hz)) ⟨ho,?_⟩;rw[hnew];exact⟨.ref _,_,I.tnew (t':=s.toks) (r.rep k.toNat) (by rw[iX,kN];exact hz),rfl,q2 _ I.fresh⟩
end
theorem HV(h:Heap)(hb:sysModules<h.objs.size):ObjOk P w H (h.push { cls:=.type "dict",data:=.dict #[] }) h.objs.size (.dK []):=
 ⟨iI _,beq_eq_false_iff_ne.mpr<|Nr<|im hb,[],.nil,Heap.DictOf.new h⟩
theorem HW:PE X (.Dict [] [] pos) (λ_ H Q=>∀p,H p=none->Q (.ref p) (upd H p<|.dK [])):=λpins s σ H Q I h=>
 wpAny_Dict_empty ⟨.ref s.heap.objs.size,_,I.laid (a:=s.heap.objs.size) (o:=.dK []) (t':=s.toks) (λ_ _ q=>dU _ q) (cB _)<|HV s.heap<|Nat.lt_trans (by decide) (I.mod.glob.keeps I.bk).lt,rfl,h _<|I.hok.fresh<|cB _⟩
theorem HX(hh:A.handled=none)(it l:Addr)(hne:l≠it)(xs:Array Value):Draws prog w A it [it,l] xs.size (λi v=>xs[i]? = some v) (λi h=>SIt κ h it l i/\SSq κ h l xs) where
 live:=λ_ _ st=>let⟨o,ho,_⟩:=st.1.obj;⟨o,ho⟩
 frame:=λ_ _ _ st hk=>⟨st.1.keep λo e=>hk it (by simp) o e,st.2.keep λo e=>hk l (by simp) o e⟩
 item:=λi s Q E hi st hQ=>xC st.1 st.2 (x:=xs[i]) (by simp[hi]) λh' hit' hs'=>hQ _ h' s.toks (by simp[hi]) ⟨hit',st.2.keep λo e=>hs'.extBut l o hne e⟩ hs'
 done:=λs Q E st hE=>xD hh st.1 st.2 (by simp) hE
theorem HY(hh:A.handled=none)(it l:Addr)(xs:Array Value)(n:Nat)(hn:xs[n]? = none):Draws prog w A it [it,l] n (λ_ _=>False) (λj h=>j=n/\SIt κ h it l n/\SSq κ h l xs) where
 live:=λ_ _ st=>let⟨o,ho,_⟩:=st.2.1.obj;⟨o,ho⟩
 frame:=λ_ _ _ st hk=>⟨st.1,st.2.1.keep λo e=>hk it (by simp) o e,st.2.2.keep λo e=>hk l (by simp) o e⟩
 item:=λi s Q E hi st hQ=>Ng st.1<|im hi
 done:=λs Q E st hE=>xD hh st.2.1 st.2.2 hn hE
abbrev xG(κ:Bool)(h:Heap)(l:Addr):Heap:=h.push<|io κ l
abbrev Az(κ:Bool)(h:Heap)(l:Addr):Heap:=(xG κ h l).push { cls:=.type "enumerate",data:=.fields #[.none,.bool false,.ref h.objs.size,rawInt 0,.none,.none] }
theorem HZ(l:Addr)(xs:Array Value)(n:Nat)(dct:Option Addr)(sl:Array (Option Value)) :
  Meets (Builtin.«enumerate.__new__» ⟨[.type "enumerate",.ref l],[]⟩) (λ_ R s=>s.heap.get? l=some { cls:=.type "tuple",dict:=dct,data:=.seq xs n,slots:=sl }/\R (.ok<|.ret<|.ref (xG true s.heap l).objs.size) { s with heap:=Az true s.heap l }):=
 .of_wp λprog w A R s h=>by
  obtain⟨hp,g,d,tk,os⟩:=s;obtain⟨hl,h⟩:=h;have hsub:=sub_enumerate;have hT:SSq true (Shared.heap ⟨hp,g,d,tk,os⟩) l xs:=(show Heap.IsTuple _ l xs from⟨_,hl,rfl,n,rfl⟩)
  wp_walk using AutoSeq1.wpAny_loadPart' hl
  refine wpAny_stack_any λst=>(Nf ?_);split
  .rename_i c _ _ _ _ _
   cases(c==Value.type "enumerate")<;>(wp_walk using AutoSeq1.wpAny_loadPart' hl,xE hT;exact⟨_,rfl,h⟩)
  .wp_walk using AutoSeq1.wpAny_loadPart' hl,xE hT
   exact⟨_,rfl,h⟩
theorem Zn{E:Value->Shared->Prop}(hL:SSq κ s.heap l xs)
  (h:∀h',IsEnum h' (s.heap.objs.size+1) s.heap.objs.size 0 .none->SIt κ h' s.heap.objs.size l 0->(∀b o,s.heap.get? b=some o->h'.get? b=some o)->Q (.ref<|s.heap.objs.size+1) { s with heap:=h' }) :
  wpAny (model prog w) A (call (.type "enumerate") [.ref l]) Q E s:=by
 cases κ with
 |false=>exact call_enumerate_list hL λh' he hi _ hk=>h h' he hi hk
 |true=>
  obtain⟨⟨c,dct,dt,sl⟩,hl,hc,n,hd⟩:=(show s.heap.IsTuple l xs from hL)
  replace hc:c=.type "tuple" :=hc;replace hd:dt=.seq xs n:=hd;subst hc hd;refine callType_new F.called_enumerate (by decide) (F.typeCall_enumerate_1 _) (F.newCall_enumerate_1 _) (λobj=>F.args_object_init_2 obj _) F.entry_enumerate_new (HZ l xs n dct sl) ⟨hl,?_⟩;have hz:(xG true s.heap l).objs.size=s.heap.objs.size+1:=oQ ..;have g2:(Az true s.heap l).get? (xG true s.heap l).objs.size=some _:=hV _ rfl;have g1:(Az true s.heap l).get? s.heap.objs.size=some _:=dU _<|hV _ rfl;show _/\_;rw[hz]at g2 ⊢;exact⟨⟨_,g2,rfl⟩,h _ g2 (Aw g1) λb o x=>dU _<|dU _ x⟩
def C6(K:Nd)(κ:Bool)(a:Addr):It:=
  ⟨λi H=>∃ xs x,Sq K κ H a xs/\xs[i]? = some x,
   λi H v H'=>∃p x,v=.ref p/\H p=none/\H'=upd H p (.tup [.int i,x])/\∀xs,Sq K κ H a xs->xs[i]? = some x,
   λi H=>∃xs,Sq K κ H a xs/\xs.length<=i⟩
theorem Ia{ps:Pos}(a e it:Addr)(hne:e≠it) :
  ji P w K (.Tuple es n1 ps) (C6 K κ a) [e,it] e (λi h=>(∃old,IsEnum h e it i old)/\SIt κ h it a i) where
 mem:=by simp
 obj:=λi h ⟨⟨old,q1⟩,q2⟩ c hc=>by
  simp only[Yam,d7,or_false]at hc;rcases hc with rfl|rfl
  .exact⟨_,q1,λv e=>by cases e⟩
  .exact q2.obj
 keep:=λi h h' ⟨⟨old,q1⟩,q2⟩ k=>⟨⟨old,k e (by simp) _ q1⟩,q2.keep λo x=>k it (by simp) o x⟩
 item:=by
  intro X hP hw hK hc i pins s σ H E I hf ⟨⟨old,q1⟩,q2⟩ hg;subst hP hw hK;obtain⟨xs,x,hx,ex⟩:=hg;obtain⟨its,rv,p,hz⟩:=I.sq hx;obtain⟨ux,hux,rux⟩:=rv.get ex;have oe:=I.sq_out hx<|hf e (by simp);have oi:=I.sq_out hx<|hf it (by simp);have hi:i<its.toArray.size:=by have:=(Yap.mp hux).1;simpa using this
  refine wpAny_pyNext_enum_itemD (HX (κ:=κ) (A:=X.A.in1) (I.ok.hd hc) it a oi its.toArray) q1 ⟨q2,p⟩ hi hne (by simp[hne,Nr oe]) λy h' tk b1 b2 b3 b4 b5 b6=>⟨_,rfl,?_⟩;have ey:y=ux:=by
   have:its[i]? = some y:=by simpa using b1
   rw[hux]at this;exact(Nk this).symm
  subst ey;refine wpAny_letOwnedTupleGo_enum (s:={ s with heap:=h',toks:=tk+1 }) b2 λh2 c1 c2=>?_;have lt:∀{c o},s.heap.get? c=some o->c≠s.heap.objs.size:=λz=>im<|dG z;have el:=lt q1;have up:∀c o,c∉[e,it]->s.heap.get? c=some o->h2.get? c=some o:=λc o hc z=>by
   simp only[Yam,d7,or_false,not_or]at hc;exact c2.extBut _ _ hc.1<|b6 c o hc.1 hc.2 z
  refine⟨.ref s.heap.objs.size,upd H s.heap.objs.size<|.tup [.int i,x],Inv.turnedN (s:=s) (t':=tk+1) [e,it] I up hf (cB _) ?_,rfl,⟨s.heap.objs.size,x,rfl,I.fresh,rfl,λxs' h'=>by rw[I.sq_inj h' hx];exact ex⟩,?_,λc hc=>?_⟩
  .refine⟨by rw[sizeLine_eq];simp,[.int i tk,y],.cons ⟨_,rfl⟩<|.cons rux .nil,?_⟩
   exact⟨_,c2.extBut _ _ (Nr el) b4,rfl,_,rfl⟩
  .exact⟨⟨_,by simpa using c1⟩,b3.1.keep λo z=>c2.extBut _ o (Nr hne) z⟩
  .have he:∃o,s.heap.get? c=some o:=by
    simp only[Yam,d7,or_false]at hc;rcases hc with rfl|rfl
    .exact⟨_,q1⟩
    .obtain⟨o,z,_⟩:=q2.obj;exact⟨o,z⟩
   obtain⟨o,z⟩:=he;rw[aI<|lt z];exact(hf c hc).1
 done:=by
  intro X hP hw hK hc i pins s σ H E I hf ⟨⟨old,q1⟩,q2⟩ hg;subst hP hw hK;obtain⟨xs,hx,en⟩:=hg;obtain⟨its,rv,p,hz⟩:=I.sq hx;have l1:=rv.length;have oi:=I.sq_out hx<|hf it (by simp);refine wpAny_pyNext_enum_endD (HY (κ:=κ) (A:=X.A.in1) (I.ok.hd hc) it a its.toArray i (by simp;omega)) q1 ⟨rfl,q2,p⟩ λh' k=>⟨rfl,?_⟩;refine I.turnedL (t':=s.toks) [e,it] (λc o hc z=>?_) hf;simp only[Yam,d7,or_false,not_or]at hc;exact k c o hc.2 z
 self:=λ_ _ _ _ _ st h=>let⟨⟨_,q⟩,_⟩:=st;wpAny_pyIter_enum q h
theorem Ib(n b:Nat)(h:b=n+1\/b=n):n<=b:=by omega
section
def uT(K:Nd)(ta:TA):TI:=λσ H R=>ta σ H λvs H1=>∃κ a,vs=[.ref a]/\(∃xs,Sq K κ H1 a xs)/\R (C6 K κ a) H1
theorem Ic{a:Expr}{ps:Pos}(hg:Gl X "enumerate")(hm:X.mg "enumerate" = none)(ha:PA X [a] ta)(hs:starEach [a] X.env=[(false,eval a X.env)]:=by rfl) :
  PI X (.Tuple es n1 ps) (.Call (.Name "enumerate" p) [a] [] pos) (uT X.K ta):=by
 intro pins s σ H R I h;refine Call_<|ez I hg hm boot_enumerate (PyProof.Rows.callWith_type1 (bW (ha pos pins s σ H _ I h) λus s1 ⟨vs,H1,I1,r1,q1⟩=>?_) hs rfl);obtain⟨κ,l,rfl,⟨xs,hx⟩,q⟩:=q1;cases r1 with
 |cons r rr=>
  cases rr;cases r;obtain⟨its,rv,p1,hz⟩:=I1.sq hx;refine Zn p1 λh' a1 a2 k=>wpAny_pyIter_enum (s:={ s1 with heap:=h' }) a1 ?_;refine⟨_,[s1.heap.objs.size+1,s1.heap.objs.size],_,_,H1,rfl,I1.kept (t':=s1.toks) k,Ia (κ:=κ) l _ _<|Nat.succ_ne_self _,⟨⟨_,a1⟩,a2⟩,λb hb=>?_,q⟩;have hb':s1.heap.objs.size<=b:=by
   simp only[Yam,d7,or_false]at hb;exact Ib _ _ hb
  exact I1.fpOk hb'<|I1.hok.fresh hb'
end
namespace Fl
def quiet(f:Str):List Str:=["__setattr__", "__getattribute__", "__getattr__",f]
def C7(K:Nd)(ns:List Str)(bmB:List Value):List Value->Bool
 |[]=>bmB==[]
 |v::r=>(v::r)==bmB||match v with
  | .ref a=>(match K.lookup a with
   |some ⟨_,_,.cls cd,_⟩=>PySem.W.nsOkIn K cd.ns&&ns.all (λn=>PySem.W.nsIn K cd.ns n==some none)&&C7 K ns bmB r
   |_=>false)
  |_=>false
def clsF(K:Nd)(C:Addr)(bmB:List Value)(newId:String)(f:Str)(fI:Addr):Bool:=match K.lookup C with
 | some ⟨.type "type",_,.cls cd,sl⟩=>(match cd.mro,sl.toList with
  |.ref C'::bm,[_,_,_,_,some<|.builtin n,_]=>C'==C&&n==newId && !cd.hasDel&&cd.hasDict&&C7 K ("__init__" ::quiet f) bmB bm&&PySem.W.nsOkIn K cd.ns&&PySem.W.nsIn K cd.ns "__init__" == some (some<|.ref fI)&&(quiet f).all (λn=>PySem.W.nsIn K cd.ns n==some none)
  |_,_=>false)
 |_=>false
abbrev bmV:List Value:=[.type "ValueError",.type "Exception",.type "BaseException",.type "object"]
end Fl
theorem C8(f:Nat->Int):∀k,argBest (λi j=>decide (f i<f j)) k<=k/\∀j,j<=k->f (argBest (λi j=>decide (f i<f j)) k)<=f j
 |0=>⟨cB _,λj hj=>by rw[Nat.le_zero.mp hj];exact Int.le_refl _⟩
 |k+1=>by
  obtain⟨h1,h2⟩:=C8 f k;rw[argBest];by_cases z:f (k+1)<f (argBest (λi j=>decide (f i<f j)) k);rw[if_pos<|Nj z];refine⟨cB _,λj hj=>?_⟩;rcases Nat.eq_or_lt_of_le hj with rfl|hj
  exact Int.le_refl _;have:=h2 j (by omega);omega;rw[if_neg<|by simpa using z];refine⟨by omega,λj hj=>?_⟩;rcases Nat.eq_or_lt_of_le hj with rfl|hj
  omega;exact h2 j (by omega)
section
theorem Id(hc:X.calm=true):dZ X (.builtin "min") (λxs H Q=>∃(p:Addr) (ns:List Int),xs=[.ref p]/\SqL X.K H p (ns.map V.int)/\ns≠[]/\∀m∈ns,(∀x∈ns,m<=x)->Q (.int m) H):=by
 intro pins s σ H xs us Q I r h;obtain⟨p,ns,rfl,hq,hne,q⟩:=h;obtain⟨u,rfl,ru⟩:=eC r;cases ru;obtain⟨its,rv,pl,hz⟩:=I.list hq;have hits:∃ps:List (Int×Tok),its=ps.map (λp=>Value.int p.1 p.2)/\ps.map (·.1)=ns:=by
  clear hz pl hq q hne;induction ns generalizing its with
  |nil=>cases rv;exact⟨[],rfl,rfl⟩
  |cons n ns ih=>
   cases rv with
   |cons r1 r2=>
    obtain⟨t,rfl⟩:=r1;obtain⟨ps,rfl,e⟩:=ih _ r2;exact⟨(n,t)::ps,rfl,by rw[cP,e]⟩
 obtain⟨ps,rfl,e⟩:=hits;have hl:s.heap.IsList p (intItems ps.toArray):=by have:=pl.isList;simpa[intItems] using this
 have h0:0<ps.length:=by
  cases ps with
  |nil=>rw[<-e]at hne;exact Ng rfl hne|cons _ _=>simp
 refine min_intList (I.ok.hd hc) hl (by simpa using h0) λv h' tk hv k=>?_;obtain⟨b1,b2⟩:=C8 (numAt ps.toArray)<|ps.toArray.size-1;generalize argBest (λi j=>decide (numAt ps.toArray i<numAt ps.toArray j)) (ps.toArray.size-1)=a at hv b1 b2;have ha:a<ps.length:=by simp at b1;omega
 have na:∀j,j<ps.length->ns[j]? = some (numAt ps.toArray j):=λj hj=>by rw[<-e,cD,bP hj];simp[numAt,hj]
 have ev:v=.int (numAt ps.toArray a) (ps[a]'ha).2:=by rw[show(intItems ps.toArray)[a]? = some (Value.int (ps[a]'ha).1 (ps[a]'ha).2) by simp[intItems,ha]]at hv;rw[<-Nk hv];simp[numAt,ha]
 refine⟨.int<|numAt ps.toArray a,H,I.kept k,⟨_,ev⟩,q _ (ip<|na a ha) λx hx=>?_⟩;obtain⟨j,hj⟩:=List.mem_iff_getElem?.mp hx;have hj':j<ps.length:=by have:=(Yap.mp hj).1;rw[<-e]at this;simpa using this
 rw[na j hj']at hj;rw[<-Nk hj];exact b2 j (by simp;omega)
end
def xH(lo:Int)(n:Nat):It:=⟨λi _=>i<n,λi H x H'=>H'=H/\x=.int (lo-i),λi _=>n<=i⟩
theorem Ie(it:Addr)(lo:Int)(n:Nat):ji P w K tg (xH lo n) [it] it (λi h=>IsRangeIter h it (lo+(i:Nat)*(-1)) ((n:Int)-(i:Nat)) (-1)) where
 mem:=by simp
 obj:=λi h st b hb=>by
  have e:b=it:=by simpa using hb
  subst e;exact ⟨_,st,λv z=>by
   have z':Data.fields _=Data.cell v:=z;cases z'⟩
 keep:=λi h h' st k=>k it (by simp) _ st
 item:=by intro X hP hw hK hc i pins s σ H E I hf st hg;subst hP hw hK;obtain⟨f0,f1,f2,f3,f4,f5⟩:=hf it (by simp);have W:=Walks.range (prog:=X.prog) (w:=X.w) (I.ok.hd hc) it lo (-1) n;refine W.item i s _ _ hg st λv h' tk hv st' kk=>?_;obtain⟨t,rfl⟩:=hv;have I1:Inv X pins σ H { s with heap:=h',toks:=tk }:=I.turned (λb o hb e=>kk b o (by simpa using hb) e) f0 f1 f3 f4 f5;refine⟨_,rfl,kq (s:={ s with heap:=h',toks:=tk }) (n:= "range_iterator") st' rfl rfl (by decide) ⟨.int<|lo-i,H,I1,⟨t,?_⟩,⟨rfl,rfl⟩,st',λb hb=>(hf b hb).1⟩⟩;rw[show lo-(i:Int)=lo+(i:Int) * -1 by omega]
 done:=by intro X hP hw hK hc i pins s σ H E I hf st hg;subst hP hw hK;obtain⟨f0,f1,f2,f3,f4,f5⟩:=hf it (by simp);exact wpAny_pyNext_range_end (I.ok.hd hc) st (by have:n<=i:=hg;omega) λh' eb=>⟨rfl,I.turned (t':=s.toks) (λb o hb e=>eb b o hb e) f0 f1 f3 f4 f5⟩
 self:=λ_ _ _ _ _ st h=>wpAny_pyIter_rangeiter st h
section
theorem Ig{R:It->Hp->Prop}{E:Value->Shared->Prop}{lo hi:Int}{t u v:Tok}{tk:Nat}(I:Inv X pins σ H s)(h1:-(2^62)<=lo)(h2:lo<2^62)(h3:-(2^62)<=hi)(h4:hi<2^62)
  (q:R (xH lo (lo-hi).toNat) H):wpAny (model X.prog X.w) X.A (pyIter<|.ref s.heap.objs.size) (Ac X pins σ tg R) E { s with heap:=s.heap.push { cls:=.type "range",data:=.fields #[.int lo t,.int hi u,.int (-1) v] },toks:=tk }:=by
 refine wpAny_pyIter_range (IsRange.new ..) (PySem.W.small_down h1 h2 h3 h4) ?_;have I1:Inv X pins σ H { s with heap:=s.heap.push { cls:=.type "range",data:=.fields #[.int lo t,.int hi u,.int (-1) v] },toks:=tk }:=I.kept λb o e=>dU _ e;refine ⟨(s.heap.push { cls:=.type "range",data:=.fields #[.int lo t,.int hi u,.int (-1) v] }).objs.size,[(s.heap.push { cls:=.type "range",data:=.fields #[.int lo t,.int hi u,.int (-1) v] }).objs.size],_,_,H,rfl,
  I1.kept (t':=tk) λb o e=>dU _ e,Ie _ lo (lo-hi).toNat,?_,λb hb=>?_,q⟩
 .have e1:lo+((0:Nat):Int)*(-1)=lo:=by simp
  have e2:(((lo-hi).toNat:Nat):Int)-((0:Nat):Int)=Builtin.Range.rangeSize lo hi (-1):=by rw[PySem.W.rangeSize_downNat];omega
  show IsRangeIter _ _ (lo+((0:Nat):Int)*(-1)) ((((lo-hi).toNat:Nat):Int)-((0:Nat):Int)) (-1);rw[e1,e2];exact hV _ rfl
 .have e:b=(s.heap.push { cls:=.type "range",data:=.fields #[.int lo t,.int hi u,.int (-1) v] }).objs.size:=by simpa using hb
  subst e;exact I1.fpOk (cB _)<|I1.hok.fresh (cB _)
def uU(ta:TA):TI:=λσ H R=>ta σ H λvs H1=>∃i j:Int,vs=[.int i,.int j,.int (-1)]/\(-10000<=i/\i<10000/\-10000<=j/\j<10000)/\R (xH i (i-j).toNat) H1
theorem Ih{a b c:Expr}(hg:Gl X "range")(hm:X.mg "range" = none)(ha:PA X [a,b,c] ta)(hs:starEach [a,b,c] X.env=(false,eval a X.env)::starEach [b,c] X.env:=by rfl)(hs2:(backTo pos<|starEach [b,c] X.env).any (·.1)=false:=by rfl) :
  PI X tg (.Call (.Name "range" p) [a,b,c] [] pos) (uU ta):=by
 intro pins s σ H R I h;refine Call_<|ez I hg hm boot_range (PyProof.Rows.callWith_type1 (bW (ha pos pins s σ H _ I h) λus s1 ⟨vs,H1,I1,r1,q1⟩=>?_) hs hs2);obtain⟨i,j,e,⟨q1,q2,q3,q4⟩,q⟩:=q1;subst e;cases r1 with
 |cons r rr=>
  cases rr with
  |cons r' rr=>
   cases rr with
   |cons r'' rr=>
    cases rr;obtain⟨t,rfl⟩:=r;obtain⟨t',rfl⟩:=r';obtain⟨t'',rfl⟩:=r'';exact call_range_3 (by decide) (Ig I1 (by omega) (by omega) (by omega) (by omega) q)<|.inl (PyProof.noPylong_of_log2<|by decide)
end
end L2
namespace LP
open PySem PySem.Spec PyProof.Rows L2
variable{n a b c k i j n1 m:Nat}{K:Nd}{vs us:List V}{e tg elt target iter ix:Expr}{H H1 H2 H0:Hp}{o:HO}{σ:L2.St}{X:Cx}{EX:XK}{pos p p2 pos' spos apos cpos np:Pos}{x qual name:Str}{op:CmpOp}{es ifs:List Expr}{t:List (List Int)}{T L U:Nat->Nat->Rat}{f fa:Addr}{fd:FuncData}{ps vars:List Str}{pins:List (Addr×Obj)}{s:List Int}{lo hi:Option Expr}{st:Stmt}{sts body:List Stmt}{sc:Scope}{sel ws:List Nat}{P:Program}{mg:Str->Option Value}{base h:Heap}{q q0:Rat}{r row:List Rat}{l:PySem.W.OpenLaw}{A:Nat->Nat->Int}{od an:Option Addr}{osl sl:Array (Option Value)}{ld:List (List Rat)}{XP:(Str->Option Value)->Heap->Prop}{YP:World->Heap->Prop}
set_option genInjectivity true in
inductive D where
 |non|bl (b:Bool)|int (i:Int)|str (x:Str)|tup (xs:List D)|lst (xs:List D)|dic|pen|cls (n:Str)|exc (n:Str)|ty (n:String)|scr (xs:List D)
variable{ds xs ys:List D}{d y:D}{v:Except Str D}{xss:List (List D)}{Q:D->Prop}{Q' QL:List D->Prop}
structure Wd where
 G:Hp
 Pn:Addr->Prop
variable{W1 W2 W0:Wd}
def KT(K:Nd)(a:Addr)(vs:List V):Prop:=
 ∃(o:Obj) (its:Array Value) (n:Nat),K.lookup a=some o/\o.cls=.type "tuple" /\o.data=.seq its n/\its.size<=sizeLine/\Vals vs its.toList
def i8(K:Nd)(n:Str):Option Addr:=match PySem.W.nsIn K mainGlobals n with|some (some<|.ref a)=>some a|_=>none
def xtab:List (Str×Str×Str×Int):=[("NotStrong1", "NotStrong", "size",1),("NotStrong2", "NotStrong", "size",2),("NotStrong3", "NotStrong", "size",3),("NotStrong4", "NotStrong", "size",4),("NotStrong5", "NotStrong", "size",5),("NoText0", "NoText", "row",0),("NoText1", "NoText", "row",1),("NoText2", "NoText", "row",2),("NoText3", "NoText", "row",3),("NoText4", "NoText", "row",4),("NoText5", "NoText", "row",5),("NoText6", "NoText", "row",6),("NoText7", "NoText", "row",7),("NoText8", "NoText", "row",8),("NoText9", "NoText", "row",9),("NoText10", "NoText", "row",10),("NoText11", "NoText", "row",11),("NoText12", "NoText", "row",12),("NoText13", "NoText", "row",13),("NoText14", "NoText", "row",14),("NoText15", "NoText", "row",15)]
def nQ(n:Str):Option (Str×Str×Int):=(xtab.find? λr=>r.1==n).map (·.2)
def nR(n:Str):Str:=match nQ n with|some r=>r.1|none=>n
def qr(C a:Addr)(dx:Option Addr):HO:=.ext λh=>∃oe,h.get? a=some oe/\oe.cls=.ref C/\PySem.W.notCls oe=true/\oe.dict=dx/\∃vs,oe.data=.fields vs
def XD(W:Wd)(n:Str)(dx:Option Addr):Prop:=∀c f k,nQ n=some (c,f,k)->∃d,dx=some d/\W.G d=some (.xd [(f,.int k)])
theorem XD.none{W:Wd}{n:Str}{dx:Option Addr}(h:nQ n=none):XD W n dx:=λc f k e=>by rw[h]at e;cases e
theorem XD.mono{W W':Wd}{n:Str}{dx:Option Addr}(g:∀a o,W.G a=some o->W'.G a=some o)(h:XD W n dx):XD W' n dx:=λc f k e=>let⟨d,e1,e2⟩:=h c f k e;⟨d,e1,g _ _ e2⟩
theorem Ii{n:Str}(h:nQ n=none):nR n=n:=by unfold nR;rw[h]
def KL(K:Nd)(a:Addr)(vs:List V):Prop:=
 ∃(o:Obj) (its:Array Value) (n:Nat),K.lookup a=some o/\o.cls=.type "list" /\o.dict=none/\o.data=.seq its n/\its.size<=sizeLine/\Vals vs its.toList
mutual
inductive Rep (K:Nd) (W:Wd):V->D->Prop
 |non:Rep K W .non .non
 |bl (b:Bool):Rep K W (.bl b) (.bl b)
 |int (i:Int):Rep K W (.int i) (.int i)
 |str (x:Str):Rep K W (.str x) (.str x)
 |tup {a:Addr} {vs:List V} {ds:List D}:W.G a=some (.tup vs)->Reps K W vs ds->Rep K W (.ref a) (.tup ds)
 |ktup {a:Addr} {vs:List V} {ds:List D}:KT K a vs->Reps K W vs ds->Rep K W (.ref a) (.tup ds)
 |lst {a:Addr} {vs:List V} {ds:List D}:W.G a=some (.lst vs)->Reps K W vs ds->Rep K W (.ref a) (.lst ds)
 |scr {a:Addr} {vs:List V} {ds:List D}:((∃o,W.G a=some (.frz o<|.lst vs))\/KL K a vs)->Reps K W vs ds->Rep K W (.ref a) (.scr ds)
 |dic {a:Addr}:W.G a=some (.dK [])->Rep K W (.ref a) .dic
 |pen {a:Addr}:W.Pn a->Rep K W (.ref a) .pen
 |cls {a:Addr} {n:Str}:i8 K n=some a->Rep K W (.ref a) (.cls n)
 |exc {a C:Addr} {n:Str} {dx:Option Addr}:W.G a=some (qr C a dx)->i8 K (nR n)=some C->XD W n dx->Rep K W (.ref a) (.exc n)
 |ty (n:String):Rep K W (.ty n) (.ty n)
inductive Reps (K:Nd) (W:Wd):List V->List D->Prop
 |nil:Reps K W [] []
 |cons {v:V} {d:D} {vs:List V} {ds:List D}:Rep K W v d->Reps K W vs ds->Reps K W (v::vs) (d::ds)
end
section
variable{W W':Wd}
mutual
theorem Rep.mono(g:∀a o,W.G a=some o->W'.G a=some o)(p:∀a,W.Pn a->W'.Pn a):∀{v:V} {d:D},Rep K W v d->Rep K W' v d
 |_,_,.non=>.non|_,_,.bl b=>.bl b|_,_,.int i=>.int i|_,_,.str x=>.str x|_,_,.tup e r=>.tup (g _ _ e)<|Reps.mono g p r
 |_,_,.ktup e r=>.ktup e<|Reps.mono g p r
 |_,_,.lst e r=>.lst (g _ _ e)<|Reps.mono g p r
 |_,_,.scr e r=>.scr (e.elim (λ⟨o,z⟩=>.inl ⟨o,g _ _ z⟩) .inr)<|Reps.mono g p r
 |_,_,.dic e=>.dic<|g _ _ e
 |_,_,.pen e=>.pen<|p _ e
 |_,_,.cls e=>.cls e|_,_,.exc e h x=>.exc (g _ _ e) h<|x.mono g
 |_,_,.ty n=>.ty n
theorem Reps.mono(g:∀a o,W.G a=some o->W'.G a=some o)(p:∀a,W.Pn a->W'.Pn a):∀{vs:List V} {ds:List D},Reps K W vs ds->Reps K W' vs ds
 |_,_,.nil=>.nil|_,_,.cons r t=>.cons (Rep.mono g p r)<|Reps.mono g p t
end
theorem Reps.length:∀{vs:List V} {ds:List D},Reps K W vs ds->vs.length=ds.length
 |_,_,.nil=>rfl|_,_,.cons _ t=>by simp[Reps.length t]
theorem Reps.get:∀{vs:List V} {ds:List D} {i:Nat} {d:D},Reps K W vs ds->ds[i]? = some d->∃v,vs[i]? = some v/\Rep K W v d
 |_,_,_,_,.nil,e=>by simp at e|_,_,0,_,.cons r _,e=>by simp at e;subst e;exact⟨_,rfl,r⟩|_,_,i+1,d,.cons _ t,e=>by obtain⟨u,h1,h2⟩:=Reps.get (i:=i) (d:=d) t (by simpa using e);exact⟨u,by simpa using h1,h2⟩
theorem Reps.append:∀{vs us:List V} {ds es:List D},Reps K W vs ds->Reps K W us es->Reps K W (vs++us) (ds++es)
 |_,_,_,_,.nil,s=>s|_,_,_,_,.cons r t,s=>.cons r<|Reps.append t s
theorem Reps.take:∀{vs:List V} {ds:List D} (n:Nat),Reps K W vs ds->Reps K W (vs.take n) (ds.take n)
 |_,_,0,_=>.nil|_,_,_+1,.nil=>.nil|_,_,n+1,.cons r t=>.cons r<|Reps.take n t
theorem Reps.drop:∀{vs:List V} {ds:List D} (n:Nat),Reps K W vs ds->Reps K W (vs.drop n) (ds.drop n)
 |_,_,0,r=>r|_,_,_+1,.nil=>.nil|_,_,n+1,.cons _ t=>Reps.drop n t
theorem Reps.set{v:V}{d:D}(r:Rep K W v d):∀{vs:List V} {ds:List D} (i:Nat),Reps K W vs ds->Reps K W (vs.set i v) (ds.set i d)
 |_,_,_,.nil=>.nil|_,_,0,.cons _ t=>.cons r t|_,_,i+1,.cons q t=>.cons q<|Reps.set r i t
theorem Reps.rev(r:Reps K W vs ds):Reps K W vs.reverse ds.reverse:=by
 induction vs generalizing ds with
 |nil=>cases r;exact .nil
 |cons v vs ih=>cases r with|cons r t=>rw[wZ,wZ];exact(ih t).append<|.cons r .nil
theorem Reps.one(r:Reps K W us [d]):∃v,us=[v]/\Rep K W v d:=by cases r with|cons r t=>cases t;exact⟨_,rfl,r⟩
theorem Reps.two{e:D}(r:Reps K W us [d,e]):∃v u,us=[v,u]/\Rep K W v d/\Rep K W u e:=by cases r with|cons r t=>cases t with|cons r' t=>cases t;exact⟨_,_,rfl,r,r'⟩
end
def ZpE(H:Hp)(a:Addr):Prop:=∃i j k:Int,H a=some (.lst [.int i,.int j,.int k])
structure WOk(W:Wd)(H:Hp):Prop where
 g:∀a o,W.G a=some o->H a=some o
 p:∀a,W.Pn a->ZpE H a/\W.G a=none
structure Ext(W:Wd)(H:Hp)(W':Wd)(H':Hp):Prop where
 ok:WOk W' H'
 g:∀a o,W.G a=some o->W'.G a=some o
 p:∀a,W.Pn a->W'.Pn a
 gf:∀a,W.G a=none->W'.G a≠none->H a=none
 pf:∀a,¬W.Pn a->W'.Pn a->H a=none
 h:∀a o,H a=some o->¬W.Pn a->H' a=some o
section
variable{W:Wd}
theorem Ext.refl(ok:WOk W H):Ext W H W H:=⟨ok,λ_ _ e=>e,λ_ e=>e,λ_ e n=>Ng e n,λ_ n e=>Ng e n,λ_ _ e _=>e⟩
theorem ZpE.ne{a:Addr}(p:ZpE H a):H a≠none:=by obtain⟨_,_,_,e⟩:=p;rw[e];simp
theorem Ext.isN(x:Ext W H W1 H1){a:Addr}(h:H1 a=none):H a=none:=by
 cases q:H a with
 |none=>rfl
 |some o=>
  by_cases hp:W.Pn a;exact Ng h<|(x.ok.p a<|x.p a hp).1.ne
  rw[x.h a o q hp]at h;cases h
theorem Ext.trans(x:Ext W H W1 H1)(y:Ext W1 H1 W2 H2):Ext W H W2 H2 where
 ok:=y.ok
 g:=λa o e=>y.g a o<|x.g a o e
 p:=λa e=>y.p a<|x.p a e
 gf:=λa e n=>by
  cases q:W1.G a with
  |none=>exact x.isN<|y.gf a q n
  |some o=>exact x.gf a e (by rw[q];simp)
 pf:=λa e n=>by by_cases q:W1.Pn a;exact x.pf a e q;exact x.isN<|y.pf a q n
 h:=λa o e n=>y.h a o (x.h a o e n) λq=>by have:=x.pf a n q;rw[e]at this;cases this
theorem Ext.rep(x:Ext W H W1 H1){v:V}(r:Rep K W v d):Rep K W1 v d:=r.mono x.g x.p
theorem Ext.reps(x:Ext W H W1 H1){v:List V}{d:List D}(r:Reps K W v d):Reps K W1 v d:=r.mono x.g x.p
def Wd.put(W:Wd)(a:Addr)(o:HO):Wd:=⟨upd W.G a o,W.Pn⟩
theorem Ext.put{a:Addr}{o:HO}(ok:WOk W H)(h:H a=none):Ext W H (W.put a o) (upd H a o) where
 ok:=⟨λb u e=>by
   unfold Wd.put at e;dsimp only at e
   by_cases hb:b=a
   .subst hb;rw[aT]at e ⊢;exact e
   .rw[aI hb]at e ⊢;exact ok.g b u e,
  λb hb=>by
   have⟨p1,p2⟩:=ok.p b hb;have hne:b≠a:=λz=>p1.ne (by rw[z];exact h);refine⟨?_,by unfold Wd.put;dsimp only;rw[aI hne];exact p2⟩;obtain⟨i,j,k,e⟩:=p1;exact⟨i,j,k,by rw[aI hne];exact e⟩⟩
 g:=λb u e=>by
  have:b≠a:=λz=>by have:=ok.g b u e;rw[z,h]at this;cases this
  unfold Wd.put;dsimp only;rw[aI this];exact e
 p:=λb e=>e
 gf:=λb e n=>by by_cases hb:b=a;rw[hb];exact h;unfold Wd.put at n;dsimp only at n;rw[aI hb]at n;exact Ng e n
 pf:=λb n e=>Ng e n
 h:=λb u e _=>by
  have:b≠a:=λz=>by rw[z,h]at e;cases e
  rw[aI this];exact e
theorem Ext.new{a:Addr}(ok:WOk W H)(h:H a=none):Ext W H W (upd H a o) where
 ok:=⟨λb u e=>by
   have q:=ok.g b u e;have:b≠a:=λz=>by rw[z,h]at q;cases q
   rw[aI this];exact q,
  λb hb=>by
   have⟨p1,p2⟩:=ok.p b hb;have hne:b≠a:=λz=>p1.ne (by rw[z];exact h);obtain⟨i,j,k,e⟩:=p1;exact⟨⟨i,j,k,by rw[aI hne];exact e⟩,p2⟩⟩
 g:=λ_ _ e=>e
 p:=λ_ e=>e
 gf:=λ_ e n=>Ng e n
 pf:=λ_ n e=>Ng e n
 h:=λb u e _=>by
  have:b≠a:=λz=>by rw[z,h]at e;cases e
  rw[aI this];exact e
theorem WOk.fresh(ok:WOk W H){a:Addr}(h:H a=none):W.G a=none/\¬W.Pn a:=by
 refine⟨?_,λp=>(ok.p a p).1.ne h⟩;cases q:W.G a with
 |none=>rfl|some o=>have:=ok.g a o q;rw[h]at this;cases this
theorem Ext.pub{a:Addr}(x:Ext W H W1 H1)(h:H a=none)(e:H1 a=some o)(n:¬W1.Pn a)(ng:W1.G a=none):Ext W H (W1.put a o) H1 where
 ok:=⟨λb u q=>by
   unfold Wd.put at q
   by_cases hb:b=a
   .subst hb;dsimp only at q;rw[aT]at q;cases q;exact e
   .dsimp only at q;rw[aI hb]at q;exact x.ok.g b u q,
  λb hb=>by
   have⟨p1,p2⟩:=x.ok.p b hb;have hne:b≠a:=λz=>n (by rw[<-z];exact hb);exact⟨p1,by unfold Wd.put;dsimp only;rw[aI hne];exact p2⟩⟩
 g:=λb u q=>by
  have q1:=x.g b u q;have:b≠a:=λz=>by rw[z,ng]at q1;cases q1
  unfold Wd.put;dsimp only;rw[aI this];exact q1
 p:=x.p
 gf:=λb q m=>by by_cases hb:b=a;rw[hb];exact h;unfold Wd.put at m;dsimp only at m;rw[aI hb]at m;exact x.gf b q m
 pf:=x.pf
 h:=x.h
theorem pL{a:Addr}(ng:W.G a=none):∀b u,W.G b=some u->(W.put a o).G b=some u:=λb u q=>by
 have:b≠a:=λz=>by rw[z,ng]at q;cases q
 unfold Wd.put;dsimp only;rw[aI this];exact q
theorem Ext.chg{a:Addr}{o':HO}(x:Ext W H W1 H1)(h:H a=none)(e:H1 a=some o)(n:¬W1.Pn a)(ng:W1.G a=none):Ext W H W1 (upd H1 a o') where
 ok:=⟨λb u q=>by
   have:b≠a:=λz=>by rw[z,ng]at q;cases q
   rw[aI this];exact x.ok.g b u q,
  λb hb=>by
   have⟨p1,p2⟩:=x.ok.p b hb;have hne:b≠a:=λz=>n (by rw[<-z];exact hb);obtain⟨i,j,k,e⟩:=p1;exact⟨⟨i,j,k,by rw[aI hne];exact e⟩,p2⟩⟩
 g:=x.g
 p:=x.p
 gf:=x.gf
 pf:=x.pf
 h:=λb u q m=>by
  have:b≠a:=λz=>by rw[z,h]at q;cases q
  rw[aI this];exact x.h b u q m
end
inductive SV where
 |un|d (x:D)|ow (xs:List D)|oo (xss:List (List D))
abbrev cS:=List SV
variable{ρ ρ':cS}
def Own1(K:Nd)(H0:Hp)(W:Wd)(H:Hp)(b:Addr)(xs:List D):Prop:=∃vs,H b=some (HO.lst vs)/\W.G b=none/\¬W.Pn b/\H0 b=none/\Reps K W vs xs
structure OwnT(K:Nd)(H0:Hp)(W:Wd)(H:Hp)(a:Addr)(bs:List Addr)(xss:List (List D)):Prop where
 a1:H a=some (HO.lst<|bs.map V.ref)
 a2:W.G a=none
 a3:¬W.Pn a
 a4:H0 a=none
 nd:(a::bs).Nodup
 len:bs.length=xss.length
 row:∀(i:Nat) b,bs[i]? = some b->∃xs,xss[i]? = some xs/\Own1 K H0 W H b xs
structure OOs(K:Nd)(H0:Hp)(W:Wd)(σ:L2.St)(H:Hp)(ρ:cS):Prop where
 t:∀(i:Nat) xss,ρ[i]? = some (SV.oo xss)->∃a bs,σ[i]? = some (some<|V.ref a)/\OwnT K H0 W H a bs xss/\∀(j:Nat) ys c,ρ[j]? = some (SV.ow ys)->σ[j]? = some (some<|V.ref c)->c∉a::bs
 u:∀(i j:Nat) xss yss,ρ[i]? = some (SV.oo xss)->ρ[j]? = some (SV.oo yss)->i=j
structure SOk(K:Nd)(W0:Wd)(H0:Hp)(W:Wd)(σ:L2.St)(H:Hp)(ρ:cS):Prop where
 ext:Ext W0 H0 W H
 len:ρ.length=σ.length
 d:∀(i:Nat) x,ρ[i]? = some (SV.d x)->∃v:V,σ[i]? = some (some v)/\Rep K W v x
 o:∀(i:Nat) xs,ρ[i]? = some (SV.ow xs)->∃a vs,σ[i]? = some (some<|V.ref a)/\H a=some (HO.lst vs)/\W.G a=none/\¬W.Pn a/\H0 a=none/\Reps K W vs xs
 ne:∀(i j:Nat) xs ys a,i≠j->ρ[i]? = some (SV.ow xs)->ρ[j]? = some (SV.ow ys)->σ[i]? = some (some<|V.ref a)->σ[j]?≠some (some<|V.ref a)
 oo:OOs K H0 W σ H ρ
section
variable{W:Wd}
theorem SOk.ok(s:SOk K W0 H0 W σ H ρ):WOk W H:=s.ext.ok
theorem Own1.step{b:Addr}(o:Own1 K H0 W H b xs)(x:Ext W H W1 H1):Own1 K H0 W1 H1 b xs:=by
 obtain⟨vs,e2,e3,e4,e5,r⟩:=o;refine⟨vs,x.h b _ e2 e4,?_,λq=>?_,e5,x.reps r⟩;cases q:W1.G b with
 |none=>rfl|some o=>have:=x.gf b e3 (by rw[q];simp);rw[e2]at this;cases this
 have:=x.pf b e4 q;rw[e2]at this;cases this
theorem OwnT.step{a:Addr}{bs:List Addr}{xss:List (List D)}(o:OwnT K H0 W H a bs xss)(x:Ext W H W1 H1):OwnT K H0 W1 H1 a bs xss:=by
 refine⟨x.h a _ o.a1 o.a3,?_,λq=>?_,o.a4,o.nd,o.len,λi b e=>let⟨xs,e1,q⟩:=o.row i b e;⟨xs,e1,q.step x⟩⟩;cases q:W1.G a with
 |none=>rfl|some u=>have:=x.gf a o.a2 (by rw[q];simp);rw[o.a1]at this;cases this
 have:=x.pf a o.a3 q;rw[o.a1]at this;cases this
theorem OwnT.here{a c:Addr}{bs:List Addr}(o:OwnT K H0 W H a bs xss)(h:H c=none):c∉a::bs:=λq=>by
 rcases Yam.mp q with rfl|q
 rw[o.a1]at h;cases h;obtain⟨i,hi,rfl⟩:=Ybr.mp q;obtain⟨xs,_,vs,e,_⟩:=o.row i _<|bP hi;rw[e]at h;cases h
theorem OwnT.noPen{a c:Addr}{bs:List Addr}(o:OwnT K H0 W H a bs xss)(h:W.Pn c):c∉a::bs:=λq=>by
 rcases Yam.mp q with rfl|q
 exact o.a3 h;obtain⟨i,hi,rfl⟩:=Ybr.mp q;obtain⟨xs,_,vs,_,_,e,_⟩:=o.row i _<|bP hi;exact e h
theorem OwnT.upd{a c:Addr}{o':HO}{bs:List Addr}{xss:List (List D)}(o:OwnT K H0 W H a bs xss)(h:c∉a::bs):OwnT K H0 W (upd H c o') a bs xss:=by have ha:a≠c:=λz=>h (by rw[z];simp);refine⟨by rw[aI ha];exact o.a1,o.a2,o.a3,o.a4,o.nd,o.len,λi b e=>?_⟩;obtain⟨xs,e1,vs,q⟩:=o.row i b e;have hb:b≠c:=λz=>h (by rw[<-z];exact iH _<|ip e);exact⟨xs,e1,vs,by rw[aI hb];exact q⟩
theorem OwnT.put{a c:Addr}{o':HO}{bs:List Addr}{xss:List (List D)}(o:OwnT K H0 W H a bs xss)(h:c∉a::bs)(hc:W.G c=none):OwnT K H0 (W.put c o') H a bs xss:=by have ha:a≠c:=λz=>h (by rw[z];simp);refine⟨o.a1,by unfold Wd.put;dsimp only;rw[aI ha];exact o.a2,o.a3,o.a4,o.nd,o.len,λi b e=>?_⟩;obtain⟨xs,e1,vs,q1,q2,q3,q4,q5⟩:=o.row i b e;have hb:b≠c:=λz=>h (by rw[<-z];exact iH _<|ip e);exact⟨xs,e1,vs,q1,by unfold Wd.put;dsimp only;rw[aI hb];exact q2,q3,q4,q5.mono (pL hc) λ_ z=>z⟩
theorem OOs.none(h:∀(i:Nat) xss,ρ[i]?≠some (SV.oo xss)):OOs K H0 W σ H ρ:=⟨λi xss e=>Ng e<|h i xss,λi j xss yss e=>Ng e<|h i xss⟩
theorem OOs.step(o:OOs K H0 W σ H ρ)(x:Ext W H W1 H1):OOs K H0 W1 σ H1 ρ:=⟨λi xss e=>let⟨a,bs,e1,q,n⟩:=o.t i xss e;⟨a,bs,e1,q.step x,n⟩,o.u⟩
theorem OOs.set{σ':L2.St}(o:OOs K H0 W σ H ρ){i:Nat}{y:SV}(hy:∀xss,y≠.oo xss)(hσ:∀j,i≠j->σ'[j]? = σ[j]?)(hw:∀ys c,y=.ow ys->σ'[i]? = some (some<|V.ref c)->∀(j:Nat) xss a bs,i≠j->ρ[j]? = some (SV.oo xss)->σ[j]? = some (some<|V.ref a)->OwnT K H0 W H a bs xss->(∀(j:Nat) ys c,ρ[j]? = some (SV.ow ys)->σ[j]? = some (some<|V.ref c)->c∉a::bs)->c∉a::bs):OOs K H0 W σ' H (ρ.set i y):=by
 have nt:∀{j:Nat} {xss:List (List D)},(ρ.set i y)[j]? = some (SV.oo xss)->i≠j/\ρ[j]? = some (SV.oo xss):=λ{j xss} e=>by
  by_cases h:i=j;subst h;by_cases hi:i<ρ.length;rw[fe hi]at e;cases e;exact Ng rfl<|hy xss
  rw[ff (by rw[et];omega)]at e;cases e;rw[eN h]at e;exact⟨h,e⟩
 refine⟨λj xss e=>?_,λj k xss yss e1 e2=>o.u j k xss yss (nt e1).2 (nt e2).2⟩;obtain⟨h,e'⟩:=nt e;clear e;obtain⟨a,bs,e1,q,n⟩:=o.t j xss e';refine⟨a,bs,by rw[hσ j h];exact e1,q,λk ys c ek ec=>?_⟩;by_cases hk:i=k;subst hk;by_cases hi:i<ρ.length;rw[fe hi]at ek;cases ek;exact hw ys c rfl ec j xss a bs h e' e1 q n;rw[ff (by rw[et];omega)]at ek;cases ek;rw[eN hk]at ek;rw[hσ k hk]at ec;exact n k ys c ek ec
theorem SOk.step(s:SOk K W0 H0 W σ H ρ)(x:Ext W H W1 H1):SOk K W0 H0 W1 σ H1 ρ where
 ext:=s.ext.trans x
 len:=s.len
 d:=λi y e=>let⟨v,e1,r⟩:=s.d i y e;⟨v,e1,x.rep r⟩
 o:=λi ys e=>by
  obtain⟨a,vs,e1,e2,e3,e4,e5,r⟩:=s.o i ys e;refine⟨a,vs,e1,x.h a _ e2 e4,?_,λq=>?_,e5,x.reps r⟩;cases q:W1.G a with
  |none=>rfl|some o=>have:=x.gf a e3 (by rw[q];simp);rw[e2]at this;cases this
  have:=x.pf a e4 q;rw[e2]at this;cases this
 ne:=s.ne
 oo:=s.oo.step x
end
abbrev Ex:=Str
def xI(K:Nd)(W:Wd)(_:Hp)(cls:Value)(dx:Option Addr)(ex:Ex):Prop:=∃C,i8 K (nR ex)=some C/\cls=.ref C/\XD W ex dx
def jB(K:Nd)(W0:Wd)(H0:Hp)(E:Ex->Prop)(EX:XK):Prop:=∀ex W' H' cls dx,E ex->Ext W0 H0 W' H'->xI K W' H' cls dx ex->EX cls dx H'
abbrev WE:=(Ex->Prop)->cS->(D->Prop)->Prop
variable{wa wb wc w we wv wo:WE}
abbrev WT:=(Ex->Prop)->cS->(Bool->Prop)->Prop
variable{w' wf wt:WT}
abbrev WA:=(Ex->Prop)->cS->(List D->Prop)->Prop
variable{wi:WA}
def RQ(K:Nd)(W:Wd)(H:Hp)(Q:VK)(d:D):Prop:=∀v W' H',Ext W H W' H'->Rep K W' v d->Q v H'
structure PX(X:Cx)(EX:XK)(e:Expr)(w:WE):Prop where
 t:∃t,PE X e t/\∀W0 H0 W σ H ρ E Q,SOk X.K W0 H0 W σ H ρ->jB X.K W0 H0 E EX->w E ρ (RQ X.K W H Q)->t σ H Q
 mono:∀E ρ P P',(∀d,P d->P' d)->w E ρ P->w E ρ P'
structure kA(X:Cx)(EX:XK)(e:Expr)(w:WT):Prop where
 t:∃t,PT X e t/\∀W0 H0 W σ H ρ E Q,SOk X.K W0 H0 W σ H ρ->jB X.K W0 H0 E EX->w E ρ (λb=>∀W' H',Ext W H W' H'->Q b H')->t σ H Q
 mono:∀E ρ P P',(∀d,P d->P' d)->w E ρ P->w E ρ P'
structure i9(X:Cx)(EX:XK)(es:List Expr)(w:WA):Prop where
 t:∃t,PA X es t/\∀W0 H0 W σ H ρ E Q,SOk X.K W0 H0 W σ H ρ->jB X.K W0 H0 E EX->w E ρ (λds=>∀vs W' H',Ext W H W' H'->Reps X.K W' vs ds->Q vs H')->t σ H Q
 mono:∀E ρ P P',(∀d,P d->P' d)->w E ρ P->w E ρ P'
structure PXL(X:Cx)(EX:XK)(e:Expr)(w:WA):Prop where
 t:∃t,PE X e t/\∀W0 H0 W σ H ρ E Q,SOk X.K W0 H0 W σ H ρ->jB X.K W0 H0 E EX->
  w E ρ (λds=>∀a vs W' H',Ext W H W' H'->H' a=some (.lst vs)->W'.G a=none->¬W'.Pn a->H a=none->Reps X.K W' vs ds->Q (.ref a) H')->t σ H Q
 mono:∀E ρ P P',(∀d,P d->P' d)->w E ρ P->w E ρ P'
structure Nds where
 nx:cS->Prop
 rt:D->Prop
 bk:cS->Prop:=λ_=>False
 ct:cS->Prop:=λ_=>False
variable{N:Nds}
structure Wle(F W:Wd):Prop where
 g:∀a o,F.G a=some o->W.G a=some o
 p:∀a,F.Pn a->W.Pn a
theorem Wle.refl(F:Wd):Wle F F:=⟨λ_ _ e=>e,λ_ e=>e⟩
theorem Wle.trans{F W V:Wd}(a:Wle F W)(b:Wle W V):Wle F V:=⟨λx o e=>b.g x o<|a.g x o e,λx e=>b.p x<|a.p x e⟩
theorem Wle.ext{F W:Wd}(a:Wle F W)(x:Ext W H W1 H1):Wle F W1:=a.trans ⟨x.g,x.p⟩
structure AA(K:Nd)(W0:Wd)(H0:Hp)(F:Wd)(Dn:jK)(N:Nds):Prop where
 nx:∀W σ H ρ,SOk K W0 H0 W σ H ρ->Wle F W->N.nx ρ->Dn.nx σ H
 rt:∀d v W H,Ext W0 H0 W H->Rep K W v d->N.rt d->Dn.rt v H
 bk:∀W σ H ρ,SOk K W0 H0 W σ H ρ->Wle F W->N.bk ρ->Dn.bk σ H
 ct:∀W σ H ρ,SOk K W0 H0 W σ H ρ->Wle F W->N.ct ρ->Dn.ct σ H
structure Nds.le(N N':Nds):Prop where
 nx:∀ρ,N.nx ρ->N'.nx ρ
 rt:∀d,N.rt d->N'.rt d
 bk:∀ρ,N.bk ρ->N'.bk ρ
 ct:∀ρ,N.ct ρ->N'.ct ρ
abbrev WS:=(Ex->Prop)->Nds->cS->Prop
variable{z z' zb:WS}
structure PZ(X:Cx)(EX:XK)(st:Stmt)(z:WS):Prop where
 t:∃t,PS X st t/\∀W0 H0 F W σ H ρ E Dn N,SOk X.K W0 H0 W σ H ρ->Wle F W->jB X.K W0 H0 E EX->AA X.K W0 H0 F Dn N->z E N ρ->t Dn σ H
 mono:∀E ρ N N',N.le N'->z E N ρ->z E N' ρ
structure jm(X:Cx)(EX:XK)(st:List Stmt)(z:WS):Prop where
 t:∃t,m8 X st t/\∀W0 H0 F W σ H ρ E Dn N,SOk X.K W0 H0 W σ H ρ->Wle F W->jB X.K W0 H0 E EX->AA X.K W0 H0 F Dn N->z E N ρ->t Dn σ H
 mono:∀E ρ N N',N.le N'->z E N ρ->z E N' ρ
section
variable{W:Wd}{Q:VK}
theorem RQ.ext(h:RQ K W H Q d)(x:Ext W H W1 H1):RQ K W1 H1 Q d:=λv W' H' y r=>h v W' H' (x.trans y) r
theorem RQ.now(h:RQ K W H Q d)(ok:WOk W H){v:V}(r:Rep K W v d):Q v H:=h v W H (.refl ok) r
theorem RQ.tup{vs:List V}{ds:List D}(h:RQ K W H Q (.tup ds))(ok:WOk W H)(r:Reps K W vs ds){p:Addr}(hp:H p=none):Q (.ref p) (upd H p<|.tup vs):=by have x:=Ext.put (o:=.tup vs) ok hp;exact h _ _ _ x<|.tup (by unfold Wd.put;dsimp only;rw[aT]) (x.reps r)
theorem RQ.lst{vs:List V}{ds:List D}(h:RQ K W H Q (.lst ds))(ok:WOk W H)(r:Reps K W vs ds){p:Addr}(hp:H p=none):Q (.ref p) (upd H p<|.lst vs):=by have x:=Ext.put (o:=.lst vs) ok hp;exact h _ _ _ x<|.lst (by unfold Wd.put;dsimp only;rw[aT]) (x.reps r)
theorem Rep.sqt{a:V}(r:Rep K W a (.tup ds))(ok:WOk W H):∃p vs,a=.ref p/\SqT K H p vs/\Reps K W vs ds:=by
 cases r with
 |tup e r=>exact⟨_,_,rfl,.inl<|.inl<|ok.g _ _ e,r⟩|ktup e r=>exact⟨_,_,rfl,.inr e,r⟩
theorem Rep.sql{a:V}(r:Rep K W a (.lst ds))(ok:WOk W H):∃p vs,a=.ref p/\SqL K H p vs/\Reps K W vs ds:=by
 cases r with
 |lst e r=>exact⟨_,_,rfl,.inl<|.inl<|ok.g _ _ e,r⟩
theorem Rep.sqs{a:V}(r:Rep K W a (.scr ds))(ok:WOk W H):∃p vs,a=.ref p/\SqL K H p vs/\Reps K W vs ds:=by
 cases r with
 |scr e r=>exact⟨_,_,rfl,e.elim (λ⟨o,e⟩=>.inl<|.inr ⟨o,ok.g _ _ e⟩) .inr,r⟩
end
section
def wN(i:Nat):WE:=λ_ ρ Q=>match ρ[i]? with|some (.d x)=>Q x|_=>False
theorem aD(i:Nat)(hN:X.N[i]? = some x:=by rfl)(hv:oY X.env.scope x:=by first|exact Or.inl rfl|exact Or.inr (Or.inl rfl)|exact Or.inr<|Or.inr rfl)(hd:(x==("__debug__" : Str))=false:=by decide)
  (hcd:(x==("__classdict__" : Str))=false:=by decide):PX X EX (.Name x pos) (wN i):=by
 refine⟨⟨_,fh hN hv hd hcd,λW0 H0 W σ H ρ E Q s _ h=>?_⟩,λE ρ P P' hp h=>?_⟩
 .unfold wN at h
  split at h
  .rename_i x e
   obtain⟨v,e1,r⟩:=s.d i x e;exact⟨v,e1,h.now s.ok r⟩
  .exact h.elim
 .unfold wN at h ⊢
  split at h
  .exact hp _ h
  .exact h.elim
def wC(d:D):WE:=λ_ _ Q=>Q d
theorem wC.mono:∀(E:Ex->Prop) ρ P P',(∀d,P d->P' d)->wC d E ρ P->wC d E ρ P':=λ_ _ _ _ hp h=>hp _ h
theorem aH{i j}:PX X EX (.Constant (.int i) j pos) (wC<|.int i):=⟨⟨_,jL,λ_ _ _ _ _ _ _ _ s _ h=>RQ.now h s.ok<|.int i⟩,wC.mono⟩
theorem fE{b j}:PX X EX (.Constant (.bool b) j pos) (wC<|.bl b):=⟨⟨_,ud,λ_ _ _ _ _ _ _ _ s _ h=>RQ.now h s.ok<|.bl b⟩,wC.mono⟩
theorem nS{j}:PX X EX (.Constant .none j pos) (wC .non):=⟨⟨_,qT,λ_ _ _ _ _ _ _ _ s _ h=>RQ.now h s.ok .non⟩,wC.mono⟩
theorem eG{x j}:PX X EX (.Constant (.str x) j pos) (wC<|.str x):=⟨⟨_,qU,λ_ _ _ _ _ _ _ _ s _ h=>RQ.now h s.ok<|.str x⟩,wC.mono⟩
theorem AB{v:V}{u:Value}(hm:X.mg x=some u)(r:RelV v u)(rd:∀W,Rep X.K W v d)(hg:Gl X x:=by rfl)(hd:(x==("__debug__" : Str))=false:=by decide):PX X EX (.Name x pos) (wC d):=
 ⟨⟨_,oZ hg hm r hd,λ_ _ _ _ _ _ _ _ s _ h=>RQ.now h s.ok<|rd _⟩,wC.mono⟩
theorem Ij{v:V}{u:Value}(hm:X.mg x=none)(hv:bootBuiltins x=some u)(r:RelV v u)(rd:∀W,Rep X.K W v d)(hg:Gl X x:=by rfl)(hn:x≠ "__name__" :=by decide)(hd:(x==("__debug__" : Str))=false:=by decide):PX X EX (.Name x pos) (wC d):=
 ⟨⟨_,o1 hg hm hv r hn hd,λ_ _ _ _ _ _ _ _ s _ h=>RQ.now h s.ok<|rd _⟩,wC.mono⟩
end
abbrev G2:=D->D->(D->Prop)->Prop
structure gC(X:Cx)(f:Value->Value->Sem Value)(g:G2):Prop where
 t:∃r,OpR X f r/\∀W H x y dx dy Q,WOk W H->Rep X.K W x dx->Rep X.K W y dy->g dx dy (RQ X.K W H Q)->r x y H Q
 mono:∀x y P P',(∀d,P d->P' d)->g x y P->g x y P'
section
variable{a b c:Expr}
def w2(g:G2)(wa wb:WE):WE:=λE ρ Q=>wa E ρ λx=>wb E ρ λy=>g x y Q
theorem w2.mono{g:G2}(ha:PX X EX a wa)(hb:PX X EX b wb)(hg:∀x y P P',(∀d,P d->P' d)->g x y P->g x y P'):∀E ρ P P',(∀d,P d->P' d)->w2 g wa wb E ρ P->w2 g wa wb E ρ P':=
 λE ρ P P' hp h=>ha.mono E ρ _ _ (λx hx=>hb.mono E ρ _ _ (λy hy=>hg x y _ _ hp hy) hx) h
theorem lj{ta tb:TE}{R:V->V->Hp->Prop}{G:D->D->Prop}{W:Wd}{E:Ex->Prop}(hma:∀E ρ P P',(∀d,P d->P' d)->wa E ρ P->wa E ρ P')(hmb:∀E ρ P P',(∀d,P d->P' d)->wb E ρ P->wb E ρ P')
  (ka:∀W0 H0 W σ H ρ E Q,SOk X.K W0 H0 W σ H ρ->jB X.K W0 H0 E EX->wa E ρ (RQ X.K W H Q)->ta σ H Q) (kb:∀W0 H0 W σ H ρ E Q,SOk X.K W0 H0 W σ H ρ->jB X.K W0 H0 E EX->wb E ρ (RQ X.K W H Q)->tb σ H Q)
  (s:SOk X.K W0 H0 W σ H ρ) (eo:jB X.K W0 H0 E EX) (h:wa E ρ λx=>wb E ρ λy=>G x y)
  (k:∀W2 H2 x y dx dy,Ext W H W2 H2->Rep X.K W2 x dx->Rep X.K W2 y dy->G dx dy->R x y H2):ta σ H λx H1=>tb σ H1 λy H2=>R x y H2:=
 ka W0 H0 W σ H ρ E _ s eo (hma E ρ _ _ (λdx hx v W1 H1 x1 r1=>kb W0 H0 W1 σ H1 ρ E _ (s.step x1) eo<|hmb E ρ _ _ (λdy hy u W2 H2 x2 r2=>k W2 H2 v u dx dy (x1.trans x2) (x2.rep r1) r2 hy) hx) h)
theorem aY{op:Operator}{g:G2}(ho:gC X (binaryOp op) g)(ha:PX X EX a wa)(hb:PX X EX b wb):PX X EX (.BinOp a op b pos) (w2 g wa wb):=by obtain⟨ta,pa,ka⟩:=ha.t;obtain⟨tb,pb,kb⟩:=hb.t;obtain⟨r,pr,kr⟩:=ho.t;refine⟨⟨_,qg pr pa pb,λW0 H0 W σ H ρ E Q s eo h=>?_⟩,w2.mono ha hb ho.mono⟩;exact lj ha.mono hb.mono ka kb s eo h λW2 H2 x y dx dy x2 rx ry hg=>kr W2 H2 x y dx dy Q x2.ok rx ry<|ho.mono _ _ _ _ (λd hd=>RQ.ext hd x2) hg
theorem gW{g:G2}(ho:gC X (compareOp op) g)(ha:PX X EX a wa)(hb:PX X EX b wb)(hm:behindInMarks op b=false:=by first|exact nw _|with_unfolding_all rfl):PX X EX (.Compare a [op] [b] pos) (w2 g wa wb):=by obtain⟨ta,pa,ka⟩:=ha.t;obtain⟨tb,pb,kb⟩:=hb.t;obtain⟨r,pr,kr⟩:=ho.t;refine⟨⟨_,pA pr pa pb hm,λW0 H0 W σ H ρ E Q s eo h=>?_⟩,w2.mono ha hb ho.mono⟩;exact lj ha.mono hb.mono ka kb s eo h λW2 H2 x y dx dy x2 rx ry hg=>kr W2 H2 x y dx dy Q x2.ok rx ry<|ho.mono _ _ _ _ (λd hd=>RQ.ext hd x2) hg
def isB(Q:Bool->Prop):D->Prop
 |.bl b=>Q b|_=>False
theorem isB.mono{Q Q':Bool->Prop}(h:∀b,Q b->Q' b):∀d,isB Q d->isB Q' d
 |.bl b,z=>h b z|.non,z=>z|.int _,z=>z|.str _,z=>z|.tup _,z=>z|.lst _,z=>z|.dic,z=>z|.pen,z=>z|.cls _,z=>z|.exc _,z=>z|.ty _,z=>z|.scr _,z=>z
def wT(w:WE):WT:=λE ρ Q=>w E ρ<|isB Q
theorem rS{Q:Bool->Prop}(h:isB Q d):∃b,d=.bl b/\Q b:=by
 cases d with
 |bl b=>exact⟨b,rfl,h⟩|_=>exact h.elim
theorem wT.mono{w:WE}(h:∀E ρ P P',(∀d,P d->P' d)->w E ρ P->w E ρ P'):∀E ρ P P',(∀d,P d->P' d)->wT w E ρ P->wT w E ρ P':=λE ρ _ _ hp z=>h E ρ _ _ (isB.mono hp) z
theorem dD{g:G2}(ho:gC X (compareOp op) g)(ha:PX X EX a wa)(hb:PX X EX b wb)(hm:behindInMarks op b=false:=by first|exact nw _|with_unfolding_all rfl):kA X EX (.Compare a [op] [b] pos) (wT<|w2 g wa wb):=by obtain⟨ta,pa,ka⟩:=ha.t;obtain⟨tb,pb,kb⟩:=hb.t;obtain⟨r,pr,kr⟩:=ho.t;refine⟨⟨_,pB pr pa pb hm,λW0 H0 W σ H ρ E Q s eo h=>?_⟩,wT.mono<|w2.mono ha hb ho.mono⟩;refine lj ha.mono hb.mono ka kb s eo h λW2 H2 x y dx dy x2 rx ry hg=>kr W2 H2 x y dx dy _ x2.ok rx ry<|ho.mono _ _ _ _ (λd hd v W' H' x' r'=>?_) hg;obtain⟨b,rfl,q⟩:=rS hd;cases r';exact⟨b,rfl,q W' H'<|x2.trans x'⟩
theorem e8(ha:PX X EX a wa)(he:∀whole,isTrue a X.env whole=(do let v <-whole;standAt a.pos;holding [v] (truthy v)):=by intro _;rfl):kA X EX a (wT wa):=by obtain⟨ta,pa,ka⟩:=ha.t;refine⟨⟨_,nE pa he,λW0 H0 W σ H ρ E Q s eo h=>?_⟩,wT.mono ha.mono⟩;refine ka W0 H0 W σ H ρ E _ s eo<|ha.mono _ _ _ _ (λd hd v W' H' x' r'=>?_) h;obtain⟨b,rfl,q⟩:=rS hd;cases r';exact⟨b,rfl,q W' H' x'⟩
def bH(w:WT):WT:=λE ρ Q=>w E ρ λb=>Q (!b)
theorem eR{w:WT}(ha:kA X EX a w):kA X EX (.UnaryOp .Not a pos) (bH w):=by obtain⟨ta,pa,ka⟩:=ha.t;refine⟨⟨_,qX pa,λW0 H0 W σ H ρ E Q s eo h=>?_⟩,λE ρ P P' hp h=>ha.mono _ _ _ _ (λb hb=>hp _ hb) h⟩;exact ka W0 H0 W σ H ρ E _ s eo h
structure PXW(X:Cx)(EX:XK)(e:Expr)(w:WT):Prop where
 t:∃t,PW X e t/\∀W0 H0 W σ H ρ E Q,SOk X.K W0 H0 W σ H ρ->jB X.K W0 H0 E EX->w E ρ (λb=>∀W' H',Ext W H W' H'->Q b H')->t σ H Q
 mono:∀E ρ P P',(∀d,P d->P' d)->w E ρ P->w E ρ P'
theorem PXW.pxt{w:WT}(h:PXW X EX a w):kA X EX a w:=let⟨t,p,k⟩:=h.t;⟨⟨t,p.pt,k⟩,h.mono⟩
variable{rest:List Expr}
def eS(w w':WT):WT:=λE ρ Q=>w E ρ λb=>if b=true then w' E ρ Q else Q false
def dI(w w':WT):WT:=λE ρ Q=>w E ρ λb=>if b=true then Q true else w' E ρ Q
theorem Ik{w:WT}(ha:kA X EX a w):PXW X EX (.BoolOp .And [a] pos) w:=let⟨t,p,k⟩:=ha.t;⟨⟨t,o4 p,k⟩,ha.mono⟩
theorem jn{w:WT}(ha:kA X EX a w):PXW X EX (.BoolOp .Or [a] pos) w:=let⟨t,p,k⟩:=ha.t;⟨⟨t,qV p,k⟩,ha.mono⟩
theorem Il{w:WT}(ha:kA X EX a w)(hb:PXW X EX (.BoolOp .And (b::rest) pos) w'):PXW X EX (.BoolOp .And (a::b::rest) pos) (eS w w'):=by
 obtain⟨ta,pa,ka⟩:=ha.t;obtain⟨tb,pb,kb⟩:=hb.t;refine⟨⟨_,qW pa pb,λW0 H0 W σ H ρ E Q s eo h=>?_⟩,λE ρ P P' hp h=>ha.mono _ _ _ _ (λb hb'=>?_) h⟩;refine ka W0 H0 W σ H ρ E _ s eo (ha.mono _ _ _ _ (λb hb' W1 H1 x1=>?_) h);cases b with
 |true=>rw[if_pos rfl]at hb' ⊢;exact kb W0 H0 W1 σ H1 ρ E _ (s.step x1) eo<|hb.mono _ _ _ _ (λb hq W' H' x'=>hq W' H'<|x1.trans x') hb'
 |false=>rw[if_neg<|by decide]at hb' ⊢;exact hb' W1 H1 x1
 cases b with
 |true=>rw[if_pos rfl]at hb' ⊢;exact hb.mono _ _ _ _ hp hb'|false=>rw[if_neg<|by decide]at hb' ⊢;exact hp _ hb'
theorem gI{w:WT}(ha:kA X EX a w)(hb:PXW X EX (.BoolOp .Or (b::rest) pos) w'):PXW X EX (.BoolOp .Or (a::b::rest) pos) (dI w w'):=by
 obtain⟨ta,pa,ka⟩:=ha.t;obtain⟨tb,pb,kb⟩:=hb.t;refine⟨⟨_,ue pa pb,λW0 H0 W σ H ρ E Q s eo h=>?_⟩,λE ρ P P' hp h=>ha.mono _ _ _ _ (λb hb'=>?_) h⟩;refine ka W0 H0 W σ H ρ E _ s eo (ha.mono _ _ _ _ (λb hb' W1 H1 x1=>?_) h);cases b with
 |true=>rw[if_pos rfl]at hb' ⊢;exact hb' W1 H1 x1|false=>rw[if_neg<|by decide]at hb' ⊢;exact kb W0 H0 W1 σ H1 ρ E _ (s.step x1) eo<|hb.mono _ _ _ _ (λb hq W' H' x'=>hq W' H'<|x1.trans x') hb'
 cases b with
 |true=>rw[if_pos rfl]at hb' ⊢;exact hp _ hb'|false=>rw[if_neg<|by decide]at hb' ⊢;exact hb.mono _ _ _ _ hp hb'
end
section
variable{a b c:Expr}{rest:List Expr}
def fo(wa wb:WE):WE:=λE ρ Q=>wa E ρ (isB λb=>if b=true then wb E ρ Q else Q (.bl false))
def fG(wa wb:WE):WE:=λE ρ Q=>wa E ρ (isB λb=>if b=true then Q (.bl true) else wb E ρ Q)
def jo(wa:WE):WE:=λE ρ Q=>wa E ρ<|isB λb=>Q (.bl (!b))
theorem nU{op}(h:PX X EX a wa):PX X EX (.BoolOp op [a] pos) wa:=let⟨t,q,k⟩:=h.t;⟨⟨t,qY q,k⟩,h.mono⟩
theorem kB(ha:PX X EX a wa)(hb:PX X EX (.BoolOp .And (b::rest) pos) wb):PX X EX (.BoolOp .And (a::b::rest) pos) (fo wa wb):=by
 obtain⟨ta,pa,ka⟩:=ha.t;obtain⟨tb,pb,kb⟩:=hb.t;refine⟨⟨_,qZ pa pb,λW0 H0 W σ H ρ E Q s eo h=>?_⟩,λE ρ P P' hp h=>ha.mono _ _ _ _ (isB.mono λb hb'=>?_) h⟩;refine ka W0 H0 W σ H ρ E _ s eo (ha.mono _ _ _ _ (λd hd v W1 H1 x1 r1=>?_) h);obtain⟨b,rfl,q⟩:=rS hd;cases r1;refine⟨b,rfl,?_⟩;cases b with
 |true=>rw[if_pos rfl]at q ⊢;exact kb W0 H0 W1 σ H1 ρ E _ (s.step x1) eo<|hb.mono _ _ _ _ (λd hd=>RQ.ext hd x1) q
 |false=>rw[if_neg<|by decide]at q ⊢;exact q _ W1 H1 x1<|.bl false
 cases b with
 |true=>rw[if_pos rfl]at hb' ⊢;exact hb.mono _ _ _ _ hp hb'|false=>rw[if_neg<|by decide]at hb' ⊢;exact hp _ hb'
theorem C9(ha:PX X EX a wa):PX X EX (.UnaryOp .Not a pos) (jo wa):=by obtain⟨ta,pa,ka⟩:=ha.t;refine⟨⟨_,rc pa,λW0 H0 W σ H ρ E Q s eo h=>?_⟩,λE ρ P P' hp h=>ha.mono _ _ _ _ (isB.mono λb hb'=>hp _ hb') h⟩;refine ka W0 H0 W σ H ρ E _ s eo<|ha.mono _ _ _ _ (λd hd v W1 H1 x1 r1=>?_) h;obtain⟨b,rfl,q⟩:=rS hd;cases r1;exact⟨b,rfl,q _ W1 H1 x1<|.bl _⟩
def kC(wt:WT)(wa wb:WE):WE:=λE ρ Q=>wt E ρ λb=>if b=true then wa E ρ Q else wb E ρ Q
def Zbg(g g':G2)(wa wb wc:WE):WE:=λE ρ Q=>wa E ρ λx=>wb E ρ λy=>g x y (isB λk=>if k=true then wc E ρ λz=>g' y z Q else Q (.bl false))
theorem Zbg.mono{g g':G2}(ha:PX X EX a wa)(hb:PX X EX b wb)(hc:PX X EX c wc)(hg:∀x y P P',(∀d,P d->P' d)->g x y P->g x y P')(hg':∀x y P P',(∀d,P d->P' d)->g' x y P->g' x y P') :
  ∀E ρ P P',(∀d,P d->P' d)->Zbg g g' wa wb wc E ρ P->Zbg g g' wa wb wc E ρ P':=λE ρ P P' hp h=>
 ha.mono _ _ _ _ (λx hx=>hb.mono _ _ _ _ (λy hy=>hg x y _ _ (isB.mono λk hk=>by
  cases k with
  |true=>rw[if_pos rfl]at hk ⊢;exact hc.mono _ _ _ _ (λz hz=>hg' y z _ _ hp hz) hk
  |false=>rw[if_neg<|by decide]at hk ⊢;exact hp _ hk) hy) hx) h
theorem Im{op':CmpOp}{g g':G2}(ho:gC X (compareOp op) g)(ho':gC X (compareOp op') g')(ha:PX X EX a wa)(hb:PX X EX b wb)(hc:PX X EX c wc)
  (hm:lastMarks [op,op'] [b,c]=false:=by with_unfolding_all rfl):PX X EX (.Compare a [op,op'] [b,c] pos) (Zbg g g' wa wb wc):=by
 obtain⟨ta,pa,ka⟩:=ha.t;obtain⟨tb,pb,kb⟩:=hb.t;obtain⟨tc,pc,kc⟩:=hc.t;obtain⟨r,pr,kr⟩:=ho.t;obtain⟨r',pr',kr'⟩:=ho'.t;refine⟨⟨_,nz pr pr' pa pb pc hm,λW0 H0 W σ H ρ E Q s eo h=>?_⟩,Zbg.mono ha hb hc ho.mono ho'.mono⟩;refine lj ha.mono hb.mono ka kb s eo h λW2 H2 x y dx dy x2 rx ry hg=>kr W2 H2 x y dx dy _ x2.ok rx ry<|ho.mono _ _ _ _ (λd hd v W3 H3 x3 r3=>?_) hg;obtain⟨k,rfl,q⟩:=rS hd;cases r3;refine⟨k,rfl,?_⟩;cases k with
 |true=>
  rw[if_pos rfl]at q ⊢;refine kc W0 H0 W3 σ H3 ρ E _ (s.step<|x2.trans x3) eo<|hc.mono _ _ _ _ (λdz hz w W4 H4 x4 r4=>?_) q;exact kr' W4 H4 y w dy dz Q x4.ok (x4.rep<|x3.rep ry) r4<|ho'.mono _ _ _ _ (λd hd=>RQ.ext hd<|x2.trans<|x3.trans x4) hz
 |false=>rw[if_neg<|by decide]at q ⊢;exact q _ W3 H3 (x2.trans x3)<|.bl false
theorem Io{op':CmpOp}{g g':G2}(ho:gC X (compareOp op) g)(ho':gC X (compareOp op') g')(ha:PX X EX a wa)(hb:PX X EX b wb)(hc:PX X EX c wc)
  (hm:lastMarks [op,op'] [b,c]=false:=by with_unfolding_all rfl):kA X EX (.Compare a [op,op'] [b,c] pos) (wT<|Zbg g g' wa wb wc):=by
 obtain⟨ta,pa,ka⟩:=ha.t;obtain⟨tb,pb,kb⟩:=hb.t;obtain⟨tc,pc,kc⟩:=hc.t;obtain⟨r,pr,kr⟩:=ho.t;obtain⟨r',pr',kr'⟩:=ho'.t;refine⟨⟨_,nD pr pr' pa pb pc hm,λW0 H0 W σ H ρ E Q s eo h=>?_⟩,wT.mono<|Zbg.mono ha hb hc ho.mono ho'.mono⟩;refine lj ha.mono hb.mono ka kb s eo h λW2 H2 x y dx dy x2 rx ry hg=>kr W2 H2 x y dx dy _ x2.ok rx ry<|ho.mono _ _ _ _ (λd hd v W3 H3 x3 r3=>?_) hg;obtain⟨k,rfl,q⟩:=rS hd;cases r3;refine⟨k,rfl,?_⟩;cases k with
 |true=>
  rw[if_pos rfl]at q ⊢;refine kc W0 H0 W3 σ H3 ρ E _ (s.step<|x2.trans x3) eo<|hc.mono _ _ _ _ (λdz hz w W4 H4 x4 r4=>?_) q;refine kr' W4 H4 y w dy dz _ x4.ok (x4.rep<|x3.rep ry) r4<|ho'.mono _ _ _ _ (λd hd v5 W5 H5 x5 r5=>?_) hz;obtain⟨b,rfl,q'⟩:=rS hd;cases r5;exact⟨b,rfl,q' W5 H5<|x2.trans<|x3.trans<|x4.trans x5⟩
 |false=>rw[if_neg<|by decide]at q ⊢;exact⟨false,rfl,q W3 H3<|x2.trans x3⟩
def aA:WA:=λ_ _ Q=>Q []
def aC(w:WE)(t:WA):WA:=λE ρ Q=>w E ρ λx=>t E ρ λxs=>Q (x::xs)
theorem aE:i9 X EX [] aA:=⟨⟨_,nG,λ_ _ W _ H _ _ _ s _ h=>h [] W H (.refl s.ok) .nil⟩,λ_ _ _ _ hp h=>hp _ h⟩
theorem Za{t:WA}(ha:PX X EX e w)(hr:i9 X EX es t)(hs:starEach (e::es) X.env=(false,eval e X.env)::starEach es X.env:=by rfl):i9 X EX (e::es) (aC w t):=by obtain⟨ta,pa,ka⟩:=ha.t;obtain⟨tr,pr,kr⟩:=hr.t;refine⟨⟨_,kw pa pr hs,λW0 H0 W σ H ρ E Q s eo h=>?_⟩,λE ρ P P' hp h=>ha.mono _ _ _ _ (λd hd=>hr.mono _ _ _ _ (λds hds=>hp _ hds) hd) h⟩;refine ka W0 H0 W σ H ρ E _ s eo<|ha.mono _ _ _ _ (λd hd v W1 H1 x1 r1=>?_) h;exact kr W0 H0 W1 σ H1 ρ E _ (s.step x1) eo<|hr.mono _ _ _ _ (λds hds vs W2 H2 x2 r2=>hds _ W2 H2 (x1.trans x2)<|.cons (x2.rep r1) r2) hd
def aL:Nat:=10000
theorem pM(h:n<=aL):n<=sizeLine:=gT h (by rw[sizeLine_eq];decide)
def aO(t:WA):WE:=λE ρ Q=>t E ρ λxs=>xs.length<=aL/\Q (.tup xs)
def aU(t:WA):WA:=λE ρ Q=>t E ρ λxs=>xs.length<=aL/\Q xs
theorem bM{t:WA}{x1}(h:i9 X EX es t):PX X EX (.Tuple es x1 pos) (aO t):=by obtain⟨ta,pa,ka⟩:=h.t;refine⟨⟨_,rF pa,λW0 H0 W σ H ρ E Q s eo hw=>?_⟩,λE ρ P P' hp z=>h.mono _ _ _ _ (λds hds=>⟨hds.1,hp _ hds.2⟩) z⟩;refine ka W0 H0 W σ H ρ E _ s eo<|h.mono _ _ _ _ (λds hds vs W1 H1 x1 r1=>?_) hw;refine⟨by rw[r1.length];exact pM hds.1,λq hq=>?_⟩;exact(RQ.ext hds.2 x1).tup x1.ok r1 hq
theorem cL{t:WA}(h:i9 X EX es t):PXL X EX (.List es pos) (aU t):=by obtain⟨ta,pa,ka⟩:=h.t;refine⟨⟨_,rG pa,λW0 H0 W σ H ρ E Q s eo hw=>?_⟩,λE ρ P P' hp z=>h.mono _ _ _ _ (λds hds=>⟨hds.1,hp _ hds.2⟩) z⟩;refine ka W0 H0 W σ H ρ E _ s eo<|h.mono _ _ _ _ (λds hds vs W1 H1 x1 r1=>?_) hw;refine⟨by rw[r1.length];exact pM hds.1,λq hq=>?_⟩;exact hds.2 q vs W1 _ (x1.trans<|.new x1.ok hq) aT (x1.ok.fresh hq).1 (x1.ok.fresh hq).2 (x1.isN hq) r1
def wL(t:WA):WE:=λE ρ Q=>t E ρ λds=>Q<|.lst ds
theorem PXL.px{t:WA}(h:PXL X EX e t):PX X EX e (wL t):=by obtain⟨ta,pa,ka⟩:=h.t;refine⟨⟨_,pa,λW0 H0 W σ H ρ E Q s eo hw=>?_⟩,λE ρ P P' hp z=>h.mono _ _ _ _ (λds hds=>hp _ hds) z⟩;refine ka W0 H0 W σ H ρ E _ s eo<|h.mono _ _ _ _ (λds hds a vs W1 H1 x1 e1 e2 e3 e4 r1=>?_) hw;refine hds _ _ _ (x1.pub e4 e1 e3 e2)<|.lst (by unfold Wd.put;dsimp only;rw[aT]) (r1.mono (pL e2) λ_ z=>z)
structure d6(X:Cx)(f:Value)(g:List D->(D->Prop)->Prop):Prop where
 t:∃r,dZ X f r/\∀W H vs ds Q,WOk W H->Reps X.K W vs ds->g ds (RQ X.K W H Q)->r vs H Q
 mono:∀ds P P',(∀d,P d->P' d)->g ds P->g ds P'
structure qs(X:Cx)(f:Value)(g:List D->(List D->Prop)->Prop):Prop where
 t:∃r,dZ X f r/\∀W H vs ds Q,WOk W H->Reps X.K W vs ds->g ds (λes=>∀a us,H a=none->Reps X.K W us es->Q (.ref a) (upd H a<|.lst us))->r vs H Q
 mono:∀ds P P',(∀d,P d->P' d)->g ds P->g ds P'
def wB(g:List D->(D->Prop)->Prop)(t:WA):WE:=λE ρ Q=>t E ρ λds=>g ds Q
def aB(g:List D->(List D->Prop)->Prop)(t:WA):WA:=λE ρ Q=>t E ρ λds=>g ds Q
variable{id T:String}{t:WA}
theorem bZ{g:List D->(D->Prop)->Prop}(hc:d6 X (.builtin id) g)(hm:X.mg x=none)(hv:bootBuiltins x=some (.builtin id))(ha:i9 X EX (e::es) t)(hg:Gl X x:=by rfl)(hn:x≠ "__name__" :=by decide)(hdb:(x==("__debug__" : Str))=false:=by decide)
  (he:starEach (e::es) X.env=(false,eval e X.env)::starEach es X.env:=by rfl) (hpl:(backTo pos<|starEach es X.env).any (·.1)=false:=by rfl):PX X EX (.Call (.Name x p) (e::es) [] pos) (wB g t):=by
 obtain⟨ta,pa,ka⟩:=ha.t;obtain⟨r,pr,kr⟩:=hc.t;refine⟨⟨_,nJ pr hg hm hv pa hn hdb he hpl,λW0 H0 W σ H ρ E Q s eo h=>?_⟩,λE ρ P P' hp z=>ha.mono _ _ _ _ (λds hds=>hc.mono _ _ _ hp hds) z⟩;exact ka W0 H0 W σ H ρ E _ s eo<|ha.mono _ _ _ _ (λds hds vs W1 H1 x1 r1=>kr W1 H1 vs ds Q x1.ok r1<|hc.mono _ _ _ (λd hd=>RQ.ext hd x1) hds) h
theorem jT{g:List D->(D->Prop)->Prop}(hc:d6 X (.type T) g)(hm:X.mg x=none)(hv:bootBuiltins x=some (.type T))(ha:i9 X EX (e::es) t)(hg:Gl X x:=by rfl)(hn:x≠ "__name__" :=by decide)(hdb:(x==("__debug__" : Str))=false:=by decide)
  (he:starEach (e::es) X.env=(false,eval e X.env)::starEach es X.env:=by rfl) (hpl:(backTo pos<|starEach es X.env).any (·.1)=false:=by rfl):PX X EX (.Call (.Name x p) (e::es) [] pos) (wB g t):=by
 obtain⟨ta,pa,ka⟩:=ha.t;obtain⟨r,pr,kr⟩:=hc.t;refine⟨⟨_,iw pr hg hm hv pa hn hdb he hpl,λW0 H0 W σ H ρ E Q s eo h=>?_⟩,λE ρ P P' hp z=>ha.mono _ _ _ _ (λds hds=>hc.mono _ _ _ hp hds) z⟩;exact ka W0 H0 W σ H ρ E _ s eo<|ha.mono _ _ _ _ (λds hds vs W1 H1 x1 r1=>kr W1 H1 vs ds Q x1.ok r1<|hc.mono _ _ _ (λd hd=>RQ.ext hd x1) hds) h
theorem td{g:List D->(List D->Prop)->Prop}(hc:qs X (.type T) g)(hm:X.mg x=none)(hv:bootBuiltins x=some (.type T))(ha:i9 X EX (e::es) t)(hg:Gl X x:=by rfl)(hn:x≠ "__name__" :=by decide)(hdb:(x==("__debug__" : Str))=false:=by decide)
  (he:starEach (e::es) X.env=(false,eval e X.env)::starEach es X.env:=by rfl) (hpl:(backTo pos<|starEach es X.env).any (·.1)=false:=by rfl):PXL X EX (.Call (.Name x p) (e::es) [] pos) (aB g t):=by
 obtain⟨ta,pa,ka⟩:=ha.t;obtain⟨r,pr,kr⟩:=hc.t;refine⟨⟨_,iw pr hg hm hv pa hn hdb he hpl,λW0 H0 W σ H ρ E Q s eo h=>?_⟩,λE ρ P P' hp z=>ha.mono _ _ _ _ (λds hds=>hc.mono _ _ _ hp hds) z⟩;refine ka W0 H0 W σ H ρ E _ s eo<|ha.mono _ _ _ _ (λds hds vs W1 H1 x1 r1=>kr W1 H1 vs ds Q x1.ok r1<|hc.mono _ _ _ (λes' hd a us hn' r2=>?_) hds) h;exact hd a us W1 _ (x1.trans<|.new x1.ok hn') aT (x1.ok.fresh hn').1 (x1.ok.fresh hn').2 (x1.isN hn') r2
abbrev bR:=List D->(Ex->Prop)->(D->Prop)->Prop
def pN(S:bR):Prop:=∀ds E E' Q Q',(∀ex,E ex->E' ex)->(∀d,Q d->Q' d)->S ds E Q->S ds E' Q'
def gJ(K:Nd)(S:bR):Sp:=λvs H Q EX=>∃ds W,WOk W H/\Reps K W vs ds/\S ds (λex=>∀W' H' cls dx,Ext W H W' H'->xI K W' H' cls dx ex->EX cls dx H') (RQ K W H Q)
def wF(S:bR)(t:WA):WE:=λE ρ Q=>t E ρ λds=>S ds E Q
theorem Ip{CX:nI}{S:bR}(F:gi X.prog X.w X.K X.mg X.base CX k f fd ps (gJ X.K S))(hS:pN S)(hr:Room k X.A)(hm:X.mg x=some (.ref f))(hk:PySem.W.keepIn X.K (.ref f)=true)(hb:Binds X.K fd ps [])
  (hx:dw CX X EX) (ha:i9 X EX (e::es) t) (hg:Gl X x:=by rfl) (hdb:(x==("__debug__" : Str))=false:=by decide) (he:starEach (e::es) X.env=(false,eval e X.env)::starEach es X.env:=by rfl) (hpl:(backTo pos<|starEach es X.env).any (·.1)=false:=by rfl) :
  PX X EX (.Call (.Name x p) (e::es) [] pos) (wF S t):=by
 obtain⟨ta,pa,ka⟩:=ha.t;refine⟨⟨_,pC F hr hg hm hk hb .nil hx pa hdb he hpl,λW0 H0 W σ H ρ E Q s eo h=>?_⟩,λE ρ P P' hp z=>ha.mono _ _ _ _ (λds hds=>hS _ _ _ _ _ (λ_ q=>q) hp hds) z⟩;refine ka W0 H0 W σ H ρ E _ s eo<|ha.mono _ _ _ _ (λds hds vs W1 H1 x1 r1=>?_) h;refine⟨ds,W1,x1.ok,by rw[qK];exact r1,hS _ _ _ _ _ (λex hex W' H' cls dx x' r'=>?_) (λd hd=>RQ.ext hd x1) hds⟩;exact eo ex W' H' cls dx hex (s.ext.trans<|x1.trans x') r'
structure AC(X:Cx)(g:G2):Prop where
 t:∃r,IxR X r/\∀W H x y dx dy Q,WOk W H->Rep X.K W x dx->Rep X.K W y dy->g dx dy (RQ X.K W H Q)->r x y H Q
 mono:∀x y P P',(∀d,P d->P' d)->g x y P->g x y P'
theorem bB{g:G2}(ho:AC X g)(ha:PX X EX a wa)(hb:PX X EX b wb)(hs:iQ b:=by exact λ_ _=>rfl):PX X EX (.Subscript a b pos) (w2 g wa wb):=by obtain⟨ta,pa,ka⟩:=ha.t;obtain⟨tb,pb,kb⟩:=hb.t;obtain⟨r,pr,kr⟩:=ho.t;refine⟨⟨_,qk pr pa pb hs,λW0 H0 W σ H ρ E Q s eo h=>?_⟩,w2.mono ha hb ho.mono⟩;exact lj ha.mono hb.mono ka kb s eo h λW2 H2 x y dx dy x2 rx ry hg=>kr W2 H2 x y dx dy Q x2.ok rx ry<|ho.mono _ _ _ _ (λd hd=>RQ.ext hd x2) hg
structure Da(X:Cx)(f:Value->Sem Value)(g:D->(D->Prop)->Prop):Prop where
 t:∃r,xw X f r/\∀W H x dx Q,WOk W H->Rep X.K W x dx->g dx (RQ X.K W H Q)->r x H Q
 mono:∀x P P',(∀d,P d->P' d)->g x P->g x P'
def w1(g:D->(D->Prop)->Prop)(wa:WE):WE:=λE ρ Q=>wa E ρ λx=>g x Q
theorem rT{op:UnaryOp}{g:D->(D->Prop)->Prop}(ho:Da X (unaryOp op) g)(ha:PX X EX a wa):PX X EX (.UnaryOp op a pos) (w1 g wa):=by obtain⟨ta,pa,ka⟩:=ha.t;obtain⟨r,pr,kr⟩:=ho.t;refine⟨⟨_,qh pr pa,λW0 H0 W σ H ρ E Q s eo h=>?_⟩,λE ρ P P' hp z=>ha.mono _ _ _ _ (λd hd=>ho.mono _ _ _ hp hd) z⟩;exact ka W0 H0 W σ H ρ E _ s eo<|ha.mono _ _ _ _ (λd hd v W1 H1 x1 r1=>kr W1 H1 v d Q x1.ok r1<|ho.mono _ _ _ (λd hd=>RQ.ext hd x1) hd) h
structure qt(X:Cx)(EX:XK)(e:Option Expr)(w:(Ex->Prop)->cS->(Option Int->Prop)->Prop):Prop where
 t:∃t,PO X e t/\∀W0 H0 W σ H ρ E Q,SOk X.K W0 H0 W σ H ρ->jB X.K W0 H0 E EX->w E ρ (λo=>∀W' H',Ext W H W' H'->Q o H')->t σ H Q
 mono:∀E ρ P P',(∀d,P d->P' d)->w E ρ P->w E ρ P'
def isI(Q:Int->Prop):D->Prop
 |.int i=>Q i|_=>False
theorem isI.mono{Q Q':Int->Prop}(h:∀b,Q b->Q' b):∀d,isI Q d->isI Q' d
 |.int b,z=>h b z|.non,z=>z|.bl _,z=>z|.str _,z=>z|.tup _,z=>z|.lst _,z=>z|.dic,z=>z|.pen,z=>z|.cls _,z=>z|.exc _,z=>z|.ty _,z=>z|.scr _,z=>z
theorem qu{Q:Int->Prop}(h:isI Q d):∃b,d=.int b/\Q b:=by
 cases d with
 |int b=>exact⟨b,rfl,h⟩|_=>exact h.elim
def d8:(Ex->Prop)->cS->(Option Int->Prop)->Prop:=λ_ _ Q=>Q none
def dO(w:WE):(Ex->Prop)->cS->(Option Int->Prop)->Prop:=λE ρ Q=>w E ρ<|isI λi=>Q (some i)
theorem gX:qt X EX none d8:=⟨⟨_,pE,λ_ _ W _ H _ _ _ s _ h=>h W H<|.refl s.ok⟩,λ_ _ _ _ hp h=>hp _ h⟩
theorem gc(ha:PX X EX a wa):qt X EX (some a) (dO wa):=by obtain⟨ta,pa,ka⟩:=ha.t;refine⟨⟨_,pF pa,λW0 H0 W σ H ρ E Q s eo h=>?_⟩,λE ρ P P' hp z=>ha.mono _ _ _ _ (isI.mono λi hi=>hp _ hi) z⟩;refine ka W0 H0 W σ H ρ E _ s eo<|ha.mono _ _ _ _ (λd hd v W1 H1 x1 r1=>?_) h;obtain⟨i,rfl,q⟩:=qu hd;cases r1;exact⟨i,rfl,q W1 H1 x1⟩
def bE{α:Type}(xs:List α)(lo hi:Option Int):List α:=(xs.drop<|HT.sIx xs.length 0 lo).take<|HT.sIx xs.length xs.length hi-HT.sIx xs.length 0 lo
def gCut(x:D)(lo hi:Option Int)(Q:D->Prop):Prop:=match x with
 |.tup xs=>Q<|.tup (bE xs lo hi)
 |.lst xs=>Q<|.lst (bE xs lo hi)
 |.scr xs=>Q<|.lst (bE xs lo hi)
 |_=>False
end
variable{S:bR}
def Bd(i:Int):Prop:=i.natAbs<2^8990
theorem Bd.log{i:Int}(h:Bd i):i.natAbs.log2<8990:=by by_cases h0:i.natAbs=0;rw[h0];decide;exact(Nat.log2_lt h0).mpr h
theorem Bd.bits{i:Int}(h:Bd i):Builtin.Int.intBits i<=2^20:=by
 unfold Builtin.Int.intBits;have:=h.log;have e:(2:Nat)^20=1048576:=by decide
 split<;>omega
def qv(i j:Int):Prop:=Bd i/\Bd j
def AD(_ j:Int):Prop:=j≠0/\Bd j
section
theorem Zo6:OpR X (binaryOp .Mult) (rI qv λi j=>.int<|i*j):=xz λ_ _ _ _ _ _ _ hc q=>mul_int q<|IntMulOk.of_bits hc.1.bits hc.2.bits
theorem Iq:OpR X (binaryOp .FloorDiv) (rI AD λi j=>.int<|i.fdiv j):=xz λ_ _ _ _ _ _ _ hc q=>floordiv_int hc.1 q<|.inl (PyProof.noPylong_of_log2 (by have:=hc.2.log;omega))
def gI2(C:Int->Int->Prop)(kd:Int->Int->D):G2:=λx y Q=>match x,y with|.int i,.int j=>C i j/\Q (kd i j)|_,_=>False
theorem gI2.mono{C:Int->Int->Prop}{kd:Int->Int->D}:∀x y P P',(∀d,P d->P' d)->gI2 C kd x y P->gI2 C kd x y P':=λx y P P' hp hg=>by unfold gI2 at hg ⊢;split at hg;exact⟨hg.1,hp _ hg.2⟩;exact hg.elim
theorem gI2.get{C:Int->Int->Prop}{kd:Int->Int->D}{x:D}(h:gI2 C kd x y Q):∃i j,x=.int i/\y=.int j/\C i j/\Q (kd i j):=by unfold gI2 at h;split at h;exact⟨_,_,rfl,rfl,h.1,h.2⟩;exact h.elim
theorem qw{f:Value->Value->Sem Value}{C:Int->Int->Prop}{k:Int->Int->V}{kd:Int->Int->D}(h:OpR X f (rI C k))(hk:∀W i j,Rep X.K W (k i j)<|kd i j):gC X f (gI2 C kd):=
 ⟨⟨_,h,λW H x y dx dy Q ok rx ry hg=>by
  obtain⟨i,j,rfl,rfl,hc,q⟩:=hg.get;cases rx;cases ry;exact⟨_,_,rfl,rfl,hc,q.now ok<|hk _ _ _⟩⟩,gI2.mono⟩
theorem tj{f:Value->Value->Sem Value}{k:Int->Int->V}(h:OpR X f (o8 k)):OpR X f (rI (λ_ _=>True) k):=λpins s σ H x y v u Q I rx ry ⟨i,j,e1,e2,_,q⟩=>h pins s σ H x y v u Q I rx ry ⟨i,j,e1,e2,q⟩
theorem gY:gC X (binaryOp .Sub) (gI2 (λ_ _=>True) λi j=>.int<|i-j):=qw (tj rB) λ_ _ _=>.int _
theorem qx:gC X (binaryOp .Mod) (gI2 (λ_ j=>j≠0) λi j=>.int<|i.fmod j):=qw pj λ_ _ _=>.int _
theorem nV:gC X (binaryOp .FloorDiv) (gI2 AD λi j=>.int<|i.fdiv j):=qw Iq λ_ _ _=>.int _
theorem Zp:gC X (binaryOp .Pow) (gI2 rq λi j=>.int<|i^j.toNat):=qw rC λ_ _ _=>.int _
theorem Ir:OpR X (compareOp .Lt) (o8 λi j=>.bl<|decide (i<j)):=o9 λ_ _ _ _ _ _ _ q=>lt_int q
theorem Iu:OpR X (compareOp .LtE) (o8 λi j=>.bl<|decide (i<=j)):=o9 λ_ _ _ _ _ _ _ q=>le_int q
theorem Iv:OpR X (compareOp .Gt) (o8 λi j=>.bl<|decide (i>j)):=o9 λ_ _ _ _ _ _ _ q=>gt_int q
theorem Iw:OpR X (compareOp .GtE) (o8 λi j=>.bl<|decide (i ≥ j)):=o9 λ_ _ _ _ _ _ _ q=>ge_int q
theorem nW:gC X (compareOp .Lt) (gI2 (λ_ _=>True) λi j=>.bl<|decide (i<j)):=qw (tj Ir) λ_ _ _=>.bl _
theorem jU:gC X (compareOp .LtE) (gI2 (λ_ _=>True) λi j=>.bl<|decide (i<=j)):=qw (tj Iu) λ_ _ _=>.bl _
theorem jV:gC X (compareOp .Gt) (gI2 (λ_ _=>True) λi j=>.bl<|decide (i>j)):=qw (tj Iv) λ_ _ _=>.bl _
theorem AE:gC X (compareOp .GtE) (gI2 (λ_ _=>True) λi j=>.bl<|decide (i ≥ j)):=qw (tj Iw) λ_ _ _=>.bl _
theorem rV:Da X (unaryOp .USub) (λx Q=>isI (λi=>Q<|.int (-i)) x):=
 ⟨⟨_,nr,λW H x dx Q ok rx hg=>by
  obtain⟨i,rfl,q⟩:=qu hg;cases rx;exact⟨i,rfl,q.now ok<|.int _⟩⟩,λx P P' hp h=>isI.mono (λi hi=>hp _ hi) x h⟩
mutual
def iz:D->Option PyData
 |.non=>some .none|.bl b=>some<|.bool b
 |.int i=>some<|.int i
 |.str x=>some<|.str x
 |.tup xs=>(fY xs).map .tuple|.lst xs=>(fY xs).map .list|.dic=>none|.pen=>none|.cls _=>none|.exc _=>none|.ty _=>none|.scr _=>none
def fY:List D->Option (List PyData)
 |[]=>some []
 |x::r=>match iz x,fY r with
  |some a,some b=>some (a::b)|_,_=>none
end
variable{s:Shared}{W:Wd}
mutual
theorem uV(I:Inv X pins σ H s)(ok:WOk W H):∀{v:V} {d:D} {u:Value} {p:PyData},Rep X.K W v d->RelV v u->iz d=some p->∃as,Reads s.heap u p as
 |_,_,u,p,.non,r,e=>by cases e;cases r;exact⟨_,.none⟩
 |_,_,u,p,.bl b,r,e=>by cases e;cases r;exact⟨_,.bool b⟩
 |_,_,u,p,.int i,r,e=>by cases e;obtain⟨t,rfl⟩:=r;exact⟨_,.int i t⟩
 |_,_,u,p,.str x,r,e=>by cases e;obtain⟨t,rfl⟩:=r;exact⟨_,.str x t⟩
 |.ref a,.tup ds,u,p,.tup e0 rs,r,e=>by
  cases r;cases q:fY ds with
  |none=>rw[iz,q]at e;cases e
  |some ps=>rw[iz,q]at e;cases e;obtain⟨its,rv,⟨o,h1,h2,n,h3⟩,_⟩:=I.tuple (xs:=_)<|SqT.of (ok.g _ _ e0);obtain⟨as,ra⟩:=xJ I ok rs rv q;exact⟨_,.tuple h1 h2 h3<|by simpa using ra⟩
 |.ref a,.tup ds,u,p,.ktup e0 rs,r,e=>by
  cases r;cases q:fY ds with
  |none=>rw[iz,q]at e;cases e
  |some ps=>rw[iz,q]at e;cases e;obtain⟨its,rv,⟨o,h1,h2,n,h3⟩,_⟩:=I.tuple (xs:=_)<|.inr e0;obtain⟨as,ra⟩:=xJ I ok rs rv q;exact⟨_,.tuple h1 h2 h3<|by simpa using ra⟩
 |.ref a,.lst ds,u,p,.lst e0 rs,r,e=>by
  cases r;cases q:fY ds with
  |none=>rw[iz,q]at e;cases e
  |some ps=>rw[iz,q]at e;cases e;obtain⟨its,rv,⟨o,n,h1,h2,h3,h4⟩,_⟩:=I.list (xs:=_)<|SqL.of (ok.g _ _ e0);obtain⟨as,ra⟩:=xJ I ok rs rv q;exact⟨_,.list h1 h2 h4<|by simpa using ra⟩
 |_,_,u,p,.dic _,r,e=>by rw[iz]at e;cases e
 |_,_,u,p,.pen _,r,e=>by rw[iz]at e;cases e
 |_,_,u,p,.cls _,r,e=>by rw[iz]at e;cases e
 |_,_,u,p,.exc _ _ _,r,e=>by rw[iz]at e;cases e
 |_,_,u,p,.ty _,r,e=>by rw[iz]at e;cases e
 |_,_,u,p,.scr _ _,r,e=>by rw[iz]at e;cases e
theorem xJ(I:Inv X pins σ H s)(ok:WOk W H):∀{vs:List V} {ds:List D} {us:List Value} {ps:List PyData},Reps X.K W vs ds->Vals vs us->fY ds=some ps->∃as,ReadsAll s.heap us ps as
 |_,_,us,ps,.nil,r,e=>by rw[fY]at e;cases e;cases r;exact⟨_,.nil⟩
 |_,d::ds,us,ps,.cons rd rs,r,e=>by
  rw[fY]at e;cases q1:iz d with
  |none=>rw[q1]at e;cases e
  |some a=>
   cases q2:fY ds with
   |none=>rw[q1,q2]at e;cases e
   |some b=>
    rw[q1,q2]at e;cases e;cases r with
    |cons r1 r2=>
     obtain⟨as,ra⟩:=uV I ok rd r1 q1;obtain⟨bs,rb⟩:=xJ I ok rs r2 q2;exact⟨_,.cons ra rb⟩
end
def gEq(neg:Bool):G2:=λx y Q=>∃p q,iz x=some p/\iz y=some q/\PySem.SeqAt.shaped p=true/\PySem.SeqAt.shaped q=true/\Q (.bl (if neg then !PyData.eqv p q else PyData.eqv p q))
theorem gEq.mono{neg:Bool}:∀x y P P',(∀d,P d->P' d)->gEq neg x y P->gEq neg x y P':=λx y P P' hp ⟨p,q,h1,h2,h3,h4,h5⟩=>⟨p,q,h1,h2,h3,h4,hp _ h5⟩
theorem da(hu:X.A.units+64<cLine):gC X (compareOp .Eq) (gEq false):=by refine⟨⟨λx y H Q=>∃W dx dy,WOk W H/\Rep X.K W x dx/\Rep X.K W y dy/\gEq false dx dy (RQ X.K W H Q),?_,λW H x y dx dy Q ok rx ry hg=>⟨W,dx,dy,ok,rx,ry,hg⟩⟩,gEq.mono⟩;rintro pins s σ H x y v u Q I rx ry ⟨W,dx,dy,ok,r1,r2,p,q,h1,h2,h3,h4,h5⟩;obtain⟨as,ra⟩:=uV I ok r1 rx h1;obtain⟨bs,rb⟩:=uV I ok r2 ry h2;exact eq_dataH ra rb h3 h4 hu ⟨.bl _,H,I,rfl,h5.now ok<|.bl _⟩
theorem dq(hu:X.A.units+64<cLine):gC X (compareOp .NotEq) (gEq true):=by refine⟨⟨λx y H Q=>∃W dx dy,WOk W H/\Rep X.K W x dx/\Rep X.K W y dy/\gEq true dx dy (RQ X.K W H Q),?_,λW H x y dx dy Q ok rx ry hg=>⟨W,dx,dy,ok,rx,ry,hg⟩⟩,gEq.mono⟩;rintro pins s σ H x y v u Q I rx ry ⟨W,dx,dy,ok,r1,r2,p,q,h1,h2,h3,h4,h5⟩;obtain⟨as,ra⟩:=uV I ok r1 rx h1;obtain⟨bs,rb⟩:=uV I ok r2 ry h2;exact ne_dataH ra rb h3 h4 hu ⟨.bl _,H,I,rfl,h5.now ok<|.bl _⟩
end
section
variable{a:Expr}
def gAdd:G2:=λx y Q=>match x,y with
 |.int i,.int j=>Q<|.int (i+j)
 |.lst xs,.lst ys=>xs.length+ys.length<=aL/\Q (.lst<|xs++ys)|.tup xs,.tup ys=>xs.length+ys.length<=aL/\Q (.tup<|xs++ys)|_,_=>False
theorem gAdd.mono:∀x y P P',(∀d,P d->P' d)->gAdd x y P->gAdd x y P':=λx y P P' hp hg=>by unfold gAdd at hg ⊢;split at hg;exact hp _ hg;exact⟨hg.1,hp _ hg.2⟩;exact⟨hg.1,hp _ hg.2⟩;exact hg.elim
def uW(K:Nd):R2:=λx y H Q=>∃l b xs zs,x=.ref l/\y=.ref b/\SqL K H l xs/\SqL K H b zs/\xs.length+zs.length<=sizeLine/\∀p,H p=none->Q (.ref p) (upd H p<|.lst<|xs++zs)
theorem Zmv:OpR X (binaryOp .Add) (uW X.K):=by
 intro pins s σ H x y v u Q I rx ry h;obtain⟨l,b,xs,zs,rfl,rfl,hH,hB,hz,q⟩:=h;cases rx;cases ry;obtain⟨its,r,pl,z⟩:=I.list hH;obtain⟨its2,r2,BL,z2⟩:=I.list hB;have hl:=r.length;have hl2:=r2.length;obtain⟨⟨cls,dd,data,sl⟩,n,ho,hc,_,hd⟩:=pl;obtain⟨⟨cls2,dd2,data2,sl2⟩,n2,ho2,hc2,_,hd2⟩:=BL;simp only at hc hd hc2 hd2;subst hc hd hc2 hd2;have e:its.toArray++its2.toArray=(its++its2).toArray:=by simp
 refine concat_meets ⟨_,ho,rfl⟩ ⟨_,ho2,rfl⟩ noFill_list_add seq_list_add PySem.F.slot_list_add PySem.F.entry_list_add (PySem.F.args_list_add_2 _ _) (list_addW l b its.toArray its2.toArray n n2 dd dd2 sl sl2 (by simp;omega)) ⟨ho,ho2,?_⟩;rw[e];exact⟨.ref _,_,I.lnew (t':=s.toks) (r.append r2) (by rw[gA];omega),rfl,q _ I.fresh⟩
def Ix(K:Nd):R2:=λx y H Q=>∃a b xs ys,x=.ref a/\y=.ref b/\SqT K H a xs/\SqT K H b ys/\xs.length+ys.length<=sizeLine/\
 (xs=[]->Q (.ref b) H)/\(ys=[]->Q (.ref a) H)/\∀p,H p=none->Q (.ref p) (upd H p<|.tup<|xs++ys)
theorem Iy:OpR X (binaryOp .Add) (Ix X.K):=by
 intro pins s σ H x y v u Q I rx ry h;obtain⟨a,b,xs,ys,rfl,rfl,ha,hb,hz,q1,q2,q3⟩:=h;by_cases hx:xs=[];cases rx;cases ry;obtain⟨its,r1,p1,_⟩:=I.tuple ha;obtain⟨its2,r2,p2,_⟩:=I.tuple hb;have hi:its=[]:=r1.nil_iff.mpr hx;obtain⟨⟨cls,dd,data,sl⟩,ho,hc,n,hd⟩:=id p1;obtain⟨⟨cls2,dd2,data2,sl2⟩,ho2,hc2,n2,hd2⟩:=id p2;simp only at hc hd hc2 hd2;subst hc hd hc2 hd2;exact concat_meets ⟨_,ho,rfl⟩ ⟨_,ho2,rfl⟩ noFill_tuple_add seq_tuple_add PySem.F.slot_tuple_add PySem.F.entry_tuple_add (PySem.F.args_tuple_add_2 _ _)
  (tuple_addW0 a b its.toArray its2.toArray n n2 dd dd2 sl sl2<|by simp[hi]) ⟨ho,ho2,⟨.ref b,H,I,rfl,q1 hx⟩⟩
 exact pH pins s σ H _ _ v u Q I rx ry ⟨a,b,xs,ys,rfl,rfl,ha,hb,hx,hz,q2,λ_=>q3⟩
theorem de:gC X (binaryOp .Add) gAdd:=by
 refine⟨⟨_,(tj rz).or<|Zmv.or Iy,λW H x y dx dy Q ok rx ry hg=>?_⟩,gAdd.mono⟩;unfold gAdd at hg;split at hg;cases rx;cases ry;exact .inl ⟨_,_,rfl,rfl,trivial,hg.now ok<|.int _⟩;obtain⟨p,vs,rfl,h1,r1⟩:=rx.sql ok;obtain⟨q,us,rfl,h2,r2⟩:=ry.sql ok;refine .inr<|.inl ⟨p,q,vs,us,rfl,rfl,h1,h2,by rw[r1.length,r2.length];exact pM hg.1,λa ha=>hg.2.lst ok (r1.append r2) ha⟩
 obtain⟨p,vs,rfl,h1,r1⟩:=rx.sqt ok;obtain⟨q,us,rfl,h2,r2⟩:=ry.sqt ok;rename_i xs ys;refine .inr<|.inr ⟨p,q,vs,us,rfl,rfl,h1,h2,by rw[r1.length,r2.length];exact pM hg.1,λe=>?_,λe=>?_,λa ha=>hg.2.tup ok (r1.append r2) ha⟩
 subst e;cases r1;exact hg.2.now ok ry;subst e;cases r2;rw[qK]at hg;exact hg.2.now ok rx;exact hg.elim
def gMul:G2:=λx y Q=>match x,y with|.int i,.int j=>qv i j/\Q (.int<|i*j)|.lst xs,.int k=>k<1000/\-1000<k/\xs.length*k.toNat<=aL/\Q (.lst (List.replicate k.toNat xs).flatten)|_,_=>False
theorem gMul.mono:∀x y P P',(∀d,P d->P' d)->gMul x y P->gMul x y P':=λx y P P' hp hg=>by unfold gMul at hg ⊢;split at hg;exact⟨hg.1,hp _ hg.2⟩;exact⟨hg.1,hg.2.1,hg.2.2.1,hp _ hg.2.2.2⟩;exact hg.elim
theorem Db{W:Wd}(r:Reps K W vs ds)(n:Nat):Reps K W (List.replicate n vs).flatten (List.replicate n ds).flatten:=by
 induction n with
 |zero=>exact .nil|succ n ih=>rw[hX,hX,sP,sP];exact r.append ih
theorem eH:gC X (binaryOp .Mult) gMul:=by
 refine⟨⟨_,Zo6.or rN,λW H x y dx dy Q ok rx ry hg=>?_⟩,gMul.mono⟩;unfold gMul at hg;split at hg;cases rx;cases ry;exact .inl ⟨_,_,rfl,rfl,hg.1,hg.2.now ok<|.int _⟩;cases ry;cases rx with
 | @lst l vs _ e r=>refine .inr ⟨l,_,vs,rfl,rfl,ok.g _ _ e,by omega,by omega,?_,λp hp=>hg.2.2.2.lst ok (Db r _) hp⟩;rw[r.length];exact pM hg.2.2.1
 exact hg.elim
theorem xK{W:Wd}(r:Reps K W vs xs){i:Int}(h:e7 xs i=some d):∃v,e7 vs i=some v/\Rep K W v d:=by
 unfold e7 at h ⊢;rw[r.length];cases q:ky xs.length i with
 |none=>rw[q]at h;cases h
 |some k=>rw[q]at h;obtain⟨v,e,rv⟩:=r.get (show xs[k]? = some d from h);exact⟨v,e,rv⟩
def gIx:G2:=λx y Q=>isI (λi=>match x with
 |.tup xs=>∃d,e7 xs i=some d/\Q d|.lst xs=>∃d,e7 xs i=some d/\Q d|.scr xs=>∃d,e7 xs i=some d/\Q d
 |_=>False) y
theorem gIx.mono:∀ x y P P',(∀ d,P d->P' d)->gIx x y P->gIx x y P':=λx y P P' hp hg=>isI.mono (λi h=>by
 split at h
 .obtain⟨d,e,q⟩:=h;exact⟨d,e,hp _ q⟩
 .obtain⟨d,e,q⟩:=h;exact⟨d,e,hp _ q⟩
 .obtain⟨d,e,q⟩:=h;exact⟨d,e,hp _ q⟩
 .exact h.elim) y hg
theorem aK:AC X gIx:=by
 refine⟨⟨_,jR,λW H x y dx dy Q ok rx ry hg=>?_⟩,gIx.mono⟩;obtain⟨i,rfl,h⟩:=qu hg;cases ry;split at h;obtain⟨d,e,q⟩:=h;obtain⟨p,vs,rfl,h1,r1⟩:=rx.sqt ok;obtain⟨v,e1,rv⟩:=xK r1 e;exact .inr<|.inl ⟨p,vs,i,v,rfl,rfl,h1,e1,q.now ok rv⟩
 obtain⟨d,e,q⟩:=h;obtain⟨p,vs,rfl,h1,r1⟩:=rx.sql ok;obtain⟨v,e1,rv⟩:=xK r1 e;exact .inl ⟨p,vs,i,v,rfl,rfl,h1,e1,q.now ok rv⟩;obtain⟨d,e,q⟩:=h;obtain⟨p,vs,rfl,h1,r1⟩:=rx.sqs ok;obtain⟨v,e1,rv⟩:=xK r1 e;exact .inl ⟨p,vs,i,v,rfl,rfl,h1,e1,q.now ok rv⟩;exact h.elim
theorem Reps.cut{W:Wd}(r:Reps K W vs ds)(lo hi:Option Int):Reps K W (jl vs lo hi) (bE ds lo hi):=by unfold jl bE;rw[r.length];exact(r.drop _).take _
theorem Iz{lo hi:Option Int}(h:HT.sIx xs.length 0 lo=0/\HT.sIx xs.length xs.length hi=xs.length):bE xs lo hi=xs:=by unfold bE;rw[h.1,h.2];simp
theorem gCut.mono{lo hi:Option Int}:∀x P P',(∀d,P d->P' d)->gCut x lo hi P->gCut x lo hi P':=λx P P' hp hg=>by unfold gCut at hg ⊢;split at hg;exact hp _ hg;exact hp _ hg;exact hp _ hg;exact hg.elim
def bX(wa:WE)(wl wh:(Ex->Prop)->cS->(Option Int->Prop)->Prop):WE:=λE ρ Q=>wa E ρ λx=>wl E ρ λl=>wh E ρ λh=>gCut x l h Q
theorem gK{wl wh}(ha:PX X EX a wa)(hl:qt X EX lo wl)(hh:qt X EX hi wh):PX X EX (.Subscript a (.Slice lo hi none p2) pos) (bX wa wl wh):=by
 obtain⟨ta,pa,ka⟩:=ha.t;obtain⟨tl,pl,kl⟩:=hl.t;obtain⟨th,ph,kh⟩:=hh.t;refine⟨⟨_,jk (sl_list.or<|sl_tup.or Hm) pa pl ph,λW0 H0 W σ H ρ E Q s eo h=>?_⟩,λE ρ P P' hp h=>ha.mono _ _ _ _ (λx hx=>hl.mono _ _ _ _ (λl hl'=>hh.mono _ _ _ _ (λu hu=>gCut.mono x _ _ hp hu) hl') hx) h⟩;refine ka W0 H0 W σ H ρ E _ s eo<|ha.mono _ _ _ _ (λdx hx v W1 H1 x1 r1=>?_) h;refine kl W0 H0 W1 σ H1 ρ E _ (s.step x1) eo<|hl.mono _ _ _ _ (λl hl' W2 H2 x2=>?_) hx;refine kh W0 H0 W2 σ H2 ρ E _ ((s.step x1).step x2) eo<|hh.mono _ _ _ _ (λu hu W3 H3 x3=>?_) hl';have r3:=(x2.trans x3).rep r1;have hu':=gCut.mono dx _ _ (λd hd=>RQ.ext hd<|x1.trans<|x2.trans x3) hu;unfold gCut at hu';split at hu'
 obtain⟨p,vs,rfl,h1,rr⟩:=r3.sqt x3.ok;rename_i xs;by_cases hw:HT.sIx vs.length 0 l=0/\HT.sIx vs.length vs.length u=vs.length;refine .inr (.inr ⟨p,vs,rfl,h1,hw,?_⟩);rw[rr.length]at hw;rw[Iz hw]at hu';exact hu'.now x3.ok r3;exact .inr<|.inl ⟨p,vs,rfl,h1,hw,λq hq=>hu'.tup x3.ok (rr.cut l u) hq⟩
 obtain⟨p,vs,rfl,h1,rr⟩:=r3.sql x3.ok;exact .inl ⟨p,vs,rfl,h1,λq hq=>hu'.lst x3.ok (rr.cut l u) hq⟩;obtain⟨p,vs,rfl,h1,rr⟩:=r3.sqs x3.ok;exact .inl ⟨p,vs,rfl,h1,λq hq=>hu'.lst x3.ok (rr.cut l u) hq⟩;exact hu'.elim
def gRev:D->(D->Prop)->Prop:=λx Q=>match x with
 |.tup xs=>Q<|.tup xs.reverse
 |.lst xs=>Q<|.lst xs.reverse
 |_=>False
theorem gRev.mono:∀x P P',(∀d,P d->P' d)->gRev x P->gRev x P':=λx P P' hp hg=>by unfold gRev at hg ⊢;split at hg;exact hp _ hg;exact hp _ hg;exact hg.elim
theorem uX{j pos3 pos4}(ha:PX X EX a wa):PX X EX (.Subscript a (.Slice none none (some<|.UnaryOp .USub (.Constant (.int 1) j pos3) pos4) p2) pos) (w1 gRev wa):=by
 obtain⟨ta,pa,ka⟩:=ha.t;refine⟨⟨_,Ho pa,λW0 H0 W σ H ρ E Q s eo h=>?_⟩,λE ρ P P' hp h=>ha.mono _ _ _ _ (λx hx=>gRev.mono x _ _ hp hx) h⟩;refine ka W0 H0 W σ H ρ E _ s eo<|ha.mono _ _ _ _ (λdx hx v W1 H1 x1 r1=>?_) h;have hu':=gRev.mono dx _ _ (λd hd=>RQ.ext hd x1) hx;unfold gRev at hu';split at hu'
 obtain⟨p,vs,rfl,h1,rr⟩:=r1.sqt x1.ok;exact⟨p,vs,rfl,.inl ⟨h1,λq hq=>hu'.tup x1.ok rr.rev hq⟩⟩;obtain⟨p,vs,rfl,h1,rr⟩:=r1.sql x1.ok;exact⟨p,vs,rfl,.inr ⟨h1,λq hq=>hu'.lst x1.ok rr.rev hq⟩⟩;exact hu'.elim
def bI:List D->(D->Prop)->Prop:=λds Q=>match ds with
 |[.tup xs]=>Q<|.int xs.length
 |[.lst xs]=>Q<|.int xs.length
 |[.scr xs]=>Q<|.int xs.length
 |_=>False
theorem d9:d6 X (.builtin "len") bI:=by refine⟨⟨_,iV,λW H vs ds Q ok r hg=>?_⟩,λds P P' hp hg=>?_⟩;unfold bI at hg;split at hg;obtain⟨v,rfl,rv⟩:=r.one;obtain⟨p,us,rfl,h1,rr⟩:=rv.sqt ok;exact⟨p,us,rfl,.inr h1,by rw[rr.length];exact hg.now ok<|.int _⟩;obtain⟨v,rfl,rv⟩:=r.one;obtain⟨p,us,rfl,h1,rr⟩:=rv.sql ok;exact⟨p,us,rfl,.inl h1,by rw[rr.length];exact hg.now ok<|.int _⟩;obtain⟨v,rfl,rv⟩:=r.one;obtain⟨p,us,rfl,h1,rr⟩:=rv.sqs ok;exact⟨p,us,rfl,.inl h1,by rw[rr.length];exact hg.now ok<|.int _⟩;exact hg.elim;unfold bI at hg ⊢;split at hg;exact hp _ hg;exact hp _ hg;exact hp _ hg;exact hg.elim
def fH{α:Type}:List D->(List D->Prop)->Prop:=λds Q=>match ds with|[.tup xs]=>Q xs|[.lst xs]=>Q xs|[.scr xs]=>Q xs|_=>False
theorem tm:qs X (.type "list") (fH (α:=Unit)):=by refine⟨⟨_,iW,λW H vs ds Q ok r hg=>?_⟩,λds P P' hp hg=>?_⟩;unfold fH at hg;split at hg;obtain⟨v,rfl,rv⟩:=r.one;obtain⟨p,us,rfl,h1,rr⟩:=rv.sqt ok;exact⟨p,us,rfl,.inr h1,λl hl=>hg l us hl rr⟩;obtain⟨v,rfl,rv⟩:=r.one;obtain⟨p,us,rfl,h1,rr⟩:=rv.sql ok;exact⟨p,us,rfl,.inl h1,λl hl=>hg l us hl rr⟩;obtain⟨v,rfl,rv⟩:=r.one;obtain⟨p,us,rfl,h1,rr⟩:=rv.sqs ok;exact⟨p,us,rfl,.inl h1,λl hl=>hg l us hl rr⟩;exact hg.elim;unfold fH at hg ⊢;split at hg;exact hp _ hg;exact hp _ hg;exact hp _ hg;exact hg.elim
def iY:List D->(D->Prop)->Prop:=λds Q=>match ds with
 |[.tup xs]=>Q<|.tup xs
 |[.lst xs]=>Q<|.tup xs
 |_=>False
theorem nX:d6 X (.type "tuple") iY:=by refine⟨⟨_,ia,λW H vs ds Q ok r hg=>?_⟩,λds P P' hp hg=>?_⟩;unfold iY at hg;split at hg;obtain⟨v,rfl,rv⟩:=r.one;obtain⟨p,us,rfl,h1,rr⟩:=rv.sqt ok;exact⟨p,us,rfl,.inr ⟨h1,hg.now ok rv⟩⟩;obtain⟨v,rfl,rv⟩:=r.one;obtain⟨p,us,rfl,h1,rr⟩:=rv.sql ok;exact⟨p,us,rfl,.inl ⟨h1,λl hl=>hg.tup ok rr hl⟩⟩;exact hg.elim;unfold iY at hg ⊢;split at hg;exact hp _ hg;exact hp _ hg;exact hg.elim
def i4:List D->(D->Prop)->Prop:=λds Q=>match ds with
 |[.int i]=>Q<|.int (if i<0 then -i else i)
 |_=>False
theorem AF:d6 X (.builtin "abs") i4:=by refine⟨⟨_,nF,λW H vs ds Q ok r hg=>?_⟩,λds P P' hp hg=>?_⟩;unfold i4 at hg;split at hg;obtain⟨v,rfl,rv⟩:=r.one;cases rv;exact⟨_,rfl,hg.now ok<|.int _⟩;exact hg.elim;unfold i4 at hg ⊢;split at hg;exact hp _ hg;exact hg.elim
def jW:List D->(D->Prop)->Prop:=λds Q=>match ds with
 |[.int i,.int j]=>Q<|.int (if j>i then j else i)
 |_=>False
theorem uY(hc:X.calm=true):d6 X (.builtin "max") jW:=by refine⟨⟨_,kW hc,λW H vs ds Q ok r hg=>?_⟩,λds P P' hp hg=>?_⟩;unfold jW at hg;split at hg;obtain⟨v,u,rfl,rv,ru⟩:=r.two;cases rv;cases ru;exact⟨_,_,rfl,hg.now ok<|.int _⟩;exact hg.elim;unfold jW at hg ⊢;split at hg;exact hp _ hg;exact hg.elim
def gL:List D->(D->Prop)->Prop:=λds Q=>match ds with
 |[.int i]=>Q<|.int i
 |[.bl b]=>Q<|.int (if b then 1 else 0)
 |_=>False
theorem xL:d6 X (.type "int") gL:=by refine⟨⟨_,kX,λW H vs ds Q ok r hg=>?_⟩,λds P P' hp hg=>?_⟩;unfold gL at hg;split at hg;obtain⟨v,rfl,rv⟩:=r.one;cases rv;exact .inl ⟨_,rfl,hg.now ok<|.int _⟩;obtain⟨v,rfl,rv⟩:=r.one;cases rv;exact .inr ⟨_,rfl,hg.now ok<|.int _⟩;exact hg.elim;unfold gL at hg ⊢;split at hg;exact hp _ hg;exact hp _ hg;exact hg.elim
end
section
variable{a:Expr}
def xM:D->Option String
 |.non=>some "NoneType" |.bl _=>some "bool" |.int _=>some "int" |.str _=>some "str" |.tup _=>some "tuple" |.lst _=>some "list" |.dic=>some "dict"
 |.pen=>none|.cls _=>none|.exc _=>none|.ty _=>none|.scr _=>none
def eT(t T:String):Bool:=t==T||(t == "bool" && T == "int")
def xN:List String:=["int", "bool", "str", "tuple", "list"]
theorem IC(K:Nd){t T:String}(ht:xM d=some t)(hT:T∈xN):PySem.W.kitOne K (.type t) (.type T)=some (eT t T):=by
 simp only[xN,Yam,d7,or_false]at hT;cases d<;>first
  |(cases ht;done)
  |(cases ht;rcases hT with rfl|rfl|rfl|rfl|rfl<;>rfl)
def gIs:List D->(D->Prop)->Prop:=λds Q=>match ds with|[x,.ty T]=>∃t,xM x=some t/\T∈xN/\Q (.bl<|eT t T)|_=>False
theorem gIs.mono:∀ds P P',(∀d,P d->P' d)->gIs ds P->gIs ds P':=λds P P' hp hg=>by unfold gIs at hg ⊢;split at hg;obtain⟨t,h1,h2,h3⟩:=hg;exact⟨t,h1,h2,hp _ h3⟩;exact hg.elim
theorem jp:d6 X (.builtin "isinstance") gIs:=by
 refine⟨⟨λvs H Q=>∃W ds,WOk W H/\Reps X.K W vs ds/\gIs ds (RQ X.K W H Q),?_,λW H vs ds Q ok r hg=>⟨W,ds,ok,r,hg⟩⟩,gIs.mono⟩;rintro pins s σ H vs us Q I rv ⟨W,ds,ok,rs,hg⟩;unfold gIs at hg;split at hg;rename_i x T;obtain⟨t,h1,h2,q⟩:=hg;obtain⟨v,w',rfl,r1,r2⟩:=rs.two;cases r2;obtain⟨u,u2,rfl,ru,ru2⟩:=ku rv;obtain rfl:u2=Value.type T:=ru2;have e:=IC X.K h1 h2;have fin:∀tk,EP X pins σ Q (.bool<|eT t T) { s with toks:=tk }:=λtk=>⟨.bl _,H,I.tok tk,rfl,q.now ok<|.bl _⟩;cases r1 with
 |non=>cases h1;cases ru;exact PySem.W.kia_one PySem.W.kitx_none I.kIn True.intro e (λz=>nomatch z) fin
 |bl b=>cases h1;cases ru;exact PySem.W.kia_one PySem.W.kitx_bool I.kIn True.intro e (λz=>nomatch z) fin
 |int i=>cases h1;obtain⟨t',rfl⟩:=ru;exact PySem.W.kia_one PySem.W.kitx_int I.kIn True.intro e (λz=>nomatch z) fin
 |str i=>cases h1;obtain⟨t',rfl⟩:=ru;exact PySem.W.kia_one PySem.W.kitx_str I.kIn True.intro e (λz=>nomatch z) fin
 |tup e0 rr=>cases h1;cases ru;obtain⟨its,_,⟨o,h1,h2,_⟩,_⟩:=I.tuple<|SqT.of (ok.g _ _ e0);exact PySem.W.kia_one PySem.W.kitx_tuple I.kIn ⟨o,h1,h2⟩ e (λz=>nomatch z) fin
 |ktup e0 rr=>cases h1;cases ru;obtain⟨its,_,⟨o,h1,h2,_⟩,_⟩:=I.tuple<|.inr e0;exact PySem.W.kia_one PySem.W.kitx_tuple I.kIn ⟨o,h1,h2⟩ e (λz=>nomatch z) fin
 |lst e0 rr=>cases h1;cases ru;obtain⟨its,_,⟨o,n,h1,h2,_⟩,_⟩:=I.list<|SqL.of (ok.g _ _ e0);exact PySem.W.kia_one PySem.W.kitx_list I.kIn ⟨o,h1,h2⟩ e (λz=>nomatch z) fin
 | @dic a e0=>cases h1;cases ru;obtain⟨_,_,vs,_,p⟩:=(show ObjOk X.prog X.w H s.heap a (.dK []) from I.hok a _ (ok.g _ _ e0));obtain⟨o,es,ep,h1,h2,_⟩:=p;exact PySem.W.kia_one PySem.W.kitx_dict I.kIn ⟨o,h1,h2.1⟩ e (λz=>nomatch z) fin
 |pen _=>cases h1
 |cls _=>cases h1
 |exc _ _=>cases h1
 |ty _=>cases h1
 |scr _ _=>cases h1
 exact hg.elim
theorem ID(hc:X.calm=true):dZ X (.builtin "all") (λxs H Q=>∃(p:Addr) (bs:List Bool),xs=[.ref p]/\SqL X.K H p (bs.map V.bl)/\Q (.bl<|bs.all id) H):=by
 intro pins s σ H xs us Q I r h;obtain⟨p,bs,rfl,hq,q⟩:=h;obtain⟨u,rfl,ru⟩:=eC r;cases ru;obtain⟨its,rv,pl,hz⟩:=I.list hq;have hpl:p<s.heap.objs.size:=by obtain⟨o,n,e,_⟩:=pl;exact dG e
 have hits:its=bs.map Value.bool:=by
  clear hz pl hq q;induction bs generalizing its with
  |nil=>cases rv;rfl
  |cons b bs ih=>
   cases rv with
   |cons r1 r2=>
    obtain rfl:_=Value.bool b:=r1;rw[cP,ih _ r2]
 subst hits;refine call_all_walk<|wpAny_pyIter_list pl.isList ?_;have hh:X.A.in1.handled=none:=I.ok.hd hc;refine⟨s.heap.objs.size,_,_,_,_,_,λi=>(bs[i]?).getD true,rfl,Walks.list hh _ p (im hpl) (bs.map Value.bool).toArray,⟨⟨_,hV _ rfl,rfl,rfl⟩,pl.isList.at λo e=>dU _ e⟩,λi v s' Q' E' hP hQ=>?_,λh' tk hk=>?_⟩
 have hP':(bs.map Value.bool)[i]? = some v:=by simpa using hP
 rw[cD]at hP';cases e:bs[i]? with
 |none=>rw[e]at hP';cases hP'
 |some b=>
  rw[e]at hP';have:v=Value.bool b:=(Nk hP').symm;subst this;refine Nv ?_;have e2:(bs[i]?).getD true=b:=by rw[e];rfl
  dsimp only at hQ;rw[e2]at hQ;exact hQ
 have e:((List.range (bs.map Value.bool).toArray.size).all λi=>(bs[i]?).getD true)=bs.all id:=by
  rw[eZ,bU,jf,Ybc,Ybc];constructor;intro h b hb;obtain⟨i,hi,e⟩:=Ybr.mp hb;have:=h i<|Yag.mpr hi;rw[bP hi]at this;rw[<-e];exact this
  intro h i hi;have hi':=Yag.mp hi;rw[bP hi'];exact h _<|fT hi'
 rw[e];refine⟨.bl<|bs.all id,H,?_,rfl,q⟩;refine I.kept λb o e=>hk b o ?_<|dU _ e;intro z;have:b=s.heap.objs.size:=by simpa using z
 exact Ng (dG e) (by rw[this];exact jd _)
def i5:List D->(D->Prop)->Prop:=λds Q=>match ds with|[.lst xs]=>∃bs:List Bool,xs=bs.map D.bl/\Q (.bl<|bs.all id)|_=>False
theorem Dc{K:Nd}{W:Wd}:∀{vs:List V} {bs:List Bool},Reps K W vs (bs.map D.bl)->vs=bs.map V.bl
 |_,[],.nil=>rfl|_,b::bs,.cons r t=>by cases r;rw[cP,Dc t]
theorem uZ(hc:X.calm=true):d6 X (.builtin "all") i5:=by refine⟨⟨_,ID hc,λW H vs ds Q ok r hg=>?_⟩,λds P P' hp hg=>?_⟩;unfold i5 at hg;split at hg;obtain⟨bs,rfl,q⟩:=hg;obtain⟨v,rfl,rv⟩:=r.one;obtain⟨p,us,rfl,h1,rr⟩:=rv.sql ok;rw[Dc rr]at h1;exact⟨p,bs,rfl,h1,q.now ok<|.bl _⟩;exact hg.elim;unfold i5 at hg ⊢;split at hg;obtain⟨bs,e,q⟩:=hg;exact⟨bs,e,hp _ q⟩;exact hg.elim
end
section
variable{W:Wd}
theorem SOk.set(s:SOk K W0 H0 W σ H ρ){i:Nat}{v:V}{x:D}(r:Rep K W v x):SOk K W0 H0 W (σ.set i<|some v) H (ρ.set i<|.d x) where
 ext:=s.ext
 len:=by rw[et,et];exact s.len
 d:=λj y e=>by by_cases h:i=j;subst h;by_cases hi:i<ρ.length;rw[fe hi]at e;cases e;exact⟨v,fe (by rw[<-s.len];exact hi),r⟩;rw[ff (by rw[et];omega)]at e;cases e;rw[eN h]at e ⊢;exact s.d j y e
 o:=λj ys e=>by by_cases h:i=j;subst h;by_cases hi:i<ρ.length;rw[fe hi]at e;cases e;rw[ff (by rw[et];omega)]at e;cases e;rw[eN h]at e ⊢;exact s.o j ys e
 ne:=λj k xs ys a hjk e1 e2 e3=>by
  have nj:i≠j:=λh=>by subst h;by_cases hi:i<ρ.length;rw[fe hi]at e1;cases e1;rw[ff (by rw[et];omega)]at e1;cases e1
  have nk:i≠k:=λh=>by subst h;by_cases hi:i<ρ.length;rw[fe hi]at e2;cases e2;rw[ff (by rw[et];omega)]at e2;cases e2
  rw[eN nj]at e1 e3;rw[eN nk]at e2 ⊢;exact s.ne j k xs ys a hjk e1 e2 e3
 oo:=s.oo.set (λ_ h=>by cases h) (λj h=>eN h) λ_ _ h=>by cases h
theorem SOk.own(s1:SOk K W0 H0 W1 σ H1 ρ)(x:Ext W1 H1 W H){a:Addr}(hz:H1 a=none)(h1:H a=some (.lst vs))(h2:W.G a=none)(h3:¬W.Pn a)(r:Reps K W vs xs):SOk K W0 H0 W (σ.set i<|some<|.ref a) H (ρ.set i<|.ow xs):=by
 have s:=s1.step x;have h4:H0 a=none:=s1.ext.isN hz;have hn:∀(j:Nat) ys b,j≠i->ρ[j]? = some (SV.ow ys)->σ[j]? = some (some<|V.ref b)->b≠a:=λj ys b _ ej eb q=>by obtain⟨b',us,q1,q2,_⟩:=s1.o j ys ej;rw[eb]at q1;cases q1;rw[q,hz]at q2;cases q2
 exact{
  ext:=s.ext
  len:=by rw[et,et];exact s.len
  d:=λj y e=>by
    by_cases h:i=j
    · subst h
      by_cases hi:i<ρ.length
      · rw[fe hi]at e;cases e
      · rw[ff (by rw[et];omega)]at e;cases e
    · rw[eN h]at e ⊢;exact s.d j y e
  o:=λj ys e=>by
    by_cases h:i=j
    · subst h
      by_cases hi:i<ρ.length
      · rw[fe hi]at e
        cases e;exact⟨a,vs,fe (by rw[<-s.len];exact hi),h1,h2,h3,h4,r⟩
      · rw[ff (by rw[et];omega)]at e;cases e
    · rw[eN h]at e ⊢;exact s.o j ys e
  ne:=λj k ys zs b hjk e1 e2 e3 e4=>by
    by_cases hj:i=j
    · subst hj
      by_cases hi:i<ρ.length
      · rw[fe (by rw[<-s.len];exact hi)]at e3
        cases e3;rw[eN hjk]at e2 e4;exact hn k zs _ (Nr hjk) e2 e4 rfl
      · rw[ff (by rw[et];omega)]at e1;cases e1
    · by_cases hk:i=k
      · subst hk
        by_cases hi:i<ρ.length
        · rw[fe (by rw[<-s.len];exact hi)]at e4
          cases e4;rw[eN hj]at e1 e3;exact hn j ys _ (Nr hj) e1 e3 rfl
        · rw[ff (by rw[et];omega)]at e2;cases e2
      · rw[eN hj]at e1 e3
        rw[eN hk]at e2 e4;exact s.ne j k ys zs b hjk e1 e2 e3 e4
  oo:=by
    refine⟨λj xss e=>?_,λj k xss yss e1 e2=>?_⟩
    · have h:i≠j:=λh=>by
        subst h
        by_cases hi:i<ρ.length
        · rw[fe hi]at e;cases e
        · rw[ff (by rw[et];omega)]at e;cases e
      rw[eN h]at e;obtain⟨a',bs,e1,q,n⟩:=s1.oo.t j xss e;refine⟨a',bs,by rw[eN h];exact e1,q.step x,λk ys c ek ec=>?_⟩
      by_cases hk:i=k
      · subst hk
        by_cases hi:i<ρ.length
        · rw[fe (by rw[<-s.len];exact hi)]at ec
          cases ec;exact q.here hz
        · rw[ff (by rw[et];omega)]at ek;cases ek
      · rw[eN hk]at ek ec
        exact n k ys c ek ec
    · have g:∀ {j:Nat} {xss:List (List D)},(ρ.set i<|.ow xs)[j]? = some (SV.oo xss)->ρ[j]? = some (SV.oo xss):=fun {j xss} e=>by
        by_cases h:i=j
        · subst h
          by_cases hi:i<ρ.length
          · rw[fe hi]at e;cases e
          · rw[ff (by rw[et];omega)]at e;cases e
        · rw[eN h]at e;exact e
      exact s.oo.u j k xss yss (g e1) (g e2) }
def pub(i:Nat)(ρ:cS):cS:=match ρ[i]? with
 |some (.ow xs)=>ρ.set i<|.d (.lst xs)
 |_=>ρ
theorem SOk.pub(s:SOk K W0 H0 W σ H ρ)(i:Nat):∃W',SOk K W0 H0 W' σ H (LP.pub i ρ)/\Wle W W':=by
 unfold LP.pub;split;rename_i xs e;obtain⟨a,vs,e1,e2,e3,e4,e5,r⟩:=s.o i xs e;have hi:i<ρ.length:=(Yap.mp e).1;refine⟨W.put a<|.lst vs,⟨s.ext.pub e5 e2 e4 e3,by rw[et];exact s.len,λj y ej=>?_,λj ys ej=>?_,λj k ys zs b hjk ej ek e6=>?_,?_⟩,⟨pL e3,λ_ z=>z⟩⟩;by_cases h:i=j;subst h;rw[fe hi]at ej;cases ej;exact⟨_,e1,.lst (by unfold Wd.put;dsimp only;rw[aT])<|r.mono (pL e3) λ_ z=>z⟩;rw[eN h]at ej;obtain⟨v,q1,q2⟩:=s.d j y ej;exact⟨v,q1,q2.mono (pL e3) λ_ z=>z⟩;have h:i≠j:=λh=>by subst h;rw[fe hi]at ej;cases ej
 rw[eN h]at ej;obtain⟨b,us,q1,q2,q3,q4,q5,rr⟩:=s.o j ys ej;have hba:b≠a:=λz=>s.ne i j xs ys a h e ej e1 (by rw[<-z];exact q1);refine⟨b,us,q1,q2,?_,q4,q5,rr.mono (pL e3) λ_ z=>z⟩;unfold Wd.put;dsimp only;rw[aI hba];exact q3;have h:i≠j:=λh=>by subst h;rw[fe hi]at ej;cases ej
 have h':i≠k:=λh=>by subst h;rw[fe hi]at ek;cases ek
 rw[eN h]at ej;rw[eN h']at ek;exact s.ne j k ys zs b hjk ej ek e6;exact OOs.set ⟨λj xss ej=>let⟨a',bs,q1,q,n⟩:=s.oo.t j xss ej;⟨a',bs,q1,q.put (n i xs a e e1) e3,n⟩,s.oo.u⟩ (λ_ h=>by cases h) (λ_ _=>rfl) λ_ _ h=>by cases h
 exact⟨W,s,.refl W⟩
theorem SOk.chg(s:SOk K W0 H0 W σ H ρ){i:Nat}{a:Addr}{xs ys:List D}{us:List V}(e:ρ[i]? = some (.ow xs))(e1:σ[i]? = some (some<|.ref a))(r:Reps K W us ys):SOk K W0 H0 W σ (upd H a<|.lst us) (ρ.set i<|.ow ys):=by
 obtain⟨a',vs,q1,q2,q3,q4,q5,rr⟩:=s.o i xs e;rw[e1]at q1;cases q1;have hi:i<ρ.length:=(Yap.mp e).1;refine⟨s.ext.chg q5 q2 q4 q3,by rw[et];exact s.len,λj y ej=>?_,λj zs ej=>?_,λj k ys' zs b hjk ej ek e6=>?_,OOs.set ⟨λj xss ej=>let⟨a',bs,p1,q,n⟩:=s.oo.t j xss ej;⟨a',bs,p1,q.upd<|n i xs a e e1,n⟩,s.oo.u⟩ (λ_ h=>by cases h) (λ_ _=>rfl) λys c _ ec j xss a' bs _ ej ea _ n=>n i xs c e ec⟩;have h:i≠j:=λh=>by subst h;rw[fe hi]at ej;cases ej
 rw[eN h]at ej;exact s.d j y ej;by_cases h:i=j;subst h;rw[fe hi]at ej;cases ej;exact⟨a,us,e1,aT,q3,q4,q5,r⟩;rw[eN h]at ej;obtain⟨b,ws,p1,p2,p3,p4,p5,pr⟩:=s.o j zs ej;have hba:b≠a:=λz=>s.ne i j xs zs a h e ej e1 (by rw[<-z];exact p1);exact⟨b,ws,p1,by rw[aI hba];exact p2,p3,p4,p5,pr⟩;by_cases h:i=j;subst h;rw[eN hjk]at ek;exact s.ne i k xs zs b hjk e ek e6;rw[eN h]at ej;by_cases h':i=k;subst h';intro z;exact s.ne i j xs ys' b h e ej z e6;rw[eN h']at ek;exact s.ne j k ys' zs b hjk ej ek e6
end
section
variable{rest:List Stmt}{a b c:Expr}
def cI:WS:=λ_ N ρ=>N.nx ρ
def aF(z z':WS):WS:=λE N ρ=>z E { N with nx:=z' E N } ρ
theorem Nds.le_nx{N':Nds}(h:N.le N'){n n':cS->Prop}(hn:∀ρ,n ρ->n' ρ):Nds.le { N with nx:=n } { N' with nx:=n' }:=⟨hn,h.rt,h.bk,h.ct⟩
theorem dE:jm X EX [] cI:=⟨⟨_,o5,λ_ _ _ W σ H ρ _ Dn N s fl _ no h=>no.nx W σ H ρ s fl h⟩,λ_ _ _ _ hl h=>hl.nx _ h⟩
theorem aS(h1:PZ X EX st z)(h2:jm X EX rest z'):jm X EX (st::rest) (aF z z'):=by obtain⟨t1,p1,k1⟩:=h1.t;obtain⟨t2,p2,k2⟩:=h2.t;refine⟨⟨_,m9 p1 p2,λW0 H0 F W σ H ρ E Dn N s fl eo no h=>?_⟩,λE ρ N N' hl h=>h1.mono _ _ _ _ (Nds.le_nx hl λρ' h'=>h2.mono _ _ _ _ hl h') h⟩;exact k1 W0 H0 F W σ H ρ E _ { N with nx:=z' E N } s fl eo ⟨λW1 σ1 H1 ρ1 s1 f1 hn=>k2 W0 H0 F W1 σ1 H1 ρ1 E Dn N s1 f1 eo no hn,no.rt,no.bk,no.ct⟩ h
theorem aW(h1:PZ X EX st z):jm X EX [st] z:=by obtain⟨t1,p1,k1⟩:=h1.t;exact⟨⟨_,o6 p1,k1⟩,h1.mono⟩
def bT(i:Nat)(z:WS):WS:=λE N ρ=>z E N<|pub i ρ
theorem gZ(i:Nat)(h:jm X EX sts z):jm X EX sts (bT i z):=by obtain⟨t,p,k⟩:=h.t;refine⟨⟨t,p,λW0 H0 F W σ H ρ E Dn N s fl eo no h=>?_⟩,λE ρ N N' hl q=>h.mono _ _ _ _ hl q⟩;obtain⟨W',s',f'⟩:=s.pub i;exact k W0 H0 F W' σ H _ E Dn N s' (fl.trans f') eo no h
def ig(w:WE):WS:=λE N ρ=>w E ρ λ_=>N.nx ρ
theorem tq(he:PX X EX e w)(hs:swapsWith e none pos.line X.env=pure false:=by rfl):PZ X EX (.Expr e pos) (ig w):=by obtain⟨t,p,k⟩:=he.t;refine⟨⟨_,kj p hs,λW0 H0 F W σ H ρ E Dn N s fl eo no h=>?_⟩,λE ρ N N' hl q=>he.mono _ _ _ _ (λ_=>hl.nx ρ) q⟩;exact k W0 H0 W σ H ρ E _ s eo<|he.mono _ _ _ _ (λd hd v W1 H1 x1 r1=>no.nx W1 σ H1 ρ (s.step x1) (fl.ext x1) hd) h
def aJ(w:WE):WS:=λE N ρ=>w E ρ N.rt
theorem bK(he:PX X EX e w):PZ X EX (.Return (some e) pos) (aJ w):=by obtain⟨t,p,k⟩:=he.t;refine⟨⟨_,re p,λW0 H0 F W σ H ρ E Dn N s fl eo no h=>?_⟩,λE ρ N N' hl q=>he.mono _ _ _ _ hl.rt q⟩;exact k W0 H0 W σ H ρ E _ s eo<|he.mono _ _ _ _ (λd hd v W1 H1 x1 r1=>no.rt d v W1 H1 (s.ext.trans x1) r1 hd) h
def cH(w:WT)(z z':WS):WS:=λE N ρ=>w E ρ λb=>if b=true then z E N ρ else z' E N ρ
theorem dF{w:WT}{as bs:List Stmt}(hc:kA X EX c w)(ha:jm X EX as z)(hb:jm X EX bs z'):PZ X EX (.If c as bs pos) (cH w z z'):=by
 obtain⟨t,p,k⟩:=hc.t;obtain⟨ta,pa,ka⟩:=ha.t;obtain⟨tb,pb,kb⟩:=hb.t;refine⟨⟨_,uj p pa pb,λW0 H0 F W σ H ρ E Dn N s fl eo no h=>?_⟩,λE ρ N N' hl q=>hc.mono _ _ _ _ (λb hb'=>?_) q⟩;refine k W0 H0 W σ H ρ E _ s eo (hc.mono _ _ _ _ (λb hb' W1 H1 x1=>?_) h);cases b with
 |true=>rw[if_pos rfl]at hb' ⊢;exact ka W0 H0 F W1 σ H1 ρ E Dn N (s.step x1) (fl.ext x1) eo no hb'|false=>rw[if_neg<|by decide]at hb' ⊢;exact kb W0 H0 F W1 σ H1 ρ E Dn N (s.step x1) (fl.ext x1) eo no hb'
 cases b with
 |true=>rw[if_pos rfl]at hb' ⊢;exact ha.mono _ _ _ _ hl hb'|false=>rw[if_neg<|by decide]at hb' ⊢;exact hb.mono _ _ _ _ hl hb'
def aQ(i:Nat)(w:WE):WS:=λE N ρ=>w E ρ λx=>N.nx<|ρ.set i (.d x)
theorem bV(i:Nat)(he:PX X EX e w)(hN:X.N.Nodup)(hi:X.N[i]? = some x:=by rfl)(hx:oD X.env.scope x:=by first|exact Or.inl rfl|exact Or.inr rfl)(hs:swapsWith e (some<|.Name x pos') pos.line X.env=pure false:=by rfl)
  (hf:X.fn x=true\/X.env.scope.names.lookup x=some .local:=by first|exact .inl rfl|exact .inr rfl|assumption):PZ X EX (.Assign [.Name x pos'] e pos) (aQ i w):=by
 obtain⟨t,p,k⟩:=he.t;refine⟨⟨_,nc hN hi hx p hs hf,λW0 H0 F W σ H ρ E Dn N s fl eo no h=>?_⟩,λE ρ N N' hl q=>he.mono _ _ _ _ (λ_=>hl.nx _) q⟩;exact k W0 H0 W σ H ρ E _ s eo<|he.mono _ _ _ _ (λd hd v W1 H1 x1 r1=>no.nx W1 _ H1 _ ((s.step x1).set r1) (fl.ext x1) hd) h
def cc(i:Nat)(t:WA):WS:=λE N ρ=>t E ρ λxs=>N.nx<|ρ.set i (.ow xs)
theorem lI(i:Nat){t:WA}(he:PXL X EX e t)(hN:X.N.Nodup)(hi:X.N[i]? = some x:=by rfl)(hx:oD X.env.scope x:=by first|exact Or.inl rfl|exact Or.inr rfl)(hs:swapsWith e (some<|.Name x pos') pos.line X.env=pure false:=by rfl)
  (hf:X.fn x=true\/X.env.scope.names.lookup x=some .local:=by first|exact .inl rfl|exact .inr rfl|assumption):PZ X EX (.Assign [.Name x pos'] e pos) (cc i t):=by
 obtain⟨t,p,k⟩:=he.t;refine⟨⟨_,nc hN hi hx p hs hf,λW0 H0 F W σ H ρ E Dn N s fl eo no h=>?_⟩,λE ρ N N' hl q=>he.mono _ _ _ _ (λ_=>hl.nx _) q⟩;refine k W0 H0 W σ H ρ E _ s eo<|he.mono _ _ _ _ (λxs hd a vs W1 H1 x1 e1 e2 e3 e4 r1=>no.nx W1 _ H1 _ (s.own x1 e4 e1 e2 e3 r1) (fl.ext x1) hd) h
end
def nY(K:Nd)(W:Wd)(J:It)(ds:List D):Prop:=
 ∀W2 H2 (i:Nat),(∀a o,W.G a=some o->W2.G a=some o)->(∀a,W.Pn a->W2.Pn a)->WOk W2 H2->
  (∀d,ds[i]? = some d->J.go i H2/\∀x H3,J.yld i H2 x H3->∃W3,Ext W2 H2 W3 H3/\Rep K W3 x d)/\(ds.length<=i->J.stop i H2)
structure lJ(X:Cx)(EX:XK)(tg iter:Expr)(w:WA):Prop where
 t:∃t,PI X tg iter t/\∀W0 H0 W σ H ρ E R,SOk X.K W0 H0 W σ H ρ->jB X.K W0 H0 E EX->w E ρ (λds=>∀W' H' J,Ext W H W' H'->nY X.K W' J ds->R J H')->t σ H R
 mono:∀E ρ P P',(∀d,P d->P' d)->w E ρ P->w E ρ P'
section
variable{a b:Expr}
def isL(Q:List D->Prop):D->Prop
 |.lst xs=>Q xs|_=>False
theorem AG{Q:List D->Prop}(h:isL Q d):∃xs,d=.lst xs/\Q xs:=by
 cases d with
 |lst xs=>exact⟨xs,rfl,h⟩|_=>exact h.elim
theorem isL.mono{Q:List D->Prop}(h:∀b,Q b->Q' b):∀d,isL Q d->isL Q' d:=λd z=>by obtain⟨xs,rfl,q⟩:=AG z;exact h _ q
def xO(Q:List D->Prop):D->Prop
 |.tup xs=>Q xs|_=>False
def iL(w:WE):WA:=λE ρ Q=>w E ρ<|isL Q
def iT(w:WE):WA:=λE ρ Q=>w E ρ<|xO Q
def rng(lo:Int)(n:Nat):List D:=(List.range n).map λ(k:Nat)=>D.int<|lo+k
theorem Dd{W:Wd}(lo:Int)(n:Nat):nY K W (uq lo n) (rng lo n):=by
 intro W2 H2 i g2 p2 ok2;refine⟨λd hd=>?_,λhi=>?_⟩;unfold rng at hd;rw[cD]at hd;by_cases hi:i<n;rw[hZ hi]at hd;cases hd;refine⟨hi,λx H3 y=>?_⟩;obtain⟨rfl,rfl⟩:=y;exact⟨W2,.refl ok2,.int _⟩;rw[ff<|by simpa using hi]at hd;cases hd;have:(rng lo n).length=n:=by unfold rng;simp
 rw[this]at hi;exact hi
def i1(Q:List D->Prop):List D->Prop
 |[.int j]=>-10000<=j/\j<10000/\Q (rng 0 j.toNat)|_=>False
def i2(Q:List D->Prop):List D->Prop
 |[.int i,.int j]=>(-10000<=i/\i<10000/\-10000<=j/\j<10000)/\Q (rng i (j-i).toNat)|_=>False
theorem i1.mono{Q:List D->Prop}(h:∀b,Q b->Q' b):∀d,i1 Q d->i1 Q' d:=λd z=>by unfold i1 at z ⊢;split at z;exact⟨z.1,z.2.1,h _ z.2.2⟩;exact z.elim
theorem i2.mono{Q:List D->Prop}(h:∀b,Q b->Q' b):∀d,i2 Q d->i2 Q' d:=λd z=>by unfold i2 at z ⊢;split at z;exact⟨z.1,h _ z.2⟩;exact z.elim
def fq(t:WA):WA:=λE ρ Q=>t E ρ<|i1 Q
def iA(t:WA):WA:=λE ρ Q=>t E ρ<|i2 Q
theorem jX{t:WA}(hm:X.mg "range" = none)(ha:i9 X EX [a] t)(hg:Gl X "range" :=by rfl)(hs:starEach [a] X.env=[(false,eval a X.env)]:=by rfl):lJ X EX tg (.Call (.Name "range" p) [a] [] pos) (fq t):=by
 obtain⟨t,q,k⟩:=ha.t;refine⟨⟨_,kS hg hm q hs,λW0 H0 W σ H ρ E R s eo h=>?_⟩,λE ρ P P' hp h=>ha.mono _ _ _ _ (i1.mono hp) h⟩;refine k W0 H0 W σ H ρ E _ s eo<|ha.mono _ _ _ _ (λds hd vs W1 H1 x1 r1=>?_) h;unfold i1 at hd;split at hd
 obtain⟨v,rfl,rv⟩:=r1.one;cases rv;exact⟨_,rfl,by omega,by omega,hd.2.2 W1 H1 _ x1<|Dd _ _⟩;exact hd.elim
theorem u3{t:WA}(hm:X.mg "range" = none)(ha:i9 X EX [a,b] t)(hg:Gl X "range" :=by rfl)(hs:starEach [a,b] X.env=[(false,eval a X.env),(false,eval b X.env)]:=by rfl)(hs2:starEach [b] X.env=[(false,eval b X.env)]:=by rfl) :
  lJ X EX tg (.Call (.Name "range" p) [a,b] [] pos) (iA t):=by
 obtain⟨t,q,k⟩:=ha.t;refine⟨⟨_,kT hg hm q hs hs2,λW0 H0 W σ H ρ E R s eo h=>?_⟩,λE ρ P P' hp h=>ha.mono _ _ _ _ (i2.mono hp) h⟩;refine k W0 H0 W σ H ρ E _ s eo<|ha.mono _ _ _ _ (λds hd vs W1 H1 x1 r1=>?_) h;unfold i2 at hd;split at hd
 .obtain⟨v,u,rfl,rv,ru⟩:=r1.two
  cases rv;cases ru;exact⟨_,_,rfl,⟨by omega,by omega,by omega,by omega⟩,hd.2 W1 H1 _ x1<|Dd _ _⟩
 .exact hd.elim
end
abbrev WG:=D->cS->(cS->Prop)->Prop
variable{g:WG}
def Zit(ρ:cS):Prop:=∀(i:Nat),(∀xs,ρ[i]?≠some (SV.ow xs))/\∀xss,ρ[i]?≠some (SV.oo xss)
structure pO(X:Cx)(tg:Expr)(g:WG):Prop where
 t:∃t,PG X tg t/\∀W0 H0 W σ H ρ d v Q,SOk X.K W0 H0 W σ H ρ->Rep X.K W v d->g d ρ (λρ'=>∀σ',SOk X.K W0 H0 W σ' H ρ'->Q σ' H)->t v σ H Q
 mono:∀d ρ P P',(∀r,P r->P' r)->g d ρ P->g d ρ P'
 own:∀d ρ P,Zit ρ->g d ρ P->g d ρ (λr=>Zit r/\P r)
section
theorem Zit.set{ρ:cS}(h:Zit ρ)(i:Nat)(d:D):Zit (ρ.set i<|.d d):=λj=>by by_cases hj:i=j;subst hj;by_cases hi:i<ρ.length;rw[fe hi];exact⟨λ_ e=>(by cases e),λ_ e=>(by cases e)⟩;rw[ff (by rw[et];omega)];exact⟨λ_ e=>(by cases e),λ_ e=>(by cases e)⟩;rw[eN hj];exact h j
def gN(i:Nat):WG:=λd ρ k=>k<|ρ.set i (.d d)
theorem cA(i:Nat)(hN:X.N.Nodup)(hi:X.N[i]? = some x:=by rfl)(hx:oD X.env.scope x:=by first|exact Or.inl rfl|exact Or.inr rfl)(hf:X.fn x=true\/X.env.scope.names.lookup x=some .local:=by first|exact .inl rfl|exact .inr rfl|assumption) :
  pO X (.Name x pos) (gN i):=
 ⟨⟨_,o7 hN hi hx hf,λW0 H0 W σ H ρ d v Q s r h=>h _<|s.set r⟩,λd ρ P P' hp h=>hp _ h,λd ρ P ho h=>⟨ho.set i d,h⟩⟩
end
def ZbV(nv:Nat)(sel:List Nat)(ρ:cS):cS:=List.replicate nv .un++sel.map λj=>match ρ[j]? with|some (.d x)=>.d x|_=>.un
theorem ZbV.own(nv:Nat)(sel:List Nat)(ρ:cS):Zit (ZbV nv sel ρ):=λi=>by
 have fj:∀sv,(ZbV nv sel ρ)[i]? = some sv->sv=.un\/∃x,sv=.d x:=λsv e=>by
  unfold ZbV at e;rcases gg i nv with h|h
  rw[kL<|by simpa using h,lD]at e;rw[if_pos h]at e;cases e;exact .inl rfl;rw[j9<|by simpa using h,cD]at e;cases q:sel[i-(List.replicate nv SV.un).length]? with
  |none=>rw[q]at e;cases e
  |some j=>rw[q]at e;have e':=Nk e;dsimp only at e';split at e';exact .inr ⟨_,e'.symm⟩;exact .inl e'.symm
 refine⟨λxs e=>?_,λxs e=>?_⟩;rcases fj _ e with z|⟨x,z⟩<;>cases z
 rcases fj _ e with z|⟨x,z⟩<;>cases z
def No:Ex->Prop:=λ_=>False
def lcW(g:WG)(wf:WT)(we:WE):List D->cS->List D->(List D->Prop)->Prop
 |[],_,acc,Q=>Q acc|d::ds,ρ,acc,Q=>g d ρ λρ2=>wf No ρ2 λb=>if b=true then we No ρ2 λy=>acc.length<aL/\lcW g wf we ds ρ2 (acc++[y]) Q else lcW g wf we ds ρ2 acc Q
structure tu(X:Cx)(EX:XK)(ifs:List Expr)(w:WT):Prop where
 t:∃t,PF X ifs t/\∀W0 H0 W σ H ρ E Q,SOk X.K W0 H0 W σ H ρ->jB X.K W0 H0 E EX->w E ρ (λb=>∀W' H',Ext W H W' H'->Q b H')->t σ H Q
 mono:∀E ρ P P',(∀d,P d->P' d)->w E ρ P->w E ρ P'
def cT:WT:=λ_ _ Q=>Q true
section
variable{c:Expr}
theorem eP:tu X EX [] cT:=⟨⟨_,Hi,λ_ _ W _ H _ _ _ s _ h=>h W H<|.refl s.ok⟩,λ_ _ _ _ hp h=>hp _ h⟩
theorem xP(h:kA X EX c wf):tu X EX [c] wf:=let⟨t,q,k⟩:=h.t;⟨⟨t,Hj q,k⟩,h.mono⟩
theorem lcW.mono(hg:∀d ρ P P',(∀r,P r->P' r)->g d ρ P->g d ρ P')(hf:∀E ρ P P',(∀d,P d->P' d)->wf E ρ P->wf E ρ P')(he:∀E ρ P P',(∀d,P d->P' d)->we E ρ P->we E ρ P') :
  ∀ds ρ acc P P',(∀xs,P xs->P' xs)->lcW g wf we ds ρ acc P->lcW g wf we ds ρ acc P'
 |[],_,acc,P,P',hp,h=>hp _ h
 | d::ds,ρ,acc,P,P',hp,h=>hg _ _ _ _ (λr hr=>hf _ _ _ _ (λb hb=>by
   cases b with
   |true=>rw[if_pos rfl]at hb ⊢;exact he _ _ _ _ (λy hy=>⟨hy.1,lcW.mono hg hf he ds r _ P P' hp hy.2⟩) hb
   |false=>rw[if_neg<|by decide]at hb ⊢;exact lcW.mono hg hf he ds r _ P P' hp hb) hr) h
def aLC(wi:WA)(nv:Nat)(sel:List Nat)(g:WG)(wf:WT)(we:WE):WA:=λE ρ Q=>wi E ρ λds=>lcW g wf we ds (ZbV nv sel ρ) [] Q
theorem aLC.mono(hi:lJ X EX target iter wi)(hg:∀d ρ P P',(∀r,P r->P' r)->g d ρ P->g d ρ P')(hf:∀E ρ P P',(∀d,P d->P' d)->wf E ρ P->wf E ρ P')(he:∀E ρ P P',(∀d,P d->P' d)->we E ρ P->we E ρ P') :
  ∀E ρ P P',(∀d,P d->P' d)->aLC wi vars.length sel g wf we E ρ P->aLC wi vars.length sel g wf we E ρ P':=λE ρ P P' hp h=>hi.mono _ _ _ _ (λds hds=>lcW.mono hg hf he ds _ _ _ _ hp hds) h
theorem SOk.lc{W:Wd}(s:SOk X.K W0 H0 W σ H ρ)(nv:Nat)(sel:List Nat):SOk X.K W0 H0 W (ic nv sel σ) H (ZbV nv sel ρ) where
 ext:=s.ext
 len:=by unfold ZbV ic;simp
 d:=λi x e=>by
  unfold ZbV at e;rcases gg i nv with h|h
  rw[kL<|by simpa using h,lD]at e;split at e<;>cases e;rw[j9<|by simpa using h,cD,oO]at e;cases q:sel[i-nv]? with
  |none=>rw[q]at e;cases e
  |some j=>rw[q]at e;have e':=Nk e;dsimp only at e';split at e';rename_i y ey;cases e';obtain⟨v,ev,r⟩:=s.d j x ey;refine⟨v,?_,r⟩;unfold ic;rw[j9<|by simpa using h,oO,cD,q];show some ((σ[j]?).getD none)=_;rw[ev];rfl;cases e'
 o:=λi xs e=>Ng e<|(ZbV.own nv sel ρ i).1 xs
 ne:=λi j xs ys a _ e=>Ng e<|(ZbV.own nv sel ρ i).1 xs
 oo:=.none λi=>(ZbV.own nv sel ρ i).2
theorem SOk.chgD{W:Wd}{a:Addr}{o':HO}(s:SOk K W0 H0 W σ H ρ)(ho:Zit ρ)(h0:H0 a=none)(h1:H a=some o)(h2:¬W.Pn a)(h3:W.G a=none):SOk K W0 H0 W σ (upd H a o') ρ:=
 ⟨s.ext.chg h0 h1 h2 h3,s.len,s.d,λi xs e=>Ng e<|(ho i).1 xs,λi j xs ys a _ e=>Ng e<|(ho i).1 xs,.none λi=>(ho i).2⟩
theorem AH(hi:lJ X EX target iter wi)(hg:∀s H fp,pO (X.lc sc vars sel s H fp) target g)(hf:∀s H fp,tu (X.lc sc vars sel s H fp) E0 ifs wf)(he:∀s H fp,PX (X.lc sc vars sel s H fp) E0 elt we) :
  ∃(ti:TI) (tg:TG) (tf:TT) (te:TE),PI X target iter ti/\(∀s H fp,PG (X.lc sc vars sel s H fp) target tg)/\(∀s H fp,PF (X.lc sc vars sel s H fp) ifs tf)/\(∀s H fp,PE (X.lc sc vars sel s H fp) elt te)/\
   ∀W0 H0 W σ H ρ E Q,SOk X.K W0 H0 W σ H ρ->jB X.K W0 H0 E EX->
    aLC wi vars.length sel g wf we E ρ (λds=>∀a vs W' H',Ext W H W' H'->H' a=some (.lst vs)->W'.G a=none->¬W'.Pn a->H a=none->Reps X.K W' vs ds->Q (.ref a) H')->As ti vars.length sel tg tf te σ H Q:=by
 obtain⟨ti,pi,ki⟩:=hi.t;refine ⟨ti,λv σ H Q=>∃ W0 H0 W ρ d,SOk X.K W0 H0 W σ H ρ/\Rep X.K W v d/\g d ρ (λρ'=>∀ σ',SOk X.K W0 H0 W σ' H ρ'->Q σ' H),
  λσ H Q=>∃W0 H0 W ρ,SOk X.K W0 H0 W σ H ρ/\wf No ρ (λb=>∀W' H',Ext W H W' H'->Q b H'),
  λσ H Q=>∃W0 H0 W ρ,SOk X.K W0 H0 W σ H ρ/\we No ρ (RQ X.K W H Q),pi,λs1 H1 fp=>?_,λs1 H1 fp=>?_,λs1 H1 fp=>?_,?_⟩
 .obtain⟨t,q,k⟩:=(hg s1 H1 fp).t
  rintro pins s σ H v u Q I r ⟨W0,H0,W,ρ,d,s',r',h⟩;exact q pins s σ H v u Q I r<|k W0 H0 W σ H ρ d v Q s' r' h
 .obtain⟨t,q,k⟩:=(hf s1 H1 fp).t
  rintro pins s σ H Q I ⟨W0,H0,W,ρ,s',h⟩;exact q pins s σ H Q I<|k W0 H0 W σ H ρ No Q s' (λ_ _ _ _ _ z=>z.elim) h
 .obtain⟨t,q,k⟩:=(he s1 H1 fp).t
  rintro pins s σ H Q I ⟨W0,H0,W,ρ,s',h⟩;exact q pins s σ H Q I<|k W0 H0 W σ H ρ No Q s' (λ_ _ _ _ _ z=>z.elim) h
 .have gm:=(hg {} (λ_=>none) []).mono
  have go:=(hg {} (λ_=>none) []).own;have fm:=(hf {} (λ_=>none) []).mono;have em:=(he {} (λ_=>none) []).mono;intro W0 H0 W σ H ρ E Q s eo h;refine ki W0 H0 W σ H ρ E _ s eo<|hi.mono _ _ _ _ (λds hds W1 H1 J x1 it D hD=>?_) h;have hDf:=x1.ok.fresh hD;have hD0:H0 D=none:=s.ext.isN<|x1.isN hD;refine ⟨λi m ys σ2 H2=>m=ds.length - i/\i<=ds.length/\∃ W2 ρ2 acc,Ext W1 H1 W2 H2/\SOk X.K W0 H0 W2 σ2 H2 ρ2/\Zit ρ2/\H2 D=some (.lst ys)/\W2.G D=none/\¬ W2.Pn D/\Reps X.K W2 ys acc/\
   lcW g wf we (ds.drop i) ρ2 acc (λds=>∀a vs W' H',Ext W H W' H'->H' a=some (.lst vs)->W'.G a=none->¬W'.Pn a->H a=none->Reps X.K W' vs ds->Q (.ref a) H'),⟨_,rfl,iI _,W1,_,[],.new x1.ok hD,?_,ZbV.own _ _ ρ,aT,hDf.1,hDf.2,.nil,by rw[tU];exact hds⟩,?_⟩
  .exact(((s.step x1).step<|.new x1.ok hD).lc vars.length sel)
  .rintro i m ys σ2 H2 ⟨rfl,hi',W2,ρ2,acc,x2,s2,no2,hD2,g2,p2,r2,q2⟩
   refine⟨hD2,?_⟩;obtain⟨itg,its⟩:=it W2 H2 i x2.g x2.p x2.ok;rcases gg i ds.length with hlt|hge
   .have hd:ds[i]? = some ds[i]:=bP hlt
    obtain⟨go',yl⟩:=itg _ hd;refine .inr ⟨go',λx H3 y=>?_⟩;obtain⟨W3,x3,r3⟩:=yl x H3 y;rw[sS hlt]at q2;have keepD:∀{W' H'},Ext W2 H2 W' H'->H' D=some (.lst ys)/\W'.G D=none/\¬W'.Pn D:=λ{W' H'} x'=>by
     refine⟨x'.h D _ hD2 p2,?_,λz=>?_⟩
     .cases q:W'.G D with|none=>rfl|some o=>have:=x'.gf D g2 (by rw[q];simp);rw[hD2]at this;cases this
     .have:=x'.pf D p2 z;rw[hD2]at this;cases this
    refine⟨W0,H0,W3,ρ2,ds[i],s2.step x3,r3,gm _ _ _ _ (λρ4 hr σ4 s4=>?_)<|go _ _ _ no2 q2⟩;obtain⟨no4,hr⟩:=hr;refine⟨W0,H0,W3,ρ4,s4,fm _ _ _ _ (λb hb W5 H5 x5=>?_) hr⟩;cases b with
    |false=>
     rw[if_neg<|by decide]at hb ⊢;have kD:=keepD<|x3.trans x5;exact⟨ds.length-(i+1),by omega,rfl,hlt,W5,ρ4,acc,x2.trans<|x3.trans x5,s4.step x5,no4,kD.1,kD.2.1,kD.2.2,(x3.trans x5).reps r2,hb⟩
    |true=>
     rw[if_pos rfl]at hb ⊢;refine⟨W0,H0,W5,ρ4,s4.step x5,em _ _ _ _ (λy hy v W6 H6 x6 r6=>?_) hb⟩;have xx:=x3.trans<|x5.trans x6;have kD:=keepD xx;have hl:ys.length=acc.length:=r2.length;refine⟨kD.1,by rw[hl];exact dm hy.1<|pM<|cB _,ds.length-(i+1),by omega,rfl,hlt,W6,ρ4,acc++[y],(x2.trans xx).chg hD kD.1 kD.2.2 kD.2.1,?_,no4,aT,kD.2.1,kD.2.2,(xx.reps r2).append<|.cons r6 .nil,hy.2⟩;exact((s4.step x5).step x6).chgD no4 hD0 kD.1 kD.2.2 kD.2.1
   .have e:i=ds.length:=by omega
    refine .inl ⟨its hge,?_⟩;rw[List.drop_of_length_le hge]at q2;exact q2 D ys W2 H2 (x1.trans x2) hD2 g2 p2 (x1.isN hD) r2
theorem fb(vars:List Str)(sel:List Nat)(hc:X.calm=true)(hi:lJ X EX target iter wi)(hg:∀s H fp,pO (X.lc sc vars sel s H fp) target g)(hf:∀s H fp,tu (X.lc sc vars sel s H fp) E0 ifs wf)(he:∀s H fp,PX (X.lc sc vars sel s H fp) E0 elt we)
  (ok:lH sc X.env.scope=true:=by rfl) (so:rP X.N sc sel=true:=by rfl) (hs:∀x,foldedSetIterable iter X.env x=pure x:=by intro _;rfl):PXL X EX (.ListComp elt [⟨target,iter,ifs,0⟩] sc pos) (aLC wi vars.length sel g wf we):=by
 obtain⟨ti,tg,tf,te,pi,pg,pf,pe,k⟩:=AH hi hg hf he;exact⟨⟨_,uK vars sel hc pi ok so pg pf pe hs,k⟩,aLC.mono hi (hg {} (λ_=>none) []).mono (hf {} (λ_=>none) []).mono (he {} (λ_=>none) []).mono⟩
theorem AI(i:Nat)(vars:List Str)(sel:List Nat)(hc:X.calm=true)(hN:X.N.Nodup)(hi:lJ X EX target iter wi)(hg:∀s H fp,pO (X.lc sc vars sel s H fp) target g)(hf:∀s H fp,tu (X.lc sc vars sel s H fp) E0 ifs wf)(he:∀s H fp,PX (X.lc sc vars sel s H fp) E0 elt we)
  (hix:X.N[i]? = some x:=by rfl) (hx:oD X.env.scope x:=by first|exact Or.inl rfl|exact Or.inr rfl)
  (hsw:swapsWith (.ListComp elt [⟨target,iter,ifs,0⟩] sc pos) (some<|.Name x pos') spos.line X.env=pure true:=by rfl)
  (ok:lH sc X.env.scope=true:=by rfl) (so:rP X.N sc sel=true:=by rfl) (hs:∀x,foldedSetIterable iter X.env x=pure x:=by intro _;rfl) (hfn:X.fn x=true\/X.env.scope.names.lookup x=some .local:=by first|exact .inl rfl|exact .inr rfl|assumption) :
  PZ X EX (.Assign [.Name x pos'] (.ListComp elt [⟨target,iter,ifs,0⟩] sc pos) spos) (cc i<|aLC wi vars.length sel g wf we):=by
 obtain⟨ti,tg,tf,te,pi,pg,pf,pe,k⟩:=AH hi hg hf he;have am:=aLC.mono (vars:=vars) (sel:=sel) hi (hg {} (λ_=>none) []).mono (hf {} (λ_=>none) []).mono (he {} (λ_=>none) []).mono;refine⟨⟨_,C2 vars sel hc hN hix hx pi ok so pg pf pe hsw hs hfn,λW0 H0 F W σ H ρ E Dn N s fl eo no h=>?_⟩,λE ρ N N' hl q=>am _ _ _ _ (λ_=>hl.nx _) q⟩;refine k W0 H0 W σ H ρ E _ s eo<|am _ _ _ _ (λxs hd a vs W1 H1 x1 e1 e2 e3 e4 r1=>no.nx W1 _ H1 _ (s.own x1 e4 e1 e2 e3 r1) (fl.ext x1) hd) h
def Zby(g:WG)(zb:WS)(E:Ex->Prop)(N:Nds):List D->cS->Prop
 |[],ρ=>N.nx ρ|d::ds,ρ=>g d ρ λρ1=>zb E { nx:=Zby g zb E N ds,rt:=N.rt,bk:=N.nx,ct:=Zby g zb E N ds } ρ1
def bD(wi:WA)(g:WG)(zb:WS):WS:=λE N ρ=>wi E ρ λds=>Zby g zb E N ds ρ
theorem Zby.mono{zb:WS}(hg:∀d ρ P P',(∀r,P r->P' r)->g d ρ P->g d ρ P')(hb:∀E ρ N N',N.le N'->zb E N ρ->zb E N' ρ){E:Ex->Prop}{N N':Nds}(hl:N.le N'):∀ds ρ,Zby g zb E N ds ρ->Zby g zb E N' ds ρ
 |[],ρ,h=>hl.nx _ h|d::ds,ρ,h=>hg _ _ _ _ (λr hr=>hb E r { nx:=Zby g zb E N ds,rt:=N.rt,bk:=N.nx,ct:=Zby g zb E N ds } _ ⟨Zby.mono hg hb hl ds,hl.rt,hl.nx,Zby.mono hg hb hl ds⟩ hr) h
theorem ii(hp:PassesOwn (model X.prog X.w) X.A X.env X.xe)(hc:X.calm=true)(hi:lJ X EX target iter wi)(hg:pO X target g)(hb:jm X EX body zb)
  (hs:∀x,foldedSetIterable iter X.env x=pure x:=by intro _;rfl):PZ X EX (.For target iter body [] pos) (bD wi g zb):=by
 obtain⟨ti,pi,ki⟩:=hi.t;obtain⟨tg,pg,kg⟩:=hg.t;obtain⟨tb,pb,kb⟩:=hb.t;refine⟨⟨_,rm hp hc pi pg pb hs,λW0 H0 F W σ H ρ E Dn N s fl eo no h=>?_⟩,λE ρ N N' hl q=>hi.mono _ _ _ _ (λds hds=>Zby.mono hg.mono hb.mono hl ds ρ hds) q⟩;refine ki W0 H0 W σ H ρ E _ s eo<|hi.mono _ _ _ _ (λds hds W1 H1 J x1 it=>?_) h;refine⟨λi m σ2 H2=>m=ds.length-i/\i<=ds.length/\∃W2 ρ2,SOk X.K W0 H0 W2 σ2 H2 ρ2/\Wle W1 W2/\Zby g zb E N (ds.drop i) ρ2,⟨_,rfl,iI _,W1,ρ,s.step x1,.refl W1,by rw[tU];exact hds⟩,?_⟩;rintro i m σ2 H2 ⟨rfl,hi',W2,ρ2,s2,f2,q2⟩;obtain⟨itg,its⟩:=it W2 H2 i f2.g f2.p s2.ok;have fF:∀{V:Wd},Wle W1 V->Wle F V:=λf=>(fl.ext x1).trans f;rcases gg i ds.length with hlt|hge
 .have hd:ds[i]? = some ds[i]:=bP hlt
  obtain⟨go',yl⟩:=itg _ hd;rw[sS hlt]at q2;refine .inr ⟨go',λσ3 H3=>∃W3 ρ3,SOk X.K W0 H0 W3 σ3 H3 ρ3/\Wle W1 W3/\Zby g zb E N (ds.drop<|i+1) ρ3,λσ3 H3 ⟨W3,ρ3,s3,f3,q3⟩=>⟨ds.length-(i+1),by omega,rfl,hlt,W3,ρ3,s3,f3,q3⟩,λx H3 y=>?_⟩;obtain⟨W3,x3,r3⟩:=yl x H3 y;refine kg W0 H0 W3 σ2 H3 ρ2 ds[i] x _ (s2.step x3) r3<|hg.mono _ _ _ _ (λρ4 hr σ4 s4=>?_) q2;refine kb W0 H0 W1 W3 σ4 H3 ρ4 E _ { nx:=Zby g zb E N<|ds.drop<|i+1,rt:=N.rt,bk:=N.nx,ct:=Zby g zb E N (ds.drop<|i+1) } s4 (f2.ext x3) eo ⟨λW5 σ5 H5 ρ5 s5 f5 h5=>⟨W5,ρ5,s5,f5,h5⟩,no.rt,λW5 σ5 H5 ρ5 s5 f5 h5=>no.nx W5 σ5 H5 ρ5 s5 (fF f5) h5,λW5 σ5 H5 ρ5 s5 f5 h5=>⟨W5,ρ5,s5,f5,h5⟩⟩ hr
 .have e:i=ds.length:=by omega
  refine .inl ⟨its hge,?_⟩;rw[List.drop_of_length_le hge]at q2;exact no.nx W2 σ2 H2 ρ2 s2 (fF f2) q2
end
def eQ(N:List Str)(ds:List D):cS:=ds.map .d++List.replicate (N.length-ds.length) .un
abbrev Rd(S:List D->(Ex->Prop)->(D->Prop)->Prop)(z:WS)(N:List Str):Prop:=∀ds E Q,S ds E Q->z E { nx:=λ_=>Q .non,rt:=Q } (eQ N ds)
theorem De{W:Wd}{N:List Str}(ok:WOk W H)(r:Reps K W vs ds):SOk K W H W (start N vs) H (eQ N ds) where
 ext:=.refl ok
 len:=by unfold eQ L2.start;simp[r.length]
 d:=λi x e=>by
  unfold eQ at e;rcases gg i ds.length with h|h
  rw[kL<|by simpa using h,cD]at e;cases q:ds[i]? with
  |none=>rw[q]at e;cases e
  |some y=>rw[q]at e;cases e;obtain⟨v,ev,rv⟩:=r.get q;refine⟨v,?_,rv⟩;unfold L2.start;rw[kL (by rw[bU,r.length];exact h),cD,ev];rfl
  rw[j9<|by simpa using h,lD]at e;split at e<;>cases e
 o:=λi xs e=>by
  unfold eQ at e;rcases gg i ds.length with h|h
  rw[kL<|by simpa using h,cD]at e;cases q:ds[i]? with
  |none=>rw[q]at e;cases e
  |some y=>rw[q]at e;cases e
  rw[j9<|by simpa using h,lD]at e;split at e<;>cases e
 ne:=λi j xs ys a _ e=>by
  unfold eQ at e;rcases gg i ds.length with h|h
  rw[kL<|by simpa using h,cD]at e;cases q:ds[i]? with
  |none=>rw[q]at e;cases e
  |some y=>rw[q]at e;cases e
  rw[j9<|by simpa using h,lD]at e;split at e<;>cases e
 oo:=.none λi xs e=>by
  unfold eQ at e;rcases gg i ds.length with h|h
  rw[kL<|by simpa using h,cD]at e;cases q:ds[i]? with
  |none=>rw[q]at e;cases e
  |some y=>rw[q]at e;cases e
  rw[j9<|by simpa using h,lD]at e;split at e<;>cases e
section
variable{w:World}
theorem u4{N:List Str}(F:Fun K x qual st f fd)(sc:dn N ps (aM st))(len:∀ds E Q,S ds E Q->ds.length=ps.length)
  (hbody:∀ (cdv:Value) (A:Around) (outer:List Env) (s:Shared) (H:Hp) (E:XK),Room k (A.deeper<|envOfC qual (aM st) s.heap.objs.size f cdv)->
   dw (fP P w) (eD (fP P w) P w K mg base N qual (aM st) f cdv A outer s H E) E->li (eD (fP P w) P w K mg base N qual (aM st) f cdv A outer s H E) E->
   jm (eD (fP P w) P w K mg base N qual (aM st) f cdv A outer s H E) E (bQ st) z)
  (h:∀ds E Q,S ds E Q->z E { nx:=λ_=>Q .non,rt:=Q } (eQ N ds)):gi P w K mg base (fP P w) (k+1) f fd ps (gJ K S):=by
 obtain⟨oc,od,kV,doc,pm,an,cdv,ct,osl,rfl,lk,hcd⟩:=F.ex;refine uA lk hcd sc (λvs H Q E hs=>?_) λA outer s H vs Q E hr hs=>?_
 .obtain⟨ds,W,_,r,hS⟩:=hs
  rw[r.length];exact len _ _ _ hS
 .obtain⟨ds,W,ok,r,hS⟩:=hs
  obtain⟨t,p,k⟩:=(hbody cdv A outer s H E hr Hs Ht).t;refine ⟨t,p,k W H W W (start N vs) H (eQ N ds) (λex=>∀ W' H' cls dx,Ext W H W' H'->xI K W' H' cls dx ex->E cls dx H') _ { nx:=λ_=>RQ K W H Q .non,rt:=RQ K W H Q } (De ok r) (.refl W) (λex W' H' cls dx he x r=>he W' H' cls dx x r)
   ⟨λW1 σ1 H1 ρ1 s1 _ q=>q _ W1 H1 s1.ext .non,λd v W1 H1 x1 r1 q=>q v W1 H1 x1 r1,λ_ _ _ _ _ _ q=>q.elim,λ_ _ _ _ _ _ q=>q.elim⟩ (h ds _ _ hS)⟩
end
structure Fp(P:Program)(w:World)(K:Nd)(mg:Str->Option Value)(base:Heap)(k:Nat)(x:Str)(ps:List Str)(S:bR):Prop where
 ok:∃f fd,gi P w K mg base (fP P w) k f fd ps (gJ K S)/\mg x=some (.ref f)/\PySem.W.keepIn K (.ref f)=true/\Binds K fd ps []
 mono:pN S
section
variable{t:WA}
theorem aX(G:Fp X.prog X.w X.K X.mg X.base k x ps S)(hr:Room j X.A)(hx:dw (fP X.prog X.w) X EX)(ha:i9 X EX (e::es) t)(hk:k<=j:=by decide)(hg:Gl X x:=by rfl)(hdb:(x==("__debug__" : Str))=false:=by decide)(he:starEach (e::es) X.env=(false,eval e X.env)::starEach es X.env:=by rfl)(hpl:(backTo pos<|starEach es X.env).any (·.1)=false:=by rfl) :
  PX X EX (.Call (.Name x p) (e::es) [] pos) (wF S t):=by
 obtain⟨f,fd,F,hm,kp,hb⟩:=G.ok;exact Ip F G.mono (hr.mono hk) hm kp hb hx ha hg hdb he hpl
def bG(z:WS):WS:=λ_ N ρ=>z No N ρ
theorem gq(h:PZ X.nox E0 st z):PZ X EX st (bG z):=by obtain⟨t,p,k⟩:=h.t;refine⟨⟨t,λpins s σ H D I hw=>Nw (p pins s σ H D (I.wish _) hw) (λ_ _ q=>q.unwish) λ_ _ z=>Nu z,λW0 H0 F W σ H ρ E Dn N s fl eo no q=>k W0 H0 F W σ H ρ No Dn N s fl (λ_ _ _ _ _ z=>z.elim) no q⟩,λE ρ N N' hl q=>h.mono _ _ _ _ hl q⟩
end
section
variable{a b:Expr}
def isS(Q:List D->Prop):D->Prop
 |.lst xs=>Q xs|.tup xs=>Q xs|_=>False
theorem isS.mono{Q:List D->Prop}(h:∀b,Q b->Q' b):∀d,isS Q d->isS Q' d:=λd z=>by cases d<;>first|exact h _ z|exact z
def iS(w:WE):WA:=λE ρ Q=>w E ρ<|isS Q
theorem eU(he:PX X EX e w):lJ X EX tg e (iS w):=by
 obtain⟨t,q,k⟩:=he.t;refine⟨⟨_,Hu q,λW0 H0 W σ H ρ E R s eo h=>?_⟩,λE ρ P P' hp h=>he.mono _ _ _ _ (isS.mono hp) h⟩;refine k W0 H0 W σ H ρ E _ s eo<|he.mono _ _ _ _ (λd hd v W1 H1 x1 r1=>?_) h;have keyT:∀{l:Addr} {vs:List V} {xs:List D},(∀W' H' J,Ext W H W' H'->nY X.K W' J xs->R J H')->(∀W2 H2,(∀a o,W1.G a=some o->W2.G a=some o)->WOk W2 H2->SqT X.K H2 l vs)->Reps X.K W1 vs xs->(∃ys,SqT X.K H1 l ys)/\R (Ad X.K l) H1:=by intro l vs xs hq sq rr;refine⟨⟨vs,sq W1 H1 (λ_ _ z=>z) x1.ok⟩,hq W1 H1 _ x1 λW2 H2 i g2 p2 ok2=>⟨λd hd=>?_,λhi=>⟨vs,sq W2 H2 g2 ok2,by rw[rr.length];exact hi⟩⟩⟩;obtain⟨v,ev,rv⟩:=rr.get hd;refine⟨⟨vs,v,sq W2 H2 g2 ok2,ev⟩,λx H3 y=>?_⟩;obtain⟨rfl,y⟩:=y;have:=y vs<|sq W2 _ g2 ok2;rw[ev]at this;cases this;exact⟨W2,.refl ok2,rv.mono g2 p2⟩
 cases r1 with
 | @lst l vs xs e1 rr=>have hq:∀W' H' J,Ext W H W' H'->nY X.K W' J xs->R J H':=hd;refine⟨l,rfl,.inl ⟨⟨vs,SqL.of<|x1.ok.g _ _ e1⟩,hq W1 H1 _ x1 λW2 H2 i g2 p2 ok2=>⟨λd hd=>?_,λhi=>⟨vs,SqL.of<|ok2.g _ _<|g2 _ _ e1,by rw[rr.length];exact hi⟩⟩⟩⟩;obtain⟨v,ev,rv⟩:=rr.get hd;have sq:SqL X.K H2 l vs:=SqL.of<|ok2.g _ _ (g2 _ _ e1);refine⟨⟨vs,v,sq,ev⟩,λx H3 y=>?_⟩;obtain⟨rfl,y⟩:=y;have:=y vs sq;rw[ev]at this;cases this;exact⟨W2,.refl ok2,rv.mono g2 p2⟩
 |tup e1 rr=>exact⟨_,rfl,.inr<|keyT hd (λW2 H2 g2 ok2=>SqT.of<|ok2.g _ _<|g2 _ _ e1) rr⟩|ktup e1 rr=>exact⟨_,rfl,.inr<|keyT hd (λW2 H2 g2 ok2=>.inr e1) rr⟩|non=>exact hd.elim|bl _=>exact hd.elim|int _=>exact hd.elim|str _=>exact hd.elim|dic _=>exact hd.elim|pen _=>exact hd.elim|cls _=>exact hd.elim|exc _ _=>exact hd.elim|ty _=>exact hd.elim|scr _ _=>exact hd.elim
theorem ja{T:String}(hm:X.mg x=none)(hv:bootBuiltins x=some (.type T))(hg:Gl X x:=by rfl)(hn:x≠ "__name__" :=by decide)(hd:(x==("__debug__" : Str))=false:=by decide):PX X EX (.Name x pos) (wC<|.ty T):=
 Ij (v:=.ty T) hm hv rfl (λ_=>.ty T) hg hn hd
theorem IE{i:Int}{t:Tok}(hm:X.mg x=some (.int i t))(hg:Gl X x:=by rfl)(hd:(x==("__debug__" : Str))=false:=by decide):PX X EX (.Name x pos) (wC<|.int i):=
 AB (v:=.int i) hm ⟨t,rfl⟩ (λ_=>.int i) hg hd
theorem IF{a:Addr}(hm:X.mg x=some (.ref a))(hk:KT X.K a vs)(hr:∀W,Reps X.K W vs ds)(hg:Gl X x:=by rfl)(hd:(x==("__debug__" : Str))=false:=by decide):PX X EX (.Name x pos) (wC<|.tup ds):=
 AB (v:=.ref a) hm rfl (λW=>.ktup hk<|hr W) hg hd
end
theorem IG{neg:Bool}{i j:Int}(h:Q (.bl (if neg then !(i==j) else i==j))):gEq neg (.int i) (.int j) Q:=by refine⟨.int i,.int j,rfl,rfl,rfl,rfl,?_⟩;exact h
theorem kE{neg:Bool}{i j:Int}:gEq neg (.int i) (.int j) Q↔Q (.bl (if neg then !(i==j) else i==j)):=
 ⟨λ⟨p,q,h1,h2,_,_,h⟩=>by cases h1;cases h2;exact h,IG⟩
section
variable{a b c:Expr}
abbrev rW:=List D->cS->(cS->Prop)->Prop
structure pP(X:Cx)(ts:List Expr)(g:rW):Prop where
 t:∃t,uk X ts t/\∀W0 H0 W σ H ρ ds vs Q,SOk X.K W0 H0 W σ H ρ->Reps X.K W vs ds->g ds ρ (λρ'=>∀σ',SOk X.K W0 H0 W σ' H ρ'->Q σ' H)->t vs σ H Q
 mono:∀d ρ P P',(∀r,P r->P' r)->g d ρ P->g d ρ P'
 own:∀d ρ P,Zit ρ->g d ρ P->g d ρ (λr=>Zit r/\P r)
def dP:rW:=λds ρ k=>match ds with|[]=>k ρ|_=>False
def cJ(g:WG)(gs:rW):rW:=λds ρ k=>match ds with
 |d::ds=>g d ρ λρ'=>gs ds ρ' k
 |_=>False
theorem kF:pP X [] dP:=by
 refine⟨⟨_,kn,λW0 H0 W σ H ρ ds vs Q s r h=>?_⟩,λd ρ P P' hp h=>?_,λd ρ P ho h=>?_⟩;cases r with
 |nil=>exact⟨rfl,h σ s⟩|cons _ _=>exact h.elim
 cases d with
 |nil=>exact hp _ h|cons _ _=>exact h.elim
 cases d with
 |nil=>exact⟨ho,h⟩|cons _ _=>exact h.elim
theorem fQ{gs:rW}(h1:pO X e g)(h2:pP X es gs)(hs:(assignEach (e::es) X.env).map (·.2)=assign e X.env::(assignEach es X.env).map (·.2):=by rfl):pP X (e::es) (cJ g gs):=by
 obtain⟨t1,p1,k1⟩:=h1.t;obtain⟨t2,p2,k2⟩:=h2.t;refine⟨⟨_,gD p1 p2 hs,λW0 H0 W σ H ρ ds vs Q s r h=>?_⟩,λd ρ P P' hp h=>?_,λd ρ P ho h=>?_⟩;cases r with
 |nil=>exact h.elim|cons r rr=>exact⟨_,_,rfl,k1 W0 H0 W σ H ρ _ _ _ s r<|h1.mono _ _ _ _ (λρ' h' σ' s'=>k2 W0 H0 W σ' H ρ' _ _ Q s' rr h') h⟩
 cases d with
 |nil=>exact h.elim|cons d ds=>exact h1.mono _ _ _ _ (λr hr=>h2.mono _ _ _ _ hp hr) h
 cases d with
 |nil=>exact h.elim|cons d ds=>exact h1.mono _ _ _ _ (λr hr=>h2.own _ _ _ hr.1 hr.2)<|h1.own _ _ _ ho h
def dQ(n:Nat)(gs:rW):WG:=λd ρ k=>match d with|.tup xs=>xs.length=n/\gs xs ρ k|_=>False
theorem kG{gs:rW}(hc:X.calm=true)(h:pP X es gs)(hn:(assignEach es X.env).length=n:=by rfl)(hst:(assignEach es X.env).findIdx? (·.1)=none:=by rfl):pO X (.Tuple es k pos) (dQ n gs):=by obtain⟨t,p,kk⟩:=h.t;refine⟨⟨_,nb hc p hn hst,λW0 H0 W σ H ρ d v Q s r q=>?_⟩,λd ρ P P' hp q=>?_,λd ρ P ho q=>?_⟩;unfold dQ at q;split at q;obtain⟨a,vs,rfl,h1,rr⟩:=r.sqt s.ok;exact⟨a,vs,rfl,h1,rr.length.trans q.1,kk W0 H0 W σ H ρ _ _ Q s rr q.2⟩;exact q.elim;unfold dQ at q ⊢;split at q;exact⟨q.1,h.mono _ _ _ _ hp q.2⟩;exact q.elim;unfold dQ at q ⊢;split at q;exact⟨q.1,h.own _ _ _ ho q.2⟩;exact q.elim
def ee(w:WE)(g:WG):WS:=λE N ρ=>w E ρ λd=>g d ρ N.nx
theorem Df(he:PX X EX e w)(hg:pO X tg g)(hs:swapsWithSole [tg] e pos.line X.env=pure false:=by rfl)(hw:swappedStores [tg] e X.env=pure none:=by rfl)
  (h1:(assignEach [tg] X.env).map (·.2)=[assign tg X.env]:=by rfl):PZ X EX (.Assign [tg] e pos) (ee w g):=by
 obtain⟨t,p,k⟩:=he.t;obtain⟨t2,p2,k2⟩:=hg.t;refine⟨⟨_,iO p p2 hs hw h1,λW0 H0 F W σ H ρ E Dn N s fl eo no h=>?_⟩,λE ρ N N' hl q=>he.mono _ _ _ _ (λd hd=>hg.mono _ _ _ _ hl.nx hd) q⟩;refine k W0 H0 W σ H ρ E _ s eo<|he.mono _ _ _ _ (λd hd v W1 H1 x1 r1=>?_) h;exact k2 W0 H0 W1 σ H1 ρ d v _ (s.step x1) r1<|hg.mono _ _ _ _ (λρ' h' σ' s'=>no.nx W1 σ' H1 ρ' s' (fl.ext x1) h') hd
def eI(i j:Nat)(t:WA):WS:=λE N ρ=>t E ρ λds=>match ds with
 |[x,y]=>N.nx<|(ρ.set i<|.d x).set j (.d y)
 |_=>False
theorem Dg(i j:Nat){y:Str}{t:WA}{px py pt:Pos}{kt k2 pt2}(hN:X.N.Nodup)(ha:i9 X EX [a,b] t)(hc:X.calm=true:=by rfl)(hi:X.N[i]? = some x:=by rfl)(hj:X.N[j]? = some y:=by rfl)(hij:i≠j:=by decide)
  (hx:X.env.scope.names.lookup x=some .local:=by rfl) (hy:X.env.scope.names.lookup y=some .local:=by rfl)
  (hw:swappedStores [.Tuple [.Name x px,.Name y py] kt pt] (.Tuple [a,b] k2 pt2) X.env=pure (some [x,y]):=by rfl)
  (hs:swapsWithSole [.Tuple [.Name x px,.Name y py] kt pt] (.Tuple [a,b] k2 pt2) pos.line X.env=pure false:=by rfl) :
  PZ X EX (.Assign [.Tuple [.Name x px,.Name y py] kt pt] (.Tuple [a,b] k2 pt2) pos) (eI i j t):=by
 obtain⟨ta,p,k⟩:=ha.t;refine⟨⟨_,rj hc hN hi hj hij hx hy p hw hs,λW0 H0 F W σ H ρ E Dn N s fl eo no h=>?_⟩,λE ρ N N' hl q=>ha.mono _ _ _ _ (λds hd=>?_) q⟩
 .refine k W0 H0 W σ H ρ E _ s eo (ha.mono _ _ _ _ (λds hd vs W1 H1 x1 r1=>?_) h)
  split at hd
  .obtain⟨v,u,rfl,rv,ru⟩:=r1.two
   exact⟨v,u,rfl,no.nx W1 _ H1 _ (((s.step x1).set rv).set ru) (fl.ext x1) hd⟩
  .exact hd.elim
 .split at hd
  .exact hl.nx _ hd
  .exact hd.elim
def qy(c:WT)(zb:WS):WS:=λE N ρ=>∃I:Nat->cS->Prop,(∃m,I m ρ)/\∀m ρ,I m ρ->c E ρ λb=>
 if b=true then zb E { nx:=λρ'=>∃m',m'<m/\I m' ρ',rt:=N.rt,bk:=N.nx,ct:=λρ'=>∃m',m'<m/\I m' ρ' } ρ else N.nx ρ
theorem xQ(hp:PassesOwn (model X.prog X.w) X.A X.env X.xe)(hc:kA X EX c wt)(hb:jm X EX body zb):PZ X EX (.While c body [] pos) (qy wt zb):=by
 obtain⟨tc,pc,kc⟩:=hc.t;obtain⟨tb,pb,kb⟩:=hb.t;refine⟨⟨_,nh hp pc pb,λW0 H0 F W σ H ρ E Dn N s fl eo no h=>?_⟩,λE ρ N N' hl q=>?_⟩;obtain⟨I,⟨m0,i0⟩,turn⟩:=h;refine⟨λm σ H=>∃W ρ,SOk X.K W0 H0 W σ H ρ/\Wle F W/\I m ρ,⟨m0,W,ρ,s,fl,i0⟩,?_⟩;rintro m σ2 H2 ⟨W2,ρ2,s2,f2,i2⟩;refine kc W0 H0 W2 σ2 H2 ρ2 E _ s2 eo<|hc.mono _ _ _ _ (λb hb' W3 H3 x3=>?_) (turn m ρ2 i2);cases b with
 |true=>
  rw[if_pos rfl]at hb' ⊢;refine⟨λσ4 H4=>∃m',m'<m/\∃W ρ,SOk X.K W0 H0 W σ4 H4 ρ/\Wle F W/\I m' ρ,λσ4 H4 ⟨m',hm,q⟩=>⟨m',hm,q⟩,?_⟩;exact kb W0 H0 F W3 σ2 H3 ρ2 E _ { nx:=λρ'=>∃m',m'<m/\I m' ρ',rt:=N.rt,bk:=N.nx,ct:=λρ'=>∃m',m'<m/\I m' ρ' } (s2.step x3) (f2.ext x3) eo
   ⟨λW5 σ5 H5 ρ5 s5 f5 ⟨m',hm,q⟩=>⟨m',hm,W5,ρ5,s5,f5,q⟩,no.rt,λW5 σ5 H5 ρ5 s5 f5 q=>no.nx W5 σ5 H5 ρ5 s5 f5 q,λW5 σ5 H5 ρ5 s5 f5 ⟨m',hm,q⟩=>⟨m',hm,W5,ρ5,s5,f5,q⟩⟩ hb'
 |false=>rw[if_neg<|by decide]at hb' ⊢;exact no.nx W3 σ2 H3 ρ2 (s2.step x3) (f2.ext x3) hb'
 obtain⟨I,i0,turn⟩:=q;refine⟨I,i0,λm ρ i=>hc.mono _ _ _ _ (λb hb'=>?_)<|turn m ρ i⟩;cases b with
 |true=>rw[if_pos rfl]at hb' ⊢;exact hb.mono E ρ { nx:=λρ'=>∃m',m'<m/\I m' ρ',rt:=N.rt,bk:=N.nx,ct:=λρ'=>∃m',m'<m/\I m' ρ' } _ ⟨λ_ z=>z,hl.rt,hl.nx,λ_ z=>z⟩ hb'|false=>rw[if_neg<|by decide]at hb' ⊢;exact hl.nx _ hb'
theorem IH{tc:TT}(hc:PT X c tc)(hs:exec (.Assert c none pos) X.env=(do standAt pos;if<-isTrue c X.env (eval c X.env) then pure .next else assertFails c.pos (evalOpt none X.env)):=by rfl):PS X (.Assert c none pos) (λD σ H=>tc σ H λb H1=>b=true/\D.nx σ H1):=by intro pins s σ H D I h;rw[hs];refine Nc<|NJ (Nc<|bW (hc pins s σ H _ I h) λb s1 ⟨H1,I1,e,q⟩=>?_);subst e;rw[if_pos rfl];exact Nf ⟨σ,H1,I1,q⟩
def jC(c:WT):WS:=λE N ρ=>c E ρ λb=>b=true/\N.nx ρ
theorem II(hc:kA X EX c wt)(hs:exec (.Assert c none pos) X.env=(do standAt pos;if<-isTrue c X.env (eval c X.env) then pure .next else assertFails c.pos (evalOpt none X.env)):=by rfl):PZ X EX (.Assert c none pos) (jC wt):=by obtain⟨tc,pc,kc⟩:=hc.t;refine⟨⟨_,IH pc hs,λW0 H0 F W σ H ρ E Dn N s fl eo no h=>?_⟩,λE ρ N N' hl q=>hc.mono _ _ _ _ (λb hb=>⟨hb.1,hl.nx _ hb.2⟩) q⟩;exact kc W0 H0 W σ H ρ E _ s eo<|hc.mono _ _ _ _ (λb hb W1 H1 x1=>⟨hb.1,no.nx W1 σ H1 ρ (s.step x1) (fl.ext x1) hb.2⟩) h
def cU(i:Nat)(w:WE):WS:=λE N ρ=>match ρ[i]? with
 |some (.ow xs)=>w E ρ λd=>xs.length<aL/\N.nx (ρ.set i<|.ow<|xs++[d])
 |_=>False
theorem tw(i:Nat)(he:PX X EX e w)(hN:X.N[i]? = some x:=by rfl)(hv:oY X.env.scope x:=by first|exact Or.inl rfl|exact Or.inr (Or.inl rfl)|exact Or.inr<|Or.inr rfl)(hd:(x==("__debug__" : Str))=false:=by decide)
  (hcd:(x==("__classdict__" : Str))=false:=by decide) (hbase:attributeBase (.Name x p) "append" X.env (eval (.Name x p) X.env)=eval (.Name x p) X.env:=by rfl)
  (hfew:((backTo cpos<|starEach [e] X.env).all (λx=>!x.1)&&(backToKw cpos<|keywordEach [] X.env).all (λx=>x.1.isSome)&&decide ([e].length+([]:List Keyword).length+(if([]:List Keyword).isEmpty then 0 else 1)<30))=true:=by rfl)
  (hline:(apos.endLine==cpos.line)=true:=by rfl) (hs:starEach [e] X.env=(false,eval e X.env)::starEach [] X.env:=by rfl) (hplain:(backTo cpos<|starEach [] X.env).any (·.1)=false:=by rfl)
  (hsw:swapsWith (.Call (.Attribute (.Name x p) "append" apos) [e] [] cpos) none pos.line X.env=pure false:=by rfl):PZ X EX (.Expr (.Call (.Attribute (.Name x p) "append" apos) [e] [] cpos) pos) (cU i w):=by
 obtain⟨t,pe,k⟩:=he.t;refine⟨⟨_,kj (qm PySem.F.plainAttrs_list PySem.F.slot_list_append PySem.F.type_list_append k9 (fh hN hv hd hcd) (kw pe nG hs) hbase hfew hline hs hplain) hsw,λW0 H0 F W σ H ρ E Dn N s fl eo no h=>?_⟩,λE ρ N N' hl q=>?_⟩
 .unfold cU at h
  split at h
  .rename_i xs ex
   obtain⟨a,vs,e1,e2,e3,e4,e5,r⟩:=s.o i xs ex;refine⟨_,e1,.inl ⟨rfl,vs,SqL.of e2⟩,?_⟩;refine k W0 H0 W σ H ρ E _ s eo<|he.mono _ _ _ _ (λd hd v W1 H1 x1 r1=>?_) h;have e2':=x1.h a _ e2 e4;refine⟨a,vs,v,rfl,rfl,e2',by rw[r.length];exact dm hd.1<|pM<|cB _,?_⟩;exact no.nx W1 σ _ _ ((s.step x1).chg ex e1<|(x1.reps r).append<|.cons r1 .nil) (fl.ext x1) hd.2
  .exact h.elim
 .unfold cU at q ⊢
  split at q
  .exact he.mono _ _ _ _ (λd hd=>⟨hd.1,hl.nx _ hd.2⟩) q
  .exact q.elim
end
section
variable{ps:Pos}{a b:Expr}
theorem Rep.sq{W:Wd}{v:V}{Q:List D->Prop}(r:Rep K W v d)(h:isS Q d):∃κ l vs xs,v=.ref l/\Reps K W vs xs/\Q xs/\∀W2 H2,(∀a o,W.G a=some o->W2.G a=some o)->WOk W2 H2->Sq K κ H2 l vs:=by
 cases r with
 |lst e1 rr=>exact⟨false,_,_,_,rfl,rr,h,λW2 H2 g ok=>SqL.of<|ok.g _ _<|g _ _ e1⟩|tup e1 rr=>exact⟨true,_,_,_,rfl,rr,h,λW2 H2 g ok=>SqT.of<|ok.g _ _<|g _ _ e1⟩|ktup e1 rr=>exact⟨true,_,_,_,rfl,rr,h,λW2 H2 g ok=>.inr e1⟩|_=>exact h.elim
def cX(xs ys:List D):List D:=List.zipWith (λx y=>.tup [x,y]) xs ys
def iZ(t:WA):WA:=λE ρ Q=>t E ρ λds=>match ds with|[x,y]=>isS (λxs=>isS (λys=>Q<|cX xs ys) y) x|_=>False
theorem xR{t:WA}(hm:X.mg "zip" = none)(ha:i9 X EX [a,b] t)(hg:Gl X "zip" :=by rfl)(hs:starEach [a,b] X.env=[(false,eval a X.env),(false,eval b X.env)]:=by rfl)(hs2:starEach [b] X.env=[(false,eval b X.env)]:=by rfl) :
  lJ X EX (.Tuple es n1 ps) (.Call (.Name "zip" p) [a,b] [] pos) (iZ t):=by
 obtain⟨t,q,k⟩:=ha.t;refine⟨⟨_,HC hg hm q hs hs2,λW0 H0 W σ H ρ E R s eo h=>?_⟩,λE ρ P P' hp h=>ha.mono _ _ _ _ (λds hd=>?_) h⟩
 .refine k W0 H0 W σ H ρ E _ s eo (ha.mono _ _ _ _ (λds hd vs W1 H1 x1 r1=>?_) h)
  split at hd
  .obtain⟨v,u,rfl,rv,ru⟩:=r1.two
   obtain⟨κ,l,vs,xs,rfl,rr,hd,sq⟩:=rv.sq hd;obtain⟨κ',l',us,ys,rfl,rr',hd,sq'⟩:=ru.sq hd;refine⟨κ,κ',l,l',rfl,⟨vs,sq W1 H1 (λ_ _ z=>z) x1.ok⟩,⟨us,sq' W1 H1 (λ_ _ z=>z) x1.ok⟩,hd W1 H1 _ x1 λW2 H2 i g2 p2 ok2=>⟨λd hd=>?_,λhi=>?_⟩⟩
   .have s1:=sq W2 H2 g2 ok2
    have s2:=sq' W2 H2 g2 ok2;unfold cX at hd;rw[zC]at hd;cases ex:xs[i]? with
    |none=>rw[ex]at hd;cases hd
    |some x=>
     cases ey:ys[i]? with
     |none=>rw[ex,ey]at hd;cases hd
     |some y=>
      rw[ex,ey]at hd;cases hd;obtain⟨vx,evx,rvx⟩:=rr.get ex;obtain⟨vy,evy,rvy⟩:=rr'.get ey;refine⟨⟨vs,us,vx,vy,s1,s2,evx,evy⟩,λz H3 hy=>?_⟩;obtain⟨q,x',y',rfl,hq,rfl,e1,e2⟩:=hy;have e1:=e1 _ s1;have e2:=e2 _ s2;rw[evx]at e1;rw[evy]at e2;cases e1;cases e2;have xt:=Ext.put (o:=.tup [vx,vy]) ok2 hq;exact⟨_,xt,.tup (by unfold Wd.put;dsimp only;rw[aT])<|.cons (xt.rep<|rvx.mono g2 p2)<|.cons (xt.rep<|rvy.mono g2 p2) .nil⟩
   .refine⟨vs,us,sq W2 H2 g2 ok2,sq' W2 H2 g2 ok2,?_⟩
    rw[rr.length,rr'.length];unfold cX at hi;rw[jw]at hi;omega
  .exact hd.elim
 .split at hd
  .exact isS.mono (λxs h1=>isS.mono (λys h2=>hp _ h2) _ h1) _ hd
  .exact hd.elim
def ge(i:Nat)(wi wv:WE):WS:=λE N ρ=>match ρ[i]? with
 |some (.ow xs)=>wv E ρ λd=>wi E ρ (isI λk=>∃j,ky xs.length k=some j/\N.nx (ρ.set i<|.ow<|xs.set j d))
 |_=>False
theorem u5(i:Nat){wi:WE}(hix:PX X EX ix wi)(he:PX X EX e wv)(hN:X.N[i]? = some x:=by rfl)(hv:oY X.env.scope x:=by first|exact Or.inl rfl|exact Or.inr (Or.inl rfl)|exact Or.inr<|Or.inr rfl)(hd:(x==("__debug__" : Str))=false:=by decide)
  (hcd:(x==("__classdict__" : Str))=false:=by decide)
  (ha:∀ v,assign (.Subscript (.Name x p) ix spos) X.env v=(do
   let ov <-holding [v] (eval (.Name x p) X.env)
   let iv <-holding [v,ov] (eval ix X.env)
   standAt spos
   holding [v,ov,iv] (setItem ov iv v)
   release [v,ov,iv] []):=by intro _;rfl)
  (hs:swapsWithSole [.Subscript (.Name x p) ix spos] e pos.line X.env=pure false:=by rfl) (hw:swappedStores [.Subscript (.Name x p) ix spos] e X.env=pure none:=by rfl)
  (h1:(assignEach [.Subscript (.Name x p) ix spos] X.env).map (·.2)=[assign (.Subscript (.Name x p) ix spos) X.env]:=by rfl):PZ X EX (.Assign [.Subscript (.Name x p) ix spos] e pos) (ge i wi wv):=by
 obtain⟨t,pe,k⟩:=he.t;obtain⟨ti,pi,ki⟩:=hix.t;refine⟨⟨_,iO pe (iN (fh hN hv hd hcd) pi fB ha) hs hw h1,λW0 H0 F W σ H ρ E Dn N s fl eo no h=>?_⟩,λE ρ N N' hl q=>?_⟩
 .unfold ge at h
  split at h
  .rename_i xs ex
   obtain⟨a,vs,e1,e2,e3,e4,e5,r⟩:=s.o i xs ex;refine k W0 H0 W σ H ρ E _ s eo<|he.mono _ _ _ _ (λd hd v W1 H1 x1 r1=>⟨_,e1,?_⟩) h;refine ki W0 H0 W1 σ H1 ρ E _ (s.step x1) eo<|hix.mono _ _ _ _ (λdi hdi vi W2 H2 x2 r2=>?_) hd;obtain⟨kk,rfl,j,hj,hn⟩:=qu hdi;cases r2;have xx:=x1.trans x2;have e2':=xx.h a _ e2 e4;refine⟨a,vs,kk,j,rfl,rfl,e2',by rw[r.length];exact hj,?_⟩;exact no.nx W2 σ _ _ ((s.step xx).chg ex e1<|Reps.set (x2.rep r1) j<|xx.reps r) (fl.ext xx) hn
  .exact h.elim
 .unfold ge at q ⊢
  split at q
  .exact he.mono _ _ _ _ (λd hd=>hix.mono _ _ _ _ (isI.mono λkk ⟨j,hj,hn⟩=>⟨j,hj,hl.nx _ hn⟩) hd) q
  .exact q.elim
end
mutual
def i6:D->Bool
 |.lst _=>false|.scr _=>false|.dic=>false|.tup xs=>lm xs|.non=>true|.bl _=>true|.int _=>true|.str _=>true|.pen=>true|.cls _=>true|.exc _=>true|.ty _=>true
def lm:List D->Bool
 |[]=>true|x::r=>i6 x&&lm r
end
def Wd.rem(W:Wd)(a:Addr):Wd:=⟨λb=>if b=a then none else W.G b,W.Pn⟩
section
variable{W:Wd}{a:Addr}
theorem Wd.rem_ne{b:Addr}(h:b≠a):(W.rem a).G b=W.G b:=by unfold Wd.rem;dsimp only;rw[if_neg h]
theorem Wd.rem_same:(W.rem a).G a=none:=by unfold Wd.rem;dsimp only;rw[if_pos rfl]
mutual
theorem Rep.rem(h:W.G a=some (.lst us)):∀{v:V} {d:D},Rep K W v d->i6 d=true->Rep K (W.rem a) v d
 |_,_,.non,_=>.non|_,_,.bl b,_=>.bl b|_,_,.int i,_=>.int i|_,_,.str x,_=>.str x|_,_,.tup e r,f=>.tup (by rw[Wd.rem_ne (λz=>by rw[z,h]at e;cases e)];exact e)<|Reps.rem h r (by rw[i6]at f;exact f)
 |_,_,.ktup e r,f=>.ktup e<|Reps.rem h r (by rw[i6]at f;exact f)
 |_,_,.lst e r,f=>by rw[i6]at f;cases f
 |_,_,.scr e r,f=>by rw[i6]at f;cases f
 |_,_,.dic e,f=>by rw[i6]at f;cases f
 |_,_,.pen e,_=>.pen e|_,_,.cls e,_=>.cls e|_,_,.exc e n x,_=>.exc (by rw[Wd.rem_ne (λz=>by rw[z,h]at e;cases e)];exact e) n λc f k q=>let⟨d,e1,e2⟩:=x c f k q;⟨d,e1,by rw[Wd.rem_ne (λz=>by rw[z,h]at e2;cases e2)];exact e2⟩
 |_,_,.ty n,_=>.ty n
theorem Reps.rem(h:W.G a=some (.lst us)):∀{vs:List V} {ds:List D},Reps K W vs ds->lm ds=true->Reps K (W.rem a) vs ds
 |_,_,.nil,_=>.nil|_,_,.cons r t,f=>by rw[lm,c9]at f;exact .cons (Rep.rem h r f.1)<|Reps.rem h t f.2
end
theorem Ext.bor(x:Ext (W.put a<|.lst us) H W2 H2)(hg:W.G a=none):Ext W H (W2.rem a) H2 where
 ok:=⟨λb o e=>by
   by_cases hb:b=a
   .subst hb;rw[Wd.rem_same]at e;cases e
   .rw[Wd.rem_ne hb]at e;exact x.ok.g b o e,
  λb hb=>⟨(x.ok.p b hb).1,by
   by_cases hba:b=a
   .subst hba;exact Wd.rem_same
   .rw[Wd.rem_ne hba];exact(x.ok.p b hb).2⟩⟩
 g:=λb o e=>by
  have hb:b≠a:=λz=>by rw[z,hg]at e;cases e
  rw[Wd.rem_ne hb];exact x.g b o (by unfold Wd.put;dsimp only;rw[aI hb];exact e)
 p:=x.p
 gf:=λb e n=>by by_cases hb:b=a;subst hb;exact Ng Wd.rem_same n;rw[Wd.rem_ne hb]at n;exact x.gf b (by unfold Wd.put;dsimp only;rw[aI hb];exact e) n
 pf:=x.pf
 h:=x.h
theorem SOk.pubAt(s:SOk K W0 H0 W σ H ρ)(e:ρ[i]? = some (.ow xs))(e1:σ[i]? = some (some<|V.ref a))(e2:H a=some (.lst us))(e3:W.G a=none)(e4:¬W.Pn a)(e5:H0 a=none)(r:Reps K W us xs) :
  SOk K W0 H0 (W.put a<|.lst us) σ H (LP.pub i ρ):=by
 have ep:LP.pub i ρ=ρ.set i (.d<|.lst xs):=by unfold LP.pub;rw[e]
 rw[ep];have hi:i<ρ.length:=(Yap.mp e).1;refine⟨s.ext.pub e5 e2 e4 e3,by rw[et];exact s.len,λj y ej=>?_,λj ys ej=>?_,λj k ys zs b hjk ej ek e6=>?_,OOs.set ⟨λj xss ej=>let⟨a',bs,q1,q,n⟩:=s.oo.t j xss ej;⟨a',bs,q1,q.put (n i xs a e e1) e3,n⟩,s.oo.u⟩ (λ_ h=>by cases h) (λ_ _=>rfl) λ_ _ h=>by cases h⟩
 .by_cases h:i=j
  .subst h
   rw[fe hi]at ej;cases ej;exact⟨_,e1,.lst (by unfold Wd.put;dsimp only;rw[aT])<|r.mono (pL e3) λ_ z=>z⟩
  .rw[eN h]at ej
   obtain⟨v,q1,q2⟩:=s.d j y ej;exact⟨v,q1,q2.mono (pL e3) λ_ z=>z⟩
 .have h:i≠j:=λh=>by subst h;rw[fe hi]at ej;cases ej
  rw[eN h]at ej;obtain⟨b,us',q1,q2,q3,q4,q5,rr⟩:=s.o j ys ej;have hba:b≠a:=λz=>s.ne i j xs ys a h e ej e1 (by rw[<-z];exact q1);refine⟨b,us',q1,q2,?_,q4,q5,rr.mono (pL e3) λ_ z=>z⟩;unfold Wd.put;dsimp only;rw[aI hba];exact q3
 .have h:i≠j:=λh=>by subst h;rw[fe hi]at ej;cases ej
  have h':i≠k:=λh=>by subst h;rw[fe hi]at ek;cases ek
  rw[eN h]at ej;rw[eN h']at ek;exact s.ne j k ys zs b hjk ej ek e6
theorem SOk.lend(s:SOk K W0 H0 W σ H ρ)(i:Nat):(LP.pub i ρ=ρ)\/∃a us,SOk K W0 H0 (W.put a<|.lst us) σ H (LP.pub i ρ)/\W.G a=none/\H a=some (.lst us)/\(W.put a<|.lst us).G a=some (.lst us):=by
 cases e:ρ[i]? with
 |none=>exact .inl (by unfold LP.pub;rw[e])
 |some sv=>
  cases sv with
  |un=>exact .inl (by unfold LP.pub;rw[e])|d x=>exact .inl (by unfold LP.pub;rw[e])|oo xss=>exact .inl (by unfold LP.pub;rw[e])
  |ow xs=>
   obtain⟨a,us,e1,e2,e3,e4,e5,r⟩:=s.o i xs e;exact .inr ⟨a,us,s.pubAt e e1 e2 e3 e4 e5 r,e3,e2,by unfold Wd.put;dsimp only;rw[aT]⟩
end
section
variable{ps:Pos}{a b:Expr}
def dB(i:Nat)(w:WE):WE:=λE ρ Q=>w E (pub i ρ) λd=>i6 d=true/\Q d
theorem rX(i:Nat)(he:PX X EX e w):PX X EX e (dB i w):=by
 obtain⟨t,q,k⟩:=he.t;refine⟨⟨t,q,λW0 H0 W σ H ρ E Q s eo h=>?_⟩,λE ρ P P' hp h=>he.mono _ _ _ _ (λd hd=>⟨hd.1,hp _ hd.2⟩) h⟩;unfold dB at h;rcases s.lend i with ep|⟨a,us,s',e3,e2,e6⟩
 rw[ep]at h;exact k W0 H0 W σ H ρ E Q s eo<|he.mono _ _ _ _ (λd hd=>hd.2) h
 exact k W0 H0 _ σ H _ E Q s' eo<|he.mono _ _ _ _ (λd hd v W2 H2 x2 r2=>hd.2 v _ H2 (x2.bor e3)<|r2.rem (x2.g _ _ e6) hd.1) h
def fJ(i:Nat)(w:WT):WT:=λE ρ Q=>w E (pub i ρ) Q
def df(i:Nat)(t:WA):WA:=λE ρ Q=>t E (pub i ρ) λds=>lm ds=true/\Q ds
theorem AJ(i:Nat){t:WA}(he:PXL X EX e t):PXL X EX e (df i t):=by
 obtain⟨t,q,k⟩:=he.t;refine⟨⟨t,q,λW0 H0 W σ H ρ E Q s eo h=>?_⟩,λE ρ P P' hp h=>he.mono _ _ _ _ (λd hd=>⟨hd.1,hp _ hd.2⟩) h⟩;unfold df at h;rcases s.lend i with ep|⟨a,us,s',e3,e2,e6⟩
 rw[ep]at h;exact k W0 H0 W σ H ρ E Q s eo<|he.mono _ _ _ _ (λd hd=>hd.2) h
 refine k W0 H0 _ σ H _ E Q s' eo (he.mono _ _ _ _ (λd hd b vs W2 H2 x2 h1 h2 h3 h4 r2=>?_) h);have hb:b≠a:=λz=>by rw[z,e2]at h4;cases h4
 exact hd.2 b vs _ H2 (x2.bor e3) h1 (by rw[Wd.rem_ne hb];exact h2) h3 h4<|r2.rem (x2.g _ _ e6) hd.1
def cM(i:Nat)(wb:WE):WE:=λE ρ Q=>match ρ[i]? with|some (.ow xs)=>wb E ρ (isI λk=>∃d,e7 xs k=some d/\Q d)|_=>False
theorem qz(i:Nat)(hb:PX X EX b wb)(hN:X.N[i]? = some x:=by rfl)(hv:oY X.env.scope x:=by first|exact Or.inl rfl|exact Or.inr (Or.inl rfl)|exact Or.inr<|Or.inr rfl)(hd:(x==("__debug__" : Str))=false:=by decide)
  (hcd:(x==("__classdict__" : Str))=false:=by decide) (hs:iQ b:=by exact λ_ _=>rfl):PX X EX (.Subscript (.Name x p) b pos) (cM i wb):=by
 obtain⟨tb,pb,kb⟩:=hb.t;refine⟨⟨_,qk jR (fh hN hv hd hcd) pb hs,λW0 H0 W σ H ρ E Q s eo h=>?_⟩,λE ρ P P' hp h=>?_⟩
 .unfold cM at h
  split at h
  .rename_i xs ex
   obtain⟨a,vs,e1,e2,e3,e4,e5,r⟩:=s.o i xs ex;refine⟨_,e1,kb W0 H0 W σ H ρ E _ s eo<|hb.mono _ _ _ _ (λd hd v W1 H1 x1 r1=>?_) h⟩;obtain⟨kk,rfl,d,hat,hq⟩:=qu hd;cases r1;obtain⟨v,e6,rv⟩:=xK (x1.reps r) hat;exact .inl ⟨a,vs,kk,v,rfl,rfl,SqL.of<|x1.h a _ e2 e4,e6,hq v W1 H1 x1 rv⟩
  .exact h.elim
 .unfold cM at h ⊢
  split at h
  .exact hb.mono _ _ _ _ (isI.mono λk ⟨d,h1,h2⟩=>⟨d,h1,hp _ h2⟩) h
  .exact h.elim
def NL(K:Nd)(W:Wd)(H:Hp)(Q:VK)(ds:List D):Prop:=∀a vs W' H',Ext W H W' H'->H' a=some (.lst vs)->W'.G a=none->¬W'.Pn a->H a=none->Reps K W' vs ds->Q (.ref a) H'
theorem NL.new{K:Nd}{W W1:Wd}{H H1:Hp}{Q:VK}{ds:List D}{vs:List V}(h:NL K W H Q ds)(x1:Ext W H W1 H1)(r:Reps K W1 vs ds){q:Addr}(hq:H1 q=none):Q (.ref q) (upd H1 q<|.lst vs):=
 h q vs W1 _ (x1.trans<|.new x1.ok hq) aT (x1.ok.fresh hq).1 (x1.ok.fresh hq).2 (x1.isN hq) r
def eV(wa wb:WE):WA:=λE ρ Q=>wa E ρ<|isL λxs=>wb E ρ (isL λys=>xs.length+ys.length<=aL/\Q (xs++ys))
theorem IJ(ha:PX X EX a wa)(hb:PX X EX b wb):PXL X EX (.BinOp a .Add b pos) (eV wa wb):=by obtain⟨ta,pa,ka⟩:=ha.t;obtain⟨tb,pb,kb⟩:=hb.t;refine⟨⟨_,qg Zmv pa pb,λW0 H0 W σ H ρ E Q s eo h=>?_⟩,λE ρ P P' hp h=>ha.mono _ _ _ _ (isL.mono λxs hx=>hb.mono _ _ _ _ (isL.mono λys hy=>⟨hy.1,hp _ hy.2⟩) hx) h⟩;refine ka W0 H0 W σ H ρ E _ s eo<|ha.mono _ _ _ _ (λd hd v W1 H1 x1 r1=>?_) h;obtain⟨xs,rfl,hd⟩:=AG hd;refine kb W0 H0 W1 σ H1 ρ E _ (s.step x1) eo<|hb.mono _ _ _ _ (λd hd u W2 H2 x2 r2=>?_) hd;obtain⟨ys,rfl,hd⟩:=AG hd;obtain⟨p,vs,rfl,h1,q1⟩:=(x2.rep r1).sql x2.ok;obtain⟨q,us,rfl,h2,q2⟩:=r2.sql x2.ok;exact⟨p,q,vs,us,rfl,rfl,h1,h2,by rw[q1.length,q2.length];exact pM hd.1,λa ha=>NL.new hd.2 (x1.trans x2) (q1.append q2) ha⟩
def fK(wa wb:WE):WA:=λE ρ Q=>wa E ρ<|isL λxs=>wb E ρ (isI λk=>k<1000/\-1000<k/\xs.length*k.toNat<=aL/\Q (List.replicate k.toNat xs).flatten)
def aCut(wa:WE)(wl wh:(Ex->Prop)->cS->(Option Int->Prop)->Prop):WA:=λE ρ Q=>wa E ρ λx=>wl E ρ λl=>wh E ρ λh=>match x with
 |.lst xs=>Q<|bE xs l h
 |.scr xs=>Q<|bE xs l h
 |_=>False
theorem aCut.mono{wl wh}{lo hi:Option Expr}(ha:PX X EX a wa)(hl:qt X EX lo wl)(hh:qt X EX hi wh):∀E ρ P P',(∀d,P d->P' d)->aCut wa wl wh E ρ P->aCut wa wl wh E ρ P':=
 λE ρ P P' hp h=>ha.mono _ _ _ _ (λx hx=>hl.mono _ _ _ _ (λl hl'=>hh.mono _ _ _ _ (λu hu=>by
  split at hu
  .exact hp _ hu
  .exact hp _ hu
  .exact hu.elim) hl') hx) h
theorem IK{wl wh}(ha:PX X EX a wa)(hl:qt X EX lo wl)(hh:qt X EX hi wh):PXL X EX (.Subscript a (.Slice lo hi none p2) pos) (aCut wa wl wh):=by
 obtain⟨ta,pa,ka⟩:=ha.t;obtain⟨tl,pl,kl⟩:=hl.t;obtain⟨th,ph,kh⟩:=hh.t;refine⟨⟨_,jk sl_list pa pl ph,λW0 H0 W σ H ρ E Q s eo h=>?_⟩,aCut.mono ha hl hh⟩;refine ka W0 H0 W σ H ρ E _ s eo<|ha.mono _ _ _ _ (λdx hx v W1 H1 x1 r1=>?_) h;refine kl W0 H0 W1 σ H1 ρ E _ (s.step x1) eo<|hl.mono _ _ _ _ (λl hl' W2 H2 x2=>?_) hx;refine kh W0 H0 W2 σ H2 ρ E _ ((s.step x1).step x2) eo<|hh.mono _ _ _ _ (λu hu W3 H3 x3=>?_) hl';have r3:=(x2.trans x3).rep r1;split at hu
 obtain⟨p,vs,rfl,h1,rr⟩:=r3.sql x3.ok;exact⟨p,vs,rfl,h1,λq hq=>NL.new hu (x1.trans<|x2.trans x3) (rr.cut l u) hq⟩;obtain⟨p,vs,rfl,h1,rr⟩:=r3.sqs x3.ok;exact⟨p,vs,rfl,h1,λq hq=>NL.new hu (x1.trans<|x2.trans x3) (rr.cut l u) hq⟩;exact hu.elim
end
section
variable{W:Wd}{a:Addr}{i j k:Int}
def Wd.pen(W:Wd)(a:Addr):Wd:=⟨W.G,λb=>b=a\/W.Pn b⟩
theorem Ext.pen(x:Ext W H W1 H1)(h:H a=none)(e:H1 a=some (.lst [.int i,.int j,.int k]))(ng:W1.G a=none):Ext W H (W1.pen a) H1 where
 ok:=⟨x.ok.g,λb hb=>by
  rcases hb with rfl|hb
  .exact⟨⟨i,j,k,e⟩,ng⟩
  .exact x.ok.p b hb⟩
 g:=x.g
 p:=λb hb=>.inr<|x.p b hb
 gf:=x.gf
 pf:=λb n hb=>by
  rcases hb with rfl|hb
  exact h;exact x.pf b n hb
 h:=x.h
theorem Ext.ink(x:Ext W H W1 H1)(hp:W1.Pn a):Ext W H W1 (upd H1 a<|.lst [.int i,.int j,.int k]) where
 ok:=⟨λb o e=>by
   have hb:b≠a:=λz=>by rw[z,(x.ok.p a hp).2]at e;cases e
   rw[aI hb];exact x.ok.g b o e,
  λb hb=>by
   by_cases hba:b=a
   .subst hba;exact⟨⟨i,j,k,aT⟩,(x.ok.p b hb).2⟩
   .obtain⟨⟨i',j',k',e⟩,n⟩:=x.ok.p b hb
    exact⟨⟨i',j',k',by rw[aI hba];exact e⟩,n⟩⟩
 g:=x.g
 p:=x.p
 gf:=x.gf
 pf:=x.pf
 h:=λb o e n=>by
  have q:=x.h b o e n;have hb:b≠a:=λz=>by subst z;have:=x.pf b n hp;rw[e]at this;cases this
  rw[aI hb];exact q
theorem SOk.ink(s:SOk K W0 H0 W σ H ρ)(hp:W.Pn a):SOk K W0 H0 W σ (upd H a<|.lst [.int i,.int j,.int k]) ρ where
 ext:=s.ext.ink hp
 len:=s.len
 d:=s.d
 o:=λn ys e=>by obtain⟨b,vs,e1,e2,e3,e4,e5,r⟩:=s.o n ys e;exact⟨b,vs,e1,by rw[aI<|λz=>e4 (by rw[z];exact hp)];exact e2,e3,e4,e5,r⟩
 ne:=s.ne
 oo:=⟨λn xss e=>let⟨a',bs,e1,q,m⟩:=s.oo.t n xss e;⟨a',bs,e1,q.upd<|q.noPen hp,m⟩,s.oo.u⟩
end
section
variable{ps:Pos}{a b:Expr}
def eW(t:WA):WE:=λE ρ Q=>t E ρ λds=>(∃i j k,ds=[.int i,.int j,.int k])/\Q .pen
theorem IL{t:WA}(he:PXL X EX e t):PX X EX e (eW t):=by
 obtain⟨t,q,k⟩:=he.t;refine⟨⟨t,q,λW0 H0 W σ H ρ E Q s eo h=>?_⟩,λE ρ P P' hp h=>he.mono _ _ _ _ (λd hd=>⟨hd.1,hp _ hd.2⟩) h⟩;refine k W0 H0 W σ H ρ E Q s eo<|he.mono _ _ _ _ (λds hd a vs W1 H1 x1 e1 e2 e3 e4 r1=>?_) h;obtain⟨⟨i,j,k,rfl⟩,hd⟩:=hd;have ev:vs=[.int i,.int j,.int k]:=by cases r1 with|cons r t=>cases r;cases t with|cons r t=>cases r;cases t with|cons r t=>cases r;cases t;rfl
 subst ev;exact hd _ _ _ (x1.pen e4 e1 e2)<|.pen (.inl rfl)
def dR:G2:=λx y Q=>x=.pen/\(y=.int 0\/y=.int 1\/y=.int 2)/\∀n,Q<|.int n
theorem u6:AC X dR:=by
 refine⟨⟨_,jR,λW H x y dx dy Q ok rx ry hg=>?_⟩,λx y P P' hp h=>⟨h.1,h.2.1,λn=>hp _<|h.2.2 n⟩⟩;obtain⟨rfl,hy,hq⟩:=hg;cases rx with
 | @pen a hp=>
  obtain⟨⟨i,j,k,e⟩,ng⟩:=ok.p a hp;have fj:∀(m:Int) (v:V),e7 [V.int i,.int j,.int k] m=some v->(∃n,v=.int n)->CU X.K (.ref a) (.int m) H Q:=λm v hv ⟨n,hn⟩=>by subst hn;exact .inl ⟨a,_,m,_,rfl,rfl,SqL.of e,hv,(hq n).now ok<|.int n⟩
  rcases hy with rfl|rfl|rfl
  cases ry;exact fj 0 (.int i) rfl ⟨i,rfl⟩;cases ry;exact fj 1 (.int j) rfl ⟨j,rfl⟩;cases ry;exact fj 2 (.int k) rfl ⟨k,rfl⟩
def eJ(i:Nat)(wv:WE):WS:=λE N ρ=>ρ[i]? = some (.d .pen)/\wv E ρ (isI λ_=>N.nx ρ)
theorem Dh(i:Nat)(m:Int){j}{ipos:Pos}(he:PX X EX e wv)(hm:m=0\/m=1\/m=2:=by decide)(hN:X.N[i]? = some x:=by rfl)(hv:oY X.env.scope x:=by first|exact Or.inl rfl|exact Or.inr (Or.inl rfl)|exact Or.inr<|Or.inr rfl)(hd:(x==("__debug__" : Str))=false:=by decide)
  (hcd:(x==("__classdict__" : Str))=false:=by decide)
  (ha:∀ v,assign (.Subscript (.Name x p) (.Constant (.int m) j ipos) spos) X.env v=(do
   let ov <-holding [v] (eval (.Name x p) X.env)
   let iv <-holding [v,ov] (eval (.Constant (.int m) j ipos) X.env)
   standAt spos
   holding [v,ov,iv] (setItem ov iv v)
   release [v,ov,iv] []):=by intro _;rfl)
  (hs:swapsWithSole [.Subscript (.Name x p) (.Constant (.int m) j ipos) spos] e pos.line X.env=pure false:=by rfl) (hw:swappedStores [.Subscript (.Name x p) (.Constant (.int m) j ipos) spos] e X.env=pure none:=by rfl)
  (h1:(assignEach [.Subscript (.Name x p) (.Constant (.int m) j ipos) spos] X.env).map (·.2)=[assign (.Subscript (.Name x p) (.Constant (.int m) j ipos) spos) X.env]:=by rfl):PZ X EX (.Assign [.Subscript (.Name x p) (.Constant (.int m) j ipos) spos] e pos) (eJ i wv):=by
 obtain⟨t,pe,k⟩:=he.t;refine⟨⟨_,iO pe (iN (fh hN hv hd hcd) jL fB ha) hs hw h1,λW0 H0 F W σ H ρ E Dn N s fl eo no h=>?_⟩,λE ρ N N' hl q=>⟨q.1,he.mono _ _ _ _ (isI.mono λ_ hn=>hl.nx _ hn) q.2⟩⟩;obtain⟨hpen,h⟩:=h;obtain⟨v0,e0,r0⟩:=s.d i .pen hpen;cases r0 with
 | @pen a hp=>
  refine k W0 H0 W σ H ρ E _ s eo<|he.mono _ _ _ _ (λd hd v W1 H1 x1 r1=>⟨_,e0,?_⟩) h;obtain⟨n,rfl,hn⟩:=qu hd;cases r1;have hp1:=x1.p a hp;obtain⟨⟨i',j',k',e'⟩,ng⟩:=x1.ok.p a hp1;rcases hm with rfl|rfl|rfl
  .exact⟨a,_,0,0,rfl,rfl,e',rfl,no.nx W1 σ _ ρ ((s.step x1).ink hp1) (fl.ext x1) hn⟩
  .exact⟨a,_,1,1,rfl,rfl,e',rfl,no.nx W1 σ _ ρ ((s.step x1).ink hp1) (fl.ext x1) hn⟩
  .exact⟨a,_,2,2,rfl,rfl,e',rfl,no.nx W1 σ _ ρ ((s.step x1).ink hp1) (fl.ext x1) hn⟩
end
abbrev Zd:G2:=gI2 (λ_ _=>True) λi j=>.int<|i-j
abbrev qA:G2:=gI2 (λ_ j=>j≠0) λi j=>.int<|i.fmod j
abbrev gM:G2:=gI2 AD λi j=>.int<|i.fdiv j
abbrev AK:G2:=gI2 rq λi j=>.int<|i^j.toNat
abbrev nZ:G2:=gI2 (λ_ _=>True) λi j=>.bl<|decide (i<j)
abbrev jY:G2:=gI2 (λ_ _=>True) λi j=>.bl<|decide (i<=j)
abbrev jq:G2:=gI2 (λ_ _=>True) λi j=>.bl<|decide (i>j)
abbrev AL:G2:=gI2 (λ_ _=>True) λi j=>.bl<|decide (i ≥ j)
abbrev jZ:D->(D->Prop)->Prop:=λx Q=>isI (λi=>Q<|.int (-i)) x
abbrev kH:WS:=λ_ _ _=>False
def fnS{α:Type}(enc:α->List D)(dom:α->Prop)(val:α->D):bR:=λds _ Q=>∃a,ds=enc a/\dom a/\Q (val a)
theorem fnS.mono{α:Type}{enc:α->List D}{dom:α->Prop}{val:α->D}:pN (fnS enc dom val):=λds E E' Q Q' _ hQ ⟨a,h1,h2,h3⟩=>⟨a,h1,h2,hQ _ h3⟩
theorem fnS.len{α:Type}{enc:α->List D}{dom:α->Prop}{val:α->D}(hp:∀a,(enc a).length=ps.length):∀ds E Q,fnS enc dom val ds E Q->ds.length=ps.length:=λds E Q ⟨a,h1,_⟩=>by rw[h1];exact hp a
def exQ(E:Ex->Prop)(Q:D->Prop):Except Str D->Prop
 |.ok v=>Q v|.error e=>E e
theorem exQ.mono{E E':Ex->Prop}{Q':D->Prop}(hE:∀e,E e->E' e)(hQ:∀d,Q d->Q' d):∀r,exQ E Q r->exQ E' Q' r
 |.ok v,h=>hQ v h|.error e,h=>hE e h
def xS{α:Type}(enc:α->List D)(dom:α->Prop)(res:α->Except Str D):bR:=λds E Q=>∃a,ds=enc a/\dom a/\exQ E Q (res a)
theorem xS.mono{α:Type}{enc:α->List D}{dom:α->Prop}{res:α->Except Str D}:pN (xS enc dom res):=λds E E' Q Q' hE hQ ⟨a,h1,h2,h3⟩=>⟨a,h1,h2,exQ.mono hE hQ _ h3⟩
theorem xS.ok{α:Type}{enc:α->List D}{dom:α->Prop}{res:α->Except Str D}{E:Ex->Prop}{v:D}(a:α)(h:ds=enc a)(hd:dom a)(e:res a=.ok v)(q:Q v):xS enc dom res ds E Q:=⟨a,h,hd,by rw[e];exact q⟩
theorem xS.err{α:Type}{enc:α->List D}{dom:α->Prop}{res:α->Except Str D}{E:Ex->Prop}{n:Str}(a:α)(h:ds=enc a)(hd:dom a)(e:res a=.error n)(q:E n):xS enc dom res ds E Q:=⟨a,h,hd,by rw[e];exact q⟩
theorem xS.len{α:Type}{enc:α->List D}{dom:α->Prop}{res:α->Except Str D}(hp:∀a,(enc a).length=ps.length):∀ds E Q,xS enc dom res ds E Q->ds.length=ps.length:=λds E Q ⟨a,h1,_⟩=>by rw[h1];exact hp a
def rlS{α:Type}(enc:α->List D)(dom:α->Prop)(rel:α->D->Prop):bR:=λds _ Q=>∃a,ds=enc a/\dom a/\∀d,rel a d->Q d
theorem rlS.mono{α:Type}{enc:α->List D}{dom:α->Prop}{rel:α->D->Prop}:pN (rlS enc dom rel):=λds E E' Q Q' _ hQ ⟨a,h1,h2,h3⟩=>⟨a,h1,h2,λd r=>hQ _<|h3 d r⟩
theorem rlS.len{α:Type}{enc:α->List D}{dom:α->Prop}{rel:α->D->Prop}(hp:∀a,(enc a).length=ps.length):∀ds E Q,rlS enc dom rel ds E Q->ds.length=ps.length:=λds E Q ⟨a,h1,_⟩=>by rw[h1];exact hp a
theorem Fp.of{w:World}(h:gi P w K mg base (fP P w) k f fd ps (gJ K S))(m:pN S)(hm:mg x=some (.ref f))(kp:PySem.W.keepIn K (.ref f)=true)(hb:Binds K fd ps []) :
  Fp P w K mg base k x ps S:=⟨⟨f,fd,h,hm,kp,hb⟩,m⟩
section
variable{tail:cS}{Q:List D->Prop}
theorem rY{f:D->D}(h:∀d∈ds,∀Q:D->Prop,Q (f d)->we No (.d d::tail) Q):∀(sv:SV) (acc:List D),acc.length+ds.length<=aL->Q (acc++ds.map f)->lcW (gN 0) cT we ds (sv::tail) acc Q:=by
 induction ds with
 |nil=>intro sv acc _ hq;simpa[lcW] using hq|cons d ds ih=>intro sv acc hl hq;rw[lcW];show we No (SV.d d::tail) _;refine h d (j8 ..) _ ⟨?_,?_⟩;rw[dM]at hl;omega;refine ih (λd hd=>h d<|iH _ hd) (.d d) _ ?_ ?_;rw[gA,mY];rw[dM]at hl;omega;rw[mX];exact hq
theorem Di{R:D->D->Prop}(h:∀d∈ds,∀Q:D->Prop,(∀y,R d y->Q y)->we No (.d d::tail) Q):∀(sv:SV) (acc:List D),acc.length+ds.length<=aL->(∀ys,ys.length=ds.length->(∀y∈ys,∃d,d∈ds/\R d y)->Q (acc++ys))->lcW (gN 0) cT we ds (sv::tail) acc Q:=by
 induction ds with
 |nil=>intro sv acc _ hq;simpa[lcW] using hq [] rfl (by simp)
 |cons d ds ih=>
  intro sv acc hl hq;rw[lcW];show we No (SV.d d::tail) _;refine h d (j8 ..) _ λy hy=>⟨?_,?_⟩;rw[dM]at hl;omega;refine ih (λd hd=>h d<|iH _ hd) (.d d) _ ?_ λys hl' hys=>?_;rw[gA,mY];rw[dM]at hl;omega;rw[mX];refine hq (y::ys) (by rw[dM,dM,hl']) λz hz=>?_;rcases Yam.mp hz with rfl|hz
  exact⟨d,j8 ..,hy⟩;obtain⟨d',h1,h2⟩:=hys z hz;exact⟨d',iH _ h1,h2⟩
end
mutual
def dg:D->Nat->Bool
 |.non,_=>true|.bl _,_=>true|.int _,_=>true|.str x,_=>PyData.canLay0<|.str x
 |.tup xs,n=>decide (0<n)&&gu xs (n-1)|.lst xs,n=>decide (0<n)&&gu xs (n-1)|.dic,_=>false|.pen,_=>false|.cls _,_=>false|.exc _,_=>false|.ty _,_=>false|.scr _,_=>false
def gu:List D->Nat->Bool
 |[],_=>true|x::r,n=>dg x n&&gu r n
end
mutual
def pd:D->PyData
 |.non=>.none|.bl b=>.bool b|.int i=>.int i|.str x=>.str x|.tup xs=>.tuple<|fR xs
 |.lst xs=>.list<|fR xs
 |.dic=>.none|.pen=>.none|.cls _=>.none|.exc _=>.none|.ty _=>.none|.scr _=>.none
def fR:List D->List PyData
 |[]=>[]|x::r=>pd x::fR r
end
mutual
theorem xT:∀(x:D) (n:Nat),dg x n=true->iz x=some (pd x)/\(pd x).canLay0=true/\(pd x).depth<=n
 |.non,n,_=>⟨rfl,rfl,by rw[pd,PyData.depth];exact iI _⟩|.bl _,n,_=>⟨rfl,rfl,by rw[pd,PyData.depth];exact iI _⟩|.int _,n,_=>⟨rfl,rfl,by rw[pd,PyData.depth];exact iI _⟩|.str x,n,h=>⟨rfl,by rw[dg]at h;exact h,by rw[pd,PyData.depth];exact iI _⟩|.tup xs,n,h=>by rw[dg,c9,Nh]at h;obtain⟨h1,h2,h3⟩:=AM xs (n-1) h.2;refine⟨by rw[iz,h1,pd];rfl,by rw[pd,PyData.canLay0];exact h2,by rw[pd,PyData.depth];omega⟩
 |.lst xs,n,h=>by rw[dg,c9,Nh]at h;obtain⟨h1,h2,h3⟩:=AM xs (n-1) h.2;refine⟨by rw[iz,h1,pd];rfl,by rw[pd,PyData.canLay0];exact h2,by rw[pd,PyData.depth];omega⟩
 |.dic,n,h=>by rw[dg]at h;cases h
 |.pen,n,h=>by rw[dg]at h;cases h
 |.cls _,n,h=>by rw[dg]at h;cases h
 |.exc _,n,h=>by rw[dg]at h;cases h
 |.ty _,n,h=>by rw[dg]at h;cases h
 |.scr _,n,h=>by rw[dg]at h;cases h
theorem AM:∀(xs:List D) (n:Nat),gu xs n=true->fY xs=some (fR xs)/\PyData.canLayAll0 (fR xs)=true/\PyData.depthAll (fR xs)<=n
 |[],n,_=>⟨by rw[fY,fR],by rw[fR,PyData.canLayAll0],by rw[fR,PyData.depthAll];exact iI _⟩|x::r,n,h=>by rw[gu,c9]at h;obtain⟨h1,h2,h3⟩:=xT x n h.1;obtain⟨q1,q2,q3⟩:=AM r n h.2;exact⟨by rw[fY,h1,q1,fR],by rw[fR,PyData.canLayAll0,h2,q2];rfl,by rw[fR,PyData.depthAll];omega⟩
end
def ef(x y:D):Bool:=PyData.eqv (pd x)<|pd y
theorem g0{x:D}{neg:Bool}(hx:dg x 60=true)(hy:dg y 60=true)(h:Q (.bl (if neg then !ef x y else ef x y))):gEq neg x y Q:=by obtain⟨a1,a2,a3⟩:=xT x 60 hx;obtain⟨b1,b2,b3⟩:=xT y 60 hy;refine⟨pd x,pd y,a1,b1,?_,?_,h⟩;unfold PySem.SeqAt.shaped;rw[a2,Nj<|by omega];rfl;unfold PySem.SeqAt.shaped;rw[b2,Nj<|by omega];rfl
mutual
theorem Dj:∀p:PyData,p.canLay0=true->PyData.eqv p p=true
 |.none,_=>by rw[PyData.eqv]|.bool b,_=>by rw[PyData.eqv];exact Nx b|.int i,_=>by rw[PyData.eqv];exact Nx i|.str x,_=>by rw[PyData.eqv];exact Nx x|.list xs,h=>by rw[PyData.eqv];exact AN xs (by rw[PyData.canLay0]at h;exact h)|.tuple xs,h=>by rw[PyData.eqv];exact AN xs (by rw[PyData.canLay0]at h;exact h)|.dict _,h=>by rw[PyData.canLay0]at h;cases h
theorem AN:∀ps:List PyData,PyData.canLayAll0 ps=true->PyData.eqvAll ps ps=true
 |[],_=>by rw[PyData.eqvAll]|p::ps,h=>by rw[PyData.canLayAll0,c9]at h;rw[PyData.eqvAll,Dj p h.1,AN ps h.2];rfl
end
theorem AO{x:D}(h:dg x n=true):ef x x=true:=Dj _ (xT x n h).2.1
theorem Dk{x:D}{neg:Bool}(hx:dg x 60=true)(h:Q (.bl (!neg))):gEq neg x x Q:=by refine g0 hx hx ?_;rw[AO hx];cases neg<;>exact h
theorem Dl(i:Int)(n:Nat):dg (.int i) n=true:=by rw[dg]
theorem Dm(h:∀x∈xs,dg x n=true):gu xs n=true:=by
 induction xs with
 |nil=>rw[gu]|cons x xs ih=>rw[gu,h x<|j8 ..,ih λy hy=>h y<|iH _ hy];rfl
theorem u7(h:∀x∈xs,dg x n=true):dg (.tup xs) (n+1)=true:=by rw[dg,Dm (n:=n+1-1) h];simp
theorem rZ(h:∀x∈xs,dg x n=true):dg (.lst xs) (n+1)=true:=by rw[dg,Dm (n:=n+1-1) h];simp
mutual
theorem AQ:∀(x:D) {n m:Nat},n<=m->dg x n=true->dg x m=true
 |.non,_,_,_,_=>by rw[dg]|.bl _,_,_,_,_=>by rw[dg]|.int _,_,_,_,_=>by rw[dg]|.str x,_,_,_,h=>by rw[dg]at h ⊢;exact h|.tup xs,n,m,l,h=>by rw[dg,c9,Nh]at h ⊢;exact⟨by omega,AR xs (by omega) h.2⟩|.lst xs,n,m,l,h=>by rw[dg,c9,Nh]at h ⊢;exact⟨by omega,AR xs (by omega) h.2⟩|.dic,_,_,_,h=>by rw[dg]at h;cases h
 |.pen,_,_,_,h=>by rw[dg]at h;cases h
 |.cls _,_,_,_,h=>by rw[dg]at h;cases h
 |.exc _,_,_,_,h=>by rw[dg]at h;cases h
 |.ty _,_,_,_,h=>by rw[dg]at h;cases h
 |.scr _,_,_,_,h=>by rw[dg]at h;cases h
theorem AR:∀(xs:List D) {n m:Nat},n<=m->gu xs n=true->gu xs m=true
 |[],_,_,_,_=>by rw[gu]|x::r,n,m,l,h=>by rw[gu,c9]at h ⊢;exact⟨AQ x l h.1,AR r l h.2⟩
end
def aP(q:Rat):D:=.tup [.int q.num,.int (q.den:Int)]
def aG(r:List Rat):D:=.tup<|r.map aP
def Sz(n:Nat)(q:Rat):Prop:=q.num.natAbs<2^n/\q.den<2^n
theorem Sz.mono(l:n<=m)(h:Sz n q):Sz m q:=
 have:=jF (n:=2) (by decide) l
 ⟨dm h.1 this,dm h.2 this⟩
theorem Do{a:Int}{g:Nat}(hg:g≠0)(h:(g:Int)∣a):(a/(g:Int)).natAbs<=a.natAbs:=by
 obtain⟨c,rfl⟩:=h;have hg':(g:Int)≠0:=by exact_mod_cast hg
 rw[zD _ hg',gh,ke];exact Nat.le_mul_of_pos_left _ (by omega)
theorem Dp(a:Int)(hb:b≠0):(mkRat a b).num.natAbs<=a.natAbs/\(mkRat a b).den<=b:=by rw[Rat.num_mkRat,Rat.den_mkRat,if_neg hb,if_neg hb];refine⟨Do (λz=>?_)<|Int.ofNat_dvd_left.mpr<|Nat.gcd_dvd_right ..,Nat.div_le_self _ _⟩;rw[Nat.gcd_eq_zero_iff]at z;exact hb z.1
theorem lK(h:a<2^n)(h':b<2^m):a*b<2^(n+m):=by
 rw[qN];rcases Nat.eq_zero_or_pos a with rfl|ha
 rw[Nat.zero_mul];exact Nat.mul_pos (Nat.pow_pos<|by decide)<|Nat.pow_pos (by decide)
 exact dm (CN h' ha)<|kO _ (kK h)
theorem Sz.add{p:Rat}(h:Sz n p)(h':Sz m q):Sz (n+m+1) (p+q):=by
 rw[Rat.add_def'];have z:p.den*q.den≠0:=zE p.den_nz q.den_nz;have:=Dp (p.num*q.den+q.num*p.den) z;have a1:=lK h.1 h'.2;have a2:=lK h'.1 h.2;have a3:=lK h.2 h'.2;rw[Nat.add_comm m n]at a2;have e:2^(n+m+1)=2^(n+m)+2^(n+m):=by rw[mZ];omega
 have t:=zF (p.num*q.den)<|q.num*p.den;rw[gh,gh,ke,ke]at t;exact⟨by omega,by omega⟩
theorem Sz.neg{p:Rat}(h:Sz n p):Sz n (-p):=⟨by rw[Rat.neg_num,Int.natAbs_neg];exact h.1,h.2⟩
theorem Sz.sub{p:Rat}(h:Sz n p)(h':Sz m q):Sz (n+m+1) (p-q):=by rw[Rat.sub_eq_add_neg];exact h.add h'.neg
theorem Sz.mul{p:Rat}(h:Sz n p)(h':Sz m q):Sz (n+m) (p*q):=by rw[Rat.mul_def'];have z:p.den*q.den≠0:=zE p.den_nz q.den_nz;have:=Dp (p.num*q.num) z;have a1:=lK h.1 h'.1;have a3:=lK h.2 h'.2;rw[gh]at this;exact⟨by omega,by omega⟩
theorem Sz.int(i:Int)(hn:0<n)(h:i.natAbs<2^n):Sz n (i:Rat):=⟨by rw[zG];exact h,by rw[zH];exact w4<|by omega⟩
theorem Sz.zero(hn:0<n):Sz n (0:Rat):=⟨by rw[Rat.zero_num];exact Nat.two_pow_pos n,by rw[Rat.zero_den];exact w4<|by omega⟩
theorem Sz.bd(h:Sz n q)(l:n<=8990):Bd q.num/\Bd (q.den:Int):=by have:=h.mono l;exact⟨this.1,by unfold Bd;rw[ke];exact this.2⟩
def B2(p q:Rat):Prop:=∃n m,Sz n p/\Sz m q/\n+m<8990
theorem B2.of{p:Rat}(h:Sz n p)(h':Sz m q)(l:n+m<8990):B2 p q:=⟨n,m,h,h',l⟩
theorem B2.mul{p:Rat}(h:B2 p q):qv p.num q.den/\qv q.num p.den/\qv p.den q.den/\qv p.num q.num/\Bd ((p.den:Int)*q.den)/\(p.den:Int)*q.den≠0/\qv p.den q.num/\(Bd<|(p.den:Int)*q.num):=by
 obtain⟨n,m,h1,h2,l⟩:=h;have b1:=h1.bd (by omega);have b2:=h2.bd (by omega);refine⟨⟨b1.1,b2.2⟩,⟨b2.1,b1.2⟩,⟨b1.2,b2.2⟩,⟨b1.1,b2.1⟩,?_,?_,⟨b1.2,b2.1⟩,?_⟩;have:=lK h1.2 h2.2;unfold Bd;rw[gh,ke,ke];exact dm this<|jF (by decide) (by omega)
 have:=zE p.den_nz q.den_nz;exact_mod_cast this;have:=lK h1.2 h2.1;unfold Bd;rw[gh,ke];exact dm this<|jF (by decide) (by omega)
def cK:List Rat->List Rat->Rat
 |[],_=>0|_::_,[]=>0|x::xs,y::ys=>x*y+cK xs ys
theorem pQ(q:Rat)(n:Nat):dg (aP q) (n+1)=true:=u7 (by simp[dg])
theorem u8(r:List Rat)(n:Nat):dg (aG r) (n+2)=true:=u7 λx hx=>by obtain⟨q,_,rfl⟩:=YbL.mp hx;exact pQ q n
def bS(xs:List Int):D:=.tup<|xs.map .int
def aZ(xs:List Int):D:=.lst<|xs.map .int
theorem Dq(xs:List Int)(n:Nat):dg (bS xs) (n+1)=true:=u7 λx hx=>by obtain⟨i,_,rfl⟩:=YbL.mp hx;rw[dg]
theorem Dr{t b:Int}(hb:b≠0):(t.fdiv (if b<0 then -(Int.gcd t b:Int) else(Int.gcd t b:Int))=(Rat.divInt t b).num)/\(b.fdiv (if b<0 then -(Int.gcd t b:Int) else(Int.gcd t b:Int))=((Rat.divInt t b).den:Int)):=by
 have hg:0<Int.gcd t b:=zI _ hb;have hg':(0:Int)<(Int.gcd t b:Int):=by exact_mod_cast hg
 obtain⟨c,hc⟩:=Int.gcd_dvd_left (a:=t) (b:=b);obtain⟨d,hd⟩:=Int.gcd_dvd_right (a:=t) (b:=b);rw[Rat.num_divInt,Rat.den_divInt,if_neg hb,Int.gcd_comm b t];generalize Int.gcd t b=g at *;subst hc hd;have gne:(g:Int)≠0:=by omega
 split;rename_i h;have hd:d<0:=by
  rcases Int.lt_or_le d 0 with z|z
  exact z;have:=Int.mul_nonneg (Int.le_of_lt hg') z;omega
 rw[Int.sign_eq_neg_one_of_neg h];constructor;rw[show(g:Int)*c=(-(g:Int))*(-c) by rw[w6],tV _<|by omega,w6,show(-1:Int)*((g:Int)*c)=(g:Int)*(-c) by rw[Int.neg_mul,w8,Int.mul_neg],zD _ gne];rw[show(g:Int)*d=(-(g:Int))*(-d) by rw[w6],tV _<|by omega,w6,gh,ke,Nat.mul_div_cancel_left _ hg];omega;rename_i h;have hd:0<d:=by
  rcases Int.lt_or_le 0 d with z|z
  exact z;exfalso;have h1:(g:Int)*d<=0:=by
   have:=Int.mul_le_mul_of_nonneg_left z<|Int.le_of_lt hg'
   rwa [tW]at this
  omega
 have hp:0<(g:Int)*d:=Int.mul_pos hg' hd;rw[Int.sign_eq_one_of_pos hp,w8];constructor;rw[tV _ gne,zD _ gne];rw[tV _ gne,gh,ke,Nat.mul_div_cancel_left _ hg];omega
mutual
def kd:D->Bool
 |.tup xs=>decide (xs.length<=5000)&&n4 xs|.lst xs=>decide (xs.length<=5000)&&n4 xs|.non=>true|.bl _=>true|.int _=>true|.str _=>true|.dic=>true|.pen=>false|.cls _=>false|.exc _=>false|.ty _=>false|.scr _=>false
def n4:List D->Bool
 |[]=>true|x::r=>kd x&&n4 r
end
theorem AS:∀{xs:List D},n4 xs=true->∀x∈xs,kd x=true
 |x::r,h,y,hy=>by
  rw[n4,c9]at h;rcases Yam.mp hy with rfl|hy
  exact h.1;exact AS h.2 y hy
theorem AT:∀{xs:List D},(∀x∈xs,kd x=true)->n4 xs=true
 |[],_=>by rw[n4]|x::r,h=>by rw[n4,h x<|j8 ..,AT λy hy=>h y<|iH _ hy];rfl
theorem oF(h:kd (.tup xs)=true):xs.length<=5000/\∀x∈xs,kd x=true:=by rw[kd,c9,Nh]at h;exact⟨h.1,AS h.2⟩
theorem Ds(h:kd (.lst xs)=true):xs.length<=5000/\∀x∈xs,kd x=true:=by rw[kd,c9,Nh]at h;exact⟨h.1,AS h.2⟩
theorem r8(h1:xs.length<=5000)(h2:∀x∈xs,kd x=true):kd (.tup xs)=true:=by rw[kd,Nj h1,AT h2];rfl
theorem IM(h1:xs.length<=5000)(h2:∀x∈xs,kd x=true):kd (.lst xs)=true:=by rw[kd,Nj h1,AT h2];rfl
theorem u9{x:D}(h:kd x=true):∃t,xM x=some t:=by
 cases x<;>first
  |exact⟨_,rfl⟩
  |(rw[kd]at h;cases h)
theorem IN(q:Rat):kd (aP q)=true:=r8 (by simp) (by simp[kd])
theorem AU(h:r.length<=5000):kd (aG r)=true:=r8 (by simpa using h) λx hx=>by obtain⟨q,_,rfl⟩:=YbL.mp hx;exact IN q
theorem AV{r:List Int}(h:r.length<=5000):kd (bS r)=true:=r8 (by simpa using h) λx hx=>by obtain⟨q,_,rfl⟩:=YbL.mp hx;rw[kd]
def oG:D->Bool
 |.int _=>true|_=>false
def pR(l m:Int):D->Bool
 |.int i=>decide (l<=i)&&decide (i<=m)|_=>false
def lr(l m:Int):D->Bool
 |.tup xs=>xs.all<|pR l m
 |_=>false
def cN:D->Bool
 |.tup [.int t,.int b]=>decide (0<b)&&(Int.gcd t b==1)|_=>false
def fZ(n:Int):D->Bool
 |.tup xs=>((xs.length:Int)==n)&&xs.all cN|_=>false
def va(l m:Int):D->Bool
 |.tup xs=>decide (l<=(xs.length:Int))&&decide ((xs.length:Int)<=m)&&xs.all cN|_=>false
def sd:bR:=fnS (λx:D=>[x]) (λx=>kd x=true) λx=>.bl<|oG x
def AW:bR:=fnS (λx:D×Int×Int=>[x.1,.int x.2.1,.int x.2.2]) (λx=>kd x.1=true) λx=>.bl<|pR x.2.1 x.2.2 x.1
def xU:bR:=fnS (λx:D×Int×Int=>[x.1,.int x.2.1,.int x.2.2]) (λx=>kd x.1=true) λx=>.bl<|lr x.2.1 x.2.2 x.1
def vb:bR:=fnS (λx:Int×Int=>[.int x.1,.int x.2]) (λ_=>True) λx=>.int<|Int.gcd x.1 x.2
def tB:bR:=fnS (λx:D=>[x]) (λx=>kd x=true) λx=>.bl<|cN x
def xV:bR:=fnS (λx:D×Int×Int=>[x.1,.int x.2.1,.int x.2.2]) (λx=>kd x.1=true) λx=>.bl<|va x.2.1 x.2.2 x.1
def tD:bR:=fnS (λx:D×Int=>[x.1,.int x.2]) (λx=>kd x.1=true) λx=>.bl<|fZ x.2 x.1
def se:bR:=fnS (λx:Int×Int=>[.int x.1,.int x.2]) (λx=>x.2≠0/\Bd x.2) λx=>aP<|Rat.divInt x.1 x.2
def xW:bR:=fnS (λx:Rat×Rat=>[aP x.1,aP x.2]) (λx=>B2 x.1 x.2) λx=>aP<|x.1+x.2
def xX:bR:=fnS (λx:Rat×Rat=>[aP x.1,aP x.2]) (λx=>B2 x.1 x.2) λx=>aP<|x.1-x.2
def qB:bR:=fnS (λx:Rat×Rat=>[aP x.1,aP x.2]) (λx=>B2 x.1 x.2) λx=>aP<|x.1*x.2
def pS:bR:=fnS (λx:Rat×Rat=>[aP x.1,aP x.2]) (λx=>B2 x.1 x.2/\x.2≠0) λx=>aP<|x.1/x.2
def gO(b:Bool)(xs:List D):D:=if b then .tup xs else .lst xs
def xY:bR:=fnS (λx:Bool×List Int=>[gO x.1<|x.2.map .int]) (λx=>x.2.length<=5000) λx=>aG<|x.2.map λ(i:Int)=>(i:Rat)
def BR(p q:List Rat):Prop:=∃n m,(∀x∈p,Sz n x)/\(∀x∈q,Sz m x)/\p.length*(n+m+1)+(n+m)+1<8990
def vc:bR:=fnS (λx:(Bool×Bool)×List Rat×List Rat=>[gO x.1.1<|x.2.1.map aP,gO x.1.2<|x.2.2.map aP]) (λx=>BR x.2.1 x.2.2) λx=>aP<|cK x.2.1 x.2.2
structure IsSl(s:List Int)(n:Nat):Prop where
 len:s.length+1=2*n
 n1:1<=n
 n5:n<=5
 b:∀x∈s,-50<=x/\x<=50
def tbl(s:List Int)(n:Nat):List (List Int):=(List.range n).map λi=>(s.drop<|n-1-i).take n
def aR(s:List Int)(n:Nat):D:=.lst<|(tbl s n).map aZ
def ij:D->Bool
 |.tup xs=>xs.all (pR (-50) 50)&&decide (xs.length%2=1)&&decide (xs.length<=9)|_=>false
abbrev SL:=List Int×Nat
def oH:bR:=fnS (λx:List D=>[.tup x]) (λx=>x.length<=5000) λx=>.int<|((x.length:Int)+1)/2
def xZ:bR:=fnS (λx:D=>[x]) (λx=>kd x=true) λx=>.bl<|ij x
def ya:D->Int
 |.int i=>i|_=>0
def sI:D->List Int
 |.tup xs=>xs.map ya|_=>[]
def sN(x:D):Nat:=((sI x).length+1)/2
def jr(x:D)(v:Except Str D):Except Str D:=if ij x=true then v else .error "NoSlants"
def qC:bR:=xS (λx:D=>[x]) (λx=>kd x=true) λx=>jr x<|.ok .non
def yb:bR:=xS (λx:D=>[x]) (λx=>kd x=true) λx=>jr x<|.ok (aR (sI x)<|sN x)
def hd(r:List Int):Int:=r.headD 0
def yc:bR:=xS (λx:D=>[x]) (λx=>kd x=true) λx=>jr x<|.ok (bS (sI x).reverse)
def sf:bR:=xS (λx:D×D=>[x.1,x.2]) (λx=>kd x.1=true/\kd x.2=true) λx=>jr x.1<|.ok (.bl<|fZ (sN x.1) x.2)
def dj(r:List Int):List Rat:=r.map λ(i:Int)=>(i:Rat)
def tE:bR:=fnS (λx:SL=>[bS x.1]) (λx=>IsSl x.1 x.2) λx=>.lst<|(tbl x.1 x.2).map λr=>aG (dj r)
def eK(s:List Int)(n:Nat)(r:List Rat):List Rat:=(tbl s n).map λline=>cK (dj line) r
def BS(r:List Rat):Prop:=∃m,(∀x∈r,Sz m x)/\m<=1400
def sh:D->Rat
 |.tup [.int t,.int b]=>Rat.divInt t b|_=>0
def rQ:D->List Rat
 |.tup xs=>xs.map sh|_=>[]
def ye:bR:=xS (λx:D×D=>[x.1,x.2]) (λx=>kd x.1=true/\kd x.2=true/\∀r,x.2=aG r->BS r) λx=>jr x.1 (if fZ (sN x.1) x.2=true then .ok (aG<|eK (sI x.1) (sN x.1)<|rQ x.2) else .error "NoRow")
section
variable{E:Ex->Prop}{x:D}{l m a b:Int}{p:Rat}
theorem IO(h:kd x=true)(q:Q (.bl<|lr l m x)):xU [x,.int l,.int m] E Q:=⟨(x,l,m),rfl,h,q⟩
theorem IP(h:kd x=true)(q:Q (.bl<|cN x)):tB [x] E Q:=⟨x,rfl,h,q⟩
theorem IQ(h:kd x=true)(q:Q (.bl<|va l m x)):xV [x,.int l,.int m] E Q:=⟨(x,l,m),rfl,h,q⟩
theorem Du(h:kd x=true)(q:Q (.bl<|fZ a x)):tD [x,.int a] E Q:=⟨(x,a),rfl,h,q⟩
theorem IR(h:B2 p q)(z:Q (aP<|p-q)):xX [aP p,aP q] E Q:=⟨(p,q),rfl,h,z⟩
theorem Zm(h:B2 p q)(z:Q (aP<|p*q)):qB [aP p,aP q] E Q:=⟨(p,q),rfl,h,z⟩
theorem AX(h:B2 p q)(h':q≠0)(z:Q (aP<|p/q)):pS [aP p,aP q] E Q:=⟨(p,q),rfl,⟨h,h'⟩,z⟩
theorem IS{xs:List Int}(h:xs.length<=5000)(q:Q (aG<|dj xs)):xY [aZ xs] E Q:=⟨(false,xs),rfl,h,q⟩
theorem Dv{p q:List Rat}(h:BR p q)(z:Q (aP<|cK p q)):vc [aG p,aG q] E Q:=⟨((true,true),p,q),rfl,h,z⟩
theorem IsSl.l9(h:IsSl s n):s.length<=9:=by have:=h.len;have:=h.n5;omega
theorem AY(h:xs.length<=5000)(q:Q (.int<|((xs.length:Int)+1)/2)):oH [.tup xs] E Q:=⟨xs,rfl,h,q⟩
theorem yf(h:IsSl s n)(q:Q (.int n)):oH [bS s] E Q:=by
 have:=h.l9;have:=h.len;refine AY (by simp;omega) ?_;have e:(((s.map D.int).length:Int)+1)/2=n:=by rw[bU];omega
 rw[e];exact q
theorem IT(h:kd x=true)(q:Q (.bl<|ij x)):xZ [x] E Q:=⟨x,rfl,h,q⟩
theorem AZ(h:IsSl s n):ij (bS s)=true:=by unfold ij bS;simp only[bU];have hl:=h.len;have h5:=h.n5;have h1:=h.n1;rw[Nj (by omega:s.length%2=1),Nj (by omega:s.length<=9),Bool.and_true,Bool.and_true,Ybc];intro x hx;obtain⟨i,hi,rfl⟩:=YbL.mp hx;have:=h.b i hi;simp[pR,this.1,this.2]
theorem IsSl.kd{s:List Int}{n:Nat}(h:IsSl s n):kd (bS s)=true:=AV (by have:=h.l9;omega)
theorem IU(q:Rat):cN (aP q)=true:=by
 unfold cN aP;have h1:(0:Int)<(q.den:Int):=by exact_mod_cast q.den_pos
 have h2:Int.gcd q.num (q.den:Int)=1:=q.reduced;simp[h2,q.den_pos]
theorem A0(r:List Rat):fZ r.length (aG r)=true:=by unfold fZ aG;simp[IU]
theorem lL(s:List Int):sI (bS s)=s:=by show(s.map D.int).map ya=s;rw[List.map_map];exact(iJ λ_ _=>rfl).trans (xa _)
theorem IsSl.sN(h:IsSl s n):sN (bS s)=n:=by unfold LP.sN;rw[lL];have:=h.len;omega
theorem n6(h:IsSl s n):jr (bS s) v=v:=by unfold jr;rw[AZ h,if_pos rfl]
theorem tF(h:ij x=false):jr x v=.error "NoSlants" :=by unfold jr;rw[h,if_neg<|by decide]
theorem vd(h:ij x=true):∃s n,x=bS s/\IsSl s n:=by
 cases x<;>try (cases h;done)
 rename_i xs;simp only[ij,c9,Nh,Ybc]at h;obtain⟨⟨h1,h2⟩,h3⟩:=h;have e:xs=(xs.map ya).map D.int:=by rw[List.map_map];refine((iJ λx hx=>?_).trans (xa _)).symm;have:=h1 x hx;cases x<;>first|rfl|cases this
 refine⟨xs.map ya,(xs.length+1)/2,by unfold bS;rw[<-e],⟨by rw[bU];omega,by omega,by omega,λi hi=>?_⟩⟩;obtain⟨x,hx,rfl⟩:=YbL.mp hi;have:=h1 x hx;cases x<;>first|(cases this;done)|skip
 simp only[pR,c9,Nh]at this;exact this
theorem si(q:Rat):sh (aP q)=q:=by unfold sh aP;exact qd q
theorem n8(r:List Rat):rQ (aG r)=r:=by show(r.map aP).map sh=r;rw[List.map_map];exact(iJ λq _=>si q).trans (xa _)
theorem IV{r':List Rat}(h:aG r=aG r'):r=r':=by rw[<-n8 r,h,n8]
theorem yg(h:cN d=true):∃q,d=aP q:=by
 unfold cN at h;split at h;rename_i t b;simp only[c9,Nh,NN]at h;have hb:((b.toNat:Nat):Int)=b:=zB (by omega);refine⟨⟨t,b.toNat,by omega,?_⟩,?_⟩;have:b.natAbs=b.toNat:=by omega
 have h2:=h.2;unfold Int.gcd at h2;rw[this]at h2;exact h2;unfold aP;rw[hb];cases h
theorem Dw:∀{xs:List D},xs.all cN=true->∃r:List Rat,xs=r.map aP
 |[],_=>⟨[],rfl⟩|x::xs,h=>by rw[qM,c9]at h;obtain⟨q,rfl⟩:=yg h.1;obtain⟨r,rfl⟩:=Dw h.2;exact⟨q::r,rfl⟩
theorem tG{a:Int}(h:fZ a x=true):∃r,x=aG r/\(r.length:Int)=a:=by
 cases x<;>try (cases h;done)
 rename_i xs;simp only[fZ,c9,NN]at h;obtain⟨r,rfl⟩:=Dw h.2;exact⟨r,rfl,by simpa using h.1⟩
theorem IW(h:IsSl s n)(q:Q .non):qC [bS s] E Q:=xS.ok (bS s) rfl h.kd (n6 h) q
theorem IX(h:kd x=true)(hb:ij x=false)(e:E "NoSlants"):qC [x] E Q:=xS.err x rfl h (tF hb) e
theorem IY(h:IsSl s n)(q:Q (aR s n)):yb [bS s] E Q:=xS.ok (bS s) rfl h.kd (by(try dsimp only);rw[n6 h,lL,h.sN]) q
theorem IZ(h:IsSl s n)(q:Q (bS s.reverse)):yc [bS s] E Q:=xS.ok (bS s) rfl h.kd (by(try dsimp only);rw[n6 h,lL]) q
theorem A1(h:IsSl s n)(hk:kd x=true)(q:Q (.bl<|fZ n x)):sf [bS s,x] E Q:=xS.ok (bS s,x) rfl ⟨h.kd,hk⟩ (by(try dsimp only);rw[n6 h,h.sN]) q
theorem I0(h:kd x=true)(hk:kd y=true)(hb:ij x=false)(e:E "NoSlants"):sf [x,y] E Q:=xS.err (x,y) rfl ⟨h,hk⟩ (tF hb) e
theorem Dx(h:IsSl s n)(q:Q (.lst<|(tbl s n).map λr=>aG<|dj r)):tE [bS s] E Q:=⟨(s,n),rfl,h,q⟩
theorem Ja(h:IsSl s n)(hl:r.length=n)(hb:BS r)(q:Q (aG<|eK s n r)):ye [bS s,aG r] E Q:=xS.ok (bS s,aG r) rfl ⟨h.kd,AU (by have:=h.n5;omega),λr' e=>by rw [<- IV e];exact hb⟩ (by
 have er:fZ n (aG r)=true:=by rw[<-hl];exact A0 r
 dsimp only;rw[n6 h,h.sN,lL,er,if_pos rfl,n8]) q
end
theorem sj{C:Addr}(h:PySem.W.nsIn K mainGlobals x=some (some<|.ref C)):i8 K x=some C:=by unfold i8;rw[h]
section
variable{C:Addr}{newId initId:String}{bmB:List Value}
def i7(x:Str):WS:=λE _ _=>E x
structure XC(K:Nd)(mg:Str->Option Value)(x:Str):Prop where
 h:∃(C:Addr) (newId initId:String) (bmB:List Value),i8 K x=some C/\mg x=some (.ref C)/\PySem.W.excIn K C bmB newId=true/\ExcBaseFacts "ValueError" newId initId bmB
theorem yh(hr:li X EX)(hx:XC X.K X.mg x)(hc:X.calm=true:=by rfl)(hxn:nQ x=none:=by decide)(hg:Gl X x:=by rfl)(hd:(x==("__debug__" : Str))=false:=by decide) :
  PZ X EX (.Raise (some<|.Call (.Name x np) [] [] cpos) none pos) (i7 x):=by
 obtain⟨C,newId,initId,bmB,h1,h2,h3,h4⟩:=hx.h;exact⟨⟨_,HD hr hc h2 h3 h4 hg hd,λW0 H0 F W σ H ρ E Dn N s fl eo no q=>eo x W H (.ref C) none q s.ext ⟨C,by rw[Ii hxn];exact h1,rfl,.none hxn⟩⟩,λE ρ N N' hl q=>q⟩
end
def tH(n i:Nat)(ex:Str):cS:=(List.replicate n SV.un).set i<|.d (.exc ex)
structure XT(K:Nd)(mg:Str->Option Value)(x:Str)(L:List Str):Prop where
 h:∃(C:Addr) (newId:String) (bmB:List Value),mg x=some (.ref C)/\PySem.W.excIn K C bmB newId=true/\bmB.contains (.type "BaseException")=true/\∀n∈L,∀D,i8 K (nR n)=some D->PySem.W.mroIn K D (.ref C)=some true
section
def fi(L:List Str)(n i:Nat)(zb zh:WS):WS:=λ_ N ρ=>∃E':Ex->Prop,(∀ex,E' ex->ex∈L/\zh No { nx:=λ_=>False,rt:=N.rt } (tH n i ex))/\zb E' N ρ
theorem Jb(L:List Str)(i:Nat){n cx:Str}{suite:List Stmt}{b0:Stmt}{zh:WS}{hpos:Pos}(hcx:XT X.K X.mg cx L)(hN:X.N.Nodup)
  (hb:∀xe pins EX',dw (fP X.prog X.w) (X.tr xe pins) EX'->jm (X.tr xe pins) EX' body zb) (hh:∀e xe,jm (X.hnd e xe) E0 (b0::suite) zh)
  (hstk:X.stack=X.env::X.outer/\X.env.frame=some X.env.locals:=by exact⟨rfl,rfl⟩) (hi:X.N[i]? = some n:=by rfl) (hx:X.env.scope.names.lookup n=some .local:=by rfl)
  (hg:Gl X cx:=by rfl) (hd:(cx==("__debug__" : Str))=false:=by decide) (hkf:X.env.scope.kind=.function:=by rfl) (hex:X.ex=[]:=by rfl) :
  PZ X EX (.Try body [.ExceptHandler (some<|.Name cx np) (some n) (b0::suite) hpos] [] [] pos) (fi L X.N.length i zb zh):=by
 have hbm:=(hb (λ_ _=>False) [] E0 cR).mono;refine⟨⟨λD σ H=>∃W0 H0 F W ρ N,SOk X.K W0 H0 W σ H ρ/\Wle F W/\AA X.K W0 H0 F D N/\fi L X.N.length i zb zh No N ρ,?_,λW0 H0 F W σ H ρ E Dn N s fl eo no h=>⟨W0,H0,F,W,ρ,N,s,fl,no,h⟩⟩,λE ρ N N' hl ⟨E',h1,h2⟩=>⟨E',λex he=>⟨(h1 ex he).1,(hh 0 λ_ _=>False).mono _ _ { nx:=λ_=>False,rt:=N.rt } { nx:=λ_=>False,rt:=N'.rt } ⟨λ_ z=>z,hl.rt,λ_ z=>z,λ_ z=>z⟩ (h1 ex he).2⟩,hbm _ _ _ _ hl h2⟩⟩;rintro pins s σ H D I ⟨W0,H0,F,W,ρ,N,so,fl,no,E',hE',hz⟩;obtain⟨Cs,newId,bmB,hm,hexc,hbase,hsub⟩:=hcx.h;have hcalm:=I.ok.hd
 let Eh:Value->Shared->Prop:=λe s1=>wpAny (model X.prog X.w) X.A (noteFrame e X.env) (λ_ s2=>wpAny (model X.prog X.w) X.A (setFlight e none) (λ_ s3=>wpAny (model X.prog X.w) X.A (handleBy e X.env [.ExceptHandler (some<|.Name cx np) (some n) (b0::suite) hpos]) (SP X pins D) X.xe s3) X.xe s2) X.xe s1
 have pass:dw (fP X.prog X.w) (X.tr Eh pins) (λcls dx H'=>∃W' ex,Ext W0 H0 W' H'/\xI X.K W' H' cls dx ex/\E' ex):=by
  rintro pins' σ1 H1 s1 _ s' I1 ⟨ea,cls,dx,H',B,rfl,fly,hos,hbare,un,hok,hB,hT,W',ex,x',⟨C,hcl,rfl,hxd⟩,he⟩;have J:Inv X pins σ1 H1 s1:=I1.untr;obtain⟨hL,hw⟩:=hE' ex he;have fly':Fl.Up (Fl.Is (.ref C) dx) B (X.env::X.outer) ea .none s'.heap:=by rw[<-hstk.1];exact fly
  have frm:∀b∈dC X.stack,∃o,s'.heap.get? b=some o/\∀vs,o.data≠.fields vs:=λb hb=>(fly.fr.mem hb).2;show wpAny (model X.prog X.w) X.A (noteFrame (.ref ea) X.env) _ _ s';refine Fl.note Fl.Is.firm (by rw[J.ok.frames,hstk.1]) hstk.2 fly' λh4 held4 up4=>?_;refine Fl.lands (s:={ s' with heap:=h4 }) held4 λh5 fl5 up5=>?_;have up45:=up4.trans up5;have J5:Inv X pins σ1 H' { s' with heap:=h5 }:=J.fly hos hbare un hok hB hT fly.st fl5.st up45 frm;refine wpAny_handleBy_cons (codeAny_handlers_test ?_) (by intro q;cases q);refine fv (X:=X.hnd ea X.xe) J5.hnd hg hm ?_ hd;refine HE J5.kIn hexc hbase (let⟨ob,z1,z2,_⟩:=fl5.there;⟨ob,z1,z2.1⟩) (hsub ex hL C hcl) ?_;refine codeAny_handlers_suite_as ?_;refine Fl.lands (s:={ s' with heap:=h5 }) fl5 λh6 fl6 up6=>?_;have J6:Inv X pins σ1 H' { s' with heap:=h6 }:=J.fly hos hbare un hok hB hT fly.st fl6.st (up45.trans up6) frm
  obtain⟨oe0,g1,g2,vs0,g3⟩:=fly.there;have nofr:ea∉dC X.stack:=λhm=>by
   obtain⟨o,e,nf⟩:=frm ea hm;rw[g1]at e;cases e;exact nf _ g3
  have nB:B.get? ea=none:=fly.new;have noS:s1.heap.get? ea=none:=by
   cases q:s1.heap.get? ea with
   |none=>rfl|some o=>obtain⟨o',e⟩:=hB ea o q nofr;rw[nB]at e;cases e
  have hn':H' ea=none:=by
   cases q:H' ea with
   |none=>rfl|some u=>obtain⟨o,e⟩:=hT ea u q;rw[nB]at e;cases e
  have no0:X.s₀.heap.get? ea=none:=by
   cases q:X.s₀.heap.get? ea with
   |none=>rfl
   |some o=>
    obtain⟨o',e⟩:=J.base.there ea o q (by rw[hex];simp);rw[noS]at e;cases e
  have nL:ea≠X.env.locals:=λz=>by
   obtain⟨m,⟨o,es,ep,ho,_⟩,_⟩:=J.loc;rw[<-z,noS]at ho;cases ho
  have nC:∀x c,X.env.cells.lookup x=some c->c≠ea:=λx c e z=>by
   obtain⟨v,o,ho,_⟩:=J.cell x c e;rw[z,noS]at ho;cases ho
  have nP:∀p∈X.pn++pins,p.1≠ea:=λp hp z=>by
   have:=(J.pin p hp).1;rw[z,noS]at this;cases this
  obtain⟨oe,q1,q2,vs,q3⟩:=fl6.there;refine fU (X:=X.hnd ea X.xe) (v:=.ref ea) J6.hnd hN hi (Or.inl hx) rfl (λs7 J7 sb=>?_)<|.inr hx;have hat:∃oe,s7.heap.get? ea=some oe/\oe.cls=.ref C/\PySem.W.notCls oe=true/\oe.dict=dx/\∃vs,oe.data=.fields vs:=by
   obtain⟨a,hs,ha⟩:=sb;have hne:ea≠a:=λz=>by
    rcases ha with ha|ha
    .exact nL<|z.trans ha
    .exact nC _ _ ha z.symm
   refine⟨oe,(hs.2 ea hne).trans q1,q2.1,?_,q2.2,vs,q3⟩;unfold PySem.W.notCls;rw[q3]
  have J8:Inv (X.hnd ea λ_ _=>False) pins (σ1.set i<|some<|.ref ea) (upd H' ea<|qr C ea dx) s7:=by
   refine((J7.unhnd hcalm).hnd).track hn' no0 nL nC nP ⟨hat,?_,?_⟩ (λ_ z=>by first|cases z|(unfold qr at z;cases z))
   .obtain⟨o,e,_⟩:=hat;exact⟨o,e⟩
   .rintro g1 g2 ⟨o,e,r⟩ k
    exact⟨o,k o e,r⟩
  have xt:Ext W' H' (W'.put ea<|qr C ea dx) (upd H' ea<|qr C ea dx):=Ext.put x'.ok hn';have hil:i<X.N.length:=(Yap.mp hi).1;have so2:SOk X.K W0 H0 (W'.put ea<|qr C ea dx) (σ1.set i<|some<|.ref ea) (upd H' ea<|qr C ea dx) (tH X.N.length i ex):=by
   have hlen:σ1.length=X.N.length:=J.len;have slot:∀(j:Nat) sv,(tH X.N.length i ex)[j]? = some sv->sv=.un\/(j=i/\sv=.d (.exc ex)):=λj sv e=>by
    unfold tH at e
    by_cases h:i=j
    .subst h
     rw[fe<|by simpa using hil]at e;cases e;exact .inr ⟨rfl,rfl⟩
    .rw[eN h,lD]at e
     split at e
     .cases e;exact .inl rfl
     .cases e
   refine⟨x'.trans xt,by unfold tH;rw[et,et,oO,hlen],λj y e=>?_,λj ys e=>?_,λj k ys zs b _ e=>?_,.none λj xss e=>?_⟩
   .rcases slot j _ e with z|⟨rfl,z⟩
    .cases z
    .cases z
     exact⟨.ref ea,fe (by rw[hlen];exact hil),.exc (by unfold Wd.put;dsimp only;rw[aT]) hcl<|hxd.mono xt.g⟩
   .rcases slot j _ e with z|⟨_,z⟩<;>cases z
   .rcases slot j _ e with z|⟨_,z⟩<;>cases z
   .rcases slot j _ e with z|⟨_,z⟩<;>cases z
  obtain⟨th,ph,kh⟩:=(hh ea λ_ _=>False).t;refine Nw (ph pins s7 _ _ { nx:=λ_ _=>False,rt:=D.rt } J8 (kh W0 H0 _ _ _ _ _ No _ { nx:=λ_=>False,rt:=N.rt } so2 (.refl _) (λ_ _ _ _ _ z=>z.elim)
   ⟨λ_ _ _ _ _ _ z=>z.elim,no.rt,λ_ _ _ _ _ _ z=>z.elim,λ_ _ _ _ _ _ z=>z.elim⟩ hw)) (λf s9 q=>?_) λ_ _ z=>z.elim
  cases f with
  |next=>obtain⟨_,_,_,z⟩:=q;exact z.elim
  |brk=>obtain⟨_,_,_,z⟩:=q;exact z.elim
  |cont=>obtain⟨_,_,_,z⟩:=q;exact z.elim
  |ret u=>
   obtain⟨v,σ9,H9,J9,r9,q9⟩:=q;have K9:=J9.unhnd hcalm;obtain⟨m,hns,_⟩:=K9.loc;exact wpAny_nameGoes hx hns (by rw[hkf];rfl) λh' m' hn2 hs2=>⟨v,_,H9,K9.names hn2 hs2,r9,q9⟩
 obtain⟨tb,pb,kb⟩:=(hb Eh pins _ pass).t;refine wpAny_Try_except<|Nw (pb [] s σ H D I.tr<|kb W0 H0 F W σ H ρ E' D N so fl (λex W' H' cls dx he x r=>⟨W',ex,x,r,he⟩) no hz) (λf s1 q=>?_) λe s1 q=>q;cases f with
 |next=>exact ND q.untr|brk=>exact q.untr|cont=>exact q.untr|ret u=>exact q.untr
end
section
variable{w:World}
theorem A2{N:List Str}(F:Fun K x qual st f fd)(sc:dn N ps (aM st))(len:∀ds E Q,S ds E Q->ds.length=ps.length)
  (hbody:∀ (cdv:Value) (A:Around) (outer:List Env) (s:Shared) (H:Hp),RoomU k (A.deeper<|envOfC qual (aM st) s.heap.objs.size f cdv)->
   jm (rR P w K mg base N qual (aM st) f cdv A outer s H) E0 (bQ st) z)
  (h:∀ds E Q,S ds E Q->z No { nx:=λ_=>Q .non,rt:=Q } (eQ N ds)):xF P w K mg base (k+1) f fd ps (gJ K S):=by
 refine F.okU sc (λvs H Q E hs=>?_) λcdv A outer s H vs Q E hr hs=>?_
 .obtain⟨ds,W,_,r,hS⟩:=hs
  rw[r.length];exact len _ _ _ hS
 .obtain⟨ds,W,ok,r,hS⟩:=hs
  obtain⟨t,p,k⟩:=(hbody cdv A outer s H hr).t;exact ⟨t,p,k W H W W (start N vs) H (eQ N ds) No _ { nx:=λ_=>RQ K W H Q .non,rt:=RQ K W H Q } (De ok r) (.refl W) (λ_ _ _ _ _ z=>z.elim)
   ⟨λW1 σ1 H1 ρ1 s1 _ q=>q _ W1 H1 s1.ext .non,λd v W1 H1 x1 r1 q=>q v W1 H1 x1 r1,λ_ _ _ _ _ _ q=>q.elim,λ_ _ _ _ _ _ q=>q.elim⟩ (h ds _ _ hS)⟩
structure yi(P:Program)(w:World)(K:Nd)(mg:Str->Option Value)(base:Heap)(k:Nat)(x:Str)(ps:List Str)(S:bR):Prop where
 ok:∃f fd,xF P w K mg base k f fd ps (gJ K S)/\mg x=some (.ref f)/\PySem.W.keepIn K (.ref f)=true/\Binds K fd ps []
 mono:pN S
end
section
variable{t:WA}
theorem Dy(G:yi X.prog X.w X.K X.mg X.base k x ps S)(hr:RoomU j X.A)(ha:i9 X EX (e::es) t)(hk:k<=j:=by decide)(hg:Gl X x:=by rfl)(hdb:(x==("__debug__" : Str))=false:=by decide)(he:starEach (e::es) X.env=(false,eval e X.env)::starEach es X.env:=by rfl)(hpl:(backTo pos<|starEach es X.env).any (·.1)=false:=by rfl) :
  PX X EX (.Call (.Name x p) (e::es) [] pos) (wF S t):=by
 obtain⟨f,fd,F,hm,kp,hb⟩:=G.ok;obtain⟨ta,pa,ka⟩:=ha.t;have hS:=G.mono;refine⟨⟨_,HG (E:=EX) F (hr.mono hk) hg hm kp hb pa hdb he hpl,λW0 H0 W σ H ρ E Q s eo h=>?_⟩,λE ρ P P' hp z=>ha.mono _ _ _ _ (λds hds=>hS _ _ _ _ _ (λ_ q=>q) hp hds) z⟩;refine ka W0 H0 W σ H ρ E _ s eo<|ha.mono _ _ _ _ (λds hds vs W1 H1 x1 r1=>?_) h;refine⟨ds,W1,x1.ok,by rw[qK];exact r1,hS _ _ _ _ _ (λex hex W' H' cls dx x' r'=>?_) (λd hd=>RQ.ext hd x1) hds⟩;exact eo ex W' H' cls dx hex (s.ext.trans<|x1.trans x') r'
end
structure XI(K:Nd)(L M:List Str):Prop where
 c:∀n∈L,∃D,i8 K (nR n)=some D/\ie K D/\PySem.W.kitOne K (.ref D) (.type "ValueError")=some true/\∀m∈M,∃C,i8 K m=some C/\PySem.W.kitOne K (.ref D) (.ref C)=some (nR n==m)
section
variable{a:Expr}{L M:List Str}
def gIsX(L M:List Str):List D->(D->Prop)->Prop:=λds Q=>match ds with|[.exc n,.cls m]=>n∈L/\m∈M/\Q (.bl<|nR n==m)|[.exc n,.ty T]=>n∈L/\T = "ValueError" /\Q (.bl true)|_=>False
theorem gIsX.mono:∀ds P P',(∀d,P d->P' d)->gIsX L M ds P->gIsX L M ds P':=λds P P' hp hg=>by unfold gIsX at hg ⊢;split at hg;exact⟨hg.1,hg.2.1,hp _ hg.2.2⟩;exact⟨hg.1,hg.2.1,hp _ hg.2.2⟩;exact hg.elim
theorem oJ(hx:XI X.K L M):d6 X (.builtin "isinstance") (gIsX L M):=by
 refine⟨⟨λvs H Q=>∃W ds,WOk W H/\Reps X.K W vs ds/\gIsX L M ds (RQ X.K W H Q),?_,λW H vs ds Q ok r hg=>⟨W,ds,ok,r,hg⟩⟩,gIsX.mono⟩;rintro pins s σ H vs us Q I rv ⟨W,ds,ok,rs,hg⟩;have fin:∀{b:Bool},RQ X.K W H Q (.bl b)->∀tk,EP X pins σ Q (.bool b) { s with toks:=tk }:=λq tk=>⟨.bl _,H,I.tok tk,rfl,q.now ok<|.bl _⟩;have look:∀{x:V} {u:Value} {n:Str},n∈L->Rep X.K W x (.exc n)->RelV x u->∃a D,u=.ref a/\i8 X.K (nR n)=some D/\XAt s.heap a D:=λ{x u n} hn r ru=>by
  cases r with
  | @exc a C n dx e0 e1 _=>cases ru;obtain⟨hx,_⟩:=(show ObjOk X.prog X.w H s.heap a (qr C a dx) from I.hok a _ (ok.g _ _ e0));exact⟨a,C,rfl,e1,let⟨oe,z1,z2,z3,_⟩:=hx;⟨oe,z1,z2,z3⟩⟩
 unfold gIsX at hg;split at hg;rename_i n m;obtain⟨h1,h2,q⟩:=hg;obtain⟨v,w',rfl,r1,r2⟩:=rs.two;obtain⟨u,u2,rfl,ru,ru2⟩:=ku rv;obtain⟨a,D,rfl,hD,hat⟩:=look h1 r1 ru;obtain⟨D',e1,cx,_,hm⟩:=hx.c n h1;rw[hD]at e1;cases e1;obtain⟨C,e2,hk⟩:=hm m h2;cases r2 with
 |cls e3=>rw[e3]at e2;cases e2;cases ru2;exact PySem.W.kia_one (C5 cx) I.kIn hat hk (λz=>nomatch z)<|fin q
 rename_i n T;obtain⟨h1,rfl,q⟩:=hg;obtain⟨v,w',rfl,r1,r2⟩:=rs.two;obtain⟨u,u2,rfl,ru,ru2⟩:=ku rv;obtain⟨a,D,rfl,hD,hat⟩:=look h1 r1 ru;obtain⟨D',e1,cx,hk,_⟩:=hx.c n h1;rw[hD]at e1;cases e1;cases r2;obtain rfl:u2=Value.type "ValueError" :=ru2;exact PySem.W.kia_one (C5 cx) I.kIn hat hk (λz=>nomatch z)<|fin q
 exact hg.elim
theorem Jc{a:Addr}(hm:X.mg x=some (.ref a))(hc:i8 X.K x=some a)(hg:Gl X x:=by rfl)(hd:(x==("__debug__" : Str))=false:=by decide):PX X EX (.Name x pos) (wC<|.cls x):=
 AB (v:=.ref a) hm rfl (λW=>.cls hc) hg hd
end
structure A3(X:Cx)(id:String)(g:D->List D->(D->Prop)->Prop):Prop where
 t:∃r,Am X id r/\∀W H x vs dx ds Q,WOk W H->Rep X.K W x dx->Reps X.K W vs ds->g dx ds (RQ X.K W H Q)->r x vs H Q
 ty:∀dx ds P,g dx ds P->∃xs,dx=.lst xs
 mono:∀x ds P P',(∀d,P d->P' d)->g x ds P->g x ds P'
def wM(g:D->List D->(D->Prop)->Prop)(wo:WE)(t:WA):WE:=λE ρ Q=>wo E ρ λx=>(∃xs,x=.lst xs)/\t E ρ λds=>g x ds Q
section
variable{o:Expr}{t:WA}{id:String}{g:D->List D->(D->Prop)->Prop}
theorem DA(slot:Slot "list" name id)(hty:typeOf (.builtin id)=pure (.type "method_descriptor"))(hm:A3 X id g)(ho:PX X EX o wo)(ha:i9 X EX (e::es) t)
  (hbase:attributeBase o name X.env (eval o X.env)=eval o X.env:=by rfl)
  (hfew:((backTo cpos<|starEach (e::es) X.env).all (λx=>!x.1) && (backToKw cpos<|keywordEach [] X.env).all (λx=>x.1.isSome)
   && decide ((e::es).length+([]:List Keyword).length+(if([]:List Keyword).isEmpty then 0 else 1)<30))=true:=by rfl)
  (hline:(apos.endLine==cpos.line)=true:=by rfl) (hs:starEach (e::es) X.env=(false,eval e X.env)::starEach es X.env:=by rfl) (hplain:(backTo cpos<|starEach es X.env).any (·.1)=false:=by rfl) :
  PX X EX (.Call (.Attribute o name apos) (e::es) [] cpos) (wM g wo t):=by
 obtain⟨to,po,ko⟩:=ho.t;obtain⟨ta,pa,ka⟩:=ha.t;obtain⟨r,pr,kr⟩:=hm.t;refine⟨⟨_,qm PySem.F.plainAttrs_list slot hty pr po pa hbase hfew hline hs hplain,λW0 H0 W σ H ρ E Q s eo h=>?_⟩,λE ρ P P' hp z=>ho.mono _ _ _ _ (λx ⟨h1,h2⟩=>⟨h1,ha.mono _ _ _ _ (λds hds=>hm.mono _ _ _ _ hp hds) h2⟩) z⟩;refine ko W0 H0 W σ H ρ E _ s eo<|ho.mono _ _ _ _ (λd hd v W1 H1 x1 r1=>?_) h;obtain⟨⟨xs,rfl⟩,h2⟩:=hd;cases r1 with
 | @lst a vs ds e1 rr=>
  refine⟨.inl ⟨rfl,vs,SqL.of<|x1.ok.g _ _ e1⟩,?_⟩;refine ka W0 H0 W1 σ H1 ρ E _ (s.step x1) eo<|ha.mono _ _ _ _ (λds hds us W2 H2 x2 r2=>?_) h2;exact kr W2 H2 _ us _ ds Q x2.ok (.lst (x2.g _ _ e1)<|rr.mono x2.g x2.p) r2<|hm.mono _ _ _ _ (λd hd=>RQ.ext hd<|x1.trans x2) hds
end
def yj(bs:List Bool):List D:=bs.map .bl
def A4:D->List D->(D->Prop)->Prop:=λx ds Q=>∃bs b,x=.lst (yj bs)/\ds=[.bl b]/\Q (.int (bs.countP (· == b):Nat))
def A5:D->List D->(D->Prop)->Prop:=λx ds Q=>∃bs b j,x=.lst (yj bs)/\ds=[.bl b]/\bs[j]? = some b/\(∀i<j,bs[i]?≠some b)/\Q (.int (j:Nat))
theorem A6{K:Nd}{W:Wd}:∀{bs:List Bool} {vs:List V} {its:List Value},Reps K W vs (yj bs)->Vals vs its->its=bs.map Value.bool
 |[],_,_,.nil,.nil=>rfl|b::bs,_,_,.cons r1 r2,.cons v1 v2=>by cases r1;obtain rfl:_=Value.bool b:=v1;rw[A6 r2 v2];rfl
theorem DB(k:Bool):∀(bs:List Bool),(bs.map Value.bool).countP (isBoolOf k)=bs.countP (· == k)
 |[]=>rfl|b::bs=>by rw[cP,List.countP_cons,List.countP_cons,DB k bs];rfl
section
theorem Jd:A3 X "list.count" A4:=by
 refine⟨⟨λx vs H Q=>∃W dx ds,WOk W H/\Rep X.K W x dx/\Reps X.K W vs ds/\A4 dx ds (RQ X.K W H Q),?_,λW H x vs dx ds Q ok r rs hg=>⟨W,dx,ds,ok,r,rs,hg⟩⟩,λdx ds P ⟨bs,b,h,_⟩=>⟨_,h⟩,λx ds P P' hp ⟨bs,b,h1,h2,h3⟩=>⟨bs,b,h1,h2,hp _ h3⟩⟩;rintro pins s σ H x vs v us Q I rx rv ⟨W,dx,ds,ok,r,rs,bs,b,rfl,rfl,q⟩;obtain⟨y,rfl,ry⟩:=rs.one;cases ry;obtain⟨u,rfl,ru⟩:=eC rv;obtain rfl:u=Value.bool b:=ru;cases r with
 | @lst a xs ds e1 rr=>
  cases rx;obtain⟨its,rvs,pl,hz⟩:=I.list<|SqL.of (ok.g _ _ e1);have hits:=A6 rr rvs;subst hits;obtain⟨⟨cls,dd,data,sl⟩,ho,hc,n,hd⟩:=pl.isList;simp only at hc hd;subst hc hd;refine call_meets PySem.F.slot_list_count ⟨_,ho,rfl⟩ PySem.F.entry_list_count (PySem.F.args_list_count_2 _ _) (SeqAt.list_countAt a _ n dd sl (.bool b)<|isBoolOf b) ⟨ho,λy hy=>?_,?_⟩
  have hy':y∈bs.map Value.bool:=by simpa using hy
  obtain⟨c,_,rfl⟩:=YbL.mp hy';exact PySem.SeqAt.EqAt.bool_bool c b;rw[show((bs.map Value.bool).toArray.toList)=bs.map Value.bool from rfl,DB];exact⟨.int _,H,I.tok _,⟨_,rfl⟩,q.now ok<|.int _⟩
theorem Je:A3 X "list.index" A5:=by
 refine⟨⟨λx vs H Q=>∃W dx ds,WOk W H/\Rep X.K W x dx/\Reps X.K W vs ds/\A5 dx ds (RQ X.K W H Q),?_,λW H x vs dx ds Q ok r rs hg=>⟨W,dx,ds,ok,r,rs,hg⟩⟩,λdx ds P ⟨bs,b,j,h,_⟩=>⟨_,h⟩,λx ds P P' hp ⟨bs,b,j,h1,h2,h3,h4,h5⟩=>⟨bs,b,j,h1,h2,h3,h4,hp _ h5⟩⟩;rintro pins s σ H x vs v us Q I rx rv ⟨W,dx,ds,ok,r,rs,bs,b,j,rfl,rfl,hj,hno,q⟩;obtain⟨y,rfl,ry⟩:=rs.one;cases ry;obtain⟨u,rfl,ru⟩:=eC rv;obtain rfl:u=Value.bool b:=ru;cases r with
 | @lst a xs ds e1 rr=>
  cases rx;obtain⟨its,rvs,pl,hz⟩:=I.list<|SqL.of (ok.g _ _ e1);have hits:=A6 rr rvs;subst hits;have hlen:xs.length=bs.length:=by rw[rr.length];unfold yj;rw[bU]
  obtain⟨⟨cls,dd,data,sl⟩,ho,hc,n,hd⟩:=pl.isList;simp only at hc hd;subst hc hd;have hjl:j<bs.length:=(Yap.mp hj).1;have hsz:((bs.map Value.bool).toArray).size=bs.length:=by simp
  refine call_meets PySem.F.slot_list_index ⟨_,ho,rfl⟩ PySem.F.entry_list_index (PySem.F.args_list_index_2 _ _) (SeqAt.list_indexAt a _ n dd sl (.bool b) (isBoolOf b) j (by rw[hsz];exact hjl) ?_ ?_ ?_) ⟨ho,λy hy=>?_,?_⟩;rw[sizeLine_eq]at hz;have:bs.length<=2^62:=by first|(have:=hz;simp at this;omega)|omega
  have:=hjl;omega;have:=(Yap.mp hj).2;simp only[List.getElem_toArray,oC,isBoolOf];rw[this];simp;intro m hm hlt;have hm':m<bs.length:=by rw[hsz]at hm;exact hm
  have:=hno m hlt;rw[bP hm']at this;simp only[List.getElem_toArray,oC,isBoolOf];exact Bool.eq_false_iff.mpr λz=>this (by rw[beq_iff_eq.mp z]);have hy':y∈bs.map Value.bool:=by simpa using hy
  obtain⟨c,_,rfl⟩:=YbL.mp hy';exact PySem.SeqAt.EqAt.bool_bool c b;exact⟨.int _,H,I.tok _,⟨_,rfl⟩,q.now ok<|.int _⟩
end
section
def Zda:G2:=λx y Q=>match x,y with|.tup xs,.int k=>k<1000/\-1000<k/\xs.length*k.toNat<=aL/\Q (.tup (List.replicate k.toNat xs).flatten)|_,_=>False
theorem Zda.mono:∀x y P P',(∀d,P d->P' d)->Zda x y P->Zda x y P':=λx y P P' hp hg=>by unfold Zda at hg ⊢;split at hg;exact⟨hg.1,hg.2.1,hg.2.2.1,hp _ hg.2.2.2⟩;exact hg.elim
theorem A7:gC X (binaryOp .Mult) Zda:=by
 refine⟨⟨_,HU,λW H x y dx dy Q ok rx ry hg=>?_⟩,Zda.mono⟩;unfold Zda at hg;split at hg;obtain⟨p,vs,rfl,h1,r1⟩:=rx.sqt ok;cases ry;rename_i xs k;refine⟨p,k,vs,rfl,rfl,h1,by omega,by omega,by rw[r1.length];exact pM hg.2.2.1,λe=>?_,λa ha=>hg.2.2.2.tup ok (Db r1 _) ha⟩;have e':(List.replicate k.toNat xs).flatten=xs:=by
  rcases e with e|e
  subst e;cases r1;simp;subst e;simp
 have q:=hg.2.2.2;rw[e']at q;exact q.now ok rx;exact hg.elim
end
section
theorem ve:PX X EX (.Dict [] [] pos) (wC .dic):=by refine⟨⟨_,HW,λW0 H0 W σ H ρ E Q s eo h p hp=>?_⟩,λE ρ P P' hp h=>hp _ h⟩;exact h (.ref p) (W.put p<|.dK []) _ (Ext.put s.ok hp)<|.dic (by unfold Wd.put;dsimp only;rw[aT])
def its(js:List Int):List D:=js.map .int
def gIn(neg:Bool):G2:=λx y Q=>∃i js,x=.int i/\(y=.lst (its js)\/y=.tup (its js))/\Q (.bl (if neg then !js.contains i else js.contains i))
theorem gIn.mono{neg:Bool}:∀x y P P',(∀d,P d->P' d)->gIn neg x y P->gIn neg x y P':=λx y P P' hp ⟨i,js,h1,h2,h3⟩=>⟨i,js,h1,h2,hp _ h3⟩
theorem ym{K:Nd}{W:Wd}:∀{js:List Int} {vs:List V},Reps K W vs (its js)->vs=js.map V.int
 |[],_,.nil=>rfl|j::js,_,.cons r t=>by cases r;rw[ym t];rfl
theorem A8(i:Int):∀js:List Int,xA (.int i) (js.map V.int)=js.contains i
 |[]=>rfl|j::js=>by have ih:=A8 i js;unfold xA at ih ⊢;rw[cP,wY,ih,List.contains_cons];congr 1;show(j==i)=(i==j);rw[jf,NN,NN];exact⟨Eq.symm,Eq.symm⟩
theorem A9:∀js:List Int,(js.map V.int).all fD=true
 |[]=>rfl|j::js=>by rw[cP,qM,A9 js];rfl
theorem vf{neg:Bool}{W:Wd}{x y:V}{dx dy:D}{Q:VK}(ok:WOk W H)(rx:Rep X.K W x dx)(ry:Rep X.K W y dy)(hg:gIn neg dx dy (RQ X.K W H Q)):CV X.K neg x y H Q:=by
 obtain⟨i,js,rfl,h,q⟩:=hg;cases rx;rcases h with rfl|rfl
 obtain⟨p,vs,rfl,h1,r1⟩:=ry.sql ok;obtain rfl:=ym r1;exact⟨p,_,rfl,.inl h1,rfl,A9 js,by rw[A8];exact q.now ok<|.bl _⟩;obtain⟨p,vs,rfl,h1,r1⟩:=ry.sqt ok;obtain rfl:=ym r1;exact⟨p,_,rfl,.inr h1,rfl,A9 js,by rw[A8];exact q.now ok<|.bl _⟩
theorem Ba:gC X (compareOp .In) (gIn false):=⟨⟨_,k6,λW H x y dx dy Q ok rx ry hg=>vf ok rx ry hg⟩,gIn.mono⟩
end
abbrev ZiS:List Str:=["thing"]
def DC:WS:=(aJ<|fo (wB gIs<|aC (wN 0)<|aC (wC<|.ty "int") aA)<|jo<|wB gIs<|aC (wN 0)<|aC (wC<|.ty "bool") aA)
abbrev Zi:List Str:=["thing", "least", "most"]
def DD:WS:=(aJ<|fo (wF sd<|aC (wN 0) aA)<|Zbg jY jY (wN 1) (wN 0)<|wN 2)
abbrev ZgD:List Str:=["thing", "least", "most"]
def DE:WS:=(aJ<|fo (wB gIs<|aC (wN 0)<|aC (wC<|.ty "tuple") aA)<|wB i5<|aC (wL<|aLC (iS<|wN 0) 1 [1,2] (gN 0) cT<|wF AW<|aC (wN 0)<|aC (wN 1)<|aC (wN 2) aA) aA)
abbrev Zej:List Str:=["one", "other"]
def DF:WS:=(aF (bG<|qy (wT<|w2 (gEq true) (wN 1)<|wC<|D.int<|0)<|eI 0 1<|aC (wN 1)<|aC (w2 qA (wN 0)<|wN 1) aA)<|aJ<|wB i4<|aC (wN 0) aA)
abbrev ZiT:List Str:=["thing", "top", "bottom"]
def DG:WS:=(aF (cH (dI (bH<|wT<|wB gIs<|aC (wN 0)<|aC (wC<|.ty "tuple") aA)<|wT<|w2 (gEq true) (wB bI<|aC (wN 0) aA)<|wC<|D.int<|2) (aJ<|wC<|D.bl false) cI)<|aF (ee (wN 0)<|dQ 2<|cJ (gN 1)<|cJ (gN 2) dP)<|aF (cH (dI (bH<|wT<|wF sd<|aC (wN 1) aA)<|bH<|wT<|wF sd<|aC (wN 2) aA) (aJ<|wC<|D.bl false) cI)<|aJ<|fo (w2 jq (wN 2)<|wC<|D.int<|0)<|w2 (gEq false) (wF vb<|aC (wN 1)<|aC (wN 2) aA)<|wC<|D.int<|1)
abbrev ZeU:List Str:=["thing", "least", "most"]
def DH:WS:=(aF (cH (dI (bH<|wT<|wB gIs<|aC (wN 0)<|aC (wC<|.ty "tuple") aA)<|bH<|wT<|Zbg jY jY (wN 1) (wB bI<|aC (wN 0) aA)<|wN 2) (aJ<|wC<|D.bl false) cI)<|aJ<|wB i5<|aC (wL<|aLC (iS<|wN 0) 1 [] (gN 0) cT<|wF tB<|aC (wN 0) aA) aA)
abbrev Zlz:List Str:=["thing", "many"]
def DI:WS:=(aJ<|wF xV<|aC (wN 0)<|aC (wN 1)<|aC (wN 1) aA)
abbrev ZiP:List Str:=["top", "bottom", "divisor"]
def DJ:WS:=(aF (jC<|wT<|w2 (gEq true) (wN 1)<|wC<|D.int<|0)<|aF (aQ 2<|wF vb<|aC (wN 0)<|aC (wN 1) aA)<|aF (cH (wT<|w2 nZ (wN 1)<|wC<|D.int<|0) (aQ 2<|w1 jZ<|wN 2) cI)<|aJ<|aO<|aC (w2 gM (wN 0)<|wN 2)<|aC (w2 gM (wN 1)<|wN 2) aA)
abbrev ZoA:List Str:=["one", "other"]
def DK:WS:=(aJ<|wF se<|aC (w2 gAdd (w2 gMul (w2 gIx (wN 0)<|wC<|D.int<|0)<|w2 gIx (wN 1)<|wC<|D.int<|1)<|w2 gMul (w2 gIx (wN 1)<|wC<|D.int<|0)<|w2 gIx (wN 0)<|wC<|D.int<|1)<|aC (w2 gMul (w2 gIx (wN 0)<|wC<|D.int<|1)<|w2 gIx (wN 1)<|wC<|D.int<|1) aA)
abbrev Znh:List Str:=["one", "other"]
def DL:WS:=(aJ<|wF se<|aC (w2 gMul (w2 gIx (wN 0)<|wC<|D.int<|0)<|w2 gIx (wN 1)<|wC<|D.int<|0)<|aC (w2 gMul (w2 gIx (wN 0)<|wC<|D.int<|1)<|w2 gIx (wN 1)<|wC<|D.int<|1) aA)
abbrev Zlx:List Str:=["numbers"]
def DM:WS:=(aJ<|wB iY<|aC (wL<|aLC (iS<|wN 0) 1 [] (gN 0) cT<|aO<|aC (wN 0)<|aC (wC<|D.int<|1) aA) aA)
abbrev ZdF:List Str:=["one", "other", "total", "left", "right"]
def DN:WS:=(aF (aQ 2<|wC<|D.tup [(D.int<|0),(D.int<|1)])<|aF (bG<|bD (iZ<|aC (wN 0)<|aC (wN 1) aA) (dQ 2<|cJ (gN 3)<|cJ (gN 4) dP)<|aQ 2<|wF xW<|aC (wN 2)<|aC (wF qB<|aC (wN 3)<|aC (wN 4) aA) aA)<|aJ<|wN 2)
abbrev Zkk:List Str:=["slants"]
def DO:WS:=(aJ<|w2 gM (w2 gAdd (wB bI<|aC (wN 0) aA)<|wC<|D.int<|1)<|wC<|D.int<|2)
abbrev ZfX:List Str:=["thing"]
def DP:WS:=(aF (cH (dI (bH<|wT<|wF xU<|aC (wN 0)<|aC (wC<|.int (-50))<|aC (wC<|.int<|50) aA)<|wT<|w2 (gEq false) (w2 qA (wB bI<|aC (wN 0) aA)<|wC<|D.int<|2)<|wC<|D.int<|0) (aJ<|wC<|D.bl false) cI)<|aJ<|w2 jY (wF oH<|aC (wN 0) aA)<|wC<|.int<|5)
abbrev ZfY:List Str:=["thing"]
def DQ:WS:=(cH (bH<|wT<|wF xZ<|aC (wN 0) aA) (i7<|PySem.Str.ofString "NoSlants") cI)
abbrev ZiO:List Str:=["slants", "size"]
def DR:WS:=(aF (ig<|wF qC<|aC (wN 0) aA)<|aF (aQ 1<|wF oH<|aC (wN 0) aA)<|aJ<|wL<|aLC (fq<|aC (wN 1) aA) 1 [0,1] (gN 0) cT<|wL<|aB (fH (α:=Unit))<|aC (bX (wN 1) (dO<|w2 Zd (w2 Zd (wN 2)<|wC<|D.int<|1)<|wN 0)<|dO<|w2 Zd (w2 Zd (w2 gMul (wC<|D.int<|2)<|wN 2)<|wC<|D.int<|1)<|wN 0) aA)
abbrev ZeT:List Str:=["slants"]
def DS:WS:=(aF (ig<|wF qC<|aC (wN 0) aA)<|aJ<|w1 gRev<|wN 0)
abbrev ZiR:List Str:=["slants", "thing"]
def DT:WS:=(aF (ig<|wF qC<|aC (wN 0) aA)<|aJ<|wF tD<|aC (wN 1)<|aC (wF oH<|aC (wN 0) aA) aA)
abbrev ZgA:List Str:=["slants"]
def DU:WS:=(aJ<|wL<|aLC (iS<|wF yb<|aC (wN 0) aA) 1 [] (gN 0) cT<|wF xY<|aC (wN 0) aA)
abbrev Zh8:List Str:=["slants", "row"]
def DV:WS:=(aF (cH (bH<|wT<|wF sf<|aC (wN 0)<|aC (wN 1) aA) (i7<|PySem.Str.ofString "NoRow") cI)<|aJ<|wB iY<|aC (wL<|aLC (iS<|wF tE<|aC (wN 0) aA) 1 [1] (gN 0) cT<|wF vc<|aC (wN 0)<|aC (wN 1) aA) aA)
local macro_rules | `(tactic| walk_at "wp")=>`(tactic| simp only[aJ,aF,cH,aQ,cI,ig,bT,cc,bD,jC,eI,ee,cU,ge,eJ,kH,bG,i7,fo,fG,jo,eS,dI,bH,wT,kC,w1,w2,wB,wF,wL,aO,bX,Zbg,aB,aU,aC,aA,aLC,ZbV,cT,iS,iL,iT,fq,iA,iZ,i1,i2,isS,isL,xO,isB,isI,d8,dO,wN,wC,gN,dQ,cJ,dP,gI2,gAdd,gMul,gIx,dR,gCut,gRev,bI,fH,iY,i4,jW,gL,kE,eW,dB,fJ,df,cM,eV,fK,aCut,eQ,pub,cP,gB,dM,jG,gU,dJ,List.replicate,fk,fO,List.set_cons_zero,List.set_cons_succ,Nat.reduceSub,Nat.reduceAdd,hX,kf,true_and,dW,if_true,if_false,ite_true,ite_false])
local macro_rules | `(tactic| walk_at "go")=>`(tactic| ((try dsimp only at *);(try walk_at "wp");(try dsimp only)))
theorem j0{x:D}{T:String}(h:kd x=true)(hT:T∈xN)(q:∀t,xM x=some t->Q (.bl<|eT t T)):gIs [x,.ty T] Q:=by obtain⟨t,ht⟩:=u9 h;exact⟨t,ht,hT,q t ht⟩
theorem DW:Rd sd DC ZiS:=by
 rintro _ E Q ⟨x,rfl,hk,q⟩;unfold DC;walk_at "wp";refine j0 hk (by decide) λt ht=>?_;cases x<;>cases ht<;>first
  |exact q
  |exact j0 hk (by decide) λt ht=>by cases ht;exact q
theorem Jf:Rd AW DD Zi:=by
 rintro _ E Q ⟨⟨x,l,m⟩,rfl,hk,q⟩;unfold DD;walk_at "go";refine⟨x,rfl,hk,?_⟩;cases x<;>try exact q
 rename_i i;simp only[oG,isB,if_true,gI2,true_and];by_cases h:l<=i;simp only[h,decide_true,if_true];simpa[pR,h] using q;simp only[h,decide_false,if_false,dW];simpa[pR,h] using q
theorem Jg:Rd xU DE ZgD:=by
 rintro _ E Q ⟨⟨x,l,m⟩,rfl,hk,q⟩;unfold DE;walk_at "go";refine j0 hk (by decide) λt ht=>?_;cases x<;>cases ht<;>try exact q
 rename_i xs;obtain⟨hl,hx⟩:=oF hk;show lcW _ _ _ xs _ _ _;refine rY (f:=λd=>.bl<|pR l m d) (λd hd Q hq=>?_) .un [] (by simp[aL];omega) ?_;walk_at "go";exact⟨(d,l,m),rfl,hx d hd,hq⟩;refine⟨xs.map<|pR l m,by simp,?_⟩;simpa[tX,Function.comp_def,lr] using q
theorem DX(a b:Int):Int.gcd b (a.fmod b)=Int.gcd a b:=by
 have e:a.fmod b=a-b*a.fdiv b:=by have:=Int.mul_fdiv_add_fmod a b;omega
 rw[e,Int.gcd_sub_mul_left_right,Int.gcd_comm]
theorem DY(a:Int){b:Int}(h:b≠0):(a.fmod b).natAbs<b.natAbs:=by
 have fj:∀a b:Int,0<b->0<=a.fmod b/\a.fmod b<b:=λa b z=>by rw[CO _<|Int.le_of_lt z];exact⟨Int.emod_nonneg _<|by omega,Int.emod_lt_of_pos _ z⟩
 rcases Int.lt_or_lt_of_ne h with z|z
 have h1:=fj (-a) (-b) (by omega);rw[Int.neg_fmod_neg]at h1;omega;have h1:=fj a b z;omega
theorem Jh:Rd vb DF Zej:=by
 rintro _ E Q ⟨⟨a,b⟩,rfl,_,q⟩;unfold DF;walk_at "go";refine⟨λm ρ=>∃x y:Int,m=y.natAbs/\ρ=[.d<|.int x,.d<|.int y]/\Int.gcd x y=Int.gcd a b,⟨_,a,b,rfl,rfl,rfl⟩,?_⟩;rintro m _ ⟨x,y,rfl,rfl,hg⟩;walk_at "go";by_cases hy:y=0;subst hy;simp only[Nx,fg,dW,if_false];rw[Int.gcd_zero_right]at hg;rw[<-hg]at q;have:(if x<0 then -x else x)=((x.natAbs:Nat):Int):=by split<;>omega
 rw[this];exact q;rw[if_pos<|by simpa using hy];exact⟨hy,_,DY x hy,_,_,rfl,rfl,by rw[DX];exact hg⟩
theorem DZ(h:xs.length≠2):cN (.tup xs)=false:=by unfold cN;split;rename_i e;cases e;exact Ng rfl h;rfl
theorem D1{a b:D}(h:oG a=false):cN (.tup [a,b])=false:=by unfold cN;split;rename_i e;cases e;cases h;rfl
theorem D2{a b:D}(h:oG b=false):cN (.tup [a,b])=false:=by unfold cN;split;rename_i e;cases e;cases h;rfl
theorem yo{a:D}(h:oG a=true):∃i,a=.int i:=by
 cases a<;>first
  |exact⟨_,rfl⟩
  |cases h
theorem Ji:Rd tB DG ZiT:=by
 rintro _ E Q ⟨x,rfl,hk,q⟩;unfold DG;walk_at "go";refine j0 hk (by decide) λt ht=>?_;cases x<;>cases ht<;>try exact q
 rename_i xs;obtain⟨hl,hx⟩:=oF hk;walk_at "go";simp only[show eT "tuple" "tuple" = true from rfl,fg,dW,if_false]
 by_cases h2:xs.length=2
 .match xs,h2,hx,q with
  |[a,b],_,hx,q=>
  rw[if_neg<|by simp];walk_at "go";refine⟨a,rfl,hx a<|by simp,?_⟩;walk_at "go";cases ha:oG a with
  |false=>rw[D1 ha]at q;exact q
  |true=>
   obtain⟨i,rfl⟩:=yo ha;simp only[fg,dW,if_false];refine⟨b,rfl,hx b<|by simp,?_⟩;walk_at "go";cases hb:oG b with
   |false=>rw[D2 hb]at q;exact q
   |true=>
    obtain⟨j,rfl⟩:=yo hb;simp only[fg,dW,if_false];walk_at "go"
    by_cases h:0<j
    .simp only[show j>0 from h,decide_true,if_true]
     refine⟨(i,j),rfl,trivial,?_⟩;walk_at "go";have:cN (.tup [.int i,.int j])=(((Int.gcd i j:Nat):Int)==1):=by
      simp only[cN,h,decide_true,xb];rw[jf];simp;omega
     rw[this]at q;simpa using q
    .have h':¬j>0:=h
     simp only[h',decide_false,if_false,dW];simpa[cN,h] using q
 .rw[DZ h2]at q
  rw[if_pos<|by simpa using λz=>h2<|by exact_mod_cast z];exact q
theorem Jj:Rd xV DH ZeU:=by
 rintro _ E Q ⟨⟨x,l,m⟩,rfl,hk,q⟩;unfold DH;walk_at "go";refine j0 hk (by decide) λt ht=>?_;cases x<;>cases ht<;>try exact q
 rename_i xs;obtain⟨hl,hx⟩:=oF hk;walk_at "go";simp only[show eT "tuple" "tuple" = true from rfl,fg,dW,if_false];simp only[va]at q;cases h1:decide (l<=(xs.length:Int)) with
 |false=>rw[h1]at q;simpa using q
 |true=>
  cases h2:decide ((xs.length:Int)<=m) with
  |false=>rw[h1,h2]at q;simpa using q
  |true=>
   simp only[if_true,fg,dW,if_false];walk_at "go";refine rY (f:=λd=>.bl<|cN d) (λd hd Q hq=>?_) .un [] (by simp[aL];omega) ?_
   .walk_at "go"
    exact⟨d,rfl,hx d hd,hq⟩
   .refine⟨xs.map cN,by simp,?_⟩
    rw[h1,h2]at q;simpa[tX,Function.comp_def] using q
theorem Jk(n:Int)(x:D):va n n x=fZ n x:=by
 cases x<;>try rfl
 rename_i xs;simp only[va,fZ];congr 1;rw[jf];simp;omega
theorem Jl:Rd tD DI Zlz:=by rintro _ E Q ⟨⟨x,n⟩,rfl,hk,q⟩;unfold DI;walk_at "go";refine IQ hk ?_;rw[Jk];exact q
theorem Bd.le{i j:Int}(h:i.natAbs<=j.natAbs)(b:Bd j):Bd i:=jH h b
theorem Jm:Rd se DJ ZiP:=by
 rintro _ E Q ⟨⟨t,b⟩,rfl,⟨hb,hd⟩,q⟩;unfold DJ;walk_at "go";refine⟨by simpa using hb,(t,b),rfl,trivial,?_⟩;walk_at "go";have hg:0<Int.gcd t b:=zI _ hb;have hle:Int.gcd t b<=b.natAbs:=Nat.le_of_dvd (by omega)<|Int.gcd_dvd_natAbs_right ..;obtain⟨e1,e2⟩:=Dr (t:=t) hb;unfold aP at q;rw[<-e1,<-e2]at q
 by_cases h:b<0;simp only[h,decide_true,if_true]at q ⊢;refine⟨⟨by omega,Bd.le (by omega) hd⟩,⟨by omega,Bd.le (by omega) hd⟩,by simp[aL],q⟩;simp only[h,decide_false,if_false,dW]at q ⊢;refine⟨⟨by omega,Bd.le (by omega) hd⟩,⟨by omega,Bd.le (by omega) hd⟩,by simp[aL],q⟩
theorem oK(h:Q (.int q.num)):gIx (aP q) (.int 0) Q:=⟨_,rfl,h⟩
theorem fL(h:Q (.int q.den)):gIx (aP q) (.int 1) Q:=⟨_,rfl,h⟩
theorem Jn:Rd xW DK ZoA:=by
 rintro _ E Q ⟨⟨p,q⟩,rfl,hb,h⟩;obtain⟨b1,b2,b3,b4,b5,b6,b7,b8⟩:=hb.mul;unfold DK;simp only[aJ,wF,aC,w2,wN,wC,eQ,cP,gU,fk,fO];refine oK<|fL ⟨b1,oK<|fL ⟨b2,fL<|fL ⟨b3,?_⟩⟩⟩;refine⟨(_,_),rfl,⟨b6,b5⟩,?_⟩;dsimp only at h ⊢;have e:Rat.divInt (p.num*q.den+q.num*p.den) ((p.den:Int)*q.den)=p+q:=by rw[Rat.add_def',<-zJ];rfl
 rw[e];exact h
theorem Jo:Rd qB DL Znh:=by
 rintro _ E Q ⟨⟨p,q⟩,rfl,hb,h⟩;obtain⟨b1,b2,b3,b4,b5,b6,b7,b8⟩:=hb.mul;unfold DL;simp only[aJ,wF,aC,w2,wN,wC,eQ,cP,gU,fk,fO];refine oK<|oK ⟨b4,fL<|fL ⟨b3,?_⟩⟩;refine⟨(_,_),rfl,⟨b6,b5⟩,?_⟩;dsimp only at h ⊢;have e:Rat.divInt (p.num*q.num) ((p.den:Int)*q.den)=p*q:=by rw[Rat.mul_def',<-zJ];rfl
 rw[e];exact h
theorem Jp{b:Bool}{Q:List D->Prop}(h:Q xs):isS Q (gO b xs):=by cases b<;>exact h
theorem vg(i:Int):aP (i:Rat)=.tup [.int i,.int 1]:=by unfold aP;rw[zG,zH];rfl
theorem Jq:Rd xY DM Zlx:=by
 rintro _ E Q ⟨⟨b,xs⟩,rfl,hl,q⟩;dsimp only at hl q;unfold DM;simp only[aJ,wB,aC,aA,wL,aLC,iS,wN,eQ,ZbV,List.replicate,cP,gB,gU,dJ,fk];refine Jp<|rY (f:=λd=>.tup [d,.int 1]) (λd hd Q hq=>?_) .un [] (by simp[aL];omega) ?_
 walk_at "go";exact⟨by simp[aL],hq⟩;have e:(xs.map D.int).map (λd=>D.tup [d,.int 1])=(xs.map λ(i:Int)=>(i:Rat)).map aP:=by rw[List.map_map,List.map_map];exact iJ λi _=>(vg i).symm
 rw[dJ,e];exact q
theorem D3{n m:Nat}:∀(p q:List Rat) {k:Nat},(∀x∈p,Sz n x)->(∀x∈q,Sz m x)->p.length<=k->Sz (k*(n+m+1)+1) (cK p q)
 |[],_,k,_,_,_=>by rw[cK];exact Sz.zero (by omega)|_::_,[],k,_,_,_=>by rw[cK];exact Sz.zero (by omega)|x::p,y::q,0,_,_,h=>by simp at h|x::p,y::q,k+1,h1,h2,hk=>by rw[cK];have a:=(h1 x<|by simp).mul<|h2 y (by simp);have b:=D3 p q (k:=k) (λz hz=>h1 z<|by simp[hz]) (λz hz=>h2 z<|by simp[hz]) (by simpa using hk);refine(a.add b).mono ?_;rw[oP];omega
theorem Jr:Rd vc DN ZdF:=by
 rintro _ E Q ⟨⟨⟨b1,b2⟩,p,q⟩,rfl,⟨n,m,hp,hq,hb⟩,h⟩;dsimp only at hp hq hb h;unfold DN;simp only[aF,aQ,wC,eQ,cP,gB,dM,jG,gU,dJ,List.replicate,List.set_cons_succ,List.set_cons_zero,bG,bD,iZ,aC,aA,wN,fk,fO,Nat.reduceSub,Nat.reduceAdd];have fj:∀(p' q':List Rat) (s:Rat) (sv sv':SV) (j:Nat),(∀x∈p',Sz n x)->(∀x∈q',Sz m x)->Sz (j*(n+m+1)+1) s->j+p'.length<=p.length->s+cK p' q'=cK p q->
   Zby (dQ 2<|cJ (gN 3)<|cJ (gN 4) dP) (aQ 2<|wF xW<|aC (wN 2)<|aC (wF qB<|aC (wN 3)<|aC (wN 4) aA) aA) No { nx:=aJ (wN 2) E { nx:=λ_=>Q .non,rt:=Q },rt:=Q,bk:=λ_=>False,ct:=λ_=>False }
    (cX (p'.map aP)<|q'.map aP) [.d<|gO b1<|p.map aP,.d<|gO b2<|q.map aP,.d<|aP s,sv,sv']:=by
  intro p'
  induction p' with
  |nil=>
   intro q' s sv sv' j _ _ _ _ he;rw[cK,lE]at he;simp only[cX,gB,List.zipWith_nil_left,Zby];show Q (aP s);rw[he];exact h
  |cons x p' ih=>
   intro q' s sv sv' j h1 h2 h3 h4 he;cases q' with
   |nil=>
    rw[cK,lE]at he;simp only[cX,gB,List.zipWith_nil_right,Zby];show Q (aP s);rw[he];exact h
   |cons y q'=>
    have hx:=h1 x (by simp);have hy:=h2 y (by simp);rw[dM]at h4;have hj:j*(n+m+1)<=p.length*(n+m+1):=kO _ (by omega);have hj':(j+1)*(n+m+1)<=p.length*(n+m+1):=kO _ (by omega);rw[oP]at hj';simp only[cX,cP,zK,Zby];refine⟨rfl,?_⟩;simp only[cJ,dP,gN,aQ,wF,aC,aA,wN,fk,fO,List.set_cons_succ,List.set_cons_zero];refine⟨(x,y),rfl,B2.of hx hy<|by omega,?_⟩;refine⟨(s,x*y),rfl,B2.of h3 (hx.mul hy)<|by omega,?_⟩;refine ih q' (s+x*y) _ _ (j+1) (λz hz=>h1 z<|by simp[hz]) (λz hz=>h2 z<|by simp[hz]) ?_ (by omega) ?_
    .refine(h3.add<|hx.mul hy).mono ?_
     rw[oP];omega
    .rw[cK]at he
     rw[Rat.add_assoc];exact he
 have e0:D.tup [D.int 0,D.int 1]=aP 0:=rfl;rw[e0];have k:=fj p q 0 .un .un 0 hp hq (Sz.zero<|by omega) (by omega)<|xc _;cases b1<;>cases b2<;>exact k
theorem iB{α:Type}{we:WE}{tail:cS}{Q:List D->Prop}{g f:α->D}:∀(L:List α),(∀a∈L,∀Q:D->Prop,Q (f a)->we No (.d (g a)::tail) Q)->∀(sv:SV) (acc:List D),acc.length+L.length<=aL->Q (acc++L.map f)->lcW (gN 0) cT we (L.map g) (sv::tail) acc Q
 |[],_,sv,acc,_,hq=>by simpa[lcW] using hq|a::L,h,sv,acc,hl,hq=>by rw[cP,lcW];show we No (SV.d (g a)::tail) _;rw[dM]at hl;refine h a (j8 ..) _ ⟨by omega,iB L (λd hd=>h d<|iH _ hd) _ _ ?_ ?_⟩;rw[gA,mY];omega;rw[mX];exact hq
theorem D4{α:Type}{xs:List α}{i:Int}{x:α}(hi:i=k)(h:xs[k]? = some x):e7 xs i=some x:=by rw[hi];exact bC h
theorem Js{α:Type}{xs:List α}(h:a<=b)(hb:b<=xs.length):bE xs (some (a:Int)) (some (b:Int))=(xs.drop a).take (b-a):=by unfold bE;rw[HT.sIx_nat,HT.sIx_nat,tY hb,tY<|gT h hb]
theorem vh{α:Type}{xs:List α}{i j:Int}(hi:i=a)(hj:j=b)(h:a<=b)(hb:b<=xs.length):bE xs (some i) (some j)=(xs.drop a).take (b-a):=by rw[hi,hj];exact Js h hb
theorem Jt{α:Type}{xs:List α}(h:a<=xs.length):bE xs (some (a:Int)) none=xs.drop a:=by unfold bE;rw[HT.sIx_nat,HT.sIx_none,tY h,<-mW,List.take_length]
theorem kI{α:Type}{xs:List α}{i:Int}(hi:i=b):bE xs none (some i)=xs.take b:=by
 unfold bE;rw[hi,HT.sIx_nat,HT.sIx_none,tU,Nat.sub_zero];rcases Nat.le_total b xs.length with h|h
 rw[tY h];rw[Nat.min_eq_right h,List.take_length,List.take_of_length_le h]
theorem iC{i:Int}(h:i.natAbs<2^n)(l:n<=8990):Bd i:=dm h<|jF (by decide) l
theorem Ju:Rd oH DO Zkk:=by rintro _ E Q ⟨x,rfl,hl,q⟩;unfold DO;walk_at "go";refine⟨⟨by decide,iC (n:=2) (by decide)<|by omega⟩,?_⟩;rw[zL _<|by decide];exact q
theorem Jv:Rd xZ DP ZfX:=by
 rintro _ E Q ⟨x,rfl,hk,q⟩;unfold DP;walk_at "go";refine IO hk ?_;walk_at "go";cases ha:lr (-50) 50 x with
 |false=>
  have:ij x=false:=by
   cases x<;>try rfl
   simp only[lr]at ha;simp only[ij,ha,Bool.false_and]
  rw[this]at q;simpa using q
 |true=>
  cases x<;>try (cases ha;done)
  rename_i xs;obtain⟨hl,hx⟩:=oF hk;walk_at "go";simp only[fg,dW,if_false];refine⟨by decide,?_⟩;simp only[lr]at ha;simp only[ij,ha,xb]at q;rw[CO _<|by decide];by_cases h:xs.length%2=1;rw[if_neg (by simp;omega)];walk_at "go";refine AY hl ?_;walk_at "go";rw[Nj h,xb]at q;have e:decide (((xs.length:Int)+1)/2<=5)=decide (xs.length<=9):=by rw[NK];omega
  rw[e];exact q;rw[if_pos (by simp;omega)];rw[decide_eq_false h,Bool.false_and]at q;exact q
theorem Jw:Rd qC DQ ZfY:=by
 rintro _ E Q ⟨x,rfl,h,q⟩;unfold DQ;walk_at "go";refine IT h ?_;walk_at "go";unfold jr at q;cases e:ij x with
 |false=>rw[e]at q;exact q|true=>rw[e]at q;exact q
theorem Bb{x:D}{E:Ex->Prop}(h:kd x=true)(hb:ij x=false->E "NoSlants")(hg:∀s n,x=bS s->IsSl s n->Q .non):qC [x] E Q:=by
 cases e:ij x with
 |false=>exact IX h e<|hb e
 |true=>obtain⟨s,n,rfl,hs⟩:=vd e;exact IW hs<|hg s n rfl hs
theorem sr{x:D}{E:Ex->Prop}(e:ij x=false)(q:exQ E Q (jr x v)):E "NoSlants" :=by rw[tF e]at q;exact q
theorem ss{E:Ex->Prop}(h:IsSl s n)(q:exQ E Q (jr (bS s) v)):exQ E Q v:=by rw[n6 h]at q;exact q
theorem Jx(h:i<n):(tbl s n)[i]? = some ((s.drop<|n-1-i).take n):=by unfold tbl;rw[cD,hZ h];rfl
theorem Jy:Rd yb DR ZiO:=by
 rintro _ E Q ⟨x,rfl,hk,q⟩;unfold DR;walk_at "go";refine Bb hk (λe=>sr e q) λs n e h=>?_;subst e;replace q:Q (aR s n):=by have:=ss h q;rw[lL,h.sN]at this;exact this
 refine yf h ?_;walk_at "go";have h5:=h.n5;have hl:=h.len;refine⟨by omega,by omega,?_⟩;rw[iq];refine rY (f:=λd=>match d with|.int i=>aZ ((s.drop<|n-1-i.toNat).take n)|_=>.non) (λd hd Q hq=>?_) .un [] (by simp[rng,aL];omega) ?_;obtain⟨i,hi,rfl⟩:=YbL.mp hd;rw[Yag]at hi;walk_at "go";refine⟨⟨iC (n:=2) (by decide)<|by omega,iC (n:=10) (by omega)<|by omega⟩,?_⟩;have e:bE (s.map D.int) (some<|(n:Int)-1-(0+(i:Int))) (some<|2*(n:Int)-1-(0+(i:Int)))=((s.drop<|n-1-i).take n).map D.int:=by rw[vh (a:=n-1-i) (b:=2*n-1-i) (by omega) (by omega) (by omega) (by rw[bU];omega),show 2*n-1-i-(n-1-i)=n by omega,<-List.map_drop,<-jI]
 show Q (D.lst<|bE (s.map D.int) _ _);rw[e];have e2:(0+(i:Int)).toNat=i:=by omega
 rw[e2]at hq;exact hq;have e:(rng 0 n).map (λd=>match d with|.int i=>aZ ((s.drop<|n-1-i.toNat).take n)|_=>.non)=(tbl s n).map aZ:=by unfold rng tbl;rw[List.map_map,List.map_map];refine iJ λi _=>?_;simp
 rw[dJ,e];exact q
theorem jt(s:List Int)(n:Nat):(tbl s n).length=n:=by simp[tbl]
theorem jD(h:IsSl s n):∀r∈tbl s n,r.length=n/\∀x∈r,-50<=x/\x<=50:=by intro r hr;unfold tbl at hr;obtain⟨i,hi,rfl⟩:=YbL.mp hr;rw[Yag]at hi;have hl:=h.len;refine⟨by rw[jg,mW];omega,λx hx=>h.b x<|zM<|m6 hx⟩
theorem Jz:Rd yc DS ZeT:=by
 rintro _ E Q ⟨x,rfl,hk,q⟩;unfold DS;walk_at "go";refine Bb hk (λe=>sr e q) λs n e h=>?_;subst e;replace q:Q (bS s.reverse):=by have:=ss h q;rw[lL]at this;exact this
 unfold bS;walk_at "go";rw[<-sT];exact q
theorem JA:Rd sf DT ZiR:=by rintro _ E Q ⟨⟨x,y⟩,rfl,⟨hk,hk2⟩,q⟩;dsimp only at hk hk2 q;unfold DT;walk_at "go";refine Bb hk (λe=>sr e q) λs n e h=>?_;subst e;replace q:=ss h q;rw[h.sN]at q;exact yf h<|Du hk2 q
theorem Zj:Rd tE DU ZgA:=by
 rintro _ E Q ⟨⟨s,n⟩,rfl,h,q⟩;have h5:=h.n5;unfold DU;walk_at "go";refine IY h ?_;unfold aR;walk_at "go";refine rY (f:=λd=>match d with|.lst xs=>.tup (xs.map λx=>.tup [x,.int 1])|_=>.non) (λd hd Q hq=>?_) .un [] (by simp[jt,aL];omega) ?_;obtain⟨r,hr,rfl⟩:=YbL.mp hd;walk_at "go";have:=(jD h r hr).1;refine IS (by omega) ?_;have e:aG (dj r)=.tup ((r.map D.int).map λx=>.tup [x,.int 1]):=by unfold aG dj;rw[List.map_map,List.map_map];exact congrArg D.tup<|iJ λi _=>vg i
 rw[e];exact hq;have e:((tbl s n).map aZ).map (λd=>match d with|.lst xs=>.tup (xs.map λx=>.tup [x,.int 1])|_=>.non)=(tbl s n).map λr=>aG (dj r):=by rw[List.map_map];refine iJ λr _=>?_;unfold aG dj;simp only[Function.comp_apply,aZ];rw[List.map_map,List.map_map];exact congrArg D.tup<|iJ λi _=>(vg i).symm
 rw[dJ,e];exact q
theorem yp{x:Int}(h:-50<=x/\x<=50):Sz 6 (x:Rat):=Sz.int x (by omega) (by omega)
theorem JB:Rd ye DV Zh8:=by
 rintro _ E Q ⟨⟨x,y⟩,rfl,⟨hk,hk2,hbs⟩,q⟩;dsimp only at hk hk2 hbs q;unfold DV;walk_at "go";cases e:ij x with
 |false=>exact I0 hk hk2 e<|sr e q
 |true=>
 obtain⟨s,n,rfl,h⟩:=vd e;have h5:=h.n5;refine A1 h hk2 ?_;replace q:=ss h q;rw[h.sN,lL]at q;walk_at "go";cases er:fZ n y with
 |false=>rw[er]at q;exact q
 |true=>
 rw[er]at q;obtain⟨r,rfl,hl'⟩:=tG er;have hl:r.length=n:=by omega
 have q:Q (aG<|eK s n<|rQ<|aG r):=q;rw[n8]at q;obtain⟨m,hm,hb⟩:=hbs r rfl;simp only[fg,dW,if_false];refine Dx h ?_;walk_at "go";have fj:∀line∈tbl s n,BR (dj line) r:=λline hline=>by
  obtain⟨h1,h2⟩:=jD h line hline;refine⟨6,m,λx hx=>?_,hm,?_⟩
  .obtain⟨i,hi,rfl⟩:=YbL.mp hx
   exact yp<|h2 i hi
  .have:(dj line).length=n:=by unfold dj;rw[bU];exact h1
   rw[this];have:n*(6+m+1)<=5*(6+m+1):=kO _ h5;omega
 refine iB (g:=λline=>aG<|dj line) (f:=λline=>aP<|cK (dj line) r) (tbl s n) (λline hl' Q hq=>?_) .un [] (by simp[jt,aL];omega) ?_
 .walk_at "go"
  exact Dv (fj line hl') hq
 .have e:(tbl s n).map (λline=>aP<|cK (dj line) r)=(eK s n r).map aP:=by
   unfold eK;rw[List.map_map];rfl
  rw[dJ,e];exact q
def yq:bR:=fnS (λx:List Int×Nat=>[.scr<|x.1.map .int,.int x.2]) (λ_=>True) λx=>.int<|x.1.getD x.2 0
def vj:bR:=rlS (λx:Int=>[.int x]) (λ_=>True) λ_ d=>∃j:Int,d=.int j
def yr:bR:=fnS (λx:Int=>[.int x]) (λ_=>True) λ_=>.pen
def gv:bR:=rlS (λm:Nat=>[.pen,.int m]) (λm=>0<m/\m<2^30) λm d=>∃k:Nat,d=.int k/\k<m
def qD:bR:=se
def D5:bR:=rlS (λ_:Unit=>[.pen]) (λ_=>True) λ_ d=>∃s n,IsSl s n/\d=bS s
def D6:bR:=rlS (λn:Nat=>[.pen,.int n]) (λn=>n<=5) λn d=>∃r:List Rat,r.length=n/\(∀x∈r,Sz 72 x)/\d=aG r
section
variable{E:Ex->Prop}{x:D}{l m a b:Int}{p:Rat}
theorem JC{xs:List Int}(q:Q (.int<|xs.getD i 0)):yq [.scr<|xs.map .int,.int i] E Q:=⟨(xs,i),rfl,trivial,q⟩
theorem D7(q:∀j:Int,Q<|.int j):vj [.int a] E Q:=⟨a,rfl,trivial,λd ⟨j,hd⟩=>by rw[hd];exact q j⟩
theorem JD(q:Q .pen):yr [.int a] E Q:=⟨a,rfl,trivial,q⟩
theorem g6(h:0<n)(h':n<2^30)(q:∀k:Nat,k<n->Q (.int k)):gv [.pen,.int n] E Q:=⟨n,rfl,⟨h,h'⟩,λd ⟨k,hd,hk⟩=>by rw[hd];exact q k hk⟩
theorem vm(h:b≠0)(h':Bd b)(q:Q (aP<|Rat.divInt a b)):qD [.int a,.int b] E Q:=⟨(a,b),rfl,⟨h,h'⟩,q⟩
theorem JE(q:∀s n,IsSl s n->Q (bS s)):D5 [.pen] E Q:=⟨(),rfl,trivial,λd ⟨s,n,h,hd⟩=>by rw[hd];exact q s n h⟩
theorem JF(h:n<=5)(q:∀r:List Rat,r.length=n->(∀x∈r,Sz 72 x)->Q (aG r)):D6 [.pen,.int n] E Q:=⟨n,rfl,h,λd ⟨r,h1,h2,hd⟩=>by rw[hd];exact q r h1 h2⟩
end
abbrev Zff:List Str:=["_law_script", "_law_k"]
def D8:WS:=(aF (cH (wT<|w2 nZ (wN 1)<|wB bI<|aC (wN 0) aA) (aJ<|w2 gIx (wN 0)<|wN 1) cI)<|aJ<|wC<|D.int<|0)
abbrev Zid:List Str:=["_law_seed"]
def D9:WS:=(aF (aQ 0<|w2 qA (w2 gAdd (wN 0)<|wC<|D.int<|7919)<|wC<|D.int<|2147483647)<|aJ<|w2 qA (w2 gAdd (w2 gAdd (w2 gMul (wN 0)<|wN 0)<|w2 gMul (wC<|D.int<|48271)<|wN 0)<|wC<|D.int<|12345)<|wC<|D.int<|2147483629)
abbrev Zf0:List Str:=["_law_cell", "_law_left"]
def Ea:WS:=(aF (aQ 1<|wB jW<|aC (wN 0)<|aC (w2 Zd (wC<|D.int<|0)<|wN 0) aA)<|aJ<|eW<|aU<|aC (wN 1)<|aC (wB gL<|aC (w2 AL (wN 1)<|w2 AK (wC<|D.int<|10)<|wC<|D.int<|18) aA)<|aC (w2 qA (wN 1)<|wC<|D.int<|1000003) aA)
abbrev Zig:List Str:=["_law_pen", "_law_many", "_law_found"]
def Eb:WS:=(aF (cH (wT<|w2 (gEq false) (w2 dR (wN 0)<|wC<|D.int<|1)<|wC<|D.int<|1) (aF (aQ 2<|w2 qA (w2 dR (wN 0)<|wC<|D.int<|0)<|wN 1)<|aF (eJ 0<|w2 gM (w2 dR (wN 0)<|wC<|D.int<|0)<|wN 1)<|aJ<|wN 2) cI)<|aF (eJ 0<|wF vj<|aC (w2 gAdd (wF vj<|aC (w2 dR (wN 0)<|wC<|D.int<|2) aA)<|wC<|D.int<|7) aA)<|aJ<|w2 qA (w2 gM (w2 dR (wN 0)<|wC<|D.int<|2)<|wC<|D.int<|64)<|wN 1)
theorem JG:Rd yq D8 Zff:=by rintro _ E Q ⟨⟨xs,i⟩,rfl,_,q⟩;unfold D8;walk_at "go";by_cases h:i<xs.length;rw[if_pos<|by simp[h]];refine⟨.int<|xs.getD i 0,D4 rfl ?_,q⟩;rw[cD,bF,bP h];rfl;rw[if_neg (by simp;omega)];rw[bF,ff<|by omega]at q;exact q
theorem JH:Rd vj D9 Zid:=by rintro _ E Q ⟨x,rfl,_,q⟩;unfold D9;walk_at "go";have h1:=zN (x+7919) (show(0:Int)<2147483647 by decide);have h2:=Int.fmod_lt_of_pos (x+7919) (show(0:Int)<2147483647 by decide);have b:Bd ((x+7919).fmod 2147483647):=iC (n:=32) (by omega) (by omega);exact⟨by decide,⟨b,b⟩,⟨iC (n:=32) (by decide)<|by omega,b⟩,by decide,q _ ⟨_,rfl⟩⟩
theorem JI:Rd yr Ea Zf0:=by rintro _ E Q ⟨x,rfl,_,q⟩;unfold Ea;walk_at "go";exact⟨⟨by decide,by decide,by decide⟩,by decide,by decide,⟨_,_,_,rfl⟩,q⟩
theorem JJ:Rd gv Eb Zig:=by
 rintro _ E Q ⟨m,rfl,⟨h0,h1⟩,q⟩;have hb:Bd (m:Int):=iC (n:=30) (by omega) (by omega);have fin:∀x:Int,Q (.int<|x.fmod m):=λx=>by have h1:=zN x (show(0:Int)<m by omega);have h2:=Int.fmod_lt_of_pos x (show(0:Int)<m by omega);exact q _ ⟨(x.fmod m).toNat,by rw[zB h1],by omega⟩
 unfold Eb;walk_at "go";refine⟨by simp,λj=>?_⟩;walk_at "go";split;refine⟨by simp,λi=>⟨by omega,?_⟩⟩;walk_at "go";exact⟨by simp,λi'=>⟨⟨by omega,hb⟩,fin i⟩⟩;refine⟨by simp,λk=>D7 λk1=>?_⟩;walk_at "go";refine D7 λk2=>?_;walk_at "go";exact⟨by simp,λk3=>⟨⟨by decide,iC (n:=7) (by decide)<|by omega⟩,by omega,fin _⟩⟩
theorem Ed(x:Int):(if x<0 then -x else x)=((x.natAbs:Nat):Int):=by split<;>omega
theorem Bc{t b:Int}(hb:b≠0)(h1:t.natAbs<2^n)(h2:b.natAbs<2^n):Sz n (Rat.divInt t b):=by
 unfold Sz;rw[Rat.num_divInt,Rat.den_divInt,if_neg hb];have hg:Int.gcd b t≠0:=by have:=Int.gcd_pos_of_ne_zero_left t hb;omega
 refine⟨jH (Do hg ?_) ?_,jH (Nat.div_le_self _ _) h2⟩;exact Int.dvd_mul_of_dvd_right<|Int.gcd_dvd_right ..
 rw[gh,Int.natAbs_sign_of_ne_zero hb,Nat.one_mul];exact h1
local macro_rules | `(tactic| walk_at "w1")=>`(tactic| simp only[aJ,cH,aQ,cI,ig,bT,cc,bD,jC,eI,ee,cU,ge,eJ,kH,bG,i7,fo,fG,jo,eS,dI,bH,wT,kC,w1,w2,wB,wF,wL,aO,bX,Zbg,aB,aU,aC,aA,aLC,ZbV,cT,iS,iL,iT,fq,iA,iZ,i1,i2,isS,isL,xO,isB,isI,d8,dO,wN,wC,gN,dQ,cJ,dP,gI2,gAdd,gMul,gIx,dR,gCut,gRev,bI,fH,iY,i4,jW,gL,kE,eW,dB,fJ,df,cM,eV,fK,aCut,eQ,pub,cP,gB,dM,jG,gU,dJ,List.replicate,fk,fO,List.set_cons_zero,List.set_cons_succ,Nat.reduceSub,Nat.reduceAdd,hX,kf,true_and,dW,if_true,if_false,ite_true,ite_false])
local macro_rules | `(tactic| walk_at "st")=>`(tactic| ((try dsimp only at *);(try walk_at "w1");(try dsimp only)))
theorem bO{E:Ex->Prop}(h:z E { N with nx:=z' E N } ρ):aF z z' E N ρ:=h
theorem qE{E:Ex->Prop}(I:cS->Prop)(hz:∀nx:cS->Prop,(∀ρ,I ρ->nx ρ)->z E { N with nx:=nx } ρ)(hr:∀ρ,I ρ->z' E N ρ):aF z z' E N ρ:=hz _ hr
theorem g9{c:WT}{E:Ex->Prop}{b:Bool}(hc:∀Q:Bool->Prop,Q b->c E ρ Q)(h1:b=true->zb E N ρ)(h2:b=false->N.nx ρ):cH c zb cI E N ρ:=by
 refine hc _ ?_;cases b with
 |true=>rw[if_pos rfl];exact h1 rfl|false=>rw[if_neg<|by decide];exact h2 rfl
theorem Be(xs:List Int):lm (xs.map D.int)=true:=by
 induction xs with
 |nil=>rfl|cons x xs ih=>rw[cP,lm,ih];rfl
theorem Ee(h:∀y∈ys,∃i:Int,y=.int i/\-50<=i/\i<=50):∃s:List Int,ys=s.map D.int/\∀x∈s,-50<=x/\x<=50:=by
 induction ys with
 |nil=>exact⟨[],rfl,by simp⟩
 |cons y ys ih=>
  obtain⟨s,rfl,hs⟩:=ih λz hz=>h z (by simp[hz]);obtain⟨i,rfl,h1,h2⟩:=h y (by simp);exact ⟨i::s,rfl,λx hx=>by
   rcases Yam.mp hx with rfl|hx
   .exact⟨h1,h2⟩
   .exact hs x hx⟩
abbrev LX:List Str:=["NoSlants", "NoRow", "NoNumber", "NoLine", "NotEven", "NotFull"]
abbrev MX:List Str:=["NoSlants", "NoRow", "NoNumber", "NoLine", "NotEven", "NotFull", "NotStrong", "NoText", "TooGreat"]
def pT(n:Str):Str:=if n == "NoSlants" then "slants" else if n == "NoRow" then "row" else if n == "NoNumber" then "number" else if n == "NoLine" then "line" else if n == "NotEven" then "even" else "full"
mutual
def dL(m:Nat):D->Bool
 |.int i=>decide (i.natAbs<2^m)|.tup xs=>dY m xs|.lst xs=>dY m xs|_=>true
def dY(m:Nat):List D->Bool
 |[]=>true|x::r=>dL m x&&dY m r
end
theorem vn{m:Nat}:∀{xs:List D},dY m xs=true↔∀x∈xs,dL m x=true
 |[]=>by simp[dY]|x::r=>by rw[dY,c9,vn];simp
theorem Zkv:dL m (aP q)=true↔Sz m q:=by unfold aP Sz;rw[dL,dY,dY,dY,dL,dL];simp
theorem ZcK:dL m (aG r)=true↔∀x∈r,Sz m x:=by
 unfold aG;rw[dL,vn];constructor;intro h x hx;exact Zkv.mp<|h _ (xf hx)
 intro h x hx;obtain⟨q,hq,rfl⟩:=YbL.mp hx;exact Zkv.mpr<|h q hq
def Zc:bR:=sd
def yt:bR:=fnS (λn:Str=>[.exc n]) (λn=>n∈LX) λn=>.str<|pT n
section
variable{E:Ex->Prop}{x:D}
theorem Ef(h:kd x=true)(q:Q (.bl<|oG x)):Zc [x] E Q:=⟨x,rfl,h,q⟩
theorem JK{n:Str}(h:n∈LX)(q:Q (.str<|pT n)):yt [.exc n] E Q:=⟨n,rfl,h,q⟩
end
abbrev ZgF:List Str:=["_law_found"]
def JL:WS:=(aJ<|fo (wB gIs<|aC (wN 0)<|aC (wC<|.ty "int") aA)<|jo<|wB gIs<|aC (wN 0)<|aC (wC<|.ty "bool") aA)
abbrev Zds:List Str:=["_law_e", "_law_marks"]
def Bf:WS:=(aF (aQ 1<|wL<|aU<|aC (wB (gIsX LX MX)<|aC (wN 0)<|aC (wC<|.cls<|PySem.Str.ofString "NoSlants") aA)<|aC (wB (gIsX LX MX)<|aC (wN 0)<|aC (wC<|.cls<|PySem.Str.ofString "NoRow") aA)<|aC (wB (gIsX LX MX)<|aC (wN 0)<|aC (wC<|.cls<|PySem.Str.ofString "NoNumber") aA)<|aC (wB (gIsX LX MX)<|aC (wN 0)<|aC (wC<|.cls<|PySem.Str.ofString "NoLine") aA) aA)<|aF (aQ 1<|w2 gAdd (wN 1)<|wL<|aU<|aC (wB (gIsX LX MX)<|aC (wN 0)<|aC (wC<|.cls<|PySem.Str.ofString "NotEven") aA)<|aC (wB (gIsX LX MX)<|aC (wN 0)<|aC (wC<|.cls<|PySem.Str.ofString "NotFull") aA)<|aC (wB (gIsX LX MX)<|aC (wN 0)<|aC (wC<|.cls<|PySem.Str.ofString "NotStrong") aA) aA)<|aF (aQ 1<|w2 gAdd (wN 1)<|wL<|aU<|aC (wB (gIsX LX MX)<|aC (wN 0)<|aC (wC<|.cls<|PySem.Str.ofString "NoText") aA)<|aC (wB (gIsX LX MX)<|aC (wN 0)<|aC (wC<|.cls<|PySem.Str.ofString "TooGreat") aA) aA)<|aF (cH (dI (bH<|wT<|wB (gIsX LX MX)<|aC (wN 0)<|aC (wC<|.ty "ValueError") aA)<|wT<|w2 (gEq true) (wM A4 (wN 1)<|aC (wC<|D.bl true) aA)<|wC<|D.int<|1) (aJ<|wC<|D.str<|PySem.Str.ofString "other") cI)<|aJ<|w2 gIx (wL<|aU<|aC (wC<|D.str<|PySem.Str.ofString "slants")<|aC (wC<|D.str<|PySem.Str.ofString "row")<|aC (wC<|D.str<|PySem.Str.ofString "number")<|aC (wC<|D.str<|PySem.Str.ofString "line")<|aC (wC<|D.str<|PySem.Str.ofString "even")<|aC (wC<|D.str<|PySem.Str.ofString "full")<|aC (wC<|D.str<|PySem.Str.ofString "strong")<|aC (wC<|D.str<|PySem.Str.ofString "text")<|aC (wC<|D.str<|PySem.Str.ofString "great") aA)<|wM A5 (wN 1)<|aC (wC<|D.bl true) aA)
def sm:Nat->(Nat->Rat)->Rat
 |0,_=>0|n+1,f=>f 0+sm n λi=>f<|i+1
theorem JM{α:Type}{f g:Nat->α}(h:∀i,i<n->f i=g i):(List.range n).map f=(List.range n).map g:=
 iJ λi hi=>h i<|Yag.mp hi
def ent(s:List Int)(n i j:Nat):Int:=s.getD (n-1-i+j) 0
theorem JN(h:IsSl s n):tbl s n=(List.range n).map λi=>(List.range n).map λj=>ent s n i j:=by
 unfold tbl;refine JM λi hi=>sR λj=>?_;have hl:=h.len;rcases gg j n with hj|hj
 rw[zt hj,List.getElem?_drop,cD,hZ hj,bP<|by omega];unfold ent;rw[jE,bF,bP<|by omega];rfl;rw[ff (by rw[jg];omega),ff<|by simpa using hj]
def dS(n p:Nat):List Rat:=(List.range n).map λj=>if j=p then 1 else 0
theorem Bg{g:WG}{zb:WS}{E:Ex->Prop}{N:Nds}(I:cS->Prop):∀(ds:List D),(∀d∈ds,∀ρ,I ρ->∀nx:cS->Prop,(∀ρ,I ρ->nx ρ)->g d ρ λρ1=>zb E { nx:=nx,rt:=N.rt,bk:=N.nx,ct:=nx } ρ1)->(∀ρ,I ρ->N.nx ρ)->∀ρ,I ρ->Zby g zb E N ds ρ
 |[],_,hn,ρ,i=>hn ρ i|d::ds,h,hn,ρ,i=>h d (j8 ..) ρ i _<|Bg I ds (λd hd=>h d<|iH _ hd) hn
theorem qF{g:WG}{zb:WS}{E:Ex->Prop}{N:Nds}(I:List D->cS->Prop)(h:∀d ds ρ,I (d::ds) ρ->∀nx:cS->Prop,(∀ρ,I ds ρ->nx ρ)->g d ρ λρ1=>zb E { nx:=nx,rt:=N.rt,bk:=N.nx,ct:=nx } ρ1)(hn:∀ρ,I [] ρ->N.nx ρ):∀(ds:List D) ρ,I ds ρ->Zby g zb E N ds ρ
 |[],ρ,i=>hn ρ i|d::ds,ρ,i=>h d ds ρ i _<|qF I h hn ds
theorem pU(n:Nat):rng 0 n=(List.range n).map λ(k:Nat)=>D.int (k:Int):=by unfold rng;exact iJ λk _=>by rw[Int.zero_add]
section
variable{QI:Int->Prop}{QB:Bool->Prop}{i j:Int}{b:Bool}{o o':Option Int}
theorem lM:isB QB (.bl b)=QB b:=rfl
theorem lN:isI QI (.int i)=QI i:=rfl
theorem lO:isL QL (.lst xs)=QL xs:=rfl
theorem lP:isL QL (aZ s)=QL (s.map .int):=rfl
theorem lQ:isL QL (aR s n)=QL ((tbl s n).map aZ):=rfl
theorem lR:xO QL (.tup xs)=QL xs:=rfl
theorem lS:isS QL (.lst xs)=QL xs:=rfl
theorem lT:isS QL (.tup xs)=QL xs:=rfl
theorem Ze:isS QL (aG r)=QL (r.map aP):=rfl
theorem lU:isS QL (bS s)=QL (s.map .int):=rfl
theorem lV:isS QL (aZ s)=QL (s.map .int):=rfl
theorem lW:isS QL (aR s n)=QL ((tbl s n).map aZ):=rfl
theorem lX:bI [.tup xs] Q=Q (.int xs.length):=rfl
theorem lY:bI [.lst xs] Q=Q (.int xs.length):=rfl
theorem lZ:bI [.scr xs] Q=Q (.int xs.length):=rfl
theorem l3:bI [aG r] Q=Q (.int r.length):=by show Q (.int ((r.map aP).length:Int))=_;rw[bU]
theorem l4:bI [bS s] Q=Q (.int s.length):=by show Q (.int ((s.map D.int).length:Int))=_;rw[bU]
theorem l5:bI [aZ s] Q=Q (.int s.length):=by show Q (.int ((s.map D.int).length:Int))=_;rw[bU]
theorem l6:bI [aR s n] Q=Q (.int n):=by show Q (.int (((tbl s n).map aZ).length:Int))=_;rw[bU,jt]
theorem l7:gIx (.tup xs) (.int i) Q = ∃d,e7 xs i=some d/\Q d:=rfl
theorem l8:gIx (.lst xs) (.int i) Q = ∃d,e7 xs i=some d/\Q d:=rfl
theorem md:gIx (.scr xs) (.int i) Q = ∃d,e7 xs i=some d/\Q d:=rfl
theorem me:gIx (aG r) (.int i) Q = ∃d,e7 (r.map aP) i=some d/\Q d:=rfl
theorem mf:gIx (bS s) (.int i) Q = ∃d,e7 (s.map .int) i=some d/\Q d:=rfl
theorem mh:gIx (aZ s) (.int i) Q = ∃d,e7 (s.map .int) i=some d/\Q d:=rfl
theorem mi:gIx (aR s n) (.int i) Q = ∃d,e7 ((tbl s n).map aZ) i=some d/\Q d:=rfl
theorem mj:gCut (.tup xs) o o' Q=Q (.tup<|bE xs o o'):=rfl
theorem ml:gCut (.lst xs) o o' Q=Q (.lst<|bE xs o o'):=rfl
theorem mn:gCut (.scr xs) o o' Q=Q (.lst<|bE xs o o'):=rfl
theorem mo:gCut (aG r) o o' Q=Q (.tup<|bE (r.map aP) o o'):=rfl
theorem mq:gCut (bS s) o o' Q=Q (.tup<|bE (s.map .int) o o'):=rfl
theorem mr:gCut (aZ s) o o' Q=Q (.lst<|bE (s.map .int) o o'):=rfl
theorem ms:gCut (aR s n) o o' Q=Q (.lst<|bE ((tbl s n).map aZ) o o'):=rfl
theorem mx:gRev (.tup xs) Q=Q (.tup xs.reverse):=rfl
theorem mz:gRev (.lst xs) Q=Q (.lst xs.reverse):=rfl
theorem mB:gRev (aG r) Q=Q (aG r.reverse):=by show Q (.tup (r.map aP).reverse)=_;rw[<-sT];rfl
theorem mC:gRev (bS s) Q=Q (bS s.reverse):=by show Q (.tup (s.map D.int).reverse)=_;rw[<-sT];rfl
theorem mD:gRev (aZ s) Q=Q (aZ s.reverse):=by show Q (.lst (s.map D.int).reverse)=_;rw[<-sT];rfl
theorem mE{α:Type}:fH (α:=α) [.tup xs] QL=QL xs:=rfl
theorem mF{α:Type}:fH (α:=α) [.lst xs] QL=QL xs:=rfl
theorem mG{α:Type}:fH (α:=α) [bS s] QL=QL (s.map .int):=rfl
theorem mH:iY [.tup xs] Q=Q (.tup xs):=rfl
theorem Zb:iY [.lst xs] Q=Q (.tup xs):=rfl
theorem mI:iY [aZ s] Q=Q (bS s):=rfl
theorem mJ:gAdd (.int i) (.int j) Q=Q (.int<|i+j):=rfl
theorem mK:gAdd (.lst xs) (.lst ys) Q=(xs.length+ys.length<=aL/\Q (.lst<|xs++ys)):=rfl
theorem mL:gAdd (.tup xs) (.tup ys) Q=(xs.length+ys.length<=aL/\Q (.tup<|xs++ys)):=rfl
theorem mM:gMul (.int i) (.int j) Q=(qv i j/\Q (.int<|i*j)):=rfl
theorem mO:gMul (.lst xs) (.int j) Q=(j<1000/\-1000<j/\xs.length*j.toNat<=aL/\Q (.lst (List.replicate j.toNat xs).flatten)):=rfl
theorem f6{C:Int->Int->Prop}{kd:Int->Int->D}:gI2 C kd (.int i) (.int j) Q=(C i j/\Q (kd i j)):=rfl
theorem Zh:i4 [.int i] Q=Q (.int (if i<0 then -i else i)):=rfl
theorem mP:jW [.int i,.int j] Q=Q (.int (if j>i then j else i)):=rfl
theorem mQ:gL [.bl b] Q=Q (.int (if b then 1 else 0)):=rfl
theorem mR:gL [.int i] Q=Q (.int i):=rfl
theorem mS:i5 [.lst xs] Q = ∃bs:List Bool,xs=bs.map D.bl/\Q (.bl<|bs.all id):=rfl
theorem gw:i1 QL [.int j]=(-10000<=j/\j<10000/\QL (rng 0 j.toNat)):=rfl
theorem gx:i2 QL [.int i,.int j]=((-10000<=i/\i<10000/\-10000<=j/\j<10000)/\QL (rng i (j-i).toNat)):=rfl
end
local macro_rules | `(tactic| walk_at "w1")=>`(tactic| simp only [aJ,cH,aQ,cI,ig,bT,cc,bD,jC,eI,ee,cU,ge,eJ,kH,bG,i7,fi,wM,Zda,fo,fG,jo,eS,dI,bH,wT,kC,w1,w2,wB,wF,wL,aO,bX,Zbg,aB,aU,aC,aA,aLC,ZbV,cT,iS,iL,iT,fq,iA,iZ,d8,dO,wN,wC,gN,dQ,cJ,dP,dR,kE,eW,dB,fJ,df,cM,eV,fK,aCut,eQ,pub,cP,gB,dM,jG,gU,dJ,List.replicate,fk,fO,List.set_cons_zero,List.set_cons_succ,Nat.reduceSub,Nat.reduceAdd,hX,kf,true_and,dW,if_true,if_false,ite_true,ite_false,iq,fg,lF,
 lM,lN,lO,lP,lQ,lR,lS,lT,Ze,lU,lV,lW,lX,lY,lZ,l3,l4,l5,l6,l7,l8,md,me,mf,mh,mi,mj,ml,mn,mo,mq,mr,ms,mx,mz,mB,mC,mD,mE,mF,mG,mH,Zb,mI,mJ,mK,mL,mM,mO,f6,Zh,mP,mQ,mR,mS,gw,gx])
local macro_rules | `(tactic| walk_at "nx")=>`(tactic| ((try dsimp only);(refine bO ?_);walk_at "st"))
theorem JO:Rd Zc JL ZgF:=DW
theorem vo:∀n∈LX,nR n=n:=by decide +kernel
theorem pV{n m:Str}(h:n∈LX)(hm:m∈MX)(q:Q (.bl<|n==m)):gIsX LX MX [.exc n,.cls m] Q:=⟨h,hm,by rw[vo n h];exact q⟩
theorem JP:∀ds E Q,yt ds E Q->Bf No { nx:=λ_=>Q .non,rt:=Q } (eQ Zds ds):=by
 rintro _ E Q ⟨n,rfl,hn,q⟩;unfold Bf;walk_at "nx";refine pV hn (by simp)<|pV hn (by simp) (pV hn (by simp)<|pV hn (by simp) ⟨by decide,?_⟩);walk_at "nx";refine pV hn (by simp)<|pV hn (by simp) (pV hn (by simp) ⟨by decide,?_⟩);walk_at "st";refine⟨by decide,?_⟩;walk_at "nx";refine pV hn (by simp)<|pV hn (by simp) ⟨by decide,?_⟩;walk_at "st";refine⟨by decide,?_⟩;have fj:(MX.map (n == ·)).countP (· == true)=1/\∃j:Nat,(MX.map (n == ·))[j]? = some true/\(∀i<j,(MX.map (n == ·))[i]?≠some true)/\[D.str "slants",.str "row",.str "number",.str "line",.str "even",.str "full",.str "strong",.str "text",.str "great"][j]? = some (.str<|pT n):=by
  simp only[LX,Yam,d7,or_false]at hn;rcases hn with rfl|rfl|rfl|rfl|rfl|rfl
  exact⟨by decide +kernel,0,by decide +kernel,by decide +kernel,rfl⟩;exact⟨by decide +kernel,1,by decide +kernel,by decide +kernel,rfl⟩;exact⟨by decide +kernel,2,by decide +kernel,by decide +kernel,rfl⟩;exact⟨by decide +kernel,3,by decide +kernel,by decide +kernel,rfl⟩;exact⟨by decide +kernel,4,by decide +kernel,by decide +kernel,rfl⟩;exact⟨by decide +kernel,5,by decide +kernel,by decide +kernel,rfl⟩
 obtain⟨k1,j,k2,k3,k4⟩:=fj;walk_at "nx";refine⟨hn,rfl,?_⟩;walk_at "st";refine⟨⟨_,rfl⟩,⟨MX.map (n == ·),true,rfl,rfl,?_⟩⟩;rw[k1];walk_at "st";refine⟨by decide,⟨_,rfl⟩,MX.map (n == ·),true,j,rfl,rfl,k2,k3,?_⟩;exact⟨_,bC k4,q⟩
theorem JQ(a b c d:Int):ef (.tup [.int a,.int b]) (.tup [.int c,.int d])=(a==c&&b==d):=by simp[ef,pd,fR,PyData.eqv,PyData.eqvAll]
theorem tI{P:D->Prop}(h:k<xs.length)(hp:∀x∈xs,P x):∃d,e7 xs (k:Int)=some d/\P d:=⟨xs[k],bC<|bP h,hp _<|fT h⟩
theorem yu{a b:Option Int}:(bE xs a b).length<=xs.length:=by unfold bE;rw[jg,mW];omega
theorem Eg(h:xs.length+ys.length<=aL)(q:Q (.tup<|xs++ys)):gAdd (.tup xs) (.tup ys) Q:=⟨h,q⟩
theorem f7(h:n<=5000):n<=aL:=by unfold aL;omega
theorem pW{E:Ex->Prop}(I:Nat->cS->Prop)(n:Nat)(h:∀k,k<n->∀ρ,I k ρ->∀nx:cS->Prop,(∀ρ,I (k+1) ρ->nx ρ)->g (.int k) ρ λρ1=>zb E { nx:=nx,rt:=N.rt,bk:=N.nx,ct:=nx } ρ1)(hn:∀ρ,I n ρ->N.nx ρ)(ρ:cS)(h0:I 0 ρ):Zby g zb E N (rng 0 n) ρ:=by
 refine qF (λds ρ=>∃k,k<=n/\ds=(rng 0 n).drop k/\I k ρ) ?_ ?_ _ ρ ⟨0,iI _,by rw[tU],h0⟩;rintro d ds ρ ⟨k,hk,e,i⟩ nx hnx;have hlen:(rng 0 n).length=n:=by unfold rng;simp
 have hkn:k<n:=by
  rcases gg k n with z|z
  exact z;rw[List.drop_eq_nil_of_le<|by omega]at e;cases e
 rw[sS<|by omega]at e;injection e with e1 e2
 have e3:(rng 0 n)[k]'(by omega)=.int k:=by unfold rng;simp
 rw[e1,e3];exact h k hkn ρ i nx λρ' i'=>hnx ρ' ⟨k+1,hkn,e2,i'⟩;rintro ρ ⟨k,hk,e,i⟩;have hlen:(rng 0 n).length=n:=by unfold rng;simp
 have hkn:k=n:=by
  rcases gg k n with z|z
  rw[sS<|by omega]at e;cases e;omega
 subst hkn;exact hn ρ i
theorem Ei:bootBuiltins "repr" = some (.builtin "repr"):=by decide +kernel
theorem JR:bootBuiltins "ValueError" = some (.type "ValueError"):=by decide +kernel
theorem clsX_of{D:Addr}(g:PySem.W.findIn K (.ref D) "__getattribute__" = some (some<|.builtin "BaseException.__getattribute__"))(gn:PySem.W.findIn K (.ref D) "__getattr__" = some none)(be:PySem.W.mroIn K D (.type "BaseException")=some true)(h:PySem.W.hasDictIn K D=true)(a:PySem.W.findIn K (.ref D) "__class__" = some (some<|.builtin "object.__class__"))(gt:PySem.W.specialIn K (.builtin "object.__class__") "__get__" = some (some<|.builtin "getset_descriptor.__get__"))(tk:PySem.W.takesIn K (.builtin "object.__class__")=some true)(ob:PySem.W.mroIn K D (.type "object")=some true):ie K D:=
 ⟨g,gn,be,by obtain⟨cd,hc,_⟩:=PySem.W.any_some h;rw[hc];rfl,a,gt,tk,ob⟩
section
def Ej:WE:=λ_ _ _=>False
theorem JS:PX X EX e Ej:=⟨⟨λ_ _ _=>False,λ_ _ _ _ _ _ h=>h.elim,λ_ _ _ _ _ _ _ _ _ _ h=>h.elim⟩,λ_ _ _ _ _ h=>h⟩
theorem JT{t:WA}{T:TE}(k:∀W0 H0 W σ H ρ E Q,SOk X.K W0 H0 W σ H ρ->jB X.K W0 H0 E EX->t E ρ (λds=>∀a vs W' H',Ext W H W' H'->H' a=some (.lst vs)->W'.G a=none->¬W'.Pn a->H a=none->Reps X.K W' vs ds->Q (.ref a) H')->T σ H Q)
  (m:∀E ρ P P',(∀d,P d->P' d)->t E ρ P->t E ρ P') (i:Nat):∀W0 H0 W σ H ρ E Q,SOk X.K W0 H0 W σ H ρ->jB X.K W0 H0 E EX->df i t E ρ (λds=>∀a vs W' H',Ext W H W' H'->H' a=some (.lst vs)->W'.G a=none->¬W'.Pn a->H a=none->Reps X.K W' vs ds->Q (.ref a) H')->T σ H Q:=by
 intro W0 H0 W σ H ρ E Q s eo h;unfold df at h;rcases s.lend i with ep|⟨a,us,s',e3,e2,e6⟩
 .rw[ep]at h
  exact k W0 H0 W σ H ρ E Q s eo<|m _ _ _ _ (λd hd=>hd.2) h
 .refine k W0 H0 _ σ H _ E Q s' eo (m _ _ _ _ (λd hd b vs W2 H2 x2 h1 h2 h3 h4 r2=>?_) h)
  have hb:b≠a:=λz=>by rw[z,e2]at h4;cases h4
  exact hd.2 b vs _ H2 (x2.bor e3) h1 (by rw[Wd.rem_ne hb];exact h2) h3 h4<|r2.rem (x2.g _ _ e6) hd.1
theorem Bh(i j:Nat)(vars:List Str)(sel:List Nat)(hc:X.calm=true)(hN:X.N.Nodup)(hi:lJ X EX target iter wi)(hg:∀s H fp,pO (X.lc sc vars sel s H fp) target g)(hf:∀s H fp,tu (X.lc sc vars sel s H fp) E0 ifs wf)(he:∀s H fp,PX (X.lc sc vars sel s H fp) E0 elt we)
  (hix:X.N[i]? = some x:=by rfl) (hx:oD X.env.scope x:=by first|exact Or.inl rfl|exact Or.inr rfl)
  (hsw:swapsWith (.ListComp elt [⟨target,iter,ifs,0⟩] sc pos) (some<|.Name x pos') spos.line X.env=pure true:=by rfl)
  (ok:lH sc X.env.scope=true:=by rfl) (so:rP X.N sc sel=true:=by rfl) (hs:∀x,foldedSetIterable iter X.env x=pure x:=by intro _;rfl) (hfn:X.fn x=true\/X.env.scope.names.lookup x=some .local:=by first|exact .inl rfl|exact .inr rfl|assumption) :
  PZ X EX (.Assign [.Name x pos'] (.ListComp elt [⟨target,iter,ifs,0⟩] sc pos) spos) (cc i<|df j<|aLC wi vars.length sel g wf we):=by
 obtain⟨ti,tg,tf,te,pi,pg,pf,pe,k⟩:=AH hi hg hf he;have am:=aLC.mono (vars:=vars) (sel:=sel) hi (hg {} (λ_=>none) []).mono (hf {} (λ_=>none) []).mono (he {} (λ_=>none) []).mono;refine⟨⟨_,C2 vars sel hc hN hix hx pi ok so pg pf pe hsw hs hfn,λW0 H0 F W σ H ρ E Dn N s fl eo no h=>?_⟩,λE ρ N N' hl q=>am _ _ _ _ (λ_ hq=>⟨hq.1,hl.nx _ hq.2⟩) q⟩;refine JT k am j W0 H0 W σ H ρ E _ s eo<|am _ _ _ _ (λxs hd=>⟨hd.1,λa vs W1 H1 x1 e1 e2 e3 e4 r1=>no.nx W1 _ H1 _ (s.own x1 e4 e1 e2 e3 r1) (fl.ext x1) hd.2⟩) h
def Ek:D->Bool
 |.non=>true|.bl _=>true|_=>false
def Bi:D->D->Bool
 |.non,.non=>true|.bl a,.bl b=>a==b|_,_=>false
def gIsC(neg:Bool):G2:=λx y Q=>Ek y=true/\Q (.bl (if neg then !Bi x y else Bi x y))
theorem gIsC.mono{neg:Bool}:∀x y P P',(∀d,P d->P' d)->gIsC neg x y P->gIsC neg x y P':=λ_ _ _ _ hp h=>⟨h.1,hp _ h.2⟩
theorem JU{W:Wd}{x y:V}{v u:Value}{dx dy:D}(r1:Rep K W x dx)(r2:Rep K W y dy)(rx:RelV x v)(ry:RelV y u)(h:Ek dy=true):plainIs v u=true/\(v==u)=Bi dx dy:=by
 cases r2<;>first
  |(cases h;done)
  | (cases ry;cases r1<;>first
      |(cases rx;first|exact⟨rfl,rfl⟩|(rename_i a b;cases a<;>cases b<;>exact⟨rfl,rfl⟩))
      |(obtain⟨t,rfl⟩:=rx;exact⟨rfl,rfl⟩))
theorem JV:gC X (compareOp .IsNot) (gIsC true):=by refine⟨⟨λx y H Q=>∃W dx dy,WOk W H/\Rep X.K W x dx/\Rep X.K W y dy/\gIsC true dx dy (RQ X.K W H Q),?_,λW H x y dx dy Q ok rx ry hg=>⟨W,dx,dy,ok,rx,ry,hg⟩⟩,gIsC.mono⟩;rintro pins s σ H x y v u Q I rx ry ⟨W,dx,dy,ok,r1,r2,h1,h2⟩;obtain⟨p,e⟩:=JU r1 r2 rx ry h1;exact wpAny_isNot_plain p<|cF I (h2.now ok<|.bl _) (by rw[e];rfl)
end
mutual
def hJ:D->Option PyData
 |.non=>some .none|.bl b=>some<|.bool b
 |.int i=>some<|.int i
 |.str x=>some<|.str x
 |.tup xs=>(fM xs).map .tuple|.lst xs=>(fM xs).map .list|.dic=>some<|.dict []
 |_=>none
def fM:List D->Option (List PyData)
 |[]=>some []
 |x::r=>match hJ x,fM r with
  |some a,some b=>some (a::b)|_,_=>none
end
mutual
def El:D->Bool
 |.lst _=>false|.tup xs=>vp xs|_=>true
def vp:List D->Bool
 |[]=>true|x::r=>El x&&vp r
end
mutual
def Em:D->Bool
 |.dic=>false|.tup xs=>su xs|.lst xs=>su xs|_=>true
def su:List D->Bool
 |[]=>true|x::r=>Em x&&su r
end
def Bj(x:D):Str:=((hJ x).getD .none).shown
def dl(x:D):Bool:=El x||Em x
namespace B
def yv:bR:=fnS (λn:Str=>[.exc n]) (λn=>n∈LX) λn=>.tup [.str<|pT n]
def tJ:bR:=vb
def tK:bR:=tB
def vq:bR:=tD
def yw:bR:=D5
def yx:bR:=fnS (λx:SL=>[bS x.1]) (λx=>IsSl x.1 x.2) λx=>aR x.1 x.2
def vt:bR:=D6
def Bk:Except Str D->D
 |.ok v=>v|.error e=>.tup [.str<|pT e]
section
variable{E:Ex->Prop}{x:D}{a b:Int}
theorem JW{n:Str}(h:n∈LX)(q:Q (.tup [.str<|pT n])):yv [.exc n] E Q:=⟨n,rfl,h,q⟩
theorem En(q:Q (.int<|Int.gcd a b)):tJ [.int a,.int b] E Q:=⟨(a,b),rfl,trivial,q⟩
theorem Eo(h:kd x=true)(q:Q (.bl<|cN x)):tK [x] E Q:=⟨x,rfl,h,q⟩
theorem Bl(h:kd x=true)(q:Q (.bl<|fZ a x)):vq [x,.int a] E Q:=⟨(x,a),rfl,h,q⟩
theorem JX(q:∀s n,IsSl s n->Q (bS s)):yw [.pen] E Q:=JE q
theorem JY(h:IsSl s n)(q:Q (aR s n)):yx [bS s] E Q:=⟨(s,n),rfl,h,q⟩
theorem Ep(h:n<=5)(q:∀r:List Rat,r.length=n->(∀x∈r,Sz 72 x)->Q (aG r)):vt [.pen,.int n] E Q:=JF h q
end
abbrev Zdr:List Str:=["_law_e", "_law_kind"]
def Bm:WS:=(aF (aQ 1<|wF yt<|aC (wN 0) aA)<|aF (cH (wT<|w2 (gEq false) (wN 1)<|wC<|D.str<|PySem.Str.ofString "strong") (aJ<|aO<|aC (wN 1)<|aC Ej aA) cI)<|aJ<|aO<|aC (wN 1) aA)
abbrev ZiU:List Str:=["_law_one", "_law_other"]
def Er:WS:=(aF (aQ 0<|wB i4<|aC (wN 0) aA)<|aF (aQ 1<|wB i4<|aC (wN 1) aA)<|aF (bG<|qy (wT<|w2 (gEq true) (wN 1)<|wC<|D.int<|0)<|eI 0 1<|aC (wN 1)<|aC (w2 qA (wN 0)<|wN 1) aA)<|aJ<|wN 0)
abbrev ZgI:List Str:=["_law_top", "_law_bottom", "_law_both"]
def Es:WS:=(aF (aQ 2<|wF tJ<|aC (wN 0)<|aC (wN 1) aA)<|aF (cH (wT<|w2 nZ (wN 1)<|wC<|D.int<|0) (aQ 2<|w1 jZ<|wN 2) cI)<|aJ<|aO<|aC (w2 gM (wN 0)<|wN 2)<|aC (w2 gM (wN 1)<|wN 2) aA)
abbrev Zbr:List Str:=["_law_thing"]
def yy:WS:=(aF (cH (dI (bH<|wT<|wB gIs<|aC (wN 0)<|aC (wC<|.ty "tuple") aA)<|dI (wT<|w2 (gEq true) (wB bI<|aC (wN 0) aA)<|wC<|D.int<|2)<|dI (bH<|wT<|wF Zc<|aC (w2 gIx (wN 0)<|wC<|D.int<|0) aA)<|bH<|wT<|wF Zc<|aC (w2 gIx (wN 0)<|wC<|D.int<|1) aA) (aJ<|wC<|D.bl false) cI)<|aJ<|fo (w2 jq (w2 gIx (wN 0)<|wC<|D.int<|1)<|wC<|D.int<|0)<|w2 (gEq false) (wF tJ<|aC (w2 gIx (wN 0)<|wC<|D.int<|0)<|aC (w2 gIx (wN 0)<|wC<|D.int<|1) aA)<|wC<|D.int<|1)
abbrev ZeW:List Str:=["_law_thing", "_law_size"]
def Et:WS:=(aJ<|fo (wB gIs<|aC (wN 0)<|aC (wC<|.ty "tuple") aA)<|fo (w2 (gEq false) (wB bI<|aC (wN 0) aA)<|wN 1)<|wB i5<|aC (wL<|aLC (iS<|wN 0) 1 [] (gN 0) cT<|wF tK<|aC (wN 0) aA) aA)
abbrev Zel:List Str:=["_law_pen", "_law_size", "_law_most", "_law_found", "_law_way", "_law_step"]
def Eu:WS:=(aF (aQ 1<|w2 gAdd (wC<|D.int<|1)<|wF gv<|aC (wN 0)<|aC (wC<|D.int<|5) aA)<|aF (aQ 2<|w2 gIx (wL<|aU<|aC (wC<|D.int<|1)<|aC (wC<|D.int<|2)<|aC (wC<|D.int<|3)<|aC (wC<|D.int<|9)<|aC (wC<|D.int<|50) aA)<|wF gv<|aC (wN 0)<|aC (wC<|D.int<|5) aA)<|aF (cc 3<|aLC (fq<|aC (w2 Zd (w2 gMul (wC<|D.int<|2)<|wN 1)<|wC<|D.int<|1) aA) 1 [0,2] (gN 0) cT<|w2 Zd (wF gv<|aC (wN 1)<|aC (w2 gAdd (w2 gMul (wC<|D.int<|2)<|wN 2)<|wC<|D.int<|1) aA)<|wN 2)<|aF (aQ 4<|wF gv<|aC (wN 0)<|aC (wC<|D.int<|10) aA)<|aF (aQ 5<|w2 gAdd (wC<|D.int<|1)<|wF gv<|aC (wN 0)<|aC (wC<|D.int<|3) aA)<|aF (cH (wT<|w2 (gEq false) (wN 4)<|wC<|D.int<|0) (cc 3<|df 3<|aCut (w2 gMul (bX (wN 3) d8<|dO<|wN 5)<|wC<|D.int<|9) d8<|dO<|wB bI<|aC (wN 3) aA) cI)<|aF (cH (wT<|w2 (gEq false) (wN 4)<|wC<|D.int<|1) (ge 3 (w2 Zd (wN 1)<|wC<|D.int<|1)<|w2 gIx (wL<|aU<|aC (wC<|D.int<|50)<|aC (w1 jZ<|wC<|D.int<|50)<|aC (wC<|D.int<|0) aA)<|wF gv<|aC (wN 0)<|aC (wC<|D.int<|3) aA) cI)<|aF (cH (wT<|w2 (gEq false) (wN 4)<|wC<|D.int<|2) (cc 3<|df 3<|aLC (iS<|wN 3) 1 [0] (gN 0) cT<|w2 gMul (wN 0)<|wB gL<|aC (w2 (gEq false) (wF gv<|aC (wN 1)<|aC (wC<|D.int<|3) aA)<|wC<|D.int<|0) aA) cI)<|aF (cH (wT<|w2 (gIn false) (wN 4)<|aO<|aC (wC<|D.int<|3)<|aC (wC<|D.int<|4)<|aC (wC<|D.int<|5) aA) (cc 3<|df 3<|eV (bX (wN 3) d8<|dO<|wN 1)<|w1 gRev<|bX (wN 3) d8<|dO<|w2 Zd (wN 1)<|wC<|D.int<|1) cI)<|bT 3<|aJ<|wB iY<|aC (wN 3) aA)
abbrev ZeV:List Str:=["_law_slants", "_law_size"]
def Ev:WS:=(aF (aQ 1<|w2 gM (w2 gAdd (wB bI<|aC (wN 0) aA)<|wC<|D.int<|1)<|wC<|D.int<|2)<|aJ<|wL<|aLC (fq<|aC (wN 1) aA) 1 [0,1] (gN 0) cT<|wL<|aLC (fq<|aC (wN 2) aA) 1 [0,1,2] (gN 0) cT<|w2 gIx (wN 2)<|w2 Zd (w2 gAdd (w2 Zd (wN 0)<|wN 1)<|wN 3)<|wC<|D.int<|1)
abbrev ZfZ:List Str:=["_law_pen", "_law_size", "_law_found", "_law_turn", "_law_top"]
def Ew:WS:=(aF (cc 2<|aU aA)<|aF (bG<|bD (fq<|aC (wN 1) aA) (gN 3)<|aF (aQ 4<|wF gv<|aC (wN 0)<|aC (w2 gIx (wL<|aU<|aC (wC<|D.int<|3)<|aC (wC<|D.int<|9)<|aC (wC<|D.int<|41) aA)<|wF gv<|aC (wN 0)<|aC (wC<|D.int<|3) aA) aA)<|cU 2<|wF qD<|aC (w2 gMul (wN 4)<|w2 Zd (wC<|D.int<|1)<|w2 gMul (wC<|D.int<|2)<|wF gv<|aC (wN 0)<|aC (wC<|D.int<|2) aA)<|aC (w2 gAdd (wC<|D.int<|1)<|wF gv<|aC (wN 0)<|aC (w2 gIx (wL<|aU<|aC (wC<|D.int<|1)<|aC (wC<|D.int<|3)<|aC (wC<|D.int<|9) aA)<|wF gv<|aC (wN 0)<|aC (wC<|D.int<|3) aA) aA) aA)<|bT 2<|aJ<|wB iY<|aC (wN 2) aA)
theorem JZ:∀ds E Q,yv ds E Q->Bm No { nx:=λ_=>Q .non,rt:=Q } (eQ Zdr ds):=by
 rintro _ E Q ⟨n,rfl,hn,q⟩;unfold Bm;walk_at "nx";refine JK hn ?_;have h:dg (.str<|pT n) 60=true/\ef (.str<|pT n) (.str "strong")=false:=by simp only[LX,Yam,d7,or_false]at hn;rcases hn with rfl|rfl|rfl|rfl|rfl|rfl<;>exact⟨by decide +kernel,by decide +kernel⟩
 walk_at "nx";refine g0 h.1 (by decide +kernel) ?_;rw[h.2];walk_at "st";exact⟨by decide,q⟩
theorem J0:Rd tJ Er ZiU:=by
 rintro _ E Q ⟨⟨a,b⟩,rfl,_,q⟩;unfold Er;walk_at "nx";walk_at "nx";refine bO ?_;rw[Ed,Ed];simp only[bG,qy];refine⟨λm ρ=>∃x y:Int,m=y.natAbs/\ρ=[.d<|.int x,.d<|.int y]/\0<=x/\0<=y/\Int.gcd x y=Int.gcd a b,⟨_,_,_,rfl,rfl,by omega,by omega,by simp[Int.gcd]⟩,?_⟩;rintro m _ ⟨x,y,rfl,rfl,hx,hy0,hg⟩;walk_at "st";by_cases hy:y=0;subst hy;simp only[Nx,fg,dW,if_false];rw[Int.gcd_zero_right]at hg;rw[<-hg]at q;have:x=((x.natAbs:Nat):Int):=by omega
 rw[<-this]at q;exact q;rw[if_pos<|by simpa using hy];refine⟨hy,?_⟩;walk_at "st";exact⟨_,DY x hy,_,_,rfl,rfl,hy0,zN _<|by omega,by rw[DX];exact hg⟩
theorem J1:Rd qD Es ZgI:=by
 rintro _ E Q ⟨⟨t,b⟩,rfl,⟨hb,hd⟩,q⟩;have hg:0<Int.gcd t b:=zI _ hb;have hle:Int.gcd t b<=b.natAbs:=Nat.le_of_dvd (by omega)<|Int.gcd_dvd_natAbs_right ..;obtain⟨e1,e2⟩:=Dr (t:=t) hb;unfold aP at q;dsimp only at q e1 e2;rw[<-e1,<-e2]at q;unfold Es;walk_at "nx";refine En ?_;walk_at "nx"
 by_cases h:b<0;simp only[h,decide_true,if_true]at q ⊢;walk_at "st";refine⟨⟨by omega,Bd.le (by omega) hd⟩,⟨by omega,Bd.le (by omega) hd⟩,by simp[aL],q⟩;simp only[h,decide_false,if_false,dW]at q ⊢;walk_at "st";refine⟨⟨by omega,Bd.le (by omega) hd⟩,⟨by omega,Bd.le (by omega) hd⟩,by simp[aL],q⟩
theorem J2:Rd vq Et ZeW:=by
 rintro _ E Q ⟨⟨x,n⟩,rfl,hk,q⟩;unfold Et;walk_at "st";refine j0 hk (by decide) λt ht=>?_;cases x<;>cases ht<;>try exact q
 rename_i xs;obtain⟨hl,hx⟩:=oF hk;walk_at "st";simp only[show eT "tuple" "tuple" = true from rfl,if_true];by_cases h:(xs.length:Int)=n;rw[if_pos<|by simp[h]];refine rY (f:=λd=>.bl<|cN d) (λd hd Q hq=>?_) .un [] (by simp[aL];omega) ?_;walk_at "st";exact Eo (hx d hd) hq;refine⟨xs.map cN,by simp,?_⟩;simpa[tX,Function.comp_def,fZ,h] using q;rw[if_neg<|by simpa using h];have e:((xs.length:Int)==n)=false:=by simpa using h
 simpa[fZ,e] using q
theorem rd__law_share_like:Rd tK yy Zbr:=by
 rintro _ E Q ⟨x,rfl,hk,q⟩;unfold yy;walk_at "nx";refine j0 hk (by decide) λt ht=>?_;cases x<;>cases ht<;>try exact q
 rename_i xs;obtain⟨hl,hx⟩:=oF hk;walk_at "st";simp only[show eT "tuple" "tuple" = true from rfl,fg,dW,if_false]
 by_cases h2:xs.length=2
 .match xs,h2,hx,q with
  |[a,b],_,hx,q=>
  rw[if_neg<|by simp];refine⟨a,rfl,Ef (hx a<|by simp) ?_⟩;walk_at "st";cases ha:oG a with
  |false=>rw[D1 ha]at q;exact q
  |true=>
   obtain⟨i,rfl⟩:=yo ha;simp only[fg,dW,if_false];refine⟨b,rfl,Ef (hx b<|by simp) ?_⟩;walk_at "st";cases hb:oG b with
   |false=>rw[D2 hb]at q;exact q
   |true=>
    obtain⟨j,rfl⟩:=yo hb;simp only[fg,dW,if_false];walk_at "st";refine⟨_,rfl,?_⟩;walk_at "st"
    by_cases h:0<j
    .simp only[show j>0 from h,decide_true,if_true]
     refine⟨_,rfl,_,rfl,En ?_⟩;walk_at "st";have:cN (.tup [.int i,.int j])=(((Int.gcd i j:Nat):Int)==1):=by
      simp only[cN,h,decide_true,xb];rw[jf];simp;omega
     rw[this]at q;simpa using q
    .have h':¬j>0:=h
     simp only[h',decide_false,if_false,dW];simpa[cN,h] using q
 .rw[DZ h2]at q
  rw[if_pos<|by simpa using λz=>h2<|by exact_mod_cast z];exact q
theorem J3:Rd yx Ev ZeV:=by
 rintro _ E Q ⟨⟨s,n⟩,rfl,h,q⟩;dsimp only at h q;have h5:=h.n5;have hsl:=h.len;unfold Ev;walk_at "nx";refine⟨⟨by decide,iC (n:=2) (by decide)<|by omega⟩,?_⟩;rw[zL _<|by decide,show((s.length:Int)+1)/2=n by omega];walk_at "st";refine⟨by omega,by omega,?_⟩;rw[pU];refine iB (g:=λk:Nat=>D.int (k:Int)) (f:=λi=>aZ<|(List.range n).map λj=>ent s n i j) (List.range n) (λi hi Q hq=>?_) .un [] (by simp[aL];omega) ?_;rw[Yag]at hi;walk_at "st";refine⟨by omega,by omega,?_⟩;rw[pU];refine iB (g:=λk:Nat=>D.int (k:Int)) (f:=λj=>D.int<|ent s n i j) (List.range n) (λj hj Q hq=>?_) .un [] (by simp[aL];omega) ?_;rw[Yag]at hj;walk_at "st";have e1:(s.map D.int)[n-1-i+j]? = some (.int<|ent s n i j):=by unfold ent;rw[cD,bF,bP<|by omega];rfl
 exact⟨_,D4 (k:=n-1-i+j) (by omega) e1,hq⟩;rw[dJ];unfold aZ at hq;rw[List.map_map]at hq;exact hq;rw[dJ];unfold aR at q;rw[JN h,List.map_map]at q;exact q
theorem bd_le{i:Int}(h:i.natAbs<=2^k)(l:k<8990):Bd i:=jH h<|Nat.pow_lt_pow_right (by decide) l
theorem dot_step{t b:Int}{x y:Rat}(hb:b≠0):Rat.divInt (t*(x.den:Int)*(y.den:Int)+x.num*y.num*b) (b*(x.den:Int)*(y.den:Int))=Rat.divInt t b+x*y:=by
 have hx:((x.den:Int))≠0:=by have:=x.den_nz;omega
 have hy:((y.den:Int))≠0:=by have:=y.den_nz;omega
 conv=>rhs;rw[<-qd x,<-qd y]
 rw[tZ,Rat.divInt_add_divInt _ _ hb<|lG hx hy,Int.mul_assoc,Int.mul_assoc b]
theorem Ey(h:k<3):∃g:Nat,(g=a\/g=b\/g=c)/\e7 [D.int (a:Int),D.int (b:Int),D.int (c:Int)] (k:Int)=some (.int (g:Int)):=by
 have:k=0\/k=1\/k=2:=by omega
 rcases this with rfl|rfl|rfl
 exact⟨a,.inl rfl,rfl⟩;exact⟨b,.inr<|.inl rfl,rfl⟩;exact⟨c,.inr<|.inr rfl,rfl⟩
theorem J4:Rd vt Ew ZfZ:=by
 rintro _ E Q ⟨n,rfl,hn,q⟩;unfold Ew;walk_at "nx";refine⟨by decide,?_⟩;walk_at "nx";refine⟨by omega,by omega,?_⟩;refine pW (λi ρ=>∃(r:List Rat) (a b:SV),r.length=i/\(∀x∈r,Sz 72 x)/\ρ=[.d .pen,.d<|.int n,.ow<|r.map aP,a,b]) n ?_ ?_ _ ⟨[],_,_,rfl,by simp,rfl⟩;rintro i hi _ ⟨r,a,b,hr,hsz,rfl⟩ nx hnx;walk_at "st";walk_at "nx";refine⟨by decide,g6 (n:=3) (by decide) (by decide) λk hk=>?_⟩;obtain⟨g,hg,hat⟩:=Ey (a:=3) (b:=9) (c:=41) hk;refine⟨_,hat,?_⟩;walk_at "st";refine g6 (by omega) (by omega) λt ht=>?_;walk_at "st";refine g6 (n:=2) (by decide) (by decide) λsg hsg=>?_;walk_at "st";refine⟨⟨iC (n:=2) (by decide)<|by omega,iC (n:=10) (by omega)<|by omega⟩,?_⟩;have hs:(1-2*(sg:Int)).natAbs<=1:=by omega
 have hm:((t:Int)*(1-2*(sg:Int))).natAbs<2^72:=by rw[gh];exact jH (sU (show(t:Int).natAbs<=41 by omega) hs) (by decide)
 refine⟨⟨iC (n:=10) (by omega)<|by omega,iC (n:=10) (by omega)<|by omega⟩,by decide,g6 (n:=3) (by decide) (by decide) λk3 hk3=>?_⟩;obtain⟨g3,hg3,hat3⟩:=Ey (a:=1) (b:=3) (c:=9) hk3;refine⟨_,hat3,?_⟩;walk_at "st";refine g6 (by omega) (by omega) λbo hbo=>?_;walk_at "st";refine vm (by omega) (iC (n:=10) (by omega)<|by omega) ⟨by rw[bU];unfold aL;omega,?_⟩;refine hnx _ ⟨r++[Rat.divInt ((t:Int)*(1-2*(sg:Int)))<|1+(bo:Int)],_,_,by simp[hr],λx hx=>?_,by rw[oR];rfl⟩;rcases Yan.mp hx with hx|hx
 exact hsz x hx;rw[Ycm.mp hx];exact Bc (by omega) hm<|jH (show(1+(bo:Int)).natAbs<=10 by omega) (by decide)
 rintro _ ⟨r,a,b,hr,hsz,rfl⟩;walk_at "st";exact q _ ⟨r,hr,hsz,rfl⟩
theorem Ez{α:Type}(xs:List α)(k:Nat):(bE xs none<|some (k:Int)).length+(bE xs (some<|(k:Int)+1) none).length<=xs.length:=by unfold bE;rw[show(k:Int)+1=((k+1:Nat):Int) by omega,HT.sIx_nat,HT.sIx_none,HT.sIx_nat,HT.sIx_none];simp only[jg,mW];omega
theorem mT{α:Type}{xs:List α}{a b:Option Int}{x:α}(h:x∈bE xs a b):x∈xs:=by unfold bE at h;exact zM<|m6 h
theorem EA{t:WA}{E:Ex->Prop}(ht:∀P:List D->Prop,P xs->t E ρ P)(hl:xs.length<=aL)(h:N.nx (ρ.set i<|.d<|.lst xs)):aQ i (wL<|aU t) E N ρ:=ht _ ⟨hl,h⟩
theorem EB{E:Ex->Prop}:∀P:List D->Prop,P []->aA E ρ P:=λ_ h=>h
theorem gP{t:WA}{E:Ex->Prop}(hw:∀P:D->Prop,P d->w E ρ P)(ht:∀P:List D->Prop,P xs->t E ρ P):∀P:List D->Prop,P (d::xs)->aC w t E ρ P:=λP h=>hw _<|ht _ h
theorem nm_at{E:Ex->Prop}(h:ρ[i]? = some (.d d)):∀P:D->Prop,P d->wN i E ρ P:=λP q=>by unfold wN;rw[h];exact q
theorem n9{E:Ex->Prop}:∀P:D->Prop,P d->wC d E ρ P:=λ_ h=>h
theorem Ka:Rd yw Eu Zel:=by
 rintro _ E Q ⟨_,rfl,_,q⟩;have fin:∀(s:List Int) (n:Nat),s.length+1=2*n->1<=n->n<=5->(∀x∈s,-50<=x/\x<=50)->Q (D.tup<|s.map D.int):=λs n h1 h2 h3 h4=>q _ ⟨s,n,⟨h1,h2,h3,h4⟩,rfl⟩;unfold Eu;walk_at "nx";refine g6 (n:=5) (by decide) (by decide) λk hk=>?_;walk_at "st";walk_at "nx";refine⟨by decide,g6 (n:=5) (by decide) (by decide) λsp hsp=>?_⟩;have hgr:∃g:Nat,(1<=g/\g<=50)/\e7 [D.int 1,D.int 2,D.int 3,D.int 9,D.int 50] (sp:Int)=some (.int g):=by
  have:sp=0\/sp=1\/sp=2\/sp=3\/sp=4:=by omega
  rcases this with rfl|rfl|rfl|rfl|rfl
  exact⟨1,by decide,rfl⟩;exact⟨2,by decide,rfl⟩;exact⟨3,by decide,rfl⟩;exact⟨9,by decide,rfl⟩;exact⟨50,by decide,rfl⟩
 obtain⟨g,hg,hat⟩:=hgr;refine⟨_,hat,?_⟩;walk_at "nx";refine⟨⟨iC (n:=2) (by decide)<|by omega,iC (n:=10) (by omega)<|by omega⟩,by omega,by omega,?_⟩;refine Di (R:=λ_ y=>∃i:Int,y=.int i/\-50<=i/\i<=50) (λd hd Q hq=>?_) .un [] (by simp[rng,aL];omega) λys hl hys=>?_;walk_at "st";refine⟨⟨iC (n:=2) (by decide)<|by omega,iC (n:=10) (by omega)<|by omega⟩,?_⟩;have e:(2:Int)*(g:Int)+1=((2*g+1:Nat):Int):=by omega
 rw[e];refine g6 (by omega) (by omega) λj hj=>?_;walk_at "st";exact hq _ ⟨_,rfl,by omega,by omega⟩;obtain⟨s,rfl,hs⟩:=Ee λy hy=>let⟨_,_,h⟩:=hys y hy;h;simp only[rng,bU,oS]at hl;rw[dJ];have hm:∀x∈s,-50<=x/\x<=50:=hs;have hsl:s.length+1=2*(1+k):=by omega
 have hn:(1:Int)+(k:Int)=((1+k:Nat):Int):=by omega
 generalize 1+k=n at hn hsl;have n1:1<=n:=by omega
 have n5:n<=5:=by omega
 rw[hn];clear hl hys hat hsp hk q hn;walk_at "nx";refine g6 (n:=10) (by decide) (by decide) λway hw=>?_;walk_at "nx";refine g6 (n:=3) (by decide) (by decide) λst hst=>?_;walk_at "st";have c1:∀{s:List Int},s.length+1=2*n->bE (s.map D.int) none (some (n:Int))=(s.take n).map D.int:=λ_=>by rw[kI rfl,jI]
 have c2:∀{s:List Int},s.length+1=2*n->bE (s.map D.int) none (some<|(n:Int)-1)=(s.take<|n-1).map D.int:=λ_=>by rw[kI (b:=n-1)<|by omega,jI]
 have c3:∀{s:List Int},bE (s.map D.int) none (some<|1+(st:Int))=(s.take<|1+st).map D.int:=λ{s}=>by rw[kI (b:=1+st)<|by omega,jI]
 have mt:∀{s:List Int} {j:Nat},(∀x∈s,-50<=x/\x<=50)->∀x∈s.take j,-50<=x/\x<=50:=λh x hx=>h x<|m6 hx;have fl:∀(m:Nat) (l:List Int),(List.replicate m<|l.map D.int).flatten=(List.replicate m l).flatten.map D.int:=λm l=>by rw[List.map_flatten,sV]
 refine qE (λρ=>∃s:List Int,ρ=[.d .pen,.d<|.int n,.d<|.int g,.ow<|s.map .int,.d<|.int way,.d<|.int<|1+(st:Int)]/\s.length+1=2*n/\∀x∈s,-50<=x/\x<=50) (λnx hnx=>?_) ?_;walk_at "st";split;have hlt:(s.take<|1+st).length<=9:=by rw[jg];omega
 rw[c3,fl,kI (b:=s.length)<|by rw[bU],<-jI];refine⟨by decide,by decide,?_,Be _,hnx _ ⟨_,rfl,?_,λx hx=>?_⟩⟩;rw[bU,jg];have:(9:Int).toNat=9:=rfl;rw[this];unfold aL;omega;rw[jg,List.length_flatten,sV,List.sum_replicate_nat,jg];have e9:(9:Int).toNat=9:=rfl;rw[e9];have:9*1<=9*min (1+st) s.length:=xg _ (by omega);omega;have:=m6 hx;rw[List.mem_flatten]at this;obtain⟨l,hl,hxl⟩:=this;rw[(List.mem_replicate.mp hl).2]at hxl;exact mt hm x hxl;exact hnx _ ⟨s,rfl,hsl,hm⟩;clear hs hm hsl s;rintro _ ⟨s,rfl,hsl,hm⟩;refine qE (λρ=>∃s:List Int,ρ=[.d .pen,.d<|.int n,.d<|.int g,.ow<|s.map .int,.d<|.int way,.d<|.int<|1+(st:Int)]/\s.length+1=2*n/\∀x∈s,-50<=x/\x<=50) (λnx hnx=>?_) ?_;walk_at "st";split;refine⟨by decide,g6 (n:=3) (by decide) (by decide) λk3 hk3=>?_⟩;have hv:∃i:Int,(-50<=i/\i<=50)/\e7 [D.int 50,D.int (-50),D.int 0] (k3:Int)=some (.int i):=by
  have:k3=0\/k3=1\/k3=2:=by omega
  rcases this with rfl|rfl|rfl
  exact⟨50,by decide,rfl⟩;exact⟨-50,by decide,rfl⟩;exact⟨0,by decide,rfl⟩
 obtain⟨i,hi,hat⟩:=hv;refine⟨_,hat,?_⟩;walk_at "st";refine⟨n-1,?_,hnx _ ⟨s.set (n-1) i,by rw[oU],by rw[et];exact hsl,λx hx=>?_⟩⟩;unfold ky;rw[if_pos<|by omega,if_pos (by rw[bU];omega),show((n:Int)-1).toNat=n-1 by omega];rcases zO hx with hx|rfl
 exact hm x hx;exact hi;exact hnx _ ⟨s,rfl,hsl,hm⟩;clear hm hsl s;rintro _ ⟨s,rfl,hsl,hm⟩;refine qE (λρ=>∃s:List Int,ρ=[.d .pen,.d<|.int n,.d<|.int g,.ow<|s.map .int,.d<|.int way,.d<|.int<|1+(st:Int)]/\s.length+1=2*n/\∀x∈s,-50<=x/\x<=50) (λnx hnx=>?_) ?_;walk_at "st";split;refine Di (R:=λ_ y=>∃i:Int,y=.int i/\-50<=i/\i<=50) (λd hd Q hq=>?_) .un [] (by simp[aL];omega) λys hl hys=>?_;obtain⟨i,hi,rfl⟩:=YbL.mp hd;have hi':=hm i hi;walk_at "st";refine g6 (n:=3) (by decide) (by decide) λk3 hk3=>?_;walk_at "st";refine⟨⟨iC (n:=10) (by omega)<|by omega,?_⟩,hq _ ⟨_,rfl,?_⟩⟩;split<;>exact iC (n:=2) (by decide) (by omega);split<;>omega;obtain⟨s',rfl,hs'⟩:=Ee λy hy=>let⟨_,_,h⟩:=hys y hy;h;rw[dJ];rw[bU,bU]at hl;exact⟨Be _,hnx _ ⟨s',rfl,by omega,hs'⟩⟩;exact hnx _ ⟨s,rfl,hsl,hm⟩;clear hm hsl s;rintro _ ⟨s,rfl,hsl,hm⟩;refine qE (λρ=>∃s:List Int,ρ=[.d .pen,.d<|.int n,.d<|.int g,.ow<|s.map .int,.d<|.int way,.d<|.int<|1+(st:Int)]/\s.length+1=2*n/\∀x∈s,-50<=x/\x<=50) (λnx hnx=>?_) ?_;walk_at "st";refine⟨by decide,way,[3,4,5],rfl,.inr rfl,?_⟩;walk_at "st";split;rw[c1 hsl,c2 hsl,<-sT,<-oR];refine⟨?_,Be _,hnx _ ⟨_,rfl,?_,λx hx=>?_⟩⟩;simp[aL];omega;simp only[gA,zA,jg];omega;rcases Yan.mp hx with hx|hx
 exact mt hm x hx;exact mt hm x<|Ycs.mp hx
 exact hnx _ ⟨s,rfl,hsl,hm⟩;clear hm hsl s;rintro _ ⟨s,rfl,hsl,hm⟩;walk_at "st";exact fin s n hsl n1 n5 hm
end B
section
variable{ps:Pos}{a b:Expr}
def ik:Nat->List D->List D
 |_,[]=>[]|i,x::xs=>.tup [.int i,x]::ik (i+1) xs
theorem EC:∀(i:Nat) (xs:List D),(ik i xs).length=xs.length
 |_,[]=>rfl|i,x::xs=>by rw[ik,dM,dM,EC]
theorem ED:∀(i j:Nat) (xs:List D) (d:D),(ik i xs)[j]? = some d->∃x,xs[j]? = some x/\d=.tup [.int ((i+j:Nat):Int),x]
 |_,_,[],_,h=>by simp[ik]at h|i,0,x::xs,d,h=>by rw[ik,fk]at h;exact⟨x,rfl,(Nk h).symm⟩|i,j+1,x::xs,d,h=>by rw[ik,fO]at h;obtain⟨y,e1,e2⟩:=ED (i+1) j xs d h;exact⟨y,by rw[fO];exact e1,by rw[e2,show i+1+j=i+(j+1) by omega]⟩
def iE(t:WA):WA:=λE ρ Q=>t E ρ λds=>match ds with|[x]=>isS (λxs=>Q<|ik 0 xs) x|_=>False
theorem Kb{t:WA}(hm:X.mg "enumerate" = none)(ha:i9 X EX [a] t)(hg:Gl X "enumerate" :=by rfl)(hs:starEach [a] X.env=[(false,eval a X.env)]:=by rfl) :
  lJ X EX (.Tuple es n1 ps) (.Call (.Name "enumerate" p) [a] [] pos) (iE t):=by
 obtain⟨t,q,k⟩:=ha.t;refine⟨⟨_,Ic hg hm q hs,λW0 H0 W σ H ρ E R s eo h=>?_⟩,λE ρ P P' hp h=>ha.mono _ _ _ _ (λds hd=>?_) h⟩
 .refine k W0 H0 W σ H ρ E _ s eo (ha.mono _ _ _ _ (λds hd vs W1 H1 x1 r1=>?_) h)
  split at hd
  .obtain⟨v,rfl,rv⟩:=r1.one
   obtain⟨κ,l,vs,xs,rfl,rr,hd,sq⟩:=rv.sq hd;refine⟨κ,l,rfl,⟨vs,sq W1 H1 (λ_ _ z=>z) x1.ok⟩,hd W1 H1 _ x1 λW2 H2 i g2 p2 ok2=>⟨λd hd=>?_,λhi=>?_⟩⟩
   .have s1:=sq W2 H2 g2 ok2
    obtain⟨x,ex,rfl⟩:=ED 0 i xs d hd;obtain⟨vx,evx,rvx⟩:=rr.get ex;refine⟨⟨vs,vx,s1,evx⟩,λz H3 hy=>?_⟩;obtain⟨q,x',rfl,hq,rfl,e1⟩:=hy;have e1:=e1 _ s1;rw[evx]at e1;cases e1;have xt:=Ext.put (o:=.tup [.int i,vx]) ok2 hq;rw[Nat.zero_add];exact⟨_,xt,.tup (by unfold Wd.put;dsimp only;rw[aT])<|.cons (.int _)<|.cons (xt.rep<|rvx.mono g2 p2) .nil⟩
   .refine⟨vs,sq W2 H2 g2 ok2,?_⟩
    rw[rr.length];rw[EC]at hi;omega
  .exact hd.elim
 .split at hd
  .exact isS.mono (λxs h1=>hp _ h1) _ hd
  .exact hd.elim
end
theorem Kc:bootBuiltins "min" = some (.builtin "min"):=by decide +kernel
section
variable{p1 ps sp1 sp2:Pos}{a b:Expr}
def is2(Q:D->D->Prop):D->Prop
 |.tup [x,y]=>Q x y|_=>False
theorem is2.mono{Q Q':D->D->Prop}(h:∀x y,Q x y->Q' x y):∀d,is2 Q d->is2 Q' d:=λd z=>by unfold is2 at z ⊢;split at z;exact h _ _ z;exact z.elim
theorem Kd{Q:D->D->Prop}(h:is2 Q d):∃x y,d=.tup [x,y]/\Q x y:=by unfold is2 at h;split at h;exact⟨_,_,rfl,h⟩;exact h.elim
def pX(i:Nat)(wv w1 w2:WE):WS:=λE N ρ=>match ρ[i]? with
 |some (.ow xs)=>wv E ρ<|is2 λx y=>w1 E ρ (isI λk1=>∃j1,ky xs.length k1=some j1/\w2 E (ρ.set i<|.ow<|xs.set j1 x) (isI λk2=>∃j2,ky xs.length k2=some j2/\N.nx (ρ.set i<|.ow<|(xs.set j1 x).set j2 y)))
 |_=>False
theorem EE(i:Nat){w1 w2:WE}{fL ix2:Expr}{kt:Nat}{pt:Pos}(he:PX X EX e wv)(h1:PX X EX fL w1)(h2:PX X EX ix2 w2)(hc:X.calm=true:=by rfl)(hN:X.N[i]? = some x:=by rfl)(hv:oY X.env.scope x:=by first|exact Or.inl rfl|exact Or.inr (Or.inl rfl)|exact Or.inr<|Or.inr rfl)(hd:(x==("__debug__" : Str))=false:=by decide)
  (hcd:(x==("__classdict__" : Str))=false:=by decide)
  (ha1:∀ v,assign (.Subscript (.Name x p1) fL sp1) X.env v=(do
   let ov <-holding [v] (eval (.Name x p1) X.env)
   let iv <-holding [v,ov] (eval fL X.env)
   standAt sp1
   holding [v,ov,iv] (setItem ov iv v)
   release [v,ov,iv] []):=by intro _;rfl)
  (ha2:∀ v,assign (.Subscript (.Name x p2) ix2 sp2) X.env v=(do
   let ov <-holding [v] (eval (.Name x p2) X.env)
   let iv <-holding [v,ov] (eval ix2 X.env)
   standAt sp2
   holding [v,ov,iv] (setItem ov iv v)
   release [v,ov,iv] []):=by intro _;rfl)
  (hs1:(assignEach [.Subscript (.Name x p1) fL sp1,.Subscript (.Name x p2) ix2 sp2] X.env).map (·.2)=assign (.Subscript (.Name x p1) fL sp1) X.env::(assignEach [.Subscript (.Name x p2) ix2 sp2] X.env).map (·.2):=by rfl)
  (hs2:(assignEach [.Subscript (.Name x p2) ix2 sp2] X.env).map (·.2)=assign (.Subscript (.Name x p2) ix2 sp2) X.env::(assignEach [] X.env).map (·.2):=by rfl)
  (hn:(assignEach [.Subscript (.Name x p1) fL sp1,.Subscript (.Name x p2) ix2 sp2] X.env).length=2:=by rfl) (hst:(assignEach [.Subscript (.Name x p1) fL sp1,.Subscript (.Name x p2) ix2 sp2] X.env).findIdx? (·.1)=none:=by rfl)
  (hs:swapsWithSole [.Tuple [.Subscript (.Name x p1) fL sp1,.Subscript (.Name x p2) ix2 sp2] kt pt] e pos.line X.env=pure false:=by rfl) (hw:swappedStores [.Tuple [.Subscript (.Name x p1) fL sp1,.Subscript (.Name x p2) ix2 sp2] kt pt] e X.env=pure none:=by rfl)
  (h3:(assignEach [.Tuple [.Subscript (.Name x p1) fL sp1,.Subscript (.Name x p2) ix2 sp2] kt pt] X.env).map (·.2)=[assign (.Tuple [.Subscript (.Name x p1) fL sp1,.Subscript (.Name x p2) ix2 sp2] kt pt) X.env]:=by rfl) :
  PZ X EX (.Assign [.Tuple [.Subscript (.Name x p1) fL sp1,.Subscript (.Name x p2) ix2 sp2] kt pt] e pos) (pX i wv w1 w2):=by
 obtain⟨t,pe,k⟩:=he.t;obtain⟨t1,pi1,k1⟩:=h1.t;obtain⟨t2,pi2,k2⟩:=h2.t;refine⟨⟨_,iO pe (nb hc (gD (iN (fh hN hv hd hcd) pi1 fB ha1) (gD (iN (fh hN hv hd hcd) pi2 fB ha2) kn hs2) hs1) hn hst) hs hw h3,λW0 H0 F W σ H ρ E Dn N s fl eo no h=>?_⟩,λE ρ N N' hl q=>?_⟩
 .unfold pX at h
  split at h
  .rename_i xs ex
   obtain⟨a,vs,e1,e2,e3,e4,e5,r⟩:=s.o i xs ex;have hi:i<ρ.length:=(Yap.mp ex).1;refine k W0 H0 W σ H ρ E _ s eo<|he.mono _ _ _ _ (λd hd v W1 H1 x1 r1=>?_) h;obtain⟨dx,dy,rfl,hd⟩:=Kd hd;obtain⟨q,us,rfl,sq,ru⟩:=r1.sqt x1.ok;obtain⟨vx,vy,rfl,rx,ry⟩:=ru.two;refine⟨q,[vx,vy],rfl,sq,rfl,vx,[vy],rfl,⟨_,e1,?_⟩⟩;refine k1 W0 H0 W1 σ H1 ρ E _ (s.step x1) eo<|h1.mono _ _ _ _ (λdi hdi vi W2 H2 x2 r2=>?_) hd;obtain⟨kk,rfl,j,hj,hn2⟩:=qu hdi;cases r2;have xx:=x1.trans x2;have e2':=xx.h a _ e2 e4;refine⟨a,vs,kk,j,rfl,rfl,e2',by rw[r.length];exact hj,?_⟩;have s2:=(s.step xx).chg ex e1<|Reps.set (x2.rep rx) j (xx.reps r);refine⟨vy,[],rfl,⟨_,e1,?_⟩⟩;have ex2:(ρ.set i<|.ow<|xs.set j dx)[i]? = some (.ow<|xs.set j dx):=fe hi;obtain⟨a',vs',f1,f2,f3,f4,f5,fr⟩:=s2.o i _ ex2;refine k2 W0 H0 W2 σ _ _ E _ s2 eo<|h2.mono _ _ _ _ (λdk hdk vk W3 H3 x3 r3=>?_) hn2;obtain⟨k',rfl,j',hj',hn3⟩:=qu hdk;cases r3;have ea:a'=a:=by rw[e1]at f1;cases f1;rfl
   subst ea;have e2'':=x3.h _ _ f2 f4;refine⟨_,vs',k',j',rfl,rfl,e2'',by rw[fr.length,et];exact hj',rfl,?_⟩;have s3:=(s2.step x3).chg ex2 e1<|Reps.set (x3.rep<|x2.rep ry) j' (x3.reps fr);rw[List.set_set]at s3;exact no.nx W3 σ _ _ s3 ((fl.ext xx).ext x3 |> λz=>z) hn3
  .exact h.elim
 .unfold pX at q ⊢
  split at q
  .exact he.mono _ _ _ _ (is2.mono λx y hxy=>h1.mono _ _ _ _ (isI.mono λk1 ⟨j1,a1,b1⟩=>⟨j1,a1,h2.mono _ _ _ _ (isI.mono λk2 ⟨j2,a2,b2⟩=>⟨j2,a2,hl.nx _ b2⟩) b1⟩) hxy) q
  .exact q.elim
end
def EF(f l:List Rat)(i j k:Nat):Rat:=f.getD (i-k) 0*l.getD (f.length-1-j+k) 0
def Ke(f l:List Rat)(i j k:Nat):Rat:=l.getD (i-k-1) 0*f.getD (f.length-j+k) 0
def sp(f l:List Rat)(i j:Nat):Nat->Rat
 |0=>0|k+1=>if k<min i j then sp f l i j k+EF f l i j k-Ke f l i j k else sp f l i j k+EF f l i j k
abbrev Zni:List Str:=["one", "other"]
def EG:WS:=(aJ<|wF se<|aC (w2 Zd (w2 gMul (w2 gIx (wN 0)<|wC<|D.int<|0)<|w2 gIx (wN 1)<|wC<|D.int<|1)<|w2 gMul (w2 gIx (wN 1)<|wC<|D.int<|0)<|w2 gIx (wN 0)<|wC<|D.int<|1)<|aC (w2 gMul (w2 gIx (wN 0)<|wC<|D.int<|1)<|w2 gIx (wN 1)<|wC<|D.int<|1) aA)
abbrev N_by:List Str:=["one", "other"]
def vv:WS:=(aJ<|wF se<|aC (w2 gMul (w2 gIx (wN 0)<|wC<|D.int<|0)<|w2 gIx (wN 1)<|wC<|D.int<|1)<|aC (w2 gMul (w2 gIx (wN 0)<|wC<|D.int<|1)<|w2 gIx (wN 1)<|wC<|D.int<|0) aA)
namespace B
theorem set_by{E:Ex->Prop}(e:ρ.set i (.d d)=ρ')(hw:∀P:D->Prop,P d->w E ρ P)(h:N.nx ρ'):aQ i w E N ρ:=hw _ (by rw[e];exact h)
end B
theorem Kf:Rd xX EG Zni:=by
 rintro _ E Q ⟨⟨p,q⟩,rfl,hb,h⟩;obtain⟨b1,b2,b3,b4,b5,b6,b7,b8⟩:=hb.mul;unfold EG;simp only[aJ,wF,aC,w2,wN,wC,eQ,cP,gU,fk,fO];refine oK<|fL ⟨b1,oK<|fL ⟨b2,?_⟩⟩;dsimp only;simp only[f6,true_and];refine fL<|fL ⟨b3,?_⟩;refine⟨(_,_),rfl,⟨b6,b5⟩,?_⟩;dsimp only at h ⊢;have e:Rat.divInt (p.num*q.den-q.num*p.den) ((p.den:Int)*q.den)=p-q:=by rw[Rat.sub_def',<-zJ];rfl
 rw[e];exact h
theorem vw:Rd pS vv N_by:=by
 rintro _ E Q ⟨⟨p,q⟩,rfl,⟨hb,h0⟩,h⟩;dsimp only at hb h0 h;obtain⟨b1,b2,b3,b4,b5,b6,b7,b8⟩:=hb.mul;unfold vv;simp only[aJ,wF,aC,w2,wN,wC,eQ,cP,gU,fk,fO];refine oK<|fL ⟨b1,fL<|oK ⟨b7,?_⟩⟩;have hq:q.num≠0:=λz=>h0<|Yct.mp z;refine⟨(_,_),rfl,⟨lG (by exact_mod_cast p.den_nz) hq,b8⟩,?_⟩;dsimp only at h ⊢;have e:Rat.divInt (p.num*q.den) ((p.den:Int)*q.num)=p/q:=by
  rw[kP,Rat.inv_def];have:p*Rat.divInt (q.den:Int) q.num=Rat.divInt p.num p.den*Rat.divInt (q.den:Int) q.num:=by rw[qd]
  rw[this,tZ]
 rw[e];exact h
theorem yz(p q:Rat):ef (aP p) (aP q)=decide (p=q):=by unfold aP;rw[JQ,jf];simp only[c9,NN,Nh];constructor;rintro⟨h1,h2⟩;exact Rat.ext h1 (by exact_mod_cast h2);rintro rfl;exact⟨rfl,rfl⟩
theorem Bn:aP 0=.tup [.int 0,.int 1]:=rfl
namespace B.C
def ga(r:List Int)(k:Nat):Int:=r.getD k 0
def gr(t:List (List Int))(k:Nat):List Int:=t.getD k []
def eX(row here:List Int)(a:Nat)(last:Int):List Int:=(List.range row.length).map λj=>(ga row j*ga here a-ga row a*ga here j).fdiv last
def gQ(t:List (List Int))(a:Nat):List Nat:=((List.range<|t.length-a).map (a + ·)).filter λk=>ga (gr t k) a != 0
def bL(t:List (List Int))(a g:Nat):List (List Int):=(t.set a<|gr t g).set g<|gr t a
def cQ(t:List (List Int))(a k:Nat)(last:Int):List (List Int):=(List.range t.length).map λi=>if a<i/\i<k then eX (gr t i) (gr t a) a last else gr t i
structure St3 where
 t:List (List Int)
 s:Int
 l:Int
def gy(a:Nat)(x:St3):Option St3:=match gQ x.t a with
 |[]=>none
 |g::_=>let t1:=bL x.t a g
  let t2:=cQ t1 a t1.length x.l
  some ⟨t2,x.s*(1-2*(if g=a then 0 else 1)),ga (gr t2 a) a⟩
def cY(t:List (List Int)):Nat->Option St3
 |0=>some ⟨t,1,1⟩|a+1=>(cY t a).bind<|gy a
def eM(t:List (List Int)):Int:=match cY t t.length with|none=>0|some x=>x.s*x.l
def j3(c:Nat):Nat->Nat
 |0=>c|a+1=>2*j3 c a+1
abbrev bt:Nat->Nat:=j3 6
structure Sm(b n:Nat)(t:List (List Int)):Prop where
 len:t.length=n
 row:∀r∈t,r.length=n
 sm:∀r∈t,∀x∈r,x.natAbs<2^b
structure Bo(c n a:Nat)(x:St3):Prop where
 t:Sm (j3 c a) n x.t
 s:x.s=1\/x.s = -1
 l0:x.l≠0
 l:x.l.natAbs<2^j3 c a
theorem Kg{a b:Int}(h:b≠0):(a.fdiv b).natAbs<=a.natAbs:=zP a b
theorem Sm.gr{b n k:Nat}{t:List (List Int)}(h:Sm b n t)(hk:k<n):t[k]? = some (gr t k)/\(C.gr t k).length=n/\∀x∈C.gr t k,x.natAbs<2^b:=by
 have e:=h.len;have:t[k]? = some (C.gr t k):=by unfold C.gr;rw[bF,bP<|by omega];rfl
 have hm:=ip this;exact⟨this,h.row _ hm,h.sm _ hm⟩
theorem sx{r:List Int}(h:∀x∈r,x.natAbs<2^b):(ga r k).natAbs<2^b:=by
 unfold ga;rw[bF];cases e:r[k]? with
 |none=>exact Nat.two_pow_pos b|some v=>exact h _<|ip e
theorem Kh{r:List Int}(h:r.length=n)(hk:k<n):r[k]? = some (ga r k):=by unfold ga;rw[bF,bP<|by omega];rfl
theorem Ki{w x y z:Int}(h1:w.natAbs<2^b)(h2:x.natAbs<2^b)(h3:y.natAbs<2^b)(h4:z.natAbs<2^b):(w*x-y*z).natAbs<2^(2*b+1):=by
 have m1:(w*x).natAbs<2^b*2^b:=by rw[gh];exact sW h1 h2
 have m2:(y*z).natAbs<2^b*2^b:=by rw[gh];exact sW h3 h4
 have:=Int.natAbs_sub_le (w*x)<|y*z;rw[mZ,show 2*b=b+b by omega,qN];omega
theorem EH{row here:List Int}{last:Int}(h1:row.length=n)(h2:∀x∈row,x.natAbs<2^b)(h3:∀x∈here,x.natAbs<2^b)(hl:last≠0):(eX row here a last).length=n/\∀x∈eX row here a last,x.natAbs<2^(2*b+1):=by refine⟨by unfold eX;rw[bU,oS];exact h1,λx hx=>?_⟩;obtain⟨j,_,rfl⟩:=YbL.mp hx;exact jH (Kg hl)<|Ki (sx h2) (sx h3) (sx h2) (sx h3)
theorem tL{r:List Int}(h:i<t.length):gr (t.set i r) k=if k=i then r else gr t k:=by unfold gr;rw[bF,xh,bF];by_cases e:i=k;subst e;rw[if_pos rfl,if_pos rfl,if_pos h];rfl;rw[if_neg e,if_neg<|Nr e]
theorem vz{g:Nat}(h:Sm b n t)(ha:a<n)(hg:g<n):Sm b n (bL t a g):=by
 have e:=h.len;have m:∀r∈bL t a g,r∈t:=λr hr=>by
  unfold bL at hr;rcases zO hr with hr|rfl
  rcases zO hr with hr|rfl
  exact hr;exact ip (h.gr hg).1;exact ip (h.gr ha).1
 exact⟨by unfold bL;rw[et,et];exact e,λr hr=>h.row r<|m r hr,λr hr=>h.sm r<|m r hr⟩
theorem yA{g:Nat}(h:Sm b n t)(ha:a<n)(hg:g<n):gr (bL t a g) a=gr t g:=by have e:=h.len;unfold bL;rw[tL (by rw[et];omega)];by_cases z:a=g;subst z;rw[if_pos rfl];rw[if_neg z,tL<|by omega,if_pos rfl]
theorem Bp{g:Nat}(h:Sm b n t)(hg:g∈gQ t a):a<=g/\g<n/\ga (gr t g) a≠0:=by have e:=h.len;unfold gQ at hg;obtain⟨h1,h2⟩:=Yaf.mp hg;obtain⟨k,hk,rfl⟩:=YbL.mp h1;rw[Yag]at hk;exact⟨by omega,by omega,by simpa using h2⟩
theorem tM{l:Int}(hi:i<t.length):gr (cQ t a k l) i=if a<i/\i<k then eX (gr t i) (gr t a) a l else gr t i:=by show(cQ t a k l).getD i []=_;unfold cQ;rw[bF,cD,hZ hi];rfl
theorem yB{l:Int}(h:Sm b n t)(ha:a<n)(hl:l≠0):Sm (2*b+1) n (cQ t a k l):=by
 have e:=h.len;have fj:∀r∈cQ t a k l,r.length=n/\∀x∈r,x.natAbs<2^(2*b+1):=λr hr=>by
  unfold cQ at hr;obtain⟨i,hi,rfl⟩:=YbL.mp hr;have hi':i<n:=by rw[<-e];simpa using hi
  split;exact EH (h.gr hi').2.1 (h.gr hi').2.2 (h.gr ha).2.2 hl;exact⟨(h.gr hi').2.1,λx hx=>dm ((h.gr hi').2.2 x hx)<|jF (by decide)<|by omega⟩
 exact⟨by unfold cQ;rw[bU,oS];exact e,λr hr=>(fj r hr).1,λr hr=>(fj r hr).2⟩
theorem Kj{x y:St3}(h:Bo c n a x)(ha:a<n)(e:gy a x=some y):Bo c n (a+1) y:=by
 unfold gy at e;split at e;cases e;rename_i g gs eg;cases e;obtain⟨g1,g2,g3⟩:=Bp h.t (g:=g) (by rw[eg];simp);have w:=vz h.t ha g2;have r:=yB (k:=(bL x.t a g).length) w ha h.l0;have el:ga (gr (cQ (bL x.t a g) a (bL x.t a g).length x.l) a) a=ga (gr x.t g) a:=by rw[tM (by rw[w.len];exact ha),if_neg<|by omega,yA h.t ha g2]
 refine⟨r,?_,?_,?_⟩;show x.s*_=1\/x.s*_ = -1;rcases h.s with e|e<;>rw[e]<;>split<;>decide
 show ga _ _≠0;rw[el];exact g3;exact sx (r.gr ha).2.2
theorem Bq{c n:Nat}{t:List (List Int)}(h:Sm c n t)(hc:1<=c):∀{a:Nat},a<=n->∀{x:St3},cY t a=some x->Bo c n a x
 |0,_,x,e=>by cases e;exact⟨h,.inl rfl,show(1:Int)≠0 by decide,w4 (by show c≠0;omega)⟩
 |a+1,ha,x,e=>by
  rw[cY]at e;cases e1:cY t a with
  |none=>rw[e1]at e;cases e
  |some y=>rw[e1]at e;exact Kj (Bq h hc (by omega) e1) (by omega) e
theorem Zl{t:List (List Int)}{a:Nat}(h:cY t a=none):∀k:Nat,cY t (a+k)=none
 |0=>h|k+1=>by rw[<-Nat.add_assoc,cY,Zl h k];rfl
def fN(t:List (List Int)):D:=.lst<|t.map aZ
def yC:bR:=fnS (λx:(List Int×List Int)×Nat×Int=>[aZ x.1.1,aZ x.1.2,.int x.2.1,.int x.2.2]) (λx=>x.1.1.length<=5/\x.1.2.length=x.1.1.length/\x.2.1<x.1.1.length/\(∀y∈x.1.1,y.natAbs<2^8989)/\(∀y∈x.1.2,y.natAbs<2^8989)/\x.2.2≠0/\x.2.2.natAbs<2^8989) λx=>aZ<|eX x.1.1 x.1.2 x.2.1 x.2.2
def vA:bR:=fnS (λt:List (List Int)=>[fN t]) (λt=>Sm 10 t.length t/\t.length<=5) λt=>.int<|eM t
abbrev ZgG:List Str:=["_law_row", "_law_here", "_law_at", "_law_last", "_law_found", "_law_j", "_law_number"]
def Bt:WS:=(aF (cc 4<|aU aA)<|aF (bG<|bD (fq<|aC (wB bI<|aC (wN 0) aA) aA) (gN 5)<|aF (aQ 6<|w2 Zd (w2 gMul (w2 gIx (wN 0)<|wN 5)<|w2 gIx (wN 1)<|wN 2)<|w2 gMul (w2 gIx (wN 0)<|wN 2)<|w2 gIx (wN 1)<|wN 5)<|cU 4<|w2 gM (wN 6)<|wN 3)<|bT 4<|aJ<|wN 4)
abbrev Zem:List Str:=["_law_table", "_law_rows", "_law_sign", "_law_last", "_law_at", "_law_good", "_law_k"]
def Bu:WS:=(aF (cc 1<|aLC (iS<|wN 0) 1 [] (gN 0) cT<|wL<|aB (fH (α:=Unit))<|aC (wN 0) aA)<|aF (aQ 2<|wC<|D.int<|1)<|aF (aQ 3<|wC<|D.int<|1)<|bT 5<|aF (bG<|bD (fq<|aC (dB 1<|wB bI<|aC (wN 1) aA) aA) (gN 4)<|aF (cc 5<|df 1<|aLC (iA<|aC (wN 4)<|aC (wB bI<|aC (wN 1) aA) aA) 1 [1,4] (gN 0) (wT<|w2 (gEq true) (w2 gIx (w2 gIx (wN 1)<|wN 0)<|wN 2)<|wC<|D.int<|0)<|wN 0)<|bT 5<|aF (cH (wT<|w2 (gEq false) (wN 5)<|wL<|aU aA) (aJ<|wC<|D.int<|0) cI)<|bT 5<|aF (pX 1 (aO<|aC (cM 1<|w2 gIx (wN 5)<|wC<|D.int<|0)<|aC (cM 1<|wN 4) aA) (wN 4)<|w2 gIx (wN 5)<|wC<|D.int<|0)<|bT 5<|aF (aQ 2<|w2 gMul (wN 2)<|w2 Zd (wC<|D.int<|1)<|w2 gMul (wC<|D.int<|2)<|wB gL<|aC (w2 (gEq true) (w2 gIx (wN 5)<|wC<|D.int<|0)<|wN 4) aA)<|aF (bG<|bD (iA<|aC (w2 gAdd (wN 4)<|wC<|D.int<|1)<|aC (dB 1<|wB bI<|aC (wN 1) aA) aA) (gN 6)<|ge 1 (wN 6)<|wF yC<|aC (cM 1<|wN 6)<|aC (cM 1<|wN 4)<|aC (wN 4)<|aC (wN 3) aA)<|aQ 3<|dB 1<|w2 gIx (w2 gIx (wN 1)<|wN 4)<|wN 4)<|aJ<|w2 gMul (wN 2)<|wN 3)
theorem oM{x:Int}(h:x.natAbs<2^b)(hb:b<=8990):Bd x:=dm h<|jF (by decide) hb
theorem sB{r:List Int}{a:Int}(hk:k<r.length)(ea:a=k)(q:Q (.int<|ga r k)):gIx (aZ r) (.int a) Q:=by subst ea;exact⟨_,bC (by rw[cD,Kh rfl hk];rfl),q⟩
theorem Kk:Rd yC Bt ZgG:=by
 rintro _ E Q ⟨⟨⟨row,here⟩,a,last⟩,rfl,⟨h5,hh,ha,s1,s2,l0,s3⟩,q⟩;dsimp only at h5 hh ha s1 s2 l0 s3 q;have b1:∀k,Bd (ga row k):=λk=>oM (sx s1) (by decide);have b2:∀k,Bd (ga here k):=λk=>oM (sx s2) (by decide);show Bt E _ [.d<|aZ row,.d<|aZ here,.d<|.int a,.d<|.int last,.un,.un,.un];unfold Bt;walk_at "nx";refine⟨by decide,?_⟩;refine bO ?_;simp only[bG,bD];walk_at "st";refine⟨by omega,by omega,?_⟩;refine pW (λn ρ=>∃s5 s6,ρ=[.d<|aZ row,.d<|aZ here,.d<|.int a,.d<|.int last,.ow<|(List.range n).map λj=>D.int<|(ga row j*ga here a-ga row a*ga here j).fdiv last,s5,s6]) row.length ?_ ?_ _ ⟨_,_,rfl⟩;rintro j hj _ ⟨s5,s6,rfl⟩ nx hnx;show aF _ _ _ _ [.d<|aZ row,.d<|aZ here,.d<|.int a,.d<|.int last,.ow<|(List.range j).map λj=>D.int<|(ga row j*ga here a-ga row a*ga here j).fdiv last,.d<|.int j,s6];rw[List.range_succ,oR]at hnx;have hvl:((List.range j).map<|λj=>D.int<|(ga row j*ga here a-ga row a*ga here j).fdiv last).length=j:=by rw[bU,oS]
 generalize (List.range j).map (λj=>D.int<|(ga row j*ga here a-ga row a*ga here j).fdiv last)=vs at hnx hvl;have hlen:vs.length=j:=hvl;refine bO<|B.set_by (d:=.int<|ga row j*ga here a-ga row a*ga here j) (ρ':=[.d<|aZ row,.d<|aZ here,.d<|.int a,.d<|.int last,.ow vs,.d<|.int j,.d<|.int<|ga row j*ga here a-ga row a*ga here j]) (by rfl) (λP hP=>?_) ?_
 simp only[w2,wN,fk,fO];refine sB hj rfl<|sB (by omega) rfl ⟨⟨b1 _,b2 _⟩,sB ha rfl<|sB (by omega) rfl ⟨⟨b1 _,b2 _⟩,?_⟩⟩;exact⟨trivial,hP⟩
 dsimp only;walk_at "st";exact⟨⟨l0,oM s3<|by decide⟩,by rw[hlen];unfold aL;omega,hnx _ ⟨_,_,rfl⟩⟩;rintro _ ⟨s5,s6,rfl⟩;walk_at "st";unfold eX aZ at q;rw[List.map_map]at q;exact q
end B.C
theorem EI{E:Ex->Prop}(lo:Int)(I:Nat->cS->Prop)(n:Nat)(h:∀k,k<n->∀ρ,I k ρ->∀nx:cS->Prop,(∀ρ,I (k+1) ρ->nx ρ)->g (.int<|lo+k) ρ λρ1=>zb E { nx:=nx,rt:=N.rt,bk:=N.nx,ct:=nx } ρ1)(hn:∀ρ,I n ρ->N.nx ρ)(ρ:cS)(h0:I 0 ρ):Zby g zb E N (rng lo n) ρ:=by
 refine qF (λds ρ=>∃k,k<=n/\ds=(rng lo n).drop k/\I k ρ) ?_ ?_ _ ρ ⟨0,iI _,by rw[tU],h0⟩;rintro d ds ρ ⟨k,hk,e,i⟩ nx hnx;have hlen:(rng lo n).length=n:=by unfold rng;simp
 rcases gg k n with hkn|hkn
 rw[sS<|by omega]at e;injection e with e1 e2
 have e3:d=.int (lo+k):=by rw[e1];unfold rng;simp
 rw[e3];exact h k hkn ρ i nx λρ' i'=>hnx ρ' ⟨k+1,by omega,e2,i'⟩;rw[List.drop_eq_nil_of_le<|by omega]at e;cases e;rintro ρ ⟨k,hk,e,i⟩;have hlen:(rng lo n).length=n:=by unfold rng;simp
 have:k=n:=by have:=congrArg List.length e;rw[mW,hlen]at this;simp at this;omega
 subst this;exact hn ρ i
theorem vB{α:Type}{wf:WT}{tail:cS}{Q:List D->Prop}{g:α->D}{p:α->Bool}:∀(L:List α),(∀a∈L,∀P:Bool->Prop,P (p a)->wf No (.d (g a)::tail) P)->∀(sv:SV) (acc:List D),acc.length+L.length<=aL->Q (acc++(L.filter p).map g)->lcW (gN 0) wf (wN 0) (L.map g) (sv::tail) acc Q
 |[],_,sv,acc,_,hq=>by simpa[lcW] using hq
 |a::L,h,sv,acc,hl,hq=>by
  rw[cP,lcW];show wf No (SV.d (g a)::tail) _;rw[dM]at hl;refine h a (by simp) _ ?_;cases e:p a with
  |true=>rw[if_pos rfl];refine⟨by omega,vB L (λb hb=>h b<|by simp[hb]) _ _ (by rw[gA,mY];omega) ?_⟩;rw[List.filter_cons_of_pos e,cP]at hq;rw[mX];exact hq|false=>rw[if_neg<|by decide];refine vB L (λb hb=>h b<|by simp[hb]) _ _ (by omega) ?_;rw[List.filter_cons_of_neg (by rw[e];decide)]at hq;exact hq
namespace B.C
theorem Kl{l:Int}(hk:k<=a+1):cQ t a k l=t:=by
 unfold cQ;refine sR λi=>?_;rw[cD];rcases gg i t.length with z|z
 rw[hZ z];simp only[jE];rw[if_neg<|by omega];unfold gr;rw[bF,bP z];rfl;rw[ff<|by simpa using z,ff z];rfl
theorem Km{l:Int}(ha:a<k)(hk:k<t.length):cQ t a (k+1) l=(cQ t a k l).set k (eX (gr (cQ t a k l) k) (gr (cQ t a k l) a) a l):=by
 have e1:gr (cQ t a k l) k=gr t k:=by rw[tM hk,if_neg<|by omega]
 have e2:gr (cQ t a k l) a=gr t a:=by rw[tM<|by omega,if_neg<|by omega]
 rw[e1,e2];refine sR λi=>?_;rw[xh];unfold cQ;rw[cD,cD,bU,oS];rcases gg i t.length with z|z
 rw[hZ z];simp only[jE];by_cases c:k=i;subst c;rw[if_pos rfl,if_pos z,if_pos ⟨ha,by omega⟩];rw[if_neg c];by_cases d:a<i/\i<k;rw[if_pos ⟨d.1,by omega⟩,if_pos d];rw[if_neg<|by omega,if_neg d];rw[ff<|by simpa using z];rw[if_neg<|by omega];rfl
theorem yD(h:a<=b):j3 c a<=j3 c b:=by
 induction h with
 |refl=>exact cB _|step _ ih=>rw[j3];omega
theorem own_by{t:WA}{E:Ex->Prop}(e:ρ.set i (.ow xs)=ρ')(ht:∀P:List D->Prop,P xs->t E ρ P)(h:N.nx ρ'):cc i t E N ρ:=ht _ (by rw[e];exact h)
theorem pub_by{E:Ex->Prop}(e:pub i ρ=ρ')(h:z E N ρ'):bT i z E N ρ:=by unfold bT;rw[e];exact h
theorem ixN_nat(h:k<n):ky n (k:Int)=some k:=by unfold ky;rw[if_pos<|by omega,if_pos<|by omega,iq]
theorem oa{a:Int}(hk:k<t.length)(ea:a=k):e7 (t.map aZ) a=some (aZ<|gr t k):=by subst ea;refine bC ?_;rw[cD];unfold gr;rw[bF,bP hk];rfl
theorem EJ(L:List Nat):lm (L.map λ(k:Nat)=>D.int (k:Int))=true:=by
 induction L with
 |nil=>rfl|cons a L ih=>rw[cP,lm,ih];rfl
theorem EK{w1 w2:WE}{E:Ex->Prop}{x:D}{k1 k2:Nat}(e:ρ[i]? = some (.ow xs))(hv:∀P:D->Prop,P (.tup [x,y])->wv E ρ P)(h1:∀P:D->Prop,P (.int k1)->w1 E ρ P)(h2:∀P:D->Prop,P (.int k2)->w2 E (ρ.set i<|.ow<|xs.set k1 x) P)
  (l1:k1<xs.length) (l2:k2<xs.length) (h:N.nx (ρ.set i<|.ow<|(xs.set k1 x).set k2 y)):pX i wv w1 w2 E N ρ:=by
 unfold pX;rw[e];exact hv _<|h1 _ ⟨k1,ixN_nat l1,h2 _ ⟨k2,ixN_nat l2,h⟩⟩
theorem Kn:Rd vA Bu Zem:=by
 rintro _ E Q ⟨t,rfl,⟨h,h5⟩,q⟩;dsimp only at h h5 q;generalize hn:t.length=n at h h5;unfold eM at q;rw[hn]at q;show Bu E _ [.d<|fN t,.un,.un,.un,.un,.un,.un];unfold Bu;refine bO ?_;unfold fN;walk_at "st";refine iB (g:=aZ) (f:=aZ) t (λr hr Q hq=>?_) .un [] (by simp[aL];omega) ?_
 .unfold aZ
  walk_at "st";exact hq
 rw[dJ];walk_at "nx";walk_at "nx";refine bO ?_;simp only[bG,bD];walk_at "st";refine⟨rfl,by omega,by rw[bU];omega,?_⟩;rw[bU,hn];refine pW (λa ρ=>∃x s4 s5 s6,cY t a=some x/\ρ=[.d<|.lst<|t.map aZ,.ow<|x.t.map aZ,.d<|.int x.s,.d<|.int x.l,s4,s5,s6]) n ?_ ?_ _ ⟨⟨t,1,1⟩,_,_,_,rfl,rfl⟩
 rotate_left
 .rintro _ ⟨x,s4,s5,s6,ex,rfl⟩
  rw[ex]at q;have o:=Bq h (by decide) (cB _) ex;walk_at "st";refine⟨⟨?_,oM o.l<|gT (yD (c:=10) h5)<|by decide⟩,q⟩;rcases o.s with z|z<;>rw[z]<;>exact oM (b:=1) (by decide) (by decide)
 rintro a ha _ ⟨x,s4,s5,s6,ex,rfl⟩ nx hnx;have o:=Bq h (by decide) (by omega) ex;have xl:=o.t.len;show aF _ _ _ _ [.d<|.lst<|t.map aZ,.ow<|x.t.map aZ,.d<|.int x.s,.d<|.int x.l,.d<|.int a,s5,s6];have hl:(x.t.map aZ).length=n:=by rw[bU];exact xl
 refine bO<|own_by (xs:=(gQ x.t a).map λ(k:Nat)=>D.int (k:Int)) (ρ':=[.d<|.lst<|t.map aZ,.ow<|x.t.map aZ,.d<|.int x.s,.d<|.int x.l,.d<|.int a,.ow<|(gQ x.t a).map λ(k:Nat)=>D.int (k:Int),s6]) (by rfl) (λP hP=>?_) ?_
 .walk_at "st"
  rw[bU,xl];refine⟨by omega,?_⟩;have el:rng (a:Int) ((n:Int)-(a:Int)).toNat=((List.range<|n-a).map (a + ·)).map λ(k:Nat)=>D.int (k:Int):=by
   unfold rng;rw[List.map_map,show((n:Int)-(a:Int)).toNat=n-a by omega];exact iJ λk _=>by simp
  rw[el];refine vB (p:=λk=>ga (gr x.t k) a != 0) _ (λk hk P hP=>?_) .un [] (by simp[aL];omega) ?_
  .obtain⟨k',hk',rfl⟩:=YbL.mp hk
   rw[Yag]at hk';walk_at "st";refine⟨_,oa (by omega) rfl,?_⟩;refine sB (k:=a) (by rw[(o.t.gr (k:=a+k')<|by omega).2.1];exact ha) rfl ?_;walk_at "st";exact hP
  .rw[dJ]
   refine⟨EJ _,?_⟩;unfold gQ at hP;rw[xl]at hP;exact hP
 have bb:j3 10 a<=175:=by
  have:a<=4:=by omega
  exact gT (yD this) (by decide)
 dsimp only;refine pub_by (ρ':=[.d<|.lst<|t.map aZ,.ow<|x.t.map aZ,.d<|.int x.s,.d<|.int x.l,.d<|.int a,.d<|.lst<|(gQ x.t a).map λ(k:Nat)=>D.int (k:Int),s6]) rfl ?_;have er:cY t (a+1)=gy a x:=by rw[cY,ex];rfl
 cases eg:gQ x.t a with
 |nil=>
  have:cY t n=none:=by
   have z:cY t (a+1)=none:=by rw[er];unfold gy;rw[eg]
   have:=Zl z<|n-(a+1);rw[show a+1+(n-(a+1))=n by omega]at this;exact this
  rw[this]at q;refine bO<|g9 (b:=true) (λP hP=>?_) (λ_=>q) λe=>nomatch e;walk_at "st";exact⟨by decide,Dk (by decide +kernel) hP⟩
 |cons g gs=>
 obtain⟨g1,g2,g3⟩:=Bp o.t (g:=g) (by rw[eg];simp);generalize hG:(List.map (λ(k:Nat)=>D.int (k:Int)) (g::gs))=G;have hGa:e7 G 0=some (.int g):=by rw[<-hG];exact bC (j:=0) rfl
 refine bO<|g9 (b:=false) (λP hP=>?_) (λe=>nomatch e) λ_=>?_
 .walk_at "st"
  refine⟨by decide,?_⟩;rw[<-hG];refine g0 (AQ _ (n:=1) (by decide)<|rZ λd hd=>?_) (by decide +kernel) ?_
  .obtain⟨k,_,rfl⟩:=YbL.mp hd
   exact Dl _ _
  .have:ef (.lst<|List.map (λ(k:Nat)=>D.int (k:Int)) (g::gs)) (.lst [])=false:=by
    unfold ef;rw[cP,pd,pd,PyData.eqv,fR,fR,PyData.eqvAll]
   rw[this];exact hP
 dsimp only;refine pub_by (ρ':=[.d<|.lst<|t.map aZ,.ow<|x.t.map aZ,.d<|.int x.s,.d<|.int x.l,.d<|.int a,.d<|.lst G,s6]) rfl ?_;refine bO ?_;have hsw:((x.t.map aZ).set a<|aZ<|gr x.t g).set g (aZ<|gr x.t a)=(bL x.t a g).map aZ:=by unfold bL;rw[oU,oU]
 have w:=vz o.t ha g2;have wl:=w.len;have pre:pX 1 (aO<|aC (cM 1<|w2 gIx (wN 5)<|wC<|D.int<|0)<|aC (cM 1<|wN 4) aA) (wN 4) (w2 gIx (wN 5)<|wC<|D.int<|0)=pX 1 (aO<|aC (cM 1<|w2 gIx (wN 5)<|wC<|D.int<|0)<|aC (cM 1<|wN 4) aA) (wN 4) (w2 gIx (wN 5)<|wC<|D.int<|0):=rfl;clear pre;generalize ht1:bL x.t a g=t1 at hsw w wl;refine EK (xs:=x.t.map aZ) (x:=aZ<|gr x.t g) (y:=aZ<|gr x.t a) (k1:=a) (k2:=g) rfl (λP hP=>?_) (λP hP=>hP) (λP hP=>⟨_,hGa,hP⟩) (by rw[hl];exact ha) (by rw[hl];exact g2) ?_
 .refine⟨_,hGa,_,oa (by omega) rfl,_,oa (by omega) rfl,show 2<=aL by decide,hP⟩
 rw[hsw];dsimp only;refine pub_by (ρ':=[.d<|.lst<|t.map aZ,.ow<|t1.map aZ,.d<|.int x.s,.d<|.int x.l,.d<|.int a,.d<|.lst G,s6]) rfl ?_;generalize hs':x.s*(1-2*(if g=a then(0:Int) else 1))=s';refine bO<|B.set_by (d:=.int s') (ρ':=[.d<|.lst<|t.map aZ,.ow<|t1.map aZ,.d<|.int s',.d<|.int x.l,.d<|.int a,.d<|.lst G,s6]) (by rfl) (λP hP=>?_) ?_
 .walk_at "st"
  refine⟨_,hGa,?_⟩;walk_at "st";have e1:(if(!((g:Int)==(a:Int)))=true then(1:Int) else 0)=if g=a then 0 else 1:=by
   by_cases z:g=a
   .subst z;simp
   .rw[if_neg z]
    have:((g:Int)==(a:Int))=false:=by rw[beq_eq_false_iff_ne];omega
    rw[this];rfl
  rw[e1,hs'];refine⟨⟨?_,?_⟩,⟨?_,?_⟩,hP⟩
  all_goals first|exact oM (b:=3) (by decide) (by decide)|(split<;>exact oM (b:=3) (by decide)<|by decide)|(rcases o.s with z|z<;>rw[z]<;>exact oM (b:=3) (by decide)<|by decide)
 dsimp only;refine bO ?_;simp only[bG,bD];walk_at "st";rw[bU,wl];refine⟨rfl,by omega,?_⟩;have e0:t1.map aZ=(cQ t1 a (a+1+0) x.l).map aZ:=by rw[Kl<|by omega]
 rw[e0];refine EI ((a:Int)+1) (λk ρ=>∃s6,ρ=[.d<|.lst<|t.map aZ,.ow<|(cQ t1 a (a+1+k) x.l).map aZ,.d<|.int s',.d<|.int x.l,.d<|.int a,.d<|.lst G,s6]) _ ?_ ?_ _ ⟨_,rfl⟩
 .rintro k hk _ ⟨s6,rfl⟩ nx2 hnx2
  have hk':a+1+k<n:=by omega
  have r:=yB (k:=a+1+k) w ha o.l0;have rl:=r.len;have nxt:=Km (t:=t1) (a:=a) (k:=a+1+k) (l:=x.l) (by omega) (by omega);rw[show a+1+(k+1)=a+1+k+1 by omega,nxt]at hnx2;generalize cQ t1 a (a+1+k) x.l=R at r rl hnx2;have b3:2*j3 10 a+1<=223:=by
   have:j3 10 a<=j3 10 3:=yD (by omega);exact gT (Nat.succ_le_succ<|xg 2 this) (by decide)
  simp only[gN,List.set_cons_succ,List.set_cons_zero];show ge _ _ _ _ _ [.d<|.lst<|t.map aZ,.ow<|R.map aZ,.d<|.int s',.d<|.int x.l,.d<|.int a,.d<|.lst G,.d<|.int<|(a:Int)+1+k];refine⟨_,oa (t:=R) (k:=a+1+k) (by omega)<|by omega,_,oa (t:=R) (k:=a) (by omega) rfl,?_⟩;have up:∀{y:Int},y.natAbs<2^(2*j3 10 a+1)->y.natAbs<2^8989:=λh=>dm h<|jF (by decide) (by omega);refine⟨((gr R<|a+1+k,gr R a),a,x.l),rfl,⟨?_,?_,?_,λy hy=>up<|(r.gr hk').2.2 y hy,λy hy=>up<|(r.gr ha).2.2 y hy,o.l0,dm o.l<|jF (by decide)<|by omega⟩,?_⟩
  .show(gr R<|a+1+k).length<=5
   rw[(r.gr hk').2.1];exact h5
  .show(gr R a).length=(gr R<|a+1+k).length
   rw[(r.gr hk').2.1,(r.gr ha).2.1]
  .show a<(gr R<|a+1+k).length
   rw[(r.gr hk').2.1];exact ha
  .refine⟨a+1+k,?_,?_⟩
   .rw[bU,rl,show(a:Int)+1+(k:Int)=((a+1+k:Nat):Int) by omega]
    exact ixN_nat hk'
   .rw[oU]at hnx2
    exact hnx2 _ ⟨_,rfl⟩
 .rintro _ ⟨s6,rfl⟩
  rw[show a+1+((n:Int)-((a:Int)+1)).toNat=n by omega];have r:=yB (k:=n) w ha o.l0;have rl:=r.len;have er2:cY t (a+1)=some ⟨cQ t1 a n x.l,s',ga (gr (cQ t1 a n x.l) a) a⟩:=by
   rw[er];unfold gy;rw[eg];show some (St3.mk (cQ (bL x.t a g) a (bL x.t a g).length x.l) _ _)=_;rw[ht1,wl,hs']
  generalize cQ t1 a n x.l=R at r rl er2;dsimp only;refine B.set_by (d:=.int<|ga (gr R a) a) (ρ':=[.d<|.lst<|t.map aZ,.ow<|R.map aZ,.d<|.int s',.d<|.int<|ga (gr R a) a,.d<|.int a,.d<|.lst G,s6]) (by rfl) (λP hP=>?_)<|hnx _ ⟨_,_,_,_,er2,rfl⟩;walk_at "st";refine⟨_,oa (t:=R) (k:=a) (by omega) rfl,sB (k:=a) (by rw[(r.gr ha).2.1];exact ha) rfl ⟨rfl,hP⟩⟩
def Dz:Nat->List Rat->List Rat->Prop
 |_,[],_=>True|_,_::_,[]=>True|N,x::p,y::q=>∃n m,Sz n x/\Sz m y/\n+m+1<=N/\Dz (N-(n+m+1)) p q
def oh:bR:=fnS (λx:(Bool×Bool)×List Rat×List Rat=>[gO x.1.1<|x.2.1.map aP,gO x.1.2<|x.2.2.map aP]) (λx=>Dz 8989 x.2.1 x.2.2) λx=>aP<|cK x.2.1 x.2.2
section
variable{E:Ex->Prop}{f l:List Rat}{a x y:Rat}
theorem Ko(h1:Sz k a)(h2:Sz n x)(h3:Sz m y)(hb:k+n+m+3<=8989)(q:Q (aP<|a+x*y)):oh [.lst [aP a,aP x],.lst [.tup [.int 1,.int 1],aP y]] E Q:=by
 have e:cK [a,x] [1,y]=a+x*y:=by simp only[cK,Rat.mul_one,lE]
 refine⟨((false,false),[a,x],[1,y]),rfl,⟨k,1,h1,Sz.int (n:=1) 1 (by decide)<|by decide,by omega,n,m,h2,h3,by omega,trivial⟩,?_⟩;dsimp only;rw[e];exact q
end
abbrev ZiV:List Str:=["_law_one", "_law_other", "_law_top", "_law_bottom", "_law_left", "_law_right"]
def EL:WS:=(aF (aQ 2<|wC<|D.int<|0)<|aF (aQ 3<|wC<|D.int<|1)<|aF (bG<|bD (iZ<|aC (wN 0)<|aC (wN 1) aA) (dQ 2<|cJ (gN 4)<|cJ (gN 5) dP)<|aF (aQ 2<|w2 gAdd (w2 gMul (w2 gMul (wN 2)<|w2 gIx (wN 4)<|wC<|D.int<|1)<|w2 gIx (wN 5)<|wC<|D.int<|1)<|w2 gMul (w2 gMul (w2 gIx (wN 4)<|wC<|D.int<|0)<|w2 gIx (wN 5)<|wC<|D.int<|0)<|wN 3)<|aQ 3<|w2 gMul (w2 gMul (wN 3)<|w2 gIx (wN 4)<|wC<|D.int<|1)<|w2 gIx (wN 5)<|wC<|D.int<|1)<|aJ<|wF qD<|aC (wN 2)<|aC (wN 3) aA)
theorem vm{a b:Int}{E:Ex->Prop}(h:b≠0)(h':Bd b)(q:Q (aP<|Rat.divInt a b)):qD [.int a,.int b] E Q:=⟨(a,b),rfl,⟨h,h'⟩,q⟩
theorem Kp(y:Rat):aP (-y)=.tup [.int<|0-y.num,.int y.den]:=by unfold aP;rw[Rat.neg_num,Rat.neg_den,Int.zero_sub]
def sgn(i j:Nat):Int:=1-2*(((i:Int)+j)%2)
end B.C
section
variable{s:Shared}{W:Wd}
mutual
theorem EM(I:Inv X pins σ H s)(ok:WOk W H):∀{v:V} {d:D} {u:Value} {p:PyData},Rep X.K W v d->RelV v u->hJ d=some p->∃as,Reads s.heap u p as/\sysModules∉as
 |_,_,u,p,.non,r,e=>by cases e;cases r;exact⟨_,.none,by simp⟩
 |_,_,u,p,.bl b,r,e=>by cases e;cases r;exact⟨_,.bool b,by simp⟩
 |_,_,u,p,.int i,r,e=>by cases e;obtain⟨t,rfl⟩:=r;exact⟨_,.int i t,by simp⟩
 |_,_,u,p,.str x,r,e=>by cases e;obtain⟨t,rfl⟩:=r;exact⟨_,.str x t,by simp⟩
 |.ref a,.tup ds,u,p,.tup e0 rs,r,e=>by
  cases r;cases q:fM ds with
  |none=>rw[hJ,q]at e;cases e
  |some ps=>rw[hJ,q]at e;cases e;obtain⟨its,rv,⟨o,h1,h2,n,h3⟩,_⟩:=I.tuple (xs:=_)<|SqT.of (ok.g _ _ e0);obtain⟨as,ra,hs⟩:=yE I ok rs rv q;exact⟨_,.tuple h1 h2 h3<|by simpa using ra,hs⟩
 |.ref a,.tup ds,u,p,.ktup e0 rs,r,e=>by
  cases r;cases q:fM ds with
  |none=>rw[hJ,q]at e;cases e
  |some ps=>rw[hJ,q]at e;cases e;obtain⟨its,rv,⟨o,h1,h2,n,h3⟩,_⟩:=I.tuple (xs:=_)<|.inr e0;obtain⟨as,ra,hs⟩:=yE I ok rs rv q;exact⟨_,.tuple h1 h2 h3<|by simpa using ra,hs⟩
 |.ref a,.lst ds,u,p,.lst e0 rs,r,e=>by
  cases r;cases q:fM ds with
  |none=>rw[hJ,q]at e;cases e
  |some ps=>
   rw[hJ,q]at e;cases e;obtain⟨its,rv,⟨o,n,h1,h2,h3,h4⟩,_⟩:=I.list (xs:=_)<|SqL.of (ok.g _ _ e0);obtain⟨as,ra,hs⟩:=yE I ok rs rv q;refine⟨_,.list h1 h2 h4<|by simpa using ra,?_⟩;have hne:a≠sysModules:=λz=>by have e1:=ok.g _ _ e0;rw[z]at e1;exact I.sysn _ e1
   intro z;rcases Yam.mp z with z|z
   exact hne z.symm;exact hs z
 |.ref a,.dic,u,p,.dic e0,r,e=>by
  cases r;cases e;have ho:=I.hok _ _<|ok.g _ _ e0;obtain⟨_,hn,vs,kv,o,es,n,h1,h2,h3,_,h4,_⟩:=ho;cases kv;have e:es.toList=[]:=by generalize es.toList=l at h4;cases h4;rfl
  refine⟨_,.dict h1 h2.1 h3 (as:=[]) (bs:=[]) ?_ ?_,?_⟩;rw[e];exact .nil;rw[e];exact .nil;have:=beq_eq_false_iff_ne.mp hn;simpa using λz=>this z.symm
 |_,_,u,p,.pen _,r,e=>by rw[hJ]at e<;>first|cases e|(intros;rename_i z;cases z)
 |_,_,u,p,.cls _,r,e=>by rw[hJ]at e<;>first|cases e|(intros;rename_i z;cases z)
 |_,_,u,p,.exc _ _ _,r,e=>by rw[hJ]at e<;>first|cases e|(intros;rename_i z;cases z)
 |_,_,u,p,.ty _,r,e=>by rw[hJ]at e<;>first|cases e|(intros;rename_i z;cases z)
 |_,_,u,p,.scr _ _,r,e=>by rw[hJ]at e<;>first|cases e|(intros;rename_i z;cases z)
theorem yE(I:Inv X pins σ H s)(ok:WOk W H):∀{vs:List V} {ds:List D} {us:List Value} {ps:List PyData},Reps X.K W vs ds->Vals vs us->fM ds=some ps->∃as,ReadsAll s.heap us ps as/\sysModules∉as
 |_,_,us,ps,.nil,r,e=>by rw[fM]at e;cases e;cases r;exact⟨_,.nil,by simp⟩
 |_,d::ds,us,ps,.cons rd rs,r,e=>by
  rw[fM]at e;cases q1:hJ d with
  |none=>rw[q1]at e;cases e
  |some a=>
   cases q2:fM ds with
   |none=>rw[q1,q2]at e;cases e
   |some b=>
    rw[q1,q2]at e;cases e;cases r with
    |cons r1 r2=>
     obtain⟨as,ha,h1⟩:=EM I ok rd r1 q1;obtain⟨bs,hb,h2⟩:=yE I ok rs r2 q2;exact⟨_,.cons ha hb,λz=>(Yan.mp z).elim h1 h2⟩
end
end
section
def Zjx:List D->(D->Prop)->Prop:=λds Q=>∃x p,ds=[x]/\hJ x=some p/\p.showable=true/\p.depth<=32/\p.shown.length<=sizeLine/\Q (.str p.shown)
theorem Zjx.mono:∀ds P P',(∀d,P d->P' d)->Zjx ds P->Zjx ds P':=λds P P' hp ⟨x,p,h1,h2,h3,h5,h6,h7⟩=>⟨x,p,h1,h2,h3,h5,h6,hp _ h7⟩
theorem EN(hg:X.A.guards=some [])(hu:X.A.units+64<cLine):d6 X (.builtin "repr") Zjx:=by
 refine⟨⟨λvs H Q=>∃W ds,WOk W H/\Reps X.K W vs ds/\Zjx ds (RQ X.K W H Q),?_,λW H vs ds Q ok r hg=>⟨W,ds,ok,r,hg⟩⟩,Zjx.mono⟩;rintro pins s σ H vs us Q I rv ⟨W,ds,ok,rs,x,p,rfl,h1,h2,h4,h5,q⟩;obtain⟨v,rfl,r⟩:=rs.one;obtain⟨u,rfl,ru⟩:=eC rv;obtain⟨as,ra,hs⟩:=EM I ok r ru h1;have fin:∀{s':Shared} {tk:Tok},Inv X pins σ H s'->EP X pins σ Q (.str p.shown tk) s':=λI'=>⟨.str _,H,I',⟨_,rfl⟩,q.now ok<|.str _⟩;cases u with
 |ref a=>exact repr_of_reads' ra h2 (λ_=>hs) hg (by omega) (λ_ _ e=>e) (λh' u tk hk=>fin<|I.kept hk) h5|none=>cases ra;exact PySem.P.repr_of_none<|fin (I.tok _)
 |bool b=>cases ra;exact PySem.P.repr_of_bool<|fin (I.tok _)
 |int i t=>cases ra;exact PySem.P.repr_of_int (by simpa[PyData.showable] using h2)<|fin (I.tok _)
 |str y t=>cases ra;exact PySem.P.repr_of_str (fin<|I.tok _) h5
 |_=>cases ra
end
def pY(x:D):Bool:=decide ((sI x).reverse=sI x)
def Kq(x:D):Except Str D:=jr x<|.ok (.bl<|pY x)
def Bv(s:List Int)(n:Nat)(y z:D):Except Str D:=if fZ n y=true/\fZ n z=true then .ok (aP<|cK (rQ y)<|eK s n<|rQ z) else .error "NoRow"
def Bx(x y z:D):Except Str D:=jr x (if pY x=true then Bv (sI x) (sN x) y z else .error "NotEven")
def By:bR:=xS (λx:D=>[x]) (λx=>kd x=true) Kq
def vC:bR:=xS (λx:D=>[x]) (λx=>kd x=true) λx=>jr x (if pY x=true then .ok .non else .error "NotEven")
def yF:bR:=xS (λx:D×D×D=>[x.1,x.2.1,x.2.2]) (λx=>kd x.1=true/\kd x.2.1=true/\kd x.2.2=true/\dL 170 x.2.1=true/\dL 170 x.2.2=true) λx=>Bx x.1 x.2.1 x.2.2
abbrev Zkn:List Str:=["slants"]
def EO:WS:=(aJ<|w2 (gEq false) (wF yc<|aC (wN 0) aA)<|wN 0)
abbrev Zh9:List Str:=["slants"]
def EQ:WS:=(cH (bH<|wT<|wF By<|aC (wN 0) aA) (i7<|PySem.Str.ofString "NotEven") cI)
abbrev Zkl:List Str:=["slants", "one", "other"]
def ER:WS:=(aF (ig<|wF vC<|aC (wN 0) aA)<|aF (cH (bH<|wT<|wF sf<|aC (wN 0)<|aC (wN 1) aA) (i7<|PySem.Str.ofString "NoRow") cI)<|aJ<|wF vc<|aC (wN 1)<|aC (wF ye<|aC (wN 0)<|aC (wN 2) aA) aA)
theorem Kr(a b:List Int):ef (bS a) (bS b)=decide (a=b):=by
 unfold ef bS;rw[pd,pd,PyData.eqv];induction a generalizing b with
 |nil=>cases b<;>simp[fR,PyData.eqvAll]
 |cons x a ih=>
  cases b with
  |nil=>simp[fR,PyData.eqvAll]
  |cons y b=>
   rw[cP,cP,fR,fR,PyData.eqvAll,ih b,pd,pd,PyData.eqv,jf];simp
theorem Ks(h:IsSl s n)(hm:∀x∈r,Sz m x):∀x∈eK s n r,Sz (5*(6+m+1)+1) x:=by intro x hx;unfold eK at hx;obtain⟨line,hl,rfl⟩:=YbL.mp hx;obtain⟨h1,h2⟩:=jD h line hl;refine D3 _ _ (λx hx=>?_) hm (by unfold dj;rw[bU,h1];exact h.n5);obtain⟨i,hi,rfl⟩:=YbL.mp hx;exact yp<|h2 i hi
theorem Bz{p:List Rat}(h:IsSl s n)(hp:p.length=n)(h1:∀x∈p,Sz 170 x)(h2:∀x∈r,Sz 170 x):BR p (eK s n r):=by refine⟨170,_,h1,Ks h h2,?_⟩;rw[hp];have h5:=h.n5;have:n*(170+(5*(6+170+1)+1)+1)<=5*(170+(5*(6+170+1)+1)+1):=kO _ h5;omega
theorem Kt:Rd By EO Zkn:=by
 rintro _ E Q ⟨x,rfl,hk,q⟩;unfold EO;walk_at "st";cases e:ij x with
 |false=>exact xS.err x rfl hk (tF e)<|sr e q
 |true=>obtain⟨s,n,rfl,h⟩:=vd e;refine IZ h<|g0 (Dq _ 59) (Dq _ 59) ?_;replace q:=ss h q;unfold pY at q;rw[lL]at q;simp only[dW,if_false];rw[Kr];exact q
theorem Ku:Rd vC EQ Zh9:=by
 rintro _ E Q ⟨x,rfl,hk,q⟩;unfold EQ;walk_at "st";cases e:ij x with
 |false=>exact xS.err x rfl hk (tF e)<|sr e q
 |true=>
  obtain⟨s,n,rfl,h⟩:=vd e;replace q:=ss h q;refine xS.ok (bS s) rfl hk (n6 h) ?_;walk_at "st";cases ev:pY (bS s) with
  |true=>rw[ev]at q;simpa[exQ] using q|false=>rw[ev]at q;simpa[exQ] using q
theorem Kv:Rd yF ER Zkl:=by
 rintro _ E Q ⟨⟨x,y,z⟩,rfl,⟨hk,hk1,hk2,hs1,hs2⟩,q⟩;dsimp only at hk hk1 hk2 hs1 hs2 q;unfold ER;walk_at "nx";cases e:ij x with
 |false=>exact xS.err x rfl hk (tF e)<|sr e q
 |true=>
 obtain⟨s,n,rfl,h⟩:=vd e;replace q:=ss h q;cases ev:pY (bS s) with
 |false=>
  rw[ev]at q;exact xS.err (bS s) rfl hk (by(try dsimp only);rw[n6 h,ev];rfl) q
 |true=>
 rw[ev,lL,h.sN]at q;simp only[if_true]at q;refine xS.ok (bS s) rfl hk (v:=.non) (by(try dsimp only);rw[n6 h,ev];rfl) ?_;walk_at "nx";refine A1 h hk1 ?_;walk_at "st";unfold Bv at q;cases e1:fZ n y with
 |false=>rw[e1]at q;simpa[exQ] using q
 |true=>
 obtain⟨p,rfl,hp'⟩:=tG e1;have hp:p.length=n:=by omega
 simp only[fg,dW,if_false];rw[e1]at q;cases e2:fZ n z with
 |false=>
  rw[e2]at q;exact xS.err (bS s,z) rfl ⟨hk,hk2,λr er=>⟨170,ZcK.mp (by rw[<-er];exact hs2),by decide⟩⟩ (by(try dsimp only);rw[n6 h,h.sN,e2];rfl) (by simpa[exQ] using q)
 |true=>
 obtain⟨r,rfl,hr'⟩:=tG e2;have hr:r.length=n:=by omega
 rw[e2,n8,n8]at q;refine Ja h hr ⟨170,ZcK.mp hs2,by decide⟩<|Dv (Bz h hp (ZcK.mp hs1)<|ZcK.mp hs2) ?_;simpa[exQ] using q
namespace B.C.Q0
mutual
def fx:D->List Nat->Bool
 |.non,_=>true|.bl _,_=>true|.int i,_=>decide (i.natAbs<2^115)|.str x,_=>decide (x.cps.size<=4)&&x.cps.toList.all λc=>decide (c<16^8)
 |.dic,_=>true|.tup _,[]=>false|.lst _,[]=>false|.tup xs,w::ws=>decide (xs.length<=w)&&oN xs ws|.lst xs,w::ws=>decide (xs.length<=w)&&oN xs ws|.pen,_=>false|.cls _,_=>false|.exc _,_=>false|.ty _,_=>false|.scr _,_=>false
def oN:List D->List Nat->Bool
 |[],_=>true|x::r,ws=>fx x ws&&oN r ws
end
def Bw:List Nat->Nat
 |[]=>4|w::ws=>4+w*(Bw ws+1)
theorem sC:∀ws,4<=Bw ws
 |[]=>cB _|w::ws=>by rw[Bw];omega
theorem ZkV:∀{xs:List D} {ws:List Nat},oN xs ws=true↔∀x∈xs,fx x ws=true
 |[],_=>by simp[oN]|x::r,ws=>by rw[oN,c9,ZkV];simp
theorem Kw{i:Int}(h:i.natAbs<2^115):i.natAbs.log2<1920/\(PyData.shown<|.int i).length<=60:=by
 have hl:i.natAbs.log2<115:=by by_cases z:i.natAbs=0;rw[z];decide;exact(Nat.log2_lt z).mpr h
 refine⟨by omega,?_⟩;have a1:=PySem.int_text_length_le10 (a:=i) (k:=40) (by decide)<|dm h (by decide);have f:(PyData.shown<|.int i).length=(toString i).length:=by rw[PyData.shown];exact PySem.ofString_length _
 rw[f];omega
mutual
theorem vD:∀(x:D) (ws:List Nat),fx x ws=true->∃p,hJ x=some p/\p.showable=true/\p.depth<=ws.length+1/\p.leavesShort 60=true/\p.bulk<=Bw ws
 |.non,ws,_=>⟨_,rfl,rfl,by simp[PyData.depth],rfl,by have:=sC ws;simp[PyData.bulk]⟩|.bl _,ws,_=>⟨_,rfl,rfl,by simp[PyData.depth],rfl,by have:=sC ws;simp[PyData.bulk]⟩|.int i,ws,h=>by rw[fx,Nh]at h;obtain⟨h1,h2⟩:=Kw h;exact⟨_,rfl,by simp[PyData.showable,h1],by simp[PyData.depth],by simp[PyData.leavesShort,h2],by simp[PyData.bulk]⟩
 |.str x,ws,h=>by rw[fx,c9,Nh]at h;have:=sC ws;exact⟨_,rfl,by simp[PyData.showable],by simp[PyData.depth],by rw[PyData.leavesShort];exact h.2,by rw[PyData.bulk];omega⟩|.dic,ws,h=>⟨.dict [],rfl,by simp[PyData.showable,PyData.showableKv],by simp[PyData.depth,PyData.depthKv],by simp[PyData.leavesShort,PyData.leavesShortKv],by simp[PyData.bulk,PyData.bulkKv]⟩|.tup xs,[],h=>by rw[fx]at h;cases h
 |.lst xs,[],h=>by rw[fx]at h;cases h
 |.tup xs,w::ws,h=>by rw[fx,c9,Nh]at h;obtain⟨ps,e1,e2,e3,e4,e5⟩:=BA xs ws h.2;refine⟨.tuple ps,by rw[hJ,e1];rfl,by rw[PyData.showable];exact e2,by rw[PyData.depth,dM];omega,by rw[PyData.leavesShort];exact e4,?_⟩;rw[PyData.bulk,Bw];have:=kO (Bw ws+1) h.1;omega
 |.lst xs,w::ws,h=>by rw[fx,c9,Nh]at h;obtain⟨ps,e1,e2,e3,e4,e5⟩:=BA xs ws h.2;refine⟨.list ps,by rw[hJ,e1];rfl,by rw[PyData.showable];exact e2,by rw[PyData.depth,dM];omega,by rw[PyData.leavesShort];exact e4,?_⟩;rw[PyData.bulk,Bw];have:=kO (Bw ws+1) h.1;omega
 |.pen,n,h=>by rw[fx]at h;cases h
 |.cls _,n,h=>by rw[fx]at h;cases h
 |.exc _,n,h=>by rw[fx]at h;cases h
 |.ty _,n,h=>by rw[fx]at h;cases h
 |.scr _,n,h=>by rw[fx]at h;cases h
theorem BA:∀(xs:List D) (ws:List Nat),oN xs ws=true->∃ps,fM xs=some ps/\PyData.showableAll ps=true/\PyData.depthAll ps<=ws.length+1/\PyData.leavesShortAll 60 ps=true/\PyData.bulkAll ps<=xs.length*(Bw ws+1)
 |[],ws,_=>⟨[],rfl,rfl,by simp[PyData.depthAll],rfl,by simp[PyData.bulkAll]⟩|x::r,ws,h=>by rw[oN,c9]at h;obtain⟨p,a1,a2,a3,a4,a5⟩:=vD x ws h.1;obtain⟨ps,b1,b2,b3,b4,b5⟩:=BA r ws h.2;refine⟨p::ps,by rw[fM,a1,b1],by rw[PyData.showableAll,a2,b2];rfl,by rw[PyData.depthAll];omega,by rw[PyData.leavesShortAll,a4,b4];rfl,?_⟩;rw[PyData.bulkAll,dM,oP];omega
end
mutual
theorem yG:∀(x:D) (ws:List Nat),(∀w∈ws,w<=5000)->fx x ws=true->kd x=true/\dL 115 x=true
 |.non,_,_,_=>⟨by rw[kd],by rw[dL]<;>simp⟩|.bl _,_,_,_=>⟨by rw[kd],by rw[dL]<;>simp⟩|.int _,_,_,h=>⟨by rw[kd],by rw[fx]at h;rw[dL];exact h⟩|.str _,_,_,_=>⟨by rw[kd],by rw[dL]<;>simp⟩|.dic,_,_,_=>⟨by rw[kd],by rw[dL]<;>simp⟩|.tup xs,[],_,h=>by rw[fx]at h;cases h
 |.lst xs,[],_,h=>by rw[fx]at h;cases h
 |.tup xs,w::ws,hw,h=>by rw[fx,c9,Nh]at h;have a:=BB xs ws (λw h=>hw w<|iH _ h) h.2;have:=hw w<|j8 ..;exact⟨by rw[kd,c9,Nh];exact⟨by omega,a.1⟩,by rw[dL];exact a.2⟩
 |.lst xs,w::ws,hw,h=>by rw[fx,c9,Nh]at h;have a:=BB xs ws (λw h=>hw w<|iH _ h) h.2;have:=hw w<|j8 ..;exact⟨by rw[kd,c9,Nh];exact⟨by omega,a.1⟩,by rw[dL];exact a.2⟩
 |.pen,n,_,h=>by rw[fx]at h;cases h
 |.cls _,n,_,h=>by rw[fx]at h;cases h
 |.exc _,n,_,h=>by rw[fx]at h;cases h
 |.ty _,n,_,h=>by rw[fx]at h;cases h
 |.scr _,n,_,h=>by rw[fx]at h;cases h
theorem BB:∀(xs:List D) (ws:List Nat),(∀w∈ws,w<=5000)->oN xs ws=true->n4 xs=true/\dY 115 xs=true
 |[],_,_,_=>⟨by rw[n4],by rw[dY]⟩|x::r,n,hw,h=>by rw[oN,c9]at h;have a:=yG x n hw h.1;have b:=BB r n hw h.2;exact⟨by rw[n4,a.1,b.1];rfl,by rw[dY,a.2,b.2];rfl⟩
end
theorem oj{w:Nat}(hl:xs.length<=w)(h:∀x∈xs,fx x ws=true):fx (.tup xs) (w::ws)=true:=by rw[fx,Nj hl,ZkV.mpr h];rfl
theorem ol{w:Nat}(hl:xs.length<=w)(h:∀x∈xs,fx x ws=true):fx (.lst xs) (w::ws)=true:=by rw[fx,Nj hl,ZkV.mpr h];rfl
theorem vE{i:Int}(h:i.natAbs<2^115):fx (.int i) ws=true:=by rw[fx];exact Nj h
theorem yH{w:Nat}(hw:2<=w)(h:Sz 115 q):fx (aP q) (w::ws)=true:=by
 unfold aP;refine oj hw λx hx=>?_;simp only[Yam,d7,or_false]at hx;rcases hx with rfl|rfl
 exact vE h.1;exact vE (by simpa using h.2)
theorem vF{w v:Nat}(hv:2<=v)(hl:r.length<=w)(h:∀x∈r,Sz 115 x):fx (aG r) (w::v::ws)=true:=by unfold aG;refine oj (by simpa using hl) λx hx=>?_;obtain⟨q,hq,rfl⟩:=YbL.mp hx;exact yH hv<|h q hq
end B.C.Q0
namespace B.C
mutual
def bx(b:Nat):D->Nat->Bool
 |.non,_=>true|.bl _,_=>true|.int i,_=>decide (i.natAbs<2^300)|.str x,_=>decide (x.cps.size<=4)&&x.cps.toList.all λc=>decide (c<16^8)
 |.dic,_=>true|.tup xs,n=>decide (0<n)&&decide (xs.length<=b)&&BC b xs (n-1)|.lst xs,n=>decide (0<n)&&decide (xs.length<=b)&&BC b xs (n-1)|.pen,_=>false|.cls _,_=>false|.exc _,_=>false|.ty _,_=>false|.scr _,_=>false
def BC(b:Nat):List D->Nat->Bool
 |[],_=>true|x::r,n=>bx b x n&&BC b r n
end
end B.C
section
def gEqS:G2:=λx y Q=>∃a b,x=.str a/\y=.str b/\Q (.bl<|a==b)
theorem gEqS.mono:∀x y P P',(∀d,P d->P' d)->gEqS x y P->gEqS x y P':=λx y P P' hp ⟨a,b,h1,h2,h3⟩=>⟨a,b,h1,h2,hp _ h3⟩
theorem vG:gC X (compareOp .Eq) gEqS:=by
 refine⟨⟨_,uv,λW H x y dx dy Q ok rx ry hg=>?_⟩,gEqS.mono⟩;obtain⟨a,b,rfl,rfl,q⟩:=hg;cases rx;cases ry;have e:decide (V.str a=V.str b)=(a==b):=by rw[jf];simp
 rw[<-e]at q;exact⟨rfl,q.now ok<|.bl _⟩
end
namespace B.C
theorem vH{w:WT}{E:Ex->Prop}{b c:Bool}(hw:∀ P:Bool->Prop,P b->w E ρ P)(hw':∀ P:Bool->Prop,P c->w' E ρ P):∀ P:Bool->Prop,P (b || c)->dI w w' E ρ P:=λP h=>hw _ (by
 cases b with
 |true=>rw[if_pos rfl];exact h
 |false=>rw[if_neg<|by decide];exact hw' _ h)
theorem yI{E:Ex->Prop}(hw:∀P:D->Prop,P (.lst xs)->w E ρ P)(h:Zby g zb E N xs ρ):bD (iS w) g zb E N ρ:=hw _ h
theorem pair_at{w1 w2:WE}{E:Ex->Prop}{a b:D}(h1:∀P:D->Prop,P a->w1 E ρ P)(h2:∀P:D->Prop,P b->w2 E ρ P):∀P:D->Prop,P (.tup [a,b])->aO (aC w1<|aC w2 aA) E ρ P:=λP h=>h1 _<|h2 _ ⟨show 2<=aL by decide,h⟩
set_option maxHeartbeats 2000000 in
theorem Kx:Rd oh EL ZiV:=by
 rintro _ E Q ⟨⟨⟨b1,b2⟩,p,q⟩,rfl,hd,h⟩;dsimp only at hd h;obtain⟨N0,hN0,hd⟩:∃N,N<8990/\Dz N p q:=⟨8989,by decide,hd⟩;unfold EL;have fj:∀(p' q':List Rat) (t b:Int) (sv sv':SV) (j:Nat),Dz (N0-j) p' q'->t.natAbs<=2^j->b.natAbs<=2^j->b≠0->j<=N0->Rat.divInt t b+cK p' q'=cK p q->
   Zby (dQ 2<|cJ (gN 4)<|cJ (gN 5) dP) (aF (aQ 2<|w2 gAdd (w2 gMul (w2 gMul (wN 2)<|w2 gIx (wN 4)<|wC<|D.int<|1)<|w2 gIx (wN 5)<|wC<|D.int<|1)<|w2 gMul (w2 gMul (w2 gIx (wN 4)<|wC<|D.int<|0)<|w2 gIx (wN 5)<|wC<|D.int<|0)<|wN 3)<|aQ 3<|w2 gMul (w2 gMul (wN 3)<|w2 gIx (wN 4)<|wC<|D.int<|1)<|w2 gIx (wN 5)<|wC<|D.int<|1)
    No { nx:=aJ (wF qD<|aC (wN 2)<|aC (wN 3) aA) E { nx:=λ_=>Q .non,rt:=Q },rt:=Q,bk:=λ_=>False,ct:=λ_=>False }
    (cX (p'.map aP)<|q'.map aP) [.d<|gO b1<|p.map aP,.d<|gO b2<|q.map aP,.d<|.int t,.d<|.int b,sv,sv']:=by
  intro p'
  induction p' with
  |nil=>
   intro q' t b sv sv' j _ h3 h4 h5 h6 he;rw[cK,lE]at he;simp only[cX,gB,List.zipWith_nil_left,Zby];walk_at "st";exact vm h5 (B.bd_le h4<|by omega) (by rw[he];exact h)
  |cons x p' ih=>
   intro q' t b sv sv' j hz h3 h4 h5 h6 he;cases q' with
   |nil=>
    rw[cK,lE]at he;simp only[cX,gB,List.zipWith_nil_right,Zby];walk_at "st";exact vm h5 (B.bd_le h4<|by omega) (by rw[he];exact h)
   |cons y q'=>
    obtain⟨n,m,hx,hy,hnm,hz'⟩:=hz;simp only[cX,cP,zK,Zby];refine⟨rfl,?_⟩;walk_at "st";walk_at "nx";have xd:((x.den:Int)).natAbs<=2^n:=by simpa using kK hx.2
    have yd:((y.den:Int)).natAbs<=2^m:=by simpa using kK hy.2
    have xn:x.num.natAbs<=2^n:=kK hx.1;have yn:y.num.natAbs<=2^m:=kK hy.1;have mm:∀{i k:Int} {c d:Nat},i.natAbs<=2^c->k.natAbs<=2^d->(i*k).natAbs<=2^(c+d):=λh h'=>by
     rw[gh,qN];exact sU h h'
    have t1:=mm h3 xd;have t2:=mm t1 yd;have t3:=mm xn yn;have t4:=mm t3 h4;have t5:=mm h4 xd;have t6:=mm t5 yd;refine fL ⟨⟨B.bd_le h3<|by omega,B.bd_le xd<|by omega⟩,fL ⟨⟨B.bd_le t1<|by omega,B.bd_le yd<|by omega⟩,oK<|oK ⟨⟨B.bd_le xn<|by omega,B.bd_le yn<|by omega⟩,⟨⟨B.bd_le t3<|by omega,B.bd_le h4<|by omega⟩,?_⟩⟩⟩⟩;walk_at "st";refine fL ⟨⟨B.bd_le h4<|by omega,B.bd_le xd<|by omega⟩,fL ⟨⟨B.bd_le t5<|by omega,B.bd_le yd<|by omega⟩,?_⟩⟩;refine ih q' _ _ _ _ (j+(n+m+1)) (by rw[Nat.sub_add_eq];exact hz') ?_ ?_ ?_ (by omega) ?_
    .refine gT (zF _ _) ?_
     rw[show j+(n+m+1)=(j+n+m)+1 by omega,mZ];have t4':(x.num*y.num*b).natAbs<=2^(j+n+m):=by rw[show j+n+m=n+m+j by omega];exact t4
     omega
    .exact gT t6<|jF (by decide) (by omega)
    .exact lG (lG h5 (by have:=x.den_nz;omega)) (by have:=y.den_nz;omega)
    .rw[B.dot_step h5,Rat.add_assoc]
     rw[cK]at he;exact he
 walk_at "nx";walk_at "nx";have k:=fj p q 0 1 .un .un 0 hd (by simp) (by simp) (by decide) (by omega) (by rw[Rat.zero_divInt,xc]);cases b1<;>cases b2<;>exact k
def ES:bR:=sd
abbrev Zbr:List Str:=["_law_thing"]
def yy:WS:=(aF (cH (dI (bH<|wT<|wB gIs<|aC (wN 0)<|aC (wC<|.ty "tuple") aA)<|dI (wT<|w2 (gEq true) (wB bI<|aC (wN 0) aA)<|wC<|D.int<|2)<|dI (bH<|wT<|wF ES<|aC (w2 gIx (wN 0)<|wC<|D.int<|0) aA)<|bH<|wT<|wF ES<|aC (w2 gIx (wN 0)<|wC<|D.int<|1) aA) (aJ<|wC<|D.bl false) cI)<|aJ<|fo (w2 jq (w2 gIx (wN 0)<|wC<|D.int<|1)<|wC<|D.int<|0)<|w2 (gEq false) (wF tJ<|aC (w2 gIx (wN 0)<|wC<|D.int<|0)<|aC (w2 gIx (wN 0)<|wC<|D.int<|1) aA)<|wC<|D.int<|1)
theorem rd__law_share_like:Rd tK yy Zbr:=B.rd__law_share_like
end B.C
theorem BD{α:Type}[DecidableEq α]{f:α->D}(h:∀a b,ef (f a) (f b)=decide (a=b)):∀xs ys:List α,PyData.eqvAll (fR<|xs.map f) (fR<|ys.map f)=decide (xs=ys)
 |[],[]=>by simp[fR,PyData.eqvAll]|[],_::_=>by simp[fR,PyData.eqvAll]|_::_,[]=>by simp[fR,PyData.eqvAll]|x::xs,y::ys=>by have:=h x y;unfold ef at this;rw[cP,cP,fR,fR,PyData.eqvAll,this,BD h xs ys,jf];simp
theorem Ky{α:Type}[DecidableEq α]{f:α->D}(h:∀a b,ef (f a) (f b)=decide (a=b))(xs ys:List α):ef (.tup<|xs.map f) (.tup<|ys.map f)=decide (xs=ys):=by unfold ef;rw[pd,pd,PyData.eqv,BD h]
theorem Kz{α:Type}[DecidableEq α]{f:α->D}(h:∀a b,ef (f a) (f b)=decide (a=b))(xs ys:List α):ef (.lst<|xs.map f) (.lst<|ys.map f)=decide (xs=ys):=by unfold ef;rw[pd,pd,PyData.eqv,BD h]
theorem ET(a b:List Rat):ef (aG a) (aG b)=decide (a=b):=Ky yz a b
theorem vI(n k:Nat):(dS n k).length=n:=by unfold dS;rw[bU,oS]
def cC(a:List Rat)(s:Rat)(c:List Rat):List Rat:=List.zipWith (λl r=>l-s*r) a c
def eh(a:List Rat)(s:Rat):List Rat:=a.map λx=>x/s
def dH:List (List Rat)->Nat->Option Nat
 |[],_=>none|r::R,p=>if r.getD p 0=0 then(dH R p).map (· + 1) else some 0
def bY(R:List (List Rat))(lead:List Rat)(p:Nat):List (List Rat):=R.map λr=>cC r (r.getD p 0) lead
structure Cl where
 ld:List (List Rat)
 pl:List Nat
 rs:List (List Rat)
def f8(R:List (List Rat))(a p:Nat):List Rat:=eh (R.getD a [])<|(R.getD a []).getD p 0
def pZ(p:Nat)(x:Cl):Cl:=match dH x.rs p with|none=>x|some a=>⟨bY x.ld (f8 x.rs a p) p++[f8 x.rs a p],x.pl++[p],bY (x.rs.take a++x.rs.drop (a+1)) (f8 x.rs a p) p⟩
def cO(R:List (List Rat)):Nat->Cl
 |0=>⟨[],[],R⟩|p+1=>pZ p<|cO R p
structure Lf(b m:Nat)(row:List Rat):Prop where
 ex:∃(c:List Int) (e:Int),c.length=m/\e≠0/\e.natAbs<2^b/\(∀x∈c,x.natAbs<2^b)/\row=c.map λx=>Rat.divInt x e
theorem Lf.len(h:Lf b m row):row.length=m:=by obtain⟨c,e,h1,_,_,_,rfl⟩:=h.ex;rw[bU];exact h1
theorem Lf.mono{b':Nat}(l:b<=b')(h:Lf b m row):Lf b' m row:=by obtain⟨c,e,h1,h2,h3,h4,h5⟩:=h.ex;have p:2^b<=2^b':=jF (by decide) l;exact⟨c,e,h1,h2,dm h3 p,λx hx=>dm (h4 x hx) p,h5⟩
theorem Lf.sz(h:Lf b m row):∀x∈row,Sz b x:=by obtain⟨c,e,h1,h2,h3,h4,rfl⟩:=h.ex;intro x hx;obtain⟨y,hy,rfl⟩:=YbL.mp hx;exact Bc h2 (h4 y hy) h3
theorem Lf.get(h:Lf b m row)(hk:k<m):row[k]? = some (row.getD k 0)/\Sz b (row.getD k 0):=by
 have e:row[k]? = some (row.getD k 0):=by rw[bF,bP (by rw[h.len];exact hk)];rfl
 exact⟨e,h.sz _<|ip e⟩
theorem Lf.int{c:List Int}(hb:0<b)(h:∀x∈c,x.natAbs<2^b):Lf b c.length (dj c):=by refine⟨c,1,rfl,by decide,?_,h,?_⟩;show 1<2^b;exact w4 (by omega);unfold dj;exact iJ λx _=>by have:=qd (x:Rat);rw[zG,zH]at this;exact this.symm
theorem KA{c e:Int}(he:e≠0):Rat.divInt c e≠0↔c≠0:=by
 constructor;rintro h rfl;exact h<|Rat.zero_divInt e
 intro h z;have e1:Rat.divInt c e*Rat.divInt e c=1:=by rw[tZ,qe e c];have:=t0 (n:=1) (d:=1)<|lG h he;rw[w8]at this;rw[this];rfl
 rw[z,jy]at e1;exact Ng e1 (by decide)
theorem Lf.norm{p:Nat}(h:Lf b m row)(hp:p<m)(h0:row.getD p 0≠0):Lf b m (eh row<|row.getD p 0):=by
 obtain⟨c,e,h1,h2,h3,h4,rfl⟩:=h.ex;have hc:c[p]? = some (c.getD p 0):=by rw[bF,bP<|by omega];rfl
 have eg:(c.map λx=>Rat.divInt x e).getD p 0=Rat.divInt (c.getD p 0) e:=by rw[bF,cD,hc];rfl
 rw[eg]at h0 ⊢;have hc0:c.getD p 0≠0:=(KA h2).mp h0;refine⟨c,c.getD p 0,h1,hc0,h4 _<|ip hc,h4,?_⟩;unfold eh;rw[List.map_map];refine iJ λx _=>?_;show Rat.divInt x e/(Rat.divInt (c.getD p 0) e)=Rat.divInt x (c.getD p 0);rw[kP,Rat.inv_divInt,tZ _ _ ,qe e];exact t0 h2
theorem KB{w x y z:Int}(h1:w.natAbs<2^b)(h2:x.natAbs<2^b)(h3:y.natAbs<2^b)(h4:z.natAbs<2^b):(w*x-y*z).natAbs<2^(2*b+1):=by
 have m1:(w*x).natAbs<2^b*2^b:=by rw[gh];exact sW h1 h2
 have m2:(y*z).natAbs<2^b*2^b:=by rw[gh];exact sW h3 h4
 have:=Int.natAbs_sub_le (w*x)<|y*z;rw[mZ,show 2*b=b+b by omega,qN];omega
theorem Lf.less{p:Nat}{piv:List Rat}(h:Lf b m row)(hq:Lf b m piv)(hp:p<m):Lf (2*b+1) m (cC row (row.getD p 0) piv):=by
 obtain⟨c,e,h1,h2,h3,h4,rfl⟩:=h.ex;obtain⟨d,f,g1,g2,g3,g4,rfl⟩:=hq.ex;have hc:c[p]? = some (c.getD p 0):=by rw[bF,bP<|by omega];rfl
 have eg:(c.map λx=>Rat.divInt x e).getD p 0=Rat.divInt (c.getD p 0) e:=by rw[bF,cD,hc];rfl
 rw[eg];have bc:(c.getD p 0).natAbs<2^b:=h4 _<|ip hc;refine⟨List.zipWith (λx y=>x*f-c.getD p 0*y) c d,e*f,by rw[jw];omega,lG h2 g2,?_,λz hz=>?_,?_⟩
 rw[gh,mZ,show 2*b=b+b by omega,qN];have:=sW h3 g3;omega;obtain⟨i,hi,e1⟩:=Ybr.mp hz;rw[oV]at e1;rw[<-e1];exact KB (h4 _<|fT _) g3 bc<|g4 _ (fT _)
 unfold cC;rw[List.zipWith_map,zQ];refine congrArg (λg=>List.zipWith g c d) ?_;funext x y;rw[tZ,Rat.divInt_sub_divInt _ _ h2<|lG h2 g2];rw[show x*(e*f)-c.getD p 0*y*e=(x*f-c.getD p 0*y)*e by grind,qe e<|e*f];exact(t0 h2)
def bq(b:Nat):Nat->Nat
 |0=>b|k+1=>2*bq b k+1
theorem EU{b:Nat}:∀{k k':Nat},k<=k'->bq b k<=bq b k'
 |k,0,h=>by rw[Nat.le_zero.mp h];exact cB _|k,k'+1,h=>by by_cases e:k=k'+1;rw[e];exact cB _;have:=EU (b:=b) (k:=k) (k':=k') (by omega);rw[bq];omega
theorem sD:∀{R:List (List Rat)} {p a:Nat},dH R p=some a->a<R.length/\(R.getD a []).getD p 0≠0
 |[],_,_,h=>nomatch h
 |r::R,p,a,h=>by
  rw[dH]at h;split at h;cases e:dH R p with
  |none=>rw[e]at h;cases h
  |some b=>
   rw[e]at h;have h':b+1=a:=by simpa using h
   subst h';obtain⟨h1,h2⟩:=sD e;exact⟨by simpa using h1,by simpa using h2⟩
  rename_i h0;have h':0=a:=by simpa using h
  subst h';exact⟨by simp,by simpa using h0⟩
structure om(b w p m:Nat)(x:Cl):Prop where
 ld:∀r∈x.ld,Lf (bq b p) w r
 rs:∀r∈x.rs,Lf (bq b p) w r
 ln:x.ld.length+x.rs.length=m
 pl:x.pl.length=x.ld.length
 lt:∀a∈x.pl,a<p
theorem p6{R:List (List Rat)}(h:a<R.length):R.getD a []∈R:=by rw[bF,bP h];exact fT _
theorem mT{α:Type}{R:List α}{r:α}(h:r∈R.take a++R.drop (a+1)):r∈R:=by
 rcases Yan.mp h with h|h
 exact m6 h;exact zM h
theorem KC{w p:Nat}{x:Cl}(h:om b w p m x)(hp:p<w)(e:dH x.rs p=some a):Lf (bq b p) w (f8 x.rs a p):=by obtain⟨h1,h2⟩:=sD e;exact(h.rs _<|p6 h1).norm hp h2
theorem KD{w p:Nat}{x:Cl}(h:om b w p m x)(hp:p<w):om b w (p+1) m (pZ p x):=by
 have up:bq b p<=bq b (p+1):=EU (by omega);unfold pZ;split;exact⟨λr hr=>(h.ld r hr).mono up,λr hr=>(h.rs r hr).mono up,h.ln,h.pl,λa ha=>xj<|h.lt a ha⟩;rename_i a e;have hl:=KC h hp e;obtain⟨h1,h2⟩:=sD e;have ln:=h.ln;refine⟨λr hr=>?_,λr hr=>?_,?_,?_,λc hc=>?_⟩;rcases Yan.mp hr with hr|hr
 unfold bY at hr;obtain⟨r0,hr0,rfl⟩:=YbL.mp hr;exact(h.ld r0 hr0).less hl hp;rw[Ycm.mp hr];exact hl.mono up;unfold bY at hr;obtain⟨r0,hr0,rfl⟩:=YbL.mp hr;exact(h.rs r0<|mT hr0).less hl hp;show(bY _ _ _++[_]).length+(bY _ _ _).length=m;unfold bY;simp only[gA,bU,mY,jg,mW];omega;show(x.pl++[p]).length=(bY _ _ _++[_]).length;unfold bY;rw[gA,gA,bU,h.pl];rfl;rcases Yan.mp hc with hc|hc
 exact xj<|h.lt c hc
 rw[Ycm.mp hc];exact Nat.lt_succ_self p
theorem EV{b w:Nat}{R:List (List Rat)}(h:∀r∈R,Lf b w r):∀{p:Nat},p<=w->om b w p R.length (cO R p)
 |0,_=>⟨(λr hr=>by cases hr),h,(by simp[cO]),rfl,(λa ha=>by cases ha)⟩|p+1,hp=>KD (EV h<|by omega) (by omega)
def cV(R:List (List Rat)):D:=.lst<|R.map aG
def EW(xs:List Nat):D:=.lst<|xs.map λ(k:Nat)=>D.int (k:Int)
def p7:Option Nat->D
 |none=>.non|some a=>.int (a:Int)
def Rz(b w:Nat)(R:List (List Rat)):Prop:=∀r∈R,r.length=w/\∀x∈r,Sz b x
def yJ:bR:=fnS (λx:Nat×List Rat×Rat=>[aG x.2.1,aP x.2.2]) (λx=>2*x.1<8990/\x.2.1.length<=1000/\(∀y∈x.2.1,Sz x.1 y)/\Sz x.1 x.2.2/\x.2.2≠0) λx=>aG<|eh x.2.1 x.2.2
def sE:bR:=fnS (λx:(Nat×Nat×Nat)×List Rat×Rat×List Rat=>[aG x.2.1,aP x.2.2.1,aG x.2.2.2]) (λx=>x.1.1+x.1.2.1+x.1.2.2<8990/\x.2.1.length<=1000/\(∀y∈x.2.1,Sz x.1.1 y)/\Sz x.1.2.1 x.2.2.1/\∀y∈x.2.2.2,Sz x.1.2.2 y) λx=>aG<|cC x.2.1 x.2.2.1 x.2.2.2
def yK:bR:=fnS (λx:Nat×List (List Rat)=>[cV x.2,.int x.1]) (λx=>x.2.length<=1000/\∀r∈x.2,x.1<r.length) λx=>p7<|dH x.2 x.1
def vJ:bR:=fnS (λx:((Nat×Nat)×Nat)×List (List Rat)×List Rat=>[cV x.2.1,aG x.2.2,.int x.1.2]) (λx=>3*x.1.1.1<8990/\x.1.1.2<=1000/\x.2.1.length<=1000/\x.1.2<x.1.1.2/\Rz x.1.1.1 x.1.1.2 x.2.1/\∀y∈x.2.2,Sz x.1.1.1 y) λx=>cV<|bY x.2.1 x.2.2 x.1.2
structure yL(w m:Nat)(R:List (List Rat)):Prop where
 mw:m<=w
 w1:w<=1000
 len:R.length<=1000
 ln:∀p,p<m->(cO R p).ld.length+(cO R p).rs.length=R.length/\(cO R p).pl.length=(cO R p).ld.length
 rl:∀p,p<m->∀r∈(cO R p).rs,r.length=w
 st:∀p,p<m->∀a,dH (cO R p).rs p=some a->(∃B,2*B<8990/\∀y∈(cO R p).rs.getD a [],Sz B y)/\(∃B,3*B<8990/\Rz B w (cO R p).ld/\∀y∈f8 (cO R p).rs a p,Sz B y)/\∃B,3*B<8990/\Rz B w ((cO R p).rs.take a++(cO R p).rs.drop (a+1))/\∀y∈f8 (cO R p).rs a p,Sz B y
def BE:bR:=fnS (λx:(Nat×Nat)×List (List Rat)=>[cV x.2,.int x.1.2]) (λx=>yL x.1.1 x.1.2 x.2) λx=>.tup [cV (cO x.2 x.1.2).ld,EW (cO x.2 x.1.2).pl]
section
variable{E:Ex->Prop}{x:D}{w p:Nat}{t lead:List Rat}{R L:List (List Rat)}{pl:List Nat}
theorem KG(h1:2*b<8990)(h2:r.length<=1000)(h3:∀y∈r,Sz b y)(h4:Sz b q0)(h5:q0≠0)(q:Q (aG<|eh r q0)):yJ [aG r,aP q0] E Q:=⟨(b,r,q0),rfl,⟨h1,h2,h3,h4,h5⟩,q⟩
theorem EY(h0:a+b+c<8990)(h1:r.length<=1000)(h2:∀y∈r,Sz a y)(h3:Sz b q0)(h4:∀y∈t,Sz c y)(q:Q (aG<|cC r q0 t)):sE [aG r,aP q0,aG t] E Q:=⟨((a,b,c),r,q0,t),rfl,⟨h0,h1,h2,h3,h4⟩,q⟩
theorem KH(h1:3*b<8990)(h2:r.length<=1000)(h3:∀y∈r,Sz b y)(h4:Sz b q0)(h5:∀y∈t,Sz b y)(q:Q (aG<|cC r q0 t)):sE [aG r,aP q0,aG t] E Q:=EY (a:=b) (b:=b) (c:=b) (by omega) h2 h3 h4 h5 q
theorem KI(h1:R.length<=1000)(h2:∀r∈R,p<r.length)(q:Q (p7<|dH R p)):yK [cV R,.int p] E Q:=⟨(p,R),rfl,⟨h1,h2⟩,q⟩
theorem EZ(h1:3*b<8990)(h2:w<=1000)(h3:R.length<=1000)(h4:p<w)(h5:Rz b w R)(h6:∀y∈lead,Sz b y)(q:Q (cV<|bY R lead p)):vJ [cV R,aG lead,.int p] E Q:=⟨(((b,w),p),R,lead),rfl,⟨h1,h2,h3,h4,h5,h6⟩,q⟩
end
abbrev Zly:List Str:=["row", "share"]
def BF:WS:=(aJ<|wB iY<|aC (wL<|aLC (iS<|wN 0) 1 [1] (gN 0) cT<|wF pS<|aC (wN 0)<|aC (wN 1) aA) aA)
abbrev ZiQ:List Str:=["one", "share", "other"]
def BG:WS:=(aJ<|wB iY<|aC (wL<|aLC (iZ<|aC (wN 0)<|aC (wN 2) aA) 2 [1] (dQ 2<|cJ (gN 0)<|cJ (gN 1) dP) cT<|wF xX<|aC (wN 0)<|aC (wF qB<|aC (wN 2)<|aC (wN 1) aA) aA) aA)
abbrev ZgC:List Str:=["rows", "place", "at", "row"]
def BH:WS:=(aF (bG<|bD (iE<|aC (wN 0) aA) (dQ 2<|cJ (gN 2)<|cJ (gN 3) dP)<|cH (wT<|w2 (gEq true) (w2 gIx (wN 3)<|wN 1)<|wC<|D.tup [(D.int<|0),(D.int<|1)]) (aJ<|wN 2) cI)<|aJ<|wC D.non)
abbrev ZeS:List Str:=["rows", "lead", "place"]
def BI:WS:=(aJ<|wL<|aLC (iS<|wN 0) 1 [1,2] (gN 0) cT<|wF sE<|aC (wN 0)<|aC (w2 gIx (wN 0)<|wN 2)<|aC (wN 1) aA)
abbrev Zko:List Str:=["rows", "many", "leading", "places", "rest", "place", "at", "lead"]
def BJ:WS:=(aF (aQ 2<|wL<|aU aA)<|aF (cc 3<|aU aA)<|aF (aQ 4<|wL<|aB (fH (α:=Unit))<|aC (wN 0) aA)<|aF (bG<|bD (fq<|aC (wN 1) aA) (gN 5)<|aF (aQ 6<|wF yK<|aC (wN 4)<|aC (wN 5) aA)<|cH (wT<|w2 (gIsC true) (wN 6)<|wC D.non) (aF (aQ 7<|wF yJ<|aC (w2 gIx (wN 4)<|wN 6)<|aC (w2 gIx (w2 gIx (wN 4)<|wN 6)<|wN 5) aA)<|aF (aQ 2<|w2 gAdd (wF vJ<|aC (wN 2)<|aC (wN 7)<|aC (wN 5) aA)<|wL<|aU<|aC (wN 7) aA)<|aF (aQ 4<|wF vJ<|aC (w2 gAdd (bX (wN 4) d8<|dO<|wN 6)<|bX (wN 4) (dO<|w2 gAdd (wN 6)<|wC<|D.int<|1) d8)<|aC (wN 7)<|aC (wN 5) aA)<|cU 3<|wN 5) cI)<|bT 3<|aJ<|aO<|aC (wN 2)<|aC (wN 3) aA)
local macro_rules | `(tactic| walk_at "w1")=>`(tactic| simp only [aJ,cH,aQ,cI,ig,bT,cc,bD,jC,eI,ee,cU,ge,eJ,kH,bG,i7,fi,wM,Zda,fo,fG,jo,eS,dI,bH,wT,kC,w1,w2,wB,wF,wL,aO,bX,Zbg,aB,aU,aC,aA,aLC,ZbV,cT,iS,iE,iL,iT,fq,iA,iZ,d8,dO,wN,wC,gN,dQ,cJ,dP,dR,kE,eW,dB,fJ,df,cM,eV,fK,aCut,eQ,pub,cP,gB,dM,jG,gU,dJ,List.replicate,fk,fO,List.set_cons_zero,List.set_cons_succ,Nat.reduceSub,Nat.reduceAdd,hX,kf,true_and,dW,if_true,if_false,ite_true,ite_false,iq,fg,lF,
 lM,lN,lO,lP,lQ,lR,lS,lT,Ze,lU,lV,lW,lX,lY,lZ,l3,l4,l5,l6,l7,l8,md,me,mf,mh,mi,mj,ml,mn,mo,mq,mr,ms,mx,mz,mB,mC,mD,mE,mF,mG,mH,Zb,mI,mJ,mK,mL,mM,mO,f6,Zh,mP,mQ,mR,mS,gw,gx])
theorem KJ:Rd yJ BF Zly:=by rintro _ E Q ⟨⟨b,r,q0⟩,rfl,⟨h1,h2,h3,h4,h5⟩,q⟩;dsimp only at h1 h2 h3 h4 h5 q;show BF E _ [.d<|aG r,.d<|aP q0];unfold BF aG;walk_at "st";refine iB (g:=aP) (f:=λx:Rat=>aP<|x/q0) r (λx hx Q hq=>?_) .un [] (by simp[aL];omega) ?_;walk_at "st";exact AX (B2.of (h3 x hx) h4<|by omega) h5 hq;walk_at "st";unfold aG eh at q;rw[List.map_map]at q;exact q
theorem E2{we:WE}{tail:cS}{Q:List D->Prop}{f:Rat->Rat->D}:∀(A C:List Rat),(∀x∈A,∀y∈C,∀Q:D->Prop,Q (f x y)->we No (.d (aP x)::.d (aP y)::tail) Q)->∀(sv sv':SV) (acc:List D),acc.length+A.length<=aL->Q (acc++List.zipWith f A C)->lcW (dQ 2<|cJ (gN 0)<|cJ (gN 1) dP) cT we (cX (A.map aP)<|C.map aP) (sv::sv'::tail) acc Q
 |[],C,_,sv,sv',acc,_,hq=>by simpa[lcW,cX] using hq|x::A,[],_,sv,sv',acc,_,hq=>by simpa[lcW,cX] using hq
 |x::A,y::C,h,sv,sv',acc,hl,hq=>by
  have e:cX ((x::A).map aP) ((y::C).map aP)=.tup [aP x,aP y]::cX (A.map aP) (C.map aP):=by simp[cX]
  rw[e,lcW];refine⟨rfl,?_⟩;rw[dM]at hl;refine h x (by simp) y (by simp) _ ⟨by omega,E2 A C (λa ha c hc=>h a (by simp[ha]) c<|by simp[hc]) _ _ _ (by simp;omega) ?_⟩;rw[mX];simpa using hq
theorem KK:Rd sE BG ZiQ:=by
 rintro _ E Q ⟨⟨⟨a,b,c⟩,r,q0,t⟩,rfl,⟨h1,h2,h3,h4,h5⟩,q⟩;dsimp only at h1 h2 h3 h4 h5 q;show BG E _ [.d<|aG r,.d<|aP q0,.d<|aG t];unfold BG aG;walk_at "st";refine E2 (f:=λx y=>aP<|x-q0*y) r t (λx hx y hy Q hq=>?_) .un .un [] (by simp[aL];omega) ?_;walk_at "st";exact Zm (B2.of h4 (h5 y hy)<|by omega)<|IR (B2.of (h3 x hx) (h4.mul<|h5 y hy)<|by omega) hq
 walk_at "st";unfold aG cC at q;rw[zQ]at q;exact q
theorem KM(q:Rat):(if true=true then !ef (aP q) (.tup [.int 0,.int 1]) else ef (aP q) (.tup [.int 0,.int 1])) = !decide (q=0):=by rw[if_pos rfl,<-Bn,yz]
theorem E3{p:Nat}{Q:D->Prop}{E:Ex->Prop}{N:Nds}{s0:SV}(hN:N.rt=Q):∀(R:List (List Rat)) (k:Nat) (s2 s3:SV),(∀r∈R,p<r.length)->(∀a,dH R p=some a->Q (.int ((k+a:Nat):Int)))->(dH R p=none->∀s2 s3,N.nx [s0,.d<|.int p,s2,s3])->Zby (dQ 2<|cJ (gN 2)<|cJ (gN 3) dP) (cH (wT<|w2 (gEq true) (w2 gIx (wN 3)<|wN 1)<|wC<|D.tup [(D.int<|0),(D.int<|1)]) (aJ<|wN 2) cI) E N (ik k<|R.map aG) [s0,.d<|.int p,s2,s3]
 |[],k,s2,s3,_,_,h2=>h2 rfl s2 s3
 |r::R,k,s2,s3,hp,h1,h2=>by
  rw[cP,ik,Zby];refine⟨rfl,?_⟩;simp only[cJ,dP,gN,List.set_cons_succ,List.set_cons_zero];have hr:=hp r (by simp);have e1:(r.map aP)[p]? = some (aP<|r.getD p 0):=by rw[cD,bF,bP hr];rfl
  refine g9 (b:=!decide (r.getD p 0=0)) (λP hP=>?_) (λe=>?_) λe=>?_;unfold aG;walk_at "st";refine⟨_,bC e1,g0 (pQ _ 59) (by decide +kernel) ?_⟩;rw[KM];exact hP;have e0:¬r.getD p 0=0:=by simpa using e
  have:=h1 0 (by rw[dH,if_neg e0]);rw[<-hN]at this;exact this;have e0:r.getD p 0=0:=by simpa using e
  refine E3 hN R (k+1) _ _ (λx hx=>hp x<|by simp[hx]) (λa ha=>?_) λhn=>?_;have:=h1 (a+1) (by rw[dH,if_pos e0,ha];rfl);rw[show k+1+a=k+(a+1) by omega];exact this;exact h2 (by rw[dH,if_pos e0,hn];rfl)
theorem KN:Rd yK BH ZgC:=by rintro _ E Q ⟨⟨p,R⟩,rfl,⟨h1,h2⟩,q⟩;dsimp only at h1 h2 q;show BH E _ [.d<|cV R,.d<|.int p,.un,.un];unfold BH cV;refine bO ?_;simp only[bG,bD,iE,aC,aA,wN,fk];refine E3 (Q:=Q) rfl R 0 .un .un h2 (λa ha=>?_) λhn s2 s3=>?_;rw[ha]at q;rw[Nat.zero_add];exact q;rw[hn]at q;exact q
theorem KO:Rd vJ BI ZeS:=by
 rintro _ E Q ⟨⟨⟨⟨b,w⟩,p⟩,R,lead⟩,rfl,⟨h1,h2,h3,h4,h5,h6⟩,q⟩;dsimp only at h1 h2 h3 h4 h5 h6 q;show BI E _ [.d<|cV R,.d<|aG lead,.d<|.int p];unfold BI cV;walk_at "st";refine iB (g:=aG) (f:=λr:List Rat=>aG<|cC r (r.getD p 0) lead) R (λr hr Q hq=>?_) .un [] (by simp[aL];omega) ?_;obtain⟨hl,hs⟩:=h5 r hr;have e0:r[p]? = some (r.getD p 0):=by rw[bF,bP<|by omega];rfl
 have e1:(r.map aP)[p]? = some (aP<|r.getD p 0):=by rw[cD,e0];rfl
 simp only[wF,aC,aA,wN,w2,fk,fO];exact⟨_,bC e1,KH h1 (by omega) hs (hs _<|ip e0) h6 hq⟩;unfold cV bY at q;rw[List.map_map]at q;exact q
theorem ls{E:Ex->Prop}(e:ρ.set i (.d d)=ρ')(hw:∀P:D->Prop,P d->w E ρ P)(h:N.nx ρ'):aQ i w E N ρ:=hw _ (by rw[e];exact h)
theorem BK{E:Ex->Prop}(e:ρ[i]? = some (.ow xs))(hl:xs.length<aL)(e2:ρ.set i (.ow<|xs++[d])=ρ')(hw:∀P:D->Prop,P d->w E ρ P)(h:N.nx ρ'):cU i w E N ρ:=by unfold cU;rw[e];exact hw _ ⟨hl,by rw[e2];exact h⟩
theorem E4{R:List (List Rat)}(h:k<R.length):e7 (R.map aG) (k:Int)=some (aG<|R.getD k []):=by refine bC ?_;rw[cD,bF,bP h];rfl
theorem KP(h:k<r.length):e7 (r.map aP) (k:Int)=some (aP<|r.getD k 0):=by refine bC ?_;rw[cD,bF,bP h];rfl
theorem KQ{p:Nat}(h:p<r.length):r.getD p 0∈r:=by rw[bF,bP h];exact fT _
theorem KR:Rd BE BJ Zko:=by
 rintro _ E Q ⟨⟨⟨w,m⟩,R⟩,rfl,h,q⟩;dsimp only at h q;obtain⟨mw,w1,hl,hln,hrl,hst⟩:=h;show BJ E _ [.d<|cV R,.d<|.int m,.un,.un,.un,.un,.un,.un];unfold BJ;refine bO<|ls (d:=cV []) (ρ':=[.d<|cV R,.d<|.int m,.d<|cV [],.un,.un,.un,.un,.un]) (by rfl) (λP hP=>⟨by decide,hP⟩) ?_;dsimp only;refine bO<|B.C.own_by (xs:=[]) (ρ':=[.d<|cV R,.d<|.int m,.d<|cV [],.ow [],.un,.un,.un,.un]) (by rfl) (λP hP=>⟨by decide,hP⟩) ?_;dsimp only;refine bO<|ls (d:=cV R) (ρ':=[.d<|cV R,.d<|.int m,.d<|cV [],.ow [],.d<|cV R,.un,.un,.un]) (by rfl) (λP hP=>?_) ?_
 .unfold cV
  walk_at "st";exact hP
 dsimp only;refine bO ?_;simp only[bG,bD];walk_at "st";refine⟨by omega,by omega,?_⟩;refine pW (λp ρ=>∃s5 s6 s7,ρ=[.d<|cV R,.d<|.int m,.d<|cV (cO R p).ld,.ow<|(cO R p).pl.map λ(k:Nat)=>D.int (k:Int),.d<|cV (cO R p).rs,s5,s6,s7]) m ?_ ?_ _ ⟨_,_,_,rfl⟩
 rotate_left
 .rintro _ ⟨s5,s6,s7,rfl⟩
  dsimp only;refine B.C.pub_by (ρ':=[.d<|cV R,.d<|.int m,.d<|cV (cO R m).ld,.d<|EW (cO R m).pl,.d<|cV (cO R m).rs,s5,s6,s7]) rfl ?_;walk_at "st";exact⟨by decide,q⟩
 rintro p hp _ ⟨s5,s6,s7,rfl⟩ nx hnx;obtain⟨ln,lp⟩:=hln p hp;have rl:=hrl p hp;have hst:=hst p hp;rw[show cO R (p+1)=pZ p (cO R p) from rfl]at hnx;generalize cO R p=x at ln lp rl hst hnx;show aF _ _ _ _ [.d<|cV R,.d<|.int m,.d<|cV x.ld,.ow<|x.pl.map λ(k:Nat)=>D.int (k:Int),.d<|cV x.rs,.d<|.int p,s6,s7];refine bO<|ls (d:=p7<|dH x.rs p) (ρ':=[.d<|cV R,.d<|.int m,.d<|cV x.ld,.ow<|x.pl.map λ(k:Nat)=>D.int (k:Int),.d<|cV x.rs,.d<|.int p,.d<|p7<|dH x.rs p,s7]) (by rfl) (λP hP=>?_) ?_
 .simp only[wF,aC,aA,wN,fk,fO]
  exact KI (by omega) (λr hr=>by rw[rl r hr];omega) hP
 dsimp only;unfold pZ at hnx;cases e:dH x.rs p with
 |none=>rw[e]at hnx;refine g9 (b:=false) (λP hP=>?_) (λe=>nomatch e) λ_=>hnx _ ⟨_,_,_,rfl⟩;walk_at "st";exact⟨rfl,hP⟩
 |some a=>
  rw[e]at hnx;dsimp only at hnx;obtain⟨a1,a2⟩:=sD e;obtain⟨⟨B1,b1,la⟩,⟨B2,b2,ld2,hl2⟩,B3,b3,rs3,hl3⟩:=hst a e;refine g9 (b:=true) (λP hP=>?_) (λ_=>?_) λe=>nomatch e
  .walk_at "st"
   exact⟨rfl,hP⟩
  have hpa:p<(x.rs.getD a []).length:=by rw[rl _<|p6 a1];omega
  refine bO<|ls (d:=aG<|f8 x.rs a p) (ρ':=[.d<|cV R,.d<|.int m,.d<|cV x.ld,.ow<|x.pl.map λ(k:Nat)=>D.int (k:Int),.d<|cV x.rs,.d<|.int p,.d<|.int a,.d<|aG<|f8 x.rs a p]) (by rfl) (λP hP=>?_) ?_
  .show wF _ _ No [.d<|cV R,.d<|.int m,.d<|cV x.ld,.ow<|x.pl.map λ(k:Nat)=>D.int (k:Int),.d<|.lst<|x.rs.map aG,.d<|.int p,.d<|.int a,s7] P
   simp only[wF,aC,aA,wN,w2,fk,fO];refine⟨_,E4 a1,_,E4 a1,_,KP hpa,?_⟩;exact KG (b:=B1) b1 (by rw[rl _<|p6 a1];omega) la (la _<|KQ hpa) a2 hP
  dsimp only;generalize f8 x.rs a p=lead at hl2 hl3 hnx;refine bO<|ls (d:=cV<|bY x.ld lead p++[lead]) (ρ':=[.d<|cV R,.d<|.int m,.d<|cV<|bY x.ld lead p++[lead],.ow<|x.pl.map λ(k:Nat)=>D.int (k:Int),.d<|cV x.rs,.d<|.int p,.d<|.int a,.d<|aG lead]) (by rfl) (λP hP=>?_) ?_
  .simp only[wF,aC,aA,wN,w2,wL,aU,fk,fO]
   refine EZ (b:=B2) (w:=w) b2 w1 (by omega) (by omega) ld2 hl2 ⟨f7<|by simp,?_⟩;unfold cV at hP ⊢;rw[oR]at hP;exact⟨f7 (by unfold bY;simp;omega),hP⟩
  dsimp only;have hcut:∀(b1:Nat),(x.rs.take a++x.rs.drop (a+1)).length<=1000:=λ_=>by rw[gA,jg,mW];omega
  refine bO<|ls (d:=cV<|bY (x.rs.take a++x.rs.drop (a+1)) lead p) (ρ':=[.d<|cV R,.d<|.int m,.d<|cV<|bY x.ld lead p++[lead],.ow<|x.pl.map λ(k:Nat)=>D.int (k:Int),.d<|cV<|bY (x.rs.take a++x.rs.drop (a+1)) lead p,.d<|.int p,.d<|.int a,.d<|aG lead]) (by rfl) (λP hP=>?_) ?_
  .show wF _ _ No [.d<|cV R,.d<|.int m,.d<|cV<|bY x.ld lead p++[lead],.ow<|x.pl.map λ(k:Nat)=>D.int (k:Int),.d<|.lst<|x.rs.map aG,.d<|.int p,.d<|.int a,.d<|aG lead] P
   walk_at "st";rw[kI (b:=a) rfl,show((a:Int)+1)=((a+1:Nat):Int) by omega,Jt (by rw[bU];omega),<-jI,<-List.map_drop];refine⟨f7 (by simp;omega),?_⟩;rw[<-oR];exact EZ (b:=B3) (w:=w) b3 w1 (hcut 0) (by omega) rs3 hl3 hP
  dsimp only;refine BK (d:=.int p) rfl (dm (show _<2000 by rw[bU];omega)<|by decide) rfl (B.nm_at rfl)<|hnx _ ⟨.d<|.int p,.d<|.int a,.d<|aG lead,?_⟩;rw[oR];rfl
def eY(place:Nat):List (List Rat)->List Nat->List Rat->List Rat
 |l::L,a::pl,row=>eY place L pl<|row.set a (0-l.getD place 0)
 |_,_,row=>row
section
namespace Dt
abbrev R:=Nat->Int
def m2(a b:R)(p q:Nat):Int:=a p*b q-a q*b p
def m3(a b c:R)(p q r:Nat):Int:=c r*m2 a b p q-c q*m2 a b p r+c p*m2 a b q r
def m4(a b c d:R)(p q r s:Nat):Int:=d s*m3 a b c p q r-d r*m3 a b c p q s+d q*m3 a b c p r s-d p*m3 a b c q r s
def m5(a b c d e:R)(p q r s t:Nat):Int:=e t*m4 a b c d p q r s-e s*m4 a b c d p q r t+e r*m4 a b c d p q s t-e q*m4 a b c d p r s t+e p*m4 a b c d q r s t
section
variable(a b c d e:R)(p q r s t j:Nat)
theorem s0:m2 a b p j*1=b j*a p-b p*a j:=by unfold m2;grind
theorem s1:m3 a b c p q j*a p=m2 a c p j*m2 a b p q-m2 a c p q*m2 a b p j:=by unfold m3 m2;grind
theorem s2:m4 a b c d p q r j*m2 a b p q=m3 a b d p q j*m3 a b c p q r-m3 a b d p q r*m3 a b c p q j:=by unfold m4 m3 m2;grind
theorem pl:m3 a b c p q r*m3 a b c p s j=m3 a b c p q s*m3 a b c p r j-m3 a b c p q j*m3 a b c p r s:=by unfold m3 m2;grind
theorem BL:m3 a b c p q r*m3 a b c q s j=m3 a b c p q s*m3 a b c q r j-m3 a b c p q j*m3 a b c q r s:=by unfold m3 m2;grind
theorem KS:m3 a b c p q r*m3 a b c r s j=m3 a b c p r s*m3 a b c q r j-m3 a b c p r j*m3 a b c q r s:=by unfold m3 m2;grind
theorem s3:m5 a b c d e p q r s j*m3 a b c p q r=m4 a b c e p q r j*m4 a b c d p q r s-m4 a b c e p q r s*m4 a b c d p q r j:=by have h1:=pl a b c p q r s j;have h2:=BL a b c p q r s j;have h3:=KS a b c p q r s j;unfold m5 m4;generalize m3 a b c p q r=x1 at *;generalize m3 a b c p q s=x2 at *;generalize m3 a b c p q j=x3 at *;generalize m3 a b c p r s=x4 at *;generalize m3 a b c p r j=x5 at *;generalize m3 a b c p s j=x6 at *;generalize m3 a b c q r s=x7 at *;generalize m3 a b c q r j=x8 at *;generalize m3 a b c q s j=x9 at *;generalize m3 a b c r s j=y1 at *;generalize d p=d1;generalize d q=d2;generalize d r=d3;generalize d s=d4;generalize d j=d5;generalize e p=e1;generalize e q=e2;generalize e r=e3;generalize e s=e4;generalize e j=e5;grind
theorem j4:m3 a b c p q r=a p*m2 b c q r-a q*m2 b c p r+a r*m2 b c p q:=by unfold m3 m2;grind
theorem j5:m3 a b c p q r=b q*m2 a c p r-b p*m2 a c q r-b r*m2 a c p q:=by unfold m3 m2;grind
theorem il:m4 a b c d p q r s=a p*m3 b c d q r s-a q*m3 b c d p r s+a r*m3 b c d p q s-a s*m3 b c d p q r:=by unfold m4;rw[j4 a b c,j4 a b c,j4 a b c,j4 a b c];unfold m3;grind
theorem ju:m4 a b c d p q r s=b q*m3 a c d p r s-b p*m3 a c d q r s-b r*m3 a c d p q s+b s*m3 a c d p q r:=by unfold m4;rw[j5 a b c,j5 a b c,j5 a b c,j5 a b c];unfold m3;grind
theorem lu:m4 a b c d p q r s=c p*m3 a b d q r s-c q*m3 a b d p r s+c r*m3 a b d p q s-c s*m3 a b d p q r:=by unfold m4 m3;grind
theorem j6:m5 a b c d e p q r s t=a p*m4 b c d e q r s t-a q*m4 b c d e p r s t+a r*m4 b c d e p q s t-a s*m4 b c d e p q r t+a t*m4 b c d e p q r s:=by unfold m5;rw[il a b c d,il a b c d,il a b c d,il a b c d,il a b c d];unfold m4;grind
theorem sF:m5 a b c d e p q r s t=b q*m4 a c d e p r s t-b p*m4 a c d e q r s t-b r*m4 a c d e p q s t+b s*m4 a c d e p q r t-b t*m4 a c d e p q r s:=by unfold m5;rw[ju a b c d,ju a b c d,ju a b c d,ju a b c d,ju a b c d];unfold m4;grind
theorem BM:m5 a b c d e p q r s t=c p*m4 a b d e q r s t-c q*m4 a b d e p r s t+c r*m4 a b d e p q s t-c s*m4 a b d e p q r t+c t*m4 a b d e p q r s:=by unfold m5;rw[lu a b c d,lu a b c d,lu a b c d,lu a b c d,lu a b c d];unfold m4;grind
theorem BN:m5 a b c d e p q r s t=d q*m4 a b c e p r s t-d p*m4 a b c e q r s t-d r*m4 a b c e p q s t+d s*m4 a b c e p q r t-d t*m4 a b c e p q r s:=by unfold m5 m4;grind
theorem vK:m2 b a p q = - m2 a b p q:=by unfold m2;grind
theorem E5:m3 b a c p q r = - m3 a b c p q r:=by unfold m3;simp only[vK a b];grind
theorem yM:m3 a c b p q r = - m3 a b c p q r:=by rw[j4,j4 a b c];simp only[vK b c];grind
theorem vL:m3 c b a p q r = - m3 a b c p q r:=by rw[j5 c b a,j5 a b c];simp only[vK a c];grind
theorem E6:m4 b a c d p q r s = - m4 a b c d p q r s:=by unfold m4;simp only[E5 a b];grind
theorem E7:m4 a c b d p q r s = - m4 a b c d p q r s:=by unfold m4;simp only[yM a b];grind
theorem E9:m4 c b a d p q r s = - m4 a b c d p q r s:=by unfold m4;simp only[vL a b];grind
theorem yN:m4 a b d c p q r s = - m4 a b c d p q r s:=by rw[il,il a b c d];simp only[yM b c];grind
theorem yO:m4 a d c b p q r s = - m4 a b c d p q r s:=by rw[il,il a b c d];simp only[vL b c];grind
theorem vM:m4 d b c a p q r s = - m4 a b c d p q r s:=by rw[ju d b c a,ju a b c d];simp only[vL a c];grind
theorem vN:m5 b a c d e p q r s t = - m5 a b c d e p q r s t:=by unfold m5;simp only[E6 a b c d];grind
theorem vO:m5 a c b d e p q r s t = - m5 a b c d e p q r s t:=by unfold m5;simp only[E7 a b c d];grind
theorem vP:m5 c b a d e p q r s t = - m5 a b c d e p q r s t:=by unfold m5;simp only[E9 a b c d];grind
theorem vQ:m5 a b d c e p q r s t = - m5 a b c d e p q r s t:=by unfold m5;simp only[yN a b c d];grind
theorem vR:m5 a d c b e p q r s t = - m5 a b c d e p q r s t:=by unfold m5;simp only[yO a b c d];grind
theorem vS:m5 d b c a e p q r s t = - m5 a b c d e p q r s t:=by unfold m5;simp only[vM a b c d];grind
theorem Fa:m5 a b c e d p q r s t = - m5 a b c d e p q r s t:=by rw[j6,j6 a b c d e];simp only[yN b c d e];grind
theorem Fb:m5 a b e d c p q r s t = - m5 a b c d e p q r s t:=by rw[j6,j6 a b c d e];simp only[yO b c d e];grind
theorem Fc:m5 a e c d b p q r s t = - m5 a b c d e p q r s t:=by rw[j6,j6 a b c d e];simp only[vM b c d e];grind
theorem Fd:m5 e b c d a p q r s t = - m5 a b c d e p q r s t:=by rw[sF e b c d a,sF a b c d e];simp only[vM a c d e];grind
end
def M(A:Nat->R):Nat->Nat->R
 |0,i,j=>A i j|1,i,j=>m2 (A 0) (A i) 0 j|2,i,j=>m3 (A 0) (A 1) (A i) 0 1 j|3,i,j=>m4 (A 0) (A 1) (A 2) (A i) 0 1 2 j|4,i,j=>m5 (A 0) (A 1) (A 2) (A 3) (A i) 0 1 2 3 j|_,_,_=>0
def dt(A:Nat->R):Nat->Int
 |0=>1|k+1=>M A k k k
theorem KU(A:Nat->R)(hk:k<4)(i j:Nat):M A (k+1) i j*dt A k=M A k i j*M A k k k-M A k i k*M A k k j:=by
 match k,hk with
 |0,_=>exact s0 _ _ _ _|1,_=>exact s1 _ _ _ _ _ _|2,_=>exact s2 _ _ _ _ _ _ _ _|3,_=>exact s3 _ _ _ _ _ _ _ _ _ _
theorem Fe{A B:Nat->R}(h:∀l,l<k->A l=B l)(hi:A i=B i):M A k i j=M B k i j:=by
 match k with
 |0=>show A i j=B i j;rw[hi]|1=>show m2 _ _ _ _=m2 _ _ _ _;rw[hi,h 0<|by omega]|2=>show m3 _ _ _ _ _ _=m3 _ _ _ _ _ _;rw[hi,h 0<|by omega,h 1<|by omega]|3=>show m4 _ _ _ _ _ _ _ _=m4 _ _ _ _ _ _ _ _;rw[hi,h 0<|by omega,h 1<|by omega,h 2<|by omega]|4=>show m5 _ _ _ _ _ _ _ _ _ _=m5 _ _ _ _ _ _ _ _ _ _;rw[hi,h 0<|by omega,h 1<|by omega,h 2<|by omega,h 3<|by omega]|_+5=>rfl
def sw(A:Nat->R)(x y:Nat):Nat->R:=λi=>if i=x then A y else if i=y then A x else A i
theorem vT(A:Nat->R){x y:Nat}(hn:n<=5)(hxy:x<y)(hy:y<n):dt (sw A x y) n = - dt A n:=by
 match n,hn,y,hy,x,hxy with
 |1,_,0,_,x,h=>exact Ng h<|qO x
 |2,_,1,_,0,_=>exact vK _ _ _ _|3,_,1,_,0,_=>exact E5 _ _ _ _ _ _|3,_,2,_,0,_=>exact vL _ _ _ _ _ _|3,_,2,_,1,_=>exact yM _ _ _ _ _ _|4,_,1,_,0,_=>exact E6 _ _ _ _ _ _ _ _|4,_,2,_,0,_=>exact E9 _ _ _ _ _ _ _ _|4,_,2,_,1,_=>exact E7 _ _ _ _ _ _ _ _|4,_,3,_,0,_=>exact vM _ _ _ _ _ _ _ _|4,_,3,_,1,_=>exact yO _ _ _ _ _ _ _ _|4,_,3,_,2,_=>exact yN _ _ _ _ _ _ _ _|5,_,1,_,0,_=>exact vN _ _ _ _ _ _ _ _ _ _|5,_,2,_,0,_=>exact vP _ _ _ _ _ _ _ _ _ _|5,_,2,_,1,_=>exact vO _ _ _ _ _ _ _ _ _ _|5,_,3,_,0,_=>exact vS _ _ _ _ _ _ _ _ _ _|5,_,3,_,1,_=>exact vR _ _ _ _ _ _ _ _ _ _|5,_,3,_,2,_=>exact vQ _ _ _ _ _ _ _ _ _ _|5,_,4,_,0,_=>exact Fd _ _ _ _ _ _ _ _ _ _|5,_,4,_,1,_=>exact Fc _ _ _ _ _ _ _ _ _ _|5,_,4,_,2,_=>exact Fb _ _ _ _ _ _ _ _ _ _|5,_,4,_,3,_=>exact Fa _ _ _ _ _ _ _ _ _ _
end Dt
end
section
namespace Dt
def bJ(f:Nat->Int):Nat->Int
 |0=>0|n+1=>bJ f n+f n
theorem vU{f g:Nat->Int}:∀{n:Nat},(∀i,i<n->f i=g i)->bJ f n=bJ g n
 |0,_=>rfl|n+1,h=>by rw[bJ,bJ,vU<|λi hi=>h i<|by omega,h n<|by omega]
theorem yP{f:Nat->Int}:∀{n:Nat},(∀i,i<n->f i=0)->bJ f n=0
 |0,_=>rfl|n+1,h=>by rw[bJ,yP<|λi hi=>h i<|by omega,h n<|by omega];rfl
theorem Ff(f g:Nat->Int):∀n:Nat,bJ (λi=>f i+g i) n=bJ f n+bJ g n
 |0=>rfl|n+1=>by rw[bJ,bJ,bJ,Ff f g n];omega
theorem BO(f:Nat->Int)(c:Int):∀n:Nat,bJ (λi=>c*f i) n=c*bJ f n
 |0=>by simp[bJ]|n+1=>by rw[bJ,bJ,BO f c n,Int.mul_add]
theorem Fg(f:Nat->Nat->Int)(m:Nat):∀n:Nat,bJ (λi=>bJ (λj=>f i j) m) n=bJ (λj=>bJ (λi=>f i j) n) m
 |0=>by rw[bJ];exact(yP λ_ _=>rfl).symm|n+1=>by rw[bJ,Fg f m n,<-Ff];rfl
theorem Fh{f:Nat->Int}{k:Nat}:∀{n:Nat},k<n->(∀i,i<n->i≠k->f i=0)->bJ f n=f k
 |0,h,_=>by omega|n+1,h,h0=>by rw[bJ];by_cases e:k=n;subst e;rw[yP<|λi hi=>h0 i (by omega)<|by omega,Int.zero_add];rw[Fh (k:=k) (by omega)<|λi hi hk=>h0 i (by omega) hk,h0 n (by omega)<|Nr e,Int.add_zero]
def sk(k i:Nat):Nat:=if i<k then i else i+1
def cut(A:Nat->R)(k j:Nat):Nat->R:=λi l=>A (sk k i)<|sk j l
def sg(n:Nat):Int:=if n%2=0 then 1 else -1
def jv(A:Nat->R)(n k j:Nat):Int:=sg (k+j)*dt (cut A k j) (n-1)
def rep(A:Nat->R)(k:Nat)(x:R):Nat->R:=λi=>if i=k then x else A i
def dc(A:Nat->R)(c:Nat->Nat):Nat->Int
 |0=>1|1=>A 0<|c 0
 |2=>m2 (A 0) (A 1) (c 0)<|c 1
 |3=>m3 (A 0) (A 1) (A 2) (c 0) (c 1)<|c 2
 |4=>m4 (A 0) (A 1) (A 2) (A 3) (c 0) (c 1) (c 2)<|c 3
 |5=>m5 (A 0) (A 1) (A 2) (A 3) (A 4) (c 0) (c 1) (c 2) (c 3)<|c 4
 |_=>0
section
variable(a b c d e:R)(p q r s t j:Nat)
theorem BP:m2 a b p q=a p*b q-b p*a q:=by unfold m2;grind
theorem BQ:m2 a b p q = - (a q*b p)+b q*a p:=by unfold m2;grind
theorem oq:m3 a b c p q r=a p*m2 b c q r-b p*m2 a c q r+c p*m2 a b q r:=by unfold m3 m2;grind
theorem ot:m3 a b c p q r = - (a q*m2 b c p r)+b q*m2 a c p r-c q*m2 a b p r:=by unfold m3 m2;grind
theorem oz:m3 a b c p q r=a r*m2 b c p q-b r*m2 a c p q+c r*m2 a b p q:=by unfold m3 m2;grind
theorem lv:m4 a b c d p q r s=a p*m3 b c d q r s-b p*m3 a c d q r s+c p*m3 a b d q r s-d p*m3 a b c q r s:=by unfold m4;rw[oq a b c p r s,oq a b c p q s,oq a b c p q r];unfold m3;grind
theorem lx:m4 a b c d p q r s = - (a q*m3 b c d p r s)+b q*m3 a c d p r s-c q*m3 a b d p r s+d q*m3 a b c p r s:=by unfold m4;rw[oq a b c q r s,ot a b c p q s,ot a b c p q r];unfold m3;grind
theorem ly:m4 a b c d p q r s=a r*m3 b c d p q s-b r*m3 a c d p q s+c r*m3 a b d p q s-d r*m3 a b c p q s:=by unfold m4;rw[ot a b c q r s,ot a b c p r s,oz a b c p q r];unfold m3;grind
theorem lC:m4 a b c d p q r s = - (a s*m3 b c d p q r)+b s*m3 a c d p q r-c s*m3 a b d p q r+d s*m3 a b c p q r:=by unfold m4;rw[oz a b c q r s,oz a b c p r s,oz a b c p q s];unfold m3;grind
theorem BT:m5 a b c d e p q r s t=a p*m4 b c d e q r s t-b p*m4 a c d e q r s t+c p*m4 a b d e q r s t-d p*m4 a b c e q r s t+e p*m4 a b c d q r s t:=by unfold m5;rw[lv a b c d p r s t,lv a b c d p q s t,lv a b c d p q r t,lv a b c d p q r s];unfold m4;grind
theorem BU:m5 a b c d e p q r s t = - (a q*m4 b c d e p r s t)+b q*m4 a c d e p r s t-c q*m4 a b d e p r s t+d q*m4 a b c e p r s t-e q*m4 a b c d p r s t:=by unfold m5;rw[lv a b c d q r s t,lx a b c d p q s t,lx a b c d p q r t,lx a b c d p q r s];unfold m4;grind
theorem BV:m5 a b c d e p q r s t=a r*m4 b c d e p q s t-b r*m4 a c d e p q s t+c r*m4 a b d e p q s t-d r*m4 a b c e p q s t+e r*m4 a b c d p q s t:=by unfold m5;rw[lx a b c d q r s t,lx a b c d p r s t,ly a b c d p q r t,ly a b c d p q r s];unfold m4;grind
theorem BW:m5 a b c d e p q r s t = - (a s*m4 b c d e p q r t)+b s*m4 a c d e p q r t-c s*m4 a b d e p q r t+d s*m4 a b c e p q r t-e s*m4 a b c d p q r t:=by unfold m5;rw[ly a b c d q r s t,ly a b c d p r s t,ly a b c d p q s t,lC a b c d p q r s];unfold m4;grind
theorem BX:m5 a b c d e p q r s t=a t*m4 b c d e p q r s-b t*m4 a c d e p q r s+c t*m4 a b d e p q r s-d t*m4 a b c e p q r s+e t*m4 a b c d p q r s:=by unfold m5;rw[lC a b c d q r s t,lC a b c d p r s t,lC a b c d p q s t,lC a b c d p q r t];unfold m4;grind
theorem Fi:m2 a b p p=0:=by unfold m2;grind
theorem vV:m3 a b c p p r=0:=by unfold m3 m2;grind
theorem vW:m3 a b c p q p=0:=by unfold m3 m2;grind
theorem vX:m3 a b c p q q=0:=by unfold m3 m2;grind
theorem vY:m4 a b c d p p r s=0:=by unfold m4;simp only[vV];unfold m3 m2;grind
theorem vZ:m4 a b c d p q p s=0:=by unfold m4;simp only[vV,vW];unfold m3 m2;grind
theorem v4:m4 a b c d p q r p=0:=by unfold m4;simp only[vW];unfold m3 m2;grind
theorem v6:m4 a b c d p q q s=0:=by unfold m4;simp only[vV,vX];unfold m3 m2;grind
theorem v7:m4 a b c d p q r q=0:=by unfold m4;simp only[vW,vX];unfold m3 m2;grind
theorem v8:m4 a b c d p q r r=0:=by unfold m4;simp only[vX];unfold m3 m2;grind
theorem Fj:m5 a b c d e p p r s t=0:=by unfold m5;simp only[vY];unfold m4 m3 m2;grind
theorem Fk:m5 a b c d e p q p s t=0:=by unfold m5;simp only[vY,vZ];unfold m4 m3 m2;grind
theorem Fm:m5 a b c d e p q r p t=0:=by unfold m5;simp only[vZ,v4];unfold m4 m3 m2;grind
theorem Fn:m5 a b c d e p q r s p=0:=by unfold m5;simp only[v4];unfold m4 m3 m2;grind
theorem Fo:m5 a b c d e p q q s t=0:=by unfold m5;simp only[vY,v6];unfold m4 m3 m2;grind
theorem Fq:m5 a b c d e p q r q t=0:=by unfold m5;simp only[vZ,v6,v7];unfold m4 m3 m2;grind
theorem Fr:m5 a b c d e p q r s q=0:=by unfold m5;simp only[v4,v7];unfold m4 m3 m2;grind
theorem Fs:m5 a b c d e p q r r t=0:=by unfold m5;simp only[v6,v8];unfold m4 m3 m2;grind
theorem Ft:m5 a b c d e p q r s r=0:=by unfold m5;simp only[v7,v8];unfold m4 m3 m2;grind
theorem Fu:m5 a b c d e p q r s s=0:=by unfold m5;simp only[v8];unfold m4 m3 m2;grind
end
theorem Fv(A:Nat->R)(x:R)(hn:n<=5)(hk:k<n):bJ (λj=>x j*jv A n k j) n=dt (rep A k x) n:=by
 match n,hn,k,hk with
 |1,_,0,_=>show 0+x 0*(1*1)=x 0;grind|2,_,0,_=>show 0+x 0*(1*(A 1) 1)+x 1*(-1*(A 1) 0)=m2 x (A 1) 0 1;unfold m2;grind|2,_,1,_=>show 0+x 0*(-1*(A 0) 1)+x 1*(1*(A 0) 0)=m2 (A 0) x 0 1;unfold m2;grind|3,_,0,_=>show 0+x 0*(1*m2 (A 1) (A 2) 1 2)+x 1*(-1*m2 (A 1) (A 2) 0 2)+x 2*(1*m2 (A 1) (A 2) 0 1)=m3 x (A 1) (A 2) 0 1 2;rw[j4];grind|3,_,1,_=>show 0+x 0*(-1*m2 (A 0) (A 2) 1 2)+x 1*(1*m2 (A 0) (A 2) 0 2)+x 2*(-1*m2 (A 0) (A 2) 0 1)=m3 (A 0) x (A 2) 0 1 2;rw[j5];grind|3,_,2,_=>show 0+x 0*(1*m2 (A 0) (A 1) 1 2)+x 1*(-1*m2 (A 0) (A 1) 0 2)+x 2*(1*m2 (A 0) (A 1) 0 1)=m3 (A 0) (A 1) x 0 1 2;unfold m3;grind|4,_,0,_=>show 0+x 0*(1*m3 (A 1) (A 2) (A 3) 1 2 3)+x 1*(-1*m3 (A 1) (A 2) (A 3) 0 2 3)+x 2*(1*m3 (A 1) (A 2) (A 3) 0 1 3)+x 3*(-1*m3 (A 1) (A 2) (A 3) 0 1 2)=m4 x (A 1) (A 2) (A 3) 0 1 2 3;rw[il];grind|4,_,1,_=>show 0+x 0*(-1*m3 (A 0) (A 2) (A 3) 1 2 3)+x 1*(1*m3 (A 0) (A 2) (A 3) 0 2 3)+x 2*(-1*m3 (A 0) (A 2) (A 3) 0 1 3)+x 3*(1*m3 (A 0) (A 2) (A 3) 0 1 2)=m4 (A 0) x (A 2) (A 3) 0 1 2 3;rw[ju];grind|4,_,2,_=>show 0+x 0*(1*m3 (A 0) (A 1) (A 3) 1 2 3)+x 1*(-1*m3 (A 0) (A 1) (A 3) 0 2 3)+x 2*(1*m3 (A 0) (A 1) (A 3) 0 1 3)+x 3*(-1*m3 (A 0) (A 1) (A 3) 0 1 2)=m4 (A 0) (A 1) x (A 3) 0 1 2 3;rw[lu];grind|4,_,3,_=>show 0+x 0*(-1*m3 (A 0) (A 1) (A 2) 1 2 3)+x 1*(1*m3 (A 0) (A 1) (A 2) 0 2 3)+x 2*(-1*m3 (A 0) (A 1) (A 2) 0 1 3)+x 3*(1*m3 (A 0) (A 1) (A 2) 0 1 2)=m4 (A 0) (A 1) (A 2) x 0 1 2 3;unfold m4;grind|5,_,0,_=>show 0+x 0*(1*m4 (A 1) (A 2) (A 3) (A 4) 1 2 3 4)+x 1*(-1*m4 (A 1) (A 2) (A 3) (A 4) 0 2 3 4)+x 2*(1*m4 (A 1) (A 2) (A 3) (A 4) 0 1 3 4)+x 3*(-1*m4 (A 1) (A 2) (A 3) (A 4) 0 1 2 4)+x 4*(1*m4 (A 1) (A 2) (A 3) (A 4) 0 1 2 3)=m5 x (A 1) (A 2) (A 3) (A 4) 0 1 2 3 4;rw[j6];grind|5,_,1,_=>show 0+x 0*(-1*m4 (A 0) (A 2) (A 3) (A 4) 1 2 3 4)+x 1*(1*m4 (A 0) (A 2) (A 3) (A 4) 0 2 3 4)+x 2*(-1*m4 (A 0) (A 2) (A 3) (A 4) 0 1 3 4)+x 3*(1*m4 (A 0) (A 2) (A 3) (A 4) 0 1 2 4)+x 4*(-1*m4 (A 0) (A 2) (A 3) (A 4) 0 1 2 3)=m5 (A 0) x (A 2) (A 3) (A 4) 0 1 2 3 4;rw[sF];grind|5,_,2,_=>show 0+x 0*(1*m4 (A 0) (A 1) (A 3) (A 4) 1 2 3 4)+x 1*(-1*m4 (A 0) (A 1) (A 3) (A 4) 0 2 3 4)+x 2*(1*m4 (A 0) (A 1) (A 3) (A 4) 0 1 3 4)+x 3*(-1*m4 (A 0) (A 1) (A 3) (A 4) 0 1 2 4)+x 4*(1*m4 (A 0) (A 1) (A 3) (A 4) 0 1 2 3)=m5 (A 0) (A 1) x (A 3) (A 4) 0 1 2 3 4;rw[BM];grind|5,_,3,_=>show 0+x 0*(-1*m4 (A 0) (A 1) (A 2) (A 4) 1 2 3 4)+x 1*(1*m4 (A 0) (A 1) (A 2) (A 4) 0 2 3 4)+x 2*(-1*m4 (A 0) (A 1) (A 2) (A 4) 0 1 3 4)+x 3*(1*m4 (A 0) (A 1) (A 2) (A 4) 0 1 2 4)+x 4*(-1*m4 (A 0) (A 1) (A 2) (A 4) 0 1 2 3)=m5 (A 0) (A 1) (A 2) x (A 4) 0 1 2 3 4;rw[BN];grind|5,_,4,_=>show 0+x 0*(1*m4 (A 0) (A 1) (A 2) (A 3) 1 2 3 4)+x 1*(-1*m4 (A 0) (A 1) (A 2) (A 3) 0 2 3 4)+x 2*(1*m4 (A 0) (A 1) (A 2) (A 3) 0 1 3 4)+x 3*(-1*m4 (A 0) (A 1) (A 2) (A 3) 0 1 2 4)+x 4*(1*m4 (A 0) (A 1) (A 2) (A 3) 0 1 2 3)=m5 (A 0) (A 1) (A 2) (A 3) x 0 1 2 3 4;unfold m5;grind
theorem v9(A:Nat->R)(i:Nat)(hn:n<=5)(hj:j<n):bJ (λk=>A k i*jv A n k j) n=dc A (λl=>if l=j then i else l) n:=by
 match n,hn,j,hj with
 |1,_,0,_=>show 0+A 0 i*(1*1)=(A 0) i;grind|2,_,0,_=>show 0+A 0 i*(1*(A 1) 1)+A 1 i*(-1*(A 0) 1)=m2 (A 0) (A 1) i 1;rw[BP (A 0)<|A 1];grind|2,_,1,_=>show 0+A 0 i*(-1*(A 1) 0)+A 1 i*(1*(A 0) 0)=m2 (A 0) (A 1) 0 i;rw[BQ (A 0)<|A 1];grind|3,_,0,_=>show 0+A 0 i*(1*m2 (A 1) (A 2) 1 2)+A 1 i*(-1*m2 (A 0) (A 2) 1 2)+A 2 i*(1*m2 (A 0) (A 1) 1 2)=m3 (A 0) (A 1) (A 2) i 1 2;rw[oq (A 0) (A 1)<|A 2];grind|3,_,1,_=>show 0+A 0 i*(-1*m2 (A 1) (A 2) 0 2)+A 1 i*(1*m2 (A 0) (A 2) 0 2)+A 2 i*(-1*m2 (A 0) (A 1) 0 2)=m3 (A 0) (A 1) (A 2) 0 i 2;rw[ot (A 0) (A 1)<|A 2];grind|3,_,2,_=>show 0+A 0 i*(1*m2 (A 1) (A 2) 0 1)+A 1 i*(-1*m2 (A 0) (A 2) 0 1)+A 2 i*(1*m2 (A 0) (A 1) 0 1)=m3 (A 0) (A 1) (A 2) 0 1 i;rw[oz (A 0) (A 1)<|A 2];grind|4,_,0,_=>show 0+A 0 i*(1*m3 (A 1) (A 2) (A 3) 1 2 3)+A 1 i*(-1*m3 (A 0) (A 2) (A 3) 1 2 3)+A 2 i*(1*m3 (A 0) (A 1) (A 3) 1 2 3)+A 3 i*(-1*m3 (A 0) (A 1) (A 2) 1 2 3)=m4 (A 0) (A 1) (A 2) (A 3) i 1 2 3;rw[lv (A 0) (A 1) (A 2)<|A 3];grind|4,_,1,_=>show 0+A 0 i*(-1*m3 (A 1) (A 2) (A 3) 0 2 3)+A 1 i*(1*m3 (A 0) (A 2) (A 3) 0 2 3)+A 2 i*(-1*m3 (A 0) (A 1) (A 3) 0 2 3)+A 3 i*(1*m3 (A 0) (A 1) (A 2) 0 2 3)=m4 (A 0) (A 1) (A 2) (A 3) 0 i 2 3;rw[lx (A 0) (A 1) (A 2)<|A 3];grind|4,_,2,_=>show 0+A 0 i*(1*m3 (A 1) (A 2) (A 3) 0 1 3)+A 1 i*(-1*m3 (A 0) (A 2) (A 3) 0 1 3)+A 2 i*(1*m3 (A 0) (A 1) (A 3) 0 1 3)+A 3 i*(-1*m3 (A 0) (A 1) (A 2) 0 1 3)=m4 (A 0) (A 1) (A 2) (A 3) 0 1 i 3;rw[ly (A 0) (A 1) (A 2)<|A 3];grind|4,_,3,_=>show 0+A 0 i*(-1*m3 (A 1) (A 2) (A 3) 0 1 2)+A 1 i*(1*m3 (A 0) (A 2) (A 3) 0 1 2)+A 2 i*(-1*m3 (A 0) (A 1) (A 3) 0 1 2)+A 3 i*(1*m3 (A 0) (A 1) (A 2) 0 1 2)=m4 (A 0) (A 1) (A 2) (A 3) 0 1 2 i;rw[lC (A 0) (A 1) (A 2)<|A 3];grind|5,_,0,_=>show 0+A 0 i*(1*m4 (A 1) (A 2) (A 3) (A 4) 1 2 3 4)+A 1 i*(-1*m4 (A 0) (A 2) (A 3) (A 4) 1 2 3 4)+A 2 i*(1*m4 (A 0) (A 1) (A 3) (A 4) 1 2 3 4)+A 3 i*(-1*m4 (A 0) (A 1) (A 2) (A 4) 1 2 3 4)+A 4 i*(1*m4 (A 0) (A 1) (A 2) (A 3) 1 2 3 4)=m5 (A 0) (A 1) (A 2) (A 3) (A 4) i 1 2 3 4;rw[BT (A 0) (A 1) (A 2) (A 3)<|A 4];grind|5,_,1,_=>show 0+A 0 i*(-1*m4 (A 1) (A 2) (A 3) (A 4) 0 2 3 4)+A 1 i*(1*m4 (A 0) (A 2) (A 3) (A 4) 0 2 3 4)+A 2 i*(-1*m4 (A 0) (A 1) (A 3) (A 4) 0 2 3 4)+A 3 i*(1*m4 (A 0) (A 1) (A 2) (A 4) 0 2 3 4)+A 4 i*(-1*m4 (A 0) (A 1) (A 2) (A 3) 0 2 3 4)=m5 (A 0) (A 1) (A 2) (A 3) (A 4) 0 i 2 3 4;rw[BU (A 0) (A 1) (A 2) (A 3)<|A 4];grind|5,_,2,_=>show 0+A 0 i*(1*m4 (A 1) (A 2) (A 3) (A 4) 0 1 3 4)+A 1 i*(-1*m4 (A 0) (A 2) (A 3) (A 4) 0 1 3 4)+A 2 i*(1*m4 (A 0) (A 1) (A 3) (A 4) 0 1 3 4)+A 3 i*(-1*m4 (A 0) (A 1) (A 2) (A 4) 0 1 3 4)+A 4 i*(1*m4 (A 0) (A 1) (A 2) (A 3) 0 1 3 4)=m5 (A 0) (A 1) (A 2) (A 3) (A 4) 0 1 i 3 4;rw[BV (A 0) (A 1) (A 2) (A 3)<|A 4];grind|5,_,3,_=>show 0+A 0 i*(-1*m4 (A 1) (A 2) (A 3) (A 4) 0 1 2 4)+A 1 i*(1*m4 (A 0) (A 2) (A 3) (A 4) 0 1 2 4)+A 2 i*(-1*m4 (A 0) (A 1) (A 3) (A 4) 0 1 2 4)+A 3 i*(1*m4 (A 0) (A 1) (A 2) (A 4) 0 1 2 4)+A 4 i*(-1*m4 (A 0) (A 1) (A 2) (A 3) 0 1 2 4)=m5 (A 0) (A 1) (A 2) (A 3) (A 4) 0 1 2 i 4;rw[BW (A 0) (A 1) (A 2) (A 3)<|A 4];grind|5,_,4,_=>show 0+A 0 i*(1*m4 (A 1) (A 2) (A 3) (A 4) 0 1 2 3)+A 1 i*(-1*m4 (A 0) (A 2) (A 3) (A 4) 0 1 2 3)+A 2 i*(1*m4 (A 0) (A 1) (A 3) (A 4) 0 1 2 3)+A 3 i*(-1*m4 (A 0) (A 1) (A 2) (A 4) 0 1 2 3)+A 4 i*(1*m4 (A 0) (A 1) (A 2) (A 3) 0 1 2 3)=m5 (A 0) (A 1) (A 2) (A 3) (A 4) 0 1 2 3 i;rw[BX (A 0) (A 1) (A 2) (A 3)<|A 4];grind
theorem BY(A:Nat->R)(hn:n<=5)(hi:i<n)(hj:j<n)(ne:i≠j):dc A (λl=>if l=j then i else l) n=0:=by
 match n,hn,i,hi,j,hj,ne with
 |1,_,0,_,0,_,ne=>exact Ng rfl ne|2,_,0,_,0,_,ne=>exact Ng rfl ne|2,_,0,_,1,_,_=>show m2 (A 0) (A 1) 0 0=0;exact Fi _ _ _|2,_,1,_,0,_,_=>show m2 (A 0) (A 1) 1 1=0;exact Fi _ _ _|2,_,1,_,1,_,ne=>exact Ng rfl ne|3,_,0,_,0,_,ne=>exact Ng rfl ne|3,_,0,_,1,_,_=>show m3 (A 0) (A 1) (A 2) 0 0 2=0;exact vV _ _ _ _ _|3,_,0,_,2,_,_=>show m3 (A 0) (A 1) (A 2) 0 1 0=0;exact vW _ _ _ _ _|3,_,1,_,0,_,_=>show m3 (A 0) (A 1) (A 2) 1 1 2=0;exact vV _ _ _ _ _|3,_,1,_,1,_,ne=>exact Ng rfl ne|3,_,1,_,2,_,_=>show m3 (A 0) (A 1) (A 2) 0 1 1=0;exact vX _ _ _ _ _|3,_,2,_,0,_,_=>show m3 (A 0) (A 1) (A 2) 2 1 2=0;exact vW _ _ _ _ _|3,_,2,_,1,_,_=>show m3 (A 0) (A 1) (A 2) 0 2 2=0;exact vX _ _ _ _ _|3,_,2,_,2,_,ne=>exact Ng rfl ne|4,_,0,_,0,_,ne=>exact Ng rfl ne|4,_,0,_,1,_,_=>show m4 (A 0) (A 1) (A 2) (A 3) 0 0 2 3=0;exact vY _ _ _ _ _ _ _|4,_,0,_,2,_,_=>show m4 (A 0) (A 1) (A 2) (A 3) 0 1 0 3=0;exact vZ _ _ _ _ _ _ _|4,_,0,_,3,_,_=>show m4 (A 0) (A 1) (A 2) (A 3) 0 1 2 0=0;exact v4 _ _ _ _ _ _ _|4,_,1,_,0,_,_=>show m4 (A 0) (A 1) (A 2) (A 3) 1 1 2 3=0;exact vY _ _ _ _ _ _ _|4,_,1,_,1,_,ne=>exact Ng rfl ne|4,_,1,_,2,_,_=>show m4 (A 0) (A 1) (A 2) (A 3) 0 1 1 3=0;exact v6 _ _ _ _ _ _ _|4,_,1,_,3,_,_=>show m4 (A 0) (A 1) (A 2) (A 3) 0 1 2 1=0;exact v7 _ _ _ _ _ _ _|4,_,2,_,0,_,_=>show m4 (A 0) (A 1) (A 2) (A 3) 2 1 2 3=0;exact vZ _ _ _ _ _ _ _|4,_,2,_,1,_,_=>show m4 (A 0) (A 1) (A 2) (A 3) 0 2 2 3=0;exact v6 _ _ _ _ _ _ _|4,_,2,_,2,_,ne=>exact Ng rfl ne|4,_,2,_,3,_,_=>show m4 (A 0) (A 1) (A 2) (A 3) 0 1 2 2=0;exact v8 _ _ _ _ _ _ _|4,_,3,_,0,_,_=>show m4 (A 0) (A 1) (A 2) (A 3) 3 1 2 3=0;exact v4 _ _ _ _ _ _ _|4,_,3,_,1,_,_=>show m4 (A 0) (A 1) (A 2) (A 3) 0 3 2 3=0;exact v7 _ _ _ _ _ _ _|4,_,3,_,2,_,_=>show m4 (A 0) (A 1) (A 2) (A 3) 0 1 3 3=0;exact v8 _ _ _ _ _ _ _|4,_,3,_,3,_,ne=>exact Ng rfl ne|5,_,0,_,0,_,ne=>exact Ng rfl ne|5,_,0,_,1,_,_=>show m5 (A 0) (A 1) (A 2) (A 3) (A 4) 0 0 2 3 4=0;exact Fj _ _ _ _ _ _ _ _ _|5,_,0,_,2,_,_=>show m5 (A 0) (A 1) (A 2) (A 3) (A 4) 0 1 0 3 4=0;exact Fk _ _ _ _ _ _ _ _ _|5,_,0,_,3,_,_=>show m5 (A 0) (A 1) (A 2) (A 3) (A 4) 0 1 2 0 4=0;exact Fm _ _ _ _ _ _ _ _ _|5,_,0,_,4,_,_=>show m5 (A 0) (A 1) (A 2) (A 3) (A 4) 0 1 2 3 0=0;exact Fn _ _ _ _ _ _ _ _ _|5,_,1,_,0,_,_=>show m5 (A 0) (A 1) (A 2) (A 3) (A 4) 1 1 2 3 4=0;exact Fj _ _ _ _ _ _ _ _ _|5,_,1,_,1,_,ne=>exact Ng rfl ne|5,_,1,_,2,_,_=>show m5 (A 0) (A 1) (A 2) (A 3) (A 4) 0 1 1 3 4=0;exact Fo _ _ _ _ _ _ _ _ _|5,_,1,_,3,_,_=>show m5 (A 0) (A 1) (A 2) (A 3) (A 4) 0 1 2 1 4=0;exact Fq _ _ _ _ _ _ _ _ _|5,_,1,_,4,_,_=>show m5 (A 0) (A 1) (A 2) (A 3) (A 4) 0 1 2 3 1=0;exact Fr _ _ _ _ _ _ _ _ _|5,_,2,_,0,_,_=>show m5 (A 0) (A 1) (A 2) (A 3) (A 4) 2 1 2 3 4=0;exact Fk _ _ _ _ _ _ _ _ _|5,_,2,_,1,_,_=>show m5 (A 0) (A 1) (A 2) (A 3) (A 4) 0 2 2 3 4=0;exact Fo _ _ _ _ _ _ _ _ _|5,_,2,_,2,_,ne=>exact Ng rfl ne|5,_,2,_,3,_,_=>show m5 (A 0) (A 1) (A 2) (A 3) (A 4) 0 1 2 2 4=0;exact Fs _ _ _ _ _ _ _ _ _|5,_,2,_,4,_,_=>show m5 (A 0) (A 1) (A 2) (A 3) (A 4) 0 1 2 3 2=0;exact Ft _ _ _ _ _ _ _ _ _|5,_,3,_,0,_,_=>show m5 (A 0) (A 1) (A 2) (A 3) (A 4) 3 1 2 3 4=0;exact Fm _ _ _ _ _ _ _ _ _|5,_,3,_,1,_,_=>show m5 (A 0) (A 1) (A 2) (A 3) (A 4) 0 3 2 3 4=0;exact Fq _ _ _ _ _ _ _ _ _|5,_,3,_,2,_,_=>show m5 (A 0) (A 1) (A 2) (A 3) (A 4) 0 1 3 3 4=0;exact Fs _ _ _ _ _ _ _ _ _|5,_,3,_,3,_,ne=>exact Ng rfl ne|5,_,3,_,4,_,_=>show m5 (A 0) (A 1) (A 2) (A 3) (A 4) 0 1 2 3 3=0;exact Fu _ _ _ _ _ _ _ _ _|5,_,4,_,0,_,_=>show m5 (A 0) (A 1) (A 2) (A 3) (A 4) 4 1 2 3 4=0;exact Fn _ _ _ _ _ _ _ _ _|5,_,4,_,1,_,_=>show m5 (A 0) (A 1) (A 2) (A 3) (A 4) 0 4 2 3 4=0;exact Fr _ _ _ _ _ _ _ _ _|5,_,4,_,2,_,_=>show m5 (A 0) (A 1) (A 2) (A 3) (A 4) 0 1 4 3 4=0;exact Ft _ _ _ _ _ _ _ _ _|5,_,4,_,3,_,_=>show m5 (A 0) (A 1) (A 2) (A 3) (A 4) 0 1 2 4 4=0;exact Fu _ _ _ _ _ _ _ _ _|5,_,4,_,4,_,ne=>exact Ng rfl ne
theorem wd(A:Nat->R)(hn:n<=5):dc A (λl=>l) n=dt A n:=by
 match n,hn with
 |0,_=>rfl|1,_=>rfl|2,_=>rfl|3,_=>rfl|4,_=>rfl|5,_=>rfl
theorem tN(A:Nat->R)(hn:n<=5)(hi:i<n)(hj:j<n):bJ (λk=>A k i*jv A n k j) n=if i=j then dt A n else 0:=by rw[v9 A i hn hj];split;rename_i h;subst h;rw[show(λl=>if l=i then i else l)=(λl=>l) from by funext l;split<;>omega];exact wd A hn;rename_i h;exact BY A hn hi hj h
theorem KW(A:Nat->R)(hn:n<=5){w:Nat->Int}(h:∀i,i<n->bJ (λj=>A i j*w j) n=0)(hj:j<n):dt A n*w j=0:=by
 have e:bJ (λk=>jv A n k j*bJ (λl=>A k l*w l) n) n=dt A n*w j:=by
  rw[vU (g:=λk=>bJ (λl=>jv A n k j*(A k l*w l)) n)<|λk _=>(BO _ _ n).symm,Fg];rw [vU (g:=λl=>w l*bJ (λk=>A k l*jv A n k j) n) (λl _=>by
   rw[<-BO];exact vU λk _=>by rw[qe<|w l,<-Int.mul_assoc,qe<|jv A n k j])]
  rw[Fh (k:=j) hj<|λi hi ne=>by rw[tN A hn hi hj,if_neg ne,tW],tN A hn hj hj,if_pos rfl,qe]
 rw[<-e];exact yP λk hk=>by rw[h k hk,tW]
end Dt
end
namespace Dt
open B.C
def tA(t:List (List Int)):Nat->R:=λi j=>ga (gr t i) j
theorem wg(P:Nat->R)(ha:a<=4)(hk:k<a)(j:Nat):M P a k j=0:=by
 match a,ha,k,hk with
 |1,_,0,_=>have:=vK (P 0) (P 0) 0 j;show m2 _ _ _ _=0;omega|2,_,0,_=>have:=vL (P 0) (P 1) (P 0) 0 1 j;show m3 _ _ _ _ _ _=0;omega|2,_,1,_=>have:=yM (P 0) (P 1) (P 1) 0 1 j;show m3 _ _ _ _ _ _=0;omega|3,_,0,_=>have:=vM (P 0) (P 1) (P 2) (P 0) 0 1 2 j;show m4 _ _ _ _ _ _ _ _=0;omega|3,_,1,_=>have:=yO (P 0) (P 1) (P 2) (P 1) 0 1 2 j;show m4 _ _ _ _ _ _ _ _=0;omega|3,_,2,_=>have:=yN (P 0) (P 1) (P 2) (P 2) 0 1 2 j;show m4 _ _ _ _ _ _ _ _=0;omega|4,_,0,_=>have:=Fd (P 0) (P 1) (P 2) (P 3) (P 0) 0 1 2 3 j;show m5 _ _ _ _ _ _ _ _ _ _=0;omega|4,_,1,_=>have:=Fc (P 0) (P 1) (P 2) (P 3) (P 1) 0 1 2 3 j;show m5 _ _ _ _ _ _ _ _ _ _=0;omega|4,_,2,_=>have:=Fb (P 0) (P 1) (P 2) (P 3) (P 2) 0 1 2 3 j;show m5 _ _ _ _ _ _ _ _ _ _=0;omega|4,_,3,_=>have:=Fa (P 0) (P 1) (P 2) (P 3) (P 3) 0 1 2 3 j;show m5 _ _ _ _ _ _ _ _ _ _=0;omega
def nv(P:Nat->R)(a:Nat):Nat->Int:=λj=>match a,j with|0,0=>1|1,0=>- P 0 1|1,1=>P 0 0|2,0=>m2 (P 0) (P 1) 1 2|2,1=>- m2 (P 0) (P 1) 0 2|2,2=>m2 (P 0) (P 1) 0 1|3,0=>- m3 (P 0) (P 1) (P 2) 1 2 3|3,1=>m3 (P 0) (P 1) (P 2) 0 2 3|3,2=>- m3 (P 0) (P 1) (P 2) 0 1 3|3,3=>m3 (P 0) (P 1) (P 2) 0 1 2|4,0=>m4 (P 0) (P 1) (P 2) (P 3) 1 2 3 4|4,1=>- m4 (P 0) (P 1) (P 2) (P 3) 0 2 3 4|4,2=>m4 (P 0) (P 1) (P 2) (P 3) 0 1 3 4|4,3=>- m4 (P 0) (P 1) (P 2) (P 3) 0 1 2 4|4,4=>m4 (P 0) (P 1) (P 2) (P 3) 0 1 2 3|_,_=>0
theorem KY(P:Nat->R)(ha:a<=4)(h:a<j):nv P a j=0:=by
 match a,ha,j,h with
 |0,_,_+1,_=>rfl|1,_,_+2,_=>rfl|2,_,_+3,_=>rfl|3,_,_+4,_=>rfl|4,_,_+5,_=>rfl
theorem wj(P:Nat->R)(ha:a<=4):nv P a a=dt P a:=by
 match a,ha with
 |0,_=>rfl|1,_=>rfl|2,_=>rfl|3,_=>rfl|4,_=>rfl
theorem Fw{f:Nat->Int}{m:Nat}:∀{n:Nat},m<=n->(∀j,m<=j->f j=0)->bJ f n=bJ f m
 |0,h,_=>by rw[Nat.le_zero.mp h]|n+1,h,h0=>by by_cases e:m=n+1;rw[e];rw[bJ,h0 n<|by omega,Int.add_zero];exact Fw (by omega) h0
theorem KZ(P:Nat->R)(ha:a<=4)(hn:a<n):bJ (λj=>P k j*nv P a j) n=M P a k a:=by
 rw[Fw (m:=a+1) (by omega)<|λj hj=>by rw[KY P ha<|by omega,tW]]
 match a,ha with
 |0,_=>show 0+P k 0*1=P k 0;omega|1,_=>show 0+P k 0*(- P 0 1)+P k 1*P 0 0=m2 (P 0) (P k) 0 1;unfold m2;grind|2,_=>show 0+P k 0*m2 (P 0) (P 1) 1 2+P k 1*(- m2 (P 0) (P 1) 0 2)+P k 2*m2 (P 0) (P 1) 0 1=m3 (P 0) (P 1) (P k) 0 1 2;unfold m3;grind|3,_=>show 0+P k 0*(- m3 (P 0) (P 1) (P 2) 1 2 3)+P k 1*m3 (P 0) (P 1) (P 2) 0 2 3+P k 2*(- m3 (P 0) (P 1) (P 2) 0 1 3)+P k 3*m3 (P 0) (P 1) (P 2) 0 1 2=m4 (P 0) (P 1) (P 2) (P k) 0 1 2 3;unfold m4;grind|4,_=>show 0+P k 0*m4 (P 0) (P 1) (P 2) (P 3) 1 2 3 4+P k 1*(- m4 (P 0) (P 1) (P 2) (P 3) 0 2 3 4)+P k 2*m4 (P 0) (P 1) (P 2) (P 3) 0 1 3 4+P k 3*(- m4 (P 0) (P 1) (P 2) (P 3) 0 1 2 4)+P k 4*m4 (P 0) (P 1) (P 2) (P 3) 0 1 2 3=m5 (P 0) (P 1) (P 2) (P 3) (P k) 0 1 2 3 4;unfold m5;grind
structure Br(A:Nat->R)(n a:Nat)(x:St3)(P:Nat->R):Prop where
 sm:∃b,Sm b n x.t
 l0:x.l≠0
 sgn:dt A n=x.s*dt P n
 last:x.l=dt P a
 ent:∀i,a<=i->i<n->∀j,j<n->ga (gr x.t i) j=M P a i j
 row:∀i,i<n->∃i',i'<n/\A i=P i'
theorem K0{A B:Nat->R}(h:∀l,l<k->A l=B l):dt A k=dt B k:=by
 cases k with
 |zero=>rfl|succ k=>exact Fe (λl hl=>h l<|by omega)<|h k (by omega)
theorem BZ{row here:List Int}{l:Int}(hj:j<row.length):ga (eX row here a l) j=(ga row j*ga here a-ga row a*ga here j).fdiv l:=by show(eX row here a l).getD j 0=_;unfold eX;rw[bF,cD,hZ hj];rfl
theorem Br.step{A:Nat->R}{x y:St3}{P:Nat->R}(h:Br A n a x P)(hn:n<=5)(ha:a<n)(e:gy a x=some y):∃P',Br A n (a+1) y P':=by
 obtain⟨b,sm⟩:=h.sm;have xl:=sm.len;unfold gy at e;split at e;cases e;rename_i g gs eg;cases e;obtain⟨g1,g2,g3⟩:=Bp sm (g:=g) (by rw[eg];simp);have w:=vz sm ha g2;have wl:=w.len;have swr:∀k,k<n->gr (bL x.t a g) k=if k=g then gr x.t a else if k=a then gr x.t g else gr x.t k:=λk hk=>by unfold bL;rw[tL (by rw[et];omega),tL<|by omega]
 refine⟨sw P a g,⟨_,yB (k:=(bL x.t a g).length) w ha h.l0⟩,?_,?_,?_,λi hi hin j hj=>?_,λi hi=>?_⟩;show ga (gr (cQ (bL x.t a g) a (bL x.t a g).length x.l) a) a≠0;rw[tM<|by omega,if_neg<|by omega,yA sm ha g2];exact g3;show dt A n=x.s*(1-2*(if g=a then 0 else 1))*dt (sw P a g) n;rw[h.sgn];by_cases e:g=a;subst e;rw[if_pos rfl,show sw P g g=P from by funext i;unfold sw;split<;>simp_all];grind;rw[if_neg e,vT P hn (by omega:a<g) g2];grind;show ga (gr (cQ (bL x.t a g) a (bL x.t a g).length x.l) a) a=M (sw P a g) a a a;rw[tM<|by omega,if_neg<|by omega,yA sm ha g2,h.ent g g1 g2 a ha];have:M (sw P a g) a a a=M (λl=>if l=g then sw P a g a else sw P a g l) a g a:=by
  have h1:∀(B:Nat->R) (k:Nat),M B k k k=M (λl=>if l=g then B k else B l) k g k->True:=λ_ _ _=>trivial
  match a,ha,g1 with
  |0,_,_=>simp[M]|1,_,_=>simp only[M];rw[if_neg<|by omega];simp|2,_,_=>simp only[M];rw[if_neg<|by omega,if_neg<|by omega];simp|3,_,_=>simp only[M];rw[if_neg<|by omega,if_neg<|by omega,if_neg<|by omega];simp|4,_,_=>simp only[M];rw[if_neg<|by omega,if_neg<|by omega,if_neg<|by omega,if_neg<|by omega];simp|_+5,h,_=>omega
 rw[this];refine Fe (λl hl=>?_) ?_;show P l=if l=g then _ else sw P a g l;unfold sw;rw[if_neg<|by omega,if_neg<|by omega,if_neg<|by omega];show P g=if g=g then sw P a g a else _;unfold sw;rw[if_pos rfl,if_pos rfl];have hai:a<i:=by omega
 have hA:∀k,a<=k->k<n->∀j,j<n->ga (gr (bL x.t a g) k) j=M (sw P a g) a k j:=λk hk hkn j hj=>by
  have low:∀l,l<a->P l=sw P a g l:=λl hl=>by unfold sw;rw[if_neg<|by omega,if_neg<|by omega]
  have mv:∀k',a<=k'->k'<n->P k'=sw P a g k->M P a k' j=M (sw P a g) a k j:=λk' h1 h2 h3=>by
   have hh:∀(B C:Nat->R) (i i':Nat),(∀l,l<a->B l=C l)->B i=C i'->M B a i j=M C a i' j:=λB C i i' q1 q2=>by
    match a,q1 with
    |0,_=>show B i j=C i' j;rw[q2]|1,q1=>simp only[M];rw[q2,q1 0<|by omega]|2,q1=>simp only[M];rw[q2,q1 0<|by omega,q1 1<|by omega]|3,q1=>simp only[M];rw[q2,q1 0<|by omega,q1 1<|by omega,q1 2<|by omega]|4,q1=>simp only[M];rw[q2,q1 0<|by omega,q1 1<|by omega,q1 2<|by omega,q1 3<|by omega]|_+5,_=>simp only[M]
   exact hh _ _ _ _ low h3
  rw[swr k hkn];by_cases e1:k=g;subst e1;rw[if_pos rfl,h.ent a (cB _) ha j hj];refine mv a (cB _) ha ?_;unfold sw;by_cases e2:k=a;subst e2;rw[if_pos rfl];rw[if_neg e2,if_pos rfl];rw[if_neg e1];by_cases e2:k=a;subst e2;rw[if_pos rfl,h.ent g g1 g2 j hj];refine mv g g1 g2 ?_;unfold sw;rw[if_pos rfl];rw[if_neg e2,h.ent k hk hkn j hj];refine mv k hk hkn ?_;unfold sw;rw[if_neg e2,if_neg e1]
 show ga (gr (cQ (bL x.t a g) a (bL x.t a g).length x.l) i) j=M (sw P a g) (a+1) i j;rw[tM<|by omega,if_pos ⟨hai,by omega⟩,BZ (by rw[(w.gr hin).2.1];exact hj),hA i (by omega) hin j hj,hA a (cB _) ha a ha,hA i (by omega) hin a ha,hA a (cB _) ha j hj,<-KU (sw P a g) (k:=a) (by omega) i j];have el:dt (sw P a g) a=x.l:=by rw[h.last];exact K0 λl hl=>by unfold sw;rw[if_neg<|by omega,if_neg<|by omega]
 rw[el];exact Int.mul_fdiv_cancel _ h.l0;obtain⟨i',h1,h2⟩:=h.row i hi;by_cases e1:i'=a;subst e1;refine⟨g,g2,?_⟩;rw[h2];unfold sw;by_cases e2:g=i';subst e2;rw[if_pos rfl];rw[if_neg e2,if_pos rfl];by_cases e2:i'=g;subst e2;refine⟨a,ha,?_⟩;rw[h2];unfold sw;rw[if_pos rfl];refine⟨i',h1,?_⟩;rw[h2];unfold sw;rw[if_neg e1,if_neg e2]
theorem Br.run{b n:Nat}{t:List (List Int)}(h:Sm b n t)(hn:n<=5):∀{a:Nat},a<=n->∀{x:St3},cY t a=some x->∃P,Br (tA t) n a x P
 |0,_,x,e=>by cases e;exact⟨tA t,⟨b,h⟩,show(1:Int)≠0 by decide,by show _=1*_;rw[w8],rfl,λi _ _ j _=>rfl,λi hi=>⟨i,hi,rfl⟩⟩
 |a+1,ha,x,e=>by
  rw[cY]at e;cases e1:cY t a with
  |none=>rw[e1]at e;cases e
  |some y=>rw[e1]at e;obtain⟨P,hP⟩:=Br.run h hn (by omega) e1;exact hP.step hn (by omega) e
theorem Fx{t:List (List Int)}:∀{n:Nat},cY t n=none->∃a x,a<n/\cY t a=some x/\gQ x.t a=[]
 |0,e=>by cases e
 |n+1,e=>by
  rw[cY]at e;cases e1:cY t n with
  |none=>obtain⟨a,x,h1,h2,h3⟩:=Fx e1;exact⟨a,x,by omega,h2,h3⟩
  |some x=>rw[e1]at e;refine⟨n,x,by omega,e1,?_⟩;have e:gy n x=none:=e;unfold gy at e;split at e;assumption;cases e
theorem Fy(h:Sm b n t)(hn:n<=5):(eM t=dt (tA t) n/\eM t≠0/\∃x,cY t n=some x)\/(eM t=0/\∃w:Nat->Int,(∃a,a<n/\w a≠0)/\∀i,i<n->bJ (λj=>tA t i j*w j) n=0):=by
 unfold eM;rw[h.len];cases e:cY t n with
 |some x=>
  obtain⟨P,hP⟩:=Br.run h hn (cB _) e;refine .inl ⟨?_,?_,x,rfl⟩;show x.s*x.l=_;rw[hP.last,hP.sgn];show x.s*x.l≠0;refine lG ?_ hP.l0;have:∀{a:Nat} {x:St3},cY t a=some x->x.s≠0:=λ{a}=>by
   induction a with
   |zero=>intro x e;cases e;exact show(1:Int)≠0 by decide
   |succ a ih=>
    intro x e;rw[cY]at e;cases e1:cY t a with
    |none=>rw[e1]at e;cases e
    |some y=>
     rw[e1]at e;have e:gy a y=some x:=e;unfold gy at e;split at e
     .cases e
     .cases e
      exact lG (ih e1) (by split<;>decide)
  exact this e
 |none=>
  obtain⟨a,x,ha,ea,eg⟩:=Fx e;obtain⟨P,hP⟩:=Br.run h hn (kK ha) ea;obtain⟨b',sm⟩:=hP.sm;have xl:=sm.len;have z:∀k,k<n->M P a k a=0:=λk hk=>by
   by_cases hka:k<a;exact wg P (by omega) hka a;rw[<-hP.ent k (by omega) hk a ha];refine Classical.byContradiction λc=>?_;have:k∈gQ x.t a:=by unfold gQ;refine Yaf.mpr ⟨YbL.mpr ⟨k-a,Yag.mpr<|by omega,by omega⟩,by simpa using c⟩
   rw[eg]at this;cases this
  refine .inr ⟨rfl,nv P a,⟨a,ha,?_⟩,λi hi=>?_⟩;rw[wj P<|by omega,<-hP.last];exact hP.l0;obtain⟨i',h1,h2⟩:=hP.row i hi;rw[h2,KZ P (by omega) ha];exact z i' h1
theorem num_dt(h:Sm b n t)(hn:n<=5):eM t=dt (tA t) n:=by
 rcases Fy h hn with⟨e,_⟩|⟨e,w,⟨a,ha,wa⟩,hw⟩
 exact e;rw[e];rcases Int.mul_eq_zero.mp (KW (tA t) hn hw ha) with z|z
 exact z.symm;exact Ng z wa
theorem B0(h:Sm b n t)(hn:n<=5)(e:eM t=0):∃w:Nat->Int,(∃a,a<n/\w a≠0)/\∀i,i<n->bJ (λj=>tA t i j*w j) n=0:=by
 rcases Fy h hn with⟨_,z,_⟩|⟨_,hw⟩
 exact Ng e z;exact hw
end Dt
def aV(K:Nd)(mg:Str->Option Value)(x:Str)(st:Stmt):Prop:=∃f fd,Fun K x x st f fd/\mg x=some (.ref f)/\i8 K x=some f
def CC(K:Nd)(mg:Str->Option Value)(x:Str):Prop:=∃a,mg x=some (.ref a)/\i8 K x=some a
def CI(mg:Str->Option Value)(x:Str)(i:Int):Prop:=∃t,mg x=some (.int i t)
def CT(K:Nd)(mg:Str->Option Value)(x:Str)(ds:List D):Prop:=∃a vs,mg x=some (.ref a)/\KT K a vs/\∀W,Reps K W vs ds
section
theorem mkF(X:K.In h)(G:h.Ns mainGlobals mg){oc:Value}{kV doc pm cdv ct:Value}(a:PySem.W.nsIn K mainGlobals x=some (some<|.ref f))(l:K.lookup f=some ⟨oc,od,.func<|PySem.W.fnOf x x (cW st) (bQ st) (aM st) .none kV doc pm an cdv ct,osl⟩)
  (c:PySem.W.codeIn K cdv x=true) (k:PySem.W.keepIn K (.ref f)=true):aV K mg x st:=⟨f,_,rO l c k,PySem.W.mg_of X G a,sj a⟩
theorem mkC(X:K.In h)(G:h.Ns mainGlobals mg)(a:PySem.W.nsIn K mainGlobals x=some (some<|.ref f)):CC K mg x:=⟨f,PySem.W.mg_of X G a,sj a⟩
theorem mkI(X:K.In h)(G:h.Ns mainGlobals mg){i:Int}{t:Tok}(a:PySem.W.nsIn K mainGlobals x=some (some<|.int i t)):CI mg x i:=⟨t,PySem.W.mg_of X G a⟩
theorem mkT(X:K.In h)(G:h.Ns mainGlobals mg){d:Option Addr}{i j:Int}{t u:Tok}(a:PySem.W.nsIn K mainGlobals x=some (some<|.ref f))(l:K.lookup f=some ⟨.type "tuple",d,.seq #[.int i t,.int j u] n,sl⟩):CT K mg x [.int i,.int j]:=
 ⟨f,[.int i,.int j],PySem.W.mg_of X G a,⟨_,_,_,l,rfl,rfl,(by show 2<=sizeLine;decide),.cons ⟨_,rfl⟩<|.cons ⟨_,rfl⟩ .nil⟩,λ_=>.cons (.int _)<|.cons (.int _) .nil⟩
theorem mkX(X:K.In h)(G:h.Ns mainGlobals mg)(a:PySem.W.nsIn K mainGlobals x=some (some<|.ref f))(e:PySem.W.excIn K f [.type "ValueError",.type "Exception",.type "BaseException",.type "object"] "ValueError.__new__" = true):XC K mg x:=
 ⟨f,_,_,_,sj a,PySem.W.mg_of X G a,e,PySem.F.excBase_ValueError⟩
theorem mkH(X:K.In h)(G:h.Ns mainGlobals mg){L:List Str}(a:PySem.W.nsIn K mainGlobals x=some (some<|.ref f))(e:PySem.W.excIn K f [.type "ValueError",.type "Exception",.type "BaseException",.type "object"] "ValueError.__new__" = true)
  (m:∀n∈L,∃D,PySem.W.nsIn K mainGlobals (nR n)=some (some<|.ref D)/\PySem.W.mroIn K D (.ref f)=some true):XT K mg x L:=
 ⟨f,_,_,PySem.W.mg_of X G a,e,by decide +kernel,λn hn D hD=>by
  obtain⟨D',e1,e2⟩:=m n hn;rw[sj e1]at hD;cases hD;exact e2⟩
end
section
variable{w:World}{N:List Str}
universe u
theorem Fz{α:Sort u}{F G:List Value->α}(h:∀a,F [a]=G [a]):∀us:List Value,us.length=1->F us=G us
 |[_],_=>h _
theorem FA{α:Sort u}{F G:List Value->α}(h:∀a b,F [a,b]=G [a,b]):∀us:List Value,us.length=2->F us=G us
 |[_,_],_=>h _ _
theorem FC{α:Sort u}{F G:List Value->α}(h:∀a b c,F [a,b,c]=G [a,b,c]):∀us:List Value,us.length=3->F us=G us
 |[_,_,_],_=>h _ _ _
theorem FD{α:Sort u}{F G:List Value->α}(h:∀a b c d,F [a,b,c,d]=G [a,b,c,d]):∀us:List Value,us.length=4->F us=G us
 |[_,_,_,_],_=>h _ _ _ _
theorem cG(rd:Rd S z N)(h:aV K mg x st)
  (hbody:∀ {f:Addr} {cdv:Value} {A:Around} {outer:List Env} {s:Shared} {H:Hp} {E:XK} (sc:N.Nodup),Room k (A.deeper<|envOfC x (aM st) s.heap.objs.size f cdv)->
   dw (fP P w) (eD (fP P w) P w K mg base N x (aM st) f cdv A outer s H E) E->li (eD (fP P w) P w K mg base N x (aM st) f cdv A outer s H E) E->
   jm (eD (fP P w) P w K mg base N x (aM st) f cdv A outer s H E) E (bQ st) z)
  (sc:dn N ps (aM st):=by exact⟨rfl,rfl,rfl,by decide +kernel,rfl,by decide +kernel,by decide +kernel⟩)
  (len:∀ds E Q,S ds E Q->ds.length=ps.length:=by first|exact fnS.len λ_=>rfl|exact xS.len λ_=>rfl|exact rlS.len λ_=>rfl)
  (hb:∀ (kV doc pm:Value) (an:Option Addr) (cdv ct:Value) (us:List Value),us.length=ps.length->bindArgs (PySem.W.fnOf x x (cW st) (bQ st) (aM st) .none kV doc pm an cdv ct) ⟨us,[]⟩=pure (ps.zip us):=by
   intro _ _ _ _ _ _;(first|refine Fz ?_|refine FA ?_|refine FC ?_|refine FD ?_);intros;rfl)
  (mono:pN S:=by first|exact fnS.mono|exact rlS.mono|exact xS.mono):Fp P w K mg base (k+1) x ps S:=by
 obtain⟨f,fd,F,m,q⟩:=h;exact Fp.of (u4 (z:=z) F sc len (λcdv A outer s H E hr hx hw=>hbody sc.nd hr hx hw) rd) mono m F.kp<|F.binds hb
theorem wm(h:aV K mg x st)
  (hbody:∀ (sc:N.Nodup) (f:Addr) (cdv:Value) (A:Around) (outer:List Env) (s:Shared) (H:Hp),RoomU k (A.deeper<|envOfC x (aM st) s.heap.objs.size f cdv)->
   jm (rR P w K mg base N x (aM st) f cdv A outer s H) E0 (bQ st) z)
  (rd:∀ds E Q,S ds E Q->z No { nx:=λ_=>Q .non,rt:=Q } (eQ N ds))
  (sc:dn N ps (aM st):=by exact⟨rfl,rfl,rfl,by decide +kernel,rfl,by decide +kernel,by decide +kernel⟩)
  (len:∀ds E Q,S ds E Q->ds.length=ps.length:=by first|exact fnS.len λ_=>rfl|exact xS.len λ_=>rfl|exact rlS.len λ_=>rfl)
  (hb:∀ (kV doc pm:Value) (an:Option Addr) (cdv ct:Value) (us:List Value),us.length=ps.length->bindArgs (PySem.W.fnOf x x (cW st) (bQ st) (aM st) .none kV doc pm an cdv ct) ⟨us,[]⟩=pure (ps.zip us):=by
   intro _ _ _ _ _ _;(first|refine Fz ?_|refine FA ?_|refine FC ?_|refine FD ?_);intros;rfl)
  (mono:pN S:=by first|exact fnS.mono|exact rlS.mono|exact xS.mono):yi P w K mg base (k+1) x ps S:=by
 obtain⟨f,fd,F,m,q⟩:=h;exact⟨⟨f,fd,A2 (z:=z) F sc len (λcdv A outer s H hr=>hbody sc.nd f cdv A outer s H hr) rd,m,F.kp,F.binds hb⟩,mono⟩
theorem K1(h:aV K mg x st)(hfa:mg x=some (.ref fa))
  (hbody:∀ (base:Heap) (sc:N.Nodup) (f:Addr) (cdv:Value) (A:Around) (outer:List Env) (s:Shared) (H:Hp) (E:XK),Room k (A.deeper<|envOfC x (aM st) s.heap.objs.size f cdv)->
   dw (fP l.prog w) (eD (fP l.prog w) l.prog w K mg base N x (aM st) f cdv A outer s H E) E->li (eD (fP l.prog w) l.prog w K mg base N x (aM st) f cdv A outer s H E) E->
   jm (eD (fP l.prog w) l.prog w K mg base N x (aM st) f cdv A outer s H E) E (bQ st) z)
  (rd:Rd S z N)
  (sc:dn N ["_law_script"] (aM st):=by exact⟨rfl,rfl,rfl,by decide +kernel,rfl,by decide +kernel,by decide +kernel⟩)
  (len:∀ds E Q,S ds E Q->ds.length=1:=by exact fnS.len (ps:=["_law_script"]) λ_=>rfl)
  (hb:∀(kV doc pm:Value) (an:Option Addr) (cdv ct:Value) (s:Shared) (v:Value),BindsTo s (PySem.W.fnOf x x (cW st) (bQ st) (aM st) .none kV doc pm an cdv ct) ⟨[v],[]⟩ [("_law_script",v)]:=by exact λ_ _ _ _ _ _ _ _=>.of_eq rfl) :
  ∃fd:FuncData,(∀(s:Shared) (v:Value),BindsTo s fd ⟨[v],[]⟩ [("_law_script",v)])/\∀base:Heap,K.In base->base.Ns mainGlobals mg->gi l.prog w K mg base (fP l.prog w) (k+1) fa fd ["_law_script"] (gJ K S):=by
 obtain⟨f,fd,F,m,q⟩:=h;rw[m]at hfa;cases hfa;refine⟨fd,?_,λbase _ _=>u4 (z:=z) F sc len (λcdv A outer s H E hr hx hw=>hbody base sc.nd _ cdv A outer s H E hr hx hw) rd⟩;obtain⟨_,_,_,_,_,_,_,_,_,rfl,_⟩:=F.ex;exact hb _ _ _ _ _ _
end
section
variable{l:List (Str×bR)}
theorem p8(h:CC X.K X.mg x)(hg:Gl X x:=by rfl)(hd:(x==("__debug__" : Str))=false:=by decide):PX X EX (.Name x pos) (wC<|.cls x):=let⟨_,m,q⟩:=h;Jc m q hg hd
theorem yQ{i:Int}(h:CI X.mg x i)(hg:Gl X x:=by rfl)(hd:(x==("__debug__" : Str))=false:=by decide):PX X EX (.Name x pos) (wC<|.int i):=let⟨_,m⟩:=h;IE m hg hd
theorem wn(h:CT X.K X.mg x ds)(hg:Gl X x:=by rfl)(hd:(x==("__debug__" : Str))=false:=by decide):PX X EX (.Name x pos) (wC<|.tup ds):=let⟨_,_,m,k,r⟩:=h;IF m k r hg hd
end
section
variable{n m:Str}{D C:Addr}{M:List Str}
theorem exD(a:PySem.W.nsIn K mainGlobals n=some (some<|.ref D))(b:PySem.W.mroIn K D (.ref f)=some true):∃D,PySem.W.nsIn K mainGlobals n=some (some<|.ref D)/\PySem.W.mroIn K D (.ref f)=some true:=⟨D,a,b⟩
theorem exX(a:PySem.W.nsIn K mainGlobals n=some (some<|.ref D))(c:ie K D)(k:PySem.W.kitOne K (.ref D) (.type "ValueError")=some true)(h:∀m∈M,∃C,i8 K m=some C/\PySem.W.kitOne K (.ref D) (.ref C)=some (n==m)) :
  ∃D,i8 K n=some D/\ie K D/\PySem.W.kitOne K (.ref D) (.type "ValueError")=some true/\∀m∈M,∃C,i8 K m=some C/\PySem.W.kitOne K (.ref D) (.ref C)=some (n==m):=⟨D,sj a,c,k,h⟩
theorem exC(a:PySem.W.nsIn K mainGlobals m=some (some<|.ref C))(b:PySem.W.kitOne K (.ref D) (.ref C)=some (n==m)):∃C,i8 K m=some C/\PySem.W.kitOne K (.ref D) (.ref C)=some (n==m):=⟨C,sj a,b⟩
end
abbrev FE:=List D->(Ex->Prop)->(List D->Prop)->Prop
abbrev K2:=(Ex->Prop)->(List D->Prop)->cS->Prop
section
def B4(i:Nat)(t:WA):WS:=λE N ρ=>match ρ[i]? with
 |some (.ow xs)=>t E ρ λys=>xs.length+ys.length<=aL/\N.nx (ρ.set i<|.ow<|xs++ys)
 |_=>False
end
section
variable{a b c:Expr}
def K3(wt:WT)(wa wb:WA):WA:=λE ρ Q=>wt E ρ λk=>if k=true then wa E ρ Q else wb E ρ Q
end
namespace B.C.Q0
abbrev Pr:=Rat×List Rat
def du(p:Pr):D:=.tup [aP p.1,aG p.2]
def cE(ps:List Pr):D:=.lst<|ps.map du
structure Pq(b n:Nat)(p:Pr):Prop where
 l:p.2.length=n
 w:Sz b p.1
 r:∀y∈p.2,Sz b y
def dh(n:Int):D->Bool
 |.tup [w,r]=>cN w&&(!decide (sh w=0))&&fZ n r|_=>false
def FF(n:Int):D->Bool
 |.lst xs=>decide (xs.length<=10)&&xs.all (dh n)|_=>false
def B5:D->Pr
 |.tup [w,r]=>(sh w,rQ r)|_=>(0,[])
def sqs:D->List Pr
 |.lst xs=>xs.map B5|_=>[]
def gs:List Pr->Nat->Nat->Rat
 |[],_,_=>0|p::ps,i,j=>p.1*(p.2.getD i 0*p.2.getD j 0)+gs ps i j
def tT(s:List Int)(n i j:Nat):Int:=ga (gr (tbl s n) i) j
def p9(s:List Int)(n:Nat)(ps:List Pr):Prop:=∀i,i<n->∀j,j<n->gs ps i j=(tT s n i j:Rat)
instance(s:List Int)(n:Nat)(ps:List Pr):Decidable (p9 s n ps):=by unfold p9;infer_instance
def mU(s:List Int)(n:Nat)(x:D):Bool:=FF n x&&decide (p9 s n<|sqs x)
def B6(s:List Int)(n:Nat)(x:D):Except Str D:=if s.reverse=s then .ok (.bl<|mU s n x) else .error "NotEven"
def f9(R:List (List Rat)):List Pr->List (List Rat)
 |[]=>R|p::ps=>f9 (List.zipWith (λrow share=>cC row (p.1*share) p.2) R p.2) ps
def gR(t:List (List Int))(k:Nat):List (List Int):=(t.take k).map (·.take k)
def qG(s:List Int)(n m:Nat):Prop:=∀k,k<m->eM (gR (tbl s n)<|k+1)≠0
def Th(d:D):Prop:=fx d [21,3,7,7,7]=true\/fx d [1,21,3,7,7]=true
def yR:bR:=fnS (λx:D×Int=>[x.1,.int x.2]) (λx=>kd x.1=true) λx=>.bl<|dh x.2 x.1
def sG(b k:Nat):Prop:=7+(3*b+1)*k+3*b<8990
def Fits(b:Nat)(x:D):Prop:=∀xs,x=.lst xs->xs.length<=10->sG b xs.length
def yS:bR:=fnS (λx:(Nat×SL)×List Pr=>[bS x.1.2.1,cE x.2]) (λx=>IsSl x.1.2.1 x.1.2.2/\sG x.1.1 x.2.length/\∀p∈x.2,Pq x.1.1 x.1.2.2 p) λx=>.lst<|(f9 ((tbl x.1.2.1 x.1.2.2).map dj) x.2).map aG
def B7:bR:=xS (λx:(Nat×SL)×D=>[bS x.1.2.1,x.2]) (λx=>IsSl x.1.2.1 x.1.2.2/\kd x.2=true/\dL x.1.1 x.2=true/\Fits x.1.1 x.2) λx=>B6 x.1.2.1 x.1.2.2 x.2
def yT:bR:=rlS (λ_:Unit=>[.pen]) (λ_=>True) λ_ d=>∃s n,IsSl s n/\s.reverse=s/\d=bS s
def wq:bR:=rlS (λr:List Rat=>[.pen,aG r]) (λr=>1<=r.length/\r.length<=5/\∀y∈r,Sz 114 y) λ_ d=>fx d [7,7,7]=true
def wr:bR:=fnS (λx:(Nat×SL)×D=>[aR x.1.2.1 x.1.2.2,x.2]) (λx=>IsSl x.1.2.1 x.1.2.2/\x.1.2.1.reverse=x.1.2.1/\kd x.2=true/\dL x.1.1 x.2=true/\Fits x.1.1 x.2) λx=>.bl<|mU x.1.2.1 x.1.2.2 x.2
def yU:bR:=rlS (λx:SL=>[aR x.1 x.2]) (λx=>IsSl x.1 x.2) λx d=>∃m:Nat,d=.int m/\m<=x.2/\qG x.1 x.2 m
def yV:bR:=rlS (λx:Nat×List Pr=>[.pen,cE x.2]) (λx=>1<=x.1/\x.1<=5/\x.2.length<=18/\∀p∈x.2,Pq 114 x.1 p) λ_ d=>Th d
section
variable{E:Ex->Prop}{x:D}{i:Int}{t:List Rat}{ps:List Pr}
theorem K6(h:kd x=true)(q:Q (.bl<|dh i x)):yR [x,.int i] E Q:=⟨(x,i),rfl,h,q⟩
theorem K7(h:IsSl s n)(h1:sG b ps.length)(h2:∀p∈ps,Pq b n p)(q:Q (.lst<|(f9 ((tbl s n).map dj) ps).map aG)):yS [bS s,cE ps] E Q:=⟨((b,s,n),ps),rfl,⟨h,h1,h2⟩,q⟩
theorem Fits.k40:Fits 115 x:=λxs _ h=>by unfold sG;omega
theorem La(q:∀s n,IsSl s n->s.reverse=s->Q (bS s)):yT [.pen] E Q:=⟨(),rfl,trivial,λd ⟨s,n,h,h1,e⟩=>by rw[e];exact q s n h h1⟩
theorem FG(h:1<=r.length)(h':r.length<=5)(h2:∀y∈r,Sz 114 y)(q:∀d,fx d [7,7,7]=true->Q d):wq [.pen,aG r] E Q:=⟨r,rfl,⟨h,h',h2⟩,q⟩
theorem Lc(h:IsSl s n)(h0:s.reverse=s)(h1:kd x=true)(h2:dL b x=true)(h3:Fits b x)(q:Q (.bl<|mU s n x)):wr [aR s n,x] E Q:=⟨((b,s,n),x),rfl,⟨h,h0,h1,h2,h3⟩,q⟩
theorem Ld(h:IsSl s n)(q:∀m:Nat,m<=n->qG s n m->Q (.int m)):yU [aR s n] E Q:=⟨(s,n),rfl,h,λd ⟨m,e,h1,h2⟩=>by rw[e];exact q m h1 h2⟩
theorem Le(h1:1<=n)(h2:n<=5)(h3:ps.length<=18)(h4:∀p∈ps,Pq 114 n p)(q:∀d,Th d->Q d):yV [.pen,cE ps] E Q:=⟨(n,ps),rfl,⟨h1,h2,h3,h4⟩,q⟩
end
abbrev ZgB:List Str:=["thing", "many"]
def FH:WS:=(aF (cH (dI (bH<|wT<|wB gIs<|aC (wN 0)<|aC (wC<|.ty "tuple") aA)<|wT<|w2 (gEq true) (wB bI<|aC (wN 0) aA)<|wC<|D.int<|2) (aJ<|wC<|D.bl false) cI)<|aJ<|fo (wF tB<|aC (w2 gIx (wN 0)<|wC<|D.int<|0) aA)<|fo (w2 (gEq true) (w2 gIx (wN 0)<|wC<|D.int<|0)<|wC<|D.tup [(D.int<|0),(D.int<|1)])<|wF tD<|aC (w2 gIx (wN 0)<|wC<|D.int<|1)<|aC (wN 1) aA)
abbrev Zkm:List Str:=["slants", "squares", "rows", "weight", "square"]
def FI:WS:=(aF (aQ 2<|wF tE<|aC (wN 0) aA)<|bT 2<|aF (bG<|bD (iS<|wN 1) (dQ 2<|cJ (gN 3)<|cJ (gN 4) dP)<|bT 2<|cc 2<|aLC (iZ<|aC (wN 2)<|aC (wN 4) aA) 2 [3,4] (dQ 2<|cJ (gN 0)<|cJ (gN 1) dP) cT<|wF sE<|aC (wN 0)<|aC (wF qB<|aC (wN 2)<|aC (wN 1) aA)<|aC (wN 3) aA)<|bT 2<|aJ<|wN 2)
abbrev Zfd:List Str:=["slants", "thing", "size"]
def FJ:WS:=(aF (ig<|wF vC<|aC (wN 0) aA)<|aF (aQ 2<|wF oH<|aC (wN 0) aA)<|aF (cH (dI (bH<|wT<|wB gIs<|aC (wN 1)<|aC (wC<|.ty "list") aA)<|wT<|w2 jq (wB bI<|aC (wN 1) aA)<|wC<|.int<|10) (aJ<|wC<|D.bl false) cI)<|aF (cH (bH<|wT<|wB i5<|aC (wL<|aLC (iS<|wN 1) 1 [2] (gN 0) cT<|wF yR<|aC (wN 0)<|aC (wN 1) aA) aA) (aJ<|wC<|D.bl false) cI)<|aJ<|w2 (gEq false) (wF yS<|aC (wN 0)<|aC (wN 1) aA)<|w2 gMul (wL<|aU<|aC (w2 Zda (aO<|aC (wC<|D.tup [(D.int<|0),(D.int<|1)]) aA)<|wN 2) aA)<|wN 2)
abbrev Zfe:List Str:=["_law_pen", "_law_found", "_law_size"]
def Zf:WS:=(aF (aQ 1<|wF yw<|aC (wN 0) aA)<|aF (aQ 2<|w2 gM (w2 gAdd (wB bI<|aC (wN 1) aA)<|wC<|D.int<|1)<|wC<|D.int<|2)<|aF (cH (wT<|w2 (gEq false) (wF gv<|aC (wN 0)<|aC (wC<|D.int<|4) aA)<|wC<|D.int<|0) (aQ 1<|w2 gAdd (bX (wN 1) d8<|dO<|w2 Zd (wN 2)<|wC<|D.int<|1)<|aO<|aC (wC<|D.int<|50) aA) cI)<|aJ<|w2 gAdd (bX (wN 1) d8<|dO<|wN 2)<|w1 gRev<|bX (wN 1) d8<|dO<|w2 Zd (wN 2)<|wC<|D.int<|1)
abbrev Ze1:List Str:=["_law_pen", "_law_row", "_law_spot", "_law_odd", "_law_turned", "_law_some"]
def FK:WS:=(aF (aQ 2<|wF gv<|aC (wN 0)<|aC (w2 gAdd (wB bI<|aC (wN 1) aA)<|wC<|D.int<|1) aA)<|aF (aQ 3<|wL<|aU<|aC (aO<|aC (wC<|D.int<|1)<|aC (wC<|D.int<|0) aA)<|aC (aO<|aC (wC<|D.int<|2)<|aC (wC<|D.int<|2) aA)<|aC (aO<|aC (wC<|D.int<|1)<|aC (w1 jZ<|wC<|D.int<|1) aA)<|aC (aO<|aC (wC<|D.bl true)<|aC (wC<|D.int<|1) aA)<|aC (aO<|aC (wC<|D.int<|0)<|aC (wC<|D.int<|2) aA)<|aC (wC<|D.int<|0)<|aC (wC D.non)<|aC (wC<|D.str<|PySem.Str.ofString "1")<|aC (wL<|aU<|aC (wC<|D.int<|1)<|aC (wC<|D.int<|1) aA)<|aC (aO<|aC (wC<|D.int<|1) aA)<|aC (aO<|aC (wC<|D.int<|1)<|aC (wC<|D.int<|1)<|aC (wC<|D.int<|1) aA)<|aC (aO<|aC (wC<|D.int<|1)<|aC (wC<|D.bl true) aA)<|aC (aO<|aC (w2 AK (wC<|D.int<|10)<|wC<|D.int<|25)<|aC (wC<|D.int<|1) aA) aA)<|aF (aQ 3<|w2 gIx (w2 gAdd (wN 3)<|wL<|aU<|aC (aO<|aC (wC<|D.int<|3)<|aC (w2 AK (wC<|D.int<|10)<|wC<|D.int<|25) aA)<|aC (aO<|aC (wC<|D.int<|0)<|aC (wC<|D.int<|1) aA)<|aC (aO<|aC (wC<|D.str<|PySem.Str.ofString "1")<|aC (wC<|D.int<|1) aA)<|aC (wC .dic) aA)<|wF gv<|aC (wN 0)<|aC (wC<|D.int<|17) aA)<|aF (aQ 4<|w2 gAdd (w2 gAdd (bX (wN 1) d8<|dO<|wN 2)<|aO<|aC (wN 3) aA)<|bX (wN 1) (dO<|w2 gAdd (wN 2)<|wC<|D.int<|1) d8)<|aF (aQ 5<|wL<|aU<|aC (wN 4)<|aC (wN 4)<|aC (wN 4)<|aC (bX (wN 1) (dO<|wC<|D.int<|1) d8)<|aC (w2 gAdd (wN 1)<|aO<|aC (aO<|aC (wC<|D.int<|0)<|aC (wC<|D.int<|1) aA) aA)<|aC (wL<|aB (fH (α:=Unit))<|aC (wN 1) aA)<|aC (aO<|aC (wN 1) aA)<|aC (w1 gRev<|wN 1)<|aC (wC D.non)<|aC (aO aA)<|aC (wC<|D.int<|0)<|aC (wC .dic) aA)<|aJ<|w2 gIx (wN 5)<|wF gv<|aC (wN 0)<|aC (wC<|D.int<|12) aA)
abbrev Zdl:List Str:=["_law_table", "_law_thing", "_law_one", "_law_i", "_law_j", "_law_parts"]
def FL:WS:=(aF (cH (dI (bH<|wT<|wB gIs<|aC (wN 1)<|aC (wC<|.ty "list") aA)<|wT<|w2 jq (wB bI<|aC (wN 1) aA)<|wC<|D.int<|10) (aJ<|wC<|D.bl false) cI)<|aF (bG<|bD (iS<|wN 1) (gN 2)<|aF (cH (dI (bH<|wT<|wB gIs<|aC (wN 2)<|aC (wC<|.ty "tuple") aA)<|dI (wT<|w2 (gEq true) (wB bI<|aC (wN 2) aA)<|wC<|D.int<|2)<|dI (bH<|wT<|wF tK<|aC (w2 gIx (wN 2)<|wC<|D.int<|0) aA)<|wT<|w2 (gEq false) (w2 gIx (wN 2)<|wC<|D.int<|0)<|aO<|aC (wC<|D.int<|0)<|aC (wC<|D.int<|1) aA) (aJ<|wC<|D.bl false) cI)<|cH (bH<|wT<|wF vq<|aC (w2 gIx (wN 2)<|wC<|D.int<|1)<|aC (wB bI<|aC (wN 0) aA) aA) (aJ<|wC<|D.bl false) cI)<|bT 5<|aF (bG<|bD (fq<|aC (wB bI<|aC (wN 0) aA) aA) (gN 3)<|bT 5<|bG<|bD (fq<|aC (w2 gAdd (wN 3)<|wC<|D.int<|1) aA) (gN 4)<|aF (cc 5<|aLC (iS<|wN 1) 2 [3,4] (dQ 2<|cJ (gN 0)<|cJ (gN 1) dP) cT<|wF oh<|aC (wL<|aU<|aC (w2 gIx (wN 1)<|wN 2) aA)<|aC (wL<|aU<|aC (w2 gIx (wN 1)<|wN 3) aA) aA)<|bT 5<|cH (wT<|w2 (gEq true) (wF oh<|aC (wL<|aLC (iS<|wN 1) 2 [] (dQ 2<|cJ (gN 0)<|cJ (gN 1) dP) cT<|wN 0)<|aC (wN 5) aA)<|aO<|aC (w2 gIx (w2 gIx (wN 0)<|wN 3)<|wN 4)<|aC (wC<|D.int<|1) aA) (aJ<|wC<|D.bl false) cI)<|aJ<|wC<|D.bl true)
abbrev Zek:List Str:=["_law_table", "_law_many"]
def FM:WS:=(aF (aQ 1<|wC<|D.int<|0)<|aF (bG<|qy (eS (wT<|w2 nZ (wN 1)<|wB bI<|aC (wN 0) aA)<|wT<|w2 (gEq true) (wF vA<|aC (wL<|aLC (iS<|bX (wN 0) d8<|dO<|w2 gAdd (wN 1)<|wC<|D.int<|1) 1 [1] (gN 0) cT<|bX (wN 0) d8<|dO<|w2 gAdd (wN 1)<|wC<|D.int<|1) aA)<|wC<|D.int<|0)<|aQ 1<|w2 gAdd (wN 1)<|wC<|D.int<|1)<|aJ<|wN 1)
abbrev Zc8:List Str:=["_law_pen", "_law_some", "_law_spot", "_law_weight", "_law_row", "_law_odd", "_law_other", "_law_turned", "_law_wrong"]
def FN:WS:=(aF (cH (wT<|w2 (gEq false) (wN 1)<|wL<|aU aA) (aJ<|w2 gIx (wL<|aU<|aC (wL<|aU<|aC (aO<|aC (aO<|aC (wC<|D.int<|1)<|aC (wC<|D.int<|1) aA)<|aC (aO<|aC (aO<|aC (wC<|D.int<|1)<|aC (wC<|D.int<|1) aA) aA) aA) aA)<|aC (wL<|aU<|aC (aO aA) aA)<|aC (aO aA)<|aC (wC D.non)<|aC (wC .dic)<|aC (wL<|aU<|aC (wC D.non) aA) aA)<|wF gv<|aC (wN 0)<|aC (wC<|D.int<|6) aA) cI)<|aF (aQ 2<|wF gv<|aC (wN 0)<|aC (wB bI<|aC (wN 1) aA) aA)<|aF (ee (w2 gIx (wN 1)<|wN 2)<|dQ 2<|cJ (gN 3)<|cJ (gN 4) dP)<|aF (cc 5<|aU<|aC (aO<|aC (wC<|D.int<|0)<|aC (wC<|D.int<|1) aA)<|aC (aO<|aC (w2 gIx (wN 3)<|wC<|D.int<|0)<|aC (w2 Zd (wC<|D.int<|0)<|w2 gIx (wN 3)<|wC<|D.int<|1) aA)<|aC (aO<|aC (w2 gAdd (w2 gIx (wN 3)<|wC<|D.int<|0)<|w2 gIx (wN 3)<|wC<|D.int<|1)<|aC (w2 gIx (wN 3)<|wC<|D.int<|1) aA)<|aC (wC<|D.int<|1)<|aC (wC D.non)<|aC (aO<|aC (wC<|D.int<|2)<|aC (wC<|D.int<|2) aA) aA)<|aF (cU 5<|aO<|aC (w2 Zd (wC<|D.int<|0)<|w2 gIx (wN 3)<|wC<|D.int<|0)<|aC (w2 gIx (wN 3)<|wC<|D.int<|1) aA)<|bT 5<|aF (aQ 6<|wL<|aU<|aC (aO<|aC (w2 gIx (wN 5)<|wF gv<|aC (wN 0)<|aC (wC<|D.int<|7) aA)<|aC (wN 4) aA)<|aC (aO<|aC (wN 3)<|aC (wF wq<|aC (wN 0)<|aC (wN 4) aA) aA)<|aC (aO<|aC (wN 3)<|aC (wN 4)<|aC (wC<|D.int<|0) aA)<|aC (wL<|aU<|aC (wN 3)<|aC (wN 4) aA) aA)<|bT 5<|aF (aQ 6<|w2 gAdd (wN 6)<|wL<|aU<|aC (aO<|aC (wN 4)<|aC (wN 3) aA)<|aC (wC D.non)<|aC (aO<|aC (wN 3) aA) aA)<|aF (aQ 7<|w2 gAdd (w2 gAdd (bX (wN 1) d8<|dO<|wN 2)<|wL<|aU<|aC (w2 gIx (wN 6)<|wF gv<|aC (wN 0)<|aC (wC<|D.int<|7) aA) aA)<|bX (wN 1) (dO<|w2 gAdd (wN 2)<|wC<|D.int<|1) d8)<|aF (aQ 8<|wL<|aU<|aC (wN 7)<|aC (wN 7)<|aC (wN 7)<|aC (wN 7)<|aC (bX (wN 1) (dO<|wC<|D.int<|1) d8)<|aC (w2 gAdd (wN 1)<|bX (wN 1) d8<|dO<|wC<|D.int<|1)<|aC (wB iY<|aC (wN 1) aA)<|aC (wL<|aU<|aC (wN 1) aA)<|aC (wC D.non)<|aC (wC .dic)<|aC (w1 gRev<|wN 1) aA)<|aJ<|w2 gIx (w2 gAdd (wN 8)<|wL<|aU<|aC (w2 gAdd (wN 1)<|wL<|aU<|aC (aO<|aC (aO<|aC (wC<|D.int<|1)<|aC (wC<|D.int<|1) aA)<|aC (wN 4) aA)<|aC (aO<|aC (aO<|aC (w1 jZ<|wC<|D.int<|1)<|aC (wC<|D.int<|1) aA)<|aC (wN 4) aA) aA)<|aC (w2 gAdd (wN 1)<|wL<|aU<|aC (aO<|aC (aO<|aC (wC<|D.int<|0)<|aC (wC<|D.int<|1) aA)<|aC (wN 4) aA) aA) aA)<|wF gv<|aC (wN 0)<|aC (wC<|D.int<|13) aA)
theorem FO(q:Rat):ef (aP q) (.tup [.int 0,.int 1])=decide (q=0):=by rw[<-Bn,yz]
theorem Lg:Rd yR FH ZgB:=by
 rintro _ E Q ⟨⟨x,n⟩,rfl,hk,q⟩;dsimp only at hk q;unfold FH;walk_at "nx";refine j0 hk (by decide) λt ht=>?_;cases x<;>cases ht<;>try exact q
 rename_i xs;obtain⟨hl,hx⟩:=oF hk;walk_at "st";simp only[show eT "tuple" "tuple" = true from rfl,fg,dW,if_false]
 match xs,hl,hx,q with
 |[],_,_,q=>walk_at "st";exact q|[a],_,_,q=>walk_at "st";exact q|a::b::c::r,_,_,q=>walk_at "st";rw[if_pos (by simp;omega)];exact q
 |[a,b],_,hx,q=>
  walk_at "st";rw[if_neg<|by simp];refine⟨_,rfl,IP (hx a<|by simp) ?_⟩;cases ha:cN a with
  |false=>walk_at "st";rw[dh,ha]at q;simpa using q
  |true=>
   obtain⟨p,rfl⟩:=yg ha;rw[dh,ha,si]at q;walk_at "st";refine⟨_,rfl,g0 (pQ _ _) (by decide) ?_⟩;rw[if_pos rfl,FO];cases hp:decide (p=0) with
   |true=>rw[hp]at q;walk_at "st";simpa using q
   |false=>
    rw[hp]at q;walk_at "st";refine⟨_,rfl,Du (hx b<|by simp) ?_⟩;simpa using q
theorem FP{m:Nat}:∀(ps:List Pr) (R:List (List Rat)),R.length=m->(∀r∈R,r.length=m)->(∀p∈ps,p.2.length=m)->(f9 R ps).length=m/\∀r∈f9 R ps,r.length=m
 |[],R,h1,h2,_=>⟨h1,h2⟩|p::ps,R,h1,h2,h3=>by rw[f9];have hp:=h3 p (by simp);refine FP ps _ (by rw[jw,h1,hp,sX]) (λr hr=>?_) λq hq=>h3 q (by simp[hq]);obtain⟨k,hk,rfl⟩:=Ybr.mp hr;rw[oV,cC,jw,hp,h2 _<|fT _,sX]
def en(R:List (List Rat))(i j:Nat):Rat:=(R.getD i []).getD j 0
theorem B8{m:Nat}:∀(ps:List Pr) (R:List (List Rat)) (i j:Nat),i<m->j<m->R.length=m->(∀r∈R,r.length=m)->(∀p∈ps,p.2.length=m)->en (f9 R ps) i j=en R i j-gs ps i j
 |[],R,i,j,_,_,_,_,_=>by rw[f9,gs];grind
 |p::ps,R,i,j,hi,hj,h1,h2,h3=>by
  have hp:=h3 p (by simp);have hr:(R.getD i []).length=m:=by rw[bF,bP<|by omega];exact h2 _<|fT _
  rw[f9,gs,B8 ps _ i j hi hj (by rw[jw,h1,hp,sX]) (λr hr=>?_) λq hq=>h3 q<|by simp[hq]];have e:en (List.zipWith (λrow share=>cC row (p.1*share) p.2) R p.2) i j=en R i j-p.1*p.2.getD i 0*p.2.getD j 0:=by unfold en;simp only[bF];rw[bP (l:=List.zipWith _ R p.2) (i:=i) (by rw[jw];omega),oV,bP (l:=R)<|by omega,bP (l:=p.2) (i:=i)<|by omega];rw[bF,bP<|by omega]at hr;simp only[h8]at hr ⊢;unfold cC;rw[bP (l:=List.zipWith _ _ p.2) (by rw[jw];omega),oV,bP (l:=R[i])<|by omega,bP (l:=p.2)<|by omega];rfl
  rw[e];grind;obtain⟨k,hk,rfl⟩:=Ybr.mp hr;rw[oV,cC,jw,hp,h2 _<|fT _,sX]
theorem FQ{α β:Type}{g1:α->D}{g2:β->D}{f:α->β->D}{we:WE}{tail:cS}{Q:List D->Prop}:∀(A:List α) (C:List β),(∀x∈A,∀y∈C,∀Q:D->Prop,Q (f x y)->we No (.d (g1 x)::.d (g2 y)::tail) Q)->∀(sv sv':SV) (acc:List D),acc.length+A.length<=aL->Q (acc++List.zipWith f A C)->lcW (dQ 2<|cJ (gN 0)<|cJ (gN 1) dP) cT we (cX (A.map g1)<|C.map g2) (sv::sv'::tail) acc Q
 |[],C,_,sv,sv',acc,_,hq=>by
  have e:cX (([]:List α).map g1) (C.map g2)=[]:=by simp[cX]
  rw[e,lcW];simpa using hq
 |x::A,[],_,sv,sv',acc,_,hq=>by
  have e:cX ((x::A).map g1) (([]:List β).map g2)=[]:=by simp[cX]
  rw[e,lcW];simpa using hq
 |x::A,y::C,h,sv,sv',acc,hl,hq=>by
  have e:cX ((x::A).map g1) ((y::C).map g2)=.tup [g1 x,g2 y]::cX (A.map g1) (C.map g2):=by simp[cX]
  rw[e,lcW];refine⟨rfl,?_⟩;show we No (SV.d (g1 x)::SV.d (g2 y)::tail) _;rw[dM]at hl;refine h x (by simp) y (by simp) _ ⟨by omega,FQ A C (λa ha c hc=>h a (by simp[ha]) c<|by simp[hc]) _ _ _ (by simp;omega) ?_⟩;rw[mX];simpa using hq
def LI(b:Nat)(s:List Int)(n:Nat)(al:List Pr)(T:List (List Rat))(ds:List D)(ρ:cS):Prop:=∃(ps:List Pr) (R:List (List Rat)) (k:Nat) (s2 s3 s4:SV),ds=ps.map du/\(∀p∈ps,Pq b n p)/\sG b (k+ps.length)/\f9 R ps=T/\R.length=n/\(∀r∈R,r.length=n/\∀y∈r,Sz (7+(3*b+1)*k) y)/\(s2=.d (.lst<|R.map aG)\/s2=.ow (R.map aG))/\ρ=[.d<|bS s,.d<|cE al,s2,s3,s4]
theorem Lh:Rd yS FI Zkm:=by
 rintro _ E Q ⟨⟨⟨b,s,n⟩,ps⟩,rfl,⟨h,hl,hp⟩,q⟩;dsimp only at h hl hp q;have h5:=h.n5;unfold FI;refine bO<|set_by (ρ':=[.d<|bS s,.d<|cE ps,.d<|.lst<|((tbl s n).map dj).map aG,.un,.un]) rfl (λP hP=>?_) ?_
 show wF tE (aC (wN 0) aA) E [.d<|bS s,.d<|cE ps,.un,.un,.un] P;simp only[wF,aC,aA,wN,fk];refine Dx h ?_;rw[List.map_map]at hP;exact hP;dsimp only;show aF _ _ E _ (pub 2 _);rw[show pub 2 [.d<|bS s,.d<|cE ps,.d<|.lst<|((tbl s n).map dj).map aG,.un,.un]=[.d<|bS s,.d<|cE ps,.d<|.lst<|((tbl s n).map dj).map aG,.un,.un] from rfl];refine bO ?_;show bD _ _ _ _ _ _;refine yI (xs:=ps.map du) (nm_at rfl) ?_;refine qF (LI b s n ps<|f9 ((tbl s n).map dj) ps) ?_ ?_ _ _ ⟨ps,(tbl s n).map dj,0,_,.un,.un,rfl,hp,by rw[Nat.zero_add];exact hl,rfl,by simp[jt],λr hr=>?_,.inl rfl,rfl⟩;rintro d ds _ ⟨ps',R,k,s2,s3,s4,e,hpp,hk,hT,hRl,hR,hs2,rfl⟩ nx hnx;cases ps' with
 |nil=>cases e
 |cons p ps'=>
  rw[cP]at e;injection e with e1 e2
  subst e1 e2;have hp0:=hpp p (by simp);rw[dM]at hk;have hk':7+(3*b+1)*(k+(ps'.length+1))+3*b<8990:=hk;rw[Nat.mul_add,xk]at hk';have fj:cc 2 (aLC (iZ<|aC (wN 2)<|aC (wN 4) aA) 2 [3,4] (dQ 2<|cJ (gN 0)<|cJ (gN 1) dP) cT<|wF sE<|aC (wN 0)<|aC (wF qB<|aC (wN 2)<|aC (wN 1) aA)<|aC (wN 3) aA) (λ_=>False) { nx:=nx,rt:=Q,bk:=bT 2 (aJ<|wN 2) E { nx:=λ_=>Q .non,rt:=Q },ct:=nx } [.d<|bS s,.d<|cE ps,.d<|.lst<|R.map aG,.d<|aP p.1,.d<|aG p.2]:=by
   refine own_by (xs:=List.zipWith (λrow share=>aG<|cC row (p.1*share) p.2) R p.2) rfl (λP hP=>?_)<|hnx _ ⟨ps',List.zipWith (λrow share=>cC row (p.1*share) p.2) R p.2,k+1,_,_,_,rfl,λq hq=>hpp q<|by simp[hq],by rw[show k+1+ps'.length=k+(ps'.length+1) by omega];exact hk,hT,by rw[jw,hRl,hp0.l,sX],λr hr=>?_,.inr<|by rw[zQ],rfl⟩
   unfold aG;walk_at "st";show lcW _ _ _ (cX (R.map λr=>D.tup<|r.map aP)<|p.2.map aP) _ _ _;refine FQ (g1:=λr=>D.tup<|r.map aP) (g2:=aP) (f:=λrow share=>aG<|cC row (p.1*share) p.2) R p.2 (λr hr y hy Q hq=>?_) .un .un [] (by simp[aL];omega) (by simpa using hP);walk_at "st";refine Zm (B2.of hp0.w (hp0.r y hy)<|by omega)<|EY (a:=7+(3*b+1)*k) (b:=b+b) (c:=b) (by omega) (by rw[(hR r hr).1];omega) (hR r hr).2 (hp0.w.mul<|hp0.r y hy) hp0.r hq
   obtain⟨j,hj,rfl⟩:=Ybr.mp hr;rw[oV];rw[jw]at hj;have hrj:=hR _<|fT (show j<R.length by omega);refine⟨by rw[cC,jw,hp0.l,hrj.1,sX],λy hy=>?_⟩;unfold cC at hy;obtain⟨m,hm,rfl⟩:=Ybr.mp hy;rw[jw]at hm;rw[oV];exact((hrj.2 _<|fT _).sub<|(hp0.w.mul<|hp0.r _<|fT _).mul<|hp0.r _<|fT _).mono (by rw[xk];omega)
  rcases hs2 with rfl|rfl
  refine⟨rfl,?_⟩;exact fj;refine⟨rfl,?_⟩;exact fj
 rintro _ ⟨ps',R,k,s2,s3,s4,e,hpp,hk,hT,hRl,hR,hs2,rfl⟩;cases ps' with
 |cons p ps'=>cases e
 |nil=>
  rw[f9]at hT;rw[<-hT]at q;rcases hs2 with rfl|rfl
  exact q;exact q
 obtain⟨r,hr',rfl⟩:=YbL.mp hr;refine⟨by unfold dj;rw[bU];exact(jD h r hr').1,λy hy=>?_⟩;obtain⟨i,hi,rfl⟩:=YbL.mp hy;have:=(jD h r hr').2 i hi;rw[Nat.mul_zero,xm];exact Sz.int i (by decide) (by show i.natAbs<128;omega)
theorem Li{x:D}(h:dh n x=true):∃p:Pr,x=du p/\p.2.length=n/\p.1≠0:=by unfold dh at h;split at h;rename_i w r;rw[c9,c9]at h;obtain⟨p,rfl⟩:=yg h.1.1;obtain⟨t,rfl,ht⟩:=tG h.2;exact⟨(p,t),rfl,by exact_mod_cast ht,by simpa[si] using h.1.2⟩;cases h
theorem Lj(p:Pr):B5 (du p)=p:=by show(sh<|aP p.1,rQ<|aG p.2)=p;rw[si,n8]
theorem yW{n:Nat}:∀{xs:List D},xs.all (dh n)=true->∃ps:List Pr,xs=ps.map du/\∀p∈ps,p.2.length=n/\p.1≠0
 |[],_=>⟨[],rfl,λ_ h=>nomatch h⟩|x::r,h=>by rw[qM,c9]at h;obtain⟨p,rfl,hp⟩:=Li h.1;obtain⟨ps,rfl,hps⟩:=yW h.2;exact⟨p::ps,rfl,λq hq=>by rcases Yam.mp hq with rfl|hq;exact hp;exact hps q hq⟩
theorem qH(ps:List Pr):sqs (cE ps)=ps:=by show(ps.map du).map B5=ps;rw[List.map_map];exact(iJ λp _=>Lj p).trans (xa _)
theorem yX{ps:List Pr}(h:dL b (cE ps)=true)(hn:∀p∈ps,p.2.length=n):∀p∈ps,Pq b n p:=λp hp=>by unfold cE at h;rw[dL,vn]at h;have:=h _<|xf hp;unfold du at this;rw[dL,dY,dY,dY,c9,c9,Zkv,ZcK]at this;exact⟨hn p hp,this.1,this.2.1⟩
theorem Lk{ps:List Pr}(h:IsSl s n)(hp:∀p∈ps,p.2.length=n):(f9 ((tbl s n).map dj) ps=List.replicate n (List.replicate n (0:Rat)))↔p9 s n ps:=by
 have hR:((tbl s n).map dj).length=n:=by simp[jt]
 have hr:∀r∈(tbl s n).map dj,r.length=n:=λr hr=>by obtain⟨r,hr',rfl⟩:=YbL.mp hr;unfold dj;rw[bU];exact(jD h r hr').1
 have L:=FP ps _ hR hr hp;have en0:∀i j,i<n->j<n->en ((tbl s n).map dj) i j=(tT s n i j:Rat):=λi j hi hj=>by
  unfold en tT ga gr;have hl:=jt s n;have hi':i<(tbl s n).length:=by omega
  have hj':=(jD h _<|fT hi').1;simp only[bF];rw[bP (l:=tbl s n) hi',bP (l:=(tbl s n).map dj)<|by omega,oC];simp only[h8];unfold dj;rw[cD,bP<|by omega];rfl
 constructor;intro e i hi j hj;have:=B8 ps _ i j hi hj hR hr hp;rw[e,en0 i j hi hj]at this;have z:en (List.replicate n<|List.replicate n (0:Rat)) i j=0:=by unfold en;simp[bF,lD,hi,hj]
 rw[z]at this;grind;intro e;refine sY (by rw[L.1,oO]) λi h1 h2=>?_;rw[List.getElem_replicate];have hl:=L.2 _<|fT h1;refine sY (by rw[hl,oO]) λj h3 h4=>?_;rw[List.getElem_replicate];have:=B8 ps _ i j (by omega) (by omega) hR hr hp;rw[en0 i j (by omega)<|by omega,e i (by omega) j<|by omega]at this;unfold en at this;simp only[bF]at this;rw[bP h1]at this;simp only[h8]at this;rw[bP h3]at this;simp only[h8]at this;rw[this];grind
theorem Ll:Rd B7 FJ Zfd:=by
 rintro _ E Q ⟨⟨⟨b,s,n⟩,x⟩,rfl,⟨h,hk,hz,hf⟩,q⟩;dsimp only at h hk hz hf q;have h5:=h.n5;have hsl:=h.len;unfold B6 at q;unfold FJ;walk_at "nx";refine⟨bS s,rfl,AV<|by omega,?_⟩;dsimp only;unfold jr;rw[if_pos<|AZ h];unfold pY;rw[lL];by_cases he:s.reverse=s;rw[if_pos<|by simpa using he];rw[if_pos he]at q;replace q:Q (.bl<|mU s n x):=q;dsimp only[exQ];unfold bS;walk_at "nx";refine AY (by simpa using(by omega:s.length<=5000)) ?_;rw[bU,show((s.length:Int)+1)/2=n by omega];walk_at "nx";refine j0 hk (by decide) λt ht=>?_;cases x<;>cases ht<;>try exact q
 rename_i xs;obtain⟨hl,hx⟩:=Ds hk;walk_at "st";simp only[show eT "list" "list" = true from rfl,fg,dW,if_false];walk_at "st";by_cases h10:xs.length<=10;rw[if_neg (by simp;omega)];show aF _ _ _ _ _;walk_at "nx";refine rY (f:=λd=>.bl<|dh n d) (λd hd Q hq=>?_) .un [] (by simp[aL];omega) ?_;walk_at "st";exact K6 (hx d hd) hq;refine⟨xs.map<|dh n,by simp,?_⟩;rw[tX,show(id∘dh (n:Int))=dh (n:Int) from rfl];replace q:Q (.bl ((decide (xs.length<=10)&&xs.all (dh n))&&decide (p9 s n<|sqs<|.lst xs))):=q;cases ha:xs.all (dh n) with
 |false=>rw[ha]at q;simpa using q
 |true=>
  obtain⟨ps,rfl,hps⟩:=yW ha;rw[ha,Nj h10,show sqs (.lst<|ps.map du)=ps from qH ps]at q;have hf:=hf _ rfl h10;rw[bU]at h10 hf;rw[if_neg<|by simp];refine K7 h hf (yX hz λp hp=>(hps p hp).1) ⟨by decide,by omega,by omega,by simp[aL];omega,by decide,by omega,by omega,by simp[aL];omega,?_⟩;have e1:(List.replicate n [D.tup [D.int 0,D.int 1]]).flatten=(List.replicate n (0:Rat)).map aP:=by rw[sV,show aP 0=D.tup [D.int 0,D.int 1] from Bn,xo]
  have e2:(List.replicate n [D.tup (List.replicate n [D.tup [D.int 0,D.int 1]]).flatten]).flatten=(List.replicate n<|List.replicate n (0:Rat)).map aG:=by rw[e1,sV (f:=aG),xo];rfl
  rw[e2];refine g0 (rZ λx hx=>?_) (rZ λx hx=>?_) ?_;obtain⟨r,_,rfl⟩:=YbL.mp hx;exact u8 r _;obtain⟨r,_,rfl⟩:=YbL.mp hx;exact u8 r _;rw[if_neg<|by simp,Kz ET,decide_eq_decide.mpr<|Lk h λp hp=>(hps p hp).1];simpa using q
 rw[if_pos (by simp;omega)];replace q:Q (.bl ((decide (xs.length<=10)&&xs.all (dh n))&&decide (p9 s n<|sqs<|.lst xs))):=q;rw[decide_eq_false h10]at q;exact q;rw[if_neg<|by simpa using he];rw[if_neg he]at q;exact q
theorem Lm:Rd yT Zf Zfe:=by
 rintro _ E Q ⟨_,rfl,_,q⟩;have fin:∀ (s:List Int) (n:Nat),s.length=n->1<=n->n<=5->(∀ x∈s,-50<=x/\x<=50)->Q (D.tup<|(s.map D.int)++((s.take<|n - 1).map D.int).reverse):=λs n h1 h2 h3 h4=>q _ ⟨s++(s.take<|n - 1).reverse,n,⟨by simp;omega,h2,h3,λx hx=>by
  rcases Yan.mp hx with hx|hx
  .exact h4 x hx
  .exact h4 x<|m6<|Ycs.mp hx⟩,by
   rw[List.reverse_append,List.reverse_reverse];have:s=s.take (n-1)++s.drop (n-1):=(List.take_append_drop _ _).symm;have hd:∃a,s.drop (n-1)=[a]:=List.length_eq_one_iff.mp (by rw[mW];omega);obtain⟨a,ha⟩:=hd;rw[ha]at this;have t:s.take (n-1)=(s.take (n-1)++[a]).take (n-1):=by rw[<-this]
   generalize s.take (n-1)=u at *;subst this;simp,by unfold bS;rw[oR,sT]⟩
 unfold Zf;walk_at "nx";refine JX λs n h=>?_;have h1:=h.n1;have h5:=h.n5;have hsl:=h.len;have hb:=h.b;unfold bS;walk_at "nx";refine⟨⟨by decide,iC (n:=2) (by decide)<|by omega⟩,?_⟩;rw[bU,zL _<|by decide,show((s.length:Int)+1)/2=n by omega];have c1:∀{l:List Int},bE (l.map D.int) none (some (n:Int))=(l.take n).map D.int:=λ{l}=>by rw[kI rfl,jI]
 have c2:∀{l:List Int},bE (l.map D.int) none (some<|(n:Int)-1)=(l.take<|n-1).map D.int:=λ{l}=>by rw[kI (b:=n-1)<|by omega,jI]
 refine qE (λρ=>∃l:List Int,ρ=[.d .pen,.d<|.tup<|l.map .int,.d<|.int n]/\n<=l.length/\l.length<=10/\∀x∈l,-50<=x/\x<=50) (λnx hnx=>?_) ?_;walk_at "st";refine g6 (n:=4) (by decide) (by decide) λk hk=>?_;walk_at "st";split;rw[c2];refine⟨by decide,f7 (by simp;omega),?_⟩;exact hnx _ ⟨s.take (n - 1)++[50],by simp,by simp;omega,by simp;omega,λx hx=>by
  rcases Yan.mp hx with hx|hx
  .exact hb x (m6 hx)
  .rw[Ycm.mp hx];decide⟩
 exact hnx _ ⟨s,rfl,by omega,by omega,hb⟩;rintro _ ⟨l,rfl,hl1,hl2,hlb⟩;walk_at "st";rw[c1,c2];refine Eg (f7 (by simp;omega)) ?_;have:=fin (l.take n) n (by simp;omega) h1 h5 λx hx=>hlb x<|m6 hx;rw[List.take_take,tY<|by omega]at this;exact this
theorem FR{w:Nat}{a b:Option Int}(h:∀x∈xs,fx x ws=true)(hl:xs.length<=w):fx (.tup<|bE xs a b) (w::ws)=true/\fx (.lst<|bE xs a b) (w::ws)=true:=by have:=yu (xs:=xs) (a:=a) (b:=b);exact⟨oj (by omega) λx hx=>h x<|mT hx,ol (by omega) λx hx=>h x<|mT hx⟩
theorem Ln:Rd wq FK Ze1:=by
 rintro _ E Q ⟨r,rfl,⟨hr1,hr5,hsz⟩,q⟩;dsimp only at hr1 hr5 hsz q;unfold FK;walk_at "nx";rw[show(r.length:Int)+1=((r.length+1:Nat):Int) by omega];refine g6 (n:=r.length+1) (by omega) (by omega) λk hk=>?_;walk_at "nx";refine⟨by decide,by decide,by decide,by decide,by decide,by decide,by decide,by decide,by decide,⟨by decide,by decide,by decide⟩,by decide,by decide,?_⟩;walk_at "nx";refine⟨⟨by decide,by decide,by decide⟩,by decide,by decide,by decide,by decide,by decide,g6 (n:=17) (by decide) (by decide) λk17 hk17=>?_⟩;obtain ⟨odd,hat,hodd⟩:=tI (P:=λd=>fx d [7,7]=true) (xs:=[D.tup [D.int 1,D.int 0],D.tup [D.int 2,D.int 2],D.tup [D.int 1,D.int (-1)],D.tup [D.bl true,D.int 1],D.tup [D.int 0,D.int 2],D.int 0,D.non,D.str<|PySem.Str.ofString "1",D.lst [D.int 1,D.int 1],D.tup [D.int 1],D.tup [D.int 1,D.int 1,D.int 1],D.tup [D.int 1,D.bl true],D.tup [D.int<|10 ^ 25,D.int 1],D.tup [D.int 3,D.int<|10 ^ 25],D.tup [D.int 0,D.int 1],D.tup [D.str<|PySem.Str.ofString "1",D.int 1],D.dic]) (k:=k17) hk17 (by
  intro x hx;simp only[Yam,d7,or_false]at hx;rcases hx with rfl|rfl|rfl|rfl|rfl|rfl|rfl|rfl|rfl|rfl|rfl|rfl|rfl|rfl|rfl|rfl|rfl<;>decide +kernel)
 refine⟨_,hat,?_⟩;walk_at "nx";have ct:=Ez (r.map aP) k;have c1:=yu (xs:=r.map aP) (a:=some 1) (b:=none);rw[bU]at ct c1;have hxq:∀x∈r.map aP,fx x [7,7]=true:=λx hx=>by obtain⟨y,hy,rfl⟩:=YbL.mp hx;exact yH (by decide)<|(hsz y hy).mono (by decide)
 refine⟨by decide,f7<|by omega,f7 (by simp;omega),?_⟩;generalize hT:D.tup (bE (r.map aP) none (some (k:Int))++[odd]++bE (r.map aP) (some<|(k:Int)+1) none)=T;have ht:fx T [7,7,7]=true:=by
  rw[<-hT];refine oj (by simp;omega) λx hx=>?_;simp only[Yan,Yam,d7,or_false]at hx;rcases hx with(hx|rfl)|hx
  exact hxq x<|mT hx
  exact hodd;exact hxq x<|mT hx
 clear hT hat;refine bO (EA (xs:=[T,T,T,D.tup<|bE (r.map aP) (some 1) none,D.tup<|r.map aP++[D.tup [D.int 0,D.int 1]],D.lst<|r.map aP,D.tup [aG r],aG r.reverse,D.non,D.tup [],D.int 0,D.dic])
  (gP (nm_at rfl)<|gP (nm_at rfl)<|gP (nm_at rfl)<|gP (λP h=>by walk_at "st";exact h)<|gP (λP h=>?_)<|gP (λP h=>h)<|gP (λP h=>⟨show 1<=aL by decide,h⟩)<|gP (λP h=>by walk_at "st";exact h)<|gP n9<|gP (λP h=>⟨by decide,h⟩)<|gP n9<|gP n9 EB) (show 12<=aL by decide) ?_)
 walk_at "st";exact⟨by decide,by decide,Eg (f7 (by simp;omega)) h⟩;walk_at "st";refine g6 (n:=12) (by decide) (by decide) λk12 hk12=>?_;obtain ⟨d,hd,hgd⟩:=tI (P:=λd=>fx d [7,7,7]=true) (xs:=[T,T,T,D.tup<|bE (r.map aP) (some 1) none,D.tup<|r.map aP++[D.tup [D.int 0,D.int 1]],D.lst<|r.map aP,D.tup [aG r],aG r.reverse,D.non,D.tup [],D.int 0,D.dic]) (k:=k12) (by simpa using hk12) (by
  intro x hx;simp only[Yam,d7,or_false]at hx;rcases hx with rfl|rfl|rfl|rfl|rfl|rfl|rfl|rfl|rfl|rfl|rfl|rfl
  .exact ht
  .exact ht
  .exact ht
  .exact(FR hxq (by simp;omega)).1
  .refine oj (by simp;omega) λx hx=>?_
   rcases Yan.mp hx with hx|hx
   .exact hxq x hx
   .rw[Ycm.mp hx];decide +kernel
  .exact ol (by simp;omega) hxq
  .exact oj (by simp) λx hx=>by rw[Ycm.mp hx];exact vF (by decide) (by omega) λy hy=>(hsz y hy).mono (by decide)
  .exact vF (by decide) (by simp;omega) λx hx=>(hsz x<|Ycs.mp hx).mono (by decide)
  .decide +kernel
  .decide +kernel
  .decide +kernel
  .decide +kernel)
 exact⟨_,hd,q d hgd⟩
end B.C.Q0
local macro_rules | `(tactic| walk_at "w1")=>`(tactic| simp only [aJ,cH,aQ,cI,ig,bT,cc,bD,jC,eI,ee,cU,ge,eJ,kH,bG,i7,fi,wM,Zda,fo,fG,jo,eS,dI,bH,wT,kC,w1,w2,wB,wF,wL,aO,bX,Zbg,aB,aU,aC,aA,aLC,ZbV,cT,iS,iE,iL,iT,fq,iA,iZ,d8,dO,wN,wC,gN,dQ,cJ,dP,dR,kE,eW,dB,fJ,B4,K3,df,cM,eV,fK,aCut,eQ,pub,cP,gB,dM,jG,gU,dJ,List.replicate,fk,fO,List.set_cons_zero,List.set_cons_succ,Nat.reduceSub,Nat.reduceAdd,hX,kf,true_and,dW,if_true,if_false,ite_true,ite_false,iq,fg,lF,
 lM,lN,lO,lP,lQ,lR,lS,lT,Ze,lU,lV,lW,lX,lY,lZ,l3,l4,l5,l6,l7,l8,md,me,mf,mh,mi,mj,ml,mn,mo,mq,mr,ms,mx,mz,mB,mC,mD,mE,mF,mG,mH,Zb,mI,mJ,mK,mL,mM,mO,f6,Zh,mP,mQ,mR,mS,gw,gx])
namespace B.C.Q0
theorem Lo{E:Ex->Prop}{x:D}(e:(ρ.set i<|.d x).set j (.d y)=ρ')(hw:∀P:D->Prop,P (.tup [x,y])->w E ρ P)(h:N.nx ρ'):ee w (dQ 2<|cJ (gN i)<|cJ (gN j) dP) E N ρ:=hw _ ⟨rfl,by rw[<-e]at h;exact h⟩
theorem B9{E:Ex->Prop}(e:ρ[i]? = some (.ow xs))(hl:xs.length<aL)(e2:ρ.set i (.ow<|xs++[d])=ρ')(hw:∀P:D->Prop,P d->w E ρ P)(h:N.nx ρ'):cU i w E N ρ:=by unfold cU;rw[e];exact hw _ ⟨hl,by rw[e2];exact h⟩
theorem FS{wi:WE}{E:Ex->Prop}(e:ρ[i]? = some (.ow xs))(hk:k<xs.length)(e2:ρ.set i (.ow<|xs.set k d)=ρ')(hv:∀P:D->Prop,P d->wv E ρ P)(hi:∀P:D->Prop,P (.int k)->wi E ρ P)(h:N.nx ρ'):ge i wi wv E N ρ:=by unfold ge;rw[e];exact hv _<|hi _ ⟨k,B.C.ixN_nat hk,by rw[e2];exact h⟩
end B.C.Q0
namespace B.C.Q0
theorem Ca{g:G2}{E:Ex->Prop}{x:D}{b:Bool}(ha:∀P:D->Prop,P x->wa E ρ P)(hb:∀P:D->Prop,P y->wb E ρ P)(hg:∀P:D->Prop,P (.bl b)->g x y P):∀P:Bool->Prop,P b->wT (w2 g wa wb) E ρ P:=λP h=>ha _<|hb _ (hg _ h)
theorem mV{E:Ex->Prop}(R:D->Prop)(hw:∀P:D->Prop,(∀d,R d->P d)->w E ρ P)(h:∀d,R d->N.nx (ρ.set i<|.d d)):aQ i w E N ρ:=hw _ h
theorem FT(ps:List Pr):dg (cE ps) 60=true:=rZ λx hx=>by
 obtain⟨p,_,rfl⟩:=YbL.mp hx;refine u7 λy hy=>?_;simp only[Yam,d7,or_false]at hy;rcases hy with rfl|rfl
 exact pQ _ _;exact u8 _ _
theorem FU{w:Nat}{p:Pr}(hw:2<=w)(h5:n<=5)(h:Pq 115 n p):fx (du p) (w::7::7::ws)=true:=by
 refine oj hw λx hx=>?_;simp only[Yam,d7,or_false]at hx;rcases hx with rfl|rfl
 exact yH (by decide) h.w;exact vF (by decide) (by rw[h.l];omega) h.r
theorem FV{w v:Nat}{ps:List Pr}(hw:ps.length<=w)(hv:2<=v)(h5:n<=5)(h:∀p∈ps,Pq 115 n p):fx (cE ps) (w::v::7::7::ws)=true:=ol (by simpa using hw) λx hx=>by obtain⟨p,hp,rfl⟩:=YbL.mp hx;exact FU hv h5<|h p hp
theorem Lp:Rd yV FN Zc8:=by
 rintro _ E Q ⟨⟨n,ps⟩,rfl,⟨h1,h5,hl,hp⟩,q⟩;dsimp only at h1 h5 hl hp q;have hp':∀p∈ps,Pq 115 n p:=λp h=>⟨(hp p h).l,(hp p h).w.mono<|by decide,λy hy=>((hp p h).r y hy).mono<|by decide⟩;unfold FN;show aF _ _ _ _ [.d .pen,.d<|cE ps,.un,.un,.un,.un,.un,.un,.un];refine bO<|g9 (b:=decide (ps=[])) (Ca (x:=cE ps) (y:=.lst []) (nm_at rfl) (λP h=>⟨by decide,h⟩)<|λP h=>g0 (FT ps) (by decide) ?_) (λe=>?_) (λe=>?_)
 rw[if_neg<|by simp];cases ps with
 |nil=>exact h|cons p r=>exact h
 have e:=NI e;walk_at "st";refine⟨by decide,by decide,by decide,by decide,by decide,by decide,by decide,by decide,by decide,by decide,g6 (n:=6) (by decide) (by decide) λk hk=>?_⟩;obtain ⟨d,hd,hgd⟩:=tI (P:=Th) (xs:=[D.lst [D.tup [D.tup [D.int 1,D.int 1],D.tup [D.tup [D.int 1,D.int 1]]]],D.lst [D.tup []],D.tup [],D.non,D.dic,D.lst [D.non]]) (k:=k) (by simpa using hk) (by
  intro x hx;simp only[Yam,d7,or_false]at hx;rcases hx with rfl|rfl|rfl|rfl|rfl|rfl<;>exact .inl<|by decide +kernel)
 exact⟨_,hd,q d hgd⟩;have e:=of_decide_eq_false e;have hne:0<ps.length:=List.length_pos_iff.mpr e;dsimp only;refine bO<|mV (λd=>∃k:Nat,k<ps.length/\d=.int k) (λP h=>?_) ?_
 unfold cE;walk_at "st";rw[bU];exact g6 (n:=ps.length) hne (by omega) λk hk=>h _ ⟨k,hk,rfl⟩;rintro _ ⟨k,hk,rfl⟩;obtain⟨p,hpk⟩:∃p,ps[k]? = some p:=⟨_,bP hk⟩;have hp0:=hp p<|ip hpk;have hp1:=hp' p<|ip hpk;dsimp only[List.set_cons_succ,List.set_cons_zero];refine bO<|Lo (x:=aP p.1) (y:=aG p.2) (ρ':=[.d .pen,.d<|cE ps,.d<|.int k,.d<|aP p.1,.d<|aG p.2,.un,.un,.un,.un]) rfl (λP h=>?_) ?_
 unfold cE;walk_at "st";exact⟨_,bC (by rw[cD,hpk];rfl),h⟩;dsimp only;have w1:=hp0.w.1;have w2:=hp0.w.2;refine bO<|own_by (xs:=[D.tup [D.int 0,D.int 1],D.tup [D.int p.1.num,D.int<|0-(p.1.den:Int)],D.tup [D.int<|p.1.num+(p.1.den:Int),D.int p.1.den],D.int 1,D.non,D.tup [D.int 2,D.int 2]]) rfl (λP h=>?_) ?_
 unfold aP;walk_at "st";refine⟨by decide,_,rfl,_,rfl,⟨trivial,by decide,_,rfl,_,rfl,?_⟩⟩;exact⟨_,rfl,by decide,by decide,by decide,h⟩;dsimp only[List.set_cons_succ,List.set_cons_zero];have hwd:((p.1.den:Int)).natAbs<2^115:=by rw[ke];exact hp1.w.2
 have hodd:∀x∈[D.tup [D.int 0,D.int 1],D.tup [D.int p.1.num,D.int<|0-(p.1.den:Int)],D.tup [D.int<|p.1.num+(p.1.den:Int),D.int p.1.den],D.int 1,D.non,D.tup [D.int 2,D.int 2]]++[D.tup [D.int<|0-p.1.num,D.int p.1.den]],fx x [7,7,7]=true:=by
  have two:∀a b:Int,a.natAbs<2^115->b.natAbs<2^115->fx (.tup [.int a,.int b]) [7,7,7]=true:=λa b ha hb=>oj (by simp) λx hx=>by
   simp only[Yam,d7,or_false]at hx;rcases hx with rfl|rfl
   exact vE ha;exact vE hb
  intro x hx;simp only[gU,dJ,Yam,d7,or_false]at hx;rcases hx with rfl|rfl|rfl|rfl|rfl|rfl|rfl
  decide +kernel;exact two _ _ hp1.w.1 (by omega);exact two _ _ (by omega) hwd;decide +kernel;decide +kernel;decide +kernel;exact two _ _ (by have:=hp1.w.1;omega) hwd
 generalize hO:[D.tup [D.int 0,D.int 1],D.tup [D.int p.1.num,D.int<|0-(p.1.den:Int)],D.tup [D.int<|p.1.num+(p.1.den:Int),D.int p.1.den],D.int 1,D.non,D.tup [D.int 2,D.int 2]]=O at hodd ⊢;have hOl:O.length=6:=by rw[<-hO];rfl
 clear hO;refine bO<|B9 (xs:=O) (d:=D.tup [D.int<|0-p.1.num,D.int p.1.den]) rfl (by rw[hOl];decide) rfl (λP h=>?_) ?_
 unfold aP;walk_at "st";exact⟨_,rfl,trivial,_,rfl,by decide,h⟩;dsimp only[List.set_cons_succ,List.set_cons_zero];generalize hO2:O++[D.tup [D.int<|0-p.1.num,D.int p.1.den]]=O2 at hodd ⊢;have hO2l:O2.length=7:=by rw[<-hO2];simp[hOl]
 clear hO2 hOl;have hr0:1<=p.2.length/\p.2.length<=5:=by rw[hp0.l];exact⟨h1,h5⟩
 have fw:fx (aP p.1) [7,7,7]=true:=yH (by decide) hp1.w;have fr:fx (aG p.2) [7,7,7]=true:=vF (by decide) (by omega) hp1.r;have tp:∀xs:List D,xs.length<=3->(∀x∈xs,fx x [7,7,7]=true)->fx (.tup xs) [3,7,7,7]=true:=λxs h1 h2=>oj h1 h2;show aF _ _ _ _ [.d .pen,.d<|cE ps,.d<|.int k,.d<|aP p.1,.d<|aG p.2,.d<|.lst O2,.un,.un,.un];refine bO<|mV (λd=>∃xs,d=.lst xs/\xs.length=4/\∀x∈xs,fx x [3,7,7,7]=true) (λP h=>?_) ?_
 walk_at "st";refine g6 (n:=7) (by decide) (by decide) λk7 hk7=>?_;obtain⟨d,hd,hgd⟩:=tI (P:=λd=>fx d [7,7,7]=true) (xs:=O2) (k:=k7) (by omega) hodd;refine⟨d,hd,by decide,FG hr0.1 hr0.2 hp0.r λb hb=>⟨by decide,by decide,by decide,by decide,h _ ⟨_,rfl,rfl,?_⟩⟩⟩;intro x hx;simp only[Yam,d7,or_false]at hx;rcases hx with rfl|rfl|rfl|rfl
 exact tp _ (by simp) (by simp[hgd,fr]);exact tp _ (by simp) (by simp[fw,hb]);exact tp _ (by simp) (by simp[fw,fr,show fx (.int 0) [7,7,7]=true by decide +kernel]);exact ol (by simp) (by simp[fw,fr]);rintro _ ⟨xs,rfl,hxl,hxs⟩;dsimp only[List.set_cons_succ,List.set_cons_zero];show aF _ _ _ _ [.d .pen,.d<|cE ps,.d<|.int k,.d<|aP p.1,.d<|aG p.2,.d<|.lst O2,.d<|.lst xs,.un,.un];refine bO<|mV (λd=>∃xs,d=.lst xs/\xs.length=7/\∀x∈xs,fx x [3,7,7,7]=true) (λP h=>?_) ?_
 walk_at "st";refine⟨by decide,by decide,by decide,f7 (by simp;omega),h _ ⟨_,rfl,by simp[hxl],λx hx=>?_⟩⟩;rcases Yan.mp hx with hx|hx
 exact hxs x hx;simp only[Yam,d7,or_false]at hx;rcases hx with rfl|rfl|rfl
 exact tp _ (by simp) (by simp[fw,fr]);decide +kernel;exact tp _ (by simp) (by simp[fw]);rintro _ ⟨xs,rfl,hxl,hxs⟩;dsimp only[List.set_cons_succ,List.set_cons_zero];have hpf:∀x∈ps.map du,fx x [3,7,7,7]=true:=λx hx=>by obtain⟨p,hp,rfl⟩:=YbL.mp hx;exact FU (by decide) h5<|hp' p hp
 refine bO<|mV (λd=>fx d [21,3,7,7,7]=true) (λP h=>?_) ?_
 unfold cE;walk_at "st";have ct:=Ez (ps.map du) k;rw[bU]at ct;refine g6 (n:=7) (by decide) (by decide) λk7 hk7=>?_;obtain⟨d,hd,hgd⟩:=tI (P:=λd=>fx d [3,7,7,7]=true) (xs:=xs) (k:=k7) (by omega) hxs;refine⟨d,hd,by decide,f7<|by omega,f7 (by simp;omega),h _<|ol (by simp;omega) λx hx=>?_⟩;simp only[Yan,Yam,d7,or_false]at hx;rcases hx with(hx|rfl)|hx
 exact hpf x<|mT hx
 exact hgd;exact hpf x<|mT hx
 intro T hT;dsimp only[List.set_cons_succ,List.set_cons_zero];have fl:fx (cE ps) [21,3,7,7,7]=true:=ol (by simp;omega) hpf;have c1:=yu (xs:=ps.map du) (a:=some 1) (b:=none);have c2:=yu (xs:=ps.map du) (a:=none) (b:=some 1);rw[bU]at c1 c2;have c3:(bE (ps.map du) none<|some 1).length<=1:=by rw[show(some (1:Int))=some ((1:Nat):Int) from rfl,kI (b:=1) rfl];simp;omega
 refine bO (EA (xs:=[T,T,T,T,D.lst<|bE (ps.map du) (some 1) none,D.lst<|ps.map du++bE (ps.map du) none (some 1),D.tup<|ps.map du,D.lst [cE ps],D.non,D.dic,D.lst (ps.map du).reverse])
  (gP (nm_at rfl)<|gP (nm_at rfl)<|gP (nm_at rfl)<|gP (nm_at rfl)<|gP (λP h=>by unfold cE;walk_at "st";exact h)<|gP (λP h=>?_)<|gP (λP h=>by unfold cE;walk_at "st";exact h)<|gP (λP h=>⟨show 1<=aL by decide,h⟩)<|gP n9<|gP n9<|gP (λP h=>by unfold cE;walk_at "st";exact h) EB) (show 11<=aL by decide) ?_)
 unfold cE;walk_at "st";exact⟨f7 (by simp;omega),h⟩;have hW:∀x∈[T,T,T,T,D.lst<|bE (ps.map du) (some 1) none,D.lst<|ps.map du++bE (ps.map du) none (some 1),D.tup<|ps.map du,D.lst [cE ps],D.non,D.dic,D.lst (ps.map du).reverse],Th x:=by
  intro x hx;simp only[Yam,d7,or_false]at hx;rcases hx with rfl|rfl|rfl|rfl|rfl|rfl|rfl|rfl|rfl|rfl|rfl
  exact .inl hT;exact .inl hT;exact .inl hT;exact .inl hT;exact .inl (FR hpf (by simp;omega)).2;refine .inl (ol (by simp;omega) λx hx=>?_);rcases Yan.mp hx with hx|hx
  exact hpf x hx;exact hpf x<|mT hx
  exact .inl<|oj (by simp;omega) hpf
  exact .inr (ol (by simp) λx hx=>by rw[Ycm.mp hx];exact FV (by omega) (by decide) h5 hp');exact .inl (by decide +kernel);exact .inl (by decide +kernel);exact .inl<|ol (by simp;omega) λx hx=>hpf x (Ycs.mp hx)
 generalize hWe:[T,T,T,T,D.lst<|bE (ps.map du) (some 1) none,D.lst<|ps.map du++bE (ps.map du) none (some 1),D.tup<|ps.map du,D.lst [cE ps],D.non,D.dic,D.lst (ps.map du).reverse]=W at hW ⊢;have hWl:W.length=11:=by rw[<-hWe];rfl
 clear hWe;dsimp only[List.set_cons_succ,List.set_cons_zero];unfold cE;walk_at "st";have two:∀a:Int,a.natAbs<2^115->fx (.tup [.tup [.int a,.int 1],aG p.2]) [3,7,7,7]=true:=λa ha=>tp _ (by simp) λx hx=>by
  simp only[Yam,d7,or_false]at hx;rcases hx with rfl|rfl
  exact oj (by simp) λx hx=>by
   simp only[Yam,d7,or_false]at hx;rcases hx with rfl|rfl
   exact vE ha;decide +kernel
  exact fr
 refine⟨by decide,by decide,by decide,by decide,by decide,f7 (by simp;omega),by decide,by decide,by decide,f7 (by simp;omega),by decide,f7<|by omega,g6 (n:=13) (by decide) (by decide) λk13 hk13=>?_⟩;obtain ⟨d,hd,hgd⟩:=tI (P:=Th) (xs:=W++[D.lst<|ps.map du++[D.tup [D.tup [D.int 1,D.int 1],aG p.2],D.tup [D.tup [D.int (-1),D.int 1],aG p.2]],D.lst<|ps.map du++[D.tup [D.tup [D.int 0,D.int 1],aG p.2]]]) (k:=k13) (by simp [hWl];omega) (by
  intro x hx;rcases Yan.mp hx with hx|hx
  .exact hW x hx
  simp only[Yam,d7,or_false]at hx;rcases hx with rfl|rfl
  .refine .inl (ol (by simp;omega) λx hx=>?_)
   rcases Yan.mp hx with hx|hx
   .exact hpf x hx
   simp only[Yam,d7,or_false]at hx;rcases hx with rfl|rfl
   .exact two _ (by decide)
   .exact two _ (by decide)
  .refine .inl (ol (by simp;omega) λx hx=>?_)
   rcases Yan.mp hx with hx|hx
   .exact hpf x hx
   rw[Ycm.mp hx];exact two _<|by decide)
 exact⟨d,hd,q d hgd⟩
theorem Th.kd{x:D}(h:Th x):kd x=true/\dL 115 x=true:=by
 rcases h with h|h
 exact yG x _ (by decide) h;exact yG x _ (by decide) h
theorem Lq{E:Ex->Prop}(R:List D->Prop)(hw:∀P:D->Prop,(∀xs,R xs->P (.lst xs))->w E ρ P)(h:∀xs,R xs->Zby g zb E N xs ρ):bD (iS w) g zb E N ρ:=hw _ h
theorem wu{ps:List Pr}(h:ps.length<=21)(h5:n<=5)(hp:∀p∈ps,Pq 114 n p):Th (cE ps):=.inl<|FV h (by decide) h5 λp hq=>⟨(hp p hq).l,(hp p hq).w.mono<|by decide,λy hy=>((hp p hq).r y hy).mono<|by decide⟩
theorem Pq.up{p:Pr}(h:Pq b n p)(l:b<=c):Pq c n p:=⟨h.l,h.w.mono l,λy hy=>(h.r y hy).mono l⟩
theorem Cb(k:Nat):dg (.tup [.str "even"]) (k+1)=true:=u7 λx hx=>by rw[Ycm.mp hx,dg];decide +kernel
end B.C.Q0
def aN(f:Nat->Rat):Nat->Rat
 |0=>0|n+1=>aN f n+f n
theorem fS{f g:Nat->Rat}:∀{n:Nat},(∀i,i<n->f i=g i)->aN f n=aN g n
 |0,_=>rfl|n+1,h=>by rw[aN,aN,fS<|λi hi=>h i<|by omega,h n<|by omega]
theorem qI{f:Nat->Rat}:∀{n:Nat},(∀i,i<n->f i=0)->aN f n=0
 |0,_=>rfl|n+1,h=>by rw[aN,qI<|λi hi=>h i<|by omega,h n<|by omega,lE]
theorem kJ{f:Nat->Rat}{k:Nat}:∀{n:Nat},k<n->(∀i,i<n->i≠k->f i=0)->aN f n=f k
 |0,h,_=>by omega|n+1,h,h0=>by rw[aN];by_cases e:k=n;subst e;rw[qI<|λi hi=>h0 i (by omega)<|by omega,xc];rw[kJ (k:=k) (by omega)<|λi hi hk=>h0 i (by omega) hk,h0 n (by omega)<|Nr e,lE]
theorem qa(f g:Nat->Rat):∀n:Nat,aN (λi=>f i-g i) n=aN f n-aN g n
 |0=>by simp only[aN];grind|n+1=>by rw[aN,aN,aN,qa f g n];grind
theorem Cc(f:Nat->Rat):∀n:Nat,aN f (n+1)=f 0+aN (λi=>f<|i+1) n
 |0=>by simp only[aN];grind|n+1=>by rw[aN,Cc f n,aN];grind
theorem qb:∀(r x:List Rat) (n:Nat),r.length=n->x.length=n->cK r x=aN (λj=>r.getD j 0*x.getD j 0) n
 |[],[],_,h,_=>by subst h;rfl|[],_::_,n,h,h'=>by simp at h h';omega|_::_,[],n,h,h'=>by simp at h h';omega|a::r,y::x,n,h,h'=>by subst h;rw[cK,qb r x r.length rfl<|by simpa using h',dM,Cc];rfl
theorem Lr{x:List Rat}(hr:r.length=n)(hx:x.length=n):cK (eh r q) x=cK r x/q:=by
 clear hr hx;unfold eh;induction r generalizing x with
 |nil=>show(0:Rat)=0/q;rw[kP,jy]
 |cons a r ih=>
  cases x with
  |nil=>show(0:Rat)=0/q;rw[kP,jy]
  |cons y x=>
   rw[cP,cK,cK,ih,kP,kP,kP];grind
theorem yY{c x:List Rat}(h:r.length=c.length):cK (cC r q c) x=cK r x-q*cK c x:=by
 unfold cC;induction r generalizing c x with
 |nil=>
  cases c with
  |nil=>show(0:Rat)=0-q*0;grind|cons _ _=>simp at h
 |cons a r ih=>
  cases c with
  |nil=>simp at h
  |cons b c=>
   cases x with
   |nil=>show(0:Rat)=0-q*0;grind
   |cons y x=>
    rw[zK,cK,cK,cK,ih<|by simpa using h];grind
theorem Ls(hr:r.length=n)(hk:k<n):cK r (dS n k)=r.getD k 0:=by rw[qb r (dS n k) n hr<|vI n k,kJ hk];rw[unit_at' hk,if_pos rfl,Rat.mul_one];intro i hi e;rw[unit_at' hi,if_neg e,Rat.mul_zero]
where
 unit_at' {n k i:Nat} (hi:i<n):(dS n k).getD i 0=if i=k then 1 else 0:=by unfold dS;rw[bF,cD,hZ hi];rfl
theorem FW(hi:i<n):(dS n k).getD i 0=if i=k then 1 else 0:=by unfold dS;rw[bF,cD,hZ hi];rfl
theorem yZ{x:List Rat}{v:Rat}(ha:a<x.length):(x.set a v).getD i 0=if i=a then v else x.getD i 0:=by rw[bF,xh,bF];by_cases e:a=i;subst e;rw[if_pos rfl,if_pos rfl,if_pos ha];rfl;rw[if_neg e,if_neg<|Nr e]
theorem Lu{x:List Rat}{v:Rat}(hr:r.length=n)(hx:x.length=n)(ha:a<n)(h0:x.getD a 0=0):cK r (x.set a v)=cK r x+r.getD a 0*v:=by
 rw[qb r _ n hr (by rw[et];exact hx),qb r x n hr hx];have:aN (λj=>r.getD j 0*(x.set a v).getD j 0-r.getD j 0*x.getD j 0) n=r.getD a 0*v:=by rw[kJ ha];rw[yZ<|by omega,if_pos rfl,h0,Rat.mul_zero];grind;intro i hi e;rw[yZ<|by omega,if_neg e];grind
 rw[qa]at this;grind
structure Ec(n:Nat)(R:List (List Rat))(p:Nat)(ld:List (List Rat))(pl:List Nat)(rs:List (List Rat)):Prop where
 wl:∀r∈ld,r.length=n
 ws:∀r∈rs,r.length=n
 ll:ld.length=pl.length
 nul:∀x:List Rat,x.length=n->((∀r∈R,cK r x=0)↔(∀r∈ld,cK r x=0)/\∀r∈rs,cK r x=0)
 lt:∀a∈pl,a<p
 asc:pl.Pairwise (· < ·)
 one:∀i j,i<ld.length->j<pl.length->(ld.getD i []).getD (pl.getD j 0) 0=if i=j then 1 else 0
 low:∀i,i<ld.length->∀q,q<pl.getD i 0->(ld.getD i []).getD q 0=0
 zer:∀r∈rs,∀q,q<p->r.getD q 0=0
theorem Ec.start{R:List (List Rat)}(h:∀r∈R,r.length=n):Ec n R 0 [] [] R:=⟨by simp,h,rfl,λx _=>by simp,by simp,.nil,λi j hi=>by simp at hi,λi hi=>by simp at hi,λr _ q hq=>by omega⟩
theorem Ec.skip{p:Nat}{R rs:List (List Rat)}{pl:List Nat}(h:Ec n R p ld pl rs)(h0:∀r∈rs,r.getD p 0=0):Ec n R (p+1) ld pl rs:=
 ⟨h.wl,h.ws,h.ll,h.nul,λa ha=>xj<|h.lt a ha,h.asc,h.one,h.low,λr hr q hq=>by
  by_cases e:q=p
  .rw[e];exact h0 r hr
  .exact h.zer r hr q<|by omega⟩
theorem Ec.pivot{p:Nat}{R rs rs1 rs2:List (List Rat)}{pl:List Nat}{lead:List Rat}(h:Ec n R p ld pl rs)(hp:p<n)(hr0:r.getD p 0≠0)(hrs:∀t,t∈rs↔t=r\/t∈rs1)(hld:lead=eh r (r.getD p 0))(h2:∀t,t∈rs2↔∃u∈rs1,t=cC u (u.getD p 0) lead):Ec n R (p+1) (bY ld lead p++[lead]) (pl++[p]) rs2:=by
 have rr:r∈rs:=(hrs r).mpr<|.inl rfl;have rl:=h.ws r rr;have ll:lead.length=n:=by rw[hld];unfold eh;rw[bU];exact rl
 have lat:∀j,lead.getD j 0=r.getD j 0/r.getD p 0:=λj=>by
  rw[hld];unfold eh;rw[bF,cD,bF (i:=j)];cases r[j]? with
  |none=>show(0:Rat)=0/_;rw[kP,jy]|some x=>rfl
 have lp:lead.getD p 0=1:=by rw[lat,kP,Rat.mul_inv_cancel _ hr0]
 have lz:∀q,q<p->lead.getD q 0=0:=λq hq=>by rw[lat,h.zer r rr q hq,kP,jy]
 have lesL:∀(u:List Rat) (z:Rat),u.length=n->(cC u z lead).length=n:=λu z hu=>by unfold cC;rw[jw];omega
 have lesA:∀(u:List Rat) (z:Rat) (j:Nat),u.length=n->(cC u z lead).getD j 0=u.getD j 0-z*lead.getD j 0:=λu z j hu=>by unfold cC;simp only[bF];by_cases hj:j<n;rw[bP (by rw[jw];omega),bP<|by omega,bP<|by omega,oV];rfl;rw[ff (by rw[jw];omega),ff<|by omega,ff<|by omega];show(0:Rat)=0-z*0;grind
 have wlen:(bY ld lead p).length=ld.length:=by unfold bY;rw[bU]
 have wat:∀i,i<ld.length->(bY ld lead p++[lead]).getD i []=cC (ld.getD i []) ((ld.getD i []).getD p 0) lead:=λi hi=>by rw[bF,kL<|by omega];unfold bY;rw[cD,bF,bP hi];rfl
 have wlast:(bY ld lead p++[lead]).getD ld.length []=lead:=by rw[bF,j9<|by omega,wlen,Nat.sub_self];rfl
 have plat:∀i,i<pl.length->(pl++[p]).getD i 0=pl.getD i 0:=λi hi=>by rw[bF,kL hi,bF]
 have plast:(pl++[p]).getD pl.length 0=p:=by rw[bF,j9<|cB _,Nat.sub_self];rfl
 have plt:∀i,i<pl.length->pl.getD i 0<p:=λi hi=>by rw[bF,bP hi];exact h.lt _<|fT _
 have ldm:∀i,i<ld.length->ld.getD i []∈ld:=λi hi=>p6 hi;have hll:=h.ll;refine⟨λt ht=>?_,λt ht=>?_,?_,λx hx=>?_,λa ha=>?_,?_,λi j hi hj=>?_,λi hi q hq=>?_,λt ht q hq=>?_⟩;rcases Yan.mp ht with ht|ht
 unfold bY at ht;obtain⟨u,hu,rfl⟩:=YbL.mp ht;exact lesL u _<|h.wl u hu
 rw[Ycm.mp ht];exact ll;obtain⟨u,hu,rfl⟩:=(h2 t).mp ht;exact lesL u _<|h.ws u ((hrs u).mpr<|.inr hu)
 rw[gA,gA,wlen,hll];rfl;rw[h.nul x hx];have dl:cK lead x=cK r x/r.getD p 0:=by rw[hld];exact Lr rl hx
 constructor;rintro⟨g1,g2⟩;have z:cK lead x=0:=by rw[dl,g2 r rr,kP,jy]
 refine⟨λt ht=>?_,λt ht=>?_⟩;rcases Yan.mp ht with ht|ht
 unfold bY at ht;obtain⟨u,hu,rfl⟩:=YbL.mp ht;rw[yY<|by rw[h.wl u hu,ll],g1 u hu,z];grind;rw[Ycm.mp ht];exact z;obtain⟨u,hu,rfl⟩:=(h2 t).mp ht;have hu':=(hrs u).mpr<|.inr hu;rw[yY<|by rw[h.ws u hu',ll],g2 u hu',z];grind
 rintro⟨g1,g2⟩;have z:cK lead x=0:=g1 lead (by simp);have zr:cK r x=0:=by
  rw[dl,kP]at z;have:cK r x*(r.getD p 0)⁻¹*r.getD p 0=0:=by rw[z,jy]
  rw[Rat.mul_assoc,Rat.inv_mul_cancel _ hr0,Rat.mul_one]at this;exact this
 refine⟨λt ht=>?_,λt ht=>?_⟩;have:=g1 (cC t (t.getD p 0) lead) (Yan.mpr<|.inl (by unfold bY;exact xf (f:=λr=>cC r (r.getD p 0) lead) ht));rw[yY<|by rw[h.wl t ht,ll],z]at this;grind;rcases(hrs t).mp ht with rfl|hu
 exact zr;have:=g2 (cC t (t.getD p 0) lead) ((h2 _).mpr ⟨t,hu,rfl⟩);rw[yY<|by rw[h.ws t ht,ll],z]at this;grind;rcases Yan.mp ha with ha|ha
 exact xj<|h.lt a ha
 rw[Ycm.mp ha];exact Nat.lt_succ_self p;refine List.pairwise_append.mpr ⟨h.asc,by simp,λa ha b hb=>?_⟩;rw[Ycm.mp hb];exact h.lt a ha;rw[gA,wlen,mY]at hi;rw[gA,mY]at hj;by_cases hi':i<ld.length;have hw:=h.wl _ (ldm i hi');rw[wat i hi',lesA _ _ _ hw];by_cases hj':j<pl.length;rw[plat j hj',h.one i j hi' hj',lz _<|plt j hj'];grind;obtain rfl:j=pl.length:=by omega
 rw[plast,lp,if_neg<|by omega];grind;obtain rfl:i=ld.length:=by omega
 rw[wlast];by_cases hj':j<pl.length;rw[plat j hj',lz _<|plt j hj',if_neg<|by omega];obtain rfl:j=pl.length:=by omega
 rw[plast,lp,if_pos hll];rw[gA,wlen,mY]at hi;by_cases hi':i<ld.length;have hw:=h.wl _ (ldm i hi');rw[plat i<|by omega]at hq;rw[wat i hi',lesA _ _ _ hw,h.low i hi' q hq,lz q (by have:=plt i (by omega);omega)];grind;obtain rfl:i=ld.length:=by omega
 rw[hll,plast]at hq;rw[wlast];exact lz q hq;obtain⟨u,hu,rfl⟩:=(h2 t).mp ht;have hu':=(hrs u).mpr<|.inr hu;rw[lesA _ _ _<|h.ws u hu']
 by_cases e:q=p;rw[e,lp];grind;rw[h.zer u hu' q<|by omega,lz q<|by omega];grind
def gz(r:List Rat)(q:Nat):List (List Rat)->List Nat->Rat
 |l::L,a::P=>r.getD a 0*l.getD q 0+gz r q L P|_,_=>0
theorem FX(q:Nat):∀(L:List (List Rat)) (P:List Nat) (row:List Rat),(eY q L P row).length=row.length
 |[],_,_=>by simp[eY]|_::_,[],_=>by simp[eY]|l::L,a::P,row=>by rw[eY,FX q L P,et]
theorem FY{q t:Nat}:∀(L:List (List Rat)) (P:List Nat) (row:List Rat),(∀a∈P,a<row.length)->t∉P->(eY q L P row).getD t 0=row.getD t 0
 |[],_,_,_,_=>by simp[eY]|_::_,[],_,_,_=>by simp[eY]|l::L,a::P,row,h,ht=>by rw[eY,FY L P _ (λb hb=>by rw[et];exact h b<|by simp[hb])<|λhb=>ht<|by simp[hb],yZ<|h a<|by simp,if_neg<|λe=>ht<|by simp[e]]
theorem FZ{r:List Rat}{q n:Nat}(hr:r.length=n):∀(L:List (List Rat)) (P:List Nat) (row:List Rat),row.length=n->(∀a∈P,a<n)->P.Pairwise (· < ·)->(∀a∈P,row.getD a 0=0)->cK r (eY q L P row)=cK r row-gz r q L P
 |[],_,row,_,_,_,_=>by simp only[eY,gz];grind|_::_,[],row,_,_,_,_=>by simp only[eY,gz];grind
 |l::L,a::P,row,hw,hn,ha,h0=>by
  obtain⟨h1,h2⟩:=YcL.mp ha;rw [eY,FZ hr L P _ (by rw [et];exact hw) (λb hb=>hn b<|by simp [hb]) h2 (λb hb=>by
   rw[yZ (by rw[hw];exact hn a<|by simp),if_neg (by have:=h1 b hb;omega)];exact h0 b<|by simp[hb]),Lu hr hw (hn a<|by simp)<|h0 a<|by simp,gz]
  grind
theorem F0{r:List Rat}{q:Nat}:∀(L:List (List Rat)) (P:List Nat),(∀j,j<P.length->j<L.length->r.getD (P.getD j 0) 0*(L.getD j []).getD q 0=0)->gz r q L P=0
 |[],_,_=>by simp[gz]|_::_,[],_=>by simp[gz]|l::L,a::P,h=>by rw[gz,F0 L P<|λj h1 h2=>by simpa using h (j+1) (by simpa using h1) (by simpa using h2)];have:=h 0 (by simp) (by simp);rw[t7,t7]at this;rw[this,lE]
theorem F3{r:List Rat}{q:Nat}:∀(L:List (List Rat)) (P:List Nat) (i:Nat),i<L.length->L.length=P.length->(∀j,j<P.length->r.getD (P.getD j 0) 0=if i=j then 1 else 0)->gz r q L P=(L.getD i []).getD q 0
 |[],_,i,hi,_,_=>by simp at hi|_::_,[],i,_,hl,_=>by simp at hl
 |l::L,a::P,0,hi,hl,h=>by
  have h0:=h 0 (by simp);rw[t7,if_pos rfl]at h0;rw [gz,h0,F0 L P (λj h1 h2=>by
   have:=h (j+1) (by simpa using h1);rw[zR,if_neg<|by omega]at this;rw[this,jy]),t7]
  grind
 |l::L,a::P,i+1,hi,hl,h=>by
  have h0:=h 0 (by simp);rw[t7,if_neg<|by omega]at h0;rw [gz,h0,F3 L P i (by simpa using hi) (by simpa using hl) (λj hj=>by
   have:=h (j+1) (by simpa using hj);rw[zR]at this;rw[this]
   by_cases e:i=j
   .rw[if_pos e,if_pos<|by omega]
   .rw[if_neg e,if_neg<|by omega]),zR]
  grind
theorem Ec.free{q:Nat}{R rs:List (List Rat)}{pl:List Nat}(h:Ec n R n ld pl rs)(hq:q<n)(hn:q∉pl):(eY q ld pl<|dS n q).length=n/\∀r∈R,cK r (eY q ld pl<|dS n q)=0:=by
 have l:(eY q ld pl<|dS n q).length=n:=by rw[FX,vI]
 have z0:∀a∈pl,(dS n q).getD a 0=0:=λa ha=>by rw[FW<|h.lt a ha,if_neg (show¬a=q from λe=>hn (by rw[<-e];exact ha))]
 refine⟨l,(h.nul _ l).mpr ⟨λr hr=>?_,λr hr=>?_⟩⟩;obtain⟨i,hi,e⟩:=Ybr.mp hr;have e':ld.getD i []=r:=by rw[bF,bP hi];exact e
 rw[FZ (h.wl r hr) ld pl _ (vI n q) h.lt h.asc z0,Ls (h.wl r hr) hq,F3 ld pl i hi h.ll (λj hj=>by rw[<-e'];exact h.one i j hi hj),e'];grind;rw[qb r _ n (h.ws r hr) l];exact qI λj hj=>by rw[h.zer r hr j hj,jy]
theorem F5:∀{a b:List Nat},a.Pairwise (· < ·)->b.Pairwise (· < ·)->(∀x,x∈a↔x∈b)->a=b
 |[],[],_,_,_=>rfl|[],y::b,_,_,h=>by have:=(h y).mpr (by simp);simp at this|x::a,[],_,_,h=>by have:=(h x).mp (by simp);simp at this
 |x::a,y::b,ha,hb,h=>by
  obtain⟨a1,a2⟩:=YcL.mp ha;obtain⟨b1,b2⟩:=YcL.mp hb;have hx:=(h x).mp (by simp);have hy:=(h y).mpr (by simp);have e:x=y:=by
   rcases Yam.mp hx with e|hx
   exact e;rcases Yam.mp hy with e|hy
   exact e.symm;have:=a1 y hy;have:=b1 x hx;omega
  subst e;rw[F5 a2 b2 λz=>?_];constructor;intro hz;rcases Yam.mp ((h z).mp<|by simp[hz]) with e|e
  have:=a1 z hz;omega;exact e;intro hz;rcases Yam.mp ((h z).mpr<|by simp[hz]) with e|e
  have:=b1 z hz;omega;exact e
theorem F6:∀{R:List (List Rat)} {p:Nat},dH R p=none->∀r∈R,r.getD p 0=0
 |[],_,_,r,hr=>by cases hr
 |t::R,p,h,r,hr=>by
  rw[dH]at h;by_cases e:t.getD p 0=0;rw[if_pos e]at h;rcases Yam.mp hr with rfl|hr
  exact e;exact F6 (by cases e2:dH R p with
   |none=>rfl
   |some a=>rw[e2]at h;cases h) r hr
  rw[if_neg e]at h;cases h
theorem Lv{R:List (List Rat)}(h:a<R.length)(t:List Rat):t∈R↔t=R.getD a []\/t∈R.take a++R.drop (a+1):=by
 have e:R=R.take a++R.getD a []::R.drop (a+1):=by
  conv=>lhs;rw[<-List.take_append_drop a R]
  rw[sS h,bF,bP h];rfl
 conv=>lhs;rw[e]
 simp only[Yan,Yam];constructor;rintro(h|h|h);exact .inr<|.inl h
 exact .inl h;exact .inr<|.inr h
 rintro(h|h|h);exact .inr<|.inl h
 exact .inl h;exact .inr<|.inr h
theorem ww{n:Nat}{R:List (List Rat)}(hR:∀r∈R,r.length=n):∀p,p<=n->Ec n R p (cO R p).ld (cO R p).pl (cO R p).rs
 |0,_=>Ec.start hR
 |p+1,hp=>by
  have ih:=ww hR p (by omega);rw[cO];generalize cO R p=x at ih;unfold pZ;cases e:dH x.rs p with
  |none=>exact ih.skip<|F6 e
  |some a=>obtain⟨a1,a2⟩:=sD e;exact ih.pivot (r:=x.rs.getD a []) (rs1:=x.rs.take a++x.rs.drop (a+1)) (by omega) a2 (Lv a1) rfl λt=>by unfold bY;rw[YbL];constructor;rintro⟨u,hu,rfl⟩;exact⟨u,hu,rfl⟩;rintro⟨u,hu,rfl⟩;exact⟨u,hu,rfl⟩
namespace Dt
open B.C
theorem F7(f g:Nat->Rat):∀n:Nat,aN (λi=>f i+g i) n=aN f n+aN g n
 |0=>by simp only[aN];grind|n+1=>by rw[aN,aN,aN,F7 f g n];grind
theorem sumN_mul(f:Nat->Rat)(c:Rat):∀n:Nat,aN (λi=>c*f i) n=c*aN f n
 |0=>by simp only[aN];grind|n+1=>by rw[aN,aN,sumN_mul f c n];grind
theorem tO(f:Nat->Nat->Rat)(m:Nat):∀n:Nat,aN (λi=>aN (λj=>f i j) m) n=aN (λj=>aN (λi=>f i j) n) m
 |0=>by rw[aN];exact(qI λ_ _=>rfl).symm|n+1=>by rw[aN,tO f m n,<-F7];rfl
theorem qJ(f:Nat->Int):∀n:Nat,aN (λi=>((f i:Int):Rat)) n=((bJ f n:Int):Rat)
 |0=>rfl|n+1=>by rw[aN,bJ,qJ f n,Rat.intCast_add]
theorem null_q(A:Nat->R)(hn:n<=5){w:Nat->Rat}(h:∀i,i<n->aN (λj=>(A i j:Rat)*w j) n=0)(hj:j<n):(dt A n:Rat)*w j=0:=by
 have e:aN (λk=>(jv A n k j:Rat)*aN (λl=>(A k l:Rat)*w l) n) n=(dt A n:Rat)*w j:=by
  rw[fS (g:=λk=>aN (λl=>(jv A n k j:Rat)*((A k l:Rat)*w l)) n)<|λk _=>(sumN_mul _ _ n).symm,tO];rw [fS (g:=λl=>w l*((bJ (λk=>A k l*jv A n k j) n:Int):Rat)) (λl _=>by
   rw[<-qJ,<-sumN_mul];exact fS λk _=>by rw[jJ];grind)]
  rw[kJ (k:=j) hj (λi hi ne=>by rw[tN A hn hi hj,if_neg ne];exact Rat.mul_zero _),tN A hn hj hj,if_pos rfl,xp]
 rw[<-e];exact qI λk hk=>by rw[h k hk,Rat.mul_zero]
theorem wx{A B:Nat->R}(h:∀l,l<k->∀c,c<k\/c=j->A l c=B l c)(hi:∀c,c<k\/c=j->A i c=B i c):M A k i j=M B k i j:=by
 match k with
 |0=>exact hi j<|.inr rfl
 |1=>simp only[M,m2];rw[h 0 (by omega) 0<|by omega,h 0 (by omega) j<|by omega,hi 0<|by omega,hi j<|by omega]|2=>simp only[M,m3,m2];rw[h 0 (by omega) 0<|by omega,h 0 (by omega) 1<|by omega,h 0 (by omega) j<|by omega,h 1 (by omega) 0<|by omega,h 1 (by omega) 1<|by omega,h 1 (by omega) j<|by omega,hi 0<|by omega,hi 1<|by omega,hi j<|by omega]|3=>simp only[M,m4,m3,m2];rw[h 0 (by omega) 0<|by omega,h 0 (by omega) 1<|by omega,h 0 (by omega) 2<|by omega,h 0 (by omega) j<|by omega,h 1 (by omega) 0<|by omega,h 1 (by omega) 1<|by omega,h 1 (by omega) 2<|by omega,h 1 (by omega) j<|by omega,h 2 (by omega) 0<|by omega,h 2 (by omega) 1<|by omega,h 2 (by omega) 2<|by omega,h 2 (by omega) j<|by omega,hi 0<|by omega,hi 1<|by omega,hi 2<|by omega,hi j<|by omega]|4=>simp only[M,m5,m4,m3,m2];rw[h 0 (by omega) 0<|by omega,h 0 (by omega) 1<|by omega,h 0 (by omega) 2<|by omega,h 0 (by omega) 3<|by omega,h 0 (by omega) j<|by omega,h 1 (by omega) 0<|by omega,h 1 (by omega) 1<|by omega,h 1 (by omega) 2<|by omega,h 1 (by omega) 3<|by omega,h 1 (by omega) j<|by omega,h 2 (by omega) 0<|by omega,h 2 (by omega) 1<|by omega,h 2 (by omega) 2<|by omega,h 2 (by omega) 3<|by omega,h 2 (by omega) j<|by omega,h 3 (by omega) 0<|by omega,h 3 (by omega) 1<|by omega,h 3 (by omega) 2<|by omega,h 3 (by omega) 3<|by omega,h 3 (by omega) j<|by omega,hi 0<|by omega,hi 1<|by omega,hi 2<|by omega,hi 3<|by omega,hi j<|by omega]|_+5=>rfl
theorem F8{A B:Nat->R}(h:∀i,i<n->∀j,j<n->A i j=B i j):dt A n=dt B n:=by
 cases n with
 |zero=>rfl|succ k=>exact wx (λl hl c hc=>h l (by omega) c<|by omega) λc hc=>h k (by omega) c (by omega)
def tP(n:Nat)(f:Nat->Rat):List Rat:=(List.range n).map f
theorem F9(n:Nat)(f:Nat->Rat):(tP n f).length=n:=by unfold tP;simp
theorem Ga{f:Nat->Rat}(h:j<n):(tP n f).getD j 0=f j:=by unfold tP;rw[bF,cD,hZ h];rfl
theorem Lw(n:Nat):(List.range n).Pairwise (· < ·):=List.pairwise_lt_range
theorem sumN_split(f:Nat->Rat)(n:Nat):∀m:Nat,aN f (n+m)=aN f n+aN (λj=>f<|n+j) m
 |0=>by rw[aN,xm,lE]|m+1=>by rw[<-Nat.add_assoc,aN,sumN_split f n m,aN];grind
end Dt
namespace B.C.Q0
theorem Cd(h:IsSl s n)(hi:i<n)(hj:j<n):tT s n i j=s.getD (n-1-i+j) 0:=by unfold tT ga gr;have hl:=h.len;simp only[bF];rw[Jx hi];simp only[h8];rw[t8,if_pos hj,List.getElem?_drop]
theorem Gb(h:IsSl s n)(he:s.reverse=s)(hi:i<n)(hj:j<n):tT s n i j=tT s n j i:=by
 have hl:=h.len;rw[Cd h hi hj,Cd h hj hi];simp only[bF];conv=>lhs;rw[<-he]
 rw[List.getElem?_reverse<|by omega];rw[show s.length-1-(n-1-i+j)=n-1-j+i by omega]
structure Nl(s:List Int)(n a:Nat)(L:Nat->Nat->Rat):Prop where
 sym:∀i j,i<n->j<n->L i j=L j i
 zero:∀i j,i<n->j<n->i<a->L i j=0
 vec:∀c,a<=c->c<n->∃x:Nat->Rat,x c=1/\(∀j,a<=j->j≠c->x j=0)/\∀i,i<n->aN (λj=>(tT s n i j:Rat)*x j) n=L i c
theorem Nl.start(h:IsSl s n)(he:s.reverse=s):Nl s n 0 λi j=>(tT s n i j:Rat) where
 sym:=λi j hi hj=>by rw[Gb h he hi hj]
 zero:=λi j _ _ h=>Ng h (by omega)
 vec:=λc _ hc=>⟨λj=>if j=c then 1 else 0,if_pos rfl,λj _ hj=>if_neg hj,λi hi=>by
  rw[kJ (k:=c) hc (λj _ hj=>by dsimp only;rw[if_neg hj,Rat.mul_zero])];dsimp only;rw[if_pos rfl,Rat.mul_one]⟩
theorem Nl.step{L':Nat->Nat->Rat}(h:Nl s n a L)(ha:a<n)(h0:L a a≠0)(e:∀i j,i<n->j<n->L' i j=L i j-L a i*(L a j/L a a)):Nl s n (a+1) L' where
 sym:=λi j hi hj=>by rw[e i j hi hj,e j i hj hi,h.sym i j hi hj];grind
 zero:=λi j hi hj hl=>by
  rw[e i j hi hj];rcases gg i a with hia|hia
  rw[h.zero i j hi hj hia,h.sym a i ha hi,h.zero i a hi ha hia];grind;have:i=a:=by omega
  subst this;grind
 vec:=λc hc hcn=>by
  obtain⟨x,x1,x2,x3⟩:=h.vec c (by omega) hcn;obtain⟨y,y1,y2,y3⟩:=h.vec a (cB a) ha;refine⟨λj=>x j-L a c/L a a*y j,?_,λj hj hjc=>?_,λi hi=>?_⟩;show x c-L a c/L a a*y c=1;rw[x1,y2 c (by omega)<|by omega];grind;show x j-L a c/L a a*y j=0;rw[x2 j (by omega) hjc,y2 j (by omega)<|by omega];grind;have:aN (λj=>(tT s n i j:Rat)*(x j-L a c/L a a*y j)) n=aN (λj=>(tT s n i j:Rat)*x j-L a c/L a a*((tT s n i j:Rat)*y j)) n:=fS λj _=>by grind
  rw[this,qa,Dt.sumN_mul,x3 i hi,y3 i hi,e i c hi hcn,h.sym a i ha hi];grind
theorem wy(hs:IsSl s n)(ha:a<n):Sm 10 (a+1) (gR (tbl s n)<|a+1):=by
 have hl:=jt s n;exact ⟨by unfold gR;simp [hl];omega,λr hr=>by
  unfold gR at hr;obtain⟨r0,hr0,rfl⟩:=YbL.mp hr;have:=(jD hs r0<|m6 hr0).1;rw[jg];omega,λr hr x hx=>by
  unfold gR at hr;obtain⟨r0,hr0,rfl⟩:=YbL.mp hr;have:=(jD hs r0<|m6 hr0).2 x (m6 hx);show x.natAbs<1024;omega⟩
theorem Nl.piv(h:Nl s n a L)(hs:IsSl s n)(hm:m<=n)(ha:a<m)(hst:qG s n m):L a a≠0:=by
 intro z;have h5:=hs.n5;have hl:=jt s n;obtain⟨y,y1,y2,y3⟩:=h.vec a (cB a) (by omega);have sm:=wy (a:=a) hs (by omega);have nd:=Dt.num_dt sm (by omega);have ext:∀i,i<a+1->∀j,j<a+1->Dt.tA (gR (tbl s n)<|a+1) i j=tT s n i j:=λi hi j hj=>by unfold Dt.tA gR tT ga gr;simp only[bF];rw[cD,t8,if_pos hi,bP (l:=tbl s n)<|by omega];simp only[jE,h8];rw[t8,if_pos hj]
 have nq:=Dt.null_q (Dt.tA<|gR (tbl s n)<|a+1) (n:=a+1) (by omega) (w:=y) (λi hi=>?_) (j:=a) (by omega);rw[y1,Rat.mul_one]at nq;refine hst a ha ?_;rw[nd];exact_mod_cast nq;have e1:aN (λj=>(Dt.tA (gR (tbl s n)<|a+1) i j:Rat)*y j) (a+1)=aN (λj=>(tT s n i j:Rat)*y j) (a+1):=fS λj hj=>by rw[ext i hi j hj]
 have e2:aN (λj=>(tT s n i j:Rat)*y j) n=aN (λj=>(tT s n i j:Rat)*y j) (a+1):=by obtain⟨d,rfl⟩:∃d,n=a+1+d:=⟨n-(a+1),by omega⟩;rw[Dt.sumN_split,qI (n:=d)<|λj _=>by rw[y2 (a+1+j) (by omega)<|by omega,Rat.mul_zero],lE]
 rw[e1,<-e2,y3 i<|by omega];rcases gg i a with hia|hia
 exact h.zero i a (by omega) (by omega) hia;have:i=a:=by omega
 subst this;exact z
theorem Lx:Rd yU FM Zek:=by
 rintro _ E Q ⟨⟨s,n⟩,rfl,h,q⟩;dsimp only at h q;have h5:=h.n5;unfold FM;show aF _ _ _ _ [.d<|aR s n,.un];refine bO<|set_by (d:=.int 0) (ρ':=[.d<|aR s n,.d<|.int 0]) rfl (λP h=>h) ?_;dsimp only;refine bO ?_;simp only[bG,qy];refine⟨λk ρ=>∃m:Nat,k+m=n/\m<=n/\qG s n m/\ρ=[.d<|aR s n,.d<|.int m],⟨n,0,by omega,by omega,λk hk=>Ng hk<|by omega,rfl⟩,?_⟩;rintro k _ ⟨m,hk,hm,hst,rfl⟩;walk_at "st"
 by_cases hmn:m<n;rw[Nj<|by exact_mod_cast hmn];walk_at "st";rw[kI (b:=m+1)<|by omega,<-jI];have hl:=jt s n;refine iB (g:=aZ) (f:=λr=>aZ<|r.take<|m+1) ((tbl s n).take<|m+1) (λr hr Q hq=>?_) .un [] (by simp[aL];omega) ?_;unfold aZ;walk_at "st";rw[kI (b:=m+1)<|by omega,<-jI];exact hq;have sm:=wy (a:=m) h hmn;refine⟨gR (tbl s n)<|m+1,?_,⟨by rw[sm.len];exact sm,by rw[sm.len];omega⟩,?_⟩;unfold fN gR;dsimp only;rw[List.map_map];rfl;dsimp only;walk_at "st";by_cases hz:eM (gR (tbl s n)<|m+1)=0;rw[hz];walk_at "st";exact q _ ⟨m,rfl,hm,hst⟩;rw[if_pos<|by simpa using hz];refine⟨k-1,by omega,m+1,by omega,by omega,λj hj=>?_,rfl⟩;rcases gg j m with hjm|hjm
 exact hst j hjm;rw[show j=m by omega];exact hz;rw[decide_eq_false<|by simpa using hmn];walk_at "st";exact q _ ⟨m,rfl,hm,hst⟩
theorem wz{we:WE}{tail:cS}{Q:List D->Prop}{f:Pr->D}:∀(L:List Pr),(∀p∈L,∀Q:D->Prop,Q (f p)->we No (.d (aP p.1)::.d (aG p.2)::tail) Q)->∀(sv sv':SV) (acc:List D),acc.length+L.length<=aL->Q (acc++L.map f)->lcW (dQ 2<|cJ (gN 0)<|cJ (gN 1) dP) cT we (L.map du) (sv::sv'::tail) acc Q
 |[],_,sv,sv',acc,_,hq=>by rw[gB,lcW];simpa using hq|p::L,h,sv,sv',acc,hl,hq=>by rw[cP,lcW];refine⟨rfl,?_⟩;show we No (SV.d (aP p.1)::SV.d (aG p.2)::tail) _;rw[dM]at hl;refine h p (by simp) _ ⟨by omega,wz L (λa ha=>h a<|by simp[ha]) _ _ _ (by simp;omega) ?_⟩;rw[mX];simpa using hq
theorem Gc{b n i j:Nat}:∀{ps:List Pr} {N:Nat},(∀p∈ps,Pq b n p)->i<n->j<n->ps.length*(3*b+1)<=N->Dz N (ps.map (·.1)) (ps.map λp=>p.2.getD i 0*p.2.getD j 0)
 |[],_,_,_,_,_=>trivial
 |p::ps,N,h,hi,hj,hl=>by
  have hp:=h p (by simp);rw[dM,oP]at hl;have g:∀k,k<n->Sz b (p.2.getD k 0):=λk hk=>by rw[bF,bP (by rw[hp.l];exact hk)];exact hp.r _<|fT _
  exact⟨b,b+b,hp.w,(g i hi).mul<|g j hj,by omega,Gc (λq hq=>h q<|by simp[hq]) hi hj<|by omega⟩
theorem Ge(i j:Nat):∀ps:List Pr,cK (ps.map (·.1)) (ps.map λp=>p.2.getD i 0*p.2.getD j 0)=gs ps i j
 |[]=>rfl|p::ps=>by rw[cP,cP,cK,gs,Ge i j ps]
theorem Gf{E:Ex->Prop}{x y:Rat}(h1:Sz n x)(h2:Sz m y)(hb:n+m+1<=8989)(q:Q (aP<|x*y)):oh [.lst [aP x],.lst [aP y]] E Q:=by refine⟨((false,false),[x],[y]),rfl,⟨n,m,h1,h2,hb,trivial⟩,?_⟩;show Q (aP<|x*y+0);rw[lE];exact q
theorem Ce(a b c d e f:SV):∃g,pub 5 [a,b,c,d,e,f]=[a,b,c,d,e,g]:=by cases f<;>exact⟨_,rfl⟩
theorem Ly{ps:List Pr}(h:IsSl s n)(he:s.reverse=s)(hl:∀i,i<n->∀j,j<i+1->gs ps i j=(tT s n i j:Rat)):p9 s n ps:=λi hi j hj=>by
 have gsym:∀(ps:List Pr) (i j:Nat),gs ps i j=gs ps j i:=λps i j=>by
  induction ps with
  |nil=>rfl|cons p ps ih=>rw[gs,gs,ih];grind
 rcases gg j (i+1) with h1|h1
 exact hl i hi j h1;rw[gsym,hl j hj i<|by omega,Gb h he hj hi]
theorem Lz:Rd wr FL Zdl:=by
 rintro _ E Q ⟨⟨⟨b,s,n⟩,x⟩,rfl,⟨h,he,hk,hz,hf⟩,q⟩;dsimp only at h he hk hz hf q;have h5:=h.n5;unfold FL;walk_at "nx";refine j0 hk (by decide) λt ht=>?_;cases x<;>cases ht<;>try exact q
 rename_i xs;obtain⟨hl,hx⟩:=Ds hk;walk_at "st";simp only[show eT "list" "list" = true from rfl,fg,dW,if_false];replace q:Q (.bl ((decide (xs.length<=10)&&xs.all (dh n))&&decide (p9 s n<|sqs<|.lst xs))):=q;walk_at "st";by_cases h10:xs.length<=10;rw[if_neg (by simp;omega)];refine qE (λρ=>xs.all (dh n)=true/\∃s2,ρ=[.d<|aR s n,.d<|.lst xs,s2,.un,.un,.un]) (λnx hnx=>?_) ?_;show bD _ _ _ _ _ _;refine yI (xs:=xs) (nm_at rfl) ?_;refine qF (λds ρ=>∃a s2,xs=a++ds/\a.all (dh n)=true/\ρ=[.d<|aR s n,.d<|.lst xs,s2,.un,.un,.un]) ?_ ?_ _ _ ⟨[],_,rfl,rfl,rfl⟩;rintro d ds _ ⟨a,s2,hxs,ha,rfl⟩ nx2 hnx2;show aF _ _ _ _ [.d<|aR s n,.d<|.lst xs,.d d,.un,.un,.un];have hd:kd d=true:=hx d (by rw[hxs];simp);have bad:dh n d=false->Q (.bl false):=λz=>by
  have:xs.all (dh n)=false:=by rw[hxs,List.all_append,qM,z];simp
  rw[this]at q;simpa using q
 have good:dh n d=true->nx2 [.d<|aR s n,.d<|.lst xs,.d d,.un,.un,.un]:=λz=>hnx2 _ ⟨a++[d],_,by rw[hxs];simp,by rw[List.all_append,ha,qM,z];rfl,rfl⟩;clear hnx2 hnx q ha hxs;walk_at "nx";refine j0 hd (by decide) λt ht=>?_;cases d<;>cases ht<;>try exact bad rfl
 rename_i ys;obtain⟨hyl,hy⟩:=oF hd;simp only[show eT "tuple" "tuple" = true from rfl,fg,dW,if_false];walk_at "st"
 match ys,hyl,hy,bad,good with
 |[],_,_,bad,_=>walk_at "st";exact bad rfl|[u],_,_,bad,_=>walk_at "st";exact bad rfl|u::v::w::r,_,_,bad,_=>walk_at "st";rw[if_pos (by simp;omega)];exact bad rfl
 |[u,v],_,hy,bad,good=>
  walk_at "st";rw[if_neg<|by simp];refine⟨_,rfl,Eo (hy u<|by simp) ?_⟩;cases hu:cN u with
  |false=>walk_at "st";exact bad (by rw[dh,hu];rfl)
  |true=>
   obtain⟨p,rfl⟩:=yg hu;walk_at "st";refine⟨_,rfl,by decide,g0 (pQ _ _) (by decide) ?_⟩;rw[if_neg<|by simp,FO];cases hp:decide (p=0) with
   |true=>walk_at "st";exact bad (by rw[dh,hu,si,hp];rfl)
   |false=>
    walk_at "st";refine⟨_,rfl,Bl (hy v<|by simp) ?_⟩;cases hv:fZ n v with
    |false=>walk_at "st";exact bad (by rw[dh,hu,si,hp,hv];rfl)|true=>walk_at "st";exact good (by rw[dh,hu,si,hp,hv];rfl)
 rintro _ ⟨a,s2,hxs,ha,rfl⟩;rw[qK]at hxs;subst hxs;exact hnx _ ⟨ha,_,rfl⟩;rintro _ ⟨ha,s2,rfl⟩;obtain⟨ps,rfl,hps⟩:=yW ha;rw[ha,Nj h10,show sqs (.lst<|ps.map du)=ps from qH ps]at q;have hpq:=yX hz λp hp=>(hps p hp).1;have hf:sG b ps.length:=by have:=hf _ rfl h10;rwa [bU]at this
 unfold sG at hf;rw[bU]at h10;clear hps hx hl hk hz ha;show aF _ _ _ _ [.d<|aR s n,.d<|cE ps,s2,.un,.un,.un];refine qE (λρ=>(∀i,i<n->∀j,j<i+1->gs ps i j=(tT s n i j:Rat))/\∃s2 s3 s4 s5,ρ=[.d<|aR s n,.d<|cE ps,s2,s3,s4,s5]) (λnx hnx=>?_) ?_;show bD _ _ _ _ _ _;walk_at "st";refine⟨by omega,by omega,?_⟩;refine pW (λk ρ=>(∀i,i<k->∀j,j<i+1->gs ps i j=(tT s n i j:Rat))/\∃s2 s3 s4 s5,ρ=[.d<|aR s n,.d<|cE ps,s2,s3,s4,s5]) n ?_ (λρ hρ=>hnx ρ hρ) _ ⟨λi hi=>Ng hi<|by omega,_,_,_,_,rfl⟩;rintro k hkn _ ⟨hk,s2,s3,s4,s5,rfl⟩ nx2 hnx2;obtain⟨s5',e5⟩:=Ce (.d<|aR s n) (.d<|cE ps) s2 (.d<|.int k) s4 s5;show bD _ _ _ _ _ (pub 5 [.d<|aR s n,.d<|cE ps,s2,.d<|.int k,s4,s5]);rw[e5];clear e5;walk_at "st";refine⟨by omega,by omega,?_⟩;rw[show((k:Int)+1)=((k+1:Nat):Int) by omega];refine pW (λl ρ=>(∀j,j<l->gs ps k j=(tT s n k j:Rat))/\∃s2 s4 s5,ρ=[.d<|aR s n,.d<|cE ps,s2,.d<|.int k,s4,s5]) (k+1) ?_ ?_ _ ⟨λj hj=>Ng hj<|by omega,_,_,_,rfl⟩;rintro l hlk _ ⟨hl,s2,s4,s5,rfl⟩ nx3 hnx3;have hln:l<n:=by omega
 have gk:∀p∈ps,∀k,k<n->(p.2.map aP)[k]? = some (aP<|p.2.getD k 0)/\Sz b (p.2.getD k 0):=λp hp k hk=>by have:=hpq p hp;rw[bF,cD,bP (by rw[this.l];exact hk)];exact⟨rfl,this.r _<|fT _⟩
 show aF _ _ _ _ [.d<|aR s n,.d<|cE ps,s2,.d<|.int k,.d<|.int l,s5];refine bO<|own_by (xs:=ps.map λp=>aP<|p.2.getD k 0*p.2.getD l 0) (ρ':=[.d<|aR s n,.d<|cE ps,s2,.d<|.int k,.d<|.int l,.ow<|ps.map λp=>aP<|p.2.getD k 0*p.2.getD l 0]) rfl (λP hP=>?_) ?_
 unfold cE;walk_at "st";refine wz (f:=λp=>aP<|p.2.getD k 0*p.2.getD l 0) ps (λp hp Q hq=>?_) .un .un [] (by simp[aL];omega) (by simpa using hP);unfold aG;walk_at "st";refine⟨_,bC (gk p hp k hkn).1,by decide,_,bC (gk p hp l hln).1,by decide,Gf (gk p hp k hkn).2 (gk p hp l hln).2 (by have:1<=ps.length:=List.length_pos_of_mem hp;have:=xg (3*b+1) this;omega) hq⟩;dsimp only;unfold bT;rw[show pub 5 [.d<|aR s n,.d<|cE ps,s2,.d<|.int k,.d<|.int l,.ow<|ps.map λp=>aP<|p.2.getD k 0*p.2.getD l 0]=[.d<|aR s n,.d<|cE ps,s2,.d<|.int k,.d<|.int l,.d<|.lst<|ps.map λp=>aP<|p.2.getD k 0*p.2.getD l 0] from rfl];refine g9 (b:=!decide (gs ps k l=(tT s n k l:Rat))) (Ca (x:=aP<|gs ps k l) (y:=aP (tT s n k l:Rat)) (λP hP=>?_) (λP hP=>?_)<|λP hP=>g0 (pQ _ _) (pQ _ _) ?_) (λe=>?_) λe=>?_;unfold cE;walk_at "st";refine wz (f:=λp=>aP p.1) ps (λp hp Q hq=>?_) .un .un [] (by simp[aL];omega) ?_;walk_at "st";exact hq;refine⟨((false,false),ps.map (·.1),ps.map λp=>p.2.getD k 0*p.2.getD l 0),by simp[gO],Gc hpq hkn hln (by rw[kN];omega),?_⟩;dsimp only;rw[Ge];exact hP;rw[vg]at hP;walk_at "st";have ht:=jt s n;have hr:=(jD h _<|fT (show k<(tbl s n).length by omega)).1;refine⟨aZ<|gr (tbl s n) k,bC (by unfold gr;rw[bF,cD,bP<|by omega];rfl),?_⟩;walk_at "st";refine⟨.int<|tT s n k l,bC ?_,by decide,hP⟩;unfold tT ga gr;simp only[bF];rw[cD,bP (l:=tbl s n)<|by omega];simp only[h8];rw[bP<|by omega];rfl;rw[if_pos rfl,yz];exact hP;have e:¬gs ps k l=(tT s n k l:Rat):=by simpa using e
 rw[decide_eq_false (λz:p9 s n ps=>e<|z k hkn l hln)]at q;exact q;have e:gs ps k l=(tT s n k l:Rat):=by simpa using e
 refine hnx3 _ ⟨λj hj=>?_,_,_,_,rfl⟩;rcases gg j l with h1|h1
 exact hl j h1;rw[show j=l by omega];exact e;rintro _ ⟨hl,s2,s4,s5,rfl⟩;refine hnx2 _ ⟨λi hi j hj=>?_,_,_,_,_,rfl⟩;rcases gg i k with h1|h1
 exact hk i h1 j hj;have:i=k:=by omega
 subst this;exact hl j hj;rintro _ ⟨hlow,s2,s3,s4,s5,rfl⟩;rw[Nj<|Ly h he hlow]at q;exact q;rw[if_pos (by simp;omega)];rw[decide_eq_false h10]at q;exact q
theorem Cf:∀r:List Rat,lm (r.map aP)=true
 |[]=>by rw[gB,lm]|q::r=>by rw[cP,lm,Cf r];rfl
def tri:Nat->Nat
 |0=>0|i+1=>tri i+i
def lq(r:List Rat):D:=.lst<|r.map aP
theorem Cg(x w:Rat)(h0:w≠0):Rat.divInt (x.num*(w.den:Int)) ((x.den:Int)*w.num)=x/w:=by
 have e:∀q:Rat,(q.num:Rat)/((q.den:Nat):Rat)=q:=λq=>by have:=qd q;rw[ua,ub]at this;exact this
 have hd:∀q:Rat,((q.den:Nat):Rat)≠0:=λq=>by exact_mod_cast q.den_nz
 have hw:(w.num:Rat)≠0:=by intro z;have:=e w;rw[z]at this;exact h0 (by rw[<-this];grind)
 rw[ua,jJ,jJ,ub,ub];have e1:=e x;have e2:=e w;have d1:=hd x;have d2:=hd w;generalize (x.num:Rat)=a at *;generalize ((x.den:Nat):Rat)=b at *;generalize (w.num:Rat)=c at *;generalize ((w.den:Nat):Rat)=d at *;rw[<-e1,<-e2];grind
theorem LA(h:a<=4):bq 6 a<=111:=by
 match a,h with
 |0,_=>decide|1,_=>decide|2,_=>decide|3,_=>decide|4,_=>decide
theorem qc{R:List (List Rat)}(hl:R.length=n)(hr:∀r∈R,r.length=n)(hi:i<n)(hj:j<n):R[i]? = some (R.getD i [])/\R.getD i []∈R/\(R.getD i []).length=n/\(R.getD i [])[j]? = some (en R i j):=by
 have e:R.getD i []=R[i]'(by omega):=by rw[bF,bP<|by omega];rfl
 have hm:R.getD i []∈R:=by rw[e];exact fT _
 refine⟨by rw[e,bP],hm,hr _ hm,?_⟩;unfold en;rw[bF (l:=R.getD i []),bP (l:=R.getD i []) (by rw[hr _ hm];exact hj)];rfl
def upd(R:List (List Rat))(a k:Nat):List Rat:=cC (R.getD k []) (en R a a*(eh (R.getD a [])<|en R a a).getD k 0)<|eh (R.getD a []) (en R a a)
def RR(R:List (List Rat))(a n i:Nat):List (List Rat):=(List.range n).map λk=>if k<i then upd R a k else R.getD k []
theorem LB{R:List (List Rat)}(hl:R.length=n):RR R a n 0=R:=by unfold RR;refine sY (by simp[hl]) λi h1 h2=>?_;rw[oC,xq,if_neg<|by omega,bF,bP h2];rfl
theorem LC{R:List (List Rat)}(hi:i<n):(RR R a n i).set i (upd R a i)=RR R a n (i+1):=by unfold RR;refine sY (by simp) λk h1 h2=>?_;rw[List.getElem_set];simp only[oC,xq];split;rename_i e;subst e;rw[if_pos<|by omega];rename_i e;by_cases hk:k<i;rw[if_pos hk,if_pos<|by omega];rw[if_neg hk,if_neg<|by omega]
theorem wD{R:List (List Rat)}(hi:i<n):(RR R a n i)[i]? = some (R.getD i []):=by unfold RR;rw[cD,hZ hi];simp
theorem by_at{s:Rat}(hk:k<r.length):(eh r s)[k]? = some (r.getD k 0/s):=by unfold eh;rw[cD,bF,bP hk];rfl
theorem LD{R:List (List Rat)}(hl:R.length=n)(hr:∀r∈R,r.length=n)(ha:a<n)(hk:k<n)(h0:en R a a≠0)(sy:en R a k=en R k a):upd R a k=cC (R.getD k []) ((R.getD k []).getD a 0) (eh (R.getD a [])<|en R a a):=by have ea:=qc hl hr ha hk;unfold upd;rw[show(eh (R.getD a [])<|en R a a).getD k 0=en R a k/en R a a by rw[bF,by_at (by rw[ea.2.2.1];exact hk)];rfl];rw[show en R a a*(en R a k/en R a a)=(R.getD k []).getD a 0 by rw[sy];show _=en R k a;grind]
theorem Gg{R:List (List Rat)}(hl:R.length=n)(hr:∀r∈R,r.length=n)(ha:a<n)(hi:i<n)(hj:j<n)(h0:en R a a≠0):(upd R a i).getD j 0=en R i j-en R a i*(en R a j/en R a a):=by
 have ea:=qc hl hr ha hi;have ej:=qc hl hr ha hj;have ei:=qc hl hr hi hj;have lb:(eh (R.getD a [])<|en R a a).length=n:=by unfold eh;rw[bU];exact ea.2.2.1
 have e1:(eh (R.getD a [])<|en R a a)[j]? = some (en R a j/en R a a):=by_at (by rw[ea.2.2.1];exact hj);have e2:(eh (R.getD a [])<|en R a a).getD i 0=en R a i/en R a a:=by rw[bF,by_at (by rw[ea.2.2.1];exact hi)];rfl
 unfold upd cC;rw[bF,zC,ei.2.2.2,e1,e2];show en R i j-en R a a*(en R a i/en R a a)*(en R a j/en R a a)=_;grind
theorem LE(L:List Nat)(f:Nat->Rat):lm (L.map λk=>aP<|f k)=true:=by have:=Cf<|L.map f;rw[List.map_map]at this;exact this
end B.C.Q0
theorem set_by{E:Ex->Prop}(e:ρ.set i (.d d)=ρ')(hw:∀P:D->Prop,P d->w E ρ P)(h:N.nx ρ'):aQ i w E N ρ:=hw _ (by rw[e];exact h)
section
variable{o a b:Expr}{t:WA}{id:String}{g:Str->List D->(D->Prop)->Prop}
def CS(mg:Str->Option Value)(x y:Str):Prop:=∃t,mg x=some (.str y t)
theorem Na{y:Str}(X:K.In h)(G:h.Ns mainGlobals mg){t:Tok}(a:PySem.W.nsIn K mainGlobals x=some (some<|.str y t)):CS mg x y:=⟨t,PySem.W.mg_of X G a⟩
end
open Dt
abbrev Sm:=B.C.Sm
section
theorem Gh{b:Nat}:∀{a c:List Rat},(∀x∈a,Sz 7 x)->(∀x∈c,Sz b x)->Sz (a.length*(b+8)+1) (cK a c)
 |[],c,_,_=>by unfold cK;exact Sz.zero (by omega)|_::_,[],_,_=>by unfold cK;exact Sz.zero (by omega)|x::a,y::c,ha,hc=>by rw[cK];have ih:=Gh (a:=a) (c:=c) (b:=b) (λz hz=>ha z<|by simp[hz]) λz hz=>hc z (by simp[hz]);exact(((ha x<|by simp).mul<|hc y<|by simp).add ih).mono (by rw[dM,oP];omega)
theorem LF(h:IsSl s n)(hr:∀x∈r,Sz b x):∀x∈eK s n r,Sz (5*(b+8)+1) x:=λx hx=>by
 unfold eK at hx;obtain⟨l,hl,rfl⟩:=YbL.mp hx;obtain⟨h1,h2⟩:=jD h l hl;have:=Gh (a:=dj l) (c:=r) (b:=b) (λz hz=>by
  obtain⟨i,hi,rfl⟩:=YbL.mp hz;exact(yp<|h2 i hi).mono<|by decide) hr
 have e:(dj l).length=n:=by unfold dj;rw[bU];exact h1
 rw[e]at this;exact this.mono (by have:=sU h.n5 (cB<|b+8);omega)
end
structure LG(K:Nd)(mg:Str->Option Value)(x qual f:Str)(st:Stmt):Prop where
 h:∃(C fI:Addr) (od:Option Addr) (osl:Array (Option Value)) (kV doc pm:Value) (an:Option Addr) (cdv ct:Value),i8 K x=some C/\mg x=some (.ref C)/\Fl.clsF K C Fl.bmV "ValueError.__new__" f fI=true/\
  K.lookup fI=some ⟨.type "function",od,.func<|PySem.W.fnOf "__init__" qual (cW st) (bQ st) (aM st) .none kV doc pm an cdv ct,osl⟩/\PySem.W.codeIn K cdv qual=true/\PySem.W.keepIn K (.ref fI)=true
section
variable{w:World}{f:Str}
theorem LH{hp:Heap}(X:K.In hp)(G:hp.Ns mainGlobals mg){C fI:Addr}{kV doc pm cdv ct:Value}{dd:Option Addr}{cd:ClassData}(a:PySem.W.nsIn K mainGlobals x=some (some<|.ref C))(lc:K.lookup C=some ⟨.type "type",dd,.cls cd,sl⟩)(ni:PySem.W.nsIn K cd.ns "__init__" = some (some<|.ref fI))(q:Fl.clsF K C Fl.bmV "ValueError.__new__" f fI=true)
  (l:K.lookup fI=some ⟨.type "function",od,.func<|PySem.W.fnOf "__init__" qual (cW st) (bQ st) (aM st) .none kV doc pm an cdv ct,osl⟩) (c:PySem.W.codeIn K cdv qual=true) (kp:PySem.W.keepIn K (.ref fI)=true):LG K mg x qual f st:=
 ⟨C,fI,od,osl,kV,doc,pm,an,cdv,ct,sj a,PySem.W.mg_of X G a,q,l,c,kp⟩
end
abbrev Nb:List Str:=["NoSlants", "NoRow", "NoNumber", "NoLine", "NotEven", "NotFull", "NotStrong1", "NotStrong2", "NotStrong3", "NotStrong4", "NotStrong5"]
def bf(T:Nat->Nat->Rat)(n:Nat)(u v:Nat->Rat):Rat:=aN (λi=>u i*aN (λj=>T i j*v j) n) n
theorem sumN_split(f:Nat->Rat)(n:Nat):∀m:Nat,aN f (n+m)=aN f n+aN (λj=>f<|n+j) m
 |0=>by simp only[aN,xm];grind|m+1=>by rw[Nat.add_succ,aN,sumN_split f n m,aN];grind
def nul(T:Nat->Nat->Rat)(n:Nat)(U:Nat->Nat->Rat)(a:Nat):Bool:=decide (bf T n (U a) (U a)=0)
namespace Pj
theorem sumI_bd{f:Nat->Int}{c:Nat}:∀{n:Nat},(∀i,i<n->(f i).natAbs<=c)->(bJ f n).natAbs<=n*c
 |0,_=>by simp[bJ]|n+1,h=>by have h1:=sumI_bd (f:=f) (n:=n) λi hi=>h i (by omega);have h2:=h n (by omega);have h3:=zF (bJ f n)<|f n;rw[bJ,oP];omega
end Pj
def sH(s:List Int)(n:Nat)(u v:List Rat):Rat:=cK u<|eK s n v
def Ch:bR:=fnS (λx:(Nat×Nat)×List (List Rat)=>[cV x.2,.int x.1.2]) (λx=>yL x.1.1 x.1.2 x.2) λx=>.bl<|decide ((cO x.2 x.1.2).ld.length=x.2.length)
section
variable{E:Ex->Prop}{x z:D}{w:Nat}{l u v:List Rat}{R P f:List (List Rat)}
theorem LJ(h:IsSl s n)(ev:s.reverse=s)(hu:u.length=n)(hv:v.length=n):Bx (bS s) (aG u) (aG v)=.ok (aP<|sH s n u v):=by
 unfold Bx Bv;rw[n6 h];unfold pY;have e1:fZ n (aG u)=true:=by have:=A0 u;rwa [hu]at this
 have e2:fZ n (aG v)=true:=by have:=A0 v;rwa [hv]at this
 rw[lL,Nj ev,h.sN,e1,e2,n8,n8];rfl
theorem LK(h:IsSl s n)(ev:s.reverse=s)(hu:u.length=n)(hv:v.length=n)(zu:∀x∈u,Sz 170 x)(zv:∀x∈v,Sz 170 x)(q:Q (aP<|sH s n u v)):yF [bS s,aG u,aG v] E Q:=
 xS.ok (bS s,aG u,aG v) rfl ⟨h.kd,AU (by have:=h.n5;omega),AU (by have:=h.n5;omega),ZcK.mpr zu,ZcK.mpr zv⟩ (LJ h ev hu hv) q
end
abbrev ZdG:List Str:=["rows", "many"]
def Gi:WS:=(aJ<|w2 (gEq false) (wB bI<|aC (w2 gIx (wF BE<|aC (wN 0)<|aC (wN 1) aA)<|wC<|D.int<|0) aA)<|wB bI<|aC (wN 0) aA)
theorem LL:Rd Ch Gi ZdG:=by rintro _ E Q ⟨⟨⟨w,m⟩,R⟩,rfl,h,q⟩;dsimp only at h q;unfold Gi;walk_at "st";refine⟨((w,m),R),rfl,h,?_⟩;refine⟨_,rfl,?_⟩;unfold cV;walk_at "st";rw[bU,bU,show((((cO R m).ld.length:Nat):Int)==((R.length:Nat):Int))=decide ((cO R m).ld.length=R.length) by rw[jf];simp;exact Int.ofNat_inj];exact q
theorem ZkJ:(q.num>0↔0<q)/\(q.num<0↔q<0):=by
 have h1:=Rat.num_nonneg (q:=q);have h2:=Yct (q:=q);constructor;constructor;intro h;have a:=h1.mp (by omega);have:q≠0:=λz=>by have:=h2.mpr z;omega
 grind;intro h;have a:=h1.mpr (by grind);have:q.num≠0:=λz=>by have:=h2.mp z;grind
 omega;constructor;intro h;have:¬0<=q:=λz=>by have:=h1.mpr z;omega
 grind;intro h;have:¬0<=q.num:=λz=>by have:=h1.mp z;grind
 omega
section
theorem LM{P:List (List Rat)}(hR:∀r∈P,r.length=n)(fu:∀x:List Rat,x.length=n->(∀r∈P,cK r x=0)->∀k,k<n->x.getD k 0=0):(cO P n).ld.length=n:=by
 have ec:=ww hR n<|cB _;have:∀q,q<n->q∈(cO P n).pl:=λq hq=>Classical.byContradiction λhn=>by obtain⟨l,f0⟩:=ec.free hq hn;have:=fu _ l f0 q hq;rw[FY _ _ _ (by rw[vI];exact ec.lt) hn,FW hq,if_pos rfl]at this;exact Ng this (by decide)
 have e:(cO P n).pl=List.range n:=F5 ec.asc (Lw n) λx=>⟨λhx=>Yag.mpr<|ec.lt x hx,λhx=>this x<|Yag.mp hx⟩;rw[ec.ll,e,oS]
end
abbrev Gj:=List D->(Ex->Prop)->(List (List D)->Prop)->Prop
abbrev LN:=(Ex->Prop)->(List (List D)->Prop)->cS->Prop
def LO:SV->Bool
 |.oo _=>true|_=>false
def rows(i:Nat)(ρ:cS):cS:=match ρ[i]? with
 |some (.oo xss)=>ρ.set i<|.ow (xss.map .lst)
 |_=>ρ
namespace I9
theorem lf_of{m:Nat}:∀r:List Rat,(∀x∈r,Sz m x)->Lf (m*r.length+1) r.length r
 |[],_=>⟨[],1,rfl,by decide,by simp,by simp,rfl⟩
 |x::r,h=>by
  obtain⟨c,e,h1,h2,h3,h4,h5⟩:=(lf_of r λy hy=>h y<|by simp[hy]).ex;have hx:=h x (by simp);have eb:m*(x::r).length+1=m+(m*r.length+1):=by rw[dM,xk];omega
  refine⟨x.num*e::c.map (λy=>y*x.den),x.den*e,by simp[h1],lG (by exact_mod_cast x.den_nz) h2,?_,λy hy=>?_,?_⟩;rw[eb,gh,ke];exact lK hx.2 h3;rw[eb];rcases Yam.mp hy with rfl|hy
  rw[gh];exact lK hx.1 h3;obtain⟨z,hz,rfl⟩:=YbL.mp hy;rw[gh,ke,kN];exact lK hx.2<|h4 z hz
  rw[cP,List.map_map];congr 1;conv=>lhs;rw[<-qd x]
  rw[t0 h2];conv=>lhs;rw[h5]
  refine iJ λz _=>?_;show Rat.divInt z e=Rat.divInt (z*x.den) (x.den*e);rw[qe (x.den:Int) e,t0<|by exact_mod_cast x.den_nz]
end I9
open B.C
namespace Mn
def fc:Nat->Nat
 |0=>1|k+1=>(k+1)*fc k
section
variable{A:Nat->R}{B:Nat}
theorem jb{x y:Int}{d:Nat}(h:x.natAbs<=c)(g:y.natAbs<=d):(x*y).natAbs<=c*d:=by rw[gh];exact sU h g
theorem y0{a b:R}(ha:∀j,(a j).natAbs<=B)(hb:∀j,(b j).natAbs<=B)(p q:Nat):(m2 a b p q).natAbs<=2*(B*B):=by unfold m2;have h1:=jb (ha p)<|hb q;have h2:=jb (ha q)<|hb p;generalize B*B=z at *;omega
theorem wE{a b c:R}(ha:∀j,(a j).natAbs<=B)(hb:∀j,(b j).natAbs<=B)(hc:∀j,(c j).natAbs<=B)(p q r:Nat):(m3 a b c p q r).natAbs<=6*(B*(B*B)):=by unfold m3;have h1:=jb (hc r)<|y0 ha hb p q;have h2:=jb (hc q)<|y0 ha hb p r;have h3:=jb (hc p)<|y0 ha hb q r;rw[zS]at h1 h2 h3;generalize B*(B*B)=z at *;omega
theorem tQ{a b c d:R}(ha:∀j,(a j).natAbs<=B)(hb:∀j,(b j).natAbs<=B)(hc:∀j,(c j).natAbs<=B)(hd:∀j,(d j).natAbs<=B)(p q r s:Nat):(m4 a b c d p q r s).natAbs<=24*(B*(B*(B*B))):=by unfold m4;have h1:=jb (hd s)<|wE ha hb hc p q r;have h2:=jb (hd r)<|wE ha hb hc p q s;have h3:=jb (hd q)<|wE ha hb hc p r s;have h4:=jb (hd p)<|wE ha hb hc q r s;rw[zS]at h1 h2 h3 h4;generalize B*(B*(B*B))=z at *;omega
theorem wG{a b c d e:R}(ha:∀j,(a j).natAbs<=B)(hb:∀j,(b j).natAbs<=B)(hc:∀j,(c j).natAbs<=B)(hd:∀j,(d j).natAbs<=B)(he:∀j,(e j).natAbs<=B)(p q r s t:Nat):(m5 a b c d e p q r s t).natAbs<=120*(B*(B*(B*(B*B)))):=by unfold m5;have h1:=jb (he t)<|tQ ha hb hc hd p q r s;have h2:=jb (he s)<|tQ ha hb hc hd p q r t;have h3:=jb (he r)<|tQ ha hb hc hd p q s t;have h4:=jb (he q)<|tQ ha hb hc hd p r s t;have h5:=jb (he p)<|tQ ha hb hc hd q r s t;rw[zS]at h1 h2 h3 h4 h5;generalize B*(B*(B*(B*B)))=z at *;omega
theorem Ci{x d z:Nat}(h:x<=c*z)(cd:c<=d):x<=d*z:=gT h<|kO _ cd
theorem Gk:B^2=B*B:=by rw[mZ,Nat.pow_one]
theorem Gm:B^3=B*(B*B):=by rw[mZ,Gk,kN]
theorem Gn:B^4=B*(B*(B*B)):=by rw[mZ,Gm,kN]
theorem LQ:B^5=B*(B*(B*(B*B))):=by rw[mZ,Gn,kN]
theorem dt_bd(h:∀i j,(A i j).natAbs<=B):∀{k:Nat},k<=5->(dt A k).natAbs<=fc k*B^k
 |0,_=>by simp[dt,fc]|1,_=>by rw[Nat.pow_one];exact gT (h 0 0)<|Nat.le_of_eq (Nat.one_mul _).symm
 |2,_=>by rw[Gk];exact y0 (h 0) (h 1) 0 1|3,_=>by rw[Gm];exact wE (h 0) (h 1) (h 2) 0 1 2|4,_=>by rw[Gn];exact tQ (h 0) (h 1) (h 2) (h 3) 0 1 2 3|5,_=>by rw[LQ];exact wG (h 0) (h 1) (h 2) (h 3) (h 4) 0 1 2 3 4
theorem LR:∀{k:Nat},k<=5->fc k<=120:=by decide
theorem Cj:∀{k:Nat},k<=4->fc k<=24:=by decide
theorem cof_bd(h:∀i j,(A i j).natAbs<=B)(hk:k<=5):(jv A k i j).natAbs<=24*B^(k-1):=by
 have e:(sg<|i+j).natAbs=1:=by unfold sg;split<;>rfl
 unfold jv;rw[gh,e,Nat.one_mul];exact Ci (dt_bd (λa b=>h _ _)<|by omega)<|Cj (by omega)
theorem cramer{t:Nat}(hk:k<=5)(ht:t<k){x:Nat->Rat}{b:Nat->Int}(h:∀i,i<k->aN (λs=>(A i s:Rat)*x s) k=(b i:Rat)):(dt A k:Rat)*x t=((bJ (λi=>jv A k i t*b i) k:Int):Rat):=by
 have e:aN (λi=>(jv A k i t:Rat)*aN (λl=>(A i l:Rat)*x l) k) k=(dt A k:Rat)*x t:=by
  rw[fS (g:=λi=>aN (λl=>(jv A k i t:Rat)*((A i l:Rat)*x l)) k)<|λi _=>(sumN_mul _ _ k).symm,tO];rw [fS (g:=λl=>x l*((bJ (λi=>A i l*jv A k i t) k:Int):Rat)) (λl _=>by
   rw[<-qJ,<-sumN_mul];exact fS λi _=>by rw[jJ];grind)]
  rw[kJ (k:=t) ht (λi hi ne=>by rw[tN A hk hi ht,if_neg ne];exact Rat.mul_zero _),tN A hk ht ht,if_pos rfl,xp]
 rw[<-e,<-qJ];exact fS λi hi=>by rw[h i hi,jJ]
end
structure Sp(k n:Nat)(I ld:Nat->Nat->Rat)(P:Nat->Nat):Prop where
 sp:∀i,i<k->∀q,I i q=aN (λt=>I i (P t)*ld t q) k
 nu:∀y:Nat->Rat,(∀i,i<k->aN (λq=>I i q*y q) n=0)->∀t,t<k->aN (λq=>ld t q*y q) n=0
section
variable{p:Nat}{I I' ld ld':Nat->Nat->Rat}{P P':Nat->Nat}{r l:Nat->Rat}
theorem fj(F1:∀t,t<k->∀q,ld' t q=ld t q-ld t p*l q)(F2:∀q,ld' k q=l q)(P1:∀t,t<k->P' t=P t)(P2:P' k=p)(u:Nat->Rat)(q:Nat) :
  aN (λt=>u (P' t)*ld' t q) (k+1)=aN (λt=>u (P t)*ld t q) k+(u p-aN (λt=>u (P t)*ld t p) k)*l q:=by
 rw[aN,F2,P2,fS (g:=λt=>u (P t)*ld t q-l q*(u (P t)*ld t p)) λt ht=>by rw[P1 t ht,F1 t ht];grind,qa,sumN_mul];grind
theorem Sp.step(h:Sp k n I ld P){c:Rat}(c0:c≠0)(hc:c=r p-aN (λt=>r (P t)*ld t p) k)(hl:∀q,c*l q=r q-aN (λt=>r (P t)*ld t q) k)
  (F1:∀t,t<k->∀q,ld' t q=ld t q-ld t p*l q) (F2:∀q,ld' k q=l q) (P1:∀t,t<k->P' t=P t) (P2:P' k=p) (I1:∀i,i<k->I' i=I i) (I2:I' k=r):Sp (k+1) n I' ld' P':=by
 refine⟨λi hi q=>?_,λy hy t ht=>?_⟩
 .rw[fj F1 F2 P1 P2]
  by_cases e:i=k
  .rw[e,I2,<-hc,hl];grind
  .rw[I1 i<|by omega,<-h.sp i (by omega) q,<-h.sp i (by omega) p];grind
 .have hn:=h.nu y λi hi=>by have:=hy i (by omega);rwa [I1 i hi]at this
  have hr:=hy k (by omega);rw[I2]at hr;have l0:aN (λq=>l q*y q) n=0:=by
   have e:c*aN (λq=>l q*y q) n=0:=by
    rw[<-sumN_mul,fS (g:=λq=>r q*y q-aN (λt=>r (P t)*(ld t q*y q)) k) λq _=>by
     rw[<-Rat.mul_assoc,hl,fS (g:=λt=>y q*(r (P t)*ld t q)) (f:=λt=>r (P t)*(ld t q*y q)) λt _=>by grind,sumN_mul];grind]
    rw[qa,hr,tO,qI λt ht=>by rw[sumN_mul,hn t ht,Rat.mul_zero]];grind
   rcases YcV.mp e with z|z
   .exact Ng z c0
   .exact z
  by_cases e:t=k
  .rw[e,fS λq _=>by rw[F2]];exact l0
  .rw[fS (g:=λq=>ld t q*y q-ld t p*(l q*y q)) λq _=>by rw[F1 t<|by omega];grind,qa,sumN_mul,l0,hn t<|by omega]
   grind
theorem Zo(P:Nat->Nat)(hP:∀t,t<k->P t<n)(w:Nat->Rat)(u:Nat->Rat):aN (λq=>u q*aN (λt=>if q=P t then w t else 0) k) n=aN (λt=>u (P t)*w t) k:=by rw[fS (g:=λq=>aN (λt=>u q*if q=P t then w t else 0) k) λq _=>(sumN_mul _ _ _).symm,tO];refine fS λt ht=>?_;rw[kJ (k:=P t) (hP t ht) λq _ hq=>by rw[if_neg hq,Rat.mul_zero],if_pos rfl]
theorem Sp.bd(h:Sp k n I ld P)(k5:k<=5)(hP:∀t,t<k->P t<n)(one:∀s t,s<k->t<k->ld s (P t)=if s=t then 1 else 0){M:Nat}{c:Nat->Nat->Int}{e:Nat->Int}(he:∀i,i<k->e i≠0)(hI:∀i,i<k->∀q,(e i:Rat)*I i q=(c i q:Rat))(hc:∀i q,(c i q).natAbs<=M) :
  ∃D:Int,D≠0/\D.natAbs<=fc k*M^k/\∀t,t<k->∀q,∃N:Int,(D:Rat)*ld t q=(N:Rat)/\N.natAbs<=k*(24*M^(k-1)*M):=by
 refine⟨dt (λi t=>c i<|P t) k,λz=>?_,dt_bd (λi j=>hc _ _) k5,λt ht q=>⟨bJ (λi=>jv (λi t=>c i<|P t) k i t*c i q) k,cramer (A:=λi t=>c i<|P t) k5 ht (x:=λt=>ld t q) λi hi=>?_,Pj.sumI_bd λi _=>jb (cof_bd (λi j=>hc _ _) k5)<|hc i q⟩⟩
 .have sm:Sm (M+1) k ((List.range k).map λi=>(List.range k).map λt=>c i<|P t):=by
   refine⟨by simp,λr hr=>?_,λr hr x hx=>?_⟩
   .obtain⟨i,_,rfl⟩:=YbL.mp hr;simp
   .obtain⟨i,_,rfl⟩:=YbL.mp hr
    obtain⟨t,_,rfl⟩:=YbL.mp hx;have:=hc i<|P t;have:=Nat.lt_two_pow_self (n:=M+1);omega
  have ta:∀i,i<k->∀t,t<k->tA ((List.range k).map λi=>(List.range k).map λt=>c i<|P t) i t=c i (P t):=λi hi t ht=>by
   unfold tA ga gr;simp only[bF];rw[cD,hZ hi,jE,h8,cD,hZ ht];rfl
  have e0:eM ((List.range k).map λi=>(List.range k).map λt=>c i<|P t)=0:=by rw[num_dt sm k5,F8 ta];exact z
  obtain⟨w,⟨a,ha,wa⟩,hw⟩:=B0 sm k5 e0;have hy:=h.nu (λq=>aN (λt=>if q=P t then (w t:Rat) else 0) k) (λi hi=>by
   rw[Zo P hP];have e1:(e i:Rat)*aN (λt=>I i (P t)*(w t:Rat)) k=0:=by
    rw[<-sumN_mul,fS (g:=λt=>((c i (P t)*w t:Int):Rat)) λt _=>by rw[<-Rat.mul_assoc,hI i hi,jJ],qJ];have:=hw i hi;rw[vU (g:=λt=>c i (P t)*w t) λt ht=>by rw[ta i hi t ht]]at this;rw[this];rfl
   rcases YcV.mp e1 with z|z
   .exact Ng (by exact_mod_cast z) (he i hi)
   .exact z) a ha
  rw[Zo P hP,kJ (k:=a) ha λt ht ne=>by rw[one a t ha ht,if_neg<|Nr ne,jy],one a a ha ha,if_pos rfl,Rat.one_mul]at hy;exact wa (by exact_mod_cast hy)
 .have:=h.sp i hi q
  rw[<-hI i hi q,this,<-sumN_mul];exact fS λt _=>by rw[<-hI i hi];grind
end
structure Cm(B n:Nat)(x:Cl):Prop where
 ex:∃I:List (List Rat),I.length=x.ld.length/\(∀r∈I,Lf B n r)/\Sp x.ld.length n (λi q=>(I.getD i []).getD q 0) (λt q=>(x.ld.getD t []).getD q 0) λt=>x.pl.getD t 0
 rs:∀u∈x.rs,∃r,Lf B n r/\∀q,u.getD q 0=r.getD q 0-aN (λt=>r.getD (x.pl.getD t 0) 0*(x.ld.getD t []).getD q 0) x.ld.length
section
variable{B p:Nat}{x:Cl}{R:List (List Rat)}
theorem Go{a c:List Rat}(h:a.length=c.length):(cC a q c).getD j 0=a.getD j 0-q*c.getD j 0:=by
 unfold cC;rw[bF,zC,bF,bF];cases e:a[j]? with
 |none=>rw[ff (by have:=List.getElem?_eq_none_iff.mp e;omega)];show(0:Rat)=0-q*0;grind|some y=>have:=(Yap.mp e).1;rw[bP (l:=c)<|by omega];rfl
theorem by_at{a:List Rat}:(eh a q).getD j 0=a.getD j 0/q:=by
 unfold eh;rw[bF,cD,bF];cases a[j]? with
 |none=>show(0:Rat)=0/q;rw[kP,jy]|some y=>rfl
theorem app_lt{α:Type}{L M:List α}{d:α}(h:i<L.length):(L++M).getD i d=L.getD i d:=by rw[bF,kL h,bF]
theorem app_at{α:Type}{L:List α}{y d:α}:(L++[y]).getD L.length d=y:=by rw[bF,j9<|cB _,Nat.sub_self];rfl
theorem Cm.step(h:Cm B n x)(E:Ec n R p x.ld x.pl x.rs):Cm B n (pZ p x):=by
 unfold pZ;cases e:dH x.rs p with
 |none=>exact h
 |some a=>
  obtain⟨a1,a2⟩:=sD e;have ma:=p6 a1;obtain⟨I,hI,hf,S⟩:=h.ex;obtain⟨r,hr,hq⟩:=h.rs _ ma;have ul:=E.ws _ ma;have ll:=E.ll;have ldl:(f8 x.rs a p).length=n:=by unfold f8 eh;rw[bU];exact ul
  have lat:∀q,(f8 x.rs a p).getD q 0=(x.rs.getD a []).getD q 0/(x.rs.getD a []).getD p 0:=λq=>by_at;have wl:(bY x.ld (f8 x.rs a p) p).length=x.ld.length:=by unfold bY;rw[bU]
  have wat:∀t,t<x.ld.length->∀q,((bY x.ld (f8 x.rs a p) p++[f8 x.rs a p]).getD t []).getD q 0=(x.ld.getD t []).getD q 0-(x.ld.getD t []).getD p 0*(f8 x.rs a p).getD q 0:=λt ht q=>by rw[app_lt<|by omega];unfold bY;rw[bF (l:=List.map _ _),cD,bP ht,jE,h8,bF (l:=x.ld),bP ht,h8,Go<|by rw[ldl,E.wl _<|fT _]]
  have wk:∀q,((bY x.ld (f8 x.rs a p) p++[f8 x.rs a p]).getD x.ld.length []).getD q 0=(f8 x.rs a p).getD q 0:=λq=>by conv=>lhs;rw[<-wl,app_at]
  have pk:(x.pl++[p]).getD x.ld.length 0=p:=by rw[ll,app_at]
  have pt:∀t,t<x.ld.length->(x.pl++[p]).getD t 0=x.pl.getD t 0:=λt ht=>app_lt (by omega);have nl:(bY x.ld (f8 x.rs a p) p++[f8 x.rs a p]).length=x.ld.length+1:=by rw[gA,wl];rfl
  refine⟨⟨I++[r],by rw[nl,gA,hI];rfl,λu hu=>?_,?_⟩,λu hu=>?_⟩;rcases Yan.mp hu with hu|hu
  exact hf u hu;rw[Ycm.mp hu];exact hr;dsimp only;rw[nl];refine S.step (p:=p) (r:=λq=>r.getD q 0) (l:=λq=>(f8 x.rs a p).getD q 0) (c:=(x.rs.getD a []).getD p 0) a2 (hq p) (λq=>?_) wat wk pt pk (λi hi=>by rw[app_lt<|by omega]) (by rw[<-hI,app_at]);rw[lat,<-hq q];generalize (x.rs.getD a []).getD p 0=c at a2;grind;dsimp only at hu ⊢;unfold bY at hu;obtain⟨u0,hu0,rfl⟩:=YbL.mp hu;obtain⟨r2,hr2,hq2⟩:=h.rs u0<|mT hu0;refine⟨r2,hr2,λq=>?_⟩;rw[nl,fj (u:=λq=>r2.getD q 0) (p:=p) (l:=λq=>(f8 x.rs a p).getD q 0) wat wk pt pk,Go<|by rw[ldl,E.ws _<|mT hu0],hq2 q,hq2 p];grind
theorem Ck(h:∀r∈R,Lf B n r):∀p,p<=n->Cm B n (cO R p)
 |0,_=>⟨⟨[],rfl,(λ_ h=>nomatch h),(λi hi=>Ng hi<|qO _),λy _ t ht=>Ng ht<|qO _⟩,λu hu=>⟨u,h u hu,λq=>by show _=_-(0:Rat);grind⟩⟩|p+1,hp=>(Ck h p<|by omega).step<|ww (λr hr=>(h r hr).len) p (by omega)
theorem Gp(h:Lf B n r):∃(c:Nat->Int) (e:Int),e≠0/\e.natAbs<=2^B/\(∀q,(c q).natAbs<=2^B)/\∀q,(e:Rat)*r.getD q 0=(c q:Rat):=by
 obtain⟨c,e,_,h2,h3,h4,rfl⟩:=h.ex;refine⟨λq=>c.getD q 0,e,h2,kK h3,λq=>?_,λq=>?_⟩;dsimp only;rw[bF];cases z:c[q]? with
 |none=>exact iI _|some y=>exact kK<|h4 y (ip z)
 dsimp only;rw[bF,cD,bF];cases c[q]? with
 |none=>show(e:Rat)*0=((0:Int):Rat);rw[Rat.mul_zero];rfl|some y=>show(e:Rat)*Rat.divInt y e=_;have:(e:Rat)≠0:=λz=>h2 (by exact_mod_cast z);rw[ua];show _=((y:Int):Rat);grind
theorem sz_by{N D:Int}(h:(D:Rat)*q=(N:Rat))(h0:D≠0)(h1:N.natAbs<2^b)(h2:D.natAbs<2^b):Sz b q:=by
 have d0:(D:Rat)≠0:=λz=>h0 (by exact_mod_cast z);have:q=Rat.divInt N D:=by rw[ua,<-h];grind
 rw[this];exact Bc h0 h1 h2
theorem y4{B:Nat}(h:c<2^b):c*(2^B)^k<2^(k*B+b):=by rw[<-Nat.pow_mul,kN B k,qN,kN];exact CN h<|Nat.pow_pos (by decide)
theorem Cm.get(h:Cm B n x)(E:Ec n R p x.ld x.pl x.rs)(hp:p<=n)(k5:x.ld.length<=5):∃D:Int,D≠0/\D.natAbs<=fc x.ld.length*(2^B)^x.ld.length/\∀t,t<x.ld.length->∀q,∃N:Int,(D:Rat)*(x.ld.getD t []).getD q 0=(N:Rat)/\N.natAbs<=x.ld.length*24*(2^B)^x.ld.length:=by
 obtain⟨I,hI,hf,S⟩:=h.ex;have ch:∀i,∃ce:(Nat->Int)×Int,(i<x.ld.length->ce.2≠0/\∀q,(ce.2:Rat)*(I.getD i []).getD q 0=(ce.1 q:Rat))/\∀q,(ce.1 q).natAbs<=2^B:=λi=>by by_cases hi:i<x.ld.length;obtain⟨c,e,h1,_,h3,h4⟩:=Gp (hf _<|p6 (a:=i)<|by omega);exact⟨(c,e),λ_=>⟨h1,h4⟩,h3⟩;exact⟨(λ_=>0,0),λz=>Ng z hi,λ_=>iI _⟩
 obtain ⟨D,d0,db,hN⟩:=S.bd (c:=λi=>(Classical.choose<|ch i).1) (e:=λi=>(Classical.choose<|ch i).2) (M:=2 ^ B) k5 (λt ht=>by
  have:t<x.pl.length:=by have:=E.ll;omega
  rw[bF,bP this];exact dm (E.lt _<|fT _) hp) (λs t hs ht=>E.one s t hs (by have:=E.ll;omega)) (λi hi=>((Classical.choose_spec<|ch i).1 hi).1) (λi hi=>((Classical.choose_spec<|ch i).1 hi).2)<|λi=>(Classical.choose_spec<|ch i).2
 refine⟨D,d0,db,λt ht q=>?_⟩;obtain⟨N,h1,h2⟩:=hN t ht q;refine⟨N,h1,gT h2<|Nat.le_of_eq ?_⟩;generalize 2^B=M;obtain⟨k,hk⟩:∃k,x.ld.length=k+1:=⟨x.ld.length-1,by omega⟩;rw[hk,Nat.add_sub_cancel,mZ,xr,xr]
theorem Cm.ld_sz(h:Cm B n x)(E:Ec n R p x.ld x.pl x.rs)(hp:p<=n)(k5:x.ld.length<=5):∀r∈x.ld,∀y∈r,Sz (x.ld.length*B+7) y:=λr hr y hy=>by obtain⟨D,d0,db,hN⟩:=h.get E hp k5;obtain⟨t,ht,rfl⟩:=Ybr.mp hr;obtain⟨q,hq,rfl⟩:=Ybr.mp hy;obtain⟨N,h1,h2⟩:=hN t ht q;rw[bF (l:=x.ld),bP ht,h8,bF,bP hq,h8]at h1;exact sz_by h1 d0 (jH h2<|y4<|by omega)<|jH db (y4 (by have:=LR k5;omega))
theorem Cm.rs_sz(h:Cm B n x)(E:Ec n R p x.ld x.pl x.rs)(hp:p<=n)(k4:x.ld.length<=4):∀u∈x.rs,∀y∈u,Sz ((x.ld.length+1)*B+9) y:=λu hu y hy=>by
 obtain⟨D,d0,db,hN⟩:=h.get E hp (by omega);obtain⟨r,hr,hq⟩:=h.rs u hu;obtain⟨c,e,e0,eb,cb,ce⟩:=Gp hr;obtain⟨q,hq',rfl⟩:=Ybr.mp hy;have hu:=hq q;rw[bF,bP hq',h8]at hu;have ch:∀t,∃N:Int,t<x.ld.length->(D:Rat)*(x.ld.getD t []).getD q 0=(N:Rat)/\N.natAbs<=x.ld.length*24*(2^B)^x.ld.length:=λt=>by by_cases ht:t<x.ld.length;obtain⟨N,h1⟩:=hN t ht q;exact⟨N,λ_=>h1⟩;exact⟨0,λz=>Ng z ht⟩
 have e1:((e*D:Int):Rat)*u[q]=((c q*D-bJ (λt=>c (x.pl.getD t 0)*Classical.choose (ch t)) x.ld.length:Int):Rat):=by
  rw[hu,Rat.intCast_sub,jJ,jJ,<-ce,<-qJ,fS (f:=λt=>((c (x.pl.getD t 0)*Classical.choose (ch t):Int):Rat)) (g:=λt=>((e:Rat)*(D:Rat))*(r.getD (x.pl.getD t 0) 0*(x.ld.getD t []).getD q 0)) λt ht=>by
   rw[jJ,<-ce,<-(Classical.choose_spec (ch t) ht).1];grind,sumN_mul]
  grind
 have kM:∀j:Nat,j*(2^B)^x.ld.length*2^B=j*(2^B)^(x.ld.length+1):=λj=>by rw[mZ,xr]
 refine sz_by e1 (lG e0 d0) (jH ?_<|y4 (c:=408)<|by decide)<|jH ?_ (y4 (c:=24)<|by decide)
 have b1:=jb (cb q) (gT db<|kO _<|Cj k4);have b2:=Pj.sumI_bd (f:=λt=>c (x.pl.getD t 0)*Classical.choose (ch t)) (n:=x.ld.length) λt ht=>jb (cb _) (Classical.choose_spec (ch t) ht).2;rw[kN,kM]at b1;rw[kN<|2^B,kM,<-xr]at b2;have b3:x.ld.length*(x.ld.length*24)<=384:=by have:=sU k4<|kO 24 k4;omega
 have b4:=kO ((2^B)^(x.ld.length+1)) b3;generalize (2^B)^(x.ld.length+1)=z at *;omega;have b1:=jb eb (gT db<|kO _<|Cj k4);rw[kN,kM]at b1;exact b1
theorem clm_z{w:Nat}(h:∀r∈R,Lf B w r)(hl:R.length<=5)(mw:m<=w)(w1:w<=1000)(hB:3*(5*B+9)<8990):yL w m R:=by
 have ok:∀p,p<m->om B w p R.length (cO R p):=λp hp=>EV h (by omega);have ec:∀p,p<=m->Ec w R p (cO R p).ld (cO R p).pl (cO R p).rs:=λp hp=>ww (λr hr=>(h r hr).len) p (by omega);refine⟨mw,w1,by omega,λp hp=>⟨(ok p hp).ln,(ok p hp).pl⟩,λp hp=>(ec p<|by omega).ws,λp hp a e=>?_⟩;have cm:=Ck h p (by omega);have cm1:=Ck h (p+1) (by omega);have ln:=(ok p hp).ln;obtain⟨a1,a2⟩:=sD e;have k4:(cO R p).ld.length<=4:=by omega
 have mono:∀j,j<=5->j*B+9<=5*B+9:=λj hj=>by have:=kO B hj;omega
 have lsz:∀y∈f8 (cO R p).rs a p,Sz (5*B+9) y:=λy hy=>by
  have e1:(cO R<|p+1).ld=bY (cO R p).ld (f8 (cO R p).rs a p) p++[f8 (cO R p).rs a p]:=by rw[cO];unfold pZ;rw[e]
  have l1:(cO R<|p+1).ld.length<=5:=by rw[e1];unfold bY;simp;omega
  have:=cm1.ld_sz (ec (p+1)<|by omega) (by omega) l1 (f8 (cO R p).rs a p) (by rw[e1];simp) y hy;exact this.mono (by have:=mono _ l1;omega)
 have rsz:∀u∈(cO R p).rs,u.length=w/\∀y∈u,Sz (5*B+9) y:=λu hu=>⟨(ec p<|by omega).ws u hu,λy hy=>(cm.rs_sz (ec p<|by omega) (by omega) k4 u hu y hy).mono<|mono _<|by omega⟩;refine⟨⟨5*B+9,by omega,(rsz _<|p6 a1).2⟩,⟨5*B+9,hB,λr hr=>⟨(ec p<|by omega).wl r hr,λy hy=>(cm.ld_sz (ec p<|by omega) (by omega) (by omega) r hr y hy).mono (by have:=mono _ (show(cO R p).ld.length<=5 by omega);omega)⟩,lsz⟩,5*B+9,hB,λr hr=>rsz r<|mT hr,lsz⟩
end
end Mn
section
def y6:List D->(D->Prop)->Prop:=λds Q=>match ds with|[.lst xs]=>∃ns:List Int,xs=its ns/\ns≠[]/\∀m∈ns,(∀x∈ns,m<=x)->Q (.int m)|_=>False
theorem LT(hc:X.calm=true):d6 X (.builtin "min") y6:=by refine⟨⟨_,Id hc,λW H vs ds Q ok r hg=>?_⟩,λds P P' hp hg=>?_⟩;unfold y6 at hg;split at hg;obtain⟨ns,rfl,hne,q⟩:=hg;obtain⟨v,rfl,rv⟩:=r.one;obtain⟨p,us,rfl,h1,rr⟩:=rv.sql ok;rw[ym rr]at h1;exact⟨p,ns,rfl,h1,hne,λm hm hl=>(q m hm hl).now ok<|.int _⟩;exact hg.elim;unfold y6 at hg ⊢;split at hg;obtain⟨bs,e,hne,q⟩:=hg;exact⟨bs,e,hne,λm hm hl=>hp _<|q m hm hl⟩;exact hg.elim
end
def j7(lo:Int)(n:Nat):List D:=(List.range n).map λ(k:Nat)=>.int<|lo-(k:Int)
theorem LU{W:Wd}(lo:Int)(n:Nat):nY K W (xH lo n) (j7 lo n):=by
 intro W2 H2 i g2 p2 ok2;refine⟨λd hd=>?_,λhi=>?_⟩;unfold j7 at hd;rw[cD]at hd;by_cases hi:i<n;rw[hZ hi]at hd;cases hd;refine⟨hi,λx H3 y=>?_⟩;obtain⟨rfl,rfl⟩:=y;exact⟨W2,.refl ok2,.int _⟩;rw[ff<|by simpa using hi]at hd;cases hd;have:(j7 lo n).length=n:=by unfold j7;simp
 rw[this]at hi;exact hi
def i3(Q:List D->Prop):List D->Prop
 |[.int i,.int j,.int k]=>(k = -1/\-10000<=i/\i<10000/\-10000<=j/\j<10000)/\Q (j7 i (i-j).toNat)|_=>False
theorem i3.mono{Q:List D->Prop}(h:∀b,Q b->Q' b):∀d,i3 Q d->i3 Q' d:=λd z=>by unfold i3 at z ⊢;split at z;exact⟨z.1,h _ z.2⟩;exact z.elim
def Cn(t:WA):WA:=λE ρ Q=>t E ρ<|i3 Q
section
variable{a b c:Expr}
theorem LV{t:WA}(hm:X.mg "range" = none)(ha:i9 X EX [a,b,c] t)(hg:Gl X "range" :=by rfl)(hs:starEach [a,b,c] X.env=(false,eval a X.env)::starEach [b,c] X.env:=by rfl)(hs2:(backTo pos<|starEach [b,c] X.env).any (·.1)=false:=by rfl) :
  lJ X EX tg (.Call (.Name "range" p) [a,b,c] [] pos) (Cn t):=by
 obtain⟨t,q,k⟩:=ha.t;refine⟨⟨_,Ih hg hm q hs hs2,λW0 H0 W σ H ρ E R s eo h=>?_⟩,λE ρ P P' hp h=>ha.mono _ _ _ _ (i3.mono hp) h⟩;refine k W0 H0 W σ H ρ E _ s eo<|ha.mono _ _ _ _ (λds hd vs W1 H1 x1 r1=>?_) h;unfold i3 at hd;split at hd
 .obtain⟨⟨rfl,h1⟩,hd⟩:=hd
  cases r1 with
  |cons r rr=>
   cases rr with
   |cons r' rr=>
    cases rr with
    |cons r'' rr=>
     cases rr;cases r;cases r';cases r'';exact⟨_,_,rfl,h1,hd W1 H1 _ x1<|LU _ _⟩
 .exact hd.elim
end
namespace B.C.Q0.Q2
def y8(ps:List Pr)(n:Nat):Bool:=decide ((cO (ps.map (·.2)) n).ld.length=n)
def sJ(s:List Int)(n:Nat)(y:D):Bool:=mU s n y&&(decide ((sqs y).length=n)&&((sqs y).all (λp=>decide (0<p.1))&&y8 (sqs y) n))
def iD(s:List Int)(n:Nat)(y:D):Bool:=fZ n y&&(!decide (rQ y=List.replicate n 0)&&decide (sH s n (rQ y) (rQ y)<=0))
def pG(s:List Int)(n:Nat):D->Bool
 |.tup [w,y]=>if ef w (.str "above")=true then sJ s n y else ef w (.str "not")&&iD s n y|_=>false
def sK(s:List Int)(n:Nat)(x:D):Except Str D:=if s.reverse=s then .ok (.bl<|pG s n x) else .error "NotEven"
structure Tx(x:D):Prop where
 k:kd x=true
 z:dL 115 x=true
 o:∀a b,x=.tup [a,b]->dg a 60=true
structure Stp(s:List Int)(n m:Nat)(ps:List Pr):Prop where
 len:ps.length=m
 pq:∀p∈ps,Pq 112 n p
 w0:∀p∈ps,p.1≠0
 one:∀k,k<m->(ps.getD k (0,[])).2.getD k 0=1
 low:∀k j,k<m->j<k->(ps.getD k (0,[])).2.getD j 0=0
 eq:∃L,Nl s n m L/\∀i j,i<n->j<n->(tT s n i j:Rat)=gs ps i j+L i j
def Co:bR:=fnS (λx:SL×D=>[bS x.1.1,x.2]) (λx=>IsSl x.1.1 x.1.2/\x.1.1.reverse=x.1.1/\kd x.2=true/\dL 115 x.2=true) λx=>.bl<|sJ x.1.1 x.1.2 x.2
def Cp:bR:=fnS (λx:SL×D=>[bS x.1.1,x.2]) (λx=>IsSl x.1.1 x.1.2/\x.1.1.reverse=x.1.1/\kd x.2=true/\dL 115 x.2=true) λx=>.bl<|iD x.1.1 x.1.2 x.2
def Cq:bR:=xS (λx:SL×D=>[bS x.1.1,x.2]) (λx=>IsSl x.1.1 x.1.2/\Tx x.2) λx=>sK x.1.1 x.1.2 x.2
def y9:bR:=fnS (λx:SL×List Rat=>[aR x.1.1 x.1.2,aG x.2]) (λx=>IsSl x.1.1 x.1.2/\x.2.length=x.1.2/\∀y∈x.2,Sz 115 y) λx=>aG<|eK x.1.1 x.1.2 x.2
def za:bR:=fnS (λx:SL×List Rat=>[aR x.1.1 x.1.2,aG x.2,aG x.2]) (λx=>IsSl x.1.1 x.1.2/\x.2.length=x.1.2/\∀y∈x.2,Sz 115 y) λx=>aP<|sH x.1.1 x.1.2 x.2 x.2
def wH:bR:=fnS (λx:Nat×Nat=>[.int x.1,.int x.2]) (λx=>x.1<=5) λx=>aG<|dS x.1 x.2
def wI:bR:=rlS (λx:SL×Nat=>[aR x.1.1 x.1.2,.int x.2]) (λx=>IsSl x.1.1 x.1.2/\x.1.1.reverse=x.1.1/\x.2<=x.1.2/\qG x.1.1 x.1.2 x.2) λx d=>∃ps,d=cE ps/\Stp x.1.1 x.1.2 x.2 ps
def sL(s:List Int)(n:Nat):Prop:=∀k,k<n->0<eM (gR (tbl s n)<|k+1)
instance(s:List Int)(n:Nat):Decidable (sL s n):=by unfold sL;infer_instance
def Cr:bR:=fnS (λx:SL=>[aR x.1 x.2]) (λx=>IsSl x.1 x.2) λx=>.bl<|decide (sL x.1 x.2)
def Ct:bR:=rlS (λx:SL=>[aR x.1 x.2]) (λx=>IsSl x.1 x.2/\x.1.reverse=x.1/\¬sL x.1 x.2) λx d=>∃r:List Rat,d=aG r/\r.length=x.2/\∀y∈r,Sz 112 y
def Cu:bR:=rlS (λx:Nat×List (List Int)=>[fN x.2]) (λx=>1<=x.1/\x.1<=5/\Sm 700 x.1 x.2) λx d=>∃k:Nat,d=.int k/\(k=x.1↔dt (tA x.2) x.1≠0)
def wJ:bR:=fnS (λx:SL×D=>[bS x.1.1,x.2]) (λx=>IsSl x.1.1 x.1.2/\Tx x.2) λx=>Bk<|sK x.1.1 x.1.2 x.2
def Cv:bR:=fnS (λx:SL×D=>[aR x.1.1 x.1.2,x.2]) (λx=>IsSl x.1.1 x.1.2/\x.1.1.reverse=x.1.1/\Tx x.2) λx=>.bl<|pG x.1.1 x.1.2 x.2
def Ty(y:D):Prop:=Th y\/fx y [7,7,7]=true
def Th2(x:D):Prop:=x=.non\/x=.tup []\/x=.dic\/x=.int 0\/x=.tup [.str "above"]\/∃(t:Str) (y:D),(t = "above" \/t = "not" \/t = "Above")/\Ty y/\(x=.tup [.str t,y]\/x=.lst [.str t,y]\/x=.tup [.str t,y,.int 0]\/(x=.tup [y,.str t]/\dg y 60=true))
def sM:bR:=fnS (λx:SL×D=>[bS x.1.1,aR x.1.1 x.1.2,x.2]) (λx=>IsSl x.1.1 x.1.2/\x.1.1.reverse=x.1.1/\Th2 x.2) λ_=>.bl true
def wK:bR:=fnS (λns:List Int=>[.scr<|ns.map .int]) (λns=>ns.length<=63) λ_=>.bl true
abbrev ZcJ:List Str:=["slants", "thing", "size", "weights_good"]
def Gq:WS:=(aF (aQ 2<|wF oH<|aC (wN 0) aA)<|aF (cH (dI (bH<|wT<|wF B7<|aC (wN 0)<|aC (wN 1) aA)<|wT<|w2 (gEq true) (wB bI<|aC (wN 1) aA)<|wN 2) (aJ<|wC<|D.bl false) cI)<|aF (aQ 3<|wB i5<|aC (wL<|aLC (iS<|wN 1) 2 [] (dQ 2<|cJ (gN 0)<|cJ (gN 1) dP) cT<|w2 jq (w2 gIx (wN 0)<|wC<|D.int<|0)<|wC<|D.int<|0) aA)<|aJ<|fo (wN 3)<|wF Ch<|aC (wL<|aLC (iS<|wN 1) 2 [] (dQ 2<|cJ (gN 0)<|cJ (gN 1) dP) cT<|wN 1)<|aC (wN 2) aA)
abbrev Zei:List Str:=["slants", "thing"]
def Gr:WS:=(aF (cH (dI (bH<|wT<|wF sf<|aC (wN 0)<|aC (wN 1) aA)<|wT<|w2 (gEq false) (wN 1)<|w2 Zda (aO<|aC (wC<|D.tup [(D.int<|0),(D.int<|1)]) aA)<|wF oH<|aC (wN 0) aA) (aJ<|wC<|D.bl false) cI)<|aJ<|w2 jY (w2 gIx (wF yF<|aC (wN 0)<|aC (wN 1)<|aC (wN 1) aA)<|wC<|D.int<|0)<|wC<|D.int<|0)
abbrev ZgE:List Str:=["slants", "thing"]
def Gu:WS:=(aF (ig<|wF vC<|aC (wN 0) aA)<|aF (cH (dI (bH<|wT<|wB gIs<|aC (wN 1)<|aC (wC<|.ty "tuple") aA)<|wT<|w2 (gEq true) (wB bI<|aC (wN 1) aA)<|wC<|D.int<|2) (aJ<|wC<|D.bl false) cI)<|aF (cH (wT<|w2 (gEq false) (w2 gIx (wN 1)<|wC<|D.int<|0)<|wC<|D.str<|PySem.Str.ofString "above") (aJ<|wF Co<|aC (wN 0)<|aC (w2 gIx (wN 1)<|wC<|D.int<|1) aA) cI)<|aJ<|fo (w2 (gEq false) (w2 gIx (wN 1)<|wC<|D.int<|0)<|wC<|D.str<|PySem.Str.ofString "not")<|wF Cp<|aC (wN 0)<|aC (w2 gIx (wN 1)<|wC<|D.int<|1) aA)
abbrev Zie:List Str:=["_law_table", "_law_row"]
def Gv:WS:=(aJ<|wB iY<|aC (wL<|aLC (iS<|wN 0) 1 [1] (gN 0) cT<|wF oh<|aC (wL<|aLC (iS<|wN 0) 1 [] (gN 0) cT<|aO<|aC (wN 0)<|aC (wC<|D.int<|1) aA)<|aC (wN 1) aA) aA)
abbrev Zif:List Str:=["_law_table", "_law_one", "_law_other"]
def Gw:WS:=(aJ<|wF oh<|aC (wN 1)<|aC (wF y9<|aC (wN 0)<|aC (wN 2) aA) aA)
abbrev Zia:List Str:=["_law_size", "_law_place"]
def Gx:WS:=(aJ<|wB iY<|aC (wL<|aLC (fq<|aC (wN 0) aA) 1 [1] (gN 0) cT<|aO<|aC (wB gL<|aC (w2 (gEq false) (wN 0)<|wN 1) aA)<|aC (wC<|D.int<|1) aA) aA)
abbrev ZgH:List Str:=["_law_table", "_law_most", "_law_size", "_law_found", "_law_left", "_law_at", "_law_weight", "_law_row", "_law_i", "_law_taken_here"]
def Gy:WS:=(aF (aQ 2<|wB bI<|aC (wN 0) aA)<|aF (cc 3<|aU aA)<|aF (cc 4<|aLC (iS<|wN 0) 1 [] (gN 0) cT<|wL<|aLC (iS<|wN 0) 1 [] (gN 0) cT<|aO<|aC (wN 0)<|aC (wC<|D.int<|1) aA)<|aF (bG<|bD (fq<|aC (wN 1) aA) (gN 5)<|aF (aQ 6<|dB 4<|w2 gIx (w2 gIx (wN 4)<|wN 5)<|wN 5)<|aF (aQ 7<|dB 4<|wB iY<|aC (wL<|aLC (iS<|w2 gIx (wN 4)<|wN 5) 1 [6] (gN 0) cT<|wF qD<|aC (w2 gMul (w2 gIx (wN 0)<|wC<|D.int<|0)<|w2 gIx (wN 1)<|wC<|D.int<|1)<|aC (w2 gMul (w2 gIx (wN 0)<|wC<|D.int<|1)<|w2 gIx (wN 1)<|wC<|D.int<|0) aA) aA)<|aF (cU 3<|aO<|aC (wN 6)<|aC (wN 7) aA)<|bG<|bD (fq<|aC (wN 2) aA) (gN 8)<|aF (aQ 9<|wF oh<|aC (wL<|aU<|aC (wN 6) aA)<|aC (wL<|aU<|aC (w2 gIx (wN 7)<|wN 8) aA) aA)<|ge 4 (wN 8)<|wL<|df 4<|aLC (fq<|aC (wN 2) aA) 1 [4,7,8,9] (gN 0) cT<|wF oh<|aC (wL<|aU<|aC (w2 gIx (w2 gIx (wN 1)<|wN 3)<|wN 0)<|aC (aO<|aC (w2 Zd (wC<|D.int<|0)<|w2 gIx (wN 4)<|wC<|D.int<|0)<|aC (w2 gIx (wN 4)<|wC<|D.int<|1) aA) aA)<|aC (wL<|aU<|aC (aO<|aC (wC<|D.int<|1)<|aC (wC<|D.int<|1) aA)<|aC (w2 gIx (wN 2)<|wN 0) aA) aA)<|bT 3<|aJ<|wN 3)
abbrev Ze0:List Str:=["_law_table"]
def Gz:WS:=(aJ<|w2 jq (wB y6<|aC (wL<|aLC (iA<|aC (wC<|D.int<|1)<|aC (w2 gAdd (wB bI<|aC (wN 0) aA)<|wC<|D.int<|1) aA) 1 [0] (gN 0) cT<|wF vA<|aC (wL<|aLC (iS<|bX (wN 1) d8<|dO<|wN 0) 1 [0] (gN 0) cT<|bX (wN 0) d8<|dO<|wN 1) aA) aA)<|wC<|D.int<|0)
abbrev ZeX:List Str:=["_law_table", "_law_many", "_law_found", "_law_squares", "_law_at", "_law_part"]
def Cw:WS:=(aF (aQ 1<|wC<|D.int<|0)<|aF (bG<|qy (wT<|w2 jq (wF vA<|aC (wL<|aLC (iS<|bX (wN 0) d8<|dO<|w2 gAdd (wN 1)<|wC<|D.int<|1) 1 [1] (gN 0) cT<|bX (wN 0) d8<|dO<|w2 gAdd (wN 1)<|wC<|D.int<|1) aA)<|wC<|D.int<|0)<|aQ 1<|w2 gAdd (wN 1)<|wC<|D.int<|1)<|aF (cc 2<|aB (fH (α:=Unit))<|aC (wF wH<|aC (wB bI<|aC (wN 0) aA)<|aC (wN 1) aA) aA)<|aF (aQ 3<|wF wI<|aC (wN 0)<|aC (wN 1) aA)<|aF (bG<|bD (Cn<|aC (w2 Zd (wN 1)<|wC<|D.int<|1)<|aC (w1 jZ<|wC<|D.int<|1)<|aC (w1 jZ<|wC<|D.int<|1) aA) (gN 4)<|aF (aQ 5<|dB 2<|wF oh<|aC (w2 gIx (w2 gIx (wN 3)<|wN 4)<|wC<|D.int<|1)<|aC (wN 2) aA)<|ge 2 (wN 4)<|aO<|aC (w2 Zd (wC<|D.int<|0)<|w2 gIx (wN 5)<|wC<|D.int<|0)<|aC (w2 gIx (wN 5)<|wC<|D.int<|1) aA)<|bT 2<|aJ<|wB iY<|aC (wN 2) aA)
abbrev Zic:List Str:=["_law_table", "_law_rows", "_law_many", "_law_at", "_law_good", "_law_k"]
def Cy:WS:=(aF (cc 1<|aLC (iS<|wN 0) 1 [] (gN 0) cT<|wL<|aB (fH (α:=Unit))<|aC (wN 0) aA)<|aF (aQ 2<|wC<|D.int<|0)<|bT 4<|aF (bG<|bD (fq<|aC (wB bI<|aC (wN 0) aA) aA) (gN 3)<|aF (cc 4<|df 1<|aLC (iA<|aC (wN 2)<|aC (wB bI<|aC (wN 1) aA) aA) 1 [1,3] (gN 0) (wT<|w2 (gEq true) (w2 gIx (w2 gIx (wN 1)<|wN 0)<|wN 2)<|wC<|D.int<|0)<|wN 0)<|bT 4<|cH (wT<|w2 (gEq true) (wN 4)<|wL<|aU aA) (bT 4<|aF (pX 1 (aO<|aC (cM 1<|w2 gIx (wN 4)<|wC<|D.int<|0)<|aC (cM 1<|wN 2) aA) (wN 2)<|w2 gIx (wN 4)<|wC<|D.int<|0)<|aF (bG<|bD (iA<|aC (w2 gAdd (wN 2)<|wC<|D.int<|1)<|aC (dB 1<|wB bI<|aC (wN 1) aA) aA) (gN 5)<|ge 1 (wN 5)<|wF yC<|aC (cM 1<|wN 5)<|aC (cM 1<|wN 2)<|aC (wN 3)<|aC (wC<|D.int<|1) aA)<|aQ 2<|w2 gAdd (wN 2)<|wC<|D.int<|1) cI)<|aJ<|wN 2)
abbrev Zib:List Str:=["_law_slants", "_law_thing", "_law_e"]
def GA:WS:=(fi LX 3 2 (aJ<|wF Cq<|aC (wN 0)<|aC (wN 1) aA)<|aJ<|wF yv<|aC (wN 2) aA)
abbrev ZeZ:List Str:=["_law_table", "_law_thing", "_law_size", "_law_rows", "_law_weight", "_law_row", "_law_bottom", "_law_one"]
def Cz:WS:=(aF (aQ 2<|wB bI<|aC (wN 0) aA)<|aF (cH (dI (bH<|wT<|wB gIs<|aC (wN 1)<|aC (wC<|.ty "tuple") aA)<|dI (wT<|w2 (gEq true) (wB bI<|aC (wN 1) aA)<|wC<|D.int<|2)<|bH<|wT<|wB gIs<|aC (w2 gIx (wN 1)<|wC<|D.int<|0)<|aC (wC<|.ty "str") aA) (aJ<|wC<|D.bl false) cI)<|aF (cH (wT<|w2 (gEq false) (w2 gIx (wN 1)<|wC<|D.int<|0)<|wC<|D.str<|PySem.Str.ofString "not") (aF (cH (dI (bH<|wT<|wF vq<|aC (w2 gIx (wN 1)<|wC<|D.int<|1)<|aC (wN 2) aA)<|wT<|w2 (gEq false) (wL<|aLC (iS<|w2 gIx (wN 1)<|wC<|D.int<|1) 1 [] (gN 0) (wT<|w2 (gEq true) (w2 gIx (wN 0)<|wC<|D.int<|0)<|wC<|D.int<|0)<|wN 0)<|wL<|aU aA) (aJ<|wC<|D.bl false) cI)<|aJ<|w2 jY (w2 gIx (wF za<|aC (wN 0)<|aC (w2 gIx (wN 1)<|wC<|D.int<|1)<|aC (w2 gIx (wN 1)<|wC<|D.int<|1) aA)<|wC<|D.int<|0)<|wC<|D.int<|0) cI)<|aF (cH (dI (wT<|w2 (gEq true) (w2 gIx (wN 1)<|wC<|D.int<|0)<|wC<|D.str<|PySem.Str.ofString "above")<|dI (bH<|wT<|wF wr<|aC (wN 0)<|aC (w2 gIx (wN 1)<|wC<|D.int<|1) aA)<|wT<|w2 (gEq true) (wB bI<|aC (w2 gIx (wN 1)<|wC<|D.int<|1) aA)<|wN 2) (aJ<|wC<|D.bl false) cI)<|aF (cH (wT<|w2 (gEq true) (wL<|aLC (iS<|w2 gIx (wN 1)<|wC<|D.int<|1) 2 [] (dQ 2<|cJ (gN 0)<|cJ (gN 1) dP) (wT<|w2 nZ (w2 gIx (wN 0)<|wC<|D.int<|0)<|wC<|D.int<|0)<|wN 0)<|wL<|aU aA) (aJ<|wC<|D.bl false) cI)<|aF (cc 3<|aU aA)<|aF (bG<|bD (iS<|w2 gIx (wN 1)<|wC<|D.int<|1) (dQ 2<|cJ (gN 4)<|cJ (gN 5) dP)<|aF (aQ 6<|wC<|D.int<|1)<|aF (bG<|bD (iS<|wN 5) (gN 7)<|aQ 6<|w2 gMul (wN 6)<|w2 gIx (wN 7)<|wC<|D.int<|1)<|cU 3<|wL<|aLC (iS<|wN 5) 1 [6] (gN 0) cT<|w2 gMul (w2 gIx (wN 0)<|wC<|D.int<|0)<|w2 gM (wN 1)<|w2 gIx (wN 0)<|wC<|D.int<|1)<|bT 3<|aJ<|w2 (gEq false) (wF Cu<|aC (wN 3) aA)<|wN 2)
abbrev ZeY:List Str:=["_law_slants", "_law_table", "_law_thing", "_law_kept", "_law_found"]
def GB:WS:=(aF (aQ 3<|wB Zjx<|aC (wN 2) aA)<|aF (aQ 4<|wF wJ<|aC (wN 0)<|aC (wN 2) aA)<|aJ<|fo (wB gIs<|aC (wN 4)<|aC (wC<|.ty "bool") aA)<|fo (w2 (gEq false) (wN 4)<|wF Cv<|aC (wN 1)<|aC (wN 2) aA)<|w2 gEqS (wB Zjx<|aC (wN 2) aA)<|wN 3)
abbrev GC:List Str:=["_law_script", "_law_cell", "_law_pen", "_law_slants", "_law_table", "_law_size", "_law_squares", "_law_row", "_law_some", "_law_thing"]
def zc:WS:=(aF (cH (dI (wT<|w2 (gEq true) (wF wJ<|aC (aO<|aC (wC<|D.int<|1)<|aC (wC<|D.int<|2)<|aC (wC<|D.int<|3) aA)<|aC (wC D.non) aA)<|aO<|aC (wC<|D.str<|PySem.Str.ofString "even") aA)<|bH<|wT<|wF sM<|aC (aO<|aC (wC<|D.int<|0) aA)<|aC (wL<|aU<|aC (wL<|aU<|aC (wC<|D.int<|0) aA) aA)<|aC (aO<|aC (wC<|D.str<|PySem.Str.ofString "not")<|aC (aO<|aC (aO<|aC (wC<|D.int<|1)<|aC (wC<|D.int<|1) aA) aA) aA) aA) (aJ<|wC<|D.bl false) cI)<|aF (cH (bH<|wT<|wF sM<|aC (aO<|aC (wC<|D.int<|0) aA)<|aC (wL<|aU<|aC (wL<|aU<|aC (wC<|D.int<|0) aA) aA)<|aC (aO<|aC (wC<|D.str<|PySem.Str.ofString "above")<|aC (wL<|aU aA) aA) aA) (aJ<|wC<|D.bl false) cI)<|aF (cH (bH<|wT<|wF sM<|aC (aO<|aC (wC<|D.int<|2) aA)<|aC (wL<|aU<|aC (wL<|aU<|aC (wC<|D.int<|2) aA) aA)<|aC (aO<|aC (wC<|D.str<|PySem.Str.ofString "above")<|aC (wL<|aU<|aC (aO<|aC (aO<|aC (wC<|D.int<|2)<|aC (wC<|D.int<|1) aA)<|aC (aO<|aC (aO<|aC (wC<|D.int<|1)<|aC (wC<|D.int<|1) aA) aA) aA) aA) aA) aA) (aJ<|wC<|D.bl false) cI)<|aF (bG<|bD (iS<|w2 gAdd (wL<|aU<|aC (wF yq<|aC (wN 0)<|aC (wC<|D.int<|0) aA) aA)<|bX (wN 0) (dO<|wC<|D.int<|1)<|dO<|wC<|D.int<|5) (gN 1)<|aF (aQ 2<|wF yr<|aC (wN 1) aA)<|aF (aQ 3<|wF yT<|aC (wN 2) aA)<|aF (aQ 4<|wF yx<|aC (wN 3) aA)<|aF (aQ 5<|wB bI<|aC (wN 4) aA)<|aF (aQ 6<|wF wI<|aC (wN 4)<|aC (wF yU<|aC (wN 4) aA) aA)<|aF (aQ 7<|wF vt<|aC (wN 2)<|aC (wN 5) aA)<|aF (cH (bH<|wT<|wF Cr<|aC (wN 4) aA) (aQ 7<|wF Ct<|aC (wN 4) aA) cI)<|aF (aQ 8<|wL<|aU<|aC (aO<|aC (wC<|D.str<|PySem.Str.ofString "above")<|aC (wN 6) aA)<|aC (aO<|aC (wC<|D.str<|PySem.Str.ofString "not")<|aC (wN 7) aA)<|aC (aO<|aC (wC<|D.str<|PySem.Str.ofString "not")<|aC (wF vt<|aC (wN 2)<|aC (wN 5) aA) aA)<|aC (aO<|aC (wC<|D.str<|PySem.Str.ofString "not")<|aC (w2 Zda (aO<|aC (aO<|aC (wC<|D.int<|0)<|aC (wC<|D.int<|1) aA) aA)<|wN 5) aA) aA)<|aF (aQ 8<|w2 gAdd (wN 8)<|wL<|aU<|aC (aO<|aC (wC<|D.str<|PySem.Str.ofString "above")<|aC (wF yV<|aC (wN 2)<|aC (wN 6) aA) aA)<|aC (aO<|aC (wC<|D.str<|PySem.Str.ofString "not")<|aC (wF wq<|aC (wN 2)<|aC (wN 7) aA) aA)<|aC (aO<|aC (wC<|D.str<|PySem.Str.ofString "not")<|aC (wN 6) aA) aA)<|aF (aQ 8<|w2 gAdd (wN 8)<|wL<|aU<|aC (wL<|aU<|aC (wC<|D.str<|PySem.Str.ofString "above")<|aC (wN 6) aA)<|aC (aO<|aC (wC<|D.str<|PySem.Str.ofString "above")<|aC (wN 6)<|aC (wC<|D.int<|0) aA)<|aC (aO<|aC (wC<|D.str<|PySem.Str.ofString "above") aA)<|aC (aO<|aC (wN 6)<|aC (wC<|D.str<|PySem.Str.ofString "above") aA)<|aC (aO<|aC (wC<|D.str<|PySem.Str.ofString "above")<|aC (wN 7) aA) aA)<|bG<|bD (iS<|w2 gAdd (wN 8)<|wL<|aU<|aC (wC D.non)<|aC (aO aA)<|aC (aO<|aC (wC<|D.str<|PySem.Str.ofString "Above")<|aC (wN 6) aA)<|aC (aO<|aC (wC<|D.str<|PySem.Str.ofString "not")<|aC (wF wH<|aC (wN 5)<|aC (wF gv<|aC (wN 2)<|aC (wN 5) aA) aA) aA)<|aC (wC .dic)<|aC (wC<|D.int<|0) aA) (gN 9)<|cH (bH<|wT<|wF sM<|aC (wN 3)<|aC (wN 4)<|aC (wN 9) aA) (aJ<|wC<|D.bl false) cI)<|aJ<|wC<|D.bl true)
section
theorem GD(q:Rat):decide (q.num<=0)=decide (q<=0):=by have:=(ZkJ (q:=q)).1;rw[NK];constructor<;>intro h<;>grind
theorem LW(q:Rat):decide (q.num>0)=decide (0<q):=by rw[NK];exact ZkJ.1
theorem CA(h:mU s n y=true):∃ps:List Pr,y=cE ps/\ps.length<=10/\(∀p∈ps,p.2.length=n/\p.1≠0):=by unfold mU at h;rw[c9]at h;have h1:=h.1;unfold FF at h1;split at h1;rw[c9,Nh]at h1;obtain⟨ps,rfl,hp⟩:=yW h1.2;exact⟨ps,rfl,by simpa using h1.1,hp⟩;cases h1
theorem Zq{ps:List Pr}(n5:n<=5)(hl:ps.length=n)(hp:∀p∈ps,Pq 115 n p):yL n n (ps.map (·.2)):=by refine Mn.clm_z (B:=115*n+1) (λr hr=>?_) (by rw[bU];omega) (cB _) (by omega) (by omega);obtain⟨p,hp',rfl⟩:=YbL.mp hr;have P:=hp p hp';have:=I9.lf_of p.2 P.r;rw[P.l]at this;exact this
theorem zd{a b:Nat}:∀{p q:List Rat} {N:Nat},(∀x∈p,Sz a x)->(∀y∈q,Sz b y)->p.length*(a+b+1)<=N->Dz N p q
 |[],_,_,_,_,_=>trivial|_::_,[],_,_,_,_=>trivial|x::p,y::q,N,h1,h2,hl=>by rw[dM,oP]at hl;exact⟨a,b,h1 x<|by simp,h2 y<|by simp,by omega,zd (λz hz=>h1 z<|by simp[hz]) (λz hz=>h2 z<|by simp[hz])<|by omega⟩
end
theorem LY:Rd Co Gq ZcJ:=by
 rintro _ E Q ⟨⟨⟨s,n⟩,y⟩,rfl,⟨h,ev,hk,hz⟩,q⟩;dsimp only at h ev hk hz q;have n5:=h.n5;unfold Gq;walk_at "nx";refine yf h ?_;walk_at "nx";refine xS.ok ((115,s,n),y) rfl ⟨h,hk,hz,Fits.k40⟩ (by unfold B6;dsimp only;rw[if_pos ev]) ?_;unfold sJ at q;cases hG:mU s n y with
 |false=>rw[hG]at q;walk_at "st";exact q
 |true=>
  rw[hG]at q;obtain⟨ps,rfl,l10,hp⟩:=CA hG;rw[qH]at q;have P:=yX hz λp hp'=>(hp p hp').1;unfold cE;walk_at "st";rw[bU]
  by_cases hl:ps.length=n
  rotate_left
  .rw[decide_eq_false hl]at q
   rw[if_pos (by simp;omega)];exact q
  rw[Nj hl]at q;rw[if_neg<|by simp[hl]];walk_at "nx";refine wz (f:=λp=>.bl<|decide (p.1.num>0)) _ (λp hp P hP=>?_) .un .un [] (f7 (by simp;omega)) ⟨ps.map λp=>decide (p.1.num>0),by rw[dJ,List.map_map];rfl,?_⟩
  .walk_at "st"
   exact⟨_,rfl,trivial,hP⟩
  rw[show(ps.map λp=>decide (p.1.num>0)).all id=ps.all λp=>decide (0<p.1) by rw[tX];congr 1;funext p;exact LW _];walk_at "st";cases ha:ps.all λp=>decide (0<p.1) with
  |false=>rw[ha]at q;exact q
  |true=>
   rw[ha]at q;walk_at "st";refine wz (f:=λp=>aG p.2) _ (λp hp P hP=>hP) .un .un [] (f7 (by simp;omega)) ?_;rw[dJ];refine⟨((n,n),ps.map (·.2)),by dsimp only;unfold cV;rw[List.map_map];rfl,Zq n5 hl P,?_⟩;dsimp only;rw[bU,hl];exact q
theorem LZ:Rd Cp Gr Zei:=by
 rintro _ E Q ⟨⟨⟨s,n⟩,y⟩,rfl,⟨h,ev,hk,hz⟩,q⟩;dsimp only at h ev hk hz q;have n5:=h.n5;unfold iD at q;unfold Gr;walk_at "nx";refine A1 h hk ?_;cases hR:fZ n y with
 |false=>rw[hR]at q;walk_at "st";exact q
 |true=>
  rw[hR]at q;obtain⟨r,rfl,hl⟩:=tG hR;have hl:r.length=n:=by exact_mod_cast hl
  have sz:=ZcK.mp hz;rw[n8]at q;walk_at "st";refine⟨by decide,yf h ⟨by omega,by omega,f7 (by simp;omega),?_⟩⟩;have e:D.tup ((List.replicate ((n:Int)).toNat [D.tup [.int 0,.int 1]]).flatten)=aG (List.replicate n 0):=by rw[iq,xo];unfold aG;rw[sV];rfl
  rw[e];refine g0 (u8 _ _) (u8 _ _) ?_;rw[ET];by_cases e0:r=List.replicate n 0;rw[Nj e0]at q ⊢;exact q;rw[decide_eq_false e0]at q ⊢;walk_at "st";refine LK h ev hl hl (λx hx=>(sz x hx).mono<|by decide) (λx hx=>(sz x hx).mono<|by decide) ⟨_,rfl,trivial,?_⟩;show Q (.bl<|decide ((sH s n r r).num<=0));rw[GD];exact q
theorem L4:Rd Cq Gu ZgE:=by
 rintro _ E Q ⟨⟨⟨s,n⟩,x⟩,rfl,⟨h,tx⟩,q⟩;dsimp only at h tx q;have hsl:=h.len;have h5:=h.n5;unfold sK at q;unfold Gu;walk_at "nx";refine⟨bS s,rfl,AV<|by omega,?_⟩;dsimp only;unfold jr;rw[if_pos<|AZ h];unfold pY;rw[lL];by_cases he:s.reverse=s
 rotate_left
 .rw[if_neg<|by simpa using he]
  rw[if_neg he]at q;exact q
 rw[if_pos<|by simpa using he];rw[if_pos he]at q;replace q:Q (.bl<|pG s n x):=q;dsimp only[exQ];walk_at "nx";refine j0 tx.k (by decide) λt ht=>?_;have tk:=tx.k;have tz:=tx.z;have to:=tx.o;cases x<;>cases ht<;>try exact q
 rename_i xs;obtain⟨hl,hx⟩:=oF tk;walk_at "st";simp only[show eT "tuple" "tuple" = true from rfl,fg,dW,if_false];walk_at "st"
 match xs,hl,hx,q,to,tz with
 |[],_,_,q,_,_=>walk_at "st";exact q|[u],_,_,q,_,_=>walk_at "st";exact q|u::v::w::r,_,_,q,_,_=>walk_at "st";rw[if_pos (by simp;omega)];exact q
 |[u,v],_,hx,q,to,tz=>
  have ou:=to u v rfl;have hv:=hx v (by simp);have zv:dL 115 v=true:=by rw[dL,dY,dY,c9,c9]at tz;exact tz.2.1
  walk_at "st";rw[if_neg<|by simp];replace q:Q (.bl (if ef u (.str "above")=true then sJ s n v else ef u (.str "not")&&iD s n v)):=q;walk_at "nx";refine⟨_,rfl,g0 ou (by decide +kernel) ?_⟩;rw[if_neg<|by decide];cases ha:ef u (.str "above") with
  |true=>
   rw[ha,if_pos rfl]at q;walk_at "st";exact⟨_,rfl,⟨((s,n),v),rfl,⟨h,he,hv,zv⟩,q⟩⟩
  |false=>
   rw[ha,if_neg<|by decide]at q;walk_at "st";refine⟨_,rfl,g0 ou (by decide +kernel) ?_⟩;rw[if_neg<|by decide];cases hb:ef u (.str "not") with
   |false=>rw[hb]at q;exact q
   |true=>
    rw[hb]at q;walk_at "st";exact⟨_,rfl,⟨((s,n),v),rfl,⟨h,he,hv,zv⟩,q⟩⟩
section
theorem L5{x:D}{e:Str}(h:sK s n x=.error e):e∈LX:=by unfold sK at h;split at h;cases h;injection h with h;rw[<-h];simp
theorem GE{E:Ex->Prop}(h:n<=5)(q:Q (aG<|dS n k)):wH [.int n,.int k] E Q:=⟨(n,k),rfl,h,q⟩
theorem L6{E:Ex->Prop}(h:IsSl s n)(hr:r.length=n)(hz:∀y∈r,Sz 115 y)(q:Q (aG<|eK s n r)):y9 [aR s n,aG r] E Q:=⟨((s,n),r),rfl,⟨h,hr,hz⟩,q⟩
theorem L7{E:Ex->Prop}(h:IsSl s n)(hr:r.length=n)(hz:∀y∈r,Sz 115 y)(q:Q (aP<|sH s n r r)):za [aR s n,aG r,aG r] E Q:=⟨((s,n),r),rfl,⟨h,hr,hz⟩,q⟩
end
theorem L8:Rd y9 Gv Zie:=by
 rintro _ E Q ⟨⟨⟨s,n⟩,r⟩,rfl,⟨h,hl,hr⟩,q⟩;dsimp only at h hl hr q;have h5:=h.n5;unfold Gv aR;walk_at "st";refine iB (g:=λline=>aZ line) (f:=λline=>aP<|cK (dj line) r) (tbl s n) (λline hline Q hq=>?_) .un [] (by simp[jt,aL];omega) ?_;obtain⟨t1,t2⟩:=jD h line hline;unfold aZ;walk_at "st";refine iB (g:=λi:Int=>D.int i) (f:=λi:Int=>aP (i:Rat)) line (λi hi Q hq=>?_) .un [] (f7 (by simp;omega)) ?_;walk_at "st";exact⟨by decide,hq⟩;rw[dJ];refine⟨((false,true),dj line,r),?_,zd (a:=6) (b:=115) (λx hx=>?_) hr (by unfold dj;rw[bU];omega),hq⟩;show[D.lst _,aG r]=[D.lst _,aG r];unfold dj;rw[List.map_map];rfl;obtain⟨i,hi,rfl⟩:=YbL.mp hx;exact yp<|t2 i hi
 have e:(tbl s n).map (λline=>aP<|cK (dj line) r)=(eK s n r).map aP:=by unfold eK;rw[List.map_map];rfl
 rw[dJ,e];walk_at "st";exact q
theorem L9:Rd za Gw Zif:=by rintro _ E Q ⟨⟨⟨s,n⟩,r⟩,rfl,⟨h,hl,hr⟩,q⟩;dsimp only at h hl hr q;have h5:=h.n5;unfold Gw;walk_at "st";exact L6 h hl hr ⟨((true,true),r,eK s n r),rfl,zd (a:=115) (b:=5*(115+8)+1) hr (LF h hr) (by show r.length*_<=_;omega),q⟩
theorem Ma(b:Bool):D.tup [.int (if b then 1 else 0),.int 1]=aP (if b=true then 1 else 0):=by cases b<;>rfl
theorem Mb:Rd wH Gx Zia:=by rintro _ E Q ⟨⟨n,k⟩,rfl,h,q⟩;dsimp only at h q;unfold Gx;walk_at "st";refine⟨by omega,by omega,?_⟩;rw[pU];refine iB (g:=λi:Nat=>D.int (i:Int)) (f:=λi:Nat=>aP (if i=k then 1 else 0)) (List.range n) (λi hi Q hq=>?_) .un [] (by simp[aL];omega) ?_;walk_at "st";refine⟨by decide,?_⟩;rw[Ma,show((i:Int)==(k:Int))=decide (i=k) by rw[jf];simp;omega];simpa using hq;walk_at "st";unfold aG dS at q;rw[List.map_map]at q;exact q
theorem Mc:Rd wJ GA Zib:=by
 rintro _ E Q ⟨⟨⟨s,n⟩,x⟩,rfl,⟨h,tx⟩,q⟩;dsimp only at h tx q;unfold GA;simp only[fi];refine⟨λex=>ex∈LX/\Q (.tup [.str<|pT ex]),λex ⟨he,hq⟩=>⟨he,?_⟩,?_⟩;unfold tH;walk_at "st";exact JW he hq;walk_at "st";refine⟨((s,n),x),rfl,⟨h,tx⟩,?_⟩;dsimp only;cases er:sK s n x with
 |ok v=>rw[er]at q;exact q|error e=>rw[er]at q;exact⟨L5 er,q⟩
theorem Md:Rd Cr Gz Ze0:=by
 rintro _ E Q ⟨⟨s,n⟩,rfl,h,q⟩;dsimp only at h q;have h5:=h.n5;have h1:=h.n1;have hl:=jt s n;unfold Gz;walk_at "st";refine⟨by omega,?_⟩;rw[show rng 1 ((n:Int)+1-1).toNat=(List.range n).map λk:Nat=>D.int ((k:Int)+1) by
  rw[show((n:Int)+1-1).toNat=n by omega];unfold rng;refine iJ λk _=>?_;rw[Int.add_comm]]
 refine iB (g:=λk:Nat=>D.int<|(k:Int)+1) (f:=λk=>.int<|eM<|gR (tbl s n)<|k+1) (List.range n) (λk hk Q hq=>?_) .un [] (f7 (by simp;omega)) ⟨(List.range n).map λk=>eM<|gR (tbl s n)<|k+1,by unfold its;rw[dJ,List.map_map];rfl,by simp;omega,λm hm hle=>⟨trivial,?_⟩⟩;have hk:=Yag.mp hk;have sm:=wy (a:=k) h hk;unfold aR;walk_at "st";rw[show(k:Int)+1=((k+1:Nat):Int) by omega,kI (b:=k+1) rfl,<-jI];refine iB (g:=aZ) (f:=λr=>aZ<|r.take<|k+1) ((tbl s n).take<|k+1) (λr hr Q hq=>?_) .un [] (f7 (by simp;omega)) ?_;unfold aZ;walk_at "st";rw[kI (b:=k+1) rfl,<-jI];exact hq;refine⟨gR (tbl s n)<|k+1,?_,⟨by rw[sm.len];exact sm,by rw[sm.len];omega⟩,hq⟩;unfold fN gR;dsimp only;rw[List.map_map];rfl;have e:decide (m>0)=decide (sL s n):=by
  rw[NK];constructor;intro hm0 k hk;have:=hle _<|xf (f:=λk=>eM<|gR (tbl s n)<|k+1) (Yag.mpr hk);omega
  intro hd;obtain⟨k,hk,rfl⟩:=YbL.mp hm;exact hd k<|Yag.mp hk
 show Q (.bl<|decide (m>0));rw[e];exact q
def gS(t:List (List Int))(m a:Nat):List Nat:=((List.range<|t.length-m).map (m + ·)).filter λk=>ga (gr t k) a != 0
def cZ(t:List (List Int))(m a k:Nat):List (List Int):=(List.range t.length).map λi=>if m<i/\i<k then eX (gr t i) (gr t m) a 1 else gr t i
section
variable{T:List (List Int)}{g:Nat}
theorem GF(h:Sm b n t)(hg:g∈gS t m a):m<=g/\g<n/\ga (gr t g) a≠0:=by have e:=h.len;unfold gS at hg;obtain⟨h1,h2⟩:=Yaf.mp hg;obtain⟨k,hk,rfl⟩:=YbL.mp h1;rw[Yag]at hk;exact⟨by omega,by omega,by simpa using h2⟩
theorem Me(h:Sm b n t)(hg:gS t m a=[])(hm:m<=i)(hi:i<n):ga (gr t i) a=0:=by have e:=h.len;refine Classical.byContradiction λz=>?_;have:i∈gS t m a:=Yaf.mpr ⟨YbL.mpr ⟨i-m,Yag.mpr<|by omega,by omega⟩,by simpa using z⟩;rw[hg]at this;cases this
theorem wO(hi:i<t.length):gr (cZ t m a k) i=if m<i/\i<k then eX (gr t i) (gr t m) a 1 else gr t i:=by show(cZ t m a k).getD i []=_;unfold cZ;rw[bF,cD,hZ hi];rfl
theorem GG(h:Sm b n t)(hm:m<n):Sm (2*b+1) n (cZ t m a k):=by
 have e:=h.len;have fj:∀r∈cZ t m a k,r.length=n/\∀x∈r,x.natAbs<2^(2*b+1):=λr hr=>by
  unfold cZ at hr;obtain⟨i,hi,rfl⟩:=YbL.mp hr;have hi':i<n:=by rw[<-e];simpa using hi
  split;exact EH (h.gr hi').2.1 (h.gr hi').2.2 (h.gr hm).2.2 (by decide);exact⟨(h.gr hi').2.1,λx hx=>dm ((h.gr hi').2.2 x hx)<|jF (by decide)<|by omega⟩
 exact⟨by unfold cZ;rw[bU,oS];exact e,λr hr=>(fj r hr).1,λr hr=>(fj r hr).2⟩
theorem Mf(hk:k<=m+1):cZ t m a k=t:=by
 unfold cZ;refine sR λi=>?_;rw[cD];rcases gg i t.length with z|z
 rw[hZ z];simp only[jE];rw[if_neg<|by omega];unfold gr;rw[bF,bP z];rfl;rw[ff<|by simpa using z,ff z];rfl
theorem Mg(hm:m<k)(hk:k<t.length):cZ t m a (k+1)=(cZ t m a k).set k (eX (gr (cZ t m a k) k) (gr (cZ t m a k) m) a 1):=by
 have e1:gr (cZ t m a k) k=gr t k:=by rw[wO hk,if_neg<|by omega]
 have e2:gr (cZ t m a k) m=gr t m:=by rw[wO<|by omega,if_neg<|by omega]
 rw[e1,e2];refine sR λi=>?_;rw[xh];unfold cZ;rw[cD,cD,bU,oS];rcases gg i t.length with z|z
 rw[hZ z];simp only[jE];by_cases c:k=i;subst c;rw[if_pos rfl,if_pos z,if_pos ⟨hm,by omega⟩];rw[if_neg c];by_cases d:m<i/\i<k;rw[if_pos ⟨d.1,by omega⟩,if_pos d];rw[if_neg<|by omega,if_neg d];rw[ff<|by simpa using z];rw[if_neg<|by omega];rfl
def rs(t:List (List Int))(n i:Nat)(v:Nat->Rat):Rat:=aN (λj=>(ga (gr t i) j:Rat)*v j) n
theorem Mh{row here:List Int}(hr:row.length=n)(v:Nat->Rat):aN (λj=>(ga (eX row here a 1) j:Rat)*v j) n=(ga here a:Rat)*aN (λj=>(ga row j:Rat)*v j) n-(ga row a:Rat)*aN (λj=>(ga here j:Rat)*v j) n:=by rw[<-sumN_mul,<-sumN_mul,<-qa];refine fS λj hj=>?_;rw[BZ<|by omega,Int.fdiv_one,Rat.intCast_sub,jJ,jJ];grind
theorem Mi{R:Nat->Nat->Rat}(ha:a<n)(tri:∀i,i<a->R i i≠0)(low:∀i k,i<a->k<i->R i k=0):∀j,j<=a->∃v:Nat->Rat,v a=1/\(∀k,a<k->v k=0)/\∀i,a-j<=i->i<a->aN (λk=>R i k*v k) n=0:=by
 intro j;induction j with
 |zero=>intro _;exact⟨λk=>if k=a then 1 else 0,if_pos rfl,λk hk=>if_neg<|by omega,λi h1 h2=>by omega⟩
 |succ j ih=>
  intro hj;obtain⟨v,h1,h2,h3⟩:=ih (by omega);have hq:a-(j+1)<a:=by omega
  generalize eq:a-(j+1)=q at hq;have hp:=tri q hq;refine⟨λk=>if k=q then v k-aN (λk=>R q k*v k) n/R q q else v k,(if_neg<|by omega).trans h1,λk hk=>(if_neg<|by omega).trans (h2 k hk),λi hi1 hi2=>?_⟩;have step:aN (λk=>R i k*(if k=q then v k-aN (λk=>R q k*v k) n/R q q else v k)) n=aN (λk=>R i k*v k) n-aN (λk=>R q k*v k) n/R q q*R i q:=by
   have e1:aN (λk=>R i k*(if k=q then aN (λk=>R q k*v k) n/R q q else 0)) n=aN (λk=>R q k*v k) n/R q q*R i q:=by rw[kJ (k:=q) (by omega)<|λk _ hk=>by rw[if_neg hk,Rat.mul_zero],if_pos rfl,xp]
   rw[<-e1,<-qa];refine fS λk hk=>?_;by_cases hkq:k=q;rw[if_pos hkq,if_pos hkq];grind;rw[if_neg hkq,if_neg hkq];grind
  rw[step];by_cases hiq:i=q;rw[hiq,Rat.div_mul_cancel hp];grind;rw[low i q hi2<|by omega,h3 i (by omega) hi2];grind
def Mj(T:List (List Int))(n:Nat):Prop:=∃v:Nat->Rat,(∃j,j<n/\v j≠0)/\∀i,i<n->rs T n i v=0
structure Gd(T:List (List Int))(n a:Nat)(t:List (List Int)):Prop where
 nul:∀v,(∀i,i<n->rs T n i v=0)↔∀i,i<n->rs t n i v=0
 tri:∀i,i<a->ga (gr t i) i≠0
 low:∀i j,i<n->j<a->j<i->ga (gr t i) j=0
structure Rk(T:List (List Int))(n m a:Nat)(t:List (List Int)):Prop where
 sm:Sm (j3 700 m) n t
 ma:m<=a
 cs:(m=a/\Gd T n a t)\/(m<a/\Mj T n)
theorem Rk.none(h:Rk T n m a t)(ha:a<n)(hg:gS t m a=[]):Rk T n m (a+1) t:=by
 refine⟨h.sm,by have:=h.ma;omega,.inr ?_⟩;rcases h.cs with⟨rfl,G⟩|⟨h1,h2⟩
 refine⟨by omega,?_⟩;obtain⟨v,v1,v2,v3⟩:=Mi (R:=λi k=>(ga (gr t i) k:Rat)) ha (λi hi z=>G.tri i hi<|by exact_mod_cast z) (λi k hi hk=>by rw[G.low i k (by omega) (by omega) hk];rfl) m<|cB _;refine⟨v,⟨m,ha,by rw[v1];decide⟩,(G.nul v).mpr λi hi=>?_⟩;rcases gg i m with z|z
 exact v3 i (by omega) z;refine qI λj hj=>?_;rcases Nat.lt_trichotomy j m with y|y|y
 rw[G.low i j hi y<|by omega];exact jy _;rw[y,Me h.sm hg z hi];exact jy _;rw[v2 j y,Rat.mul_zero];exact⟨by omega,h2⟩
theorem Rk.some(h:Rk T n m a t)(ha:a<n)(hg:g∈gS t m a):Rk T n (m+1) (a+1) (cZ (bL t m g) m a n):=by
 obtain⟨g1,g2,g3⟩:=GF h.sm hg;have hm:m<n:=by omega
 have w:=vz h.sm hm g2;have wl:=w.len;have tl:=h.sm.len;refine⟨GG w hm,by have:=h.ma;omega,?_⟩;rcases h.cs with⟨rfl,G⟩|⟨h1,h2⟩
 rotate_left
 .exact .inr ⟨by omega,h2⟩
 refine .inl ⟨rfl,?_⟩;have sw:∀i,i<n->gr (bL t m g) i=if i=g then gr t m else if i=m then gr t g else gr t i:=λi hi=>by unfold bL;rw[tL (by rw[et];omega),tL<|by omega]
 have sm:gr (bL t m g) m=gr t g:=yA h.sm hm g2;have at':∀i,i<n->gr (cZ (bL t m g) m m n) i=if m<i then eX (gr (bL t m g) i) (gr t g) m 1 else gr (bL t m g) i:=λi hi=>by
  rw[wO<|by omega,sm];by_cases z:m<i
  .rw[if_pos ⟨z,hi⟩,if_pos z]
  .rw[if_neg<|by omega,if_neg z]
 have lw:∀i,i<n->(gr (bL t m g) i).length=n:=λi hi=>(w.gr hi).2.1;have sg:∀i j,m<=i->i<n->j<m->ga (gr (bL t m g) i) j=0:=λi j hmi hi hj=>by
  rw[sw i hi];split
  .exact G.low m j hm hj hj
  .split
   .exact G.low g j g2 hj (by omega)
   .exact G.low i j hi hj (by omega)
 have gj:∀j,j<m->ga (gr t g) j=0:=λj hj=>G.low g j g2 hj (by omega);have gm:(ga (gr t g) m:Rat)≠0:=λz=>g3 (by exact_mod_cast z);refine⟨λv=>(G.nul v).trans ?_,λi hi=>?_,λi j hi hj hji=>?_⟩
 ·-- null rows
  have e1:(∀i,i<n->rs t n i v=0)↔∀i,i<n->rs (bL t m g) n i v=0:=by
   constructor
   .intro z i hi
    unfold rs;rw[sw i hi];split
    .exact z m hm
    .split
     .exact z g g2
     .exact z i hi
   .intro z i hi
    by_cases y:i=g
    .have:=z m hm
     unfold rs at this;rw[sm]at this;rw[y];exact this
    .by_cases y2:i=m
     .have:=z g g2
      unfold rs at this;rw[sw g g2,if_pos rfl]at this;rw[y2];exact this
     .have:=z i hi
      unfold rs at this;rw[sw i hi,if_neg y,if_neg y2]at this;exact this
  refine e1.trans ?_;have eg:rs (bL t m g) n m v=rs t n g v:=by unfold rs;rw[sm]
  have e2:∀i,i<n->m<i->rs (cZ (bL t m g) m m n) n i v=(ga (gr t g) m:Rat)*rs (bL t m g) n i v-(ga (gr (bL t m g) i) m:Rat)*rs t n g v:=λi hi hmi=>by
   unfold rs;rw[at' i hi,if_pos hmi];exact Mh (lw i hi) v
  have e3:∀i,i<n->¬m<i->rs (cZ (bL t m g) m m n) n i v=rs (bL t m g) n i v:=λi hi hmi=>by
   unfold rs;rw[at' i hi,if_neg hmi]
  constructor
  .intro z i hi
   by_cases y:m<i
   .rw[e2 i hi y,z i hi,<-eg,z m hm];grind
   .rw[e3 i hi y];exact z i hi
  .intro z i hi
   have zm:rs t n g v=0:=by rw[<-eg,<-e3 m hm (by omega)];exact z m hm
   by_cases y:m<i
   .have:=z i hi
    rw[e2 i hi y,zm]at this;have:(ga (gr t g) m:Rat)*rs (bL t m g) n i v=0:=by grind
    exact(YcV.mp this).resolve_left gm
   .rw[<-e3 i hi y];exact z i hi
 .rw[at' i<|by omega,if_neg<|by omega]
  by_cases z:i=m
  .rw[z,sm];exact g3
  .rw[sw i<|by omega,if_neg<|by omega,if_neg z];exact G.tri i (by omega)
 .rw[at' i hi]
  by_cases y:m<i
  .rw[if_pos y,BZ (by rw[lw i hi];omega),Int.fdiv_one]
   by_cases z:j=m
   .rw[z,qe,Int.sub_self]
   .rw[sg i j (by omega) hi<|by omega,gj j<|by omega,Int.zero_mul,tW];rfl
  .rw[if_neg y]
   by_cases z:i=m
   .rw[z,sm];exact gj j (by omega)
   .rw[sw i hi,if_neg<|by omega,if_neg z];exact G.low i j hi (by omega) hji
theorem Rk.start(h:Sm 700 n T):Rk T n 0 0 T:=⟨h,cB _,.inl ⟨rfl,λ_=>Iff.rfl,λi hi=>Ng hi<|qO _,λi j _ hj=>Ng hj<|qO _⟩⟩
theorem Rk.fin(h:Rk T n m n t)(n5:n<=5)(hT:Sm 700 n T):m=n↔dt (tA T) n≠0:=by
 rcases h.cs with⟨rfl,G⟩|⟨h1,v,⟨j,hj,hv⟩,hz⟩
 refine⟨λ_ z=>?_,λ_=>rfl⟩;obtain⟨w,⟨a,ha,wa⟩,hw⟩:=B0 hT n5 (by rw[num_dt hT n5];exact z);have hn:=(G.nul λj=>(w j:Rat)).mp λi hi=>by have:=hw i hi;unfold rs;rw[fS (g:=λj=>((tA T i j*w j:Int):Rat)) λj _=>by rw[jJ];rfl,qJ,this];rfl
 have bk:∀d,∀i,i<m->m-1-i=d->(w i:Rat)=0:=by
  intro d;induction d using Nat.strongRecOn with
  |ind d ih=>
   intro i hi hd;have:=hn i hi;unfold rs at this;rw[kJ (k:=i) hi λj hj ne=>by
    rcases Nat.lt_or_gt_of_ne ne with z|z
    .rw[G.low i j hi hj z];exact jy _
    .show _*(w j:Rat)=0;rw[ih (m-1-j) (by omega) j hj rfl,Rat.mul_zero]]at this
   exact(YcV.mp this).resolve_left λz=>G.tri i hi (by exact_mod_cast z)
 exact wa (by exact_mod_cast bk _ a ha rfl);refine⟨λz=>by omega,λz=>?_⟩;have:=null_q (tA T) n5 hz hj;rcases YcV.mp this with y|y
 exact Ng (by exact_mod_cast y) z;exact Ng y hv
end
theorem Mk:Rd Cu Cy Zic:=by
 rintro _ E Q ⟨⟨n,T⟩,rfl,⟨n1,n5,hT⟩,q⟩;dsimp only at n1 n5 hT q;have Tl:=hT.len;show Cy E _ [.d<|fN T,.un,.un,.un,.un,.un];unfold Cy;refine bO<|own_by (xs:=T.map aZ) (ρ':=[.d<|fN T,.ow<|T.map aZ,.un,.un,.un,.un]) rfl (λP hP=>?_) ?_
 .unfold fN
  walk_at "st";refine iB (g:=aZ) (f:=aZ) T (λr hr Q hq=>?_) .un [] (by simp[aL];omega) ?_
  .unfold aZ
   walk_at "st";exact hq
  .rw[dJ];exact hP
 dsimp only;refine bO<|LP.set_by (d:=.int 0) (ρ':=[.d<|fN T,.ow<|T.map aZ,.d<|.int 0,.un,.un,.un]) (by rfl) (λP hP=>hP) ?_;dsimp only;refine pub_by (ρ':=[.d<|fN T,.ow<|T.map aZ,.d<|.int 0,.un,.un,.un]) rfl ?_;refine bO ?_;simp only[bG,bD];unfold fN;walk_at "st";refine⟨by omega,by rw[bU];omega,?_⟩;rw[bU,Tl];refine pW (λa ρ=>∃t m s3 s4 s5,Rk T n m a t/\ρ=[.d<|.lst<|T.map aZ,.ow<|t.map aZ,.d<|.int (m:Nat),s3,s4,s5]) n ?_ ?_ _ ⟨T,0,_,_,_,Rk.start hT,rfl⟩
 rotate_left
 .rintro _ ⟨t,m,s3,s4,s5,o,rfl⟩
  walk_at "st";exact q _ ⟨m,rfl,o.fin n5 hT⟩
 rintro a ha _ ⟨t,m,s3,s4,s5,o,rfl⟩ nx hnx;have xl:=o.sm.len;have ma:=o.ma;have hl:(t.map aZ).length=n:=by rw[bU];exact xl
 show aF _ _ _ _ [.d<|.lst<|T.map aZ,.ow<|t.map aZ,.d<|.int m,.d<|.int a,s4,s5];refine bO<|own_by (xs:=(gS t m a).map λ(k:Nat)=>D.int (k:Int)) (ρ':=[.d<|.lst<|T.map aZ,.ow<|t.map aZ,.d<|.int m,.d<|.int a,.ow<|(gS t m a).map λ(k:Nat)=>D.int (k:Int),s5]) (by rfl) (λP hP=>?_) ?_
 .walk_at "st"
  rw[bU,xl];refine⟨by omega,?_⟩;have el:rng (m:Int) ((n:Int)-(m:Int)).toNat=((List.range<|n-m).map (m + ·)).map λ(k:Nat)=>D.int (k:Int):=by
   unfold rng;rw[List.map_map,show((n:Int)-(m:Int)).toNat=n-m by omega];exact iJ λk _=>by simp
  rw[el];refine vB (p:=λk=>ga (gr t k) a != 0) _ (λk hk P hP=>?_) .un [] (by simp[aL];omega) ?_
  .obtain⟨k',hk',rfl⟩:=YbL.mp hk
   rw[Yag]at hk';walk_at "st";refine⟨_,oa (by omega) rfl,?_⟩;refine sB (k:=a) (by rw[(o.sm.gr (k:=m+k')<|by omega).2.1];exact ha) rfl ?_;walk_at "st";exact hP
  .rw[dJ]
   refine⟨EJ _,?_⟩;unfold gS at hP;rw[xl]at hP;exact hP
 dsimp only;refine pub_by (ρ':=[.d<|.lst<|T.map aZ,.ow<|t.map aZ,.d<|.int m,.d<|.int a,.d<|.lst<|(gS t m a).map λ(k:Nat)=>D.int (k:Int),s5]) rfl ?_;have okG:∀ L:List Nat,dg (.lst (L.map fun (k:Nat)=>D.int (k:Int))) 60=true:=λL=>AQ _ (n:=1) (by decide) (rZ λd hd=>by
  obtain⟨k,_,rfl⟩:=YbL.mp hd;exact Dl _ _)
 cases eg:gS t m a with
 |nil=>
  refine g9 (b:=false) (λP hP=>?_) (λe=>nomatch e) λ_=>hnx _ ⟨_,_,_,_,_,o.none ha eg,rfl⟩;walk_at "st";exact⟨by decide,Dk (by decide +kernel) hP⟩
 |cons g gs=>
 obtain⟨g1,g2,g3⟩:=GF o.sm (g:=g) (by rw[eg];simp);have hm:m<n:=by omega
 generalize hG:(List.map (λ(k:Nat)=>D.int (k:Int)) (g::gs))=G;have hGa:e7 G 0=some (.int g):=by rw[<-hG];exact bC (j:=0) rfl
 refine g9 (b:=true) (λP hP=>?_) (λ_=>?_) λe=>nomatch e
 .walk_at "st"
  refine⟨by decide,?_⟩;rw[<-hG];refine g0 (okG _) (by decide +kernel) ?_;have:ef (.lst<|List.map (λ(k:Nat)=>D.int (k:Int)) (g::gs)) (.lst [])=false:=by
   unfold ef;rw[cP,pd,pd,PyData.eqv,fR,fR,PyData.eqvAll]
  rw[this];exact hP
 try dsimp only
 refine pub_by (ρ':=[.d<|.lst<|T.map aZ,.ow<|t.map aZ,.d<|.int m,.d<|.int a,.d<|.lst G,s5]) rfl ?_;refine bO ?_;have hsw:((t.map aZ).set m<|aZ<|gr t g).set g (aZ<|gr t m)=(bL t m g).map aZ:=by unfold bL;rw[oU,oU]
 have w:=vz o.sm hm g2;have wl:=w.len;have O:=o.some ha (g:=g) (by rw[eg];simp);generalize ht1:bL t m g=t1 at hsw w wl O;refine EK (xs:=t.map aZ) (x:=aZ<|gr t g) (y:=aZ<|gr t m) (k1:=m) (k2:=g) rfl (λP hP=>?_) (λP hP=>hP) (λP hP=>⟨_,hGa,hP⟩) (by rw[hl];exact hm) (by rw[hl];exact g2) ?_
 .refine⟨_,hGa,_,oa (by omega) rfl,_,oa (by omega) rfl,show 2<=aL by decide,hP⟩
 rw[hsw];dsimp only;refine bO ?_;show bD _ _ _ _ _ [.d<|.lst<|T.map aZ,.ow<|t1.map aZ,.d<|.int m,.d<|.int a,.d<|.lst G,s5];simp only[bD];walk_at "st";rw[bU,wl];refine⟨rfl,by omega,?_⟩;have e0:t1.map aZ=(cZ t1 m a<|m+1+0).map aZ:=by rw[Mf<|by omega]
 rw[e0];refine EI ((m:Int)+1) (λk ρ=>∃s5,ρ=[.d<|.lst<|T.map aZ,.ow<|(cZ t1 m a<|m+1+k).map aZ,.d<|.int m,.d<|.int a,.d<|.lst G,s5]) _ ?_ ?_ _ ⟨_,rfl⟩
 .rintro k hk _ ⟨s5,rfl⟩ nx2 hnx2
  have hk':m+1+k<n:=by omega
  have r:=GG (k:=m+1+k) (a:=a) w hm;have rl:=r.len;have nxt:=Mg (t:=t1) (m:=m) (a:=a) (k:=m+1+k) (by omega) (by omega);rw[show m+1+(k+1)=m+1+k+1 by omega,nxt]at hnx2;have e1:gr (cZ t1 m a<|m+1+k) (m+1+k)=gr t1 (m+1+k):=by rw[wO<|by omega,if_neg<|by omega]
  have e2:gr (cZ t1 m a<|m+1+k) m=gr t1 m:=by rw[wO<|by omega,if_neg<|by omega]
  generalize cZ t1 m a (m+1+k)=R at r rl hnx2 e1 e2;have b3:j3 700 m<=8989:=gT (yD (show m<=3 by omega)) (by decide);simp only[gN,List.set_cons_succ,List.set_cons_zero];show ge _ _ _ _ _ [.d<|.lst<|T.map aZ,.ow<|R.map aZ,.d<|.int m,.d<|.int a,.d<|.lst G,.d<|.int<|(m:Int)+1+k];refine⟨_,oa (t:=R) (k:=m+1+k) (by omega)<|by omega,_,oa (t:=R) (k:=m) (by omega) rfl,?_⟩;have up:∀{y:Int},y.natAbs<2^j3 700 m->y.natAbs<2^8989:=λh=>dm h<|jF (by decide) b3;refine⟨((gr R<|m+1+k,gr R m),a,1),rfl,⟨?_,?_,?_,λy hy=>up<|(w.gr hk').2.2 y<|e1▸hy,λy hy=>up<|(w.gr hm).2.2 y<|e2▸hy,(by decide:(1:Int)≠0),dm (show(1:Int).natAbs<2^1 by decide)<|jF (by decide)<|by decide⟩,?_⟩
  .show(gr R<|m+1+k).length<=5
   rw[(r.gr hk').2.1];exact n5
  .show(gr R m).length=(gr R<|m+1+k).length
   rw[(r.gr hk').2.1,(r.gr hm).2.1]
  .show a<(gr R<|m+1+k).length
   rw[(r.gr hk').2.1];exact ha
  .refine⟨m+1+k,?_,?_⟩
   .rw[bU,rl,show(m:Int)+1+(k:Int)=((m+1+k:Nat):Int) by omega]
    exact ixN_nat hk'
   .rw[oU]at hnx2
    exact hnx2 _ ⟨_,rfl⟩
 .rintro _ ⟨s5,rfl⟩
  rw[show m+1+((n:Int)-((m:Int)+1)).toNat=n by omega];dsimp only;refine LP.set_by (d:=.int ((m+1:Nat):Int)) (ρ':=[.d<|.lst<|T.map aZ,.ow<|(cZ t1 m a n).map aZ,.d<|.int ((m+1:Nat):Int),.d<|.int a,.d<|.lst G,s5]) (by rfl) (λP hP=>?_)<|hnx _ ⟨_,_,_,_,_,O,rfl⟩;walk_at "st";exact hP
section
structure Stq(s:List Int)(n a:Nat)(R:List (List Rat))(ps:List Pr):Prop where
 len:ps.length=a
 pq:∀p∈ps,Pq 112 n p
 w0:∀p∈ps,p.1≠0
 one:∀k,k<a->(ps.getD k (0,[])).2.getD k 0=1
 low:∀k j,k<a->j<k->(ps.getD k (0,[])).2.getD j 0=0
 eq:∀i j,i<n->j<n->(tT s n i j:Rat)=gs ps i j+en R i j
theorem GH(p:Pr)(i j:Nat):∀ps:List Pr,gs (ps++[p]) i j=gs ps i j+p.1*(p.2.getD i 0*p.2.getD j 0)
 |[]=>by show _+0=0+_;grind|q::ps=>by rw[gU,gs,gs,GH p i j ps];grind
theorem wP{R:List (List Rat)}(hi:i<n):en (RR R a n n) i j=(upd R a i).getD j 0:=by unfold en RR;rw[bF,bF (l:=(List.range n).map _),cD,hZ hi];simp only[jE,h8,if_pos hi];rw[bF]
theorem Stq.step{R:List (List Rat)}{ps:List Pr}(h:Stq s n a R ps)(hRl:R.length=n)(hr:∀r∈R,r.length=n)(han:a<n)(h0:en R a a≠0)(N:Nl s n a (en R))(hp:Pq 112 n (en R a a,eh (R.getD a [])<|en R a a)):Stq s n (a+1) (RR R a n n) (ps++[(en R a a,eh (R.getD a [])<|en R a a)]):=by
 have bg:∀k,(eh (R.getD a [])<|en R a a).getD k 0=en R a k/en R a a:=λk=>Mn.by_at;refine⟨by simp[h.len],λp hp'=>?_,λp hp'=>?_,λk hk=>?_,λk j hk hj=>?_,λi j hi hj=>?_⟩;rcases Yan.mp hp' with z|z
 exact h.pq p z;rw[Ycm.mp z];exact hp;rcases Yan.mp hp' with z|z
 exact h.w0 p z;rw[Ycm.mp z];exact h0;by_cases z:k=a;rw[z];conv=>lhs;rw[<-h.len,Mn.app_at,h.len]
 rw[bg];grind;rw[Mn.app_lt (by rw[h.len];omega)];exact h.one k (by omega);by_cases z:k=a;rw[z];conv=>lhs;rw[<-h.len,Mn.app_at,h.len]
 rw[bg,N.sym a j han<|by omega,N.zero j a (by omega) han<|by omega];grind;rw[Mn.app_lt (by rw[h.len];omega)];exact h.low k j (by omega) hj;rw[GH,wP hi,Gg hRl hr han hi hj h0,h.eq i j hi hj,bg,bg];generalize en R a a=w at *;grind
end
theorem Ml:Rd wI Gy ZgH:=by
 rintro _ E Q ⟨⟨⟨s,n⟩,m⟩,rfl,⟨h,he,hm,hst⟩,q⟩;dsimp only at h he hm hst q;have h5:=h.n5;have ht:=jt s n;unfold Gy;show aF _ _ _ _ [.d<|aR s n,.d<|.int m,.un,.un,.un,.un,.un,.un,.un,.un];refine bO<|set_by (d:=.int n) (ρ':=[.d<|aR s n,.d<|.int m,.d<|.int n,.un,.un,.un,.un,.un,.un,.un]) rfl (λP h=>by walk_at "st";exact h) ?_;dsimp only;refine bO<|own_by (xs:=[]) (ρ':=[.d<|aR s n,.d<|.int m,.d<|.int n,.ow [],.un,.un,.un,.un,.un,.un]) rfl (λP h=>⟨by decide,h⟩) ?_;dsimp only;refine bO<|own_by (xs:=((tbl s n).map dj).map lq) (ρ':=[.d<|aR s n,.d<|.int m,.d<|.int n,.ow [],.ow<|((tbl s n).map dj).map lq,.un,.un,.un,.un,.un]) rfl (λP hP=>?_) ?_
 unfold aR;walk_at "st";refine iB (g:=aZ) (f:=λr=>lq<|dj r) (tbl s n) (λr hr Q hq=>?_) .un [] (by simp[aL];omega) (by rw[List.map_map]at hP;exact hP);have hrl:=(jD h r hr).1;unfold aZ;walk_at "st";refine iB (g:=D.int) (f:=λx=>aP ((x:Int):Rat)) r (λx hx Q hq=>?_) .un [] (by simp[aL];omega) ?_;walk_at "st";rw[vg]at hq;exact⟨by decide,hq⟩;unfold lq dj at hq;rw[List.map_map]at hq;exact hq;dsimp only;refine bO ?_;show bD _ _ _ _ _ _;walk_at "st";refine⟨by omega,by omega,?_⟩;refine pW (λa ρ=>∃(R:List (List Rat)) (acc:List Pr) (s5 s6 s7 s8 s9:SV),R.length=n/\(∀r∈R,Lf (bq 6 a) n r)/\Nl s n a (en R)/\Stq s n a R acc/\ρ=[.d<|aR s n,.d<|.int m,.d<|.int n,.ow<|acc.map du,.ow<|R.map lq,s5,s6,s7,s8,s9]) m ?_ ?_ _ ⟨(tbl s n).map dj,[],_,_,_,_,_,by simp[ht],λr hr=>?_,?_,?_,rfl⟩;rintro a ha _ ⟨R,acc,s5,s6,s7,s8,s9,hRl,hRf,hN,hQ,rfl⟩ nx hnx;have hc:=hQ.len;have han:a<n:=by omega
 have hr:∀r∈R,r.length=n:=λr h=>(hRf r h).len;have h0:=hN.piv h hm ha hst;have ea:=qc hRl hr han han;have hb:=LA (a:=a) (by omega);have LfA:=hRf _ ea.2.1;have LfN:Lf (bq 6 a) n (eh (R.getD a [])<|en R a a):=LfA.norm han h0;have szW:Sz 111 (en R a a):=((LfA.get han).2).mono hb;have szR:∀y∈eh (R.getD a []) (en R a a),Sz 111 y:=λy hy=>(LfN.sz y hy).mono hb;have szA:∀y∈R.getD a [],Sz 111 y:=λy hy=>(LfA.sz y hy).mono hb;have lB:(eh (R.getD a [])<|en R a a).length=n:=LfN.len;show aF _ _ _ _ [.d<|aR s n,.d<|.int m,.d<|.int n,.ow<|acc.map du,.ow<|R.map lq,.d<|.int a,s6,s7,s8,s9];refine bO<|set_by (d:=aP<|en R a a) (ρ':=[.d<|aR s n,.d<|.int m,.d<|.int n,.ow<|acc.map du,.ow<|R.map lq,.d<|.int a,.d<|aP<|en R a a,s7,s8,s9]) rfl (λP hP=>?_) ?_
 walk_at "st";refine⟨lq<|R.getD a [],bC (by rw[cD,ea.1];rfl),?_⟩;unfold lq;walk_at "st";exact⟨aP<|en R a a,bC (by rw[cD,ea.2.2.2];rfl),rfl,hP⟩;dsimp only;refine bO<|set_by (d:=aG<|eh (R.getD a [])<|en R a a) (ρ':=[.d<|aR s n,.d<|.int m,.d<|.int n,.ow<|acc.map du,.ow<|R.map lq,.d<|.int a,.d<|aP<|en R a a,.d<|aG<|eh (R.getD a [])<|en R a a,s8,s9]) rfl (λP hP=>?_) ?_
 walk_at "st";refine⟨lq<|R.getD a [],bC (by rw[cD,ea.1];rfl),?_⟩;unfold lq;walk_at "st";refine iB (g:=aP) (f:=λx=>aP<|x/en R a a) (R.getD a []) (λx hx Q hq=>?_) .un [] (by simp[aL];have:=ea.2.2.1;rw[bF]at this;omega) ?_;have bx:=(szA x hx).bd (by decide);have bw:=szW.bd (by decide);unfold aP;walk_at "st";refine⟨_,rfl,_,rfl,⟨⟨bx.1,bw.2⟩,_,rfl,_,rfl,⟨⟨bx.2,bw.1⟩,vm ?_ ?_ ?_⟩⟩⟩;have:=x.den_nz;have hn0:(en R a a).num≠0:=λz=>h0<|Yct.mp z;exact lG (by omega) hn0
 unfold Bd;rw[gh,ke];exact dm (lK (szA x hx).2 szW.1)<|jF (by decide) (by decide)
 rw[Cg x _ h0];exact hq;walk_at "st";refine⟨?_,?_⟩;have:=Cf (eh (R.getD a [])<|en R a a);unfold eh at this;rw[List.map_map]at this;rw[i6];exact this;unfold aG eh at hP;rw[List.map_map]at hP;exact hP;dsimp only;generalize hB:eh (R.getD a []) (en R a a)=B at *;refine bO<|B9 (xs:=acc.map du) (d:=du (en R a a,B)) (ρ':=[.d<|aR s n,.d<|.int m,.d<|.int n,.ow<|(acc++[(en R a a,B)]).map du,.ow<|R.map lq,.d<|.int a,.d<|aP<|en R a a,.d<|aG B,s8,s9]) rfl (by rw[bU];unfold aL;omega) (by rw[oR];rfl) (pair_at (nm_at rfl)<|nm_at rfl) ?_;dsimp only;show bD _ _ _ _ _ _;walk_at "st";refine⟨by omega,by omega,?_⟩;refine pW (λi ρ=>∃(s8 s9:SV),ρ=[.d<|aR s n,.d<|.int m,.d<|.int n,.ow<|(acc++[(en R a a,B)]).map du,.ow<|(RR R a n i).map lq,.d<|.int a,.d<|aP<|en R a a,.d<|aG B,s8,s9]) n ?_ ?_ _ ⟨_,_,by rw[LB hRl]⟩
 rintro i hi _ ⟨s8,s9,rfl⟩ nx2 hnx2;have bi:B[i]? = some (B.getD i 0):=by rw[bF,bP<|by omega];rfl
 have szB:∀k,k<n->Sz 111 (B.getD k 0):=λk hk=>by rw[bF,bP<|by omega];exact szR _<|fT _
 have szT:Sz 222 (en R a a*B.getD i 0):=szW.mul<|szB i hi;show aF _ _ _ _ [.d<|aR s n,.d<|.int m,.d<|.int n,.ow<|(acc++[(en R a a,B)]).map du,.ow<|(RR R a n i).map lq,.d<|.int a,.d<|aP<|en R a a,.d<|aG B,.d<|.int i,s9];refine bO<|set_by (d:=aP<|en R a a*B.getD i 0) (ρ':=[.d<|aR s n,.d<|.int m,.d<|.int n,.ow<|(acc++[(en R a a,B)]).map du,.ow<|(RR R a n i).map lq,.d<|.int a,.d<|aP<|en R a a,.d<|aG B,.d<|.int i,.d<|aP<|en R a a*B.getD i 0]) rfl (λP hP=>?_) ?_
 unfold aG;walk_at "st";exact⟨by decide,_,bC (by rw[cD,bi];rfl),by decide,Gf szW (szB i hi) (by decide) hP⟩;dsimp only;have eu:(upd R a i).map aP=(List.range n).map λj=>aP (en R i j + -(en R a a*B.getD i 0)*B.getD j 0):=by
  unfold upd;rw[hB];have ei:=qc hRl hr hi hi;refine sY (by unfold cC;rw[bU,jw,ei.2.2.1,lB];simp) λj h1 h2=>?_;have hj:j<n:=by simpa using h2
  have ej:=qc hRl hr hi hj;rw[oC,oC,xq];unfold cC;rw[oV];have e1:(R.getD i [])[j]'(by rw[ej.2.2.1];exact hj)=en R i j:=Nk<|(bP _).symm.trans ej.2.2.2;have e2:B[j]'(by omega)=B.getD j 0:=by rw[bF,bP<|by omega];rfl
  rw[e1,e2];congr 1;grind
 refine FS (xs:=(RR R a n i).map lq) (k:=i) (d:=lq<|upd R a i) rfl (by simp[RR];exact hi) rfl (λP hP=>?_) (nm_at rfl)<|hnx2 _ ⟨_,_,by rw[<-LC hi,oU];rfl⟩;unfold lq at hP;rw[eu]at hP;walk_at "st";refine⟨by omega,by omega,?_⟩;rw[pU];refine iB (g:=λk:Nat=>D.int (k:Int)) (f:=λj=>aP<|en R i j + -(en R a a*B.getD i 0)*B.getD j 0) (List.range n) (λj hj Q hq=>?_) .un [] (by simp[aL];omega) ⟨LE _ _,hP⟩;have hj:=Yag.mp hj;have ej:=qc hRl hr hi hj;have bj:B[j]? = some (B.getD j 0):=by rw[bF,bP<|by omega];rfl
 have sz1:Sz 111 (en R i j):=((hRf _ ej.2.1).get hj).2.mono hb;walk_at "st";refine⟨lq<|R.getD i [],bC (by rw[cD,wD hi];rfl),?_⟩;unfold lq;walk_at "st";refine⟨aP<|en R i j,bC (by rw[cD,ej.2.2.2];rfl),?_⟩;generalize en R a a*B.getD i 0=T at *;refine⟨_,rfl,⟨trivial,_,rfl,by decide,by decide,by decide,_,bC (by rw[cD,bj];rfl),by decide,?_⟩⟩;have:=Ko (E:=No) (Q:=Q) sz1 szT.neg (szB j hj) (by decide) hq;rw[Kp]at this;exact this;rintro _ ⟨s8,s9,rfl⟩;refine hnx _ ⟨RR R a n n,acc++[(en R a a,B)],_,_,_,_,_,by simp[RR],λr hr'=>?_,?_,?_,rfl⟩;obtain⟨k,hk,rfl⟩:=YbL.mp hr';have hk:=Yag.mp hk;rw[if_pos hk,LD hRl hr han hk h0<|hN.sym a k han hk,hB];exact(hRf _ (qc hRl hr hk hk).2.1).less LfN han;refine hN.step han h0 λi j hi hj=>?_;rw[<-Gg hRl hr han hi hj h0];unfold en RR;rw[bF,bF (l:=(List.range n).map _),cD,hZ hi];simp only[jE,h8,if_pos hi];rw[bF];rw[<-hB];exact hQ.step hRl hr han h0 hN (by rw[hB];exact⟨lB,szW.mono<|by decide,λy hy=>(szR y hy).mono<|by decide⟩);rintro _ ⟨R,acc,s5,s6,s7,s8,s9,hRl,hRf,hN,hQ,rfl⟩;exact q _ ⟨acc,rfl,hQ.len,hQ.pq,hQ.w0,hQ.one,hQ.low,_,hN,hQ.eq⟩;obtain⟨r0,hr0,rfl⟩:=YbL.mp hr;have:=jD h r0 hr0;have L:=Lf.int (b:=6) (c:=r0) (by decide) λx hx=>by have:=this.2 x hx;show x.natAbs<64;omega
 rw[this.1]at L;exact L;have e:∀i j,i<n->j<n->en ((tbl s n).map dj) i j=(tT s n i j:Rat):=λi j hi hj=>by unfold en tT ga gr;have hj':=(jD h _<|fT (show i<(tbl s n).length by omega)).1;simp only[bF];rw[bP (l:=tbl s n)<|by omega,bP (l:=(tbl s n).map dj) (by simp;omega),oC];simp only[h8];unfold dj;rw[cD,bP<|by omega];rfl
 have N:=Nl.start h he;exact ⟨λi j hi hj=>by rw [e i j hi hj,e j i hj hi];exact N.sym i j hi hj,λi j _ _ z=>Ng z<|by omega,λc hc hcn=>by
  obtain⟨x,x1,x2,x3⟩:=N.vec c hc hcn;exact⟨x,x1,x2,λi hi=>by rw[e i c hi hcn];exact x3 i hi⟩⟩
 refine⟨rfl,(λ_ h=>nomatch h),(λ_ h=>nomatch h),λk hk=>Ng hk<|qO _,λk j hk=>Ng hk<|qO _,λi j hi hj=>?_⟩;show _=0+_;unfold en tT ga gr;have hj':=(jD h _<|fT (show i<(tbl s n).length by omega)).1;simp only[bF];rw[bP (l:=tbl s n)<|by omega,bP (l:=(tbl s n).map dj) (by simp;omega),oC];simp only[h8];unfold dj;rw[cD,bP<|by omega,xc];rfl
section
variable{ps:List Pr}
theorem GI(i j:Nat):∀ps:List Pr,gs ps i j=aN (λq=>(ps.getD q (0,[])).1*((ps.getD q (0,[])).2.getD i 0*(ps.getD q (0,[])).2.getD j 0)) ps.length
 |[]=>rfl|p::ps=>by rw[gs,GI i j ps,dM,Cc];rfl
def dx(n:Nat)(p:Pr)(x:Nat->Rat):Rat:=aN (λj=>p.2.getD j 0*x j) n
theorem Stp.dx(h:Stp s n m ps)(hm:m<n){L:Nat->Nat->Rat}(N:Nl s n m L)(eL:∀i j,i<n->j<n->(tT s n i j:Rat)=gs ps i j+L i j){x:Nat->Rat}(hx:∀i,i<n->aN (λj=>(tT s n i j:Rat)*x j) n=L i m):∀k,k<m->dx n (ps.getD k (0,[])) x=0:=by
 intro k;induction k using Nat.strongRecOn with
 |ind k ih=>
  intro hk;have e:=hx k (by omega);rw[N.zero k m (by omega) hm hk,fS (g:=λj=>aN (λq=>((ps.getD q (0,[])).1*(ps.getD q (0,[])).2.getD k 0)*((ps.getD q (0,[])).2.getD j 0*x j)) m) λj hj=>by
   rw[eL k j (by omega) hj,N.zero k j (by omega) hj hk,lE,GI,h.len,xp,<-sumN_mul];exact fS λq _=>by grind,tO,kJ (k:=k) hk λq hq ne=>by
   rw[sumN_mul];rcases Nat.lt_or_gt_of_ne ne with z|z
   .show _*Q2.dx n _ x=0
    rw[ih q z hq,Rat.mul_zero]
   .rw[h.low q k hq z,Rat.mul_zero,jy],sumN_mul,h.one k hk,Rat.mul_one]at e
  have mem:ps.getD k (0,[])∈ps:=by rw[bF,bP (by rw[h.len];exact hk)];exact fT _
  exact(YcV.mp e).resolve_left<|h.w0 _ mem
theorem CB(h:IsSl s n)(hm:m<n)(hst:qG s n m){x:Nat->Rat}(x1:x m=1)(x2:∀j,m<=j->j≠m->x j=0)(hx:∀i,i<m->aN (λj=>(tT s n i j:Rat)*x j) n=0):∀j,Sz 30 (x j):=λj=>by
 rcases Nat.lt_trichotomy j m with z|z|z
 have n5:=h.n5;have tb:∀i j,i<n->j<n->(tT s n i j).natAbs<=50:=λi j hi hj=>by
  rw[Cd h hi hj,bF];cases e:s[n-1-i+j]? with
  |none=>exact iI _|some y=>have:=h.b y<|ip e;show y.natAbs<=50;omega
 let A:Nat->Nat->Int:=λi j=>if i<n/\j<n then tT s n i j else 0;have Ab:∀i j,(A i j).natAbs<=50:=λi j=>by show(if i<n/\j<n then tT s n i j else 0).natAbs<=50;split;rename_i z;exact tb i j z.1 z.2;exact iI _
 have Ae:∀i j,i<n->j<n->A i j=tT s n i j:=λi j hi hj=>if_pos ⟨hi,hj⟩;have D0:dt A m≠0:=by obtain⟨k,rfl⟩:∃k,m=k+1:=⟨m-1,by omega⟩;have sm:=wy (a:=k) h (by omega);have:=hst k (by omega);rw[num_dt sm<|by omega]at this;rw[<-F8 λi hi j hj=>?_];exact this;have hl:=jt s n;rw[Ae i j (by omega)<|by omega];show tA _ i j=tT s n i j;unfold tA gR tT ga gr;simp only[bF];rw[cD,t8,if_pos hi,bP (l:=tbl s n)<|by omega];simp only[jE,h8];rw[t8,if_pos hj]
 have cr:=Mn.cramer (A:=A) (k:=m) (by omega) z (x:=x) (b:=λi=>- A i m) λi hi=>by have:=hx i hi;have sp:=sumN_split (λj=>(tT s n i j:Rat)*x j) m<|n-m;rw[show m+(n-m)=n by omega,this,kJ (k:=0) (n:=n-m) (by omega) λk hk ne=>by rw[x2 (m+k) (by omega)<|by omega,Rat.mul_zero]]at sp;rw[fS (g:=λj=>(tT s n i j:Rat)*x j) λj hj=>by rw[Ae i j (by omega)<|by omega],Ae i m (by omega) hm];rw[xm,x1,Rat.mul_one]at sp;rw[Rat.intCast_neg];grind
 refine Mn.sz_by cr D0 (jH (Pj.sumI_bd (c:=24*50^(m-1)*50) λi _=>?_) ?_)<|jH (Mn.dt_bd Ab<|by omega) ?_
 rw[gh,Int.natAbs_neg];exact sU (Mn.cof_bd Ab<|by omega)<|Ab _ _
 match m,(show m<=4 by omega) with
 |0,_=>decide|1,_=>decide|2,_=>decide|3,_=>decide|4,_=>decide
 match m,(show m<=4 by omega) with
 |0,_=>decide|1,_=>decide|2,_=>decide|3,_=>decide|4,_=>decide
 rw[z,x1];exact Sz.int (n:=30) 1 (by decide) (by decide);rw[x2 j (by omega)<|by omega];exact Sz.int (n:=30) 0 (by decide) (by decide)
def iF(x:Nat->Rat)(n p:Nat):List Rat:=(List.range n).map λj=>if p<=j then x j else 0
theorem GJ{x:Nat->Rat}{p:Nat}(hj:j<n):(iF x n p).getD j 0=if p<=j then x j else 0:=by unfold iF;rw[bF,cD,hZ hj];rfl
theorem Mm{x:Nat->Rat}{p:Nat}(hp:p<n):(iF x n<|p+1).set p (x p)=iF x n p:=by unfold iF;refine sY (by simp) λk h1 h2=>?_;rw[List.getElem_set];simp only[oC,xq];split;rename_i e;subst e;rw[if_pos<|cB _];by_cases z:p+1<=k;rw[if_pos z,if_pos<|by omega];rw[if_neg z,if_neg<|by omega]
theorem GK{E:Ex->Prop}(h:IsSl s n)(h0:s.reverse=s)(h1:m<=n)(h2:qG s n m)(q:∀ps:List Pr,Stp s n m ps->Q (cE ps)):wI [aR s n,.int m] E Q:=⟨((s,n),m),rfl,⟨h,h0,h1,h2⟩,λd ⟨ps,e,hp⟩=>by rw[e];exact q ps hp⟩
end
theorem Mo:Rd Ct Cw ZeX:=by
 rintro _ E Q ⟨⟨s,n⟩,rfl,⟨h,ev,nd⟩,q⟩;dsimp only at h ev nd q;have n5:=h.n5;have hl:=jt s n;show Cw E _ [.d<|aR s n,.un,.un,.un,.un,.un];unfold Cw;refine bO<|LP.set_by (d:=.int 0) (ρ':=[.d<|aR s n,.d<|.int 0,.un,.un,.un,.un]) (by rfl) (λP hP=>hP) ?_;dsimp only;refine bO ?_;simp only[bG,qy];refine⟨λk ρ=>∃m:Nat,k+m=n/\(∀k,k<m->0<eM (gR (tbl s n)<|k+1))/\ρ=[.d<|aR s n,.d<|.int m,.un,.un,.un,.un],⟨n,0,by omega,λk hk=>Ng hk<|by omega,rfl⟩,?_⟩;rintro k _ ⟨m,hk,hst,rfl⟩;have hmn:m<n:=by refine Classical.byContradiction λz=>nd λk hk=>hst k (by omega)
 walk_at "st";rw[kI (b:=m+1)<|by omega,<-jI];refine iB (g:=aZ) (f:=λr=>aZ<|r.take<|m+1) ((tbl s n).take<|m+1) (λr hr Q hq=>?_) .un [] (by simp[aL];omega) ?_
 .unfold aZ
  walk_at "st";rw[kI (b:=m+1)<|by omega,<-jI];exact hq
 have sm:=wy (a:=m) h hmn;refine⟨gR (tbl s n)<|m+1,?_,⟨by rw[sm.len];exact sm,by rw[sm.len];omega⟩,?_⟩
 .unfold fN gR
  dsimp only;rw[List.map_map];rfl
 dsimp only;refine⟨trivial,?_⟩;by_cases hz:0<eM (gR (tbl s n)<|m+1)
 .show(if decide _=true then _ else _)
  rw[if_pos<|by simpa using hz];refine⟨k-1,by omega,m+1,by omega,λj hj=>?_,rfl⟩;rcases gg j m with hjm|hjm
  .exact hst j hjm
  .rw[show j=m by omega];exact hz
 show(if decide _=true then _ else _);rw[if_neg<|by simpa using hz];clear sm hz hk;have stg:qG s n m:=λk hk z=>by have:=hst k hk;omega
 refine bO<|own_by (xs:=(dS n m).map aP) (ρ':=[.d<|aR s n,.d<|.int m,.ow<|(dS n m).map aP,.un,.un,.un]) (by rfl) (λP hP=>?_) ?_
 .unfold aR
  walk_at "st";rw[bU,hl];refine GE n5 ?_;unfold aG;walk_at "st";exact hP
 dsimp only;refine bO<|mV (λd=>∃ps,d=cE ps/\Stp s n m ps) (λP hP=>?_) ?_
 .walk_at "st"
  exact GK h ev (by omega) stg λps hp=>hP _ ⟨ps,rfl,hp⟩
 rintro _ ⟨ps,rfl,hS⟩;obtain⟨L,N,eL⟩:=hS.eq;obtain⟨x,x1,x2,x3⟩:=N.vec m (cB _) hmn;have sz:=CB h hmn stg x1 x2 λi hi=>by rw[x3 i<|by omega,N.zero i m (by omega) hmn hi]
 have d0:=hS.dx hmn N eL x3;have e0:dS n m=iF x n m:=by
  unfold dS iF;refine iJ λj hj=>?_;by_cases z:j=m
  .rw[if_pos z,if_pos<|by omega,z,x1]
  .by_cases y:m<=j
   .rw[if_neg z,if_pos y,x2 j y z]
   .rw[if_neg z,if_neg y]
 rw[e0];dsimp only[List.set_cons_succ,List.set_cons_zero];refine bO ?_;simp only[bG,bD];simp only[Cn,aC,aA,w2,w1,wN,wC,fk,fO];refine⟨trivial,⟨⟨by decide,by omega,by omega,by omega,by omega⟩,?_⟩⟩;have er:j7 ((m:Int)-1) ((m:Int)-1 - -1).toNat=(List.range m).map λ(k:Nat)=>D.int ((m:Int)-1-k):=by unfold j7;rw[show((m:Int)-1 - -1).toNat=m by omega]
 rw[er];refine qF (λds ρ=>∃(p:Nat) (s4 s5:SV),p<=m/\ds=(List.range p).map (λ(k:Nat)=>D.int<|(p:Int)-1-k)/\ρ=[.d<|aR s n,.d<|.int m,.ow<|(iF x n p).map aP,.d<|cE ps,s4,s5]) ?_ ?_ _ _ ⟨m,_,_,cB _,rfl,rfl⟩
 rotate_left
 .rintro _ ⟨p,s4,s5,hp,ep,rfl⟩
  cases p with
  |succ p=>rw[List.range_succ_eq_map,cP]at ep;cases ep
  |zero=>
   dsimp only;refine pub_by (ρ':=[.d<|aR s n,.d<|.int m,.d<|.lst<|(iF x n 0).map aP,.d<|cE ps,s4,s5]) rfl ?_;walk_at "st";refine q _ ⟨iF x n 0,rfl,by unfold iF;simp,λy hy=>?_⟩;obtain⟨j,_,rfl⟩:=YbL.mp hy;rw[if_pos<|iI _];exact(sz j).mono (by decide)
 rintro d ds _ ⟨p,s4,s5,hp,ep,rfl⟩ nx hnx;cases p with
 |zero=>cases ep
 |succ p=>
  rw[List.range_succ_eq_map,cP,List.map_map]at ep;injection ep with ed ep
  have hpm:p<m:=by omega
  have gp:ps[p]? = some (ps.getD p (0,[])):=by rw[bF,bP (by rw[hS.len];exact hpm)];rfl
  have mem:ps.getD p (0,[])∈ps:=ip gp;have P:=hS.pq _ mem;have fl:(iF x n<|p+1).length=n:=by unfold iF;simp
  have fsz:∀y∈iF x n (p+1),Sz 30 y:=λy hy=>by
   obtain⟨j,_,rfl⟩:=YbL.mp hy;split
   .exact sz j
   .exact Sz.int (n:=30) 0 (by decide) (by decide)
  have ed:d=.int p:=by rw[ed];congr 1;omega
  have fj:cK (ps.getD p (0,[])).2 (iF x n<|p+1) = - x p:=by
   rw[qb _ _ n P.l fl];have z:=d0 p hpm;unfold dx at z;have e:aN (λj=>(ps.getD p (0,[])).2.getD j 0*x j-(ps.getD p (0,[])).2.getD j 0*(iF x n<|p+1).getD j 0) n=x p:=by
    rw[kJ (k:=p) (by omega) λj hj ne=>?_]
    .rw[GJ<|by omega,if_neg<|by omega,hS.one p hpm];grind
    .rw[GJ hj]
     by_cases y:p+1<=j
     .rw[if_pos y];grind
     .rw[hS.low p j hpm<|by omega];grind
   rw[qa,z]at e;grind
  subst ed;show aF _ _ _ _ [.d<|aR s n,.d<|.int m,.ow<|(iF x n<|p+1).map aP,.d<|cE ps,.d<|.int p,s5];refine bO<|LP.set_by (d:=aP (- x p)) (ρ':=[.d<|aR s n,.d<|.int m,.ow<|(iF x n<|p+1).map aP,.d<|cE ps,.d<|.int p,.d<|aP (- x p)]) (by rfl) (λP' hP=>?_) ?_
  .unfold cE
   walk_at "st";refine⟨du<|ps.getD p (0,[]),bC (by rw[cD,gp];rfl),⟨_,rfl,⟨((true,false),(ps.getD p (0,[])).2,iF x n<|p+1),rfl,zd (a:=112) (b:=30) P.r fsz (by show(ps.getD p (0,[])).2.length*_<=_;rw[P.l];omega),?_⟩⟩⟩;dsimp only;rw[fj];exact⟨rfl,hP⟩
  dsimp only;refine FS (xs:=(iF x n<|p+1).map aP) (k:=p) (d:=aP<|x p) rfl (by rw[bU,fl];omega) rfl (λP' hP=>?_) (nm_at rfl)<|hnx _ ⟨p,.d<|.int p,.d<|aP (- x p),by omega,?_,?_⟩
  .unfold aP
   walk_at "st";refine⟨_,rfl,trivial,_,rfl,by decide,?_⟩;rw[show D.tup [D.int<|0-(- x p).num,D.int ((- x p).den:Int)]=aP (x p) by
    unfold aP;rw[Rat.neg_num,Rat.neg_den];congr 3;omega]
   exact hP
  .rw[ep];refine iJ λk _=>?_
   show D.int _=D.int _;congr 1;omega
  .rw[<-Mm (x:=x) (n:=n) (p:=p) (by omega),oU];rfl
section
theorem Mp{l:List Nat}(h:l.Pairwise (· < ·))(hl:l.length=n)(lt:∀a∈l,a<n):∀i,i<n->l.getD i 0=i:=λi hi=>by
 have g:∀k (hk:k<l.length),l.getD k 0=l[k]:=λk hk=>by rw[bF,bP hk];rfl
 have pw:=List.pairwise_iff_getElem.mp h;have lo:∀k,k<l.length->k<=l.getD k 0:=by
  intro k;induction k with
  |zero=>intro _;exact iI _|succ k ih=>intro hk;have:=ih (by omega);have:=pw k (k+1) (by omega) hk (by omega);rw[g k<|by omega] at *;rw[g (k+1) hk];omega
 have up:∀d k,k+d<l.length->l.getD k 0+d<=l.getD (k+d) 0:=by
  intro d;induction d with
  |zero=>intro k _;exact cB _|succ d ih=>intro k hk;have:=ih k (by omega);have p:=pw (k+d) (k+d+1) (by omega) (by omega) (by omega);rw[<-g (k+d) (by omega),<-g (k+d+1) (by omega)]at p;rw[show k+(d+1)=k+d+1 by omega];omega
 have h1:=lo i (by omega);have h2:=up (n-1-i) i (by omega);rw[show i+(n-1-i)=n-1 by omega]at h2;have h3:l.getD (n-1) 0<n:=by rw[g (n-1)<|by omega];exact lt _<|fT _
 omega
theorem Mq{P:List (List Rat)}(hR:∀r∈P,r.length=n)(hl:(cO P n).ld.length=n){x:List Rat}(hx:x.length=n)(h0:∀r∈P,cK r x=0)(hk:k<n):x.getD k 0=0:=by
 have ec:=ww hR n<|cB _;have pe:=Mp ec.asc (ec.ll▸hl) ec.lt;have mem:(cO P n).ld.getD k []∈(cO P n).ld:=p6 (by omega);have d:=((ec.nul x hx).mp h0).1 _ mem;rw[qb _ _ n (ec.wl _ mem) hx,kJ (k:=k) hk λj hj ne=>by
  have:=ec.one k j (by omega) (by have:=ec.ll;omega);rw[pe j hj,if_neg<|Nr ne]at this;rw[this,jy]]at d
 have:=ec.one k k (by omega) (by have:=ec.ll;omega);rw[pe k hk,if_pos rfl]at this;rwa [this,Rat.one_mul]at d
def jc(r:List Rat)(b:Int):Int:=r.foldl (λb y=>b*(y.den:Int)) b
theorem GL:∀(r:List Rat) {b:Int},0<b->0<jc r b
 |[],_,h=>h|y::r,b,h=>GL r<|Int.mul_pos h (by have:=y.den_pos;omega)
theorem GM:∀(r:List Rat) {b d:Int},(d∣b\/∃y∈r,(y.den:Int)=d)->d∣jc r b
 |[],b,d,h=>by
  rcases h with h|⟨y,hy,_⟩
  exact h;cases hy
 |y::r,b,d,h=>by
  refine GM r (b:=b*y.den) ?_;rcases h with h|⟨z,hz,e⟩
  exact .inl<|Int.dvd_mul_of_dvd_left h
  rcases Yam.mp hz with rfl|hz
  exact .inl (by rw[e];exact Int.dvd_mul_left ..);exact .inr ⟨z,hz,e⟩
theorem ze{c:Nat}:∀(r:List Rat) {b:Int} {a:Nat},b.natAbs<2^a->(∀y∈r,Sz c y)->(jc r b).natAbs<2^(a+c*r.length)
 |[],_,_,h,_=>h|y::r,b,a,h,hz=>by have:=ze (c:=c) r (b:=b*y.den) (a:=a+c) (by rw[gh,ke];exact lK h (hz y<|by simp).2) λz hz'=>hz z (by simp[hz']);rw[dM,xk];rwa [show a+c+c*r.length=a+(c*r.length+c) by omega]at this
def iG(r:List Rat):List Int:=r.map λy=>y.num*(jc r 1).fdiv y.den
theorem wQ{y:Rat}(hy:y∈r):((y.num*(jc r 1).fdiv y.den:Int):Rat)=(jc r 1:Rat)*y:=by
 obtain⟨c,hc⟩:=GM r (b:=1) (d:=y.den)<|.inr ⟨y,hy,rfl⟩;have d0:(y.den:Int)≠0:=by have:=y.den_nz;omega
 rw[hc,tV _ d0,jJ,jJ,ub];have e:(y.num:Rat)/((y.den:Nat):Rat)=y:=by have:=qd y;rw[ua,ub]at this;exact this
 have hd:((y.den:Nat):Rat)≠0:=by exact_mod_cast y.den_nz
 conv=>rhs;rw[<-e]
 grind
theorem Mr(r:List Rat)(j:Nat):((ga (iG r) j:Int):Rat)=(jc r 1:Rat)*r.getD j 0:=by
 unfold ga iG;rw[bF,cD,bF];cases e:r[j]? with
 |none=>show((0:Int):Rat)=_*0;rw[Rat.mul_zero];rfl|some y=>exact wQ<|ip e
theorem GN{R:List (List Rat)}(n5:n<=5)(hl:R.length=n)(hr:∀r∈R,r.length=n/\∀y∈r,Sz 115 y):Sm 700 n (R.map iG):=by refine⟨by simp[hl],λr hr'=>?_,λr hr' x hx=>?_⟩;obtain⟨u,hu,rfl⟩:=YbL.mp hr';unfold iG;rw[bU];exact(hr u hu).1;obtain⟨u,hu,rfl⟩:=YbL.mp hr';unfold iG at hx;obtain⟨y,hy,rfl⟩:=YbL.mp hx;have b1:=ze (c:=115) u (b:=1) (a:=1) (by decide) (hr u hu).2;have b2:=zP (jc u 1) y.den;rw[gh];have b3:=sW ((hr u hu).2 y hy).1<|jH b2 b1;rw[<-qN]at b3;refine dm b3<|jF (by decide) ?_;have:=(hr u hu).1;rw[this];omega
theorem Ms{R:List (List Rat)}(n5:n<=5)(hl:R.length=n)(hr:∀r∈R,r.length=n/\∀y∈r,Sz 115 y):(cO R n).ld.length=n↔dt (tA<|R.map iG) n≠0:=by
 have sm:=GN n5 hl hr;have at':∀i,i<n->∀j,((tA (R.map iG) i j:Int):Rat)=(jc (R.getD i []) 1:Rat)*(R.getD i []).getD j 0:=λi hi j=>by unfold tA gr;rw[bF (l:=R.map iG),cD,bP<|by omega,jE,h8,bF (l:=R),bP<|by omega,h8];exact Mr _ _
 have hw:∀r∈R,r.length=n:=λr h=>(hr r h).1;constructor;intro h z;obtain⟨w,⟨a,ha,wa⟩,hw0⟩:=B0 sm n5 (by rw[num_dt sm n5];exact z);have:=Mq hw h (x:=tP n λj=>(w j:Rat)) (F9 _ _) (λr hr'=>by
  obtain⟨i,hi,rfl⟩:=Ybr.mp hr';have hi':i<n:=by omega
  rw[qb _ _ n (hw _ hr')<|F9 _ _];have e:=hw0 i hi';have e2:(jc R[i] 1:Rat)*aN (λj=>R[i].getD j 0*(tP n λj=>(w j:Rat)).getD j 0) n=0:=by
   rw[<-sumN_mul,fS (g:=λj=>((tA (R.map iG) i j*w j:Int):Rat)) λj hj=>by
    rw[jJ,at' i hi',Ga hj,bF (l:=R),bP hi,h8];grind,qJ,e];rfl
  rcases YcV.mp e2 with y|y
  .have:=GL R[i] (b:=1) (by decide)
   have:jc R[i] 1=0:=by exact_mod_cast y
   omega
  .exact y) ha
 rw[Ga ha]at this;exact wa (by exact_mod_cast this);intro h;refine LM hw λx hx h0 k hk=>?_;have:=null_q (tA<|R.map iG) n5 (w:=λj=>x.getD j 0) (λi hi=>by
  rw[fS (g:=λj=>(jc (R.getD i []) 1:Rat)*((R.getD i []).getD j 0*x.getD j 0)) λj _=>by rw[at' i hi];grind,sumN_mul];have mem:R.getD i []∈R:=p6 (by omega);rw[<-qb _ _ n (hw _ mem) hx,h0 _ mem,Rat.mul_zero]) hk
 rcases YcV.mp this with y|y
 exact Ng (by exact_mod_cast y) h;exact y
end
theorem GO{w:D}{t:Str}(h:kd w=true)(ht:∀u,w≠.str u):ef w (.str t)=false:=by
 cases w with
 |str u=>exact Ng rfl<|ht u
 |_=>rfl
theorem tR(t u:Str):ef (.str t) (.str u)=decide (t=u):=by show PyData.eqv (.str t) (.str u)=_;rfl
theorem CD{wf:WT}{tail:cS}{Q:List D->Prop}{p:Pr->Bool}:∀(L:List Pr),(∀a∈L,∀P:Bool->Prop,P (p a)->wf No (.d (aP a.1)::.d (aG a.2)::tail) P)->∀(sv sv':SV) (acc:List D),acc.length+L.length<=aL->Q (acc++(L.filter p).map λa=>aP a.1)->lcW (dQ 2<|cJ (gN 0)<|cJ (gN 1) dP) wf (wN 0) (L.map du) (sv::sv'::tail) acc Q
 |[],_,sv,sv',acc,_,hq=>by rw[gB,lcW];simpa using hq
 |a::L,h,sv,sv',acc,hl,hq=>by
  rw[cP,lcW];refine⟨rfl,?_⟩;show wf No (SV.d (aP a.1)::SV.d (aG a.2)::tail) _;rw[dM]at hl;refine h a (by simp) _ ?_;cases e:p a with
  |true=>rw[if_pos rfl];refine⟨by omega,CD L (λb hb=>h b<|by simp[hb]) _ _ _ (by rw[gA,mY];omega) ?_⟩;rw[List.filter_cons_of_pos e,cP]at hq;rw[mX];exact hq|false=>rw[if_neg<|by decide];refine CD L (λb hb=>h b<|by simp[hb]) _ _ _ (by omega) ?_;rw[List.filter_cons_of_neg (by rw[e];decide)]at hq;exact hq
theorem Mt{E:Ex->Prop}(hw:∀P:D->Prop,P (.tup xs)->w E ρ P)(h:Zby g zb E N xs ρ):bD (iS w) g zb E N ρ:=hw _ h
theorem Mu:Rd Cv Cz ZeZ:=by
 rintro _ E Q ⟨⟨⟨s,n⟩,x⟩,rfl,⟨h,ev,tx⟩,q⟩;dsimp only at h ev tx q;have n5:=h.n5;have n1:=h.n1;have hl:=jt s n;show Cz E _ [.d<|aR s n,.d x,.un,.un,.un,.un,.un,.un];unfold Cz;refine bO<|LP.set_by (d:=.int n) (ρ':=[.d<|aR s n,.d x,.d<|.int n,.un,.un,.un,.un,.un]) (by rfl) (λP hP=>?_) ?_
 .unfold aR
  walk_at "st";rw[bU,hl];exact hP
 dsimp only;have tk:=tx.k;have tz:=tx.z;have to:=tx.o;walk_at "nx";refine j0 tx.k (by decide) λt ht=>?_;cases x<;>cases ht<;>try exact q
 rename_i xs;obtain⟨hxl,hx⟩:=oF tk;walk_at "st";simp only[show eT "tuple" "tuple" = true from rfl,fg,dW,if_false];walk_at "st"
 match xs,hxl,hx,q,to,tz with
 |[],_,_,q,_,_=>walk_at "st";exact q
 |[u],_,_,q,_,_=>walk_at "st";exact q
 |u::v::w::r,_,_,q,_,_=>
  walk_at "st";rw[if_pos (by simp;omega)];exact q
 |[u,v],_,hx,q,to,tz=>
 have ou:=to u v rfl;have hu:=hx u (by simp);have hv:=hx v (by simp);have zv:dL 115 v=true:=by rw[dL,dY,dY,c9,c9]at tz;exact tz.2.1
 walk_at "st";rw[if_neg<|by simp];replace q:Q (.bl (if ef u (.str "above")=true then sJ s n v else ef u (.str "not")&&iD s n v)):=q;refine⟨_,rfl,j0 hu (by decide) λt ht=>?_⟩
 by_cases hs:∃a,u=.str a
 rotate_left
 .have e1:=GO (t:= "above") hu λa e=>hs ⟨a,e⟩
  have e2:=GO (t:= "not") hu λa e=>hs ⟨a,e⟩;rw[e1,e2]at q;have:eT t "str" = false:=by cases u<;>cases ht<;>first|rfl|exact Ng ⟨_,rfl⟩ hs
  rw[this];walk_at "st";exact q
 obtain⟨a,rfl⟩:=hs;cases ht;rw[show eT "str" "str" = true from rfl];walk_at "st";rw[tR,tR]at q;have nA:("not" : Str)≠ "above" :=by decide +kernel
 by_cases hn:a = "not"
 .rw[hn,decide_eq_false nA,Nj rfl]at q
  refine bO<|g9 (b:=true) (λP hP=>?_) (λ_=>?_) λe=>nomatch e
  .walk_at "st"
   exact⟨_,rfl,g0 ou (by decide +kernel) (by rw[if_neg<|by decide,tR,Nj hn];exact hP)⟩
  replace q:Q (.bl<|iD s n v):=q;unfold iD at q;cases hR:fZ n v with
  |false=>
   rw[hR]at q;refine bO<|g9 (b:=true) (λP hP=>?_) (λ_=>q) λe=>nomatch e;walk_at "st";refine⟨_,rfl,Bl hv ?_⟩;rw[hR];exact hP
  |true=>
   rw[hR]at q;obtain⟨r,rfl,hrl⟩:=tG hR;have hrl:r.length=n:=by exact_mod_cast hrl
   have sz:=ZcK.mp zv;rw[n8]at q;have eF:(r.filter λy=>decide (y.num≠0))=[]↔r=List.replicate n 0:=by
    rw[List.filter_eq_nil_iff];constructor
    .intro z
     refine List.eq_replicate_iff.mpr ⟨hrl,λy hy=>?_⟩;have:=z y hy;simpa using this
    .intro z y hy
     rw[z]at hy;rw[List.eq_of_mem_replicate hy];decide
   refine bO<|g9 (b:=decide (r=List.replicate n 0)) (λP hP=>?_) (λe=>?_) λe=>?_
   .walk_at "st"
    refine⟨_,rfl,Bl hv ?_⟩;rw[hR];walk_at "st";refine⟨_,rfl,?_⟩;unfold aG;walk_at "st";refine vB (g:=aP) (p:=λy:Rat=>decide (y.num≠0)) r (λy hy P hP=>?_) .un [] (f7 (by rw[hrl];simp;omega)) ?_
    .walk_at "st"
     refine⟨_,rfl,?_⟩;walk_at "st";have e:(!y.num==0)=decide (y.num≠0):=by by_cases z:y.num=0<;>simp[z]
     rw[e];exact hP
    .refine⟨by decide,g0 (rZ λx hx=>?_) (by decide) ?_⟩
     .rw[dJ]at hx
      obtain⟨y,_,rfl⟩:=YbL.mp hx;exact pQ _ _
     .rw[dJ,if_neg<|by decide]
      cases hF:r.filter λy=>decide (y.num≠0) with
      |nil=>rw[Nj<|eF.mp hF]at hP;exact hP
      |cons a l=>rw[decide_eq_false λz=>by have:=eF.mpr z;rw[hF]at this;cases this]at hP;exact hP
   .rw[e]at q;exact q
   .rw[e]at q
    walk_at "st";refine⟨_,rfl,_,rfl,L7 h hrl sz ⟨_,rfl,trivial,?_⟩⟩;show Q (.bl<|decide ((sH s n r r).num<=0));rw[GD];exact q
 refine bO<|g9 (b:=false) (λP hP=>?_) (λe=>nomatch e) λ_=>?_
 .walk_at "st"
  exact⟨_,rfl,g0 ou (by decide +kernel) (by rw[if_neg<|by decide,tR,decide_eq_false hn];exact hP)⟩
 dsimp only;rw[decide_eq_false hn]at q
 by_cases hA:a = "above"
 rotate_left
 .rw[decide_eq_false hA]at q
  refine bO<|g9 (b:=true) (λP hP=>?_) (λ_=>q) λe=>nomatch e;walk_at "st";exact⟨_,rfl,g0 ou (by decide +kernel) (by rw[if_pos rfl,tR,decide_eq_false hA];exact hP)⟩
 rw[Nj hA]at q;replace q:Q (.bl<|sJ s n v):=q;unfold sJ at q;have c1:∀P:Bool->Prop,(mU s n v=false->P true)->(∀ps:List Pr,v=cE ps->mU s n v=true->P (!decide (ps.length=n)))->dI (wT<|w2 (gEq true) (w2 gIx (wN 1)<|wC<|D.int 0)<|wC<|D.str<|Str.ofString "above") (dI (bH<|wT<|wF wr<|aC (wN 0)<|aC (w2 gIx (wN 1)<|wC<|D.int 1) aA)<|wT<|w2 (gEq true) (wB bI<|aC (w2 gIx (wN 1)<|wC<|D.int 1) aA)<|wN 2) E [.d<|aR s n,.d<|.tup [.str a,v],.d<|.int n,.un,.un,.un,.un,.un] P:=λP h1 h2=>by
  walk_at "st";refine⟨_,rfl,g0 ou (by decide +kernel) ?_⟩;rw[if_pos rfl,tR,Nj hA];walk_at "st";refine⟨_,rfl,Lc h ev hv zv Fits.k40 ?_⟩;cases hG:mU s n v with
  |false=>walk_at "st";exact h1 hG
  |true=>
   obtain⟨ps,rfl,l10,hp⟩:=CA hG;walk_at "st";refine⟨_,rfl,?_⟩;have:=h2 ps rfl hG;unfold cE;walk_at "st";rw[bU,show((ps.length:Int)==(n:Int))=decide (ps.length=n) by rw[jf];simp;omega];exact this
 cases hG:mU s n v with
 |false=>
  rw[hG]at q;exact bO<|g9 (b:=true) (λP hP=>c1 P (λ_=>hP) λps _ e=>by rw[hG]at e;cases e) (λ_=>q) λe=>nomatch e
 |true=>
 rw[hG]at q;obtain⟨ps,rfl,l10,hp⟩:=CA hG;rw[qH]at q;have P:=yX zv λp hp'=>(hp p hp').1
 by_cases hln:ps.length=n
 rotate_left
 .rw[decide_eq_false hln]at q
  exact bO<|g9 (b:=true) (λP hP=>c1 P (λe=>by rw [hG]at e;cases e) λps' e _=>by
   have:ps'=ps:=by rw[<-qH ps',<-e,qH]
   rw[this,decide_eq_false hln];exact hP) (λ_=>q) λe=>nomatch e
 rw[Nj hln]at q;refine bO<|g9 (b:=false) (λP hP=>c1 P (λe=>by rw [hG]at e;cases e) λps' e _=>by
   have:ps'=ps:=by rw[<-qH ps',<-e,qH]
   rw[this,Nj hln];exact hP) (λe=>nomatch e) λ_=>?_
 clear c1;dsimp only;have hps:∀p∈ps,p.2.length=n:=λp hp'=>(hp p hp').1;have eA:(ps.filter λp=>decide (p.1.num<0))=[]↔(ps.all λp=>decide (0<p.1))=true:=by
  rw[List.filter_eq_nil_iff,Ybc];refine forall_congr' λp=>forall_congr' λhp'=>?_;have s1:=(ZkJ (q:=p.1)).2;have p0:=(hp p hp').2;rw[Nh,Nh];constructor<;>intro z<;>grind
 refine bO<|g9 (b:=!ps.all λp=>decide (0<p.1)) (λP' hP=>?_) (λe=>?_) λe=>?_
 .walk_at "st"
  refine⟨_,rfl,?_⟩;unfold cE;walk_at "st";refine CD (p:=λp=>decide (p.1.num<0)) ps (λp hp' P hP=>?_) .un .un [] (f7 (by simp;omega)) ?_
  .walk_at "st"
   exact⟨_,rfl,trivial,hP⟩
  refine⟨by decide,g0 (rZ λx hx=>?_) (by decide) ?_⟩
  .rw[dJ]at hx
   obtain⟨y,_,rfl⟩:=YbL.mp hx;exact pQ _ _
  rw[dJ,if_pos rfl];cases hF:ps.filter λp=>decide (p.1.num<0) with
  |nil=>rw[eA.mp hF]at hP;exact hP
  |cons a l=>
   have:(ps.all λp=>decide (0<p.1))=false:=by
    cases z:ps.all λp=>decide (0<p.1) with
    |false=>rfl
    |true=>have:=eA.mpr z;rw[hF]at this;cases this
   rw[this]at hP;exact hP
 .have:(ps.all λp=>decide (0<p.1))=false:=by simpa using e
  rw[this]at q;exact q
 have ha:(ps.all λp=>decide (0<p.1))=true:=by simpa using e
 rw[ha]at q;replace q:Q (.bl<|y8 ps n):=q;dsimp only;refine bO<|own_by (xs:=[]) (ρ':=[.d<|aR s n,.d<|.tup [.str a,cE ps],.d<|.int n,.ow [],.un,.un,.un,.un]) rfl (λP h=>⟨by decide,h⟩) ?_;dsimp only;refine bO ?_;simp only[bG];refine yI (xs:=ps.map du) (λP hP=>⟨_,rfl,hP⟩) ?_;refine qF (λds ρ=>∃(F L:List Pr) (s4 s5 s6 s7:SV),ds=L.map du/\F++L=ps/\ρ=[.d<|aR s n,.d<|.tup [.str a,cE ps],.d<|.int n,.ow<|(F.map λp=>aZ<|iG p.2),s4,s5,s6,s7]) ?_ ?_ _ _ ⟨[],ps,_,_,_,_,rfl,rfl,rfl⟩
 rotate_left
 .rintro _ ⟨F,L,s4,s5,s6,s7,e,eF,rfl⟩
  cases L with
  |cons p L=>cases e
  |nil=>
  rw[qK]at eF;subst eF;dsimp only;refine pub_by (ρ':=[.d<|aR s n,.d<|.tup [.str a,cE F],.d<|.int n,.d<|.lst<|F.map λp=>aZ<|iG p.2,s4,s5,s6,s7]) rfl ?_;walk_at "st";have hr:∀r∈F.map (·.2),r.length=n/\∀y∈r,Sz 115 y:=λr hr'=>by
   obtain⟨p,hp',rfl⟩:=YbL.mp hr';exact⟨(P p hp').l,(P p hp').r⟩
  have hl2:(F.map (·.2)).length=n:=by rw[bU];exact hln
  refine⟨(n,(F.map (·.2)).map iG),?_,⟨n1,n5,GN n5 hl2 hr⟩,λd hd=>?_⟩
  .unfold fN
   dsimp only;rw[List.map_map,List.map_map];rfl
  obtain⟨k,rfl,hk⟩:=hd;dsimp only at hk;walk_at "st";have e:((k:Int)==(n:Int))=y8 F n:=by
   unfold y8;rw[jf,Nh,Ms n5 hl2 hr,<-hk];simp;omega
  rw[e];exact q
 .rintro d ds _ ⟨F,L,s4,s5,s6,s7,e,eF,rfl⟩ nx hnx
  cases L with
  |nil=>cases e
  |cons p L=>
  rw[cP]at e;injection e with e1 e2
  subst e1 e2;have mem:p∈ps:=by rw[<-eF];simp
  have Pp:=P p mem;have fl:F.length<n:=by have:=congrArg List.length eF;simp at this;omega
  refine⟨rfl,?_⟩;simp only[cJ,dP,gN,List.set_cons_succ,List.set_cons_zero];refine bO<|LP.set_by (d:=.int 1) (ρ':=[.d<|aR s n,.d<|.tup [.str a,cE ps],.d<|.int n,.ow<|(F.map λp=>aZ<|iG p.2),.d<|aP p.1,.d<|aG p.2,.d<|.int 1,s7]) (by rfl) (λP h=>h) ?_;dsimp only;refine bO ?_;refine Mt (xs:=p.2.map aP) (λP hP=>hP) ?_;refine qF (λds ρ=>∃(A B:List Rat) (s7:SV),ds=B.map aP/\A++B=p.2/\ρ=[.d<|aR s n,.d<|.tup [.str a,cE ps],.d<|.int n,.ow<|(F.map λp=>aZ<|iG p.2),.d<|aP p.1,.d<|aG p.2,.d<|.int<|jc A 1,s7]) ?_ ?_ _ _ ⟨[],p.2,_,rfl,rfl,rfl⟩
  .rintro d ds _ ⟨A,B,s7,e,eB,rfl⟩ nx2 hnx2
   cases B with
   |nil=>cases e
   |cons y B=>
   rw[cP]at e;injection e with e1 e2
   subst e1 e2;show aQ _ _ _ _ [.d<|aR s n,.d<|.tup [.str a,cE ps],.d<|.int n,.ow<|(F.map λp=>aZ<|iG p.2),.d<|aP p.1,.d<|aG p.2,.d<|.int<|jc A 1,.d<|aP y];have my:y∈p.2:=by rw[<-eB];simp
   have bA:=ze (c:=115) A (b:=1) (a:=1) (by decide) λz hz=>Pp.r z (by rw[<-eB];simp[hz]);have lA:A.length<=5:=by have:=congrArg List.length eB;simp at this;have:=Pp.l;omega
   refine LP.set_by (d:=.int<|jc (A++[y]) 1) (ρ':=[.d<|aR s n,.d<|.tup [.str a,cE ps],.d<|.int n,.ow<|(F.map λp=>aZ<|iG p.2),.d<|aP p.1,.d<|aG p.2,.d<|.int<|jc (A++[y]) 1,.d<|aP y]) (by rfl) (λP' hP=>?_)<|hnx2 _ ⟨A++[y],B,_,rfl,by rw[mX];exact eB,rfl⟩;unfold aP;walk_at "st";refine⟨_,rfl,⟨oM bA<|by omega,((Pp.r y my).bd<|by decide).2⟩,?_⟩;unfold jc at hP ⊢;rw[List.foldl_append]at hP;exact hP
  rintro _ ⟨A,B,s7,e,eB,rfl⟩;cases B with
  |cons y B=>cases e
  |nil=>
  rw[qK]at eB;subst eB;dsimp only;have bA:=ze (c:=115) p.2 (b:=1) (a:=1) (by decide) Pp.r;rw[Pp.l]at bA;refine B9 (xs:=F.map λp=>aZ<|iG p.2) (d:=aZ<|iG p.2) rfl (by rw[bU];unfold aL;omega) rfl (λP' hP=>?_)<|hnx _ ⟨F++[p],L,_,_,_,_,rfl,by rw[mX];exact eF,by rw[oR];rfl⟩;unfold aG;walk_at "st";refine iB (g:=aP) (f:=λy=>.int<|y.num*(jc p.2 1).fdiv y.den) p.2 (λy hy Q hq=>?_) .un [] (by rw[Pp.l];simp[aL];omega) ?_
  .have by':=(Pp.r y hy).bd (by decide)
   unfold aP;walk_at "st";refine⟨_,rfl,_,rfl,⟨by have:=y.den_nz;omega,by'.2⟩,⟨by'.1,?_⟩,hq⟩;exact jH (zP _ _)<|oM bA (by omega)
  .rw[dJ]
   unfold aZ iG at hP;rw[List.map_map]at hP;exact hP
section
structure Rp(x:D)(d b:Nat):Prop where
 ex:∃p,hJ x=some p/\p.showable=true/\p.depth<=d/\p.leavesShort 60=true/\p.bulk<=b
structure Rps(xs:List D)(d b:Nat):Prop where
 ex:∃ps,fM xs=some ps/\PyData.showableAll ps=true/\PyData.depthAll ps<=d/\PyData.leavesShortAll 60 ps=true/\PyData.bulkAll ps<=b
theorem Rps.nil{d:Nat}:Rps [] d 0:=⟨[],rfl,rfl,by simp[PyData.depthAll],rfl,by simp[PyData.bulkAll]⟩
theorem Rps.cons{x:D}{d:Nat}(h:Rp x d b)(g:Rps xs d c):Rps (x::xs) d (b+c+1):=by obtain⟨p,a1,a2,a3,a4,a5⟩:=h.ex;obtain⟨ps,b1,b2,b3,b4,b5⟩:=g.ex;exact⟨p::ps,by rw[fM,a1,b1],by rw[PyData.showableAll,a2,b2];rfl,by rw[PyData.depthAll];omega,by rw[PyData.leavesShortAll,a4,b4];rfl,by rw[PyData.bulkAll];omega⟩
theorem Rps.tup{xs:List D}{d b:Nat}(h:Rps xs d b):Rp (.tup xs) (d+1) (b+4):=by obtain⟨ps,e1,e2,e3,e4,e5⟩:=h.ex;exact⟨.tuple ps,by rw[hJ,e1];rfl,by rw[PyData.showable];exact e2,by rw[PyData.depth];omega,by rw[PyData.leavesShort];exact e4,by rw[PyData.bulk];omega⟩
theorem Rps.lst{xs:List D}{d b:Nat}(h:Rps xs d b):Rp (.lst xs) (d+1) (b+4):=by obtain⟨ps,e1,e2,e3,e4,e5⟩:=h.ex;exact⟨.list ps,by rw[hJ,e1];rfl,by rw[PyData.showable];exact e2,by rw[PyData.depth];omega,by rw[PyData.leavesShort];exact e4,by rw[PyData.bulk];omega⟩
theorem Rp.up{x:D}{d d' b':Nat}(h:Rp x d b)(h1:d<=d')(h2:b<=b'):Rp x d' b':=by obtain⟨p,a1,a2,a3,a4,a5⟩:=h.ex;exact⟨p,a1,a2,by omega,a4,by omega⟩
theorem Rp.fx{x:D}(h:fx x ws=true):Rp x (ws.length+1) (Bw ws):=by obtain⟨p,h1,h2,h3,h4,h5⟩:=vD x ws h;exact⟨p,h1,h2,h3,h4,h5⟩
theorem Rp.str{t:Str}(h:t.cps.size<=5/\(t.cps.toList.all λc=>decide (c<16^8))=true):Rp (.str t) 1 10:=by exact⟨_,rfl,by simp[PyData.showable],by simp[PyData.depth],by rw[PyData.leavesShort];exact h.2,by rw[PyData.bulk];omega⟩
theorem Rp.rep{x:D}{d:Nat}(h:Rp x d b)(hd:d<=20)(hb:62*b+60<=sizeLine)(q:Q (.str<|Bj x)):Zjx [x] Q:=by obtain⟨p,h1,h2,h3,h4,h5⟩:=h.ex;unfold Bj at q;rw[h1]at q;refine⟨x,p,rfl,h1,h2,by omega,?_,q⟩;have:=PyData.shown_le_bulk 60 (by decide) p h4;have:(60+2)*p.bulk<=62*b:=xg _ h5;omega
theorem Th.rp(h:Th y):Rp y 6 126109:=by
 rcases h with h|h
 exact(Rp.fx h).up (by decide) (by decide);exact(Rp.fx h).up (by decide) (by decide)
theorem Ty.rp{y:D}(h:Ty y):Rp y 6 126109:=by
 rcases h with h|h
 exact Th.rp h;exact(Rp.fx h).up (by decide) (by decide)
theorem Ty.kd{y:D}(h:Ty y):kd y=true/\dL 115 y=true:=by
 rcases h with h|h
 exact Th.kd h;exact yG y _ (by decide) h
theorem t3{t:Str}(h:t = "above" \/t = "not" \/t = "Above"):(t.cps.size<=5/\(t.cps.toList.all λc=>decide (c<16^8))=true)/\dg (.str t) 60=true:=by rcases h with rfl|rfl|rfl<;>decide +kernel
theorem Th2.rp{x:D}(h:Th2 x):Rp x 7 126200:=by
 rcases h with rfl|rfl|rfl|rfl|rfl|⟨t,y,ht,hy,h⟩
 exact(Rp.fx (ws:=[])<|by decide +kernel).up (by decide) (by decide);exact(Rp.fx (ws:=[1])<|by decide +kernel).up (by decide) (by decide);exact(Rp.fx (ws:=[])<|by decide +kernel).up (by decide) (by decide);exact(Rp.fx (ws:=[])<|by decide +kernel).up (by decide) (by decide);exact(Rps.cons (Rp.str (t3<|.inl rfl).1) .nil).tup.up (by decide) (by decide);have s1:=(Rp.str (t3 ht).1).up (d':=6) (b':=10) (by decide)<|cB _;have y1:=hy.rp;rcases h with rfl|rfl|rfl|⟨rfl,_⟩
 exact(Rps.cons s1<|Rps.cons y1 .nil).tup.up (by decide) (by decide);exact(Rps.cons s1<|Rps.cons y1 .nil).lst.up (by decide) (by decide);exact(Rps.cons s1<|Rps.cons y1<|Rps.cons ((Rp.fx (x:=.int 0) (ws:=[])<|by decide +kernel).up (d':=6) (b':=10) (by decide)<|by decide) .nil).tup.up (by decide) (by decide);exact(Rps.cons y1<|Rps.cons s1 .nil).tup.up (by decide) (by decide)
theorem zf(h:∀x∈xs,dL 115 x=true):dL 115 (.tup xs)=true:=by rw[dL,vn];exact h
theorem Th2.tx{x:D}(h:Th2 x):Tx x:=by
 rcases h with rfl|rfl|rfl|rfl|rfl|⟨t,y,ht,hy,h⟩
 exact⟨by rw[LP.kd],by rw[dL]<;>simp,λ_ _ e=>nomatch e⟩;exact⟨r8 (by simp)<|by simp,zf<|by simp,λ_ _ e=>nomatch e⟩;exact⟨by rw[LP.kd],by rw[dL]<;>simp,λ_ _ e=>nomatch e⟩;exact⟨by rw[LP.kd],by decide +kernel,λ_ _ e=>nomatch e⟩;exact⟨by decide +kernel,by decide +kernel,λ_ _ e=>nomatch e⟩;have ks:LP.kd (.str t)=true:=by rw[LP.kd]
 have zs:dL 115 (.str t)=true:=by rw[dL]<;>simp
 have yk:=hy.kd;rcases h with rfl|rfl|rfl|⟨rfl,oy⟩
 exact⟨r8 (by simp)<|by simp[ks,yk.1],zf<|by simp[zs,yk.2],λa b e=>by injection e with e;injection e with e;rw[<-e];exact(t3 ht).2⟩;exact⟨IM (by simp)<|by simp[ks,yk.1],by rw[dL,vn];simp[zs,yk.2],λ_ _ e=>nomatch e⟩;exact⟨r8 (by simp)<|by simp[ks,yk.1,show LP.kd (.int 0)=true by rw[LP.kd]],zf<|by simp[zs,yk.2,show dL 115 (.int 0)=true by decide +kernel],λ_ _ e=>nomatch e⟩;exact⟨r8 (by simp)<|by simp[ks,yk.1],zf<|by simp[zs,yk.2],λa b e=>by injection e with e;injection e with e;rw[<-e];exact oy⟩
end
theorem Mv:Rd sM GB ZeY:=by
 rintro _ E Q ⟨⟨⟨s,n⟩,x⟩,rfl,⟨h,he,hT⟩,q⟩;dsimp only at h he hT q;have tx:=hT.tx;unfold GB;show aF _ _ _ _ [.d<|bS s,.d<|aR s n,.d x,.un,.un];refine bO<|LP.set_by (d:=.str<|Bj x) rfl (λP hP=>?_) ?_
 walk_at "st";exact hT.rp.rep (by decide) (by decide) hP;dsimp only[List.set_cons_succ,List.set_cons_zero];refine bO<|LP.set_by (d:=.bl<|pG s n x) rfl (λP hP=>?_) ?_
 walk_at "st";refine⟨((s,n),x),rfl,⟨h,tx⟩,?_⟩;dsimp only;unfold sK;rw[if_pos he];exact hP;dsimp only[List.set_cons_succ,List.set_cons_zero];walk_at "st";refine j0 (by rw[kd]) (by decide) λt ht=>?_;cases ht;walk_at "st";rw[if_pos<|by decide];refine⟨((s,n),x),rfl,⟨h,he,tx⟩,g0 rfl rfl ?_⟩;dsimp only;rw[if_neg<|by simp,show ef (.bl<|pG s n x) (.bl<|pG s n x)=true from AO (n:=1) rfl];walk_at "st";exact hT.rp.rep (by decide) (by decide) ⟨_,_,rfl,rfl,by simpa using q⟩
section
variable{x:D}
theorem zg{E:Ex->Prop}(h:IsSl s n)(h0:s.reverse=s)(h1:Th2 x)(q:Q (.bl true)):sM [bS s,aR s n,x] E Q:=⟨((s,n),x),rfl,⟨h,h0,h1⟩,q⟩
theorem GP{ps:List Pr}(h:ps.length<=5)(h5:n<=5)(hp:∀p∈ps,Pq 112 n p):Ty (cE ps):=.inl<|wu (by omega) h5 λp hp'=>(hp p hp').up (by decide)
theorem zj(h5:r.length<=5)(hz:∀y∈r,Sz 115 y):Ty (aG r):=.inr<|vF (by decide) (by omega) hz
theorem ab(hy:Ty y):Th2 (.tup [.str "above",y]):=.inr<|.inr (.inr<|.inr<|.inr ⟨_,y,.inl rfl,hy,.inl rfl⟩)
theorem no(hy:Ty y):Th2 (.tup [.str "not",y]):=.inr<|.inr (.inr<|.inr<|.inr ⟨_,y,.inr<|.inl rfl,hy,.inl rfl⟩)
end
theorem Mw:Rd wK zc GC:=by
 rintro _ E Q ⟨xs,rfl,hx,q⟩;dsimp only at hx q;show zc E _ [.d<|.scr<|xs.map .int,.un,.un,.un,.un,.un,.un,.un,.un,.un];generalize hS:D.scr (xs.map .int)=S;unfold zc;have sl0:IsSl [0] 1:=⟨rfl,by decide,by decide,by decide⟩;have sl2:IsSl [2] 1:=⟨rfl,by decide,by decide,by decide⟩;have sl3:IsSl [1,2,3] 2:=⟨rfl,by decide,by decide,by decide⟩;refine bO<|g9 (b:=false) (vH (b:=false) (c:=false) (Ca (x:=.tup [.str "even"]) (y:=.tup [.str "even"]) (λP h=>?_) (λP h=>⟨by decide,h⟩)<|λP h=>g0 (Cb _) (Cb _) ?_)<|λP h=>?_) (λe=>nomatch e) λ_=>?_
 .walk_at "st"
  exact⟨by decide,(⟨(([1,2,3],2),.non),rfl,⟨sl3,(Th2.tx<|.inl rfl)⟩,h⟩:wJ [bS [1,2,3],.non] _ _)⟩
 .rw[if_pos rfl,AO<|Cb 1];exact h
 .walk_at "st"
  refine⟨by decide,by decide,by decide,by decide,by decide,by decide,zg (s:=[0]) sl0 rfl (no (y:=aG [1])<|.inr<|by decide +kernel) ?_⟩;walk_at "st";exact h
 dsimp only;refine bO<|g9 (b:=false) (λP h=>?_) (λe=>nomatch e) λ_=>?_
 .walk_at "st"
  refine⟨by decide,by decide,by decide,by decide,by decide,zg (s:=[0]) sl0 rfl (ab (y:=cE [])<|GP (n:=1) (by decide) (by decide) λ_ h=>nomatch h) ?_⟩;walk_at "st";exact h
 dsimp only;refine bO<|g9 (b:=false) (λP h=>?_) (λe=>nomatch e) λ_=>?_
 .walk_at "st"
  refine⟨by decide,by decide,by decide,by decide,by decide,by decide,by decide,by decide,by decide,zg (s:=[2]) sl2 rfl (ab (y:=cE [(2,[1])])<|.inl<|.inl<|by decide +kernel) ?_⟩;walk_at "st";exact h
 dsimp only;refine bO ?_;have ec:∃cs:List Int,bE (xs.map D.int) (some 1) (some 5)=cs.map D.int/\cs.length<=63:=by
  refine⟨bE xs (some 1)<|some 5,?_,?_⟩
  .unfold bE
   rw[bU,jI,List.map_drop]
  .unfold bE
   rw[jg,mW];omega
 obtain⟨cs,ec,hcs⟩:=ec;simp only[bG];refine yI (xs:=(xs.getD 0 0::cs).map D.int) (λP h=>?_) ?_
 .subst hS
  walk_at "st";refine JC (i:=0) ?_;walk_at "st";rw[ec];exact⟨by decide,by simp[aL];omega,h⟩
 clear ec hcs;refine Bg (λρ=>∃s1 s2 s3 s4 s5 s6 s7 s8 s9,ρ=[.d S,s1,s2,s3,s4,s5,s6,s7,s8,s9]) _ ?_ ?_ _ ⟨_,_,_,_,_,_,_,_,_,rfl⟩
 rotate_left
 .rintro _ ⟨s1,s2,s3,s4,s5,s6,s7,s8,s9,rfl⟩
  exact q
 rintro d hd _ ⟨s1,s2,s3,s4,s5,s6,s7,s8,s9,rfl⟩ nx hnx;obtain⟨c,_,rfl⟩:=YbL.mp hd;clear hd;show aF _ _ _ _ [.d S,.d<|.int c,s2,s3,s4,s5,s6,s7,s8,s9];refine bO<|LP.set_by (d:=.pen) (ρ':=[.d S,.d<|.int c,.d .pen,s3,s4,s5,s6,s7,s8,s9]) (by rfl) (λP h=>?_) ?_
 .walk_at "st"
  exact JD h
 dsimp only;refine bO<|mV (λd=>∃s n,d=bS s/\IsSl s n/\s.reverse=s) (λP h=>?_) ?_
 .walk_at "st"
  exact La λs n hs he=>h _ ⟨s,n,rfl,hs,he⟩
 rintro _ ⟨s,n,rfl,hs,he⟩;have n1:=hs.n1;have n5:=hs.n5;have htl:=jt s n;dsimp only[List.set_cons_succ,List.set_cons_zero];refine bO<|LP.set_by (d:=aR s n) (ρ':=[.d S,.d<|.int c,.d .pen,.d<|bS s,.d<|aR s n,s5,s6,s7,s8,s9]) (by rfl) (λP h=>?_) ?_
 .walk_at "st"
  exact JY hs h
 dsimp only;refine bO<|LP.set_by (d:=.int n) (ρ':=[.d S,.d<|.int c,.d .pen,.d<|bS s,.d<|aR s n,.d<|.int n,s6,s7,s8,s9]) (by rfl) (λP h=>?_) ?_
 .unfold aR
  walk_at "st";rw[bU,htl];exact h
 dsimp only;refine bO<|mV (λd=>∃ps:List Pr,d=cE ps/\ps.length<=5/\∀p∈ps,Pq 112 n p) (λP h=>?_) ?_
 .walk_at "st"
  exact Ld hs λm h1 h2=>GK hs he h1 h2 λps hp=>h _ ⟨ps,rfl,by rw[hp.len];omega,hp.pq⟩
 rintro _ ⟨ps,rfl,hl5,hpq⟩;have tyS:=GP hl5 n5 hpq;dsimp only[List.set_cons_succ,List.set_cons_zero];refine bO<|mV (λd=>∃r:List Rat,d=aG r/\r.length=n/\∀y∈r,Sz 112 y) (λP h=>?_) ?_
 .walk_at "st"
  exact Ep n5 λr h1 h2=>h _ ⟨r,rfl,h1,λy hy=>(h2 y hy).mono<|by decide⟩
 rintro _ ⟨r0,rfl,hr0,hz0⟩;dsimp only[List.set_cons_succ,List.set_cons_zero];refine qE (λρ=>∃r:List Rat,r.length=n/\(∀y∈r,Sz 112 y)/\ρ=[.d S,.d<|.int c,.d .pen,.d<|bS s,.d<|aR s n,.d<|.int n,.d<|cE ps,.d<|aG r,s8,s9]) (λnx' hnx'=>?_) ?_
 .refine g9 (b:=!decide (sL s n)) (λP h=>?_) (λe=>?_) λe=>hnx' _ ⟨r0,hr0,hz0,rfl⟩
  .walk_at "st"
   exact⟨(s,n),rfl,hs,h⟩
  .have nd:¬sL s n:=by simpa using e
   refine mV (λd=>∃r:List Rat,d=aG r/\r.length=n/\∀y∈r,Sz 112 y) (λP h=>?_) ?_
   .walk_at "st"
    exact⟨(s,n),rfl,⟨hs,he,nd⟩,h⟩
   rintro _ ⟨r,rfl,h1,h2⟩;exact hnx' _ ⟨r,h1,h2,rfl⟩
 rintro _ ⟨r,hr,hz,rfl⟩;have tyR:Ty (aG r):=zj (by omega) λy hy=>(hz y hy).mono (by decide);have e0:D.tup ((List.replicate ((n:Int)).toNat [D.tup [.int 0,.int 1]]).flatten)=aG (List.replicate n 0):=by rw[iq,xo];unfold aG;rw[sV];rfl
 refine bO<|mV (λd=>∃xs,d=.lst xs/\xs.length=4/\∀x∈xs,Th2 x) (λP h=>?_) ?_
 .walk_at "st"
  refine⟨by decide,by decide,Ep n5 λr2 h1 h2=>?_⟩;rw[iq]at e0;refine⟨by decide,by decide,by decide,by omega,by omega,f7<|by omega,by decide,by decide,h _ ⟨_,rfl,rfl,λx hx=>?_⟩⟩;simp only[Yam,d7,or_false]at hx;rcases hx with rfl|rfl|rfl|rfl
  .exact ab tyS
  .exact no tyR
  .exact no<|zj (by omega) λy hy=>(h2 y hy).mono (by decide)
  .rw[e0]
   exact no (zj (by simp;omega) λy hy=>by rw[List.eq_of_mem_replicate hy];exact Sz.int (n:=115) 0 (by decide)<|by decide)
 rintro _ ⟨x1,rfl,hl1,hx1⟩;dsimp only[List.set_cons_succ,List.set_cons_zero];refine bO<|mV (λd=>∃xs,d=.lst xs/\xs.length=7/\∀x∈xs,Th2 x) (λP h=>?_) ?_
 .walk_at "st"
  refine Le n1 n5 (by omega) (λp hp=>(hpq p hp).up<|by decide) λd hd=>⟨by decide,FG (by omega) (by omega) (λy hy=>(hz y hy).mono<|by decide) λd2 hd2=>⟨by decide,by decide,by decide,f7 (by simp;omega),h _ ⟨_,rfl,by simp[hl1],λx hx=>?_⟩⟩⟩;rcases Yan.mp hx with hx|hx
  .exact hx1 x hx
  simp only[Yam,d7,or_false]at hx;rcases hx with rfl|rfl|rfl
  .exact ab<|.inl hd
  .exact no<|.inr hd2
  .exact no tyS
 rintro _ ⟨x2,rfl,hl2,hx2⟩;dsimp only[List.set_cons_succ,List.set_cons_zero];refine bO<|mV (λd=>∃xs,d=.lst xs/\xs.length=12/\∀x∈xs,Th2 x) (λP h=>?_) ?_
 .walk_at "st"
  refine⟨by decide,by decide,by decide,by decide,by decide,by decide,f7 (by simp;omega),h _ ⟨_,rfl,by simp[hl2],λx hx=>?_⟩⟩;rcases Yan.mp hx with hx|hx
  .exact hx2 x hx
  simp only[Yam,d7,or_false]at hx;rcases hx with rfl|rfl|rfl|rfl|rfl
  .exact .inr<|.inr (.inr<|.inr<|.inr ⟨_,_,.inl rfl,tyS,.inr<|.inl rfl⟩)
  .exact .inr<|.inr (.inr<|.inr<|.inr ⟨_,_,.inl rfl,tyS,.inr<|.inr<|.inl rfl⟩)
  .exact .inr<|.inr (.inr<|.inr<|.inl rfl)
  .exact .inr<|.inr (.inr<|.inr<|.inr ⟨_,_,.inl rfl,tyS,.inr<|.inr<|.inr ⟨rfl,FT _⟩⟩)
  .exact ab tyR
 rintro _ ⟨x3,rfl,hl3,hx3⟩;dsimp only[List.set_cons_succ,List.set_cons_zero];refine Lq (λxs=>∀x∈xs,Th2 x) (λP h=>?_) λxs hxs=>?_
 .walk_at "st"
  refine⟨by decide,by decide,g6 (n:=n) n1 (by omega) λk hk=>GE n5 ⟨by decide,by decide,f7 (by simp;omega),h _ λx hx=>?_⟩⟩;rcases Yan.mp hx with hx|hx
  .exact hx3 x hx
  simp only[Yam,d7,or_false]at hx;rcases hx with rfl|rfl|rfl|rfl|rfl|rfl
  .exact .inl rfl
  .exact .inr<|.inl rfl
  .exact .inr<|.inr (.inr<|.inr<|.inr ⟨_,_,.inr<|.inr rfl,tyS,.inl rfl⟩)
  .refine no (zj (by rw[vI];omega) λy hy=>?_)
   unfold dS at hy;obtain⟨i,_,rfl⟩:=YbL.mp hy;split
   .exact Sz.int (n:=115) 1 (by decide) (by decide)
   .exact Sz.int (n:=115) 0 (by decide) (by decide)
  .exact .inr<|.inr (.inl rfl)
  .exact .inr<|.inr (.inr<|.inl rfl)
 refine Bg (λρ=>∃t9,ρ=[.d S,.d<|.int c,.d .pen,.d<|bS s,.d<|aR s n,.d<|.int n,.d<|cE ps,.d<|aG r,.d<|.lst x3,t9]) _ ?_ ?_ _ ⟨_,rfl⟩
 .rintro d hd _ ⟨t9,rfl⟩ nx2 hnx2
  show cH _ _ _ _ _ [.d S,.d<|.int c,.d .pen,.d<|bS s,.d<|aR s n,.d<|.int n,.d<|cE ps,.d<|aG r,.d<|.lst x3,.d d];walk_at "st";refine zg hs he (hxs d hd) ?_;walk_at "st";exact hnx2 _ ⟨_,rfl⟩
 .rintro _ ⟨t9,rfl⟩
  exact hnx _ ⟨_,_,_,_,_,_,_,_,_,rfl⟩
theorem Mx{a:Addr}{ns:List Int}(hl:ns.length<=63)(hO:pK H)(hS:SqL K H a (ns.map V.int)):gJ K wK [.ref a] H (λv _=>v=.bl true) λ_ _ _=>False:=by
 have rv:∀W:Wd,Reps K W (ns.map V.int) (ns.map D.int):=λW=>by
  clear hl hS;induction ns with
  |nil=>exact .nil|cons n ns ih=>exact .cons (.int n) ih
 have ok:WOk ⟨H,λ_=>False⟩ H:=⟨λ_ _ e=>e,λ_ e=>e.elim⟩;refine⟨[.scr<|ns.map .int],⟨H,λ_=>False⟩,ok,.cons (.scr ?_<|rv _) .nil,ns,rfl,hl,λv W' H' _ r=>?_⟩;rcases hS with(h|h)|h
 rcases hO a with z|⟨o,xs,z⟩
 rw[h]at z;cases z;rw[h]at z;cases z;exact .inl h;exact .inr h;cases r;rfl
def top(i:Nat):Stmt:=PySem.Challenge.pw_slanttables_k42_papers_of_being_above.main.body.getD i<|.Pass ⟨0,0,0,0⟩
structure Bs(K:Nd)(mg:Str->Option Value):Prop where
 aa:aV K mg "is_whole" (top 2)
 ab:aV K mg "is_within" (top 3)
 ac:aV K mg "are_within" (top 4)
 ad:aV K mg "common_divisor" (top 5)
 ae:aV K mg "is_share" (top 6)
 af:aV K mg "is_row_within" (top 7)
 ag:aV K mg "is_row" (top 8)
 ah:aV K mg "share_by" (top 9)
 ai:aV K mg "plus" (top 10)
 aj:aV K mg "minus" (top 11)
 ak:aV K mg "times" (top 12)
 al:aV K mg "by" (top 13)
 am:aV K mg "row_of" (top 14)
 an:aV K mg "row_by" (top 15)
 ao:aV K mg "row_less" (top 16)
 ap:aV K mg "sum_of_products" (top 17)
 aq:aV K mg "first_with" (top 19)
 ar:aV K mg "without_place" (top 20)
 as:aV K mg "cleared" (top 21)
 au:aV K mg "are_independent" (top 22)
 av:aV K mg "size_of" (top 38)
 aw:aV K mg "slants_good" (top 39)
 ax:aV K mg "need_slants" (top 40)
 ay:aV K mg "table_of" (top 41)
 az:aV K mg "turned_slants" (top 42)
 a0:aV K mg "row_good" (top 43)
 a1:aV K mg "share_rows" (top 44)
 a2:aV K mg "times_row" (top 45)
 a3:aV K mg "is_even" (top 48)
 a4:aV K mg "need_even" (top 49)
 a5:aV K mg "pair_at" (top 50)
 a6:aV K mg "is_weighed" (top 51)
 a7:aV K mg "left_by" (top 52)
 a8:aV K mg "squares_good" (top 53)
 a9:aV K mg "above_squares_good" (top 54)
 ba:aV K mg "not_above_good" (top 55)
 bb:aV K mg "above_good" (top 56)
 bc:aV K mg "_law_cell_at" (top 58)
 bd:aV K mg "_law_next" (top 59)
 be:aV K mg "_law_pen_of" (top 60)
 bf:aV K mg "_law_draw" (top 61)
 bg:aV K mg "_law_whole" (top 62)
 bh:aV K mg "_law_kind_of" (top 63)
 bi:aV K mg "_law_refused" (top 64)
 bj:aV K mg "_law_gcd" (top 65)
 bk:aV K mg "_law_share" (top 66)
 bl:aV K mg "_law_dot" (top 67)
 bm:aV K mg "_law_share_like" (top 68)
 bn:aV K mg "_law_row_like" (top 69)
 bo:aV K mg "_law_slants_of" (top 70)
 bp:aV K mg "_law_even_of" (top 71)
 bq:aV K mg "_law_table_of" (top 72)
 br:aV K mg "_law_taken" (top 73)
 bs:aV K mg "_law_number_of" (top 74)
 bt:aV K mg "_law_made" (top 75)
 bu:aV K mg "_law_unit" (top 76)
 bv:aV K mg "_law_row_of" (top 77)
 bw:aV K mg "_law_bent_row" (top 78)
 bx:aV K mg "_law_form" (top 79)
 bz:aV K mg "_law_are_squares" (top 80)
 b0:aV K mg "_law_steps" (top 81)
 b1:aV K mg "_law_strong_to" (top 82)
 b2:aV K mg "_law_bent_squares" (top 83)
 b3:aV K mg "_law_is_above" (top 84)
 b4:aV K mg "_law_row_down" (top 85)
 b5:aV K mg "_law_rank" (top 86)
 b6:aV K mg "_law_told" (top 87)
 b7:aV K mg "_law_is_paper" (top 88)
 b8:aV K mg "_law_right_of" (top 89)
 b9:aV K mg "law" (top 90)
 ca:mg "len" = none
 cb:mg "list" = none
 cd:mg "tuple" = none
 ce:mg "int" = none
 cf:mg "range" = none
 cg:mg "min" = none
 ch:mg "max" = none
 ci:mg "abs" = none
 cj:mg "zip" = none
 ck:mg "bool" = none
 cl:mg "isinstance" = none
 cm:mg "all" = none
 cn:mg "str" = none
 co:mg "ValueError" = none
 cp:CC K mg "NoLine"
 cq:CC K mg "NoNumber"
 cr:CC K mg "NoRow"
 cs:CC K mg "NoSlants"
 ct:CC K mg "NoText"
 cu:CC K mg "NotEven"
 cv:CC K mg "NotFull"
 cw:CC K mg "NotStrong"
 cx:CC K mg "TooGreat"
 xi:XI K LX MX
 cy:mg "enumerate" = none
 cz:CT K mg "NOUGHT" [(D.int<|0),(D.int<|1)]
 c0:CI mg "GREATEST_SIZE" (5)
 c1:CI mg "LEAST" (-50)
 c2:CI mg "MOST" (50)
 c3:XC K mg "NoSlants"
 c4:XC K mg "NotEven"
 c5:CI mg "MOST_SQUARES" (10)
 c6:XC K mg "NoRow"
 c7:XT K mg "SlantError" LX
 c8:mg "repr" = none
section
variable{w:World}(Z:Bs K mg)
include Z
theorem GQ:Fp P w K mg base 1 "_law_next" (Zid.take 1) vj:=cG JH Z.bd λsc hr hx hw=>aS (bV 0 (aY qx (aY de (aD 0) aH) aH) sc)<|aW (bK<|aY qx (aY de (aY de (aY eH (aD 0)<|aD 0)<|aY eH aH<|aD 0) aH) aH)
theorem hU:Fp P w K mg base 2 "_law_draw" (Zig.take 2) gv:=cG JJ Z.bf λsc hr hx hw=>aS (dF (dD (da hr.units) (bB u6 (aD 0) aH) aH) (aS (bV 2 (aY qx (bB u6 (aD 0) aH)<|aD 1) sc)<|aS (Dh 0 0<|aY nV (bB u6 (aD 0) aH)<|aD 1)<|aW<|bK<|aD 2) dE)<|aS (Dh 0 2<|aX (GQ Z) hr hx<|Za (aY de (aX (GQ Z) hr hx<|Za (bB u6 (aD 0) aH) aE) aH) aE) (aW<|bK<|aY qx (aY nV (bB u6 (aD 0) aH) aH)<|aD 1)
theorem GR:Fp P w K mg base 3 "_law_bent_row" (Ze1.take 2) wq:=cG Ln Z.bw λsc hr hx hw=>aS (bV 2 (aX (hU Z) hr hx<|Za (aD 0)<|Za (aY de (bZ d9 Z.ca Nm<|Za (aD 1) aE) aH) aE) sc)<|aS (bV 3 (PXL.px<|cL<|Za (bM<|Za aH<|Za aH aE)<|Za (bM<|Za aH<|Za aH aE)<|Za (bM<|Za aH<|Za (rT rV aH) aE)<|Za (bM<|Za fE<|Za aH aE)<|Za (bM<|Za aH<|Za aH aE)<|Za aH<|Za nS<|Za eG<|Za (PXL.px<|cL<|Za aH<|Za aH aE)<|Za (bM<|Za aH aE)<|Za (bM<|Za aH<|Za aH<|Za aH aE)<|Za (bM<|Za aH<|Za fE aE)<|Za (bM<|Za (aY Zp aH aH)<|Za aH aE) aE) sc) (aS (bV 3 (bB aK (aY de (aD 3)<|PXL.px<|cL<|Za (bM<|Za aH<|Za (aY Zp aH aH) aE)<|Za (bM<|Za aH<|Za aH aE)<|Za (bM<|Za eG<|Za aH aE)<|Za ve aE)<|aX (hU Z) hr hx<|Za (aD 0)<|Za aH aE) sc)<|aS (bV 4 (aY de (aY de (gK (aD 1) gX<|gc<|aD 2)<|bM<|Za (aD 3) aE)<|gK (aD 1) (gc<|aY de (aD 2) aH) gX) sc)<|aS (bV 5 (PXL.px<|cL<|Za (aD 4)<|Za (aD 4)<|Za (aD 4)<|Za (gK (aD 1) (gc aH) gX)<|Za (aY de (aD 1)<|bM<|Za (bM<|Za aH<|Za aH aE) aE)<|Za (PXL.px<|td tm Z.cb NF<|Za (aD 1) aE)<|Za (bM<|Za (aD 1) aE)<|Za (uX<|aD 1)<|Za nS<|Za (bM aE)<|Za aH<|Za ve aE) sc)<|aW<|bK<|bB aK (aD 5)<|aX (hU Z) hr hx<|Za (aD 0)<|Za aH aE)
theorem My:Fp P w K mg base 4 "_law_bent_squares" (Zc8.take 2) yV:=cG Lp Z.b2 λsc hr hx hw=>aS (dF (dD (da hr.units) (aD 1)<|PXL.px<|cL aE) (aW<|bK<|bB aK (PXL.px<|cL<|Za (PXL.px<|cL<|Za (bM<|Za (bM<|Za aH<|Za aH aE)<|Za (bM<|Za (bM<|Za aH<|Za aH aE) aE) aE) aE)<|Za (PXL.px<|cL<|Za (bM aE) aE)<|Za (bM aE)<|Za nS<|Za ve<|Za (PXL.px<|cL<|Za nS aE) aE)<|aX (hU Z) hr hx<|Za (aD 0)<|Za aH aE) dE)<|aS (bV 2 (aX (hU Z) hr hx<|Za (aD 0)<|Za (bZ d9 Z.ca Nm<|Za (aD 1) aE) aE) sc) (aS (Df (bB aK (aD 1)<|aD 2)<|kG rfl<|fQ (cA 3 sc)<|fQ (cA 4 sc) kF)<|aS (lI 5 (cL<|Za (bM<|Za aH<|Za aH aE)<|Za (bM<|Za (bB aK (aD 3) aH)<|Za (aY gY aH<|bB aK (aD 3) aH) aE)<|Za (bM<|Za (aY de (bB aK (aD 3) aH)<|bB aK (aD 3) aH)<|Za (bB aK (aD 3) aH) aE)<|Za aH<|Za nS<|Za (bM<|Za aH<|Za aH aE) aE) sc)<|aS (tw 5<|bM<|Za (aY gY aH<|bB aK (aD 3) aH)<|Za (bB aK (aD 3) aH) aE)<|gZ 5<|aS (bV 6 (PXL.px<|cL<|Za (bM<|Za (bB aK (aD 5)<|aX (hU Z) hr hx<|Za (aD 0)<|Za aH aE)<|Za (aD 4) aE)<|Za (bM<|Za (aD 3)<|Za (aX (GR Z) hr hx<|Za (aD 0)<|Za (aD 4) aE) aE)<|Za (bM<|Za (aD 3)<|Za (aD 4)<|Za aH aE)<|Za (PXL.px<|cL<|Za (aD 3)<|Za (aD 4) aE) aE) sc)<|gZ 5<|aS (bV 6 (aY de (aD 6)<|PXL.px<|cL<|Za (bM<|Za (aD 4)<|Za (aD 3) aE)<|Za nS<|Za (bM<|Za (aD 3) aE) aE) sc)<|aS (bV 7 (aY de (aY de (gK (aD 1) gX<|gc<|aD 2)<|PXL.px<|cL<|Za (bB aK (aD 6)<|aX (hU Z) hr hx<|Za (aD 0)<|Za aH aE) aE)<|gK (aD 1) (gc<|aY de (aD 2) aH) gX) sc)<|aS (bV 8 (PXL.px<|cL<|Za (aD 7)<|Za (aD 7)<|Za (aD 7)<|Za (aD 7)<|Za (gK (aD 1) (gc aH) gX)<|Za (aY de (aD 1)<|gK (aD 1) gX<|gc aH)<|Za (jT nX Z.cd Nt<|Za (aD 1) aE)<|Za (PXL.px<|cL<|Za (aD 1) aE)<|Za nS<|Za ve<|Za (uX<|aD 1) aE) sc)<|aW<|bK<|bB aK (aY de (aD 8)<|PXL.px<|cL<|Za (aY de (aD 1)<|PXL.px<|cL<|Za (bM<|Za (bM<|Za aH<|Za aH aE)<|Za (aD 4) aE)<|Za (bM<|Za (bM<|Za (rT rV aH)<|Za aH aE)<|Za (aD 4) aE) aE)<|Za (aY de (aD 1)<|PXL.px<|cL<|Za (bM<|Za (bM<|Za aH<|Za aH aE)<|Za (aD 4) aE) aE) aE)<|aX (hU Z) hr hx<|Za (aD 0)<|Za aH aE)
theorem Mz:Fp P w K mg base 1 "_law_cell_at" (Zff.take 2) yq:=cG JG Z.bc λsc hr hx hw=>aS (dF (dD nW (aD 1)<|bZ d9 Z.ca Nm<|Za (aD 0) aE) (aW<|bK<|bB aK (aD 0)<|aD 1) dE)<|aW (bK aH)
theorem MA:Fp P w K mg base 3 "_law_slants_of" (Zel.take 1) yw:=cG Ka Z.bo λsc hr hx hw=>aS (bV 1 (aY de aH<|aX (hU Z) hr hx<|Za (aD 0)<|Za aH aE) sc)<|aS (bV 2 (bB aK (PXL.px<|cL<|Za aH<|Za aH<|Za aH<|Za aH<|Za aH aE)<|aX (hU Z) hr hx<|Za (aD 0)<|Za aH aE) sc) (aS (AI 3 ["_law_turn"] [0,2] rfl sc (jX Z.cf<|Za (aY gY (aY eH aH<|aD 1) aH) aE) (λ_ _ _=>(cA 0 (by decide +kernel:List.Nodup (["_law_turn", "_law_pen", "_law_most"]:List Str)))) (λ_ _ _=>eP)<|λ_ _ _=>(aY gY (aX (hU Z) hr cR<|Za (aD 1)<|Za (aY de (aY eH aH<|aD 2) aH) aE)<|aD 2))<|aS (bV 4 (aX (hU Z) hr hx<|Za (aD 0)<|Za aH aE) sc)<|aS (bV 5 (aY de aH<|aX (hU Z) hr hx<|Za (aD 0)<|Za aH aE) sc)<|aS (dF (dD (da hr.units) (aD 4) aH) (aW<|lI 3 (AJ 3<|IK (aY eH (gK (aD 3) gX<|gc<|aD 5) aH) gX<|gc<|bZ d9 Z.ca Nm<|Za (aD 3) aE) sc) dE)<|aS (dF (dD (da hr.units) (aD 4) aH) (aW<|u5 3 (aY gY (aD 1) aH)<|bB aK (PXL.px<|cL<|Za aH<|Za (rT rV aH)<|Za aH aE)<|aX (hU Z) hr hx<|Za (aD 0)<|Za aH aE) dE)<|aS (dF (dD (da hr.units) (aD 4) aH) (aW<|Bh 3 3 ["_law_number"] [0] rfl sc (eU<|aD 3) (λ_ _ _=>(cA 0 (by decide +kernel:List.Nodup (["_law_number", "_law_pen"]:List Str)))) (λ_ _ _=>eP)<|λ_ _ _=>(aY eH (aD 0)<|jT xL Z.ce boot_int<|Za (gW (da hr.units) (aX (hU Z) hr cR<|Za (aD 1)<|Za aH aE) aH) aE)) dE)<|aS (dF (dD Ba (aD 4)<|bM<|Za aH<|Za aH<|Za aH aE) (aW<|lI 3 (AJ 3<|IJ (gK (aD 3) gX<|gc<|aD 1)<|uX<|gK (aD 3) gX<|gc<|aY gY (aD 1) aH) sc) dE)<|gZ 3<|aW<|bK<|jT nX Z.cd Nt<|Za (aD 3) aE)
theorem MB:Fp P w K mg base 4 "_law_even_of" (Zfe.take 1) yT:=cG Lm Z.bp λsc hr hx hw=>aS (bV 1 (aX (MA Z) hr hx<|Za (aD 0) aE) sc)<|aS (bV 2 (aY nV (aY de (bZ d9 Z.ca Nm<|Za (aD 1) aE) aH) aH) sc) (aS (dF (dD (da hr.units) (aX (hU Z) hr hx<|Za (aD 0)<|Za aH aE) aH) (aW<|bV 1 (aY de (gK (aD 1) gX<|gc<|aY gY (aD 2) aH)<|bM<|Za aH aE) sc) dE)<|aW<|bK<|aY de (gK (aD 1) gX<|gc<|aD 2)<|uX<|gK (aD 1) gX<|gc<|aY gY (aD 2) aH)
theorem GS:Fp P w K mg base 1 "_law_taken" (ZgG.take 4) yC:=cG Kk Z.br λsc hr hx hw=>aS (lI 4 (cL aE) sc)<|aS (gq<|ii PassesOwn.never rfl (jX Z.cf<|Za (bZ d9 Z.ca Nm<|Za (aD 0) aE) aE) (cA 5 sc)<|aS (bV 6 (aY gY (aY eH (bB aK (aD 0)<|aD 5)<|bB aK (aD 1)<|aD 2)<|aY eH (bB aK (aD 0)<|aD 2)<|bB aK (aD 1)<|aD 5) sc)<|aW<|tw 4<|aY nV (aD 6)<|aD 3) (gZ 4<|aW<|bK<|aD 4)
theorem CF:Fp P w K mg base 2 "_law_number_of" (Zem.take 1) vA:=cG Kn Z.bs λsc hr hx hw=>aS (lI 1 (fb ["_law_row"] [] rfl (eU<|aD 0) (λ_ _ _=>(cA 0 (by decide +kernel:List.Nodup (["_law_row"]:List Str)))) (λ_ _ _=>eP)<|λ_ _ _=>(PXL.px<|td tm Z.cb NF<|Za (aD 0) aE)) sc)<|aS (bV 2 aH sc) (aS (bV 3 aH sc)<|gZ 5<|aS (gq<|ii PassesOwn.never rfl (jX Z.cf<|Za (rX 1<|bZ d9 Z.ca Nm<|Za (aD 1) aE) aE) (cA 4 sc)<|aS (Bh 5 1 ["_law_k"] [1,4] rfl sc (u3 Z.cf<|Za (aD 4)<|Za (bZ d9 Z.ca Nm<|Za (aD 1) aE) aE) (λ_ _ _=>(cA 0 (by decide +kernel:List.Nodup (["_law_k", "_law_rows", "_law_at"]:List Str)))) (λ_ _ _=>(xP<|dD (dq hr.units) (bB aK (bB aK (aD 1)<|aD 0)<|aD 2) aH))<|λ_ _ _=>(aD 0))<|gZ 5<|aS (dF (dD (da hr.units) (aD 5)<|PXL.px<|cL aE) (aW<|bK aH) dE)<|gZ 5<|aS (EE 1 (bM<|Za (qz 1<|bB aK (aD 5) aH)<|Za (qz 1<|aD 4) aE) (aD 4)<|bB aK (aD 5) aH)<|gZ 5<|aS (bV 2 (aY eH (aD 2)<|aY gY aH<|aY eH aH<|jT xL Z.ce boot_int<|Za (gW (dq hr.units) (bB aK (aD 5) aH)<|aD 4) aE) sc)<|aS (gq<|ii PassesOwn.never rfl (u3 Z.cf<|Za (aY de (aD 4) aH)<|Za (rX 1<|bZ d9 Z.ca Nm<|Za (aD 1) aE) aE) (cA 6 sc)<|aW<|u5 1 (aD 6)<|aX (GS Z) hr cR<|Za (qz 1<|aD 6)<|Za (qz 1<|aD 4)<|Za (aD 4)<|Za (aD 3) aE)<|aW<|bV 3 (rX 1<|bB aK (bB aK (aD 1)<|aD 4)<|aD 4) sc)<|aW<|bK<|aY eH (aD 2)<|aD 3)
theorem MC:Fp P w K mg base 3 "_law_is_above" (Ze0.take 1) Cr:=cG Md Z.b3 λsc hr hx hw=>aW<|bK (gW jV (bZ (LT rfl) Z.cg Kc<|Za (PXL.px<|fb ["_law_k"] [0] rfl (u3 Z.cf<|Za aH<|Za (aY de (bZ d9 Z.ca Nm<|Za (aD 0) aE) aH) aE) (λ_ _ _=>(cA 0 (by decide +kernel:List.Nodup (["_law_k", "_law_table"]:List Str)))) (λ_ _ _=>eP)<|λ_ _ _=>(aX (CF Z) hr cR<|Za (PXL.px<|fb ["_law_line"] [0] rfl (eU<|gK (aD 1) gX<|gc<|aD 0) (λ_ _ _=>(cA 0 (by decide +kernel:List.Nodup (["_law_line", "_law_k"]:List Str)))) (λ_ _ _=>eP)<|λ_ _ _=>(gK (aD 0) gX<|gc<|aD 1)) aE)) aE) aH)
theorem MD:Fp P w K mg base 1 "_law_pen_of" (Zf0.take 1) yr:=cG JI Z.be λsc hr hx hw=>aS (bV 1 (bZ (uY rfl) Z.ch boot_max<|Za (aD 0)<|Za (aY gY aH<|aD 0) aE) sc)<|aW (bK<|IL<|cL<|Za (aD 1)<|Za (jT xL Z.ce boot_int<|Za (gW AE (aD 1)<|aY Zp aH aH) aE)<|Za (aY qx (aD 1) aH) aE)
theorem GT:Fp P w K mg base 1 "_law_gcd" (ZiU.take 2) tJ:=cG J0 Z.bj λsc hr hx hw=>aS (bV 0 (bZ AF Z.ci boot_abs<|Za (aD 0) aE) sc)<|aS (bV 1 (bZ AF Z.ci boot_abs<|Za (aD 1) aE) sc) (aS (gq<|xQ PassesOwn.never (dD (dq hr.units) (aD 1) aH)<|aW<|Dg 0 1 sc<|Za (aD 1)<|Za (aY qx (aD 0)<|aD 1) aE)<|aW<|bK<|aD 0)
theorem CG:Fp P w K mg base 2 "_law_share" (ZgI.take 2) qD:=cG J1 Z.bk λsc hr hx hw=>aS (bV 2 (aX (GT Z) hr hx<|Za (aD 0)<|Za (aD 1) aE) sc)<|aS (dF (dD nW (aD 1) aH) (aW<|bV 2 (rT rV<|aD 2) sc) dE) (aW<|bK<|bM<|Za (aY nV (aD 0)<|aD 2)<|Za (aY nV (aD 1)<|aD 2) aE)
theorem sO:Fp P w K mg base 3 "_law_dot" (ZiV.take 2) oh:=cG Kx Z.bl λsc hr hx hw=>aS (bV 2 aH sc)<|aS (bV 3 aH sc) (aS (gq<|ii PassesOwn.never rfl (xR Z.cj<|Za (aD 0)<|Za (aD 1) aE) (kG rfl<|fQ (cA 4 sc)<|fQ (cA 5 sc) kF)<|aS (bV 2 (aY de (aY eH (aY eH (aD 2)<|bB aK (aD 4) aH)<|bB aK (aD 5) aH)<|aY eH (aY eH (bB aK (aD 4) aH)<|bB aK (aD 5) aH)<|aD 3) sc)<|aW<|bV 3 (aY eH (aY eH (aD 3)<|bB aK (aD 4) aH)<|bB aK (aD 5) aH) sc)<|aW<|bK<|aX (CG Z) hr hx<|Za (aD 2)<|Za (aD 3) aE)
theorem GU:Fp P w K mg base 1 "_law_whole" (ZgF.take 1) Zc:=cG JO Z.bg λsc hr hx hw=>aW<|bK (kB (bZ jp Z.cl Ni<|Za (aD 0)<|Za (ja Z.ce boot_int) aE)<|nU<|C9<|bZ jp Z.cl Ni<|Za (aD 0)<|Za (ja Z.ck boot_bool) aE)
theorem GV:Fp P w K mg base 2 "_law_share_like" (Zbr.take 1) tK:=cG rd__law_share_like Z.bm λsc hr hx hw=>aS (dF (PXW.pxt<|gI (eR<|e8<|bZ jp Z.cl Ni<|Za (aD 0)<|Za (ja Z.cd Nt) aE)<|gI (dD (dq hr.units) (bZ d9 Z.ca Nm<|Za (aD 0) aE) aH)<|gI (eR<|e8<|aX (GU Z) hr hx<|Za (bB aK (aD 0) aH) aE)<|jn<|eR<|e8<|aX (GU Z) hr hx<|Za (bB aK (aD 0) aH) aE) (aW<|bK fE) dE)<|aW (bK<|kB (gW jV (bB aK (aD 0) aH) aH)<|nU<|gW (da hr.units) (aX (GT Z) hr hx<|Za (bB aK (aD 0) aH)<|Za (bB aK (aD 0) aH) aE) aH)
theorem GW:Fp P w K mg base 3 "_law_row_like" (ZeW.take 2) vq:=cG J2 Z.bn λsc hr hx hw=>aW<|bK (kB (bZ jp Z.cl Ni<|Za (aD 0)<|Za (ja Z.cd Nt) aE)<|kB (gW (da hr.units) (bZ d9 Z.ca Nm<|Za (aD 0) aE)<|aD 1)<|nU<|bZ (uZ rfl) Z.cm boot_all<|Za (PXL.px<|fb ["_law_one"] [] rfl (eU<|aD 0) (λ_ _ _=>(cA 0 (by decide +kernel:List.Nodup (["_law_one"]:List Str)))) (λ_ _ _=>eP)<|λ_ _ _=>(aX (GV Z) hr cR<|Za (aD 0) aE)) aE)
theorem ME:Fp P w K mg base 4 "_law_are_squares" (Zdl.take 2) wr:=cG Lz Z.bz λsc hr hx hw=>aS (dF (PXW.pxt<|gI (eR<|e8<|bZ jp Z.cl Ni<|Za (aD 1)<|Za (ja Z.cb NF) aE)<|jn<|dD jV (bZ d9 Z.ca Nm<|Za (aD 1) aE) aH) (aW<|bK fE) dE)<|aS (gq<|ii PassesOwn.never rfl (eU<|aD 1) (cA 2 sc)<|aS (dF (PXW.pxt<|gI (eR<|e8<|bZ jp Z.cl Ni<|Za (aD 2)<|Za (ja Z.cd Nt) aE)<|gI (dD (dq hr.units) (bZ d9 Z.ca Nm<|Za (aD 2) aE) aH)<|gI (eR<|e8<|aX (GV Z) hr cR<|Za (bB aK (aD 2) aH) aE)<|jn<|dD (da hr.units) (bB aK (aD 2) aH)<|bM<|Za aH<|Za aH aE) (aW<|bK fE) dE)<|aW<|dF (eR<|e8<|aX (GW Z) hr cR<|Za (bB aK (aD 2) aH)<|Za (bZ d9 Z.ca Nm<|Za (aD 0) aE) aE) (aW<|bK fE) dE) (gZ 5<|aS (gq<|ii PassesOwn.never rfl (jX Z.cf<|Za (bZ d9 Z.ca Nm<|Za (aD 0) aE) aE) (cA 3 sc)<|gZ 5<|aW<|gq<|ii PassesOwn.never rfl (jX Z.cf<|Za (aY de (aD 3) aH) aE) (cA 4 sc)<|aS (AI 5 ["_law_weight", "_law_row"] [3,4] rfl sc (eU<|aD 1) (λ_ _ _=>(kG rfl<|fQ (cA 0 (by decide +kernel:List.Nodup (["_law_weight", "_law_row", "_law_i", "_law_j"]:List Str)))<|fQ (cA 1 (by decide +kernel:List.Nodup (["_law_weight", "_law_row", "_law_i", "_law_j"]:List Str))) kF)) (λ_ _ _=>eP)<|λ_ _ _=>(aX (sO Z) hr cR<|Za (PXL.px<|cL<|Za (bB aK (aD 1)<|aD 2) aE)<|Za (PXL.px<|cL<|Za (bB aK (aD 1)<|aD 3) aE) aE))<|gZ 5<|aW<|dF (dD (dq hr.units) (aX (sO Z) hr cR<|Za (PXL.px<|fb ["_law_weight", "_law_row"] [] rfl (eU<|aD 1) (λ_ _ _=>(kG rfl<|fQ (cA 0 (by decide +kernel:List.Nodup (["_law_weight", "_law_row"]:List Str)))<|fQ (cA 1 (by decide +kernel:List.Nodup (["_law_weight", "_law_row"]:List Str))) kF)) (λ_ _ _=>eP)<|λ_ _ _=>(aD 0))<|Za (aD 5) aE)<|bM<|Za (bB aK (bB aK (aD 0)<|aD 3)<|aD 4)<|Za aH aE) (aW<|bK fE) dE)<|aW<|bK fE)
theorem MF:Fp P w K mg base 4 "_law_made" (Zie.take 2) y9:=cG L8 Z.bt λsc hr hx hw=>aW<|bK (jT nX Z.cd Nt<|Za (PXL.px<|fb ["_law_line"] [1] rfl (eU<|aD 0) (λ_ _ _=>(cA 0 (by decide +kernel:List.Nodup (["_law_line", "_law_row"]:List Str)))) (λ_ _ _=>eP)<|λ_ _ _=>(aX (sO Z) hr cR<|Za (PXL.px<|fb ["_law_number"] [] rfl (eU<|aD 0) (λ_ _ _=>(cA 0 (by decide +kernel:List.Nodup (["_law_number"]:List Str)))) (λ_ _ _=>eP)<|λ_ _ _=>(bM<|Za (aD 0)<|Za aH aE))<|Za (aD 1) aE)) aE)
theorem MG:Fp P w K mg base 5 "_law_form" (Zif.take 3) za:=cG L9 Z.bx λsc hr hx hw=>aW<|bK (aX (sO Z) hr hx<|Za (aD 1)<|Za (aX (MF Z) hr hx<|Za (aD 0)<|Za (aD 2) aE) aE)
theorem Zk:Fp P w K mg base 2 "_law_rank" (Zic.take 1) Cu:=cG Mk Z.b5 λsc hr hx hw=>aS (lI 1 (fb ["_law_row"] [] rfl (eU<|aD 0) (λ_ _ _=>(cA 0 (by decide +kernel:List.Nodup (["_law_row"]:List Str)))) (λ_ _ _=>eP)<|λ_ _ _=>(PXL.px<|td tm Z.cb NF<|Za (aD 0) aE)) sc)<|aS (bV 2 aH sc) (gZ 4<|aS (gq<|ii PassesOwn.never rfl (jX Z.cf<|Za (bZ d9 Z.ca Nm<|Za (aD 0) aE) aE) (cA 3 sc)<|aS (Bh 4 1 ["_law_k"] [1,3] rfl sc (u3 Z.cf<|Za (aD 2)<|Za (bZ d9 Z.ca Nm<|Za (aD 1) aE) aE) (λ_ _ _=>(cA 0 (by decide +kernel:List.Nodup (["_law_k", "_law_rows", "_law_at"]:List Str)))) (λ_ _ _=>(xP<|dD (dq hr.units) (bB aK (bB aK (aD 1)<|aD 0)<|aD 2) aH))<|λ_ _ _=>(aD 0))<|gZ 4<|aW<|dF (dD (dq hr.units) (aD 4)<|PXL.px<|cL aE) (gZ 4<|aS (EE 1 (bM<|Za (qz 1<|bB aK (aD 4) aH)<|Za (qz 1<|aD 2) aE) (aD 2)<|bB aK (aD 4) aH)<|aS (gq<|ii PassesOwn.never rfl (u3 Z.cf<|Za (aY de (aD 2) aH)<|Za (rX 1<|bZ d9 Z.ca Nm<|Za (aD 1) aE) aE) (cA 5 sc)<|aW<|u5 1 (aD 5)<|aX (GS Z) hr cR<|Za (qz 1<|aD 5)<|Za (qz 1<|aD 2)<|Za (aD 3)<|Za aH aE)<|aW<|bV 2 (aY de (aD 2) aH) sc) dE)<|aW<|bK<|aD 2)
theorem MH:Fp P w K mg base 6 "_law_is_paper" (ZeZ.take 2) Cv:=cG Mu Z.b7 λsc hr hx hw=>aS (bV 2 (bZ d9 Z.ca Nm<|Za (aD 0) aE) sc)<|aS (dF (PXW.pxt<|gI (eR<|e8<|bZ jp Z.cl Ni<|Za (aD 1)<|Za (ja Z.cd Nt) aE)<|gI (dD (dq hr.units) (bZ d9 Z.ca Nm<|Za (aD 1) aE) aH)<|jn<|eR<|e8<|bZ jp Z.cl Ni<|Za (bB aK (aD 1) aH)<|Za (ja Z.cn boot_str) aE) (aW<|bK fE) dE) (aS (dF (dD (da hr.units) (bB aK (aD 1) aH) eG) (aS (dF (PXW.pxt<|gI (eR<|e8<|aX (GW Z) hr hx<|Za (bB aK (aD 1) aH)<|Za (aD 2) aE)<|jn<|dD (da hr.units) (PXL.px<|fb ["_law_one"] [] rfl (eU<|bB aK (aD 1) aH) (λ_ _ _=>(cA 0 (by decide +kernel:List.Nodup (["_law_one"]:List Str)))) (λ_ _ _=>(xP<|dD (dq hr.units) (bB aK (aD 0) aH) aH))<|λ_ _ _=>(aD 0))<|PXL.px<|cL aE) (aW<|bK fE) dE)<|aW<|bK<|gW jU (bB aK (aX (MG Z) hr hx<|Za (aD 0)<|Za (bB aK (aD 1) aH)<|Za (bB aK (aD 1) aH) aE) aH) aH) dE)<|aS (dF (PXW.pxt<|gI (dD (dq hr.units) (bB aK (aD 1) aH) eG)<|gI (eR<|e8<|aX (ME Z) hr hx<|Za (aD 0)<|Za (bB aK (aD 1) aH) aE)<|jn<|dD (dq hr.units) (bZ d9 Z.ca Nm<|Za (bB aK (aD 1) aH) aE)<|aD 2) (aW<|bK fE) dE)<|aS (dF (dD (dq hr.units) (PXL.px<|fb ["_law_weight", "_law_row"] [] rfl (eU<|bB aK (aD 1) aH) (λ_ _ _=>(kG rfl<|fQ (cA 0 (by decide +kernel:List.Nodup (["_law_weight", "_law_row"]:List Str)))<|fQ (cA 1 (by decide +kernel:List.Nodup (["_law_weight", "_law_row"]:List Str))) kF)) (λ_ _ _=>(xP<|dD nW (bB aK (aD 0) aH) aH))<|λ_ _ _=>(aD 0))<|PXL.px<|cL aE) (aW<|bK fE) dE)<|aS (lI 3 (cL aE) sc)<|aS (gq<|ii PassesOwn.never rfl (eU<|bB aK (aD 1) aH) (kG rfl<|fQ (cA 4 sc)<|fQ (cA 5 sc) kF)<|aS (bV 6 aH sc)<|aS (gq<|ii PassesOwn.never rfl (eU<|aD 5) (cA 7 sc)<|aW<|bV 6 (aY eH (aD 6)<|bB aK (aD 7) aH) sc)<|aW<|tw 3<|PXL.px<|fb ["_law_one"] [6] rfl (eU<|aD 5) (λ_ _ _=>(cA 0 (by decide +kernel:List.Nodup (["_law_one", "_law_bottom"]:List Str)))) (λ_ _ _=>eP)<|λ_ _ _=>(aY eH (bB aK (aD 0) aH)<|aY nV (aD 1)<|bB aK (aD 0) aH))<|gZ 3<|aW<|bK<|gW (da hr.units) (aX (Zk Z) hr hx<|Za (aD 3) aE)<|aD 2)
theorem MI:yi P w K mg base 1 "_law_kind_of" (Zds.take 1) yt:=wm (z:=Bf) (N:=Zds) Z.bh (λsc _ _ _ _ _ _ hr=>(aS (bV 1 (PXL.px<|cL<|Za (bZ (oJ Z.xi) Z.cl Ni<|Za (aD 0)<|Za (p8 Z.cs) aE)<|Za (bZ (oJ Z.xi) Z.cl Ni<|Za (aD 0)<|Za (p8 Z.cr) aE)<|Za (bZ (oJ Z.xi) Z.cl Ni<|Za (aD 0)<|Za (p8 Z.cq) aE)<|Za (bZ (oJ Z.xi) Z.cl Ni<|Za (aD 0)<|Za (p8 Z.cp) aE) aE) sc)<|aS (bV 1 (aY de (aD 1)<|PXL.px<|cL<|Za (bZ (oJ Z.xi) Z.cl Ni<|Za (aD 0)<|Za (p8 Z.cu) aE)<|Za (bZ (oJ Z.xi) Z.cl Ni<|Za (aD 0)<|Za (p8 Z.cv) aE)<|Za (bZ (oJ Z.xi) Z.cl Ni<|Za (aD 0)<|Za (p8 Z.cw) aE) aE) sc)<|aS (bV 1 (aY de (aD 1)<|PXL.px<|cL<|Za (bZ (oJ Z.xi) Z.cl Ni<|Za (aD 0)<|Za (p8 Z.ct) aE)<|Za (bZ (oJ Z.xi) Z.cl Ni<|Za (aD 0)<|Za (p8 Z.cx) aE) aE) sc)<|aS (dF (PXW.pxt<|gI (eR<|e8<|bZ (oJ Z.xi) Z.cl Ni<|Za (aD 0)<|Za (ja Z.co JR) aE)<|jn<|dD (dq hr.units) (DA PySem.F.slot_list_count PySem.F.type_list_count Jd (aD 1)<|Za fE aE) aH) (aW<|bK eG) dE)<|aW<|bK<|bB aK (PXL.px<|cL<|Za eG<|Za eG<|Za eG<|Za eG<|Za eG<|Za eG<|Za eG<|Za eG<|Za eG aE)<|DA PySem.F.slot_list_index PySem.F.type_list_index Je (aD 1)<|Za fE aE)) JP
theorem MJ:yi P w K mg base 2 "_law_refused" (Zdr.take 1) yv:=wm (z:=Bm) (N:=Zdr) Z.bi (λsc _ _ _ _ _ _ hr=>(aS (bV 1 (Dy (MI Z) hr<|Za (aD 0) aE) sc)<|aS (dF (dD (da hr.units) (aD 1) eG) (aW<|bK<|bM<|Za (aD 1)<|Za JS aE) dE)<|aW<|bK<|bM<|Za (aD 1) aE)) JZ
theorem MK:Fp P w K mg base 1 "first_with" (ZgC.take 2) yK:=cG KN Z.aq λsc hr hx hw=>aS (gq<|ii PassesOwn.never rfl (Kb Z.cy<|Za (aD 0) aE) (kG rfl<|fQ (cA 2 sc)<|fQ (cA 3 sc) kF)<|aW<|dF (dD (dq hr.units) (bB aK (aD 3)<|aD 1)<|wn Z.cz) (aW<|bK<|aD 2) dE)<|aW (bK nS)
theorem GX:Fp P w K mg base 1 "common_divisor" (Zej.take 2) vb:=cG Jh Z.ad λsc hr hx hw=>aS (gq<|xQ PassesOwn.never (dD (dq hr.units) (aD 1) aH)<|aW<|Dg 0 1 sc<|Za (aD 1)<|Za (aY qx (aD 0)<|aD 1) aE)<|aW (bK<|bZ AF Z.ci boot_abs<|Za (aD 0) aE)
theorem zk:Fp P w K mg base 2 "share_by" (ZiP.take 2) se:=cG Jm Z.ah λsc hr hx hw=>aS (II<|dD (dq hr.units) (aD 1) aH)<|aS (bV 2 (aX (GX Z) hr hx<|Za (aD 0)<|Za (aD 1) aE) sc) (aS (dF (dD nW (aD 1) aH) (aW<|bV 2 (rT rV<|aD 2) sc) dE)<|aW<|bK<|bM<|Za (aY nV (aD 0)<|aD 2)<|Za (aY nV (aD 1)<|aD 2) aE)
theorem wR:Fp P w K mg base 3 "by" (N_by.take 2) pS:=cG vw Z.al λsc hr hx hw=>aW<|bK (aX (zk Z) hr hx<|Za (aY eH (bB aK (aD 0) aH)<|bB aK (aD 1) aH)<|Za (aY eH (bB aK (aD 0) aH)<|bB aK (aD 1) aH) aE)
theorem ML:Fp P w K mg base 4 "row_by" (Zly.take 2) yJ:=cG KJ Z.an λsc hr hx hw=>aW<|bK (jT nX Z.cd Nt<|Za (PXL.px<|fb ["part"] [1] rfl (eU<|aD 0) (λ_ _ _=>(cA 0 (by decide +kernel:List.Nodup (["part", "share"]:List Str)))) (λ_ _ _=>eP)<|λ_ _ _=>(aX (wR Z) hr cR<|Za (aD 0)<|Za (aD 1) aE)) aE)
theorem MM:Fp P w K mg base 3 "minus" (Zni.take 2) xX:=cG Kf Z.aj λsc hr hx hw=>aW<|bK (aX (zk Z) hr hx<|Za (aY gY (aY eH (bB aK (aD 0) aH)<|bB aK (aD 1) aH)<|aY eH (bB aK (aD 1) aH)<|bB aK (aD 0) aH)<|Za (aY eH (bB aK (aD 0) aH)<|bB aK (aD 1) aH) aE)
theorem CH:Fp P w K mg base 3 "times" (Znh.take 2) qB:=cG Jo Z.ak λsc hr hx hw=>aW<|bK (aX (zk Z) hr hx<|Za (aY eH (bB aK (aD 0) aH)<|bB aK (aD 1) aH)<|Za (aY eH (bB aK (aD 0) aH)<|bB aK (aD 1) aH) aE)
theorem GY:Fp P w K mg base 4 "row_less" (ZiQ.take 3) sE:=cG KK Z.ao λsc hr hx hw=>aW<|bK (jT nX Z.cd Nt<|Za (PXL.px<|fb ["left", "right"] [1] rfl (xR Z.cj<|Za (aD 0)<|Za (aD 2) aE) (λ_ _ _=>(kG rfl<|fQ (cA 0 (by decide +kernel:List.Nodup (["left", "right", "share"]:List Str)))<|fQ (cA 1 (by decide +kernel:List.Nodup (["left", "right", "share"]:List Str))) kF)) (λ_ _ _=>eP)<|λ_ _ _=>(aX (MM Z) hr cR<|Za (aD 0)<|Za (aX (CH Z) hr cR<|Za (aD 2)<|Za (aD 1) aE) aE)) aE)
theorem GZ:Fp P w K mg base 5 "without_place" (ZeS.take 3) vJ:=cG KO Z.ar λsc hr hx hw=>aW<|bK (PXL.px<|fb ["row"] [1,2] rfl (eU<|aD 0) (λ_ _ _=>(cA 0 (by decide +kernel:List.Nodup (["row", "lead", "place"]:List Str)))) (λ_ _ _=>eP)<|λ_ _ _=>(aX (GY Z) hr cR<|Za (aD 0)<|Za (bB aK (aD 0)<|aD 2)<|Za (aD 1) aE))
theorem MN:Fp P w K mg base 6 "cleared" (Zko.take 2) BE:=cG KR Z.as λsc hr hx hw=>aS (bV 2 (PXL.px<|cL aE) sc)<|aS (lI 3 (cL aE) sc) (aS (bV 4 (PXL.px<|td tm Z.cb NF<|Za (aD 0) aE) sc)<|aS (gq<|ii PassesOwn.never rfl (jX Z.cf<|Za (aD 1) aE) (cA 5 sc)<|aS (bV 6 (aX (MK Z) hr cR<|Za (aD 4)<|Za (aD 5) aE) sc)<|aW<|dF (dD JV (aD 6) nS) (aS (bV 7 (aX (ML Z) hr cR<|Za (bB aK (aD 4)<|aD 6)<|Za (bB aK (bB aK (aD 4)<|aD 6)<|aD 5) aE) sc)<|aS (bV 2 (aY de (aX (GZ Z) hr cR<|Za (aD 2)<|Za (aD 7)<|Za (aD 5) aE)<|PXL.px<|cL<|Za (aD 7) aE) sc)<|aS (bV 4 (aX (GZ Z) hr cR<|Za (aY de (gK (aD 4) gX<|gc<|aD 6)<|gK (aD 4) (gc<|aY de (aD 6) aH) gX)<|Za (aD 7)<|Za (aD 5) aE) sc)<|aW<|tw 3<|aD 5) dE)<|gZ 3<|aW<|bK<|bM<|Za (aD 2)<|Za (aD 3) aE)
theorem MO:Fp P w K mg base 7 "are_independent" (ZdG.take 2) Ch:=cG LL Z.au λsc hr hx hw=>aW<|bK (gW (da hr.units) (bZ d9 Z.ca Nm<|Za (bB aK (aX (MN Z) hr hx<|Za (aD 0)<|Za (aD 1) aE) aH) aE)<|bZ d9 Z.ca Nm<|Za (aD 0) aE)
theorem tS:Fp P w K mg base 1 "size_of" (Zkk.take 1) oH:=cG Ju Z.av λsc hr hx hw=>aW<|bK (aY nV (aY de (bZ d9 Z.ca Nm<|Za (aD 0) aE) aH) aH)
theorem CJ:Fp P w K mg base 1 "is_whole" (ZiS.take 1) sd:=cG DW Z.aa λsc hr hx hw=>aW<|bK (kB (bZ jp Z.cl Ni<|Za (aD 0)<|Za (ja Z.ce boot_int) aE)<|nU<|C9<|bZ jp Z.cl Ni<|Za (aD 0)<|Za (ja Z.ck boot_bool) aE)
theorem G0:Fp P w K mg base 2 "is_share" (ZiT.take 1) tB:=cG Ji Z.ae λsc hr hx hw=>aS (dF (PXW.pxt<|gI (eR<|e8<|bZ jp Z.cl Ni<|Za (aD 0)<|Za (ja Z.cd Nt) aE)<|jn<|dD (dq hr.units) (bZ d9 Z.ca Nm<|Za (aD 0) aE) aH) (aW<|bK fE) dE)<|aS (Df (aD 0)<|kG rfl<|fQ (cA 1 sc)<|fQ (cA 2 sc) kF) (aS (dF (PXW.pxt<|gI (eR<|e8<|aX (CJ Z) hr hx<|Za (aD 1) aE)<|jn<|eR<|e8<|aX (CJ Z) hr hx<|Za (aD 2) aE) (aW<|bK fE) dE)<|aW<|bK<|kB (gW jV (aD 2) aH)<|nU<|gW (da hr.units) (aX (GX Z) hr hx<|Za (aD 1)<|Za (aD 2) aE) aH)
theorem MP:Fp P w K mg base 3 "is_row_within" (ZeU.take 3) xV:=cG Jj Z.af λsc hr hx hw=>aS (dF (PXW.pxt<|gI (eR<|e8<|bZ jp Z.cl Ni<|Za (aD 0)<|Za (ja Z.cd Nt) aE)<|jn<|eR<|Io jU jU (aD 1) (bZ d9 Z.ca Nm<|Za (aD 0) aE)<|aD 2) (aW<|bK fE) dE)<|aW (bK<|bZ (uZ rfl) Z.cm boot_all<|Za (PXL.px<|fb ["part"] [] rfl (eU<|aD 0) (λ_ _ _=>(cA 0 (by decide +kernel:List.Nodup (["part"]:List Str)))) (λ_ _ _=>eP)<|λ_ _ _=>(aX (G0 Z) hr cR<|Za (aD 0) aE)) aE)
theorem G1:Fp P w K mg base 4 "is_row" (Zlz.take 2) tD:=cG Jl Z.ag λsc hr hx hw=>aW<|bK (aX (MP Z) hr hx<|Za (aD 0)<|Za (aD 1)<|Za (aD 1) aE)
theorem MQ:Fp P w K mg base 5 "is_weighed" (ZgB.take 2) yR:=cG Lg Z.a6 λsc hr hx hw=>aS (dF (PXW.pxt<|gI (eR<|e8<|bZ jp Z.cl Ni<|Za (aD 0)<|Za (ja Z.cd Nt) aE)<|jn<|dD (dq hr.units) (bZ d9 Z.ca Nm<|Za (aD 0) aE) aH) (aW<|bK fE) dE)<|aW (bK<|kB (aX (G0 Z) hr hx<|Za (bB aK (aD 0) aH) aE)<|kB (gW (dq hr.units) (bB aK (aD 0) aH)<|wn Z.cz)<|nU<|aX (G1 Z) hr hx<|Za (bB aK (aD 0) aH)<|Za (aD 1) aE)
theorem MR:Fp P w K mg base 1 "row_of" (Zlx.take 1) xY:=cG Jq Z.am λsc hr hx hw=>aW<|bK (jT nX Z.cd Nt<|Za (PXL.px<|fb ["number"] [] rfl (eU<|aD 0) (λ_ _ _=>(cA 0 (by decide +kernel:List.Nodup (["number"]:List Str)))) (λ_ _ _=>eP)<|λ_ _ _=>(bM<|Za (aD 0)<|Za aH aE)) aE)
theorem MS:Fp P w K mg base 2 "is_within" (Zi.take 3) AW:=cG Jf Z.ab λsc hr hx hw=>aW<|bK (kB (aX (CJ Z) hr hx<|Za (aD 0) aE)<|nU<|Im jU jU (aD 1) (aD 0)<|aD 2)
theorem MT:Fp P w K mg base 3 "are_within" (ZgD.take 3) xU:=cG Jg Z.ac λsc hr hx hw=>aW<|bK (kB (bZ jp Z.cl Ni<|Za (aD 0)<|Za (ja Z.cd Nt) aE)<|nU<|bZ (uZ rfl) Z.cm boot_all<|Za (PXL.px<|fb ["number"] [1,2] rfl (eU<|aD 0) (λ_ _ _=>(cA 0 (by decide +kernel:List.Nodup (["number", "least", "most"]:List Str)))) (λ_ _ _=>eP)<|λ_ _ _=>(aX (MS Z) hr cR<|Za (aD 0)<|Za (aD 1)<|Za (aD 2) aE)) aE)
theorem MU:Fp P w K mg base 4 "slants_good" (ZfX.take 1) xZ:=cG Jv Z.aw λsc hr hx hw=>aS (dF (PXW.pxt<|gI (eR<|e8<|aX (MT Z) hr hx<|Za (aD 0)<|Za (yQ Z.c1)<|Za (yQ Z.c2) aE)<|jn<|dD (da hr.units) (aY qx (bZ d9 Z.ca Nm<|Za (aD 0) aE) aH) aH) (aW<|bK fE) dE)<|aW (bK<|gW jU (aX (tS Z) hr hx<|Za (aD 0) aE)<|yQ Z.c0)
theorem CK:Fp P w K mg base 5 "need_slants" (ZfY.take 1) qC:=cG Jw Z.ax λsc hr hx hw=>aW<|dF (eR<|e8<|aX (MU Z) hr hx<|Za (aD 0) aE) (aW<|yh hw Z.c3) dE
theorem MV:Fp P w K mg base 6 "table_of" (ZiO.take 1) yb:=cG Jy Z.ay λsc hr hx hw=>aS (tq<|aX (CK Z) hr hx<|Za (aD 0) aE)<|aS (bV 1 (aX (tS Z) hr hx<|Za (aD 0) aE) sc) (aW<|bK<|PXL.px<|fb ["i"] [0,1] rfl (jX Z.cf<|Za (aD 1) aE) (λ_ _ _=>(cA 0 (by decide +kernel:List.Nodup (["i", "slants", "size"]:List Str)))) (λ_ _ _=>eP)<|λ_ _ _=>(PXL.px<|td tm Z.cb NF<|Za (gK (aD 1) (gc<|aY gY (aY gY (aD 2) aH)<|aD 0)<|gc<|aY gY (aY gY (aY eH aH<|aD 2) aH)<|aD 0) aE))
theorem G3:Fp P w K mg base 7 "share_rows" (ZgA.take 1) tE:=cG Zj Z.a1 λsc hr hx hw=>aW<|bK (PXL.px<|fb ["numbers"] [] rfl (eU<|aX (MV Z) hr hx<|Za (aD 0) aE) (λ_ _ _=>(cA 0 (by decide +kernel:List.Nodup (["numbers"]:List Str)))) (λ_ _ _=>eP)<|λ_ _ _=>(aX (MR Z) hr cR<|Za (aD 0) aE))
theorem MW:Fp P w K mg base 8 "left_by" (Zkm.take 2) yS:=cG Lh Z.a7 λsc hr hx hw=>aS (bV 2 (aX (G3 Z) hr hx<|Za (aD 0) aE) sc)<|gZ 2 (aS (gq<|ii PassesOwn.never rfl (eU<|aD 1) (kG rfl<|fQ (cA 3 sc)<|fQ (cA 4 sc) kF)<|gZ 2<|aW<|AI 2 ["row", "share"] [3,4] rfl sc (xR Z.cj<|Za (aD 2)<|Za (aD 4) aE) (λ_ _ _=>(kG rfl<|fQ (cA 0 (by decide +kernel:List.Nodup (["row", "share", "weight", "square"]:List Str)))<|fQ (cA 1 (by decide +kernel:List.Nodup (["row", "share", "weight", "square"]:List Str))) kF)) (λ_ _ _=>eP)<|λ_ _ _=>(aX (GY Z) hr cR<|Za (aD 0)<|Za (aX (CH Z) hr cR<|Za (aD 2)<|Za (aD 1) aE)<|Za (aD 3) aE))<|gZ 2<|aW<|bK<|aD 2)
theorem MY:Fp P w K mg base 6 "turned_slants" (ZeT.take 1) yc:=cG Jz Z.az λsc hr hx hw=>aS (tq<|aX (CK Z) hr hx<|Za (aD 0) aE)<|aW (bK<|uX<|aD 0)
theorem MZ:Fp P w K mg base 7 "is_even" (Zkn.take 1) By:=cG Kt Z.a3 λsc hr hx hw=>aW<|bK (gW (da hr.units) (aX (MY Z) hr hx<|Za (aD 0) aE)<|aD 0)
theorem CL:Fp P w K mg base 8 "need_even" (Zh9.take 1) vC:=cG Ku Z.a4 λsc hr hx hw=>aW<|dF (eR<|e8<|aX (MZ Z) hr hx<|Za (aD 0) aE) (aW<|yh hw Z.c4) dE
theorem M0:Fp P w K mg base 9 "squares_good" (Zfd.take 2) B7:=cG Ll Z.a8 λsc hr hx hw=>aS (tq<|aX (CL Z) hr hx<|Za (aD 0) aE)<|aS (bV 2 (aX (tS Z) hr hx<|Za (aD 0) aE) sc) (aS (dF (PXW.pxt<|gI (eR<|e8<|bZ jp Z.cl Ni<|Za (aD 1)<|Za (ja Z.cb NF) aE)<|jn<|dD jV (bZ d9 Z.ca Nm<|Za (aD 1) aE)<|yQ Z.c5) (aW<|bK fE) dE)<|aS (dF (eR<|e8<|bZ (uZ rfl) Z.cm boot_all<|Za (PXL.px<|fb ["part"] [2] rfl (eU<|aD 1) (λ_ _ _=>(cA 0 (by decide +kernel:List.Nodup (["part", "size"]:List Str)))) (λ_ _ _=>eP)<|λ_ _ _=>(aX (MQ Z) hr cR<|Za (aD 0)<|Za (aD 1) aE)) aE) (aW<|bK fE) dE)<|aW<|bK<|gW (da hr.units) (aX (MW Z) hr hx<|Za (aD 0)<|Za (aD 1) aE)<|aY eH (PXL.px<|cL<|Za (aY A7 (bM<|Za (wn Z.cz) aE)<|aD 2) aE)<|aD 2)
theorem M1:Fp P w K mg base 10 "above_squares_good" (ZcJ.take 2) Co:=cG LY Z.a9 λsc hr hx hw=>aS (bV 2 (aX (tS Z) hr hx<|Za (aD 0) aE) sc)<|aS (dF (PXW.pxt<|gI (eR<|e8<|aX (M0 Z) hr hx<|Za (aD 0)<|Za (aD 1) aE)<|jn<|dD (dq hr.units) (bZ d9 Z.ca Nm<|Za (aD 1) aE)<|aD 2) (aW<|bK fE) dE) (aS (bV 3 (bZ (uZ rfl) Z.cm boot_all<|Za (PXL.px<|fb ["weight", "row"] [] rfl (eU<|aD 1) (λ_ _ _=>(kG rfl<|fQ (cA 0 (by decide +kernel:List.Nodup (["weight", "row"]:List Str)))<|fQ (cA 1 (by decide +kernel:List.Nodup (["weight", "row"]:List Str))) kF)) (λ_ _ _=>eP)<|λ_ _ _=>(gW jV (bB aK (aD 0) aH) aH)) aE) sc)<|aW<|bK<|kB (aD 3)<|nU<|aX (MO Z) hr hx<|Za (PXL.px<|fb ["weight", "row"] [] rfl (eU<|aD 1) (λ_ _ _=>(kG rfl<|fQ (cA 0 (by decide +kernel:List.Nodup (["weight", "row"]:List Str)))<|fQ (cA 1 (by decide +kernel:List.Nodup (["weight", "row"]:List Str))) kF)) (λ_ _ _=>eP)<|λ_ _ _=>(aD 1))<|Za (aD 2) aE)
theorem CM:Fp P w K mg base 6 "row_good" (ZiR.take 2) sf:=cG JA Z.a0 λsc hr hx hw=>aS (tq<|aX (CK Z) hr hx<|Za (aD 0) aE)<|aW (bK<|aX (G1 Z) hr hx<|Za (aD 1)<|Za (aX (tS Z) hr hx<|Za (aD 0) aE) aE)
theorem M2:Fp P w K mg base 3 "plus" (ZoA.take 2) xW:=cG Jn Z.ai λsc hr hx hw=>aW<|bK (aX (zk Z) hr hx<|Za (aY de (aY eH (bB aK (aD 0) aH)<|bB aK (aD 1) aH)<|aY eH (bB aK (aD 1) aH)<|bB aK (aD 0) aH)<|Za (aY eH (bB aK (aD 0) aH)<|bB aK (aD 1) aH) aE)
theorem G4:Fp P w K mg base 4 "sum_of_products" (ZdF.take 2) vc:=cG Jr Z.ap λsc hr hx hw=>aS (bV 2 (wn Z.cz) sc)<|aS (gq<|ii PassesOwn.never rfl (xR Z.cj<|Za (aD 0)<|Za (aD 1) aE) (kG rfl<|fQ (cA 3 sc)<|fQ (cA 4 sc) kF)<|aW<|bV 2 (aX (M2 Z) hr cR<|Za (aD 2)<|Za (aX (CH Z) hr cR<|Za (aD 3)<|Za (aD 4) aE) aE) sc) (aW<|bK<|aD 2)
theorem M3:Fp P w K mg base 8 "times_row" (Zh8.take 2) ye:=cG JB Z.a2 λsc hr hx hw=>aS (dF (eR<|e8<|aX (CM Z) hr hx<|Za (aD 0)<|Za (aD 1) aE) (aW<|yh hw Z.c6) dE)<|aW (bK<|jT nX Z.cd Nt<|Za (PXL.px<|fb ["line"] [1] rfl (eU<|aX (G3 Z) hr hx<|Za (aD 0) aE) (λ_ _ _=>(cA 0 (by decide +kernel:List.Nodup (["line", "row"]:List Str)))) (λ_ _ _=>eP)<|λ_ _ _=>(aX (G4 Z) hr cR<|Za (aD 0)<|Za (aD 1) aE)) aE)
theorem M4:Fp P w K mg base 9 "pair_at" (Zkl.take 3) yF:=cG Kv Z.a5 λsc hr hx hw=>aS (tq<|aX (CL Z) hr hx<|Za (aD 0) aE)<|aS (dF (eR<|e8<|aX (CM Z) hr hx<|Za (aD 0)<|Za (aD 1) aE) (aW<|yh hw Z.c6) dE) (aW<|bK<|aX (G4 Z) hr hx<|Za (aD 1)<|Za (aX (M3 Z) hr hx<|Za (aD 0)<|Za (aD 2) aE) aE)
theorem Zg:Fp P w K mg base 10 "not_above_good" (Zei.take 2) Cp:=cG LZ Z.ba λsc hr hx hw=>aS (dF (PXW.pxt<|gI (eR<|e8<|aX (CM Z) hr hx<|Za (aD 0)<|Za (aD 1) aE)<|jn<|dD (da hr.units) (aD 1)<|aY A7 (bM<|Za (wn Z.cz) aE)<|aX (tS Z) hr hx<|Za (aD 0) aE) (aW<|bK fE) dE)<|aW (bK<|gW jU (bB aK (aX (M4 Z) hr hx<|Za (aD 0)<|Za (aD 1)<|Za (aD 1) aE) aH) aH)
theorem M5:Fp P w K mg base 11 "above_good" (ZgE.take 2) Cq:=cG L4 Z.bb λsc hr hx hw=>aS (tq<|aX (CL Z) hr hx<|Za (aD 0) aE)<|aS (dF (PXW.pxt<|gI (eR<|e8<|bZ jp Z.cl Ni<|Za (aD 1)<|Za (ja Z.cd Nt) aE)<|jn<|dD (dq hr.units) (bZ d9 Z.ca Nm<|Za (aD 1) aE) aH) (aW<|bK fE) dE) (aS (dF (dD (da hr.units) (bB aK (aD 1) aH) eG) (aW<|bK<|aX (M1 Z) hr hx<|Za (aD 0)<|Za (bB aK (aD 1) aH) aE) dE)<|aW<|bK<|kB (gW (da hr.units) (bB aK (aD 1) aH) eG)<|nU<|aX (Zg Z) hr hx<|Za (aD 0)<|Za (bB aK (aD 1) aH) aE)
theorem G5:Fp P w K mg base 12 "_law_told" (Zib.take 2) wJ:=cG Mc Z.b6 λsc hr hx hw=>aW<|Jb LX 2 Z.c7 sc (λ_ _ _ hx1=>(aW<|bK<|aX (M5 Z) hr hx1<|Za (aD 0)<|Za (aD 1) aE)) (λ_ _=>(aW<|bK<|Dy (MJ Z) (hr.u.mark)<|Za (aD 2) aE))
theorem zn:Fp P w K mg base 13 "_law_right_of" (ZeY.take 3) sM:=cG Mv Z.b8 λsc hr hx hw=>aS (bV 3 (bZ (EN hr.gd hr.units) Z.c8 Ei<|Za (aD 2) aE) sc)<|aS (bV 4 (aX (G5 Z) hr hx<|Za (aD 0)<|Za (aD 2) aE) sc) (aW<|bK<|kB (bZ jp Z.cl Ni<|Za (aD 4)<|Za (ja Z.ck boot_bool) aE)<|kB (gW (da hr.units) (aD 4)<|aX (MH Z) hr hx<|Za (aD 1)<|Za (aD 2) aE)<|nU<|gW vG (bZ (EN hr.gd hr.units) Z.c8 Ei<|Za (aD 2) aE)<|aD 3)
theorem G6:Fp P w K mg base 4 "_law_steps" (ZgH.take 2) wI:=cG Ml Z.b0 λsc hr hx hw=>aS (bV 2 (bZ d9 Z.ca Nm<|Za (aD 0) aE) sc)<|aS (lI 3 (cL aE) sc) (aS (lI 4 (fb ["_law_line"] [] rfl (eU<|aD 0) (λ_ _ _=>(cA 0 (by decide +kernel:List.Nodup (["_law_line"]:List Str)))) (λ_ _ _=>eP)<|λ_ _ _=>(PXL.px<|fb ["_law_number"] [] rfl (eU<|aD 0) (λ_ _ _=>(cA 0 (by decide +kernel:List.Nodup (["_law_number"]:List Str)))) (λ_ _ _=>eP)<|λ_ _ _=>(bM<|Za (aD 0)<|Za aH aE))) sc)<|aS (gq<|ii PassesOwn.never rfl (jX Z.cf<|Za (aD 1) aE) (cA 5 sc)<|aS (bV 6 (rX 4<|bB aK (bB aK (aD 4)<|aD 5)<|aD 5) sc)<|aS (bV 7 (rX 4<|jT nX Z.cd Nt<|Za (PXL.px<|fb ["_law_one"] [6] rfl (eU<|bB aK (aD 4)<|aD 5) (λ_ _ _=>(cA 0 (by decide +kernel:List.Nodup (["_law_one", "_law_weight"]:List Str)))) (λ_ _ _=>eP)<|λ_ _ _=>(aX (CG Z) hr cR<|Za (aY eH (bB aK (aD 0) aH)<|bB aK (aD 1) aH)<|Za (aY eH (bB aK (aD 0) aH)<|bB aK (aD 1) aH) aE)) aE) sc)<|aS (tw 3<|bM<|Za (aD 6)<|Za (aD 7) aE)<|aW<|gq<|ii PassesOwn.never rfl (jX Z.cf<|Za (aD 2) aE) (cA 8 sc)<|aS (bV 9 (aX (sO Z) hr cR<|Za (PXL.px<|cL<|Za (aD 6) aE)<|Za (PXL.px<|cL<|Za (bB aK (aD 7)<|aD 8) aE) aE) sc)<|aW<|u5 4 (aD 8)<|PXL.px<|AJ 4<|fb ["_law_j"] [4,7,8,9] rfl (jX Z.cf<|Za (aD 2) aE) (λ_ _ _=>(cA 0 (by decide +kernel:List.Nodup (["_law_j", "_law_left", "_law_row", "_law_i", "_law_taken_here"]:List Str)))) (λ_ _ _=>eP)<|λ_ _ _=>(aX (sO Z) hr cR<|Za (PXL.px<|cL<|Za (bB aK (bB aK (aD 1)<|aD 3)<|aD 0)<|Za (bM<|Za (aY gY aH<|bB aK (aD 4) aH)<|Za (bB aK (aD 4) aH) aE) aE)<|Za (PXL.px<|cL<|Za (bM<|Za aH<|Za aH aE)<|Za (bB aK (aD 2)<|aD 0) aE) aE))<|gZ 3<|aW<|bK<|aD 3)
theorem G7:Fp P w K mg base 1 "_law_unit" (Zia.take 2) wH:=cG Mb Z.bu λsc hr hx hw=>aW<|bK (jT nX Z.cd Nt<|Za (PXL.px<|fb ["_law_at"] [1] rfl (jX Z.cf<|Za (aD 0) aE) (λ_ _ _=>(cA 0 (by decide +kernel:List.Nodup (["_law_at", "_law_place"]:List Str)))) (λ_ _ _=>eP)<|λ_ _ _=>(bM<|Za (jT xL Z.ce boot_int<|Za (gW (da hr.units) (aD 0)<|aD 1) aE)<|Za aH aE)) aE)
theorem M6:Fp P w K mg base 5 "_law_row_down" (ZeX.take 1) Ct:=cG Mo Z.b4 λsc hr hx hw=>aS (bV 1 aH sc)<|aS (gq<|xQ PassesOwn.never (dD jV (aX (CF Z) hr cR<|Za (PXL.px<|fb ["_law_line"] [1] rfl (eU<|gK (aD 0) gX<|gc<|aY de (aD 1) aH) (λ_ _ _=>(cA 0 (by decide +kernel:List.Nodup (["_law_line", "_law_many"]:List Str)))) (λ_ _ _=>eP)<|λ_ _ _=>(gK (aD 0) gX<|gc<|aY de (aD 1) aH)) aE) aH)<|aW<|bV 1 (aY de (aD 1) aH) sc) (aS (lI 2 (td tm Z.cb NF<|Za (aX (G7 Z) hr hx<|Za (bZ d9 Z.ca Nm<|Za (aD 0) aE)<|Za (aD 1) aE) aE) sc)<|aS (bV 3 (aX (G6 Z) hr hx<|Za (aD 0)<|Za (aD 1) aE) sc)<|aS (gq<|ii PassesOwn.never rfl (LV Z.cf<|Za (aY gY (aD 1) aH)<|Za (rT rV aH)<|Za (rT rV aH) aE) (cA 4 sc)<|aS (bV 5 (rX 2<|aX (sO Z) hr cR<|Za (bB aK (bB aK (aD 3)<|aD 4) aH)<|Za (aD 2) aE) sc)<|aW<|u5 2 (aD 4)<|bM<|Za (aY gY aH<|bB aK (aD 5) aH)<|Za (bB aK (aD 5) aH) aE)<|gZ 2<|aW<|bK<|jT nX Z.cd Nt<|Za (aD 2) aE)
theorem G8:Fp P w K mg base 3 "_law_row_of" (ZfZ.take 2) vt:=cG J4 Z.bv λsc hr hx hw=>aS (lI 2 (cL aE) sc)<|aS (gq<|ii PassesOwn.never rfl (jX Z.cf<|Za (aD 1) aE) (cA 3 sc)<|aS (bV 4 (aX (hU Z) hr cR<|Za (aD 0)<|Za (bB aK (PXL.px<|cL<|Za aH<|Za aH<|Za aH aE)<|aX (hU Z) hr cR<|Za (aD 0)<|Za aH aE) aE) sc)<|aW<|tw 2<|aX (CG Z) hr cR<|Za (aY eH (aD 4)<|aY gY aH<|aY eH aH<|aX (hU Z) hr cR<|Za (aD 0)<|Za aH aE)<|Za (aY de aH<|aX (hU Z) hr cR<|Za (aD 0)<|Za (bB aK (PXL.px<|cL<|Za aH<|Za aH<|Za aH aE)<|aX (hU Z) hr cR<|Za (aD 0)<|Za aH aE) aE) aE) (gZ 2<|aW<|bK<|jT nX Z.cd Nt<|Za (aD 2) aE)
theorem M7:Fp P w K mg base 3 "_law_strong_to" (Zek.take 1) yU:=cG Lx Z.b1 λsc hr hx hw=>aS (bV 1 aH sc)<|aS (gq<|xQ PassesOwn.never (PXW.pxt<|Il (dD nW (aD 1)<|bZ d9 Z.ca Nm<|Za (aD 0) aE)<|Ik<|dD (dq hr.units) (aX (CF Z) hr cR<|Za (PXL.px<|fb ["_law_line"] [1] rfl (eU<|gK (aD 0) gX<|gc<|aY de (aD 1) aH) (λ_ _ _=>(cA 0 (by decide +kernel:List.Nodup (["_law_line", "_law_many"]:List Str)))) (λ_ _ _=>eP)<|λ_ _ _=>(gK (aD 0) gX<|gc<|aY de (aD 1) aH)) aE) aH)<|aW<|bV 1 (aY de (aD 1) aH) sc) (aW<|bK<|aD 1)
theorem M8:Fp P w K mg base 1 "_law_table_of" (ZeV.take 1) yx:=cG J3 Z.bq λsc hr hx hw=>aS (bV 1 (aY nV (aY de (bZ d9 Z.ca Nm<|Za (aD 0) aE) aH) aH) sc)<|aW (bK<|PXL.px<|fb ["_law_i"] [0,1] rfl (jX Z.cf<|Za (aD 1) aE) (λ_ _ _=>(cA 0 (by decide +kernel:List.Nodup (["_law_i", "_law_slants", "_law_size"]:List Str)))) (λ_ _ _=>eP)<|λ_ _ _=>(PXL.px<|fb ["_law_j"] [0,1,2] rfl (jX Z.cf<|Za (aD 2) aE) (λ_ _ _=>(cA 0 (by decide +kernel:List.Nodup (["_law_j", "_law_i", "_law_slants", "_law_size"]:List Str)))) (λ_ _ _=>eP)<|λ_ _ _=>(bB aK (aD 2)<|aY gY (aY de (aY gY (aD 0)<|aD 1)<|aD 3) aH)))
theorem all_mk(hfa:mg "law" = some (.ref fa)):∃fd:FuncData,(∀(s:Shared) (v:Value),BindsTo s fd ⟨[v],[]⟩ [("_law_script",v)])/\∀base:Heap,K.In base->base.Ns mainGlobals mg->gi l.prog w K mg base (fP l.prog w) 14 fa fd ["_law_script"] (gJ K wK):=
 K1 (z:=zc) (N:=GC) Z.b9 hfa (λ_ sc _ _ _ _ _ _ _ hr hx hw=>(aS (dF (PXW.pxt<|gI (dD (dq hr.units) (aX (G5 Z) hr hx<|Za (bM<|Za aH<|Za aH<|Za aH aE)<|Za nS aE)<|bM<|Za eG aE)<|jn<|eR<|e8<|aX (zn Z) hr hx<|Za (bM<|Za aH aE)<|Za (PXL.px<|cL<|Za (PXL.px<|cL<|Za aH aE) aE)<|Za (bM<|Za eG<|Za (bM<|Za (bM<|Za aH<|Za aH aE) aE) aE) aE) (aW<|bK fE) dE)<|aS (dF (eR<|e8<|aX (zn Z) hr hx<|Za (bM<|Za aH aE)<|Za (PXL.px<|cL<|Za (PXL.px<|cL<|Za aH aE) aE)<|Za (bM<|Za eG<|Za (PXL.px<|cL aE) aE) aE) (aW<|bK fE) dE)<|aS (dF (eR<|e8<|aX (zn Z) hr hx<|Za (bM<|Za aH aE)<|Za (PXL.px<|cL<|Za (PXL.px<|cL<|Za aH aE) aE)<|Za (bM<|Za eG<|Za (PXL.px<|cL<|Za (bM<|Za (bM<|Za aH<|Za aH aE)<|Za (bM<|Za (bM<|Za aH<|Za aH aE) aE) aE) aE) aE) aE) (aW<|bK fE) dE)<|aS (gq<|ii PassesOwn.never rfl (eU<|aY de (PXL.px<|cL<|Za (aX (Mz Z) hr cR<|Za (aD 0)<|Za aH aE) aE)<|gK (aD 0) (gc aH)<|gc aH) (cA 1 sc)<|aS (bV 2 (aX (MD Z) hr cR<|Za (aD 1) aE) sc)<|aS (bV 3 (aX (MB Z) hr cR<|Za (aD 2) aE) sc)<|aS (bV 4 (aX (M8 Z) hr cR<|Za (aD 3) aE) sc)<|aS (bV 5 (bZ d9 Z.ca Nm<|Za (aD 4) aE) sc)<|aS (bV 6 (aX (G6 Z) hr cR<|Za (aD 4)<|Za (aX (M7 Z) hr cR<|Za (aD 4) aE) aE) sc)<|aS (bV 7 (aX (G8 Z) hr cR<|Za (aD 2)<|Za (aD 5) aE) sc)<|aS (dF (eR<|e8<|aX (MC Z) hr cR<|Za (aD 4) aE) (aW<|bV 7 (aX (M6 Z) hr cR<|Za (aD 4) aE) sc) dE)<|aS (bV 8 (PXL.px<|cL<|Za (bM<|Za eG<|Za (aD 6) aE)<|Za (bM<|Za eG<|Za (aD 7) aE)<|Za (bM<|Za eG<|Za (aX (G8 Z) hr cR<|Za (aD 2)<|Za (aD 5) aE) aE)<|Za (bM<|Za eG<|Za (aY A7 (bM<|Za (bM<|Za aH<|Za aH aE) aE)<|aD 5) aE) aE) sc)<|aS (bV 8 (aY de (aD 8)<|PXL.px<|cL<|Za (bM<|Za eG<|Za (aX (My Z) hr cR<|Za (aD 2)<|Za (aD 6) aE) aE)<|Za (bM<|Za eG<|Za (aX (GR Z) hr cR<|Za (aD 2)<|Za (aD 7) aE) aE)<|Za (bM<|Za eG<|Za (aD 6) aE) aE) sc)<|aS (bV 8 (aY de (aD 8)<|PXL.px<|cL<|Za (PXL.px<|cL<|Za eG<|Za (aD 6) aE)<|Za (bM<|Za eG<|Za (aD 6)<|Za aH aE)<|Za (bM<|Za eG aE)<|Za (bM<|Za (aD 6)<|Za eG aE)<|Za (bM<|Za eG<|Za (aD 7) aE) aE) sc)<|aW<|gq<|ii PassesOwn.never rfl (eU<|aY de (aD 8)<|PXL.px<|cL<|Za nS<|Za (bM aE)<|Za (bM<|Za eG<|Za (aD 6) aE)<|Za (bM<|Za eG<|Za (aX (G7 Z) hr cR<|Za (aD 5)<|Za (aX (hU Z) hr cR<|Za (aD 2)<|Za (aD 5) aE) aE) aE)<|Za ve<|Za aH aE) (cA 9 sc)<|aW<|dF (eR<|e8<|aX (zn Z) hr cR<|Za (aD 3)<|Za (aD 4)<|Za (aD 9) aE) (aW<|bK fE) dE)<|aW<|bK fE)) Mw
end
theorem walk{q:Program}{loose:List Str}{d:DefRec}{K:Params->Nd}(hn:l.most=some 63)(hdf:d.params.defaults=[])
  (hY:∀(w:World) (h:Heap),YP w h->(K w.params).In h)
  (F:∀ (w:World) (mg:Str->Option Value) (fa:Addr) (h:Heap),(K w.params).In h->h.Ns mainGlobals mg->mg d.name=some (.ref fa)->
   ∃fd:FuncData,(∀(s:Shared) (u:Value),BindsTo s fd ⟨[u],[]⟩ [("_law_script",u)])/\∀base:Heap,(K w.params).In base->base.Ns mainGlobals mg->gi l.prog w (K w.params) mg base (fP l.prog w) 14 fa fd ["_law_script"] (gJ (K w.params) wK)) :
  PySem.W.WalkO q loose XP YP l.row.toRowW d [] (λf vs=>PySem.call f vs):=
 L2.walk_of (n:=63) (k:=14) (x:= "_law_script") (CX:=λw=>fP l.prog w) (sp:=λw=>gJ (K w.params) wK) hn (by decide) hdf ⟨rfl,rfl,by decide,by decide⟩ hY F (λ_ _ a ns hl hO hS=>Mx hl hO hS) λ_ _ _ _ _ ⟨_,_,_,_,_,_,_,_,_,_,_,_,_,z⟩=>z
end B.C.Q0.Q2
end LP
namespace PySem.W.Fast
def tw10220977480469012070:=0
def tw18092591669710098470:=0
def tw16621384754797666539:=0
def tw10050511375648103639:=0
def tw16854811870135498398:=0
def tw11099412680836500837:=0
def tw17177343751606845461:=0
def tw8850218154639763384:=0
def tw3976985044297092885:=0
def tw15549246969597763751:=0
def tw16753838430730197770:=0
def tw8131148046122366531:=0
def tw1728094210335082002:=0
def tw17663379866205858960:=0
def tw16256977781579693489:=0
def tw11651144646604382862:=0
def tw17767426943140139532:=0
def tw6811511432757137575:=0
def tw10057099133910696166:=0
def tw15243897887123237846:=0
def tw13464645559994709994:=0
def tw3002908008804903847:=0
def tw14451463729809262549:=0
def tw9964849444204144499:=0
def tw8594568098356039415:=0
def tw5710004603443497250:=0
def tw15063003895011697009:=0
def tw13861056085005765970:=0
def tw6670447902526902044:=0
def tw9730882043190133929:=0
def tw8611648190881209103:=0
def tw16355498120841276184:=0
def tw13597853774391275220:=0
def tw346747060188926078:=0
def tw13713134043689127390:=0
def tw10992092800264214089:=0
def tw17538713331081858842:=0
def tw8868112902038913872:=0
def tw9243782238840845722:=0
def tw14031172949458861581:=0
def tw10971807331161612766:=0
def tw4855116105049344799:=0
def tw4613841134610270154:=0
def tw6588623601195376435:=0
def tw14916279265097563227:=0
def tw1335128951326997735:=0
def tw16563945276460045638:=0
def tw18256115160184097892:=0
def tw12178911663333844916:=0
def tw15528141032399384492:=0
def tw9852160086608469557:=0
def tw14054651247589742915:=0
def tw9456061778272039521:=0
def tw10641511441193477542:=0
def tw13085505058500474688:=0
def tw9169744713826697950:=0
def tw13161829745631444604:=0
def tw2411299723821093241:=0
def tw5841815500854667899:=0
def tw9911182883752676087:=0
def tw7786440666872722864:=0
def tw18032932871415965402:=0
def tw6666304603661198734:=0
def tw3302938456703599430:=0
def tw3114830185204103970:=0
def tw2033825945811703034:=0
def tw8444228864015774716:=0
def tw16609936249695791101:=0
def tw7589856289950009950:=0
def tw9016329944982876345:=0
def tw4104921461119197727:=0
def tw2634387426395401563:=0
def tw7676983636843047004:=0
def tw11003984089412312149:=0
def tw9514111825378628647:=0
def tw12941691398207003019:=0
def tw18320986709215829490:=0
def tw9316067565023411814:=0
def tw952133590157246946:=0
def tw4841527510169947988:=0
def tw996526335225866750:=0
def tw2962329250469688484:=0
def tw15806973510605597690:=0
def tw8718290245217249904:=0
def tw10417875005826126196:=0
def tw17390556881763392029:=0
def tw8891346519928302517:=0
def tw11270243283193141320:=0
def tw7534227340711524643:=0
def tw16267363660941963446:=0
def tw7379351988609182220:=0
def tw35332069730353400:=0
def tw13054226267640380505:=0
def tw13935044267629093097:=0
def tw824975277093144607:=0
def tw13562448308878677302:=0
def tw10196742874058786871:=0
def tw14963390534408755796:=0
def tw4377953840526542988:=0
def tw11165648989893521168:=0
def tw15977125377455147067:=0
def tw4819727249860898381:=0
def tw14577771318506954124:=0
def tw11890207883534637763:=0
def tw1904008055291037732:=0
def tw7371230885639892980:=0
def tw15911068825563232954:=0
def tw5613241601459826650:=0
def tw766860561927366466:=0
def tw1276459380481062897:=0
def tw4036002899554188018:=0
def tw10454942484893322685:=0
def tw11089740068950367021:=0
def tw4615216530289915998:=0
def tw18175679283424701159:=0
def tw13848323849176472122:=0
def tw14020996586744496692:=0
def tw2172586427812248982:=0
def tw7574166480365327154:=0
def tw12386325478292528637:=0
def tw8683509520671394167:=0
def tw16885434600570847525:=0
def tw18316107065318901440:=0
def tw14109334001650447011:=0
def tw773583585975825000:=0
def tw17416020439556534427:=0
def tw6801723828542759516:=0
def tw8884031296973798522:=0
def tw7568311129079961808:=0
def tw4608567261141211637:=0
def tw1064053513947874080:=0
def tw5782898613733221874:=0
def tw8842475246403556036:=0
def tw10831047206586893026:=0
def tw11449986082912409856:=0
def tw11306546781485952388:=0
def tw10612631801150172414:=0
def tw16664714049151927699:=0
def tw18403114295902092059:=0
def tw13010291899571047488:=0
def tw3059565887723864664:=0
def tw4966760872942420182:=0
def tw6078081508222557276:=0
def tw18262445482975695352:=0
def tw2169982642654985395:=0
def tw15640258227923918229:=0
def tw17031455128980895639:=0
def tw6071851413742949917:=0
def tw14661312656931368946:=0
def tw14334837203874725355:=0
def tw4786454579943739017:=0
def tw8751850112496177452:=0
def tw1910648690043353507:=0
def tw15425932428893568024:=0
def tw10321198411735605470:=0
def tw9125539852458807075:=0
def tw3040025627466206798:=0
def tw11125096671801972224:=0
def tw15486952161707175425:=0
def tw13919047133662395712:=0
def tw1025312954564051496:=0
def tw13976970124560605653:=0
def tw18071285479627103107:=0
def tw9904570178292640141:=0
def tw2026309054466825461:=0
def tw2119778892963939143:=0
def tw5914522082968865569:=0
def tw9459396500960058118:=0
def tw8542628656318574581:=0
def tw6105248528262557188:=0
def tw12524883285853650525:=0
def tw2264084034929335086:=0
def tw8715344464345581043:=0
def tw13586376168016303364:=0
def tw5629726434734929807:=0
def tw2488005079566290930:=0
def tw6114676966862638683:=0
def tw18302897812232908774:=0
def tw1363467325092466280:=0
def tw15143510353481516183:=0
def tw17857036099339333062:=0
def tw14893091393345952716:=0
def tw4545757884973645465:=0
def tw6146738711071685742:=0
def tw7153744651915715307:=0
def tw8515491622151865413:=0
def tw17840947402336559749:=0
def tw6882301012345502413:=0
def tw10878310488183759333:=0
def tw966223952695006079:=0
def tw17036605536427116329:=0
def tw9514081446129466868:=0
def tw10744435907847909320:=0
def tw9492900760838090841:=0
def tw3978124377963896163:=0
def tw7669237696811154053:=0
def tw3614928814087748984:=0
def tw3482066032289510171:=0
def tw12340518647609918675:=0
def tw5378390328730366093:=0
def tw8988725128599194375:=0
def tw582274165263225708:=0
def tw11768962554810171954:=0
def tw18391197289349103612:=0
def tw3583332286543895926:=0
def tw15430263386825518867:=0
def tw3488080305322563369:=0
def tw16244066427498808450:=0
def tw16188701293535771282:=0
def tw9939690517705488066:=0
def tw9510208578159896459:=0
def tw8918232146187787868:=0
def tw8600547917749155608:=0
def tw8225035925359427014:=0
def tw7589491310735959868:=0
def tw73679437210921412:=0
def tw6924461720583628742:=0
def tw6103133715144659931:=0
def tw5553088934046767373:=0
def tw503436830029557674:=0
def tw4858416299551125472:=0
def tw4417819292503998685:=0
def tw4383305642766766467:=0
def tw2931738419358421770:=0
def tw2692198429448122787:=0
def tw2578370251644547861:=0
def tw2417937684224554580:=0
def tw2091729014641929329:=0
def tw1973060409095607775:=0
def tw17844477436141394308:=0
def tw17832101463445851769:=0
def tw17514556348434263635:=0
def tw17212600062851748501:=0
def tw15954607511327565592:=0
def tw15578463383712198437:=0
def tw15571126498854693136:=0
def tw15558954007090507262:=0
def tw15340706942280399652:=0
def tw15067344545765426054:=0
def tw1403527870906191333:=0
def tw13048707120950526942:=0
def tw13019335186092283895:=0
def tw12847331140476826499:=0
def tw12586977325383592074:=0
def tw12213886668436837112:=0
def tw11049771759498481241:=0
def tw10846614910597396429:=0
def tw10012414974669850934:=0
def tw9688147391349096952:=0
def tw10418866454864421766:=0
def tw89212920396318399:=0
def tw5552192327979444288:=0
def tw3185787671570276475:=0
def tw2927149493058545518:=0
def tw17538306684159504867:=0
def tw14584027045954220045:=0
def tw6255206042021734829:=0
def tw79081460538557352:=0
def tw7869938252027425732:=0
def tw292483825265758910:=0
def tw2871732136341045332:=0
def tw2580560336354909990:=0
def tw2452530059566623997:=0
def tw2021242582180792496:=0
def tw17600836699767713407:=0
def tw17225151333822524413:=0
def tw16882194622497143111:=0
def tw16512946311022719067:=0
def tw15573967299963126527:=0
def tw14531354841900447586:=0
def tw14314572373983196685:=0
def tw14130019688481999220:=0
def tw12321831031158407289:=0
def tw11843336074240307391:=0
def tw10954160940354629168:=0
def tw10850641809165899921:=0
def tw10357221720203851187:=0
def tw10199934459434928103:=0
def tw8308290430931668449:=0
def tw7174456570564581958:=0
def tw16652760438036547341:=0
def tw15655447461910232306:=0
def tw16248396574338419162:=0
def tw17345003554395574571:=0
def tw13335867384458097595:=0
def tw12631968791414205998:=0
def tw12326238204256686928:=0
def tw4935862369291329570:=0
def tw18348707131173864488:=0
def tw16771766328743704214:=0
def tw10885617977167095885:=0
def tw8976079383792267623:=0
def tw16555885888881881377:=0
def tw8642145155660063728:=0
def tw6546016782603873801:=0
def tw5997174555514803621:=0
def tw2515223882478202837:=0
def tw2313799757955321094:=0
def tw2277814185644708505:=0
def tw18141861444749715396:=0
def tw17633480855363497934:=0
def tw16375982540889287559:=0
def tw15924306908482409307:=0
def tw15172038035919856866:=0
def tw13582363045409317787:=0
def tw10291458312624770973:=0
def tw6807984393478771742:=0
def tw612305945234090937:=0
def tw440423655238917238:=0
def tw15621344947356736884:=0
def tw14664789665765899570:=0
def tw13394307989702569437:=0
def tw11331310608800529276:=0
def tw963166397560862695:=0
def tw9188778783303551616:=0
def tw7810374204060238568:=0
def tw6947204698230351601:=0
def tw5426778803845009068:=0
def tw3308163931402610138:=0
def tw3299390718102772839:=0
def tw2568567681987792438:=0
def tw1745001855375230464:=0
def tw11627153484242386581:=0
def tw861959475117414192:=0
def tw6678226643518934856:=0
def tw5708895428376233729:=0
def tw3673183173356923515:=0
def tw1638760875304416057:=0
def tw10961265436438068503:=0
def tw10080978366749123306:=0
def tw3897045324258219140:=0
def tw18403329614244136632:=0
def tw6396939490169367616:=0
def tw5205801417577160625:=0
def tw17888546345433028923:=0
def tw17822265680518019777:=0
def tw13418702325001953212:=0
def tw3004044773844819276:=0
def tw1339905697905941708:=0
def tw6052345686845010092:=0
def tw5813693249945767689:=0
def tw4544459111589643499:=0
def tw12391720381442342684:=0
def tw8366028953102687068:=0
def tw7248781605657993807:=0
def tw5484332224677341227:=0
def tw15689036934903893297:=0
def tw15224562495059228010:=0
def tw14526329449149413115:=0
def tw1403741610616773615:=0
def tw13373948446730359089:=0
def tw12225874509608209617:=0
def tw10512798167967679073:=0
def tw4582333300874660280:=0
def tw10982529499646027878:=0
def tw9954441999658298092:=0
def tw7869425207790001739:=0
def tw7262667104280367530:=0
def tw6630731580249035718:=0
def tw6043521197945075230:=0
def tw5202316883470707366:=0
def tw15769591533019854870:=0
def tw14551693432401934523:=0
def tw13241419072945289181:=0
def tw11950026576289955934:=0
def tw636749095967746654:=0
def tw4980011288529278823:=0
def tw4351250598775443343:=0
def tw3394461259322000293:=0
def tw9924543531845745158:=0
def tw9653249841919998262:=0
def tw9335190146192928518:=0
def tw9009595736980578834:=0
def tw7596864557811426117:=0
def tw6917949265404834443:=0
def tw5877712054282667140:=0
def tw554898160964766804:=0
def tw4765342442760105167:=0
def tw4690764340528110459:=0
def tw3409867455134364374:=0
def tw2435498649667001514:=0
def tw1752071258216269035:=0
def tw17252515104481052808:=0
def tw17176742345249031443:=0
def tw161042871989423970:=0
def tw15279833021515521480:=0
def tw13586812893409991791:=0
def tw12311070847556177002:=0
def tw10998480443660489732:=0
def tw11729126135045270496:=0
def tw9011853812699010671:=0
def tw7660535580556584288:=0
def tw7449967897640505123:=0
def tw5129744491902877314:=0
def tw2037678979542836147:=0
def tw17107671178839974760:=0
def tw16620075232483854973:=0
def tw14952897011773484358:=0
def tw14027107689765831094:=0
def tw13163678735172161409:=0
def tw1228589704075164173:=0
def tw11000988976986987856:=0
def tw7764265849883444492:=0
def tw6479660745492598434:=0
def tw5741823037679502212:=0
def tw3259318241369825977:=0
def tw2941669139847768316:=0
def tw2400660904353503925:=0
def tw2157547207293072635:=0
def tw16587239915584916687:=0
def tw16138099390192613735:=0
def tw15044130373788930190:=0
def tw14999800404911277383:=0
def tw14703456397226629287:=0
def tw13514358588583779101:=0
def tw13508332138108229243:=0
def tw12710177369676168232:=0
def tw1239817542045604045:=0
def tw10776934234268224609:=0
def tw10545382987163154040:=0
def tw10229861018719098508:=0
def tw8296794650480274679:=0
def tw8197063949964067778:=0
def tw7237238974055601203:=0
def tw18441109025181891129:=0
def tw13929990247683656080:=0
def tw13509013851929325273:=0
def tw12002201035093183752:=0
def tw11757594305264211521:=0
def tw10528663122795661664:=0
def tw10465246155205270503:=0
def tw8644978505889741351:=0
def tw9007243995905586194:=0
def tw8743479360591994661:=0
def tw8629295845074729769:=0
def tw8492182924304138185:=0
def tw368547808710861642:=0
def tw2583180049163388411:=0
def tw247258286968257961:=0
def tw13048526639300072794:=0
def tw12443528470088393529:=0
def tw11428944082634330619:=0
def tw996253470603374004:=0
def tw9904517967397063668:=0
def tw9897596715580234214:=0
def tw9745049500572585795:=0
def tw9587430146013750584:=0
def tw9456577727547247525:=0
def tw9402017841393630310:=0
def tw9360992745583840470:=0
def tw9192583568892049284:=0
def tw903817340441764611:=0
def tw8958759146726869935:=0
def tw88265283864764534:=0
def tw877739817017122555:=0
def tw8620467314485030772:=0
def tw8543352875131533888:=0
def tw847369325367807458:=0
def tw8379120819753606175:=0
def tw8038722756640160963:=0
def tw800885464698077940:=0
def tw7872134177169250479:=0
def tw7722940126148407677:=0
def tw7641838096144060307:=0
def tw7603631858966023288:=0
def tw7537528608129892563:=0
def tw7400979586298261704:=0
def tw7238402740907959055:=0
def tw7192200123528876846:=0
def tw7089356865550948330:=0
def tw6822803941576627459:=0
def tw6780702334641825754:=0
def tw664068185441039715:=0
def tw6427839333436050276:=0
def tw6392221166472121332:=0
def tw6373460694901943787:=0
def tw6369941579289599870:=0
def tw6346453043225799076:=0
def tw6331535202077191067:=0
def tw6302273062581684876:=0
def tw6293391073526731251:=0
def tw6248712763952972658:=0
def tw6124386846082987306:=0
def tw6068883515028655714:=0
def tw5977294343755415042:=0
def tw5826589503849034484:=0
def tw5799399207469673611:=0
def tw5628701650355312716:=0
def tw552387639316418064:=0
def tw5175493676254847557:=0
def tw4962719435084823972:=0
def tw4519540579006271962:=0
def tw45131287643139162:=0
def tw447275893860109764:=0
def tw4394067245924443226:=0
def tw4381766970187563330:=0
def tw4294808749590437264:=0
def tw4190257554268874484:=0
def tw4078270717759645755:=0
def tw4045736211711727677:=0
def tw4004802483756802380:=0
def tw3929708626502411623:=0
def tw3695700579411610157:=0
def tw3627994386565215649:=0
def tw3519154672946579034:=0
def tw3317832941986612595:=0
def tw3317326987318623390:=0
def tw3280123315979342056:=0
def tw3274860732988537189:=0
def tw283840241782992532:=0
def tw2702138327658761038:=0
def tw2508137504375402177:=0
def tw2426605660192645670:=0
def tw2397614172451253501:=0
def tw2364307647660591277:=0
def tw2250152365483625646:=0
def tw2157578619877544199:=0
def tw2152118388609116360:=0
def tw2130063009995775193:=0
def tw2126981930935919101:=0
def tw18392039240252851917:=0
def tw1825481640438513503:=0
def tw18202995075598821721:=0
def tw18178307958556478411:=0
def tw18129610486483399217:=0
def tw17879901555632209755:=0
def tw17713636401108060083:=0
def tw17563787843461528910:=0
def tw17309100702135977840:=0
def tw17271724922287169930:=0
def tw17261676233833732995:=0
def tw16884593667090984616:=0
def tw16791876599165766936:=0
def tw16730059347694604006:=0
def tw16654891616896708149:=0
def tw16550289091951685560:=0
def tw16344381770054682641:=0
def tw16020929413266831382:=0
def tw15822563517278487976:=0
def tw15587089165418762395:=0
def tw15508669904901781835:=0
def tw15386661529937621664:=0
def tw15109889355801434234:=0
def tw15068529579651686361:=0
def tw15062688611508357489:=0
def tw14898300390827335910:=0
def tw14877922061311128790:=0
def tw14802045630177130693:=0
def tw14656365662362821879:=0
def tw14648751915087295437:=0
def tw14575690203420545926:=0
def tw14408081659411406730:=0
def tw14211796592620758998:=0
def tw14126160506818038287:=0
def tw14000291841081393193:=0
def tw13819699788258611208:=0
def tw1379150859944519719:=0
def tw13737800627851647973:=0
def tw13349172191501245701:=0
def tw13256863512179736236:=0
def tw13104491968943684743:=0
def tw12903408916832061300:=0
def tw1289183118069089023:=0
def tw12619452755884669488:=0
def tw12412668693802931603:=0
def tw11959865590308053905:=0
def tw1194189670687415678:=0
def tw11872552578806595934:=0
def tw11828120790588961099:=0
def tw11821785493029399745:=0
def tw1159700373076580754:=0
def tw11476304942374433359:=0
def tw11392237957304923195:=0
def tw11383427607987990616:=0
def tw11283671314297408336:=0
def tw11033452968554024044:=0
def tw10857630152758100643:=0
def tw10506892612253343187:=0
def tw10398400131772358460:=0
def tw10239361560174187329:=0
def tw10207893575603500679:=0
def tw9858691014390060461:=0
def tw9659534321567245981:=0
def tw9615888260232028811:=0
def tw9349814745766269514:=0
def tw8985812367722760027:=0
def tw8670900267012595346:=0
def tw795754977321735741:=0
def tw7616056829431422786:=0
def tw7468320506695530096:=0
def tw7244231319000898217:=0
def tw7201694102252447373:=0
def tw7150767066040663368:=0
def tw6873507290979007581:=0
def tw6834348998696519503:=0
def tw668402262657759647:=0
def tw6095947502840922253:=0
def tw5533516070136121914:=0
def tw5448024184578293531:=0
def tw5092095197038696269:=0
def tw499377342176833433:=0
def tw4460438283195019021:=0
def tw444499526336323114:=0
def tw4389720928698796539:=0
def tw4282947508727995004:=0
def tw4101043306538994971:=0
def tw4019721229585723829:=0
def tw3736749406737129143:=0
def tw3660448343438815753:=0
def tw3598128231234959385:=0
def tw3208189153817179089:=0
def tw3117104248997095022:=0
def tw2290622391348670826:=0
def tw2254696439186933595:=0
def tw2141017992589427622:=0
def tw2086833093243499628:=0
def tw2022414585384155581:=0
def tw18166408279923545762:=0
def tw17804346761342519186:=0
def tw17802470913669409784:=0
def tw16805095386308865445:=0
def tw16656018577777394290:=0
def tw16046467385071429642:=0
def tw15865553512051736857:=0
def tw15845216033221741081:=0
def tw15776182382375971570:=0
def tw15671779395495236838:=0
def tw15589713452423717333:=0
def tw15544079046857227574:=0
def tw15440790084445013842:=0
def tw15163086406977518296:=0
def tw14799633283361459882:=0
def tw14431276024964619788:=0
def tw14261963354851873082:=0
def tw14158017030664622387:=0
def tw13991579373968015953:=0
def tw13788844611265243022:=0
def tw13708500084603054764:=0
def tw13598340283192080383:=0
def tw13577184314446516438:=0
def tw13416319322505954646:=0
def tw13286604715886939747:=0
def tw13038185897683543603:=0
def tw12829701171582749829:=0
def tw12826786973513977842:=0
def tw1279254576696889047:=0
def tw12780674939480230996:=0
def tw12756381147064027442:=0
def tw12700562022551989753:=0
def tw12567874491364735062:=0
def tw12179900157613355029:=0
def tw11897615649604737059:=0
def tw1170786955933759651:=0
def tw1164316713426169944:=0
def tw11430473298231051327:=0
def tw11335395124504448137:=0
def tw11062693288530345038:=0
def tw110290023929111506:=0
def tw10864155557515906291:=0
def tw1070644266207393639:=0
def tw10442777681946811255:=0
def tw10106022483118288383:=0
end PySem.W.Fast
open PySem PySem.W PyProof.Rows
set_option maxRecDepth 100000 in
set_option maxHeartbeats 0 in
theorem PySem.Challenge.cw_slanttables_k42_papers_of_being_above_holds : PySem.Challenge.rw_slanttables_k42_papers_of_being_above.Holds := by
  w_on;o_law;k_head;(case hw=>w_witness2)
  k_fill
  refine LP.B.C.Q0.Q2.walk (l:=PySem.Challenge.rw_slanttables_k42_papers_of_being_above) rfl rfl (λw h Y=>PySem.W.kIn_of Y) ?F
  case F=>
    intro w mg fa h KX G hmg;refine LP.B.C.Q0.Q2.all_mk ?_ hmg;constructor
    all_goals first
      |(refine' LP.mkF KX G ?a ?l ?c ?k;(case a=>k_is);(case l=>k_is);(case c=>k_is);(case k=>k_is))
      |(refine' mg_none_of KX G ?a;case a=>k_is)
      |(refine' LP.mkC KX G ?a;case a=>k_is)
      |(refine' LP.mkI KX G ?a;case a=>k_is)
      |(refine' LP.mkT KX G ?a ?l;(case a=>k_is);(case l=>k_is))
      |(refine' LP.mkX KX G ?a ?e;(case a=>k_is);(case e=>k_exc))
      |(refine' LP.mkH KX G ?a ?e ?_;(case a=>k_is);(case e=>k_exc);intro n hn;simp only[LP.LX,Yam,d7,or_false] at hn;first|(rcases hn with rfl|rfl|rfl|rfl|rfl|rfl|rfl|rfl|rfl|rfl|rfl<;>(refine' LP.exD ?a ?b;(case a=>k_is);(case b=>k_is)))|(rcases hn with rfl|rfl|rfl|rfl|rfl|rfl<;>(refine' LP.exD ?a ?b;(case a=>k_is);(case b=>k_is)))|(rcases hn with rfl|rfl|rfl<;>(refine' LP.exD ?a ?b;(case a=>k_is);(case b=>k_is)))|(subst hn;refine' LP.exD ?a ?b;(case a=>k_is);(case b=>k_is)))
      | (refine ⟨λn hn=>?_⟩;simp only [LP.LX,Yam,d7,or_false] at hn;rcases hn with rfl | rfl | rfl | rfl | rfl | rfl<;>
         (refine' LP.exX ?a (LP.clsX_of ?g ?n ?b ?h ?c ?d ?t ?o) ?k ?_;(case a=>k_is);(case g=>k_is);(case n=>k_is);(case b=>k_is);(case h=>k_is);(case c=>k_is);(case d=>k_is);(case t=>k_is);(case o=>k_is);(case k=>kit_is)
          intro m hm;simp only[LP.MX,LP.LX,Yam,d7,or_false] at hm;rcases hm with rfl|rfl|rfl|rfl|rfl|rfl|rfl|rfl|rfl<;>
           (refine' LP.exC ?a ?b;(case a=>k_is);(case b=>first|(refine Eq.trans (b:=some true) ?_ (by decide +kernel);kit_is)|(refine Eq.trans (b:=some false) ?_ (by decide +kernel);kit_is)))))
