import PyProof.Rows.All
import Wide.All
import OpenK.AllK
import Wide.FinOn
import PySem.Challenge.RW_slanttables_k73_a_desk_is_told
set_option genSizeOf false
set_option genInjectivity false
set_option compiler.extract_closed false
set_option Elab.async false
set_option linter.all false
set_option maxRecDepth 100000
set_option exponentiation.threshold 400
set_option maxHeartbeats 8000000
def cc:=@PySem.Heap.lt_size
def cX:=@Nat.lt_of_lt_of_le
def g9:=@Nat.lt_irrefl
def v6:=@Array.append_assoc
def er:=@Nat.ne_of_lt
def jU:=@Nat.lt_trans
def Yag:=@List.mem_range
def gA:=@Nat.le_trans
def sh:=@Nat.le_of_lt
def uL:=@List.filterMap_cons
def dk:=@List.mem_cons_self
def cK:=@List.mem_cons_of_mem
def Yam:=@List.mem_cons
def Yan:=@List.mem_append
def si:=@List.mem_append_left
def Yap:=@List.getElem?_eq_some_iff
def dW:=@List.getElem?_set_self
def dg:=@List.getElem?_set_ne
def rf:=@Array.length_toList
def uM:=@Bool.false_and
def cv:=@PySem.Heap.get?_push_of_some
def eV:=@PySem.Heap.get?_push_size
def bP:=@Nat.le_refl
def Yax:=@List.mem_filterMap
def iO:=@List.mem_append_right
def kq:=@Bool.eq_iff_iff
def bW:=@Bool.false_ne_true
def cM:=@List.size_toArray
def v7:=@Array.find?_toList
theorem cD{α}{a:α}{l:List α}:(a::l).length=l.length+1:=rfl
def cF:=@List.map_cons
def bR:=@List.length_map
def rg:=@PySem.Heap.size_push
def v8:=@Nat.lt_succ_self
def gW:=@Nat.zero_le
def jj:=@List.append_nil
def YaK:=@List.nodup_cons
def sj:=@List.of_mem_zip
def jV:=@List.length_take
def kt:=@List.getElem?_append_right
def ku:=@List.getElem?_replicate
def lG:=@List.getElem?_append_left
def eF:=@List.getElem?_map
def v9:=@List.getElem?_take_of_lt
def rh:=@List.mem_of_getElem?
def gu:=@List.length_append
def lY:=@List.length_replicate
theorem nb(n:Nat):(n:Int).toNat=n:=rfl
def kv:=@List.length_drop
def cf:=@Bool.and_eq_true
def ou:=@PySem.Heap.get?_update_self
def lZ:=@PySem.Heap.get?_update_other
def et:=@List.length_set
theorem eX{α}{a:α}{n}:List.replicate (n+1) a=a::List.replicate n a:=rfl
def nc:=@List.flatten_cons
def l0:=@List.append_assoc
def wg:=@List.foldl_cons
def oy:=@List.length_singleton
def uN:=@List.length_dropLast
theorem eG{α}(l:List α):[]++l=l:=rfl
def hJ:=@List.map_nil
def rj:=@List.any_cons
def gB:=@List.lookup_cons
def nh:=@Bool.not_eq_true'
def cw:=@Bool.false_eq_true
def wj:=@Option.map_some
def Ybe:=@List.all_eq_true
def uO:=@Bool.or_eq_true
def wk:=@Nat.le_of_succ_le
def jW:=@Nat.lt_or_ge
def sk:=@List.getD_eq_getElem?_getD
def wm:=@Array.getElem?_eq_getElem
def eY:=@List.getElem?_eq_none
def uP:=@List.reverse_cons
def uQ:=@List.length_reverse
def Ybn:=@Array.getElem?_eq_some_iff
def wn:=@List.contains_cons
def eZ:=@List.not_mem_nil
def sm:=@Nat.eq_zero_or_pos
def rk:=@List.drop_zero
def sr:=@List.take_of_length_le
def iP:=@List.map_map
def iQ:=@List.getElem?_eq_getElem
def Ybv:=@List.mem_iff_getElem?
def Ybw:=@List.mem_iff_getElem
def uR:=@List.getElem_mem
def Yby:=@List.mem_map
def wq:=@List.map_congr_left
theorem fG{α}:([]:List α).length=0:=rfl
theorem kx{α}{a:α}{l k:List α}:(a::l)++k=a::(l++k):=rfl
theorem l3{α}{a:α}{l:List α}:(a::l)[0]? = some a:=rfl
theorem l4{α}{a:α}{n:Nat}{l:List α}:(a::l)[n+1]? = l[n]? :=rfl
theorem l5{α}{a b:α}{l:List α}:(a::l).set 0 b=b::l:=rfl
theorem l6{α}{a b:α}{n}{l:List α}:(a::l).set (n+1) b=a::l.set n b:=rfl
def l8:=@List.replicate_zero
def uS:=@List.all_map
def ss:=@Nat.min_eq_left
def uT:=@Int.fdiv_eq_ediv_of_nonneg
def dA:=@Bool.not_true
def zl:=@Int.fmod_eq_emod_of_nonneg
def su:=@List.map_reverse
def sw:=@List.map_drop
def sx:=@List.map_take
def gC:=@Bool.not_false
def sB:=@Array.toList_append
def uU:=@List.sum_cons
def lH:=@List.map_append
def wr:=@Int.eq_nat_or_neg
def wu:=@Array.all_eq_true_iff_forall_mem
def YbV:=@List.mem_singleton
def ww:=@List.lookup_nil
def zm:=@List.set_eq_take_append_cons_drop
def oz:=@Nat.lt_of_le_of_lt
def wx:=@Option.isSome_none
def wy:=@List.dropLast_concat_getLast
def wz:=@List.mem_map_of_mem
def wD:=@List.head_eq_of_cons_eq
def Yb3:=@List.length_eq_zero_iff
section
open PySem PySem.Spec PyProof.Rows PySem.W
def Hf:=@wpAny_bind
abbrev Hg:=PySem.W.Frag
def Hh:=@if_pos
def Hi:=@wpAny_pure
def Hj:=@absurd
def Hk:=@decide_eq_true_eq
def Hl:=@decide_eq_true
def Hn:=@Option.some.inj
def Ho:=@PySem.mem_of_lookup
def Hq:=@wpAny_newObj_type
def Hr:=@False.elim
def Hs:=@boot_isinstance
def Ht:=@decide_eq_false
def Hu:=@wpAny_field
def Hv:=@Ne.symm
def Hw:=@wpAny_ite_split
def Hx:=@wpAny_Call_Name_kw
def Hy:=@boot_len
def Hz:=@wpAny_holding
def HB:=@wpAny_mono
def HC:=@wpAny_truthy_bool
def HD:=@beq_iff_eq
def HE:=@wpAny_of_eq
def HF:=@wpAny_loadPart_at
def HG:=@wpAny_call_entry
def HH:=@beq_self_eq_true
def HI:=@wpAny_specialOf
def HJ:=@of_decide_eq_true
def HK:=@wpAny_setField
def HL:=@wpAny_newFunctionEnv_cells
def HM:=@wpAny_passesOwn
def HN:=@wpAny_typeOf
def HP:=@wpAny_execs_cons
def HQ:=@wpAny_execs_nil
def HR:=@wpAny_rule
def HS:=@boot_tuple
def HU:=@wpAny_attempt
end
namespace L2
open PySem PySem.Spec PyProof.Rows
variable{κ:Type}{a b it dx:Addr}{o:Obj}{P prog:Program}{w:World}{h h':Heap}{x name m qual:Str}{e c tg:Expr}{pins:List (Addr×Obj)}{s s':Shared}{g':Array GenState}{t' k:Nat}{d':Drawn}{ch fp:List Addr}{N ps:List Str}{M:Model}{A:Around}{E Q:Value->Shared->Prop}{pos pos' p apos:Pos}{K:Hg}{es:List Expr}{g:Int->Int->Int}{pl:Sem Bool}{body:List Stmt}{op:CmpOp}{us:List Value}{mA mg:Str->Option Value}{kw:List (Str×Value)}{outer:List Env}{fd:FuncData}{scope:Scope}{osl:Array (Option Value)}
abbrev gX:=Sum Int Str
def nq:gX->Value->Bool
 |.inl k,v=>Value.isInt k v
 |.inr x,v=>Value.isStrOf x v
def wE(w:World):gX->Int
 |.inl k=>hashInt k
 |.inr x=>hashStr w x
theorem aZ:∀{k:gX} {v:Value},nq k v=true->(∃i t,k=Sum.inl i/\v=Value.int i t)\/(∃x t,k=Sum.inr x/\v=Value.str x t)
 |.inl i,v,h=>by
  obtain⟨t,e⟩:=Value.isInt_shape (k:=i) (v:=v) h;exact .inl ⟨i,t,rfl,e⟩
 |.inr x,v,h=>by
  obtain⟨t,e⟩:=Value.isStrOf_shape (x:=x) (v:=v) h;exact .inr ⟨x,t,rfl,e⟩
theorem oA(a b:Int):decide ((Sum.inl a:gX)=Sum.inl b)=(a==b):=by
 by_cases e:a=b
 .subst e;simp
 .have h:¬(Sum.inl a:gX)=Sum.inl b:=λq=>e (Sum.inl.inj q)
  rw[Ht h];exact(beq_eq_false_iff_ne.mpr e).symm
theorem oB(a b:Str):decide ((Sum.inr a:gX)=Sum.inr b)=decide (a=b):=by
 by_cases e:a=b
 .subst e;simp
 .have h:¬(Sum.inr a:gX)=Sum.inr b:=λq=>e (Sum.inr.inj q)
  rw[Ht h,Ht e]
theorem oC(a:Int)(b:Str):decide ((Sum.inl a:gX)=Sum.inr b)=false:=Ht (λq=>nomatch q)
theorem oE(a:Str)(b:Int):decide ((Sum.inr a:gX)=Sum.inl b)=false:=Ht (λq=>nomatch q)
def fH(prog:Program)(w:World):PySem.KeyKind prog w gX where
 is:=nq
 hash:=wE w
 inj:=λv a b ha hb=>by
  rcases aZ ha with⟨i,t,rfl,rfl⟩|⟨x,t,rfl,rfl⟩
  .rcases aZ hb with⟨j,u,rfl,e⟩|⟨y,u,rfl,e⟩
   .injection e with e1 _;rw[e1]
   .exact nomatch e
  .rcases aZ hb with⟨j,u,rfl,e⟩|⟨y,u,rfl,e⟩
   .exact nomatch e
   .injection e with e1 _;rw[e1]
 byValue:=λk v h=>by
  rcases aZ h with⟨i,t,rfl,rfl⟩|⟨x,t,rfl,rfl⟩<;>rfl
 pyHash:=λhv h=>by
  rcases aZ hv with⟨i,t,rfl,rfl⟩|⟨x,t,rfl,rfl⟩
  .exact wpAny_pyHash_int h
  .exact wpAny_pyHash_str h
 eqBool:=λhu hv h=>by
  rcases aZ hu with⟨i,t,rfl,rfl⟩|⟨x,t,rfl,rfl⟩
  .rcases aZ hv with⟨j,u,rfl,rfl⟩|⟨y,u,rfl,rfl⟩
   .rw[oA] at h;exact wpAny_eqBool_int h
   .rw[oC] at h;exact SeqAt.EqAt.int_str i t y u _ _ _ _ h
  .rcases aZ hv with⟨j,u,rfl,rfl⟩|⟨y,u,rfl,rfl⟩
   .rw[oE] at h;exact SeqAt.EqAt.str_int x t j u _ _ _ _ h
   .rw[oB] at h;exact wpAny_eqBool_str h
 «strs»:=λk x t v h=>by
  rcases aZ h with⟨i,u,rfl,e⟩|⟨y,u,rfl,e⟩
  .exact nomatch e
  .injection e with e1 _
   subst e1;cases v<;>rfl
set_option genInjectivity true in
inductive V where
 |non|bl (b:Bool)|int (i:Int)|str (x:Str)|byt (b:Array UInt8)|flt (b:UInt64)|ref (a:Addr)|ty (n:String)
 deriving DecidableEq
variable{v y:V}{xs vs:List V}{gV:List V->List V->List V}
def RelV:V->Value->Prop
 |.non,u=>u=Value.none
 |.bl b,u=>u=Value.bool b
 |.int i,u=>∃t,u=Value.int i t
 |.str x,u=>∃t,u=Value.str x t
 |.byt b,u=>∃t,u=Value.bytes b t
 |.flt b,u=>∃t,u=Value.float b t
 |.ref a,u=>u=Value.ref a
 |.ty n,u=>u=Value.type n
abbrev Vals:List V->List Value->Prop:=Paired RelV
theorem Vals.length{xs:List V}{us:List Value}(r:Vals xs us):xs.length=us.length:=Paired.length r
theorem Vals.get:∀{xs:List V} {us:List Value} {i:Nat} {x:V},Vals xs us->xs[i]? = some x->∃u,us[i]? = some u/\RelV x u
 |_,_,_,_,.nil,e=>by simp at e
 |_,_,0,_,.cons r _,e=>by simp at e;subst e;exact⟨_,rfl,r⟩
 |_,_,i+1,x,.cons _ t,e=>by
  obtain⟨u,h1,h2⟩:=Vals.get (i:=i) (x:=x) t (by simpa using e);exact⟨u,by simpa using h1,h2⟩
theorem Vals.set{x:V}{u:Value}(r:RelV x u):∀{xs:List V} {us:List Value} (i:Nat),Vals xs us->Vals (xs.set i x) (us.set i u)
 |_,_,_,.nil=>.nil
 |_,_,0,.cons _ t=>.cons r t
 |_,_,i+1,.cons q t=>.cons q (Vals.set r i t)
theorem Vals.append:∀{xs ys:List V} {us ws:List Value},Vals xs us->Vals ys ws->Vals (xs++ys) (us++ws)
 |_,_,_,_,.nil,s=>s
 |_,_,_,_,.cons r t,s=>.cons r (Vals.append t s)
theorem Vals.take:∀{xs:List V} {us:List Value} (n:Nat),Vals xs us->Vals (xs.take n) (us.take n)
 |_,_,0,_=>.nil
 |_,_,_+1,.nil=>.nil
 |_,_,n+1,.cons r t=>.cons r (Vals.take n t)
theorem Vals.drop:∀{xs:List V} {us:List Value} (n:Nat),Vals xs us->Vals (xs.drop n) (us.drop n)
 |_,_,0,r=>r
 |_,_,_+1,.nil=>.nil
 |_,_,n+1,.cons _ t=>Vals.drop n t
def RelO:Option V->Option Value->Prop
 |some v,some u=>RelV v u
 |none,none=>True
 |_,_=>False
def KV:List (κ×V)->List (κ×Value)->Prop:=Paired λ(p:κ×V) (q:κ×Value)=>p.1=q.1/\RelV p.2 q.2
def kV:gX->V
 |.inl i=>.int i
 |.inr x=>.str x
set_option genInjectivity true in
inductive HO where
 |lst (xs:List V)
 |tup (xs:List V)
 |dK (kvs:List (gX×V))|dT (kvs:List (List gX×V))
 |set (S:Int->Bool) (n:Nat)
 |ins (C dx:Addr) (fs:List (Str×V))
 |own (x:Addr)
 |xd (fs:List (Str×V))
 |met (f x:Addr)
 |rng (lo hi:Int)
 |frz (o:Obj) (u:HO)
 |tbl (ps:Array Value)
 |ext (φ:Heap->Prop)
abbrev Hp:=Addr->Option HO
variable{H H':Hp}{R:V->V->Hp->Prop}
def upd(H:Hp)(a:Addr)(o:HO):Hp:=λb=>if b=a then some o else H b
theorem aG{o:HO}:upd H a o a=some o:=by unfold upd;rw[Hh rfl]
theorem aE{o:HO}(h:b≠a):upd H a o b=H b:=by unfold upd;rw[if_neg h]
theorem bX{o:HO}(h:H a=some o)(h':H b=none):a≠b:=by
 intro e;subst e;rw[h] at h';cases h'
section
variable(P:Program)(w:World)
def ObjOk(H:Hp)(h:Heap)(a:Addr):HO->Prop
 |.lst xs=>xs.length<=sizeLine/\∃(its:List Value) (n:Nat),Vals xs its/\h.get? a=some { cls:=.type "list",data:=.seq its.toArray n }
 |.tup xs=>xs.length<=sizeLine/\∃its:List Value,Vals xs its/\IsTup h a its.toArray
 |.dK kvs=>kvs.length<=sizeLine/\(a==sysModules)=false/\∃vs,KV kvs vs/\h.DictOf (fH P w) a vs
 |.dT kvs=>kvs.length<=sizeLine/\(a==sysModules)=false/\∃xs:List (List gX×Addr×Value),
   Paired (λ(p:List gX×V) (q:List gX×Addr×Value)=>p.1=q.1/\H q.2.1=some (.tup (p.1.map kV))/\RelV p.2 q.2.2) kvs xs/\
   ∃o es ep,h.get? a=some o/\o.ExactDict/\o.data=.dict es ep/\es.toList=xs.map (entryOfKey (tupleKind (fH P w)))/\(xs.map (·.1)).Nodup
 |.set S n=>h.SetOf (intKind P w) a S n
 |.ins C dx fs=>H dx=some (.own a)/\fs.length<=1000/\dx≠a/\h.get? a=some (PySem.W.instObj C dx)/\
   ∃mA,h.Ns1 dx mA/\(∀f,RelO (fs.lookup f) (mA f))/\PySem.Within mA (fs.map (·.1))
 |.own _=>∃o,h.get? a=some o
 |.xd fs=>∃mA,h.Ns1 a mA/\∀f,RelO (fs.lookup f) (mA f)
 |.rng lo hi=>∃t u v,h.get? a=some { cls:=.type "range",data:=.fields #[.int lo t,.int hi u,.int 1 v] }
 |.frz o u=>h.get? a=some o/\ObjOk H h a u
 |.tbl ps=>h.get? a=some { cls:=.none,data:=.fields ps }
 |.met f x=>h.get? a=some (PySem.W.methodObj (.ref f) (.ref x))
 |.ext φ=>φ h/\(∃o,h.get? a=some o)/\∀h1 h2:Heap,φ h1->(∀o,h1.get? a=some o->h2.get? a=some o)->φ h2
def HOk(H:Hp)(h:Heap):Prop:=∀a o,H a=some o->ObjOk P w H h a o
end
section
variable{o:HO}
theorem ObjOk.lt(x:ObjOk P w H h a o):a<h.objs.size:=by
 cases o with
 |lst xs=>obtain⟨_,_,_,_,e⟩:=x;exact cc e
 |tup xs=>obtain⟨_,_,_,p⟩:=x;exact p.lt
 |dK kvs=>obtain⟨_,_,_,_,o,_,_,e,_⟩:=x;exact cc e
 |dT kvs=>obtain⟨_,_,_,_,o,_,_,e,_⟩:=x;exact cc e
 |set S n=>obtain⟨o,_,_,_,e,_⟩:=x;exact cc e
 |ins C dx fs=>obtain⟨_,_,_,e,_⟩:=x;exact cc e
 |own y=>obtain⟨_,e⟩:=x;exact cc e
 |xd fs=>obtain⟨_,⟨_,_,_,e,_⟩,_⟩:=x;exact cc e
 |rng lo hi=>obtain⟨_,_,_,e⟩:=x;exact cc e
 |frz ob u=>obtain⟨e,_⟩:=x;exact cc e
 |tbl ps=>exact cc (show h.get? a=some _ from x)
 |met f y=>exact cc (show h.get? a=some _ from x)
 |ext φ=>obtain⟨_,⟨_,e⟩,_⟩:=x;exact cc e
theorem Paired.mapP{α β:Type}{F G:α->β->Prop}:∀{l₁:List α} {l₂:List β},Paired F l₁ l₂->(∀a b,F a b->G a b)->Paired G l₁ l₂
 |_,_,.nil,_=>.nil
 |_,_,.cons r t,f=>.cons (f _ _ r) (Paired.mapP t f)
theorem ObjOk.stay(x:ObjOk P w H h a o)(k:∀b u,(b=a\/H b=some (.own a))->h.get? b=some u->h'.get? b=some u)
  (ho:∀b,H b=some (.own a)->H' b=some (.own a)) (ht:∀b xs,H b=some (.tup xs)->H' b=some (.tup xs)):ObjOk P w H' h' a o:=by
 induction o with
 |lst xs=>obtain⟨z,its,n,r,e⟩:=x;exact⟨z,its,n,r,k _ _ (.inl rfl) e⟩
 |tup xs=>obtain⟨z,its,r,ob,e,c⟩:=x;exact⟨z,its,r,ob,k _ _ (.inl rfl) e,c⟩
 |dK kvs=>obtain⟨z,y,vs,r,ob,es,ep,e,c⟩:=x;exact⟨z,y,vs,r,ob,es,ep,k _ _ (.inl rfl) e,c⟩
 |dT kvs=>
  obtain⟨z,y,xs,r,ob,es,ep,e,c⟩:=x;exact⟨z,y,xs,Paired.mapP r λp q z=>⟨z.1,ht _ _ z.2.1,z.2.2⟩,ob,es,ep,k _ _ (.inl rfl) e,c⟩
 |set S n=>obtain⟨ob,es,ep,t,e,c⟩:=x;exact⟨ob,es,ep,t,k _ _ (.inl rfl) e,c⟩
 |ins C dx fs=>
  obtain⟨d,z,ne,e,mA,⟨od,es,ep,e2,c⟩,r⟩:=x;exact⟨ho _ d,z,ne,k _ _ (.inl rfl) e,mA,⟨od,es,ep,k _ _ (.inr d) e2,c⟩,r⟩
 |own y=>obtain⟨ob,e⟩:=x;exact⟨ob,k _ _ (.inl rfl) e⟩
 |xd fs=>obtain⟨mA,⟨od,es,ep,e,c⟩,r⟩:=x;exact⟨mA,⟨od,es,ep,k _ _ (.inl rfl) e,c⟩,r⟩
 |rng lo hi=>obtain⟨t,u,v,e⟩:=x;exact⟨t,u,v,k _ _ (.inl rfl) e⟩
 |frz ob u ih=>obtain⟨e,q⟩:=x;exact⟨k _ _ (.inl rfl) e,ih q⟩
 |tbl ps=>
  have e:h.get? a=some { cls:=.none,data:=.fields ps }:=x;show h'.get? a=some { cls:=.none,data:=.fields ps };exact k a _ (.inl rfl) e
 |met f y=>
  have e:h.get? a=some (PySem.W.methodObj (.ref f) (.ref y)):=x;show h'.get? a=some (PySem.W.methodObj (.ref f) (.ref y));exact k a _ (.inl rfl) e
 |ext φ=>obtain⟨p,⟨o,e⟩,st⟩:=x;exact⟨st _ _ p λo q=>k _ _ (.inl rfl) q,⟨o,k _ _ (.inl rfl) e⟩,st⟩
theorem HOk.lt(x:HOk P w H h)(e:H a=some o):a<h.objs.size:=(x a o e).lt
theorem HOk.fresh(x:HOk P w H h)(e:h.objs.size<=a):H a=none:=by
 cases q:H a with
 |none=>rfl
 |some u=>exact Hj (cX (x.lt q) e) (g9 _)
theorem HOk.kept(x:HOk P w H h)(k:∀b u,h.get? b=some u->h'.get? b=some u):HOk P w H h':=λa o e=>
 (x a o e).stay (λb u _ q=>k b u q) (λ_ q=>q) λ_ _ q=>q
theorem HOk.laid(x:HOk P w H h)(k:∀b u,h.get? b=some u->h'.get? b=some u)(hp:h.objs.size<=a)(new:ObjOk P w (upd H a o) h' a o):HOk P w (upd H a o) h':=λb u e=>by
 have hn:=x.fresh hp
 by_cases hb:b=a
 .subst hb;rw[aG] at e;cases e;exact new
 .rw[aE hb] at e
  exact(x b u e).stay (λc v _ q=>k c v q) (λc q=>by rw[aE (bX q hn)];exact q) λc xs q=>by rw[aE (bX q hn)];exact q
end
def Rd(H:Hp)(a:Addr)(u:HO):Prop:=H a=some u\/∃o,H a=some (.frz o u)
theorem Rd.ok{u:HO}(r:Rd H a u)(x:HOk P w H h):ObjOk P w H h a u:=by
 rcases r with r|⟨o,r⟩
 .exact x a u r
 .obtain⟨_,q⟩:=x a _ r
  exact q
def uV:Option HO->Prop
 |some (.lst _)=>True
 |some (.dK _)=>True
 |some (.dT _)=>True
 |some (.set _ _)=>True
 |some (.ins _ _ _)=>True
 |some (.ext _)=>True
 |_=>False
section
variable{x e:Addr}{o':HO}
theorem HOk.write(ok:HOk P w H h)(mu:uV (H x))(he:e=x\/H e=some (.own x))(k:∀b u,b≠e->h.get? b=some u->h'.get? b=some u)(heo:∃u,h'.get? e=some u)
  (new:ObjOk P w (upd H x o') h' x o'):HOk P w (upd H x o') h':=λb u q=>by
 have nown:∀c y,H c=some (.own y)->c≠x:=λc y r z=>by subst z;rw[r] at mu;exact mu
 have ntup:∀c xs,H c=some (.tup xs)->c≠x:=λc xs r z=>by subst z;rw[r] at mu;exact mu
 by_cases hb:b=x
 .subst hb;rw[aG] at q;cases q;exact new
 .rw[aE hb] at q
  by_cases hbe:b=e
  .have q':H b=some (.own x):=by
    rcases he with z|z
    .exact Hj (hbe.trans z) hb
    .rw[hbe];exact z
   rw[q] at q';cases q';obtain⟨v,hv⟩:=heo;exact⟨v,by rw[hbe];exact hv⟩
  .refine(ok b u q).stay (λc v hc r=>k c v ?_ r) (λc r=>by rw[aE (nown c b r)];exact r) λc xs r=>by rw[aE (ntup c xs r)];exact r
   rcases hc with rfl|hc
   .exact hbe
   .rintro rfl
    rcases he with z|z
    .exact nown c b hc z
    .rw[hc] at z;cases z;exact hb rfl
end
structure Un(fs ex:List Addr)(H H':Hp)(h h':Heap):Prop where
 keep:∀b o,h.get? b=some o->H b=none->b∉fs->b∉ex->h'.get? b=some o
 slot:∀b o,h.get? b=some o->H b=none->b∈fs->b∉ex->∃sl,h'.get? b=some { o with slots:=sl }
 free:∀b o,h.get? b=some o->H b=none->b∉ex->H' b=none
 there:∀b o,h.get? b=some o->b∉ex->∃o',h'.get? b=some o'
 tups:∀b xs,H b=some (.tup xs)->H' b=some (.tup xs)
 frzs:∀b o u,H b=some (.frz o u)->H' b=some (.frz o u)
 tbls:∀b ps,H b=some (.tbl ps)->∃more,H' b=some (.tbl (ps++more))
 sys:mainGlobals∉ex->(∃o,h.get? mainGlobals=some o)->(∀xs,H sysModules≠some (.lst xs))->∀xs,H' sysModules≠some (.lst xs)
section
variable{fs fs' ex ex':List Addr}{H1 H2:Hp}{h1 h2:Heap}{x e:Addr}{o:HO}
theorem Un.any(u:Un fs ex H H1 h h1){ob:Obj}(q:h.get? b=some ob)(n:H b=none)(hx:b∉ex):∃sl,h1.get? b=some { ob with slots:=sl }:=by
 by_cases hb:b∈fs
 .exact u.slot b ob q n hb hx
 .exact⟨ob.slots,u.keep b ob q n hb hx⟩
theorem Un.trans(a:Un fs ex H H1 h h1)(b:Un fs ex H1 H2 h1 h2):Un fs ex H H2 h h2 where
 keep:=λc ob q n hc hx=>b.keep c ob (a.keep c ob q n hc hx) (a.free c ob q n hx) hc hx
 slot:=λc ob q n hc hx=>by
  obtain⟨sl,e1⟩:=a.slot c ob q n hc hx;obtain⟨sl',e2⟩:=b.slot c _ e1 (a.free c ob q n hx) hc hx;exact⟨sl',e2⟩
 free:=λc ob q n hx=>by
  obtain⟨o',e1⟩:=a.there c ob q hx;exact b.free c o' e1 (a.free c ob q n hx) hx
 there:=λc ob q hx=>by
  obtain⟨o',e1⟩:=a.there c ob q hx;exact b.there c o' e1 hx
 tups:=λc xs q=>b.tups c xs (a.tups c xs q)
 frzs:=λc ob xs q=>b.frzs c ob xs (a.frzs c ob xs q)
 tbls:=λc ps q=>by
  obtain⟨m1,e1⟩:=a.tbls c ps q;obtain⟨m2,e2⟩:=b.tbls c _ e1;exact⟨m1++m2,by rw[e2,v6]⟩
 sys:=λhx ⟨o,e⟩ n=>b.sys hx (a.there _ o e hx) (a.sys hx ⟨o,e⟩ n)
theorem Un.kept(k:∀b u,h.get? b=some u->h'.get? b=some u):Un fs ex H H h h':=
 ⟨λb ob q _ _ _=>k b ob q,λb ob q _ _ _=>⟨ob.slots,k b ob q⟩,λ_ _ _ n _=>n,λb ob q _=>⟨ob,k b ob q⟩,λ_ _ q=>q,λ_ _ _ q=>q,λ_ ps q=>⟨#[],by rw[q];simp⟩,λ_ _ n=>n⟩
theorem Un.refl:Un fs ex H H h h:=Un.kept λ_ _ q=>q
theorem Un.laid(k:∀b u,h.get? b=some u->h'.get? b=some u)(hp:h.objs.size<=a)(hn:H a=none):Un fs ex H (upd H a o) h h' where
 keep:=λb u q _ _ _=>k b u q
 slot:=λb u q _ _ _=>⟨u.slots,k b u q⟩
 free:=λb u q n _=>by rw[aE (er (cX (cc q) hp))];exact n
 there:=λb u q _=>⟨u,k b u q⟩
 tups:=λb xs q=>by rw[aE (bX q hn)];exact q
 frzs:=λb u xs q=>by rw[aE (bX q hn)];exact q
 tbls:=λb ps q=>⟨#[],by rw[aE (bX q hn),q];simp⟩
 sys:=λ_ ⟨_,q⟩ n=>by rw[aE (er (cX (jU (by decide) (cc q)) hp))];exact n
theorem Un.write(mu:uV (H x))(he:e=x\/H e=some (.own x))(k:∀b u,b≠e->h.get? b=some u->h'.get? b=some u)(heo:∃u,h'.get? e=some u)(hk:(∃us,H x=some (.lst us))\/∀us,o≠.lst us):Un fs ex H (upd H x o) h h':=by
 have hx:∀b,H b=none->b≠x:=λb n z=>by subst z;rw[n] at mu;exact mu
 have hb:∀b,H b=none->b≠e:=λb n z=>by
  subst z;rcases he with r|r
  .exact hx b n r
  .rw[n] at r;cases r
 have hm:∀b u,H b=some u->¬uV (some u)->b≠x:=λb u q nm z=>by subst z;rw[q] at mu;exact nm mu
 refine ⟨λb u q n _ _=>k b u (hb b n) q,λb u q n _ _=>⟨u.slots,k b u (hb b n) q⟩,λb u q n _=>by rw [aE (hx b n)];exact n,λb u q _=>?_,
  λb xs q=>by rw[aE (hm b _ q λz=>z)];exact q,λb u xs q=>by rw[aE (hm b _ q λz=>z)];exact q,λb ps q=>⟨#[],by rw[aE (hm b _ q λz=>z),q];simp⟩,λ_ _ n ys=>by
   by_cases z:sysModules=x
   .rw[z,aG]
    rcases hk with⟨us,hk⟩|hk
    .exact Hj (z▸hk) (n us)
    .exact λy=>hk ys (Hn y)
   .rw[aE z];exact n ys⟩
 by_cases hbe:b=e
 .subst hbe;exact heo
 .exact⟨u,k b u hbe q⟩
end
def uW(h:Heap)(H:Hp):List Addr:=(List.range h.objs.size).filter λa=>(H a).isSome
def fJ(h:Heap)(H:Hp):Heap:=PySem.W.hideAll h (uW h H)
theorem jk(h:Heap)(H:Hp):(fJ h H).objs.size=h.objs.size:=PySem.W.hideAll_size _ _
theorem ky(e:h.get? b=some o)(n:H b=none):(fJ h H).get? b=some o:=
 PySem.W.hideAll_get _ e λhm=>by
  have q:(H b).isSome=true:=(List.mem_filter.mp hm).2;rw[n] at q;simp at q
theorem ma(e:(fJ h H).get? b=some o):h.get? b=some o/\H b=none:=by
 have e':h.get? b=some o:=PySem.W.of_hideAll (uW h H) e;refine⟨e',?_⟩;cases q:H b with
 |none=>rfl
 |some x=>
  have hm:b∈uW h H:=List.mem_filter.mpr ⟨Yag.mpr (cc e'),by simp[q]⟩;have z:(fJ h H).get? b=none:=PySem.W.hideAll_none (uW h H) hm;rw[z] at e;cases e
def md(g h:Heap)(L:Addr):List (Addr×Obj):=(List.range h.objs.size).filterMap λa=>if a=L\/(g.get? a).isSome=true then none else(h.get? a).map λo=>(a,o)
def bD(g h:Heap)(L d:Addr):List (Addr×Obj):=(md g h L).filter λp=>decide (p.1≠d)
structure Mod(K:Hg)(mg:Str->Option Value)(base:Heap):Prop where
 kin:K.In base
 glob:base.Ns mainGlobals mg
 blt:∃mb,base.Ns builtinsNs mb/\∀x:Str,x≠ "__name__" ->mb x=bootBuiltins x
 nolimit:base.NoLimit
structure Cx where
 prog:Program
 w:World
 K:Hg
 mg:Str->Option Value
 base:Heap
 A:Around
 N:List Str
 s₀:Shared
 H₀:Hp
 env:Env
 outer:List Env
 stack:List Env
 ex:List Addr
 fn:Str->Bool
 calm:Bool
 pn:List (Addr×Obj)
 xe:Value->Shared->Prop
variable{X:Cx}
def ce(l:List Env):List Addr:=l.filterMap (·.frame)
abbrev Cx.fs(X:Cx):List Addr:=ce X.outer
def oF(sc:Scope)(x:Str):Prop:=sc.names.lookup x=some .local\/sc.names.lookup x=some .cell\/sc.names.lookup x=some .free
def jX(sc:Scope)(x:Str):Prop:=sc.names.lookup x=some .local\/sc.names.lookup x=some .cell
def wG(env:Env)(h:Heap)(m:Str->Option Value)(x:Str)(u:Value):Prop:=
 (env.kindOf x=some .local/\m x=some u)\/((env.kindOf x=some .cell\/env.kindOf x=some .free)/\∃c,env.cells.lookup x=some c/\h.IsCell c (some u))
structure Cx.Ok(X:Cx):Prop where
 mod:Mod X.K X.mg X.base
 kind:X.env.scope.kind=.function
 glob:X.env.globals=mainGlobals
 blt:X.env.builtins=builtinsNs
 above:X.s₀.heap.objs.size<=X.env.locals
 inj:∀x y c,X.env.cells.lookup x=some c->X.env.cells.lookup y=some c->x=y
 has:∀x,(X.env.kindOf x=some .cell\/X.env.kindOf x=some .free)->∃c,X.env.cells.lookup x=some c
 cab:∀x c,X.fn x=true->X.env.cells.lookup x=some c->X.s₀.heap.objs.size<=c
 hd:X.calm=true->X.A.handled=none
 frames:X.A.frames=some X.stack
 stk:X.stack=X.outer\/(X.stack=X.env::X.outer/\X.env.frame=some X.env.locals)
 exf:∀b∈X.ex,b≠X.env.locals/\∀x c,X.env.cells.lookup x=some c->c≠b
 bs:∀b o,X.base.get? b=some o->X.s₀.heap.get? b=some o/\X.H₀ b=none
 bsz:X.base.objs.size<=X.s₀.heap.objs.size
 noex:∀b o,X.base.get? b=some o->b∉X.ex
 exfs:∀b∈X.ex,b∉X.fs
 funs:X.s₀.heap.FunFrames X.base X.outer
 frf:∀b∈X.fs,X.H₀ b=none
 sys0:∀xs,X.H₀ sysModules≠some (.lst xs)
structure Inv(X:Cx)(pins:List (Addr×Obj))(σ:List (Option V))(H:Hp)(s:Shared):Prop where
 ok:X.Ok
 os:s.os=X.s₀.os
 bare:AllBare s.gens
 base:Un X.fs X.ex X.H₀ H X.s₀.heap s.heap
 loc:∃m,s.heap.Ns X.env.locals m/\∀(i:Nat) (x:Str) (v:V),X.N[i]? = some x->σ[i]? = some (some v)->oF X.env.scope x->∃u,RelV v u/\wG X.env s.heap m x u
 cell:∀x c,X.env.cells.lookup x=some c->∃v,s.heap.IsCell c v
 free:H X.env.locals=none
 freeC:∀x c,X.env.cells.lookup x=some c->H c=none
 pin:∀p∈X.pn++pins,s.heap.get? p.1=some p.2/\H p.1=none/\p.1≠X.env.locals/\p.1∉X.fs/\∀v,p.2.data≠.cell v
 hok:HOk X.prog X.w H s.heap
 len:σ.length=X.N.length
section
variable{σ:List (Option V)}
theorem Cx.Ok.nofr(ok:X.Ok)(e:X.base.get? b=some o):b∉X.fs:=λhb=>by
 have:=(ok.funs.mem hb).1;rw[e] at this;cases this
theorem Inv.bs(I:Inv X pins σ H s):∀b o,X.base.get? b=some o->s.heap.get? b=some o/\H b=none:=λb o e=>
 ⟨I.base.keep b o (I.ok.bs b o e).1 (I.ok.bs b o e).2 (I.ok.nofr e) (I.ok.noex b o e),I.base.free b o (I.ok.bs b o e).1 (I.ok.bs b o e).2 (I.ok.noex b o e)⟩
theorem Inv.bk(I:Inv X pins σ H s):∀b o,X.base.get? b=some o->s.heap.get? b=some o:=λb o e=>(I.bs b o e).1
theorem Inv.mod(I:Inv X pins σ H s):Mod X.K X.mg X.base:=I.ok.mod
theorem Inv.hasG(I:Inv X pins σ H s):∃o,s.heap.get? mainGlobals=some o:=by
 obtain⟨o,_,_,e,_⟩:=I.ok.mod.glob;exact⟨o,I.bk _ _ e⟩
theorem Inv.sysn(I:Inv X pins σ H s):∀xs,H sysModules≠some (.lst xs):=by
 obtain⟨o,_,_,e,_⟩:=I.ok.mod.glob;exact I.base.sys (I.ok.noex _ _ e) ⟨o,(I.ok.bs _ _ e).1⟩ I.ok.sys0
theorem Inv.kIn(I:Inv X pins σ H s):X.K.In s.heap:=I.ok.mod.kin.keeps I.bk
theorem Inv.lt(I:Inv X pins σ H s):X.env.locals<s.heap.objs.size:=let⟨_,hn,_⟩:=I.loc;hn.lt
theorem Inv.sz(I:Inv X pins σ H s):X.s₀.heap.objs.size<=s.heap.objs.size:=gA I.ok.above (sh I.lt)
theorem Inv.nofs(I:Inv X pins σ H s)(h:s.heap.objs.size<=a):a∉X.fs:=λhb=>by
 obtain⟨_,o,ho,_⟩:=I.ok.funs.mem hb;exact Hj (cX (cc ho) (gA I.sz h)) (g9 _)
theorem Inv.cne(I:Inv X pins σ H s):∀x c,X.env.cells.lookup x=some c->c≠X.env.locals:=λx c e z=>by
 obtain⟨v,o,ho,hd⟩:=I.cell x c e;obtain⟨m,⟨o',es,ep,ho',hd',_⟩,_⟩:=I.loc;rw[z,ho'] at ho;cases ho;rw[hd'] at hd;cases hd
theorem Inv.funs(I:Inv X pins σ H s):s.heap.FunFrames X.base X.outer:=by
 have all:∀(l:List Env),(∀b∈ce l,b∈X.fs)->X.s₀.heap.FunFrames X.base l->s.heap.FunFrames X.base l:=by
  intro l
  induction l with
  |nil=>intro _ _;trivial
  |cons env r ih=>
   intro hs hl;obtain⟨hk,⟨L,o,hf,hn,ho,hd⟩,hr⟩:=hl;have hL:L∈X.fs:=hs L (by unfold ce;rw[uL,hf];exact dk);obtain⟨sl,e⟩:=I.base.slot L o ho (I.ok.frf L hL) hL λz=>I.ok.exfs L z hL;exact⟨hk,⟨L,_,hf,hn,e,hd⟩,ih (λb hb=>hs b (by unfold ce;rw[uL,hf];exact cK _ hb)) hr⟩
 exact all X.outer (λ_ hb=>hb) I.ok.funs
theorem Inv.stack(I:Inv X pins σ H s):s.heap.FunFrames X.base X.stack:=by
 rcases I.ok.stk with e|⟨e,hf⟩
 .rw[e];exact I.funs
 .rw[e]
  obtain⟨m,hn,_⟩:=I.loc;refine .cons (by rw[I.ok.kind];decide) hf hn ?_ I.funs;exact Heap.get?_none_of_le (gA I.ok.bsz I.ok.above)
theorem Inv.stkSub(I:Inv X pins σ H s):∀b∈ce X.stack,b∈X.env.locals::X.fs:=λb hb=>by
 rcases I.ok.stk with e|⟨e,hf⟩
 .rw[e] at hb;exact cK _ hb
 .rw[e] at hb
  unfold ce at hb;rw[uL,hf] at hb;exact hb
theorem Inv.stkFree(I:Inv X pins σ H s):∀b∈ce X.stack,H b=none:=λb hb=>by
 rcases Yam.mp (I.stkSub b hb) with e|hb
 .rw[e];exact I.free
 .obtain⟨_,o,ho,_⟩:=I.ok.funs.mem hb
  exact I.base.free b o ho (I.ok.frf b hb) λz=>I.ok.exfs b z hb
theorem Inv.step(I:Inv X pins σ H s)
  (hch:∀b∈ch,(b∈X.ex\/X.s₀.heap.objs.size<=b)/\b≠X.env.locals/\(∀x c,X.env.cells.lookup x=some c->c≠b)/\∀p∈X.pn++pins,p.1≠b)
  (keep:∀b o,b≠X.env.locals->b∉X.fs->b∉ch->s.heap.get? b=some o->H b=none->h'.get? b=some o)
  (slot:∀b o,b≠X.env.locals->b∈X.fs->b∉ch->s.heap.get? b=some o->H b=none->∃sl,h'.get? b=some { o with slots:=sl }) (free:∀b o,b∉ch->s.heap.get? b=some o->H b=none->H' b=none)
  (there:∀b o,b∉ch->s.heap.get? b=some o->∃o',h'.get? b=some o')
  (tups:∀b xs,H b=some (.tup xs)->H' b=some (.tup xs)) (frzs:∀b o u,H b=some (.frz o u)->H' b=some (.frz o u)) (tbls:∀b ps,H b=some (.tbl ps)->∃more,H' b=some (.tbl (ps++more)))
  (ns:∀m,s.heap.Ns X.env.locals m->h'.Ns X.env.locals m) (hok:HOk X.prog X.w H' h') (hg:AllBare g') (sy:(∀xs,H sysModules≠some (.lst xs))->∀xs,H' sysModules≠some (.lst xs)) :
  Inv X pins σ H' { s with heap:=h',gens:=g',drawn:=d',toks:=t' }:=by
 have neL:∀b o,X.s₀.heap.get? b=some o->b≠X.env.locals:=λb o e=>er (cX (cc e) I.ok.above);have neC:∀b o,X.s₀.heap.get? b=some o->b∉X.ex->b∉ch:=λb o e hx hb=>by
  rcases(hch b hb).1 with z|z
  .exact hx z
  .exact Hj (cX (cc e) z) (g9 _)
 have cellK:∀x c,X.env.cells.lookup x=some c->∀v,s.heap.IsCell c v->h'.IsCell c v:=λx c e v ⟨o,ho,hd⟩=>by
  have nch:c∉ch:=λz=>(hch c z).2.2.1 x c e rfl
  by_cases hc:c∈X.fs
  .obtain⟨sl,q⟩:=slot c o (I.cne x c e) hc nch ho (I.freeC x c e)
   exact⟨_,q,hd⟩
  .exact⟨o,keep c o (I.cne x c e) hc nch ho (I.freeC x c e),hd⟩
 refine⟨I.ok,I.os,hg,⟨λb o e n hb hx=>?_,λb o e n hb hx=>?_,λb o e n hx=>?_,λb o e hx=>?_,λb xs e=>tups b xs (I.base.tups b xs e),λb o xs e=>frzs b o xs (I.base.frzs b o xs e),λb ps e=>?_,λx0 e0 n=>sy (I.base.sys x0 e0 n)⟩,?_,λx c e=>?_,?_,λx c e=>?_,λp hp=>?_,hok,I.len⟩
 .exact keep b o (neL b o e) hb (neC b o e hx) (I.base.keep b o e n hb hx) (I.base.free b o e n hx)
 .obtain⟨sl,e1⟩:=I.base.slot b o e n hb hx
  obtain⟨sl',e2⟩:=slot b _ (neL b o e) hb (neC b o e hx) e1 (I.base.free b o e n hx);exact⟨sl',e2⟩
 .obtain⟨o',e1⟩:=I.base.there b o e hx
  exact free b o' (neC b o e hx) e1 (I.base.free b o e n hx)
 .obtain⟨o',e1⟩:=I.base.there b o e hx
  exact there b o' (neC b o e hx) e1
 .obtain⟨m1,e1⟩:=I.base.tbls b ps e
  obtain⟨m2,e2⟩:=tbls b _ e1;exact⟨m1++m2,by rw[e2,v6]⟩
 .obtain⟨m,hn,hl⟩:=I.loc
  refine⟨m,ns m hn,λi x v e1 e2 e3=>?_⟩;obtain⟨u,r,l⟩:=hl i x v e1 e2 e3;refine⟨u,r,?_⟩;rcases l with l|⟨k,c,e,z⟩
  .exact .inl l
  .exact .inr ⟨k,c,e,cellK x c e _ z⟩
 .obtain⟨v,z⟩:=I.cell x c e
  exact⟨v,cellK x c e v z⟩
 .obtain⟨m,⟨o,_,_,ho,_⟩,_⟩:=I.loc
  exact free _ o (λz=>(hch _ z).2.1 rfl) ho I.free
 .obtain⟨v,o,ho,hd⟩:=I.cell x c e
  exact free c o (λz=>(hch c z).2.2.1 x c e rfl) ho (I.freeC x c e)
 .obtain⟨e,n,ne,nf,d⟩:=I.pin p hp
  have nch:p.1∉ch:=λz=>(hch p.1 z).2.2.2 p hp rfl;exact⟨keep p.1 p.2 ne nf nch e n,free p.1 p.2 nch e n,ne,nf,d⟩
theorem Inv.un(I:Inv X pins σ H s)(u:Un X.fs [] H H' s.heap h')(hok:HOk X.prog X.w H' h'):Inv X pins σ H' { s with heap:=h',toks:=t' }:=by
 obtain⟨m,⟨o,es,ep,ho,r⟩,_⟩:=id I.loc;obtain⟨sl,hL⟩:=u.any ho I.free (by simp);exact I.step (g':=s.gens) (d':=s.drawn) (ch:=[]) (λ_ z=>nomatch z) (λb o _ hb _ e n=>u.keep b o e n hb (by simp)) (λb o _ hb _ e n=>u.slot b o e n hb (by simp)) (λb o _ e n=>u.free b o e n (by simp)) (λb o _ e=>u.there b o e (by simp)) u.tups u.frzs u.tbls (λm' hm=>by
  obtain⟨o',es',ep',ho',r'⟩:=hm;rw[ho] at ho';cases ho';exact⟨_,es',ep',hL,r'⟩) hok I.bare (u.sys (by simp) I.hasG)
theorem Inv.call(I:Inv X pins σ H s)(u:Un (ce X.stack) ch H H' s.heap h')(hok:HOk X.prog X.w H' h')(hg:AllBare g')
  (hch:∀b∈ch,(b∈X.ex\/X.s₀.heap.objs.size<=b)/\b≠X.env.locals/\(∀x c,X.env.cells.lookup x=some c->c≠b)/\∀p∈X.pn++pins,p.1≠b) :
  Inv X pins σ H' { s with heap:=h',gens:=g',drawn:=d',toks:=t' }:=by
 obtain⟨m,⟨o,es,ep,ho,r⟩,_⟩:=id I.loc;obtain⟨sl,hL⟩:=u.any ho I.free λz=>(hch _ z).2.1 rfl;exact I.step (ch:=ch) hch (λb o hL hb hc e n=>u.keep b o e n (λz=>(Yam.mp (I.stkSub b z)).elim hL hb) hc) (λb o _ _ hc e n=>u.any e n hc) (λb o hc e n=>u.free b o e n hc) (λb o hc e=>u.there b o e hc) u.tups u.frzs u.tbls (λm' hm=>by
  obtain⟨o',es',ep',ho',r'⟩:=hm;rw[ho] at ho';cases ho';exact ⟨_,es',ep',hL,r'⟩) hok hg (u.sys (λz=>by
   obtain⟨o0,_,_,e0,_⟩:=I.ok.mod.glob;rcases(hch _ z).1 with y|y
   .exact I.ok.noex _ _ e0 y
   .exact Hj (cX (cc (I.ok.bs _ _ e0).1) y) (g9 _)) I.hasG)
theorem Inv.turned(I:Inv X pins σ H s)(k:∀b o,b≠it->s.heap.get? b=some o->h'.get? b=some o)(hn:H it=none)(hL:it≠X.env.locals)
  (h1:it∈X.ex\/X.s₀.heap.objs.size<=it) (h2:∀x c,X.env.cells.lookup x=some c->c≠it) (h3:∀p∈X.pn++pins,p.1≠it):Inv X pins σ H { s with heap:=h',toks:=t' }:=by
 have nit:∀b u,H b=some u->b≠it:=λb u e z=>by rw[z,hn] at e;cases e
 refine I.step (g':=s.gens) (d':=s.drawn) (ch:=[it]) (λb hb=>?_) (λb o _ _ hc e _=>k b o (λz=>hc (by simp[z])) e) (λb o _ _ hc e _=>⟨o.slots,k b o (λz=>hc (by simp[z])) e⟩) (λ_ _ _ _ n=>n)
  (λb o hc e=>⟨o,k b o (λz=>hc (by simp[z])) e⟩) (λ_ _ e=>e) (λ_ _ _ e=>e) (λb ps e=>⟨#[],by rw[e];simp⟩) (λm hm=>?_) (λb u e=>?_) I.bare (λn=>n)
 .have e:b=it:=by simpa using hb
  subst e;exact⟨h1,hL,h2,h3⟩
 .obtain⟨o,es,ep,ho,r⟩:=hm
  exact⟨o,es,ep,k _ o (Hv hL) ho,r⟩
 .refine(I.hok b u e).stay (λc v hc q=>k c v ?_ q) (λ_ q=>q) λ_ _ q=>q
  rcases hc with z|z
  .rw[z];exact nit b u e
  .exact nit c _ z
theorem Inv.tok(I:Inv X pins σ H s)(t:Nat):Inv X pins σ H { s with toks:=t }:=I.un (h':=s.heap) (t':=t) Un.refl I.hok
theorem Inv.kept{t':Nat}(I:Inv X pins σ H s)(k:∀b u,s.heap.get? b=some u->h'.get? b=some u):Inv X pins σ H { s with heap:=h',toks:=t' }:=I.un (Un.kept k) (I.hok.kept k)
theorem Inv.laid{a:Addr}{o:HO}{t':Nat}(I:Inv X pins σ H s)(k:∀b u,s.heap.get? b=some u->h'.get? b=some u)(hp:s.heap.objs.size<=a)(new:ObjOk X.prog X.w (upd H a o) h' a o) :
  Inv X pins σ (upd H a o) { s with heap:=h',toks:=t' }:=I.un (Un.laid k hp (I.hok.fresh hp)) (I.hok.laid k hp new)
theorem Inv.write{x e:Addr}{o:HO}{t':Nat}(I:Inv X pins σ H s)(mu:uV (H x))(he:e=x\/H e=some (.own x))(k:∀b u,b≠e->s.heap.get? b=some u->h'.get? b=some u)(heo:∃u,h'.get? e=some u)
  (new:ObjOk X.prog X.w (upd H x o) h' x o) (hk:(∃us,H x=some (.lst us))\/∀us,o≠.lst us):Inv X pins σ (upd H x o) { s with heap:=h',toks:=t' }:=I.un (Un.write mu he k heo hk) (I.hok.write mu he k heo new)
theorem Inv.pins_of{pins':List (Addr×Obj)}(I:Inv X pins σ H s)(h:∀p∈pins',s.heap.get? p.1=some p.2/\H p.1=none/\p.1≠X.env.locals/\p.1∉X.fs/\∀v,p.2.data≠.cell v):Inv X pins' σ H s:=
 ⟨I.ok,I.os,I.bare,I.base,I.loc,I.cell,I.free,I.freeC,λp hp=>(Yan.mp hp).elim (λz=>I.pin p (si _ z)) (h p),I.hok,I.len⟩
theorem gD(hN:N.Nodup){i j:Nat}(a:N[i]? = some x)(b:N[j]? = some x):i=j:=by
 obtain⟨h1,e1⟩:=Yap.mp a;obtain⟨h2,e2⟩:=Yap.mp b;exact(List.getElem_inj hN).mp (e1.trans e2.symm)
theorem ft{i:Nat}{u:Value}{Q:Unit->Shared->Prop}(I:Inv X pins σ H s)(hN:X.N.Nodup)(hi:X.N[i]? = some x)(hx:jX X.env.scope x)(r:RelV v u)
  (h:∀s',Inv X pins (σ.set i (some v)) H s'->(∃a,Heap.SameBut a s.heap s'.heap/\(a=X.env.locals\/X.env.cells.lookup x=some a))->Q () s') (hf:X.fn x=true\/X.env.scope.names.lookup x=some .local:=by first|exact .inl rfl|exact .inr rfl|assumption):wpAny M A (storeName X.env x u) Q E s:=by
 obtain⟨m,hn,hl⟩:=id I.loc;have hcls:(X.env.scope.kind==.class||(X.env.scope.kind==.module&&X.env.locals != X.env.globals))=false:=by rw[I.ok.kind];rfl
 have hiσ:i<σ.length:=by rw[I.len];exact(Yap.mp hi).1
 have cne:=I.cne;have tracked:∀{a:Addr} {h':Heap},(∃o,s.heap.get? a=some o/\H a=none)->Heap.SameBut a s.heap h'->HOk X.prog X.w H h':=λ{a h'} ha hs b ob e=>by
  obtain⟨_,_,hfree⟩:=ha;refine(I.hok b ob e).stay (λc w' hc q=>(hs.2 c ?_).trans q) (λ_ q=>q) λ_ _ q=>q;rintro rfl;rcases hc with rfl|hc
  .rw[hfree] at e;cases e
  .rw[hfree] at hc;cases hc
 rcases hx with hk|hk
 .refine wpAny_storeName_local hk hn (λh' hn' hs=>?_) hcls
  obtain⟨oL,_,_,hoL,_⟩:=id hn;refine h _ ⟨I.ok,I.os,I.bare,⟨λb o e n hb hx=>?_,λb o e n hb hx=>?_,I.base.free,λb o e hx=>?_,I.base.tups,I.base.frzs,I.base.tbls,I.base.sys⟩,⟨_,hn',λj y v' e1 e2 e3=>?_⟩,λy c e=>?_,I.free,I.freeC,λp hp=>?_,tracked ⟨oL,hoL,I.free⟩ hs,by simpa using I.len⟩ ⟨_,hs,.inl rfl⟩
  .exact(hs.2 b (er (cX (cc e) I.ok.above))).trans (I.base.keep b o e n hb hx)
  .obtain⟨sl,e1⟩:=I.base.slot b o e n hb hx
   exact⟨sl,(hs.2 b (er (cX (cc e) I.ok.above))).trans e1⟩
  .obtain⟨o',e1⟩:=I.base.there b o e hx
   exact⟨o',(hs.2 b (er (cX (cc e) I.ok.above))).trans e1⟩
  .by_cases hj:j=i
   .subst hj
    rw[hi] at e1;cases e1;rw[dW hiσ] at e2;cases e2;exact⟨u,r,.inl ⟨hk,by simp⟩⟩
   .rw[dg (Hv hj)] at e2
    obtain⟨u',r',q⟩:=hl j y v' e1 e2 e3;refine⟨u',r',?_⟩;rcases q with⟨k,e⟩|⟨k,c,e,z⟩
    .refine .inl ⟨k,?_⟩
     have:y≠x:=λe=>hj (gD hN e1 (e▸hi));simp[this,e]
    .exact .inr ⟨k,c,e,z.sameBut hs (cne y c e)⟩
  .obtain⟨w',z⟩:=I.cell y c e
   exact⟨w',z.sameBut hs (cne y c e)⟩
  .obtain⟨e,n,ne,nf,d⟩:=I.pin p hp
   exact⟨(hs.2 p.1 ne).trans e,n,ne,nf,d⟩
 .have hfn:X.fn x=true:=by
   rcases hf with z|z
   .exact z
   .rw[z] at hk;cases hk
  obtain⟨c,hc⟩:=I.ok.has x (.inl hk);obtain⟨w',z⟩:=I.cell x c hc;refine wpAny_storeName_cell I.ok.kind hk hc z (λh' hc' hs=>?_);obtain⟨oc,hoc,hocd⟩:=id z;refine h { s with heap:=h' } ⟨I.ok,I.os,I.bare,⟨λb o e n hb hx=>?_,λb o e n hb hx=>?_,I.base.free,λb o e hx=>?_,I.base.tups,I.base.frzs,I.base.tbls,I.base.sys⟩,⟨m,hn.sameBut hs (Hv (cne x c hc)),λj y v' e1 e2 e3=>?_⟩,λy c' e=>?_,I.free,I.freeC,λp hp=>?_,tracked ⟨oc,hoc,I.freeC x c hc⟩ hs,by simpa using I.len⟩ ⟨c,hs,.inr hc⟩
  .exact(hs.2 b (er (cX (cc e) (I.ok.cab x c hfn hc)))).trans (I.base.keep b o e n hb hx)
  .obtain⟨sl,e1⟩:=I.base.slot b o e n hb hx
   exact⟨sl,(hs.2 b (er (cX (cc e) (I.ok.cab x c hfn hc)))).trans e1⟩
  .obtain⟨o',e1⟩:=I.base.there b o e hx
   exact⟨o',(hs.2 b (er (cX (cc e) (I.ok.cab x c hfn hc)))).trans e1⟩
  .by_cases hj:j=i
   .subst hj
    rw[hi] at e1;cases e1;rw[dW hiσ] at e2;cases e2;exact⟨u,r,.inr ⟨.inl hk,c,hc,hc'⟩⟩
   .rw[dg (Hv hj)] at e2
    obtain⟨u',r',q⟩:=hl j y v' e1 e2 e3;refine⟨u',r',?_⟩;rcases q with q|⟨k,c',e,z'⟩
    .exact .inl q
    .refine .inr ⟨k,c',e,z'.sameBut hs ?_⟩
     rintro rfl;exact hj (gD hN e1 (I.ok.inj _ _ _ e hc▸hi))
  .by_cases hcc:c'=c
   .subst hcc;exact⟨_,hc'⟩
   .obtain⟨w2,z2⟩:=I.cell y c' e
    exact⟨w2,z2.sameBut hs hcc⟩
  .obtain⟨e,n,ne,nf,d⟩:=I.pin p hp
   refine⟨(hs.2 p.1 ?_).trans e,n,ne,nf,d⟩;intro q;rw[q,hoc] at e;have q':oc=p.2:=Hn e;exact d w' (by rw[<-q'];exact hocd)
theorem eI{i:Nat}{u:Value}{Q:Unit->Shared->Prop}(I:Inv X pins σ H s)(hN:X.N.Nodup)(hi:X.N[i]? = some x)(hx:jX X.env.scope x)(r:RelV v u)
  (h:∀s',Inv X pins (σ.set i (some v)) H s'->Q () s') (hf:X.fn x=true\/X.env.scope.names.lookup x=some .local:=by first|exact .inl rfl|exact .inr rfl|assumption):wpAny M A (storeName X.env x u) Q E s:=
 ft I hN hi hx r (λs' I' _=>h s' I') hf
theorem Inv.call'(I:Inv X pins σ H s)(ho:s'.os=s.os)(u:Un (ce X.stack) ch H H' s.heap s'.heap)(hok:HOk X.prog X.w H' s'.heap)(hg:AllBare s'.gens)
  (hch:∀b∈ch,(b∈X.ex\/X.s₀.heap.objs.size<=b)/\b≠X.env.locals/\(∀x c,X.env.cells.lookup x=some c->c≠b)/\∀p∈X.pn++pins,p.1≠b):Inv X pins σ H' s':=by
 obtain⟨h',g',d',t',o'⟩:=s';have e:o'=s.os:=ho;subst e;exact I.call (g':=g') (t':=t') (d':=d') u hok hg hch
end
abbrev XK:=Value->Option Addr->Hp->Prop
abbrev St:=List (Option V)
variable{σ:St}
abbrev VK:=V->Hp->Prop
abbrev TE:=St->Hp->VK->Prop
variable{ta tb te:TE}
abbrev TT:=St->Hp->(Bool->Hp->Prop)->Prop
abbrev TA:=St->Hp->(List V->Hp->Prop)->Prop
variable{t:TA}
structure e8 where
 nx:St->Hp->Prop
 rt:VK
 bk:St->Hp->Prop:=λ_ _=>False
 ct:St->Hp->Prop:=λ_ _=>False
abbrev TS:=e8->St->Hp->Prop
def EP(X:Cx)(pins:List (Addr×Obj))(σ:St)(Q:VK)(u:Value)(s':Shared):Prop:=∃v H',Inv X pins σ H' s'/\RelV v u/\Q v H'
def TP(X:Cx)(pins:List (Addr×Obj))(σ:St)(Q:Bool->Hp->Prop)(b:Bool)(s':Shared):Prop:=∃H',Inv X pins σ H' s'/\Q b H'
def AP(X:Cx)(pins:List (Addr×Obj))(σ:St)(Q:List V->Hp->Prop)(us:List Value)(s':Shared):Prop:=∃vs H',Inv X pins σ H' s'/\Vals vs us/\Q vs H'
def SP(X:Cx)(pins:List (Addr×Obj))(D:e8)(f:Flow)(s':Shared):Prop:=
 match f with
 |.next=>∃σ' H',Inv X pins σ' H' s'/\D.nx σ' H'
 |.brk=>∃σ' H',Inv X pins σ' H' s'/\D.bk σ' H'
 |.cont=>∃σ' H',Inv X pins σ' H' s'/\D.ct σ' H'
 |.ret u=>∃v σ' H',Inv X pins σ' H' s'/\RelV v u/\D.rt v H'
def PE(X:Cx)(e:Expr)(t:TE):Prop:=
 ∀(pins:List (Addr×Obj)) (s:Shared) (σ:St) (H:Hp) (Q:VK),Inv X pins σ H s->t σ H Q->wpAny (model X.prog X.w) X.A (eval e X.env) (EP X pins σ Q) X.xe s
def PT(X:Cx)(e:Expr)(t:TT):Prop:=
 ∀(pins:List (Addr×Obj)) (s:Shared) (σ:St) (H:Hp) (Q:Bool->Hp->Prop),Inv X pins σ H s->t σ H Q->wpAny (model X.prog X.w) X.A (isTrue e X.env (eval e X.env)) (TP X pins σ Q) X.xe s
def PW(X:Cx)(e:Expr)(t:TT):Prop:=
 ∀(whole:Sem Value) (pins:List (Addr×Obj)) (s:Shared) (σ:St) (H:Hp) (Q:Bool->Hp->Prop),Inv X pins σ H s->t σ H Q->wpAny (model X.prog X.w) X.A (isTrue e X.env whole) (TP X pins σ Q) X.xe s
theorem PW.pt{t:TT}(h:PW X e t):PT X e t:=h _
def PA(X:Cx)(es:List Expr)(t:TA):Prop:=
 ∀(pos:Pos) (pins:List (Addr×Obj)) (s:Shared) (σ:St) (H:Hp) (Q:List V->Hp->Prop),Inv X pins σ H s->t σ H Q->wpAny (model X.prog X.w) X.A (spliced (backTo pos (starEach es X.env))) (AP X pins σ Q) X.xe s
def PS(X:Cx)(st:Stmt)(t:TS):Prop:=
 ∀(pins:List (Addr×Obj)) (s:Shared) (σ:St) (H:Hp) (D:e8),Inv X pins σ H s->t D σ H->wpAny (model X.prog X.w) X.A (exec st X.env) (SP X pins D) X.xe s
def kz(X:Cx)(st:List Stmt)(t:TS):Prop:=
 ∀(pins:List (Addr×Obj)) (s:Shared) (σ:St) (H:Hp) (D:e8),Inv X pins σ H s->t D σ H->wpAny (model X.prog X.w) X.A (execs st X.env) (SP X pins D) X.xe s
theorem aV{α:Type}{t:Sem α}{Q Q':α->Shared->Prop}(h:wpAny M A t Q E s)(hQ:∀a s,Q a s->Q' a s):wpAny M A t Q' E s:=HB h hQ λ_ _ x=>x
section
theorem Hc{a b:Expr}(ha:PE X a ta)(hb:PE X b tb)(I:Inv X pins σ H s)(h:ta σ H λx H1=>tb σ H1 λy H2=>R x y H2)
  {α:Type} {Q:α->Shared->Prop} {f:Value->Value->Sem α}
  (hf:∀v u s2 x y H2,Inv X pins σ H2 s2->RelV x v->RelV y u->R x y H2->wpAny (model X.prog X.w) X.A (f v u) Q X.xe s2) :
  wpAny (model X.prog X.w) X.A (eval a X.env) (λv s₁=>wpAny (model X.prog X.w) X.A (eval b X.env) (λu s₂=>wpAny (model X.prog X.w) X.A (f v u) Q X.xe s₂) X.xe s₁) X.xe s:=by
 refine aV (ha pins s σ H _ I h) λv s1 ⟨x,H1,I1,r1,q1⟩=>?_;refine aV (hb pins s1 σ H1 _ I1 q1) λu s2 ⟨y,H2,I2,r2,q2⟩=>?_;exact hf v u s2 x y H2 I2 r1 r2 q2
def wH(i:Nat):TE:=λσ H Q=>∃v,σ[i]? = some (some v)/\Q v H
def tC(v:V):TE:=λ_ H Q=>Q v H
theorem fK{i:Nat}(hN:X.N[i]? = some x)(hv:oF X.env.scope x)(hd:(x==("__debug__" : Str))=false:=by decide)(hcd:(x==("__classdict__" : Str))=false:=by decide):PE X (.Name x pos) (wH i):=by
 intro pins s σ H Q I h;obtain⟨v,e,h⟩:=h;obtain⟨m,hn,hl⟩:=I.loc;obtain⟨u,r,l⟩:=hl i x v hN e hv;have fin:EP X pins σ Q u s:=⟨v,H,I,r,h⟩
 rcases l with⟨hk,hm⟩|⟨hk,c,hc,hcell⟩
 .exact wpAny_Name (wpAny_loadName_local I.ok.kind hk hn hm fin) hd
 .rcases hk with hk|hk
  .exact wpAny_Name (wpAny_loadName_cell I.ok.kind hk hc hcell fin) hd
  .exact wpAny_Name (wpAny_loadName_free I.ok.kind hk hc hcell fin hcd) hd
theorem hV{i j pos}:PE X (.Constant (.int i) j pos) (tC (.int i)):=λ_ _ _ H _ I h=>wpAny_Constant_int ⟨.int i,H,I.tok _,⟨_,rfl⟩,h⟩
theorem sC{b j pos}:PE X (.Constant (.bool b) j pos) (tC (.bl b)):=λ_ _ _ H _ I h=>Constant_bool ⟨.bl b,H,I,rfl,h⟩
theorem oG{j pos}:PE X (.Constant .none j pos) (tC .non):=λ_ _ _ H _ I h=>Constant_none ⟨.non,H,I,rfl,h⟩
theorem oH{x j pos}:PE X (.Constant (.str x) j pos) (tC (.str x)):=λ_ _ _ H _ I h=>Calls.Constant_str ⟨.str x,H,I.tok _,⟨_,rfl⟩,h⟩
def Gl(X:Cx)(x:Str):Prop:=X.env.kindOf x=some .globalImplicit
theorem ck{u:Value}(I:Inv X pins σ H s)(hg:Gl X x)(hm:X.mg x=some u)(h:Q u s)
  (hd:(x==("__debug__" : Str))=false:=by decide):wpAny (model X.prog X.w) X.A (eval (.Name x pos) X.env) Q E s:=
 Calls.Name_function_global I.ok.kind hg (Calls.loadGlobal_global (by rw[I.ok.glob];exact I.mod.glob.keeps I.bk) hm h) hd
theorem dD{u:Value}(I:Inv X pins σ H s)(hg:Gl X x)(hm:X.mg x=none)(hv:bootBuiltins x=some u)(h:Q u s)
  (hn:x≠ "__name__" :=by decide) (hd:(x==("__debug__" : Str))=false:=by decide):wpAny (model X.prog X.w) X.A (eval (.Name x pos) X.env) Q E s:=by
 obtain⟨mb,h1,h2⟩:=I.mod.blt;exact Calls.Name_function_global I.ok.kind hg (Calls.loadGlobal_builtin (by rw[I.ok.glob];exact I.mod.glob.keeps I.bk) hm (by rw[I.ok.blt];exact h1.keeps I.bk) ((h2 x hn).trans hv) h) hd
theorem dl{u:Value}(hg:Gl X x)(hm:X.mg x=some u)(r:RelV v u)(hd:(x==("__debug__" : Str))=false:=by decide):PE X (.Name x pos) (tC v):=
 λ_ _ _ H _ I h=>ck I hg hm ⟨v,H,I,r,h⟩ hd
theorem me{u:Value}(hg:Gl X x)(hm:X.mg x=none)(hv:bootBuiltins x=some u)(r:RelV v u)(hn:x≠ "__name__" :=by decide)(hd:(x==("__debug__" : Str))=false:=by decide):PE X (.Name x pos) (tC v):=
 λ_ _ _ H _ I h=>dD I hg hm hv ⟨v,H,I,r,h⟩ hn hd
variable{a b:Expr}
variable{tA tB':TT}{bD:List Expr}
def wI(t u:TT):TT:=λσ H Q=>t σ H λc H1=>if c=true then u σ H1 Q else Q false H1
def B0(t u:TT):TT:=λσ H Q=>t σ H λc H1=>if c=true then Q true H1 else u σ H1 Q
def wJ(t:TT):TT:=λσ H Q=>t σ H λc H1=>Q (!c) H1
theorem mf(ha:PT X a tA):PW X (.BoolOp .And [a] pos) tA:=by
 intro wh pins s σ H Q I h;refine isTrue_and (aV (ha pins s σ H Q I h) λc s1 e=>?_);cases c with
 |true=>exact isTrue_and_nil e
 |false=>exact e
theorem kA(ha:PT X a tA):PW X (.BoolOp .Or [a] pos) tA:=by
 intro wh pins s σ H Q I h;refine isTrue_or (aV (ha pins s σ H Q I h) λc s1 e=>?_);cases c with
 |false=>exact isTrue_or_nil e
 |true=>exact e
theorem oJ(ha:PT X a tA)(hb:PW X (.BoolOp .And (b::bD) pos) tB'):PW X (.BoolOp .And (a::b::bD) pos) (wI tA tB'):=by
 intro wh pins s σ H Q I h;refine isTrue_and (aV (ha pins s σ H _ I h) λc s1 ⟨H1,I1,q1⟩=>?_);cases c with
 |true=>exact hb wh pins s1 σ H1 Q I1 q1
 |false=>exact⟨H1,I1,q1⟩
theorem nr(ha:PT X a tA)(hb:PW X (.BoolOp .Or (b::bD) pos) tB'):PW X (.BoolOp .Or (a::b::bD) pos) (B0 tA tB'):=by
 intro wh pins s σ H Q I h;refine isTrue_or (aV (ha pins s σ H _ I h) λc s1 ⟨H1,I1,q1⟩=>?_);cases c with
 |true=>exact⟨H1,I1,q1⟩
 |false=>exact hb wh pins s1 σ H1 Q I1 q1
theorem kB(ha:PT X a tA):PT X (.UnaryOp .Not a pos) (wJ tA):=by
 intro pins s σ H Q I h;exact isTrue_not (ha pins s σ H (λc H1=>Q (!c) H1) I h)
def sD(ta tb:TE):TE:=λσ H Q=>ta σ H λx H1=>∃c,x=.bl c/\if c=true then tb σ H1 Q else Q (.bl false) H1
def sE(ta:TE):TE:=λσ H Q=>ta σ H λx H1=>∃c,x=.bl c/\Q (.bl (!c)) H1
theorem kC{op}{t:TE}(h:PE X a t):PE X (.BoolOp op [a] pos) t:=λpins s σ H Q I hw=>BoolOp_one (h pins s σ H Q I hw)
theorem oK(ha:PE X a ta)(hb:PE X (.BoolOp .And (b::bD) pos) tb):PE X (.BoolOp .And (a::b::bD) pos) (sD ta tb):=by
 intro pins s σ H Q I h;refine BoolOp_and (aV (ha pins s σ H _ I h) λv s1 ⟨x,H1,I1,r1,q1⟩=>?_);obtain⟨c,rfl,q1⟩:=q1;cases r1;refine HC ?_;cases c with
 |true=>exact hb pins s1 σ H1 Q I1 q1
 |false=>exact⟨.bl false,H1,I1,rfl,q1⟩
theorem oM(ha:PE X a ta):PE X (.UnaryOp .Not a pos) (sE ta):=by
 intro pins s σ H Q I h;refine UnaryOp_ (aV (ha pins s σ H _ I h) λv s1 ⟨x,H1,I1,r1,q1⟩=>?_);obtain⟨c,rfl,q1⟩:=q1;cases r1;exact not_of (HC ⟨.bl (!c),H1,I1,rfl,q1⟩)
def B1(t:TT)(ta tb:TE):TE:=λσ H Q=>t σ H λc H1=>if c=true then ta σ H1 Q else tb σ H1 Q
theorem kE(hc:PT X c tA)(ha:PE X a ta)(hb:PE X b tb):PE X (.IfExp c a b pos) (B1 tA ta tb):=by
 intro pins s σ H Q I h;refine wpAny_IfExp (aV (hc pins s σ H _ I h) λd s1 ⟨H1,I1,q1⟩=>?_);cases d with
 |true=>exact ha pins s1 σ H1 Q I1 q1
 |false=>exact hb pins s1 σ H1 Q I1 q1
end
def SqL(K:Hg)(H:Hp)(a:Addr)(xs:List V):Prop:=
 Rd H a (.lst xs)\/
  ∃(o:Obj) (its:Array Value) (n:Nat),K.lookup a=some o/\o.cls=.type "list" /\o.dict=none/\o.data=.seq its n/\its.size<=sizeLine/\Vals xs its.toList
def SqT(K:Hg)(H:Hp)(a:Addr)(xs:List V):Prop:=
 Rd H a (.tup xs)\/
  ∃(o:Obj) (its:Array Value) (n:Nat),K.lookup a=some o/\o.cls=.type "tuple" /\o.data=.seq its n/\its.size<=sizeLine/\Vals xs its.toList
def wK:Value->Option V
 |.none=>some .non
 |.bool b=>some (.bl b)
 |.int i _=>some (.int i)
 |.str x _=>some (.str x)
 |.bytes b _=>some (.byt b)
 |.float b _=>some (.flt b)
 |.ref a=>some (.ref a)
 |.type n=>some (.ty n)
 |_=>none
theorem RelV.abs{x:V}{u:Value}(r:RelV x u):wK u=some x:=by
 cases x with
 |non=>cases r;rfl
 |bl _=>cases r;rfl
 |int _=>obtain⟨t,rfl⟩:=r;rfl
 |str _=>obtain⟨t,rfl⟩:=r;rfl
 |byt _=>obtain⟨t,rfl⟩:=r;rfl
 |flt _=>obtain⟨t,rfl⟩:=r;rfl
 |ref _=>cases r;rfl
 |ty _=>cases r;rfl
theorem RelV.inj{x y:V}{u:Value}(r:RelV x u)(q:RelV y u):x=y:=Hn (r.abs.symm.trans q.abs)
theorem Vals.inj:∀{xs ys:List V} {us:List Value},Vals xs us->Vals ys us->xs=ys
 |_,_,_,.nil,.nil=>rfl
 |_,_,_,.cons r t,.cons r' t'=>by rw[r.inj r',Vals.inj t t']
section
variable{ys:List V}
theorem SqL.of(h:H a=some (.lst xs)):SqL K H a xs:=.inl (.inl h)
theorem SqT.of(h:H a=some (.tup xs)):SqT K H a xs:=.inl (.inl h)
theorem Inv.list(I:Inv X pins σ H s)(h:SqL X.K H a xs):∃its:List Value,Vals xs its/\PlainL s.heap a its.toArray/\xs.length<=sizeLine:=by
 rcases h with h|⟨o,its,n,hk,hc,hd,hs,hz,r⟩
 .obtain⟨z,its,n,r,e⟩:=h.ok I.hok
  exact⟨its,r,⟨_,n,e,rfl,rfl,rfl⟩,z⟩
 .refine⟨its.toList,r,⟨o,n,I.kIn a o hk,hc,hd,by simpa using hs⟩,?_⟩
  have e:=r.length;simp only[rf] at e;omega
theorem Inv.tuple(I:Inv X pins σ H s)(h:SqT X.K H a xs):∃its:List Value,Vals xs its/\IsTup s.heap a its.toArray/\xs.length<=sizeLine:=by
 rcases h with h|⟨o,its,n,hk,hc,hs,hz,r⟩
 .obtain⟨z,its,r,p⟩:=h.ok I.hok
  exact⟨its,r,p,z⟩
 .refine⟨its.toList,r,⟨o,I.kIn a o hk,hc,n,by simpa using hs⟩,?_⟩
  have e:=r.length;simp only[rf] at e;omega
theorem Inv.list_inj(I:Inv X pins σ H s)(h:SqL X.K H a xs)(h':SqL X.K H a ys):xs=ys:=by
 obtain⟨its,r,⟨o,n,e,_,_,d⟩,_⟩:=I.list h;obtain⟨its',r',⟨o',n',e',_,_,d'⟩,_⟩:=I.list h';rw[e] at e';cases e';rw[d] at d';injection d' with d1 _
 have:its=its':=by simpa using congrArg Array.toList d1
 subst this;exact r.inj r'
theorem Inv.tuple_inj(I:Inv X pins σ H s)(h:SqT X.K H a xs)(h':SqT X.K H a ys):xs=ys:=by
 obtain⟨its,r,⟨o,e,_,n,d⟩,_⟩:=I.tuple h;obtain⟨its',r',⟨o',e',_,n',d'⟩,_⟩:=I.tuple h';rw[e] at e';cases e';rw[d] at d';injection d' with d1 _
 have:its=its':=by simpa using congrArg Array.toList d1
 subst this;exact r.inj r'
end
section
variable{st:Stmt}{bD:List Stmt}{t u:TS}
def sF:TS:=λD σ H=>D.nx σ H
def sG(t u:TS):TS:=λD σ H=>t { D with nx:=u D } σ H
theorem mh:kz X [] sF:=λ_ _ σ H _ I h=>HQ ⟨σ,H,I,h⟩
theorem gE(h1:PS X st t)(h2:kz X bD u):kz X (st::bD) (sG t u):=by
 intro pins s σ H D I h;refine HP (aV (h1 pins s σ H { D with nx:=u D } I h) λf s1 q=>?_);cases f with
 |next=>
  obtain⟨σ',H',I',q⟩:=q;exact h2 pins s1 σ' H' D I' q
 |ret v=>exact q
 |brk=>exact q
 |cont=>exact q
theorem fL(h1:PS X st t):kz X [st] t:=by
 intro pins s σ H D I h;refine HP (aV (h1 pins s σ H D I h) λf s1 q=>?_);cases f with
 |next=>exact HQ q
 |ret v=>exact q
 |brk=>exact q
 |cont=>exact q
theorem Inv.quiet(I:Inv X pins σ H s):interactive X.env=false:=by simp[interactive,I.ok.kind]
def nu(te:TE):TS:=λD σ H=>te σ H λ_ H1=>D.nx σ H1
theorem fM(he:PE X e te)(hs:swapsWith e none pos.line X.env=pure false:=by rfl):PS X (.Expr e pos) (nu te):=by
 intro pins s σ H D I h;exact wpAny_Expr_any (aV (he pins s σ H _ I h) λv s1 ⟨x,H1,I1,r1,q1⟩=>⟨σ,H1,I1,q1⟩) I.quiet hs
def sH(te:TE):TS:=λD σ H=>te σ H D.rt
theorem kF(he:PE X e te):PS X (.Return (some e) pos) (sH te):=by
 intro pins s σ H D I h;exact wpAny_Return_some (aV (he pins s σ H _ I h) λv s1 ⟨x,H1,I1,r1,q1⟩=>⟨x,σ,H1,I1,r1,q1⟩)
def wO(c:TT)(t u:TS):TS:=λD σ H=>c σ H λb H1=>if b=true then t D σ H1 else u D σ H1
theorem nw{a b:List Stmt}{tc:TT}(hc:PT X c tc)(ha:kz X a t)(hb:kz X b u):PS X (.If c a b pos) (wO tc t u):=by
 intro pins s σ H D I h;refine wpAny_If (aV (hc pins s σ H _ I h) λd s1 ⟨H1,I1,q1⟩=>?_);cases d with
 |true=>exact ha pins s1 σ H1 D I1 q1
 |false=>exact hb pins s1 σ H1 D I1 q1
end
abbrev TG:=V->St->Hp->(St->Hp->Prop)->Prop
abbrev mi:=List V->St->Hp->(St->Hp->Prop)->Prop
def PG(X:Cx)(target:Expr)(t:TG):Prop:=
 ∀(pins:List (Addr×Obj)) (s:Shared) (σ:St) (H:Hp) (v:V) (u:Value) (Q:St->Hp->Prop),Inv X pins σ H s->RelV v u->t v σ H Q->
  wpAny (model X.prog X.w) X.A (assign target X.env u) (λ_ s'=>∃σ' H',Inv X pins σ' H' s'/\Q σ' H') X.xe s
def rl(X:Cx)(ts:List Expr)(t:mi):Prop:=
 ∀(pins:List (Addr×Obj)) (s:Shared) (σ:St) (H:Hp) (vs:List V) (us:List Value) (Q:St->Hp->Prop),Inv X pins σ H s->Vals vs us->t vs σ H Q->
  wpAny (model X.prog X.w) X.A (assignInOrder ((assignEach ts X.env).map (·.2)) us) (λ_ s'=>∃σ' H',Inv X pins σ' H' s'/\Q σ' H') X.xe s
abbrev oN:=V->V->V->Hp->(Hp->Prop)->Prop
def sJ(X:Cx)(t:oN):Prop:=
 ∀(pins:List (Addr×Obj)) (s:Shared) (σ:St) (H:Hp) (o i v:V) (ov iv u:Value) (Q:Hp->Prop),Inv X pins σ H s->RelV o ov->RelV i iv->RelV v u->t o i v H Q->
  wpAny (model X.prog X.w) X.A (setItem ov iv u) (λ_ s'=>∃H',Inv X pins σ H' s'/\Q H') X.xe s
section
def kG(i:Nat):TG:=λv σ H Q=>Q (σ.set i (some v)) H
theorem fN{i:Nat}(hN:X.N.Nodup)(hi:X.N[i]? = some x)(hx:jX X.env.scope x)(hf:X.fn x=true\/X.env.scope.names.lookup x=some .local:=by first|exact .inl rfl|exact .inr rfl|assumption):PG X (.Name x pos) (kG i):=by
 intro pins s σ H v u Q I r h;exact wpAny_assign_Name (eI I hN hi hx r (λs' I'=>⟨_,H,I',h⟩) hf)
def wP:mi:=λvs σ H Q=>vs=[]/\Q σ H
def sK(t:TG)(u:mi):mi:=λvs σ H Q=>∃v r,vs=v::r/\t v σ H λσ' H'=>u r σ' H' Q
theorem iR:rl X [] wP:=by
 intro pins s σ H vs us Q I r h;obtain⟨e,h⟩:=h;subst e;cases r;exact assignInOrder_nil ⟨σ,H,I,h⟩
theorem eJ{t:TG}{u:mi}(h1:PG X e t)(h2:rl X es u)
  (hs:(assignEach (e::es) X.env).map (·.2)=assign e X.env::(assignEach es X.env).map (·.2):=by rfl):rl X (e::es) (sK t u):=by
 intro pins s σ H vs us Q I r h;obtain⟨v,vr,e1,h⟩:=h;subst e1;cases r with
 |cons r rr=>
  rw[hs];refine assignInOrder_cons (aV (h1 pins s σ H _ _ _ I r h) λ_ s1 ⟨σ1,H1,I1,q1⟩=>?_);exact h2 pins s1 σ1 H1 _ _ Q I1 rr q1
def wQ(K:Hg)(n:Nat)(t:mi):TG:=λv σ H Q=>∃a xs,v=.ref a/\SqT K H a xs/\xs.length=n/\t xs σ H Q
theorem oO{t:mi}{n:Nat}(hc:X.calm=true)(h:rl X es t)
  (hn:(assignEach es X.env).length=n:=by rfl) (hst:(assignEach es X.env).findIdx? (·.1)=none:=by rfl):PG X (.Tuple es k pos) (wQ X.K n t):=by
 intro pins s σ H v u Q I r hw;obtain⟨a,xs,e1,hq,hl,hw⟩:=hw;subst e1;cases r;obtain⟨its,rv,ht,hz⟩:=I.tuple hq;refine assign_Tuple_tuple (I.ok.hd hc) ht (by simp[hn,<-hl,rv.length]) hst λh' hx=>?_;have I1:Inv X pins σ H { s with heap:=h' }:=I.kept (t':=s.toks) λb o e=>hx b o (er (cc e)) e;exact h pins _ σ H xs _ Q I1 (by simpa using rv) hw
def wR(to ti:TE)(t:oN):TG:=λv σ H Q=>to σ H λo H1=>ti σ H1 λi H2=>t o i v H2 λH3=>Q σ H3
theorem oP{o i:Expr}{to ti:TE}{t:oN}(ho:PE X o to)(hi:PE X i ti)(hs:sJ X t)
  (ha:∀ v,assign (.Subscript o i pos) X.env v=(do
   let ov <-holding [v] (eval o X.env)
   let iv <-holding [v,ov] (eval i X.env)
   standAt pos
   holding [v,ov,iv] (setItem ov iv v)
   release [v,ov,iv] []):=by intro _;rfl):PG X (.Subscript o i pos) (wR to ti t):=by
 intro pins s σ H v u Q I r h;rw[ha];refine Hf (Hz (aV (ho pins s σ H _ I h) λov s1 ⟨x,H1,I1,r1,q1⟩=>?_));refine Hf (Hz (aV (hi pins s1 σ H1 _ I1 q1) λiv s2 ⟨y,H2,I2,r2,q2⟩=>?_));refine Hf (wpAny_standAt (Hf (Hz (aV (hs pins s2 σ H2 x y v ov iv u _ I2 r1 r2 r q2) λ_ s3 ⟨H3,I3,q3⟩=>?_))));exact wpAny_release ⟨σ,H3,I3,q3⟩
def oQ(te:TE)(g:TG):TS:=λD σ H=>te σ H λx H1=>g x σ H1 D.nx
theorem hW{g:TG}(he:PE X e te)(hg:PG X tg g)(hs:swapsWithSole [tg] e pos.line X.env=pure false:=by rfl)(hw:swappedStores [tg] e X.env=pure none:=by rfl)
  (h1:(assignEach [tg] X.env).map (·.2)=[assign tg X.env]:=by rfl):PS X (.Assign [tg] e pos) (oQ te g):=by
 intro pins s σ H D I h;refine wpAny_Assign_stores (aV (he pins s σ H _ I h) λv s1 ⟨x,H1,I1,r1,q1⟩=>?_) hs hw;rw[h1];exact aV (hg pins s1 σ H1 x v _ I1 r1 q1) λ_ s2 q=>q
theorem hX{i:Nat}(hN:X.N.Nodup)(hi:X.N[i]? = some x)(hx:jX X.env.scope x)(he:PE X e te)(hs:swapsWith e (some (.Name x pos')) pos.line X.env=pure false:=by rfl)(hf:X.fn x=true\/X.env.scope.names.lookup x=some .local:=by first|exact .inl rfl|exact .inr rfl|assumption) :
  PS X (.Assign [.Name x pos'] e pos) (oQ te (kG i)):=by
 intro pins s σ H D I h;refine wpAny_Assign_Name (aV (he pins s σ H _ I h) λv s1 ⟨y,H1,I1,r1,q1⟩=>?_) hs;exact eI I1 hN hi hx r1 (λs2 I2=>⟨_,H1,I2,q1⟩) hf
end
structure It where
 go:Nat->Hp->Prop
 yld:Nat->Hp->V->Hp->Prop
 stop:Nat->Hp->Prop
def eK(X:Cx)(pins:List (Addr×Obj))(H:Hp)(b:Addr):Prop:=
 H b=none/\b≠X.env.locals/\b∉X.fs/\(b∈X.ex\/X.s₀.heap.objs.size<=b)/\(∀x c,X.env.cells.lookup x=some c->c≠b)/\∀p∈X.pn++pins,p.1≠b
theorem Inv.fpOk(I:Inv X pins σ H s)(hb:s.heap.objs.size<=b)(hn:H' b=none):eK X pins H' b:=by
 refine⟨hn,Nat.ne_of_gt (cX I.lt hb),I.nofs hb,.inr (gA I.sz hb),λx c e z=>?_,λp hp z=>?_⟩
 .obtain⟨v,q⟩:=I.cell x c e
  exact Hj (cX q.lt (by rw[z];exact hb)) (g9 _)
 .exact Hj (cX (cc (I.pin p hp).1) (by rw[z];exact hb)) (g9 _)
structure jl(P:Program)(w:World)(K:Hg)(tg:Expr)(J:It)(fp:List Addr)(it:Addr)(tn:Nat->Heap->Prop):Prop where
 mem:it∈fp
 obj:∀i h,tn i h->∀b∈fp,∃o,h.get? b=some o/\∀v,o.data≠.cell v
 keep:∀i h h',tn i h->(∀b∈fp,∀o,h.get? b=some o->h'.get? b=some o)->tn i h'
 item:∀(X:Cx),X.prog=P->X.w=w->X.K=K->X.calm=true->∀(i:Nat) (pins:List (Addr×Obj)) (s:Shared) (σ:St) (H:Hp) (E:Value->Shared->Prop),Inv X pins σ H s->(∀b∈fp,eK X pins H b)->tn i s.heap->J.go i H->
  wpAny (model P w) X.A (pyNext (.ref it)) (λr s1=>∃ u,r=some u/\
   wpAny (model P w) X.A (letOwnedTupleGo tg (.ref it) u) (λ_ s2=>∃x H',Inv X pins σ H' s2/\RelV x u/\J.yld i H x H'/\tn (i+1) s2.heap/\∀b∈fp,H' b=none) E s1) E s
 done:∀(X:Cx),X.prog=P->X.w=w->X.K=K->X.calm=true->∀(i:Nat) (pins:List (Addr×Obj)) (s:Shared) (σ:St) (H:Hp) (E:Value->Shared->Prop),Inv X pins σ H s->(∀b∈fp,eK X pins H b)->tn i s.heap->J.stop i H->
  wpAny (model P w) X.A (pyNext (.ref it)) (λr s1=>r=none/\Inv X pins σ H s1) E s
 self:∀(A:Around) (i:Nat) (s:Shared) (Q:Value->Shared->Prop) (E:Value->Shared->Prop),tn i s.heap->Q (.ref it) s->wpAny (model P w) A (pyIter (.ref it)) Q E s
abbrev TI:=St->Hp->(It->Hp->Prop)->Prop
def zn(X:Cx)(pins:List (Addr×Obj))(σ:St)(tg:Expr)(R:It->Hp->Prop)(itv:Value)(s2:Shared):Prop:=
 ∃(it:Addr) (fp:List Addr) (tn:Nat->Heap->Prop) (J:It) (H':Hp),itv=.ref it/\Inv X pins σ H' s2/\jl X.prog X.w X.K tg J fp it tn/\tn 0 s2.heap/\(∀b∈fp,eK X pins H' b)/\R J H'
def PI(X:Cx)(tg iter:Expr)(wi:TI):Prop:=
 ∀(pins:List (Addr×Obj)) (s:Shared) (σ:St) (H:Hp) (R:It->Hp->Prop),Inv X pins σ H s->wi σ H R->
  wpAny (model X.prog X.w) X.A (eval iter X.env) (λv s1=>wpAny (model X.prog X.w) X.A (pyIter v) (zn X pins σ tg R) X.xe s1) X.xe s
theorem iV{u:Value}{n:String}{vs:Array Value}{Q:Unit->Shared->Prop}(ho:s.heap.get? it=some o)(hc:o.cls = .type n)(hd:o.data = .fields vs)
    (hn:["enumerate", "zip", "dict_itemiterator", "dict_reverseitemiterator", "odict_iterator", "itertools.zip_longest", "itertools.pairwise"].contains n=false) (hQ:Q () s):wpAny M A (letOwnedTupleGo tg (.ref it) u) Q E s:=by
  unfold letOwnedTupleGo;cases tg<;>first
    |exact Hi hQ
    | (cases u<;>first
        |exact Hi hQ
        | (refine Hf (wpAny_load ho ?_)
           rw[hc,hd];show wpAny M A (if(["enumerate", "zip", "dict_itemiterator", "dict_reverseitemiterator", "odict_iterator", "itertools.zip_longest", "itertools.pairwise"].contains n&&vs[0]? == some (rawInt _))=true then _ else _) Q E s;rw[if_neg (by intro h;rw[hn,uM] at h;cases h)];exact Hi hQ))
def zo(K:Hg)(a:Addr):It:=
 ⟨λi H=>∃xs x,SqL K H a xs/\xs[i]? = some x,λi H x H'=>H'=H/\∀xs,SqL K H a xs->xs[i]? = some x,λi H=>∃xs,SqL K H a xs/\xs.length<=i⟩
def wU(K:Hg)(a:Addr):It:=
 ⟨λi H=>∃xs x,SqT K H a xs/\xs[i]? = some x,λi H x H'=>H'=H/\∀xs,SqT K H a xs->xs[i]? = some x,λi H=>∃xs,SqT K H a xs/\xs.length<=i⟩
def uX(lo:Int)(n:Nat):It:=⟨λi _=>i<n,λi H x H'=>H'=H/\x=.int (lo+i),λi _=>n<=i⟩
theorem jm(a it:Addr):jl P w K tg (zo K a) [it] it (λi h=>h.IsListIter it a i) where
 mem:=by simp
 obj:=λi h st b hb=>by
  have e:b=it:=by simpa using hb
  subst e;obtain⟨o,e,c,d⟩:=st;exact⟨o,e,λv z=>by rw[d] at z;cases z⟩
 keep:=λi h h' st k=>st.at λo e=>k it (by simp) o e
 item:=by
  intro X hP hw hK hc i pins s σ H E I hf st hg;subst hP hw hK;obtain⟨xs,x,hq,hx⟩:=hg;obtain⟨its,rv,p,hz⟩:=I.list hq;obtain⟨u,hu,ru⟩:=rv.get hx;obtain⟨f0,f1,f2,f3,f4,f5⟩:=hf it (by simp);refine wpAny_pyNext_list_item st p.isList (x:=u) (by simpa using hu) λh' st' sb=>?_;have I1:Inv X pins σ H { s with heap:=h' }:=I.turned (t':=s.toks) (λb o hb e=>(sb.2 b hb).trans e) f0 f1 f3 f4 f5;obtain⟨o,e,c,d⟩:=id st';exact⟨u,rfl,iV (s:={ s with heap:=h' }) e c d (by decide) ⟨x,H,I1,ru,⟨rfl,λys hy=>by rw[I.list_inj hy hq];exact hx⟩,st',λb hb=>(hf b hb).1⟩⟩
 done:=by
  intro X hP hw hK hc i pins s σ H E I hf st hg;subst hP hw hK;obtain⟨xs,hq,hx⟩:=hg;obtain⟨its,rv,p,hz⟩:=I.list hq;obtain⟨f0,f1,f2,f3,f4,f5⟩:=hf it (by simp);have hl:=rv.length;exact wpAny_pyNext_list_end (I.ok.hd hc) st p.isList (by simp;omega) λh' eb=>⟨rfl,I.turned (t':=s.toks) (λb o hb e=>eb b o hb e) f0 f1 f3 f4 f5⟩
 self:=λ_ _ _ _ _ st h=>wpAny_pyIter_listiter st h
theorem hZ(a it:Addr):jl P w K tg (wU K a) [it] it (λi h=>h.IsTupleIter it a i) where
 mem:=by simp
 obj:=λi h st b hb=>by
  have e:b=it:=by simpa using hb
  subst e;obtain⟨o,e,c,d⟩:=st;exact⟨o,e,λv z=>by rw[d] at z;cases z⟩
 keep:=λi h h' st k=>st.at λo e=>k it (by simp) o e
 item:=by
  intro X hP hw hK hc i pins s σ H E I hf st hg;subst hP hw hK;obtain⟨xs,x,hq,hx⟩:=hg;obtain⟨its,rv,p,hz⟩:=I.tuple hq;obtain⟨u,hu,ru⟩:=rv.get hx;obtain⟨f0,f1,f2,f3,f4,f5⟩:=hf it (by simp);refine wpAny_pyNext_tuple_item st (show s.heap.IsTuple a its.toArray from p) (x:=u) (by simpa using hu) λh' st' sb=>?_;have I1:Inv X pins σ H { s with heap:=h' }:=I.turned (t':=s.toks) (λb o hb e=>(sb.2 b hb).trans e) f0 f1 f3 f4 f5;obtain⟨o,e,c,d⟩:=id st';exact⟨u,rfl,iV (s:={ s with heap:=h' }) e c d (by decide) ⟨x,H,I1,ru,⟨rfl,λys hy=>by rw[I.tuple_inj hy hq];exact hx⟩,st',λb hb=>(hf b hb).1⟩⟩
 done:=by
  intro X hP hw hK hc i pins s σ H E I hf st hg;subst hP hw hK;obtain⟨xs,hq,hx⟩:=hg;obtain⟨its,rv,p,hz⟩:=I.tuple hq;obtain⟨f0,f1,f2,f3,f4,f5⟩:=hf it (by simp);have hl:=rv.length;exact wpAny_pyNext_tuple_end (I.ok.hd hc) st (show s.heap.IsTuple a its.toArray from p) (by simp;omega) λh' eb=>⟨rfl,I.turned (t':=s.toks) (λb o hb e=>eb b o hb e) f0 f1 f3 f4 f5⟩
 self:=λ_ _ _ _ _ st h=>wpAny_pyIter_tupleiter st h
theorem h8(it:Addr)(lo:Int)(n:Nat):jl P w K tg (uX lo n) [it] it (λi h=>IsRangeIter h it (lo+(i:Nat)*1) ((n:Int)-(i:Nat)) 1) where
 mem:=by simp
 obj:=λi h st b hb=>by
  have e:b=it:=by simpa using hb
  subst e;exact ⟨_,st,λv z=>by
   have z':Data.fields _=Data.cell v:=z;cases z'⟩
 keep:=λi h h' st k=>k it (by simp) _ st
 item:=by
  intro X hP hw hK hc i pins s σ H E I hf st hg;subst hP hw hK;obtain⟨f0,f1,f2,f3,f4,f5⟩:=hf it (by simp);have W:=Walks.range (prog:=X.prog) (w:=X.w) (I.ok.hd hc) it lo 1 n;refine W.item i s _ _ hg st λv h' tk hv st' kk=>?_;obtain⟨t,rfl⟩:=hv;have I1:Inv X pins σ H { s with heap:=h',toks:=tk }:=I.turned (λb o hb e=>kk b o (by simpa using hb) e) f0 f1 f3 f4 f5;refine⟨_,rfl,iV (s:={ s with heap:=h',toks:=tk }) (n:= "range_iterator") st' rfl rfl (by decide) ⟨.int (lo+i),H,I1,⟨t,?_⟩,⟨rfl,rfl⟩,st',λb hb=>(hf b hb).1⟩⟩;rw[Int.mul_one]
 done:=by
  intro X hP hw hK hc i pins s σ H E I hf st hg;subst hP hw hK;obtain⟨f0,f1,f2,f3,f4,f5⟩:=hf it (by simp);exact wpAny_pyNext_range_end (I.ok.hd hc) st (by have:n<=i:=hg;omega) λh' eb=>⟨rfl,I.turned (t':=s.toks) (λb o hb e=>eb b o hb e) f0 f1 f3 f4 f5⟩
 self:=λ_ _ _ _ _ st h=>wpAny_pyIter_rangeiter st h
section
theorem kH{R:It->Hp->Prop}{lo hi:Int}{t u v:Tok}{tk:Nat}(I:Inv X pins σ H s)(h1:-(2^62)<=lo)(h2:lo<2^62)(h3:-(2^62)<=hi)(h4:hi<2^62)
  (q:R (uX lo (hi-lo).toNat) H):wpAny (model X.prog X.w) X.A (pyIter (.ref s.heap.objs.size)) (zn X pins σ tg R) E { s with heap:=s.heap.push { cls:=.type "range",data:=.fields #[.int lo t,.int hi u,.int 1 v] },toks:=tk }:=by
 refine wpAny_pyIter_range (IsRange.new ..) (small_one h1 h2 h3 h4) ?_;have I1:Inv X pins σ H { s with heap:=s.heap.push { cls:=.type "range",data:=.fields #[.int lo t,.int hi u,.int 1 v] },toks:=tk }:=I.kept λb o e=>cv _ e;refine ⟨(s.heap.push { cls:=.type "range",data:=.fields #[.int lo t,.int hi u,.int 1 v] }).objs.size,[(s.heap.push { cls:=.type "range",data:=.fields #[.int lo t,.int hi u,.int 1 v] }).objs.size],_,_,H,rfl,
  I1.kept (t':=tk) λb o e=>cv _ e,h8 _ lo (hi-lo).toNat,?_,λb hb=>?_,q⟩
 .have e1:lo+((0:Nat):Int)*1=lo:=by simp
  have e2:(((hi-lo).toNat:Nat):Int)-((0:Nat):Int)=Builtin.Range.rangeSize lo hi 1:=by rw[rangeSize_one];split<;>omega
  show IsRangeIter _ _ (lo+((0:Nat):Int)*1) ((((hi-lo).toNat:Nat):Int)-((0:Nat):Int)) 1;rw[e1,e2];exact eV _ rfl
 .have e:b=(s.heap.push { cls:=.type "range",data:=.fields #[.int lo t,.int hi u,.int 1 v] }).objs.size:=by simpa using hb
  subst e;exact I1.fpOk (bP _) (I1.hok.fresh (bP _))
def sL(ta:TA):TI:=λσ H R=>ta σ H λvs H1=>∃j:Int,vs=[.int j]/\-(2^62)<=j/\j<2^62/\R (uX 0 j.toNat) H1
theorem jn{a:Expr}{ta:TA}(hg:Gl X "range")(hm:X.mg "range" = none)(ha:PA X [a] ta)(hs:starEach [a] X.env=[(false,eval a X.env)]:=by rfl):PI X tg (.Call (.Name "range" p) [a] [] pos) (sL ta):=by
 intro pins s σ H R I h;refine Call_ (dD I hg hm boot_range (PyProof.Rows.callWith_type1 (aV (ha pos pins s σ H _ I h) λus s1 ⟨vs,H1,I1,r1,q1⟩=>?_) hs rfl));obtain⟨j,e,q1,q2,q⟩:=q1;subst e;cases r1 with
 |cons r rr=>
  cases rr;obtain⟨t,rfl⟩:=r;exact call_range_1 (kH I1 (by omega) (by omega) q1 q2 (by simpa using q))
def wV(wi:TI)(g:TG)(tb:TS):TS:=λD σ H=>wi σ H λJ H1=>∃W:Nat->Nat->St->Hp->Prop,(∃m,W 0 m σ H1)/\∀i m σ H,W i m σ H->
 (J.stop i H/\D.nx σ H)\/(J.go i H/\∃N:St->Hp->Prop,(∀σ' H',N σ' H'->∃m',m'<m/\W (i+1) m' σ' H')/\∀x H',J.yld i H x H'->g x σ H' λσ2 H2=>tb { D with nx:=N,ct:=N,bk:=D.nx } σ2 H2)
def eL(fp:List Addr)(h:Heap):List (Addr×Obj):=fp.filterMap λb=>(h.get? b).map λo=>(b,o)
theorem cy(hb:b∈fp)(e:h.get? b=some o):(b,o)∈eL fp h:=Yax.mpr ⟨b,hb,by rw[e];rfl⟩
theorem jo{p:Addr×Obj}(hp:p∈eL fp h):p.1∈fp/\h.get? p.1=some p.2:=by
 obtain⟨b,hb,e⟩:=Yax.mp hp;cases q:h.get? b with
 |none=>rw[q] at e;cases e
 |some o=>
  rw[q] at e;have e':(b,o)=p:=Hn e;subst e';exact⟨hb,q⟩
theorem Inv.pinned(I:Inv X pins σ H s)(hf:∀b∈fp,eK X pins H b)(ho:∀b∈fp,∃o,s.heap.get? b=some o/\∀v,o.data≠.cell v):Inv X (pins++eL fp s.heap) σ H s:=
 I.pins_of λp hp=>(Yan.mp hp).elim (λz=>I.pin p (iO _ z)) λz=>by
  obtain⟨hb,e⟩:=jo z;obtain⟨f0,f1,f2,_⟩:=hf p.1 hb;obtain⟨o,e',d⟩:=ho p.1 hb;rw[e] at e';cases e';exact⟨e,f0,f1,f2,d⟩
theorem Inv.unpinned{pl:List (Addr×Obj)}(I:Inv X (pins++pl) σ H s):Inv X pins σ H s:=I.pins_of λp hp=>I.pin p (iO _ (si _ hp))
theorem oR{iter:Expr}{wi:TI}{g:TG}{tb:TS}(hp:PassesOwn (model X.prog X.w) X.A X.env X.xe)(hc:X.calm=true)(hi:PI X tg iter wi)(hg:PG X tg g)(hb:kz X body tb)
  (hs:∀x,foldedSetIterable iter X.env x=pure x:=by intro _;rfl):PS X (.For tg iter body [] pos) (wV wi g tb):=by
 intro pins s σ H D I h;refine wpAny_For (aV (hi pins s σ H _ I h) λv s1 h1=>aV h1 λitv s2 h2=>?_) hs;obtain⟨it,fp,tn,J,H2,e,I2,T,st2,f2,W,⟨m0,w0⟩,turn⟩:=h2;subst e
 have stat:∀{H':Hp},(∀b∈fp,H' b=none)->∀b∈fp,eK X pins H' b:=λhn b hb=>⟨hn b hb,(f2 b hb).2⟩;refine codeAny_forLoop_any (λn s'=>∃i σ' H',Inv X pins σ' H' s'/\tn i s'.heap/\(∀b∈fp,H' b=none)/\W i n σ' H') ?_ m0 ⟨0,σ,H2,I2,st2,λb hb=>(f2 b hb).1,w0⟩;rintro n s3 ⟨i,σ3,H3,I3,st3,fr3,w3⟩;rcases turn i n σ3 H3 w3 with⟨stop,qn⟩|⟨go,N,hN,step⟩
 .refine HM hp (aV (T.done X rfl rfl rfl hc i pins s3 σ3 H3 X.xe I3 (stat fr3) st3 stop) λr s4 ⟨hr,I4⟩=>?_)
  subst hr;exact HQ ⟨σ3,H3,I4,qn⟩
 .refine HM hp (aV (T.item X rfl rfl rfl hc i pins s3 σ3 H3 X.xe I3 (stat fr3) st3 go) λr s4 ⟨u,hr,h4⟩=>?_)
  subst hr;refine HM hp (aV h4 λ_ s5 ⟨x,H5,I5,r5,y5,st5,fr5⟩=>?_);have I5':=I5.pinned (stat fr5) (T.obj _ _ st5);refine HM hp (aV (hg _ s5 σ3 H5 x u _ I5' r5 (step x H5 y5)) λ_ s6 ⟨σ6,H6,I6,q6⟩=>?_);refine HM hp (aV (hb _ s6 σ6 H6 _ I6 q6) λf s7 q7=>?_);have again:∀{σ7:St} {H7:Hp},Inv X (pins++eL fp s5.heap) σ7 H7 s7->N σ7 H7->∃m,m<n/\∃i σ' H',Inv X pins σ' H' s7/\tn i s7.heap/\(∀b∈fp,H' b=none)/\W i m σ' H':=λ{σ7 H7} I7 n7=>by
   obtain⟨m',hm,w7⟩:=hN σ7 H7 n7;refine⟨m',hm,i+1,σ7,H7,I7.unpinned,T.keep _ _ _ st5 λb hb o e=>(I7.pin (b,o) (iO _ (iO _ (cy hb e)))).1,λb hb=>?_,w7⟩;obtain⟨o,e,d⟩:=T.obj _ _ st5 b hb;exact(I7.pin (b,o) (iO _ (iO _ (cy hb e)))).2.1
  cases f with
  |next=>obtain⟨σ7,H7,I7,n7⟩:=q7;exact again I7 n7
  |cont=>obtain⟨σ7,H7,I7,n7⟩:=q7;exact again I7 n7
  |brk=>obtain⟨σ7,H7,I7,q7⟩:=q7;exact⟨σ7,H7,I7.unpinned,q7⟩
  |ret v=>obtain⟨x7,σ7,H7,I7,r7,q7⟩:=q7;exact⟨x7,σ7,H7,I7.unpinned,r7,q7⟩
end
abbrev R2:=V->V->Hp->VK->Prop
variable{r r':R2}
def OpR(X:Cx)(f:Value->Value->Sem Value)(r:R2):Prop:=
 ∀(pins:List (Addr×Obj)) (s:Shared) (σ:St) (H:Hp) (x y:V) (v u:Value) (Q:VK),Inv X pins σ H s->RelV x v->RelV y u->r x y H Q->
  wpAny (model X.prog X.w) X.A (f v u) (EP X pins σ Q) X.xe s
def uY(X:Cx)(f:Value->Sem Value)(r:V->Hp->VK->Prop):Prop:=
 ∀(pins:List (Addr×Obj)) (s:Shared) (σ:St) (H:Hp) (x:V) (v:Value) (Q:VK),Inv X pins σ H s->RelV x v->r x H Q->
  wpAny (model X.prog X.w) X.A (f v) (EP X pins σ Q) X.xe s
def bY(X:Cx)(f:Value)(r:List V->Hp->VK->Prop):Prop:=
 ∀(pins:List (Addr×Obj)) (s:Shared) (σ:St) (H:Hp) (xs:List V) (us:List Value) (Q:VK),Inv X pins σ H s->Vals xs us->r xs H Q->
  wpAny (model X.prog X.w) X.A (call f us) (EP X pins σ Q) X.xe s
def wW(X:Cx)(r:V->Hp->(Bool->Hp->Prop)->Prop):Prop:=
 ∀(pins:List (Addr×Obj)) (s:Shared) (σ:St) (H:Hp) (x:V) (v:Value) (Q:Bool->Hp->Prop),Inv X pins σ H s->RelV x v->r x H Q->
  wpAny (model X.prog X.w) X.A (truthy v) (TP X pins σ Q) X.xe s
def uZ(r:R2)(ta tb:TE):TE:=λσ H Q=>ta σ H λx H1=>tb σ H1 λy H2=>r x y H2 Q
def B2(r:V->Hp->VK->Prop)(ta:TE):TE:=λσ H Q=>ta σ H λx H1=>r x H1 Q
def rI(C:Int->Int->Prop)(g:Int->Int->V):R2:=λx y H Q=>∃i j,x=.int i/\y=.int j/\C i j/\Q (g i j) H
def mj(g:Int->Int->V):R2:=λx y H Q=>∃i j,x=.int i/\y=.int j/\Q (g i j) H
def rU(g:Int->V):V->Hp->VK->Prop:=λx H Q=>∃i,x=.int i/\Q (g i) H
section
variable{a b:Expr}{tc:TE}
theorem oV(ha:PE X a ta)(hb:PE X b tb)(I:Inv X pins σ H s)
  (h:ta σ H λx H1=>tb σ H1 λy H2=>R x y H2) {f:Value->Value->Sem Value}
  (hf:∀v u s2 x y H2,Inv X pins σ H2 s2->RelV x v->RelV y u->R x y H2->wpAny (model X.prog X.w) X.A (f v u) Q X.xe s2) :
  wpAny (model X.prog X.w) X.A (eval a X.env) (λv s₁=>wpAny (model X.prog X.w) X.A (eval b X.env) (λu s₂=>wpAny (model X.prog X.w) X.A (f v u) Q X.xe s₂) X.xe s₁) X.xe s:=by
 refine aV (ha pins s σ H _ I h) λv s1 ⟨x,H1,I1,r1,q1⟩=>?_;refine aV (hb pins s1 σ H1 _ I1 q1) λu s2 ⟨y,H2,I2,r2,q2⟩=>?_;exact hf v u s2 x y H2 I2 r1 r2 q2
theorem ny{op:Operator}(ho:OpR X (binaryOp op) r)(ha:PE X a ta)(hb:PE X b tb):PE X (.BinOp a op b pos) (uZ r ta tb):=by
 intro pins s σ H Q I h;exact wpAny_BinOp (oV ha hb I h λv u s2 x y H2 I2 rx ry q=>ho pins s2 σ H2 x y v u Q I2 rx ry q)
theorem nA{op:UnaryOp}{r:V->Hp->VK->Prop}(ho:uY X (unaryOp op) r)(ha:PE X a ta):PE X (.UnaryOp op a pos) (B2 r ta):=by
 intro pins s σ H Q I h;exact UnaryOp_ (aV (ha pins s σ H _ I h) λv s1 ⟨x,H1,I1,r1,q1⟩=>ho pins s1 σ H1 x v Q I1 r1 q1)
theorem u5{f:Value->Value->Sem Value}{C:Int->Int->Prop}
  (rule:∀(i j:Int) (t u:Tok) (s:Shared) (Q:Value->Shared->Prop) (E:Value->Shared->Prop),C i j->Q (.int (g i j) s.toks) { s with toks:=s.toks+1 }->wpAny (model X.prog X.w) X.A (f (.int i t) (.int j u)) Q E s) :
  OpR X f (rI C λi j=>.int (g i j)):=by
 intro pins s σ H x y v u Q I rx ry h;obtain⟨i,j,rfl,rfl,hc,q⟩:=h;obtain⟨t,rfl⟩:=rx;obtain⟨t',rfl⟩:=ry;exact rule i j t t' s _ _ hc ⟨.int (g i j),H,I.tok _,⟨_,rfl⟩,q⟩
theorem sM{f:Value->Value->Sem Value}
  (rule:∀(i j:Int) (t u:Tok) (s:Shared) (Q:Value->Shared->Prop) (E:Value->Shared->Prop),Q (.int (g i j) s.toks) { s with toks:=s.toks+1 }->wpAny (model X.prog X.w) X.A (f (.int i t) (.int j u)) Q E s) :
  OpR X f (mj λi j=>.int (g i j)):=by
 intro pins s σ H x y v u Q I rx ry h;obtain⟨i,j,rfl,rfl,q⟩:=h;obtain⟨t,rfl⟩:=rx;obtain⟨t',rfl⟩:=ry;exact rule i j t t' s _ _ ⟨.int (g i j),H,I.tok _,⟨_,rfl⟩,q⟩
theorem ml{f:Value->Value->Sem Value}{g:Int->Int->Bool}
  (rule:∀(i j:Int) (t u:Tok) (s:Shared) (Q:Value->Shared->Prop) (E:Value->Shared->Prop),Q (.bool (g i j)) s->wpAny (model X.prog X.w) X.A (f (.int i t) (.int j u)) Q E s) :
  OpR X f (mj λi j=>.bl (g i j)):=by
 intro pins s σ H x y v u Q I rx ry h;obtain⟨i,j,rfl,rfl,q⟩:=h;obtain⟨t,rfl⟩:=rx;obtain⟨t',rfl⟩:=ry;exact rule i j t t' s _ _ ⟨.bl (g i j),H,I,rfl,q⟩
def oW(i j:Int):Prop:=0<=j/\j<=1000000/\i.natAbs<2^64
theorem oX:OpR X (binaryOp .Add) (mj λi j=>.int (i+j)):=sM λ_ _ _ _ _ _ _ q=>add_int q
theorem oY:OpR X (binaryOp .Sub) (mj λi j=>.int (i-j)):=sM λ_ _ _ _ _ _ _ q=>sub_int q
theorem mm:OpR X (binaryOp .Mod) (rI (λ_ j=>j≠0) λi j=>.int (i.fmod j)):=u5 λ_ _ _ _ _ _ _ hc q=>mod_int' hc q
theorem oZ:OpR X (binaryOp .Pow) (rI oW λi j=>.int (i^j.toNat)):=u5 λ_ _ _ _ _ _ _ hc q=>pow_int_small hc.1 hc.2.1 hc.2.2 q
theorem B3{f:Value->Sem Value}{g:Int->Int}
  (rule:∀(i:Int) (t:Tok) (s:Shared) (Q:Value->Shared->Prop) (E:Value->Shared->Prop),Q (.int (g i) s.toks) { s with toks:=s.toks+1 }->wpAny (model X.prog X.w) X.A (f (.int i t)) Q E s) :
  uY X f (rU λi=>.int (g i)):=by
 intro pins s σ H x v Q I rx h;obtain⟨i,rfl,q⟩:=h;obtain⟨t,rfl⟩:=rx;exact rule i t s _ _ ⟨.int (g i),H,I.tok _,⟨_,rfl⟩,q⟩
theorem kI:uY X (unaryOp .USub) (rU λi=>.int (-i)):=B3 λ_ _ _ _ _ q=>neg_int q
end
def sO:V->V->Bool
 |.non,.non=>true|.non,.int _=>true|.int _,.non=>true|.non,.bl _=>true|.bl _,.non=>true|.non,.str _=>true|.str _,.non=>true
 |.int _,.int _=>true|.bl _,.bl _=>true|.str _,.str _=>true|.byt _,.byt _=>true
 |.int _,.str _=>true|.str _,.int _=>true|.bl _,.str _=>true|.str _,.bl _=>true
 |_,_=>false
def B4:R2:=λx y H Q=>sO x y=true/\Q (.bl (decide (x=y))) H
def B5:R2:=λx y H Q=>sO x y=true/\Q (.bl (!decide (x=y))) H
theorem iW{i j:Int}:decide (V.int i=V.int j)=(i==j):=by
 rw[kq];simp
theorem kJ{i j:Bool}:decide (V.bl i=V.bl j)=(i==j):=by
 rw[kq];simp
theorem iX{i j:Str}:decide (V.str i=V.str j)=(i==j):=by
 rw[kq];simp
theorem iY{i j:Array UInt8}:decide (V.byt i=V.byt j)=(i.toList==j.toList):=by
 rw[kq];cases i;cases j;simp
section
variable{a b:Expr}{tc:TE}
theorem aP{Q:VK}{k k':Bool}(I:Inv X pins σ H s)(q:Q (.bl k) H)(e:k=k'):EP X pins σ Q (.bool k') s:=by
 subst e;exact⟨.bl k,H,I,rfl,q⟩
theorem sP:OpR X (compareOp .Eq) B4:=by
 intro pins s σ H x y v u Q I rx ry h;obtain⟨hs,q⟩:=h;cases x with
 |non=>
  cases rx;cases y with
  |non=>cases ry;exact PySem.EqNone.eq_none_none (aP I q (by simp))
  |bl j=>cases ry;exact PySem.EqNone.eq_none_bool (aP I q (by simp))
  |int j=>obtain⟨t',rfl⟩:=ry;exact PySem.EqNone.eq_none_int (aP I q (by simp))
  |str j=>obtain⟨t',rfl⟩:=ry;exact PySem.EqNone.eq_none_str (aP I q (by simp))
  |_=>exact Hj (show false=true from hs) bW
 |bl i=>
  cases rx;cases y with
  |non=>cases ry;exact PySem.EqNone.eq_bool_none (aP I q (by simp))
  |bl j=>cases ry;exact eq_bool (aP I q kJ)
  |str j=>obtain⟨t',rfl⟩:=ry;exact PySem.EqMixed.eq_bool_str (aP I q (by simp))
  |_=>exact Hj (show false=true from hs) bW
 |int i=>
  obtain⟨t,rfl⟩:=rx;cases y with
  |non=>cases ry;exact PySem.EqNone.eq_int_none (aP I q (by simp))
  |int j=>obtain⟨t',rfl⟩:=ry;exact eq_int (aP I q iW)
  |str j=>obtain⟨t',rfl⟩:=ry;exact PySem.EqMixed.eq_int_str (aP I q (by simp))
  |_=>exact Hj (show false=true from hs) bW
 |str i=>
  obtain⟨t,rfl⟩:=rx;cases y with
  |non=>cases ry;exact PySem.EqNone.eq_str_none (aP I q (by simp))
  |bl j=>cases ry;exact PySem.EqMixed.eq_str_bool (aP I q (by simp))
  |int j=>obtain⟨t',rfl⟩:=ry;exact PySem.EqMixed.eq_str_int (aP I q (by simp))
  |str j=>obtain⟨t',rfl⟩:=ry;exact eq_str (aP I q iX)
  |_=>exact Hj (show false=true from hs) bW
 |byt i=>
  obtain⟨t,rfl⟩:=rx;cases y with
  |byt j=>obtain⟨t',rfl⟩:=ry;exact PySem.W.eq_bytes (aP I q iY)
  |_=>exact Hj (show false=true from hs) bW
 |_=>cases y<;>exact Hj (show false=true from hs) bW
theorem sQ:OpR X (compareOp .NotEq) B5:=by
 intro pins s σ H x y v u Q I rx ry h;obtain⟨hs,q⟩:=h;cases x with
 |non=>
  cases rx;cases y with
  |non=>cases ry;exact PySem.EqNone.ne_none_none (aP I q (by simp))
  |bl j=>cases ry;exact PySem.EqNone.ne_none_bool (aP I q (by simp))
  |int j=>obtain⟨t',rfl⟩:=ry;exact PySem.EqNone.ne_none_int (aP I q (by simp))
  |str j=>obtain⟨t',rfl⟩:=ry;exact PySem.EqNone.ne_none_str (aP I q (by simp))
  |_=>exact Hj (show false=true from hs) bW
 |bl i=>
  cases rx;cases y with
  |non=>cases ry;exact PySem.EqNone.ne_bool_none (aP I q (by simp))
  |bl j=>cases ry;exact ne_bool (aP I q (congrArg not kJ))
  |str j=>obtain⟨t',rfl⟩:=ry;exact PySem.EqMixed.ne_bool_str (aP I q (by simp))
  |_=>exact Hj (show false=true from hs) bW
 |int i=>
  obtain⟨t,rfl⟩:=rx;cases y with
  |non=>cases ry;exact PySem.EqNone.ne_int_none (aP I q (by simp))
  |int j=>obtain⟨t',rfl⟩:=ry;exact ne_int (aP I q (congrArg not iW))
  |str j=>obtain⟨t',rfl⟩:=ry;exact PySem.EqMixed.ne_int_str (aP I q (by simp))
  |_=>exact Hj (show false=true from hs) bW
 |str i=>
  obtain⟨t,rfl⟩:=rx;cases y with
  |non=>cases ry;exact PySem.EqNone.ne_str_none (aP I q (by simp))
  |bl j=>cases ry;exact PySem.EqMixed.ne_str_bool (aP I q (by simp))
  |int j=>obtain⟨t',rfl⟩:=ry;exact PySem.EqMixed.ne_str_int (aP I q (by simp))
  |str j=>obtain⟨t',rfl⟩:=ry;exact ne_str (aP I q (congrArg not iX))
  |_=>exact Hj (show false=true from hs) bW
 |byt i=>
  obtain⟨t,rfl⟩:=rx;cases y with
  |byt j=>obtain⟨t',rfl⟩:=ry;exact PySem.W.ne_bytes (aP I q (congrArg not iY))
  |_=>exact Hj (show false=true from hs) bW
 |_=>cases y<;>exact Hj (show false=true from hs) bW
theorem jp:OpR X (compareOp .In) (λx y H Q=>∃i j,x=.str i/\y=.str j/\Q (.bl (!(Builtin.Str.occurrences j i 0 j.length 1).isEmpty)) H):=by
 intro pins s σ H x y v u Q I rx ry h;obtain⟨i,j,rfl,rfl,q⟩:=h;obtain⟨t,rfl⟩:=rx;obtain⟨t',rfl⟩:=ry;exact in_str (aP I q rfl)
theorem OpR.or{f:Value->Value->Sem Value}(h:OpR X f r)(h':OpR X f r'):OpR X f (λx y H Q=>r x y H Q\/r' x y H Q):=by
 intro pins s σ H x y v u Q I rx ry q;rcases q with q|q
 .exact h pins s σ H x y v u Q I rx ry q
 .exact h' pins s σ H x y v u Q I rx ry q
theorem fO(b:Expr)(h:op≠.In:=by decide)(h2:op≠.NotIn:=by decide):behindInMarks op b=false:=by
 have e1:(op==CmpOp.In)=false:=by cases op<;>first|rfl|exact Hj rfl h
 have e2:(op==CmpOp.NotIn)=false:=by cases op<;>first|rfl|exact Hj rfl h2
 cases b<;>simp[behindInMarks,e1,e2]
theorem i0(ho:OpR X (compareOp op) r)(ha:PE X a ta)(hb:PE X b tb)(hm:behindInMarks op b=false):PE X (.Compare a [op] [b] pos) (uZ r ta tb):=by
 intro pins s σ H Q I h;exact wpAny_Compare1 (oV ha hb I h λv u s2 x y H2 I2 rx ry q=>ho pins s2 σ H2 x y v u Q I2 rx ry q) hm
def nD(t:TE):TT:=λσ H Q=>t σ H λx H'=>∃k,x=.bl k/\Q k H'
theorem eA(ho:OpR X (compareOp op) r)(ha:PE X a ta)(hb:PE X b tb)(hm:behindInMarks op b=false):PT X (.Compare a [op] [b] pos) (nD (uZ r ta tb)):=by
 intro pins s σ H Q I h;refine wpAny_isTrue_Compare1 (aV (ha pins s σ H _ I h) λv s1 ⟨x,H1,I1,r1,q1⟩=>aV (hb pins s1 σ H1 _ I1 q1) λu s2 ⟨y,H2,I2,r2,q2⟩=>
  aV (ho pins s2 σ H2 x y v u _ I2 r1 r2 q2) λc s3 ⟨z,H3,I3,r3,k,e,q3⟩=>?_) hm
 subst e;cases r3;exact HC ⟨H3,I3,q3⟩
def kK(r r':R2)(ta tb tc:TE):TE:=λσ H Q=>ta σ H λx H1=>tb σ H1 λy H2=>r x y H2 λz H3=>∃k,z=.bl k/\
 (if k=true then tc σ H3 λw' H4=>r' y w' H4 Q else Q (.bl false) H3)
theorem kL{op':CmpOp}(ho:OpR X (compareOp op) r)(ho':OpR X (compareOp op') r')(ha:PE X a ta)(hb:PE X b tb)(hc:PE X c tc)
  (hm:lastMarks [op,op'] [b,c]=false:=by with_unfolding_all rfl):PE X (.Compare a [op,op'] [b,c] pos) (kK r r' ta tb tc):=by
 intro pins s σ H Q I h;refine Compare_chain (aV (ha pins s σ H _ I h) λv s1 ⟨x,H1,I1,r1,q1⟩=>chain_link (aV (hb pins s1 σ H1 _ I1 q1) λu s2 ⟨y,H2,I2,r2,q2⟩=>
  aV (ho pins s2 σ H2 x y v u _ I2 r1 r2 q2) λd s3 ⟨z,H3,I3,r3,k,e,q3⟩=>?_)) hm
 subst e;cases r3;refine HC ?_;cases k with
 |false=>exact ite_ff ⟨.bl false,H3,I3,rfl,q3⟩
 |true=>exact ite_tt (chain_last (aV (hc pins s3 σ H3 _ I3 q3) λw' s4 ⟨z',H4,I4,r4,q4⟩=>ho' pins s4 σ H4 y z' u w' Q I4 r2 r4 q4))
theorem kM{op':CmpOp}(ho:OpR X (compareOp op) r)(ho':OpR X (compareOp op') r')(ha:PE X a ta)(hb:PE X b tb)(hc:PE X c tc)
  (hm:lastMarks [op,op'] [b,c]=false:=by with_unfolding_all rfl):PT X (.Compare a [op,op'] [b,c] pos) (nD (kK r r' ta tb tc)):=by
 intro pins s σ H Q I h;refine isTrue_chain (aV (ha pins s σ H _ I h) λv s1 ⟨x,H1,I1,r1,q1⟩=>test_link (aV (hb pins s1 σ H1 _ I1 q1) λu s2 ⟨y,H2,I2,r2,q2⟩=>
  aV (ho pins s2 σ H2 x y v u _ I2 r1 r2 q2) λd s3 ⟨z,H3,I3,r3,k,e,q3⟩=>?_)) hm
 subst e;cases r3;refine HC ?_;cases k with
 |false=>
  obtain⟨k',e',q'⟩:=q3;cases e';exact ite_ff ⟨H3,I3,q'⟩
 |true=>
  refine ite_tt (test_last (aV (hc pins s3 σ H3 _ I3 q3) λw' s4 ⟨z',H4,I4,r4,q4⟩=>aV (ho' pins s4 σ H4 y z' u w' _ I4 r2 r4 q4) λd' s5 ⟨z2,H5,I5,r5,k2,e2,q5⟩=>?_));subst e2;cases r5;exact HC ⟨H5,I5,q5⟩
def o4(K:Hg)(x:V)(H:Hp)(k:Bool):Prop:=
 match x with
 |.non=>k=false
 |.bl b=>k=b
 |.int i=>k=(i != 0)
 |.str y=>y.length<=sizeLine/\k=((y.length:Int) != 0)
 |.byt y=>y.size<=sizeLine/\k=((y.size:Int) != 0)
 |.ref p=>(∃xs,SqL K H p xs/\k = !xs.isEmpty)\/(∃xs,SqT K H p xs/\k = !xs.isEmpty)\/∃kvs,H p=some (.dK kvs)/\k = !kvs.isEmpty
 |_=>False
theorem ia{kvs:List (κ×V)}{vs:List (κ×Value)}(r:KV kvs vs):(!vs.isEmpty) = !kvs.isEmpty:=by
 cases r<;>rfl
theorem eN{its:List Value}(r:Vals xs its):(!its.toArray.isEmpty) = !xs.isEmpty:=by
 cases r<;>simp
theorem cY:(sizeLine:Nat)<2^63:=by rw[sizeLine_eq];decide
theorem kN:wW X (λx H Q=>∃k,o4 X.K x H k/\Q k H):=by
 intro pins s σ H x v Q I rx h;obtain⟨k,e,q⟩:=h;have hl:=cY;have hs:sizeLine=16777216:=sizeLine_eq;cases x with
 |non=>
  cases rx;have e':k=false:=e;subst e';exact truthy_none ⟨H,I,q⟩
 |bl b=>
  cases rx;have e':k=b:=e;subst e';exact HC ⟨H,I,q⟩
 |int i=>
  obtain⟨t,rfl⟩:=rx;have e':k=(i != 0):=e;subst e';exact PySem.P.truthy_int ⟨H,I,q⟩
 |str y=>
  obtain⟨t,rfl⟩:=rx;obtain⟨hy,e'⟩:y.length<=sizeLine/\k=((y.length:Int) != 0):=e;subst e';exact PySem.P.truthy_str (by omega) ⟨H,I.tok _,q⟩
 |byt y=>
  obtain⟨t,rfl⟩:=rx;obtain⟨hy,e'⟩:y.size<=sizeLine/\k=((y.size:Int) != 0):=e;subst e';exact PySem.W.truthy_bytes (by omega) ⟨H,I.tok _,q⟩
 |ref p=>
  cases rx;have e':(∃xs,SqL X.K H p xs/\k = !xs.isEmpty)\/(∃xs,SqT X.K H p xs/\k = !xs.isEmpty)\/∃kvs,H p=some (.dK kvs)/\k = !kvs.isEmpty:=e;rcases e' with⟨xs,hx,e'⟩|⟨xs,hx,e'⟩|⟨kvs,hx,e'⟩
  .subst e'
   obtain⟨its,r,pl,hz⟩:=I.list hx;have hlen:=r.length;exact wpAny_truthy_list pl.isList (by simp only[cM];omega) ⟨H,I.tok _,by rw[eN r];exact q⟩
  .subst e'
   obtain⟨its,r,pl,hz⟩:=I.tuple hx;have hlen:=r.length;exact truthy_tuple pl (by simp only[cM];omega) ⟨H,I.tok _,by rw[eN r];exact q⟩
  .subst e'
   obtain⟨hz,hS,vs,r,m⟩:kvs.length<=sizeLine/\(p==sysModules)=false/\∃vs,KV kvs vs/\s.heap.DictOf (fH X.prog X.w) p vs:=I.hok p _ hx;have hlen:kvs.length=vs.length:=Paired.length r;exact wpAny_truthy_dict hS m (by omega) ⟨H,I.tok _,by rw[ia r];exact q⟩
 |_=>exact(show False from e).elim
theorem gF(ha:PE X a ta)(he:∀whole,isTrue a X.env whole=(do let v <-whole;standAt a.pos;holding [v] (truthy v))) :
  PT X a (λσ H Q=>ta σ H λx H'=>∃k,o4 X.K x H' k/\Q k H'):=by
 intro pins s σ H Q I h;exact isTrue_plain (aV (ha pins s σ H _ I h) λv s1 ⟨x,H1,I1,r1,q1⟩=>kN pins s1 σ H1 x v Q I1 r1 q1) (he _)
theorem ic:OpR X (binaryOp .Add) (λx y H Q=>∃i j,x=.str i/\y=.str j/\i.length+j.length<=sizeLine/\Q (.str (i++j)) H):=by
 intro pins s σ H x y v u Q I rx ry h;obtain⟨i,j,rfl,rfl,hz,q⟩:=h;obtain⟨t,rfl⟩:=rx;obtain⟨t',rfl⟩:=ry;exact add_str (λt' tk=>⟨.str (i++j),H,I.tok _,⟨_,rfl⟩,q⟩) hz
theorem bS{x:V}(r:Vals [x] us):∃u,us=[u]/\RelV x u:=by
 cases r with
 |cons r1 r2=>cases r2;exact⟨_,rfl,r1⟩
theorem i4{x:V}(r:Vals [x,y] us):∃u w',us=[u,w']/\RelV x u/\RelV y w':=by
 cases r with
 |cons r1 r2=>
  cases r2 with
  |cons r3 r4=>cases r4;exact⟨_,_,rfl,r1,r3⟩
theorem kO:bY X (.builtin "abs") (λxs H Q=>∃i,xs=[.int i]/\Q (.int (if i<0 then -i else i)) H):=by
 intro pins s σ H xs us Q I r h;obtain⟨i,rfl,q⟩:=h;obtain⟨u,rfl,t,rfl⟩:=bS r;exact call_abs_int λu tk=>⟨.int (if i<0 then -i else i),H,I.tok _,⟨_,rfl⟩,q⟩
theorem jq(hc:X.calm=true):bY X (.builtin "max") (λxs H Q=>∃i j,xs=[.int i,.int j]/\Q (.int (if j>i then j else i)) H):=by
 intro pins s σ H xs us Q I r h;obtain⟨i,j,rfl,q⟩:=h;obtain⟨u,w',rfl,⟨t,rfl⟩,⟨t',rfl⟩⟩:=i4 r;refine max_two_ints (I.ok.hd hc) λh' tk k=>⟨_,H,I.kept k,?_,q⟩
 by_cases hj:j>i
 .rw[Hh hj,Hh hj];exact⟨_,rfl⟩
 .rw[if_neg hj,if_neg hj];exact⟨_,rfl⟩
theorem jr:bY X (.type "int") (λxs H Q=>(∃i,xs=[.int i]/\Q (.int i) H)\/∃k,xs=[.bl k]/\Q (.int (if k then 1 else 0)) H):=by
 intro pins s σ H xs us Q I r h;rcases h with⟨i,rfl,q⟩|⟨k,rfl,q⟩
 .obtain⟨u,rfl,t,rfl⟩:=bS r
  exact call_int_int ⟨.int i,H,I,⟨_,rfl⟩,q⟩
 .obtain⟨u,rfl,r1⟩:=bS r
  cases r1;exact call_int_bool ⟨.int (if k then 1 else 0),H,I.tok _,⟨_,rfl⟩,q⟩
theorem fP:bY X (.type "str") (λxs H Q=>∃i,xs=[.int i]/\i.natAbs.log2<1920/\Q (.str (toString i)) H):=by
 intro pins s σ H xs us Q I r h;obtain⟨i,rfl,hz,q⟩:=h;obtain⟨u,rfl,t,rfl⟩:=bS r;exact PySem.P.str_of_int hz ⟨.str _,H,I.tok _,⟨_,rfl⟩,q⟩
end
structure ObjM(h:Heap)(x dx C:Addr)(mA:Str->Option Value):Prop where
 obj:h.get? x=some (PySem.W.instObj C dx)
 ns:h.Ns1 dx mA
 ne:dx≠x
theorem jt(n:h.Ns1 dx mA):∃od,h.get? dx=some od/\∀name,PySem.W.lookIn name od=some (mA name):=by
 obtain⟨o,es,ep,ho,hd,hk,_,hm⟩:=n;refine⟨o,ho,λname=>?_⟩;have e:=hm name;unfold nsFind findBy at e;rw[<-v7] at e;unfold PySem.W.lookIn;rw[hd];dsimp only;split
 .rename_i y q
  rw[q] at e;exact congrArg some e
 .rename_i q
  rw[q] at e;have a:es.toList.any (·.refKey)=false:=by
   rw[List.any_eq_false];intro y hy;obtain⟨z,t,hkey⟩:=hk y (Array.mem_toList_iff.mp hy);simp[DictEntry.refKey,hkey]
  have a':¬es.toList.any (·.refKey)=true:=by rw[a];exact bW
  rw[if_neg a'];exact congrArg some e
theorem ObjM.look{x C:Addr}(I:ObjM h x dx C mA):∃od,PySem.W.InstAt h x (PySem.W.instObj C dx) C (some od)/\∀name,PySem.W.lookIn name od=some (mA name):=
 let⟨od,ho,hl⟩:=jt I.ns
 ⟨od,⟨I.obj,rfl,rfl,ho⟩,hl⟩
section
variable{x C f:Addr}{v:Value}
theorem mn{expr:Bool}(X:K.In s.heap)(I:ObjM s.heap x dx C mA)(hg:PySem.W.plainGet K C name=true)(hh:PySem.W.hasDictIn K C=true)
  (ha:PySem.W.findIn K (.ref C) name=some none) (hv:mA name=some v) (hv':PySem.W.handedIn v=true) (h:Q v { s with toks:=s.toks+1 }) :
  wpAny (model prog w) A (getAttr (.ref x) name expr) Q E s:=by
 obtain⟨od,J,hl⟩:=I.look;exact PySem.W.get_value X J (PySem.W.plainGet_of hg).1 (PySem.W.findObj_own hh ha rfl (by rw[hl,hv])) hv' h
theorem kP{Q:Value×List Value->Shared->Prop}(X:K.In s.heap)(I:ObjM s.heap x dx C mA)(hg:PySem.W.plainGet K C name=true)
  (hf:PySem.W.findIn K (.ref C) name=some (some (.ref f))) (ht:PySem.W.isFn K (.ref f)=true) (hv:mA name=none) (h:Q (.ref f,[.ref x]) s) :
  wpAny (model prog w) A (getMethod (.ref x) name pl) Q E s:=by
 obtain⟨od,J,hl⟩:=I.look;exact PySem.W.method_fn X J (PySem.W.plainGet_of hg).1 (PySem.W.plainGet_of hg).2 hf (beq_iff_eq.mp ht) (by show(PySem.W.lookIn name od).map (·.isSome)=some false;rw[hl,hv];rfl) h
theorem mo{ns:List Str}{Q:Unit->Shared->Prop}(X:K.In s.heap)(I:ObjM s.heap x dx C mA)
  (hs:PySem.W.findIn K (.ref C) "__setattr__" = some (some (.builtin "object.__setattr__"))) (hp:PySem.W.plainOver K C=true) (ht:PySem.W.takerIn K C name=some none) (hh:PySem.W.hasDictIn K C=true)
  (hw:PySem.Within mA ns) (hsz:ns.length<=sizeLine)
  (h:∀h',ObjM h' x dx C (λy=>if y=name then some v else mA y)->Heap.SameBut dx s.heap h'->Q () { s with heap:=h',toks:=s.toks+2 }) :
  wpAny (model prog w) A (setAttr (.ref x) name v) Q E s:=by
 obtain⟨od,J,hl⟩:=I.look;refine PySem.W.set_plain X J hs (PySem.W.osa_open (s:={ s with toks:=s.toks+1 }) (r:=none) X J hp ht λb=>?_);obtain⟨cd,hc,hd'⟩:=PySem.W.any_some hh;have hx:s.heap.get? x=some ⟨.ref C,some dx,.plain,#[]⟩:=I.obj;refine Hf (Hi (Hf (Hf (wpAny_loadPart hx (Hf (PySem.W.Looks.here (s:={ s with toks:=s.toks+1 }) (PySem.W.looks_clsIn X hc) ?_))))));rw[hd'];refine Hi (a:=some dx) (Hf (Hi (Hf ?_)));refine wpAny_nsSet1 (s:={ s with toks:=s.toks+1 }) I.ns λh' hn2 hs2=>?_;obtain⟨oD,esD,epD,hoD,hdD,hcD⟩:=hn2.count (PySem.Within.cons name v hw);refine Hf (wpAny_lookBehind hoD (by rw[hdD];exact pastItsLine_dict (gA hcD (by rw[cD];omega))) ?_);exact Hi (h _ ⟨(hs2.2 _ (Hv I.ne)).trans I.obj,hn2,I.ne⟩ hs2)
theorem kQ{R:Result->Shared->Prop}{vs:List Value}(X:K.In s.heap)(hm:PySem.W.makesIn K C=true)
  (hi:PySem.W.findIn K (.ref C) "__init__" = some (some (.ref f))) (hf:PySem.W.typeIn K (.ref f)=some (.type "function"))
  (h:codeAny (model prog w) (A.under (.builtin "type.__call__" ⟨.ref C::vs,kw⟩)) (.call (.ref f) ⟨.ref (s.heap.objs.size+1)::vs,kw⟩) (PySem.W.InitBack (s.heap.objs.size+1) R)
   { s with heap:=(s.heap.push PySem.W.emptyDict).push (PySem.W.instObj C s.heap.objs.size) }) :
  codeAny (model prog w) A (.call (.ref C) ⟨vs,kw⟩) R s:=by
 obtain⟨hh,g,d,t,os⟩:=s;exact PySem.W.make_core (PySem.W.makes_of X hm) (PySem.W.looks_findIn X hi) (λself=>PySem.W.bind_fn X self hf) (.inl rfl) h
end
def cS(f:Str)(v:V):List (Str×V)->List (Str×V)
 |[]=>[(f,v)]
 |(g,x)::r=>if g=f then(g,v)::r else(g,x)::cS f v r
theorem dX(f g:Str)(v:V):∀fs:List (Str×V),(cS f v fs).lookup g=if g=f then some v else fs.lookup g
 |[]=>by
  show List.lookup g [(f,v)]=_
  by_cases h:g=f
  .have hb:(g==f)=true:=beq_iff_eq.mpr h
   simp only[List.lookup,hb,Hh h]
  .have hb:(g==f)=false:=beq_eq_false_iff_ne.mpr h
   simp only[List.lookup,hb,if_neg h]
 |(k,x)::r=>by
  have ih:=dX f g v r;rw[show cS f v ((k,x)::r)=(if k=f then(k,v)::r else(k,x)::cS f v r) from rfl]
  by_cases hk:k=f
  .rw[Hh hk]
   by_cases h:g=k
   .have hb:(g==k)=true:=beq_iff_eq.mpr h
    simp only[List.lookup,hb,Hh (h.trans hk)]
   .have hb:(g==k)=false:=beq_eq_false_iff_ne.mpr h
    simp only[List.lookup,hb,if_neg (λe:g=f=>h (e.trans hk.symm))]
  .rw[if_neg hk]
   by_cases h:g=k
   .have hb:(g==k)=true:=beq_iff_eq.mpr h
    simp only[List.lookup,hb,if_neg (λe:g=f=>hk (h.symm.trans e))]
   .have hb:(g==k)=false:=beq_eq_false_iff_ne.mpr h
    simp only[List.lookup,hb];exact ih
theorem dG(f:Str)(v:V):∀fs:List (Str×V),f∈(cS f v fs).map (·.1)/\∀g,g∈fs.map (·.1)->g∈(cS f v fs).map (·.1)
 |[]=>⟨by simp[cS],λg h=>by simp at h⟩
 |(k,x)::r=>by
  obtain⟨i1,i2⟩:=dG f v r;rw[show cS f v ((k,x)::r)=(if k=f then(k,v)::r else(k,x)::cS f v r) from rfl]
  by_cases hk:k=f
  .rw[Hh hk]
   subst hk;exact⟨by simp,λg h=>by simpa using h⟩
  .rw[if_neg hk]
   refine⟨?_,λg h=>?_⟩
   .rw[cF]
    exact cK _ i1
   .rw[cF] at h ⊢
    rcases Yam.mp h with e|e
    .exact Yam.mpr (.inl e)
    .exact cK _ (i2 g e)
theorem dY(f:Str)(v:V):∀fs:List (Str×V),(cS f v fs).length<=fs.length+1
 |[]=>by simp[cS]
 |(k,x)::r=>by
  have ih:=dY f v r;rw[show cS f v ((k,x)::r)=(if k=f then(k,v)::r else(k,x)::cS f v r) from rfl]
  by_cases hk:k=f
  .rw[Hh hk,cD,cD];omega
  .rw[if_neg hk,cD,cD];omega
theorem RelO.some_of{o:Option Value}(r:RelO (some v) o):∃u,o=some u/\RelV v u:=by
 cases o with
 |none=>exact(show False from r).elim
 |some u=>exact⟨u,rfl,r⟩
theorem RelO.none_of{o:Option Value}(r:RelO none o):o=none:=by
 cases o with
 |none=>rfl
 |some u=>exact(show False from r).elim
theorem ju{u:Value}(r:RelV v u):PySem.W.handedIn u=true:=by
 cases v with
 |non=>cases(show u=Value.none from r);rfl
 |bl b=>cases(show u=Value.bool b from r);rfl
 |int i=>obtain⟨t,e⟩:=(show∃t,u=Value.int i t from r);cases e;rfl
 |str x=>obtain⟨t,e⟩:=(show∃t,u=Value.str x t from r);cases e;rfl
 |byt b=>obtain⟨t,e⟩:=(show∃t,u=Value.bytes b t from r);cases e;rfl
 |flt b=>obtain⟨t,e⟩:=(show∃t,u=Value.float b t from r);cases e;rfl
 |ref a=>cases(show u=Value.ref a from r);rfl
 |ty n=>cases(show u=Value.type n from r);rfl
section
variable{C:Addr}{fs fs':List (Str×V)}
theorem fQ(hok:HOk P w H h)(e:H a=some (.ins C dx fs)):∃mA,ObjM h a dx C mA/\(∀f,RelO (fs.lookup f) (mA f))/\PySem.Within mA (fs.map (·.1))/\fs.length<=1000/\H dx=some (.own a):=by
 obtain⟨d,z,ne,ob,mA,n,r,q⟩:=(show ObjOk P w H h a (.ins C dx fs) from hok a _ e)
 exact⟨mA,⟨ob,n,ne⟩,r,q,z,d⟩
end
structure Cls(K:Hg)(C:Addr):Prop where
 pg:PySem.W.plainGet K C Str.empty=true
 hd:PySem.W.hasDictIn K C=true
 po:PySem.W.plainOver K C=true
 sa:PySem.W.findIn K (.ref C) "__setattr__" = some (some (.builtin "object.__setattr__"))
theorem Cls.get{C:Addr}(c:Cls K C)(f:Str):PySem.W.plainGet K C f=true:=c.pg
def NoAttr(K:Hg)(C:Addr)(f:Str):Prop:=PySem.W.findIn K (.ref C) f=some none
theorem NoAttr.taker{C:Addr}{f:Str}(n:NoAttr K C f):PySem.W.takerIn K C f=some none:=by
 unfold PySem.W.takerIn;rw[show PySem.W.findIn K (.ref C) f=some none from n];rfl
structure gG(K:Hg)(C:Addr)(m:Str)(f:Addr):Prop where
 at_:PySem.W.findIn K (.ref C) m=some (some (.ref f))
 fn:PySem.W.isFn K (.ref f)=true
 kp:PySem.W.keepIn K (.ref f)=true
section
variable{C:Addr}{fs:List (Str×V)}{f:Str}
theorem ie{b:Bool}(I:Inv X pins σ H s)(e:H a=some (.ins C dx fs))(c:Cls X.K C)(n:NoAttr X.K C f)(l:fs.lookup f=some v)
  (h:∀u s',Inv X pins σ H s'->RelV v u->Q u s'):wpAny (model X.prog X.w) A (getAttr (.ref a) f b) Q E s:=by
 obtain⟨mA,O,r,_,_,_⟩:=fQ I.hok e;obtain⟨u,hu,ru⟩:=RelO.some_of (v:=v) (o:=mA f) (by rw[<-l];exact r f);exact mn I.kIn O (c.get f) c.hd n hu (ju ru) (h u _ (I.tok _) ru)
theorem cZ{g:Addr}{Q:Value×List Value->Shared->Prop}(I:Inv X pins σ H s)(e:H a=some (.ins C dx fs))(c:Cls X.K C)(k:gG X.K C m g)(l:fs.lookup m=none)
  (h:Q (.ref g,[.ref a]) s):wpAny (model X.prog X.w) A (getMethod (.ref a) m pl) Q E s:=by
 obtain⟨mA,O,r,_,_,_⟩:=fQ I.hok e;have hn:mA m=none:=RelO.none_of (by rw[<-l];exact r m);exact kP I.kIn O (c.get m) k.at_ k.fn hn h
theorem ig{u:Value}{Q:Unit->Shared->Prop}(I:Inv X pins σ H s)(e:H a=some (.ins C dx fs))(c:Cls X.K C)(n:NoAttr X.K C f)(hl:fs.length<1000)(ry:RelV y u)
  (h:∀s',Inv X pins σ (upd H a (.ins C dx (cS f y fs))) s'->Q () s'):wpAny (model X.prog X.w) A (setAttr (.ref a) f u) Q E s:=by
 obtain⟨mA,O,r,wi,_,ho⟩:=fQ I.hok e;have hz:(fs.map (·.1)).length<=sizeLine:=by rw[bR,sizeLine_eq];omega
 refine mo I.kIn O c.sa c.po n.taker c.hd wi hz λh' O' sb=>h _ ?_;have hd:∃o,h'.get? dx=some o:=let⟨o,_,_,e',_⟩:=O'.ns;⟨o,e'⟩;refine I.write (x:=a) (e:=dx) (by rw[e];exact True.intro) (.inr ho) (λb q hb z=>(sb.2 b hb).trans z) hd ?_ (.inr λ_ z=>nomatch z);refine⟨by rw[aE O.ne];exact ho,?_,O.ne,O'.obj,_,O'.ns,λg=>?_,λg hg=>?_⟩
 .have:=dY f y fs;omega
 .show RelO ((cS f y fs).lookup g) (if g=f then some u else mA g)
  rw[dX]
  by_cases q:g=f
  .rw[Hh q,Hh q];exact ry
  .rw[if_neg q,if_neg q];exact r g
 .by_cases q:g=f
  .rw[q];exact(dG f y fs).1
  .refine(dG f y fs).2 g (wi g λz=>hg ?_)
   show(if g=f then some u else mA g)=none;rw[if_neg q];exact z
theorem Inv.made(I:Inv X pins σ H s):Inv X pins σ (upd (upd H s.heap.objs.size (.own (s.heap.objs.size+1))) (s.heap.objs.size+1) (.ins C s.heap.objs.size []))
  { s with heap:=(s.heap.push PySem.W.emptyDict).push (PySem.W.instObj C s.heap.objs.size) }:=by
 have e1:(s.heap.push PySem.W.emptyDict).get? s.heap.objs.size=some PySem.W.emptyDict:=eV s.heap rfl;have e2:((s.heap.push PySem.W.emptyDict).push (PySem.W.instObj C s.heap.objs.size)).get? (s.heap.objs.size+1)=some (PySem.W.instObj C s.heap.objs.size):=by
  have:=eV (s.heap.push PySem.W.emptyDict) (o:=PySem.W.instObj C s.heap.objs.size) rfl
  rwa [rg] at this
 have e3:(s.heap.push PySem.W.emptyDict).Ns s.heap.objs.size (λ_=>none):=⟨PySem.W.emptyDict,#[],_,e1,rfl,(λe he=>Hj he (by simp)),λ_=>rfl⟩
 have I1:=I.laid (a:=s.heap.objs.size) (o:=.own (s.heap.objs.size+1)) (h':=s.heap.push PySem.W.emptyDict) (t':=s.toks) (λb u q=>cv _ q) (bP _) ⟨_,e1⟩;refine I1.laid (a:=s.heap.objs.size+1) (o:=.ins C s.heap.objs.size []) (t':=s.toks) (λb u q=>cv _ q) (Nat.le_of_eq (rg _ _)) ?_;have ne:s.heap.objs.size≠s.heap.objs.size+1:=er (v8 _);refine⟨by rw[aE ne,aG],gW _,ne,e2,λ_=>none,(Heap.Ns1.of_empty e3).at λo q=>cv _ q,λ_=>True.intro,λy hy=>Hj rfl hy⟩
theorem i5{env:Env}{f:Str}(hb:attributeBase e f env (eval e env)=eval e env)
  (h:wpAny (model prog w) A (eval e env) (λo s₁=>wpAny (model prog w) A (getAttr o f true) Q E s₁) E s):wpAny (model prog w) A (eval (.Attribute e f pos) env) Q E s:=
 Attribute_any_ h (by rw[arm_eval_Attribute,hb])
end
def wX(K:Hg)(ta:TE)(f:Str):TE:=λσ H Q=>ta σ H λx H1=>∃a C dx fs v,x=.ref a/\H1 a=some (.ins C dx fs)/\Cls K C/\NoAttr K C f/\fs.lookup f=some v/\Q v H1
def wY(K:Hg)(ta tv:TE)(f:Str):TS:=λD σ H=>tv σ H λy H1=>ta σ H1 λx H2=>∃a C dx fs,x=.ref a/\H2 a=some (.ins C dx fs)/\Cls K C/\NoAttr K C f/\fs.length<1000/\
 D.nx σ (upd H2 a (.ins C dx (cS f y fs)))
section
variable{o value:Expr}{f:Str}{tpos:Pos}{tv:TE}
theorem o5(he:PE X e ta)(hb:attributeBase e f X.env (eval e X.env)=eval e X.env):PE X (.Attribute e f pos) (wX X.K ta f):=by
 intro pins s σ H Q I h;refine i5 hb (aV (he pins s σ H _ I h) λu s1 ⟨x,H1,I1,rx,a,C,dx,fs,v,ex,ea,c,n,l,q⟩=>?_);subst ex;obtain rfl:u=Value.ref a:=rx;exact ie I1 ea c n l λu' s2 I2 ru=>⟨v,H1,I2,ru,q⟩
theorem o6(ha:PE X o ta)(hv:PE X value tv)(hs:swapsWith value (some (.Attribute o f pos')) pos.line X.env=pure false):PS X (.Assign [.Attribute o f pos'] value pos) (wY X.K ta tv f):=by
 intro pins s σ H D I h;refine plainObj_wpAny_Assign_Attribute (aV (hv pins s σ H _ I h) λu s1 ⟨y,H1,I1,ry,q⟩=>aV (ha pins s1 σ H1 _ I1 q) λov s2 ⟨x,H2,I2,rx,a,C,dx,fs,ex,ea,c,n,l,q2⟩=>?_) hs;subst ex;obtain rfl:ov=Value.ref a:=rx;exact ig I2 ea c n l ry λs3 I3=>⟨σ,_,I3,q2⟩
theorem nE{args:List Expr}(he:PE X e te)(I:Inv X pins σ H s)
  (h:te σ H λx H1=>∃ a C dx fs g,x = .ref a/\H1 a=some (.ins C dx fs)/\Cls X.K C/\gG X.K C m g/\fs.lookup m=none/\
   ∀s1,Inv X pins σ H1 s1->wpAny (model X.prog X.w) X.A (callWith pos (.ref g) [.ref a] (backTo pos (starEach args X.env)) (backToKw pos (keywordEach [] X.env))) Q X.xe s1)
  (ht:eval (.Call (.Attribute e m apos) args [] pos) X.env=(do
   let ov <-eval e X.env
   standAt apos.atName
   let(f,first) <-holding [ov] (getMethod ov m pl)
   callWith pos f first (backTo pos (starEach args X.env)) (backToKw pos (keywordEach [] X.env)))) :
  wpAny (model X.prog X.w) X.A (eval (.Call (.Attribute e m apos) args [] pos) X.env) Q X.xe s:=by
 refine PySem.W.methodCall_KW (pl:=pl) (aV (he pins s σ H _ I h) λu s1 ⟨x,H1,I1,rx,a,C,dx,fs,g,ex,ea,c,k,l,q⟩=>?_) ht;subst ex;obtain rfl:u=Value.ref a:=rx;exact cZ I1 ea c k l (q s1 I1)
end
structure Room(k:Nat)(A:Around):Prop where
 hd:A.handled=none
 gd:A.guards=some []
 dp:A.depth+3*k+5<recursionLimit
 un:A.units+16*k+200<cLine
theorem Room.mono{j:Nat}(r:Room k A)(h:j<=k):Room j A:=⟨r.hd,r.gd,by have:=r.dp;omega,by have:=r.un;omega⟩
theorem Room.deeper{k:Nat}{A:Around}(r:Room (k+1) A)(env:Env):Room k (A.deeper env):=
 ⟨r.hd,r.gd,by have:=r.dp;show A.depth+1+3*k+5<_;omega,by have:=r.un;show A.units+3+16*k+200<_;omega⟩
theorem ii{C:Addr}:(A.under (.builtin "type.__call__" ⟨.ref C::us,kw⟩)).depth=A.depth+1:=by
 first|rfl|simp[Around.under,Code.weight,Code.isCreation,Code.isGuard,Code.isCaller,Code.frames,Code.isFrame,guardIds]
theorem ij{C:Addr}:(A.under (.builtin "type.__call__" ⟨.ref C::us,kw⟩)).units=A.units+1:=by
 first|rfl|simp[Around.under,Code.cUnits,Code.frames,Code.isFrame]
theorem Room.make(r:Room (k+1) A)(C:Addr)(us:List Value)(kw:List (Str×Value)):Room k (A.under (.builtin "type.__call__" ⟨.ref C::us,kw⟩)):=
 ⟨r.hd,by first|exact r.gd|simp[Around.under,Code.weight,Code.isCreation,Code.isGuard,Code.isCaller,Code.frames,Code.isFrame,guardIds,r.gd],by have:=r.dp;rw[ii];omega,by have:=r.un;rw[ij];omega⟩
theorem Room.depth{k:Nat}{A:Around}(r:Room k A):A.depth<recursionLimit:=by have:=r.dp;omega
theorem Room.units{k:Nat}{A:Around}(r:Room k A):A.units+64<cLine:=by have:=r.un;omega
def mq:TA:=λ_ H Q=>Q [] H
def sR(ta:TE)(tr:TA):TA:=λσ H Q=>ta σ H λx H1=>tr σ H1 λxs H2=>Q (x::xs) H2
section
theorem c0:PA X [] mq:=λ_ _ _ _ H Q I h=>Calls.spliced_nil ⟨[],H,I,.nil,h⟩
theorem cz(ha:PE X e te)(hr:PA X es t)(hs:starEach (e::es) X.env=(false,eval e X.env)::starEach es X.env:=by rfl):PA X (e::es) (sR te t):=by
 intro pos pins s σ H Q I h;rw[hs];show wpAny _ _ (spliced ((false,eval e X.env)::backTo pos (starEach es X.env))) _ _ s;refine Calls.spliced_cons (aV (ha pins s σ H _ I h) λu s1 ⟨x,H1,I1,r1,q1⟩=>?_);exact aV (hr pos pins s1 σ H1 _ I1 q1) λus s2 ⟨xs,H2,I2,r2,q2⟩=>⟨x::xs,H2,I2,.cons r1 r2,q2⟩
def wZ(t:TA):TE:=λσ H Q=>t σ H λxs H1=>xs.length<=sizeLine/\∀p,H1 p=none->Q (.ref p) (upd H1 p (.tup xs))
def xa(t:TA):TE:=λσ H Q=>t σ H λxs H1=>xs.length<=sizeLine/\∀p,H1 p=none->Q (.ref p) (upd H1 p (.lst xs))
theorem o7{x1}(h:PA X es t):PE X (.Tuple es x1 pos) (wZ t):=by
 intro pins s σ H Q I hq;refine wpAny_Tuple_spliced (aV (h pos pins s σ H _ I hq) λus s1 ⟨xs,H1,I1,r,z,q⟩=>⟨by rw[<-r.length];exact z,?_⟩);have hf:H1 s1.heap.objs.size=none:=I1.hok.fresh (bP _);refine⟨.ref s1.heap.objs.size,upd H1 s1.heap.objs.size (.tup xs),I1.laid (t':=s1.toks) (λb u e=>cv _ e) (bP _) ?_,rfl,q _ hf⟩;exact⟨z,us,r,⟨_,eV _ rfl,rfl,_,rfl⟩⟩
theorem ik(h:PA X es t):PE X (.List es pos) (xa t):=by
 intro pins s σ H Q I hq;refine wpAny_List_spliced (aV (h pos pins s σ H _ I hq) λus s1 ⟨xs,H1,I1,r,z,q⟩=>⟨by rw[<-r.length];exact z,?_⟩);have hf:H1 s1.heap.objs.size=none:=I1.hok.fresh (bP _);refine⟨.ref s1.heap.objs.size,upd H1 s1.heap.objs.size (.lst xs),I1.laid (t':=s1.toks) (λb u e=>cv _ e) (bP _) ?_,rfl,q _ hf⟩;exact⟨z,us,0,r,eV _ rfl⟩
end
abbrev Sp:=List V->Hp->VK->XK->Prop
abbrev i6:=List Env->Hp->Shared->XK->Value->Shared->Prop
variable{CX:i6}
structure Env0(P:Program)(w:World)(K:Hg)(mg:Str->Option Value)(base:Heap)(A:Around)(outer:List Env)(s:Shared)(H:Hp):Prop where
 frames:A.frames=some outer
 mod:Mod K mg base
 bs:∀b o,base.get? b=some o->s.heap.get? b=some o/\H b=none
 bsz:base.objs.size<=s.heap.objs.size
 funs:s.heap.FunFrames base outer
 frf:∀b∈ce outer,H b=none
 hok:HOk P w H s.heap
 bare:AllBare s.gens
 sysn:∀xs,H sysModules≠some (.lst xs)
def CE(outer:List Env)(P:Program)(w:World)(H:Hp)(s:Shared)(Q:VK)(u:Value)(s':Shared):Prop:=
 ∃v H',s'.os=s.os/\AllBare s'.gens/\Un (ce outer) [] H H' s.heap s'.heap/\HOk P w H' s'.heap/\RelV v u/\Q v H'
def CR(CX:i6)(outer:List Env)(P:Program)(w:World)(H:Hp)(s:Shared)(Q:VK)(E:XK)(r:Result)(s':Shared):Prop:=
 match r with
 |.ok (.ret u)=>CE outer P w H s Q u s'
 |.ok _=>False
 |.error e=>CX outer H s E e s'
structure FnOk(P:Program)(w:World)(K:Hg)(mg:Str->Option Value)(base:Heap)(CX:i6)(k:Nat)(f:Addr)(fd:FuncData)(ps:List Str)(sp:Sp):Prop where
 len:∀vs H Q E,sp vs H Q E->vs.length=ps.length
 run:∀(A:Around) (outer:List Env) (s:Shared) (H:Hp) (args:Args) (us:List Value) (vs:List V) (Q:VK) (E:XK),Room k A->Env0 P w K mg base A outer s H->BindsTo s fd args (ps.zip us)->Vals vs us->sp vs H Q E->
  codeAny (model P w) A (.call (.ref f) args) (CR CX outer P w H s Q E) s
theorem FnOk.mono{P:Program}{w:World}{K:Hg}{mg:Str->Option Value}{base:Heap}{CX:i6}{j k:Nat}{f:Addr}{fd:FuncData}{ps:List Str}{sp:Sp}(F:FnOk P w K mg base CX j f fd ps sp)(h:j<=k) :
  FnOk P w K mg base CX k f fd ps sp:=⟨F.len,λA outer s H args us vs Q E hr=>F.run A outer s H args us vs Q E (hr.mono h)⟩
theorem Env0.make{base:Heap}(e:Env0 P w K mg base A outer s H)(C:Addr)(us:List Value)(kw:List (Str×Value)) :
  Env0 P w K mg base (A.under (.builtin "type.__call__" ⟨.ref C::us,kw⟩)) outer s H:=⟨by first|exact e.frames|(simpa[Around.under,Code.envs,Code.isFrame,pushEnvs] using e.frames),e.mod,e.bs,e.bsz,e.funs,e.frf,e.hok,e.bare,e.sysn⟩
section
theorem Inv.env0(I:Inv X pins σ H s):Env0 X.prog X.w X.K X.mg X.base X.A X.stack s H:=
 ⟨I.ok.frames,I.ok.mod,I.bs,gA I.ok.bsz I.sz,I.stack,I.stkFree,I.hok,I.bare,I.sysn⟩
theorem Inv.after{Q:VK}{u:Value}(I:Inv X pins σ H s)(h:CE X.stack X.prog X.w H s Q u s'):EP X pins σ Q u s':=by
 obtain⟨v,H',os,bare,un,hok,r,q⟩:=h;obtain⟨hh,g,d,t,os'⟩:=s';obtain rfl:os'=s.os:=os;exact⟨v,H',I.call (h':=hh) (g':=g) (d':=d) (t':=t) (ch:=[]) un hok bare (λb z=>Hj z (by simp)),r,q⟩
end
def i7(sp:Sp)(dvs:List V)(E:XK)(t:TA):TE:=λσ H Q=>t σ H λvs H1=>sp (vs++dvs) H1 Q E
def nF(C:Addr)(m:Str)(sp:Sp)(dvs:List V)(E:XK)(ta:TE)(t:TA):TE:=λσ H Q=>ta σ H λx H1=>∃a dx fs,x=.ref a/\H1 a=some (.ins C dx fs)/\fs.lookup m=none/\
 t σ H1 λvs H2=>sp (x::(vs++dvs)) H2 Q E
def sS(C:Addr)(sp:Sp)(dvs:List V)(E:XK)(t:TA):TE:=λσ H Q=>t σ H λvs H1=>∀x dx,H1 x=none->H1 dx=none->dx≠x->
 sp (.ref x::(vs++dvs)) (upd (upd H1 dx (.own x)) x (.ins C dx [])) (λv H2=>v=.non/\Q (.ref x) H2) E
def Binds(K:Hg)(fd:FuncData)(ps:List Str)(ds:List Value):Prop:=
 ∀(s:Shared) (us:List Value),K.In s.heap->(us++ds).length=ps.length->BindsTo s fd ⟨us,[]⟩ (ps.zip (us++ds))
theorem Binds.all(h:∀us:List Value,us.length=ps.length->bindArgs fd ⟨us,[]⟩=pure (ps.zip us)):Binds K fd ps []:=λs us _ hl=>by
 rw[jj] at hl ⊢;exact .of_eq (h us hl)
def aM(CX:i6)(X:Cx)(E:XK):Prop:=∀(pins:List (Addr×Obj)) (σ:St) (H:Hp) (s:Shared) (e:Value) (s':Shared),Inv X pins σ H s->CX X.stack H s E e s'->X.xe e s'
section
variable{f C:Addr}{sp:Sp}{dvs:List V}{ds:List Value}{E:XK}{o:Expr}
theorem eO{Q:VK}(F:FnOk X.prog X.w X.K X.mg X.base CX k f fd ps sp)(hr:Room k X.A)(hb:Binds X.K fd ps ds)(hd:Vals dvs ds)(hx:aM CX X E)
  (I:Inv X pins σ H s) (r:Vals vs us) (h:sp (vs++dvs) H Q E):wpAny (model X.prog X.w) X.A (call (.ref f) us) (EP X pins σ Q) X.xe s:=by
 have r2:Vals (vs++dvs) (us++ds):=r.append hd;have hl:(us++ds).length=ps.length:=by rw[<-r2.length];exact F.len _ _ _ _ h
 refine wpAny_call (codeAny_mono (F.run X.A X.stack s H ⟨us,[]⟩ (us++ds) (vs++dvs) Q E hr I.env0 (hb s us I.kIn hl) r2 h) λr s' hq=>?_);cases r with
 |error e=>exact hx pins σ H s e s' I hq
 |ok fl=>
  cases fl with
  |ret u=>exact I.after hq
  |next=>exact Hr hq
  |brk=>exact Hr hq
  |cont=>exact Hr hq
theorem eC(F:FnOk X.prog X.w X.K X.mg X.base CX k f fd ps sp)(hr:Room k X.A)(hg:Gl X x)(hm:X.mg x=some (.ref f))(hk:PySem.W.keepIn X.K (.ref f)=true)(hb:Binds X.K fd ps ds)(hd:Vals dvs ds)(hx:aM CX X E)
  (ha:PA X (e::es) t) (hdb:(x==("__debug__" : Str))=false:=by decide) (he:starEach (e::es) X.env=(false,eval e X.env)::starEach es X.env:=by rfl) (hpl:(backTo pos (starEach es X.env)).any (·.1)=false:=by rfl) :
  PE X (.Call (.Name x p) (e::es) [] pos) (i7 sp dvs E t):=by
 intro pins s σ H Q I h;refine Hx (ck I hg hm ?_ hdb);refine PySem.W.callWith_K (h₀:=X.base) I.ok.mod.kin hk (aV (ha pos pins s σ H _ I h) λus s1 ⟨vs,H1,I1,r,q⟩=>⟨I1.kIn,?_⟩) he hpl;exact eO F hr hb hd hx I1 r q
theorem kR(F:FnOk X.prog X.w X.K X.mg X.base CX k f fd ps sp)(hr:Room k X.A)(hg:Gl X x)(hm:X.mg x=some (.ref f))(hk:PySem.W.keepIn X.K (.ref f)=true)(hb:Binds X.K fd ps ds)(hd:Vals dvs ds)(hx:aM CX X E)
  (hdb:(x==("__debug__" : Str))=false:=by decide):PE X (.Call (.Name x p) [] [] pos) (i7 sp dvs E mq):=by
 intro pins s σ H Q I h;refine Hx (ck I hg hm ?_ hdb);exact PySem.W.callWith_K0 I.kIn hk (eO (us:=[]) F hr hb hd hx I .nil h)
theorem i8(he:PE X o ta)(c:Cls X.K C)(hm:gG X.K C m f)(F:FnOk X.prog X.w X.K X.mg X.base CX k f fd ps sp)(hr:Room k X.A)(hb:Binds X.K fd ps ds)(hd:Vals dvs ds)(hx:aM CX X E)(ha:PA X (e::es) t)
  (hst:starEach (e::es) X.env=(false,eval e X.env)::starEach es X.env:=by rfl) (hpl:(backTo pos (starEach es X.env)).any (·.1)=false:=by rfl)
  (ht:eval (.Call (.Attribute o m apos) (e::es) [] pos) X.env=(do
   let ov <-eval o X.env
   standAt apos.atName
   let(f,first) <-holding [ov] (getMethod ov m pl)
   callWith pos f first (backTo pos (starEach (e::es) X.env)) (backToKw pos (keywordEach [] X.env))):=by rfl) :
  PE X (.Call (.Attribute o m apos) (e::es) [] pos) (nF C m sp dvs E ta t):=by
 intro pins s σ H Q I h;refine PySem.W.methodCall_KW (pl:=pl) (aV (he pins s σ H _ I h) λu s1 ⟨x,H1,I1,rx,a,dx,fs,ex,ea,l,q⟩=>?_) ht;subst ex;obtain rfl:u=Value.ref a:=rx;refine cZ I1 ea c hm l ?_;refine PySem.W.callWith_K (first:=[.ref a]) (h₀:=X.base) I.ok.mod.kin hm.kp (aV (ha pos pins s1 σ H1 _ I1 q) λus s2 ⟨vs,H2,I2,r,q2⟩=>⟨I2.kIn,?_⟩) hst hpl;exact eO (us:=.ref a::us) (vs:=.ref a::vs) F hr hb hd hx I2 (.cons rfl r) q2
theorem kS(he:PE X o ta)(c:Cls X.K C)(hm:gG X.K C m f)(F:FnOk X.prog X.w X.K X.mg X.base CX k f fd ps sp)(hr:Room k X.A)(hb:Binds X.K fd ps ds)(hd:Vals dvs ds)(hx:aM CX X E)
  (ht:eval (.Call (.Attribute o m apos) [] [] pos) X.env=(do
   let ov <-eval o X.env
   standAt apos.atName
   let(f,first) <-holding [ov] (getMethod ov m pl)
   callWith pos f first (backTo pos (starEach [] X.env)) (backToKw pos (keywordEach [] X.env))):=by rfl) :
  PE X (.Call (.Attribute o m apos) [] [] pos) (nF C m sp dvs E ta mq):=by
 intro pins s σ H Q I h;refine PySem.W.methodCall_KW (pl:=pl) (aV (he pins s σ H _ I h) λu s1 ⟨x,H1,I1,rx,a,dx,fs,ex,ea,l,q⟩=>?_) ht;subst ex;obtain rfl:u=Value.ref a:=rx;refine cZ I1 ea c hm l ?_;exact PySem.W.callWith_K0 (first:=[.ref a]) I1.kIn hm.kp (eO (us:=[.ref a]) (vs:=[.ref a]) F hr hb hd hx I1 (.cons rfl .nil) q)
structure Mk(K:Hg)(C f:Addr):Prop where
 makes:PySem.W.makesIn K C=true
 init:PySem.W.findIn K (.ref C) "__init__" = some (some (.ref f))
 fn:PySem.W.isFn K (.ref f)=true
 kp:PySem.W.keepIn K (.ref C)=true
theorem kT{Q:VK}(M:Mk X.K C f)(F:FnOk X.prog X.w X.K X.mg X.base CX k f fd ps sp)(hr:Room (k+1) X.A)(hb:Binds X.K fd ps ds)(hd:Vals dvs ds)
  (hx:aM CX X E) (I:Inv X pins σ H s) (r:Vals vs us)
  (h:∀x dx,H x=none->H dx=none->dx≠x->sp (.ref x::(vs++dvs)) (upd (upd H dx (.own x)) x (.ins C dx [])) (λv H2=>v=.non/\Q (.ref x) H2) E) :
  wpAny (model X.prog X.w) X.A (call (.ref C) us) (EP X pins σ Q) X.xe s:=by
 have hq:=h (s.heap.objs.size+1) s.heap.objs.size (I.hok.fresh (Nat.le_succ _)) (I.hok.fresh (bP _)) (er (v8 _));have I2:=Inv.made (C:=C) I;have r2:Vals (V.ref (s.heap.objs.size+1)::(vs++dvs)) (Value.ref (s.heap.objs.size+1)::(us++ds)):=.cons rfl (r.append hd);have hl:(Value.ref (s.heap.objs.size+1)::us++ds).length=ps.length:=by
  have e:=r2.length;rw[F.len _ _ _ _ hq] at e;exact e.symm
 refine wpAny_call (kQ (f:=f) I.kIn M.makes M.init (beq_iff_eq.mp M.fn) (codeAny_mono (F.run _ X.stack _ _ ⟨Value.ref (s.heap.objs.size+1)::us,[]⟩ (Value.ref (s.heap.objs.size+1)::(us++ds)) _ _ E (hr.make C us [])
  (I2.env0.make C us []) (hb _ (Value.ref (s.heap.objs.size+1)::us) I2.kIn hl) r2 hq) λr s' hq'=>?_))
 cases r with
 |error e=>exact hx pins σ _ _ e s' I2 hq'
 |ok fl=>
  cases fl with
  |ret u=>
   obtain⟨v,H',I3,rv,ev,q3⟩:=I2.after hq';subst ev;exact⟨rv,⟨V.ref (s.heap.objs.size+1),H',I3,rfl,q3⟩⟩
  |next=>exact Hr hq'
  |brk=>exact Hr hq'
  |cont=>exact Hr hq'
theorem kU(M:Mk X.K C f)(F:FnOk X.prog X.w X.K X.mg X.base CX k f fd ps sp)(hr:Room (k+1) X.A)(hg:Gl X x)(hm:X.mg x=some (.ref C))(hb:Binds X.K fd ps ds)(hd:Vals dvs ds)(hx:aM CX X E)
  (hdb:(x==("__debug__" : Str))=false:=by decide):PE X (.Call (.Name x p) [] [] pos) (sS C sp dvs E mq):=by
 intro pins s σ H Q I h;refine Hx (ck I hg hm ?_ hdb);exact PySem.W.callWith_K0 I.kIn M.kp (kT (us:=[]) M F hr hb hd hx I .nil h)
end
structure aT(N P:List Str)(sc:Scope):Prop where
 kind:sc.kind=.function
 co:sc.isCoroutine=false
 gen:sc.isGenerator=false
 nd:N.Nodup
 pre:N.take P.length=P
 par:∀x∈P,sc.names.lookup x=some .local\/sc.names.lookup x=some .cell
 nofree:∀y∈sc.names,y.2≠.free
theorem fu{kindOf:Str->Option NameKind}{x:Str}:∀{binds:List (Str×Value)} {m:Str->Option Value},(∀v,(x,v)∉binds)->bindL kindOf binds m x=m x
 |[],_,_=>rfl
 |(n,v)::r,m,h=>by
  unfold bindL;rw[fu λw hw=>h w (cK _ hw)];split
  .have:x≠n:=by rintro rfl;exact h v dk
   simp[this]
  .rfl
theorem fv{kindOf:Str->Option NameKind}{x:Str}:∀{binds:List (Str×Value)} {m:Str->Option Value},(∀v,(x,v)∉binds)->bindC kindOf binds m x=m x
 |[],_,_=>rfl
 |(n,v)::r,m,h=>by
  unfold bindC;rw[fv λw hw=>h w (cK _ hw)];split
  .rfl
  .have:x≠n:=by rintro rfl;exact h v dk
   simp[this]
theorem dH{kindOf:Str->Option NameKind}{x:Str}{v:Value}:∀{P:List Str} {vs:List Value} {i:Nat} {m:Str->Option Value},P.Nodup->P[i]? = some x->vs[i]? = some v->kindOf x=some .local->
  bindL kindOf (P.zip vs) m x=some v
 |[],_,_,_,_,h,_,_=>by simp at h
 |_::_,[],_,_,_,_,h,_=>by simp at h
 |p::P,w::vs,0,m,nd,h1,h2,hk=>by
  simp at h1 h2;subst h1;subst h2;show bindL kindOf ((p,w)::P.zip vs) m p=_;unfold bindL;rw[fu λv hv=>(YaK.mp nd).1 (sj hv).1,Hh hk];simp
 |p::P,w::vs,i+1,m,nd,h1,h2,hk=>by
  show bindL kindOf ((p,w)::P.zip vs) m x=_;unfold bindL;exact dH (i:=i) (YaK.mp nd).2 (by simpa using h1) (by simpa using h2) hk
theorem dI{kindOf:Str->Option NameKind}{x:Str}{v:Value}:∀{P:List Str} {vs:List Value} {i:Nat} {m:Str->Option Value},P.Nodup->P[i]? = some x->vs[i]? = some v->kindOf x≠some .local->
  bindC kindOf (P.zip vs) m x=some v
 |[],_,_,_,_,h,_,_=>by simp at h
 |_::_,[],_,_,_,_,h,_=>by simp at h
 |p::P,w::vs,0,m,nd,h1,h2,hk=>by
  simp at h1 h2;subst h1;subst h2;show bindC kindOf ((p,w)::P.zip vs) m p=_;unfold bindC;rw[fv λv hv=>(YaK.mp nd).1 (sj hv).1,if_neg hk];simp
 |p::P,w::vs,i+1,m,nd,h1,h2,hk=>by
  show bindC kindOf ((p,w)::P.zip vs) m x=_;unfold bindC;exact dI (i:=i) (YaK.mp nd).2 (by simpa using h1) (by simpa using h2) hk
def start(N:List Str)(vs:List V):St:=vs.map some++List.replicate (N.length-vs.length) none
def bA(CX:i6)(P:Program)(w:World)(K:Hg)(mg:Str->Option Value)(base:Heap)(N:List Str)(qual:Str)(scope:Scope)(f:Addr)(cd:Value)(A:Around)(outer:List Env)(s:Shared)(H:Hp)(E:XK):Cx where
 prog:=P
 w:=w
 K:=K
 mg:=mg
 base:=base
 A:=A.deeper (envOfC qual scope s.heap.objs.size f cd)
 N:=N
 s₀:=s
 H₀:=H
 env:=envOfC qual scope s.heap.objs.size f cd
 outer:=outer
 stack:=envOfC qual scope s.heap.objs.size f cd::outer
 ex:=[]
 calm:=true
 fn:=λ_=>true
 pn:=[]
 xe:=λe s'=>wpAny (model P w) (A.deeper (envOfC qual scope s.heap.objs.size f cd)) (leaving (envOfC qual scope s.heap.objs.size f cd) e) (λ_ s''=>CX outer H s E e s'') (λe' s''=>CX outer H s E e' s'') s'
theorem cN{sc:Scope}{n:Nat}(h:sc.names.lookup x=some .cell):∃c,(cellsFrom n sc.names []).lookup x=some c:=by
 have q:=PySem.W.cellsFrom_some sc.names n [] (.inl h);exact Option.isSome_iff_exists.mp q
theorem fw{base:Heap}{f:Addr}{cd:Value}{s1:Shared}{E:XK}
  (S:aT N ps scope) (hd:A.handled=none) (e0:Env0 P w K mg base A outer s H) (hl:vs.length=ps.length) (r:Vals vs us)
  (x:InCallC s s.heap.objs.size (bindL (envOfC qual scope s.heap.objs.size f cd).kindOf (ps.zip us) λ_=>none) (cellsFrom (s.heap.objs.size+1) scope.names []) (bindC (envOfC qual scope s.heap.objs.size f cd).kindOf (ps.zip us) λ_=>none) s1) :
  Inv (bA CX P w K mg base N qual scope f cd A outer s H E) [] (start N vs) H s1:=by
 have hpl:ps.length<=N.length:=by have:=congrArg List.length S.pre;rw[jV] at this;omega
 obtain⟨h1,tk,rfl,hk⟩:=x.done;have noA:∀b:Addr,b∉(bA CX P w K mg base N qual scope f cd A outer s H E).ex:=λb z=>Hj (show b∈([]:List Addr) from z) (by simp);refine ⟨⟨e0.mod,S.kind,rfl,rfl,bP _,λy z c h1 h2=>?_,λy hy=>?_,λy c _ h=>?_,λ_=>hd,Around.frames_deeper e0.frames,.inr ⟨rfl,rfl⟩,λb z=>Hj z (noA b),e0.bs,e0.bsz,λb _ _=>noA b,λb z=>Hj z (noA b),e0.funs,e0.frf,e0.sysn⟩,
  rfl,e0.bare,Un.kept hk,⟨_,x.toInCall.ns,λi y v h1 h2 h3=>?_⟩,λy c h=>⟨_,x.cell y c h⟩,e0.hok.fresh (bP _),λy c h=>?_,λp hp=>Hj (show p∈([]:List (Addr×Obj)) from hp) (by simp),e0.hok.kept hk,?_⟩
 .exact name_of_addr x.apart (Ho h1) (Ho h2)
 .have hy:scope.names.lookup y=some .cell\/scope.names.lookup y=some .free:=hy
  rcases hy with hy|hy
  .exact cN hy
  .exact Hj rfl (S.nofree _ (Ho hy))
 .exact sh (x.above y c (Ho h))
 .have hi:i<vs.length:=by
   unfold start at h2
   by_cases hi:i<vs.length
   .exact hi
   .rw[kt (by simpa using hi)] at h2
    rw[ku] at h2;split at h2<;>cases h2
  have ha:vs[i]? = some v:=by
   unfold start at h2;rw[lG (by simpa using hi),eF] at h2;cases e:vs[i]? with
   |none=>rw[e] at h2;cases h2
   |some a=>rw[e] at h2;cases h2;rfl
  obtain⟨u,hu,rv⟩:=r.get ha;have hp:ps[i]? = some y:=by
   rw[<-S.pre,v9 (by omega)];exact h1
  have ndP:ps.Nodup:=by rw[<-S.pre];exact S.nd.sublist (List.take_sublist _ _)
  refine⟨u,rv,?_⟩;rcases S.par y (rh hp) with k|k
  .exact .inl ⟨k,dH ndP hp hu k⟩
  .obtain⟨c,e⟩:=cN (n:=s.heap.objs.size+1) k
   refine .inr ⟨.inl k,c,e,?_⟩;have q:=x.cell y c e;rw[dI ndP hp hu (by show scope.names.lookup y≠_;rw[k];decide)] at q;exact q
 .exact e0.hok.fresh (sh (x.above y c (Ho h)))
 .unfold start
  show _=N.length;rw[gu,bR,lY];omega
theorem i9{base:Heap}{f:Addr}{params:Arguments}{dV kV doc pm cdv ct oc:Value}{an od:Option Addr}
 {sp:Sp} (lk:K.lookup f=some ⟨oc,od,.func (PySem.W.fnOf name qual params body scope dV kV doc pm an cdv ct),osl⟩) (hcd:PySem.W.codeIn K cdv qual=true) (S:aT N ps scope)
  (len:∀vs H Q E,sp vs H Q E->vs.length=ps.length)
  (hbody:∀ (A:Around) (outer:List Env) (s:Shared) (H:Hp) (vs:List V) (Q:VK) (E:XK),Room k (A.deeper (envOfC qual scope s.heap.objs.size f cdv))->sp vs H Q E->
   ∃t,kz (bA CX P w K mg base N qual scope f cdv A outer s H E) body t/\t { nx:=λ_ H'=>Q .non H',rt:=Q } (start N vs) H) :
  FnOk P w K mg base CX (k+1) f (PySem.W.fnOf name qual params body scope dV kV doc pm an cdv ct) ps sp:=by
 refine⟨len,λA outer s H args us vs Q E hr e0 hb r hsp=>?_⟩;have hl:=len _ _ _ _ hsp;have KX:K.In s.heap:=e0.mod.kin.keeps λb o e=>(e0.bs b o e).1;have lim:s.heap.NoLimit:=e0.mod.nolimit.keeps λb o e=>(e0.bs b o e).1;have hkind:∀y∈ps.zip us,scope.names.lookup y.1=some .local\/(scope.names.lookup y.1=some .cell/\((cellsFrom (s.heap.objs.size+1) scope.names []).lookup y.1).isSome=true):=λ⟨n,v⟩ hy=>by
  rcases S.par n (sj hy).1 with q|q
  .exact .inl q
  .exact .inr ⟨q,PySem.W.cellsFrom_some _ _ _ (.inl q)⟩
 refine codeAny_call_function hr.depth (KX _ _ lk) rfl S.co S.gen rfl (PySem.W.codeRec_of KX hcd) (hb _ _ _ _ ?_);refine HL S.kind hkind λenv he s1 x=>?_;subst he;refine⟨lim.keeps x.toInCall.keep,codeAny_func ?_⟩;obtain⟨t,ht,hq⟩:=hbody A outer s H vs Q E (hr.deeper _) hsp;have I:Inv (bA CX P w K mg base N qual scope f cdv A outer s H E) [] (start N vs) H s1:=fw S hr.hd e0 hl r x;refine HB (ht [] s1 (start N vs) H _ I hq) (λfl s' hs=>?_) λe s' hs=>hs;have fin:∀{σ':St} {H':Hp} {v:V} {u:Value},Inv (bA CX P w K mg base N qual scope f cdv A outer s H E) [] σ' H' s'->RelV v u->Q v H'->CE outer P w H s Q u s':=
  λ{σ' H' v u} J rv q=>⟨v,H',J.os,J.bare,J.base,J.hok,rv,q⟩
 cases fl with
 |ret u=>
  obtain⟨v,σ',H',J,rv,q⟩:=hs;exact fin J rv q
 |next=>
  obtain⟨σ',H',J,q⟩:=hs;exact fin (v:=V.non) (u:=Value.none) J rfl q
 |brk=>
  obtain⟨_,_,_,q⟩:=hs;exact Hr q
 |cont=>
  obtain⟨_,_,_,q⟩:=hs;exact Hr q
section
variable{id T:String}{r:List V->Hp->VK->Prop}
def zp(r:List V->Hp->VK->Prop)(t:TA):TE:=λσ H Q=>t σ H λvs H1=>r vs H1 Q
theorem gH(hc:bY X (.builtin id) r)(hg:Gl X x)(hm:X.mg x=none)(hv:bootBuiltins x=some (.builtin id))(ha:PA X (e::es) t)(hn:x≠ "__name__" :=by decide)(hdb:(x==("__debug__" : Str))=false:=by decide)
  (he:starEach (e::es) X.env=(false,eval e X.env)::starEach es X.env:=by rfl) (hpl:(backTo pos (starEach es X.env)).any (·.1)=false:=by rfl):PE X (.Call (.Name x p) (e::es) [] pos) (zp r t):=by
 intro pins s σ H Q I h;refine Hx (dD I hg hm hv ?_ hn hdb);exact PyProof.Rows.callWith_builtin1 (aV (ha pos pins s σ H _ I h) λus s1 ⟨vs,H1,I1,r1,q1⟩=>hc pins s1 σ H1 vs us Q I1 r1 q1) he hpl
theorem fz(hc:bY X (.type T) r)(hg:Gl X x)(hm:X.mg x=none)(hv:bootBuiltins x=some (.type T))(ha:PA X (e::es) t)(hn:x≠ "__name__" :=by decide)(hdb:(x==("__debug__" : Str))=false:=by decide)
  (he:starEach (e::es) X.env=(false,eval e X.env)::starEach es X.env:=by rfl) (hpl:(backTo pos (starEach es X.env)).any (·.1)=false:=by rfl):PE X (.Call (.Name x p) (e::es) [] pos) (zp r t):=by
 intro pins s σ H Q I h;refine Hx (dD I hg hm hv ?_ hn hdb);exact PyProof.Rows.callWith_type1 (aV (ha pos pins s σ H _ I h) λus s1 ⟨vs,H1,I1,r1,q1⟩=>hc pins s1 σ H1 vs us Q I1 r1 q1) he hpl
end
end L2
namespace HT
open PySem PyProof.Rows
section
variable{prog:Program}{w:World}{A:Around}{E:Value->Shared->Prop}{s:Shared}
theorem cat_tup{t b:Addr}{vs ws:List Value}{Q:Value->Shared->Prop}(ht:IsTup s.heap t vs.toArray)(hb:IsTup s.heap b ws.toArray)(hv:vs≠[])
  (h1:ws=[]->Q (.ref t) s) (h2:ws≠[]->Q (.ref s.heap.objs.size) { s with heap:=s.heap.push { cls:=.type "tuple",data:=.seq (vs++ws).toArray } })
  (hsz:vs.length+ws.length<=sizeLine):wpAny (model prog w) A (binaryOp .Add (.ref t) (.ref b)) Q E s:=by
 obtain⟨⟨cls,dd,data,sl⟩,ho,hc,n,hd⟩:=id ht;obtain⟨⟨cls2,dd2,data2,sl2⟩,ho2,hc2,n2,hd2⟩:=id hb;simp only at hc hd hc2 hd2;subst hc hd hc2 hd2;have e:vs.toArray++ws.toArray=(vs++ws).toArray:=by simp
 by_cases hw:ws=[]
 .exact concat_meets ⟨_,ho,rfl⟩ ⟨_,ho2,rfl⟩ noFill_tuple_add seq_tuple_add PySem.F.slot_tuple_add PySem.F.entry_tuple_add (PySem.F.args_tuple_add_2 _ _)
   (tuple_addW1 t b vs.toArray ws.toArray n n2 dd dd2 sl sl2 (by simpa using hv) (by simp[hw])) ⟨ho,ho2,h1 hw⟩
 .refine concat_meets ⟨_,ho,rfl⟩ ⟨_,ho2,rfl⟩ noFill_tuple_add seq_tuple_add PySem.F.slot_tuple_add PySem.F.entry_tuple_add (PySem.F.args_tuple_add_2 _ _)
   (tuple_addW2 t b vs.toArray ws.toArray n n2 dd dd2 sl sl2 (by simpa using hv) (by simpa using hw) (by rw[cM,cM];exact hsz)) ⟨ho,ho2,?_⟩
  rw[e];exact h2 hw
def sIx(n d:Nat):Option Int->Nat
 |none=>d
 |some v=>if v<0 then(v+(n:Int)).toNat else min v.toNat n
theorem sIx_none(n d:Nat):sIx n d none=d:=rfl
theorem sIx_nat(n d k:Nat):sIx n d (some (k:Int))=min k n:=by
 show(if(k:Int)<0 then((k:Int)+(n:Int)).toNat else min (k:Int).toNat n)=min k n;rw[if_neg (by omega),nb]
theorem il(n d:Nat)(hd:d<=n)(o:Option Int):sIx n d o<=n:=by
 cases o with
 |none=>exact hd
 |some v=>
  show(if v<0 then(v+(n:Int)).toNat else min v.toNat n)<=n
  by_cases hv:v<0
  .rw[Hh hv];omega
  .rw[if_neg hv];exact Nat.min_le_right _ _
theorem ja(v:Int)(n d:Nat):(if v<0 then max (v+(n:Int)) 0 else min v (n:Int))=((sIx n d (some v):Nat):Int):=by
 show(if v<0 then max (v+(n:Int)) 0 else min v (n:Int))=(((if v<0 then(v+(n:Int)).toNat else min v.toNat n):Nat):Int)
 by_cases hv:v<0
 .simp only[Hh hv];omega
 .simp only[if_neg hv];omega
theorem im(lo hi:Option Int)(n:Nat):Builtin.Slice.sliceAdjust lo hi 1 (n:Int)=(((sIx n 0 lo:Nat):Int),((sIx n n hi:Nat):Int)):=by
 have h1:¬((1:Int)<0):=by omega
 unfold Builtin.Slice.sliceAdjust;simp only[h1,if_false];refine Prod.ext ?_ ?_
 .cases lo with
  |none=>rfl
  |some v=>exact ja v n 0
 .cases hi with
  |none=>rfl
  |some v=>exact ja v n n
theorem io(i j:Nat):Builtin.Slice.slicePlaces (i:Int) (j:Int) 1=j-i:=by
 unfold Builtin.Slice.slicePlaces;have h1:(1:Int)>0:=by omega
 simp only[h1,if_true,Int.ediv_one];split<;>omega
theorem eP{v:Value}{o:Option Int}{Q:Option Int->Shared->Prop}(p:IsPart v o)(h:Q o s):wpAny (model prog w) A (Builtin.Slice.slicePartIndex v) Q E s:=by
 cases p with
 |none=>exact slicePart_none h
 |int i t=>exact slicePart_int h
theorem cn{sl:Addr}{vl vu:Value}{lo hi:Option Int}{n:Nat}{Q:Int×Int×Nat->Shared->Prop}(hs:s.heap.IsSliceOf sl vl vu .none)(pl:IsPart vl lo)(pu:IsPart vu hi)
  (h:Q (((sIx n 0 lo:Nat):Int),1,sIx n n hi-sIx n 0 lo) s):wpAny (model prog w) A (Builtin.Slice.sliceApplied (.ref sl) (pure (n:Int))) Q E s:=by
 obtain⟨os,hos,hcs,hds⟩:=id hs;unfold Builtin.Slice.sliceApplied Builtin.Slice.sliceFields;refine Hf (Hf (Hu hos hds (x:=vl) rfl (Hf (Hu hos hds (x:=vu) rfl (Hf (Hu hos hds (x:=.none) rfl (Hi ?_)))))));refine Hf (slicePart_none ?_);show wpAny _ _ (if((1:Int)==0)=true then _ else _) _ _ s;rw[if_neg (by decide)];refine Hf (eP pl (Hf (eP pu (Hf (Hi ?_)))));show wpAny _ _ (match Builtin.Slice.sliceAdjust lo hi 1 (n:Int) with|(lo,hi)=>pure (lo,(1:Int),Builtin.Slice.slicePlaces lo hi 1)) _ _ s;rw[im lo hi n];show wpAny _ _ (pure (((sIx n 0 lo:Nat):Int),(1:Int),Builtin.Slice.slicePlaces ((sIx n 0 lo:Nat):Int) ((sIx n n hi:Nat):Int) 1)) _ _ s;rw[io];exact Hi h
theorem kW(xs:Array Value)(i k:Nat):((List.range k).filterMap λ(m:Nat)=>xs[((i:Int)+(m:Int)*1).toNat]?).toArray=((xs.toList.drop i).take k).toArray:=by
 have e:(λ(m:Nat)=>xs[((i:Int)+(m:Int)*1).toNat]?)=λm=>xs[i+m]?:=by
  funext m;have:((i:Int)+(m:Int)*1).toNat=i+m:=by omega
  rw[this]
 rw[e];have:=pick_run xs i k;rw[List.filterMap_map] at this;have e2:((λx=>xs[x]?)∘λx=>i+x)=λm=>xs[i+m]?:=rfl;rw[e2] at this;rw[this]
theorem getItem_tuple_cut{t sl:Addr}{items:Array Value}{vl vu:Value}{lo hi:Option Int}{Q:Value->Shared->Prop}(ht:IsTup s.heap t items)(hs:s.heap.IsSliceOf sl vl vu .none)(pl:IsPart vl lo)(pu:IsPart vu hi)
  (hw:¬(sIx items.size 0 lo=0/\sIx items.size items.size hi=items.size))
  (h:Q (.ref s.heap.objs.size) { s with heap:=s.heap.push { cls:=.type "tuple",data:=.seq ((items.toList.drop (sIx items.size 0 lo)).take (sIx items.size items.size hi-sIx items.size 0 lo)).toArray } })
  (hsz:items.size<=sizeLine):wpAny (model prog w) A (getItem (.ref t) (.ref sl)) Q E s:=by
 have htake:sizeOk (.seq ((items.toList.drop (sIx items.size 0 lo)).take (sIx items.size items.size hi-sIx items.size 0 lo)).toArray):=by
  show((items.toList.drop (sIx items.size 0 lo)).take (sIx items.size items.size hi-sIx items.size 0 lo)).toArray.size<=sizeLine;rw[cM,jV,kv,rf];omega
 have hj:sIx items.size items.size hi<=items.size:=il _ _ (bP _) hi;obtain⟨os,hos,hcs,hds⟩:=id hs;have hTs:s.TypeIs (.ref sl) "slice" :=⟨os,hos,hcs⟩
 unfold getItem
 try with_reducible refine Hz ?_
 first|refine Hf (Hi ?_)|skip
 refine Hf (wpAny_sequenceKey ht.typeIs (by decide) ?_);refine Hf (wpAny_callSpecial?_slot (name:=Str.ofString "__getitem__") ht.typeIs PyProof.Rows.slot_tuple_getitem
  (HG PyProof.Rows.slot_tuple_getitem ht.typeIs entry_tuple_getitem ?_ (args_tuple_getitem _ _)))
 show wpAny _ _ (Builtin.Tuple.tupleItemsOf (.ref t) >>= _) _ _ s;refine Hf (tupleItemsOf_ ht ?_);refine Hf (HN hTs ?_);rw[Hh (by decide)];refine Hf (cn hs pl pu ?_);have hno:¬((((sIx items.size 0 lo:Nat):Int)==0&&(1:Int)==1&&(sIx items.size items.size hi-sIx items.size 0 lo)==items.size)=true):=by
  intro q;rw[cf,cf] at q;have q1:((sIx items.size 0 lo:Nat):Int)=0:=eq_of_beq q.1.1;have q2:sIx items.size items.size hi-sIx items.size 0 lo=items.size:=eq_of_beq q.2;exact hw ⟨by omega,by omega⟩
 show wpAny _ _ (if(((sIx items.size 0 lo:Nat):Int)==0&&(1:Int)==1&&(sIx items.size items.size hi-sIx items.size 0 lo)==items.size)=true then _ else _) _ _ s;rw[if_neg hno,kW]
 first
  |exact Hf (m:=Builtin.Tuple.tupleExact _) (Hq (Hi ⟨_,rfl,Hi h⟩) htake)
  |exact Hf (m:=Builtin.Tuple.tupleExact _) (Hq (Hf (Hi (Hi ⟨_,rfl,Hi h⟩))) htake)
  |exact Hf (Hf (m:=Builtin.Tuple.tupleExact _) (Hq (Hi (Hi ⟨_,rfl,Hi h⟩)) htake))
  |exact Hf (Hf (m:=Builtin.Tuple.tupleExact _) (Hq (Hi ⟨_,rfl,Hi h⟩) htake))
end
end HT
namespace L2
open PySem PySem.Spec PyProof.Rows
variable{X:Cx}{e:Expr}{pos:Pos}{r:V->Option Int->Option Int->Hp->VK->Prop}{xs:List V}{j t':Nat}{v:Value}{pins:List (Addr×Obj)}{σ:St}{H:Hp}{s:Shared}{its':List Value}{A:Around}{x:V}{E:Value->Shared->Prop}
abbrev TO:=St->Hp->(Option Int->Hp->Prop)->Prop
def PO(X:Cx)(e:Option Expr)(t:TO):Prop:=
 ∀(pins:List (Addr×Obj)) (s:Shared) (σ:St) (H:Hp) (Q:Option Int->Hp->Prop),Inv X pins σ H s->t σ H Q->
  wpAny (model X.prog X.w) X.A (evalPart e X.env) (λu s'=>∃o H',Inv X pins σ H' s'/\IsPart u o/\Q o H') X.xe s
def mr:TO:=λ_ H Q=>Q none H
def sT(t:TE):TO:=λσ H Q=>t σ H λx H1=>∃i,x=.int i/\Q (some i) H1
section
variable{te:TE}{lo hi:Option Expr}{tl th:TO}{p2:Pos}
theorem ms:PO X none mr:=by
 intro pins s σ H Q I h;rw[evalPart_none];exact Hi ⟨none,H,I,.none,h⟩
theorem mt(h:PE X e te):PO X (some e) (sT te):=by
 intro pins s σ H Q I hw;rw[evalPart_some];refine aV (h pins s σ H _ I hw) λu s1 ⟨x,H1,I1,r1,q1⟩=>?_;obtain⟨i,rfl,q⟩:=q1;obtain⟨t,rfl⟩:=r1;exact⟨some i,H1,I1,.int i t,q⟩
def SlR(X:Cx)(r:V->Option Int->Option Int->Hp->VK->Prop):Prop:=
 ∀(pins:List (Addr×Obj)) (s:Shared) (σ:St) (H:Hp) (x:V) (v vl vu:Value) (lo hi:Option Int) (sl:Addr) (Q:VK),Inv X pins σ H s->RelV x v->s.heap.IsSliceOf sl vl vu .none->IsPart vl lo->IsPart vu hi->r x lo hi H Q->
  ∃T id,typeLookup (.type T) "__getitem__" = pure (some (.builtin id))/\s.TypeIs v T/\wpAny (model X.prog X.w) X.A (getItem v (.ref sl)) (EP X pins σ Q) X.xe s
theorem SlR.or{r':V->Option Int->Option Int->Hp->VK->Prop}(h:SlR X r)(h':SlR X r'):SlR X (λx lo hi H Q=>r x lo hi H Q\/r' x lo hi H Q):=by
 intro pins s σ H x v vl vu lo hi sl Q I rx hs pl pu q;rcases q with q|q
 .exact h pins s σ H x v vl vu lo hi sl Q I rx hs pl pu q
 .exact h' pins s σ H x v vl vu lo hi sl Q I rx hs pl pu q
def B6(r:V->Option Int->Option Int->Hp->VK->Prop)(te:TE)(tl th:TO):TE:=λσ H Q=>te σ H λx H1=>tl σ H1 λl H2=>th σ H2 λu H3=>r x l u H3 Q
theorem gI(hr:SlR X r)(he:PE X e te)(hl:PO X lo tl)(hu:PO X hi th):PE X (.Subscript e (.Slice lo hi none p2) pos) (B6 r te tl th):=by
 intro pins s σ H Q I h;refine Subscript_ (aV (he pins s σ H _ I h) λv s1 ⟨x,H1,I1,r1,q1⟩=>?_);refine wpAny_Slice (aV (hl pins s1 σ H1 _ I1 q1) λvl s2 ⟨l,H2,I2,pl,q2⟩=>aV (hu pins s2 σ H2 _ I2 q2) λvu s3 ⟨u,H3,I3,pu,q3⟩=>?_);rw[evalPart_none];refine Hi ?_;have I4:Inv X pins σ H3 { s3 with heap:=s3.heap.push { cls:=.type "slice",data:=.fields #[vl,vu,.none] } }:=I3.kept (t':=s3.toks) λb ob q=>cv _ q;obtain⟨T,id,hT,ht,hg⟩:=hr pins { s3 with heap:=s3.heap.push { cls:=.type "slice",data:=.fields #[vl,vu,.none] } } σ H3 x v vl vu l u s3.heap.objs.size Q I4 r1 (Heap.IsSliceOf.new ..) pl pu q3;show wpAny (model X.prog X.w) X.A (subscriptTail e (.Slice lo hi none p2) v (.ref s3.heap.objs.size)) (EP X pins σ Q) X.xe { s3 with heap:=s3.heap.push { cls:=.type "slice",data:=.fields #[vl,vu,.none] } };exact tail_any (ops:=[.ref s3.heap.objs.size,v]) ht hT hg (by with_unfolding_all rfl)
def gJ(xs:List V)(lo hi:Option Int):List V:=(xs.drop (HT.sIx xs.length 0 lo)).take (HT.sIx xs.length xs.length hi-HT.sIx xs.length 0 lo)
theorem dZ(xs:List V)(lo hi:Option Int):(gJ xs lo hi).length<=xs.length:=by
 unfold gJ;rw[jV,kv];omega
def xb(K:Hg):V->Option Int->Option Int->Hp->VK->Prop:=λx lo hi H Q=>∃a xs,x=.ref a/\SqT K H a xs/\
 ¬(HT.sIx xs.length 0 lo=0/\HT.sIx xs.length xs.length hi=xs.length)/\∀p,H p=none->Q (.ref p) (upd H p (.tup (gJ xs lo hi)))
theorem sl_tup:SlR X (xb X.K):=by
 intro pins s σ H x v vl vu lo hi sl Q I rx hs pl pu h;obtain⟨a,xs,rfl,hx,hw,q⟩:=h;cases rx;obtain⟨its,r,ht,hz⟩:=I.tuple hx;have hlen:its.toArray.size=xs.length:=by rw[cM];exact r.length.symm
 refine⟨"tuple",_,PyProof.Rows.slot_tuple_getitem.lookup,ht.typeIs,?_⟩;refine HT.getItem_tuple_cut ht hs pl pu (by rw[hlen];exact hw) ?_ (by rw[hlen];exact hz);rw[hlen];refine⟨.ref s.heap.objs.size,_,I.laid (t':=s.toks) (o:=.tup (gJ xs lo hi)) (λb ob q=>cv _ q) (bP _) ?_,rfl,q _ (I.hok.fresh (bP _))⟩;exact⟨gA (dZ xs lo hi) hz,_,(r.drop (HT.sIx xs.length 0 lo)).take (HT.sIx xs.length xs.length hi-HT.sIx xs.length 0 lo),IsTup.new _ _⟩
def sU(K:Hg):R2:=λx y H Q=>∃a b xs ys,x=.ref a/\y=.ref b/\SqT K H a xs/\SqT K H b ys/\xs≠[]/\xs.length+ys.length<=sizeLine/\
 (ys=[]->Q (.ref a) H)/\(ys≠[]->∀p,H p=none->Q (.ref p) (upd H p (.tup (xs++ys))))
theorem Vals.nil_iff{us:List Value}(r:Vals xs us):us=[]↔xs=[]:=by
 cases r with
 |nil=>simp
 |cons _ _=>simp
theorem mw:OpR X (binaryOp .Add) (sU X.K):=by
 intro pins s σ H x y v u Q I rx ry h;obtain⟨a,b,xs,ys,rfl,rfl,ha,hb,hx,hz,q1,q2⟩:=h;cases rx;cases ry;obtain⟨its,r1,p1,_⟩:=I.tuple ha;obtain⟨its2,r2,p2,_⟩:=I.tuple hb;refine HT.cat_tup p1 p2 (λz=>hx (r1.nil_iff.mp z)) (λz=>⟨.ref a,H,I,rfl,q1 (r2.nil_iff.mp z)⟩) (λz=>?_) (by rw[<-r1.length,<-r2.length];exact hz);refine⟨.ref s.heap.objs.size,_,I.laid (t':=s.toks) (o:=.tup (xs++ys)) (λb ob q=>cv _ q) (bP _) ?_,rfl,q2 (λw=>z (r2.nil_iff.mpr w)) _ (I.hok.fresh (bP _))⟩;exact⟨by rw[gu];exact hz,_,r1.append r2,IsTup.new _ _⟩
end
def jv(n:Nat)(i:Int):Option Nat:=if 0<=i then(if i<n then some i.toNat else none) else if -(n:Int)<=i then some (i+n).toNat else none
def cG{α:Type}(xs:List α)(i:Int):Option α:=(jv xs.length i).bind λj=>xs[j]?
theorem jb{n:Nat}{i:Int}(h:jv n i=some j):seqIndex? i n=some j/\j<n/\-(n:Int)<=i/\i<n:=by
 unfold jv at h
 by_cases h0:0<=i
 .rw[Hh h0] at h
  by_cases h1:i<n
  .rw[Hh h1] at h
   have e:i.toNat=j:=Hn h;exact⟨by rw[seqIndex_of h0 h1,e],by omega,by omega,h1⟩
  .rw[if_neg h1] at h;cases h
 .rw[if_neg h0] at h
  by_cases h1:-(n:Int)<=i
  .rw[Hh h1] at h
   have e:(i+n).toNat=j:=Hn h;exact⟨by rw[seqIndex_neg (by omega) h1,e],by omega,h1,by omega⟩
  .rw[if_neg h1] at h;cases h
theorem fR{α:Type}{xs:List α}{i:Int}{v:α}(h:cG xs i=some v):∃j,seqIndex? i xs.length=some j/\xs[j]? = some v/\j<xs.length/\-(xs.length:Int)<=i/\i<xs.length:=by
 unfold cG at h;cases e:jv xs.length i with
 |none=>rw[e] at h;cases h
 |some j=>
  rw[e] at h;obtain⟨h1,h2,h3,h4⟩:=jb e;exact⟨j,h1,h,h2,h3,h4⟩
theorem aQ{α:Type}{xs:List α}{v:α}(h:xs[j]? = some v):cG xs (j:Int)=some v:=by
 have hj:j<xs.length:=(Yap.mp h).1;have e:jv xs.length (j:Int)=some j:=by
  unfold jv;rw[Hh (by omega),Hh (by omega)];simp
 unfold cG;rw[e];exact h
theorem gK{α:Type}(xs:List α)(v:α):cG (xs++[v]) (-1)=some v:=by
 have hl:(xs++[v]).length=xs.length+1:=by simp
 have e:jv (xs++[v]).length (-1)=some xs.length:=by
  unfold jv;rw[hl,if_neg (by decide),Hh (by omega)];congr 1;omega
 unfold cG;rw[e];show(xs++[v])[xs.length]? = some v;simp
def eD(b:Expr):Prop:=∀o i,subscripted b false o i=operate [o,i] (getItem o i)
def IxR(X:Cx)(r:R2):Prop:=
 ∀(value slice:Expr) (pins:List (Addr×Obj)) (s:Shared) (σ:St) (H:Hp) (x y:V) (v u:Value) (Q:VK),Inv X pins σ H s->RelV x v->RelV y u->r x y H Q->
  subscripted slice false v u=operate [v,u] (getItem v u)->wpAny (model X.prog X.w) X.A (subscriptTail value slice v u) (EP X pins σ Q) X.xe s
def nG(X:Cx)(id:String)(r:V->List V->Hp->VK->Prop):Prop:=
 ∀(pins:List (Addr×Obj)) (s:Shared) (σ:St) (H:Hp) (x:V) (xs:List V) (v:Value) (us:List Value) (Q:VK),Inv X pins σ H s->RelV x v->Vals xs us->r x xs H Q->
  wpAny (model X.prog X.w) X.A (call (.builtin id) (v::us)) (EP X pins σ Q) X.xe s
section
variable{a b:Expr}{ta tb:TE}
theorem IxR.or{r r':R2}(h:IxR X r)(h':IxR X r'):IxR X (λx y H Q=>r x y H Q\/r' x y H Q):=by
 intro value slice pins s σ H x y v u Q I rx ry q hs;rcases q with q|q
 .exact h value slice pins s σ H x y v u Q I rx ry q hs
 .exact h' value slice pins s σ H x y v u Q I rx ry q hs
theorem kX{r:R2}(hr:IxR X r)(ha:PE X a ta)(hb:PE X b tb)(hs:eD b):PE X (.Subscript a b pos) (uZ r ta tb):=by
 intro pins s σ H Q I h;exact Subscript_ (oV ha hb I h λv u s2 x y H2 I2 rx ry q=>hr a b pins s2 σ H2 x y v u Q I2 rx ry q (hs _ _))
def sV(K:Hg):R2:=λx y H Q=>∃p xs i v,x=.ref p/\y=.int i/\SqL K H p xs/\cG xs i=some v/\Q v H
def sW(K:Hg):R2:=λx y H Q=>∃p xs i v,x=.ref p/\y=.int i/\SqT K H p xs/\cG xs i=some v/\Q v H
def sX:R2:=λx y H Q=>∃z i c,x=.str z/\y=.int i/\z.length<=sizeLine/\cG z.cps.toList i=some c/\Q (.str ⟨#[c]⟩) H
theorem ix_list:IxR X (sV X.K):=by
 intro value slice pins s σ H x y v u Q I rx ry h hs;obtain⟨p,xs,i,z,rfl,rfl,hq,he,q⟩:=h;cases rx;obtain⟨t,rfl⟩:=ry;obtain⟨its,r,pl,hz⟩:=I.list hq;obtain⟨j,h1,h2,h3,h4,h5⟩:=fR he;obtain⟨w,ew,rw'⟩:=r.get h2;have hl:=r.length;have hn:=cY;have fin:EP X pins σ Q w s:=⟨z,H,I,rw',q⟩
 by_cases h0:0<=i
 .have hj:i.toNat=j:=by
   rw[seqIndex_of h0 h5] at h1;exact Hn h1
  exact item_listR pl.isList h0 (by omega) (by rw[hj];simpa using ew) fin hs
 .have hj:(i+(its.toArray.size:Int)).toNat=j:=by
   rw[seqIndex_neg (by omega) h4] at h1;rw[cM,<-hl];exact Hn h1
  exact subscriptTail_builtinR (x:=w) pl.isList.typeIs slot_list_getitem.lookup
   (wpAny_getItem_list_neg (Q:=λr s'=>r=w/\EP X pins σ Q r s') pl.isList (by omega) (by rw[cM]<;>omega) (by omega) (by rw[hj];simpa using ew) ⟨rfl,fin⟩) hs
theorem ix_tup:IxR X (sW X.K):=by
 intro value slice pins s σ H x y v u Q I rx ry h hs;obtain⟨p,xs,i,z,rfl,rfl,hq,he,q⟩:=h;cases rx;obtain⟨t,rfl⟩:=ry;obtain⟨its,r,pl,hz⟩:=I.tuple hq;obtain⟨j,h1,h2,h3,h4,h5⟩:=fR he;obtain⟨w,ew,rw'⟩:=r.get h2;have hl:=r.length;have hn:=cY;have fin:EP X pins σ Q w s:=⟨z,H,I,rw',q⟩
 exact subscriptTail_builtinR (x:=w) pl.typeIs slot_tuple_getitem.lookup
  (getItem_tuple (j:=j) (Q:=λr s'=>r=w/\EP X pins σ Q r s') pl (by omega) (by omega) (by rw[cM,<-hl];exact h1) (by simpa using ew) ⟨rfl,fin⟩) hs
theorem kY:IxR X sX:=by
 intro value slice pins s σ H x y v u Q I rx ry h hs;obtain⟨z,i,c,rfl,rfl,hz,he,q⟩:=h;obtain⟨t,rfl⟩:=rx;obtain⟨t',rfl⟩:=ry;obtain⟨j,h1,h2,h3,h4,h5⟩:=fR he;have hl:z.cps.toList.length=z.length:=by simp[Str.length]
 rw[hl] at h1 h4 h5;have hn:=cY;exact tail_any (typeIs_str s z t) slot_str_getitem.lookup (getItem_str (c:=c) (by
  have e1:decide (i < -(2^63:Int))=false:=Ht (by omega);have e2:decide (i ≥ 2^63)=false:=Ht (by omega);rw[e1,e2,Bool.or_false]) (by rw[h1];simpa using h2) ⟨.str ⟨#[c]⟩,H,I.tok _,⟨_,rfl⟩,q⟩) hs
def zq(K:Hg):R2:=λx y H Q=>sV K x y H Q\/sW K x y H Q\/sX x y H Q
theorem kZ:IxR X (zq X.K):=ix_list.or (ix_tup.or kY)
theorem ip(its:List Value)(n j:Nat)(u:Value):Obj.mapSeq (·.setIfInBounds j u) { cls:=.type "list",data:=.seq its.toArray n }={ cls:=.type "list",data:=.seq (its.set j u).toArray n }:=by
 simp[Obj.mapSeq]
theorem Inv.lst{pins:List (Addr×Obj)}{σ:St}{H:Hp}{s:Shared}{p:Addr}{xs:List V}(I:Inv X pins σ H s)(h:H p=some (.lst xs)) :
  ∃(its:List Value) (n:Nat),Vals xs its/\s.heap.get? p=some { cls:=.type "list",data:=.seq its.toArray n }/\xs.length<=sizeLine:=by
 obtain⟨z,its,n,r,e⟩:=I.hok p _ h;exact⟨its,n,r,e,z⟩
theorem Inv.lstUpd{p:Addr}{ys:List V}{its:List Value}{n n':Nat}{f:Obj->Obj}(I:Inv X pins σ H s)(h:H p=some (.lst xs))
  (ho:s.heap.get? p=some { cls:=.type "list",data:=.seq its.toArray n }) (hf:f { cls:=.type "list",data:=.seq its.toArray n }={ cls:=.type "list",data:=.seq its'.toArray n' }) (r:Vals ys its') (hz:ys.length<=sizeLine) (t:Nat) :
  Inv X pins σ (upd H p (.lst ys)) { s with heap:=s.heap.update p f,toks:=t }:=by
 have e:(s.heap.update p f).get? p=some { cls:=.type "list",data:=.seq its'.toArray n' }:=by
  rw[ou f ho (by rw[hf]<;>rfl),hf]
 refine I.write (x:=p) (e:=p) (by rw[h];trivial) (.inl rfl) (λb u hb q=>(lZ _ _ (Hv hb)).trans q) ⟨_,e⟩ ?_ (.inl ⟨_,h⟩);exact⟨hz,its',n',r,e⟩
def sY:V->V->V->Hp->(Hp->Prop)->Prop:=λo i v H Q=>∃p xs k j,o=.ref p/\i=.int k/\H p=some (.lst xs)/\jv xs.length k=some j/\Q (upd H p (.lst (xs.set j v)))
theorem k6:sJ X sY:=by
 intro pins s σ H o i v ov iv u Q I ro ri rv h;obtain⟨p,xs,k,j,rfl,rfl,hp,hj,q⟩:=h;cases ro;obtain⟨t,rfl⟩:=ri;obtain⟨its,n,r,ho,hz⟩:=I.lst hp;obtain⟨h1,h2,h3,h4⟩:=jb hj;have hl:=r.length;have hn:=cY;have I':Inv X pins σ (upd H p (.lst (xs.set j v))) { s with heap:=s.heap.update p (Obj.mapSeq (·.setIfInBounds j u)) }:=
  I.lstUpd hp ho (ip its n j u) (r.set rv j) (by rw[et];exact hz) s.toks
 by_cases h0:0<=k
 .have hk:k.toNat=j:=by
   rw[seqIndex_of h0 h4] at h1;exact Hn h1
  exact PySem.W.ki_setAt ho h0 (by omega) (by rw[cM,<-hl];exact h4) (by rw[hk];exact⟨_,I',q⟩)
 .have hk:(k+(its.toArray.size:Int)).toNat=j:=by
   rw[seqIndex_neg (by omega) h3] at h1;rw[cM,<-hl];exact Hn h1
  exact PySem.W.ki_setBack ho (by omega) (by rw[cM,<-hl];exact h3) (by omega) (by rw[hk];exact⟨_,I',q⟩)
theorem dm(lo hi:Option Int)(n:Nat):(sliceBounds lo hi none n).1=((HT.sIx n 0 lo:Nat):Int)/\(sliceBounds lo hi none n).2.1=((HT.sIx n n hi:Nat):Int)/\(sliceBounds lo hi none n).2.2=1:=by
 refine⟨?_,?_,rfl⟩
 .cases lo with
  |none=>simp[sliceBounds,HT.sIx]
  |some i=>
   simp only[sliceBounds,HT.sIx,Option.getD_none,show(1:Int)>0 by decide,if_true]
   by_cases h:i<0
   .simp only[h,if_true]<;>omega
   .simp only[h,if_false]<;>omega
 .cases hi with
  |none=>simp[sliceBounds,HT.sIx]
  |some i=>
   simp only[sliceBounds,HT.sIx,Option.getD_none,show(1:Int)>0 by decide,if_true]
   by_cases h:i<0
   .simp only[h,if_true]<;>omega
   .simp only[h,if_false]<;>omega
theorem e9(its:List Value)(lo hi:Option Int):slicePick its.toArray lo hi none=((its.drop (HT.sIx its.length 0 lo)).take (HT.sIx its.length its.length hi-HT.sIx its.length 0 lo)).toArray:=by
 obtain⟨h1,h2,h3⟩:=dm lo hi its.toArray.size;unfold slicePick;rw[h1,h2,h3];simp only[sliceRange_one,pick_run,cM]<;>rfl
def xc(K:Hg):V->Option Int->Option Int->Hp->VK->Prop:=λx lo hi H Q=>∃a xs,x=.ref a/\SqL K H a xs/\∀p,H p=none->Q (.ref p) (upd H p (.lst (gJ xs lo hi)))
theorem sl_list:SlR X (xc X.K):=by
 intro pins s σ H x v vl vu lo hi sl Q I rx hs pl pu h;obtain⟨a,xs,rfl,hx,q⟩:=h;cases rx;obtain⟨its,r,ht,hz⟩:=I.list hx;have hlen:=r.length;refine⟨"list",_,slot_list_getitem.lookup,ht.isList.typeIs,?_⟩;refine wpAny_getItem_list_slice ht.isList hs pl pu .none (by simp) ?_ (by rw[cM]<;>omega);rw[e9,<-hlen];refine⟨.ref s.heap.objs.size,_,I.laid (t':=s.toks) (o:=.lst (gJ xs lo hi)) (λb ob q=>cv _ q) (bP _) ?_,rfl,q _ (I.hok.fresh (bP _))⟩;exact⟨gA (dZ xs lo hi) hz,_,0,(r.drop (HT.sIx xs.length 0 lo)).take (HT.sIx xs.length xs.length hi-HT.sIx xs.length 0 lo),eV _ rfl⟩
def nI:V->Bool
 |.non=>true
 |.bl _=>true
 |.int _=>true
 |.str _=>true
 |_=>false
def B7:V->V->Bool
 |.non,.non=>true
 |.bl a,.bl b=>a==b
 |.bl a,.int b=>(if a then 1 else 0)==b
 |.int a,.bl b=>a==(if b then 1 else 0)
 |.int a,.int b=>a==b
 |.str a,.str b=>a==b
 |_,_=>false
theorem o8{y:V}{u:Value}(ry:RelV y u)(rx:RelV x v)(fy:nI y=true)(fx:nI x=true):SeqAt.EqAt A s u v (B7 y x):=by
 cases y with
 |non=>
  cases ry;cases x with
  |non=>cases rx;exact SeqAt.EqAt.same _
  |bl b=>cases rx;exact SeqAt.EqAt.none_bool b
  |int b=>obtain⟨t,rfl⟩:=rx;exact SeqAt.EqAt.none_int b t
  |str b=>obtain⟨t,rfl⟩:=rx;exact SeqAt.EqAt.none_str b t
  |_=>exact Hj (show false=true from fx) bW
 |bl a=>
  cases ry;cases x with
  |non=>cases rx;exact SeqAt.EqAt.bool_none a
  |bl b=>cases rx;exact SeqAt.EqAt.bool_bool a b
  |int b=>obtain⟨t,rfl⟩:=rx;exact SeqAt.EqAt.bool_int a b t
  |str b=>obtain⟨t,rfl⟩:=rx;exact SeqAt.EqAt.bool_str a b t
  |_=>exact Hj (show false=true from fx) bW
 |int a=>
  obtain⟨t',rfl⟩:=ry;cases x with
  |non=>cases rx;exact SeqAt.EqAt.int_none a t'
  |bl b=>cases rx;exact SeqAt.EqAt.int_bool a t' b
  |int b=>obtain⟨t,rfl⟩:=rx;exact SeqAt.EqAt.int_int a t' b t
  |str b=>obtain⟨t,rfl⟩:=rx;exact SeqAt.EqAt.int_str a t' b t
  |_=>exact Hj (show false=true from fx) bW
 |str a=>
  obtain⟨t',rfl⟩:=ry;cases x with
  |non=>cases rx;exact SeqAt.EqAt.str_none a t'
  |bl b=>cases rx;exact SeqAt.EqAt.str_bool a t' b
  |int b=>obtain⟨t,rfl⟩:=rx;exact SeqAt.EqAt.str_int a t' b t
  |str b=>obtain⟨t,rfl⟩:=rx;exact SeqAt.EqAt.str_str a t' b t
  |_=>exact Hj (show false=true from fx) bW
 |_=>exact Hj (show false=true from fy) bW
theorem dn:bY X (.builtin "len") (λxs H Q=>∃p ys,xs=[.ref p]/\(SqL X.K H p ys\/SqT X.K H p ys)/\Q (.int ys.length) H):=by
 intro pins s σ H xs us Q I r h;obtain⟨p,ys,rfl,hq,q⟩:=h;obtain⟨u,rfl,rx⟩:=bS r;cases rx;have hn:=cY;rcases hq with hq|hq
 .obtain⟨its,r',pl,hz⟩:=I.list hq
  have hlen:=r'.length;exact Calls.call_len_list pl.isList (by simp only[cM]<;>omega) ⟨.int ys.length,H,I.tok _,⟨s.toks+1,by rw[cM,hlen]⟩,q⟩
 .obtain⟨its,r',pl,hz⟩:=I.tuple hq
  have hlen:=r'.length;exact len_tuple pl (by simp only[cM]<;>omega) ⟨.int ys.length,H,I.tok _,⟨s.toks+1,by rw[cM,hlen]⟩,q⟩
theorem fT:bY X (.builtin "len") (λxs H Q=>∃z,xs=[.str z]/\z.length<=sizeLine/\Q (.int z.length) H):=by
 intro pins s σ H xs us Q I r h;obtain⟨z,rfl,hz,q⟩:=h;obtain⟨u,rfl,t,rfl⟩:=bS r;have hn:=cY;exact len_str (by omega) ⟨.int z.length,H,I.tok _,⟨_,rfl⟩,q⟩
theorem fb:bY X (.type "tuple") (λxs H Q=>∃p ys,xs=[.ref p]/\((SqL X.K H p ys/\∀l,H l=none->Q (.ref l) (upd H l (.tup ys)))\/(SqT X.K H p ys/\Q (.ref p) H))):=by
 intro pins s σ H xs us Q I r h;obtain⟨p,ys,rfl,h⟩:=h;obtain⟨u,rfl,rx⟩:=bS r;cases rx;rcases h with⟨hq,q⟩|⟨hq,q⟩
 .obtain⟨its,r',pl,hz⟩:=I.list hq
  have hlen:=r'.length;refine call_tuple_list pl.isList (λh' kp=>?_) (by simp only[cM]<;>omega);have I1:Inv X pins σ H { s with heap:=h' }:=I.kept (t':=s.toks) kp;have I2:Inv X pins σ (upd H h'.objs.size (.tup ys)) { s with heap:=h'.push { cls:=.type "tuple",data:=.seq its.toArray } }:=
   I1.laid (t':=s.toks) (λb o e=>cv _ e) (bP _) (show ObjOk X.prog X.w _ _ _ (.tup ys) from⟨hz,its,r',IsTup.new _ _⟩)
  exact⟨.ref h'.objs.size,_,I2,rfl,q _ (I1.hok.fresh (bP _))⟩
 .obtain⟨its,r',pl,hz⟩:=I.tuple hq
  exact call_tuple_same pl ⟨.ref p,H,I,rfl,q⟩
def u6(K:Hg)(T:String)(x:V)(H:Hp):Prop:=match x with
 |.str _=>T = "str"
 |.int _=>T = "int"
 |.ref p=>(T = "list" /\∃xs,SqL K H p xs)\/(T = "tuple" /\∃o,K.lookup p=some o/\o.cls=.type "tuple" /\o.dict=none)\/
   (T = "dict" /\((∃kvs,H p=some (.dK kvs))\/∃kvs,H p=some (.dT kvs)))\/(T = "set" /\∃S n,H p=some (.set S n))
 |_=>False
theorem iq{T:String}(I:Inv X pins σ H s)(r:RelV x v)(ty:u6 X.K T x H) :
  s.TypeIs v T/\∀a,v=.ref a->∃ob,s.heap.get? a=some ob/\ob.dict=none:=by
 cases x with
 |str z=>
  obtain⟨t,rfl⟩:=r;cases(show T = "str" from ty);exact⟨typeIs_str s z t,λ_ e=>nomatch e⟩
 |int i=>
  obtain⟨t,rfl⟩:=r;cases(show T = "int" from ty);exact⟨typeIs_int s i t,λ_ e=>nomatch e⟩
 |ref p=>
  cases r;rcases ty with⟨rfl,xs,hq⟩|⟨rfl,o,hk,hc,hd⟩|⟨rfl,hk⟩|⟨rfl,S,n,hk⟩
  .obtain⟨its,_,pl,_⟩:=I.list hq
   refine⟨pl.isList.typeIs,λa e=>?_⟩;cases e;obtain⟨o,n,e,c,hd,_⟩:=pl;exact⟨o,e,hd⟩
  .refine⟨⟨o,I.kIn p o hk,hc⟩,λa e=>?_⟩
   cases e;exact⟨o,I.kIn _ o hk,hd⟩
  .have z:∃o,s.heap.get? p=some o/\o.ExactDict:=by
    rcases hk with⟨kvs,hk⟩|⟨kvs,hk⟩
    .obtain⟨_,_,_,_,o,_,_,e,ex,_⟩:=I.hok p _ hk
     exact⟨o,e,ex⟩
    .obtain⟨_,_,_,_,o,_,_,e,ex,_⟩:=I.hok p _ hk
     exact⟨o,e,ex⟩
   obtain⟨o,e,ex⟩:=z;refine⟨⟨o,e,ex.1⟩,λa e2=>?_⟩;cases e2;exact⟨o,e,ex.2.1⟩
  .obtain⟨o,_,_,_,e,ex,_⟩:=I.hok p _ hk
   refine⟨⟨o,e,ex.1⟩,λa e2=>?_⟩;cases e2;exact⟨o,e,ex.2.1⟩
 |_=>exact Hr ty
def xf(K:Hg)(T:String)(r:V->List V->Hp->VK->Prop)(to:TE):TE:=λσ H Q=>to σ H λx H1=>u6 K T x H1/\r x [] H1 Q
def B8(K:Hg)(T:String)(r:V->List V->Hp->VK->Prop)(to:TE)(t:TA):TE:=λσ H Q=>to σ H λx H1=>u6 K T x H1/\t σ H1 λxs H2=>r x xs H2 Q
variable{o:Expr}{es:List Expr}{to:TE}{t:TA}{name:Str}{apos cpos:Pos}{T id:String}{r:V->List V->Hp->VK->Prop}
theorem o9(pa:PlainAttrs T)(slot:Slot T name id)(hty:typeOf (.builtin id)=pure (.type "method_descriptor"))(hm:nG X id r)(ho:PE X o to)
  (hbase:attributeBase o name X.env (eval o X.env)=eval o X.env:=by rfl) (hline:(apos.endLine==cpos.line)=true:=by rfl):PE X (.Call (.Attribute o name apos) [] [] cpos) (xf X.K T r to):=by
 intro pins s σ H Q I h;refine wpAny_Call_method0_late hbase hline (aV (ho pins s σ H _ I h) λv s1 ⟨x,H1,I1,r1,ty,q1⟩=>?_);obtain⟨h1,h2⟩:=iq I1 r1 ty;exact⟨T,id,pa,slot,hty,h1,h2,Calls.callWith_builtin rfl (PySem.evalArgs_none (hm pins s1 σ H1 x [] v [] Q I1 r1 .nil q1))⟩
theorem gL(pa:PlainAttrs T)(slot:Slot T name id)(hty:typeOf (.builtin id)=pure (.type "method_descriptor"))(hm:nG X id r)(ho:PE X o to)(ha:PA X (e::es) t)
  (hbase:attributeBase o name X.env (eval o X.env)=eval o X.env:=by rfl)
  (hfew:((backTo cpos (starEach (e::es) X.env)).all (λx=>!x.1) && (backToKw cpos (keywordEach [] X.env)).all (λx=>x.1.isSome)
   && decide ((e::es).length+([]:List Keyword).length+(if([]:List Keyword).isEmpty then 0 else 1)<30))=true:=by rfl)
  (hline:(apos.endLine==cpos.line)=true:=by rfl) (hs:starEach (e::es) X.env=(false,eval e X.env)::starEach es X.env:=by rfl) (hplain:(backTo cpos (starEach es X.env)).any (·.1)=false:=by rfl) :
  PE X (.Call (.Attribute o name apos) (e::es) [] cpos) (B8 X.K T r to t):=by
 intro pins s σ H Q I h;refine wpAny_Call_method_late hbase hfew hline rfl (aV (ho pins s σ H _ I h) λv s1 ⟨x,H1,I1,r1,ty,q1⟩=>?_);obtain⟨h1,h2⟩:=iq I1 r1 ty;refine⟨T,id,pa,slot,hty,h1,h2,?_⟩;have hA:=ha cpos pins s1 σ H1 _ I1 q1;rw[hs] at hA ⊢;refine Calls.callWith_builtin (by show(false||(backTo cpos (starEach es X.env)).any (·.1))=false;rw[hplain]<;>rfl) (Calls.evalArgs_plain ?_);exact aV hA λus s2 ⟨vs,H2,I2,r2,q2⟩=>hm pins s2 σ H2 x vs v us Q I2 r1 r2 q2
/- xs.append(e),list.index on a module's tuple .. are nG facts of 06m -/
end
def zr(X:Cx)(id:String)(r:V->List V->Hp->VK->Prop):Prop:=
 ∀(pins:List (Addr×Obj)) (s:Shared) (σ:St) (H:Hp) (x:V) (xs:List V) (v:Value) (us:List Value) (Q:VK),Inv X pins σ H s->RelV x v->Vals xs us->r x xs H Q->
  wpAny (model X.prog X.w) X.A (call (.builtin id) (v::us)) (EP X pins σ Q) X.xe s
theorem Vals.one:∀{x:V} {us:List Value},Vals [x] us->∃u,us=[u]/\RelV x u
 |_,_,.cons r .nil=>⟨_,rfl,r⟩
theorem Vals.zero:∀{us:List Value},Vals [] us->us=[]
 |_,.nil=>rfl
theorem Vals.dropLast{xs:List V}{us:List Value}(h:Vals xs us):Vals xs.dropLast us.dropLast:=by
 induction h with
 |nil=>exact .nil
 |cons r t ih=>
  cases t with
  |nil=>exact .nil
  |cons q t'=>exact .cons r ih
theorem Vals.rep{xs:List V}{us:List Value}(h:Vals xs us):∀k:Nat,Vals (List.replicate k xs).flatten (List.replicate k us).flatten
 |0=>.nil
 |k+1=>by
  rw[eX,eX,nc,nc];exact Vals.append h (Vals.rep h k)
theorem ir{α:Type}(l:List α):l.eraseIdx (l.length-1)=l.dropLast:=by
 induction l with
 |nil=>rfl
 |cons a r ih=>
  cases r with
  |nil=>rfl
  |cons b r=>
   have e:(a::b::r).length-1=((b::r).length-1)+1:=by
    have h1:(a::b::r).length=r.length+2:=rfl;have h2:(b::r).length=r.length+1:=rfl;omega
   rw[e,List.eraseIdx_cons_succ,ih]
   all_goals rfl
theorem cQ(its:List Value):∀(k:Nat) (acc:List Value),
  List.foldl (λx1 x2=>x1++x2) acc.toArray (List.replicate k its.toArray)=(acc++(List.replicate k its).flatten).toArray
 |0,acc=>by simp
 |k+1,acc=>by
  have e:acc.toArray++its.toArray=(acc++its).toArray:=by simp
  have e2:(acc++its)++(List.replicate k its).flatten=acc++(List.replicate (k+1) its).flatten:=by
   rw[eX,nc,l0]
  rw[<-e2,<-cQ its k (acc++its),<-e,eX,wg]
section
variable{l b:Addr}{ys zs:List V}
theorem Inv.lset{its:List Value}{n:Nat}{f:Array Value->Array Value}(I:Inv X pins σ H s)(hH:H l=some (.lst xs))
  (e:s.heap.get? l=some { cls:=.type "list",data:=.seq its.toArray n }) (hf:f its.toArray=its'.toArray) (hv:Vals ys its') (hz:ys.length<=sizeLine) :
  Inv X pins σ (upd H l (.lst ys)) { s with heap:=s.heap.update l (Obj.mapSeq f),toks:=t' }:=by
 have q:=PySem.IsL.update e f;rw[hf] at q;refine I.write (x:=l) (e:=l) (by rw[hH];exact trivial) (.inl rfl) (λb' u hb hu=>(lZ s.heap (Obj.mapSeq f) (Hv hb)).trans hu) ⟨_,q⟩ ?_ (.inl ⟨_,hH⟩);exact⟨hz,its',_,hv,q⟩
theorem Inv.lnew{its:List Value}(I:Inv X pins σ H s)(hv:Vals ys its)(hz:ys.length<=sizeLine) :
  Inv X pins σ (upd H s.heap.objs.size (.lst ys)) { s with heap:=s.heap.push { cls:=.type "list",data:=.seq its.toArray },toks:=t' }:=
 I.laid (λ_ _ q=>cv _ q) (bP _) ⟨hz,its,0,hv,eV _ rfl⟩
theorem Inv.fresh(I:Inv X pins σ H s):H s.heap.objs.size=none:=I.hok.fresh (bP _)
theorem Inv.lstM(I:Inv X pins σ H s)(hH:H l=some (.lst xs)):xs.length<=sizeLine/\∃(its:List Value) (n:Nat),Vals xs its/\xs.length=its.length/\s.heap.get? l=some { cls:=.type "list",data:=.seq its.toArray n }:=by
 obtain⟨z,its,n,r,e⟩:=I.hok l _ hH;exact⟨z,its,n,r,r.length,e⟩
theorem k9{n:Nat}(h:n<=sizeLine):Builtin.List.listTooLong n=false:=by
 unfold Builtin.List.listTooLong;exact Ht (by omega)
end
section
def mx:V->List V->Hp->VK->Prop:=λx vs H Q=>∃l xs y,x=.ref l/\vs=[y]/\H l=some (.lst xs)/\xs.length<sizeLine/\Q .non (upd H l (.lst (xs++[y])))
theorem fA:zr X "list.append" mx:=by
 intro pins s σ H x vs v us Q I rx rv h;obtain⟨l,xs,y,rfl,rfl,hH,hz,q⟩:=h;cases rx;obtain⟨u,rfl,ru⟩:=rv.one;obtain⟨z,its,n,r,hl,e⟩:=I.lstM hH;refine call_meets F.slot_list_append ⟨_,e,rfl⟩ F.entry_list_append (F.args_list_append_2 _ _) (PySem.list_append l its.toArray n u (by rw[cM];omega)) ⟨e,?_⟩;refine⟨.non,_,I.lset (its':=its++[u]) hH e (by simp) (r.append (.cons ru .nil)) ?_,rfl,q⟩;rw[gu,oy];omega
def xg:V->List V->Hp->VK->Prop:=λx vs H Q=>∃l xs y,x=.ref l/\vs=[]/\H l=some (.lst xs)/\xs[xs.length-1]? = some y/\Q y (upd H l (.lst xs.dropLast))
theorem pj:zr X "list.pop" xg:=by
 intro pins s σ H x vs v us Q I rx rv h;obtain⟨l,xs,y,rfl,rfl,hH,hy,q⟩:=h;cases rx;have hus:=rv.zero;subst hus;obtain⟨z,its,n,r,hl,e⟩:=I.lstM hH;obtain⟨u,hu,ru⟩:=r.get hy;have hy':its.toArray[its.toArray.size-1]? = some u:=by
  show its.toArray[its.length-1]? = some u;rw[<-Array.getElem?_toList,<-hl];exact hu
 refine call_meets F.slot_list_pop ⟨_,e,rfl⟩ F.entry_list_pop (F.args_list_pop_1 _) (MeetsSeq.list_pop_last l its.toArray n u hy' (by rw[cM];omega)) ⟨e,?_⟩;refine⟨y,_,I.lset (its':=its.dropLast) hH e ?_ r.dropLast ?_,ru,q⟩
 .show its.toArray.eraseIdxIfInBounds (its.toArray.size-1)=its.dropLast.toArray
  rw[cM,List.eraseIdxIfInBounds_toArray,ir]
 .rw[uN]
  omega
def xh:R2:=λx y H Q=>∃l k xs,x=.ref l/\y=.int k/\H l=some (.lst xs)/\-(2^63)<=k/\k<2^63/\xs.length*k.toNat<=sizeLine/\
 ∀p,H p=none->Q (.ref p) (upd H p (.lst (List.replicate k.toNat xs).flatten))
theorem fV{α:Type}(xs:List α)(k:Nat):(List.replicate k xs).flatten.length=k*xs.length:=by
 induction k with
 |zero=>simp
 |succ k ih=>rw[eX,nc,gu,ih,Nat.succ_mul,Nat.add_comm]
theorem pk:OpR X (binaryOp .Mult) xh:=by
 intro pins s σ H x y v u Q I rx ry h;obtain⟨l,k,xs,rfl,rfl,hH,h1,h2,hz,q⟩:=h;cases rx;obtain⟨t,rfl⟩:=ry;obtain⟨z,its,n,r,hl,e⟩:=I.lstM hH;have hlen:its.toArray.size*k.toNat<=sizeLine:=by rw[cM,<-hl];exact hz
 have hcap:¬its.toArray.size*k.toNat>(2^63-1)/8:=by
  have:(sizeLine:Nat)<=(2^63-1)/8:=by decide
  omega
 have hfit:¬(!Builtin.List.listFitsIndex k)=true:=by
  rw[fitsIndex_both h1 h2];exact bW
 have hlong:¬Builtin.List.listTooLong (its.toArray.size*k.toNat)=true:=by
  rw[k9 hlen];exact bW
 have hnew:List.foldl (λx1 x2=>x1++x2) #[] (List.replicate (if its.toArray.isEmpty=true then 0 else k.toNat) its.toArray)=(List.replicate k.toNat its).flatten.toArray:=by
  have f0:∀m:Nat,List.foldl (λx1 x2=>x1++x2) #[] (List.replicate m its.toArray)=(List.replicate m its).flatten.toArray:=λm=>by
   have:=cQ its m [];rw[eG] at this;exact this
  rw[f0];cases its with
  |nil=>simp
  |cons a r'=>rw[if_neg (by simp)]
 refine wpAny_binaryOp_repeat_ref (T:= "list") (U:= "int") (by decide) ⟨_,e,rfl⟩ (λs'=>typeIs_int s' k t) noFill_list_mul F.fills_int_mul F.slot_int_rmul repeat_list F.slot_int_index.lookup
  (call_meets F.slot_int_rmul (typeIs_int s k t) F.entry_int_rmul (F.args_int_rmul_2 _ _) (int___rmul___int_list k t l its.toArray n)
   ⟨e,rfl,⟨_,e,rfl⟩,call_meets F.slot_list_mul ⟨_,e,rfl⟩ F.entry_list_mul (F.args_list_mul_2 _ _) (AutoListH.list___mul___list_int_3 l its.toArray n k t hfit hcap hlong) ⟨e,?_⟩⟩)
 rw[hnew];exact⟨.ref _,_,I.lnew (t':=s.toks) (r.rep k.toNat) (by rw[fV,Nat.mul_comm];exact hz),rfl,q _ I.fresh⟩
end
end L2
namespace Att
open PySem PySem.W PySem.Calls PyProof.Rows
theorem d6{P:Params}{h:Heap}:∀(ns:List Int) (vs:List Value),WellAll P h vs (ns.map WData.int)->IntsAre vs ns:=by
 intro ns
 induction ns with
 |nil=>
  intro vs w;rw[hJ] at w;cases w;exact .nil
 |cons n ns ih=>
  intro vs w;rw[cF] at w;cases w with
  |cons a b=>
   cases a;exact .cons _ _ (ih _ b)
theorem jw{l:OpenLaw}{n:Nat}(hn:l.most=some n){P:Params}{h:Heap}{args:List WData}{vals:List Value}
  (hpre:l.row.toRowW.claim.pre args=true) (hwl:WellAll P h vals args) :
  ∃a vs ns,vals=[Value.ref a]/\args=[WData.list (ns.map WData.int)]/\h.get? a=some { cls:=.type "list",data:=.seq vs.toArray }/\IntsAre vs ns/\ns.length<=n:=by
 have hsh:WShape.hasAll [] args [.list .int]=true:=(pre_splitW hpre).1;have hc:l.pre.holds [] { args:=args }=true:=(pre_splitW hpre).2;obtain⟨d,r,rfl,h1,h2⟩:=hasAllW_cons hsh;obtain rfl:=hasAllW_nil h2;obtain⟨xs,rfl,h3⟩:=hasW_list h1;obtain⟨ns,rfl⟩:=items_int h3;have hlen:ns.length<=n:=by
  unfold OpenLaw.pre at hc;have h4:(WTm.not (.lt (.lit (.int (n:Int))) (.len (.arg 0)))).holds [] { args:=[.list (ns.map .int)] }=true:=by
   have h4:=(holds_andW hc).1;rw[hn] at h4;exact h4
  have h5:=condW_of h4 (w_not (w_lt w_lit (w_len_list (w_arg rfl))));rw[bR] at h5;refine Nat.le_of_not_lt λq=>?_;have q':(n:Int)<((ns.length:Nat):Int):=by omega
  first
   |(rw[Hl q'] at h5;exact Hj h5 (by decide))
   |(simp at h5;omega)
 cases hwl with
 |cons w1 w2=>
  cases w2;cases w1 with
  |list ho hall=>exact⟨_,_,ns,rfl,rfl,ho,d6 ns _ hall,hlen⟩
theorem jx(l:OpenLaw)(args:List WData):l.row.toRowW.claim.post args (.bool true) args=true:=
 postW_of (r:=l.row.toRowW) (X:=(true==true))
  (show WShape.has [] (.bool true) .bool=true by first|rfl|decide|simp[WShape.has,WShape.arms,WShape.armsAll])
  (show(WTm.eq .res (.lit (.bool true))).value [] { args:=args,res:=some (.bool true),after:=args }=some (.bool (true==true)) from w_eq_bool (w_res rfl) w_lit) rfl
theorem attach_call{l:OpenLaw}{n:Nat}{q:Program}{loose:List Str}{XP:(Str->Option Value)->Heap->Prop}{YP:World->Heap->Prop}{d:DefRec}
  (hn:l.most=some n) (hdf:d.params.defaults=[])
  (call:∀ (w:World) (s₀ s₁:Shared) (mg mb:Str->Option Value) (fa:Addr) (o:Obj) (pm cd doc:Value) (a:Addr) (vs:List Value) (ns:List Int),
   Ground q loose [] XP w s₀ mg mb s₁.heap->YP w s₁.heap->
   s₁.heap.get? fa=some o->o.data=.func (docDef d.name d.params d.body d.scope pm cd doc)->s₁.heap.CodeRec cd d.name->mg d.name=some (.ref fa)->
   s₁.heap.get? a=some { cls:=.type "list",data:=.seq vs.toArray }->IntsAre vs ns->ns.length<=n->(a==sysModules)=false->s₁.gens = #[]->
   codeAny (model l.prog w) callerA (.call (.ref fa) ⟨[.ref a],[]⟩) (λr s'=>r=.ok (.ret (.bool true))/\OldK s₁.heap s'.heap/\s'.os=s₁.os/\AllBare s'.gens) s₁) :
  WalkO q loose XP YP l.row.toRowW d [] (λf vs=>PySem.call f vs):=by
 intro w s₀ s₁ mg mb G Y fa o pm cd doc dV kV ho hd hcd hD hmg hg args vals as hpre hlay hrd hwl hlo;obtain rfl:dV=.none:=Dflts.none hD hdf;obtain rfl:kV=.none:=Dflts.noKw hD;obtain⟨a,vs,ns,rfl,rfl,hobj,hints,hlen⟩:=jw hn hpre hwl;have hsy:(a == sysModules)=false:=hlo a (by
  cases hrd with
  |cons h1 h2=>cases h1;simp)
 refine enter_call (codeAny_mono (call w s₀ s₁ mg mb fa o pm cd doc a vs ns G Y ho (fd_plain hd) hcd hmg hobj hints hlen hsy hg) λr s' hq=>?_);obtain⟨rfl,h2,h3,h4⟩:=hq;exact⟨.inl ⟨.bool true,.bool true,[],rfl,λ_=>rfl,.bool true,jx l _,λ_=>⟨List.Pairwise.nil,λ_ hm=>(nomatch hm)⟩⟩,h2,h3,h4⟩
end Att
namespace L2
open PySem PySem.Spec PyProof.Rows
variable{P:Program}{w:World}{K:Hg}{mg:Str->Option Value}{k:Nat}{fd:FuncData}{x:Str}{l:PySem.W.OpenLaw}{XP:(Str->Option Value)->Heap->Prop}{YP:World->Heap->Prop}{st:Stmt}{osl:Array (Option Value)}{X:Cx}{scope sc:Scope}{env:Env}{A:Around}{E:Value->Shared->Prop}{s:Shared}{Q:Env->Shared->Prop}{pins:List (Addr×Obj)}{σ:St}{vars:List Str}{sel:List Nat}{fp:List Addr}{R:Value->Addr->Result->Shared->Prop}{tn:Nat->Heap->Prop}
theorem fB:∀{vs:List Value} {ns:List Int},IntsAre vs ns->Vals (ns.map V.int) vs
 |_,_,.nil=>.nil
 |_,_,.cons n t h=>.cons ⟨t,rfl⟩ (fB h)
def my(H:Hp):Prop:=∀b,H b=none\/∃o xs,H b=some (.frz o (.lst xs))
theorem la{mb:Str->Option Value}{CX:i6}{fa a:Addr}{sp:Sp}{s₁:Shared}{vs:List Value}{ns:List Int}
  (KX:K.In s₁.heap) (hns:s₁.heap.Ns mainGlobals mg) (hb:s₁.heap.Ns builtinsNs mb) (hbb:∀x:Str,x≠ "__name__" ->mb x=bootBuiltins x) (hlim:s₁.heap.NoLimit) (hg:s₁.gens = #[])
  (ha:s₁.heap.get? a=some { cls:=.type "list",data:=.seq vs.toArray }) (hi:IntsAre vs ns) (hl:ns.length<=sizeLine) (hsy:(a==sysModules)=false) (hr:Room k callerA)
  (F:∀base:Heap,K.In base->base.Ns mainGlobals mg->FnOk P w K mg base CX k fa fd [x] sp) (hbind:∀(s:Shared) (u:Value),BindsTo s fd ⟨[u],[]⟩ [(x,u)])
  (hsp:∀H:Hp,my H->SqL K H a (ns.map V.int)->sp [.ref a] H (λv _=>v=.bl true) λ_ _ _=>False)
  (hCX:∀H e s',CX [] H s₁ (λ_ _ _=>False) e s'->False) :
  codeAny (model P w) callerA (.call (.ref fa) ⟨[.ref a],[]⟩) (λr s'=>r=.ok (.ret (.bool true))/\OldK s₁.heap s'.heap/\s'.os=s₁.os/\AllBare s'.gens) s₁:=by
 have rv:=fB hi;have lenV:=hi.length
 have core:∀H:Hp,my H->SqL K H a (ns.map V.int)->HOk P w H s₁.heap->(∀b,H b≠none->b=a)->(H a≠none->K.lookup a=none)->
   codeAny (model P w) callerA (.call (.ref fa) ⟨[.ref a],[]⟩) (λr s'=>r=.ok (.ret (.bool true))/\OldK s₁.heap s'.heap/\s'.os=s₁.os/\AllBare s'.gens) s₁:=by
  intro H hO hS hok hA hK;have base_of:∀{b:Addr} {o:Obj},s₁.heap.get? b=some o->H b=none->(fJ s₁.heap H).get? b=some o:=λe n=>ky e n;have noA:∀{b:Addr} {o:Obj} {es:Array DictEntry} {ep:Nat},s₁.heap.get? b=some o->o.data=.dict es ep->H b=none:=λ{b o es ep} e d=>by
   cases q:H b with
   |none=>rfl
   |some u=>
    have e':b=a:=hA b (by rw[q];simp);subst e';rw[ha] at e;cases e;have d':Data.seq vs.toArray _=Data.dict es ep:=d;cases d'
  have nsK:∀{b:Addr} {m:Str->Option Value},s₁.heap.Ns b m->(fJ s₁.heap H).Ns b m:=λ{b m} ⟨o,es,ep,e,d,r⟩=>⟨o,es,ep,base_of e (noA e d),d,r⟩;have hKb:K.In (fJ s₁.heap H):=λb o e=>base_of (KX b o e) (by
   cases q:H b with
   |none=>rfl
   |some u=>
    have e':b=a:=hA b (by rw[q];simp);subst e';rw[hK (by rw[q];simp)] at e;cases e)
  have hM:Mod K mg (fJ s₁.heap H):=⟨hKb,nsK hns,⟨mb,nsK hb,hbb⟩,let⟨mc,h1,h2⟩:=hlim;⟨mc,nsK h1,h2⟩⟩
  have e0:Env0 P w K mg (fJ s₁.heap H) callerA [] s₁ H:=⟨rfl,hM,λb o e=>ma e,Nat.le_of_eq (jk _ _),trivial,λb hb=>Hj (show b∈([]:List Addr) from hb) (by simp),hok,.of_eq hg,λxs q=>Hj (hA sysModules (by rw[q];simp)).symm (beq_eq_false_iff_ne.mp hsy)⟩
  refine codeAny_mono ((F _ hKb (nsK hns)).run callerA [] s₁ H ⟨[.ref a],[]⟩ [.ref a] [.ref a] _ _ hr e0 (hbind s₁ (.ref a)) (.cons rfl .nil) (hsp H hO hS)) λr s' h=>?_;cases r with
  |error e=>exact(hCX H e s' h).elim
  |ok fl=>
   cases fl with
   |next=>exact Hr h
   |brk=>exact Hr h
   |cont=>exact Hr h
   |ret u=>
    obtain⟨v,H',os,bare,un,hok',r',q⟩:=h;have q':v=.bl true:=q;subst q';obtain rfl:u=Value.bool true:=r';refine⟨rfl,OldK.of_keep λb o e=>?_,os,bare⟩;cases q:H b with
    |none=>exact un.keep b o e q (by intro z;exact Hj (show b∈([]:List Addr) from z) (by simp)) (by simp)
    |some u=>
     rcases hO b with z|⟨ob,xs,z⟩
     .rw[q] at z;cases z
     .have z2:=un.frzs b ob _ z
      obtain⟨e1,_⟩:=hok b _ z;obtain⟨e2,_⟩:=hok' b _ z2;rw[e] at e1;cases e1;exact e2
 cases hk:K.lookup a with
 |some o=>
  have e:=KX a o hk;rw[ha] at e;cases e;refine core (λ_=>none) (λ_=>.inl rfl) (.inr ⟨_,vs.toArray,_,hk,rfl,rfl,rfl,by rw[cM,lenV];exact hl,by simpa using rv⟩) (λb u z=>by have z':(none:Option HO)=some u:=z;cases z') (λb z=>Hj rfl z) λz=>Hj rfl z
 |none=>
  refine core (λb=>if b=a then some (.frz { cls:=.type "list",data:=.seq vs.toArray } (.lst (ns.map V.int))) else none) (λb=>?_) (.inl (.inr ⟨{ cls:=.type "list",data:=.seq vs.toArray },Hh rfl⟩)) (λb u z=>?_) (λb z=>?_) λ_=>hk
  .by_cases hb:b=a
   .exact .inr ⟨_,_,Hh hb⟩
   .exact .inl (if_neg hb)
  .by_cases hb:b=a
   .have z':=(Hh hb).symm.trans z
    cases z';subst hb;exact⟨ha,by rw[bR];exact hl,vs,_,rv,ha⟩
   .have z':=(if_neg hb).symm.trans z
    cases z'
  .by_cases hb:b=a
   .exact hb
   .exact Hj (if_neg hb) z
theorem walk_of{n:Nat}{q:Program}{loose:List Str}{d:DefRec}{K:Params->Hg}{CX:World->i6}{sp:World->Sp}
  (hn:l.most=some n) (hn2:n<=sizeLine) (hdf:d.params.defaults=[]) (hr:Room k callerA)
  (hY:∀(w:World) (h:Heap),YP w h->(K w.params).In h)
  (F:∀ (w:World) (mg:Str->Option Value) (fa:Addr) (h:Heap),(K w.params).In h->h.Ns mainGlobals mg->mg d.name=some (.ref fa)->
   ∃fd:FuncData,(∀(s:Shared) (u:Value),BindsTo s fd ⟨[u],[]⟩ [(x,u)])/\
    ∀base:Heap,(K w.params).In base->base.Ns mainGlobals mg->FnOk l.prog w (K w.params) mg base (CX w) k fa fd [x] (sp w))
  (hsp:∀(w:World) (H:Hp) (a:Addr) (ns:List Int),ns.length<=n->my H->SqL (K w.params) H a (ns.map V.int)->sp w [.ref a] H (λv _=>v=.bl true) λ_ _ _=>False)
  (hCX:∀(w:World) (H:Hp) (s:Shared) (e:Value) (s':Shared),CX w [] H s (λ_ _ _=>False) e s'->False) :
  PySem.W.WalkO q loose XP YP l.row.toRowW d [] (λf vs=>PySem.call f vs):=by
 refine Att.attach_call hn hdf λw s₀ s₁ mg mb fa o pm cd doc a vs ns G Y ho hd hcd hmg hobj hints hlen hsy hg=>?_;have KX:=hY w _ Y;obtain⟨fd,hb,hF⟩:=F w mg fa _ KX G.T.g hmg;exact la KX G.T.g G.T.b G.T.builtins G.T.nolimit hg hobj hints (gA hlen hn2) hsy hr hF hb (λH hO hS=>hsp w H a ns hlen hO hS) λH e s'=>hCX w H s₁ e s'
def aR(s:Stmt):Arguments:=match s with
 |.FunctionDef _ a _ _ _ _ _ _ _ _=>a
 |_=>{ posonlyargs:=[],args:=[],vararg:=none,kwonlyargs:=[],kw_defaults:=[],kwarg:=none,defaults:=[] }
def aI(s:Stmt):List Stmt:=match s with
 |.FunctionDef _ _ b _ _ _ _ _ _ _=>b
 |_=>[]
def aA(s:Stmt):Scope:=match s with
 |.FunctionDef _ _ _ _ _ _ sc _ _ _=>sc
 |_=>{ kind:=.function,names:=[],isGenerator:=false,isCoroutine:=false }
abbrev zt:i6:=λ_ _ _ _ _ _=>False
abbrev E0:XK:=λ_ _ _=>False
structure Fun(K:Hg)(x qual:Str)(st:Stmt)(f:Addr)(fd:FuncData):Prop where
 ex:∃(oc:Value) (od:Option Addr) (kV doc pm:Value) (an:Option Addr) (cdv ct:Value) (osl:Array (Option Value)),
  fd=PySem.W.fnOf x qual (aR st) (aI st) (aA st) .none kV doc pm an cdv ct/\K.lookup f=some ⟨oc,od,.func fd,osl⟩/\PySem.W.codeIn K cdv qual=true
 kp:PySem.W.keepIn K (.ref f)=true
section
variable{base:Heap}
theorem Fun.binds{qual:Str}{f:Addr}{ps:List Str}(F:Fun K x qual st f fd)
  (h:∀(kV doc pm:Value) (an:Option Addr) (cdv ct:Value) (us:List Value),us.length=ps.length->bindArgs (PySem.W.fnOf x qual (aR st) (aI st) (aA st) .none kV doc pm an cdv ct) ⟨us,[]⟩=pure (ps.zip us)):Binds K fd ps []:=by
 obtain⟨oc,od,kV,doc,pm,an,cdv,ct,osl,rfl,lk,hcd⟩:=F.ex;exact .all (h kV doc pm an cdv ct)
theorem fW{qual:Str}{f:Addr}{oc:Value}{od an:Option Addr}{kV doc pm cdv ct:Value}(l:K.lookup f=some ⟨oc,od,.func (PySem.W.fnOf x qual (aR st) (aI st) (aA st) .none kV doc pm an cdv ct),osl⟩)
  (c:PySem.W.codeIn K cdv qual=true) (k:PySem.W.keepIn K (.ref f)=true):Fun K x qual st f (PySem.W.fnOf x qual (aR st) (aI st) (aA st) .none kV doc pm an cdv ct):=⟨⟨oc,od,kV,doc,pm,an,cdv,ct,osl,rfl,l,c⟩,k⟩
end
def nJ:List (Str×NameKind)->Bool
 |[]=>true
 |(n,_)::r=>!(r.any λy=>y.1==n)&&nJ r
def nK(sc outer:Scope):Bool:=
 decide (sc.kind=.function)&&nJ sc.names&&sc.names.all λy=>!decide (y.2=.free)||(decide (outer.names.lookup y.1=some .cell)||decide (outer.names.lookup y.1=some .free))
theorem xj{α:Type}:∀{l:List (Str×α)} {n:Str},(l.any λy=>y.1==n)=false->l.lookup n=none
 |[],_,_=>rfl
 |(k,v)::r,n,h=>by
  simp only[rj,Bool.or_eq_false_iff] at h;have e:(n==k)=false:=by
   have:=h.1;simp only[beq_eq_false_iff_ne] at this ⊢;exact λz=>this z.symm
  rw[gB,e];exact xj h.2
theorem zu:∀{l:List (Str×NameKind)} {n:Str} {k:NameKind},nJ l=true->(n,k)∈l->l.lookup n=some k
 |(m,j)::r,n,k,nd,h=>by
  simp only[nJ,cf,nh] at nd;rcases Yam.mp h with e|h2
  .cases e;simp
  .have hm:n≠m:=by
    rintro rfl;have:(r.any λy=>y.1==n)=true:=List.any_eq_true.mpr ⟨_,h2,by simp⟩;rw[nd.1] at this;cases this
   rw[gB,beq_eq_false_iff_ne.mpr hm];exact zu nd.2 h2
def bZ(cells:List (Str×Addr)):List (Str×NameKind)->List (Str×Addr)->List (Str×Addr)
 |[],acc=>acc
 |(n,k)::r,acc=>if k==.free then bZ cells r ((n,(cells.lookup n).getD 0)::acc) else bZ cells r acc
theorem sZ{cells:List (Str×Addr)}{x:Str}:∀{names:List (Str×NameKind)} {acc:List (Str×Addr)},nJ names=true->
  ((names.lookup x=some .free->∃c,(bZ cells names acc).lookup x=some c/\(cells.lookup x).getD 0=c)/\(names.lookup x≠some .free->(bZ cells names acc).lookup x=acc.lookup x))
 |[],acc,_=>⟨λh=>by simp at h,λ_=>rfl⟩
 |(m,k)::r,acc,nd=>by
  simp only[nJ,cf,nh] at nd
  by_cases hm:x=m
  .subst hm
   have hr:r.lookup x=none:=xj nd.1;rw[show List.lookup x ((x,k)::r)=some k by simp];have ih:=@sZ cells x r
   by_cases hk:k=.free
   .subst hk
    refine⟨λ_=>⟨_,?_,rfl⟩,λh=>Hj rfl h⟩;show(bZ cells r ((x,_)::acc)).lookup x=_;rw[(ih nd.2).2 (by rw[hr];simp)];simp
   .refine⟨λh=>Hj (Hn h) hk,λ_=>?_⟩
    have:bZ cells ((x,k)::r) acc=bZ cells r acc:=by
     show(if k==.free then _ else _)=_;rw[if_neg (by simpa using hk)]
    rw[this,(ih nd.2).2 (by rw[hr];simp)]
  .have e:List.lookup x ((m,k)::r)=r.lookup x:=by rw[gB,beq_eq_false_iff_ne.mpr hm]
   rw[e]
   by_cases hk:k=.free
   .subst hk
    have ih:=@sZ cells x r ((m,(cells.lookup m).getD 0)::acc) nd.2;have e2:List.lookup x ((m,(cells.lookup m).getD 0)::acc)=acc.lookup x:=by rw[gB,beq_eq_false_iff_ne.mpr hm]
    rw[e2] at ih;exact ih
   .have:bZ cells ((m,k)::r) acc=bZ cells r acc:=by
     show(if k==.free then _ else _)=_;rw[if_neg (by simpa using hk)]
    rw[this];exact @sZ cells x r acc nd.2
theorem B9(h:∀y∈scope.names,y.2=.free->∃c,env.cells.lookup y.1=some c):closureFor scope env=pure (bZ env.cells scope.names []):=by
  have gen:∀ (names:List (Str×NameKind)) (acc:List (Str×Addr)),(∀ y∈names,y.2 = .free->∃ c,env.cells.lookup y.1=some c)->
      (forIn names acc (fun (x:Str×NameKind) (r:List (Str×Addr))=>(if (x.2 == NameKind.free)=true then (do
        let c <-cellOf env x.1
        pure (ForInStep.yield ((x.1,c)::r))) else pure (ForInStep.yield r):Sem (ForInStep (List (Str×Addr))))))=(pure (bZ env.cells names acc):Sem (List (Str×Addr))):=by
    intro names
    induction names with
    |nil=>intro acc _;rfl
    |cons y r ih=>
      intro acc hh;obtain⟨n,k⟩:=y;rw[List.forIn_cons]
      by_cases hk:k=.free
      · subst hk
        obtain⟨c,hc⟩:=hh (n,.free) dk rfl;have hc':env.cells.lookup n=some c:=hc;have e:cellOf env n=pure c:=by unfold cellOf;rw[hc']
        simp only[HH,if_true,e];have:=ih ((n,c)::acc) λy hy=>hh y (cK _ hy);have e3:bZ env.cells ((n,.free)::r) acc=bZ env.cells r ((n,c)::acc):=by
          show(if _ then _ else _)=_;rw[hc'];rfl
        rw[e3,<-this];rfl
      · have hb:(k==NameKind.free)=false:=by simpa using hk
        simp only[hb,cw,if_false];have:=ih acc λy hy=>hh y (cK _ hy);have e3:bZ env.cells ((n,k)::r) acc=bZ env.cells r acc:=by
          show(if _ then _ else _)=_;rw[if_neg (by simpa using hk)]
        rw[e3,<-this];rfl
  unfold closureFor;have:=gen scope.names [] h
  first
    |exact this
    | (show (forIn scope.names [] _ >>= λcs=>pure cs)=_
       refine Eq.trans (congrArg (· >>= λcs=>pure cs) this) rfl)
theorem nM{x:Str}:∀(names:List (Str×NameKind)) (n:Nat) (acc acc':List (Str×Addr)),nJ names=true->
  ((names.lookup x=some .cell->(cellsFrom n names acc).lookup x=(cellsFrom n names acc').lookup x)/\(names.lookup x≠some .cell->(cellsFrom n names acc).lookup x=acc.lookup x))
 |[],_,_,_,_=>⟨λh=>by simp at h,λ_=>rfl⟩
 |(m,k)::r,n,acc,acc',nd=>by
  simp only[nJ,cf,nh] at nd
  by_cases hm:x=m
  .subst hm
   have hr:r.lookup x=none:=xj nd.1;rw[show List.lookup x ((x,k)::r)=some k by simp]
   by_cases hk:k=.cell
   .subst hk
    refine⟨λ_=>?_,λh=>Hj rfl h⟩;have a:=(@nM x r (n+1) ((x,n)::acc) acc' nd.2).2 (by rw[hr];simp);have b:=(@nM x r (n+1) ((x,n)::acc') acc' nd.2).2 (by rw[hr];simp);show(cellsFrom (n+1) r ((x,n)::acc)).lookup x=(cellsFrom (n+1) r ((x,n)::acc')).lookup x;rw[a,b];simp
   .refine⟨λh=>Hj (Hn h) hk,λ_=>?_⟩
    have e:cellsFrom n ((x,k)::r) acc=cellsFrom n r acc:=by
     show(if k==.cell then _ else _)=_;rw[if_neg (by simpa using hk)]
    rw[e,(@nM x r n acc acc' nd.2).2 (by rw[hr];simp)]
  .have e:List.lookup x ((m,k)::r)=r.lookup x:=by rw[gB,beq_eq_false_iff_ne.mpr hm]
   rw[e]
   by_cases hk:k=.cell
   .subst hk
    have ih:=@nM x r (n+1) ((m,n)::acc) ((m,n)::acc') nd.2;have e2:List.lookup x ((m,n)::acc)=acc.lookup x:=by rw[gB,beq_eq_false_iff_ne.mpr hm]
    rw[e2] at ih;exact ih
   .have e3:∀a:List (Str×Addr),cellsFrom n ((m,k)::r) a=cellsFrom n r a:=λa=>by
     show(if k==.cell then _ else _)=_;rw[if_neg (by simpa using hk)]
    rw[e3,e3];exact @nM x r n acc acc' nd.2
theorem zv:(relabel sc env).names.lookup x=(sc.names.lookup x).map λk=>if(k==NameKind.free&&env.scope.kind==.function&&env.kindOf x==some .cell)=true then .cell else k:=by
 show List.lookup x (sc.names.map _)=_;generalize sc.names=l
 induction l with
 |nil=>rfl
 |cons y r ih=>
  obtain⟨m,k⟩:=y
  by_cases hx:x=m
  .subst hx
   simp only[cF]
   by_cases hc:(k==NameKind.free&&env.scope.kind==.function&&env.kindOf x==some .cell)=true
   .rw[Hh hc]
    simp only[gB,HH,wj];rw[Hh hc]
   .rw[if_neg hc]
    simp only[gB,HH,wj];rw[if_neg hc]
  .have hb:(x==m)=false:=beq_eq_false_iff_ne.mpr hx
   simp only[cF]
   by_cases hc:(k==NameKind.free&&env.scope.kind==.function&&env.kindOf m==some .cell)=true
   .rw[Hh hc];simp only[gB,hb];exact ih
   .rw[if_neg hc];simp only[gB,hb];exact ih
def gY(sc:Scope)(env:Env)(C:Addr):Env:=
 { scope:=relabel sc env,locals:=C,globals:=env.globals,cells:=cellsFrom (C+1) sc.names (bZ env.cells sc.names []),qual:=env.qual,func:=none,code:=env.code,frame:=env.frame,builtins:=env.builtins }
theorem Ca{M:Model}
  (h:Q { scope:=sc,locals:=s.heap.objs.size,globals:=env.globals,cells:=cellsFrom (s.heap.objs.size+1) sc.names (bZ env.cells sc.names []),qual:=env.qual,func:=none,code:=env.code,frame:=env.frame,builtins:=env.builtins }
   { s with heap:=pushCells (s.heap.push { cls:=.type "dict",data:=.dict #[] }) sc.names }) :
  wpAny M A (newFunctionEnv sc env.globals (bZ env.cells sc.names []) [] env.qual none .none (some env)) Q E s:=by
 simp only[newFunctionEnv,Option.isSome_some,if_true];refine Hf (wpAny_alloc ?_);refine Hf (wpAny_layCells _ (λname kind cells=>by cases hkc:kind==NameKind.cell<;>simp[hkc]) _ _ _ _ ?_);rw[show({ s with heap:=s.heap.push { cls:=.type "dict",data:=.dict #[] } }:Shared).heap.objs.size=s.heap.objs.size+1 from rg ..];exact Hf (Hi (Hi h))
def Cx.lc(X:Cx)(sc:Scope)(vars:List Str)(sel:List Nat)(s:Shared)(H:Hp)(fp:List Addr):Cx where
 prog:=X.prog
 w:=X.w
 K:=X.K
 mg:=X.mg
 base:=X.base
 A:=X.A
 N:=vars++sel.map λj=>X.N.getD j ""
 s₀:=s
 H₀:=H
 env:=gY sc X.env s.heap.objs.size
 outer:=X.stack
 stack:=X.stack
 ex:=fp
 fn:=λx=>decide (sc.names.lookup x=some .cell)
 calm:=X.calm
 pn:=[]
 xe:=λ_ _=>False
def u7(N:List Str)(sc:Scope)(sel:List Nat):Bool:=sel.all λj=>match N[j]? with
 |some x=>decide (sc.names.lookup x=some .free)
 |none=>false
def fc(nv:Nat)(sel:List Nat)(σ:St):St:=List.replicate nv none++sel.map λj=>(σ[j]?).getD none
section
variable{H:Hp}
theorem zw(I:Inv X pins σ H s)(ok:nK sc X.env.scope=true):∀y∈sc.names,y.2=.free->∃c,X.env.cells.lookup y.1=some c:=λy hy hk=>by
 simp only[nK,cf,Ybe,uO,nh,Hk,decide_eq_false_iff_not] at ok;rcases ok.2 y hy with z|z
 .exact Hj hk z
 .exact I.ok.has y.1 z
theorem Cb(I:Inv X pins σ H s)(ok:nK sc X.env.scope=true)(so:u7 X.N sc sel=true)(hf:∀b∈fp,eK X pins H b)(ho:∀b∈fp,∃o,s.heap.get? b=some o)(ha:X.env.scope.kind=.function:=by rfl) :
  Inv (X.lc sc vars sel s H fp) [] (fc vars.length sel σ) H { s with heap:=pushCells (s.heap.push { cls:=.type "dict",data:=.dict #[] }) sc.names }:=by
 have hcl:=zw I ok;have ok':=ok;simp only[nK,cf,Ybe,uO,nh,Hk,decide_eq_false_iff_not] at ok';obtain⟨⟨hk,nd⟩,hfree⟩:=ok';have szp:(s.heap.push { cls:=.type "dict",data:=.dict #[] }).objs.size=s.heap.objs.size+1:=rg ..;have keep:∀b o,s.heap.get? b=some o->(pushCells (s.heap.push { cls:=.type "dict",data:=.dict #[] }) sc.names).get? b=some o:=λb o e=>pushCells_keeps _ _ _ _ (cv _ e);have okc:=cellsFrom_ok sc.names (s.heap.push { cls:=.type "dict",data:=.dict #[] }) (s.heap.objs.size+1) [] ⟨λ_ _ hm=>(nomatch hm),List.Pairwise.nil⟩ (by rw[szp];exact bP _);rw[szp] at okc
 have own:∀x,sc.names.lookup x=some .cell->∃c,(gY sc X.env s.heap.objs.size).cells.lookup x=some c/\(x,c)∈cellsFrom (s.heap.objs.size+1) sc.names []:=λx hx=>by
  have e:=(nM sc.names (s.heap.objs.size+1) (bZ X.env.cells sc.names []) [] nd).1 hx;obtain⟨c,hc⟩:=cN (sc:=sc) (n:=s.heap.objs.size+1) hx;exact⟨c,by show(cellsFrom _ _ _).lookup x=_;rw[e];exact hc,Ho hc⟩
 have clo:∀x,sc.names.lookup x=some .free->∃c,(gY sc X.env s.heap.objs.size).cells.lookup x=some c/\X.env.cells.lookup x=some c:=λx hx=>by
  have e:=(nM sc.names (s.heap.objs.size+1) (bZ X.env.cells sc.names []) [] nd).2 (by rw[hx];decide);obtain⟨c,h1,h2⟩:=(@sZ X.env.cells x sc.names [] nd).1 hx;obtain⟨c',h3⟩:=hcl (x,.free) (Ho hx) rfl;have h3':X.env.cells.lookup x=some c':=h3;rw[h3'] at h2;have h4:c'=c:=h2;subst h4;exact⟨c',by show(cellsFrom _ _ _).lookup x=_;rw[e];exact h1,h3'⟩
 have oth:∀x c,(gY sc X.env s.heap.objs.size).cells.lookup x=some c->sc.names.lookup x=some .cell\/sc.names.lookup x=some .free:=λx c hc=>by
  by_cases h1:sc.names.lookup x=some .cell
  .exact .inl h1
  .by_cases h2:sc.names.lookup x=some .free
   .exact .inr h2
   .have e:=(nM sc.names (s.heap.objs.size+1) (bZ X.env.cells sc.names []) [] nd).2 h1
    have e2:=(@sZ X.env.cells x sc.names [] nd).2 h2;have hc':(cellsFrom (s.heap.objs.size+1) sc.names (bZ X.env.cells sc.names [])).lookup x=some c:=hc;rw[e,e2] at hc';simp at hc'
 have ownC:∀x c,(x,c)∈cellsFrom (s.heap.objs.size+1) sc.names []->(pushCells (s.heap.push { cls:=.type "dict",data:=.dict #[] }) sc.names).IsCell c none/\s.heap.objs.size+1<=c:=λx c h=>okc.empty x c h;have cloLt:∀x c,X.env.cells.lookup x=some c->c<s.heap.objs.size:=λx c h=>by
  obtain⟨v,q⟩:=I.cell x c h;exact q.lt
 have noA:∀b∈fp,b<s.heap.objs.size:=λb hb=>by obtain⟨o,e⟩:=ho b hb;exact cc e
 refine ⟨⟨I.ok.mod,hk,I.ok.glob,I.ok.blt,bP _,λx y c h1 h2=>?_,λx hx=>?_,λx c hx h=>?_,I.ok.hd,I.ok.frames,.inl rfl,λb hb=>⟨er (noA b hb),λx c h=>?_⟩,I.bs,gA I.ok.bsz I.sz,λb o e hb=>?_,λb hb hq=>?_,I.stack,I.stkFree,I.sysn⟩,
  rfl,I.bare,Un.kept keep,⟨λ_=>none,?_,λi x v h1 h2 h3=>?_⟩,λx c h=>?_,I.hok.fresh (bP _),λx c h=>?_,λp hp=>Hj (show p∈([]:List (Addr×Obj)) from hp) (by simp),I.hok.kept keep,?_⟩
 ·-- inj
  replace h1:(gY sc X.env s.heap.objs.size).cells.lookup x=some c:=h1;replace h2:(gY sc X.env s.heap.objs.size).cells.lookup y=some c:=h2;rcases oth x c h1 with k1|k1<;>rcases oth y c h2 with k2|k2
  .obtain⟨c1,e1,m1⟩:=own x k1
   obtain⟨c2,e2,m2⟩:=own y k2;rw[h1] at e1;rw[h2] at e2;cases e1;cases e2;exact name_of_addr okc.apart m1 m2
  .obtain⟨c1,e1,m1⟩:=own x k1
   obtain⟨c2,e2,m2⟩:=clo y k2;rw[h1] at e1;rw[h2] at e2;cases e1;cases e2;exact Hj (cX (cloLt y c m2) (wk (ownC x c m1).2)) (g9 _)
  .obtain⟨c1,e1,m1⟩:=clo x k1
   obtain⟨c2,e2,m2⟩:=own y k2;rw[h1] at e1;rw[h2] at e2;cases e1;cases e2;exact Hj (cX (cloLt x c m1) (wk (ownC y c m2).2)) (g9 _)
  .obtain⟨c1,e1,m1⟩:=clo x k1
   obtain⟨c2,e2,m2⟩:=clo y k2;rw[h1] at e1;rw[h2] at e2;cases e1;cases e2;exact I.ok.inj x y c m1 m2
 ·-- has
  have hx':(relabel sc X.env).names.lookup x=some .cell\/(relabel sc X.env).names.lookup x=some .free:=hx;rw[zv] at hx';cases q:sc.names.lookup x with
  |none=>rw[q] at hx';simp at hx'
  |some k=>
   cases k with
   |cell=>obtain⟨c,e,_⟩:=own x q;exact⟨c,e⟩
   |free=>obtain⟨c,e,_⟩:=clo x q;exact⟨c,e⟩
   | «local»=>rw[q] at hx';simp at hx'
   |globalExplicit=>rw[q] at hx';simp at hx'
   |globalImplicit=>rw[q] at hx';simp at hx'
 .have hx':sc.names.lookup x=some .cell:=HJ hx
  obtain⟨c1,e1,m1⟩:=own x hx';have h':(gY sc X.env s.heap.objs.size).cells.lookup x=some c:=h;rw[h'] at e1;cases e1;have:=(ownC x c m1).2;show s.heap.objs.size<=c;omega
 .rcases oth x c h with k|k
  .obtain⟨c1,e1,m1⟩:=own x k
   rw[show(gY sc X.env s.heap.objs.size).cells.lookup x=some c from h] at e1;cases e1;exact λz=>Hj (cX (noA b hb) (wk (ownC x c m1).2)) (by rw[z];exact g9 _)
  .obtain⟨c1,e1,m1⟩:=clo x k
   rw[show(gY sc X.env s.heap.objs.size).cells.lookup x=some c from h] at e1;cases e1;exact(hf b hb).2.2.2.2.1 x c m1
 .have q:=(hf b hb).2.2.2.1
  rcases q with q|q
  .exact I.ok.noex b o e q
  .exact Hj (cX (cc (I.ok.bs b o e).1) q) (g9 _)
 .rcases Yam.mp (I.stkSub b hq) with z|z
  .exact(hf b hb).2.1 z
  .exact(hf b hb).2.2.1 z
 ·-- the names' dict
  refine Heap.Ns.keeps (h:=s.heap.push { cls:=.type "dict",data:=.dict #[] }) ?_ (λb o e=>pushCells_keeps _ _ _ _ e);exact⟨_,#[],_,eV _ rfl,rfl,λe he=>Hj he (by simp),λ_=>rfl⟩
 ·-- what is seen
  have hi:vars.length<=i:=by
   rcases jW i vars.length with z|z
   .exfalso
    unfold fc at h2;rw[lG (by simpa using z),ku] at h2;split at h2<;>cases h2
   .exact z
  unfold fc at h2;rw[kt (by simpa using hi),lY,eF] at h2;have h1':(vars++sel.map λj=>X.N.getD j "")[i]? = some x:=h1;rw[kt hi,eF] at h1';cases q:sel[i-vars.length]? with
  |none=>rw[q] at h2;cases h2
  |some j=>
   rw[q] at h1' h2;have e1:X.N.getD j "" = x:=Hn h1';have e2:(σ[j]?).getD none=some v:=Hn h2;have hj:∃y,X.N[j]? = some y/\sc.names.lookup y=some .free:=by
    have:=Ybe.mp so j (rh q);cases z:X.N[j]? with
    |none=>rw[z] at this;cases this
    |some y=>rw[z] at this;exact⟨y,rfl,HJ this⟩
   obtain⟨y,hy,hyf⟩:=hj;have:y=x:=by
    rw[<-e1,sk,hy];rfl
   subst this;have e3:σ[j]? = some (some v):=by
    cases z:σ[j]? with
    |none=>rw[z] at e2;cases e2
    |some w=>rw[z] at e2;exact congrArg some e2
   obtain⟨c,k1,k2⟩:=clo y hyf;have vis:oF X.env.scope y:=by
    rcases hfree (y,.free) (Ho hyf) with z|z|z
    .exact Hj rfl z
    .exact .inr (.inl z)
    .exact .inr (.inr z)
   obtain⟨m,hn,hl⟩:=I.loc;obtain⟨u,r,l⟩:=hl j y v hy e3 vis;refine⟨u,r,?_⟩;have notloc:X.env.kindOf y≠some .local:=by
    rcases hfree (y,.free) (Ho hyf) with z|z|z
    .exact Hj rfl z
    .show X.env.scope.names.lookup y≠_;rw[z];decide
    .show X.env.scope.names.lookup y≠_;rw[z];decide
   rcases l with⟨z,_⟩|⟨_,c',e',q'⟩
   .exact Hj z notloc
   .rw[k2] at e';cases e'
    have kk:(gY sc X.env s.heap.objs.size).kindOf y=some .cell\/(gY sc X.env s.heap.objs.size).kindOf y=some .free:=by
     show(relabel sc X.env).names.lookup y=_\/(relabel sc X.env).names.lookup y=_;rw[zv,hyf];simp only[wj];split
     .exact .inl rfl
     .exact .inr rfl
    exact .inr ⟨kk,c,k1,q'.keeps keep⟩
 .rcases oth x c h with k|k
  .obtain⟨c1,e1,m1⟩:=own x k
   rw[show(gY sc X.env s.heap.objs.size).cells.lookup x=some c from h] at e1;cases e1;exact⟨none,(ownC x c m1).1⟩
  .obtain⟨c1,e1,m1⟩:=clo x k
   rw[show(gY sc X.env s.heap.objs.size).cells.lookup x=some c from h] at e1;cases e1;obtain⟨v,q⟩:=I.cell x c m1;exact⟨v,q.keeps keep⟩
 .rcases oth x c h with k|k
  .obtain⟨c1,e1,m1⟩:=own x k
   rw[show(gY sc X.env s.heap.objs.size).cells.lookup x=some c from h] at e1;cases e1;exact I.hok.fresh (by have:=(ownC x c m1).2;omega)
  .obtain⟨c1,e1,m1⟩:=clo x k
   rw[show(gY sc X.env s.heap.objs.size).cells.lookup x=some c from h] at e1;cases e1;exact I.freeC x c m1
 .show(fc vars.length sel σ).length=(vars++sel.map _).length
  unfold fc;simp
end
def PF(X:Cx)(ifs:List Expr)(t:TT):Prop:=
 ∀(pins:List (Addr×Obj)) (s:Shared) (σ:St) (H:Hp) (Q:Bool->Hp->Prop),Inv X pins σ H s->t σ H Q->
  wpAny (model X.prog X.w) X.A (forIn ifs true λc r=>if r=true then do let ok <-isTrue c X.env (eval c X.env);pure (ForInStep.yield ok) else pure (ForInStep.yield r)) (TP X pins σ Q) X.xe s
def td:TT:=λ_ H Q=>Q true H
theorem Cc:PF X [] td:=λ_ _ _ H _ I h=>wpAny_tests_nil ⟨H,I,h⟩
def tj(g:TG)(tf:TT)(te:TE)(J:It)(D:Addr)(Q:Hp->Prop)(W:Nat->Nat->List V->St->Hp->Prop):Prop:=
 ∀ i m ys σ2 H2,W i m ys σ2 H2->H2 D=some (.lst ys)/\((J.stop i H2/\Q H2)\/(J.go i H2/\∀ x H3,J.yld i H2 x H3->g x σ2 H3 λσ4 H4=>tf σ4 H4 λb H5=>
  if b=true then te σ4 H5 λv H6=>H6 D=some (.lst ys)/\ys.length<sizeLine/\∃m',m'<m/\W (i+1) m' (ys++[v]) σ4 (upd H6 D (.lst (ys++[v]))) else∃m',m'<m/\W (i+1) m' ys σ4 H5))
def zx(wi:TI)(nv:Nat)(sel:List Nat)(g:TG)(tf:TT)(te:TE):TE:=λσ H Q=>wi σ H λJ H1=>∀D,H1 D=none->
 ∃W:Nat->Nat->List V->St->Hp->Prop,(∃m,W 0 m [] (fc nv sel σ) (upd H1 D (.lst [])))/\tj g tf te J D (Q (.ref D)) W
section
variable{H1:Hp}{s2:Shared}{elt target iter:Expr}{ifs:List Expr}{pos:Pos}{g:TG}{tf:TT}{te:TE}
theorem Cd{prog:Program}{R:Result->Shared->Prop}{it acc:Value}(I:Nat->Shared->Prop)
  (turn:∀ n s,I n s->wpAny (model prog w) A (pyNext it) (λr s₁=>match r with
   |none=>R (.ok .next) s₁
   | some v=>wpAny (model prog w) A (letOwnedTupleGo target it v) (λ_ s₁'=>wpAny (model prog w) A (assign target env v) (λ_ s₂=>
     wpAny (model prog w) A (forIn ifs true λc r=>if r=true then do let ok <- isTrue c env (eval c env);pure (ForInStep.yield ok) else pure (ForInStep.yield r)) (λok s₃=>
      if ok=true then wpAny (model prog w) A (eval elt env) (λx s₄=>
       wpAny (model prog w) A (call (.builtin "list.append") [acc,x]) (λ_ s₅=>∃m,m<n/\I m s₅) (λ_ _=>False) s₄) (λ_ _=>False) s₃
      else∃m,m<n/\I m s₃) (λ_ _=>False) s₂) (λ_ _=>False) s₁') (λ_ _=>False) s₁) (λ_ _=>False) s)
  (n:Nat) (h:I n s) :
  codeAny (model prog w) A (.compLoop (.ListComp elt [⟨target,iter,ifs,0⟩] scope pos) 0 it acc env) R s:=by
 refine codeAny_loop rfl I (λn s hI=>?_) n h;show wpAny _ A ((compTurn (.ListComp elt [⟨target,iter,ifs,0⟩] scope pos) 0 it acc env).onRaise (λx=>do noteFrame x env;theTreesLotGoes x)) _ _ s;refine wpAny_noted ?_;rw[compTurn_list];refine Hf (wpAny_standAt (Hf (HB (turn n s hI) (λr s₁ h₁=>?_) λ_ _ h'=>h'.elim)));cases r with
 |none=>exact Hi h₁
 |some v=>
  refine Hf (HB h₁ (λ_ s₁' h₁'=>?_) λ_ _ h'=>h'.elim);refine Hf (HB h₁' (λ_ s₂ h₂=>Hf (HB h₂ (λok s₃ h₃=>?_) λ_ _ h'=>h'.elim)) λ_ _ h'=>h'.elim);cases ok with
  |false=>exact Hi ⟨rfl,h₃⟩
  |true=>
   exact Hf (Hf (HB h₃ (λx s₄ h₄=>Hf (HB h₄ (λ_ s₅ h₅=>Hi (Hi ⟨rfl,h₅⟩)) λ_ _ h'=>h'.elim)) λ_ _ h'=>h'.elim))
theorem Ce{J:It}{it:Addr}{Q:VK}(hc:X.calm=true)
  (hg:∀s H fp,PG (X.lc sc vars sel s H fp) target g) (hf:∀s H fp,PF (X.lc sc vars sel s H fp) ifs tf) (he:∀s H fp,PE (X.lc sc vars sel s H fp) elt te)
  (ok:nK sc X.env.scope=true) (so:u7 X.N sc sel=true)
  (I2:Inv X pins σ H1 s2) (T:jl X.prog X.w X.K target J fp it tn) (st2:tn 0 s2.heap) (f2:∀b∈fp,eK X pins H1 b)
  (q:∀D,H1 D=none->∃W:Nat->Nat->List V->St->Hp->Prop,(∃m,W 0 m [] (fc vars.length sel σ) (upd H1 D (.lst [])))/\tj g tf te J D (Q (.ref D)) W)
  (hR:∀D C H' s',Inv X pins σ H' s'->Q (.ref D) H'->(∃m,s'.heap.Ns C m)->eK X pins H' C->R (.ref D) C (.ok .next) s') :
  wpAny (model X.prog X.w) X.A (newList []) (λacc s₃=>wpAny (model X.prog X.w) X.A (newFunctionEnv sc X.env.globals (bZ X.env.cells sc.names []) [] X.env.qual none .none (some X.env)) (λcenv s₄=>
   codeAny (model X.prog X.w) X.A (.compStart (.ListComp elt [⟨target,iter,ifs,0⟩] sc pos) 0 (.ref it) acc { cenv with scope:=relabel sc X.env }) (R acc cenv.locals) s₄) E s₃) E s2:=by
 refine Hq ?_;have hD0:H1 s2.heap.objs.size=none:=I2.hok.fresh (bP _);obtain⟨W,⟨m0,w0⟩,turn⟩:=q _ hD0;have I3:Inv X pins σ (upd H1 s2.heap.objs.size (.lst [])) { s2 with heap:=s2.heap.push { cls:=.type "list",data:=.seq ([]:List Value).toArray },toks:=s2.toks }:=I2.lnew (ys:=[]) .nil (gW _);have ho2:∀b∈fp,∃o,s2.heap.get? b=some o/\∀v,o.data≠.cell v:=T.obj _ _ st2;have lt2:∀b∈fp,b<s2.heap.objs.size:=λb hb=>by obtain⟨o,e,_⟩:=ho2 b hb;exact cc e
 have f3:∀b∈fp,eK X pins (upd H1 s2.heap.objs.size (.lst [])) b:=λb hb=>⟨by rw[aE (er (lt2 b hb))];exact(f2 b hb).1,(f2 b hb).2⟩;have ho3:∀b∈fp,∃o,(s2.heap.push { cls:=.type "list",data:=.seq ([]:List Value).toArray }).get? b=some o:=λb hb=>by obtain⟨o,e,_⟩:=ho2 b hb;exact⟨o,cv _ e⟩
 refine Ca (s:={ s2 with heap:=s2.heap.push { cls:=.type "list",data:=.seq ([]:List Value).toArray },toks:=s2.toks }) ?_;generalize hs3:({ s2 with heap:=s2.heap.push { cls:=.type "list",data:=.seq ([]:List Value).toArray },toks:=s2.toks }:Shared)=s3 at I3 ⊢;have kp23:∀b o,s2.heap.get? b=some o->s3.heap.get? b=some o:=λb o e=>by rw[<-hs3];exact cv _ e
 have sz3:s3.heap.objs.size=s2.heap.objs.size+1:=by rw[<-hs3];exact rg ..
 have os3:s3.os=s2.os:=by rw[<-hs3]
 have ho3':∀b∈fp,∃o,s3.heap.get? b=some o:=λb hb=>by rw[<-hs3];exact ho3 b hb
 have I4:=Cb (vars:=vars) I3 ok so f3 ho3' I2.ok.kind;have kp4:∀b o,s3.heap.get? b=some o->(pushCells (s3.heap.push { cls:=.type "dict",data:=.dict #[] }) sc.names).get? b=some o:=λb o e=>pushCells_keeps _ _ _ _ (cv _ e);have st4:tn 0 (pushCells (s3.heap.push { cls:=.type "dict",data:=.dict #[] }) sc.names):=T.keep _ _ _ st2 λb hb o e=>kp4 b o (kp23 b o e)
 have stat:∀{H':Hp},(∀b∈fp,H' b=none)->∀b∈fp,eK (X.lc sc vars sel s3 (upd H1 s2.heap.objs.size (.lst [])) fp) [] H' b:=λ{H'} hn b hb=>by
  refine⟨hn b hb,(I4.ok.exf b hb).1,I4.ok.exfs b hb,.inl hb,λx c e z=>(I4.ok.exf b hb).2 x c e z,λp hp=>Hj (show p∈([]:List (Addr×Obj)) from hp) (by simp)⟩
 have loop:codeAny (model X.prog X.w) X.A (.compLoop (.ListComp elt [⟨target,iter,ifs,0⟩] sc pos) 0 (.ref it) (.ref s2.heap.objs.size) (gY sc X.env s3.heap.objs.size))
   (R (.ref s2.heap.objs.size) s3.heap.objs.size) { s3 with heap:=pushCells (s3.heap.push { cls:=.type "dict",data:=.dict #[] }) sc.names }:=by
  refine Cd (λn s'=>∃i ys σ' H',Inv (X.lc sc vars sel s3 (upd H1 s2.heap.objs.size (.lst [])) fp) [] σ' H' s'/\tn i s'.heap/\(∀b∈fp,H' b=none)/\W i n ys σ' H') ?_ m0
   ⟨0,[],_,_,I4,st4,λb hb=>(f3 b hb).1,w0⟩
  rintro n s5 ⟨i,ys,σ5,H5,I5,st5,fr5,w5⟩;obtain⟨hD,⟨stop,qn⟩|⟨go,step⟩⟩:=turn i n ys σ5 H5 w5
  .refine aV (T.done (X.lc sc vars sel s3 (upd H1 s2.heap.objs.size (.lst [])) fp) rfl rfl rfl hc i [] s5 σ5 H5 _ I5 (stat fr5) st5 stop) λr s6 ⟨hr,I6⟩=>?_
   subst hr;have un:Un (ce X.stack) fp H1 H5 s2.heap s6.heap:=by
    have a:Un (ce X.stack) fp H1 (upd H1 s2.heap.objs.size (.lst [])) s2.heap s3.heap:=Un.laid kp23 (bP _) hD0;exact a.trans I6.base
   have I7:Inv X pins σ H5 s6:=I2.call' (ch:=fp) (I6.os.trans os3) un I6.hok I6.bare λb hb=>⟨(f2 b hb).2.2.2.1,(f2 b hb).2.1,(f2 b hb).2.2.2.2.1,(f2 b hb).2.2.2.2.2⟩;refine hR _ _ H5 s6 I7 qn ?_ ?_
   .obtain⟨m,hn,_⟩:=I6.loc
    exact⟨m,hn⟩
   .exact I3.fpOk (bP _) I6.free
  .refine aV (T.item (X.lc sc vars sel s3 (upd H1 s2.heap.objs.size (.lst [])) fp) rfl rfl rfl hc i [] s5 σ5 H5 _ I5 (stat fr5) st5 go) λr s6 ⟨u,hr,h6⟩=>?_
   subst hr;refine aV h6 λ_ s7 ⟨x,H7,I7,r7,y7,st7,fr7⟩=>?_;have I7':=I7.pinned (stat fr7) (T.obj _ _ st7);refine aV (hg _ _ _ _ s7 σ5 H7 x u _ I7' r7 (step x H7 y7)) λ_ s8 ⟨σ8,H8,I8,q8⟩=>?_;refine aV (hf _ _ _ _ s8 σ8 H8 _ I8 q8) λb s9 ⟨H9,I9,q9⟩=>?_;have back:∀{σ':St} {H':Hp} {s':Shared},Inv (X.lc sc vars sel s3 (upd H1 s2.heap.objs.size (.lst [])) fp) ([]++eL fp s7.heap) σ' H' s'->tn (i+1) s'.heap/\∀b∈fp,H' b=none:=λ{σ' H' s'} I'=>by
    refine⟨T.keep _ _ _ st7 λb hb o e=>(I'.pin (b,o) (iO _ (iO _ (cy hb e)))).1,λb hb=>?_⟩;obtain⟨o,e,d⟩:=T.obj _ _ st7 b hb;exact(I'.pin (b,o) (iO _ (iO _ (cy hb e)))).2.1
   cases b with
   |false=>
    rw[if_neg (by decide)] at q9 ⊢;obtain⟨m',hm,w9⟩:=q9;exact⟨m',hm,i+1,ys,σ8,H9,I9.unpinned,(back I9).1,(back I9).2,w9⟩
   |true=>
    rw[Hh rfl] at q9 ⊢;refine aV (he _ _ _ _ s9 σ8 H9 _ I9 q9) λv sA ⟨y,HA,IA,rA,hDA,hz,m',hm,wA⟩=>?_;obtain⟨z,its,nn,rr,hl,e⟩:=IA.lstM hDA;refine call_meets F.slot_list_append ⟨_,e,rfl⟩ F.entry_list_append (F.args_list_append_2 _ _) (PySem.list_append _ its.toArray nn v (by rw[cM];omega)) ⟨e,?_⟩;have IB:=IA.lset (its':=its++[v]) (f:=(·.push v)) (t':=sA.toks) hDA e (by simp) (rr.append (.cons rA .nil)) (by rw[gu,oy];omega);exact⟨m',hm,i+1,ys++[y],σ8,_,IB.unpinned,(back IB).1,(back IB).2,wA⟩
 exact codeAny_compStart_list loop (T.self _ 0 _ _ _ st4 loop)
theorem tm{wi:TI}(vars:List Str)(sel:List Nat)(hc:X.calm=true)(hi:PI X target iter wi)
  (ok:nK sc X.env.scope=true) (so:u7 X.N sc sel=true)
  (hg:∀s H fp,PG (X.lc sc vars sel s H fp) target g) (hf:∀s H fp,PF (X.lc sc vars sel s H fp) ifs tf) (he:∀s H fp,PE (X.lc sc vars sel s H fp) elt te)
  (hs:∀x,foldedSetIterable iter X.env x=pure x:=by intro _;rfl):PE X (.ListComp elt [⟨target,iter,ifs,0⟩] sc pos) (zx wi vars.length sel g tf te):=by
 intro pins s σ H Q I h;rw[eval_ListComp];have ok':=ok;simp only[nK,cf,Hk] at ok';refine wpAny_comprehension_free (use:=none) rfl hs (B9 (zw I ok)) ok'.1.1 (λx hx hl=>?_) ?_
 .obtain⟨n,k⟩:=x
  have hl':k=.local:=hl;subst hl';exact zu ok'.1.2 hx
 .refine aV (hi pins s σ H _ I h) λv s1 h1=>aV h1 λitv s2 h2=>?_
  obtain⟨it,fp,tn,J,H2,e,I2,T,st2,f2,q⟩:=h2;subst e;refine Ce (Q:=Q) hc hg hf he ok so I2 T st2 f2 q λD C H' s' I' q' hn fC=>?_;obtain⟨m,hn⟩:=hn;refine⟨m,hn,λh' hs'=>?_⟩;obtain⟨f0,f1,f2,f3,f4,f5⟩:=fC;exact⟨.ref D,H',I'.turned (t':=s'.toks) (λb o hb e=>(hs'.2 b hb).trans e) f0 f1 f3 f4 f5,rfl,q'⟩
end
end L2
namespace HT
open PySem PySem.Spec PyProof.Rows
section
variable{prog:Program}{w:World}{A:Around}{E:Value->Shared->Prop}{s:Shared}
theorem getItem_tuple_whole{t sl:Addr}{items:Array Value}{vl vu:Value}{lo hi:Option Int}{Q:Value->Shared->Prop}(ht:IsTup s.heap t items)(hs:s.heap.IsSliceOf sl vl vu .none)(pl:IsPart vl lo)(pu:IsPart vu hi)
  (hw:sIx items.size 0 lo=0/\sIx items.size items.size hi=items.size) (h:Q (.ref t) s):wpAny (model prog w) A (getItem (.ref t) (.ref sl)) Q E s:=by
 obtain⟨os,hos,hcs,hds⟩:=id hs;have hTs:s.TypeIs (.ref sl) "slice" :=⟨os,hos,hcs⟩
 unfold getItem
 try with_reducible refine Hz ?_
 first|refine Hf (Hi ?_)|skip
 refine Hf (wpAny_sequenceKey ht.typeIs (by decide) ?_);refine Hf (wpAny_callSpecial?_slot (name:=Str.ofString "__getitem__") ht.typeIs PyProof.Rows.slot_tuple_getitem
  (HG PyProof.Rows.slot_tuple_getitem ht.typeIs entry_tuple_getitem ?_ (args_tuple_getitem _ _)))
 show wpAny _ _ (Builtin.Tuple.tupleItemsOf (.ref t) >>= _) _ _ s;refine Hf (tupleItemsOf_ ht ?_);refine Hf (HN hTs ?_);rw[Hh (by decide)];refine Hf (cn hs pl pu ?_);have hyes:(((sIx items.size 0 lo:Nat):Int)==0&&(1:Int)==1&&(sIx items.size items.size hi-sIx items.size 0 lo)==items.size)=true:=by
  rw[hw.1,hw.2];simp
 show wpAny _ _ (if(((sIx items.size 0 lo:Nat):Int)==0&&(1:Int)==1&&(sIx items.size items.size hi-sIx items.size 0 lo)==items.size)=true then _ else _) _ _ s;rw[Hh hyes];have ex:Builtin.Tuple.tupleIsExact (.ref t)=(do return(<-typeOf (.ref t))==.type "tuple"):=rfl;rw[ex];refine Hf (Hf (HN ht.typeIs (Hi ?_)));rw[Hh (by decide)]
 first
  |exact Hf (HR (Hf (Hi (Hi ⟨_,rfl,Hi h⟩))))
  |exact Hf (HR (Hi ⟨_,rfl,Hi h⟩))
  |exact Hf (HR (Hf (Hi ⟨_,rfl,Hi h⟩)))
theorem Cf{sl:Addr}{tk:Tok}{n:Nat}{Q:Int×Int×Nat->Shared->Prop}(hs:s.heap.IsSliceOf sl .none .none (.int (-1) tk))
  (h:Q ((n:Int)-1,-1,n) s):wpAny (model prog w) A (Builtin.Slice.sliceApplied (.ref sl) (pure (n:Int))) Q E s:=by
 obtain⟨os,hos,hcs,hds⟩:=id hs;unfold Builtin.Slice.sliceApplied Builtin.Slice.sliceFields;refine Hf (Hf (Hu hos hds (x:=.none) rfl (Hf (Hu hos hds (x:=.none) rfl (Hf (Hu hos hds (x:=.int (-1) tk) rfl (Hi ?_)))))));refine Hf (slicePart_int ?_);show wpAny _ _ (if((-1:Int)==0)=true then _ else _) _ _ s;rw[if_neg (by decide)];refine Hf (slicePart_none (Hf (slicePart_none (Hf (Hi ?_)))));show wpAny _ _ (match Builtin.Slice.sliceAdjust none none (-1) (n:Int) with|(lo,hi)=>pure (lo,(-1:Int),Builtin.Slice.slicePlaces lo hi (-1))) _ _ s;have e:Builtin.Slice.sliceAdjust none none (-1) (n:Int)=((n:Int)-1,-1):=by
  unfold Builtin.Slice.sliceAdjust;simp
 rw[e];have e2:Builtin.Slice.slicePlaces ((n:Int)-1) (-1) (-1)=n:=by
  unfold Builtin.Slice.slicePlaces;simp
  try omega
 show wpAny _ _ (pure ((n:Int)-1,(-1:Int),Builtin.Slice.slicePlaces ((n:Int)-1) (-1) (-1))) _ _ s;rw[e2];exact Hi h
theorem pick_rev(xs:Array Value):((List.range xs.size).filterMap λ(m:Nat)=>xs[((xs.size:Int)-1+(m:Int)*(-1)).toNat]?)=xs.toList.reverse:=by
 refine List.ext_getElem? λi=>?_;have gen:∀(l:List Nat),(∀m∈l,m<xs.size)->(l.filterMap λ(m:Nat)=>xs[((xs.size:Int)-1+(m:Int)*(-1)).toNat]?)=l.map λm=>xs.toList.getD (xs.size-1-m) .none:=by
  intro l
  induction l with
  |nil=>intro _;rfl
  |cons m r ih=>
   intro hm;have h1:m<xs.size:=hm m dk;have h2:((xs.size:Int)-1+(m:Int)*(-1)).toNat=xs.size-1-m:=by omega
   have h3:xs.size-1-m<xs.size:=by omega
   rw[uL,h2,wm h3,cF,ih λk hk=>hm k (cK _ hk)];simp[sk,h3]
 rw[gen _ λm hm=>Yag.mp hm]
 by_cases hi:i<xs.size
 .rw[eF,List.getElem?_range hi,List.getElem?_reverse (by simpa using hi)]
  simp[sk];rw[wm (by omega)];simp
 .rw[eY (by simp;omega),eY (by simp;omega)]
theorem getItem_tuple_rev{t sl:Addr}{items:Array Value}{tk:Tok}{Q:Value->Shared->Prop}(ht:IsTup s.heap t items)(hs:s.heap.IsSliceOf sl .none .none (.int (-1) tk))(hsz:items.size<=sizeLine)
  (h:Q (.ref s.heap.objs.size) { s with heap:=s.heap.push { cls:=.type "tuple",data:=.seq items.toList.reverse.toArray } }):wpAny (model prog w) A (getItem (.ref t) (.ref sl)) Q E s:=by
 have htake:sizeOk (.seq items.toList.reverse.toArray):=by
  show items.toList.reverse.toArray.size<=sizeLine;simpa using hsz
 obtain⟨os,hos,hcs,hds⟩:=id hs;have hTs:s.TypeIs (.ref sl) "slice" :=⟨os,hos,hcs⟩
 unfold getItem
 try with_reducible refine Hz ?_
 first|refine Hf (Hi ?_)|skip
 refine Hf (wpAny_sequenceKey ht.typeIs (by decide) ?_);refine Hf (wpAny_callSpecial?_slot (name:=Str.ofString "__getitem__") ht.typeIs PyProof.Rows.slot_tuple_getitem
  (HG PyProof.Rows.slot_tuple_getitem ht.typeIs entry_tuple_getitem ?_ (args_tuple_getitem _ _)))
 show wpAny _ _ (Builtin.Tuple.tupleItemsOf (.ref t) >>= _) _ _ s;refine Hf (tupleItemsOf_ ht ?_);refine Hf (HN hTs ?_);rw[Hh (by decide)];refine Hf (Cf hs ?_);show wpAny _ _ (if((((items.size:Int)-1)==0&&(-1:Int)==1&&items.size==items.size)=true) then _ else _) _ _ s;rw[if_neg (by simp),pick_rev]
 first
  |exact Hf (m:=Builtin.Tuple.tupleExact _) (Hq (Hi ⟨_,rfl,Hi h⟩) htake)
  |exact Hf (m:=Builtin.Tuple.tupleExact _) (Hq (Hf (Hi (Hi ⟨_,rfl,Hi h⟩))) htake)
  |exact Hf (Hf (m:=Builtin.Tuple.tupleExact _) (Hq (Hi (Hi ⟨_,rfl,Hi h⟩)) htake))
  |exact Hf (Hf (m:=Builtin.Tuple.tupleExact _) (Hq (Hi ⟨_,rfl,Hi h⟩) htake))
end
end HT
namespace L2
open PySem PySem.Spec PyProof.Rows
variable{X:Cx}{e:Expr}{pos:Pos}{xs vs:Array Value}{us l bm bmB sub:List Value}{M:Model}{A:Around}{E:Value->Shared->Prop}{s:Shared}{P prog:Program}{env:Env}{outer:List Env}{Q:Option Value->Shared->Prop}{oe:Obj}{b hdct ab κ:Bool}{h h':Heap}{w:World}{g:Array GenState}{d:Drawn}{t t' k:Nat}{os:OsState}{nm q x qual:Str}{N sn ns ps:List Str}{col:Option Bool}{newId:String}{mN m mg:Str->Option Value}{y:Option Value}{a:Addr}{tk:Tok}{H:Hp}{K:Hg}{scope:Scope}{cd:Value}{pins:List (Addr×Obj)}{σ:St}{fd:FuncData}{R:Result->Shared->Prop}
section
variable{te:TE}{p2:Pos}
def tq(K:Hg):V->Option Int->Option Int->Hp->VK->Prop:=λx lo hi H Q=>∃a xs,x=.ref a/\SqT K H a xs/\
 (HT.sIx xs.length 0 lo=0/\HT.sIx xs.length xs.length hi=xs.length)/\Q (.ref a) H
theorem Cg:SlR X (tq X.K):=by
 intro pins s σ H x v vl vu lo hi sl Q I rx hs pl pu h;obtain⟨a,xs,rfl,hx,hw,q⟩:=h;cases rx;obtain⟨its,r,ht,hz⟩:=I.tuple hx;have hlen:its.toArray.size=xs.length:=by rw[cM];exact r.length.symm
 refine⟨"tuple",_,PyProof.Rows.slot_tuple_getitem.lookup,ht.typeIs,?_⟩;exact HT.getItem_tuple_whole ht hs pl pu (by rw[hlen];exact hw) ⟨.ref a,H,I,rfl,q⟩
def xk(r:V->Hp->VK->Prop)(te:TE):TE:=λσ H Q=>te σ H λx H1=>r x H1 Q
def xl(K:Hg):V->Hp->VK->Prop:=λx H Q=>∃a xs,x=.ref a/\((SqT K H a xs/\∀p,H p=none->Q (.ref p) (upd H p (.tup xs.reverse)))\/(SqL K H a xs/\∀p,H p=none->Q (.ref p) (upd H p (.lst xs.reverse))))
theorem Vals.rev{xs:List V}(r:Vals xs us):Vals xs.reverse us.reverse:=by
 induction xs generalizing us with
 |nil=>cases r;exact .nil
 |cons x xs ih=>cases r with|cons r t=>rw[uP,uP];exact(ih t).append (.cons r .nil)
theorem Ch(its:List Value):slicePick its.toArray none none (some (-1))=its.reverse.toArray:=by
 have e:slicePick its.toArray none none (some (-1))=((sliceRange ((its.length:Int)-1) (-1) (-1)).filterMap (its.toArray[·]?)).toArray:=by
  unfold slicePick sliceBounds;simp
 rw[e];congr 1;have h:=HT.pick_rev its.toArray;rw[cM] at h;have h':its.toArray.toList.reverse=its.reverse:=by simp
 rw[h'] at h;rw[<-h];unfold sliceRange;simp only[show¬((-1:Int)>0) by decide,if_false];have hn:(if(-1:Int)<(its.length:Int)-1 then(its.length:Int) else 0).toNat=its.length:=by split<;>omega
 simp;rw[hn];rfl
theorem Ci{j pos3 pos4}(he:PE X e te):PE X (.Subscript e (.Slice none none (some (.UnaryOp .USub (.Constant (.int 1) j pos3) pos4)) p2) pos) (xk (xl X.K) te):=by
 intro pins s σ H Q I h;refine Subscript_ (aV (he pins s σ H _ I h) λv s1 ⟨x,H1,I1,r1,a,xs,ex,q1⟩=>?_);subst ex;cases r1;refine wpAny_Slice ?_;rw[evalPart_none];refine Hi (Hi ?_);rw[evalPart_some];refine aV (nA (kI (X:=X)) hV pins s1 σ H1 (λx H'=>x=.int (-1)/\H'=H1) I1 ⟨1,rfl,rfl,rfl⟩) λu s3 ⟨y,H3,I3,r3,e3,e4⟩=>?_;subst e3;obtain rfl:=e4.symm;obtain⟨tk,rfl⟩:=r3;have I4:Inv X pins σ H1 { s3 with heap:=s3.heap.push { cls:=.type "slice",data:=.fields #[.none,.none,.int (-1) tk] } }:=I3.kept (t':=s3.toks) λb ob q=>cv _ q;show wpAny (model X.prog X.w) X.A (subscriptTail e (.Slice none none (some (.UnaryOp .USub (.Constant (.int 1) j pos3) pos4)) p2) (.ref a) (.ref s3.heap.objs.size)) (EP X pins σ Q) X.xe { s3 with heap:=s3.heap.push { cls:=.type "slice",data:=.fields #[.none,.none,.int (-1) tk] } };rcases q1 with⟨hx,q1⟩|⟨hx,q1⟩
 .obtain⟨its,r,ht,hz⟩:=I4.tuple hx
  have hlen:=r.length;refine tail_any (ops:=[.ref a,.ref s3.heap.objs.size]) ht.typeIs PyProof.Rows.slot_tuple_getitem.lookup (HT.getItem_tuple_rev ht (Heap.IsSliceOf.new ..) (by rw[cM];omega) ?_) (by with_unfolding_all rfl);refine⟨.ref _,_,I4.laid (t':=s3.toks) (o:=.tup xs.reverse) (λb ob q=>cv _ q) (bP _) ?_,rfl,q1 _ (I4.hok.fresh (bP _))⟩;exact⟨by rw[uQ];exact hz,_,r.rev,IsTup.new _ _⟩
 .obtain⟨its,r,ht,hz⟩:=I4.list hx
  have hlen:=r.length;refine tail_any (ops:=[.ref a,.ref s3.heap.objs.size]) ht.isList.typeIs slot_list_getitem.lookup (wpAny_getItem_list_slice ht.isList (Heap.IsSliceOf.new ..) .none .none (.int (-1) tk) (by simp) ?_ (by rw[cM];omega)) (by with_unfolding_all rfl);rw[Ch];refine⟨.ref _,_,I4.laid (t':=s3.toks) (o:=.lst xs.reverse) (λb ob q=>cv _ q) (bP _) ?_,rfl,q1 _ (I4.hok.fresh (bP _))⟩;exact⟨by rw[uQ];exact hz,_,0,r.rev,eV _ rfl⟩
end
namespace Fl
def jy(P:Obj->Prop):Prop:=∀(o:Obj) f,P o->P (o.mapFields f)
theorem Zk(o:Obj)(f:Array Value->Array Value):(o.mapFields f).dict=o.dict:=by
 unfold Obj.mapFields;split<;>rfl
def Is(cls:Value)(dx:Option Addr)(o:Obj):Prop:=o.cls=cls/\o.dict=dx
theorem Is.firm{cls:Value}{dx:Option Addr}:jy (Is cls dx):=λo f h=>⟨(Obj.cls_mapFields o f).trans h.1,(Zk o f).trans h.2⟩
def Tr(P:Obj->Prop)(base:Heap)(e:Addr)(fl:Value)(h:Heap):Prop:=
 ∃(oe:Obj) (vs:Array Value) (T:Addr) (oT:Obj) (ts:Array Value),h.get? e=some oe/\P oe/\oe.data=.fields vs/\vs[1]? = some (.ref T)/\base.get? T=none/\T≠e/\h.get? T=some oT/\oT.data=.fields ts/\ts[3]? = some fl
structure Up(P:Obj->Prop)(base:Heap)(l:List Env)(e:Addr)(fl:Value)(h:Heap):Prop where
 st:base.StaysIn h
 new:base.get? e=none
 fr:h.FunFrames base l
 tr:Tr P base e fl h
section
variable{P:Obj->Prop}{base:Heap}{l:List Env}{L e:Addr}{fl:Value}{Q:Unit->Shared->Prop}
theorem nN(hP:jy P){head:Value}(hA:A.frames=some (env::outer))(hl:s.heap.FunFrames base (env::outer))(hf:env.frame=some L)(he:s.heap.get? e=some oe)(hp:P oe)
  (st:base.StaysIn s.heap) (new:base.get? e=none) (hd:oe.data=.fields vs) (hz:1<vs.size) (k:∀h',Up P base (env::outer) e (rawInt L) h'->s.heap.UpToSlots h'->Q () { s with heap:=h' }) :
  wpAny M A (do let a <-frameOf env;let pl <-entryPlaceOf L b;let c <-EntryCells.newEntry head a .none (rawInt L) .none pl;setField (.ref e) 1 c) Q E s:=by
 have out:e∉(env::outer).filterMap (·.frame):=λz=>by
  obtain⟨_,o,ho,nf⟩:=hl.mem z;cases he.symm.trans ho;exact nf vs hd
 refine Hf (wpAny_frameOf_fun hA hl hf λh1 so=>?_);refine Hf (wpAny_entryPlaceOf λpl place=>?_);unfold EntryCells.newEntry newFields;refine Hf (Hq ?_ (place.sizeOk5 _ _ _ _ _));generalize ho:({ cls:=.type "traceback",dict:=none,data:=.fields ([head,.ref L,.none,rawInt L,.none]++(if pl.isEmpty then List.replicate 6 Value.none else pl)).toArray }:Obj)=ob;have e1:h1.get? e=some oe:=(so.2.1 e out).trans he;have ne:h1.objs.size≠e:=Nat.ne_of_gt (cc e1);have e2:(h1.push ob).get? e=some oe:=cv ob e1;have fr0:ob.isFreed=false:=by rw[<-ho];exact Obj.isFreed_of_fields rfl
 refine HK e2 hd hz (k _ ?_ ?_)
 .have e3:=ou (Obj.mapFields (·.setIfInBounds 1 (Value.ref h1.objs.size))) e2 (Obj.isFreed_of_fields (Obj.data_mapFields hd _))
  have oth:∀{c o},c≠e->h1.get? c=some o->((h1.push ob).update e (Obj.mapFields (·.setIfInBounds 1 (Value.ref h1.objs.size)))).get? c=some o:=λne hc=>(lZ _ _ (Hv ne)).trans (cv ob hc);refine⟨λc o hc=>?_,new,hl.of_keeps λc o hc nf=>?_,_,_,h1.objs.size,ob,_,e3,hP _ _ hp,Obj.data_mapFields hd _,by simp[hz],?_,ne,(lZ _ _ (Hv ne)).trans (eV h1 fr0),by rw[<-ho],?_⟩
  .exact oth (λz=>by rw[z,new] at hc;cases hc) ((so.2.1 c λz=>by rw[(hl.mem z).1] at hc;cases hc).trans (st c o hc))
  .obtain⟨sl,hs⟩:=so.2.2 c o hc
   exact⟨_,oth (λz=>by rw[z,he] at hc;cases hc;exact nf vs hd) hs,rfl⟩
  .cases q:base.get? h1.objs.size with
   |none=>rfl
   |some o=>
    have:h1.get? h1.objs.size=some o:=(so.2.1 _ λz=>by rw[(hl.mem z).1] at q;cases q).trans (st _ o q);exact Hj (cc this) (g9 _)
  .rcases place with rfl|⟨_,_,_,_,_,_,_,rfl⟩<;>simp
 .intro c o hc nf
  obtain⟨sl,hs⟩:=so.2.2 c o hc;exact⟨sl,(lZ _ _ (Hv λz=>by rw[z,he] at hc;cases hc;exact nf vs hd)).trans (cv ob hs)⟩
theorem Cj(hP:jy P)(hA:A.frames=some (env::outer))(hl:s.heap.FunFrames base (env::outer))(hf:env.frame=some L)(he:s.heap.get? e=some oe)(hp:P oe)
  (st:base.StaysIn s.heap) (new:base.get? e=none) (hd:oe.data=.fields vs) (h1:vs[1]? = some .none) (k:∀h',Up P base (env::outer) e (rawInt L) h'->s.heap.UpToSlots h'->Q () { s with heap:=h' }) :
  wpAny M A (noteFrame (.ref e) env) Q E s:=by
 unfold noteFrame;simp only[hf];refine Hf (Hu he hd h1 ?_);rw[if_neg (by decide)];exact nN hP hA hl hf he hp st new hd (Ybn.mp h1).1 k
theorem note(hP:jy P)(hA:A.frames=some (env::outer))(hf:env.frame=some L)(u:Up P base (env::outer) e .none s.heap)
  (k:∀h',Up P base (env::outer) e (rawInt L) h'->s.heap.UpToSlots h'->Q () { s with heap:=h' }):wpAny M A (noteFrame (.ref e) env) Q E s:=by
 obtain⟨st,new,fr,oe,vs,T,oT,ts,he,hp,hd,h1,nT,Te,hT,dT,h3⟩:=u;unfold noteFrame;simp only[hf];refine Hf (Hu he hd h1 ?_);rw[Hh (show(Value.ref T != Value.none)=true from by simp)];refine Hf (Hu hT dT h3 ?_);rw[if_neg (by simp[rawInt])];refine Hf (HK hT dT (Ybn.mp h3).1 ?_);have oth:∀{c o},c≠T->s.heap.get? c=some o->(s.heap.update T (Obj.mapFields (·.setIfInBounds 3 Value.none))).get? c=some o:=λne hc=>(lZ _ _ (Hv ne)).trans hc;have notT:∀{c o},s.heap.get? c=some o->(∀vs,o.data≠.fields vs)->c≠T:=λhc nf z=>by
  rw[z,hT] at hc;cases hc;exact nf ts dT
 refine nN hP hA (fr.of_keeps λc o hc nf=>⟨o,oth (notT hc nf) hc,rfl⟩) hf (oth (Hv Te) he) hp (λc o hc=>oth (λz=>by rw[z,nT] at hc;cases hc) (st c o hc)) new hd (Ybn.mp h1).1 λh' u' up=>k h' u' λc o hc nf=>up c o (oth (notT hc nf) hc) nf
theorem lands(u:Up P base l e fl s.heap)(k:∀h',Up P base l e .none h'->s.heap.UpToSlots h'->Q () { s with heap:=h' }):wpAny M A (setFlight (.ref e) none) Q E s:=by
 obtain⟨st,new,fr,oe,vs,T,oT,ts,he,hp,hd,h1,nT,Te,hT,dT,h3⟩:=u;have oth:∀{c o},c≠T->s.heap.get? c=some o->(s.heap.update T (Obj.mapFields (·.setIfInBounds 3 ((none:Option Addr).elim Value.none λf=>rawInt f)))).get? c=some o:=λne hc=>(lZ _ _ (Hv ne)).trans hc;have notT:∀{c o},s.heap.get? c=some o->(∀vs,o.data≠.fields vs)->c≠T:=λhc nf z=>by
  rw[z,hT] at hc;cases hc;exact nf ts dT
 have z3:=(Ybn.mp h3).1;unfold setFlight;refine Hf (Hu he hd h1 ?_);rw[Hh (show(Value.ref T != Value.none)=true from by simp)];refine HK hT dT z3 (k _ ⟨λc o hc=>oth (λz=>by rw[z,nT] at hc;cases hc) (st c o hc),new,fr.of_keeps λc o hc nf=>⟨o,oth (notT hc nf) hc,rfl⟩,oe,vs,T,_,_,oth (Hv Te) he,hp,hd,h1,nT,Te,ou _ hT (Obj.isFreed_of_fields (Obj.data_mapFields dT _)),Obj.data_mapFields dT _,by simp[z3]⟩ λc o hc nf=>⟨o.slots,oth (notT hc nf) hc⟩)
theorem Up.there(u:Up P base l e fl h):∃ob,h.get? e=some ob/\P ob/\∃vs,ob.data=.fields vs:=by
 obtain⟨oe,vs,_,_,_,he,hp,hd,_⟩:=u.tr;exact⟨oe,he,hp,vs,hd⟩
theorem leaves(hP:jy P)(hA:A.frames=some (env::outer))(hf:env.frame=some L)(u:Up P base (env::outer) e .none s.heap)(k:∀h',Up P base outer e .none h'->s.heap.UpToSlots h'->Q () { s with heap:=h' }) :
  wpAny M A (leaving env (.ref e)) Q E s:=by
 unfold leaving;exact Hf (note hP hA hf u λh1 u1 up1=>lands (s:={ s with heap:=h1 }) u1 λh2 u2 up2=>k h2 ⟨u2.st,u2.new,u2.fr.2.2,u2.tr⟩ (up1.trans up2))
theorem leaves_new(hP:jy P)(hA:A.frames=some (env::outer))(hl:s.heap.FunFrames base (env::outer))(hf:env.frame=some L)(he:s.heap.get? e=some oe)(hp:P oe)
  (st:base.StaysIn s.heap) (new:base.get? e=none) (hd:oe.data=.fields vs) (h1:vs[1]? = some .none) (k:∀h',Up P base outer e .none h'->s.heap.UpToSlots h'->Q () { s with heap:=h' }):wpAny M A (leaving env (.ref e)) Q E s:=by
 unfold leaving;exact Hf (Cj hP hA hl hf he hp st new hd h1 λh1 u1 up1=>lands (s:={ s with heap:=h1 }) u1 λh2 u2 up2=>k h2 ⟨u2.st,u2.new,u2.fr.2.2,u2.tr⟩ (up1.trans up2))
end
end Fl
namespace Fl
open PySem.Builtin PySem.Builtin.ObjectAttr
inductive Tl (h:Heap) (ns:List Str) (bmB:List Value):List Value->Prop
 |last:Tl h ns bmB bmB
 |more {a:Addr} {c:Value} {dd:Option Addr} {cd:ClassData} {sl:Array (Option Value)} {m:Str->Option Value} {l:List Value}:h.get? a=some ⟨c,dd,.cls cd,sl⟩->h.Ns cd.ns m->(∀n∈ns,m n=none)->Tl h ns bmB l->Tl h ns bmB (.ref a::l)
section
theorem Tl.has(T:Tl h ns bmB l){X:String}(q:bmB.contains (.type X)=b):l.contains (.type X)=b:=by
 induction T with
 |last=>exact q
 |more _ _ _ _ ih=>rw[wn,ih];rfl
end
section
variable{C N x:Addr}{bs:List Value}{dd:Option Addr}{k0 k1 k2 k3 k5:Option Value}{B sa owner:String}
theorem tu{n:Str}(T:Tl h ns bmB l)(i:n∈ns)(r:lookupAlong bmB n=pure y)(k:Q y ⟨h,g,d,t,os⟩):wpAny M A (lookupAlong l n) Q E ⟨h,g,d,t,os⟩:=by
 induction T with
 |last=>
  rw[r];exact Hi k
 |more a b c _ ih=>
  rw[lookupAlong_cons];refine Hf (wpAny_classOwn_cls a b ?_);rw[c n i];exact ih
theorem look{n:Str}(hC:h.get? C=some (excClassObj nm q C N bs bm hdct sn sub ab col dd k0 k1 k2 k3 k5 newId))(hN:h.Ns N mN)(hm:mN n=none)(T:Tl h ns bmB bm)(i:n∈ns)
  (b:mroOf (.type B)=pure bmB) (hB:typeLookup (.type B) n=pure y) (k:Q y ⟨h,g,d,t,os⟩):wpAny M A (typeLookup (.ref C) n) Q E ⟨h,g,d,t,os⟩:=by
 have r:lookupAlong bmB n=pure y:=by
  rw[typeLookup_eq,b] at hB;exact hB
 rw[typeLookup_eq];refine Hf (wpAny_mroOf_exc hC ?_);rw[lookupAlong_cons];refine Hf (wpAny_classOwn_exc hC hN ?_);rw[hm];exact tu T i r k
end
section
variable{C N dx:Addr}{bs:List Value}{dd:Option Addr}{k0 k1 k2 k3 k5:Option Value}{B:String}{name:Str}{v:Value}{o:Obj}
theorem Ck{Q:PySem.Fin->Shared->Prop}(FB:ExcAttrBase B bmB)(hC:h.get? C=some (excClassObj nm q C N bs bm true sn sub ab col dd k0 k1 k2 k3 k5 newId))(hN:h.Ns N mN)(T:Tl h ns bmB bm)
  (m3:mN name=none) (i3:name∈ns) (hB:typeLookup (.type B) name=pure none)
  (hx:h.get? a=some o) (hc:o.cls=.ref C) (hd:o.dict=some dx) (hv:o.data=.fields vs) (hm:h.Ns dx m) (hn:m name=some v) (k:Q (.done (.ret v)) ⟨h,g,d,t,os⟩):wpAny (model prog w) A (Builtin.«object.__getattribute__» ⟨[.ref a,.str name tk],[]⟩) Q E ⟨h,g,d,t,os⟩:=by
 repeat (any_goals (first|assumption|(with_reducible refine HF hx ?_;rw[hc])|with_reducible refine look hC hN m3 T i3 FB.mro hB ?_|wp_step))
 rw[hv];dsimp only;unfold instanceDict
 repeat (any_goals (first|assumption|with_reducible refine HF hx ?_|wp_step))
 rw[hd,hc];dsimp only
 repeat (any_goals (first|assumption|(with_reducible refine wpAny_nsGet hm ?_;rw[hn])|with_reducible refine HF hC ?_|wp_step))
theorem get_field{ex:Bool}{Q:Value->Shared->Prop}(FB:ExcAttrBase B bmB)(hC:h.get? C=some (excClassObj nm q C N bs bm true sn sub ab col dd k0 k1 k2 k3 k5 newId))(hN:h.Ns N mN)(T:Tl h ns bmB bm)
  (m1:mN "__getattribute__" = none) (m2:mN "__getattr__" = none) (m3:mN name=none) (i1:("__getattribute__" : Str)∈ns) (i2:("__getattr__" : Str)∈ns) (i3:name∈ns) (hB:typeLookup (.type B) name=pure none)
  (hx:h.get? a=some o) (hc:o.cls=.ref C) (hd:o.dict=some dx) (hv:o.data=.fields vs) (hm:h.Ns dx m) (hn:m name=some v) (ho:handedOut v=pure v) (k:Q v ⟨h,g,d,t+1,os⟩):wpAny (model prog w) A (getAttr (.ref a) name ex) Q E ⟨h,g,d,t,os⟩:=by
 have bi:=FB.ga.bind (.ref a);have x0:(ex&&onTheHeap (Value.builtin "BaseException.__getattribute__"))=false:=by cases ex<;>rfl
 have x2:(Value.builtin "BaseException.__getattribute__" == Value.builtin "object.__getattribute__")=false:=by decide +kernel
 have x1:(onTheHeap (Value.ref C)&&Value.builtin "BaseException.__getattribute__" == Value.builtin "object.__getattribute__")=false:=by rw[x2];rfl
 have kd:builtinKind "BaseException.__getattribute__" = some .slot:=by decide +kernel
 have sp:splitId "BaseException.__getattribute__" = some ("BaseException", "__getattribute__"):=by decide +kernel
 have isB:(Value.ref C::bm).contains (.type "BaseException")=true:=by rw[wn,T.has FB.hasBase];rfl
 have ar:=F.args_bexc_ga (.ref a) (.str name t);have chk:∀{M:Model} {A:Around} {E:Value->Shared->Prop} {R:Unit->Shared->Prop} {u:Nat},R () ⟨h,g,d,u,os⟩->wpAny M A (checkBuiltinCall "BaseException.__getattribute__" ⟨[.ref a]++[.str name t],[]⟩) R E ⟨h,g,d,u,os⟩:=by
  intro M A E R u r;simp only[checkBuiltinCall,kd,sp];refine Hf ?_;unfold isInstance
  repeat (first|(with_reducible refine HF hx ?_;rw[hc])|(with_reducible refine wpAny_isSubtype_exc hC ?_;rw[isB])|wp_step)
  exact r
 unfold getAttr
 repeat (any_goals (first|assumption|(with_reducible refine HF hx ?_;rw[hc])|with_reducible refine look hC hN m1 T i1 FB.mro FB.ga.lookup ?_|with_reducible refine look hC hN m2 T i2 FB.mro FB.noGetattr ?_|wp_step))
 refine codeAny_call_builtin FB.ga.plain F.entry_bexc_ga (chk (Ck FB hC hN T m3 i3 hB hx hc hd hv hm hn ?_));show wpAny _ _ (handedOut v) _ _ _;rw[ho];exact Hi k
end
end Fl
def bE(P:Program)(w:World):i6:=λouter H s E e s'=>∃(ea:Addr) (cls:Value) (dx:Option Addr) (H':Hp) (B:Heap),e=.ref ea/\Fl.Up (Fl.Is cls dx) B outer ea .none s'.heap/\s'.os=s.os/\AllBare s'.gens/\Un (ce outer) [] H H' s.heap s'.heap/\HOk P w H' s'.heap/\
 (∀b o,s.heap.get? b=some o->b∉ce outer->∃o',B.get? b=some o')/\(∀b u,H' b=some u->∃o,B.get? b=some o)/\E cls dx H'
theorem u8:aM (bE P w) X E0:=λ_ _ _ _ _ _ _ ⟨_,_,_,_,_,_,_,_,_,_,_,_,_,z⟩=>z.elim
theorem HOk.through{B h2:Heap}(hok:HOk P w H h)(hT:∀ b u,H b=some u->∃ o,B.get? b=some o)(s1:B.StaysIn h)(s2:B.StaysIn h2):HOk P w H h2:=λa o e=>(hok a o e).stay (λb u hb q=>by
  have hb':∃v,H b=some v:=by
   rcases hb with rfl|hb
   .exact⟨_,e⟩
   .exact⟨_,hb⟩
  obtain⟨v,hv⟩:=hb';obtain⟨o',eB⟩:=hT b v hv;have:=s1 b o' eB;rw[q] at this;cases this;exact s2 b _ eB) (λ_ z=>z) λ_ _ z=>z
section
variable{base:Heap}{f:Addr}{E:XK}
theorem u9{l:List Env}{b:Addr}(h:b∈ce l):b∈ce (env::l):=by
 unfold ce at h ⊢;obtain⟨e,h1,h2⟩:=Yax.mp h;exact Yax.mpr ⟨e,cK _ h1,h2⟩
theorem va:aM (bE P w) (bA (bE P w) P w K mg base N qual scope f cd A outer s H E) E:=by
 rintro pins σ H1 s1 _ s' I ⟨ea,cls,dx,H',B,rfl,fl,hos,hbare,un,hok,hB,hT,hE⟩;have nostk:∀b o,s.heap.get? b=some o->b∉ce outer->b∉ce (envOfC qual scope s.heap.objs.size f cd::outer):=λb o e hb hm=>by
  rcases Yam.mp (I.stkSub b hm) with z|z
  .have l1:=cc e
   have l2:s.heap.objs.size<=(envOfC qual scope s.heap.objs.size f cd).locals:=I.ok.above;have z':b=(envOfC qual scope s.heap.objs.size f cd).locals:=z;rw[<-z'] at l2;exact Hj (cX l1 l2) (g9 _)
  .exact hb z
 have ib:Un (ce outer) [] H H1 s.heap s1.heap:=I.base;show wpAny (model P w) (A.deeper (envOfC qual scope s.heap.objs.size f cd)) (leaving (envOfC qual scope s.heap.objs.size f cd) (.ref ea)) (λ_ s''=>bE P w outer H s E (.ref ea) s'') _ s';refine Fl.leaves Fl.Is.firm I.ok.frames rfl fl λh2 fl2 up=>?_;have frm:∀b,b∈ce (envOfC qual scope s.heap.objs.size f cd::outer)->∃o,s'.heap.get? b=some o/\∀vs,o.data≠.fields vs:=λb hb=>(fl.fr.mem hb).2;refine⟨ea,cls,dx,H',B,rfl,fl2,hos.trans I.os,hbare,⟨λb o e n hb _=>?_,λb o e n hb _=>?_,λb o e n _=>?_,λb o e _=>?_,λb xs e=>un.tups b xs (ib.tups b xs e),λb o xs e=>un.frzs b o xs (ib.frzs b o xs e),λb ps e=>?_,λ_ ⟨o,e⟩ n=>un.sys (by simp) (ib.there _ o e (by simp)) (ib.sys (by simp) ⟨o,e⟩ n)⟩,hok.through hT fl.st fl2.st,λb o e hb=>?_,hT,hE⟩
 .have e1:=ib.keep b o e n hb (by simp)
  have n1:=ib.free b o e n (by simp);have e2:=un.keep b o e1 n1 (nostk b o e hb) (by simp);obtain⟨o',eB⟩:=hB b o e1 (nostk b o e hb);have:=fl.st b o' eB;rw[e2] at this;cases this;exact fl2.st b _ eB
 .obtain⟨sl,e1⟩:=ib.slot b o e n hb (by simp)
  have n1:=ib.free b o e n (by simp);obtain⟨sl',e2⟩:=un.slot b _ e1 n1 (u9 hb) (by simp);obtain⟨o3,e3,nf⟩:=frm b (u9 hb);rw[e2] at e3;cases e3;obtain⟨sl3,e4⟩:=up b _ e2 nf;exact⟨sl3,e4⟩
 .obtain⟨o',e1⟩:=ib.there b o e (by simp)
  exact un.free b o' e1 (ib.free b o e n (by simp)) (by simp)
 .obtain⟨o',e1⟩:=ib.there b o e (by simp)
  by_cases hb:b∈ce (envOfC qual scope s.heap.objs.size f cd::outer)
  .obtain⟨o3,e3,nf⟩:=frm b hb
   obtain⟨sl3,e4⟩:=up b _ e3 nf;exact⟨_,e4⟩
  .obtain⟨o2,eB⟩:=hB b o' e1 hb
   exact⟨o2,fl2.st b _ eB⟩
 .obtain⟨m1,e1⟩:=ib.tbls b ps e
  obtain⟨m2,e2⟩:=un.tbls b _ e1;exact⟨m1++m2,by rw[e2,v6]⟩
 .obtain⟨o',e1⟩:=ib.there b o e (by simp)
  exact hB b o' e1 (nostk b o e hb)
def dJ(X:Cx)(E:XK):Prop:=∀(pins:List (Addr×Obj)) (σ:St) (H:Hp) (s:Shared) (h':Heap) (e:Addr) (cls:Value) (args:List Value),Inv X pins σ H s->Heap.MadeExcOf s.heap h' e cls args->E cls none H->X.xe (.ref e) { s with heap:=h' }
theorem vb:dJ (bA (bE P w) P w K mg base N qual scope f cd A outer s H E) E:=by
 intro pins σ H1 s1 h2 e cls args I hx hE;have ib:Un (ce outer) [] H H1 s.heap s1.heap:=I.base;have neL:∀b o,s.heap.get? b=some o->b∉ce outer->b∉ce (envOfC qual scope s.heap.objs.size f cd::outer):=λb o e hb hm=>by
  rcases Yam.mp (I.stkSub b hm) with z|z
  .have l1:=cc e
   have l2:s.heap.objs.size<=(envOfC qual scope s.heap.objs.size f cd).locals:=I.ok.above;have z':b=(envOfC qual scope s.heap.objs.size f cd).locals:=z;rw[<-z'] at l2;exact Hj (cX l1 l2) (g9 _)
  .exact hb z
 have stk:s1.heap.FunFrames base (envOfC qual scope s.heap.objs.size f cd::outer):=I.stack;have frm:∀b,b∈ce (envOfC qual scope s.heap.objs.size f cd::outer)->∃o,s1.heap.get? b=some o/\∀vs,o.data≠.fields vs:=λb hb=>(stk.mem hb).2;have inB:∀{b o},s1.heap.get? b=some o->b∉ce (envOfC qual scope s.heap.objs.size f cd::outer)->(PySem.W.hideAll s1.heap (ce (envOfC qual scope s.heap.objs.size f cd::outer))).get? b=some o:=λe hb=>PySem.W.hideAll_get _ e hb;have hT:∀b u,H1 b=some u->∃o,(PySem.W.hideAll s1.heap (ce (envOfC qual scope s.heap.objs.size f cd::outer))).get? b=some o:=λb u hu=>by
  have hb:b∉ce (envOfC qual scope s.heap.objs.size f cd::outer):=λhm=>by
   have:=I.stkFree b hm;rw[hu] at this;cases this
  have l:=I.hok.lt hu;have:∃o,s1.heap.get? b=some o:=by
   have q:=I.hok b u hu;cases u with
   |lst xs=>obtain⟨_,_,_,_,e⟩:=q;exact⟨_,e⟩
   |tup xs=>obtain⟨_,_,_,o,e,_⟩:=q;exact⟨_,e⟩
   |dK kvs=>obtain⟨_,_,_,_,o,_,_,e,_⟩:=q;exact⟨_,e⟩
   |dT kvs=>obtain⟨_,_,_,_,o,_,_,e,_⟩:=q;exact⟨_,e⟩
   |set S n=>obtain⟨o,_,_,_,e,_⟩:=q;exact⟨_,e⟩
   |ins C dx fs=>obtain⟨_,_,_,e,_⟩:=q;exact⟨_,e⟩
   |own y=>obtain⟨o,e⟩:=q;exact⟨_,e⟩
   |xd fs=>obtain⟨_,⟨o,_,_,e,_⟩,_⟩:=q;exact⟨_,e⟩
   |rng lo hi=>obtain⟨_,_,_,e⟩:=q;exact⟨_,e⟩
   |frz ob u=>obtain⟨e,_⟩:=q;exact⟨_,e⟩
   |tbl ps=>exact⟨_,(show s1.heap.get? b=some _ from q)⟩
   |met f y=>exact⟨_,(show s1.heap.get? b=some _ from q)⟩
   |ext φ=>obtain⟨_,⟨o,e⟩,_⟩:=q;exact⟨_,e⟩
  obtain⟨o,e⟩:=this;exact⟨o,inB e hb⟩
 show wpAny (model P w) (A.deeper (envOfC qual scope s.heap.objs.size f cd)) (leaving (envOfC qual scope s.heap.objs.size f cd) (.ref e)) (λ_ s''=>bE P w outer H s E (.ref e) s'') _ _;obtain⟨tt,he,_,_⟩:=hx.there;have newB:(PySem.W.hideAll s1.heap (ce (envOfC qual scope s.heap.objs.size f cd::outer))).get? e=none:=by
  cases q:(PySem.W.hideAll s1.heap (ce (envOfC qual scope s.heap.objs.size f cd::outer))).get? e with
  |none=>rfl
  |some o=>
   have:=PySem.W.of_hideAll _ q;rw[hx.new] at this;cases this
 refine Fl.leaves_new (P:=Fl.Is cls none) (base:=PySem.W.hideAll s1.heap (ce (envOfC qual scope s.heap.objs.size f cd::outer))) Fl.Is.firm I.ok.frames ((PySem.W.funFrames_hide stk λenv he b hb=>Yax.mpr ⟨env,he,hb⟩).of_keeps λb o hb _=>⟨o,hx.keeps b o hb,rfl⟩) rfl he ⟨rfl,rfl⟩
  (λb o q=>hx.keeps b o (PySem.W.of_hideAll _ q)) newB rfl rfl λh3 fl up=>?_
 have st1:(PySem.W.hideAll s1.heap (ce (envOfC qual scope s.heap.objs.size f cd::outer))).StaysIn s1.heap:=λb o q=>PySem.W.of_hideAll _ q;refine⟨e,cls,none,H1,_,rfl,fl,I.os,I.bare,⟨λb o e n hb _=>?_,λb o e n hb _=>?_,λb o e n _=>ib.free b o e n (by simp),λb o e _=>?_,λb xs e=>ib.tups b xs e,λb o xs e=>ib.frzs b o xs e,λb ps e=>ib.tbls b ps e,λ_ eg n=>ib.sys (by simp) eg n⟩,I.hok.through hT st1 fl.st,λb o e hb=>?_,hT,hE⟩
 .exact fl.st b o (inB (ib.keep b o e n hb (by simp)) (neL b o e hb))
 .obtain⟨sl,e1⟩:=ib.slot b o e n hb (by simp)
  obtain⟨o3,e3,nf⟩:=frm b (u9 hb);rw[e1] at e3;cases e3;obtain⟨sl3,e4⟩:=up b _ (hx.keeps b _ e1) nf;exact⟨sl3,e4⟩
 .obtain⟨o',e1⟩:=ib.there b o e (by simp)
  by_cases hb:b∈ce (envOfC qual scope s.heap.objs.size f cd::outer)
  .obtain⟨o3,e3,nf⟩:=frm b hb
   obtain⟨sl3,e4⟩:=up b _ (hx.keeps b _ e3) nf;exact⟨_,e4⟩
  .exact⟨o',fl.st b o' (inB e1 hb)⟩
 .obtain⟨o',e1⟩:=ib.there b o e (by simp)
  exact⟨o',inB e1 (neL b o e hb)⟩
end
section
variable{tg:Expr}
def xm(K:Hg)(tl:TE):TI:=λσ H R=>tl σ H λx H1=>∃a,x=.ref a/\(((∃xs,SqL K H1 a xs)/\R (zo K a) H1)\/((∃xs,SqT K H1 a xs)/\R (wU K a) H1))
theorem Cl{l:Expr}{tl:TE}(hl:PE X l tl):PI X tg l (xm X.K tl):=by
 intro pins s σ H R I h;refine aV (hl pins s σ H _ I h) λv s1 ⟨x,H1,I1,r1,q1⟩=>?_;obtain⟨a,e,⟨⟨xs,hq⟩,q⟩|⟨⟨xs,hq⟩,q⟩⟩:=q1
 .subst e
  cases r1;obtain⟨its,rv,p,hz⟩:=I1.list hq;refine wpAny_pyIter_list p.isList ?_;refine⟨s1.heap.objs.size,[s1.heap.objs.size],_,_,H1,rfl,I1.kept (t':=s1.toks) λb o e=>cv _ e,jm a _,⟨_,eV _ rfl,rfl,rfl⟩,λb hb=>?_,q⟩;have e:b=s1.heap.objs.size:=by simpa using hb
  subst e;exact I1.fpOk (bP _) (I1.hok.fresh (bP _))
 .subst e
  cases r1;obtain⟨its,rv,p,hz⟩:=I1.tuple hq;refine wpAny_pyIter_tuple (show s1.heap.IsTuple a its.toArray from p) ?_;refine⟨s1.heap.objs.size,[s1.heap.objs.size],_,_,H1,rfl,I1.kept (t':=s1.toks) λb o e=>cv _ e,hZ a _,⟨_,eV _ rfl,rfl,rfl⟩,λb hb=>?_,q⟩;have e:b=s1.heap.objs.size:=by simpa using hb
  subst e;exact I1.fpOk (bP _) (I1.hok.fresh (bP _))
end
def Hd(κ:Bool)(h:Heap)(it l:Addr)(i:Nat):Prop:=match κ with
 |true=>h.IsTupleIter it l i
 |false=>h.IsListIter it l i
def Cm(κ:Bool)(h:Heap)(l:Addr)(xs:Array Value):Prop:=match κ with
 |true=>h.IsTuple l xs
 |false=>h.IsList l xs
section
def Sq(K:Hg)(κ:Bool)(H:Hp)(a:Addr)(xs:List V):Prop:=match κ with
 |true=>SqT K H a xs
 |false=>SqL K H a xs
theorem Inv.sq{xs:List V}(I:Inv X pins σ H s)(h:Sq X.K κ H a xs):∃its:List Value,Vals xs its/\Cm κ s.heap a its.toArray/\xs.length<=sizeLine:=by
 cases κ with
 |false=>obtain⟨its,r,p,hz⟩:=I.list h;exact⟨its,r,p.isList,hz⟩
 |true=>obtain⟨its,r,p,hz⟩:=I.tuple h;exact⟨its,r,(show s.heap.IsTuple a its.toArray from p),hz⟩
end
theorem zy{C:Addr}(X:K.In h)(q:PySem.W.excIn K C bmB newId=true) :
  ∃(bm:List Value) (N:Addr) (nm qn:Str) (bs:List Value) (hd:Bool) (sn:List Str) (sub:List Value) (ab:Bool) (col:Option Bool) (dd:Option Addr) (k0 k1 k2 k3 k5:Option Value) (mN:Str->Option Value),
   h.get? C=some (excClassObj nm qn C N bs bm hd sn sub ab col dd k0 k1 k2 k3 k5 newId)/\h.Ns N mN/\mN "__init__" = none/\OwnTail h bmB bm:=by
 unfold PySem.W.excIn at q;split at q
 .rename_i dd cd sl ho
  split at q
  .rename_i C' bm k0 k1 k2 k3 n k5 hm hs
   simp only[cf,HD,nh] at q;obtain⟨⟨⟨⟨⟨rfl,rfl⟩,hdel⟩,ht⟩,hok⟩,hni⟩:=q;obtain⟨nm,bs,mro,ns,qn,hd,sn,sub,ab,col,del⟩:=cd;dsimp only at hm hdel hok hni;subst hm hdel;have hsl:sl = #[k0,k1,k2,k3,some (.builtin n),k5]:=by
    cases sl with
    |mk l=>exact congrArg Array.mk hs
   subst hsl;exact⟨bm,ns,nm,qn,bs,hd,sn,sub,ab,col,dd,k0,k1,k2,k3,k5,_,X _ _ ho,.of_isNs (PySem.W.isNs_of_in X hok),PySem.W.nsMap_none_of_in X hok hni,PySem.W.tail_of_in X ht⟩
  .cases q
 .cases q
section
variable{EX:XK}{C:Addr}{np cpos:Pos}{B initId:String}
theorem Cn(hr:dJ X EX)(hc:X.calm=true)(hm:X.mg x=some (.ref C))(hq:PySem.W.excIn X.K C bmB newId=true)(FB:ExcBaseFacts B newId initId bmB)(hg:Gl X x:=by rfl)(hd:(x==("__debug__" : Str))=false:=by decide) :
  PS X (.Raise (some (.Call (.Name x np) [] [] cpos)) none pos) (λ_ _ H=>EX (.ref C) none H):=by
 intro pins s σ H D I h;obtain⟨bm,N,nm,qn,bs,hdc,sn,sub,ab,col,dd,k0,k1,k2,k3,k5,mN,hC,hN,hni,T⟩:=zy I.kIn hq;refine wpAny_Raise_call_subT (C:=C) (nm:=nm) (q:=qn) (N:=N) (bs:=bs) (bm:=bm) (hdct:=hdc) (sn:=sn) (sub:=sub) (ab:=ab) (col:=col) (dd:=dd) (k0:=k0) (k1:=k1) (k2:=k2) (k3:=k3) (k5:=k5)
  FB (mN:=mN) (T.hasType FB.hasBase) (I.ok.hd hc) rfl hni (ck I hg hm ⟨rfl,?_⟩ hd)
 exact evalArgs_empty ⟨rfl,gW _,hC,hN,T,λh' e hx=>hr pins σ H s h' e (.ref C) [] I hx h⟩
end
section
variable{H':Hp}{s':Shared}{B h2:Heap}
theorem Inv.fsStk(I:Inv X pins σ H s){b:Addr}(hb:b∈X.fs):b∈ce X.stack:=by
 rcases I.ok.stk with z|⟨z,_⟩
 .rw[z];exact hb
 .rw[z];exact u9 hb
theorem Inv.fly(I:Inv X pins σ H s)(hos:s'.os=s.os)(hbare:AllBare s'.gens)(un:Un (ce X.stack) [] H H' s.heap s'.heap)(hok:HOk X.prog X.w H' s'.heap)
  (hB:∀b o,s.heap.get? b=some o->b∉ce X.stack->∃o',B.get? b=some o') (hT:∀b u,H' b=some u->∃o,B.get? b=some o) (st1:B.StaysIn s'.heap) (st2:B.StaysIn h2) (up:s'.heap.UpToSlots h2)
  (frm:∀b∈ce X.stack,∃o,s'.heap.get? b=some o/\∀vs,o.data≠.fields vs):Inv X pins σ H' { s' with heap:=h2 }:=by
 have I':Inv X pins σ H' s':=I.call' hos un hok hbare (ch:=[]) (λb z=>Hj z (by simp));have nostk:∀b o,X.s₀.heap.get? b=some o->b∉X.fs->b∉ce X.stack:=λb o e hb hm=>by
  rcases Yam.mp (I.stkSub b hm) with z|z
  .have l1:=cc e
   have l2:=I.ok.above;rw[<-z] at l2;exact Hj (cX l1 l2) (g9 _)
  .exact hb z
 have inB:∀{b o},s.heap.get? b=some o->b∉ce X.stack->∀{u},s'.heap.get? b=some u->h2.get? b=some u:=λ{b o} e hb {u} q=>by
  obtain⟨o',eB⟩:=hB b o e hb;have:=st1 b o' eB;rw[q] at this;cases this;exact st2 b _ eB
 have cellK:∀c v,s'.heap.IsCell c v->h2.IsCell c v:=λc v ⟨o,ho,hd⟩=>by
  obtain⟨sl,e⟩:=up c o ho λvs z=>by rw[hd] at z;cases z
  exact⟨_,e,hd⟩
 refine⟨I'.ok,I'.os,I'.bare,⟨λb o e n hb hx=>?_,λb o e n hb hx=>?_,I'.base.free,λb o e hx=>?_,I'.base.tups,I'.base.frzs,I'.base.tbls,I'.base.sys⟩,?_,λx c e=>?_,I'.free,I'.freeC,λp hp=>?_,hok.through hT st1 st2,I'.len⟩
 .exact inB (I.base.keep b o e n hb hx) (nostk b o e hb) (I'.base.keep b o e n hb hx)
 .obtain⟨sl,e1⟩:=I'.base.slot b o e n hb hx
  obtain⟨o3,e3,nf⟩:=frm b (I.fsStk hb);rw[e1] at e3;cases e3;obtain⟨sl2,e4⟩:=up b _ e1 nf;exact⟨sl2,e4⟩
 .obtain⟨o',e1⟩:=I'.base.there b o e hx
  by_cases hb:b∈ce X.stack
  .obtain⟨o3,e3,nf⟩:=frm b hb
   obtain⟨sl,e4⟩:=up b _ e3 nf;exact⟨_,e4⟩
  .obtain⟨o2,e2⟩:=I.base.there b o e hx
   exact⟨o',inB e2 hb e1⟩
 .obtain⟨m,hn,hl⟩:=I'.loc
  refine⟨m,up.ns hn,λi x v e1 e2 e3=>?_⟩;obtain⟨u,r,l⟩:=hl i x v e1 e2 e3;refine⟨u,r,?_⟩;rcases l with l|⟨k,c,e,z⟩
  .exact .inl l
  .exact .inr ⟨k,c,e,cellK c _ z⟩
 .obtain⟨v,z⟩:=I'.cell x c e
  exact⟨v,cellK c v z⟩
 .obtain⟨e,n,ne,nf,d⟩:=I'.pin p hp
  obtain⟨e0,n0,_⟩:=I.pin p hp;have hb:p.1∉ce X.stack:=λhm=>by
   rcases Yam.mp (I.stkSub _ hm) with z|z
   .exact ne z
   .exact nf z
  exact⟨inB e0 hb e,n,ne,nf,d⟩
theorem Inv.track{u:HO}(I:Inv X pins σ H s)(hn:H a=none)(h0:X.s₀.heap.get? a=none)(hL:a≠X.env.locals)(hC:∀x c,X.env.cells.lookup x=some c->c≠a)(hP:∀p∈X.pn++pins,p.1≠a)
  (new:ObjOk X.prog X.w (upd H a u) s.heap a u) (hu:∀us,u≠.lst us):Inv X pins σ (upd H a u) s:=by
 have nea:∀b v,H b=some v->b≠a:=λb v e z=>by rw[z,hn] at e;cases e
 refine ⟨I.ok,I.os,I.bare,⟨I.base.keep,I.base.slot,λb o e n hx=>?_,I.base.there,λb xs e=>?_,λb o xs e=>?_,λb ps e=>?_,λx0 e0 n ys=>by
   by_cases z:sysModules=a
   .rw[z,aG];exact λy=>hu ys (Hn y)
   .rw[aE z];exact I.base.sys x0 e0 n ys⟩,I.loc,I.cell,?_,λx c e=>?_,λp hp=>?_,λb v e=>?_,I.len⟩
 .rw[aE (λz=>by rw[z,h0] at e;cases e)]
  exact I.base.free b o e n hx
 .have:=I.base.tups b xs e
  rw[aE (nea _ _ this)];exact this
 .have:=I.base.frzs b o xs e
  rw[aE (nea _ _ this)];exact this
 .obtain⟨m,e1⟩:=I.base.tbls b ps e
  exact⟨m,by rw[aE (nea _ _ e1)];exact e1⟩
 .rw[aE (Hv hL)];exact I.free
 .rw[aE (hC x c e)];exact I.freeC x c e
 .obtain⟨e,n,r⟩:=I.pin p hp
  exact⟨e,by rw[aE (hP p hp)];exact n,r⟩
 .by_cases hb:b=a
  .subst hb;rw[aG] at e;cases e;exact new
  .rw[aE hb] at e
   exact(I.hok b v e).stay (λ_ _ _ q=>q) (λc q=>by rw[aE (nea _ _ q)];exact q) λc _ q=>by rw[aE (nea _ _ q)];exact q
end
abbrev Cx.tr(X:Cx)(E:Value->Shared->Prop)(pins:List (Addr×Obj)):Cx:={ X with xe:=E,pn:=X.pn++pins }
abbrev Cx.hnd(X:Cx)(e:Addr)(E:Value->Shared->Prop):Cx:={ X with A:=X.A.mark (some (.ref e)),calm:=false,xe:=E }
section
variable{pins':List (Addr×Obj)}{e:Addr}
theorem Inv.tr(I:Inv X pins σ H s):Inv (X.tr E pins) [] σ H s:=⟨⟨I.ok.mod,I.ok.kind,I.ok.glob,I.ok.blt,I.ok.above,I.ok.inj,I.ok.has,I.ok.cab,I.ok.hd,I.ok.frames,I.ok.stk,I.ok.exf,I.ok.bs,I.ok.bsz,I.ok.noex,I.ok.exfs,I.ok.funs,I.ok.frf,I.ok.sys0⟩,I.os,I.bare,I.base,I.loc,I.cell,I.free,I.freeC,λp hp=>I.pin p (by simpa using hp),I.hok,I.len⟩
theorem Inv.untr(I:Inv (X.tr E pins) pins' σ H s):Inv X pins σ H s:=⟨⟨I.ok.mod,I.ok.kind,I.ok.glob,I.ok.blt,I.ok.above,I.ok.inj,I.ok.has,I.ok.cab,I.ok.hd,I.ok.frames,I.ok.stk,I.ok.exf,I.ok.bs,I.ok.bsz,I.ok.noex,I.ok.exfs,I.ok.funs,I.ok.frf,I.ok.sys0⟩,I.os,I.bare,I.base,I.loc,I.cell,I.free,I.freeC,λp hp=>I.pin p (si _ hp),I.hok,I.len⟩
theorem SP.untr{D:e8}{f:Flow}{s':Shared}(h:SP (X.tr E pins) pins' D f s'):SP X pins D f s':=by
 cases f with
 |next=>obtain⟨σ',H',I,q⟩:=h;exact⟨σ',H',I.untr,q⟩
 |brk=>obtain⟨σ',H',I,q⟩:=h;exact⟨σ',H',I.untr,q⟩
 |cont=>obtain⟨σ',H',I,q⟩:=h;exact⟨σ',H',I.untr,q⟩
 |ret u=>obtain⟨v,σ',H',I,r,q⟩:=h;exact⟨v,σ',H',I.untr,r,q⟩
theorem Inv.hnd(I:Inv X pins σ H s):Inv (X.hnd e E) pins σ H s:=⟨⟨I.ok.mod,I.ok.kind,I.ok.glob,I.ok.blt,I.ok.above,I.ok.inj,I.ok.has,I.ok.cab,(λz=>by cases z),I.ok.frames,I.ok.stk,I.ok.exf,I.ok.bs,I.ok.bsz,I.ok.noex,I.ok.exfs,I.ok.funs,I.ok.frf,I.ok.sys0⟩,I.os,I.bare,I.base,I.loc,I.cell,I.free,I.freeC,I.pin,I.hok,I.len⟩
theorem Inv.unhnd(hd:X.calm=true->X.A.handled=none)(I:Inv (X.hnd e E) pins σ H s):Inv X pins σ H s:=⟨⟨I.ok.mod,I.ok.kind,I.ok.glob,I.ok.blt,I.ok.above,I.ok.inj,I.ok.has,I.ok.cab,hd,I.ok.frames,I.ok.stk,I.ok.exf,I.ok.bs,I.ok.bsz,I.ok.noex,I.ok.exfs,I.ok.funs,I.ok.frf,I.ok.sys0⟩,I.os,I.bare,I.base,I.loc,I.cell,I.free,I.freeC,I.pin,I.hok,I.len⟩
end
theorem Co{ea C Cs:Addr}{Q:Bool->Shared->Prop}(X:K.In s.heap)(hs:PySem.W.excIn K Cs bmB newId=true)(hbase:bmB.contains (.type "BaseException")=true)
  (he:∃oe,s.heap.get? ea=some oe/\oe.cls=.ref C) (hsub:PySem.W.mroIn K C (.ref Cs)=some true) (q:Q true s):wpAny M A (excMatches (.ref ea) (.ref Cs)) Q E s:=by
 obtain⟨bm,N,nm,qn,bs,hd,sn,sub,ab,col,dd,k0,k1,k2,k3,k5,mN,hC,hN,hni,T⟩:=zy X hs;obtain⟨oe,he,hcls⟩:=he;have hcB:(Value.ref Cs::bm).contains (.type "BaseException")=true:=by rw[wn,T.hasType hbase,Bool.or_true]
 have f:=tc_notTuple;have LS:PySem.W.Looks M s.heap (isSubtype (.ref C) (.ref Cs)) true:=PySem.W.looks_mroIn X hsub;obtain⟨hh,g,d,tk,os⟩:=s;unfold excMatches
 repeat (first|(with_reducible refine HF he ?_;rw[hcls])|with_reducible refine HF hC ?_|(with_reducible refine wpAny_isSubtype_exc hC ?_;rw[hcB])|with_reducible refine LS.at ?_|wp_step)
 exact q
section
theorem Inv.names(I:Inv X pins σ H s)(hn:h'.Ns X.env.locals m)(hs:Heap.SameBut X.env.locals s.heap h'):Inv X pins (List.replicate σ.length none) H { s with heap:=h',toks:=t' }:=by
 have ne:∀b o,X.s₀.heap.get? b=some o->b≠X.env.locals:=λb o e=>er (cX (cc e) I.ok.above);have same:∀b,b≠X.env.locals->h'.get? b=s.heap.get? b:=λb hb=>hs.2 b hb;have nH:∀b u,H b=some u->b≠X.env.locals:=λb u e z=>by rw[z,I.free] at e;cases e
 refine⟨I.ok,I.os,I.bare,⟨λb o e n hb hx=>?_,λb o e n hb hx=>?_,I.base.free,λb o e hx=>?_,I.base.tups,I.base.frzs,I.base.tbls,I.base.sys⟩,⟨m,hn,λi x v _ e2 _=>?_⟩,λx c e=>?_,I.free,I.freeC,λp hp=>?_,λb u e=>?_,by rw[lY];exact I.len⟩
 .show h'.get? b=_
  rw[same b (ne b o e)];exact I.base.keep b o e n hb hx
 .obtain⟨sl,e1⟩:=I.base.slot b o e n hb hx
  refine⟨sl,?_⟩;show h'.get? b=_;rw[same b (ne b o e)];exact e1
 .obtain⟨o',e1⟩:=I.base.there b o e hx
  refine⟨o',?_⟩;show h'.get? b=_;rw[same b (ne b o e)];exact e1
 .rw[ku] at e2
  split at e2<;>cases e2
 .obtain⟨v,o,ho,hd⟩:=I.cell x c e
  refine⟨v,o,?_,hd⟩;show h'.get? c=_;rw[same c (I.cne x c e)];exact ho
 .obtain⟨e,n,nl,r⟩:=I.pin p hp
  refine⟨?_,n,nl,r⟩;show h'.get? p.1=_;rw[same _ nl];exact e
 .refine(I.hok b u e).stay (λc v hc q=>?_) (λ_ q=>q) λ_ _ q=>q
  show h'.get? c=_;rw[same c ?_]
  .exact q
  .rcases hc with rfl|hc
   .exact nH _ _ e
   .exact nH _ _ hc
end
structure RoomU(k:Nat)(A:Around):Prop where
 dp:A.depth+3*k+5<recursionLimit
 un:A.units+16*k+200<cLine
theorem RoomU.mono{j:Nat}(r:RoomU k A)(h:j<=k):RoomU j A:=⟨by have:=r.dp;omega,by have:=r.un;omega⟩
theorem RoomU.deeper{k:Nat}{A:Around}(r:RoomU (k+1) A)(env:Env):RoomU k (A.deeper env):=
 ⟨by have:=r.dp;show A.depth+1+3*k+5<_;omega,by have:=r.un;show A.units+3+16*k+200<_;omega⟩
theorem RoomU.depth{k:Nat}{A:Around}(r:RoomU k A):A.depth<recursionLimit:=by have:=r.dp;omega
theorem RoomU.units{k:Nat}{A:Around}(r:RoomU k A):A.units+64<cLine:=by have:=r.un;omega
theorem Room.u(r:Room k A):RoomU k A:=⟨r.dp,r.un⟩
theorem RoomU.mark{k:Nat}{A:Around}{v:Option Value}(r:RoomU k A):RoomU k (A.mark v):=⟨r.dp,r.un⟩
structure vc(P:Program)(w:World)(K:Hg)(mg:Str->Option Value)(base:Heap)(k:Nat)(f:Addr)(fd:FuncData)(ps:List Str)(sp:Sp):Prop where
 len:∀vs H Q E,sp vs H Q E->vs.length=ps.length
 run:∀(A:Around) (outer:List Env) (s:Shared) (H:Hp) (args:Args) (us:List Value) (vs:List V) (Q:VK) (E:XK),RoomU k A->Env0 P w K mg base A outer s H->BindsTo s fd args (ps.zip us)->Vals vs us->sp vs H Q E->
  codeAny (model P w) A (.call (.ref f) args) (CR zt outer P w H s Q E) s
def pp(P:Program)(w:World)(K:Hg)(mg:Str->Option Value)(base:Heap)(N:List Str)(qual:Str)(scope:Scope)(f:Addr)(cd:Value)(A:Around)(outer:List Env)(s:Shared)(H:Hp):Cx:=
 { bA zt P w K mg base N qual scope f cd A outer s H E0 with calm:=false,xe:=λ_ _=>False }
theorem Cp{base:Heap}{f:Addr}{s1:Shared}{vs:List V}
  (S:aT N ps scope) (e0:Env0 P w K mg base A outer s H) (hl:vs.length=ps.length) (r:Vals vs us)
  (x:InCallC s s.heap.objs.size (bindL (envOfC qual scope s.heap.objs.size f cd).kindOf (ps.zip us) λ_=>none) (cellsFrom (s.heap.objs.size+1) scope.names []) (bindC (envOfC qual scope s.heap.objs.size f cd).kindOf (ps.zip us) λ_=>none) s1) :
  Inv (pp P w K mg base N qual scope f cd A outer s H) [] (start N vs) H s1:=by
 have hpl:ps.length<=N.length:=by have:=congrArg List.length S.pre;rw[jV] at this;omega
 obtain⟨h1,tk,rfl,hk⟩:=x.done;have noA:∀b:Addr,b∉(pp P w K mg base N qual scope f cd A outer s H).ex:=λb z=>Hj (show b∈([]:List Addr) from z) (by simp);refine ⟨⟨e0.mod,S.kind,rfl,rfl,bP _,λy z c h1 h2=>?_,λy hy=>?_,λy c _ h=>?_,(λz=>by cases z),Around.frames_deeper e0.frames,.inr ⟨rfl,rfl⟩,λb z=>Hj z (noA b),e0.bs,e0.bsz,λb _ _=>noA b,λb z=>Hj z (noA b),e0.funs,e0.frf,e0.sysn⟩,
  rfl,e0.bare,Un.kept hk,⟨_,x.toInCall.ns,λi y v h1 h2 h3=>?_⟩,λy c h=>⟨_,x.cell y c h⟩,e0.hok.fresh (bP _),λy c h=>?_,λp hp=>Hj (show p∈([]:List (Addr×Obj)) from hp) (by simp),e0.hok.kept hk,?_⟩
 .exact name_of_addr x.apart (Ho h1) (Ho h2)
 .have hy:scope.names.lookup y=some .cell\/scope.names.lookup y=some .free:=hy
  rcases hy with hy|hy
  .exact cN hy
  .exact Hj rfl (S.nofree _ (Ho hy))
 .exact sh (x.above y c (Ho h))
 .have hi:i<vs.length:=by
   unfold start at h2
   by_cases hi:i<vs.length
   .exact hi
   .rw[kt (by simpa using hi)] at h2
    rw[ku] at h2;split at h2<;>cases h2
  have ha:vs[i]? = some v:=by
   unfold start at h2;rw[lG (by simpa using hi),eF] at h2;cases e:vs[i]? with
   |none=>rw[e] at h2;cases h2
   |some a=>rw[e] at h2;cases h2;rfl
  obtain⟨u,hu,rv⟩:=r.get ha;have hp:ps[i]? = some y:=by
   rw[<-S.pre,v9 (by omega)];exact h1
  have ndP:ps.Nodup:=by rw[<-S.pre];exact S.nd.sublist (List.take_sublist _ _)
  refine⟨u,rv,?_⟩;rcases S.par y (rh hp) with k|k
  .exact .inl ⟨k,dH ndP hp hu k⟩
  .obtain⟨c,e⟩:=cN (n:=s.heap.objs.size+1) k
   refine .inr ⟨.inl k,c,e,?_⟩;have q:=x.cell y c e;rw[dI ndP hp hu (by show scope.names.lookup y≠_;rw[k];decide)] at q;exact q
 .exact e0.hok.fresh (sh (x.above y c (Ho h)))
 .unfold start
  show _=N.length;rw[gu,bR,lY];omega
theorem Fun.okU{base:Heap}{st:Stmt}{f:Addr}{sp:Sp}(F:Fun K x qual st f fd)(S:aT N ps (aA st))(len:∀vs H Q E,sp vs H Q E->vs.length=ps.length)
  (hbody:∀ (cdv:Value) (A:Around) (outer:List Env) (s:Shared) (H:Hp) (vs:List V) (Q:VK) (E:XK),RoomU k (A.deeper (envOfC qual (aA st) s.heap.objs.size f cdv))->sp vs H Q E->
   ∃t,kz (pp P w K mg base N qual (aA st) f cdv A outer s H) (aI st) t/\t { nx:=λ_ H'=>Q .non H',rt:=Q } (start N vs) H):vc P w K mg base (k+1) f fd ps sp:=by
 obtain⟨oc,od,kV,doc,pm,an,cdv,ct,osl,rfl,lk,hcd⟩:=F.ex;refine⟨len,λA outer s H args us vs Q E hr e0 hb r hsp=>?_⟩;have hl:=len _ _ _ _ hsp;have KX:K.In s.heap:=e0.mod.kin.keeps λb o e=>(e0.bs b o e).1;have lim:s.heap.NoLimit:=e0.mod.nolimit.keeps λb o e=>(e0.bs b o e).1;have hkind:∀y∈ps.zip us,(aA st).names.lookup y.1=some .local\/((aA st).names.lookup y.1=some .cell/\((cellsFrom (s.heap.objs.size+1) (aA st).names []).lookup y.1).isSome=true):=λ⟨n,v⟩ hy=>by
  rcases S.par n (sj hy).1 with q|q
  .exact .inl q
  .exact .inr ⟨q,PySem.W.cellsFrom_some _ _ _ (.inl q)⟩
 refine codeAny_call_function hr.depth (KX _ _ lk) rfl S.co S.gen rfl (PySem.W.codeRec_of KX hcd) (hb _ _ _ _ ?_);refine HL S.kind hkind λenv he s1 x=>?_;subst he;refine⟨lim.keeps x.toInCall.keep,codeAny_func ?_⟩;obtain⟨t,ht,hq⟩:=hbody cdv A outer s H vs Q E (hr.deeper _) hsp;have I:Inv (pp P w K mg base N qual (aA st) f cdv A outer s H) [] (start N vs) H s1:=Cp S e0 hl r x;refine HB (ht [] s1 (start N vs) H _ I hq) (λfl s' hs=>?_) λe s' hs=>hs.elim;have fin:∀{σ':St} {H':Hp} {v:V} {u:Value},Inv (pp P w K mg base N qual (aA st) f cdv A outer s H) [] σ' H' s'->RelV v u->Q v H'->CE outer P w H s Q u s':=
  λ{σ' H' v u} J rv q=>⟨v,H',J.os,J.bare,J.base,J.hok,rv,q⟩
 cases fl with
 |ret u=>
  obtain⟨v,σ',H',J,rv,q⟩:=hs;exact fin J rv q
 |next=>
  obtain⟨σ',H',J,q⟩:=hs;exact fin (v:=V.non) (u:=Value.none) J rfl q
 |brk=>
  obtain⟨_,_,_,q⟩:=hs;exact Hr q
 |cont=>
  obtain⟨_,_,_,q⟩:=hs;exact Hr q
section
variable{f:Addr}{sp:Sp}{E:XK}{p:Pos}{es:List Expr}{t:TA}
theorem Cq(F:vc X.prog X.w X.K X.mg X.base k f fd ps sp)(hr:RoomU k X.A)(hg:Gl X x)(hm:X.mg x=some (.ref f))(hk:PySem.W.keepIn X.K (.ref f)=true)(hb:Binds X.K fd ps [])
  (ha:PA X (e::es) t) (hdb:(x==("__debug__" : Str))=false:=by decide) (he:starEach (e::es) X.env=(false,eval e X.env)::starEach es X.env:=by rfl) (hpl:(backTo pos (starEach es X.env)).any (·.1)=false:=by rfl) :
  PE X (.Call (.Name x p) (e::es) [] pos) (i7 sp [] E t):=by
 have F':∀(pins:List (Addr×Obj)) (σ:St) (H:Hp) (s:Shared) (Q:VK) (us:List Value) (vs:List V),Inv X pins σ H s->Vals vs us->sp (vs++[]) H Q E->wpAny (model X.prog X.w) X.A (call (.ref f) us) (EP X pins σ Q) X.xe s:=by
  intro pins σ H s Q us vs I r h;have r2:Vals (vs++[]) (us++[]):=by simpa using r
  have hl:(us++[]).length=ps.length:=by rw[<-r2.length];exact F.len _ _ _ _ h
  refine wpAny_call (codeAny_mono (F.run X.A X.stack s H ⟨us,[]⟩ (us++[]) (vs++[]) Q E hr I.env0 (hb s us I.kIn hl) r2 h) λr s' hq=>?_);cases r with
  |error e=>exact Hr hq
  |ok fl=>
   cases fl with
   |ret u=>exact I.after hq
   |next=>exact Hr hq
   |brk=>exact Hr hq
   |cont=>exact Hr hq
 intro pins s σ H Q I h;refine Hx (ck I hg hm ?_ hdb);refine PySem.W.callWith_K (h₀:=X.base) I.ok.mod.kin hk (aV (ha pos pins s σ H _ I h) λus s1 ⟨vs,H1,I1,r,q⟩=>⟨I1.kIn,?_⟩) he hpl;exact F' pins σ H1 s1 Q us vs I1 r q
end
section
open PySem PySem.Spec PySem.Calls PyProof.Rows PySem.W Builtin Builtin.ObjectAttr Builtin.Getset_descriptor
def XAt(h:Heap)(x C:Addr):Prop:=∃ox,h.get? x=some ox/\ox.cls=.ref C/\notCls ox=true
structure fe(K:Frag)(D:Addr):Prop where
 ga:findIn K (.ref D) "__getattribute__" = some (some (.builtin "BaseException.__getattribute__"))
 gn:findIn K (.ref D) "__getattr__" = some none
 be:mroIn K D (.type "BaseException")=some true
 is:(clsIn K D).isSome=true
 at':findIn K (.ref D) "__class__" = some (some (.builtin "object.__class__"))
 gt:specialIn K (.builtin "object.__class__") "__get__" = some (some (.builtin "getset_descriptor.__get__"))
 tk:takesIn K (.builtin "object.__class__")=some true
 ob:mroIn K D (.type "object")=some true
section
variable{K:Frag}{x D:Addr}
theorem XAt.type(I:XAt h x D):Looks M h (typeOf (.ref x)) (.ref D):=by
 obtain⟨ox,h1,h2,_⟩:=I;exact h2▸(Looks.ld h1).andThen .now
theorem Cr(X:K.In h)(c:fe K D):Looks M h (find (.ref x) (.ref D) "__class__") (.bind (.builtin "getset_descriptor.__get__") (.builtin "object.__class__")):=by
 have L1:=looks_findIn (M:=M) X c.at';have L2:Looks M h (getOf (some (.builtin "object.__class__"))) (some (.builtin "getset_descriptor.__get__")):=looks_specialIn X c.gt;have L3:=looks_takesIn (M:=M) X c.tk;refine L1.andThen (L2.andThen ?_);exact(show Looks M h (dataDescriptor? (some (.builtin "object.__class__")) (some (.builtin "getset_descriptor.__get__"))) (some (.builtin "getset_descriptor.__get__",.builtin "object.__class__")) from L3.andThen .now).andThen (Looks.tag .now)
theorem Ct{tp:Value}(X:K.In s.heap)(I:XAt s.heap x D)(hm:mroIn K D (.type "object")=some true)
  (h:R (.ok (.ret (.ref D))) s):codeAny (model prog w) A (.call (.builtin "getset_descriptor.__get__") ⟨[.builtin "object.__class__",.ref x,tp],[]⟩) R s:=by
 obtain⟨hh,g,dr,t,os⟩:=s;have L0:=I.type (M:=model prog w);have L1:=looks_mroIn (M:=model prog w) X hm;refine codeAny_call_builtin KF.slot_gs.plain KF.entry_gs (KF.slot_gs.check _ _ _ _ _ _ _ _ KF.type_class (KF.args_gs _ _ _) ?_);unfold Builtin.«getset_descriptor.__get__» descrGet;rw[dga_obj];refine Hf (Hi ?_);unfold descrGetter descrCheckInstance descrNameAndClass isInstance;simp only[KF.owner_class]
 repeat lk
 refine⟨Code.quiet_builtin _ (by decide +kernel),codeAny_builtin KF.entry_class ?_⟩;unfold Builtin.«object.__class__» shownTypeOf
 repeat lk
 exact h
theorem Cu{nameV:Value}{Q:Unit->Shared->Prop}(X:K.In s.heap)(I:XAt s.heap x D)(c:fe K D)(hq:Q () s):wpAny M A (checkBuiltinCall "BaseException.__getattribute__" ⟨[.ref x,nameV],[]⟩) Q E s:=by
 have hk:builtinKind "BaseException.__getattribute__" = some .slot:=by decide +kernel
 have hsplit:splitId "BaseException.__getattribute__" = some ("BaseException", "__getattribute__"):=by decide +kernel
 have ha:=PySem.F.args_bexc_ga (.ref x) nameV;have L0:=I.type (M:=M);have L1:=looks_mroIn (M:=M) X c.be;simp only[checkBuiltinCall,hk,hsplit];refine Hf ?_;unfold isInstance;refine Hf (L0.at (L1.at ?_))
 repeat (first|assumption|wp_step)
theorem Cv{Q:Fin->Shared->Prop}(X:K.In s.heap)(I:XAt s.heap x D)(c:fe K D)(hq:Q (.done (.ret (.ref D))) s) :
  wpAny (model prog w) A (Builtin.«object.__getattribute__» ⟨[.ref x,.str "__class__" tk],[]⟩) Q E s:=by
 obtain⟨hh,g,d,t,os⟩:=s;have L0:=I.type (M:=model prog w);have L2:=Cr (x:=x) (M:=model prog w) X c
 repeat (any_goals (first|assumption|(with_reducible refine L0.at ?_)|(with_reducible refine L2.at ?_)|wp_step))
 exact Ct (K:=K) (s:=⟨hh,g,d,t,os⟩) X I c.ob (Hi hq)
theorem tw(X:K.In s.heap)(I:XAt s.heap x D)(c:fe K D)(hq:R (.ok (.ret (.ref D))) s) :
  codeAny (model prog w) A (.call (.builtin "BaseException.__getattribute__") ⟨[.ref x,.str "__class__" tk],[]⟩) R s:=
 codeAny_call_builtin PySem.F.attr_ValueError.ga.plain PySem.F.entry_bexc_ga (Cu X I c (Cv X I c hq))
theorem Cw(X:K.In s.heap)(I:XAt s.heap x D)(c:fe K D)(h:Q (some (.ref D)) { s with toks:=s.toks+1 }):wpAny (model prog w) A (getAttr? (.ref x) "__class__") Q E s:=by
 obtain⟨hh,g,d,t,os⟩:=s;have L0:=I.type (M:=model prog w);have L1:=looks_findIn (M:=model prog w) X c.ga;have L3:=looks_findIn (M:=model prog w) X c.gn;have f3:=PySem.F.attr_ValueError.ga.bind (.ref x);have hx2:(Value.builtin "BaseException.__getattribute__" == Value.builtin "object.__getattribute__")=false:=by decide +kernel
 have hx1:(onTheHeap (Value.ref D)&&Value.builtin "BaseException.__getattribute__" == Value.builtin "object.__getattribute__")=false:=by rw[hx2];rfl
 unfold getAttr? getAttrBy?
 repeat (any_goals (first|assumption|(with_reducible refine L0.at ?_)|(with_reducible refine L1.at ?_)|(with_reducible refine L3.at ?_)|wp_step))
 exact tw (K:=K) (s:=⟨hh,g,d,t+1,os⟩) X I c (handed_on rfl (Hi h))
theorem zz(c:fe K D):KitX K (.ref x) (.ref D) (λh=>XAt h x D) where
 ty:=λ_ _ _ I=>I.type
 it:=λ_ _ X _=>by
  have hcD:=c.is;unfold clsIn at hcD;split at hcD
  .rename_i c' d' cd' sl' ho
   intro A' Q' E' s' k q;unfold isType loadHead;exact Hf (wpAny_loadPart (k _ _ (X _ _ ho)) (Hi q))
  .cases hcD
 ne:=λh tp dd its n sl X htp=>by
  have hcD:=c.is;refine Bool.eq_false_iff.mpr λq=>?_;have e:D=tp:=Value.ref.inj (beq_iff_eq.mp q);subst e;unfold clsIn at hcD;split at hcD
  .rename_i c' d' cd' sl' ho
   have z:=(X _ _ ho).symm.trans htp;cases z
  .cases hcD
 ca:=λX I k=>Cw X I c k
end
end
theorem Cy:fillsNumberSlot (.type "tuple") "mul" = pure false:=
 PySem.fillsNumberSlot_seq (id:= "tuple.__mul__") (r:=some (.builtin "tuple.__rmul__")) PySem.F.slot_tuple_mul.lookup (by decide +kernel) PySem.F.slot_tuple_rmul.lookup (by decide +kernel)
theorem Cz:seqRepeat? (.type "tuple")=pure (some (.builtin "tuple.__mul__")):=by
 unfold seqRepeat?;rw[PySem.seqSlot_of (T:= "tuple") (name:= "__mul__") (id:= "tuple.__mul__") PySem.F.slot_tuple_mul.lookup (by decide +kernel),PySem.seqSlot_of (T:= "tuple") (name:= "__rmul__") (id:= "tuple.__rmul__") PySem.F.slot_tuple_rmul.lookup (by decide +kernel)];rfl
theorem CA(a:Int)(t:Tok)(l:Addr)(items:Array Value)(n:Nat)(dd:Option Addr)(sl:Array (Option Value)) :
  Meets (Builtin.«int.__rmul__» ⟨[.int a t,.ref l],[]⟩) (λ_ R s=>s.heap.get? l=some { cls:=.type "tuple",dict:=dd,data:=.seq items n,slots:=sl }/\R (.ok (.ret Value.notImplemented)) s):=
 .of_wp λprog w A R s h=>by obtain⟨hp,g,d,tk,os⟩:=s;obtain⟨hl,h⟩:=h;wp_walk;exact⟨_,rfl,h⟩
theorem CB(l:Addr)(items:Array Value)(n:Nat)(dd:Option Addr)(sl:Array (Option Value))(k:Int)(t:Tok)(h1:-(2^63)<=k)(h1':k<2^63)(h2:(items.isEmpty||k==1)=true) :
  Meets (Builtin.«tuple.__mul__» ⟨[.ref l,.int k t],[]⟩) (λ_ R s=>s.heap.get? l=some { cls:=.type "tuple",dict:=dd,data:=.seq items n,slots:=sl }/\R (.ok (.ret (Value.ref l))) s):=by
 intro prog w A R s h;obtain⟨hp,g,d,tk,os⟩:=s;obtain⟨hl,h⟩:=h;have f1:=AutoSeq1.idx_int;have c1:¬(decide (k < -2^63)||decide (k ≥ 2^63))=true:=by simp;omega
 unfold Builtin.«tuple.__mul__»
 wp_walk using wpAny_loadPart' hl
 rw[if_neg c1]
 wp_walk using wpAny_loadPart' hl
 exact h
theorem CG(l:Addr)(items:Array Value)(n:Nat)(dd:Option Addr)(sl:Array (Option Value))(k:Int)(t:Tok)(h1:-(2^63)<=k)(h1':k<2^63)(h2:¬(items.isEmpty||k==1)=true)(h3:k<=0) :
  Meets (Builtin.«tuple.__mul__» ⟨[.ref l,.int k t],[]⟩) (λ_ R s=>s.heap.get? l=some { cls:=.type "tuple",dict:=dd,data:=.seq items n,slots:=sl }/\R (.ok (.ret (Value.ref s.heap.objs.size))) { s with heap:=s.heap.push { cls:=Value.type "tuple",data:=Data.seq #[] } }):=by
 intro prog w A R s h;obtain⟨hp,g,d,tk,os⟩:=s;obtain⟨hl,h⟩:=h;have f1:=AutoSeq1.idx_int;have c1:¬(decide (k < -2^63)||decide (k ≥ 2^63))=true:=by simp;omega
 have c2:(decide (k<=0)||items.isEmpty)=true:=by simp[h3]
 unfold Builtin.«tuple.__mul__»
 wp_walk using wpAny_loadPart' hl
 rw[if_neg c1]
 wp_walk using wpAny_loadPart' hl
 exact h
theorem CH(l:Addr)(items:Array Value)(n:Nat)(dd:Option Addr)(sl:Array (Option Value))(k:Int)(t:Tok)(h1:-(2^63)<=k)(h1':k<2^63)(h2:¬(items.isEmpty||k==1)=true)(h3:0<k)(h4:items.size*k.toNat<=sizeLine) :
  Meets (Builtin.«tuple.__mul__» ⟨[.ref l,.int k t],[]⟩) (λ_ R s=>s.heap.get? l=some { cls:=.type "tuple",dict:=dd,data:=.seq items n,slots:=sl }/\R (.ok (.ret (Value.ref s.heap.objs.size))) { s with heap:=s.heap.push { cls:=Value.type "tuple",data:=Data.seq (List.foldl (λx1 x2=>x1++x2) #[] (List.replicate k.toNat items)) } }):=by
 intro prog w A R s h;obtain⟨hp,g,d,tk,os⟩:=s;obtain⟨hl,h⟩:=h;have f1:=AutoSeq1.idx_int;have c1:¬(decide (k < -2^63)||decide (k ≥ 2^63))=true:=by simp;omega
 have c2:¬(decide (k<=0)||items.isEmpty)=true:=by
  have:items.isEmpty=false:=by cases q:items.isEmpty<;>simp_all
  simp[this];omega
 have hk:(items.size:Int)*k=((items.size*k.toNat:Nat):Int):=by rw[Int.natCast_mul,Int.toNat_of_nonneg (by omega)]
 have hsl:(sizeLine:Nat)=2^24:=rfl;have c3:¬((items.size:Int)*k>(2^63-1)/8):=by rw[hk];omega
 have c4:¬Builtin.Tuple.tupleTooMany ((items.size:Int)*k)=true:=λz=>by have z':=HJ z;rw[hk] at z';omega
 unfold Builtin.«tuple.__mul__»
 wp_walk using wpAny_loadPart' hl
 rw[if_neg c1]
 wp_walk using wpAny_loadPart' hl
 rw[if_neg c3]
 wp_walk using wpAny_loadPart' hl
 rw[if_neg c4]
 wp_walk using wpAny_loadPart' hl
 have hnew:List.foldl (λx1 x2=>x1++x2) #[] (List.replicate k.toNat items)=(List.replicate k.toNat items.toList).flatten.toArray:=by
  have:=cQ items.toList k.toNat [];rw[eG] at this;simpa using this
 have c5:¬((List.foldl (λx1 x2=>x1++x2) #[] (List.replicate k.toNat items)).size>sizeLine):=by
  rw[hnew,cM,fV,rf,Nat.mul_comm];omega
 rw[if_neg c5]
 wp_walk using wpAny_loadPart' hl
 exact h
section
theorem Inv.tnew{ys:List V}{its:List Value}(I:Inv X pins σ H s)(hv:Vals ys its)(hz:ys.length<=sizeLine) :
  Inv X pins σ (upd H s.heap.objs.size (.tup ys)) { s with heap:=s.heap.push { cls:=.type "tuple",data:=.seq its.toArray },toks:=t' }:=
 I.laid (λ_ _ q=>cv _ q) (bP _) ⟨hz,its,hv,IsTup.new _ _⟩
def tx(K:Hg):R2:=λx y H Q=>∃l k xs,x=.ref l/\y=.int k/\SqT K H l xs/\-(2^63)<=k/\k<2^63/\xs.length*k.toNat<=sizeLine/\
 ((xs=[]\/k=1)->Q (.ref l) H)/\∀p,H p=none->Q (.ref p) (upd H p (.tup (List.replicate k.toNat xs).flatten))
theorem CJ:OpR X (binaryOp .Mult) (tx X.K):=by
 intro pins s σ H x y v u Q I rx ry h;obtain⟨l,k,xs,rfl,rfl,hq,h1,h2,hz,q1,q2⟩:=h;cases rx;obtain⟨t,rfl⟩:=ry;obtain⟨its,r,pl,_⟩:=I.tuple hq;have hl:xs.length=its.length:=r.length;obtain⟨⟨cls,dd,data,sl⟩,ho,hc,n,hd⟩:=id pl;simp only at hc hd;subst hc hd;refine wpAny_binaryOp_repeat_ref (T:= "tuple") (U:= "int") (by decide) ⟨_,ho,rfl⟩ (λs'=>typeIs_int s' k t) Cy PySem.F.fills_int_mul PySem.F.slot_int_rmul Cz PySem.F.slot_int_index.lookup
  (call_meets PySem.F.slot_int_rmul (typeIs_int s k t) PySem.F.entry_int_rmul (PySem.F.args_int_rmul_2 _ _) (CA k t l its.toArray n dd sl) ⟨ho,rfl,⟨_,ho,rfl⟩,?_⟩)
 by_cases hs:(its.toArray.isEmpty||k==1)=true
 .refine call_meets PySem.F.slot_tuple_mul ⟨_,ho,rfl⟩ PySem.F.entry_tuple_mul (PySem.F.args_tuple_mul_2 _ _) (CB l its.toArray n dd sl k t h1 h2 hs) ⟨ho,⟨.ref l,H,I,rfl,q1 ?_⟩⟩
  rw[uO] at hs;rcases hs with hs|hs
  .exact .inl (r.nil_iff.mp (by simpa using hs))
  .exact .inr (beq_iff_eq.mp hs)
 .by_cases h3:k<=0
  .refine call_meets PySem.F.slot_tuple_mul ⟨_,ho,rfl⟩ PySem.F.entry_tuple_mul (PySem.F.args_tuple_mul_2 _ _) (CG l its.toArray n dd sl k t h1 h2 hs h3) ⟨ho,⟨.ref _,_,I.tnew (its:=[]) (ys:=(List.replicate k.toNat xs).flatten) (t':=s.toks) ?_ ?_,rfl,q2 _ I.fresh⟩⟩
   .rw[show k.toNat=0 by omega];exact .nil
   .rw[show k.toNat=0 by omega];exact gW _
  .have hnew:List.foldl (λx1 x2=>x1++x2) #[] (List.replicate k.toNat its.toArray)=(List.replicate k.toNat its).flatten.toArray:=by
    have:=cQ its k.toNat [];rw[eG] at this;exact this
   refine call_meets PySem.F.slot_tuple_mul ⟨_,ho,rfl⟩ PySem.F.entry_tuple_mul (PySem.F.args_tuple_mul_2 _ _) (CH l its.toArray n dd sl k t h1 h2 hs (by omega) (by rw[cM,<-hl];exact hz)) ⟨ho,?_⟩;rw[hnew];exact⟨.ref _,_,I.tnew (t':=s.toks) (r.rep k.toNat) (by rw[fV,Nat.mul_comm];exact hz),rfl,q2 _ I.fresh⟩
end
theorem CK(h:Heap)(hb:sysModules<h.objs.size):ObjOk P w H (h.push { cls:=.type "dict",data:=.dict #[] }) h.objs.size (.dK []):=
 ⟨gW _,beq_eq_false_iff_ne.mpr (Hv (er hb)),[],.nil,Heap.DictOf.new h⟩
theorem CL:PE X (.Dict [] [] pos) (λ_ H Q=>∀p,H p=none->Q (.ref p) (upd H p (.dK []))):=λpins s σ H Q I h=>
 wpAny_Dict_empty ⟨.ref s.heap.objs.size,_,I.laid (a:=s.heap.objs.size) (o:=.dK []) (t':=s.toks) (λ_ _ q=>cv _ q) (bP _) (CK s.heap (jU (by decide) (I.mod.glob.keeps I.bk).lt)),rfl,h _ (I.hok.fresh (bP _))⟩
section
theorem xn{α β:Type}{F:α->β->Prop}:∀{l₁:List α} {l₂:List β},l₁.length=l₂.length->(∀(j:Nat) x y,l₁[j]? = some x->l₂[j]? = some y->F x y)->Paired F l₁ l₂
 |[],[],_,_=>.nil
 |[],_::_,h,_=>by simp at h
 |_::_,[],h,_=>by simp at h
 |a::l,b::m,h,f=>.cons (f 0 a b rfl rfl) (xn (by simpa using h) λj x y e1 e2=>f (j+1) x y (by simpa using e1) (by simpa using e2))
end
end L2
namespace PySem
open Sem (wp)
open AutoSeq1 (wpAny_loadPart')
namespace F
theorem xo:Manifest.owners.lookup (String.ofList ['d','e','s','r','e','v','e','r'].reverse)=some Manifest.sig_reversed:=by kernel_rfl
theorem CM:Slot "reversed" "__init__" "object.__init__" :=
 .of (owner:= "object") (n:= "__init__") (by rw[typeLookup_type,builtinLookup_eq_fast];kernel_rfl) (by decide +kernel) (by decide +kernel) (by decide +kernel)
  (by first|exact .inl (by decide +kernel)|exact .inr (by decide +kernel)) (by rw[isSubtype_type];kernel_rfl)
theorem slot_reversed_iter:Slot "reversed" "__iter__" "reversed.__iter__" :=
 .of (owner:= "reversed") (n:= "__iter__") (by rw[typeLookup_type,builtinLookup_eq_fast];kernel_rfl) (by decide +kernel) (by decide +kernel) (by decide +kernel)
  (by first|exact .inl (by decide +kernel)|exact .inr (by decide +kernel)) (by rw[isSubtype_type];kernel_rfl)
theorem slot_reversed_next:Slot "reversed" "__next__" "reversed.__next__" :=
 .of (owner:= "reversed") (n:= "__next__") (by rw[typeLookup_type,builtinLookup_eq_fast];kernel_rfl) (by decide +kernel) (by decide +kernel) (by decide +kernel)
  (by first|exact .inl (by decide +kernel)|exact .inr (by decide +kernel)) (by rw[isSubtype_type];kernel_rfl)
theorem slot_reversed_hint:Slot "reversed" "__length_hint__" "reversed.__length_hint__" :=
 .of (owner:= "reversed") (n:= "__length_hint__") (by rw[typeLookup_type,builtinLookup_eq_fast];kernel_rfl) (by decide +kernel) (by decide +kernel) (by decide +kernel)
  (by first|exact .inl (by decide +kernel)|exact .inr (by decide +kernel)) (by rw[isSubtype_type];kernel_rfl)
theorem entry_reversed_iter:entryFor table "reversed.__iter__" = some Builtin.«dict_keyiterator.__iter__»:=
 entryFor_alias (id':= "dict_keyiterator.__iter__") (by kernel_rfl) (by first|rfl|decide +kernel|(unfold String.splitOn;simp +decide [String.splitOnAux])) (by decide +kernel) (by kernel_rfl)
theorem entry_reversed_next:entryFor table "reversed.__next__" = some Builtin.«reversed.__next__»:=entryFor_of_tree (by kernel_rfl)
theorem entry_reversed_hint:entryFor table "reversed.__length_hint__" = some Builtin.«reversed.__length_hint__»:=entryFor_of_tree (by kernel_rfl)
theorem args_reversed_iter_1(a:Value):argsOk "reversed.__iter__" ⟨[a],[]⟩:=by
 unfold argsOk;rw[signature?_of (id:= "reversed.__iter__") (n:=['_','_','r','e','t','i','_','_']) (o:=['d','e','s','r','e','v','e','r']) (by kernel_rfl) xo];kernel_rfl
theorem args_reversed_next_1(a:Value):argsOk "reversed.__next__" ⟨[a],[]⟩:=by
 unfold argsOk;rw[signature?_of (id:= "reversed.__next__") (n:=['_','_','t','x','e','n','_','_']) (o:=['d','e','s','r','e','v','e','r']) (by kernel_rfl) xo];kernel_rfl
theorem args_reversed_hint_1(a:Value):argsOk "reversed.__length_hint__" ⟨[a],[]⟩:=by
 unfold argsOk;rw[signature?_of (id:= "reversed.__length_hint__") (n:=['_','_','t','n','i','h','_','h','t','g','n','e','l','_','_']) (o:=['d','e','s','r','e','v','e','r']) (by kernel_rfl) xo];kernel_rfl
theorem called_reversed:TypeCalled "reversed" "reversed.__new__" "object.__init__" :=
 ⟨by decide +kernel,by decide +kernel,⟨_,_,mro_reversed⟩,madeBy_type mro_reversed lookup_reversed_new (by decide +kernel),by decide +kernel,by rw[isSubtype_type];kernel_rfl,CM⟩
theorem tuple_no_reversed:typeLookup (.type "tuple") "__reversed__" = pure none:=by rw[typeLookup_type,builtinLookup_eq_fast];kernel_rfl
theorem reversed_no_len:typeLookup (.type "reversed") "__len__" = pure none:=by rw[typeLookup_type,builtinLookup_eq_fast];kernel_rfl
end F
def lb(t:Addr)(k:Int):Obj:={ cls:=.type "reversed",data:=.fields #[.ref t,rawInt k] }
theorem CN(t:Addr)(items:Array Value)(hfit:(items.size:Int)<2^63) :
  Meets (Builtin.«reversed.__new__» ⟨[.type "reversed",.ref t],[]⟩) (λ_ R s=>PyProof.Rows.IsTup s.heap t items/\R (.ok (.ret (.ref s.heap.objs.size))) { s with heap:=s.heap.push (lb t ((items.size:Int)-1)),toks:=s.toks+1+1 }):=
 .of_wp λprog w A R s h=>by
  obtain⟨ht,h⟩:=h;unfold Builtin.«reversed.__new__»;refine Hf (HE (newClass_reversed _) ?_)
  try dsimp only
  refine Hf (HE (a:=()) (by first|rfl|kernel_rfl) ?_);refine Hf (HE (a:=()) (by first|rfl|kernel_rfl) ?_)
  try dsimp only
  refine Hf (HI ht.typeIs F.tuple_no_reversed ?_)
  try dsimp only
  refine Hf ?_
  wp_delta
  refine Hf (wpAny_isInstance (T:= "tuple") (b:=false) ht.typeIs (by rw[isSubtype_type];kernel_rfl) ?_);refine Hw (λhab=>Hj hab (by decide)) (λ_=>?_);refine Hf (HI ht.typeIs PyProof.Rows.slot_tuple_getitem.lookup ?_);refine Hw (λ_=>?_) (λhab=>Hj rfl hab);refine Hi ?_;refine Hw (λhab=>Hj hab (by decide)) (λ_=>?_);refine Hf (PyProof.Rows.len_tuple ht hfit ?_);refine Hf (HE (a:=some (items.size:Int)) rfl ?_);refine Hf (m:=newObj (.type "reversed") (.fields #[.ref t,rawInt ((items.size:Int)-1)])) (Hq ?_ (by size_fits));exact Hi ⟨_,rfl,h⟩
section
variable{prog:Program}{w:World}{A:Around}{E:Value->Shared->Prop}{s:Shared}
theorem CO{t:Addr}{items:Array Value}{Q:Value->Shared->Prop}(ht:PyProof.Rows.IsTup s.heap t items)(hfit:(items.size:Int)<2^63)
  (h:Q (.ref s.heap.objs.size) { s with heap:=s.heap.push (lb t ((items.size:Int)-1)),toks:=s.toks+1+1 }):wpAny (model prog w) A (call (.type "reversed") [.ref t]) Q E s:=by
 refine callType_new F.called_reversed (by decide) (F.typeCall_reversed_1 _) (F.newCall_reversed_1 _) (λobj=>F.args_object_init_2 obj _) F.entry_reversed_new (CN t items hfit) ⟨ht,?_⟩;exact⟨⟨_,eV _ rfl,rfl⟩,h⟩
def ZcB(h:Heap)(a t:Addr)(i:Int):Prop:=∃o,h.get? a=some o/\o.cls=.type "reversed" /\o.data=.fields #[.ref t,rawInt i]
theorem ZcB.typeIs{s:Shared}{a t:Addr}{i:Int}(x:ZcB s.heap a t i):s.TypeIs (.ref a) "reversed" :=let⟨o,ho,hc,_⟩:=x;⟨o,ho,hc⟩
theorem ZcB.at{h h':Heap}{a t:Addr}{i:Int}(x:ZcB h a t i)(e:∀o,h.get? a=some o->h'.get? a=some o):ZcB h' a t i:=let⟨o,ho,r⟩:=x;⟨o,e _ ho,r⟩
theorem CP{it t:Addr}{i:Nat}{items:Array Value}{x:Value}{Q:Option Value->Shared->Prop}(hit:ZcB s.heap it t (i:Int))(ht:PyProof.Rows.IsTup s.heap t items)(hx:items[i]? = some x)(hz:(items.size:Int)<2^63)
  (hQ:∀h' tk,ZcB h' it t ((i:Int)-1)->Heap.SameBut it s.heap h'->Q (some x) { s with heap:=h',toks:=tk }):wpAny (model prog w) A (pyNext (.ref it)) Q E s:=by
 obtain⟨o,ho,hc,hd⟩:=id hit;have hi:i<items.size:=by
  rcases jW i items.size with z|z
  .exact z
  .rw[Array.getElem?_eq_none z] at hx;cases hx
 unfold pyNext;refine Hf (HU (wpAny_callSpecial?_slot (name:=Str.ofString "__next__") hit.typeIs F.slot_reversed_next
  (HG F.slot_reversed_next hit.typeIs F.entry_reversed_next ?_ (F.args_reversed_next_1 _))))
 unfold Builtin.«reversed.__next__»;refine Hf (HE (a:=(Value.ref it,[])) rfl ?_)
 try dsimp only
 refine Hf (Hu ho hd (x:=.ref t) rfl ?_);refine Hf (Hu ho hd (x:=rawInt (i:Int)) rfl ?_);show wpAny _ _ (if(i:Int)<0 then _ else _) _ _ s;rw[if_neg (by omega)];refine Hf (HI ht.typeIs PyProof.Rows.slot_tuple_getitem.lookup ?_);refine Hw (λhab=>Hj hab (by decide)) (λ_=>?_);refine Hf (wpAny_mkInt ?_);refine Hf (HU (PyProof.Rows.getItem_tuple (s:={ s with toks:=s.toks+1 }) (j:=i) ht (by omega) (by omega) (by unfold seqIndex?;simp;omega) hx ?_))
 try dsimp only
 refine Hf (Hu ho hd (x:=rawInt (i:Int)) rfl ?_)
 try dsimp only[rawInt]
 refine Hf (HK ho hd (by simp) ?_);refine Hi ⟨x,rfl,Hi (hQ _ _ ?_ (Heap.SameBut.update ..))⟩;exact ⟨_,ou _ ho (Obj.isFreed_of_fields (Obj.data_mapFields hd _)),(Obj.cls_mapFields ..).trans hc,by
  rw[Obj.data_mapFields hd];simp[rawInt]⟩
theorem CQ{it t:Addr}{items:Array Value}{Q:Option Value->Shared->Prop}(hh:A.handled=none)(hit:ZcB s.heap it t (-1))(ht:PyProof.Rows.IsTup s.heap t items)
  (hQ:∀h',Heap.ExtBut it s.heap h'->Q none { s with heap:=h' }):wpAny (model prog w) A (pyNext (.ref it)) Q E s:=by
 obtain⟨o,ho,hc,hd⟩:=id hit;unfold pyNext;refine Hf (HU (wpAny_callSpecial?_slot (name:=Str.ofString "__next__") hit.typeIs F.slot_reversed_next
  (HG F.slot_reversed_next hit.typeIs F.entry_reversed_next ?_ (F.args_reversed_next_1 _))))
 unfold Builtin.«reversed.__next__»;refine Hf (HE (a:=(Value.ref it,[])) rfl ?_)
 try dsimp only
 refine Hf (Hu ho hd (x:=.ref t) rfl ?_);refine Hf (Hu ho hd (x:=rawInt (-1)) rfl ?_);refine Hw (λ_=>?_) (λhab=>Hj (by decide) hab);refine Hf (HR ?_);refine Hf ?_
 wp_delta
 refine Hf (HK ho hd (by simp) ?_);have ho2:=ou (Obj.mapFields λfs=>fs.set! 1 (rawInt (-1))) ho (Obj.isFreed_of_fields (Obj.data_mapFields hd _));refine HK ho2 (Obj.data_mapFields hd _) (by simp) ?_;refine Hf ?_;unfold Builtin.SmallTypes.stopIteration;show wpAny _ _ (newExc (.type "StopIteration") [] >>= _) _ _ _;refine Hf ?_;simp only[newExc,newTuple];refine Hf (Hq ?_ (by size_fits));refine Hf (m:=firstArgMember _ _) (HE (a:=Value.none) (by first|rfl|(simp only[firstArgMember];rfl)) ?_);refine Hq ?_ (by size_fits);simp only[raiseNew];refine Hf (wpAny_handled ?_)
 first|rw[show A.in1.handled=none from hh]|rw[hh]
 refine Hf (Hi (wpAny_throw ?_));refine Hf (wpAny_isInstance (T:= "StopIteration") (b:=true) ⟨_,eV _ rfl,rfl⟩ isSubtype_stop ?_);exact Hi (hQ _ ((((Heap.SameBut.update ..).trans (Heap.SameBut.update ..)).extBut.push _).push _))
theorem zA{it t:Addr}{i:Int}{Q:Value->Shared->Prop}(hit:ZcB s.heap it t i)(h:Q (.ref it) s):wpAny (model prog w) A (pyIter (.ref it)) Q E s:=by
 refine wpAny_pyIter_slot hit.typeIs F.slot_reversed_iter (HG F.slot_reversed_iter hit.typeIs F.entry_reversed_iter ?_ (F.args_reversed_iter_1 _));show wpAny _ _ (ret (.ref it)) _ _ s;exact Hi ⟨_,rfl, "reversed",_,hit.typeIs,F.slot_reversed_next.lookup,h⟩
end
theorem Walks.rvt{prog:Program}{w:World}{A:Around}(hh:A.handled=none)(I ax:Addr)(hne:ax≠I)(items:Array Value)(hz:(items.size:Int)<2^63) :
  Walks prog w A I [I,ax] [I] items.size (λi v=>items[items.size-1-i]? = some v) (λi h=>ZcB h I ax ((items.size:Int)-1-(i:Nat))/\PyProof.Rows.IsTup h ax items) where
 sub:=λb hb=>by simp at hb;simp[hb]
 frame:=λ_ _ _ st hk=>⟨st.1.at λo e=>hk I (by simp) o e,Heap.IsTuple.at st.2 λo e=>hk ax (by simp) o e⟩
 item:=λi s Q E hi st hQ=>by
  have e0:(items.size:Int)-1-(i:Nat)=((items.size-1-i:Nat):Int):=by omega
  have st1:=st.1;rw[e0] at st1;refine CP st1 st.2 (x:=items[items.size-1-i]) (by simp) hz λh' tk hit' hs'=>?_;refine hQ _ h' tk (by simp) ⟨?_,Heap.IsTuple.extBut st.2 hs'.extBut hne⟩ λb o hb e=>hs'.extBut b o (λh=>hb (by simp[h])) e;rw[show(items.size:Int)-1-((i+1:Nat):Int)=((items.size-1-i:Nat):Int)-1 by omega];exact hit'
 done:=λs Q E st hQ=>by
  have st1:=st.1;rw[show(items.size:Int)-1-(items.size:Nat) = -1 by omega] at st1;exact CQ hh st1 st.2 λh' he'=>hQ h' s.toks λb o hb e=>he' b o (λh=>hb (by simp[h])) e
 self:=λ_ _ _ _ st hQ=>zA st.1 hQ
section
variable{prog:Program}{w:World}{A:Around}{E:Value->Shared->Prop}{s:Shared}
theorem CU{r t:Addr}{items:Array Value}{Q:Value->Shared->Prop}(hit:ZcB s.heap r t ((items.size:Int)-1))(ht:PyProof.Rows.IsTup s.heap t items)(hz:(items.size:Int)<2^63)
  (h:∀tk,Q (.int items.size tk) { s with toks:=tk+1 }):wpAny (model prog w) A (call (.builtin "reversed.__length_hint__") [.ref r]) Q E s:=by
 obtain⟨o,ho,hc,hd⟩:=id hit;refine HG F.slot_reversed_hint hit.typeIs F.entry_reversed_hint ?_ (F.args_reversed_hint_1 _);unfold Builtin.«reversed.__length_hint__»;refine Hf (HE (a:=Value.ref r) rfl ?_)
 try dsimp only
 refine Hf (Hu ho hd (x:=.ref t) rfl ?_);refine Hw (λhab=>Hj hab (by simp)) (λ_=>?_);refine Hf (PyProof.Rows.len_tuple ht hz ?_);refine Hf (HE (a:=some (items.size:Int)) rfl ?_);refine Hf (Hu (s:={ s with toks:=s.toks+1+1 }) ho hd (x:=rawInt ((items.size:Int)-1)) rfl ?_)
 try dsimp only[rawInt]
 refine Hw (λhab=>Hj hab (by omega)) (λ_=>?_);rw[show(items.size:Int)-1+1=items.size by omega];exact Hf (wpAny_mkInt (Hi ⟨_,rfl,h _⟩))
theorem CV{r t:Addr}{items:Array Value}{Q:Bool->Shared->Prop}(hit:ZcB s.heap r t ((items.size:Int)-1))(ht:PyProof.Rows.IsTup s.heap t items)(hz:items.size<=2^24)
  (h:∀tk,Q ((items.size:Int) != 0) { s with toks:=tk+1 }):wpAny (model prog w) A (Builtin.List.listLengthHint (.ref r)) Q E s:=by
 unfold Builtin.List.listLengthHint;refine Hf (HI hit.typeIs F.reversed_no_len ?_)
 try dsimp only
 refine Hw (λhab=>Hj hab (by decide)) (λ_=>?_);refine Hw (λhab=>Hj hab (by decide)) (λ_=>?_);refine Hf (HI hit.typeIs F.slot_reversed_hint.lookup ?_);generalize hid:("reversed.__length_hint__" : String)=id0
 try dsimp only
 rw[show splitId id0=some ("reversed", "__length_hint__") from by subst hid;decide +kernel];subst hid
 try dsimp only
 refine Hf (wpAny_isInstance (T:= "reversed") (b:=true) hit.typeIs F.sub_reversed_self ?_);refine Hw (λhab=>Hj hab (by decide)) (λ_=>?_);refine Hw (λhab=>Hj hab (by decide +kernel)) (λ_=>?_);refine Hf (HR ?_);refine Hf (HE (F.slot_reversed_hint.bind _) ?_)
 try dsimp only
 refine Hf (HU (CU hit ht (by omega) λtk=>?_))
 try dsimp only
 have htl:Builtin.List.listTooLong ((items.size:Int).toNat)=false:=by simp[Builtin.List.listTooLong,sizeLine];omega
 generalize items.size=n at *;rw[show asInt? (Value.int (n:Int) tk)=pure (some (n:Int)) from rfl,pure_bind];dsimp only;have hf:Builtin.List.listFitsIndex (n:Int)=true:=by
  unfold Builtin.List.listFitsIndex;simp only[cf,Hk];omega
 have hn:¬((n:Int)<0):=by omega
 rw[hf,htl,if_neg (show¬((!true)=true) by decide),if_neg hn,if_neg (show¬(false=true) by decide)];exact Hi (h _)
theorem CW{R:Result->Shared->Prop}{r t:Addr}{items:Array Value}(hh:A.handled=none)(hit:ZcB s.heap r t ((items.size:Int)-1))(ht:PyProof.Rows.IsTup s.heap t items)(hne:t≠r)(hlen:items.size<=2^24)
  (S:Addr) (res:Value) (c₀:Nat) (hS:s.heap.get? S=some { cls:=.type "list",data:=.seq #[] c₀ })
  (hR:∀ h' tk acc' c',(∀ b o,b≠S->b≠r->s.heap.get? b=some o->h'.get? b=some o)->h'.get? S=some { cls:=.type "list",dict:=none,data:=.seq acc' c',slots:=#[] }->
   ItemsOf (λi v=>items[items.size-1-i]? = some v) acc' items.size->R (.ok (.ret res)) { s with heap:=h',toks:=tk }) :
  wpAny (model prog w) A.in1 (Builtin.List.listExtendWith (.ref S) (.ref r) res)
   (λfin s'=>match fin with|.done f=>R (.ok f) s'|.again c'=>c'.quiet=true/\codeAny (model prog w) A c' R s') (λe s'=>R (.error e) s') s:=by
 have hSr:S≠r:=λe=>by obtain⟨o,ho,hc,_⟩:=hit;rw[<-e,hS] at ho;cases ho;simp at hc
 have hSt:S≠t:=λe=>by obtain⟨o,ho,hc,_⟩:=ht;rw[<-e,hS] at ho;cases ho;simp at hc
 have W:=(Walks.rvt (prog:=prog) (w:=w) (A:=A.in1) hh r t hne items (by omega)).toS;have key:∀(h:Heap) (c₁ tk:Nat),(∀b o,b≠S->s.heap.get? b=some o->h.get? b=some o)->
   h.get? S=some { cls:=.type "list",data:=.seq #[] c₁ }->codeAny (model prog w) A (.builtin "list.extend.loop" ⟨[.ref S,.ref r,res],[]⟩) R { s with heap:=h,toks:=tk }:=by
  intro h c₁ tk hk hS₁;have st0:ZcB h r t ((items.size:Int)-1-((0:Nat):Int))/\PyProof.Rows.IsTup h t items:=
   ⟨by rw[show(items.size:Int)-1-((0:Nat):Int)=(items.size:Int)-1 by omega];exact hit.at λo e=>hk r o (Hv hSr) e,Heap.IsTuple.at ht λo e=>hk t o (Hv hSt) e⟩
  refine codeAny_extend_loopS W (by rw[sizeLine_eq];omega) S (by simp[hSr,hSt]) res items.size 0 _ #[] c₁ rfl (gW _) st0 hS₁ (ItemsOf.nil _) λs' acc' c' hm hS' hacc=>?_;rw[Moved.eq_with hm];refine hR s'.heap s'.toks acc' c' (λb o hb hb2 e=>hm.heap b o (λhmem=>?_) (hk b o hb e)) hS' hacc;simp only[Yam,eZ,or_false] at hmem;rcases hmem with e'|e'
  .exact hb e'
  .exact hb2 e'
 unfold Builtin.List.listExtendWith;refine Hf (HN (T:= "reversed") hit.typeIs ?_);have h1:Builtin.List.listSameRef (.ref S) (.ref r)=false:=by simp[Builtin.List.listSameRef,hSr]
 have h2:(Value.type "reversed" == Value.type "list")=false:=by decide
 have h3:(Value.type "reversed" == Value.type "tuple")=false:=by decide
 simp only[h1,h2,h3,Bool.or_false,cw,if_false];refine Hf (zA hit ?_);refine Hf (Hz (CV hit ht hlen λtk=>?_));refine Hw (λ_=>?_) (λ_=>Hi ⟨plainId_quiet F.plain_extend_loop _,key _ c₀ _ (λb o _ e=>e) hS⟩);refine Hf (HR ?_);refine Hf ?_;show wpAny _ _ (updateSeq S (·.push .none) >>= λ_=>updateSeq S (·.pop)) _ _ _;refine Hf (wpAny_updateSeq hS rfl ?_);have hS₂:=ou (Obj.mapSeq (·.push Value.none)) hS rfl;refine wpAny_updateSeq (hz:=by seq_fits) hS₂ rfl ?_;have hS₃:=ou (Obj.mapSeq (·.pop)) hS₂ rfl;refine Hi ⟨plainId_quiet F.plain_extend_loop _,key _ _ _ (λb o hb e=>?_) hS₃⟩;exact(lZ _ _ (Hv hb)).trans ((lZ _ _ (Hv hb)).trans e)
end
end PySem
namespace L2
open PySem PySem.Spec PyProof.Rows
variable{X:Cx}{E:Value->Shared->Prop}{pos:Pos}{es:List Expr}{tc ta:TE}{t:TA}{prog P:Program}{w:World}{A:Around}{s:Shared}{x:Str}{Q:List Value->Shared->Prop}{K:Hg}{tg a b:Expr}{v:Value}{h:Heap}{N fI:Addr}{m mg:Str->Option Value}{bmB sub:List Value}{newId:String}{fd:FuncData}{ps sn:List Str}{k:Nat}{g:Array GenState}{hdct ab:Bool}{col:Option Bool}
section
variable{CX:i6}{E:XK}{c e:Expr}
def CY(X:Cx)(CX:i6)(E:XK)(tc:TE)(t:TA):TE:=λσ H Q=>tc σ H λx H1=>∃(f:Addr) (k:Nat) (fd:FuncData) (ps:List Str) (sp:Sp),x=.ref f/\FnOk X.prog X.w X.K X.mg X.base CX k f fd ps sp/\Room k X.A/\PySem.W.keepIn X.K (.ref f)=true/\Binds X.K fd ps []/\t σ H1 λvs H2=>sp vs H2 Q E
theorem CZ(hx:aM CX X E)(hc:PE X c tc)(ha:PA X (e::es) t)
  (hcall:eval (.Call c (e::es) [] pos) X.env=(do callWith pos (<-eval c X.env) [] (backTo pos (starEach (e::es) X.env)) (backToKw pos (keywordEach [] X.env))):=by rfl)
  (he:starEach (e::es) X.env=(false,eval e X.env)::starEach es X.env:=by rfl) (hpl:(backTo pos (starEach es X.env)).any (·.1)=false:=by rfl) :
  PE X (.Call c (e::es) [] pos) (CY X CX E tc t):=by
 intro pins s σ H Q I h;rw[hcall];refine Hf (aV (hc pins s σ H _ I h) λu s1 ⟨x,H1,I1,r1,f,k,fd,ps,sp,ex,F,hr,hk,hb,q1⟩=>?_);subst ex;cases r1;refine PySem.W.callWith_K (h₀:=X.base) I1.ok.mod.kin hk (aV (ha pos pins s1 σ H1 _ I1 q1) λus s2 ⟨vs,H2,I2,r,q⟩=>⟨I2.kIn,?_⟩) he hpl;exact eO F hr hb .nil hx I2 r (by rw[jj];exact q)
end
open PySem.Builtin PySem.Builtin.Str in
theorem C0{y:Str}{t u:Tok}{Q:Value->Shared->Prop}(hy:(y.length==0)=false)(hsz:x.length+2<=sizeLine)
  (h:∀(l:List (Str×Tok)) (k:Nat),l.map (·.1)=Txt.split x y->Q (.ref s.heap.objs.size) { s with heap:=s.heap.push { cls:=.type "list",data:=.seq (strValues l).toArray },toks:=k }) :
  wpAny (model prog w) A (call (.builtin "str.split") [.str x t,.str y u]) Q E s:=by
 have hn:(partsBetween x (occurrences x y 0 x.length (x.length+1)) y.length).length<=sizeLine:=by
  have e1:=StrLaws.occ_length_le x y 0 x.length (x.length+1);rw[length_partsBetween];omega
 cases h1:(decide (x.length<y.length)||decide (strKind x<strKind y))
 .cases hf:(occurrences x y 0 x.length (x.length+1)).isEmpty
  .refine call_meets F.slot_str_split (typeIs_str _ _ _) F.entry_str_split (F.args_str_split_2 _ _) (meets_str_split_sep x y t u h1 hy hf (by omega) hn) ?_
   show wants Q E _ { s with toks:=_,heap:=s.heap.push { cls:=.type "list",data:=.seq (strsFrom s.toks (partsBetween x (occurrences x y 0 x.length (x.length+1)) y.length)).toArray } };rw[strsFrom_eq];exact h (numbered s.toks _) _ ((numbered_texts _ _).trans ((if_neg (ne_true_of_eq_false h1)).trans (if_neg (ne_true_of_eq_false hf))).symm)
  .exact call_meets F.slot_str_split (typeIs_str _ _ _) F.entry_str_split (F.args_str_split_2 _ _) (meets_str_split_not_found x y t u h1 hy hf)
    (h [(x,t)] s.toks ((if_neg (ne_true_of_eq_false h1)).trans (Hh hf)).symm)
 .exact call_meets F.slot_str_split (typeIs_str _ _ _) F.entry_str_split (F.args_str_split_2 _ _) (meets_str_split_cannot_occur x y t u h1)
   (h [(x,t)] s.toks (Hh h1).symm)
theorem zB:∀(l:List (Str×Tok)),Vals ((l.map (·.1)).map V.str) (strValues l)
 |[]=>.nil
 |(x,t)::l=>.cons ⟨t,rfl⟩ (zB l)
section
theorem C1:nG X "str.split" (λx xs H Q=>∃a b,x=.str a/\xs=[.str b]/\(b.length==0)=false/\a.length+2<=sizeLine/\(Txt.split a b).length<=sizeLine/\∀p,H p=none->Q (.ref p) (upd H p (.lst ((Txt.split a b).map V.str)))):=by
 rintro pins s σ H _ _ v us Q I rx rs ⟨a,b,rfl,rfl,hb,hs,hl,q⟩;obtain⟨t,rfl⟩:=rx;obtain⟨u,rfl,t',rfl⟩:=bS rs;refine C0 hb hs λl k e=>?_;have hf:H s.heap.objs.size=none:=I.hok.fresh (bP _);refine⟨.ref s.heap.objs.size,upd H s.heap.objs.size (.lst ((Txt.split a b).map V.str)),I.laid (t':=k) (λb u e=>cv _ e) (bP _) ?_,rfl,q _ hf⟩;rw[<-e] at hl ⊢;exact⟨by rw[bR];exact hl,strValues l,0,zB l,eV _ rfl⟩
theorem C2:nG X "str.removeprefix" (λx xs H Q=>∃a b,x=.str a/\xs=[.str b]/\a.length<=sizeLine/\Q (.str (Txt.removeprefix a b)) H):=by
 rintro pins s σ H _ _ v us Q I rx rs ⟨a,b,rfl,rfl,hs,q⟩;obtain⟨t,rfl⟩:=rx;obtain⟨u,rfl,t',rfl⟩:=bS rs;exact PySem.SC.removeprefix (λt' k=>⟨.str _,H,I.tok _,⟨_,rfl⟩,q⟩) hs
theorem zC:∀{ys:List Str} {us:List Value},Vals (ys.map V.str) us->StrsAre us ys
 |[],_,.nil=>.nil
 |y::ys,_,.cons r t=>by
  obtain⟨k,rfl⟩:=r;exact .cons _ _ (zC t)
theorem C3:nG X "str.join" (λx xs H Q=>∃a p ys,x=.str a/\xs=[.ref p]/\SqL X.K H p (ys.map V.str)/\a.length<=16/\(ys.map (·.length)).sum+ys.length<=1048576/\Q (.str (Txt.join a ys)) H):=by
 rintro pins s σ H _ _ v us Q I rx rs ⟨a,p,ys,rfl,rfl,hq,ha,hl,q⟩;obtain⟨t,rfl⟩:=rx;obtain⟨u,rfl,rfl⟩:=bS rs;obtain⟨its,rv,pl,hz⟩:=I.list hq;exact join_listW pl.isList (by simpa using zC rv) ha hl λt' k=>⟨.str _,H,I.tok _,⟨_,rfl⟩,q⟩
theorem C4:bY X (.type "int") (λxs H Q=>∃x n,xs=[.str x]/\PySem.intText? x=some n/\x.length<=640/\Q (.int n) H):=by
 rintro pins s σ H vs us Q I r ⟨x,n,rfl,e,hl,q⟩;obtain⟨u,rfl,t,rfl⟩:=bS r;exact PySem.W.KIN.call_text e hl ⟨.int n,H,I.tok _,⟨_,rfl⟩,q⟩
def zD(x:Str):It:=⟨λi _=>i<x.cps.size,λi H v H'=>H'=H/\∃c,x.cps[i]? = some c/\v=.str ⟨#[c]⟩,λi _=>x.cps.size<=i⟩
theorem C5(x:Str)(it:Addr):jl P w K tg (zD x) [it] it (λi h=>∃t,h.IsStrIter it "str_ascii_iterator" x t i) where
 mem:=by simp
 obj:=λi h st b hb=>by
  have e:b=it:=by simpa using hb
  subst e;obtain⟨t,o,e,c,d⟩:=st;exact⟨o,e,λv z=>by rw[d] at z;cases z⟩
 keep:=λi h h' st k=>by
  obtain⟨t,o,e,c,d⟩:=st;exact⟨t,o,k it (by simp) o e,c,d⟩
 item:=by
  intro X hP hw hK hc i pins s σ H E I hf st hg;subst hP hw hK;obtain⟨t,st⟩:=st;have hi:i<x.cps.size:=hg;obtain⟨f0,f1,f2,f3,f4,f5⟩:=hf it (by simp);have hx:x.cps[i]? = some x.cps[i]:=wm hi;refine wpAny_pyNext_ascii_item st hx λh' st' sb=>?_;have I1:Inv X pins σ H { s with heap:=h',toks:=s.toks+1 }:=I.turned (λb o hb e=>(sb.2 b hb).trans e) f0 f1 f3 f4 f5;obtain⟨o,e,c,d⟩:=id st';exact⟨_,rfl,iV (s:={ s with heap:=h',toks:=s.toks+1 }) e c d (by decide) ⟨.str _,H,I1,⟨_,rfl⟩,⟨rfl,_,hx,rfl⟩,⟨t,st'⟩,λb hb=>(hf b hb).1⟩⟩
 done:=by
  intro X hP hw hK hc i pins s σ H E I hf st hg;subst hP hw hK;obtain⟨t,st⟩:=st;have hi:x.cps.size<=i:=hg;obtain⟨f0,f1,f2,f3,f4,f5⟩:=hf it (by simp);exact wpAny_pyNext_ascii_end (I.ok.hd hc) st (Array.getElem?_eq_none hi) λh' eb=>⟨rfl,I.turned (t':=s.toks) (λb o hb e=>eb b o hb e) f0 f1 f3 f4 f5⟩
 self:=λ_ _ _ _ _ st h=>let⟨_,st⟩:=st;wpAny_pyIter_striter_ascii st h
def xq(tl:TE):TI:=λσ H R=>tl σ H λx H1=>∃a,x=.str a/\a.cps.all (· < 128)=true/\R (zD a) H1
theorem C6{l:Expr}{tl:TE}(hl:PE X l tl):PI X tg l (xq tl):=by
 intro pins s σ H R I h;refine aV (hl pins s σ H _ I h) λv s1 ⟨x,H1,I1,r1,a,e,ha,q⟩=>?_;subst e;obtain⟨t,rfl⟩:=r1;refine wpAny_pyIter_ascii ha ?_;refine⟨s1.heap.objs.size,[s1.heap.objs.size],_,_,H1,rfl,I1.kept (t':=s1.toks) λb o e=>cv _ e,C5 a _,⟨t,_,eV _ rfl,rfl,rfl⟩,λb hb=>?_,q⟩;have e:b=s1.heap.objs.size:=by simpa using hb
 subst e;exact I1.fpOk (bP _) (I1.hok.fresh (bP _))
variable{p2:Pos}{tb:TE}
theorem C7(ha:PE X a ta):PE X (.FormattedValue a (-1) none pos) (λσ H Q=>ta σ H λv H1=>∃i,v=.int i/\i.natAbs.log2<1920/\Q (.str (toString i)) H1):=by
 intro pins s σ H Q I h;refine wpAny_FormattedValue_plain (aV (ha pins s σ H _ I h) λv s1 ⟨x,H1,I1,r1,i,e,hi,q⟩=>?_);subst e;obtain⟨t,rfl⟩:=r1;exact wpAny_formatField_int hi ⟨.str _,H1,I1.tok _,⟨_,rfl⟩,q⟩
theorem C8(ha:PE X a ta)(hb:PE X b tb):PE X (.JoinedStr [a,b] pos) (λσ H Q=>ta σ H λv H1=>∃x,v=.str x/\x.length<=sizeLine/\tb σ H1 λu H2=>∃y,u=.str y/\x.length+y.length<=sizeLine/\Q (.str (x++y)) H2):=by
 intro pins s σ H Q I h;refine wpAny_JoinedStr ?_;show wpAny _ _ (eval a X.env) _ _ s;refine aV (ha pins s σ H _ I h) λv s1 ⟨x',H1,I1,r1,x,e,hx,q⟩=>?_;subst e;obtain⟨t,rfl⟩:=r1;have len:∀{x y:Str},(x++y).length=x.length+y.length:=λ{x y}=>strLen_append ..;have aux:wpAny (model X.prog X.w) X.A (eval b X.env) (λv s2=>∃y t,v=.str y t/\(Str.empty++x++y).length<=sizeLine/\Joins (model X.prog X.w) X.A X.xe [] (Str.empty++x++y) (λout s₁=>out.length<=sizeLine/\EP X pins σ Q (.str out s₁.toks) { s₁ with toks:=s₁.toks+1 }) s2) X.xe s1:=by
  refine aV (hb pins s1 σ H1 _ I1 q) λu s2 ⟨y',H2,I2,r2,y,e,hl,q⟩=>?_;subst e;obtain⟨t,rfl⟩:=r2;rw[PySem.W.KT.empty_app];exact⟨y,t,rfl,by rw[len];exact hl,by rw[len];exact hl,⟨.str _,H2,I2.tok _,⟨_,rfl⟩,q⟩⟩
 refine⟨x,t,rfl,?_,aux⟩;rw[PySem.W.KT.empty_app];exact hx
end
open PySem.Builtin PySem.Builtin.Str in
theorem zE(n:Nat)(lo hi:Option Int):strSliceIndices lo hi 1 n=sliceRange ((HT.sIx n 0 lo:Nat):Int) ((HT.sIx n n hi:Nat):Int) 1:=by
 obtain⟨h1,h2,h3⟩:=dm lo hi n;rw[<-h1,<-h2];rfl
theorem il(n d:Nat)(o:Option Int)(h:d<=n):HT.sIx n d o<=n:=by
 unfold HT.sIx;cases o with
 |none=>exact h
 |some i=>dsimp only;split<;>omega
def cH(x:Str)(lo hi:Option Int):Str:=⟨((x.cps.toList.drop (HT.sIx x.length 0 lo)).take (HT.sIx x.length x.length hi-HT.sIx x.length 0 lo)).toArray⟩
theorem C9(x:Str)(l u:Option (Int×Tok)):(⟨((slicePicked x l u none).filterMap (x.cps[·]?)).toArray⟩:Str)=cH x (l.map (·.1)) (u.map (·.1)):=by
 unfold slicePicked cH;show(⟨((Builtin.Str.strSliceIndices _ _ 1 x.length).filterMap (x.cps[·]?)).toArray⟩:Str)=_;rw[zE,sliceRange_one,pick_run]
theorem Da(x:Str)(l u:Option (Int×Tok)):(slicePicked x l u none).length=HT.sIx x.length x.length (u.map (·.1))-HT.sIx x.length 0 (l.map (·.1)):=by
 unfold slicePicked;show(Builtin.Str.strSliceIndices _ _ 1 x.length).length=_;rw[zE,sliceRange_one];simp
theorem Db{lo hi:Option Int}(h:HT.sIx x.length x.length hi-HT.sIx x.length 0 lo=x.length):cH x lo hi=x:=by
 unfold cH;have h1:=il x.length x.length hi (bP _);have hl:x.cps.toList.length=x.length:=by simp[Str.length]
 rcases sm x.length with z|z
 .have e:x.cps.toList=[]:=List.eq_nil_of_length_eq_zero (hl.trans z)
  rw[e];simp only[List.drop_nil,List.take_nil];have e2:x.cps = #[]:=by rw[<-Array.toArray_toList (xs:=x.cps),e]
  cases x;simp only at e2;rw[e2]
 .have e0:HT.sIx x.length 0 lo=0:=by omega
  rw[h,e0,rk,sr (by omega)]
theorem Dc(x:Str)(lo hi:Option Int):(cH x lo hi).length<=x.length:=by
 unfold cH;show((List.take _ (List.drop _ x.cps.toList)).toArray).size<=x.cps.size;rw[cM,jV,kv,rf];omega
section
theorem zF{o:Option Int}(h:IsPart v o):∃l:Option (Int×Tok),v=partValue l/\o=l.map (·.1):=by
 cases h with
 |none=>exact⟨none,rfl,rfl⟩
 |int i t=>exact⟨some (i,t),rfl,rfl⟩
theorem Dd:SlR X (λx lo hi H Q=>∃z,x=.str z/\z.length<=sizeLine/\Q (.str (cH z lo hi)) H):=by
 rintro pins s σ H x v vl vu lo hi sl Q I rx hs pl pu ⟨z,rfl,hl,q⟩;obtain⟨t,rfl⟩:=rx;obtain⟨l,rfl,rfl⟩:=zF pl;obtain⟨u,rfl,rfl⟩:=zF pu;obtain⟨o,h1,h2,h3⟩:=hs;refine⟨"str",_,F.slot_str_getitem.lookup,typeIs_str _ _ _,wpAny_getItem_str_slice (l:=l) (u:=u) (st:=none) ⟨o,h1,h2,h3⟩ rfl ?_⟩;unfold sliceMade;rw[C9,Da];split
 .rename_i hw
  have hw':HT.sIx z.length z.length (u.map (·.1))-HT.sIx z.length 0 (l.map (·.1))=z.length:=by simpa using hw
  rw[Db hw'] at q;exact⟨.str z,H,I,⟨t,rfl⟩,q⟩
 .exact⟨gA (Dc z _ _) hl,⟨.str _,H,I.tok _,⟨_,rfl⟩,q⟩⟩
theorem zG(c:Array Nat):∀(k:Nat) (acc:Array Nat),((List.replicate k c).foldl (·++·) acc).size=acc.size+k*c.size
 |0,acc=>by simp
 |k+1,acc=>by
  rw[eX,wg,zG c k (acc++c),Array.size_append,Nat.succ_mul];omega
open PySem.Builtin PySem.Builtin.Str in
theorem De:OpR X (binaryOp .Mult) (λx y H Q=>∃a n,x=.str a/\y=.int n/\1<n/\n<=64/\1<=a.length/\a.length<=10000/\Q (.str ⟨(List.replicate n.toNat a.cps).foldl (·++·) #[]⟩) H):=by
 rintro pins s σ H x y v u Q I rx ry ⟨a,n,rfl,rfl,h1,h2,h3,h4,q⟩;obtain⟨t,rfl⟩:=rx;obtain⟨t',rfl⟩:=ry;have e1:¬n<1:=by omega
 have e2:(n==1||a.length==0)=false:=by
  have:(n==1)=false:=by simp;omega
  rw[this];simp;omega
 refine P.mul_str ?_ ?_ ?_ ?_
 .simp;omega
 .intro _ _
  have:(2^63-1)/n ≥ 2^56:=by
   refine Int.le_ediv_of_mul_le (by omega) ?_;have:(2:Int)^56*n<=2^56*64:=by omega
   omega
  omega
 .intro _ _
  unfold tooLong;have:a.length*n.toNat<=10000*64:=Nat.mul_le_mul h4 (by omega);exact Ht (by rw[sizeLine_eq];omega)
 .rw[if_neg e1,e2]
  refine⟨?_,⟨.str _,H,I.tok _,⟨_,rfl⟩,q⟩⟩;show((List.replicate n.toNat a.cps).foldl (·++·) #[]).size<=sizeLine;rw[zG,sizeLine_eq];have h5:n.toNat*a.cps.size<=64*10000:=Nat.mul_le_mul (by omega) h4;have h6:(#[]:Array Nat).size=0:=rfl;omega
end
section
theorem Df{acc:Array Value}(h:ItemsOf (SignAt x) acc x.cps.size):Vals ((signs x).map V.str) acc.toList:=by
 refine xn (by simp[h.1,signs]) λj a y e1 e2=>?_;obtain⟨c,u,hc,rfl⟩:=h.2 j y (by simpa using e2);unfold signs at e1;rw[iP,eF] at e1;have e3:x.cps.toList[j]? = some c:=by simpa using hc
 rw[e3] at e1;cases e1;exact⟨_,rfl⟩
theorem Dg(hc:X.calm=true):bY X (.type "list") (λxs H Q=>∃x:Str,xs=[.str x]/\x.length<=sizeLine/\∀l,H l=none->Q (.ref l) (upd H l (.lst ((signs x).map V.str)))):=by
 rintro pins s σ H vs us Q I r ⟨x,rfl,hl,q⟩;obtain⟨u,rfl,t,rfl⟩:=bS r;refine call_list_str (I.ok.hd hc) x t (hn:=hl) λh' tk acc c' hk hS ha=>?_;refine⟨.ref s.heap.objs.size,_,I.laid (o:=.lst ((signs x).map V.str)) (t':=tk) hk (bP _) ?_,rfl,q _ (I.hok.fresh (bP _))⟩;exact⟨by simpa[signs_length] using hl,acc.toList,c',Df ha,by simpa using hS⟩
variable{c:Expr}{tb:TE}
end
namespace Fl
def quiet(f:Str):List Str:=["__setattr__", "__getattribute__", "__getattr__",f]
def vd(K:Hg)(ns:List Str)(bmB:List Value):List Value->Bool
 |[]=>bmB==[]
 |v::r=>(v::r)==bmB||match v with
  | .ref a=>(match K.lookup a with
   |some ⟨_,_,.cls cd,_⟩=>PySem.W.nsOkIn K cd.ns&&ns.all (λn=>PySem.W.nsIn K cd.ns n==some none)&&vd K ns bmB r
   |_=>false)
  |_=>false
theorem zH{K:Hg}{h:Heap}{ns:List Str}{bmB:List Value}(X:K.In h):∀{l:List Value},vd K ns bmB l=true->Tl h ns bmB l
 |[],e=>by rw[<-beq_iff_eq.mp e];exact .last
 |v::r,e=>by
  unfold vd at e;rcases Bool.or_eq_true_iff.mp e with q|q
  .rw[<-beq_iff_eq.mp q];exact .last
  .split at q
   .split at q
    .rename_i ho
     simp only[cf,Ybe,HD] at q;exact .more (X _ _ ho) (.of_isNs (PySem.W.isNs_of_in X q.1.1)) (λn hn=>PySem.W.nsMap_none_of_in X q.1.1 (q.1.2 n hn)) (zH X q.2)
    .cases q
   .cases q
theorem tz{n:Str}(X:K.In h)(G:h.Ns N m)(e:PySem.W.nsIn K N n=some (some v)):m n=some v:=by
 obtain⟨ob,es,ep,at1,at2,_,fnd⟩:=G;unfold PySem.W.nsIn at e;split at e
 .rename_i z
  have y:=X _ _ z;rw[at1] at y;cases y;cases at2;split at e
  .rename_i found
   cases e;rw[<-fnd];unfold nsFind findBy;rw[<-v7,found];rfl
  .split at e<;>cases e
 .cases e
def clsF(K:Hg)(C:Addr)(bmB:List Value)(newId:String)(f:Str)(fI:Addr):Bool:=match K.lookup C with
 | some ⟨.type "type",_,.cls cd,sl⟩=>(match cd.mro,sl.toList with
  |.ref C'::bm,[_,_,_,_,some (.builtin n),_]=>C'==C&&n==newId && !cd.hasDel&&cd.hasDict&&vd K ("__init__" ::quiet f) bmB bm&&PySem.W.nsOkIn K cd.ns&&PySem.W.nsIn K cd.ns "__init__" == some (some (.ref fI))&&(quiet f).all (λn=>PySem.W.nsIn K cd.ns n==some none)
  |_,_=>false)
 |_=>false
structure CF(h:Heap)(C:Addr)(bmB:List Value)(newId:String)(f:Str)(fI:Addr):Prop where
 h:∃(bm:List Value) (N:Addr) (nm qn:Str) (bs:List Value) (sn:List Str) (sub:List Value) (ab:Bool) (col:Option Bool) (dd:Option Addr) (k0 k1 k2 k3 k5:Option Value) (mN:Str->Option Value),
  h.get? C=some (excClassObj nm qn C N bs bm true sn sub ab col dd k0 k1 k2 k3 k5 newId)/\h.Ns N mN/\mN "__init__" = some (.ref fI)/\(∀n∈quiet f,mN n=none)/\Tl h ("__init__" ::quiet f) bmB bm
theorem clsF_of{C:Addr}{f:Str}(X:K.In h)(q:clsF K C bmB newId f fI=true):CF h C bmB newId f fI:=by
 unfold clsF at q;split at q
 .rename_i dd cd sl ho
  split at q
  .rename_i C' bm k0 k1 k2 k3 n k5 hm hs
   simp only[cf,HD,nh,Ybe] at q;obtain⟨⟨⟨⟨⟨⟨⟨rfl,rfl⟩,hdel⟩,hdc⟩,ht⟩,hok⟩,hi⟩,hq⟩:=q;obtain⟨nm,bs,mro,ns,qn,hd,sn,sub,ab,col,del⟩:=cd;dsimp only at hm hdel hok hi hq hdc;subst hm hdel hdc;have hsl:sl = #[k0,k1,k2,k3,some (.builtin n),k5]:=by
    cases sl with
    |mk l=>exact congrArg Array.mk hs
   subst hsl;have nsx:h.Ns ns (h.nsMap ns):=.of_isNs (PySem.W.isNs_of_in X hok);exact⟨bm,ns,nm,qn,bs,sn,sub,ab,col,dd,k0,k1,k2,k3,k5,_,X _ _ ho,nsx,tz X nsx hi,λm hm=>PySem.W.nsMap_none_of_in X hok (hq m hm),zH X ht⟩
  .cases q
 .cases q
abbrev bmV:List Value:=[.type "ValueError",.type "Exception",.type "BaseException",.type "object"]
end Fl
section
variable{l:Addr}{items:Array Value}
theorem tB(hh:A.in1.handled=none)(hl:s.heap.IsList l items)(h1':1<=items.size)(hz:items.size<=sizeLine)
  (h:∀(h':Heap) (tk:Nat),(∀b o,s.heap.get? b=some o->h'.get? b=some o)->Q (items.toList.take 1++[.ref h'.objs.size]) { s with heap:=h'.push { cls:=.type "list",data:=.seq (items.toList.drop 1).toArray },toks:=tk }) :
  wpAny (model prog w) A (unpackItems (.ref l) 2 (some 1)) Q E s:=by
 have hlt:l<s.heap.objs.size:=let⟨o,ho,_⟩:=hl;cc ho;unfold unpackItems notIterableAtAll;refine Hf (Hf (HI hl.typeIs slot_list_iter.lookup (Hi ?_)));dsimp only;rw[if_neg (by first|decide|simp)];refine Hf (Hz (wpAny_pyIter_list hl ?_));have hne:l≠s.heap.objs.size:=er hlt;have at0:(s.heap.push { cls:=.type "list_iterator",data:=.fields #[.ref l,.int 0 0] }).IsListIter s.heap.objs.size l 0:=⟨_,eV _ rfl,rfl,rfl⟩
 have kl:∀{h:Heap},(∀b o,s.heap.get? b=some o->h.get? b=some o)->h.IsList l items:=λk=>let⟨o,ho,r⟩:=hl;⟨o,k _ _ ho,r⟩;refine Hf (Hz (PySem.W.kun_draw hne 1 0 _ _ at0 (kl λ_ _ e=>cv _ e) (by omega) λh1 it1 sb1=>?_));have k1:∀b o,s.heap.get? b=some o->h1.get? b=some o:=λb o e=>(sb1.2 b (er (cc e))).trans (cv _ e);rw[rk];have hln:(items.toList.take 1).length=1:=by rw[jV];simp;omega
 rw[if_neg (by rw[hln];decide)];have sz1:s.heap.objs.size<h1.objs.size:=let⟨o,ho,_⟩:=it1;cc ho;refine Hf (Hz (PySem.W.kun_collect (k:=1) (T:= "list_iterator") (.inr (.inr (.inl rfl))) (Walks.list hh s.heap.objs.size l hne items) (λi u st=>let⟨o,ho,hc,_⟩:=st.1;⟨o,ho,hc⟩) h1' ⟨it1,kl k1⟩ sz1 (jU hlt sz1) (λh2 tk k2=>?_) hz));have kk:∀b o,s.heap.get? b=some o->h2.get? b=some o:=λb o e=>k2 b o (er (cc e)) (k1 b o e);rw[if_neg (by simp)];have e:(items.toList.drop 1).length-(2-1-1)=(items.toList.drop 1).length:=by omega
 rw[e,List.take_length,List.drop_length];refine Hf (wpAny_newList ?_ (by rw[kv];simp;omega));refine Hi ?_;rw[jj];exact h h2 tk kk
end
section
variable{sp:Pos}
def tD(K:Hg)(t:mi):TG:=λv σ H Q=>∃l y ys,v=.ref l/\SqL K H l (y::ys)/\∀D,H D=none->t [y,.ref D] σ (upd H D (.lst ys)) Q
theorem Dh{t:mi}(hc:X.calm=true)(h:rl X [a,b] t)(hn:(assignEach [a,.Starred b sp] X.env).length=2:=by rfl)(hst:(assignEach [a,.Starred b sp] X.env).findIdx? (·.1)=some 1:=by rfl)
  (hs:(assignEach [a,.Starred b sp] X.env).map (·.2)=(assignEach [a,b] X.env).map (·.2):=by rfl):PG X (.Tuple [a,.Starred b sp] k pos) (tD X.K t):=by
 intro pins s σ H v u Q I r hw;obtain⟨l,y,ys,e1,hq,hw⟩:=hw;subst e1;cases r;obtain⟨its,rv,ht,hz⟩:=I.list hq;rw[assign_Tuple];refine Hf (wpAny_standAt ?_);unfold unpack;rw[hn,hst,hs];have hl:its.toArray.size=ys.length+1:=by rw[cM,<-rv.length];rfl
 refine Hf (Hz (tB (I.ok.hd hc) ht.isList (by omega) (by rw[hl];exact hz) λh' tk k=>?_));cases rv with
 | @cons _ u0 _ us r0 rs=>
  have I1:Inv X pins σ H { s with heap:=h' }:=I.kept (t':=s.toks) k;have I2:=I1.lnew (t':=tk) rs (gA (Nat.le_succ _) hz);exact h pins _ σ _ [y,.ref h'.objs.size] _ Q I2 (.cons r0 (.cons rfl .nil)) (hw _ I1.fresh)
def mz(X:Cx)(a:Addr)(f:Str->Option Value):Prop:=∃(es:Array DictEntry) (n:Nat),X.K.lookup a=some { cls:=.type "dict",data:=.dict es n }/\PySem.W.KeysLit X.w.params es.toList/\(a==sysModules)=false/\f=λk=>findBy Value.isStrOf es k
theorem Di:OpR X (compareOp .In) (λx y H Q=>∃k a f,x=.str k/\y=.ref a/\mz X a f/\Q (.bl (f k).isSome) H):=by
 intro pins s σ H x y v u Q I rx ry h;obtain⟨k,a,f,rfl,rfl,⟨es,n,hl,hk,hs,rfl⟩,q⟩:=h;obtain⟨t,rfl⟩:=rx;cases ry;exact wpAny_in_of (strKind_is _ _ k t) hs (PySem.W.mapOf_K I.kIn hl hk) ⟨.bl _,H,I.tok _,rfl,q⟩
theorem Dj:OpR X (compareOp .NotIn) (λx y H Q=>∃k a f,x=.str k/\y=.ref a/\mz X a f/\Q (.bl (!(f k).isSome)) H):=by
 intro pins s σ H x y v u Q I rx ry h;obtain⟨k,a,f,rfl,rfl,⟨es,n,hl,hk,hs,rfl⟩,q⟩:=h;obtain⟨t,rfl⟩:=rx;cases ry;exact wpAny_notIn_of (strKind_is _ _ k t) hs (PySem.W.mapOf_K I.kIn hl hk) ⟨.bl _,H,I.tok _,rfl,q⟩
theorem xu:IxR X (λx y H Q=>∃k a f v u,y=.str k/\x=.ref a/\mz X a f/\f k=some u/\RelV v u/\Q v H):=by
 intro value slice pins s σ H x y v u Q I rx ry h hs;obtain⟨k,a,f,v0,u0,rfl,rfl,⟨es,n,hl,hk,hm,rfl⟩,hf,rv,q⟩:=h;obtain⟨t,rfl⟩:=ry;cases rx;refine subscriptTail_builtinR (x:=u0) (T:= "dict") ⟨_,I.kIn _ _ hl,rfl⟩ PySem.F.slot_dict_getitem.lookup (wpAny_getItem_of (strKind_is _ _ k t) (PySem.W.mapOf_K I.kIn hl hk) hf ⟨rfl,v0,H,I.tok _,rv,q⟩) hs
end
theorem zI(f:Nat->Int):∀k,argBest (λi j=>decide (f i>f j)) k<=k/\∀j,j<=k->f j<=f (argBest (λi j=>decide (f i>f j)) k)
 |0=>⟨bP _,λj hj=>by rw[Nat.le_zero.mp hj];exact Int.le_refl _⟩
 |k+1=>by
  obtain⟨h1,h2⟩:=zI f k;rw[argBest]
  by_cases z:f (k+1)>f (argBest (λi j=>decide (f i>f j)) k)
  .rw[Hh (Hl z)]
   refine⟨bP _,λj hj=>?_⟩;rcases Nat.eq_or_lt_of_le hj with rfl|hj
   .exact Int.le_refl _
   .have:=h2 j (by omega);omega
  .rw[if_neg (by simpa using z)]
   refine⟨by omega,λj hj=>?_⟩;rcases Nat.eq_or_lt_of_le hj with rfl|hj
   .omega
   .exact h2 j (by omega)
section
theorem Dk(hc:X.calm=true):bY X (.builtin "max") (λxs H Q=>∃(p:Addr) (ns:List Int),xs=[.ref p]/\SqL X.K H p (ns.map V.int)/\ns≠[]/\∀m∈ns,(∀x∈ns,x<=m)->Q (.int m) H):=by
 intro pins s σ H xs us Q I r h;obtain⟨p,ns,rfl,hq,hne,q⟩:=h;obtain⟨u,rfl,ru⟩:=bS r;cases ru;obtain⟨its,rv,pl,hz⟩:=I.list hq;have hits:∃ps:List (Int×Tok),its=ps.map (λp=>Value.int p.1 p.2)/\ps.map (·.1)=ns:=by
  clear hz pl hq q hne
  induction ns generalizing its with
  |nil=>cases rv;exact⟨[],rfl,rfl⟩
  |cons n ns ih=>
   cases rv with
   |cons r1 r2=>
    obtain⟨t,rfl⟩:=r1;obtain⟨ps,rfl,e⟩:=ih _ r2;exact⟨(n,t)::ps,rfl,by rw[cF,e]⟩
 obtain⟨ps,rfl,e⟩:=hits;have hl:s.heap.IsList p (intItems ps.toArray):=by
  have:=pl.isList;simpa[intItems] using this
 have h0:0<ps.length:=by
  cases ps with
  |nil=>rw[<-e] at hne;exact Hj rfl hne
  |cons _ _=>simp
 refine max_intList (I.ok.hd hc) hl (by simpa using h0) λv h' tk hv k=>?_;obtain⟨b1,b2⟩:=zI (numAt ps.toArray) (ps.toArray.size-1);generalize argBest (λi j=>decide (numAt ps.toArray i>numAt ps.toArray j)) (ps.toArray.size-1)=a at hv b1 b2;have ha:a<ps.length:=by simp at b1;omega
 have na:∀j,j<ps.length->ns[j]? = some (numAt ps.toArray j):=λj hj=>by
  rw[<-e,eF,iQ hj];simp[numAt,hj]
 have ev:v=.int (numAt ps.toArray a) (ps[a]'ha).2:=by
  rw[show(intItems ps.toArray)[a]? = some (Value.int (ps[a]'ha).1 (ps[a]'ha).2) by simp[intItems,ha]] at hv;rw[<-Hn hv];simp[numAt,ha]
 refine⟨.int (numAt ps.toArray a),H,I.kept k,⟨_,ev⟩,q _ (rh (na a ha)) λx hx=>?_⟩;obtain⟨j,hj⟩:=Ybv.mp hx;have hj':j<ps.length:=by
  have:=(Yap.mp hj).1;rw[<-e] at this;simpa using this
 rw[na j hj'] at hj;rw[<-Hn hj];exact b2 j (by simp;omega)
end
end L2
namespace PySem
open Sem (wp)
open AutoSeq1 (wpAny_loadPart')
section
variable{prog:Program}{w:World}{A:Around}{E:Value->Shared->Prop}{s:Shared}
theorem Dm{Q:List Value->Shared->Prop}{r t:Addr}{items:Array Value}(hh:A.handled=none)(hit:ZcB s.heap r t ((items.size:Int)-1))(ht:PyProof.Rows.IsTup s.heap t items)(hne:t≠r)(hlen:items.size<=2^24)
  (hQ:∀(h':Heap) (tk:Nat) (acc:Array Value),s.heap.objs.size<h'.objs.size->(∀b o',b≠r->s.heap.get? b=some o'->h'.get? b=some o')->ItemsOf (λi v=>items[items.size-1-i]? = some v) acc items.size->Q acc.toList { s with heap:=h',toks:=tk }) :
  wpAny (model prog w) A (collect (.ref r)) Q E s:=by
 unfold collect;refine Hf (wpAny_runValue (codeAny_builtin F.entry_proto_collect ?_));rw[Around.under_plainId F.plain_proto_collect _];show wpAny _ A.in1 (newList [] >>= λl=>again (.builtin "list.__iadd__" ⟨[l,.ref r],[]⟩)) _ _ s;refine Hf (Hq ?_);refine Hi ⟨plainId_quiet F.plain_list_iadd _,codeAny_builtin F.entry_list_iadd ?_⟩;rw[Around.under_plainId F.plain_list_iadd _];show wpAny _ A.in1 (Builtin.List.listExtendWith (.ref s.heap.objs.size) (.ref r) (.ref s.heap.objs.size)) _ _ _;have hS:(s.heap.push { cls:=.type "list",data:=.seq ([]:List Value).toArray }).get? s.heap.objs.size=some { cls:=.type "list",data:=.seq #[] 0 }:=eV _ rfl;refine HB (CW (A:=A) (R:=λr0 s'=>r0 = .ok (.ret (.ref s.heap.objs.size))/\∃ h' tk acc' c',(∀ b o',b≠r->s.heap.get? b=some o'->h'.get? b=some o')/\h'.get? s.heap.objs.size=some { cls:=.type "list",dict:=none,data:=.seq acc' c',slots:=#[] }/\ItemsOf (λi v=>items[items.size - 1 - i]? = some v) acc' items.size/\s'={ s with heap:=h',toks:=tk })
  (s:={ s with heap:=s.heap.push { cls:=.type "list",data:=.seq ([]:List Value).toArray } }) hh (hit.at λo e=>cv _ e) (Heap.IsTuple.at ht λo e=>cv _ e) hne hlen s.heap.objs.size (.ref s.heap.objs.size) 0 hS λh' tk acc' c' hk hS' hacc=>⟨rfl,h',tk,acc',c',λb o' hb e=>hk b o' (er (cc e)) hb (cv _ e),hS',hacc,rfl⟩) (λfin s' h=>?_) (λe s' h=>?_)
 .have fin':∀ h' tk acc' c',(∀ b o',b≠r->s.heap.get? b=some o'->h'.get? b=some o')->h'.get? s.heap.objs.size=some { cls:=.type "list",dict:=none,data:=.seq acc' c',slots:=#[] }->ItemsOf (λi v=>items[items.size - 1 - i]? = some v) acc' items.size->
    wpAny (model prog w) A (match Value.ref s.heap.objs.size with
   |Value.ref a=>do
    match(<-load a).data with
     |Data.seq xs _=>pure xs.toList
     |_=>unsupported "internal:collect"
   |_=>unsupported "internal:collect") Q E { s with heap:=h',toks:=tk }:=λh' tk acc' c' hk hS' hacc=>by
   show wpAny _ A (load s.heap.objs.size >>= _) _ _ _;refine Hf (wpAny_load hS' ?_);exact Hi (hQ h' tk acc' (cc hS') hk hacc)
  cases fin with
  |done f=>
   obtain⟨e,h',tk,acc',c',hk,hS',hacc,rfl⟩:=h;cases e;exact fin' h' tk acc' c' hk hS' hacc
  | again c'=>exact ⟨h.1,codeAny_mono h.2 λr s'' hr=>by
    obtain⟨rfl,h',tk,acc',c',hk,hS',hacc,rfl⟩:=hr;exact fin' h' tk acc' c' hk hS' hacc⟩
 .exact Hj h.1 (by simp)
theorem Do{Q:Value->Shared->Prop}{r t:Addr}{items:Array Value}(hh:A.handled=none)(hit:ZcB s.heap r t ((items.size:Int)-1))(ht:PyProof.Rows.IsTup s.heap t items)(hne:t≠r)(hlen:items.size<=2^24)
  (hQ:∀(h':Heap) (tk:Nat) (acc:Array Value),s.heap.objs.size<h'.objs.size->(∀b o,b≠r->s.heap.get? b=some o->h'.get? b=some o)->ItemsOf (λi v=>items[items.size-1-i]? = some v) acc items.size->Q (.ref h'.objs.size) { s with heap:=h'.push { cls:=.type "tuple",data:=.seq acc },toks:=tk }) :
  wpAny (model prog w) A (call (.type "tuple") [.ref r]) Q E s:=by
 refine callType_codes (Q₁:=λobj s₁=>s₁.TypeIs obj "tuple" /\Q obj s₁) F.called_tuple (F.typeCall_tuple_1 _) F.entry_object_init ?_ λobj s₁ h₁=>?_
 .refine codeAny_of_tree ?_
  show wpAny _ A.in1.in1 (do checkBuiltinCall "tuple.__new__" ⟨[.type "tuple",.ref r],[]⟩;again (.builtin "tuple.__new__" ⟨[.type "tuple",.ref r],[]⟩)) _ _ s;refine Hf (HE (F.newCall_tuple_1 _) (Hi ⟨plainId_quiet F.plain_tuple_new _,codeAny_builtin F.entry_tuple_new ?_⟩));rw[Around.under_plainId F.plain_tuple_new _];have hsub:=sub_tuple_self;have hinit:=init_tuple_lookup;have hmh:=madeHere_tuple;have hTI:Shared.TypeIs s (.ref r) "reversed" :=hit.typeIs
  wp_walk using HN hTI,Dm (A:=A.in1.in1) hh hit ht hne hlen
  intro h' tk acc hl hk hacc;show wpAny _ _ (Builtin.Tuple.tupleExact acc.toList.toArray >>= λv=>ret v) _ _ _;unfold Builtin.Tuple.tupleExact;refine Hf (Hq ?_ (by show acc.toList.toArray.size<=sizeLine;simp only[Array.toArray_toList];rw[hacc.1,sizeLine_eq];omega));refine Hi ?_;have e:acc.toList.toArray=acc:=by simp
  rw[e];exact⟨⟨_,eV _ rfl,rfl⟩,hQ h' tk acc hl hk hacc⟩
 .exact⟨h₁.1,F.args_object_init_2 obj _,object_init_meets F.called_tuple.init.lookup F.called_tuple.made (by decide) prog w A.in1 _ s₁ ⟨h₁.1,rfl,h₁.2⟩⟩
end
end PySem
namespace L2
open PySem PySem.Spec PyProof.Rows
variable{X:Cx}{a:Expr}{pos:Pos}
section
def Dp(t:TE):TE:=λσ H Q=>t σ H λv H1=>∃q vs,v=.ref q/\SqT X.K H1 q vs/\vs.length<=10000/\∀l,H1 l=none->Q (.ref l) (upd H1 l (.tup vs.reverse))
theorem Dq{t:TE}{p p1 p2:Pos}(hml:X.mg "tuple" = none)(hmr:X.mg "reversed" = none)(ha:PE X a t)(hc:X.calm=true:=by rfl)(hgl:Gl X "tuple" :=by rfl)(hgr:Gl X "reversed" :=by rfl)
  (he:starEach [a] X.env=(false,eval a X.env)::starEach [] X.env:=by rfl) (hpl:(backTo p2 (starEach [] X.env)).any (·.1)=false:=by rfl)
  (he2:starEach [.Call (.Name "reversed" p1) [a] [] p2] X.env=(false,eval (.Call (.Name "reversed" p1) [a] [] p2) X.env)::starEach [] X.env:=by rfl) (hpl2:(backTo pos (starEach [] X.env)).any (·.1)=false:=by rfl) (hb0:backTo pos (starEach [] X.env)=[]:=by rfl) :
  PE X (.Call (.Name "tuple" p) [.Call (.Name "reversed" p1) [a] [] p2] [] pos) (Dp (X:=X) t):=by
 intro pins s σ H Q I h;refine Hx (dD I hgl hml HS ?_ (by decide) (by decide));refine PyProof.Rows.callWith_type1 ?_ he2 hpl2;rw[he2];show wpAny _ _ (spliced ((false,eval (.Call (.Name "reversed" p1) [a] [] p2) X.env)::backTo pos (starEach [] X.env))) _ _ s;refine Calls.spliced_cons ?_;rw[hb0];refine Hx (dD I hgr hmr boot_reversed ?_ (by decide) (by decide));refine PyProof.Rows.callWith_type1 (aV (cz ha c0 he p2 pins s σ H (λys H1=>match ys with|[v]=>∃q vs,v=.ref q/\SqT X.K H1 q vs/\vs.length<=10000/\∀l,H1 l=none->Q (.ref l) (upd H1 l (.tup vs.reverse))|_=>False) I h) ?_) he hpl;rintro us s1 ⟨ys,H1,I1,r1,hy⟩;split at hy
 case h_2=>exact hy.elim
 obtain⟨q,xs,rfl,hq,hn,hQ⟩:=hy;obtain⟨u,rfl,ru⟩:=bS r1;cases ru;obtain⟨its,ri,hi,hz⟩:=I1.sq (κ:=true) hq;have el:its.length=xs.length:=ri.length.symm;refine CO (items:=its.toArray) hi (by simp;omega) ?_;refine Calls.spliced_nil ?_;have hlt:q<s1.heap.objs.size:=by obtain⟨o,ho,_⟩:=hi;exact cc ho
 refine Do (s:={ s1 with heap:=s1.heap.push (lb q ((its.toArray.size:Int)-1)),toks:=s1.toks+1+1 }) (items:=its.toArray) (I1.ok.hd hc) ⟨_,eV _ rfl,rfl,rfl⟩ (Heap.IsTuple.at hi λo e=>cv _ e) (er hlt) (by simp;omega) λh' tk acc hl k ha=>?_;have hsz:s1.heap.objs.size<=h'.objs.size:=by
  have:(s1.heap.push (lb q ((its.toArray.size:Int)-1))).objs.size=s1.heap.objs.size+1:=rg ..;have h2:(s1.heap.push (lb q ((its.toArray.size:Int)-1))).objs.size<h'.objs.size:=hl;omega
 refine⟨.ref h'.objs.size,_,I1.laid (a:=h'.objs.size) (o:=.tup xs.reverse) (t':=tk) (λb o e=>cv _ (k b o (er (cc e)) (cv _ e))) hsz ?_,rfl,hQ _ (I1.hok.fresh hsz)⟩;obtain⟨hz2,hv⟩:=ha;refine⟨by rw[uQ];exact hz,acc.toList,?_,?_⟩
 .refine xn (by simp[hz2,el]) λj x y e1 e2=>?_
  have hj:j<xs.length:=by
   rcases jW j xs.length with z|z
   .exact z
   .rw[eY (by simpa using z)] at e1;cases e1
  rw[List.getElem?_reverse hj] at e1;have:=hv j y (by simpa using e2);simp only[cM,List.getElem?_toArray,el] at this;obtain⟨ux,hux,rux⟩:=ri.get e1;rw[hux] at this;cases this;exact rux
 .exact⟨_,eV _ rfl,rfl,0,by simp⟩
end
section
variable{b:Expr}{bD:List Expr}{ta tb:TE}
theorem Dr(ha:PE X a ta)(hb:PE X (.BoolOp .Or (b::bD) pos) tb):PE X (.BoolOp .Or (a::b::bD) pos) (λσ H Q=>ta σ H λx H1=>∃k,o4 X.K x H1 k/\if k=true then Q x H1 else tb σ H1 Q):=by
 intro pins s σ H Q I h;refine BoolOp_or (aV (ha pins s σ H _ I h) λv s1 ⟨x,H1,I1,r1,k,tv,q1⟩=>?_);refine aV (kN pins s1 σ H1 x v (λc H2=>c=k/\H2=H1) I1 r1 ⟨k,tv,rfl,rfl⟩) λc s2 ⟨H2,I2,e1,e2⟩=>?_;subst e1 e2;cases c with
 |true=>exact⟨x,_,I2,r1,q1⟩
 |false=>exact hb pins s2 σ _ Q I2 q1
end
end L2
namespace LP
open PySem PySem.Spec PyProof.Rows L2
variable{dx od an:Option Addr}{K:Hg}{a b fI fa:Addr}{k c j:Nat}{vs us:List V}{e tg target iter:Expr}{H H1 H2 H0 H0':Hp}{o:HO}{σ:L2.St}{X:Cx}{EX:XK}{pos p p2 pos' apos cpos np p1:Pos}{x w y qual m name ex:Str}{op:CmpOp}{es ifs:List Expr}{CX:i6}{fd:FuncData}{ps N L M os:List Str}{pins:List (Addr×Obj)}{s ns:List Int}{neg:Bool}{lo hi:Option Expr}{st:List (List Int)}{sts as body:List Stmt}{sc:Scope}{P:Program}{mg:Str->Option Value}{r:List Rat}{l:PySem.W.OpenLaw}{q:Rat}{h hp:Heap}{oc doc pm cdv ct:Value}{osl sl:Array (Option Value)}{cd:ClassData}{Dn:e8}{pl:Sem Bool}{XP:(Str->Option Value)->Heap->Prop}{YP:World->Heap->Prop}
set_option genInjectivity true in
inductive D where
 |non|bl (b:Bool)|int (i:Int)|str (x:Str)|tup (xs:List D)|lst (xs:List D)|dic|pen|cls (n:Str)|exc (n:Str)|ty (n:String)|scr (xs:List D)|pl (k:Nat) (b:Addr)
variable{ds xs ys:List D}{d:D}{v:Except Str D}{xss:List (List D)}{Q:D->Prop}{G:D->D->Prop}{g:List D->(D->Prop)->Prop}{Q' QL:List D->Prop}{kvs:List (Str×D)}
structure Wd where
 G:Hp
 Pn:Addr->Prop
variable{W' W1 W2 W0:Wd}{R:Wd->Prop}
def KT(K:Hg)(a:Addr)(vs:List V):Prop:=
 ∃(o:Obj) (its:Array Value) (n:Nat),K.lookup a=some o/\o.cls=.type "tuple" /\o.data=.seq its n/\its.size<=sizeLine/\Vals vs its.toList
def eE(K:Hg)(n:Str):Option Addr:=match PySem.W.nsIn K mainGlobals n with
 |some (some (.ref a))=>some a
 |_=>none
def xtab:List (Str×Str×Str×Int):=[("NotStrong1", "NotStrong", "size",1),("NotStrong2", "NotStrong", "size",2),("NotStrong3", "NotStrong", "size",3),("NotStrong4", "NotStrong", "size",4),("NotStrong5", "NotStrong", "size",5),("NoText0", "NoText", "row",0),("NoText1", "NoText", "row",1),("NoText2", "NoText", "row",2),("NoText3", "NoText", "row",3),("NoText4", "NoText", "row",4),("NoText5", "NoText", "row",5),("NoText6", "NoText", "row",6),("NoText7", "NoText", "row",7),("NoText8", "NoText", "row",8),("NoText9", "NoText", "row",9),("NoText10", "NoText", "row",10),("NoText11", "NoText", "row",11),("NoText12", "NoText", "row",12),("NoText13", "NoText", "row",13),("NoText14", "NoText", "row",14),("NoText15", "NoText", "row",15)]
def iu(n:Str):Option (Str×Str×Int):=(xtab.find? λr=>r.1==n).map (·.2)
def jz(n:Str):Str:=match iu n with
 |some r=>r.1
 |none=>n
def lf(C a:Addr)(dx:Option Addr):HO:=.ext λh=>∃oe,h.get? a=some oe/\oe.cls=.ref C/\PySem.W.notCls oe=true/\oe.dict=dx/\∃vs,oe.data=.fields vs
def XD(W:Wd)(n:Str)(dx:Option Addr):Prop:=∀c f k,iu n=some (c,f,k)->∃d,dx=some d/\W.G d=some (.xd [(f,.int k)])
theorem XD.none{W:Wd}{n:Str}(h:iu n=none):XD W n dx:=λc f k e=>by rw[h] at e;cases e
theorem XD.mono{W:Wd}{n:Str}(g:∀a o,W.G a=some o->W'.G a=some o)(h:XD W n dx):XD W' n dx:=λc f k e=>let⟨d,e1,e2⟩:=h c f k e;⟨d,e1,g _ _ e2⟩
theorem Ds{n:Str}(h:iu n=none):jz n=n:=by unfold jz;rw[h]
def AtR(K:Hg)(W:Wd)(a:Addr)(k:Nat)(b:Addr):Prop:=match k with
 |0=>a=b
 |1=>∃C dx,W.G a=some (.ins C dx [("standing",.ref b)])/\eE K "Desk" = some C
 |_=>∃C dx,W.G a=some (lf C a (some dx))/\eE K "TooGreat" = some C/\W.G dx=some (.xd [("many",.int 7),("most",.int 5)])
theorem AtR.keep{W:Wd}(g:∀a o,W.G a=some o->(∀us,o≠.lst us)->W'.G a=some o)(h:AtR K W a k b):AtR K W' a k b:=by
 unfold AtR at h ⊢;split
 .exact h
 .obtain⟨C,dx,h1,h2⟩:=h;exact⟨C,dx,g _ _ h1 (λ_ z=>by cases z),h2⟩
 .rename_i h0 h1
  split at h
  .exact Hj rfl h0
  .exact Hj rfl h1
  .obtain⟨C,dx,q1,q2,q3⟩:=h;exact⟨C,dx,g _ _ q1 (λ_ z=>by unfold lf at z;cases z),q2,g _ _ q3 λ_ z=>by cases z⟩
def KL(K:Hg)(a:Addr)(vs:List V):Prop:=
 ∃(o:Obj) (its:Array Value) (n:Nat),K.lookup a=some o/\o.cls=.type "list" /\o.dict=none/\o.data=.seq its n/\its.size<=sizeLine/\Vals vs its.toList
mutual
inductive Rep (K:Hg) (W:Wd):V->D->Prop
 |non:Rep K W .non .non
 |bl (b:Bool):Rep K W (.bl b) (.bl b)
 |int (i:Int):Rep K W (.int i) (.int i)
 |str (x:Str):Rep K W (.str x) (.str x)
 |tup {a:Addr} {vs:List V} {ds:List D}:W.G a=some (.tup vs)->Reps K W vs ds->Rep K W (.ref a) (.tup ds)
 |ktup {a:Addr} {vs:List V} {ds:List D}:KT K a vs->Reps K W vs ds->Rep K W (.ref a) (.tup ds)
 |lst {a:Addr} {vs:List V} {ds:List D}:W.G a=some (.lst vs)->Reps K W vs ds->Rep K W (.ref a) (.lst ds)
 |scr {a:Addr} {vs:List V} {ds:List D}:((∃o,W.G a=some (.frz o (.lst vs)))\/KL K a vs)->Reps K W vs ds->Rep K W (.ref a) (.scr ds)
 |dic {a:Addr}:W.G a=some (.dK [])->Rep K W (.ref a) .dic
 |pen {a:Addr}:W.Pn a->Rep K W (.ref a) .pen
 |cls {a:Addr} {n:Str}:eE K n=some a->Rep K W (.ref a) (.cls n)
 |exc {a C:Addr} {n:Str} {dx:Option Addr}:W.G a=some (lf C a dx)->eE K (jz n)=some C->XD W n dx->Rep K W (.ref a) (.exc n)
 |ty (n:String):Rep K W (.ty n) (.ty n)
 |pl {a:Addr} {k:Nat} {b:Addr}:AtR K W a k b->Rep K W (.ref a) (.pl k b)
inductive Reps (K:Hg) (W:Wd):List V->List D->Prop
 |nil:Reps K W [] []
 |cons {v:V} {d:D} {vs:List V} {ds:List D}:Rep K W v d->Reps K W vs ds->Reps K W (v::vs) (d::ds)
end
section
variable{W:Wd}
mutual
theorem Rep.mono(g:∀a o,W.G a=some o->W'.G a=some o)(p:∀a,W.Pn a->W'.Pn a):∀{v:V} {d:D},Rep K W v d->Rep K W' v d
 |_,_,.non=>.non
 |_,_,.bl b=>.bl b
 |_,_,.int i=>.int i
 |_,_,.str x=>.str x
 |_,_,.tup e r=>.tup (g _ _ e) (Reps.mono g p r)
 |_,_,.ktup e r=>.ktup e (Reps.mono g p r)
 |_,_,.lst e r=>.lst (g _ _ e) (Reps.mono g p r)
 |_,_,.scr e r=>.scr (e.elim (λ⟨o,z⟩=>.inl ⟨o,g _ _ z⟩) .inr) (Reps.mono g p r)
 |_,_,.dic e=>.dic (g _ _ e)
 |_,_,.pen e=>.pen (p _ e)
 |_,_,.cls e=>.cls e
 |_,_,.exc e h x=>.exc (g _ _ e) h (x.mono g)
 |_,_,.ty n=>.ty n
 |_,_,.pl h=>.pl (h.keep λa o e _=>g a o e)
theorem Reps.mono(g:∀a o,W.G a=some o->W'.G a=some o)(p:∀a,W.Pn a->W'.Pn a):∀{vs:List V} {ds:List D},Reps K W vs ds->Reps K W' vs ds
 |_,_,.nil=>.nil
 |_,_,.cons r t=>.cons (Rep.mono g p r) (Reps.mono g p t)
end
theorem Reps.length:∀{vs:List V} {ds:List D},Reps K W vs ds->vs.length=ds.length
 |_,_,.nil=>rfl
 |_,_,.cons _ t=>by simp[Reps.length t]
theorem Reps.get:∀{vs:List V} {ds:List D} {i:Nat} {d:D},Reps K W vs ds->ds[i]? = some d->∃v,vs[i]? = some v/\Rep K W v d
 |_,_,_,_,.nil,e=>by simp at e
 |_,_,0,_,.cons r _,e=>by simp at e;subst e;exact⟨_,rfl,r⟩
 |_,_,i+1,d,.cons _ t,e=>by
  obtain⟨u,h1,h2⟩:=Reps.get (i:=i) (d:=d) t (by simpa using e);exact⟨u,by simpa using h1,h2⟩
theorem Reps.append:∀{vs us:List V} {ds es:List D},Reps K W vs ds->Reps K W us es->Reps K W (vs++us) (ds++es)
 |_,_,_,_,.nil,s=>s
 |_,_,_,_,.cons r t,s=>.cons r (Reps.append t s)
theorem Reps.take:∀{vs:List V} {ds:List D} (n:Nat),Reps K W vs ds->Reps K W (vs.take n) (ds.take n)
 |_,_,0,_=>.nil
 |_,_,_+1,.nil=>.nil
 |_,_,n+1,.cons r t=>.cons r (Reps.take n t)
theorem Reps.drop:∀{vs:List V} {ds:List D} (n:Nat),Reps K W vs ds->Reps K W (vs.drop n) (ds.drop n)
 |_,_,0,r=>r
 |_,_,_+1,.nil=>.nil
 |_,_,n+1,.cons _ t=>Reps.drop n t
theorem Reps.rev(r:Reps K W vs ds):Reps K W vs.reverse ds.reverse:=by
 induction vs generalizing ds with
 |nil=>cases r;exact .nil
 |cons v vs ih=>cases r with|cons r t=>rw[uP,uP];exact(ih t).append (.cons r .nil)
theorem Reps.one(r:Reps K W us [d]):∃v,us=[v]/\Rep K W v d:=by
 cases r with|cons r t=>cases t;exact⟨_,rfl,r⟩
theorem Reps.two{e:D}(r:Reps K W us [d,e]):∃v u,us=[v,u]/\Rep K W v d/\Rep K W u e:=by
 cases r with|cons r t=>cases t with|cons r' t=>cases t;exact⟨_,_,rfl,r,r'⟩
end
def ZlU(H:Hp)(a:Addr):Prop:=∃i j k:Int,H a=some (.lst [.int i,.int j,.int k])
structure WOk(W:Wd)(H:Hp):Prop where
 g:∀a o,W.G a=some o->H a=some o
 p:∀a,W.Pn a->ZlU H a/\W.G a=none
structure Ext(W:Wd)(H:Hp)(W':Wd)(H':Hp):Prop where
 ok:WOk W' H'
 g:∀a o,W.G a=some o->W'.G a=some o
 p:∀a,W.Pn a->W'.Pn a
 gf:∀a,W.G a=none->W'.G a≠none->H a=none
 pf:∀a,¬W.Pn a->W'.Pn a->H a=none
 h:∀a o,H a=some o->¬W.Pn a->H' a=some o
section
variable{W:Wd}
theorem Ext.refl(ok:WOk W H):Ext W H W H:=⟨ok,λ_ _ e=>e,λ_ e=>e,λ_ e n=>Hj e n,λ_ n e=>Hj e n,λ_ _ e _=>e⟩
theorem ZlU.ne(p:ZlU H a):H a≠none:=by obtain⟨_,_,_,e⟩:=p;rw[e];simp
theorem Ext.isN(x:Ext W H W1 H1)(h:H1 a=none):H a=none:=by
 cases q:H a with
 |none=>rfl
 |some o=>
  by_cases hp:W.Pn a
  .exact Hj h ((x.ok.p a (x.p a hp)).1.ne)
  .rw[x.h a o q hp] at h;cases h
theorem Ext.trans(x:Ext W H W1 H1)(y:Ext W1 H1 W2 H2):Ext W H W2 H2 where
 ok:=y.ok
 g:=λa o e=>y.g a o (x.g a o e)
 p:=λa e=>y.p a (x.p a e)
 gf:=λa e n=>by
  cases q:W1.G a with
  |none=>exact x.isN (y.gf a q n)
  |some o=>exact x.gf a e (by rw[q];simp)
 pf:=λa e n=>by
  by_cases q:W1.Pn a
  .exact x.pf a e q
  .exact x.isN (y.pf a q n)
 h:=λa o e n=>y.h a o (x.h a o e n) λq=>by have:=x.pf a n q;rw[e] at this;cases this
theorem Ext.rep(x:Ext W H W1 H1){v:V}(r:Rep K W v d):Rep K W1 v d:=r.mono x.g x.p
theorem Ext.reps(x:Ext W H W1 H1){v:List V}{d:List D}(r:Reps K W v d):Reps K W1 v d:=r.mono x.g x.p
def Wd.put(W:Wd)(a:Addr)(o:HO):Wd:=⟨upd W.G a o,W.Pn⟩
theorem Ext.put{a:Addr}{o:HO}(ok:WOk W H)(h:H a=none):Ext W H (W.put a o) (upd H a o) where
 ok:=⟨λb u e=>by
   unfold Wd.put at e;dsimp only at e
   by_cases hb:b=a
   .subst hb;rw[aG] at e ⊢;exact e
   .rw[aE hb] at e ⊢;exact ok.g b u e,
  λb hb=>by
   have⟨p1,p2⟩:=ok.p b hb;have hne:b≠a:=λz=>p1.ne (by rw[z];exact h);refine⟨?_,by unfold Wd.put;dsimp only;rw[aE hne];exact p2⟩;obtain⟨i,j,k,e⟩:=p1;exact⟨i,j,k,by rw[aE hne];exact e⟩⟩
 g:=λb u e=>by
  have:b≠a:=λz=>by have:=ok.g b u e;rw[z,h] at this;cases this
  unfold Wd.put;dsimp only;rw[aE this];exact e
 p:=λb e=>e
 gf:=λb e n=>by
  by_cases hb:b=a
  .rw[hb];exact h
  .unfold Wd.put at n;dsimp only at n;rw[aE hb] at n;exact Hj e n
 pf:=λb n e=>Hj e n
 h:=λb u e _=>by
  have:b≠a:=λz=>by rw[z,h] at e;cases e
  rw[aE this];exact e
theorem Ext.new(ok:WOk W H)(h:H a=none):Ext W H W (upd H a o) where
 ok:=⟨λb u e=>by
   have q:=ok.g b u e;have:b≠a:=λz=>by rw[z,h] at q;cases q
   rw[aE this];exact q,
  λb hb=>by
   have⟨p1,p2⟩:=ok.p b hb;have hne:b≠a:=λz=>p1.ne (by rw[z];exact h);obtain⟨i,j,k,e⟩:=p1;exact⟨⟨i,j,k,by rw[aE hne];exact e⟩,p2⟩⟩
 g:=λ_ _ e=>e
 p:=λ_ e=>e
 gf:=λ_ e n=>Hj e n
 pf:=λ_ n e=>Hj e n
 h:=λb u e _=>by
  have:b≠a:=λz=>by rw[z,h] at e;cases e
  rw[aE this];exact e
theorem WOk.fresh(ok:WOk W H)(h:H a=none):W.G a=none/\¬W.Pn a:=by
 refine⟨?_,λp=>(ok.p a p).1.ne h⟩;cases q:W.G a with
 |none=>rfl
 |some o=>have:=ok.g a o q;rw[h] at this;cases this
theorem Ext.pub(x:Ext W H W1 H1)(h:H a=none)(e:H1 a=some o)(n:¬W1.Pn a)(ng:W1.G a=none):Ext W H (W1.put a o) H1 where
 ok:=⟨λb u q=>by
   unfold Wd.put at q
   by_cases hb:b=a
   .subst hb;dsimp only at q;rw[aG] at q;cases q;exact e
   .dsimp only at q;rw[aE hb] at q;exact x.ok.g b u q,
  λb hb=>by
   have⟨p1,p2⟩:=x.ok.p b hb;have hne:b≠a:=λz=>n (by rw[<-z];exact hb);exact⟨p1,by unfold Wd.put;dsimp only;rw[aE hne];exact p2⟩⟩
 g:=λb u q=>by
  have q1:=x.g b u q;have:b≠a:=λz=>by rw[z,ng] at q1;cases q1
  unfold Wd.put;dsimp only;rw[aE this];exact q1
 p:=x.p
 gf:=λb q m=>by
  by_cases hb:b=a
  .rw[hb];exact h
  .unfold Wd.put at m;dsimp only at m;rw[aE hb] at m;exact x.gf b q m
 pf:=x.pf
 h:=x.h
theorem rm(ng:W.G a=none):∀b u,W.G b=some u->(W.put a o).G b=some u:=λb u q=>by
 have:b≠a:=λz=>by rw[z,ng] at q;cases q
 unfold Wd.put;dsimp only;rw[aE this];exact q
theorem Ext.chg{o':HO}(x:Ext W H W1 H1)(h:H a=none)(e:H1 a=some o)(n:¬W1.Pn a)(ng:W1.G a=none):Ext W H W1 (upd H1 a o') where
 ok:=⟨λb u q=>by
   have:b≠a:=λz=>by rw[z,ng] at q;cases q
   rw[aE this];exact x.ok.g b u q,
  λb hb=>by
   have⟨p1,p2⟩:=x.ok.p b hb;have hne:b≠a:=λz=>n (by rw[<-z];exact hb);obtain⟨i,j,k,e⟩:=p1;exact⟨⟨i,j,k,by rw[aE hne];exact e⟩,p2⟩⟩
 g:=x.g
 p:=x.p
 gf:=x.gf
 pf:=x.pf
 h:=λb u q m=>by
  have:b≠a:=λz=>by rw[z,h] at q;cases q
  rw[aE this];exact x.h b u q m
end
inductive SV where
 |un|d (x:D)|ow (xs:List D)|oo (xss:List (List D))
variable{x0:SV}
abbrev bV:=List SV
variable{ρ:bV}
def Own1(K:Hg)(H0:Hp)(W:Wd)(H:Hp)(b:Addr)(xs:List D):Prop:=∃vs,H b=some (HO.lst vs)/\W.G b=none/\¬W.Pn b/\H0 b=none/\Reps K W vs xs
structure OwnT(K:Hg)(H0:Hp)(W:Wd)(H:Hp)(a:Addr)(bs:List Addr)(xss:List (List D)):Prop where
 a1:H a=some (HO.lst (bs.map V.ref))
 a2:W.G a=none
 a3:¬W.Pn a
 a4:H0 a=none
 nd:(a::bs).Nodup
 len:bs.length=xss.length
 row:∀(i:Nat) b,bs[i]? = some b->∃xs,xss[i]? = some xs/\Own1 K H0 W H b xs
structure OOs(K:Hg)(H0:Hp)(W:Wd)(σ:L2.St)(H:Hp)(ρ:bV):Prop where
 t:∀(i:Nat) xss,ρ[i]? = some (SV.oo xss)->∃a bs,σ[i]? = some (some (V.ref a))/\OwnT K H0 W H a bs xss/\∀(j:Nat) ys c,ρ[j]? = some (SV.ow ys)->σ[j]? = some (some (V.ref c))->c∉a::bs
 u:∀(i j:Nat) xss yss,ρ[i]? = some (SV.oo xss)->ρ[j]? = some (SV.oo yss)->i=j
structure SOk(K:Hg)(W0:Wd)(H0:Hp)(W:Wd)(σ:L2.St)(H:Hp)(ρ:bV):Prop where
 ext:Ext W0 H0 W H
 len:ρ.length=σ.length
 d:∀(i:Nat) x,ρ[i]? = some (SV.d x)->∃v:V,σ[i]? = some (some v)/\Rep K W v x
 o:∀(i:Nat) xs,ρ[i]? = some (SV.ow xs)->∃a vs,σ[i]? = some (some (V.ref a))/\H a=some (HO.lst vs)/\W.G a=none/\¬W.Pn a/\H0 a=none/\Reps K W vs xs
 ne:∀(i j:Nat) xs ys a,i≠j->ρ[i]? = some (SV.ow xs)->ρ[j]? = some (SV.ow ys)->σ[i]? = some (some (V.ref a))->σ[j]?≠some (some (V.ref a))
 oo:OOs K H0 W σ H ρ
section
variable{W:Wd}
theorem SOk.ok(s:SOk K W0 H0 W σ H ρ):WOk W H:=s.ext.ok
theorem Own1.step(o:Own1 K H0 W H b xs)(x:Ext W H W1 H1):Own1 K H0 W1 H1 b xs:=by
 obtain⟨vs,e2,e3,e4,e5,r⟩:=o;refine⟨vs,x.h b _ e2 e4,?_,λq=>?_,e5,x.reps r⟩
 .cases q:W1.G b with
  |none=>rfl
  |some o=>have:=x.gf b e3 (by rw[q];simp);rw[e2] at this;cases this
 .have:=x.pf b e4 q;rw[e2] at this;cases this
theorem OwnT.step{a:Addr}{bs:List Addr}{xss:List (List D)}(o:OwnT K H0 W H a bs xss)(x:Ext W H W1 H1):OwnT K H0 W1 H1 a bs xss:=by
 refine⟨x.h a _ o.a1 o.a3,?_,λq=>?_,o.a4,o.nd,o.len,λi b e=>let⟨xs,e1,q⟩:=o.row i b e;⟨xs,e1,q.step x⟩⟩
 .cases q:W1.G a with
  |none=>rfl
  |some u=>have:=x.gf a o.a2 (by rw[q];simp);rw[o.a1] at this;cases this
 .have:=x.pf a o.a3 q;rw[o.a1] at this;cases this
theorem OwnT.here{c:Addr}{bs:List Addr}(o:OwnT K H0 W H a bs xss)(h:H c=none):c∉a::bs:=λq=>by
 rcases Yam.mp q with rfl|q
 .rw[o.a1] at h;cases h
 .obtain⟨i,hi,rfl⟩:=Ybw.mp q
  obtain⟨xs,_,vs,e,_⟩:=o.row i _ (iQ hi);rw[e] at h;cases h
theorem OwnT.noPen{c:Addr}{bs:List Addr}(o:OwnT K H0 W H a bs xss)(h:W.Pn c):c∉a::bs:=λq=>by
 rcases Yam.mp q with rfl|q
 .exact o.a3 h
 .obtain⟨i,hi,rfl⟩:=Ybw.mp q
  obtain⟨xs,_,vs,_,_,e,_⟩:=o.row i _ (iQ hi);exact e h
theorem OwnT.upd{a c:Addr}{o':HO}{bs:List Addr}{xss:List (List D)}(o:OwnT K H0 W H a bs xss)(h:c∉a::bs):OwnT K H0 W (upd H c o') a bs xss:=by
 have ha:a≠c:=λz=>h (by rw[z];simp);refine⟨by rw[aE ha];exact o.a1,o.a2,o.a3,o.a4,o.nd,o.len,λi b e=>?_⟩;obtain⟨xs,e1,vs,q⟩:=o.row i b e;have hb:b≠c:=λz=>h (by rw[<-z];exact cK _ (rh e));exact⟨xs,e1,vs,by rw[aE hb];exact q⟩
theorem OwnT.put{a c:Addr}{o':HO}{bs:List Addr}{xss:List (List D)}(o:OwnT K H0 W H a bs xss)(h:c∉a::bs)(hc:W.G c=none):OwnT K H0 (W.put c o') H a bs xss:=by
 have ha:a≠c:=λz=>h (by rw[z];simp);refine⟨o.a1,by unfold Wd.put;dsimp only;rw[aE ha];exact o.a2,o.a3,o.a4,o.nd,o.len,λi b e=>?_⟩;obtain⟨xs,e1,vs,q1,q2,q3,q4,q5⟩:=o.row i b e;have hb:b≠c:=λz=>h (by rw[<-z];exact cK _ (rh e));exact⟨xs,e1,vs,q1,by unfold Wd.put;dsimp only;rw[aE hb];exact q2,q3,q4,q5.mono (rm hc) λ_ z=>z⟩
theorem OOs.none(h:∀(i:Nat) xss,ρ[i]?≠some (SV.oo xss)):OOs K H0 W σ H ρ:=⟨λi xss e=>Hj e (h i xss),λi j xss yss e=>Hj e (h i xss)⟩
theorem OOs.step(o:OOs K H0 W σ H ρ)(x:Ext W H W1 H1):OOs K H0 W1 σ H1 ρ:=⟨λi xss e=>let⟨a,bs,e1,q,n⟩:=o.t i xss e;⟨a,bs,e1,q.step x,n⟩,o.u⟩
theorem OOs.set{σ':L2.St}(o:OOs K H0 W σ H ρ){i:Nat}{y:SV}(hy:∀xss,y≠.oo xss)(hσ:∀j,i≠j->σ'[j]? = σ[j]?)(hw:∀ys c,y=.ow ys->σ'[i]? = some (some (V.ref c))->∀(j:Nat) xss a bs,i≠j->ρ[j]? = some (SV.oo xss)->σ[j]? = some (some (V.ref a))->OwnT K H0 W H a bs xss->(∀(j:Nat) ys c,ρ[j]? = some (SV.ow ys)->σ[j]? = some (some (V.ref c))->c∉a::bs)->c∉a::bs):OOs K H0 W σ' H (ρ.set i y):=by
 have nt:∀{j:Nat} {xss:List (List D)},(ρ.set i y)[j]? = some (SV.oo xss)->i≠j/\ρ[j]? = some (SV.oo xss):=λ{j xss} e=>by
  by_cases h:i=j
  .subst h
   by_cases hi:i<ρ.length
   .rw[dW hi] at e;cases e;exact Hj rfl (hy xss)
   .rw[eY (by rw[et];omega)] at e;cases e
  .rw[dg h] at e;exact⟨h,e⟩
 refine⟨λj xss e=>?_,λj k xss yss e1 e2=>o.u j k xss yss (nt e1).2 (nt e2).2⟩;obtain⟨h,e'⟩:=nt e;clear e;obtain⟨a,bs,e1,q,n⟩:=o.t j xss e';refine⟨a,bs,by rw[hσ j h];exact e1,q,λk ys c ek ec=>?_⟩
 by_cases hk:i=k
 .subst hk
  by_cases hi:i<ρ.length
  .rw[dW hi] at ek;cases ek;exact hw ys c rfl ec j xss a bs h e' e1 q n
  .rw[eY (by rw[et];omega)] at ek;cases ek
 .rw[dg hk] at ek
  rw[hσ k hk] at ec;exact n k ys c ek ec
theorem SOk.step(s:SOk K W0 H0 W σ H ρ)(x:Ext W H W1 H1):SOk K W0 H0 W1 σ H1 ρ where
 ext:=s.ext.trans x
 len:=s.len
 d:=λi y e=>let⟨v,e1,r⟩:=s.d i y e;⟨v,e1,x.rep r⟩
 o:=λi ys e=>by
  obtain⟨a,vs,e1,e2,e3,e4,e5,r⟩:=s.o i ys e;refine⟨a,vs,e1,x.h a _ e2 e4,?_,λq=>?_,e5,x.reps r⟩
  .cases q:W1.G a with
   |none=>rfl
   |some o=>have:=x.gf a e3 (by rw[q];simp);rw[e2] at this;cases this
  .have:=x.pf a e4 q;rw[e2] at this;cases this
 ne:=s.ne
 oo:=s.oo.step x
end
abbrev Ex:=Str
variable{E:Ex->Prop}
def nO(K:Hg)(W:Wd)(_:Hp)(cls:Value)(dx:Option Addr)(ex:Ex):Prop:=∃C,eE K (jz ex)=some C/\cls=.ref C/\XD W ex dx
def gv(K:Hg)(W0:Wd)(H0:Hp)(E:Ex->Prop)(EX:XK):Prop:=∀ex W' H' cls dx,E ex->Ext W0 H0 W' H'->nO K W' H' cls dx ex->EX cls dx H'
abbrev WE:=(Ex->Prop)->bV->(D->Prop)->Prop
variable{wa wb wc we wo:WE}
abbrev WT:=(Ex->Prop)->bV->(Bool->Prop)->Prop
variable{wf:WT}
abbrev WA:=(Ex->Prop)->bV->(List D->Prop)->Prop
variable{t wi:WA}
def RQ(K:Hg)(W:Wd)(H:Hp)(Q:VK)(d:D):Prop:=∀v W' H',Ext W H W' H'->Rep K W' v d->Q v H'
structure PX(X:Cx)(EX:XK)(e:Expr)(w:WE):Prop where
 t:∃t,PE X e t/\∀W0 H0 W σ H ρ E Q,SOk X.K W0 H0 W σ H ρ->gv X.K W0 H0 E EX->w E ρ (RQ X.K W H Q)->t σ H Q
 mono:∀E ρ P P',(∀d,P d->P' d)->w E ρ P->w E ρ P'
structure iw(X:Cx)(EX:XK)(e:Expr)(w:WT):Prop where
 t:∃t,PT X e t/\∀W0 H0 W σ H ρ E Q,SOk X.K W0 H0 W σ H ρ->gv X.K W0 H0 E EX->w E ρ (λb=>∀W' H',Ext W H W' H'->Q b H')->t σ H Q
 mono:∀E ρ P P',(∀d,P d->P' d)->w E ρ P->w E ρ P'
structure ff(X:Cx)(EX:XK)(es:List Expr)(w:WA):Prop where
 t:∃t,PA X es t/\∀W0 H0 W σ H ρ E Q,SOk X.K W0 H0 W σ H ρ->gv X.K W0 H0 E EX->w E ρ (λds=>∀vs W' H',Ext W H W' H'->Reps X.K W' vs ds->Q vs H')->t σ H Q
 mono:∀E ρ P P',(∀d,P d->P' d)->w E ρ P->w E ρ P'
structure PXL(X:Cx)(EX:XK)(e:Expr)(w:WA):Prop where
 t:∃t,PE X e t/\∀W0 H0 W σ H ρ E Q,SOk X.K W0 H0 W σ H ρ->gv X.K W0 H0 E EX->
  w E ρ (λds=>∀a vs W' H',Ext W H W' H'->H' a=some (.lst vs)->W'.G a=none->¬W'.Pn a->H a=none->Reps X.K W' vs ds->Q (.ref a) H')->t σ H Q
 mono:∀E ρ P P',(∀d,P d->P' d)->w E ρ P->w E ρ P'
structure Nds where
 nx:bV->Prop
 rt:D->Prop
 bk:bV->Prop:=λ_=>False
 ct:bV->Prop:=λ_=>False
structure Wle(F W:Wd):Prop where
 g:∀a o,F.G a=some o->W.G a=some o
 p:∀a,F.Pn a->W.Pn a
theorem Wle.refl(F:Wd):Wle F F:=⟨λ_ _ e=>e,λ_ e=>e⟩
theorem Wle.trans{F W V:Wd}(a:Wle F W)(b:Wle W V):Wle F V:=⟨λx o e=>b.g x o (a.g x o e),λx e=>b.p x (a.p x e)⟩
theorem Wle.ext{F W:Wd}(a:Wle F W)(x:Ext W H W1 H1):Wle F W1:=a.trans ⟨x.g,x.p⟩
structure tE(K:Hg)(W0:Wd)(H0:Hp)(F:Wd)(Dn:e8)(N:Nds):Prop where
 nx:∀W σ H ρ,SOk K W0 H0 W σ H ρ->Wle F W->N.nx ρ->Dn.nx σ H
 rt:∀d v W H,Ext W0 H0 W H->Rep K W v d->N.rt d->Dn.rt v H
 bk:∀W σ H ρ,SOk K W0 H0 W σ H ρ->Wle F W->N.bk ρ->Dn.bk σ H
 ct:∀W σ H ρ,SOk K W0 H0 W σ H ρ->Wle F W->N.ct ρ->Dn.ct σ H
structure Nds.le(N N':Nds):Prop where
 nx:∀ρ,N.nx ρ->N'.nx ρ
 rt:∀d,N.rt d->N'.rt d
 bk:∀ρ,N.bk ρ->N'.bk ρ
 ct:∀ρ,N.ct ρ->N'.ct ρ
abbrev WS:=(Ex->Prop)->Nds->bV->Prop
variable{z z':WS}
structure PZ(X:Cx)(EX:XK)(st:Stmt)(z:WS):Prop where
 t:∃t,PS X st t/\∀W0 H0 F W σ H ρ E Dn N,SOk X.K W0 H0 W σ H ρ->Wle F W->gv X.K W0 H0 E EX->tE X.K W0 H0 F Dn N->z E N ρ->t Dn σ H
 mono:∀E ρ N N',N.le N'->z E N ρ->z E N' ρ
structure ix(X:Cx)(EX:XK)(st:List Stmt)(z:WS):Prop where
 t:∃t,kz X st t/\∀W0 H0 F W σ H ρ E Dn N,SOk X.K W0 H0 W σ H ρ->Wle F W->gv X.K W0 H0 E EX->tE X.K W0 H0 F Dn N->z E N ρ->t Dn σ H
 mono:∀E ρ N N',N.le N'->z E N ρ->z E N' ρ
section
variable{W:Wd}{Q:VK}
theorem RQ.ext(h:RQ K W H Q d)(x:Ext W H W1 H1):RQ K W1 H1 Q d:=λv W' H' y r=>h v W' H' (x.trans y) r
theorem RQ.now(h:RQ K W H Q d)(ok:WOk W H){v:V}(r:Rep K W v d):Q v H:=h v W H (.refl ok) r
theorem RQ.tup{vs:List V}{ds:List D}(h:RQ K W H Q (.tup ds))(ok:WOk W H)(r:Reps K W vs ds){p:Addr}(hp:H p=none):Q (.ref p) (upd H p (.tup vs)):=by
 have x:=Ext.put (o:=.tup vs) ok hp;exact h _ _ _ x (.tup (by unfold Wd.put;dsimp only;rw[aG]) (x.reps r))
theorem RQ.lst{vs:List V}{ds:List D}(h:RQ K W H Q (.lst ds))(ok:WOk W H)(r:Reps K W vs ds){p:Addr}(hp:H p=none):Q (.ref p) (upd H p (.lst vs)):=by
 have x:=Ext.put (o:=.lst vs) ok hp;exact h _ _ _ x (.lst (by unfold Wd.put;dsimp only;rw[aG]) (x.reps r))
theorem Rep.sqt{a:V}(r:Rep K W a (.tup ds))(ok:WOk W H):∃p vs,a=.ref p/\SqT K H p vs/\Reps K W vs ds:=by
 cases r with
 |tup e r=>exact⟨_,_,rfl,.inl (.inl (ok.g _ _ e)),r⟩
 |ktup e r=>exact⟨_,_,rfl,.inr e,r⟩
theorem Rep.sql{a:V}(r:Rep K W a (.lst ds))(ok:WOk W H):∃p vs,a=.ref p/\SqL K H p vs/\Reps K W vs ds:=by
 cases r with
 |lst e r=>exact⟨_,_,rfl,.inl (.inl (ok.g _ _ e)),r⟩
theorem Rep.sqs{a:V}(r:Rep K W a (.scr ds))(ok:WOk W H):∃p vs,a=.ref p/\SqL K H p vs/\Reps K W vs ds:=by
 cases r with
 |scr e r=>exact⟨_,_,rfl,e.elim (λ⟨o,e⟩=>.inl (.inr ⟨o,ok.g _ _ e⟩)) .inr,r⟩
end
section
def wN(i:Nat):WE:=λ_ ρ Q=>match ρ[i]? with
 |some (.d x)=>Q x
 |_=>False
theorem aF(i:Nat)(hN:X.N[i]? = some x:=by rfl)(hv:oF X.env.scope x:=by first|exact Or.inl rfl|exact Or.inr (Or.inl rfl)|exact Or.inr (Or.inr rfl))(hd:(x==("__debug__" : Str))=false:=by decide)
  (hcd:(x==("__classdict__" : Str))=false:=by decide):PX X EX (.Name x pos) (wN i):=by
 refine⟨⟨_,fK hN hv hd hcd,λW0 H0 W σ H ρ E Q s _ h=>?_⟩,λE ρ P P' hp h=>?_⟩
 .unfold wN at h
  split at h
  .rename_i x e
   obtain⟨v,e1,r⟩:=s.d i x e;exact⟨v,e1,h.now s.ok r⟩
  .exact h.elim
 .unfold wN at h ⊢
  split at h
  .exact hp _ h
  .exact h.elim
def wC(d:D):WE:=λ_ _ Q=>Q d
theorem wC.mono:∀(E:Ex->Prop) ρ P P',(∀d,P d->P' d)->wC d E ρ P->wC d E ρ P':=λ_ _ _ _ hp h=>hp _ h
theorem aL{i j}:PX X EX (.Constant (.int i) j pos) (wC (.int i)):=⟨⟨_,hV,λ_ _ _ _ _ _ _ _ s _ h=>RQ.now h s.ok (.int i)⟩,wC.mono⟩
theorem lJ{b j}:PX X EX (.Constant (.bool b) j pos) (wC (.bl b)):=⟨⟨_,sC,λ_ _ _ _ _ _ _ _ s _ h=>RQ.now h s.ok (.bl b)⟩,wC.mono⟩
theorem rn{j}:PX X EX (.Constant .none j pos) (wC .non):=⟨⟨_,oG,λ_ _ _ _ _ _ _ _ s _ h=>RQ.now h s.ok .non⟩,wC.mono⟩
theorem aS{x j}:PX X EX (.Constant (.str x) j pos) (wC (.str x)):=⟨⟨_,oH,λ_ _ _ _ _ _ _ _ s _ h=>RQ.now h s.ok (.str x)⟩,wC.mono⟩
theorem xv{v:V}{u:Value}(hm:X.mg x=some u)(r:RelV v u)(rd:∀W,Rep X.K W v d)(hg:Gl X x:=by rfl)(hd:(x==("__debug__" : Str))=false:=by decide):PX X EX (.Name x pos) (wC d):=
 ⟨⟨_,dl hg hm r hd,λ_ _ _ _ _ _ _ _ s _ h=>RQ.now h s.ok (rd _)⟩,wC.mono⟩
theorem Dt{v:V}{u:Value}(hm:X.mg x=none)(hv:bootBuiltins x=some u)(r:RelV v u)(rd:∀W,Rep X.K W v d)(hg:Gl X x:=by rfl)(hn:x≠ "__name__" :=by decide)(hd:(x==("__debug__" : Str))=false:=by decide):PX X EX (.Name x pos) (wC d):=
 ⟨⟨_,me hg hm hv r hn hd,λ_ _ _ _ _ _ _ _ s _ h=>RQ.now h s.ok (rd _)⟩,wC.mono⟩
end
abbrev G2:=D->D->(D->Prop)->Prop
structure c8(X:Cx)(f:Value->Value->Sem Value)(g:G2):Prop where
 t:∃r,OpR X f r/\∀W H x y dx dy Q,WOk W H->Rep X.K W x dx->Rep X.K W y dy->g dx dy (RQ X.K W H Q)->r x y H Q
 mono:∀x y P P',(∀d,P d->P' d)->g x y P->g x y P'
section
variable{a b c:Expr}
def w2(g:G2)(wa wb:WE):WE:=λE ρ Q=>wa E ρ λx=>wb E ρ λy=>g x y Q
theorem w2.mono{g:G2}(ha:PX X EX a wa)(hb:PX X EX b wb)(hg:∀x y P P',(∀d,P d->P' d)->g x y P->g x y P'):∀E ρ P P',(∀d,P d->P' d)->w2 g wa wb E ρ P->w2 g wa wb E ρ P':=
 λE ρ P P' hp h=>ha.mono E ρ _ _ (λx hx=>hb.mono E ρ _ _ (λy hy=>hg x y _ _ hp hy) hx) h
theorem jA{ta tb:TE}{R:V->V->Hp->Prop}{W:Wd}(hma:∀E ρ P P',(∀d,P d->P' d)->wa E ρ P->wa E ρ P')(hmb:∀E ρ P P',(∀d,P d->P' d)->wb E ρ P->wb E ρ P')
  (ka:∀W0 H0 W σ H ρ E Q,SOk X.K W0 H0 W σ H ρ->gv X.K W0 H0 E EX->wa E ρ (RQ X.K W H Q)->ta σ H Q) (kb:∀W0 H0 W σ H ρ E Q,SOk X.K W0 H0 W σ H ρ->gv X.K W0 H0 E EX->wb E ρ (RQ X.K W H Q)->tb σ H Q)
  (s:SOk X.K W0 H0 W σ H ρ) (eo:gv X.K W0 H0 E EX) (h:wa E ρ λx=>wb E ρ λy=>G x y)
  (k:∀W2 H2 x y dx dy,Ext W H W2 H2->Rep X.K W2 x dx->Rep X.K W2 y dy->G dx dy->R x y H2):ta σ H λx H1=>tb σ H1 λy H2=>R x y H2:=
 ka W0 H0 W σ H ρ E _ s eo (hma E ρ _ _ (λdx hx v W1 H1 x1 r1=>kb W0 H0 W1 σ H1 ρ E _ (s.step x1) eo (hmb E ρ _ _ (λdy hy u W2 H2 x2 r2=>k W2 H2 v u dx dy (x1.trans x2) (x2.rep r1) r2 hy) hx)) h)
theorem bC{op:Operator}{g:G2}(ho:c8 X (binaryOp op) g)(ha:PX X EX a wa)(hb:PX X EX b wb):PX X EX (.BinOp a op b pos) (w2 g wa wb):=by
 obtain⟨ta,pa,ka⟩:=ha.t;obtain⟨tb,pb,kb⟩:=hb.t;obtain⟨r,pr,kr⟩:=ho.t;refine⟨⟨_,ny pr pa pb,λW0 H0 W σ H ρ E Q s eo h=>?_⟩,w2.mono ha hb ho.mono⟩;exact jA ha.mono hb.mono ka kb s eo h λW2 H2 x y dx dy x2 rx ry hg=>kr W2 H2 x y dx dy Q x2.ok rx ry (ho.mono _ _ _ _ (λd hd=>RQ.ext hd x2) hg)
theorem ve{g:G2}(ho:c8 X (compareOp op) g)(ha:PX X EX a wa)(hb:PX X EX b wb)(hm:behindInMarks op b=false:=by first|exact fO _|with_unfolding_all rfl):PX X EX (.Compare a [op] [b] pos) (w2 g wa wb):=by
 obtain⟨ta,pa,ka⟩:=ha.t;obtain⟨tb,pb,kb⟩:=hb.t;obtain⟨r,pr,kr⟩:=ho.t;refine⟨⟨_,i0 pr pa pb hm,λW0 H0 W σ H ρ E Q s eo h=>?_⟩,w2.mono ha hb ho.mono⟩;exact jA ha.mono hb.mono ka kb s eo h λW2 H2 x y dx dy x2 rx ry hg=>kr W2 H2 x y dx dy Q x2.ok rx ry (ho.mono _ _ _ _ (λd hd=>RQ.ext hd x2) hg)
def isB(Q:Bool->Prop):D->Prop
 |.bl b=>Q b
 |_=>False
theorem isB.mono{Q Q':Bool->Prop}(h:∀b,Q b->Q' b):∀d,isB Q d->isB Q' d
 |.bl b,z=>h b z
 |.non,z=>z|.int _,z=>z|.str _,z=>z|.tup _,z=>z|.lst _,z=>z|.dic,z=>z|.pen,z=>z|.cls _,z=>z|.exc _,z=>z|.ty _,z=>z|.scr _,z=>z|.pl _ _,z=>z
def wT(w:WE):WT:=λE ρ Q=>w E ρ (isB Q)
theorem mB{Q:Bool->Prop}(h:isB Q d):∃b,d=.bl b/\Q b:=by
 cases d with
 |bl b=>exact⟨b,rfl,h⟩
 |_=>exact h.elim
theorem wT.mono{w:WE}(h:∀E ρ P P',(∀d,P d->P' d)->w E ρ P->w E ρ P'):∀E ρ P P',(∀d,P d->P' d)->wT w E ρ P->wT w E ρ P':=λE ρ _ _ hp z=>h E ρ _ _ (isB.mono hp) z
theorem c9{g:G2}(ho:c8 X (compareOp op) g)(ha:PX X EX a wa)(hb:PX X EX b wb)(hm:behindInMarks op b=false:=by first|exact fO _|with_unfolding_all rfl):iw X EX (.Compare a [op] [b] pos) (wT (w2 g wa wb)):=by
 obtain⟨ta,pa,ka⟩:=ha.t;obtain⟨tb,pb,kb⟩:=hb.t;obtain⟨r,pr,kr⟩:=ho.t;refine⟨⟨_,eA pr pa pb hm,λW0 H0 W σ H ρ E Q s eo h=>?_⟩,wT.mono (w2.mono ha hb ho.mono)⟩;refine jA ha.mono hb.mono ka kb s eo h λW2 H2 x y dx dy x2 rx ry hg=>kr W2 H2 x y dx dy _ x2.ok rx ry (ho.mono _ _ _ _ (λd hd v W' H' x' r'=>?_) hg);obtain⟨b,rfl,q⟩:=mB hd;cases r';exact⟨b,rfl,q W' H' (x2.trans x')⟩
theorem lK(ha:PX X EX a wa)(he:∀whole,isTrue a X.env whole=(do let v <-whole;standAt a.pos;holding [v] (truthy v)):=by intro _;rfl):iw X EX a (wT wa):=by
 obtain⟨ta,pa,ka⟩:=ha.t;refine⟨⟨_,gF pa he,λW0 H0 W σ H ρ E Q s eo h=>?_⟩,wT.mono ha.mono⟩;refine ka W0 H0 W σ H ρ E _ s eo (ha.mono _ _ _ _ (λd hd v W' H' x' r'=>?_) h);obtain⟨b,rfl,q⟩:=mB hd;cases r';exact⟨b,rfl,q W' H' x'⟩
def cm(w:WT):WT:=λE ρ Q=>w E ρ λb=>Q (!b)
theorem lg{w:WT}(ha:iw X EX a w):iw X EX (.UnaryOp .Not a pos) (cm w):=by
 obtain⟨ta,pa,ka⟩:=ha.t;refine⟨⟨_,kB pa,λW0 H0 W σ H ρ E Q s eo h=>?_⟩,λE ρ P P' hp h=>ha.mono _ _ _ _ (λb hb=>hp _ hb) h⟩;exact ka W0 H0 W σ H ρ E _ s eo h
structure PXW(X:Cx)(EX:XK)(e:Expr)(w:WT):Prop where
 t:∃t,PW X e t/\∀W0 H0 W σ H ρ E Q,SOk X.K W0 H0 W σ H ρ->gv X.K W0 H0 E EX->w E ρ (λb=>∀W' H',Ext W H W' H'->Q b H')->t σ H Q
 mono:∀E ρ P P',(∀d,P d->P' d)->w E ρ P->w E ρ P'
theorem PXW.pxt{w:WT}(h:PXW X EX a w):iw X EX a w:=let⟨t,p,k⟩:=h.t;⟨⟨t,p.pt,k⟩,h.mono⟩
variable{bD:List Expr}
def dL(w w':WT):WT:=λE ρ Q=>w E ρ λb=>if b=true then w' E ρ Q else Q false
def fg(w w':WT):WT:=λE ρ Q=>w E ρ λb=>if b=true then Q true else w' E ρ Q
theorem xw{w:WT}(ha:iw X EX a w):PXW X EX (.BoolOp .And [a] pos) w:=let⟨t,p,k⟩:=ha.t;⟨⟨t,mf p,k⟩,ha.mono⟩
theorem nQ{w:WT}(ha:iw X EX a w):PXW X EX (.BoolOp .Or [a] pos) w:=let⟨t,p,k⟩:=ha.t;⟨⟨t,kA p,k⟩,ha.mono⟩
theorem xy{w w':WT}(ha:iw X EX a w)(hb:PXW X EX (.BoolOp .And (b::bD) pos) w'):PXW X EX (.BoolOp .And (a::b::bD) pos) (dL w w'):=by
 obtain⟨ta,pa,ka⟩:=ha.t;obtain⟨tb,pb,kb⟩:=hb.t;refine⟨⟨_,oJ pa pb,λW0 H0 W σ H ρ E Q s eo h=>?_⟩,λE ρ P P' hp h=>ha.mono _ _ _ _ (λb hb'=>?_) h⟩
 .refine ka W0 H0 W σ H ρ E _ s eo (ha.mono _ _ _ _ (λb hb' W1 H1 x1=>?_) h)
  cases b with
  |true=>
   rw[Hh rfl] at hb' ⊢;exact kb W0 H0 W1 σ H1 ρ E _ (s.step x1) eo (hb.mono _ _ _ _ (λb hq W' H' x'=>hq W' H' (x1.trans x')) hb')
  |false=>rw[if_neg (by decide)] at hb' ⊢;exact hb' W1 H1 x1
 .cases b with
  |true=>rw[Hh rfl] at hb' ⊢;exact hb.mono _ _ _ _ hp hb'
  |false=>rw[if_neg (by decide)] at hb' ⊢;exact hp _ hb'
theorem mC{w w':WT}(ha:iw X EX a w)(hb:PXW X EX (.BoolOp .Or (b::bD) pos) w'):PXW X EX (.BoolOp .Or (a::b::bD) pos) (fg w w'):=by
 obtain⟨ta,pa,ka⟩:=ha.t;obtain⟨tb,pb,kb⟩:=hb.t;refine⟨⟨_,nr pa pb,λW0 H0 W σ H ρ E Q s eo h=>?_⟩,λE ρ P P' hp h=>ha.mono _ _ _ _ (λb hb'=>?_) h⟩
 .refine ka W0 H0 W σ H ρ E _ s eo (ha.mono _ _ _ _ (λb hb' W1 H1 x1=>?_) h)
  cases b with
  |true=>rw[Hh rfl] at hb' ⊢;exact hb' W1 H1 x1
  |false=>
   rw[if_neg (by decide)] at hb' ⊢;exact kb W0 H0 W1 σ H1 ρ E _ (s.step x1) eo (hb.mono _ _ _ _ (λb hq W' H' x'=>hq W' H' (x1.trans x')) hb')
 .cases b with
  |true=>rw[Hh rfl] at hb' ⊢;exact hp _ hb'
  |false=>rw[if_neg (by decide)] at hb' ⊢;exact hb.mono _ _ _ _ hp hb'
end
section
variable{a b c:Expr}{bD:List Expr}
def jB(wa wb:WE):WE:=λE ρ Q=>wa E ρ (isB λb=>if b=true then wb E ρ Q else Q (.bl false))
def fX(wa wb:WE):WE:=λE ρ Q=>wa E ρ (isB λb=>if b=true then Q (.bl true) else wb E ρ Q)
def lh(wa:WE):WE:=λE ρ Q=>wa E ρ (isB λb=>Q (.bl (!b)))
theorem xz{op}(h:PX X EX a wa):PX X EX (.BoolOp op [a] pos) wa:=let⟨t,q,k⟩:=h.t;⟨⟨t,kC q,k⟩,h.mono⟩
theorem xA(ha:PX X EX a wa)(hb:PX X EX (.BoolOp .And (b::bD) pos) wb):PX X EX (.BoolOp .And (a::b::bD) pos) (jB wa wb):=by
 obtain⟨ta,pa,ka⟩:=ha.t;obtain⟨tb,pb,kb⟩:=hb.t;refine⟨⟨_,oK pa pb,λW0 H0 W σ H ρ E Q s eo h=>?_⟩,λE ρ P P' hp h=>ha.mono _ _ _ _ (isB.mono λb hb'=>?_) h⟩
 .refine ka W0 H0 W σ H ρ E _ s eo (ha.mono _ _ _ _ (λd hd v W1 H1 x1 r1=>?_) h)
  obtain⟨b,rfl,q⟩:=mB hd;cases r1;refine⟨b,rfl,?_⟩;cases b with
  |true=>rw[Hh rfl] at q ⊢;exact kb W0 H0 W1 σ H1 ρ E _ (s.step x1) eo (hb.mono _ _ _ _ (λd hd=>RQ.ext hd x1) q)
  |false=>rw[if_neg (by decide)] at q ⊢;exact q _ W1 H1 x1 (.bl false)
 .cases b with
  |true=>rw[Hh rfl] at hb' ⊢;exact hb.mono _ _ _ _ hp hb'
  |false=>rw[if_neg (by decide)] at hb' ⊢;exact hp _ hb'
theorem Du(ha:PX X EX a wa):PX X EX (.UnaryOp .Not a pos) (lh wa):=by
 obtain⟨ta,pa,ka⟩:=ha.t;refine⟨⟨_,oM pa,λW0 H0 W σ H ρ E Q s eo h=>?_⟩,λE ρ P P' hp h=>ha.mono _ _ _ _ (isB.mono λb hb'=>hp _ hb') h⟩;refine ka W0 H0 W σ H ρ E _ s eo (ha.mono _ _ _ _ (λd hd v W1 H1 x1 r1=>?_) h);obtain⟨b,rfl,q⟩:=mB hd;cases r1;exact⟨b,rfl,q _ W1 H1 x1 (.bl _)⟩
def jc(wt:WT)(wa wb:WE):WE:=λE ρ Q=>wt E ρ λb=>if b=true then wa E ρ Q else wb E ρ Q
theorem vf{wt:WT}(hc:iw X EX c wt)(ha:PX X EX a wa)(hb:PX X EX b wb):PX X EX (.IfExp c a b pos) (jc wt wa wb):=by
 obtain⟨ta,pa,ka⟩:=ha.t;obtain⟨tb,pb,kb⟩:=hb.t;obtain⟨tc,pc,kc⟩:=hc.t;refine⟨⟨_,kE pc pa pb,λW0 H0 W σ H ρ E Q s eo h=>?_⟩,λE ρ P P' hp h=>hc.mono _ _ _ _ (λb hb'=>?_) h⟩
 .refine kc W0 H0 W σ H ρ E _ s eo (hc.mono _ _ _ _ (λb q W1 H1 x1=>?_) h)
  cases b with
  |true=>rw[Hh rfl] at q ⊢;exact ka W0 H0 W1 σ H1 ρ E _ (s.step x1) eo (ha.mono _ _ _ _ (λd hd=>RQ.ext hd x1) q)
  |false=>rw[if_neg (by decide)] at q ⊢;exact kb W0 H0 W1 σ H1 ρ E _ (s.step x1) eo (hb.mono _ _ _ _ (λd hd=>RQ.ext hd x1) q)
 .cases b with
  |true=>rw[Hh rfl] at hb' ⊢;exact ha.mono _ _ _ _ hp hb'
  |false=>rw[if_neg (by decide)] at hb' ⊢;exact hb.mono _ _ _ _ hp hb'
def ZaP(g g':G2)(wa wb wc:WE):WE:=λE ρ Q=>wa E ρ λx=>wb E ρ λy=>g x y (isB λk=>if k=true then wc E ρ λz=>g' y z Q else Q (.bl false))
theorem ZaP.mono{g g':G2}(ha:PX X EX a wa)(hb:PX X EX b wb)(hc:PX X EX c wc)(hg:∀x y P P',(∀d,P d->P' d)->g x y P->g x y P')(hg':∀x y P P',(∀d,P d->P' d)->g' x y P->g' x y P') :
  ∀E ρ P P',(∀d,P d->P' d)->ZaP g g' wa wb wc E ρ P->ZaP g g' wa wb wc E ρ P':=λE ρ P P' hp h=>
 ha.mono _ _ _ _ (λx hx=>hb.mono _ _ _ _ (λy hy=>hg x y _ _ (isB.mono λk hk=>by
  cases k with
  |true=>rw[Hh rfl] at hk ⊢;exact hc.mono _ _ _ _ (λz hz=>hg' y z _ _ hp hz) hk
  |false=>rw[if_neg (by decide)] at hk ⊢;exact hp _ hk) hy) hx) h
theorem Dv{op':CmpOp}{g g':G2}(ho:c8 X (compareOp op) g)(ho':c8 X (compareOp op') g')(ha:PX X EX a wa)(hb:PX X EX b wb)(hc:PX X EX c wc)
  (hm:lastMarks [op,op'] [b,c]=false:=by with_unfolding_all rfl):PX X EX (.Compare a [op,op'] [b,c] pos) (ZaP g g' wa wb wc):=by
 obtain⟨ta,pa,ka⟩:=ha.t;obtain⟨tb,pb,kb⟩:=hb.t;obtain⟨tc,pc,kc⟩:=hc.t;obtain⟨r,pr,kr⟩:=ho.t;obtain⟨r',pr',kr'⟩:=ho'.t;refine⟨⟨_,kL pr pr' pa pb pc hm,λW0 H0 W σ H ρ E Q s eo h=>?_⟩,ZaP.mono ha hb hc ho.mono ho'.mono⟩;refine jA ha.mono hb.mono ka kb s eo h λW2 H2 x y dx dy x2 rx ry hg=>kr W2 H2 x y dx dy _ x2.ok rx ry (ho.mono _ _ _ _ (λd hd v W3 H3 x3 r3=>?_) hg);obtain⟨k,rfl,q⟩:=mB hd;cases r3;refine⟨k,rfl,?_⟩;cases k with
 |true=>
  rw[Hh rfl] at q ⊢;refine kc W0 H0 W3 σ H3 ρ E _ (s.step (x2.trans x3)) eo (hc.mono _ _ _ _ (λdz hz w W4 H4 x4 r4=>?_) q);exact kr' W4 H4 y w dy dz Q x4.ok (x4.rep (x3.rep ry)) r4 (ho'.mono _ _ _ _ (λd hd=>RQ.ext hd (x2.trans (x3.trans x4))) hz)
 |false=>rw[if_neg (by decide)] at q ⊢;exact q _ W3 H3 (x2.trans x3) (.bl false)
theorem vg{op':CmpOp}{g g':G2}(ho:c8 X (compareOp op) g)(ho':c8 X (compareOp op') g')(ha:PX X EX a wa)(hb:PX X EX b wb)(hc:PX X EX c wc)
  (hm:lastMarks [op,op'] [b,c]=false:=by with_unfolding_all rfl):iw X EX (.Compare a [op,op'] [b,c] pos) (wT (ZaP g g' wa wb wc)):=by
 obtain⟨ta,pa,ka⟩:=ha.t;obtain⟨tb,pb,kb⟩:=hb.t;obtain⟨tc,pc,kc⟩:=hc.t;obtain⟨r,pr,kr⟩:=ho.t;obtain⟨r',pr',kr'⟩:=ho'.t;refine⟨⟨_,kM pr pr' pa pb pc hm,λW0 H0 W σ H ρ E Q s eo h=>?_⟩,wT.mono (ZaP.mono ha hb hc ho.mono ho'.mono)⟩;refine jA ha.mono hb.mono ka kb s eo h λW2 H2 x y dx dy x2 rx ry hg=>kr W2 H2 x y dx dy _ x2.ok rx ry (ho.mono _ _ _ _ (λd hd v W3 H3 x3 r3=>?_) hg);obtain⟨k,rfl,q⟩:=mB hd;cases r3;refine⟨k,rfl,?_⟩;cases k with
 |true=>
  rw[Hh rfl] at q ⊢;refine kc W0 H0 W3 σ H3 ρ E _ (s.step (x2.trans x3)) eo (hc.mono _ _ _ _ (λdz hz w W4 H4 x4 r4=>?_) q);refine kr' W4 H4 y w dy dz _ x4.ok (x4.rep (x3.rep ry)) r4 (ho'.mono _ _ _ _ (λd hd v5 W5 H5 x5 r5=>?_) hz);obtain⟨b,rfl,q'⟩:=mB hd;cases r5;exact⟨b,rfl,q' W5 H5 (x2.trans (x3.trans (x4.trans x5)))⟩
 |false=>rw[if_neg (by decide)] at q ⊢;exact⟨false,rfl,q W3 H3 (x2.trans x3)⟩
def aC:WA:=λ_ _ Q=>Q []
def aD(w:WE)(t:WA):WA:=λE ρ Q=>w E ρ λx=>t E ρ λxs=>Q (x::xs)
theorem aJ:ff X EX [] aC:=⟨⟨_,c0,λ_ _ W _ H _ _ _ s _ h=>h [] W H (.refl s.ok) .nil⟩,λ_ _ _ _ hp h=>hp _ h⟩
theorem Za{w:WE}(ha:PX X EX e w)(hr:ff X EX es t)(hs:starEach (e::es) X.env=(false,eval e X.env)::starEach es X.env:=by rfl):ff X EX (e::es) (aD w t):=by
 obtain⟨ta,pa,ka⟩:=ha.t;obtain⟨tr,pr,kr⟩:=hr.t;refine⟨⟨_,cz pa pr hs,λW0 H0 W σ H ρ E Q s eo h=>?_⟩,λE ρ P P' hp h=>ha.mono _ _ _ _ (λd hd=>hr.mono _ _ _ _ (λds hds=>hp _ hds) hd) h⟩;refine ka W0 H0 W σ H ρ E _ s eo (ha.mono _ _ _ _ (λd hd v W1 H1 x1 r1=>?_) h);exact kr W0 H0 W1 σ H1 ρ E _ (s.step x1) eo (hr.mono _ _ _ _ (λds hds vs W2 H2 x2 r2=>hds _ W2 H2 (x1.trans x2) (.cons (x2.rep r1) r2)) hd)
def small:Nat:=10000
theorem fD{n:Nat}(h:n<=small):n<=sizeLine:=gA h (by rw[sizeLine_eq];decide)
def bJ(t:WA):WE:=λE ρ Q=>t E ρ λxs=>xs.length<=small/\Q (.tup xs)
def aU(t:WA):WA:=λE ρ Q=>t E ρ λxs=>xs.length<=small/\Q xs
theorem jC{x1}(h:ff X EX es t):PX X EX (.Tuple es x1 pos) (bJ t):=by
 obtain⟨ta,pa,ka⟩:=h.t;refine⟨⟨_,o7 pa,λW0 H0 W σ H ρ E Q s eo hw=>?_⟩,λE ρ P P' hp z=>h.mono _ _ _ _ (λds hds=>⟨hds.1,hp _ hds.2⟩) z⟩;refine ka W0 H0 W σ H ρ E _ s eo (h.mono _ _ _ _ (λds hds vs W1 H1 x1 r1=>?_) hw);refine⟨by rw[r1.length];exact fD hds.1,λq hq=>?_⟩;exact(RQ.ext hds.2 x1).tup x1.ok r1 hq
theorem cR(h:ff X EX es t):PXL X EX (.List es pos) (aU t):=by
 obtain⟨ta,pa,ka⟩:=h.t;refine⟨⟨_,ik pa,λW0 H0 W σ H ρ E Q s eo hw=>?_⟩,λE ρ P P' hp z=>h.mono _ _ _ _ (λds hds=>⟨hds.1,hp _ hds.2⟩) z⟩;refine ka W0 H0 W σ H ρ E _ s eo (h.mono _ _ _ _ (λds hds vs W1 H1 x1 r1=>?_) hw);refine⟨by rw[r1.length];exact fD hds.1,λq hq=>?_⟩;exact hds.2 q vs W1 _ (x1.trans (.new x1.ok hq)) aG (x1.ok.fresh hq).1 (x1.ok.fresh hq).2 (x1.isN hq) r1
def wL(t:WA):WE:=λE ρ Q=>t E ρ λds=>Q (.lst ds)
theorem PXL.px(h:PXL X EX e t):PX X EX e (wL t):=by
 obtain⟨ta,pa,ka⟩:=h.t;refine⟨⟨_,pa,λW0 H0 W σ H ρ E Q s eo hw=>?_⟩,λE ρ P P' hp z=>h.mono _ _ _ _ (λds hds=>hp _ hds) z⟩;refine ka W0 H0 W σ H ρ E _ s eo (h.mono _ _ _ _ (λds hds a vs W1 H1 x1 e1 e2 e3 e4 r1=>?_) hw);refine hds _ _ _ (x1.pub e4 e1 e3 e2) (.lst (by unfold Wd.put;dsimp only;rw[aG]) (r1.mono (rm e2) λ_ z=>z))
structure cl(X:Cx)(f:Value)(g:List D->(D->Prop)->Prop):Prop where
 t:∃r,bY X f r/\∀W H vs ds Q,WOk W H->Reps X.K W vs ds->g ds (RQ X.K W H Q)->r vs H Q
 mono:∀ds P P',(∀d,P d->P' d)->g ds P->g ds P'
structure nR(X:Cx)(f:Value)(g:List D->(List D->Prop)->Prop):Prop where
 t:∃r,bY X f r/\∀W H vs ds Q,WOk W H->Reps X.K W vs ds->g ds (λes=>∀a us,H a=none->Reps X.K W us es->Q (.ref a) (upd H a (.lst us)))->r vs H Q
 mono:∀ds P P',(∀d,P d->P' d)->g ds P->g ds P'
def wB(g:List D->(D->Prop)->Prop)(t:WA):WE:=λE ρ Q=>t E ρ λds=>g ds Q
def aB(g:List D->(List D->Prop)->Prop)(t:WA):WA:=λE ρ Q=>t E ρ λds=>g ds Q
variable{id T:String}
theorem cA(hc:cl X (.builtin id) g)(hm:X.mg x=none)(hv:bootBuiltins x=some (.builtin id))(ha:ff X EX (e::es) t)(hg:Gl X x:=by rfl)(hn:x≠ "__name__" :=by decide)(hdb:(x==("__debug__" : Str))=false:=by decide)
  (he:starEach (e::es) X.env=(false,eval e X.env)::starEach es X.env:=by rfl) (hpl:(backTo pos (starEach es X.env)).any (·.1)=false:=by rfl):PX X EX (.Call (.Name x p) (e::es) [] pos) (wB g t):=by
 obtain⟨ta,pa,ka⟩:=ha.t;obtain⟨r,pr,kr⟩:=hc.t;refine⟨⟨_,gH pr hg hm hv pa hn hdb he hpl,λW0 H0 W σ H ρ E Q s eo h=>?_⟩,λE ρ P P' hp z=>ha.mono _ _ _ _ (λds hds=>hc.mono _ _ _ hp hds) z⟩;exact ka W0 H0 W σ H ρ E _ s eo (ha.mono _ _ _ _ (λds hds vs W1 H1 x1 r1=>kr W1 H1 vs ds Q x1.ok r1 (hc.mono _ _ _ (λd hd=>RQ.ext hd x1) hds)) h)
theorem fE(hc:cl X (.type T) g)(hm:X.mg x=none)(hv:bootBuiltins x=some (.type T))(ha:ff X EX (e::es) t)(hg:Gl X x:=by rfl)(hn:x≠ "__name__" :=by decide)(hdb:(x==("__debug__" : Str))=false:=by decide)
  (he:starEach (e::es) X.env=(false,eval e X.env)::starEach es X.env:=by rfl) (hpl:(backTo pos (starEach es X.env)).any (·.1)=false:=by rfl):PX X EX (.Call (.Name x p) (e::es) [] pos) (wB g t):=by
 obtain⟨ta,pa,ka⟩:=ha.t;obtain⟨r,pr,kr⟩:=hc.t;refine⟨⟨_,fz pr hg hm hv pa hn hdb he hpl,λW0 H0 W σ H ρ E Q s eo h=>?_⟩,λE ρ P P' hp z=>ha.mono _ _ _ _ (λds hds=>hc.mono _ _ _ hp hds) z⟩;exact ka W0 H0 W σ H ρ E _ s eo (ha.mono _ _ _ _ (λds hds vs W1 H1 x1 r1=>kr W1 H1 vs ds Q x1.ok r1 (hc.mono _ _ _ (λd hd=>RQ.ext hd x1) hds)) h)
theorem Dw{g:List D->(List D->Prop)->Prop}(hc:nR X (.type T) g)(hm:X.mg x=none)(hv:bootBuiltins x=some (.type T))(ha:ff X EX (e::es) t)(hg:Gl X x:=by rfl)(hn:x≠ "__name__" :=by decide)(hdb:(x==("__debug__" : Str))=false:=by decide)
  (he:starEach (e::es) X.env=(false,eval e X.env)::starEach es X.env:=by rfl) (hpl:(backTo pos (starEach es X.env)).any (·.1)=false:=by rfl):PXL X EX (.Call (.Name x p) (e::es) [] pos) (aB g t):=by
 obtain⟨ta,pa,ka⟩:=ha.t;obtain⟨r,pr,kr⟩:=hc.t;refine⟨⟨_,fz pr hg hm hv pa hn hdb he hpl,λW0 H0 W σ H ρ E Q s eo h=>?_⟩,λE ρ P P' hp z=>ha.mono _ _ _ _ (λds hds=>hc.mono _ _ _ hp hds) z⟩;refine ka W0 H0 W σ H ρ E _ s eo (ha.mono _ _ _ _ (λds hds vs W1 H1 x1 r1=>kr W1 H1 vs ds Q x1.ok r1 (hc.mono _ _ _ (λes' hd a us hn' r2=>?_) hds)) h);exact hd a us W1 _ (x1.trans (.new x1.ok hn')) aG (x1.ok.fresh hn').1 (x1.ok.fresh hn').2 (x1.isN hn') r2
abbrev bN:=List D->(Ex->Prop)->(D->Prop)->Prop
def jY(S:bN):Prop:=∀ds E E' Q Q',(∀ex,E ex->E' ex)->(∀d,Q d->Q' d)->S ds E Q->S ds E' Q'
def dq(K:Hg)(S:bN):Sp:=λvs H Q EX=>∃ds W,WOk W H/\Reps K W vs ds/\S ds (λex=>∀W' H' cls dx,Ext W H W' H'->nO K W' H' cls dx ex->EX cls dx H') (RQ K W H Q)
def wF(S:bN)(t:WA):WE:=λE ρ Q=>t E ρ λds=>S ds E Q
theorem Dx{f:Addr}{S:bN}(F:FnOk X.prog X.w X.K X.mg X.base CX k f fd ps (dq X.K S))(hS:jY S)(hr:Room k X.A)(hm:X.mg x=some (.ref f))(hk:PySem.W.keepIn X.K (.ref f)=true)(hb:Binds X.K fd ps [])
  (hx:aM CX X EX) (ha:ff X EX (e::es) t) (hg:Gl X x:=by rfl) (hdb:(x==("__debug__" : Str))=false:=by decide) (he:starEach (e::es) X.env=(false,eval e X.env)::starEach es X.env:=by rfl) (hpl:(backTo pos (starEach es X.env)).any (·.1)=false:=by rfl) :
  PX X EX (.Call (.Name x p) (e::es) [] pos) (wF S t):=by
 obtain⟨ta,pa,ka⟩:=ha.t;refine⟨⟨_,eC F hr hg hm hk hb .nil hx pa hdb he hpl,λW0 H0 W σ H ρ E Q s eo h=>?_⟩,λE ρ P P' hp z=>ha.mono _ _ _ _ (λds hds=>hS _ _ _ _ _ (λ_ q=>q) hp hds) z⟩;refine ka W0 H0 W σ H ρ E _ s eo (ha.mono _ _ _ _ (λds hds vs W1 H1 x1 r1=>?_) h);refine⟨ds,W1,x1.ok,by rw[jj];exact r1,hS _ _ _ _ _ (λex hex W' H' cls dx x' r'=>?_) (λd hd=>RQ.ext hd x1) hds⟩;exact eo ex W' H' cls dx hex (s.ext.trans (x1.trans x')) r'
structure vh(X:Cx)(g:G2):Prop where
 t:∃r,IxR X r/\∀W H x y dx dy Q,WOk W H->Rep X.K W x dx->Rep X.K W y dy->g dx dy (RQ X.K W H Q)->r x y H Q
 mono:∀x y P P',(∀d,P d->P' d)->g x y P->g x y P'
theorem cL{g:G2}(ho:vh X g)(ha:PX X EX a wa)(hb:PX X EX b wb)(hs:eD b:=by exact λ_ _=>rfl):PX X EX (.Subscript a b pos) (w2 g wa wb):=by
 obtain⟨ta,pa,ka⟩:=ha.t;obtain⟨tb,pb,kb⟩:=hb.t;obtain⟨r,pr,kr⟩:=ho.t;refine⟨⟨_,kX pr pa pb hs,λW0 H0 W σ H ρ E Q s eo h=>?_⟩,w2.mono ha hb ho.mono⟩;exact jA ha.mono hb.mono ka kb s eo h λW2 H2 x y dx dy x2 rx ry hg=>kr W2 H2 x y dx dy Q x2.ok rx ry (ho.mono _ _ _ _ (λd hd=>RQ.ext hd x2) hg)
structure zJ(X:Cx)(f:Value->Sem Value)(g:D->(D->Prop)->Prop):Prop where
 t:∃r,uY X f r/\∀W H x dx Q,WOk W H->Rep X.K W x dx->g dx (RQ X.K W H Q)->r x H Q
 mono:∀x P P',(∀d,P d->P' d)->g x P->g x P'
def w1(g:D->(D->Prop)->Prop)(wa:WE):WE:=λE ρ Q=>wa E ρ λx=>g x Q
theorem mD{op:UnaryOp}{g:D->(D->Prop)->Prop}(ho:zJ X (unaryOp op) g)(ha:PX X EX a wa):PX X EX (.UnaryOp op a pos) (w1 g wa):=by
 obtain⟨ta,pa,ka⟩:=ha.t;obtain⟨r,pr,kr⟩:=ho.t;refine⟨⟨_,nA pr pa,λW0 H0 W σ H ρ E Q s eo h=>?_⟩,λE ρ P P' hp z=>ha.mono _ _ _ _ (λd hd=>ho.mono _ _ _ hp hd) z⟩;exact ka W0 H0 W σ H ρ E _ s eo (ha.mono _ _ _ _ (λd hd v W1 H1 x1 r1=>kr W1 H1 v d Q x1.ok r1 (ho.mono _ _ _ (λd hd=>RQ.ext hd x1) hd)) h)
structure rp(X:Cx)(EX:XK)(e:Option Expr)(w:(Ex->Prop)->bV->(Option Int->Prop)->Prop):Prop where
 t:∃t,PO X e t/\∀W0 H0 W σ H ρ E Q,SOk X.K W0 H0 W σ H ρ->gv X.K W0 H0 E EX->w E ρ (λo=>∀W' H',Ext W H W' H'->Q o H')->t σ H Q
 mono:∀E ρ P P',(∀d,P d->P' d)->w E ρ P->w E ρ P'
def isI(Q:Int->Prop):D->Prop
 |.int i=>Q i
 |_=>False
theorem isI.mono{Q Q':Int->Prop}(h:∀b,Q b->Q' b):∀d,isI Q d->isI Q' d
 |.int b,z=>h b z
 |.non,z=>z|.bl _,z=>z|.str _,z=>z|.tup _,z=>z|.lst _,z=>z|.dic,z=>z|.pen,z=>z|.cls _,z=>z|.exc _,z=>z|.ty _,z=>z|.scr _,z=>z|.pl _ _,z=>z
theorem nS{Q:Int->Prop}(h:isI Q d):∃b,d=.int b/\Q b:=by
 cases d with
 |int b=>exact⟨b,rfl,h⟩
 |_=>exact h.elim
def gM:(Ex->Prop)->bV->(Option Int->Prop)->Prop:=λ_ _ Q=>Q none
def eQ(w:WE):(Ex->Prop)->bV->(Option Int->Prop)->Prop:=λE ρ Q=>w E ρ (isI λi=>Q (some i))
theorem pq:rp X EX none gM:=⟨⟨_,ms,λ_ _ W _ H _ _ _ s _ h=>h W H (.refl s.ok)⟩,λ_ _ _ _ hp h=>hp _ h⟩
theorem jD(ha:PX X EX a wa):rp X EX (some a) (eQ wa):=by
 obtain⟨ta,pa,ka⟩:=ha.t;refine⟨⟨_,mt pa,λW0 H0 W σ H ρ E Q s eo h=>?_⟩,λE ρ P P' hp z=>ha.mono _ _ _ _ (isI.mono λi hi=>hp _ hi) z⟩;refine ka W0 H0 W σ H ρ E _ s eo (ha.mono _ _ _ _ (λd hd v W1 H1 x1 r1=>?_) h);obtain⟨i,rfl,q⟩:=nS hd;cases r1;exact⟨i,rfl,q W1 H1 x1⟩
def bH{α:Type}(xs:List α)(lo hi:Option Int):List α:=(xs.drop (HT.sIx xs.length 0 lo)).take (HT.sIx xs.length xs.length hi-HT.sIx xs.length 0 lo)
def gCut(x:D)(lo hi:Option Int)(Q:D->Prop):Prop:=match x with
 |.tup xs=>Q (.tup (bH xs lo hi))
 |.lst xs=>Q (.lst (bH xs lo hi))
 |.scr xs=>Q (.lst (bH xs lo hi))
 |_=>False
end
variable{S:bN}{Ss:List (Str×bN)}
def Bd(i:Int):Prop:=i.natAbs<2^8990
theorem Bd.log{i:Int}(h:Bd i):i.natAbs.log2<8990:=by
 by_cases h0:i.natAbs=0
 .rw[h0];decide
 .exact(Nat.log2_lt h0).mpr h
theorem Bd.bits{i:Int}(h:Bd i):Builtin.Int.intBits i<=2^20:=by
 unfold Builtin.Int.intBits;have:=h.log;have e:(2:Nat)^20=1048576:=by decide
 split<;>omega
def xB(i j:Int):Prop:=Bd i/\Bd j
def xC(_ j:Int):Prop:=j≠0/\Bd j
section
theorem Zlr:OpR X (binaryOp .Mult) (rI xB λi j=>.int (i*j)):=u5 λ_ _ _ _ _ _ _ hc q=>mul_int q (IntMulOk.of_bits hc.1.bits hc.2.bits)
theorem Dy:OpR X (binaryOp .FloorDiv) (rI xC λi j=>.int (i.fdiv j)):=u5 λ_ _ _ _ _ _ _ hc q=>floordiv_int hc.1 q (.inl (PyProof.noPylong_of_log2 (by have:=hc.2.log;omega)))
def gI2(C:Int->Int->Prop)(kd:Int->Int->D):G2:=λx y Q=>match x,y with
 |.int i,.int j=>C i j/\Q (kd i j)
 |_,_=>False
theorem gI2.mono{C:Int->Int->Prop}{kd:Int->Int->D}:∀x y P P',(∀d,P d->P' d)->gI2 C kd x y P->gI2 C kd x y P':=λx y P P' hp hg=>by
 unfold gI2 at hg ⊢;split at hg
 .exact⟨hg.1,hp _ hg.2⟩
 .exact hg.elim
theorem gI2.get{C:Int->Int->Prop}{kd:Int->Int->D}{x y:D}(h:gI2 C kd x y Q):∃i j,x=.int i/\y=.int j/\C i j/\Q (kd i j):=by
 unfold gI2 at h;split at h
 .exact⟨_,_,rfl,rfl,h.1,h.2⟩
 .exact h.elim
theorem nU{f:Value->Value->Sem Value}{C:Int->Int->Prop}{k:Int->Int->V}{kd:Int->Int->D}(h:OpR X f (rI C k))(hk:∀W i j,Rep X.K W (k i j) (kd i j)):c8 X f (gI2 C kd):=
 ⟨⟨_,h,λW H x y dx dy Q ok rx ry hg=>by
  obtain⟨i,j,rfl,rfl,hc,q⟩:=hg.get;cases rx;cases ry;exact⟨_,_,rfl,rfl,hc,q.now ok (hk _ _ _)⟩⟩,gI2.mono⟩
theorem rq{f:Value->Value->Sem Value}{k:Int->Int->V}(h:OpR X f (mj k)):OpR X f (rI (λ_ _=>True) k):=λpins s σ H x y v u Q I rx ry ⟨i,j,e1,e2,_,q⟩=>h pins s σ H x y v u Q I rx ry ⟨i,j,e1,e2,q⟩
theorem jE:c8 X (binaryOp .Sub) (gI2 (λ_ _=>True) λi j=>.int (i-j)):=nU (rq oY) λ_ _ _=>.int _
theorem pv:c8 X (binaryOp .Mod) (gI2 (λ_ j=>j≠0) λi j=>.int (i.fmod j)):=nU mm λ_ _ _=>.int _
theorem pw:c8 X (binaryOp .FloorDiv) (gI2 xC λi j=>.int (i.fdiv j)):=nU Dy λ_ _ _=>.int _
theorem xD:c8 X (binaryOp .Pow) (gI2 oW λi j=>.int (i^j.toNat)):=nU oZ λ_ _ _=>.int _
theorem Dz:OpR X (compareOp .Lt) (mj λi j=>.bl (decide (i<j))):=ml λ_ _ _ _ _ _ _ q=>lt_int q
theorem DA:OpR X (compareOp .LtE) (mj λi j=>.bl (decide (i<=j))):=ml λ_ _ _ _ _ _ _ q=>le_int q
theorem DB:OpR X (compareOp .Gt) (mj λi j=>.bl (decide (i>j))):=ml λ_ _ _ _ _ _ _ q=>gt_int q
theorem DD:OpR X (compareOp .GtE) (mj λi j=>.bl (decide (i ≥ j))):=ml λ_ _ _ _ _ _ _ q=>ge_int q
theorem eR:c8 X (compareOp .Lt) (gI2 (λ_ _=>True) λi j=>.bl (decide (i<j))):=nU (rq Dz) λ_ _ _=>.bl _
theorem iy:c8 X (compareOp .LtE) (gI2 (λ_ _=>True) λi j=>.bl (decide (i<=j))):=nU (rq DA) λ_ _ _=>.bl _
theorem mE:c8 X (compareOp .Gt) (gI2 (λ_ _=>True) λi j=>.bl (decide (i>j))):=nU (rq DB) λ_ _ _=>.bl _
theorem xE:c8 X (compareOp .GtE) (gI2 (λ_ _=>True) λi j=>.bl (decide (i ≥ j))):=nU (rq DD) λ_ _ _=>.bl _
theorem mF:zJ X (unaryOp .USub) (λx Q=>isI (λi=>Q (.int (-i))) x):=
 ⟨⟨_,kI,λW H x dx Q ok rx hg=>by
  obtain⟨i,rfl,q⟩:=nS hg;cases rx;exact⟨i,rfl,q.now ok (.int _)⟩⟩,λx P P' hp h=>isI.mono (λi hi=>hp _ hi) x h⟩
mutual
def fh:D->Option PyData
 |.non=>some .none
 |.bl b=>some (.bool b)
 |.int i=>some (.int i)
 |.str x=>some (.str x)
 |.tup xs=>(dN xs).map .tuple
 |.lst xs=>(dN xs).map .list
 |.dic=>none
 |.pen=>none
 |.cls _=>none
 |.exc _=>none
 |.ty _=>none
 |.pl _ _=>none
 |.scr _=>none
def dN:List D->Option (List PyData)
 |[]=>some []
 |x::r=>match fh x,dN r with
  |some a,some b=>some (a::b)
  |_,_=>none
end
variable{s:Shared}{W:Wd}
mutual
theorem tF(I:Inv X pins σ H s)(ok:WOk W H):∀{v:V} {d:D} {u:Value} {p:PyData},Rep X.K W v d->RelV v u->fh d=some p->∃as,Reads s.heap u p as
 |_,_,u,p,.non,r,e=>by cases e;cases r;exact⟨_,.none⟩
 |_,_,u,p,.bl b,r,e=>by cases e;cases r;exact⟨_,.bool b⟩
 |_,_,u,p,.int i,r,e=>by cases e;obtain⟨t,rfl⟩:=r;exact⟨_,.int i t⟩
 |_,_,u,p,.str x,r,e=>by cases e;obtain⟨t,rfl⟩:=r;exact⟨_,.str x t⟩
 |.ref a,.tup ds,u,p,.tup e0 rs,r,e=>by
  cases r;cases q:dN ds with
  |none=>rw[fh,q] at e;cases e
  |some ps=>
   rw[fh,q] at e;cases e;obtain⟨its,rv,⟨o,h1,h2,n,h3⟩,_⟩:=I.tuple (xs:=_) (SqT.of (ok.g _ _ e0));obtain⟨as,ra⟩:=vj I ok rs rv q;exact⟨_,.tuple h1 h2 h3 (by simpa using ra)⟩
 |.ref a,.tup ds,u,p,.ktup e0 rs,r,e=>by
  cases r;cases q:dN ds with
  |none=>rw[fh,q] at e;cases e
  |some ps=>
   rw[fh,q] at e;cases e;obtain⟨its,rv,⟨o,h1,h2,n,h3⟩,_⟩:=I.tuple (xs:=_) (.inr e0);obtain⟨as,ra⟩:=vj I ok rs rv q;exact⟨_,.tuple h1 h2 h3 (by simpa using ra)⟩
 |.ref a,.lst ds,u,p,.lst e0 rs,r,e=>by
  cases r;cases q:dN ds with
  |none=>rw[fh,q] at e;cases e
  |some ps=>
   rw[fh,q] at e;cases e;obtain⟨its,rv,⟨o,n,h1,h2,h3,h4⟩,_⟩:=I.list (xs:=_) (SqL.of (ok.g _ _ e0));obtain⟨as,ra⟩:=vj I ok rs rv q;exact⟨_,.list h1 h2 h4 (by simpa using ra)⟩
 |_,_,u,p,.dic _,r,e=>by rw[fh] at e;cases e
 |_,_,u,p,.pen _,r,e=>by rw[fh] at e;cases e
 |_,_,u,p,.cls _,r,e=>by rw[fh] at e;cases e
 |_,_,u,p,.exc _ _ _,r,e=>by rw[fh] at e;cases e
 |_,_,u,p,.ty _,r,e=>by rw[fh] at e;cases e
 |_,_,u,p,.pl _,r,e=>by rw[fh] at e;cases e
 |_,_,u,p,.scr _ _,r,e=>by rw[fh] at e;cases e
theorem vj(I:Inv X pins σ H s)(ok:WOk W H):∀{vs:List V} {ds:List D} {us:List Value} {ps:List PyData},Reps X.K W vs ds->Vals vs us->dN ds=some ps->∃as,ReadsAll s.heap us ps as
 |_,_,us,ps,.nil,r,e=>by rw[dN] at e;cases e;cases r;exact⟨_,.nil⟩
 |_,d::ds,us,ps,.cons rd rs,r,e=>by
  rw[dN] at e;cases q1:fh d with
  |none=>rw[q1] at e;cases e
  |some a=>
   cases q2:dN ds with
   |none=>rw[q1,q2] at e;cases e
   |some b=>
    rw[q1,q2] at e;cases e;cases r with
    |cons r1 r2=>
     obtain⟨as,ra⟩:=tF I ok rd r1 q1;obtain⟨bs,rb⟩:=vj I ok rs r2 q2;exact⟨_,.cons ra rb⟩
end
def gEq(neg:Bool):G2:=λx y Q=>∃p q,fh x=some p/\fh y=some q/\PySem.SeqAt.shaped p=true/\PySem.SeqAt.shaped q=true/\Q (.bl (if neg then !PyData.eqv p q else PyData.eqv p q))
theorem gEq.mono:∀x y P P',(∀d,P d->P' d)->gEq neg x y P->gEq neg x y P':=λx y P P' hp ⟨p,q,h1,h2,h3,h4,h5⟩=>⟨p,q,h1,h2,h3,h4,hp _ h5⟩
theorem cT(hu:X.A.units+64<cLine):c8 X (compareOp .Eq) (gEq false):=by
 refine⟨⟨λx y H Q=>∃W dx dy,WOk W H/\Rep X.K W x dx/\Rep X.K W y dy/\gEq false dx dy (RQ X.K W H Q),?_,λW H x y dx dy Q ok rx ry hg=>⟨W,dx,dy,ok,rx,ry,hg⟩⟩,gEq.mono⟩;rintro pins s σ H x y v u Q I rx ry ⟨W,dx,dy,ok,r1,r2,p,q,h1,h2,h3,h4,h5⟩;obtain⟨as,ra⟩:=tF I ok r1 rx h1;obtain⟨bs,rb⟩:=tF I ok r2 ry h2;exact eq_dataH ra rb h3 h4 hu ⟨.bl _,H,I,rfl,h5.now ok (.bl _)⟩
theorem iz(hu:X.A.units+64<cLine):c8 X (compareOp .NotEq) (gEq true):=by
 refine⟨⟨λx y H Q=>∃W dx dy,WOk W H/\Rep X.K W x dx/\Rep X.K W y dy/\gEq true dx dy (RQ X.K W H Q),?_,λW H x y dx dy Q ok rx ry hg=>⟨W,dx,dy,ok,rx,ry,hg⟩⟩,gEq.mono⟩;rintro pins s σ H x y v u Q I rx ry ⟨W,dx,dy,ok,r1,r2,p,q,h1,h2,h3,h4,h5⟩;obtain⟨as,ra⟩:=tF I ok r1 rx h1;obtain⟨bs,rb⟩:=tF I ok r2 ry h2;exact ne_dataH ra rb h3 h4 hu ⟨.bl _,H,I,rfl,h5.now ok (.bl _)⟩
end
section
variable{a:Expr}
def gAdd:G2:=λx y Q=>match x,y with
 |.int i,.int j=>Q (.int (i+j))
 |.lst xs,.lst ys=>xs.length+ys.length<=small/\Q (.lst (xs++ys))
 |.tup xs,.tup ys=>xs.length+ys.length<=small/\Q (.tup (xs++ys))
 |_,_=>False
theorem gAdd.mono:∀x y P P',(∀d,P d->P' d)->gAdd x y P->gAdd x y P':=λx y P P' hp hg=>by
 unfold gAdd at hg ⊢;split at hg
 .exact hp _ hg
 .exact⟨hg.1,hp _ hg.2⟩
 .exact⟨hg.1,hp _ hg.2⟩
 .exact hg.elim
def tG(K:Hg):R2:=λx y H Q=>∃l b xs zs,x=.ref l/\y=.ref b/\SqL K H l xs/\SqL K H b zs/\xs.length+zs.length<=sizeLine/\∀p,H p=none->Q (.ref p) (upd H p (.lst (xs++zs)))
theorem Zi8:OpR X (binaryOp .Add) (tG X.K):=by
 intro pins s σ H x y v u Q I rx ry h;obtain⟨l,b,xs,zs,rfl,rfl,hH,hB,hz,q⟩:=h;cases rx;cases ry;obtain⟨its,r,pl,z⟩:=I.list hH;obtain⟨its2,r2,pl2,z2⟩:=I.list hB;have hl:=r.length;have hl2:=r2.length;obtain⟨⟨cls,dd,data,sl⟩,n,ho,hc,_,hd⟩:=pl;obtain⟨⟨cls2,dd2,data2,sl2⟩,n2,ho2,hc2,_,hd2⟩:=pl2;simp only at hc hd hc2 hd2;subst hc hd hc2 hd2;have e:its.toArray++its2.toArray=(its++its2).toArray:=by simp
 refine concat_meets ⟨_,ho,rfl⟩ ⟨_,ho2,rfl⟩ noFill_list_add seq_list_add PySem.F.slot_list_add PySem.F.entry_list_add (PySem.F.args_list_add_2 _ _) (list_addW l b its.toArray its2.toArray n n2 dd dd2 sl sl2 (by simp;omega)) ⟨ho,ho2,?_⟩;rw[e];exact⟨.ref _,_,I.lnew (t':=s.toks) (r.append r2) (by rw[gu];omega),rfl,q _ I.fresh⟩
def DE(K:Hg):R2:=λx y H Q=>∃a b xs ys,x=.ref a/\y=.ref b/\SqT K H a xs/\SqT K H b ys/\xs.length+ys.length<=sizeLine/\
 (xs=[]->Q (.ref b) H)/\(ys=[]->Q (.ref a) H)/\∀p,H p=none->Q (.ref p) (upd H p (.tup (xs++ys)))
theorem DF:OpR X (binaryOp .Add) (DE X.K):=by
 intro pins s σ H x y v u Q I rx ry h;obtain⟨a,b,xs,ys,rfl,rfl,ha,hb,hz,q1,q2,q3⟩:=h
 by_cases hx:xs=[]
 .cases rx
  cases ry;obtain⟨its,r1,p1,_⟩:=I.tuple ha;obtain⟨its2,r2,p2,_⟩:=I.tuple hb;have hi:its=[]:=r1.nil_iff.mpr hx;obtain⟨⟨cls,dd,data,sl⟩,ho,hc,n,hd⟩:=id p1;obtain⟨⟨cls2,dd2,data2,sl2⟩,ho2,hc2,n2,hd2⟩:=id p2;simp only at hc hd hc2 hd2;subst hc hd hc2 hd2;exact concat_meets ⟨_,ho,rfl⟩ ⟨_,ho2,rfl⟩ noFill_tuple_add seq_tuple_add PySem.F.slot_tuple_add PySem.F.entry_tuple_add (PySem.F.args_tuple_add_2 _ _)
   (tuple_addW0 a b its.toArray its2.toArray n n2 dd dd2 sl sl2 (by simp[hi])) ⟨ho,ho2,⟨.ref b,H,I,rfl,q1 hx⟩⟩
 .exact mw pins s σ H _ _ v u Q I rx ry ⟨a,b,xs,ys,rfl,rfl,ha,hb,hx,hz,q2,λ_=>q3⟩
theorem dh:c8 X (binaryOp .Add) gAdd:=by
 refine⟨⟨_,(rq oX).or (Zi8.or DF),λW H x y dx dy Q ok rx ry hg=>?_⟩,gAdd.mono⟩;unfold gAdd at hg;split at hg
 .cases rx;cases ry
  exact .inl ⟨_,_,rfl,rfl,trivial,hg.now ok (.int _)⟩
 .obtain⟨p,vs,rfl,h1,r1⟩:=rx.sql ok
  obtain⟨q,us,rfl,h2,r2⟩:=ry.sql ok;refine .inr (.inl ⟨p,q,vs,us,rfl,rfl,h1,h2,by rw[r1.length,r2.length];exact fD hg.1,λa ha=>hg.2.lst ok (r1.append r2) ha⟩)
 .obtain⟨p,vs,rfl,h1,r1⟩:=rx.sqt ok
  obtain⟨q,us,rfl,h2,r2⟩:=ry.sqt ok;rename_i xs ys;refine .inr (.inr ⟨p,q,vs,us,rfl,rfl,h1,h2,by rw[r1.length,r2.length];exact fD hg.1,λe=>?_,λe=>?_,λa ha=>hg.2.tup ok (r1.append r2) ha⟩)
  .subst e
   cases r1;exact hg.2.now ok ry
  .subst e
   cases r2;rw[jj] at hg;exact hg.2.now ok rx
 .exact hg.elim
def gMul:G2:=λx y Q=>match x,y with
 |.int i,.int j=>xB i j/\Q (.int (i*j))
 |.lst xs,.int k=>k<1000/\-1000<k/\xs.length*k.toNat<=small/\Q (.lst (List.replicate k.toNat xs).flatten)
 |_,_=>False
theorem gMul.mono:∀x y P P',(∀d,P d->P' d)->gMul x y P->gMul x y P':=λx y P P' hp hg=>by
 unfold gMul at hg ⊢;split at hg
 .exact⟨hg.1,hp _ hg.2⟩
 .exact⟨hg.1,hg.2.1,hg.2.2.1,hp _ hg.2.2.2⟩
 .exact hg.elim
theorem zK{W:Wd}(r:Reps K W vs ds)(n:Nat):Reps K W (List.replicate n vs).flatten (List.replicate n ds).flatten:=by
 induction n with
 |zero=>exact .nil
 |succ n ih=>rw[eX,eX,nc,nc];exact r.append ih
theorem pz:c8 X (binaryOp .Mult) gMul:=by
 refine⟨⟨_,Zlr.or pk,λW H x y dx dy Q ok rx ry hg=>?_⟩,gMul.mono⟩;unfold gMul at hg;split at hg
 .cases rx;cases ry
  exact .inl ⟨_,_,rfl,rfl,hg.1,hg.2.now ok (.int _)⟩
 .cases ry
  cases rx with
  | @lst l vs _ e r=>
   refine .inr ⟨l,_,vs,rfl,rfl,ok.g _ _ e,by omega,by omega,?_,λp hp=>hg.2.2.2.lst ok (zK r _) hp⟩;rw[r.length];exact fD hg.2.2.1
 .exact hg.elim
theorem xF{W:Wd}(r:Reps K W vs xs){i:Int}(h:cG xs i=some d):∃v,cG vs i=some v/\Rep K W v d:=by
 unfold cG at h ⊢;rw[r.length];cases q:jv xs.length i with
 |none=>rw[q] at h;cases h
 |some k=>
  rw[q] at h;obtain⟨v,e,rv⟩:=r.get (show xs[k]? = some d from h);exact⟨v,e,rv⟩
def gIx:G2:=λx y Q=>isI (λi=>match x with
 |.tup xs=>∃d,cG xs i=some d/\Q d
 |.lst xs=>∃d,cG xs i=some d/\Q d
 |.scr xs=>∃d,cG xs i=some d/\Q d
 |_=>False) y
theorem gIx.mono:∀ x y P P',(∀ d,P d->P' d)->gIx x y P->gIx x y P':=λx y P P' hp hg=>isI.mono (λi h=>by
 split at h
 .obtain⟨d,e,q⟩:=h;exact⟨d,e,hp _ q⟩
 .obtain⟨d,e,q⟩:=h;exact⟨d,e,hp _ q⟩
 .obtain⟨d,e,q⟩:=h;exact⟨d,e,hp _ q⟩
 .exact h.elim) y hg
theorem bK:vh X gIx:=by
 refine⟨⟨_,kZ,λW H x y dx dy Q ok rx ry hg=>?_⟩,gIx.mono⟩;obtain⟨i,rfl,h⟩:=nS hg;cases ry;split at h
 .obtain⟨d,e,q⟩:=h
  obtain⟨p,vs,rfl,h1,r1⟩:=rx.sqt ok;obtain⟨v,e1,rv⟩:=xF r1 e;exact .inr (.inl ⟨p,vs,i,v,rfl,rfl,h1,e1,q.now ok rv⟩)
 .obtain⟨d,e,q⟩:=h
  obtain⟨p,vs,rfl,h1,r1⟩:=rx.sql ok;obtain⟨v,e1,rv⟩:=xF r1 e;exact .inl ⟨p,vs,i,v,rfl,rfl,h1,e1,q.now ok rv⟩
 .obtain⟨d,e,q⟩:=h
  obtain⟨p,vs,rfl,h1,r1⟩:=rx.sqs ok;obtain⟨v,e1,rv⟩:=xF r1 e;exact .inl ⟨p,vs,i,v,rfl,rfl,h1,e1,q.now ok rv⟩
 .exact h.elim
theorem Reps.cut{W:Wd}(r:Reps K W vs ds)(lo hi:Option Int):Reps K W (gJ vs lo hi) (bH ds lo hi):=by
 unfold gJ bH;rw[r.length];exact(r.drop _).take _
theorem DG{lo hi:Option Int}(h:HT.sIx xs.length 0 lo=0/\HT.sIx xs.length xs.length hi=xs.length):bH xs lo hi=xs:=by
 unfold bH;rw[h.1,h.2];simp
theorem gCut.mono{lo hi:Option Int}:∀x P P',(∀d,P d->P' d)->gCut x lo hi P->gCut x lo hi P':=λx P P' hp hg=>by
 unfold gCut at hg ⊢;split at hg
 .exact hp _ hg
 .exact hp _ hg
 .exact hp _ hg
 .exact hg.elim
def cI(wa:WE)(wl wh:(Ex->Prop)->bV->(Option Int->Prop)->Prop):WE:=λE ρ Q=>wa E ρ λx=>wl E ρ λl=>wh E ρ λh=>gCut x l h Q
theorem nV{wl wh}(ha:PX X EX a wa)(hl:rp X EX lo wl)(hh:rp X EX hi wh):PX X EX (.Subscript a (.Slice lo hi none p2) pos) (cI wa wl wh):=by
 obtain⟨ta,pa,ka⟩:=ha.t;obtain⟨tl,pl,kl⟩:=hl.t;obtain⟨th,ph,kh⟩:=hh.t;refine⟨⟨_,gI (sl_list.or (sl_tup.or Cg)) pa pl ph,λW0 H0 W σ H ρ E Q s eo h=>?_⟩,λE ρ P P' hp h=>ha.mono _ _ _ _ (λx hx=>hl.mono _ _ _ _ (λl hl'=>hh.mono _ _ _ _ (λu hu=>gCut.mono x _ _ hp hu) hl') hx) h⟩;refine ka W0 H0 W σ H ρ E _ s eo (ha.mono _ _ _ _ (λdx hx v W1 H1 x1 r1=>?_) h);refine kl W0 H0 W1 σ H1 ρ E _ (s.step x1) eo (hl.mono _ _ _ _ (λl hl' W2 H2 x2=>?_) hx);refine kh W0 H0 W2 σ H2 ρ E _ ((s.step x1).step x2) eo (hh.mono _ _ _ _ (λu hu W3 H3 x3=>?_) hl');have r3:=(x2.trans x3).rep r1;have hu':=gCut.mono dx _ _ (λd hd=>RQ.ext hd (x1.trans (x2.trans x3))) hu;unfold gCut at hu';split at hu'
 .obtain⟨p,vs,rfl,h1,rr⟩:=r3.sqt x3.ok
  rename_i xs
  by_cases hw:HT.sIx vs.length 0 l=0/\HT.sIx vs.length vs.length u=vs.length
  .refine .inr (.inr ⟨p,vs,rfl,h1,hw,?_⟩)
   rw[rr.length] at hw;rw[DG hw] at hu';exact hu'.now x3.ok r3
  .exact .inr (.inl ⟨p,vs,rfl,h1,hw,λq hq=>hu'.tup x3.ok (rr.cut l u) hq⟩)
 .obtain⟨p,vs,rfl,h1,rr⟩:=r3.sql x3.ok
  exact .inl ⟨p,vs,rfl,h1,λq hq=>hu'.lst x3.ok (rr.cut l u) hq⟩
 .obtain⟨p,vs,rfl,h1,rr⟩:=r3.sqs x3.ok
  exact .inl ⟨p,vs,rfl,h1,λq hq=>hu'.lst x3.ok (rr.cut l u) hq⟩
 .exact hu'.elim
def gRev:D->(D->Prop)->Prop:=λx Q=>match x with
 |.tup xs=>Q (.tup xs.reverse)
 |.lst xs=>Q (.lst xs.reverse)
 |_=>False
theorem gRev.mono:∀x P P',(∀d,P d->P' d)->gRev x P->gRev x P':=λx P P' hp hg=>by
 unfold gRev at hg ⊢;split at hg
 .exact hp _ hg
 .exact hp _ hg
 .exact hg.elim
theorem DH{j pos3 pos4}(ha:PX X EX a wa):PX X EX (.Subscript a (.Slice none none (some (.UnaryOp .USub (.Constant (.int 1) j pos3) pos4)) p2) pos) (w1 gRev wa):=by
 obtain⟨ta,pa,ka⟩:=ha.t;refine⟨⟨_,Ci pa,λW0 H0 W σ H ρ E Q s eo h=>?_⟩,λE ρ P P' hp h=>ha.mono _ _ _ _ (λx hx=>gRev.mono x _ _ hp hx) h⟩;refine ka W0 H0 W σ H ρ E _ s eo (ha.mono _ _ _ _ (λdx hx v W1 H1 x1 r1=>?_) h);have hu':=gRev.mono dx _ _ (λd hd=>RQ.ext hd x1) hx;unfold gRev at hu';split at hu'
 .obtain⟨p,vs,rfl,h1,rr⟩:=r1.sqt x1.ok
  exact⟨p,vs,rfl,.inl ⟨h1,λq hq=>hu'.tup x1.ok rr.rev hq⟩⟩
 .obtain⟨p,vs,rfl,h1,rr⟩:=r1.sql x1.ok
  exact⟨p,vs,rfl,.inr ⟨h1,λq hq=>hu'.lst x1.ok rr.rev hq⟩⟩
 .exact hu'.elim
def bL:List D->(D->Prop)->Prop:=λds Q=>match ds with
 |[.tup xs]=>Q (.int xs.length)
 |[.lst xs]=>Q (.int xs.length)
 |[.scr xs]=>Q (.int xs.length)
 |_=>False
theorem gZ:cl X (.builtin "len") bL:=by
 refine⟨⟨_,dn,λW H vs ds Q ok r hg=>?_⟩,λds P P' hp hg=>?_⟩
 .unfold bL at hg
  split at hg
  .obtain⟨v,rfl,rv⟩:=r.one
   obtain⟨p,us,rfl,h1,rr⟩:=rv.sqt ok;exact⟨p,us,rfl,.inr h1,by rw[rr.length];exact hg.now ok (.int _)⟩
  .obtain⟨v,rfl,rv⟩:=r.one
   obtain⟨p,us,rfl,h1,rr⟩:=rv.sql ok;exact⟨p,us,rfl,.inl h1,by rw[rr.length];exact hg.now ok (.int _)⟩
  .obtain⟨v,rfl,rv⟩:=r.one
   obtain⟨p,us,rfl,h1,rr⟩:=rv.sqs ok;exact⟨p,us,rfl,.inl h1,by rw[rr.length];exact hg.now ok (.int _)⟩
  .exact hg.elim
 .unfold bL at hg ⊢
  split at hg
  .exact hp _ hg
  .exact hp _ hg
  .exact hp _ hg
  .exact hg.elim
def li{α:Type}:List D->(List D->Prop)->Prop:=λds Q=>match ds with
 |[.tup xs]=>Q xs
 |[.lst xs]=>Q xs
 |[.scr xs]=>Q xs
 |_=>False
def jZ:List D->(D->Prop)->Prop:=λds Q=>match ds with
 |[.tup xs]=>Q (.tup xs)
 |[.lst xs]=>Q (.tup xs)
 |_=>False
theorem vk:cl X (.type "tuple") jZ:=by
 refine⟨⟨_,fb,λW H vs ds Q ok r hg=>?_⟩,λds P P' hp hg=>?_⟩
 .unfold jZ at hg
  split at hg
  .obtain⟨v,rfl,rv⟩:=r.one
   obtain⟨p,us,rfl,h1,rr⟩:=rv.sqt ok;exact⟨p,us,rfl,.inr ⟨h1,hg.now ok rv⟩⟩
  .obtain⟨v,rfl,rv⟩:=r.one
   obtain⟨p,us,rfl,h1,rr⟩:=rv.sql ok;exact⟨p,us,rfl,.inl ⟨h1,λl hl=>hg.tup ok rr hl⟩⟩
  .exact hg.elim
 .unfold jZ at hg ⊢
  split at hg
  .exact hp _ hg
  .exact hp _ hg
  .exact hg.elim
def fY:List D->(D->Prop)->Prop:=λds Q=>match ds with
 |[.int i]=>Q (.int (if i<0 then -i else i))
 |_=>False
theorem zL:cl X (.builtin "abs") fY:=by
 refine⟨⟨_,kO,λW H vs ds Q ok r hg=>?_⟩,λds P P' hp hg=>?_⟩
 .unfold fY at hg
  split at hg
  .obtain⟨v,rfl,rv⟩:=r.one
   cases rv;exact⟨_,rfl,hg.now ok (.int _)⟩
  .exact hg.elim
 .unfold fY at hg ⊢
  split at hg
  .exact hp _ hg
  .exact hg.elim
def iA:List D->(D->Prop)->Prop:=λds Q=>match ds with
 |[.int i,.int j]=>Q (.int (if j>i then j else i))
 |_=>False
theorem tH(hc:X.calm=true):cl X (.builtin "max") iA:=by
 refine⟨⟨_,jq hc,λW H vs ds Q ok r hg=>?_⟩,λds P P' hp hg=>?_⟩
 .unfold iA at hg
  split at hg
  .obtain⟨v,u,rfl,rv,ru⟩:=r.two
   cases rv;cases ru;exact⟨_,_,rfl,hg.now ok (.int _)⟩
  .exact hg.elim
 .unfold iA at hg ⊢
  split at hg
  .exact hp _ hg
  .exact hg.elim
def fZ:List D->(D->Prop)->Prop:=λds Q=>match ds with
 |[.int i]=>Q (.int i)
 |[.bl b]=>Q (.int (if b then 1 else 0))
 |_=>False
theorem zM:cl X (.type "int") fZ:=by
 refine⟨⟨_,jr,λW H vs ds Q ok r hg=>?_⟩,λds P P' hp hg=>?_⟩
 .unfold fZ at hg
  split at hg
  .obtain⟨v,rfl,rv⟩:=r.one
   cases rv;exact .inl ⟨_,rfl,hg.now ok (.int _)⟩
  .obtain⟨v,rfl,rv⟩:=r.one
   cases rv;exact .inr ⟨_,rfl,hg.now ok (.int _)⟩
  .exact hg.elim
 .unfold fZ at hg ⊢
  split at hg
  .exact hp _ hg
  .exact hp _ hg
  .exact hg.elim
end
section
variable{a:Expr}
def vm:D->Option String
 |.non=>some "NoneType" |.bl _=>some "bool" |.int _=>some "int" |.str _=>some "str" |.tup _=>some "tuple" |.lst _=>some "list" |.dic=>some "dict"
 |.pen=>none|.cls _=>none|.exc _=>none|.ty _=>none|.scr _=>none|.pl _ _=>none
def jF(t T:String):Bool:=t==T||(t == "bool" && T == "int")
def vn:List String:=["int", "bool", "str", "tuple", "list"]
theorem DI(K:Hg){t T:String}(ht:vm d=some t)(hT:T∈vn):PySem.W.kitOne K (.type t) (.type T)=some (jF t T):=by
 simp only[vn,Yam,eZ,or_false] at hT;cases d<;>first
  |(cases ht;done)
  |(cases ht;rcases hT with rfl|rfl|rfl|rfl|rfl<;>rfl)
def gIs:List D->(D->Prop)->Prop:=λds Q=>match ds with
 |[x,.ty T]=>∃t,vm x=some t/\T∈vn/\Q (.bl (jF t T))
 |_=>False
theorem gIs.mono:∀ds P P',(∀d,P d->P' d)->gIs ds P->gIs ds P':=λds P P' hp hg=>by
 unfold gIs at hg ⊢;split at hg
 .obtain⟨t,h1,h2,h3⟩:=hg;exact⟨t,h1,h2,hp _ h3⟩
 .exact hg.elim
theorem tI:cl X (.builtin "isinstance") gIs:=by
 refine⟨⟨λvs H Q=>∃W ds,WOk W H/\Reps X.K W vs ds/\gIs ds (RQ X.K W H Q),?_,λW H vs ds Q ok r hg=>⟨W,ds,ok,r,hg⟩⟩,gIs.mono⟩;rintro pins s σ H vs us Q I rv ⟨W,ds,ok,rs,hg⟩;unfold gIs at hg;split at hg
 .rename_i x T
  obtain⟨t,h1,h2,q⟩:=hg;obtain⟨v,w',rfl,r1,r2⟩:=rs.two;cases r2;obtain⟨u,u2,rfl,ru,ru2⟩:=i4 rv;obtain rfl:u2=Value.type T:=ru2;have e:=DI X.K h1 h2;have fin:∀tk,EP X pins σ Q (.bool (jF t T)) { s with toks:=tk }:=λtk=>⟨.bl _,H,I.tok tk,rfl,q.now ok (.bl _)⟩;cases r1 with
  |non=>cases h1;cases ru;exact PySem.W.kia_one PySem.W.kitx_none I.kIn True.intro e (λz=>nomatch z) fin
  |bl b=>cases h1;cases ru;exact PySem.W.kia_one PySem.W.kitx_bool I.kIn True.intro e (λz=>nomatch z) fin
  |int i=>cases h1;obtain⟨t',rfl⟩:=ru;exact PySem.W.kia_one PySem.W.kitx_int I.kIn True.intro e (λz=>nomatch z) fin
  |str i=>cases h1;obtain⟨t',rfl⟩:=ru;exact PySem.W.kia_one PySem.W.kitx_str I.kIn True.intro e (λz=>nomatch z) fin
  |tup e0 rr=>
   cases h1;cases ru;obtain⟨its,_,⟨o,h1,h2,_⟩,_⟩:=I.tuple (SqT.of (ok.g _ _ e0));exact PySem.W.kia_one PySem.W.kitx_tuple I.kIn ⟨o,h1,h2⟩ e (λz=>nomatch z) fin
  |ktup e0 rr=>
   cases h1;cases ru;obtain⟨its,_,⟨o,h1,h2,_⟩,_⟩:=I.tuple (.inr e0);exact PySem.W.kia_one PySem.W.kitx_tuple I.kIn ⟨o,h1,h2⟩ e (λz=>nomatch z) fin
  |lst e0 rr=>
   cases h1;cases ru;obtain⟨its,_,⟨o,n,h1,h2,_⟩,_⟩:=I.list (SqL.of (ok.g _ _ e0));exact PySem.W.kia_one PySem.W.kitx_list I.kIn ⟨o,h1,h2⟩ e (λz=>nomatch z) fin
  | @dic a e0=>
   cases h1;cases ru;obtain⟨_,_,vs,_,p⟩:=(show ObjOk X.prog X.w H s.heap a (.dK []) from I.hok a _ (ok.g _ _ e0))
   obtain⟨o,es,ep,h1,h2,_⟩:=p;exact PySem.W.kia_one PySem.W.kitx_dict I.kIn ⟨o,h1,h2.1⟩ e (λz=>nomatch z) fin
  |pen _=>cases h1
  |cls _=>cases h1
  |exc _ _=>cases h1
  |ty _=>cases h1
  |pl _=>cases h1
  |scr _ _=>cases h1
 .exact hg.elim
theorem DJ(hc:X.calm=true):bY X (.builtin "all") (λxs H Q=>∃(p:Addr) (bs:List Bool),xs=[.ref p]/\SqL X.K H p (bs.map V.bl)/\Q (.bl (bs.all id)) H):=by
 intro pins s σ H xs us Q I r h;obtain⟨p,bs,rfl,hq,q⟩:=h;obtain⟨u,rfl,ru⟩:=bS r;cases ru;obtain⟨its,rv,pl,hz⟩:=I.list hq;have hpl:p<s.heap.objs.size:=by obtain⟨o,n,e,_⟩:=pl;exact cc e
 have hits:its=bs.map Value.bool:=by
  clear hz pl hq q
  induction bs generalizing its with
  |nil=>cases rv;rfl
  |cons b bs ih=>
   cases rv with
   |cons r1 r2=>
    obtain rfl:_=Value.bool b:=r1;rw[cF,ih _ r2]
 subst hits;refine call_all_walk (wpAny_pyIter_list pl.isList ?_);have hh:X.A.in1.handled=none:=I.ok.hd hc;refine⟨s.heap.objs.size,_,_,_,_,_,λi=>(bs[i]?).getD true,rfl,Walks.list hh _ p (er hpl) (bs.map Value.bool).toArray,⟨⟨_,eV _ rfl,rfl,rfl⟩,pl.isList.at λo e=>cv _ e⟩,λi v s' Q' E' hP hQ=>?_,λh' tk hk=>?_⟩
 .have hP':(bs.map Value.bool)[i]? = some v:=by simpa using hP
  rw[eF] at hP';cases e:bs[i]? with
  |none=>rw[e] at hP';cases hP'
  |some b=>
   rw[e] at hP';have:v=Value.bool b:=(Hn hP').symm;subst this;refine HC ?_;have e2:(bs[i]?).getD true=b:=by rw[e];rfl
   dsimp only at hQ;rw[e2] at hQ;exact hQ
 .have e:((List.range (bs.map Value.bool).toArray.size).all λi=>(bs[i]?).getD true)=bs.all id:=by
   rw[cM,bR,kq,Ybe,Ybe];constructor
   .intro h b hb
    obtain⟨i,hi,e⟩:=Ybw.mp hb;have:=h i (Yag.mpr hi);rw[iQ hi] at this;rw[<-e];exact this
   .intro h i hi
    have hi':=Yag.mp hi;rw[iQ hi'];exact h _ (uR hi')
  rw[e];refine⟨.bl (bs.all id),H,?_,rfl,q⟩;refine I.kept λb o e=>hk b o ?_ (cv _ e);intro z;have:b=s.heap.objs.size:=by simpa using z
  exact Hj (cc e) (by rw[this];exact g9 _)
def jG:List D->(D->Prop)->Prop:=λds Q=>match ds with
 |[.lst xs]=>∃bs:List Bool,xs=bs.map D.bl/\Q (.bl (bs.all id))
 |_=>False
theorem zN{K:Hg}{W:Wd}:∀{vs:List V} {bs:List Bool},Reps K W vs (bs.map D.bl)->vs=bs.map V.bl
 |_,[],.nil=>rfl
 |_,b::bs,.cons r t=>by cases r;rw[cF,zN t]
theorem zO(hc:X.calm=true):cl X (.builtin "all") jG:=by
 refine⟨⟨_,DJ hc,λW H vs ds Q ok r hg=>?_⟩,λds P P' hp hg=>?_⟩
 .unfold jG at hg
  split at hg
  .obtain⟨bs,rfl,q⟩:=hg
   obtain⟨v,rfl,rv⟩:=r.one;obtain⟨p,us,rfl,h1,rr⟩:=rv.sql ok;rw[zN rr] at h1;exact⟨p,bs,rfl,h1,q.now ok (.bl _)⟩
  .exact hg.elim
 .unfold jG at hg ⊢
  split at hg
  .obtain⟨bs,e,q⟩:=hg;exact⟨bs,e,hp _ q⟩
  .exact hg.elim
end
section
variable{W:Wd}
theorem SOk.set(s:SOk K W0 H0 W σ H ρ){i:Nat}{v:V}{x:D}(r:Rep K W v x):SOk K W0 H0 W (σ.set i (some v)) H (ρ.set i (.d x)) where
 ext:=s.ext
 len:=by rw[et,et];exact s.len
 d:=λj y e=>by
  by_cases h:i=j
  .subst h
   by_cases hi:i<ρ.length
   .rw[dW hi] at e
    cases e;exact⟨v,dW (by rw[<-s.len];exact hi),r⟩
   .rw[eY (by rw[et];omega)] at e;cases e
  .rw[dg h] at e ⊢;exact s.d j y e
 o:=λj ys e=>by
  by_cases h:i=j
  .subst h
   by_cases hi:i<ρ.length
   .rw[dW hi] at e;cases e
   .rw[eY (by rw[et];omega)] at e;cases e
  .rw[dg h] at e ⊢;exact s.o j ys e
 ne:=λj k xs ys a hjk e1 e2 e3=>by
  have nj:i≠j:=λh=>by
   subst h
   by_cases hi:i<ρ.length
   .rw[dW hi] at e1;cases e1
   .rw[eY (by rw[et];omega)] at e1;cases e1
  have nk:i≠k:=λh=>by
   subst h
   by_cases hi:i<ρ.length
   .rw[dW hi] at e2;cases e2
   .rw[eY (by rw[et];omega)] at e2;cases e2
  rw[dg nj] at e1 e3;rw[dg nk] at e2 ⊢;exact s.ne j k xs ys a hjk e1 e2 e3
 oo:=s.oo.set (λ_ h=>by cases h) (λj h=>dg h) λ_ _ h=>by cases h
theorem SOk.own(s1:SOk K W0 H0 W1 σ H1 ρ)(x:Ext W1 H1 W H){i:Nat}(hz:H1 a=none)(h1:H a=some (.lst vs))(h2:W.G a=none)(h3:¬W.Pn a)(r:Reps K W vs xs):SOk K W0 H0 W (σ.set i (some (.ref a))) H (ρ.set i (.ow xs)):=by
 have s:=s1.step x;have h4:H0 a=none:=s1.ext.isN hz;have hn:∀(j:Nat) ys b,j≠i->ρ[j]? = some (SV.ow ys)->σ[j]? = some (some (V.ref b))->b≠a:=λj ys b _ ej eb q=>by
  obtain⟨b',us,q1,q2,_⟩:=s1.o j ys ej;rw[eb] at q1;cases q1;rw[q,hz] at q2;cases q2
 exact{
  ext:=s.ext
  len:=by rw[et,et];exact s.len
  d:=λj y e=>by
    by_cases h:i=j
    · subst h
      by_cases hi:i<ρ.length
      · rw[dW hi] at e;cases e
      · rw[eY (by rw[et];omega)] at e;cases e
    · rw[dg h] at e ⊢;exact s.d j y e
  o:=λj ys e=>by
    by_cases h:i=j
    · subst h
      by_cases hi:i<ρ.length
      · rw[dW hi] at e
        cases e;exact⟨a,vs,dW (by rw[<-s.len];exact hi),h1,h2,h3,h4,r⟩
      · rw[eY (by rw[et];omega)] at e;cases e
    · rw[dg h] at e ⊢;exact s.o j ys e
  ne:=λj k ys zs b hjk e1 e2 e3 e4=>by
    by_cases hj:i=j
    · subst hj
      by_cases hi:i<ρ.length
      · rw[dW (by rw[<-s.len];exact hi)] at e3
        cases e3;rw[dg hjk] at e2 e4;exact hn k zs _ (Hv hjk) e2 e4 rfl
      · rw[eY (by rw[et];omega)] at e1;cases e1
    · by_cases hk:i=k
      · subst hk
        by_cases hi:i<ρ.length
        · rw[dW (by rw[<-s.len];exact hi)] at e4
          cases e4;rw[dg hj] at e1 e3;exact hn j ys _ (Hv hj) e1 e3 rfl
        · rw[eY (by rw[et];omega)] at e2;cases e2
      · rw[dg hj] at e1 e3
        rw[dg hk] at e2 e4;exact s.ne j k ys zs b hjk e1 e2 e3 e4
  oo:=by
    refine⟨λj xss e=>?_,λj k xss yss e1 e2=>?_⟩
    · have h:i≠j:=λh=>by
        subst h
        by_cases hi:i<ρ.length
        · rw[dW hi] at e;cases e
        · rw[eY (by rw[et];omega)] at e;cases e
      rw[dg h] at e;obtain⟨a',bs,e1,q,n⟩:=s1.oo.t j xss e;refine⟨a',bs,by rw[dg h];exact e1,q.step x,λk ys c ek ec=>?_⟩
      by_cases hk:i=k
      · subst hk
        by_cases hi:i<ρ.length
        · rw[dW (by rw[<-s.len];exact hi)] at ec
          cases ec;exact q.here hz
        · rw[eY (by rw[et];omega)] at ek;cases ek
      · rw[dg hk] at ek ec
        exact n k ys c ek ec
    · have g:∀ {j:Nat} {xss:List (List D)},(ρ.set i (.ow xs))[j]? = some (SV.oo xss)->ρ[j]? = some (SV.oo xss):=fun {j xss} e=>by
        by_cases h:i=j
        · subst h
          by_cases hi:i<ρ.length
          · rw[dW hi] at e;cases e
          · rw[eY (by rw[et];omega)] at e;cases e
        · rw[dg h] at e;exact e
      exact s.oo.u j k xss yss (g e1) (g e2) }
def pub(i:Nat)(ρ:bV):bV:=match ρ[i]? with
 |some (.ow xs)=>ρ.set i (.d (.lst xs))
 |_=>ρ
theorem SOk.pub(s:SOk K W0 H0 W σ H ρ)(i:Nat):∃W',SOk K W0 H0 W' σ H (LP.pub i ρ)/\Wle W W':=by
 unfold LP.pub;split
 .rename_i xs e
  obtain⟨a,vs,e1,e2,e3,e4,e5,r⟩:=s.o i xs e;have hi:i<ρ.length:=(Yap.mp e).1;refine⟨W.put a (.lst vs),⟨s.ext.pub e5 e2 e4 e3,by rw[et];exact s.len,λj y ej=>?_,λj ys ej=>?_,λj k ys zs b hjk ej ek e6=>?_,?_⟩,⟨rm e3,λ_ z=>z⟩⟩
  .by_cases h:i=j
   .subst h
    rw[dW hi] at ej;cases ej;exact⟨_,e1,.lst (by unfold Wd.put;dsimp only;rw[aG]) (r.mono (rm e3) λ_ z=>z)⟩
   .rw[dg h] at ej
    obtain⟨v,q1,q2⟩:=s.d j y ej;exact⟨v,q1,q2.mono (rm e3) λ_ z=>z⟩
  .have h:i≠j:=λh=>by subst h;rw[dW hi] at ej;cases ej
   rw[dg h] at ej;obtain⟨b,us,q1,q2,q3,q4,q5,rr⟩:=s.o j ys ej;have hba:b≠a:=λz=>s.ne i j xs ys a h e ej e1 (by rw[<-z];exact q1);refine⟨b,us,q1,q2,?_,q4,q5,rr.mono (rm e3) λ_ z=>z⟩;unfold Wd.put;dsimp only;rw[aE hba];exact q3
  .have h:i≠j:=λh=>by subst h;rw[dW hi] at ej;cases ej
   have h':i≠k:=λh=>by subst h;rw[dW hi] at ek;cases ek
   rw[dg h] at ej;rw[dg h'] at ek;exact s.ne j k ys zs b hjk ej ek e6
  .exact OOs.set ⟨λj xss ej=>let⟨a',bs,q1,q,n⟩:=s.oo.t j xss ej;⟨a',bs,q1,q.put (n i xs a e e1) e3,n⟩,s.oo.u⟩ (λ_ h=>by cases h) (λ_ _=>rfl) λ_ _ h=>by cases h
 .exact⟨W,s,.refl W⟩
theorem SOk.chg(s:SOk K W0 H0 W σ H ρ){i:Nat}{a:Addr}{xs ys:List D}{us:List V}(e:ρ[i]? = some (.ow xs))(e1:σ[i]? = some (some (.ref a)))(r:Reps K W us ys):SOk K W0 H0 W σ (upd H a (.lst us)) (ρ.set i (.ow ys)):=by
 obtain⟨a',vs,q1,q2,q3,q4,q5,rr⟩:=s.o i xs e;rw[e1] at q1;cases q1;have hi:i<ρ.length:=(Yap.mp e).1;refine⟨s.ext.chg q5 q2 q4 q3,by rw[et];exact s.len,λj y ej=>?_,λj zs ej=>?_,λj k ys' zs b hjk ej ek e6=>?_,OOs.set ⟨λj xss ej=>let⟨a',bs,p1,q,n⟩:=s.oo.t j xss ej;⟨a',bs,p1,q.upd (n i xs a e e1),n⟩,s.oo.u⟩ (λ_ h=>by cases h) (λ_ _=>rfl) λys c _ ec j xss a' bs _ ej ea _ n=>n i xs c e ec⟩
 .have h:i≠j:=λh=>by subst h;rw[dW hi] at ej;cases ej
  rw[dg h] at ej;exact s.d j y ej
 .by_cases h:i=j
  .subst h
   rw[dW hi] at ej;cases ej;exact⟨a,us,e1,aG,q3,q4,q5,r⟩
  .rw[dg h] at ej
   obtain⟨b,ws,p1,p2,p3,p4,p5,pr⟩:=s.o j zs ej;have hba:b≠a:=λz=>s.ne i j xs zs a h e ej e1 (by rw[<-z];exact p1);exact⟨b,ws,p1,by rw[aE hba];exact p2,p3,p4,p5,pr⟩
 .by_cases h:i=j
  .subst h
   rw[dg hjk] at ek;exact s.ne i k xs zs b hjk e ek e6
  .rw[dg h] at ej
   by_cases h':i=k
   .subst h'
    intro z;exact s.ne i j xs ys' b h e ej z e6
   .rw[dg h'] at ek
    exact s.ne j k ys' zs b hjk ej ek e6
end
section
variable{st:Stmt}{bD:List Stmt}{a b c:Expr}{w:WE}
def bI:WS:=λ_ N ρ=>N.nx ρ
def aK(z z':WS):WS:=λE N ρ=>z E { N with nx:=z' E N } ρ
theorem Nds.le_nx{N N':Nds}(h:N.le N'){n n':bV->Prop}(hn:∀ρ,n ρ->n' ρ):Nds.le { N with nx:=n } { N' with nx:=n' }:=⟨hn,h.rt,h.bk,h.ct⟩
theorem cE:ix X EX [] bI:=⟨⟨_,mh,λ_ _ _ W σ H ρ _ Dn N s fl _ no h=>no.nx W σ H ρ s fl h⟩,λ_ _ _ _ hl h=>hl.nx _ h⟩
theorem bG(h1:PZ X EX st z)(h2:ix X EX bD z'):ix X EX (st::bD) (aK z z'):=by
 obtain⟨t1,p1,k1⟩:=h1.t;obtain⟨t2,p2,k2⟩:=h2.t;refine⟨⟨_,gE p1 p2,λW0 H0 F W σ H ρ E Dn N s fl eo no h=>?_⟩,λE ρ N N' hl h=>h1.mono _ _ _ _ (Nds.le_nx hl λρ' h'=>h2.mono _ _ _ _ hl h') h⟩;exact k1 W0 H0 F W σ H ρ E _ { N with nx:=z' E N } s fl eo ⟨λW1 σ1 H1 ρ1 s1 f1 hn=>k2 W0 H0 F W1 σ1 H1 ρ1 E Dn N s1 f1 eo no hn,no.rt,no.bk,no.ct⟩ h
theorem bF(h1:PZ X EX st z):ix X EX [st] z:=by
 obtain⟨t1,p1,k1⟩:=h1.t;exact⟨⟨_,fL p1,k1⟩,h1.mono⟩
def bT(i:Nat)(z:WS):WS:=λE N ρ=>z E N (pub i ρ)
theorem iB(i:Nat)(h:ix X EX sts z):ix X EX sts (bT i z):=by
 obtain⟨t,p,k⟩:=h.t;refine⟨⟨t,p,λW0 H0 F W σ H ρ E Dn N s fl eo no h=>?_⟩,λE ρ N N' hl q=>h.mono _ _ _ _ hl q⟩;obtain⟨W',s',f'⟩:=s.pub i;exact k W0 H0 F W' σ H _ E Dn N s' (fl.trans f') eo no h
def g0(w:WE):WS:=λE N ρ=>w E ρ λ_=>N.nx ρ
theorem vo(he:PX X EX e w)(hs:swapsWith e none pos.line X.env=pure false:=by rfl):PZ X EX (.Expr e pos) (g0 w):=by
 obtain⟨t,p,k⟩:=he.t;refine⟨⟨_,fM p hs,λW0 H0 F W σ H ρ E Dn N s fl eo no h=>?_⟩,λE ρ N N' hl q=>he.mono _ _ _ _ (λ_=>hl.nx ρ) q⟩;exact k W0 H0 W σ H ρ E _ s eo (he.mono _ _ _ _ (λd hd v W1 H1 x1 r1=>no.nx W1 σ H1 ρ (s.step x1) (fl.ext x1) hd) h)
def aH(w:WE):WS:=λE N ρ=>w E ρ N.rt
theorem bM(he:PX X EX e w):PZ X EX (.Return (some e) pos) (aH w):=by
 obtain⟨t,p,k⟩:=he.t;refine⟨⟨_,kF p,λW0 H0 F W σ H ρ E Dn N s fl eo no h=>?_⟩,λE ρ N N' hl q=>he.mono _ _ _ _ hl.rt q⟩;exact k W0 H0 W σ H ρ E _ s eo (he.mono _ _ _ _ (λd hd v W1 H1 x1 r1=>no.rt d v W1 H1 (s.ext.trans x1) r1 hd) h)
def cr(w:WT)(z z':WS):WS:=λE N ρ=>w E ρ λb=>if b=true then z E N ρ else z' E N ρ
theorem dO{w:WT}{bs:List Stmt}(hc:iw X EX c w)(ha:ix X EX as z)(hb:ix X EX bs z'):PZ X EX (.If c as bs pos) (cr w z z'):=by
 obtain⟨t,p,k⟩:=hc.t;obtain⟨ta,pa,ka⟩:=ha.t;obtain⟨tb,pb,kb⟩:=hb.t;refine⟨⟨_,nw p pa pb,λW0 H0 F W σ H ρ E Dn N s fl eo no h=>?_⟩,λE ρ N N' hl q=>hc.mono _ _ _ _ (λb hb'=>?_) q⟩
 .refine k W0 H0 W σ H ρ E _ s eo (hc.mono _ _ _ _ (λb hb' W1 H1 x1=>?_) h)
  cases b with
  |true=>rw[Hh rfl] at hb' ⊢;exact ka W0 H0 F W1 σ H1 ρ E Dn N (s.step x1) (fl.ext x1) eo no hb'
  |false=>rw[if_neg (by decide)] at hb' ⊢;exact kb W0 H0 F W1 σ H1 ρ E Dn N (s.step x1) (fl.ext x1) eo no hb'
 .cases b with
  |true=>rw[Hh rfl] at hb' ⊢;exact ha.mono _ _ _ _ hl hb'
  |false=>rw[if_neg (by decide)] at hb' ⊢;exact hb.mono _ _ _ _ hl hb'
def aW(i:Nat)(w:WE):WS:=λE N ρ=>w E ρ λx=>N.nx (ρ.set i (.d x))
theorem dt(i:Nat)(he:PX X EX e w)(hN:X.N.Nodup)(hi:X.N[i]? = some x:=by rfl)(hx:jX X.env.scope x:=by first|exact Or.inl rfl|exact Or.inr rfl)(hs:swapsWith e (some (.Name x pos')) pos.line X.env=pure false:=by rfl)
  (hf:X.fn x=true\/X.env.scope.names.lookup x=some .local:=by first|exact .inl rfl|exact .inr rfl|assumption):PZ X EX (.Assign [.Name x pos'] e pos) (aW i w):=by
 obtain⟨t,p,k⟩:=he.t;refine⟨⟨_,hX hN hi hx p hs hf,λW0 H0 F W σ H ρ E Dn N s fl eo no h=>?_⟩,λE ρ N N' hl q=>he.mono _ _ _ _ (λ_=>hl.nx _) q⟩;exact k W0 H0 W σ H ρ E _ s eo (he.mono _ _ _ _ (λd hd v W1 H1 x1 r1=>no.nx W1 _ H1 _ ((s.step x1).set r1) (fl.ext x1) hd) h)
def cO(i:Nat)(t:WA):WS:=λE N ρ=>t E ρ λxs=>N.nx (ρ.set i (.ow xs))
theorem pA(i:Nat)(he:PXL X EX e t)(hN:X.N.Nodup)(hi:X.N[i]? = some x:=by rfl)(hx:jX X.env.scope x:=by first|exact Or.inl rfl|exact Or.inr rfl)(hs:swapsWith e (some (.Name x pos')) pos.line X.env=pure false:=by rfl)
  (hf:X.fn x=true\/X.env.scope.names.lookup x=some .local:=by first|exact .inl rfl|exact .inr rfl|assumption):PZ X EX (.Assign [.Name x pos'] e pos) (cO i t):=by
 obtain⟨t,p,k⟩:=he.t;refine⟨⟨_,hX hN hi hx p hs hf,λW0 H0 F W σ H ρ E Dn N s fl eo no h=>?_⟩,λE ρ N N' hl q=>he.mono _ _ _ _ (λ_=>hl.nx _) q⟩;refine k W0 H0 W σ H ρ E _ s eo (he.mono _ _ _ _ (λxs hd a vs W1 H1 x1 e1 e2 e3 e4 r1=>no.nx W1 _ H1 _ (s.own x1 e4 e1 e2 e3 r1) (fl.ext x1) hd) h)
end
def mG(K:Hg)(W:Wd)(J:It)(ds:List D):Prop:=
 ∀W2 H2 (i:Nat),(∀a o,W.G a=some o->W2.G a=some o)->(∀a,W.Pn a->W2.Pn a)->WOk W2 H2->
  (∀d,ds[i]? = some d->J.go i H2/\∀x H3,J.yld i H2 x H3->∃W3,Ext W2 H2 W3 H3/\Rep K W3 x d)/\(ds.length<=i->J.stop i H2)
structure pB(X:Cx)(EX:XK)(tg iter:Expr)(w:WA):Prop where
 t:∃t,PI X tg iter t/\∀W0 H0 W σ H ρ E R,SOk X.K W0 H0 W σ H ρ->gv X.K W0 H0 E EX->w E ρ (λds=>∀W' H' J,Ext W H W' H'->mG X.K W' J ds->R J H')->t σ H R
 mono:∀E ρ P P',(∀d,P d->P' d)->w E ρ P->w E ρ P'
section
variable{a b:Expr}{w:WE}
def isL(Q:List D->Prop):D->Prop
 |.lst xs=>Q xs
 |_=>False
theorem xG{Q:List D->Prop}(h:isL Q d):∃xs,d=.lst xs/\Q xs:=by
 cases d with
 |lst xs=>exact⟨xs,rfl,h⟩
 |_=>exact h.elim
theorem isL.mono{Q:List D->Prop}(h:∀b,Q b->Q' b):∀d,isL Q d->isL Q' d:=λd z=>by
 obtain⟨xs,rfl,q⟩:=xG z;exact h _ q
def vp(Q:List D->Prop):D->Prop
 |.tup xs=>Q xs
 |_=>False
def iL(w:WE):WA:=λE ρ Q=>w E ρ (isL Q)
def iT(w:WE):WA:=λE ρ Q=>w E ρ (vp Q)
def rng(lo:Int)(n:Nat):List D:=(List.range n).map λ(k:Nat)=>D.int (lo+k)
theorem DL{W:Wd}(lo:Int)(n:Nat):mG K W (uX lo n) (rng lo n):=by
 intro W2 H2 i g2 p2 ok2;refine⟨λd hd=>?_,λhi=>?_⟩
 .unfold rng at hd
  rw[eF] at hd
  by_cases hi:i<n
  .rw[List.getElem?_range hi] at hd
   cases hd;refine⟨hi,λx H3 y=>?_⟩;obtain⟨rfl,rfl⟩:=y;exact⟨W2,.refl ok2,.int _⟩
  .rw[eY (by simpa using hi)] at hd;cases hd
 .have:(rng lo n).length=n:=by unfold rng;simp
  rw[this] at hi;exact hi
def i1(Q:List D->Prop):List D->Prop
 |[.int j]=>-10000<=j/\j<10000/\Q (rng 0 j.toNat)
 |_=>False
def i2(Q:List D->Prop):List D->Prop
 |[.int i,.int j]=>(-10000<=i/\i<10000/\-10000<=j/\j<10000)/\Q (rng i (j-i).toNat)
 |_=>False
theorem i1.mono{Q:List D->Prop}(h:∀b,Q b->Q' b):∀d,i1 Q d->i1 Q' d:=λd z=>by
 unfold i1 at z ⊢;split at z
 .exact⟨z.1,z.2.1,h _ z.2.2⟩
 .exact z.elim
def lj(t:WA):WA:=λE ρ Q=>t E ρ (i1 Q)
def mH(t:WA):WA:=λE ρ Q=>t E ρ (i2 Q)
theorem DM(hm:X.mg "range" = none)(ha:ff X EX [a] t)(hg:Gl X "range" :=by rfl)(hs:starEach [a] X.env=[(false,eval a X.env)]:=by rfl):pB X EX tg (.Call (.Name "range" p) [a] [] pos) (lj t):=by
 obtain⟨t,q,k⟩:=ha.t;refine⟨⟨_,jn hg hm q hs,λW0 H0 W σ H ρ E R s eo h=>?_⟩,λE ρ P P' hp h=>ha.mono _ _ _ _ (i1.mono hp) h⟩;refine k W0 H0 W σ H ρ E _ s eo (ha.mono _ _ _ _ (λds hd vs W1 H1 x1 r1=>?_) h);unfold i1 at hd;split at hd
 .obtain⟨v,rfl,rv⟩:=r1.one
  cases rv;exact⟨_,rfl,by omega,by omega,hd.2.2 W1 H1 _ x1 (DL _ _)⟩
 .exact hd.elim
end
abbrev WG:=D->bV->(bV->Prop)->Prop
def Zfu(ρ:bV):Prop:=∀(i:Nat),(∀xs,ρ[i]?≠some (SV.ow xs))/\∀xss,ρ[i]?≠some (SV.oo xss)
structure pC(X:Cx)(tg:Expr)(g:WG):Prop where
 t:∃t,PG X tg t/\∀W0 H0 W σ H ρ d v Q,SOk X.K W0 H0 W σ H ρ->Rep X.K W v d->g d ρ (λρ'=>∀σ',SOk X.K W0 H0 W σ' H ρ'->Q σ' H)->t v σ H Q
 mono:∀d ρ P P',(∀r,P r->P' r)->g d ρ P->g d ρ P'
 own:∀d ρ P,Zfu ρ->g d ρ P->g d ρ (λr=>Zfu r/\P r)
section
theorem Zfu.set{ρ:bV}(h:Zfu ρ)(i:Nat)(d:D):Zfu (ρ.set i (.d d)):=λj=>by
 by_cases hj:i=j
 .subst hj
  by_cases hi:i<ρ.length
  .rw[dW hi];exact⟨λ_ e=>(by cases e),λ_ e=>(by cases e)⟩
  .rw[eY (by rw[et];omega)];exact⟨λ_ e=>(by cases e),λ_ e=>(by cases e)⟩
 .rw[dg hj];exact h j
def gN(i:Nat):WG:=λd ρ k=>k (ρ.set i (.d d))
theorem gw(i:Nat)(hN:X.N.Nodup)(hi:X.N[i]? = some x:=by rfl)(hx:jX X.env.scope x:=by first|exact Or.inl rfl|exact Or.inr rfl)(hf:X.fn x=true\/X.env.scope.names.lookup x=some .local:=by first|exact .inl rfl|exact .inr rfl|assumption) :
  pC X (.Name x pos) (gN i):=
 ⟨⟨_,fN hN hi hx hf,λW0 H0 W σ H ρ d v Q s r h=>h _ (s.set r)⟩,λd ρ P P' hp h=>hp _ h,λd ρ P ho h=>⟨ho.set i d,h⟩⟩
end
def ZbM(nv:Nat)(sel:List Nat)(ρ:bV):bV:=List.replicate nv .un++sel.map λj=>match ρ[j]? with
 |some (.d x)=>.d x
 |_=>.un
theorem ZbM.own(nv:Nat)(sel:List Nat)(ρ:bV):Zfu (ZbM nv sel ρ):=λi=>by
 have key:∀sv,(ZbM nv sel ρ)[i]? = some sv->sv=.un\/∃x,sv=.d x:=λsv e=>by
  unfold ZbM at e;rcases jW i nv with h|h
  .rw[lG (by simpa using h),ku] at e
   rw[Hh h] at e;cases e;exact .inl rfl
  .rw[kt (by simpa using h),eF] at e
   cases q:sel[i-(List.replicate nv SV.un).length]? with
   |none=>rw[q] at e;cases e
   |some j=>
    rw[q] at e;have e':=Hn e;dsimp only at e';split at e'
    .exact .inr ⟨_,e'.symm⟩
    .exact .inl e'.symm
 refine⟨λxs e=>?_,λxs e=>?_⟩
 .rcases key _ e with z|⟨x,z⟩<;>cases z
 .rcases key _ e with z|⟨x,z⟩<;>cases z
def No:Ex->Prop:=λ_=>False
def lcW(g:WG)(wf:WT)(we:WE):List D->bV->List D->(List D->Prop)->Prop
 |[],_,acc,Q=>Q acc
 |d::ds,ρ,acc,Q=>g d ρ λρ2=>wf No ρ2 λb=>if b=true then we No ρ2 λy=>acc.length<small/\lcW g wf we ds ρ2 (acc++[y]) Q else lcW g wf we ds ρ2 acc Q
structure xH(X:Cx)(EX:XK)(ifs:List Expr)(w:WT):Prop where
 t:∃t,PF X ifs t/\∀W0 H0 W σ H ρ E Q,SOk X.K W0 H0 W σ H ρ->gv X.K W0 H0 E EX->w E ρ (λb=>∀W' H',Ext W H W' H'->Q b H')->t σ H Q
 mono:∀E ρ P P',(∀d,P d->P' d)->w E ρ P->w E ρ P'
def dB:WT:=λ_ _ Q=>Q true
section
variable{vars:List Str}{sel:List Nat}{elt c:Expr}{g:WG}
theorem j0:xH X EX [] dB:=⟨⟨_,Cc,λ_ _ W _ H _ _ _ s _ h=>h W H (.refl s.ok)⟩,λ_ _ _ _ hp h=>hp _ h⟩
theorem lcW.mono(hg:∀d ρ P P',(∀r,P r->P' r)->g d ρ P->g d ρ P')(hf:∀E ρ P P',(∀d,P d->P' d)->wf E ρ P->wf E ρ P')(he:∀E ρ P P',(∀d,P d->P' d)->we E ρ P->we E ρ P') :
  ∀ds ρ acc P P',(∀xs,P xs->P' xs)->lcW g wf we ds ρ acc P->lcW g wf we ds ρ acc P'
 |[],_,acc,P,P',hp,h=>hp _ h
 | d::ds,ρ,acc,P,P',hp,h=>hg _ _ _ _ (λr hr=>hf _ _ _ _ (λb hb=>by
   cases b with
   |true=>rw[Hh rfl] at hb ⊢;exact he _ _ _ _ (λy hy=>⟨hy.1,lcW.mono hg hf he ds r _ P P' hp hy.2⟩) hb
   |false=>rw[if_neg (by decide)] at hb ⊢;exact lcW.mono hg hf he ds r _ P P' hp hb) hr) h
def aLC(wi:WA)(nv:Nat)(sel:List Nat)(g:WG)(wf:WT)(we:WE):WA:=λE ρ Q=>wi E ρ λds=>lcW g wf we ds (ZbM nv sel ρ) [] Q
theorem aLC.mono(hi:pB X EX target iter wi)(hg:∀d ρ P P',(∀r,P r->P' r)->g d ρ P->g d ρ P')(hf:∀E ρ P P',(∀d,P d->P' d)->wf E ρ P->wf E ρ P')(he:∀E ρ P P',(∀d,P d->P' d)->we E ρ P->we E ρ P') :
  ∀E ρ P P',(∀d,P d->P' d)->aLC wi vars.length sel g wf we E ρ P->aLC wi vars.length sel g wf we E ρ P':=λE ρ P P' hp h=>hi.mono _ _ _ _ (λds hds=>lcW.mono hg hf he ds _ _ _ _ hp hds) h
theorem SOk.lc{W:Wd}(s:SOk X.K W0 H0 W σ H ρ)(nv:Nat)(sel:List Nat):SOk X.K W0 H0 W (fc nv sel σ) H (ZbM nv sel ρ) where
 ext:=s.ext
 len:=by unfold ZbM fc;simp
 d:=λi x e=>by
  unfold ZbM at e;rcases jW i nv with h|h
  .rw[lG (by simpa using h),ku] at e
   split at e<;>cases e
  .rw[kt (by simpa using h),eF,lY] at e
   cases q:sel[i-nv]? with
   |none=>rw[q] at e;cases e
   |some j=>
    rw[q] at e;have e':=Hn e;dsimp only at e';split at e'
    .rename_i y ey
     cases e';obtain⟨v,ev,r⟩:=s.d j x ey;refine⟨v,?_,r⟩;unfold fc;rw[kt (by simpa using h),lY,eF,q];show some ((σ[j]?).getD none)=_;rw[ev];rfl
    .cases e'
 o:=λi xs e=>Hj e ((ZbM.own nv sel ρ i).1 xs)
 ne:=λi j xs ys a _ e=>Hj e ((ZbM.own nv sel ρ i).1 xs)
 oo:=.none λi=>(ZbM.own nv sel ρ i).2
theorem SOk.chgD{W:Wd}{o':HO}(s:SOk K W0 H0 W σ H ρ)(ho:Zfu ρ)(h0:H0 a=none)(h1:H a=some o)(h2:¬W.Pn a)(h3:W.G a=none):SOk K W0 H0 W σ (upd H a o') ρ:=
 ⟨s.ext.chg h0 h1 h2 h3,s.len,s.d,λi xs e=>Hj e ((ho i).1 xs),λi j xs ys a _ e=>Hj e ((ho i).1 xs),.none λi=>(ho i).2⟩
theorem DN(hi:pB X EX target iter wi)(hg:∀s H fp,pC (X.lc sc vars sel s H fp) target g)(hf:∀s H fp,xH (X.lc sc vars sel s H fp) E0 ifs wf)(he:∀s H fp,PX (X.lc sc vars sel s H fp) E0 elt we) :
  ∃(ti:TI) (tg:TG) (tf:TT) (te:TE),PI X target iter ti/\(∀s H fp,PG (X.lc sc vars sel s H fp) target tg)/\(∀s H fp,PF (X.lc sc vars sel s H fp) ifs tf)/\(∀s H fp,PE (X.lc sc vars sel s H fp) elt te)/\
   ∀W0 H0 W σ H ρ E Q,SOk X.K W0 H0 W σ H ρ->gv X.K W0 H0 E EX->
    aLC wi vars.length sel g wf we E ρ (λds=>∀a vs W' H',Ext W H W' H'->H' a=some (.lst vs)->W'.G a=none->¬W'.Pn a->H a=none->Reps X.K W' vs ds->Q (.ref a) H')->zx ti vars.length sel tg tf te σ H Q:=by
 obtain⟨ti,pi,ki⟩:=hi.t;refine ⟨ti,λv σ H Q=>∃ W0 H0 W ρ d,SOk X.K W0 H0 W σ H ρ/\Rep X.K W v d/\g d ρ (λρ'=>∀ σ',SOk X.K W0 H0 W σ' H ρ'->Q σ' H),
  λσ H Q=>∃W0 H0 W ρ,SOk X.K W0 H0 W σ H ρ/\wf No ρ (λb=>∀W' H',Ext W H W' H'->Q b H'),
  λσ H Q=>∃W0 H0 W ρ,SOk X.K W0 H0 W σ H ρ/\we No ρ (RQ X.K W H Q),pi,λs1 H1 fp=>?_,λs1 H1 fp=>?_,λs1 H1 fp=>?_,?_⟩
 .obtain⟨t,q,k⟩:=(hg s1 H1 fp).t
  rintro pins s σ H v u Q I r ⟨W0,H0,W,ρ,d,s',r',h⟩;exact q pins s σ H v u Q I r (k W0 H0 W σ H ρ d v Q s' r' h)
 .obtain⟨t,q,k⟩:=(hf s1 H1 fp).t
  rintro pins s σ H Q I ⟨W0,H0,W,ρ,s',h⟩;exact q pins s σ H Q I (k W0 H0 W σ H ρ No Q s' (λ_ _ _ _ _ z=>z.elim) h)
 .obtain⟨t,q,k⟩:=(he s1 H1 fp).t
  rintro pins s σ H Q I ⟨W0,H0,W,ρ,s',h⟩;exact q pins s σ H Q I (k W0 H0 W σ H ρ No Q s' (λ_ _ _ _ _ z=>z.elim) h)
 .have gm:=(hg {} (λ_=>none) []).mono
  have go:=(hg {} (λ_=>none) []).own;have fm:=(hf {} (λ_=>none) []).mono;have em:=(he {} (λ_=>none) []).mono;intro W0 H0 W σ H ρ E Q s eo h;refine ki W0 H0 W σ H ρ E _ s eo (hi.mono _ _ _ _ (λds hds W1 H1 J x1 it D hD=>?_) h);have hDf:=x1.ok.fresh hD;have hD0:H0 D=none:=s.ext.isN (x1.isN hD);refine ⟨λi m ys σ2 H2=>m=ds.length - i/\i<=ds.length/\∃ W2 ρ2 acc,Ext W1 H1 W2 H2/\SOk X.K W0 H0 W2 σ2 H2 ρ2/\Zfu ρ2/\H2 D=some (.lst ys)/\W2.G D=none/\¬ W2.Pn D/\Reps X.K W2 ys acc/\
   lcW g wf we (ds.drop i) ρ2 acc (λds=>∀a vs W' H',Ext W H W' H'->H' a=some (.lst vs)->W'.G a=none->¬W'.Pn a->H a=none->Reps X.K W' vs ds->Q (.ref a) H'),⟨_,rfl,gW _,W1,_,[],.new x1.ok hD,?_,ZbM.own _ _ ρ,aG,hDf.1,hDf.2,.nil,by rw[rk];exact hds⟩,?_⟩
  .exact(((s.step x1).step (.new x1.ok hD)).lc vars.length sel)
  .rintro i m ys σ2 H2 ⟨rfl,hi',W2,ρ2,acc,x2,s2,no2,hD2,g2,p2,r2,q2⟩
   refine⟨hD2,?_⟩;obtain⟨itg,its⟩:=it W2 H2 i x2.g x2.p x2.ok;rcases jW i ds.length with hlt|hge
   .have hd:ds[i]? = some ds[i]:=iQ hlt
    obtain⟨go',yl⟩:=itg _ hd;refine .inr ⟨go',λx H3 y=>?_⟩;obtain⟨W3,x3,r3⟩:=yl x H3 y;rw[List.drop_eq_getElem_cons hlt] at q2;have keepD:∀{W' H'},Ext W2 H2 W' H'->H' D=some (.lst ys)/\W'.G D=none/\¬W'.Pn D:=λ{W' H'} x'=>by
     refine⟨x'.h D _ hD2 p2,?_,λz=>?_⟩
     .cases q:W'.G D with
      |none=>rfl
      |some o=>have:=x'.gf D g2 (by rw[q];simp);rw[hD2] at this;cases this
     .have:=x'.pf D p2 z;rw[hD2] at this;cases this
    refine⟨W0,H0,W3,ρ2,ds[i],s2.step x3,r3,gm _ _ _ _ (λρ4 hr σ4 s4=>?_) (go _ _ _ no2 q2)⟩;obtain⟨no4,hr⟩:=hr;refine⟨W0,H0,W3,ρ4,s4,fm _ _ _ _ (λb hb W5 H5 x5=>?_) hr⟩;cases b with
    |false=>
     rw[if_neg (by decide)] at hb ⊢;have kD:=keepD (x3.trans x5);exact⟨ds.length-(i+1),by omega,rfl,hlt,W5,ρ4,acc,x2.trans (x3.trans x5),s4.step x5,no4,kD.1,kD.2.1,kD.2.2,(x3.trans x5).reps r2,hb⟩
    |true=>
     rw[Hh rfl] at hb ⊢;refine⟨W0,H0,W5,ρ4,s4.step x5,em _ _ _ _ (λy hy v W6 H6 x6 r6=>?_) hb⟩;have xx:=x3.trans (x5.trans x6);have kD:=keepD xx;have hl:ys.length=acc.length:=r2.length;refine⟨kD.1,by rw[hl];exact cX hy.1 (fD (bP _)),ds.length-(i+1),by omega,rfl,hlt,W6,ρ4,acc++[y],(x2.trans xx).chg hD kD.1 kD.2.2 kD.2.1,?_,no4,aG,kD.2.1,kD.2.2,(xx.reps r2).append (.cons r6 .nil),hy.2⟩;exact((s4.step x5).step x6).chgD no4 hD0 kD.1 kD.2.2 kD.2.1
   .have e:i=ds.length:=by omega
    refine .inl ⟨its hge,?_⟩;rw[List.drop_of_length_le hge] at q2;exact q2 D ys W2 H2 (x1.trans x2) hD2 g2 p2 (x1.isN hD) r2
theorem j3(vars:List Str)(sel:List Nat)(hc:X.calm=true)(hi:pB X EX target iter wi)(hg:∀s H fp,pC (X.lc sc vars sel s H fp) target g)(hf:∀s H fp,xH (X.lc sc vars sel s H fp) E0 ifs wf)(he:∀s H fp,PX (X.lc sc vars sel s H fp) E0 elt we)
  (ok:nK sc X.env.scope=true:=by rfl) (so:u7 X.N sc sel=true:=by rfl) (hs:∀x,foldedSetIterable iter X.env x=pure x:=by intro _;rfl):PXL X EX (.ListComp elt [⟨target,iter,ifs,0⟩] sc pos) (aLC wi vars.length sel g wf we):=by
 obtain⟨ti,tg,tf,te,pi,pg,pf,pe,k⟩:=DN hi hg hf he;exact⟨⟨_,tm vars sel hc pi ok so pg pf pe hs,k⟩,aLC.mono hi (hg {} (λ_=>none) []).mono (hf {} (λ_=>none) []).mono (he {} (λ_=>none) []).mono⟩
def xI(g:WG)(zb:WS)(E:Ex->Prop)(N:Nds):List D->bV->Prop
 |[],ρ=>N.nx ρ
 |d::ds,ρ=>g d ρ λρ1=>zb E { nx:=xI g zb E N ds,rt:=N.rt,bk:=N.nx,ct:=xI g zb E N ds } ρ1
def f6(wi:WA)(g:WG)(zb:WS):WS:=λE N ρ=>wi E ρ λds=>xI g zb E N ds ρ
end
def cB(N:List Str)(ds:List D):bV:=ds.map .d++List.replicate (N.length-ds.length) .un
abbrev Rd(S:List D->(Ex->Prop)->(D->Prop)->Prop)(z:WS)(N:List Str):Prop:=∀ds E Q,S ds E Q->z E { nx:=λ_=>Q .non,rt:=Q } (cB N ds)
theorem tJ{W:Wd}(ok:WOk W H)(r:Reps K W vs ds):SOk K W H W (start N vs) H (cB N ds) where
 ext:=.refl ok
 len:=by unfold cB L2.start;simp[r.length]
 d:=λi x e=>by
  unfold cB at e;rcases jW i ds.length with h|h
  .rw[lG (by simpa using h),eF] at e
   cases q:ds[i]? with
   |none=>rw[q] at e;cases e
   |some y=>
    rw[q] at e;cases e;obtain⟨v,ev,rv⟩:=r.get q;refine⟨v,?_,rv⟩;unfold L2.start;rw[lG (by rw[bR,r.length];exact h),eF,ev];rfl
  .rw[kt (by simpa using h),ku] at e
   split at e<;>cases e
 o:=λi xs e=>by
  unfold cB at e;rcases jW i ds.length with h|h
  .rw[lG (by simpa using h),eF] at e
   cases q:ds[i]? with
   |none=>rw[q] at e;cases e
   |some y=>rw[q] at e;cases e
  .rw[kt (by simpa using h),ku] at e
   split at e<;>cases e
 ne:=λi j xs ys a _ e=>by
  unfold cB at e;rcases jW i ds.length with h|h
  .rw[lG (by simpa using h),eF] at e
   cases q:ds[i]? with
   |none=>rw[q] at e;cases e
   |some y=>rw[q] at e;cases e
  .rw[kt (by simpa using h),ku] at e
   split at e<;>cases e
 oo:=.none λi xs e=>by
  unfold cB at e;rcases jW i ds.length with h|h
  .rw[lG (by simpa using h),eF] at e
   cases q:ds[i]? with
   |none=>rw[q] at e;cases e
   |some y=>rw[q] at e;cases e
  .rw[kt (by simpa using h),ku] at e
   split at e<;>cases e
section
variable{w:World}{base:Heap}
theorem tK{st:Stmt}{f:Addr}(F:Fun K x qual st f fd)(sc:aT N ps (aA st))(len:∀ds E Q,S ds E Q->ds.length=ps.length)
  (hbody:∀ (cdv:Value) (A:Around) (outer:List Env) (s:Shared) (H:Hp) (E:XK),Room k (A.deeper (envOfC qual (aA st) s.heap.objs.size f cdv))->
   aM (bE P w) (bA (bE P w) P w K mg base N qual (aA st) f cdv A outer s H E) E->dJ (bA (bE P w) P w K mg base N qual (aA st) f cdv A outer s H E) E->
   ix (bA (bE P w) P w K mg base N qual (aA st) f cdv A outer s H E) E (aI st) z)
  (h:∀ds E Q,S ds E Q->z E { nx:=λ_=>Q .non,rt:=Q } (cB N ds)):FnOk P w K mg base (bE P w) (k+1) f fd ps (dq K S):=by
 obtain⟨oc,od,kV,doc,pm,an,cdv,ct,osl,rfl,lk,hcd⟩:=F.ex;refine i9 lk hcd sc (λvs H Q E hs=>?_) λA outer s H vs Q E hr hs=>?_
 .obtain⟨ds,W,_,r,hS⟩:=hs
  rw[r.length];exact len _ _ _ hS
 .obtain⟨ds,W,ok,r,hS⟩:=hs
  obtain⟨t,p,k⟩:=(hbody cdv A outer s H E hr va vb).t;refine ⟨t,p,k W H W W (start N vs) H (cB N ds) (λex=>∀ W' H' cls dx,Ext W H W' H'->nO K W' H' cls dx ex->E cls dx H') _ { nx:=λ_=>RQ K W H Q .non,rt:=RQ K W H Q } (tJ ok r) (.refl W) (λex W' H' cls dx he x r=>he W' H' cls dx x r)
   ⟨λW1 σ1 H1 ρ1 s1 _ q=>q _ W1 H1 s1.ext .non,λd v W1 H1 x1 r1 q=>q v W1 H1 x1 r1,λ_ _ _ _ _ _ q=>q.elim,λ_ _ _ _ _ _ q=>q.elim⟩ (h ds _ _ hS)⟩
end
structure Fp(P:Program)(w:World)(K:Hg)(mg:Str->Option Value)(base:Heap)(k:Nat)(x:Str)(ps:List Str)(S:bN):Prop where
 ok:∃f fd,FnOk P w K mg base (bE P w) k f fd ps (dq K S)/\mg x=some (.ref f)/\PySem.W.keepIn K (.ref f)=true/\Binds K fd ps []
 mono:jY S
section
theorem cg(G:Fp X.prog X.w X.K X.mg X.base k x ps S)(hr:Room j X.A)(hx:aM (bE X.prog X.w) X EX)(ha:ff X EX (e::es) t)(hk:k<=j:=by decide)(hg:Gl X x:=by rfl)(hdb:(x==("__debug__" : Str))=false:=by decide)(he:starEach (e::es) X.env=(false,eval e X.env)::starEach es X.env:=by rfl)(hpl:(backTo pos (starEach es X.env)).any (·.1)=false:=by rfl) :
  PX X EX (.Call (.Name x p) (e::es) [] pos) (wF S t):=by
 obtain⟨f,fd,F,hm,kp,hb⟩:=G.ok;exact Dx F G.mono (hr.mono hk) hm kp hb hx ha hg hdb he hpl
def f7(z:WS):WS:=λ_ N ρ=>z No N ρ
end
section
variable{a b:Expr}{w:WE}
def isS(Q:List D->Prop):D->Prop
 |.lst xs=>Q xs
 |.tup xs=>Q xs
 |_=>False
theorem isS.mono{Q:List D->Prop}(h:∀b,Q b->Q' b):∀d,isS Q d->isS Q' d:=λd z=>by
 cases d<;>first|exact h _ z|exact z
def iS(w:WE):WA:=λE ρ Q=>w E ρ (isS Q)
theorem j4(he:PX X EX e w):pB X EX tg e (iS w):=by
 obtain⟨t,q,k⟩:=he.t;refine⟨⟨_,Cl q,λW0 H0 W σ H ρ E R s eo h=>?_⟩,λE ρ P P' hp h=>he.mono _ _ _ _ (isS.mono hp) h⟩;refine k W0 H0 W σ H ρ E _ s eo (he.mono _ _ _ _ (λd hd v W1 H1 x1 r1=>?_) h);have keyT:∀{l:Addr} {vs:List V} {xs:List D},(∀W' H' J,Ext W H W' H'->mG X.K W' J xs->R J H')->(∀W2 H2,(∀a o,W1.G a=some o->W2.G a=some o)->WOk W2 H2->SqT X.K H2 l vs)->Reps X.K W1 vs xs->(∃ys,SqT X.K H1 l ys)/\R (wU X.K l) H1:=by
  intro l vs xs hq sq rr;refine⟨⟨vs,sq W1 H1 (λ_ _ z=>z) x1.ok⟩,hq W1 H1 _ x1 λW2 H2 i g2 p2 ok2=>⟨λd hd=>?_,λhi=>⟨vs,sq W2 H2 g2 ok2,by rw[rr.length];exact hi⟩⟩⟩;obtain⟨v,ev,rv⟩:=rr.get hd;refine⟨⟨vs,v,sq W2 H2 g2 ok2,ev⟩,λx H3 y=>?_⟩;obtain⟨rfl,y⟩:=y;have:=y vs (sq W2 _ g2 ok2);rw[ev] at this;cases this;exact⟨W2,.refl ok2,rv.mono g2 p2⟩
 cases r1 with
 | @lst l vs xs e1 rr=>
  have hq:∀W' H' J,Ext W H W' H'->mG X.K W' J xs->R J H':=hd;refine⟨l,rfl,.inl ⟨⟨vs,SqL.of (x1.ok.g _ _ e1)⟩,hq W1 H1 _ x1 λW2 H2 i g2 p2 ok2=>⟨λd hd=>?_,λhi=>⟨vs,SqL.of (ok2.g _ _ (g2 _ _ e1)),by rw[rr.length];exact hi⟩⟩⟩⟩;obtain⟨v,ev,rv⟩:=rr.get hd;have sq:SqL X.K H2 l vs:=SqL.of (ok2.g _ _ (g2 _ _ e1));refine⟨⟨vs,v,sq,ev⟩,λx H3 y=>?_⟩;obtain⟨rfl,y⟩:=y;have:=y vs sq;rw[ev] at this;cases this;exact⟨W2,.refl ok2,rv.mono g2 p2⟩
 |tup e1 rr=>exact⟨_,rfl,.inr (keyT hd (λW2 H2 g2 ok2=>SqT.of (ok2.g _ _ (g2 _ _ e1))) rr)⟩
 |ktup e1 rr=>exact⟨_,rfl,.inr (keyT hd (λW2 H2 g2 ok2=>.inr e1) rr)⟩
 |non=>exact hd.elim
 |bl _=>exact hd.elim
 |int _=>exact hd.elim
 |str _=>exact hd.elim
 |dic _=>exact hd.elim
 |pen _=>exact hd.elim
 |cls _=>exact hd.elim
 |exc _ _=>exact hd.elim
 |ty _=>exact hd.elim
 |pl _=>exact hd.elim
 |scr _ _=>exact hd.elim
theorem rz{T:String}(hm:X.mg x=none)(hv:bootBuiltins x=some (.type T))(hg:Gl X x:=by rfl)(hn:x≠ "__name__" :=by decide)(hd:(x==("__debug__" : Str))=false:=by decide):PX X EX (.Name x pos) (wC (.ty T)):=
 Dt (v:=.ty T) hm hv rfl (λ_=>.ty T) hg hn hd
theorem DO{i:Int}{t:Tok}(hm:X.mg x=some (.int i t))(hg:Gl X x:=by rfl)(hd:(x==("__debug__" : Str))=false:=by decide):PX X EX (.Name x pos) (wC (.int i)):=
 xv (v:=.int i) hm ⟨t,rfl⟩ (λ_=>.int i) hg hd
end
theorem zP{i j:Int}(h:Q (.bl (if neg then !(i==j) else i==j))):gEq neg (.int i) (.int j) Q:=by
 refine⟨.int i,.int j,rfl,rfl,rfl,rfl,?_⟩;exact h
theorem mI{i j:Int}:gEq neg (.int i) (.int j) Q↔Q (.bl (if neg then !(i==j) else i==j)):=
 ⟨λ⟨p,q,h1,h2,_,_,h⟩=>by cases h1;cases h2;exact h,zP⟩
section
variable{a b c:Expr}{w:WE}{g:WG}
abbrev nW:=List D->bV->(bV->Prop)->Prop
structure mJ(X:Cx)(ts:List Expr)(g:nW):Prop where
 t:∃t,rl X ts t/\∀W0 H0 W σ H ρ ds vs Q,SOk X.K W0 H0 W σ H ρ->Reps X.K W vs ds->g ds ρ (λρ'=>∀σ',SOk X.K W0 H0 W σ' H ρ'->Q σ' H)->t vs σ H Q
 mono:∀d ρ P P',(∀r,P r->P' r)->g d ρ P->g d ρ P'
 own:∀d ρ P,Zfu ρ->g d ρ P->g d ρ (λr=>Zfu r/\P r)
def j5:nW:=λds ρ k=>match ds with
 |[]=>k ρ
 |_=>False
def jd(g:WG)(gs:nW):nW:=λds ρ k=>match ds with
 |d::ds=>g d ρ λρ'=>gs ds ρ' k
 |_=>False
theorem zQ:mJ X [] j5:=by
 refine⟨⟨_,iR,λW0 H0 W σ H ρ ds vs Q s r h=>?_⟩,λd ρ P P' hp h=>?_,λd ρ P ho h=>?_⟩
 .cases r with
  |nil=>exact⟨rfl,h σ s⟩
  |cons _ _=>exact h.elim
 .cases d with
  |nil=>exact hp _ h
  |cons _ _=>exact h.elim
 .cases d with
  |nil=>exact⟨ho,h⟩
  |cons _ _=>exact h.elim
theorem vq{gs:nW}(h1:pC X e g)(h2:mJ X es gs)(hs:(assignEach (e::es) X.env).map (·.2)=assign e X.env::(assignEach es X.env).map (·.2):=by rfl):mJ X (e::es) (jd g gs):=by
 obtain⟨t1,p1,k1⟩:=h1.t;obtain⟨t2,p2,k2⟩:=h2.t;refine⟨⟨_,eJ p1 p2 hs,λW0 H0 W σ H ρ ds vs Q s r h=>?_⟩,λd ρ P P' hp h=>?_,λd ρ P ho h=>?_⟩
 .cases r with
  |nil=>exact h.elim
  |cons r rr=>exact⟨_,_,rfl,k1 W0 H0 W σ H ρ _ _ _ s r (h1.mono _ _ _ _ (λρ' h' σ' s'=>k2 W0 H0 W σ' H ρ' _ _ Q s' rr h') h)⟩
 .cases d with
  |nil=>exact h.elim
  |cons d ds=>exact h1.mono _ _ _ _ (λr hr=>h2.mono _ _ _ _ hp hr) h
 .cases d with
  |nil=>exact h.elim
  |cons d ds=>exact h1.mono _ _ _ _ (λr hr=>h2.own _ _ _ hr.1 hr.2) (h1.own _ _ _ ho h)
def iD(n:Nat)(gs:nW):WG:=λd ρ k=>match d with
 |.tup xs=>xs.length=n/\gs xs ρ k
 |_=>False
theorem zR{n:Nat}{gs:nW}(hc:X.calm=true)(h:mJ X es gs)(hn:(assignEach es X.env).length=n:=by rfl)(hst:(assignEach es X.env).findIdx? (·.1)=none:=by rfl):pC X (.Tuple es k pos) (iD n gs):=by
 obtain⟨t,p,kk⟩:=h.t;refine⟨⟨_,oO hc p hn hst,λW0 H0 W σ H ρ d v Q s r q=>?_⟩,λd ρ P P' hp q=>?_,λd ρ P ho q=>?_⟩
 .unfold iD at q
  split at q
  .obtain⟨a,vs,rfl,h1,rr⟩:=r.sqt s.ok
   exact⟨a,vs,rfl,h1,rr.length.trans q.1,kk W0 H0 W σ H ρ _ _ Q s rr q.2⟩
  .exact q.elim
 .unfold iD at q ⊢
  split at q
  .exact⟨q.1,h.mono _ _ _ _ hp q.2⟩
  .exact q.elim
 .unfold iD at q ⊢
  split at q
  .exact⟨q.1,h.own _ _ _ ho q.2⟩
  .exact q.elim
def d7(w:WE)(g:WG):WS:=λE N ρ=>w E ρ λd=>g d ρ N.nx
theorem zS(he:PX X EX e w)(hg:pC X tg g)(hs:swapsWithSole [tg] e pos.line X.env=pure false:=by rfl)(hw:swappedStores [tg] e X.env=pure none:=by rfl)
  (h1:(assignEach [tg] X.env).map (·.2)=[assign tg X.env]:=by rfl):PZ X EX (.Assign [tg] e pos) (d7 w g):=by
 obtain⟨t,p,k⟩:=he.t;obtain⟨t2,p2,k2⟩:=hg.t;refine⟨⟨_,hW p p2 hs hw h1,λW0 H0 F W σ H ρ E Dn N s fl eo no h=>?_⟩,λE ρ N N' hl q=>he.mono _ _ _ _ (λd hd=>hg.mono _ _ _ _ hl.nx hd) q⟩;refine k W0 H0 W σ H ρ E _ s eo (he.mono _ _ _ _ (λd hd v W1 H1 x1 r1=>?_) h);exact k2 W0 H0 W1 σ H1 ρ d v _ (s.step x1) r1 (hg.mono _ _ _ _ (λρ' h' σ' s'=>no.nx W1 σ' H1 ρ' s' (fl.ext x1) h') hd)
def f8(i j:Nat)(t:WA):WS:=λE N ρ=>t E ρ λds=>match ds with
 |[x,y]=>N.nx ((ρ.set i (.d x)).set j (.d y))
 |_=>False
def mK(c:WT):WS:=λE N ρ=>c E ρ λb=>b=true/\N.nx ρ
def dP(i:Nat)(w:WE):WS:=λE N ρ=>match ρ[i]? with
 |some (.ow xs)=>w E ρ λd=>xs.length<small/\N.nx (ρ.set i (.ow (xs++[d])))
 |_=>False
theorem DP(i:Nat)(he:PX X EX e w)(hN:X.N[i]? = some x:=by rfl)(hv:oF X.env.scope x:=by first|exact Or.inl rfl|exact Or.inr (Or.inl rfl)|exact Or.inr (Or.inr rfl))(hd:(x==("__debug__" : Str))=false:=by decide)
  (hcd:(x==("__classdict__" : Str))=false:=by decide) (hbase:attributeBase (.Name x p) "append" X.env (eval (.Name x p) X.env)=eval (.Name x p) X.env:=by rfl)
  (hfew:((backTo cpos (starEach [e] X.env)).all (λx=>!x.1)&&(backToKw cpos (keywordEach [] X.env)).all (λx=>x.1.isSome)&&decide ([e].length+([]:List Keyword).length+(if([]:List Keyword).isEmpty then 0 else 1)<30))=true:=by rfl)
  (hline:(apos.endLine==cpos.line)=true:=by rfl) (hs:starEach [e] X.env=(false,eval e X.env)::starEach [] X.env:=by rfl) (hplain:(backTo cpos (starEach [] X.env)).any (·.1)=false:=by rfl)
  (hsw:swapsWith (.Call (.Attribute (.Name x p) "append" apos) [e] [] cpos) none pos.line X.env=pure false:=by rfl):PZ X EX (.Expr (.Call (.Attribute (.Name x p) "append" apos) [e] [] cpos) pos) (dP i w):=by
 obtain⟨t,pe,k⟩:=he.t;refine⟨⟨_,fM (gL PySem.F.plainAttrs_list PySem.F.slot_list_append PySem.F.type_list_append fA (fK hN hv hd hcd) (cz pe c0 hs) hbase hfew hline hs hplain) hsw,λW0 H0 F W σ H ρ E Dn N s fl eo no h=>?_⟩,λE ρ N N' hl q=>?_⟩
 .unfold dP at h
  split at h
  .rename_i xs ex
   obtain⟨a,vs,e1,e2,e3,e4,e5,r⟩:=s.o i xs ex;refine⟨_,e1,.inl ⟨rfl,vs,SqL.of e2⟩,?_⟩;refine k W0 H0 W σ H ρ E _ s eo (he.mono _ _ _ _ (λd hd v W1 H1 x1 r1=>?_) h);have e2':=x1.h a _ e2 e4;refine⟨a,vs,v,rfl,rfl,e2',by rw[r.length];exact cX hd.1 (fD (bP _)),?_⟩;exact no.nx W1 σ _ _ ((s.step x1).chg ex e1 ((x1.reps r).append (.cons r1 .nil))) (fl.ext x1) hd.2
  .exact h.elim
 .unfold dP at q ⊢
  split at q
  .exact he.mono _ _ _ _ (λd hd=>⟨hd.1,hl.nx _ hd.2⟩) q
  .exact q.elim
end
variable{gs:nW}
section
variable{ps:Pos}{a b:Expr}{w:WE}
def xJ(xs ys:List D):List D:=List.zipWith (λx y=>.tup [x,y]) xs ys
def iZ(t:WA):WA:=λE ρ Q=>t E ρ λds=>match ds with
 |[x,y]=>isS (λxs=>isS (λys=>Q (xJ xs ys)) y) x
 |_=>False
def mL(i:Nat)(wi wv:WE):WS:=λE N ρ=>match ρ[i]? with
 |some (.ow xs)=>wv E ρ λd=>wi E ρ (isI λk=>∃j,jv xs.length k=some j/\N.nx (ρ.set i (.ow (xs.set j d))))
 |_=>False
end
mutual
def tL:D->Bool
 |.lst _=>false
 |.scr _=>false
 |.dic=>false
 |.tup xs=>xK xs
 |.non=>true
 |.bl _=>true
 |.int _=>true
 |.str _=>true
 |.pen=>true
 |.cls _=>true
 |.exc _=>true
 |.ty _=>true
 |.pl _ _=>true
def xK:List D->Bool
 |[]=>true
 |x::r=>tL x&&xK r
end
section
variable{ps:Pos}{a b:Expr}{w:WE}
def f9(i:Nat)(w:WE):WE:=λE ρ Q=>w E (pub i ρ) λd=>tL d=true/\Q d
def gb(i:Nat)(w:WT):WT:=λE ρ Q=>w E (pub i ρ) Q
def gc(i:Nat)(t:WA):WA:=λE ρ Q=>t E (pub i ρ) λds=>xK ds=true/\Q ds
def ge(i:Nat)(wb:WE):WE:=λE ρ Q=>match ρ[i]? with
 |some (.ow xs)=>wb E ρ (isI λk=>∃d,cG xs k=some d/\Q d)
 |_=>False
def NL(K:Hg)(W:Wd)(H:Hp)(Q:VK)(ds:List D):Prop:=∀a vs W' H',Ext W H W' H'->H' a=some (.lst vs)->W'.G a=none->¬W'.Pn a->H a=none->Reps K W' vs ds->Q (.ref a) H'
theorem NL.new{K:Hg}{W W1:Wd}{H H1:Hp}{Q:VK}{ds:List D}{vs:List V}(h:NL K W H Q ds)(x1:Ext W H W1 H1)(r:Reps K W1 vs ds){q:Addr}(hq:H1 q=none):Q (.ref q) (upd H1 q (.lst vs)):=
 h q vs W1 _ (x1.trans (.new x1.ok hq)) aG (x1.ok.fresh hq).1 (x1.ok.fresh hq).2 (x1.isN hq) r
def da(wa wb:WE):WA:=λE ρ Q=>wa E ρ (isL λxs=>wb E ρ (isL λys=>xs.length+ys.length<=small/\Q (xs++ys)))
theorem tM(ha:PX X EX a wa)(hb:PX X EX b wb):PXL X EX (.BinOp a .Add b pos) (da wa wb):=by
 obtain⟨ta,pa,ka⟩:=ha.t;obtain⟨tb,pb,kb⟩:=hb.t;refine⟨⟨_,ny Zi8 pa pb,λW0 H0 W σ H ρ E Q s eo h=>?_⟩,λE ρ P P' hp h=>ha.mono _ _ _ _ (isL.mono λxs hx=>hb.mono _ _ _ _ (isL.mono λys hy=>⟨hy.1,hp _ hy.2⟩) hx) h⟩;refine ka W0 H0 W σ H ρ E _ s eo (ha.mono _ _ _ _ (λd hd v W1 H1 x1 r1=>?_) h);obtain⟨xs,rfl,hd⟩:=xG hd;refine kb W0 H0 W1 σ H1 ρ E _ (s.step x1) eo (hb.mono _ _ _ _ (λd hd u W2 H2 x2 r2=>?_) hd);obtain⟨ys,rfl,hd⟩:=xG hd;obtain⟨p,vs,rfl,h1,q1⟩:=(x2.rep r1).sql x2.ok;obtain⟨q,us,rfl,h2,q2⟩:=r2.sql x2.ok;exact⟨p,q,vs,us,rfl,rfl,h1,h2,by rw[q1.length,q2.length];exact fD hd.1,λa ha=>NL.new hd.2 (x1.trans x2) (q1.append q2) ha⟩
def gg(wa wb:WE):WA:=λE ρ Q=>wa E ρ (isL λxs=>wb E ρ (isI λk=>k<1000/\-1000<k/\xs.length*k.toNat<=small/\Q (List.replicate k.toNat xs).flatten))
def gh(wa:WE)(wl wh:(Ex->Prop)->bV->(Option Int->Prop)->Prop):WA:=λE ρ Q=>wa E ρ λx=>wl E ρ λl=>wh E ρ λh=>match x with
 |.lst xs=>Q (bH xs l h)
 |.scr xs=>Q (bH xs l h)
 |_=>False
end
section
variable{W:Wd}{i j k:Int}
def Wd.pen(W:Wd)(a:Addr):Wd:=⟨W.G,λb=>b=a\/W.Pn b⟩
theorem Ext.pen(x:Ext W H W1 H1)(h:H a=none)(e:H1 a=some (.lst [.int i,.int j,.int k]))(ng:W1.G a=none):Ext W H (W1.pen a) H1 where
 ok:=⟨x.ok.g,λb hb=>by
  rcases hb with rfl|hb
  .exact⟨⟨i,j,k,e⟩,ng⟩
  .exact x.ok.p b hb⟩
 g:=x.g
 p:=λb hb=>.inr (x.p b hb)
 gf:=x.gf
 pf:=λb n hb=>by
  rcases hb with rfl|hb
  .exact h
  .exact x.pf b n hb
 h:=x.h
theorem Ext.ink(x:Ext W H W1 H1)(hp:W1.Pn a):Ext W H W1 (upd H1 a (.lst [.int i,.int j,.int k])) where
 ok:=⟨λb o e=>by
   have hb:b≠a:=λz=>by rw[z,(x.ok.p a hp).2] at e;cases e
   rw[aE hb];exact x.ok.g b o e,
  λb hb=>by
   by_cases hba:b=a
   .subst hba;exact⟨⟨i,j,k,aG⟩,(x.ok.p b hb).2⟩
   .obtain⟨⟨i',j',k',e⟩,n⟩:=x.ok.p b hb
    exact⟨⟨i',j',k',by rw[aE hba];exact e⟩,n⟩⟩
 g:=x.g
 p:=x.p
 gf:=x.gf
 pf:=x.pf
 h:=λb o e n=>by
  have q:=x.h b o e n;have hb:b≠a:=λz=>by subst z;have:=x.pf b n hp;rw[e] at this;cases this
  rw[aE hb];exact q
theorem SOk.ink(s:SOk K W0 H0 W σ H ρ)(hp:W.Pn a):SOk K W0 H0 W σ (upd H a (.lst [.int i,.int j,.int k])) ρ where
 ext:=s.ext.ink hp
 len:=s.len
 d:=s.d
 o:=λn ys e=>by
  obtain⟨b,vs,e1,e2,e3,e4,e5,r⟩:=s.o n ys e;exact⟨b,vs,e1,by rw[aE (λz=>e4 (by rw[z];exact hp))];exact e2,e3,e4,e5,r⟩
 ne:=s.ne
 oo:=⟨λn xss e=>let⟨a',bs,e1,q,m⟩:=s.oo.t n xss e;⟨a',bs,e1,q.upd (q.noPen hp),m⟩,s.oo.u⟩
end
section
variable{ps:Pos}{a b:Expr}{w:WE}
def eS(t:WA):WE:=λE ρ Q=>t E ρ λds=>(∃i j k,ds=[.int i,.int j,.int k])/\Q .pen
theorem DQ(he:PXL X EX e t):PX X EX e (eS t):=by
 obtain⟨t,q,k⟩:=he.t;refine⟨⟨t,q,λW0 H0 W σ H ρ E Q s eo h=>?_⟩,λE ρ P P' hp h=>he.mono _ _ _ _ (λd hd=>⟨hd.1,hp _ hd.2⟩) h⟩;refine k W0 H0 W σ H ρ E Q s eo (he.mono _ _ _ _ (λds hd a vs W1 H1 x1 e1 e2 e3 e4 r1=>?_) h);obtain⟨⟨i,j,k,rfl⟩,hd⟩:=hd;have ev:vs=[.int i,.int j,.int k]:=by
  cases r1 with|cons r t=>cases r;cases t with|cons r t=>cases r;cases t with|cons r t=>cases r;cases t;rfl
 subst ev;exact hd _ _ _ (x1.pen e4 e1 e2) (.pen (.inl rfl))
def de:G2:=λx y Q=>x=.pen/\(y=.int 0\/y=.int 1\/y=.int 2)/\∀n,Q (.int n)
theorem tN:vh X de:=by
 refine⟨⟨_,kZ,λW H x y dx dy Q ok rx ry hg=>?_⟩,λx y P P' hp h=>⟨h.1,h.2.1,λn=>hp _ (h.2.2 n)⟩⟩;obtain⟨rfl,hy,hq⟩:=hg;cases rx with
 | @pen a hp=>
  obtain⟨⟨i,j,k,e⟩,ng⟩:=ok.p a hp;have key:∀(m:Int) (v:V),cG [V.int i,.int j,.int k] m=some v->(∃n,v=.int n)->zq X.K (.ref a) (.int m) H Q:=λm v hv ⟨n,hn⟩=>by
   subst hn;exact .inl ⟨a,_,m,_,rfl,rfl,SqL.of e,hv,(hq n).now ok (.int n)⟩
  rcases hy with rfl|rfl|rfl
  .cases ry;exact key 0 (.int i) rfl ⟨i,rfl⟩
  .cases ry;exact key 1 (.int j) rfl ⟨j,rfl⟩
  .cases ry;exact key 2 (.int k) rfl ⟨k,rfl⟩
def d8(i:Nat)(wv:WE):WS:=λE N ρ=>ρ[i]? = some (.d .pen)/\wv E ρ (isI λ_=>N.nx ρ)
theorem zT(i:Nat)(m:Int){wv:WE}{j}{ipos spos:Pos}(he:PX X EX e wv)(hm:m=0\/m=1\/m=2:=by decide)(hN:X.N[i]? = some x:=by rfl)(hv:oF X.env.scope x:=by first|exact Or.inl rfl|exact Or.inr (Or.inl rfl)|exact Or.inr (Or.inr rfl))(hd:(x==("__debug__" : Str))=false:=by decide)
  (hcd:(x==("__classdict__" : Str))=false:=by decide)
  (ha:∀ v,assign (.Subscript (.Name x p) (.Constant (.int m) j ipos) spos) X.env v=(do
   let ov <-holding [v] (eval (.Name x p) X.env)
   let iv <-holding [v,ov] (eval (.Constant (.int m) j ipos) X.env)
   standAt spos
   holding [v,ov,iv] (setItem ov iv v)
   release [v,ov,iv] []):=by intro _;rfl)
  (hs:swapsWithSole [.Subscript (.Name x p) (.Constant (.int m) j ipos) spos] e pos.line X.env=pure false:=by rfl) (hw:swappedStores [.Subscript (.Name x p) (.Constant (.int m) j ipos) spos] e X.env=pure none:=by rfl)
  (h1:(assignEach [.Subscript (.Name x p) (.Constant (.int m) j ipos) spos] X.env).map (·.2)=[assign (.Subscript (.Name x p) (.Constant (.int m) j ipos) spos) X.env]:=by rfl):PZ X EX (.Assign [.Subscript (.Name x p) (.Constant (.int m) j ipos) spos] e pos) (d8 i wv):=by
 obtain⟨t,pe,k⟩:=he.t;refine⟨⟨_,hW pe (oP (fK hN hv hd hcd) hV k6 ha) hs hw h1,λW0 H0 F W σ H ρ E Dn N s fl eo no h=>?_⟩,λE ρ N N' hl q=>⟨q.1,he.mono _ _ _ _ (isI.mono λ_ hn=>hl.nx _ hn) q.2⟩⟩;obtain⟨hpen,h⟩:=h;obtain⟨v0,e0,r0⟩:=s.d i .pen hpen;cases r0 with
 | @pen a hp=>
  refine k W0 H0 W σ H ρ E _ s eo (he.mono _ _ _ _ (λd hd v W1 H1 x1 r1=>⟨_,e0,?_⟩) h);obtain⟨n,rfl,hn⟩:=nS hd;cases r1;have hp1:=x1.p a hp;obtain⟨⟨i',j',k',e'⟩,ng⟩:=x1.ok.p a hp1;rcases hm with rfl|rfl|rfl
  .exact⟨a,_,0,0,rfl,rfl,e',rfl,no.nx W1 σ _ ρ ((s.step x1).ink hp1) (fl.ext x1) hn⟩
  .exact⟨a,_,1,1,rfl,rfl,e',rfl,no.nx W1 σ _ ρ ((s.step x1).ink hp1) (fl.ext x1) hn⟩
  .exact⟨a,_,2,2,rfl,rfl,e',rfl,no.nx W1 σ _ ρ ((s.step x1).ink hp1) (fl.ext x1) hn⟩
end
abbrev jH:G2:=gI2 (λ_ _=>True) λi j=>.int (i-j)
abbrev nX:G2:=gI2 (λ_ j=>j≠0) λi j=>.int (i.fmod j)
abbrev iE:G2:=gI2 xC λi j=>.int (i.fdiv j)
abbrev xL:G2:=gI2 oW λi j=>.int (i^j.toNat)
abbrev eT:G2:=gI2 (λ_ _=>True) λi j=>.bl (decide (i<j))
abbrev iF:G2:=gI2 (λ_ _=>True) λi j=>.bl (decide (i<=j))
abbrev jI:G2:=gI2 (λ_ _=>True) λi j=>.bl (decide (i>j))
abbrev xM:G2:=gI2 (λ_ _=>True) λi j=>.bl (decide (i ≥ j))
abbrev cJ:D->(D->Prop)->Prop:=λx Q=>isI (λi=>Q (.int (-i))) x
abbrev mM:WS:=λ_ _ _=>False
def fnS{α:Type}(enc:α->List D)(dom:α->Prop)(val:α->D):bN:=λds _ Q=>∃a,ds=enc a/\dom a/\Q (val a)
theorem fnS.mono{α:Type}{enc:α->List D}{dom:α->Prop}{val:α->D}:jY (fnS enc dom val):=λds E E' Q Q' _ hQ ⟨a,h1,h2,h3⟩=>⟨a,h1,h2,hQ _ h3⟩
theorem fnS.len{α:Type}{enc:α->List D}{dom:α->Prop}{val:α->D}(hp:∀a,(enc a).length=ps.length):∀ds E Q,fnS enc dom val ds E Q->ds.length=ps.length:=λds E Q ⟨a,h1,_⟩=>by rw[h1];exact hp a
def exQ(E:Ex->Prop)(Q:D->Prop):Except Str D->Prop
 |.ok v=>Q v
 |.error e=>E e
theorem exQ.mono{E':Ex->Prop}{Q':D->Prop}(hE:∀e,E e->E' e)(hQ:∀d,Q d->Q' d):∀r,exQ E Q r->exQ E' Q' r
 |.ok v,h=>hQ v h
 |.error e,h=>hE e h
def xS{α:Type}(enc:α->List D)(dom:α->Prop)(res:α->Except Str D):bN:=λds E Q=>∃a,ds=enc a/\dom a/\exQ E Q (res a)
theorem xS.mono{α:Type}{enc:α->List D}{dom:α->Prop}{res:α->Except Str D}:jY (xS enc dom res):=λds E E' Q Q' hE hQ ⟨a,h1,h2,h3⟩=>⟨a,h1,h2,exQ.mono hE hQ _ h3⟩
theorem xS.ok{α:Type}{enc:α->List D}{dom:α->Prop}{res:α->Except Str D}{v:D}(a:α)(h:ds=enc a)(hd:dom a)(e:res a=.ok v)(q:Q v):xS enc dom res ds E Q:=⟨a,h,hd,by rw[e];exact q⟩
theorem xS.err{α:Type}{enc:α->List D}{dom:α->Prop}{res:α->Except Str D}{n:Str}(a:α)(h:ds=enc a)(hd:dom a)(e:res a=.error n)(q:E n):xS enc dom res ds E Q:=⟨a,h,hd,by rw[e];exact q⟩
theorem xS.len{α:Type}{enc:α->List D}{dom:α->Prop}{res:α->Except Str D}(hp:∀a,(enc a).length=ps.length):∀ds E Q,xS enc dom res ds E Q->ds.length=ps.length:=λds E Q ⟨a,h1,_⟩=>by rw[h1];exact hp a
def rlS{α:Type}(enc:α->List D)(dom:α->Prop)(rel:α->D->Prop):bN:=λds _ Q=>∃a,ds=enc a/\dom a/\∀d,rel a d->Q d
theorem rlS.mono{α:Type}{enc:α->List D}{dom:α->Prop}{rel:α->D->Prop}:jY (rlS enc dom rel):=λds E E' Q Q' _ hQ ⟨a,h1,h2,h3⟩=>⟨a,h1,h2,λd r=>hQ _ (h3 d r)⟩
theorem rlS.len{α:Type}{enc:α->List D}{dom:α->Prop}{rel:α->D->Prop}(hp:∀a,(enc a).length=ps.length):∀ds E Q,rlS enc dom rel ds E Q->ds.length=ps.length:=λds E Q ⟨a,h1,_⟩=>by rw[h1];exact hp a
theorem Fp.of{w:World}{base:Heap}{f:Addr}(h:FnOk P w K mg base (bE P w) k f fd ps (dq K S))(m:jY S)(hm:mg x=some (.ref f))(kp:PySem.W.keepIn K (.ref f)=true)(hb:Binds K fd ps []) :
  Fp P w K mg base k x ps S:=⟨⟨f,fd,h,hm,kp,hb⟩,m⟩
section
variable{tail:bV}{Q:List D->Prop}
theorem DR{f:D->D}(h:∀d∈ds,∀Q:D->Prop,Q (f d)->we No (.d d::tail) Q):∀(sv:SV) (acc:List D),acc.length+ds.length<=small->Q (acc++ds.map f)->lcW (gN 0) dB we ds (sv::tail) acc Q:=by
 induction ds with
 |nil=>intro sv acc _ hq;simpa[lcW] using hq
 |cons d ds ih=>
  intro sv acc hl hq;rw[lcW];show we No (SV.d d::tail) _;refine h d (dk ..) _ ⟨?_,?_⟩
  .rw[cD] at hl;omega
  .refine ih (λd hd=>h d (cK _ hd)) (.d d) _ ?_ ?_
   .rw[gu,oy];rw[cD] at hl;omega
   .rw[l0];exact hq
theorem DS{R:D->D->Prop}(h:∀d∈ds,∀Q:D->Prop,(∀y,R d y->Q y)->we No (.d d::tail) Q):∀(sv:SV) (acc:List D),acc.length+ds.length<=small->(∀ys,ys.length=ds.length->(∀y∈ys,∃d,d∈ds/\R d y)->Q (acc++ys))->lcW (gN 0) dB we ds (sv::tail) acc Q:=by
 induction ds with
 |nil=>intro sv acc _ hq;simpa[lcW] using hq [] rfl (by simp)
 |cons d ds ih=>
  intro sv acc hl hq;rw[lcW];show we No (SV.d d::tail) _;refine h d (dk ..) _ λy hy=>⟨?_,?_⟩
  .rw[cD] at hl;omega
  .refine ih (λd hd=>h d (cK _ hd)) (.d d) _ ?_ λys hl' hys=>?_
   .rw[gu,oy];rw[cD] at hl;omega
   .rw[l0]
    refine hq (y::ys) (by rw[cD,cD,hl']) λz hz=>?_;rcases Yam.mp hz with rfl|hz
    .exact⟨d,dk ..,hy⟩
    .obtain⟨d',h1,h2⟩:=hys z hz;exact⟨d',cK _ h1,h2⟩
end
mutual
def d9:D->Nat->Bool
 |.non,_=>true
 |.bl _,_=>true
 |.int _,_=>true
 |.str x,_=>PyData.canLay0 (.str x)
 |.tup xs,n=>decide (0<n)&&jJ xs (n-1)
 |.lst xs,n=>decide (0<n)&&jJ xs (n-1)
 |.dic,_=>false
 |.pen,_=>false
 |.cls _,_=>false
 |.exc _,_=>false
 |.ty _,_=>false
 |.pl _ _,_=>false
 |.scr _,_=>false
def jJ:List D->Nat->Bool
 |[],_=>true
 |x::r,n=>d9 x n&&jJ r n
end
mutual
def pd:D->PyData
 |.non=>.none
 |.bl b=>.bool b
 |.int i=>.int i
 |.str x=>.str x
 |.tup xs=>.tuple (j6 xs)
 |.lst xs=>.list (j6 xs)
 |.dic=>.none
 |.pen=>.none
 |.cls _=>.none
 |.exc _=>.none
 |.ty _=>.none
 |.pl _ _=>.none
 |.scr _=>.none
def j6:List D->List PyData
 |[]=>[]
 |x::r=>pd x::j6 r
end
mutual
theorem vt:∀(x:D) (n:Nat),d9 x n=true->fh x=some (pd x)/\(pd x).canLay0=true/\(pd x).depth<=n
 |.non,n,_=>⟨rfl,rfl,by rw[pd,PyData.depth];exact gW _⟩
 |.bl _,n,_=>⟨rfl,rfl,by rw[pd,PyData.depth];exact gW _⟩
 |.int _,n,_=>⟨rfl,rfl,by rw[pd,PyData.depth];exact gW _⟩
 |.str x,n,h=>⟨rfl,by rw[d9] at h;exact h,by rw[pd,PyData.depth];exact gW _⟩
 |.tup xs,n,h=>by
  rw[d9,cf,Hk] at h;obtain⟨h1,h2,h3⟩:=xN xs (n-1) h.2;refine⟨by rw[fh,h1,pd];rfl,by rw[pd,PyData.canLay0];exact h2,by rw[pd,PyData.depth];omega⟩
 |.lst xs,n,h=>by
  rw[d9,cf,Hk] at h;obtain⟨h1,h2,h3⟩:=xN xs (n-1) h.2;refine⟨by rw[fh,h1,pd];rfl,by rw[pd,PyData.canLay0];exact h2,by rw[pd,PyData.depth];omega⟩
 |.dic,n,h=>by rw[d9] at h;cases h
 |.pen,n,h=>by rw[d9] at h;cases h
 |.cls _,n,h=>by rw[d9] at h;cases h
 |.exc _,n,h=>by rw[d9] at h;cases h
 |.ty _,n,h=>by rw[d9] at h;cases h
 |.pl _ _,n,h=>by rw[d9] at h;cases h
 |.scr _,n,h=>by rw[d9] at h;cases h
theorem xN:∀(xs:List D) (n:Nat),jJ xs n=true->dN xs=some (j6 xs)/\PyData.canLayAll0 (j6 xs)=true/\PyData.depthAll (j6 xs)<=n
 |[],n,_=>⟨by rw[dN,j6],by rw[j6,PyData.canLayAll0],by rw[j6,PyData.depthAll];exact gW _⟩
 |x::r,n,h=>by
  rw[jJ,cf] at h;obtain⟨h1,h2,h3⟩:=vt x n h.1;obtain⟨q1,q2,q3⟩:=xN r n h.2;exact⟨by rw[dN,h1,q1,j6],by rw[j6,PyData.canLayAll0,h2,q2];rfl,by rw[j6,PyData.depthAll];omega⟩
end
def ll(x y:D):Bool:=PyData.eqv (pd x) (pd y)
theorem rB{x y:D}(hx:d9 x 60=true)(hy:d9 y 60=true)(h:Q (.bl (if neg then !ll x y else ll x y))):gEq neg x y Q:=by
 obtain⟨a1,a2,a3⟩:=vt x 60 hx;obtain⟨b1,b2,b3⟩:=vt y 60 hy;refine⟨pd x,pd y,a1,b1,?_,?_,h⟩
 .unfold PySem.SeqAt.shaped;rw[a2,Hl (by omega)];rfl
 .unfold PySem.SeqAt.shaped;rw[b2,Hl (by omega)];rfl
mutual
theorem zU:∀p:PyData,p.canLay0=true->PyData.eqv p p=true
 |.none,_=>by rw[PyData.eqv]
 |.bool b,_=>by rw[PyData.eqv];exact HH b
 |.int i,_=>by rw[PyData.eqv];exact HH i
 |.str x,_=>by rw[PyData.eqv];exact HH x
 |.list xs,h=>by rw[PyData.eqv];exact xO xs (by rw[PyData.canLay0] at h;exact h)
 |.tuple xs,h=>by rw[PyData.eqv];exact xO xs (by rw[PyData.canLay0] at h;exact h)
 |.dict _,h=>by rw[PyData.canLay0] at h;cases h
theorem xO:∀ps:List PyData,PyData.canLayAll0 ps=true->PyData.eqvAll ps ps=true
 |[],_=>by rw[PyData.eqvAll]
 |p::ps,h=>by
  rw[PyData.canLayAll0,cf] at h;rw[PyData.eqvAll,zU p h.1,xO ps h.2];rfl
end
theorem DT{x:D}{n:Nat}(h:d9 x n=true):ll x x=true:=zU _ (vt x n h).2.1
theorem pD{x:D}(hx:d9 x 60=true)(h:Q (.bl (!neg))):gEq neg x x Q:=by
 refine rB hx hx ?_;rw[DT hx];cases neg<;>exact h
def rC(q:Rat):D:=.tup [.int q.num,.int (q.den:Int)]
def jK(r:List Rat):D:=.tup (r.map rC)
def aN(xs:List Int):D:=.tup (xs.map .int)
def je(xs:List Int):D:=.lst (xs.map .int)
mutual
def kd:D->Bool
 |.tup xs=>decide (xs.length<=5000)&&nY xs
 |.lst xs=>decide (xs.length<=5000)&&nY xs
 |.non=>true
 |.bl _=>true
 |.int _=>true
 |.str _=>true
 |.dic=>true
 |.pen=>false
 |.cls _=>false
 |.exc _=>false
 |.ty _=>false
 |.pl _ _=>false
 |.scr _=>false
def nY:List D->Bool
 |[]=>true
 |x::r=>kd x&&nY r
end
theorem zV:∀{xs:List D},nY xs=true->∀x∈xs,kd x=true
 |x::r,h,y,hy=>by
  rw[nY,cf] at h;rcases Yam.mp hy with rfl|hy
  .exact h.1
  .exact zV h.2 y hy
theorem zW:∀{xs:List D},(∀x∈xs,kd x=true)->nY xs=true
 |[],_=>by rw[nY]
 |x::r,h=>by rw[nY,h x (dk ..),zW λy hy=>h y (cK _ hy)];rfl
theorem zX(h:kd (.tup xs)=true):xs.length<=5000/\∀x∈xs,kd x=true:=by
 rw[kd,cf,Hk] at h;exact⟨h.1,zV h.2⟩
theorem DU(h1:xs.length<=5000)(h2:∀x∈xs,kd x=true):kd (.tup xs)=true:=by rw[kd,Hl h1,zW h2];rfl
theorem tO{x:D}(h:kd x=true):∃t,vm x=some t:=by
 cases x<;>first
  |exact⟨_,rfl⟩
  |(rw[kd] at h;cases h)
theorem xP{r:List Int}(h:r.length<=5000):kd (aN r)=true:=DU (by simpa using h) λx hx=>by
 obtain⟨q,_,rfl⟩:=Yby.mp hx;rw[kd]
def zY:D->Bool
 |.int _=>true
 |_=>false
def bU(l m:Int):D->Bool
 |.int i=>decide (l<=i)&&decide (i<=m)
 |_=>false
def jL(l m:Int):D->Bool
 |.tup xs=>xs.all (bU l m)
 |_=>false
def xQ:bN:=fnS (λx:D=>[x]) (λx=>kd x=true) λx=>.bl (zY x)
def nZ:bN:=fnS (λx:D×Int×Int=>[x.1,.int x.2.1,.int x.2.2]) (λx=>kd x.1=true) λx=>.bl (bU x.2.1 x.2.2 x.1)
def vv:bN:=fnS (λx:D×Int×Int=>[x.1,.int x.2.1,.int x.2.2]) (λx=>kd x.1=true) λx=>.bl (jL x.2.1 x.2.2 x.1)
structure IsSl(s:List Int)(n:Nat):Prop where
 len:s.length+1=2*n
 n1:1<=n
 n5:n<=5
 b:∀x∈s,-50<=x/\x<=50
def tbl(s:List Int)(n:Nat):List (List Int):=(List.range n).map λi=>(s.drop (n-1-i)).take n
def lm(s:List Int)(n:Nat):D:=.lst ((tbl s n).map je)
def dQ:D->Bool
 |.tup xs=>xs.all (bU (-50) 50)&&decide (xs.length%2=1)&&decide (xs.length<=9)
 |_=>false
abbrev SL:=List Int×Nat
def pE:bN:=fnS (λx:List D=>[.tup x]) (λx=>x.length<=5000) λx=>.int (((x.length:Int)+1)/2)
def vw:bN:=fnS (λx:D=>[x]) (λx=>kd x=true) λx=>.bl (dQ x)
def rD:D->Int
 |.int i=>i
 |_=>0
def sI:D->List Int
 |.tup xs=>xs.map rD
 |_=>[]
def sN(x:D):Nat:=((sI x).length+1)/2
def ln(x:D)(v:Except Str D):Except Str D:=if dQ x=true then v else .error "NoSlants"
def lL:bN:=xS (λx:D=>[x]) (λx=>kd x=true) λx=>ln x (.ok .non)
def hd(r:List Int):Int:=r.headD 0
def vx:bN:=xS (λx:D=>[x]) (λx=>kd x=true) λx=>ln x (.ok (aN (sI x).reverse))
def pF(s:List Int)(n k:Nat):List Int:=(s.drop (n-k)).take (2*k-1)
def xR:bN:=xS (λx:D×D=>[x.1,x.2]) (λx=>kd x.1=true/\kd x.2=true) λx=>ln x.1 (if bU 1 (sN x.1) x.2=true then .ok (aN (pF (sI x.1) (sN x.1) (rD x.2).toNat)) else .error "NoNumber")
section
variable{x:D}{l m a b:Int}{p:Rat}{n:Nat}
theorem vy(h:kd x=true)(q:Q (.bl (bU l m x))):nZ [x,.int l,.int m] E Q:=⟨(x,l,m),rfl,h,q⟩
theorem DV(h:kd x=true)(q:Q (.bl (jL l m x))):vv [x,.int l,.int m] E Q:=⟨(x,l,m),rfl,h,q⟩
theorem IsSl.l9(h:IsSl s n):s.length<=9:=by have:=h.len;have:=h.n5;omega
theorem zZ(h:xs.length<=5000)(q:Q (.int (((xs.length:Int)+1)/2))):pE [.tup xs] E Q:=⟨xs,rfl,h,q⟩
theorem z0(h:IsSl s n)(q:Q (.int n)):pE [aN s] E Q:=by
 have:=h.l9;have:=h.len;refine zZ (by simp;omega) ?_;have e:(((s.map D.int).length:Int)+1)/2=n:=by rw[bR];omega
 rw[e];exact q
theorem DW(h:kd x=true)(q:Q (.bl (dQ x))):vw [x] E Q:=⟨x,rfl,h,q⟩
theorem DX{n:Nat}(h:IsSl s n):dQ (aN s)=true:=by
 unfold dQ aN;simp only[bR];have hl:=h.len;have h5:=h.n5;have h1:=h.n1;rw[Hl (by omega:s.length%2=1),Hl (by omega:s.length<=9),Bool.and_true,Bool.and_true,Ybe];intro x hx;obtain⟨i,hi,rfl⟩:=Yby.mp hx;have:=h.b i hi;simp[bU,this.1,this.2]
theorem IsSl.kd{s:List Int}{n:Nat}(h:IsSl s n):kd (aN s)=true:=xP (by have:=h.l9;omega)
theorem pG(s:List Int):sI (aN s)=s:=by show(s.map D.int).map rD=s;rw[iP];exact(wq λ_ _=>rfl).trans (List.map_id _)
theorem IsSl.sN(h:IsSl s n):sN (aN s)=n:=by unfold LP.sN;rw[pG];have:=h.len;omega
theorem tP(h:IsSl s n):ln (aN s) v=v:=by unfold ln;rw[DX h,Hh rfl]
theorem z4(h:dQ x=false):ln x v=.error "NoSlants" :=by unfold ln;rw[h,if_neg (by decide)]
theorem vz(h:dQ x=true):∃s n,x=aN s/\IsSl s n:=by
 cases x<;>try (cases h;done)
 rename_i xs;simp only[dQ,cf,Hk,Ybe] at h;obtain⟨⟨h1,h2⟩,h3⟩:=h;have e:xs=(xs.map rD).map D.int:=by
  rw[iP];refine((wq λx hx=>?_).trans (List.map_id _)).symm;have:=h1 x hx;cases x<;>first|rfl|cases this
 refine⟨xs.map rD,(xs.length+1)/2,by unfold aN;rw[<-e],⟨by rw[bR];omega,by omega,by omega,λi hi=>?_⟩⟩;obtain⟨x,hx,rfl⟩:=Yby.mp hi;have:=h1 x hx;cases x<;>first|(cases this;done)|skip
 simp only[bU,cf,Hk] at this;exact this
theorem vA(h:IsSl s n)(q:Q .non):lL [aN s] E Q:=xS.ok (aN s) rfl h.kd (tP h) q
theorem vB(h:kd x=true)(hb:dQ x=false)(e:E "NoSlants"):lL [x] E Q:=xS.err x rfl h (z4 hb) e
theorem DY(h:IsSl s n)(q:Q (aN s.reverse)):vx [aN s] E Q:=xS.ok (aN s) rfl h.kd (by(try dsimp only);rw[tP h,pG]) q
end
theorem lN{C:Addr}(h:PySem.W.nsIn K mainGlobals x=some (some (.ref C))):eE K x=some C:=by unfold eE;rw[h]
section
variable{C:Addr}{newId initId:String}{bmB:List Value}
def gx(x:Str):WS:=λE _ _=>E x
structure XC(K:Hg)(mg:Str->Option Value)(x:Str):Prop where
 h:∃(C:Addr) (newId initId:String) (bmB:List Value),eE K x=some C/\mg x=some (.ref C)/\PySem.W.excIn K C bmB newId=true/\ExcBaseFacts "ValueError" newId initId bmB
theorem n3(hr:dJ X EX)(hx:XC X.K X.mg x)(hc:X.calm=true:=by rfl)(hxn:iu x=none:=by decide)(hg:Gl X x:=by rfl)(hd:(x==("__debug__" : Str))=false:=by decide) :
  PZ X EX (.Raise (some (.Call (.Name x np) [] [] cpos)) none pos) (gx x):=by
 obtain⟨C,newId,initId,bmB,h1,h2,h3,h4⟩:=hx.h;exact⟨⟨_,Cn hr hc h2 h3 h4 hg hd,λW0 H0 F W σ H ρ E Dn N s fl eo no q=>eo x W H (.ref C) none q s.ext ⟨C,by rw[Ds hxn];exact h1,rfl,.none hxn⟩⟩,λE ρ N N' hl q=>q⟩
end
def pH(n i:Nat)(ex:Str):bV:=(List.replicate n SV.un).set i (.d (.exc ex))
structure XT(K:Hg)(mg:Str->Option Value)(x:Str)(L:List Str):Prop where
 h:∃(C:Addr) (newId:String) (bmB:List Value),mg x=some (.ref C)/\PySem.W.excIn K C bmB newId=true/\bmB.contains (.type "BaseException")=true/\∀n∈L,∀D,eE K (jz n)=some D->PySem.W.mroIn K D (.ref C)=some true
section
def iG(L:List Str)(n i:Nat)(zb zh:WS):WS:=λ_ N ρ=>∃E':Ex->Prop,(∀ex,E' ex->ex∈L/\zh No { nx:=λ_=>False,rt:=N.rt } (pH n i ex))/\zb E' N ρ
end
section
variable{w:World}{base:Heap}
theorem xT{st:Stmt}{f:Addr}(F:Fun K x qual st f fd)(sc:aT N ps (aA st))(len:∀ds E Q,S ds E Q->ds.length=ps.length)
  (hbody:∀ (cdv:Value) (A:Around) (outer:List Env) (s:Shared) (H:Hp),RoomU k (A.deeper (envOfC qual (aA st) s.heap.objs.size f cdv))->
   ix (pp P w K mg base N qual (aA st) f cdv A outer s H) E0 (aI st) z)
  (h:∀ds E Q,S ds E Q->z No { nx:=λ_=>Q .non,rt:=Q } (cB N ds)):vc P w K mg base (k+1) f fd ps (dq K S):=by
 refine F.okU sc (λvs H Q E hs=>?_) λcdv A outer s H vs Q E hr hs=>?_
 .obtain⟨ds,W,_,r,hS⟩:=hs
  rw[r.length];exact len _ _ _ hS
 .obtain⟨ds,W,ok,r,hS⟩:=hs
  obtain⟨t,p,k⟩:=(hbody cdv A outer s H hr).t;exact ⟨t,p,k W H W W (start N vs) H (cB N ds) No _ { nx:=λ_=>RQ K W H Q .non,rt:=RQ K W H Q } (tJ ok r) (.refl W) (λ_ _ _ _ _ z=>z.elim)
   ⟨λW1 σ1 H1 ρ1 s1 _ q=>q _ W1 H1 s1.ext .non,λd v W1 H1 x1 r1 q=>q v W1 H1 x1 r1,λ_ _ _ _ _ _ q=>q.elim,λ_ _ _ _ _ _ q=>q.elim⟩ (h ds _ _ hS)⟩
structure vC(P:Program)(w:World)(K:Hg)(mg:Str->Option Value)(base:Heap)(k:Nat)(x:Str)(ps:List Str)(S:bN):Prop where
 ok:∃f fd,vc P w K mg base k f fd ps (dq K S)/\mg x=some (.ref f)/\PySem.W.keepIn K (.ref f)=true/\Binds K fd ps []
 mono:jY S
end
section
theorem z5(G:vC X.prog X.w X.K X.mg X.base k x ps S)(hr:RoomU j X.A)(ha:ff X EX (e::es) t)(hk:k<=j:=by decide)(hg:Gl X x:=by rfl)(hdb:(x==("__debug__" : Str))=false:=by decide)(he:starEach (e::es) X.env=(false,eval e X.env)::starEach es X.env:=by rfl)(hpl:(backTo pos (starEach es X.env)).any (·.1)=false:=by rfl) :
  PX X EX (.Call (.Name x p) (e::es) [] pos) (wF S t):=by
 obtain⟨f,fd,F,hm,kp,hb⟩:=G.ok;obtain⟨ta,pa,ka⟩:=ha.t;have hS:=G.mono;refine⟨⟨_,Cq (E:=EX) F (hr.mono hk) hg hm kp hb pa hdb he hpl,λW0 H0 W σ H ρ E Q s eo h=>?_⟩,λE ρ P P' hp z=>ha.mono _ _ _ _ (λds hds=>hS _ _ _ _ _ (λ_ q=>q) hp hds) z⟩;refine ka W0 H0 W σ H ρ E _ s eo (ha.mono _ _ _ _ (λds hds vs W1 H1 x1 r1=>?_) h);refine⟨ds,W1,x1.ok,by rw[jj];exact r1,hS _ _ _ _ _ (λex hex W' H' cls dx x' r'=>?_) (λd hd=>RQ.ext hd x1) hds⟩;exact eo ex W' H' cls dx hex (s.ext.trans (x1.trans x')) r'
end
structure XI(K:Hg)(L M:List Str):Prop where
 c:∀n∈L,∃D,eE K (jz n)=some D/\fe K D/\PySem.W.kitOne K (.ref D) (.type "ValueError")=some true/\∀m∈M,∃C,eE K m=some C/\PySem.W.kitOne K (.ref D) (.ref C)=some (jz n==m)
section
variable{a:Expr}
def gIsX(L M:List Str):List D->(D->Prop)->Prop:=λds Q=>match ds with
 |[.exc n,.cls m]=>n∈L/\m∈M/\Q (.bl (jz n==m))
 |[.exc n,.ty T]=>n∈L/\T = "ValueError" /\Q (.bl true)
 |_=>False
theorem gIsX.mono:∀ds P P',(∀d,P d->P' d)->gIsX L M ds P->gIsX L M ds P':=λds P P' hp hg=>by
 unfold gIsX at hg ⊢;split at hg
 .exact⟨hg.1,hg.2.1,hp _ hg.2.2⟩
 .exact⟨hg.1,hg.2.1,hp _ hg.2.2⟩
 .exact hg.elim
theorem lO(hx:XI X.K L M):cl X (.builtin "isinstance") (gIsX L M):=by
 refine⟨⟨λvs H Q=>∃W ds,WOk W H/\Reps X.K W vs ds/\gIsX L M ds (RQ X.K W H Q),?_,λW H vs ds Q ok r hg=>⟨W,ds,ok,r,hg⟩⟩,gIsX.mono⟩;rintro pins s σ H vs us Q I rv ⟨W,ds,ok,rs,hg⟩;have fin:∀{b:Bool},RQ X.K W H Q (.bl b)->∀tk,EP X pins σ Q (.bool b) { s with toks:=tk }:=λq tk=>⟨.bl _,H,I.tok tk,rfl,q.now ok (.bl _)⟩;have look:∀{x:V} {u:Value} {n:Str},n∈L->Rep X.K W x (.exc n)->RelV x u->∃a D,u=.ref a/\eE X.K (jz n)=some D/\XAt s.heap a D:=λ{x u n} hn r ru=>by
  cases r with
  | @exc a C n dx e0 e1 _=>
   cases ru;obtain⟨hx,_⟩:=(show ObjOk X.prog X.w H s.heap a (lf C a dx) from I.hok a _ (ok.g _ _ e0))
   exact⟨a,C,rfl,e1,let⟨oe,z1,z2,z3,_⟩:=hx;⟨oe,z1,z2,z3⟩⟩
 unfold gIsX at hg;split at hg
 .rename_i n m
  obtain⟨h1,h2,q⟩:=hg;obtain⟨v,w',rfl,r1,r2⟩:=rs.two;obtain⟨u,u2,rfl,ru,ru2⟩:=i4 rv;obtain⟨a,D,rfl,hD,hat⟩:=look h1 r1 ru;obtain⟨D',e1,cx,_,hm⟩:=hx.c n h1;rw[hD] at e1;cases e1;obtain⟨C,e2,hk⟩:=hm m h2;cases r2 with
  |cls e3=>
   rw[e3] at e2;cases e2;cases ru2;exact PySem.W.kia_one (zz cx) I.kIn hat hk (λz=>nomatch z) (fin q)
 .rename_i n T
  obtain⟨h1,rfl,q⟩:=hg;obtain⟨v,w',rfl,r1,r2⟩:=rs.two;obtain⟨u,u2,rfl,ru,ru2⟩:=i4 rv;obtain⟨a,D,rfl,hD,hat⟩:=look h1 r1 ru;obtain⟨D',e1,cx,hk,_⟩:=hx.c n h1;rw[hD] at e1;cases e1;cases r2;obtain rfl:u2=Value.type "ValueError" :=ru2;exact PySem.W.kia_one (zz cx) I.kIn hat hk (λz=>nomatch z) (fin q)
 .exact hg.elim
theorem DZ{a:Addr}(hm:X.mg x=some (.ref a))(hc:eE X.K x=some a)(hg:Gl X x:=by rfl)(hd:(x==("__debug__" : Str))=false:=by decide):PX X EX (.Name x pos) (wC (.cls x)):=
 xv (v:=.ref a) hm rfl (λW=>.cls hc) hg hd
end
structure xU(X:Cx)(id:String)(g:D->List D->(D->Prop)->Prop):Prop where
 t:∃r,nG X id r/\∀W H x vs dx ds Q,WOk W H->Rep X.K W x dx->Reps X.K W vs ds->g dx ds (RQ X.K W H Q)->r x vs H Q
 ty:∀dx ds P,g dx ds P->∃xs,dx=.lst xs
 mono:∀x ds P P',(∀d,P d->P' d)->g x ds P->g x ds P'
def wM(g:D->List D->(D->Prop)->Prop)(wo:WE)(t:WA):WE:=λE ρ Q=>wo E ρ λx=>(∃xs,x=.lst xs)/\t E ρ λds=>g x ds Q
section
variable{o:Expr}{id:String}{g:D->List D->(D->Prop)->Prop}
theorem z6(slot:Slot "list" name id)(hty:typeOf (.builtin id)=pure (.type "method_descriptor"))(hm:xU X id g)(ho:PX X EX o wo)(ha:ff X EX (e::es) t)
  (hbase:attributeBase o name X.env (eval o X.env)=eval o X.env:=by rfl)
  (hfew:((backTo cpos (starEach (e::es) X.env)).all (λx=>!x.1) && (backToKw cpos (keywordEach [] X.env)).all (λx=>x.1.isSome)
   && decide ((e::es).length+([]:List Keyword).length+(if([]:List Keyword).isEmpty then 0 else 1)<30))=true:=by rfl)
  (hline:(apos.endLine==cpos.line)=true:=by rfl) (hs:starEach (e::es) X.env=(false,eval e X.env)::starEach es X.env:=by rfl) (hplain:(backTo cpos (starEach es X.env)).any (·.1)=false:=by rfl) :
  PX X EX (.Call (.Attribute o name apos) (e::es) [] cpos) (wM g wo t):=by
 obtain⟨to,po,ko⟩:=ho.t;obtain⟨ta,pa,ka⟩:=ha.t;obtain⟨r,pr,kr⟩:=hm.t;refine⟨⟨_,gL PySem.F.plainAttrs_list slot hty pr po pa hbase hfew hline hs hplain,λW0 H0 W σ H ρ E Q s eo h=>?_⟩,λE ρ P P' hp z=>ho.mono _ _ _ _ (λx ⟨h1,h2⟩=>⟨h1,ha.mono _ _ _ _ (λds hds=>hm.mono _ _ _ _ hp hds) h2⟩) z⟩;refine ko W0 H0 W σ H ρ E _ s eo (ho.mono _ _ _ _ (λd hd v W1 H1 x1 r1=>?_) h);obtain⟨⟨xs,rfl⟩,h2⟩:=hd;cases r1 with
 | @lst a vs ds e1 rr=>
  refine⟨.inl ⟨rfl,vs,SqL.of (x1.ok.g _ _ e1)⟩,?_⟩;refine ka W0 H0 W1 σ H1 ρ E _ (s.step x1) eo (ha.mono _ _ _ _ (λds hds us W2 H2 x2 r2=>?_) h2);exact kr W2 H2 _ us _ ds Q x2.ok (.lst (x2.g _ _ e1) (rr.mono x2.g x2.p)) r2 (hm.mono _ _ _ _ (λd hd=>RQ.ext hd (x1.trans x2)) hds)
end
def vD(bs:List Bool):List D:=bs.map .bl
def xV:D->List D->(D->Prop)->Prop:=λx ds Q=>∃bs b,x=.lst (vD bs)/\ds=[.bl b]/\Q (.int (bs.countP (· == b):Nat))
def xW:D->List D->(D->Prop)->Prop:=λx ds Q=>∃bs b j,x=.lst (vD bs)/\ds=[.bl b]/\bs[j]? = some b/\(∀i<j,bs[i]?≠some b)/\Q (.int (j:Nat))
theorem xX{K:Hg}{W:Wd}:∀{bs:List Bool} {vs:List V} {its:List Value},Reps K W vs (vD bs)->Vals vs its->its=bs.map Value.bool
 |[],_,_,.nil,.nil=>rfl
 |b::bs,_,_,.cons r1 r2,.cons v1 v2=>by
  cases r1;obtain rfl:_=Value.bool b:=v1;rw[xX r2 v2];rfl
theorem z8(k:Bool):∀(bs:List Bool),(bs.map Value.bool).countP (isBoolOf k)=bs.countP (· == k)
 |[]=>rfl
 |b::bs=>by rw[cF,List.countP_cons,List.countP_cons,z8 k bs];rfl
section
theorem D0:xU X "list.count" xV:=by
 refine⟨⟨λx vs H Q=>∃W dx ds,WOk W H/\Rep X.K W x dx/\Reps X.K W vs ds/\xV dx ds (RQ X.K W H Q),?_,λW H x vs dx ds Q ok r rs hg=>⟨W,dx,ds,ok,r,rs,hg⟩⟩,λdx ds P ⟨bs,b,h,_⟩=>⟨_,h⟩,λx ds P P' hp ⟨bs,b,h1,h2,h3⟩=>⟨bs,b,h1,h2,hp _ h3⟩⟩;rintro pins s σ H x vs v us Q I rx rv ⟨W,dx,ds,ok,r,rs,bs,b,rfl,rfl,q⟩;obtain⟨y,rfl,ry⟩:=rs.one;cases ry;obtain⟨u,rfl,ru⟩:=bS rv;obtain rfl:u=Value.bool b:=ru;cases r with
 | @lst a xs ds e1 rr=>
  cases rx;obtain⟨its,rvs,pl,hz⟩:=I.list (SqL.of (ok.g _ _ e1));have hits:=xX rr rvs;subst hits;obtain⟨⟨cls,dd,data,sl⟩,ho,hc,n,hd⟩:=pl.isList;simp only at hc hd;subst hc hd;refine call_meets PySem.F.slot_list_count ⟨_,ho,rfl⟩ PySem.F.entry_list_count (PySem.F.args_list_count_2 _ _) (SeqAt.list_countAt a _ n dd sl (.bool b) (isBoolOf b)) ⟨ho,λy hy=>?_,?_⟩
  .have hy':y∈bs.map Value.bool:=by simpa using hy
   obtain⟨c,_,rfl⟩:=Yby.mp hy';exact PySem.SeqAt.EqAt.bool_bool c b
  .rw[show((bs.map Value.bool).toArray.toList)=bs.map Value.bool from rfl,z8]
   exact⟨.int _,H,I.tok _,⟨_,rfl⟩,q.now ok (.int _)⟩
theorem D1:xU X "list.index" xW:=by
 refine⟨⟨λx vs H Q=>∃W dx ds,WOk W H/\Rep X.K W x dx/\Reps X.K W vs ds/\xW dx ds (RQ X.K W H Q),?_,λW H x vs dx ds Q ok r rs hg=>⟨W,dx,ds,ok,r,rs,hg⟩⟩,λdx ds P ⟨bs,b,j,h,_⟩=>⟨_,h⟩,λx ds P P' hp ⟨bs,b,j,h1,h2,h3,h4,h5⟩=>⟨bs,b,j,h1,h2,h3,h4,hp _ h5⟩⟩;rintro pins s σ H x vs v us Q I rx rv ⟨W,dx,ds,ok,r,rs,bs,b,j,rfl,rfl,hj,hno,q⟩;obtain⟨y,rfl,ry⟩:=rs.one;cases ry;obtain⟨u,rfl,ru⟩:=bS rv;obtain rfl:u=Value.bool b:=ru;cases r with
 | @lst a xs ds e1 rr=>
  cases rx;obtain⟨its,rvs,pl,hz⟩:=I.list (SqL.of (ok.g _ _ e1));have hits:=xX rr rvs;subst hits;have hlen:xs.length=bs.length:=by rw[rr.length];unfold vD;rw[bR]
  obtain⟨⟨cls,dd,data,sl⟩,ho,hc,n,hd⟩:=pl.isList;simp only at hc hd;subst hc hd;have hjl:j<bs.length:=(Yap.mp hj).1;have hsz:((bs.map Value.bool).toArray).size=bs.length:=by simp
  refine call_meets PySem.F.slot_list_index ⟨_,ho,rfl⟩ PySem.F.entry_list_index (PySem.F.args_list_index_2 _ _) (SeqAt.list_indexAt a _ n dd sl (.bool b) (isBoolOf b) j (by rw[hsz];exact hjl) ?_ ?_ ?_) ⟨ho,λy hy=>?_,?_⟩
  .rw[sizeLine_eq] at hz
   have:bs.length<=2^62:=by first|(have:=hz;simp at this;omega)|omega
   have:=hjl;omega
  .have:=(Yap.mp hj).2
   simp only[List.getElem_toArray,List.getElem_map,isBoolOf];rw[this];simp
  .intro m hm hlt
   have hm':m<bs.length:=by rw[hsz] at hm;exact hm
   have:=hno m hlt;rw[iQ hm'] at this;simp only[List.getElem_toArray,List.getElem_map,isBoolOf];exact Bool.eq_false_iff.mpr λz=>this (by rw[beq_iff_eq.mp z])
  .have hy':y∈bs.map Value.bool:=by simpa using hy
   obtain⟨c,_,rfl⟩:=Yby.mp hy';exact PySem.SeqAt.EqAt.bool_bool c b
  .exact⟨.int _,H,I.tok _,⟨_,rfl⟩,q.now ok (.int _)⟩
end
section
def Zcy:G2:=λx y Q=>match x,y with
 |.tup xs,.int k=>k<1000/\-1000<k/\xs.length*k.toNat<=small/\Q (.tup (List.replicate k.toNat xs).flatten)
 |_,_=>False
theorem Zcy.mono:∀x y P P',(∀d,P d->P' d)->Zcy x y P->Zcy x y P':=λx y P P' hp hg=>by
 unfold Zcy at hg ⊢;split at hg
 .exact⟨hg.1,hg.2.1,hg.2.2.1,hp _ hg.2.2.2⟩
 .exact hg.elim
theorem z9:c8 X (binaryOp .Mult) Zcy:=by
 refine⟨⟨_,CJ,λW H x y dx dy Q ok rx ry hg=>?_⟩,Zcy.mono⟩;unfold Zcy at hg;split at hg
 .obtain⟨p,vs,rfl,h1,r1⟩:=rx.sqt ok
  cases ry;rename_i xs k;refine⟨p,k,vs,rfl,rfl,h1,by omega,by omega,by rw[r1.length];exact fD hg.2.2.1,λe=>?_,λa ha=>hg.2.2.2.tup ok (zK r1 _) ha⟩;have e':(List.replicate k.toNat xs).flatten=xs:=by
   rcases e with e|e
   .subst e;cases r1;simp
   .subst e;simp
  have q:=hg.2.2.2;rw[e'] at q;exact q.now ok rx
 .exact hg.elim
end
section
theorem D2:PX X EX (.Dict [] [] pos) (wC .dic):=by
 refine⟨⟨_,CL,λW0 H0 W σ H ρ E Q s eo h p hp=>?_⟩,λE ρ P P' hp h=>hp _ h⟩;exact h (.ref p) (W.put p (.dK [])) _ (Ext.put s.ok hp) (.dic (by unfold Wd.put;dsimp only;rw[aG]))
def its(js:List Int):List D:=js.map .int
theorem Aa{K:Hg}{W:Wd}:∀{js:List Int} {vs:List V},Reps K W vs (its js)->vs=js.map V.int
 |[],_,.nil=>rfl
 |j::js,_,.cons r t=>by cases r;rw[Aa t];rfl
end
abbrev ZfT:List Str:=["thing"]
def Ab:WS:=(aH (jB (wB gIs (aD (wN 0) (aD (wC (.ty "int")) aC))) (lh (wB gIs (aD (wN 0) (aD (wC (.ty "bool")) aC))))))
abbrev Ze9:List Str:=["thing", "least", "most"]
def Ac:WS:=(aH (jB (wF xQ (aD (wN 0) aC)) (ZaP iF iF (wN 1) (wN 0) (wN 2))))
abbrev Zd2:List Str:=["thing", "least", "most"]
def Ad:WS:=(aH (jB (wB gIs (aD (wN 0) (aD (wC (.ty "tuple")) aC))) (wB jG (aD (wL (aLC (iS (wN 0)) 1 [1,2] (gN 0) dB (wF nZ (aD (wN 0) (aD (wN 1) (aD (wN 2) aC)))))) aC))))
abbrev Zg9:List Str:=["slants"]
def Ae:WS:=(aH (w2 iE (w2 gAdd (wB bL (aD (wN 0) aC)) (wC (D.int (1)))) (wC (D.int (2)))))
abbrev ZdD:List Str:=["thing"]
def Af:WS:=(aK (cr (fg (cm (wT (wF vv (aD (wN 0) (aD (wC (.int (-50))) (aD (wC (.int (50))) aC)))))) (wT (w2 (gEq false) (w2 nX (wB bL (aD (wN 0) aC)) (wC (D.int (2)))) (wC (D.int (0)))))) (aH (wC (D.bl false))) bI) (aH (w2 iF (wF pE (aD (wN 0) aC)) (wC (.int (5))))))
abbrev ZdE:List Str:=["thing"]
def Ag:WS:=(cr (cm (wT (wF vw (aD (wN 0) aC)))) (gx (PySem.Str.ofString "NoSlants")) bI)
abbrev Zco:List Str:=["slants"]
def Ah:WS:=(aK (g0 (wF lL (aD (wN 0) aC))) (aH (w1 gRev (wN 0))))
abbrev Zig:List Str:=["slants", "size", "whole_size"]
def Ai:WS:=(aK (g0 (wF lL (aD (wN 0) aC))) (aK (aW 2 (wF pE (aD (wN 0) aC))) (aK (cr (cm (wT (wF nZ (aD (wN 1) (aD (wC (D.int (1))) (aD (wN 2) aC)))))) (gx (PySem.Str.ofString "NoNumber")) bI) (aH (cI (wN 0) (eQ (w2 jH (wN 2) (wN 1))) (eQ (w2 jH (w2 gAdd (wN 2) (wN 1)) (wC (D.int (1))))))))))
local macro_rules | `(tactic| walk_at "wp")=>`(tactic| simp only[aH,aK,cr,aW,bI,g0,bT,cO,f6,mK,f8,d7,dP,mL,d8,mM,f7,gx,jB,fX,lh,dL,fg,cm,wT,jc,w1,w2,wB,wF,wL,bJ,cI,ZaP,aB,aU,aD,aC,aLC,ZbM,dB,iS,iL,iT,lj,mH,iZ,i1,i2,isS,isL,vp,isB,isI,gM,eQ,wN,wC,gN,iD,jd,j5,gI2,gAdd,gMul,gIx,de,gCut,gRev,bL,li,jZ,fY,iA,fZ,mI,eS,f9,gb,gc,ge,da,gg,gh,cB,pub,cF,hJ,cD,fG,kx,eG,List.replicate,l3,l4,l5,l6,Nat.reduceSub,Nat.reduceAdd,eX,l8,true_and,cw,if_true,if_false,ite_true,ite_false])
local macro_rules | `(tactic| walk_at "go")=>`(tactic| ((try dsimp only at *);(try walk_at "wp");(try dsimp only)))
theorem xY{x:D}{T:String}(h:kd x=true)(hT:T∈vn)(q:∀t,vm x=some t->Q (.bl (jF t T))):gIs [x,.ty T] Q:=by
 obtain⟨t,ht⟩:=tO h;exact⟨t,ht,hT,q t ht⟩
theorem D4:Rd xQ Ab ZfT:=by
 rintro _ E Q ⟨x,rfl,hk,q⟩;unfold Ab;walk_at "wp";refine xY hk (by decide) λt ht=>?_;cases x<;>cases ht<;>first
  |exact q
  |exact xY hk (by decide) λt ht=>by cases ht;exact q
theorem D5:Rd nZ Ac Ze9:=by
 rintro _ E Q ⟨⟨x,l,m⟩,rfl,hk,q⟩;unfold Ac;walk_at "go";refine⟨x,rfl,hk,?_⟩;cases x<;>try exact q
 rename_i i;simp only[zY,isB,if_true,gI2,true_and]
 by_cases h:l<=i
 .simp only[h,decide_true,if_true]
  simpa[bU,h] using q
 .simp only[h,decide_false,if_false,cw]
  simpa[bU,h] using q
theorem D6:Rd vv Ad Zd2:=by
 rintro _ E Q ⟨⟨x,l,m⟩,rfl,hk,q⟩;unfold Ad;walk_at "go";refine xY hk (by decide) λt ht=>?_;cases x<;>cases ht<;>try exact q
 rename_i xs;obtain⟨hl,hx⟩:=zX hk;show lcW _ _ _ xs _ _ _;refine DR (f:=λd=>.bl (bU l m d)) (λd hd Q hq=>?_) .un [] (by simp[small];omega) ?_
 .walk_at "go"
  exact⟨(d,l,m),rfl,hx d hd,hq⟩
 .refine⟨xs.map (bU l m),by simp,?_⟩
  simpa[uS,Function.comp_def,jL] using q
theorem lP{α:Type}{we:WE}{tail:bV}{Q:List D->Prop}{g f:α->D}:∀(L:List α),(∀a∈L,∀Q:D->Prop,Q (f a)->we No (.d (g a)::tail) Q)->∀(sv:SV) (acc:List D),acc.length+L.length<=small->Q (acc++L.map f)->lcW (gN 0) dB we (L.map g) (sv::tail) acc Q
 |[],_,sv,acc,_,hq=>by simpa[lcW] using hq
 |a::L,h,sv,acc,hl,hq=>by
  rw[cF,lcW];show we No (SV.d (g a)::tail) _;rw[cD] at hl;refine h a (dk ..) _ ⟨by omega,lP L (λd hd=>h d (cK _ hd)) _ _ ?_ ?_⟩
  .rw[gu,oy];omega
  .rw[l0];exact hq
theorem at0{α:Type}{x:α}{xs:List α}:cG (x::xs) 0=some x:=aQ (j:=0) rfl
theorem D8{α:Type}{xs:List α}{i:Int}{x:α}(hi:i=k)(h:xs[k]? = some x):cG xs i=some x:=by rw[hi];exact aQ h
theorem xZ{α:Type}{xs:List α}{a b:Nat}(h:a<=b)(hb:b<=xs.length):bH xs (some (a:Int)) (some (b:Int))=(xs.drop a).take (b-a):=by
 unfold bH;rw[HT.sIx_nat,HT.sIx_nat,ss hb,ss (gA h hb)]
theorem tQ{α:Type}{xs:List α}{i j:Int}{a b:Nat}(hi:i=a)(hj:j=b)(h:a<=b)(hb:b<=xs.length):bH xs (some i) (some j)=(xs.drop a).take (b-a):=by
 rw[hi,hj];exact xZ h hb
theorem x8{α:Type}{xs:List α}{a:Nat}(h:a<=xs.length):bH xs (some (a:Int)) none=xs.drop a:=by
 unfold bH;rw[HT.sIx_nat,HT.sIx_none,ss h,<-kv,List.take_length]
theorem gO{i:Int}{n:Nat}(h:i.natAbs<2^n)(l:n<=8990):Bd i:=cX h (Nat.pow_le_pow_right (by decide) l)
theorem D9:Rd pE Ae Zg9:=by
 rintro _ E Q ⟨x,rfl,hl,q⟩;unfold Ae;walk_at "go";refine⟨⟨by decide,gO (n:=2) (by decide) (by omega)⟩,?_⟩;rw[uT _ (by decide)];exact q
theorem Ea:Rd vw Af ZdD:=by
 rintro _ E Q ⟨x,rfl,hk,q⟩;unfold Af;walk_at "go";refine DV hk ?_;walk_at "go";cases ha:jL (-50) 50 x with
 |false=>
  have:dQ x=false:=by
   cases x<;>try rfl
   simp only[jL] at ha;simp only[dQ,ha,uM]
  rw[this] at q;simpa using q
 |true=>
  cases x<;>try (cases ha;done)
  rename_i xs;obtain⟨hl,hx⟩:=zX hk;walk_at "go";simp only[dA,cw,if_false];refine⟨by decide,?_⟩;simp only[jL] at ha;simp only[dQ,ha,Bool.true_and] at q;rw[zl _ (by decide)]
  by_cases h:xs.length%2=1
  .rw[if_neg (by simp;omega)]
   walk_at "go";refine zZ hl ?_;walk_at "go";rw[Hl h,Bool.true_and] at q;have e:decide (((xs.length:Int)+1)/2<=5)=decide (xs.length<=9):=by
    rw[decide_eq_decide];omega
   rw[e];exact q
  .rw[Hh (by simp;omega)]
   rw[Ht h,uM] at q;exact q
theorem Eb:Rd lL Ag ZdE:=by
 rintro _ E Q ⟨x,rfl,h,q⟩;unfold Ag;walk_at "go";refine DW h ?_;walk_at "go";unfold ln at q;cases e:dQ x with
 |false=>rw[e] at q;exact q
 |true=>rw[e] at q;exact q
theorem Aj{x:D}(h:kd x=true)(hb:dQ x=false->E "NoSlants")(hg:∀s n,x=aN s->IsSl s n->Q .non):lL [x] E Q:=by
 cases e:dQ x with
 |false=>exact vB h e (hb e)
 |true=>
  obtain⟨s,n,rfl,hs⟩:=vz e;exact vA hs (hg s n rfl hs)
theorem x9{x:D}(e:dQ x=false)(q:exQ E Q (ln x v)):E "NoSlants" :=by
 rw[z4 e] at q;exact q
theorem ya{n:Nat}(h:IsSl s n)(q:exQ E Q (ln (aN s) v)):exQ E Q v:=by
 rw[tP h] at q;exact q
theorem Ec(s:List Int)(n:Nat):(tbl s n).length=n:=by simp[tbl]
theorem Ed:Rd vx Ah Zco:=by
 rintro _ E Q ⟨x,rfl,hk,q⟩;unfold Ah;walk_at "go";refine Aj hk (λe=>x9 e q) λs n e h=>?_;subst e;replace q:Q (aN s.reverse):=by have:=ya h q;rw[pG] at this;exact this
 unfold aN;walk_at "go";rw[<-su];exact q
theorem Ee:Rd xR Ai Zig:=by
 rintro _ E Q ⟨⟨x,k⟩,rfl,⟨hk,hk2⟩,q⟩;dsimp only at hk hk2 q;unfold Ai;walk_at "go";refine Aj hk (λe=>x9 e q) λs n e h=>?_;subst e;replace q:=ya h q;rw[h.sN,pG] at q;have hl:=h.len;refine z0 h ?_;walk_at "go";refine vy hk2 ?_;walk_at "go";cases e:bU 1 (n:Int) k with
 |false=>
  rw[e] at q;exact q
 |true=>
  rw[e] at q;have q:Q (aN (pF s n (rD k).toNat)):=q;obtain⟨i,rfl⟩:∃i,k=.int i:=by cases k<;>first|exact⟨_,rfl⟩|cases e
  simp only[bU,cf,Hk] at e;obtain⟨k,rfl⟩:∃k:Nat,i=k:=⟨i.toNat,by omega⟩
  simp only[dA,cw,if_false];unfold aN;walk_at "go";rw[tQ (a:=n-k) (b:=n+k-1) (by omega) (by omega) (by omega) (by rw[bR];omega),show n+k-1-(n-k)=2*k-1 by omega,<-sw,<-sx];exact q
def vE:bN:=fnS (λx:List Int×Nat=>[.scr (x.1.map .int),.int x.2]) (λ_=>True) λx=>.int (x.1.getD x.2 0)
def tR:bN:=rlS (λx:Int=>[.int x]) (λ_=>True) λ_ d=>∃j:Int,d=.int j
def tS:bN:=fnS (λx:Int=>[.int x]) (λ_=>True) λ_=>.pen
def dC:bN:=rlS (λm:Nat=>[.pen,.int m]) (λm=>0<m/\m<2^30) λm d=>∃k:Nat,d=.int k/\k<m
section
variable{x:D}{l m a b:Int}{p:Rat}{n:Nat}
theorem Ef{xs:List Int}{i:Nat}(q:Q (.int (xs.getD i 0))):vE [.scr (xs.map .int),.int i] E Q:=⟨(xs,i),rfl,trivial,q⟩
theorem Ak(q:∀j:Int,Q (.int j)):tR [.int a] E Q:=⟨a,rfl,trivial,λd ⟨j,hd⟩=>by rw[hd];exact q j⟩
theorem Eg(q:Q .pen):tS [.int a] E Q:=⟨a,rfl,trivial,q⟩
theorem gi(h:0<n)(h':n<2^30)(q:∀k:Nat,k<n->Q (.int k)):dC [.pen,.int n] E Q:=⟨n,rfl,⟨h,h'⟩,λd ⟨k,hd,hk⟩=>by rw[hd];exact q k hk⟩
end
abbrev ZcH:List Str:=["_law_script", "_law_k"]
def Al:WS:=(aK (cr (wT (w2 eT (wN 1) (wB bL (aD (wN 0) aC)))) (aH (w2 gIx (wN 0) (wN 1))) bI) (aH (wC (D.int (0)))))
abbrev Zfb:List Str:=["_law_seed"]
def Am:WS:=(aK (aW 0 (w2 nX (w2 gAdd (wN 0) (wC (D.int (7919)))) (wC (D.int (2147483647))))) (aH (w2 nX (w2 gAdd (w2 gAdd (w2 gMul (wN 0) (wN 0)) (w2 gMul (wC (D.int (48271))) (wN 0))) (wC (D.int (12345)))) (wC (D.int (2147483629))))))
abbrev ZdF:List Str:=["_law_cell", "_law_left"]
def An:WS:=(aK (aW 1 (wB iA (aD (wN 0) (aD (w2 jH (wC (D.int (0))) (wN 0)) aC)))) (aH (eS (aU (aD (wN 1) (aD (wB fZ (aD (w2 xM (wN 1) (w2 xL (wC (D.int (10))) (wC (D.int (18))))) aC)) (aD (w2 nX (wN 1) (wC (D.int (1000003)))) aC)))))))
abbrev Zfc:List Str:=["_law_pen", "_law_many", "_law_found"]
def Ao:WS:=(aK (cr (wT (w2 (gEq false) (w2 de (wN 0) (wC (D.int (1)))) (wC (D.int (1))))) (aK (aW 2 (w2 nX (w2 de (wN 0) (wC (D.int (0)))) (wN 1))) (aK (d8 0 (w2 iE (w2 de (wN 0) (wC (D.int (0)))) (wN 1))) (aH (wN 2)))) bI) (aK (d8 0 (wF tR (aD (w2 gAdd (wF tR (aD (w2 de (wN 0) (wC (D.int (2)))) aC)) (wC (D.int (7)))) aC))) (aH (w2 nX (w2 iE (w2 de (wN 0) (wC (D.int (2)))) (wC (D.int (64)))) (wN 1)))))
theorem Ei:Rd vE Al ZcH:=by
 rintro _ E Q ⟨⟨xs,i⟩,rfl,_,q⟩;unfold Al;walk_at "go"
 by_cases h:i<xs.length
 .rw[Hh (by simp[h])]
  refine⟨.int (xs.getD i 0),D8 rfl ?_,q⟩;rw[eF,sk,iQ h];rfl
 .rw[if_neg (by simp;omega)]
  rw[sk,eY (by omega)] at q;exact q
theorem Ej:Rd tR Am Zfb:=by
 rintro _ E Q ⟨x,rfl,_,q⟩;unfold Am;walk_at "go";have h1:=Int.fmod_nonneg_of_pos (x+7919) (show(0:Int)<2147483647 by decide);have h2:=Int.fmod_lt_of_pos (x+7919) (show(0:Int)<2147483647 by decide);have b:Bd ((x+7919).fmod 2147483647):=gO (n:=32) (by omega) (by omega);exact⟨by decide,⟨b,b⟩,⟨gO (n:=32) (by decide) (by omega),b⟩,by decide,q _ ⟨_,rfl⟩⟩
theorem Ek:Rd tS An ZdF:=by
 rintro _ E Q ⟨x,rfl,_,q⟩;unfold An;walk_at "go";exact⟨⟨by decide,by decide,by decide⟩,by decide,by decide,⟨_,_,_,rfl⟩,q⟩
theorem El:Rd dC Ao Zfc:=by
 rintro _ E Q ⟨m,rfl,⟨h0,h1⟩,q⟩;have hb:Bd (m:Int):=gO (n:=30) (by omega) (by omega);have fin:∀x:Int,Q (.int (x.fmod m)):=λx=>by
  have h1:=Int.fmod_nonneg_of_pos x (show(0:Int)<m by omega);have h2:=Int.fmod_lt_of_pos x (show(0:Int)<m by omega);exact q _ ⟨(x.fmod m).toNat,by rw[Int.toNat_of_nonneg h1],by omega⟩
 unfold Ao;walk_at "go";refine⟨by simp,λj=>?_⟩;walk_at "go";split
 .refine⟨by simp,λi=>⟨by omega,?_⟩⟩
  walk_at "go";exact⟨by simp,λi'=>⟨⟨by omega,hb⟩,fin i⟩⟩
 .refine⟨by simp,λk=>Ak λk1=>?_⟩
  walk_at "go";refine Ak λk2=>?_;walk_at "go";exact⟨by simp,λk3=>⟨⟨by decide,gO (n:=7) (by decide) (by omega)⟩,by omega,fin _⟩⟩
local macro_rules | `(tactic| walk_at "w1")=>`(tactic| simp only[aH,cr,aW,bI,g0,bT,cO,f6,mK,f8,d7,dP,mL,d8,mM,f7,gx,jB,fX,lh,dL,fg,cm,wT,jc,w1,w2,wB,wF,wL,bJ,cI,ZaP,aB,aU,aD,aC,aLC,ZbM,dB,iS,iL,iT,lj,mH,iZ,i1,i2,isS,isL,vp,isB,isI,gM,eQ,wN,wC,gN,iD,jd,j5,gI2,gAdd,gMul,gIx,de,gCut,gRev,bL,li,jZ,fY,iA,fZ,mI,eS,f9,gb,gc,ge,da,gg,gh,cB,pub,cF,hJ,cD,fG,kx,eG,List.replicate,l3,l4,l5,l6,Nat.reduceSub,Nat.reduceAdd,eX,l8,true_and,cw,if_true,if_false,ite_true,ite_false])
local macro_rules | `(tactic| walk_at "st")=>`(tactic| ((try dsimp only at *);(try walk_at "w1");(try dsimp only)))
theorem eW{N:Nds}(h:z E { N with nx:=z' E N } ρ):aK z z' E N ρ:=h
abbrev LX:List Str:=["NoSlants", "NoRow", "NoNumber", "NoLine", "NotEven", "NotFull"]
abbrev MX:List Str:=["NoSlants", "NoRow", "NoNumber", "NoLine", "NotEven", "NotFull", "NotStrong", "NoText", "TooGreat"]
def n4(n:Str):Str:=if n == "NoSlants" then "slants" else if n == "NoRow" then "row" else if n == "NoNumber" then "number" else if n == "NoLine" then "line" else if n == "NotEven" then "even" else "full"
mutual
def Ap(m:Nat):D->Bool
 |.int i=>decide (i.natAbs<2^m)
 |.tup xs=>pI m xs
 |.lst xs=>pI m xs
 |_=>true
def pI(m:Nat):List D->Bool
 |[]=>true
 |x::r=>Ap m x&&pI m r
end
def vF:bN:=fnS (λn:Str=>[.exc n]) (λn=>n∈LX) λn=>.str (n4 n)
section
variable{x:D}{n:Nat}
theorem Em{n:Str}(h:n∈LX)(q:Q (.str (n4 n))):vF [.exc n] E Q:=⟨n,rfl,h,q⟩
end
abbrev ZbQ:List Str:=["_law_e", "_law_marks"]
def yb:WS:=(aK (aW 1 (wL (aU (aD (wB (gIsX LX MX) (aD (wN 0) (aD (wC (.cls (PySem.Str.ofString "NoSlants"))) aC))) (aD (wB (gIsX LX MX) (aD (wN 0) (aD (wC (.cls (PySem.Str.ofString "NoRow"))) aC))) (aD (wB (gIsX LX MX) (aD (wN 0) (aD (wC (.cls (PySem.Str.ofString "NoNumber"))) aC))) (aD (wB (gIsX LX MX) (aD (wN 0) (aD (wC (.cls (PySem.Str.ofString "NoLine"))) aC))) aC))))))) (aK (aW 1 (w2 gAdd (wN 1) (wL (aU (aD (wB (gIsX LX MX) (aD (wN 0) (aD (wC (.cls (PySem.Str.ofString "NotEven"))) aC))) (aD (wB (gIsX LX MX) (aD (wN 0) (aD (wC (.cls (PySem.Str.ofString "NotFull"))) aC))) (aD (wB (gIsX LX MX) (aD (wN 0) (aD (wC (.cls (PySem.Str.ofString "NotStrong"))) aC))) aC))))))) (aK (aW 1 (w2 gAdd (wN 1) (wL (aU (aD (wB (gIsX LX MX) (aD (wN 0) (aD (wC (.cls (PySem.Str.ofString "NoText"))) aC))) (aD (wB (gIsX LX MX) (aD (wN 0) (aD (wC (.cls (PySem.Str.ofString "TooGreat"))) aC))) aC)))))) (aK (cr (fg (cm (wT (wB (gIsX LX MX) (aD (wN 0) (aD (wC (.ty "ValueError")) aC))))) (wT (w2 (gEq true) (wM xV (wN 1) (aD (wC (D.bl true)) aC)) (wC (D.int (1)))))) (aH (wC (D.str (PySem.Str.ofString "other")))) bI) (aH (w2 gIx (wL (aU (aD (wC (D.str (PySem.Str.ofString "slants"))) (aD (wC (D.str (PySem.Str.ofString "row"))) (aD (wC (D.str (PySem.Str.ofString "number"))) (aD (wC (D.str (PySem.Str.ofString "line"))) (aD (wC (D.str (PySem.Str.ofString "even"))) (aD (wC (D.str (PySem.Str.ofString "full"))) (aD (wC (D.str (PySem.Str.ofString "strong"))) (aD (wC (D.str (PySem.Str.ofString "text"))) (aD (wC (D.str (PySem.Str.ofString "great"))) aC))))))))))) (wM xW (wN 1) (aD (wC (D.bl true)) aC))))))))
theorem IsSl.rev{n:Nat}(h:IsSl s n):IsSl s.reverse n:=⟨by rw[uQ];exact h.len,h.n1,h.n5,λx hx=>h.b x (List.mem_reverse.mp hx)⟩
theorem En{n:Nat}(h:IsSl s n)(h1:1<=k)(h2:k<=n):IsSl (pF s n k) k:=by
 have hl:=h.len;have h5:=h.n5;refine⟨?_,h1,by omega,λx hx=>h.b x (List.mem_of_mem_drop (List.mem_of_mem_take hx))⟩;unfold pF;rw[jV,kv];omega
section
variable{QI:Int->Prop}{QB:Bool->Prop}{i j:Int}{b:Bool}{n:Nat}{o o':Option Int}
theorem pJ:isB QB (.bl b)=QB b:=rfl
theorem pK:isI QI (.int i)=QI i:=rfl
theorem pL:isL QL (.lst xs)=QL xs:=rfl
theorem pM:isL QL (je s)=QL (s.map .int):=rfl
theorem pN:isL QL (lm s n)=QL ((tbl s n).map je):=rfl
theorem pO:vp QL (.tup xs)=QL xs:=rfl
theorem pP:isS QL (.lst xs)=QL xs:=rfl
theorem pQ:isS QL (.tup xs)=QL xs:=rfl
theorem pR:isS QL (jK r)=QL (r.map rC):=rfl
theorem pS:isS QL (aN s)=QL (s.map .int):=rfl
theorem pT:isS QL (je s)=QL (s.map .int):=rfl
theorem pU:isS QL (lm s n)=QL ((tbl s n).map je):=rfl
theorem pV:bL [.tup xs] Q=Q (.int xs.length):=rfl
theorem pW:bL [.lst xs] Q=Q (.int xs.length):=rfl
theorem pX:bL [.scr xs] Q=Q (.int xs.length):=rfl
theorem pY:bL [jK r] Q=Q (.int r.length):=by show Q (.int ((r.map rC).length:Int))=_;rw[bR]
theorem pZ:bL [aN s] Q=Q (.int s.length):=by show Q (.int ((s.map D.int).length:Int))=_;rw[bR]
theorem p6:bL [je s] Q=Q (.int s.length):=by show Q (.int ((s.map D.int).length:Int))=_;rw[bR]
theorem p8:bL [lm s n] Q=Q (.int n):=by show Q (.int (((tbl s n).map je).length:Int))=_;rw[bR,Ec]
theorem p9:gIx (.tup xs) (.int i) Q = ∃d,cG xs i=some d/\Q d:=rfl
theorem qc:gIx (.lst xs) (.int i) Q = ∃d,cG xs i=some d/\Q d:=rfl
theorem qd:gIx (.scr xs) (.int i) Q = ∃d,cG xs i=some d/\Q d:=rfl
theorem qe:gIx (jK r) (.int i) Q = ∃d,cG (r.map rC) i=some d/\Q d:=rfl
theorem qf:gIx (aN s) (.int i) Q = ∃d,cG (s.map .int) i=some d/\Q d:=rfl
theorem qg:gIx (je s) (.int i) Q = ∃d,cG (s.map .int) i=some d/\Q d:=rfl
theorem qh:gIx (lm s n) (.int i) Q = ∃d,cG ((tbl s n).map je) i=some d/\Q d:=rfl
theorem qi:gCut (.tup xs) o o' Q=Q (.tup (bH xs o o')):=rfl
theorem qj:gCut (.lst xs) o o' Q=Q (.lst (bH xs o o')):=rfl
theorem qk:gCut (.scr xs) o o' Q=Q (.lst (bH xs o o')):=rfl
theorem ql:gCut (jK r) o o' Q=Q (.tup (bH (r.map rC) o o')):=rfl
theorem qo:gCut (aN s) o o' Q=Q (.tup (bH (s.map .int) o o')):=rfl
theorem Zd:gCut (je s) o o' Q=Q (.lst (bH (s.map .int) o o')):=rfl
theorem qp:gCut (lm s n) o o' Q=Q (.lst (bH ((tbl s n).map je) o o')):=rfl
theorem qq:gRev (.tup xs) Q=Q (.tup xs.reverse):=rfl
theorem qr:gRev (.lst xs) Q=Q (.lst xs.reverse):=rfl
theorem qs:gRev (jK r) Q=Q (jK r.reverse):=by show Q (.tup (r.map rC).reverse)=_;rw[<-su];rfl
theorem qt:gRev (aN s) Q=Q (aN s.reverse):=by show Q (.tup (s.map D.int).reverse)=_;rw[<-su];rfl
theorem qu:gRev (je s) Q=Q (je s.reverse):=by show Q (.lst (s.map D.int).reverse)=_;rw[<-su];rfl
theorem qv{α:Type}:li (α:=α) [.tup xs] QL=QL xs:=rfl
theorem qw{α:Type}:li (α:=α) [.lst xs] QL=QL xs:=rfl
theorem qx{α:Type}:li (α:=α) [aN s] QL=QL (s.map .int):=rfl
theorem qy:jZ [.tup xs] Q=Q (.tup xs):=rfl
theorem qz:jZ [.lst xs] Q=Q (.tup xs):=rfl
theorem qA:jZ [je s] Q=Q (aN s):=rfl
theorem qB:gAdd (.int i) (.int j) Q=Q (.int (i+j)):=rfl
theorem qC:gAdd (.lst xs) (.lst ys) Q=(xs.length+ys.length<=small/\Q (.lst (xs++ys))):=rfl
theorem qD:gAdd (.tup xs) (.tup ys) Q=(xs.length+ys.length<=small/\Q (.tup (xs++ys))):=rfl
theorem qE:gMul (.int i) (.int j) Q=(xB i j/\Q (.int (i*j))):=rfl
theorem qF:gMul (.lst xs) (.int j) Q=(j<1000/\-1000<j/\xs.length*j.toNat<=small/\Q (.lst (List.replicate j.toNat xs).flatten)):=rfl
theorem iH{C:Int->Int->Prop}{kd:Int->Int->D}:gI2 C kd (.int i) (.int j) Q=(C i j/\Q (kd i j)):=rfl
theorem qG:fY [.int i] Q=Q (.int (if i<0 then -i else i)):=rfl
theorem qH:iA [.int i,.int j] Q=Q (.int (if j>i then j else i)):=rfl
theorem qI:fZ [.bl b] Q=Q (.int (if b then 1 else 0)):=rfl
theorem qJ:fZ [.int i] Q=Q (.int i):=rfl
theorem qK:jG [.lst xs] Q = ∃bs:List Bool,xs=bs.map D.bl/\Q (.bl (bs.all id)):=rfl
theorem iJ:i1 QL [.int j]=(-10000<=j/\j<10000/\QL (rng 0 j.toNat)):=rfl
theorem iK:i2 QL [.int i,.int j]=((-10000<=i/\i<10000/\-10000<=j/\j<10000)/\QL (rng i (j-i).toNat)):=rfl
end
local macro_rules | `(tactic| walk_at "w1")=>`(tactic| simp only [aH,cr,aW,bI,g0,bT,cO,f6,mK,f8,d7,dP,mL,d8,mM,f7,gx,iG,wM,Zcy,jB,fX,lh,dL,fg,cm,wT,jc,w1,w2,wB,wF,wL,bJ,cI,ZaP,aB,aU,aD,aC,aLC,ZbM,dB,iS,iL,iT,lj,mH,iZ,gM,eQ,wN,wC,gN,iD,jd,j5,de,mI,eS,f9,gb,gc,ge,da,gg,gh,cB,pub,cF,hJ,cD,fG,kx,eG,List.replicate,l3,l4,l5,l6,Nat.reduceSub,Nat.reduceAdd,eX,l8,true_and,cw,if_true,if_false,ite_true,ite_false,nb,dA,gC,
 pJ,pK,pL,pM,pN,pO,pP,pQ,pR,pS,pT,pU,pV,pW,pX,pY,pZ,p6,p8,p9,qc,qd,qe,qf,qg,qh,qi,qj,qk,ql,qo,Zd,qp,qq,qr,qs,qt,qu,qv,qw,qx,qy,qz,qA,qB,qC,qD,qE,qF,iH,qG,qH,qI,qJ,qK,iJ,iK])
local macro_rules | `(tactic| walk_at "nx")=>`(tactic| ((try dsimp only);(refine eW ?_);walk_at "st"))
theorem tU:∀n∈LX,jz n=n:=by decide +kernel
theorem mO{n:Str}(h:n∈LX)(hm:m∈MX)(q:Q (.bl (n==m))):gIsX LX MX [.exc n,.cls m] Q:=⟨h,hm,by rw[tU n h];exact q⟩
theorem Eo:∀ds E Q,vF ds E Q->yb No { nx:=λ_=>Q .non,rt:=Q } (cB ZbQ ds):=by
 rintro _ E Q ⟨n,rfl,hn,q⟩;unfold yb;walk_at "nx";refine mO hn (by simp) (mO hn (by simp) (mO hn (by simp) (mO hn (by simp) ⟨by decide,?_⟩)));walk_at "nx";refine mO hn (by simp) (mO hn (by simp) (mO hn (by simp) ⟨by decide,?_⟩));walk_at "st";refine⟨by decide,?_⟩;walk_at "nx";refine mO hn (by simp) (mO hn (by simp) ⟨by decide,?_⟩);walk_at "st";refine⟨by decide,?_⟩;have key:(MX.map (n == ·)).countP (· == true)=1/\∃j:Nat,(MX.map (n == ·))[j]? = some true/\(∀i<j,(MX.map (n == ·))[i]?≠some true)/\[D.str "slants",.str "row",.str "number",.str "line",.str "even",.str "full",.str "strong",.str "text",.str "great"][j]? = some (.str (n4 n)):=by
  simp only[LX,Yam,eZ,or_false] at hn;rcases hn with rfl|rfl|rfl|rfl|rfl|rfl
  .exact⟨by decide +kernel,0,by decide +kernel,by decide +kernel,rfl⟩
  .exact⟨by decide +kernel,1,by decide +kernel,by decide +kernel,rfl⟩
  .exact⟨by decide +kernel,2,by decide +kernel,by decide +kernel,rfl⟩
  .exact⟨by decide +kernel,3,by decide +kernel,by decide +kernel,rfl⟩
  .exact⟨by decide +kernel,4,by decide +kernel,by decide +kernel,rfl⟩
  .exact⟨by decide +kernel,5,by decide +kernel,by decide +kernel,rfl⟩
 obtain⟨k1,j,k2,k3,k4⟩:=key;walk_at "nx";refine⟨hn,rfl,?_⟩;walk_at "st";refine⟨⟨_,rfl⟩,⟨MX.map (n == ·),true,rfl,rfl,?_⟩⟩;rw[k1];walk_at "st";refine⟨by decide,⟨_,rfl⟩,MX.map (n == ·),true,j,rfl,rfl,k2,k3,?_⟩;exact⟨_,aQ k4,q⟩
theorem cq{n:Nat}(h:n<=5000):n<=small:=by unfold small;omega
def gd(d:D):Prop:=kd d=true/\Ap 72 d=true
theorem Ep:bootBuiltins "ValueError" = some (.type "ValueError"):=by decide +kernel
theorem clsX_of{D:Addr}(g:PySem.W.findIn K (.ref D) "__getattribute__" = some (some (.builtin "BaseException.__getattribute__")))(gn:PySem.W.findIn K (.ref D) "__getattr__" = some none)(be:PySem.W.mroIn K D (.type "BaseException")=some true)(h:PySem.W.hasDictIn K D=true)(a:PySem.W.findIn K (.ref D) "__class__" = some (some (.builtin "object.__class__")))(gt:PySem.W.specialIn K (.builtin "object.__class__") "__get__" = some (some (.builtin "getset_descriptor.__get__")))(tk:PySem.W.takesIn K (.builtin "object.__class__")=some true)(ob:PySem.W.mroIn K D (.type "object")=some true):fe K D:=
 ⟨g,gn,be,by obtain⟨cd,hc,_⟩:=PySem.W.any_some h;rw[hc];rfl,a,gt,tk,ob⟩
section
def gNeS:G2:=λx y Q=>∃a b,x=.str a/\y=.str b/\Q (.bl (!(a==b)))
theorem gNeS.mono:∀x y P P',(∀d,P d->P' d)->gNeS x y P->gNeS x y P':=λx y P P' hp ⟨a,b,h1,h2,h3⟩=>⟨a,b,h1,h2,hp _ h3⟩
theorem tV:c8 X (compareOp .NotEq) gNeS:=by
 refine⟨⟨_,sQ,λW H x y dx dy Q ok rx ry hg=>?_⟩,gNeS.mono⟩;obtain⟨a,b,rfl,rfl,q⟩:=hg;cases rx;cases ry;have e:decide (V.str a=V.str b)=(a==b):=by rw[kq];simp
 rw[<-e] at q;exact⟨rfl,q.now ok (.bl _)⟩
end
theorem Er{i:Int}(hk:0<k)(h:i.natAbs<2^k):i.natAbs.log2<k:=by
 by_cases z:i.natAbs=0
 .rw[z];simpa using hk
 .exact(Nat.log2_lt z).mpr h
section
variable{elt:Expr}{g:WG}
def Aq:D->Bool
 |.non=>true
 |.bl _=>true
 |_=>false
def yc:D->D->Bool
 |.non,.non=>true
 |.bl a,.bl b=>a==b
 |_,_=>false
def gIsC(neg:Bool):G2:=λx y Q=>Aq y=true/\Q (.bl (if neg then !yc x y else yc x y))
theorem gIsC.mono:∀x y P P',(∀d,P d->P' d)->gIsC neg x y P->gIsC neg x y P':=λ_ _ _ _ hp h=>⟨h.1,hp _ h.2⟩
theorem Ar{W:Wd}{x y:V}{v u:Value}{dx dy:D}(r1:Rep K W x dx)(r2:Rep K W y dy)(rx:RelV x v)(ry:RelV y u)(h:Aq dy=true):plainIs v u=true/\(v==u)=yc dx dy:=by
  cases r2<;>first
    |(cases h;done)
    | (cases ry;cases r1<;>first
        |(cases rx;first|exact⟨rfl,rfl⟩|(rename_i a b;cases a<;>cases b<;>exact⟨rfl,rfl⟩))
        |(obtain⟨t,rfl⟩:=rx;exact⟨rfl,rfl⟩))
theorem yd:c8 X (compareOp .Is) (gIsC false):=by
 refine⟨⟨λx y H Q=>∃W dx dy,WOk W H/\Rep X.K W x dx/\Rep X.K W y dy/\gIsC false dx dy (RQ X.K W H Q),?_,λW H x y dx dy Q ok rx ry hg=>⟨W,dx,dy,ok,rx,ry,hg⟩⟩,gIsC.mono⟩;rintro pins s σ H x y v u Q I rx ry ⟨W,dx,dy,ok,r1,r2,h1,h2⟩;obtain⟨p,e⟩:=Ar r1 r2 rx ry h1;exact wpAny_is_plain p (aP I (h2.now ok (.bl _)) (by rw[e];rfl))
theorem Es:c8 X (compareOp .IsNot) (gIsC true):=by
 refine⟨⟨λx y H Q=>∃W dx dy,WOk W H/\Rep X.K W x dx/\Rep X.K W y dy/\gIsC true dx dy (RQ X.K W H Q),?_,λW H x y dx dy Q ok rx ry hg=>⟨W,dx,dy,ok,rx,ry,hg⟩⟩,gIsC.mono⟩;rintro pins s σ H x y v u Q I rx ry ⟨W,dx,dy,ok,r1,r2,h1,h2⟩;obtain⟨p,e⟩:=Ar r1 r2 rx ry h1;exact wpAny_isNot_plain p (aP I (h2.now ok (.bl _)) (by rw[e];rfl))
end
mutual
def bx(b:Nat):D->Nat->Bool
 |.non,_=>true
 |.bl _,_=>true
 |.int i,_=>decide (i.natAbs<2^90)
 |.str x,_=>decide (x.cps.size<=4)&&x.cps.toList.all λc=>decide (c<16^8)
 |.dic,_=>true
 |.tup xs,n=>decide (0<n)&&decide (xs.length<=b)&&ye b xs (n-1)
 |.lst xs,n=>decide (0<n)&&decide (xs.length<=b)&&ye b xs (n-1)
 |.pen,_=>false
 |.cls _,_=>false
 |.exc _,_=>false
 |.ty _,_=>false
 |.pl _ _,_=>false
 |.scr _,_=>false
def ye(b:Nat):List D->Nat->Bool
 |[],_=>true
 |x::r,n=>bx b x n&&ye b r n
end
namespace B
def S__law_refused:bN:=fnS (λn:Str=>[.exc n]) (λn=>n∈LX) λn=>.tup [.str (n4 n)]
end B
section
variable{ps:Pos}{a b:Expr}{w:WE}
def tW:Nat->List D->List D
 |_,[]=>[]
 |i,x::xs=>.tup [.int i,x]::tW (i+1) xs
end
def As(f l:List Rat)(i j k:Nat):Rat:=f.getD (i-k) 0*l.getD (f.length-1-j+k) 0
def Et(f l:List Rat)(i j k:Nat):Rat:=l.getD (i-k-1) 0*f.getD (f.length-j+k) 0
def sp(f l:List Rat)(i j:Nat):Nat->Rat
 |0=>0
 |k+1=>if k<min i j then sp f l i j k+As f l i j k-Et f l i j k else sp f l i j k+As f l i j k
section
variable{c:Expr}
def eU(Ss:List (Str×bN))(wc:WE)(t:WA):WE:=λE ρ Q=>wc E ρ λd=>∃x∈Ss,d=.cls x.1/\t E ρ λds=>x.2 ds E Q
def qL(X:Cx)(j:Nat)(x:Str×bN):Prop:=∃a k ps,X.mg x.1=some (.ref a)/\eE X.K x.1=some a/\k<=j/\Fp X.prog X.w X.K X.mg X.base k x.1 ps x.2
theorem At(hr:Room j X.A)(hx:aM (bE X.prog X.w) X EX)(hG:∀x∈Ss,qL X j x)(hc:PX X EX c wc)(ha:ff X EX (e::es) t)
  (hcall:eval (.Call c (e::es) [] pos) X.env=(do callWith pos (<-eval c X.env) [] (backTo pos (starEach (e::es) X.env)) (backToKw pos (keywordEach [] X.env))):=by rfl)
  (he:starEach (e::es) X.env=(false,eval e X.env)::starEach es X.env:=by rfl) (hpl:(backTo pos (starEach es X.env)).any (·.1)=false:=by rfl) :
  PX X EX (.Call c (e::es) [] pos) (eU Ss wc t):=by
 obtain⟨tc,pc,kc⟩:=hc.t;obtain⟨ta,pa,ka⟩:=ha.t;refine⟨⟨_,CZ hx pc pa hcall he hpl,λW0 H0 W σ H ρ E Q s eo h=>?_⟩,λE ρ P P' hp z=>hc.mono _ _ _ _ (λd ⟨x,hm,ed,q⟩=>⟨x,hm,ed,ha.mono _ _ _ _ (λds hds=>?_) q⟩) z⟩
 .refine kc W0 H0 W σ H ρ E _ s eo (hc.mono _ _ _ _ (λd ⟨x,hm,ed,q⟩ v W1 H1 x1 r1=>?_) h)
  subst ed;obtain⟨a,k,ps,hma,hca,hk,⟨f,fd,F,hmf,kp,hb⟩,mono⟩:=hG x hm;cases r1 with
  |cls ec=>
   rw[hca] at ec;cases ec;rw[hma] at hmf;cases hmf;refine⟨_,k,fd,ps,_,rfl,F,hr.mono hk,kp,hb,ka W0 H0 W1 σ H1 ρ E _ (s.step x1) eo (ha.mono _ _ _ _ (λds hds vs W2 H2 x2 r2=>?_) q)⟩;refine⟨ds,W2,x2.ok,r2,mono _ _ _ _ _ (λex hex W' H' cls dx x' r'=>?_) (λd hd=>RQ.ext hd (x1.trans x2)) hds⟩;exact eo ex W' H' cls dx hex (s.ext.trans ((x1.trans x2).trans x')) r'
 .obtain⟨a,k,ps,_,_,_,G⟩:=hG x hm
  exact G.mono _ _ _ _ _ (λ_ q=>q) hp hds
end
theorem Au:∀x∈([]:List (Str×bN)),qL X j x:=λ_ h=>nomatch h
theorem Eu{a:Str×bN}{l:List (Str×bN)}(h:qL X j a)(t:∀x∈l,qL X j x):∀x∈a::l,qL X j x:=λx hx=>(Yam.mp hx).elim (λe=>e▸h) (t x)
section
def gEqS:G2:=λx y Q=>∃a b,x=.str a/\y=.str b/\Q (.bl (a==b))
theorem gEqS.mono:∀x y P P',(∀d,P d->P' d)->gEqS x y P->gEqS x y P':=λx y P P' hp ⟨a,b,h1,h2,h3⟩=>⟨a,b,h1,h2,hp _ h3⟩
theorem Av:c8 X (compareOp .Eq) gEqS:=by
 refine⟨⟨_,sP,λW H x y dx dy Q ok rx ry hg=>?_⟩,gEqS.mono⟩;obtain⟨a,b,rfl,rfl,q⟩:=hg;cases rx;cases ry;have e:decide (V.str a=V.str b)=(a==b):=by rw[kq];simp
 rw[<-e] at q;exact⟨rfl,q.now ok (.bl _)⟩
end
def bB(K:Hg)(mg:Str->Option Value)(x:Str)(st:Stmt):Prop:=∃f fd,Fun K x x st f fd/\mg x=some (.ref f)/\eE K x=some f
def CC(K:Hg)(mg:Str->Option Value)(x:Str):Prop:=∃a,mg x=some (.ref a)/\eE K x=some a
def CI(mg:Str->Option Value)(x:Str)(i:Int):Prop:=∃t,mg x=some (.int i t)
def CT(K:Hg)(mg:Str->Option Value)(x:Str)(ds:List D):Prop:=∃a vs,mg x=some (.ref a)/\KT K a vs/\∀W,Reps K W vs ds
section
theorem mkF(X:K.In h)(G:h.Ns mainGlobals mg){st:Stmt}{f:Addr}{kV:Value}(a:PySem.W.nsIn K mainGlobals x=some (some (.ref f)))(l:K.lookup f=some ⟨oc,od,.func (PySem.W.fnOf x x (aR st) (aI st) (aA st) .none kV doc pm an cdv ct),osl⟩)
  (c:PySem.W.codeIn K cdv x=true) (k:PySem.W.keepIn K (.ref f)=true):bB K mg x st:=⟨f,_,fW l c k,PySem.W.mg_of X G a,lN a⟩
theorem mkC(X:K.In h)(G:h.Ns mainGlobals mg){f:Addr}(a:PySem.W.nsIn K mainGlobals x=some (some (.ref f))):CC K mg x:=⟨f,PySem.W.mg_of X G a,lN a⟩
theorem mkI(X:K.In h)(G:h.Ns mainGlobals mg){i:Int}{t:Tok}(a:PySem.W.nsIn K mainGlobals x=some (some (.int i t))):CI mg x i:=⟨t,PySem.W.mg_of X G a⟩
theorem mkT(X:K.In h)(G:h.Ns mainGlobals mg){f:Addr}{d:Option Addr}{n:Nat}{i j:Int}{t u:Tok}(a:PySem.W.nsIn K mainGlobals x=some (some (.ref f)))(l:K.lookup f=some ⟨.type "tuple",d,.seq #[.int i t,.int j u] n,sl⟩):CT K mg x [.int i,.int j]:=
 ⟨f,[.int i,.int j],PySem.W.mg_of X G a,⟨_,_,_,l,rfl,rfl,(by show 2<=sizeLine;decide),.cons ⟨_,rfl⟩ (.cons ⟨_,rfl⟩ .nil)⟩,λ_=>.cons (.int _) (.cons (.int _) .nil)⟩
theorem mkX(X:K.In h)(G:h.Ns mainGlobals mg){f:Addr}(a:PySem.W.nsIn K mainGlobals x=some (some (.ref f)))(e:PySem.W.excIn K f [.type "ValueError",.type "Exception",.type "BaseException",.type "object"] "ValueError.__new__" = true):XC K mg x:=
 ⟨f,_,_,_,lN a,PySem.W.mg_of X G a,e,PySem.F.excBase_ValueError⟩
theorem mkH(X:K.In h)(G:h.Ns mainGlobals mg){f:Addr}(a:PySem.W.nsIn K mainGlobals x=some (some (.ref f)))(e:PySem.W.excIn K f [.type "ValueError",.type "Exception",.type "BaseException",.type "object"] "ValueError.__new__" = true)
  (m:∀n∈L,∃D,PySem.W.nsIn K mainGlobals (jz n)=some (some (.ref D))/\PySem.W.mroIn K D (.ref f)=some true):XT K mg x L:=
 ⟨f,_,_,PySem.W.mg_of X G a,e,by decide +kernel,λn hn D hD=>by
  obtain⟨D',e1,e2⟩:=m n hn;rw[lN e1] at hD;cases hD;exact e2⟩
end
section
variable{w:World}{base:Heap}{st:Stmt}
universe u
theorem rE{α:Sort u}{F G:List Value->α}(h:∀a,F [a]=G [a]):∀us:List Value,us.length=1->F us=G us
 |[_],_=>h _
theorem rF{α:Sort u}{F G:List Value->α}(h:∀a b,F [a,b]=G [a,b]):∀us:List Value,us.length=2->F us=G us
 |[_,_],_=>h _ _
theorem rG{α:Sort u}{F G:List Value->α}(h:∀a b c,F [a,b,c]=G [a,b,c]):∀us:List Value,us.length=3->F us=G us
 |[_,_,_],_=>h _ _ _
theorem rH{α:Sort u}{F G:List Value->α}(h:∀a b c d,F [a,b,c,d]=G [a,b,c,d]):∀us:List Value,us.length=4->F us=G us
 |[_,_,_,_],_=>h _ _ _ _
theorem Ev(h:bB K mg x st)
  (hbody:∀ (sc:N.Nodup) (f:Addr) (cdv:Value) (A:Around) (outer:List Env) (s:Shared) (H:Hp) (E:XK),Room k (A.deeper (envOfC x (aA st) s.heap.objs.size f cdv))->
   aM (bE P w) (bA (bE P w) P w K mg base N x (aA st) f cdv A outer s H E) E->dJ (bA (bE P w) P w K mg base N x (aA st) f cdv A outer s H E) E->
   ix (bA (bE P w) P w K mg base N x (aA st) f cdv A outer s H E) E (aI st) z)
  (rd:Rd S z N)
  (sc:aT N ps (aA st):=by exact⟨rfl,rfl,rfl,by decide +kernel,rfl,by decide +kernel,by decide +kernel⟩)
  (len:∀ds E Q,S ds E Q->ds.length=ps.length:=by first|exact fnS.len λ_=>rfl|exact xS.len λ_=>rfl|exact rlS.len λ_=>rfl)
  (hb:∀ (kV doc pm:Value) (an:Option Addr) (cdv ct:Value) (us:List Value),us.length=ps.length->bindArgs (PySem.W.fnOf x x (aR st) (aI st) (aA st) .none kV doc pm an cdv ct) ⟨us,[]⟩=pure (ps.zip us):=by
   intro _ _ _ _ _ _;(first|refine rE ?_|refine rF ?_|refine rG ?_|refine rH ?_);intros;rfl)
  (mono:jY S:=by first|exact fnS.mono|exact rlS.mono|exact xS.mono):Fp P w K mg base (k+1) x ps S:=by
 obtain⟨f,fd,F,m,q⟩:=h;exact Fp.of (tK (z:=z) F sc len (λcdv A outer s H E hr hx hw=>hbody sc.nd f cdv A outer s H E hr hx hw) rd) mono m F.kp (F.binds hb)
theorem d0(rd:Rd S z N)(h:bB K mg x st)
  (hbody:∀ {f:Addr} {cdv:Value} {A:Around} {outer:List Env} {s:Shared} {H:Hp} {E:XK} (sc:N.Nodup),Room k (A.deeper (envOfC x (aA st) s.heap.objs.size f cdv))->
   aM (bE P w) (bA (bE P w) P w K mg base N x (aA st) f cdv A outer s H E) E->dJ (bA (bE P w) P w K mg base N x (aA st) f cdv A outer s H E) E->
   ix (bA (bE P w) P w K mg base N x (aA st) f cdv A outer s H E) E (aI st) z)
  (sc:aT N ps (aA st):=by exact⟨rfl,rfl,rfl,by decide +kernel,rfl,by decide +kernel,by decide +kernel⟩)
  (len:∀ds E Q,S ds E Q->ds.length=ps.length:=by first|exact fnS.len λ_=>rfl|exact xS.len λ_=>rfl|exact rlS.len λ_=>rfl)
  (hb:∀ (kV doc pm:Value) (an:Option Addr) (cdv ct:Value) (us:List Value),us.length=ps.length->bindArgs (PySem.W.fnOf x x (aR st) (aI st) (aA st) .none kV doc pm an cdv ct) ⟨us,[]⟩=pure (ps.zip us):=by
   intro _ _ _ _ _ _;(first|refine rE ?_|refine rF ?_|refine rG ?_|refine rH ?_);intros;rfl)
  (mono:jY S:=by first|exact fnS.mono|exact rlS.mono|exact xS.mono):Fp P w K mg base (k+1) x ps S:=by
 obtain⟨f,fd,F,m,q⟩:=h;exact Fp.of (tK (z:=z) F sc len (λcdv A outer s H E hr hx hw=>hbody sc.nd hr hx hw) rd) mono m F.kp (F.binds hb)
theorem tX(h:bB K mg x st)
  (hbody:∀ (sc:N.Nodup) (f:Addr) (cdv:Value) (A:Around) (outer:List Env) (s:Shared) (H:Hp),RoomU k (A.deeper (envOfC x (aA st) s.heap.objs.size f cdv))->
   ix (pp P w K mg base N x (aA st) f cdv A outer s H) E0 (aI st) z)
  (rd:∀ds E Q,S ds E Q->z No { nx:=λ_=>Q .non,rt:=Q } (cB N ds))
  (sc:aT N ps (aA st):=by exact⟨rfl,rfl,rfl,by decide +kernel,rfl,by decide +kernel,by decide +kernel⟩)
  (len:∀ds E Q,S ds E Q->ds.length=ps.length:=by first|exact fnS.len λ_=>rfl|exact xS.len λ_=>rfl|exact rlS.len λ_=>rfl)
  (hb:∀ (kV doc pm:Value) (an:Option Addr) (cdv ct:Value) (us:List Value),us.length=ps.length->bindArgs (PySem.W.fnOf x x (aR st) (aI st) (aA st) .none kV doc pm an cdv ct) ⟨us,[]⟩=pure (ps.zip us):=by
   intro _ _ _ _ _ _;(first|refine rE ?_|refine rF ?_|refine rG ?_|refine rH ?_);intros;rfl)
  (mono:jY S:=by first|exact fnS.mono|exact rlS.mono|exact xS.mono):vC P w K mg base (k+1) x ps S:=by
 obtain⟨f,fd,F,m,q⟩:=h;exact⟨⟨f,fd,xT (z:=z) F sc len (λcdv A outer s H hr=>hbody sc.nd f cdv A outer s H hr) rd,m,F.kp,F.binds hb⟩,mono⟩
end
section
variable{l:List (Str×bN)}
theorem mP(h:CC X.K X.mg x)(hg:Gl X x:=by rfl)(hd:(x==("__debug__" : Str))=false:=by decide):PX X EX (.Name x pos) (wC (.cls x)):=let⟨_,m,q⟩:=h;DZ m q hg hd
theorem qM{i:Int}(h:CI X.mg x i)(hg:Gl X x:=by rfl)(hd:(x==("__debug__" : Str))=false:=by decide):PX X EX (.Name x pos) (wC (.int i)):=let⟨_,m⟩:=h;DO m hg hd
theorem n6{st:Stmt}(h:bB X.K X.mg x st)(G:Fp X.prog X.w X.K X.mg X.base k x ps S)(t:∀y∈l,qL X j y)(hk:k<=j:=by decide):∀y∈(x,S)::l,qL X j y:=let⟨_,_,_,m,q⟩:=h;Eu ⟨_,_,_,m,q,hk,G⟩ t
end
section
variable{n:Str}{D C f:Addr}
theorem exD(a:PySem.W.nsIn K mainGlobals n=some (some (.ref D)))(b:PySem.W.mroIn K D (.ref f)=some true):∃D,PySem.W.nsIn K mainGlobals n=some (some (.ref D))/\PySem.W.mroIn K D (.ref f)=some true:=⟨D,a,b⟩
theorem exX(a:PySem.W.nsIn K mainGlobals n=some (some (.ref D)))(c:fe K D)(k:PySem.W.kitOne K (.ref D) (.type "ValueError")=some true)(h:∀m∈M,∃C,eE K m=some C/\PySem.W.kitOne K (.ref D) (.ref C)=some (n==m)) :
  ∃D,eE K n=some D/\fe K D/\PySem.W.kitOne K (.ref D) (.type "ValueError")=some true/\∀m∈M,∃C,eE K m=some C/\PySem.W.kitOne K (.ref D) (.ref C)=some (n==m):=⟨D,lN a,c,k,h⟩
theorem exC(a:PySem.W.nsIn K mainGlobals m=some (some (.ref C)))(b:PySem.W.kitOne K (.ref D) (.ref C)=some (n==m)):∃C,eE K m=some C/\PySem.W.kitOne K (.ref D) (.ref C)=some (n==m):=⟨C,lN a,b⟩
end
def ZaK(Q:Str->Prop):D->Prop
 |.str x=>Q x
 |_=>False
theorem jf{Q:Str->Prop}(h:ZaK Q d):∃b,d=.str b/\Q b:=by
 cases d with
 |str b=>exact⟨b,rfl,h⟩
 |_=>exact h.elim
theorem ZaK.mono{Q Q':Str->Prop}(h:∀b,Q b->Q' b)(d:D)(z:ZaK Q d):ZaK Q' d:=by
 obtain⟨b,rfl,q⟩:=jf z;exact h b q
structure yf(X:Cx)(id:String)(g:Str->List D->(D->Prop)->Prop):Prop where
 t:∃r,nG X id r/\∀W H x vs ds Q,WOk W H->Reps X.K W vs ds->g x ds (RQ X.K W H Q)->r (.str x) vs H Q
 mono:∀x ds P P',(∀d,P d->P' d)->g x ds P->g x ds P'
def wS(g:Str->List D->(D->Prop)->Prop)(wo:WE)(t:WA):WE:=λE ρ Q=>wo E ρ (ZaK λx=>t E ρ λds=>g x ds Q)
def gP(wo:WE)(t:WA):WA:=λE ρ Q=>wo E ρ (ZaK λx=>t E ρ λds=>∃y,ds=[.str y]/\(y.length==0)=false/\x.length<=small/\(Txt.split x y).length<=small/\Q ((Txt.split x y).map .str))
section
variable{o a b:Expr}{id:String}{g:Str->List D->(D->Prop)->Prop}
theorem qN(slot:Slot "str" name id)(hty:typeOf (.builtin id)=pure (.type "method_descriptor"))(hm:yf X id g)(ho:PX X EX o wo)(ha:ff X EX (e::es) t)
  (hbase:attributeBase o name X.env (eval o X.env)=eval o X.env:=by rfl)
  (hfew:((backTo cpos (starEach (e::es) X.env)).all (λx=>!x.1) && (backToKw cpos (keywordEach [] X.env)).all (λx=>x.1.isSome)
   && decide ((e::es).length+([]:List Keyword).length+(if([]:List Keyword).isEmpty then 0 else 1)<30))=true:=by rfl)
  (hline:(apos.endLine==cpos.line)=true:=by rfl) (hs:starEach (e::es) X.env=(false,eval e X.env)::starEach es X.env:=by rfl) (hplain:(backTo cpos (starEach es X.env)).any (·.1)=false:=by rfl) :
  PX X EX (.Call (.Attribute o name apos) (e::es) [] cpos) (wS g wo t):=by
 obtain⟨to,po,ko⟩:=ho.t;obtain⟨ta,pa,ka⟩:=ha.t;obtain⟨r,pr,kr⟩:=hm.t;refine⟨⟨_,gL PySem.F.plainAttrs_str slot hty pr po pa hbase hfew hline hs hplain,λW0 H0 W σ H ρ E Q s eo h=>?_⟩,λE ρ P P' hp z=>ho.mono _ _ _ _ (ZaK.mono λx h2=>ha.mono _ _ _ _ (λds hds=>hm.mono _ _ _ _ hp hds) h2) z⟩;refine ko W0 H0 W σ H ρ E _ s eo (ho.mono _ _ _ _ (λd hd v W1 H1 x1 r1=>?_) h);obtain⟨x,rfl,h2⟩:=jf hd;cases r1;refine⟨rfl,ka W0 H0 W1 σ H1 ρ E _ (s.step x1) eo (ha.mono _ _ _ _ (λds hds us W2 H2 x2 r2=>?_) h2)⟩;exact kr W2 H2 _ us ds Q x2.ok r2 (hm.mono _ _ _ _ (λd hd=>RQ.ext hd (x1.trans x2)) hds)
theorem yg{K:Hg}{W:Wd}:∀l:List Str,Reps K W (l.map V.str) (l.map D.str)
 |[]=>.nil
 |x::l=>.cons (.str x) (yg l)
theorem Aw{K:Hg}{W:Wd}:∀{l:List Str} {vs:List V},Reps K W vs (l.map D.str)->vs=l.map V.str
 |[],_,.nil=>rfl
 |x::l,_,.cons r t=>by cases r;rw[Aw t];rfl
theorem Ew(ho:PX X EX o wo)(ha:ff X EX (e::es) t)
  (hbase:attributeBase o "split" X.env (eval o X.env)=eval o X.env:=by rfl)
  (hfew:((backTo cpos (starEach (e::es) X.env)).all (λx=>!x.1) && (backToKw cpos (keywordEach [] X.env)).all (λx=>x.1.isSome)
   && decide ((e::es).length+([]:List Keyword).length+(if([]:List Keyword).isEmpty then 0 else 1)<30))=true:=by rfl)
  (hline:(apos.endLine==cpos.line)=true:=by rfl) (hs:starEach (e::es) X.env=(false,eval e X.env)::starEach es X.env:=by rfl) (hplain:(backTo cpos (starEach es X.env)).any (·.1)=false:=by rfl) :
  PXL X EX (.Call (.Attribute o "split" apos) (e::es) [] cpos) (gP wo t):=by
 obtain⟨to,po,ko⟩:=ho.t;obtain⟨ta,pa,ka⟩:=ha.t;refine⟨⟨_,gL PySem.F.plainAttrs_str PySem.F.slot_str_split PySem.F.type_str_split C1 po pa hbase hfew hline hs hplain,λW0 H0 W σ H ρ E Q s eo h=>?_⟩,λE ρ P P' hp z=>ho.mono _ _ _ _ (ZaK.mono λx h2=>ha.mono _ _ _ _ (λds ⟨y,e1,e2,e3,e4,q⟩=>⟨y,e1,e2,e3,e4,hp _ q⟩) h2) z⟩;refine ko W0 H0 W σ H ρ E _ s eo (ho.mono _ _ _ _ (λd hd v W1 H1 x1 r1=>?_) h);obtain⟨x,rfl,h2⟩:=jf hd;cases r1;refine⟨rfl,ka W0 H0 W1 σ H1 ρ E _ (s.step x1) eo (ha.mono _ _ _ _ (λds hds us W2 H2 x2 r2=>?_) h2)⟩;obtain⟨y,rfl,e1,e2,e3,q⟩:=hds;obtain⟨v,rfl,rv⟩:=r2.one;cases rv;have hsl:small+2<=sizeLine:=by rw[sizeLine_eq];decide
 refine⟨x,y,rfl,rfl,e1,by omega,fD e3,λp hp=>?_⟩;exact q p _ W2 _ ((x1.trans x2).trans (.new x2.ok hp)) aG (x2.ok.fresh hp).1 (x2.ok.fresh hp).2 ((x1.trans x2).isN hp) (yg _)
def Ax:Str->List D->(D->Prop)->Prop:=λx ds Q=>∃y,ds=[.str y]/\x.length<=small/\Q (.str (Txt.removeprefix x y))
theorem Ey:yf X "str.removeprefix" Ax:=by
 refine⟨⟨_,C2,λW H x vs ds Q ok r ⟨y,e,hl,q⟩=>?_⟩,λx ds P P' hp ⟨y,e,hl,q⟩=>⟨y,e,hl,hp _ q⟩⟩;subst e;obtain⟨v,rfl,rv⟩:=r.one;cases rv;exact⟨x,y,rfl,rfl,fD hl,q.now ok (.str _)⟩
def Zc:Str->List D->(D->Prop)->Prop:=λx ds Q=>∃ys:List Str,ds=[.lst (ys.map .str)]/\x.length<=16/\(ys.map (·.length)).sum+ys.length<=1048576/\Q (.str (Txt.join x ys))
theorem rJ:yf X "str.join" Zc:=by
 refine⟨⟨_,C3,λW H x vs ds Q ok r ⟨ys,e,hl,hs,q⟩=>?_⟩,λx ds P P' hp ⟨y,e,hl,hs,q⟩=>⟨y,e,hl,hs,hp _ q⟩⟩;subst e;obtain⟨v,rfl,rv⟩:=r.one;obtain⟨p,us,rfl,h1,rr⟩:=rv.sql ok;rw[Aw rr] at h1;exact⟨x,p,ys,rfl,rfl,h1,hl,hs,q.now ok (.str _)⟩
def tY:G2:=λx y Q=>ZaK (λz=>isI (λi=>z.length<=small/\∃c,cG z.cps.toList i=some c/\Q (.str ⟨#[c]⟩)) y) x
theorem tZ:vh X tY:=by
 refine⟨⟨_,kY,λW H x y dx dy Q ok rx ry hg=>?_⟩,λx y P P' hp hg=>ZaK.mono (λz h=>isI.mono (λi ⟨hl,c,h1,h2⟩=>⟨hl,c,h1,hp _ h2⟩) _ h) _ hg⟩;obtain⟨z,rfl,h⟩:=jf hg;obtain⟨i,rfl,hl,c,h1,q⟩:=nS h;cases rx;cases ry;exact⟨z,i,c,rfl,rfl,fD hl,h1,q.now ok (.str _)⟩
def t0:G2:=λx y Q=>ZaK (λa=>ZaK (λb=>Q (.bl (!(Builtin.Str.occurrences b a 0 b.length 1).isEmpty))) y) x
theorem t3:c8 X (compareOp .In) t0:=by
 refine⟨⟨_,jp,λW H x y dx dy Q ok rx ry hg=>?_⟩,λx y P P' hp hg=>ZaK.mono (λz h=>ZaK.mono (λi q=>hp _ q) _ h) _ hg⟩;obtain⟨z,rfl,h⟩:=jf hg;obtain⟨i,rfl,q⟩:=jf h;cases rx;cases ry;exact⟨z,i,rfl,rfl,q.now ok (.bl _)⟩
def iM:G2:=λx y Q=>ZaK (λa=>ZaK (λb=>a.length+b.length<=small/\Q (.str (a++b))) y) x
theorem jM:c8 X (binaryOp .Add) iM:=by
 refine⟨⟨_,ic,λW H x y dx dy Q ok rx ry hg=>?_⟩,λx y P P' hp hg=>ZaK.mono (λz h=>ZaK.mono (λi q=>⟨q.1,hp _ q.2⟩) _ h) _ hg⟩;obtain⟨z,rfl,h⟩:=jf hg;obtain⟨i,rfl,hl,q⟩:=jf h;cases rx;cases ry;exact⟨z,i,rfl,rfl,fD hl,q.now ok (.str _)⟩
def yh:List D->(D->Prop)->Prop:=λds Q=>∃x:Str,ds=[.str x]/\x.length<=small/\Q (.int x.length)
theorem Ay:cl X (.builtin "len") yh:=by
 refine⟨⟨_,fT,λW H vs ds Q ok r ⟨x,e,hl,q⟩=>?_⟩,λds P P' hp ⟨x,e,hl,q⟩=>⟨x,e,hl,hp _ q⟩⟩;subst e;obtain⟨v,rfl,rv⟩:=r.one;cases rv;exact⟨x,rfl,fD hl,q.now ok (.int _)⟩
def rK:List D->(D->Prop)->Prop:=λds Q=>∃x n,ds=[.str x]/\PySem.intText? x=some n/\x.length<=640/\Q (.int n)
theorem Az:cl X (.type "int") rK:=by
 refine⟨⟨_,C4,λW H vs ds Q ok r ⟨x,n,e,h1,hl,q⟩=>?_⟩,λds P P' hp ⟨x,n,e,h1,hl,q⟩=>⟨x,n,e,h1,hl,hp _ q⟩⟩;subst e;obtain⟨v,rfl,rv⟩:=r.one;cases rv;exact⟨x,n,rfl,h1,hl,q.now ok (.int _)⟩
def g5:List D->(D->Prop)->Prop:=λds Q=>∃i:Int,ds=[.int i]/\i.natAbs.log2<1920/\Q (.str (toString i))
theorem j7:cl X (.type "str") g5:=by
 refine⟨⟨_,fP,λW H vs ds Q ok r ⟨x,e,hl,q⟩=>?_⟩,λds P P' hp ⟨x,e,hl,q⟩=>⟨x,e,hl,hp _ q⟩⟩;subst e;obtain⟨v,rfl,rv⟩:=r.one;cases rv;exact⟨x,rfl,hl,q.now ok (.str _)⟩
theorem j8:bootBuiltins "str" = some (.type "str"):=by decide +kernel
def CS(mg:Str->Option Value)(x y:Str):Prop:=∃t,mg x=some (.str y t)
theorem mkS(X:K.In h)(G:h.Ns mainGlobals mg){t:Tok}(a:PySem.W.nsIn K mainGlobals x=some (some (.str y t))):CS mg x y:=⟨t,PySem.W.mg_of X G a⟩
theorem Ez(h:CS X.mg x y)(hg:Gl X x:=by rfl)(hd:(x==("__debug__" : Str))=false:=by decide):PX X EX (.Name x pos) (wC (.str y)):=let⟨t,m⟩:=h;xv (v:=.str y) m ⟨t,rfl⟩ (λ_=>.str y) hg hd
def jg(x:Str):List D:=x.cps.toList.map λc=>.str ⟨#[c]⟩
def iC(w:WE):WA:=λE ρ Q=>w E ρ (ZaK λx=>x.cps.all (· < 128)=true/\Q (jg x))
theorem EA(he:PX X EX e wo):pB X EX tg e (iC wo):=by
 obtain⟨t,q,k⟩:=he.t;refine⟨⟨_,C6 q,λW0 H0 W σ H ρ E R s eo h=>?_⟩,λE ρ P P' hp h=>he.mono _ _ _ _ (ZaK.mono λx h=>⟨h.1,hp _ h.2⟩) h⟩;refine k W0 H0 W σ H ρ E _ s eo (he.mono _ _ _ _ (λd hd v W1 H1 x1 r1=>?_) h);obtain⟨x,rfl,ha,hq⟩:=jf hd;cases r1;refine⟨x,rfl,ha,hq W1 H1 _ x1 λW2 H2 i g2 p2 ok2=>⟨λd hd=>?_,λhi=>?_⟩⟩
 .unfold jg at hd
  rw[eF] at hd;have e1:x.cps.toList[i]? = x.cps[i]?:=by simp
  rw[e1] at hd;cases ec:x.cps[i]? with
  |none=>rw[ec] at hd;cases hd
  |some c=>
   rw[ec] at hd;cases hd;refine⟨(Ybn.mp ec).1,λv H3 hy=>?_⟩;obtain⟨rfl,c',e2,rfl⟩:=hy;rw[ec] at e2;cases e2;exact⟨W2,.refl ok2,.str _⟩
 .show x.cps.size<=i
  unfold jg at hi;simpa using hi
def gj(w:WE):WE:=λE ρ Q=>w E ρ (isI λi=>i.natAbs.log2<1920/\Q (.str (toString i)))
theorem AA(ha:PX X EX a wa):PX X EX (.FormattedValue a (-1) none pos) (gj wa):=by
 obtain⟨t,q,k⟩:=ha.t;refine⟨⟨_,C7 q,λW0 H0 W σ H ρ E Q s eo h=>?_⟩,λE ρ P P' hp h=>ha.mono _ _ _ _ (isI.mono λx h=>⟨h.1,hp _ h.2⟩) h⟩;refine k W0 H0 W σ H ρ E _ s eo (ha.mono _ _ _ _ (λd hd v W1 H1 x1 r1=>?_) h);obtain⟨x,rfl,hl,hq⟩:=nS hd;cases r1;exact⟨x,rfl,hl,(RQ.ext hq x1).now x1.ok (.str _)⟩
def mQ(wa wb:WE):WE:=λE ρ Q=>wa E ρ (ZaK λx=>x.length<=small/\wb E ρ (ZaK λy=>x.length+y.length<=small/\Q (.str (x++y))))
theorem AB(ha:PX X EX a wa)(hb:PX X EX b wb):PX X EX (.JoinedStr [a,b] pos) (mQ wa wb):=by
 obtain⟨ta,qa,ka⟩:=ha.t;obtain⟨tb,qb,kb⟩:=hb.t;refine⟨⟨_,C8 qa qb,λW0 H0 W σ H ρ E Q s eo h=>?_⟩,λE ρ P P' hp h=>ha.mono _ _ _ _ (ZaK.mono λx h=>⟨h.1,hb.mono _ _ _ _ (ZaK.mono λy h=>⟨h.1,hp _ h.2⟩) h.2⟩) h⟩;refine ka W0 H0 W σ H ρ E _ s eo (ha.mono _ _ _ _ (λd hd v W1 H1 x1 r1=>?_) h);obtain⟨x,rfl,hl,hq⟩:=jf hd;cases r1;refine⟨x,rfl,fD hl,kb W0 H0 W1 σ H1 ρ E _ (s.step x1) eo (hb.mono _ _ _ _ (λd hd v W2 H2 x2 r2=>?_) hq)⟩;obtain⟨y,rfl,hl2,hq2⟩:=jf hd;cases r2;exact⟨y,rfl,fD hl2,(RQ.ext hq2 (x1.trans x2)).now x2.ok (.str _)⟩
end
section
variable{o a b c:Expr}{id:String}
def n8(wa:WE)(wl wh:(Ex->Prop)->bV->(Option Int->Prop)->Prop):WE:=λE ρ Q=>wa E ρ λx=>wl E ρ λl=>wh E ρ λh=>ZaK (λz=>z.length<=small/\Q (.str (cH z l h))) x
theorem AC{wl wh}(ha:PX X EX a wa)(hl:rp X EX lo wl)(hh:rp X EX hi wh):PX X EX (.Subscript a (.Slice lo hi none p2) pos) (n8 wa wl wh):=by
 obtain⟨ta,pa,ka⟩:=ha.t;obtain⟨tl,pl,kl⟩:=hl.t;obtain⟨th,ph,kh⟩:=hh.t;refine⟨⟨_,gI Dd pa pl ph,λW0 H0 W σ H ρ E Q s eo h=>?_⟩,λE ρ P P' hp h=>ha.mono _ _ _ _ (λx hx=>hl.mono _ _ _ _ (λl hl'=>hh.mono _ _ _ _ (λu hu=>ZaK.mono (λz hz=>⟨hz.1,hp _ hz.2⟩) _ hu) hl') hx) h⟩;refine ka W0 H0 W σ H ρ E _ s eo (ha.mono _ _ _ _ (λdx hx v W1 H1 x1 r1=>?_) h);refine kl W0 H0 W1 σ H1 ρ E _ (s.step x1) eo (hl.mono _ _ _ _ (λl hl' W2 H2 x2=>?_) hx);refine kh W0 H0 W2 σ H2 ρ E _ ((s.step x1).step x2) eo (hh.mono _ _ _ _ (λu hu W3 H3 x3=>?_) hl');obtain⟨z,rfl,h1,h2⟩:=jf hu;cases r1;exact⟨z,rfl,fD h1,(RQ.ext h2 (x1.trans (x2.trans x3))).now x3.ok (.str _)⟩
def mR(x:Str)(n:Nat):Str:=⟨(List.replicate n x.cps).foldl (·++·) #[]⟩
def AD:G2:=λx y Q=>ZaK (λa=>isI (λn=>1<n/\n<=64/\1<=a.length/\a.length<=10000/\Q (.str (mR a n.toNat))) y) x
theorem EB:c8 X (binaryOp .Mult) AD:=by
 refine⟨⟨_,De,λW H x y dx dy Q ok rx ry hg=>?_⟩,λx y P P' hp hg=>ZaK.mono (λz h=>isI.mono (λi ⟨h1,h2,h3,h4,q⟩=>⟨h1,h2,h3,h4,hp _ q⟩) _ h) _ hg⟩;obtain⟨z,rfl,h⟩:=jf hg;obtain⟨i,rfl,h1,h2,h3,h4,q⟩:=nS h;cases rx;cases ry;exact⟨z,i,rfl,rfl,h1,h2,h3,h4,q.now ok (.str _)⟩
def qO(S:bN):WE:=λE ρ Q=>S [] E Q
theorem EC(G:Fp X.prog X.w X.K X.mg X.base k x ps S)(hr:Room j X.A)(hx:aM (bE X.prog X.w) X EX)(hk:k<=j:=by decide)(hg:Gl X x:=by rfl)(hdb:(x==("__debug__" : Str))=false:=by decide) :
  PX X EX (.Call (.Name x p) [] [] pos) (qO S):=by
 obtain⟨f,fd,F,hm,kp,hb⟩:=G.ok;refine⟨⟨_,kR F (hr.mono hk) hg hm kp hb .nil hx hdb,λW0 H0 W σ H ρ E Q s eo h=>?_⟩,λE ρ P P' hp z=>G.mono _ _ _ _ _ (λ_ q=>q) hp z⟩;refine⟨[],W,s.ext.ok,.nil,G.mono _ _ _ _ _ (λex hex W' H' cls dx x' r'=>?_) (λd hd=>hd) h⟩;exact eo ex W' H' cls dx hex (s.ext.trans x') r'
end
section
variable{a b c:Expr}
def AE:List D->(List D->Prop)->Prop:=λds Q=>∃x:Str,ds=[.str x]/\x.length<=small/\Q (jg x)
theorem EE(x:Str):jg x=(signs x).map D.str:=by unfold jg signs;rw[iP];rfl
theorem EF(hc:X.calm=true):nR X (.type "list") AE:=by
 refine⟨⟨_,Dg hc,λW H vs ds Q ok r ⟨x,e,hl,q⟩=>?_⟩,λds P P' hp ⟨x,e,hl,q⟩=>⟨x,e,hl,hp _ q⟩⟩;subst e;obtain⟨v,rfl,rv⟩:=r.one;cases rv;exact⟨x,rfl,fD hl,λl h=>q l _ h (by rw[EE];exact yg _)⟩
def t4(wa wb wc:WE):WE:=λE ρ Q=>wa E ρ (ZaK λx=>x.length<=small/\wb E ρ (ZaK λy=>x.length+y.length<=small/\wc E ρ (ZaK λz=>x.length+y.length+z.length<=small/\Q (.str (x++y++z)))))
end
section
def vG:D->Bool
 |.non=>true
 |_=>false
def fi:Value->Bool
 |.none=>true
 |_=>false
end
section
def qP:G2:=λx y Q=>∃ds,x=.non/\(y=.lst ds\/y=.tup ds)/\(∀d∈ds,d=.non\/(∃i,d=.int i)\/∃xs,d=.tup xs)/\Q (.bl (ds.any vG))
theorem t5(hu:X.A.units+64<cLine):c8 X (compareOp .In) qP:=by
 refine⟨⟨λx y H Q=>∃W dx dy,WOk W H/\Rep X.K W x dx/\Rep X.K W y dy/\qP dx dy (RQ X.K W H Q),?_,λW H x y dx dy Q ok rx ry hg=>⟨W,dx,dy,ok,rx,ry,hg⟩⟩,λx y P P' hp ⟨ds,h1,h2,h3,q⟩=>⟨ds,h1,h2,h3,hp _ q⟩⟩;rintro pins s σ H x y v u Q I rx ry ⟨W,dx,dy,ok,r1,r2,ds,rfl,hdy,hd,q⟩;cases r1;obtain rfl:v=Value.none:=rx;have key:∀{vs:List V} {us:List Value} {ds:List D},Reps X.K W vs ds->Vals vs us->(∀d∈ds,d=.non\/(∃i,d=.int i)\/∃xs,d=.tup xs)->
   (∀y∈us,SeqAt.EqAt X.A.in1 s y .none (fi y))/\us.any fi=ds.any vG:=by
  intro vs us ds rr rv
  induction rv generalizing ds with
  |nil=>cases rr;exact λ_=>⟨λy hy=>by simp at hy,rfl⟩
  | @cons v u vs us r t ih=>
   cases rr with
   | @cons _ d _ ds rd rt=>
    intro hd;obtain⟨i1,i2⟩:=ih rt λd h=>hd d (cK _ h);have one:SeqAt.EqAt X.A.in1 s u .none (fi u)/\(fi u)=vG d:=by
     rcases hd d (dk ..) with rfl|⟨i,rfl⟩|⟨xs,rfl⟩
     .cases rd
      obtain rfl:u=Value.none:=r;exact⟨SeqAt.EqAt.same _,rfl⟩
     .cases rd
      have:=o8 (A:=X.A.in1) (s:=s) (y:=.int i) (x:=.non) (u:=u) (v:=.none) r rfl rfl rfl;obtain⟨t',rfl⟩:=r;exact⟨this,rfl⟩
     .obtain⟨q,ws,rfl,h2,_⟩:=rd.sqt ok
      cases r;obtain⟨its2,_,pl2,_⟩:=I.tuple h2;have e1:X.A.in1.units=X.A.units+1:=rfl;exact⟨SeqAt.EqAt.tuple_none pl2 (by rw[e1];omega),rfl⟩
    refine⟨λy hy=>?_,?_⟩
    .rcases Yam.mp hy with rfl|hy
     .exact one.1
     .exact i1 y hy
    .rw[rj,rj,one.2,i2]
 rcases hdy with rfl|rfl
 .obtain⟨p,vs,rfl,h1,rr⟩:=r2.sql ok
  cases ry;obtain⟨its,rv,pl,hz⟩:=I.list h1;obtain⟨k1,k2⟩:=key rr rv hd;refine SeqAt.in_listAt fi pl.isList (λy hy=>k1 y (by simpa using hy)) ⟨.bl _,H,I,rfl,?_⟩;rw[show its.toArray.any fi=its.any fi by simp,k2];exact q.now ok (.bl _)
 .obtain⟨p,vs,rfl,h1,rr⟩:=r2.sqt ok
  cases ry;obtain⟨its,rv,pl,hz⟩:=I.tuple h1;obtain⟨k1,k2⟩:=key rr rv hd;refine SeqAt.in_tupleAt fi pl (λy hy=>k1 y (by simpa using hy)) ⟨.bl _,H,I,rfl,?_⟩;rw[show its.toArray.any fi=its.any fi by simp,k2];exact q.now ok (.bl _)
end
section
variable{ps kp cp:Pos}{a:Expr}
def rL(t:WA):WA:=λE ρ Q=>t E ρ λds=>∃xs,ds=[.lst xs]/\Q (tW 2 xs)
end
def aO(i:Int):Str:=(toString i:String)
def g6(s:List Int)(n:Nat):List Str:=(("size " : Str)++aO n)::s.map λi=>("slant " : Str)++aO i
def mS(s:List Int)(n:Nat):Str:=Txt.join "\n" (g6 s n)
theorem EG:∀{L M:List Str},L≠[]->M≠[]->(∀p∈L,c∉p.cps.toList)->(∀p∈M,c∉p.cps.toList)->Str.join ⟨#[c]⟩ L=Str.join ⟨#[c]⟩ M->L=M:=by
 have cut:∀{a b u v:List Nat},c∉a->c∉b->a++c::u=b++c::v->a=b/\u=v:=by
  intro a
  induction a with
  |nil=>
   intro b u v _ hb e;cases b with
   |nil=>exact⟨rfl,(List.cons.inj e).2⟩
   |cons k b=>exact Hj ((List.cons.inj e).1▸dk ..) hb
  |cons k a ih=>
   intro b u v ha hb e;cases b with
   |nil=>exact Hj ((List.cons.inj e).1▸dk ..) ha
   |cons k' b=>
    obtain⟨e1,e2⟩:=List.cons.inj e;obtain⟨e3,e4⟩:=ih (λh=>ha (cK _ h)) (λh=>hb (cK _ h)) e2;exact⟨by rw[e1,e3],e4⟩
 have lst:∀(p q:Str) (r:List Str),(Str.join ⟨#[c]⟩ (p::q::r)).cps.toList=p.cps.toList++c::(Str.join ⟨#[c]⟩ (q::r)).cps.toList:=λp q r=>by
  show(p++⟨#[c]⟩++Str.join ⟨#[c]⟩ (q::r)).cps.toList=_;simp only[Str.cps_append,sB];simp
 have ext:∀{p q:Str},p.cps.toList=q.cps.toList->p=q:=λh=>Str.ext' (Array.toList_inj.mp h);intro L
 induction L with
 |nil=>intro M h;exact Hj rfl h
 |cons p L ih=>
  intro M _ hM hL hM' e;cases M with
  |nil=>exact Hj rfl hM
  |cons q M=>
   have e':=congrArg (λz:Str=>z.cps.toList) e;have hp:=hL p (dk ..);have hq:=hM' q (dk ..);cases L with
   |nil=>
    cases M with
    |nil=>rw[show p=q from ext e']
    |cons q2 M=>
     rw[lst] at e';have:c∈p.cps.toList:=by
      have h1:(Str.join ⟨#[c]⟩ [p]).cps.toList=p.cps.toList:=rfl;rw[h1] at e';rw[e'];simp
     exact Hj this hp
   |cons p2 L=>
    cases M with
    |nil=>
     rw[lst] at e';have:c∈q.cps.toList:=by
      have h1:(Str.join ⟨#[c]⟩ [q]).cps.toList=q.cps.toList:=rfl;rw[h1] at e';rw[<-e'];simp
     exact Hj this hq
    |cons q2 M=>
     rw[lst,lst] at e';obtain⟨e1,e2⟩:=cut hp hq e';rw[ext e1,ih (by simp) (M:=q2::M) (by simp) (λx hx=>hL x (cK _ hx)) (λx hx=>hM' x (cK _ hx)) (ext e2)]
theorem yi(h0:L≠[])(h:∀p∈L,c∉p.cps.toList):Txt.split (Txt.join ⟨#[c]⟩ L) ⟨#[c]⟩=L:=by
 have e:Txt.join ⟨#[c]⟩ L=Str.join ⟨#[c]⟩ L:=StrLaws.glued_eq_join _ _;rw[e];refine EG (c:=c) (λz=>?_) h0 (λp hp=>StrLaws.split_free _ c p hp) h (StrLaws.join_split _ _);have:=StrLaws.join_split (Str.join ⟨#[c]⟩ L) ⟨#[c]⟩;unfold Txt.split at z;split at z
 .cases z
 .split at z
  .cases z
  .have:=length_partsBetween (Str.join ⟨#[c]⟩ L) (Builtin.Str.occurrences (Str.join ⟨#[c]⟩ L) ⟨#[c]⟩ 0 (Str.join ⟨#[c]⟩ L).length ((Str.join ⟨#[c]⟩ L).length+1)) (⟨#[c]⟩:Str).length
   rw[z] at this;cases this
def ZmR:List Int:=(List.range 101).map λ(k:Nat)=>(k:Int)-50
theorem EH{i:Int}(h:-50<=i/\i<=50):i∈ZmR:=Yby.mpr ⟨(i+50).toNat,Yag.mpr (by omega),by omega⟩
def AF(i:Int):Bool:=
 let w:=aO i
 let f:=Txt.removeprefix w "-"
 decide (1<=f.length)&&decide (f.length<=20)&&decide (w.length<=20)&&f.cps.all (· < 128)&&f.cps.toList.all (λc=>!(Builtin.Str.occurrences "0123456789" ⟨#[c]⟩ 0 ("0123456789" : Str).length 1).isEmpty)
  && (!(f.cps.toList.headD 0==48)||w == "0")&&decide (PySem.intText? w=some i)
  && decide (Txt.split (("slant " : Str)++w) " " = [("slant" : Str),w])&&decide (Txt.split (("size " : Str)++w) " " = [("size" : Str),w])
  && decide (10∉(("slant " : Str)++w).cps.toList)&&decide (10∉(("size " : Str)++w).cps.toList)&&decide ((("slant " : Str)++w).length<=20)  && decide ((("size " : Str)++w).length<=20)
theorem EI:ZmR.all AF=true:=by decide +kernel
structure lq(i:Int):Prop where
 l1:1<=(Txt.removeprefix (aO i) "-").length
 l2:(Txt.removeprefix (aO i) "-").length<=20
 lw:(aO i).length<=20
 asc:(Txt.removeprefix (aO i) "-").cps.all (· < 128)=true
 fig:∀c∈(Txt.removeprefix (aO i) "-").cps.toList,(!(Builtin.Str.occurrences "0123456789" ⟨#[c]⟩ 0 ("0123456789" : Str).length 1).isEmpty)=true
 hd:(Txt.removeprefix (aO i) "-").cps.toList.headD 0=48->aO i = "0"
 int:PySem.intText? (aO i)=some i
 sl:Txt.split (("slant " : Str)++aO i) " " = [("slant" : Str),aO i]
 sz:Txt.split (("size " : Str)++aO i) " " = [("size" : Str),aO i]
 f1:10∉(("slant " : Str)++aO i).cps.toList
 f2:10∉(("size " : Str)++aO i).cps.toList
 k1:(("slant " : Str)++aO i).length<=20
 k2:(("size " : Str)++aO i).length<=20
theorem rM{i:Int}(h:-50<=i/\i<=50):lq i:=by
 have:=Ybe.mp EI i (EH h);unfold AF at this;simp only[cf,Hk,uO,nh,HD] at this;obtain⟨⟨⟨⟨⟨⟨⟨⟨⟨⟨⟨⟨a1,a2⟩,a3⟩,a4⟩,a5⟩,a6⟩,a7⟩,a8⟩,a9⟩,b1⟩,b2⟩,b3⟩,b4⟩:=this;exact⟨a1,a2,a3,a4,λc hc=>Ybe.mp a5 c hc,λe=>a6.resolve_left (by rw[e];decide),a7,a8,a9,b1,b2,b3,b4⟩
theorem EJ(s:List Int)(n:Nat):g6 s n≠[]:=by unfold g6;simp
theorem EK(s:List Int)(n:Nat):(g6 s n).length=s.length+1:=by unfold g6;simp
theorem AG{n:Nat}(h:IsSl s n):∀p∈g6 s n,p.length<=20/\10∉p.cps.toList:=by
 intro p hp;unfold g6 at hp;rcases Yam.mp hp with rfl|hp
 .have:=rM (i:=n) (by have:=h.n5;omega)
  exact⟨this.k2,this.f2⟩
 .obtain⟨i,hi,rfl⟩:=Yby.mp hp
  have:=rM (h.b i hi);exact⟨this.k1,this.f1⟩
theorem EL{b:Nat}(h:∀p∈L,p.length<=b):(L.map (·.length)).sum<=L.length*b:=by
 induction L with
 |nil=>simp
 |cons p L ih=>
  rw[cF,uU,cD,Nat.succ_mul];have:=h p (dk ..);have:=ih λq hq=>h q (cK _ hq);omega
theorem AH{n:Nat}(h:IsSl s n):((g6 s n).map (·.length)).sum+(g6 s n).length<=220:=by
 have h1:=EL λp hp=>(AG h p hp).1;have h2:=EK s n;have h3:=h.l9;have:(g6 s n).length*20<=10*20:=Nat.mul_le_mul_right _ (by omega);omega
theorem AI{n:Nat}(h:IsSl s n):(mS s n).length<=300:=by
 have e:mS s n=Str.join "\n" (g6 s n):=StrLaws.glued_eq_join _ _;have:=StrLaws.join_length_le "\n" (g6 s n);have h2:=AH h;have h4:("\n" : Str).length=1:=by decide +kernel
 rw[h4,Nat.mul_one] at this;rw[e];omega
namespace B.T
def txR(x:D):Except Str D:=ln x (.ok (.str (mS (sI x) (sN x))))
def S_slants_shown:bN:=xS (λx:D=>[x]) (λx=>kd x=true) txR
def S__law_text_of:bN:=fnS (λx:SL=>[aN x.1]) (λx=>IsSl x.1 x.2) λx=>.str (mS x.1 x.2)
end B.T
open PySem.NumText
def jN(c:Nat):Bool:=decide (48<=c)&&decide (c<=57)
def dR(w:Str):Bool:=w.cps.toList.head? == some 45
def aX(w:Str):List Nat:=if dR w then w.cps.toList.tail else w.cps.toList
def lQ(w:Str):Bool:=decide (1<=(aX w).length)&&decide ((aX w).length<=20)&&(aX w).all jN && !((aX w).head? == some 48 && !(w == "0"))
def jO(w:Str):Int:=if dR w then -((digitsVal (aX w):Nat):Int) else((digitsVal (aX w):Nat):Int)
def bO(w:Str):Option Int:=if lQ w then some (jO w) else none
def fj:Option Int->D
 |none=>.non
 |some i=>.int i
def asc(w:Str):Bool:=w.cps.all (· < 128)
theorem Zdg:jN c=true↔48<=c/\c<=57:=by unfold jN;simp
theorem AJ{l:List Nat}(h:l.all jN=true):AllDigits l:=λc hc=>Zdg.mp (Ybe.mp h c hc)
theorem rN(m:Nat):(aO (m:Int)).cps.toList=(Nat.toDigits 10 m).map Char.toNat:=PySem.W.KIN.signs_num m
theorem t6(m:Nat):((Nat.toDigits 10 m).map Char.toNat).all jN=true:=by
 rw[Ybe];intro c hc;obtain⟨ch,hch,e⟩:=Yby.mp hc;have r:=PyProof.Rows.digit_range (Nat.isDigit_of_mem_toDigits (by decide) (by decide) hch);rw[<-e];exact Zdg.mpr r
theorem yj(m:Nat):m=0\/∃c r,(Nat.toDigits 10 m).map Char.toNat=c::r/\49<=c/\c<=57:=by
 induction m using Nat.strongRecOn with
 |_ m ih=>
  by_cases h:m<10
  .rw[Nat.toDigits_of_lt_base h]
   rcases sm m with z|z
   .exact .inl z
   .refine .inr ⟨_,[],rfl,?_⟩
    have:∀d:Nat,d<10->0<d->49<=(Nat.digitChar d).toNat/\(Nat.digitChar d).toNat<=57:=by decide
    exact this m h z
  .have hm:m%10<10:=Nat.mod_lt m (by decide)
   have t:Nat.toDigits 10 (m/10)++Nat.toDigits 10 (m%10)=Nat.toDigits 10 (10*(m/10)+m%10):=Nat.toDigits_append_toDigits (by decide) (by omega) hm;rw[Nat.div_add_mod] at t;rcases ih (m/10) (by omega) with z|⟨c,r,e,h1⟩
   .omega
   .refine .inr ⟨c,r++(Nat.toDigits 10 (m%10)).map Char.toNat,?_,h1⟩
    rw[<-t,lH,e];rfl
theorem vH(m:Nat)(h:m≠0):(aO (-(m:Int))).cps.toList=45::(Nat.toDigits 10 m).map Char.toNat:=by
 obtain⟨k,rfl⟩:=Nat.exists_eq_succ_of_ne_zero h;have:aO (-((k+1:Nat):Int))=Str.ofString (toString (Int.negSucc k)):=rfl;rw[this,PyProof.Rows.signs_ofString];show(("-" ++Nat.repr (k+1)).toList).map Char.toNat=_;rw[String.toList_append,lH,Nat.toList_repr];rfl
theorem AK{m:Nat}(h:m<10^20):((Nat.toDigits 10 m).map Char.toNat).length<=20:=by
 rw[<-rN];have:=toString_length_le (v:=(m:Int)) (by omega) (k:=20) (by decide) (by exact_mod_cast h);simpa[Str.length,aO] using this
theorem AL(m:Nat):1<=((Nat.toDigits 10 m).map Char.toNat).length:=by
 rcases yj m with z|⟨c,r,e,_⟩
 .subst z;decide
 .rw[e];simp
theorem AM{m:Nat}(h:((Nat.toDigits 10 m).map Char.toNat).head? = some 48):m=0:=by
 rcases yj m with z|⟨c,r,e,h1,_⟩
 .exact z
 .rw[e] at h;cases h;omega
theorem EM(m:Nat):((Nat.toDigits 10 m).map Char.toNat).head?≠some 45:=by
 rcases yj m with z|⟨c,r,e,h1,_⟩
 .subst z;decide
 .rw[e];intro h;cases h;omega
theorem AN{i:Int}(h:i.natAbs<10^20):bO (aO i)=some i:=by
 rcases wr i with⟨m,rfl|rfl⟩
 .have hm:m<10^20:=by simpa using h
  have n0:dR (aO (m:Int))=false:=by unfold dR;rw[rN];simpa using EM m
  have f0:aX (aO (m:Int))=(Nat.toDigits 10 m).map Char.toNat:=by unfold aX;rw[n0,rN];rfl
  unfold bO lQ jO;rw[n0,f0,Hl (AL m),Hl (AK hm),t6,PySem.W.KIN.val_back];have:(((Nat.toDigits 10 m).map Char.toNat).head? == some 48 && !(aO (m:Int) == "0"))=false:=by
   cases e:((Nat.toDigits 10 m).map Char.toNat).head? == some 48 with
   |false=>rfl
   |true=>
    obtain rfl:=AM (eq_of_beq e);decide +kernel
  rw[this];rfl
 .rcases sm m with rfl|z
  .decide +kernel
  have hm:m<10^20:=by simpa using h
  have n0:dR (aO (-(m:Int)))=true:=by unfold dR;rw[vH m (by omega)];rfl
  have f0:aX (aO (-(m:Int)))=(Nat.toDigits 10 m).map Char.toNat:=by unfold aX;rw[n0,vH m (by omega)];rfl
  unfold bO lQ jO;rw[n0,f0,Hl (AL m),Hl (AK hm),t6,PySem.W.KIN.val_back];have:(((Nat.toDigits 10 m).map Char.toNat).head? == some 48 && !(aO (-(m:Int)) == "0"))=false:=by
   cases e:((Nat.toDigits 10 m).map Char.toNat).head? == some 48 with
   |false=>rfl
   |true=>
    have:=AM (eq_of_beq e);omega
  rw[this];rfl
theorem AO(h:lQ w=true):PySem.intText? w=some (jO w):=by
 unfold lQ at h;simp only[cf,Hk] at h;obtain⟨⟨⟨h1,h2⟩,h3⟩,_⟩:=h;have hd:=AJ h3;have hl:w.cps.toList.length=w.length:=by simp[Str.length]
 unfold jO;cases n:dR w with
 |false=>
  have e:aX w=w.cps.toList:=by unfold aX;rw[n];rfl
  rw[e] at h1 h2 hd ⊢;exact intText_digits hd (λz=>by rw[z] at h1;simp at h1) (by omega)
 |true=>
  have e:aX w=w.cps.toList.tail:=by unfold aX;rw[n];rfl
  rw[e] at h1 h2 hd ⊢;unfold dR at n;cases ew:w.cps.toList with
  |nil=>rw[ew] at n;cases n
  |cons c r=>
   rw[ew] at n h1 h2 hd hl;have:c=45:=by simpa using n
   subst this;refine intText_neg ew hd (λz=>?_) (by rw[<-hl];simp at h2 ⊢;omega);simp only[List.tail_cons] at h1 z;rw[z] at h1;simp at h1
theorem n9{p q:Str}(h:p.cps.toList=q.cps.toList):p=q:=Str.ext' (Array.toList_inj.mp h)
theorem j9(w:Str):w.cps.toList.length=w.length:=by simp[Str.length]
theorem EN:("0123456789" : Str).cps.toList=[48,49,50,51,52,53,54,55,56,57]:=by decide +kernel
theorem EO(c:Nat):decide (c∈("0123456789" : Str).cps.toList)=jN c:=by
 rw[EN,kq,Hk,Zdg];simp only[Yam,eZ,or_false];omega
theorem EQ(c:Nat):(!(Builtin.Str.occurrences "0123456789" ⟨#[c]⟩ 0 ("0123456789" : Str).length 1).isEmpty)=jN c:=by rw[StrLaws.found_one,EO]
theorem ER:("-" : Str)=⟨#[45]⟩:=by decide +kernel
theorem Zje:dR w=true↔w.cps.toList[0]? = some 45:=by unfold dR;rw[HD,List.head?_eq_getElem?]
theorem ES(w:Str):Txt.removeprefix w "-" = ⟨(aX w).toArray⟩:=by
 unfold Txt.removeprefix Txt.affix;rw[ER];have hs:Builtin.Str.subAt w ⟨#[45]⟩ 0=dR w:=by
  rw[kq,Zje];constructor
  .intro h
   refine(StrLaws.subAt_one w 45 0).mp ⟨?_,h⟩;unfold Builtin.Str.subAt at h;have:=congrArg Array.size (eq_of_beq h);rw[Array.size_extract] at this;show 0+1<=w.cps.size;have e:(⟨#[45]⟩:Str).length=1:=rfl;rw[e] at this;simp at this;omega
  .intro h
   exact((StrLaws.subAt_one w 45 0).mpr h).2
 rw[hs];unfold aX;cases n:dR w with
 |false=>simp
 |true=>
  have h0:=Zje.mp n;have hp:1<=w.cps.size:=by
   rw[<-rf];rcases sm w.cps.toList.length with z|z
   .rw[eY (by omega)] at h0;cases h0
   .exact z
  simp only[if_true];have e1:(⟨#[45]⟩:Str).length=1:=rfl;have e2:w.length=w.cps.size:=rfl;rw[e1,if_neg (by rw[HD,e2];omega)];refine n9 ?_;show(w.cps.extract 1 w.length).toList=(w.cps.toList.tail.toArray).toList;rw[e2,Array.toList_extract,List.extract_eq_take_drop];simp only[List.drop_one];rw[sr (by simp)]
theorem AQ(w:Str)(k:Nat):(cH w (some (k:Int)) none).cps.toList=w.cps.toList.drop k:=by
 unfold cH;have h:=j9 w;rw[HT.sIx_none,HT.sIx_nat];show(List.take (w.length-min k w.length) (List.drop (min k w.length) w.cps.toList))=_;rcases Nat.le_total k w.length with z|z
 .rw[ss z,sr (by rw[kv];omega)]
 .rw[Nat.min_eq_right z,List.drop_eq_nil_of_le (by omega),List.drop_eq_nil_of_le (by omega),List.take_nil]
theorem AR(w:Str)(k:Nat):(cH w none (some (k:Int))).cps.toList=w.cps.toList.take k:=by
 unfold cH;have h:=j9 w;rw[HT.sIx_none,HT.sIx_nat];show(List.take (min k w.length-0) (List.drop 0 w.cps.toList))=_;rw[rk,Nat.sub_zero];rcases Nat.le_total k w.length with z|z
 .rw[ss z]
 .rw[Nat.min_eq_right z,sr (by omega),sr (by omega)]
theorem AS(w:Str):(aX w).length<=w.length:=by
 unfold aX;have:=j9 w;split
 .rw[List.length_tail];omega
 .omega
theorem ET(h:c∈aX w):c∈w.cps.toList:=by
 unfold aX at h;split at h
 .exact List.mem_of_mem_tail h
 .exact h
theorem Za0:asc w=true↔∀c∈w.cps.toList,c<128:=by
 unfold asc;rw[wu];simp
theorem EU(h:asc w=true):(⟨(aX w).toArray⟩:Str).cps.all (· < 128)=true:=by
 show asc ⟨(aX w).toArray⟩=true;rw[Za0];intro c hc;exact Za0.mp h c (ET hc)
theorem vI(x:Str)(c:Nat):(c∉x.cps.toList/\Txt.partition x ⟨#[c]⟩=(x,Str.empty,Str.empty)/\Txt.split x ⟨#[c]⟩=[x])\/
  ∃p r,x=p++⟨#[c]⟩++r/\c∉p.cps.toList/\Txt.partition x ⟨#[c]⟩=(p,⟨#[c]⟩,r)/\Txt.split x ⟨#[c]⟩=p::Txt.split r ⟨#[c]⟩:=by
 have spl:∀{L:List Str},L≠[]->(∀p∈L,c∉p.cps.toList)->Str.join ⟨#[c]⟩ L=x->Txt.split x ⟨#[c]⟩=L:=λ{L} h0 h e=>by
  have:=yi (c:=c) h0 h;rw[show Txt.join ⟨#[c]⟩ L=Str.join ⟨#[c]⟩ L from StrLaws.glued_eq_join _ _,e] at this;exact this
 have sum:=PySem.StrLaws.partition_sum x ⟨#[c]⟩;unfold Txt.partition at sum ⊢;rcases StrLaws.occ_head x ⟨#[c]⟩ 1 (bP 1) with⟨h0,hn⟩|⟨i,r,h0,hi,hn⟩
 .rw[h0]
  have hc:c∉x.cps.toList:=λhm=>by
   obtain⟨i,hi⟩:=Ybv.mp hm;exact hn i ((StrLaws.subAt_one x c i).mpr hi)
  exact .inl ⟨hc,rfl,spl (by simp) (λp hp=>by simp at hp;rw[hp];exact hc) rfl⟩
 .rw[h0] at sum ⊢
  dsimp only at sum ⊢;have hx:=(StrLaws.subAt_one x c i).mp hi;have hp:c∉(Builtin.Str.strSub x 0 i).cps.toList:=λhm=>by
   obtain⟨k,hk⟩:=Ybv.mp hm;have e:(Builtin.Str.strSub x 0 i).cps.toList=x.cps.toList.take i:=by
    unfold Builtin.Str.strSub;simp[Array.toList_extract,List.extract_eq_take_drop]
   rw[e] at hk;have hki:k<i:=by
    rcases jW k i with z|z
    .exact z
    .rw[eY (by rw[jV];omega)] at hk;cases hk
   rw[v9 hki] at hk;exact hn k hki ((StrLaws.subAt_one x c k).mpr hk)
  refine .inr ⟨_,_,sum.symm,hp,rfl,?_⟩;generalize Builtin.Str.strSub x 0 i=p at *;generalize Builtin.Str.strSub x (i+(⟨#[c]⟩:Str).length) x.length=q at *;refine spl (by simp) (λs hs=>?_) ?_
  .rcases Yam.mp hs with rfl|hs
   .exact hp
   .exact StrLaws.split_free _ c s hs
  .have hj:=StrLaws.join_split q ⟨#[c]⟩
   have h1:=split_pos q ⟨#[c]⟩;cases e:Txt.split q ⟨#[c]⟩ with
   |nil=>rw[e] at h1;simp at h1
   |cons a b=>
    rw[e] at hj;show p++⟨#[c]⟩++Str.join ⟨#[c]⟩ (a::b)=x;rw[hj];exact sum
theorem EV{n c f:Str}{k:Int}(h:iu n=some (c,f,k)):jz n=c:=by unfold jz;rw[h]
section
variable{f:Str}{a:Expr}
def rO(x f:Str):D->(D->Prop)->Prop:=λd Q=>match d with
 |.exc n=>∃k,iu n=some (x,f,k)/\Q (.int k)
 |_=>False
theorem EW{C:Addr}(h1:eE X.K x=some C)(h2:Fl.clsF X.K C Fl.bmV "ValueError.__new__" f fI=true)(hB:typeLookup (.type "ValueError") f=pure none)(ha:PX X EX a wa)(hb:attributeBase a f X.env (eval a X.env)=eval a X.env:=by rfl) :
  PX X EX (.Attribute a f pos) (w1 (rO x f) wa):=by
 obtain⟨ta,pa,ka⟩:=ha.t;refine⟨⟨λσ H Q=>ta σ H λv H1=>∃e dx k,v=.ref e/\H1 e=some (lf C e (some dx))/\H1 dx=some (.xd [(f,.int k)])/\Q (.int k) H1,?_,λW0 H0 W σ H ρ E Q s eo q=>ka W0 H0 W σ H ρ E _ s eo (ha.mono _ _ _ _ (λd q=>?_) q)⟩,λE ρ P P' hp q=>ha.mono _ _ _ _ (λd q=>?_) q⟩
 .intro pins s σ H Q I h
  refine i5 hb (aV (pa pins s σ H _ I h) λu s1 ⟨v,H1,I1,rv,e,dx,k,ev,e1,e2,q⟩=>?_);subst ev;cases rv;obtain⟨oe,g1,g2,_,g3,vs,g4⟩:=(I1.hok e _ e1).1;obtain⟨m,n1,n2⟩:=I1.hok dx _ e2;have nf:=n2 f;simp only[gB,HH] at nf;obtain⟨bm,N,nm,qn,bs,sn,sub,ab,col,dd,k0,k1,k2,k3,k5,mN,hC,hN,_,qm,T⟩:=(Fl.clsF_of I1.kIn h2).h;obtain⟨w,ew,rw'⟩:∃w,m f=some w/\RelV (.int k) w:=by
   cases z:m f with
   |none=>rw[z] at nf;exact nf.elim
   |some w=>rw[z] at nf;exact⟨w,rfl,nf⟩
  obtain⟨tk,rfl⟩:=rw';obtain⟨hp,g,dr,tk',os⟩:=s1;exact Fl.get_field PySem.F.attrBase_ValueError hC hN T (qm _ (by simp[Fl.quiet])) (qm _ (by simp[Fl.quiet])) (qm _ (by simp[Fl.quiet])) (by simp[Fl.quiet]) (by simp[Fl.quiet]) (by simp[Fl.quiet]) hB g1 g2 g3 g4 n1.ns ew rfl ⟨.int k,H1,I1.tok _,⟨_,rfl⟩,q⟩
 .unfold rO at q
  split at q
  .rename_i n
   obtain⟨k,ek,q⟩:=q;intro v W' H' x' r';cases r' with
   | @exc e C' _ dx e0 ec xd=>
    obtain⟨d,rfl,ed⟩:=xd _ _ _ ek;rw[EV ek,h1] at ec;cases ec;exact⟨e,d,k,rfl,x'.ok.g _ _ e0,x'.ok.g _ _ ed,q _ _ _ x' (.int _)⟩
  .exact q.elim
 .unfold rO at q ⊢
  split at q
  .obtain⟨k,ek,q⟩:=q
   exact⟨k,ek,hp _ q⟩
  .exact q.elim
end
def yk(s:Stmt):Stmt:=match s with
 |.ClassDef _ _ _ (b::_) _ _ _ _ _ _ _=>b
 |s=>s
structure ym(K:Hg)(mg:Str->Option Value)(x qual f:Str)(st:Stmt):Prop where
 h:∃(C fI:Addr) (od:Option Addr) (osl:Array (Option Value)) (kV doc pm:Value) (an:Option Addr) (cdv ct:Value),eE K x=some C/\mg x=some (.ref C)/\Fl.clsF K C Fl.bmV "ValueError.__new__" f fI=true/\
  K.lookup fI=some ⟨.type "function",od,.func (PySem.W.fnOf "__init__" qual (aR st) (aI st) (aA st) .none kV doc pm an cdv ct),osl⟩/\PySem.W.codeIn K cdv qual=true/\PySem.W.keepIn K (.ref fI)=true
section
variable{w:World}{base:Heap}{f:Str}{st:Stmt}
theorem mkXF(X:K.In hp)(G:hp.Ns mainGlobals mg){C:Addr}{kV:Value}{dd:Option Addr}(a:PySem.W.nsIn K mainGlobals x=some (some (.ref C)))(lc:K.lookup C=some ⟨.type "type",dd,.cls cd,sl⟩)(ni:PySem.W.nsIn K cd.ns "__init__" = some (some (.ref fI)))(q:Fl.clsF K C Fl.bmV "ValueError.__new__" f fI=true)
  (l:K.lookup fI=some ⟨.type "function",od,.func (PySem.W.fnOf "__init__" qual (aR st) (aI st) (aA st) .none kV doc pm an cdv ct),osl⟩) (c:PySem.W.codeIn K cdv qual=true) (kp:PySem.W.keepIn K (.ref fI)=true):ym K mg x qual f st:=
 ⟨C,fI,od,osl,kV,doc,pm,an,cdv,ct,lN a,PySem.W.mg_of X G a,q,l,c,kp⟩
section
variable{a:Expr}
theorem EY(h:ym X.K X.mg x qual f st)(hB:typeLookup (.type "ValueError") f=pure none)(ha:PX X EX a wa)(hb:attributeBase a f X.env (eval a X.env)=eval a X.env:=by rfl):PX X EX (.Attribute a f pos) (w1 (rO x f) wa):=by
 obtain⟨C,fI,_,_,_,_,_,_,_,_,h1,_,h3,_⟩:=h.h;exact EW h1 h3 hB ha hb
end
theorem EZ:typeLookup (.type "ValueError") "size" = pure none:=by rw[typeLookup_type,builtinLookup_eq_fast];kernel_rfl
end
abbrev He:List Str:=["NoRow", "NoText0", "NoText1"]
def gQ(t:Str):Prop:=asc t=true/\t.length<=2000
namespace B.T2
def S_number_read:bN:=fnS (λw:Str=>[.str w]) (λw=>gQ w) λw=>fj (bO w)
def sgs:Str:= " !#$&'()*+,-./0123456789:;<=>?@ABCDEFGHIJKLMNOPQRSTUVWXYZ[]^_`abcdefghijklmnopqrstuvwxyz{|}~\"\\"
def S__law_signs_of:bN:=fnS (λ_:Unit=>[]) (λ_=>True) λ_=>.lst (jg sgs)
section
variable{x:D}{n:Nat}{t:Str}{a b:Int}
theorem u_number_read(h:gQ w)(q:Q (fj (bO w))):S_number_read [.str w] E Q:=⟨w,rfl,h,q⟩
theorem u__law_signs_of(q:Q (.lst (jg sgs))):S__law_signs_of [] E Q:=⟨(),rfl,trivial,q⟩
end
abbrev Zbs:List Str:=["word", "figures"]
def z_number_read:WS:=(aK (aW 1 (wS Ax (wN 0) (aD (wC (D.str (PySem.Str.ofString "-"))) aC))) (aK (cr (fg (cm (wT (ZaP iF iF (wC (D.int (1))) (wB yh (aD (wN 1) aC)) (wC (.int (20)))))) (cm (wT (wB jG (aD (wL (aLC (iC (wN 1)) 1 [] (gN 0) dB (w2 t0 (wN 0) (wC (D.str (PySem.Str.ofString "0123456789")))))) aC))))) (aH (wC D.non)) bI) (aK (cr (dL (wT (w2 gEqS (w2 tY (wN 1) (wC (D.int (0)))) (wC (D.str (PySem.Str.ofString "0"))))) (wT (w2 gNeS (wN 0) (wC (D.str (PySem.Str.ofString "0")))))) (aH (wC D.non)) bI) (aH (wB rK (aD (wN 0) aC))))))
abbrev vJ:List Str:=["_law_signs"]
def z__law_signs_of:WS:=(aK (aW 0 (wC (D.str (PySem.Str.ofString " !#$&'()*+,-./0123456789:;<=>?@ABCDEFGHIJKLMNOPQRSTUVWXYZ[]^_`abcdefghijklmnopqrstuvwxyz{|}~")))) (aH (wL (aB AE (aD (w2 iM (wN 0) (wC (D.str (PySem.Str.ofString "\"\\")))) aC)))))
end B.T2
set_option exponentiation.threshold 2000
local macro_rules | `(tactic| walk_at "w1")=>`(tactic| simp only [aH,cr,aW,bI,g0,bT,cO,f6,mK,f8,d7,dP,mL,d8,mM,f7,gx,iG,wM,Zcy,jB,fX,lh,dL,fg,cm,wT,jc,w1,w2,wB,wF,wL,bJ,cI,ZaP,aB,aU,aD,aC,aLC,ZbM,dB,iS,iC,rL,gP,wS,gj,mQ,t4,n8,qO,eU,ZaK,isI,iL,iT,lj,mH,iZ,gM,eQ,wN,wC,gN,iD,jd,j5,de,mI,eS,f9,gb,gc,ge,da,gg,gh,cB,pub,cF,hJ,cD,fG,kx,eG,List.replicate,l3,l4,l5,l6,Nat.reduceSub,Nat.reduceAdd,eX,l8,true_and,cw,if_true,if_false,ite_true,ite_false,nb,dA,gC,
 pJ,pK,pL,pM,pN,pO,pP,pQ,pR,pS,pT,pU,pV,pW,pX,pY,pZ,p6,p8,p9,qc,qd,qe,qf,qg,qh,qi,qj,qk,ql,qo,Zd,qp,qq,qr,qs,qt,qu,qv,qw,qx,qy,qz,qA,qB,qC,qD,qE,qF,iH,qG,qH,qI,qJ,qK,iJ,iK])
namespace B.T2
theorem rd_number_read:Rd S_number_read z_number_read Zbs:=by
 rintro _ E Q ⟨w,rfl,⟨ha,hl⟩,q⟩;dsimp only at q;unfold z_number_read;have hfl:=AS w;have hf0:(⟨(aX w).toArray⟩:Str).length=(aX w).length:=by simp[Str.length]
 have hf1:(⟨(aX w).toArray⟩:Str).cps.toList=aX w:=rfl;walk_at "nx";refine⟨_,rfl,cq (by omega),?_⟩;rw[show Txt.removeprefix w (Str.ofString "-")=_ from ES w];walk_at "nx";refine⟨_,rfl,cq (by omega),?_⟩;rw[hf0];walk_at "st";have none':lQ w=false->Q D.non:=λe=>by unfold bO at q;rw[e] at q;exact q
 have gd:lQ w=(decide (1<=(aX w).length)&&decide ((aX w).length<=20)&&(aX w).all jN && !((aX w).head? == some 48 && !(w == "0"))):=rfl
 by_cases h1:1<=(aX w).length
 case neg=>
  rw[Ht (by omega),if_neg bW];exact none' (by rw[gd,Ht h1];rfl)
 rw[Hl (by omega),Hh rfl]
 by_cases h2:(aX w).length<=20
 case neg=>
  rw[Ht (by omega),gC,Hh rfl];exact none' (by rw[gd,Ht h2,Bool.and_false];rfl)
 rw[Hl (by omega),dA,if_neg bW];refine⟨EU ha,?_⟩;unfold jg;refine lP (g:=λc:Nat=>D.str ⟨#[c]⟩) (f:=λc=>.bl (jN c)) (aX w) (λc hc Q hq=>?_) .un [] (cq (by rw[fG];omega)) ?_
 .walk_at "st"
  show Q (.bl (!(Builtin.Str.occurrences "0123456789" ⟨#[c]⟩ 0 ("0123456789" : Str).length 1).isEmpty));rw[EQ];exact hq
 refine⟨(aX w).map jN,by simp,?_⟩;rw[show((aX w).map jN).all id=(aX w).all jN by simp];cases h3:(aX w).all jN with
 |false=>
  rw[gC,Hh rfl];exact none' (by rw[gd,h3,Bool.and_false];rfl)
 |true=>
 rw[dA,if_neg bW];cases ef:aX w with
 |nil=>rw[ef] at h1;simp at h1
 |cons c r=>
 have e0:((⟨#[c]⟩:Str) == "0")=((aX w).head? == some 48):=by
  rw[ef,kq,HD,HD,show("0" : Str)=⟨#[48]⟩ by decide +kernel];simp
 walk_at "nx";refine⟨cq (by show(c::r).length<=_;rw[<-ef];omega),c,aQ (j:=0) rfl,_,_,rfl,rfl,?_⟩;rw[show(Str.ofString "0")=("0" : Str) from rfl,e0];have fin:lQ w=true->rK [.str w] Q:=λe=>⟨w,_,rfl,AO e,by
  have:=AS w;have hw:w.length<=(aX w).length+1:=by
   unfold aX;have:=j9 w;split
   .rw[List.length_tail];omega
   .omega
  omega,by unfold bO at q;rw[e] at q;exact q⟩
 cases h4:(aX w).head? == some 48 with
 |false=>
  simp only[isB,cw,if_false];exact fin (by rw[gd,h3,h4,Hl h1,Hl h2];rfl)
 |true=>
  simp only[isB,if_true];refine⟨_,_,rfl,rfl,?_⟩;cases h5:w == "0" with
  |true=>
   simp only[isB,dA,cw,if_false];exact fin (by rw[gd,h3,h4,h5,Hl h1,Hl h2];rfl)
  |false=>
   simp only[isB,gC,if_true];exact none' (by rw[gd,h3,h4,h5,Hl h1,Hl h2];rfl)
end B.T2
theorem E1{cs:List Nat}(h:AllDigits cs):digitsVal cs<10^cs.length:=by
 have key:∀(cs:List Nat) (acc:Nat),AllDigits cs->cs.foldl (λacc c=>acc*10+(c-48)) acc<(acc+1)*10^cs.length:=by
  intro cs
  induction cs with
  |nil=>intro acc _;simp
  |cons c cs ih=>
   intro acc h;have h1:=ih (acc*10+(c-48)) h.tail;have h2:=h.head;rw[wg,cD,Nat.pow_succ];refine cX h1 ?_;rw[<-Nat.mul_assoc,Nat.mul_right_comm];exact Nat.mul_le_mul_right _ (by omega)
 have:=key cs 0 h;simpa[digitsVal] using this
theorem AT{n:Nat}(h:asc x=true):d9 (.str x) n=true:=by
 rw[d9];show PyData.strOk x=true;unfold PyData.strOk;rw[wu];intro c hc;have:=Za0.mp h c (by simpa using hc);simp;omega
namespace B.T2
theorem istr_len{i:Int}(h:i.natAbs<2^72):(aO i).length<=23:=by
 have:=PySem.int_text_length_le10 (a:=i) (k:=22) (by decide) (cX h (by decide));have e:(aO i).length=(toString i:String).length:=by
  have h1:=j9 (aO i);rw[<-h1];show((Str.ofString (toString i)).cps.toList).length=_;rw[PyProof.Rows.signs_ofString,bR]
  first|rfl|exact String.length_toList|simp
 omega
theorem rd__law_signs_of:Rd S__law_signs_of z__law_signs_of vJ:=by
 rintro _ E Q ⟨_,rfl,_,q⟩;dsimp only at q;unfold z__law_signs_of;walk_at "nx";refine⟨by decide +kernel,_,rfl,by decide +kernel,?_⟩;rw[show(Str.ofString " !#$&'()*+,-./0123456789:;<=>?@ABCDEFGHIJKLMNOPQRSTUVWXYZ[]^_`abcdefghijklmnopqrstuvwxyz{|}~" ++Str.ofString "\"\\")=sgs by decide +kernel];exact q
end B.T2
theorem AU{c:Nat}:∀{L:List Str} {p:Str},p∈L->(∀d∈p.cps.toList,d∈(Str.join ⟨#[c]⟩ L).cps.toList)/\p.length<=(Str.join ⟨#[c]⟩ L).length
 |[a],p,h=>by
  rw[YbV] at h;subst h;exact⟨λd hd=>hd,bP _⟩
 |a::b::L,p,h=>by
  have len:∀{x y:Str},(x++y).length=x.length+y.length:=λ{x y}=>strLen_append ..;have e:Str.join ⟨#[c]⟩ (a::b::L)=a++⟨#[c]⟩++Str.join ⟨#[c]⟩ (b::L):=rfl;have hc:(a++⟨#[c]⟩++Str.join ⟨#[c]⟩ (b::L)).cps.toList=a.cps.toList++[c]++(Str.join ⟨#[c]⟩ (b::L)).cps.toList:=by
   simp only[Str.cps_append,sB]
  rw[e,hc,len,len];rcases Yam.mp h with rfl|h
  .exact⟨λd hd=>by simp[hd],by omega⟩
  .obtain⟨h1,h2⟩:=AU (c:=c) h
   exact⟨λd hd=>by simp[h1 d hd],by omega⟩
theorem yn{p:Str}(h:gQ w)(hp:p∈Txt.split w ⟨#[c]⟩):gQ p:=by
 obtain⟨h1,h2⟩:=AU (c:=c) hp;rw[StrLaws.join_split] at h1 h2;exact⟨Za0.mpr λd hd=>Za0.mp h.1 d (h1 d hd),gA h2 h.2⟩
theorem AV(w:Str)(c:Nat):(Txt.split w ⟨#[c]⟩).length<=w.length+2:=split_le w ⟨#[c]⟩
abbrev AW:=List D->(Ex->Prop)->(List D->Prop)->Prop
abbrev E2:=(Ex->Prop)->(List D->Prop)->bV->Prop
abbrev Dl:=Addr->Option (List D)
variable{Δ Δ1 Δ2:Dl}
def DOk(K:Hg)(W0:Wd)(H0:Hp)(W:Wd)(Δ:Dl):Prop:=∀b xs,Δ b=some xs->∃us,H0 b=some (.lst us)/\W0.G b=none/\¬W0.Pn b/\Reps K W us xs
def Mv(Δ:Dl)(H0:Hp)(Δ':Dl)(H0':Hp):Prop:=∀c o,Δ c=none->H0 c=some o->H0' c=some o/\Δ' c=none
section
variable{W:Wd}{H':Hp}
theorem Mv.refl:Mv Δ H0 Δ H0:=λ_ _ h e=>⟨e,h⟩
theorem Mv.trans(a:Mv Δ H0 Δ1 H1)(b:Mv Δ1 H1 Δ2 H2):Mv Δ H0 Δ2 H2:=λc o h e=>let⟨e1,h1⟩:=a c o h e;b c o h1 e1
theorem DOk.step(d:DOk K W0 H0 W Δ)(g:Wle W W1):DOk K W0 H0 W1 Δ:=λb xs e=>let⟨us,h1,h2,h3,r⟩:=d b xs e;⟨us,h1,h2,h3,r.mono g.g g.p⟩
theorem Ext.wle(x:Ext W H W1 H1):Wle W W1:=⟨x.g,x.p⟩
theorem Ext.le(x:Ext W H0 W1 H1)(h:∀c o,H c=some o->H0 c=some o):Ext W H W1 H1:=by
 have key:∀a,H0 a=Option.none->H a=Option.none:=λa e=>by
  cases q:H a with
  |none=>rfl
  |some o=>rw[h a o q] at e;cases e
 exact⟨x.ok,x.g,x.p,λa e n=>key a (x.gf a e n),λa e n=>key a (x.pf a e n),λa o e n=>x.h a o (h a o e) n⟩
theorem SOk.base{W0':Wd}(s:SOk K W0 H0 W σ H ρ)(x:Ext W0' H0' W H)(hb:∀a,H0 a=none->W.G a=none->¬W.Pn a->H0' a=none):SOk K W0' H0' W σ H ρ where
 ext:=x
 len:=s.len
 d:=s.d
 o:=λi xs e=>let⟨a,vs,e1,e2,e3,e4,e5,r⟩:=s.o i xs e;⟨a,vs,e1,e2,e3,e4,hb a e5 e3 e4,r⟩
 ne:=s.ne
 oo:=⟨λi xss e=>let⟨a,bs,e1,q,n⟩:=s.oo.t i xss e;⟨a,bs,e1,⟨q.a1,q.a2,q.a3,hb a q.a4 q.a2 q.a3,q.nd,q.len,λj b e=>let⟨xs,e1,vs,p1,p2,p3,p4,p5⟩:=q.row j b e;⟨xs,e1,vs,p1,p2,p3,hb b p4 p2 p3,p5⟩⟩,n⟩,s.oo.u⟩
open Classical in
noncomputable def reb (W:Wd) (H0 H:Hp):Hp:=λa=>if H0 a≠none\/W.G a≠none\/W.Pn a then H a else none
theorem E3(h:reb W H0 H a=some o):H a=some o:=by
 unfold reb at h;split at h
 .exact h
 .cases h
theorem yo(h:H0 a≠none):reb W H0 H a=H a:=by unfold reb;rw[Hh (.inl h)]
theorem E4(h:H0 a=none)(g:W.G a=none)(p:¬W.Pn a):reb W H0 H a=none:=by
 unfold reb;rw[if_neg];rintro(z|z|z)
 .exact z h
 .exact z g
 .exact p z
theorem Ext.nz(x:Ext W0 H0 W H)(h:H0 a≠Option.none):H a≠Option.none:=λz=>h (x.isN z)
theorem Ext.rebIn(ok:WOk W H):Ext W (reb W H0 H) W H:=⟨ok,λ_ _ e=>e,λ_ e=>e,λ_ e n=>Hj e n,λ_ n e=>Hj e n,λ_ _ e _=>E3 e⟩
theorem Ext.rebOut(x:Ext W0 H0 W H)(y:Ext W (reb W H0 H) W' H'):Ext W0 H0 W' H':=by
 have key:∀a,reb W H0 H a=Option.none->H0 a=Option.none:=λa e=>by
  cases q:H0 a with
  |none=>rfl
  |some o=>
   have hq:H0 a≠Option.none:=by rw[q];simp
   rw[yo hq] at e;exact Hj e (x.nz hq)
 refine⟨y.ok,λa o e=>y.g a o (x.g a o e),λa e=>y.p a (x.p a e),λa e n=>?_,λa e n=>?_,λa o e n=>?_⟩
 .by_cases q:W.G a=Option.none
  .exact key a (y.gf a q n)
  .exact x.gf a e q
 .by_cases q:W.Pn a
  .exact x.pf a e q
  .exact key a (y.pf a q n)
 .refine y.h a o (by rw[yo (by rw[e];simp)];exact x.h a o e n) λq=>?_
  have:=x.pf a n q;rw[e] at this;cases this
theorem SOk.rebIn(s:SOk K W0 H0 W σ H ρ):SOk K W (reb W H0 H) W σ H ρ:=s.base (.rebIn s.ok) λ_ h g p=>E4 h g p
theorem SOk.rebOut{σ':L2.St}{ρ':bV}(x:Ext W0 H0 W H)(s:SOk K W (reb W H0 H) W' σ' H' ρ'):SOk K W0 H0 W' σ' H' ρ':=s.base (x.rebOut s.ext) λa h _ _=>by
 cases q:H0 a with
 |none=>rfl
 |some o=>
  have hq:H0 a≠none:=by rw[q];simp
  rw[yo hq] at h;exact Hj h (x.nz hq)
theorem SOk.chgB{Hm:Hp}(s:SOk K W0 H0 W σ H ρ)(T:Addr->Prop)(hT:∀c,T c->(H0 c≠none\/H c=none)/\W.G c=none/\¬W.Pn c/\H0' c=Hm c)(hN:∀c,¬T c->H0' c=H0 c/\Hm c=H c):SOk K W0 H0' W σ Hm ρ:=by
 have own:∀{a:Addr} {o:HO},H0 a=none->H a=some o->¬T a:=λ{a o} h0 h t=>by
  rcases(hT a t).1 with z|z
  .exact z h0
  .rw[h] at z;cases z
 have own1:∀{b:Addr} {xs:List D},Own1 K H0 W H b xs->Own1 K H0' W Hm b xs:=λ{b xs} ⟨vs,e2,e3,e4,e5,r⟩=>by
  have n:=hN b (own e5 e2);exact⟨vs,by rw[n.2];exact e2,e3,e4,by rw[n.1];exact e5,r⟩
 refine⟨⟨⟨λa o e=>?_,λa e=>?_⟩,s.ext.g,s.ext.p,λa e n=>?_,λa e n=>?_,λa o e n=>?_⟩,s.len,s.d,λi xs e=>?_,s.ne,⟨λi xss e=>?_,s.oo.u⟩⟩
 .rw[(hN a λt=>by rw[(hT a t).2.1] at e;cases e).2];exact s.ok.g a o e
 .obtain⟨⟨i,j,k,q⟩,g⟩:=s.ok.p a e
  exact⟨⟨i,j,k,by rw[(hN a λt=>(hT a t).2.2.1 e).2];exact q⟩,g⟩
 .rw[(hN a λt=>n (hT a t).2.1).1];exact s.ext.gf a e n
 .rw[(hN a λt=>(hT a t).2.2.1 n).1];exact s.ext.pf a e n
 .by_cases t:T a
  .rw[<-(hT a t).2.2.2];exact e
  .rw[(hN a t).1] at e;rw[(hN a t).2];exact s.ext.h a o e n
 .obtain⟨a,vs,e1,e2⟩:=s.o i xs e
  obtain⟨vs',q⟩:=own1 ⟨vs,e2⟩;exact⟨a,vs',e1,q⟩
 .obtain⟨a,bs,e1,q,n⟩:=s.oo.t i xss e
  have na:=hN a (own q.a4 q.a1);exact⟨a,bs,e1,⟨by rw[na.2];exact q.a1,q.a2,q.a3,by rw[na.1];exact q.a4,q.nd,q.len,λj b e=>let⟨xs,e1,p⟩:=q.row j b e;⟨xs,e1,own1 p⟩⟩,n⟩
theorem DOk.now(d:DOk K W0 H0 W Δ)(x:Ext W0 H0 W H)(e:Δ b=some xs):∃us,H0 b=some (.lst us)/\H b=some (.lst us)/\W.G b=none/\¬W.Pn b/\Reps K W us xs:=by
 obtain⟨us,h1,h2,h3,r⟩:=d b xs e;refine⟨us,h1,x.h b _ h1 h3,?_,λz=>?_,r⟩
 .cases q:W.G b with
  |none=>rfl
  |some o=>have:=x.gf b h2 (by rw[q];simp);rw[h1] at this;cases this
 .have:=x.pf b h3 z;rw[h1] at this;cases this
theorem SOk.after(s:SOk K W0 H0 W σ H ρ)(d:DOk K W0 H0 W Δ)(m:Mv Δ H Δ1 H0')(y:Ext W H0' W1 H1)(d1:DOk K W H0' W1 Δ1):∃H0'',Mv Δ H0 Δ1 H0''/\SOk K W0 H0'' W1 σ H1 ρ/\DOk K W0 H0'' W1 Δ1:=by
 classical
 let T:Addr->Prop:=λc=>Δ c≠none\/Δ1 c≠none
 let H0'':Hp:=λc=>if T c then H0' c else H0 c
 let Hm:Hp:=λc=>if T c then H0' c else H c
 have tT:∀c,T c->(H0 c≠none\/H c=none)/\W.G c=none/\¬W.Pn c:=λc t=>by
  rcases t with t|t
  .cases q:Δ c with
   |none=>exact Hj q t
   |some xs=>obtain⟨us,h1,h2,h3,h4,r⟩:=d.now s.ext q;exact⟨.inl (by rw[h1];simp),h3,h4⟩
  .cases q:Δ1 c with
   |none=>exact Hj q t
   |some xs=>
    obtain⟨us,h1,h2,h3,r⟩:=d1 c xs q;refine⟨?_,h2,h3⟩;cases p:Δ c with
    |some ys=>obtain⟨us,h1,_⟩:=d.now s.ext p;exact .inl (by rw[h1];simp)
    |none=>
     cases e:H c with
     |none=>exact .inr rfl
     |some o=>have:=(m c o p e).2;rw[q] at this;cases this
 have at1:∀c,T c->H0'' c=H0' c/\Hm c=H0' c:=λc t=>⟨Hh t,Hh t⟩;have at0:∀c,¬T c->H0'' c=H0 c/\Hm c=H c:=λc t=>⟨if_neg t,if_neg t⟩;have s1:SOk K W0 H0'' W σ Hm ρ:=s.chgB T (λc t=>⟨(tT c t).1,(tT c t).2.1,(tT c t).2.2,(at1 c t).1.trans (at1 c t).2.symm⟩) at0;have x1:Ext W Hm W1 H1:=y.le λc o e=>by
  by_cases t:T c
  .rw[(at1 c t).2] at e;exact e
  .rw[(at0 c t).2] at e
   have:Δ c=none:=by cases q:Δ c with|none=>rfl|some xs=>exact Hj (.inl (by rw[q];simp)) t
   exact(m c o this e).1
 refine⟨H0'',λc o h e=>?_,s1.step x1,λb xs e=>?_⟩
 .have n1:Δ1 c=none:=by
   cases q:H c with
   |none=>exact Hj q (s.ext.nz (by rw[e];simp))
   |some o'=>exact(m c o' h q).2
  refine⟨?_,n1⟩;rw[(at0 c λt=>by rcases t with t|t;exact t h;exact t n1).1];exact e
 .obtain⟨us,h1,h2,h3,r⟩:=d1 b xs e
  refine⟨us,by rw[(at1 b (.inr (by rw[e];simp))).1];exact h1,?_,λz=>h3 (s.ext.p b z),r⟩;cases q:W0.G b with
  |none=>rfl
  |some o=>have:=s.ext.g b o q;rw[h2] at this;cases this
end
abbrev ED:=Ex->Dl->Prop
structure NdD where
 nx:bV->Dl->Prop
 rt:D->Dl->Prop
 bk:bV->Dl->Prop:=λ_ _=>False
 ct:bV->Dl->Prop:=λ_ _=>False
def NdD.to(N:NdD)(Δ:Dl):Nds:=⟨λρ=>N.nx ρ Δ,λd=>N.rt d Δ,λρ=>N.bk ρ Δ,λρ=>N.ct ρ Δ⟩
structure NdD.le(N N':NdD):Prop where
 nx:∀ρ Δ,N.nx ρ Δ->N'.nx ρ Δ
 rt:∀d Δ,N.rt d Δ->N'.rt d Δ
 bk:∀ρ Δ,N.bk ρ Δ->N'.bk ρ Δ
 ct:∀ρ Δ,N.ct ρ Δ->N'.ct ρ Δ
def NxD(K:Hg)(W0:Wd)(H0:Hp)(Δ:Dl)(F:Wd)(n:L2.St->Hp->Prop)(N:bV->Dl->Prop):Prop:=∀H0' Δ' W σ H ρ,Mv Δ H0 Δ' H0'->SOk K W0 H0' W σ H ρ->DOk K W0 H0' W Δ'->Wle F W->N ρ Δ'->n σ H
def RtD(K:Hg)(W0:Wd)(H0:Hp)(Δ:Dl)(n:V->Hp->Prop)(N:D->Dl->Prop):Prop:=∀H0' Δ' d v W H,Mv Δ H0 Δ' H0'->Ext W0 H0' W H->DOk K W0 H0' W Δ'->Rep K W v d->N d Δ'->n v H
structure NOkD(K:Hg)(W0:Wd)(H0:Hp)(Δ:Dl)(F:Wd)(Dn:e8)(N:NdD):Prop where
 nx:NxD K W0 H0 Δ F Dn.nx N.nx
 rt:RtD K W0 H0 Δ Dn.rt N.rt
 bk:NxD K W0 H0 Δ F Dn.bk N.bk
 ct:NxD K W0 H0 Δ F Dn.ct N.ct
def EOkD(K:Hg)(W0:Wd)(H0:Hp)(Δ:Dl)(E:ED)(EX:XK):Prop:=∀H0' Δ' ex W H cls dx,Mv Δ H0 Δ' H0'->E ex Δ'->Ext W0 H0' W H->DOk K W0 H0' W Δ'->nO K W H cls dx ex->EX cls dx H
section
variable{F:Wd}{N:NdD}{E:ED}
theorem NxD.mv{n:L2.St->Hp->Prop}{N:bV->Dl->Prop}(o:NxD K W0 H0 Δ F n N)(m:Mv Δ H0 Δ1 H1):NxD K W0 H1 Δ1 F n N:=λH0' Δ' W σ H ρ m'=>o H0' Δ' W σ H ρ (m.trans m')
theorem RtD.mv{n:V->Hp->Prop}{N:D->Dl->Prop}(o:RtD K W0 H0 Δ n N)(m:Mv Δ H0 Δ1 H1):RtD K W0 H1 Δ1 n N:=λH0' Δ' d v W H m'=>o H0' Δ' d v W H (m.trans m')
theorem NOkD.mv(o:NOkD K W0 H0 Δ F Dn N)(m:Mv Δ H0 Δ1 H1):NOkD K W0 H1 Δ1 F Dn N:=⟨o.nx.mv m,o.rt.mv m,o.bk.mv m,o.ct.mv m⟩
theorem EOkD.mv(o:EOkD K W0 H0 Δ E EX)(m:Mv Δ H0 Δ1 H1):EOkD K W0 H1 Δ1 E EX:=λH0' Δ' ex W H cls dx m'=>o H0' Δ' ex W H cls dx (m.trans m')
end
abbrev cU:=ED->bV->Dl->(D->Dl->Prop)->Prop
variable{wd:cU}
abbrev iN:=ED->bV->Dl->(Bool->Dl->Prop)->Prop
abbrev dv:=ED->NdD->bV->Dl->Prop
variable{zb:dv}
def RD(K:Hg)(W0:Wd)(H0:Hp)(Δ:Dl)(W:Wd)(σ:L2.St)(ρ:bV)(Q:Hp->Prop)(R:Wd->Prop)(Δ':Dl):Prop:=∀W' H0' H',Mv Δ H0 Δ' H0'->SOk K W0 H0' W' σ H' ρ->DOk K W0 H0' W' Δ'->Wle W W'->R W'->Q H'
structure d4(X:Cx)(EX:XK)(e:Expr)(w:cU):Prop where
 t:∃t,PE X e t/\∀W0 H0 W σ H ρ Δ E Q,SOk X.K W0 H0 W σ H ρ->DOk X.K W0 H0 W Δ->EOkD X.K W0 H0 Δ E EX->w E ρ Δ (λd Δ'=>∀v,RD X.K W0 H0 Δ W σ ρ (Q v) (λW'=>Rep X.K W' v d) Δ')->t σ H Q
 mono:∀E ρ Δ P P',(∀d δ,P d δ->P' d δ)->w E ρ Δ P->w E ρ Δ P'
structure gk(X:Cx)(EX:XK)(e:Expr)(w:iN):Prop where
 t:∃t,PT X e t/\∀W0 H0 W σ H ρ Δ E Q,SOk X.K W0 H0 W σ H ρ->DOk X.K W0 H0 W Δ->EOkD X.K W0 H0 Δ E EX->w E ρ Δ (λb Δ'=>RD X.K W0 H0 Δ W σ ρ (Q b) (λ_=>True) Δ')->t σ H Q
 mono:∀E ρ Δ P P',(∀d δ,P d δ->P' d δ)->w E ρ Δ P->w E ρ Δ P'
structure mT(X:Cx)(EX:XK)(st:Stmt)(z:dv):Prop where
 t:∃t,PS X st t/\∀W0 H0 F W σ H ρ Δ E Dn N,SOk X.K W0 H0 W σ H ρ->DOk X.K W0 H0 W Δ->Wle F W->EOkD X.K W0 H0 Δ E EX->NOkD X.K W0 H0 Δ F Dn N->z E N ρ Δ->t Dn σ H
 mono:∀E ρ Δ N N',N.le N'->z E N ρ Δ->z E N' ρ Δ
structure dU(X:Cx)(EX:XK)(sts:List Stmt)(z:dv):Prop where
 t:∃t,kz X sts t/\∀W0 H0 F W σ H ρ Δ E Dn N,SOk X.K W0 H0 W σ H ρ->DOk X.K W0 H0 W Δ->Wle F W->EOkD X.K W0 H0 Δ E EX->NOkD X.K W0 H0 Δ F Dn N->z E N ρ Δ->t Dn σ H
 mono:∀E ρ Δ N N',N.le N'->z E N ρ Δ->z E N' ρ Δ
section
variable{W F:Wd}{N:NdD}{E:ED}
theorem EOkD.one(o:EOkD K W0 H0 Δ E EX)(x:Ext W0 H0 W H)(d:DOk K W0 H0 W Δ):gv K W (reb W H0 H) (λex=>E ex Δ) EX:=λex W' H' cls dx he y r=>o H0 Δ ex W' H' cls dx .refl he (x.rebOut y) (d.step y.wle) r
theorem RD.of{Q:Hp->Prop}(h:RD K W0 H0 Δ W σ ρ Q R Δ)(s:SOk K W0 H0 W σ H ρ)(d:DOk K W0 H0 W Δ)(y:Ext W H W1 H1)(r:R W1):Q H1:=h W1 H0 H1 .refl (s.step y) (d.step y.wle) y.wle r
theorem RD.mv{Q:Hp->Prop}(h:RD K W0 H0 Δ W σ ρ Q R Δ2)(m:Mv Δ H0 Δ1 H1)(g:Wle W W1):RD K W0 H1 Δ1 W1 σ ρ Q R Δ2:=λW' H0' H' m' s' d' g' r'=>h W' H0' H' (m.trans m') s' d' (g.trans g') r'
end
section
variable{st:Stmt}{bD:List Stmt}{a b c:Expr}{w:WE}{wb:cU}{zd zd':dv}
def dE(w:WE):cU:=λE ρ Δ Q=>w (λex=>E ex Δ) ρ λd=>Q d Δ
theorem t7(h:PX X EX e w):d4 X EX e (dE w):=by
 obtain⟨t,p,k⟩:=h.t;refine⟨⟨t,p,λW0 H0 W σ H ρ Δ E Q s d eo q=>?_⟩,λE ρ Δ P P' hp q=>h.mono _ _ _ _ (λd hd=>hp d Δ hd) q⟩;exact k W _ W σ H ρ _ Q s.rebIn (eo.one s.ext d) (h.mono _ _ _ _ (λ_ hd v W1 H1 y r=>(hd v).of s d y r) q)
def dT(w:WT):iN:=λE ρ Δ Q=>w (λex=>E ex Δ) ρ λb=>Q b Δ
theorem vK{w:WT}(h:iw X EX e w):gk X EX e (dT w):=by
 obtain⟨t,p,k⟩:=h.t;refine⟨⟨t,p,λW0 H0 W σ H ρ Δ E Q s d eo q=>?_⟩,λE ρ Δ P P' hp q=>h.mono _ _ _ _ (λd hd=>hp d Δ hd) q⟩;exact k W _ W σ H ρ _ Q s.rebIn (eo.one s.ext d) (h.mono _ _ _ _ (λ_ hd W1 H1 y=>hd.of s d y trivial) q)
def dS(z:WS):dv:=λE N ρ Δ=>z (λex=>E ex Δ) (N.to Δ) ρ
theorem dS.le{N N':NdD}(hl:N.le N')(Δ:Dl):(N.to Δ).le (N'.to Δ):=⟨λρ=>hl.nx ρ Δ,λd=>hl.rt d Δ,λρ=>hl.bk ρ Δ,λρ=>hl.ct ρ Δ⟩
theorem NOkD.one{W F:Wd}{N:NdD}(no:NOkD K W0 H0 Δ F Dn N)(s:SOk K W0 H0 W σ H ρ)(d:DOk K W0 H0 W Δ)(fl:Wle F W):tE K W (reb W H0 H) W Dn (N.to Δ):=
 ⟨λW1 σ1 H1 ρ1 s1 f1 q=>no.nx H0 Δ W1 σ1 H1 ρ1 .refl (s1.rebOut s.ext) (d.step f1) (fl.trans f1) q,λx v W1 H1 y r q=>no.rt H0 Δ x v W1 H1 .refl (s.ext.rebOut y) (d.step y.wle) r q,
  λW1 σ1 H1 ρ1 s1 f1 q=>no.bk H0 Δ W1 σ1 H1 ρ1 .refl (s1.rebOut s.ext) (d.step f1) (fl.trans f1) q,λW1 σ1 H1 ρ1 s1 f1 q=>no.ct H0 Δ W1 σ1 H1 ρ1 .refl (s1.rebOut s.ext) (d.step f1) (fl.trans f1) q⟩
theorem t8(h:PZ X EX st z):mT X EX st (dS z):=by
 obtain⟨t,p,k⟩:=h.t;refine⟨⟨t,p,λW0 H0 F W σ H ρ Δ E Dn N s d fl eo no q=>?_⟩,λE ρ Δ N N' hl q=>h.mono _ _ _ _ (dS.le hl Δ) q⟩;exact k W _ W W σ H ρ _ Dn _ s.rebIn (.refl W) (eo.one s.ext d) (no.one s d fl) q
theorem ee(h:ix X EX sts z):dU X EX sts (dS z):=by
 obtain⟨t,p,k⟩:=h.t;refine⟨⟨t,p,λW0 H0 F W σ H ρ Δ E Dn N s d fl eo no q=>?_⟩,λE ρ Δ N N' hl q=>h.mono _ _ _ _ (dS.le hl Δ) q⟩;exact k W _ W W σ H ρ _ Dn _ s.rebIn (.refl W) (eo.one s.ext d) (no.one s d fl) q
def aY(z z':dv):dv:=λE N ρ Δ=>z E { N with nx:=z' E N } ρ Δ
theorem eh(h1:mT X EX st zd)(h2:dU X EX bD zd'):dU X EX (st::bD) (aY zd zd'):=by
 obtain⟨t1,p1,k1⟩:=h1.t;obtain⟨t2,p2,k2⟩:=h2.t;refine⟨⟨_,gE p1 p2,λW0 H0 F W σ H ρ Δ E Dn N s d fl eo no h=>?_⟩,λE ρ Δ N N' hl h=>h1.mono _ _ _ { N with nx:=zd' E N } { N' with nx:=zd' E N' } ⟨λρ' Δ' h'=>h2.mono _ _ _ _ _ hl h',hl.rt,hl.bk,hl.ct⟩ h⟩;exact k1 W0 H0 F W σ H ρ Δ E _ { N with nx:=zd' E N } s d fl eo ⟨λH0' Δ' W1 σ1 H1 ρ1 m s1 d1 f1 hn=>k2 W0 H0' F W1 σ1 H1 ρ1 Δ' E Dn N s1 d1 f1 (eo.mv m) (no.mv m) hn,no.rt,no.bk,no.ct⟩ h
theorem qQ(h:mT X EX st zd):dU X EX [st] zd:=let⟨t,p,k⟩:=h.t;⟨⟨_,fL p,k⟩,h.mono⟩
def dw(w:iN)(z z':dv):dv:=λE N ρ Δ=>w E ρ Δ λb δ=>if b=true then z E N ρ δ else z' E N ρ δ
theorem lr{w:iN}{bs:List Stmt}(hc:gk X EX c w)(ha:dU X EX as zd)(hb:dU X EX bs zd'):mT X EX (.If c as bs pos) (dw w zd zd'):=by
 obtain⟨t,p,k⟩:=hc.t;obtain⟨ta,pa,ka⟩:=ha.t;obtain⟨tb,pb,kb⟩:=hb.t;refine⟨⟨_,nw p pa pb,λW0 H0 F W σ H ρ Δ E Dn N s d fl eo no h=>?_⟩,λE ρ Δ N N' hl q=>hc.mono _ _ _ _ _ (λb δ hb'=>?_) q⟩
 .refine k W0 H0 W σ H ρ Δ E _ s d eo (hc.mono _ _ _ _ _ (λb δ hb' W1 H0' H1 m s1 d1 g1 _=>?_) h)
  cases b with
  |true=>rw[Hh rfl] at hb' ⊢;exact ka W0 H0' F W1 σ H1 ρ δ E Dn N s1 d1 (fl.trans g1) (eo.mv m) (no.mv m) hb'
  |false=>rw[if_neg (by decide)] at hb' ⊢;exact kb W0 H0' F W1 σ H1 ρ δ E Dn N s1 d1 (fl.trans g1) (eo.mv m) (no.mv m) hb'
 .cases b with
  |true=>rw[Hh rfl] at hb' ⊢;exact ha.mono _ _ _ _ _ hl hb'
  |false=>rw[if_neg (by decide)] at hb' ⊢;exact hb.mono _ _ _ _ _ hl hb'
def ls(w:cU):dv:=λE N ρ Δ=>w E ρ Δ N.rt
theorem AX(he:d4 X EX e wd):mT X EX (.Return (some e) pos) (ls wd):=by
 obtain⟨t,p,k⟩:=he.t;refine⟨⟨_,kF p,λW0 H0 F W σ H ρ Δ E Dn N s d fl eo no h=>?_⟩,λE ρ Δ N N' hl q=>he.mono _ _ _ _ _ hl.rt q⟩;exact k W0 H0 W σ H ρ Δ E _ s d eo (he.mono _ _ _ _ _ (λx δ hd v W1 H0' H1 m s1 d1 g1 r1=>no.rt H0' δ x v W1 H1 m s1.ext d1 r1 hd) h)
def mU(w:cU):dv:=λE N ρ Δ=>w E ρ Δ λ_ δ=>N.nx ρ δ
theorem t9(he:d4 X EX e wd)(hs:swapsWith e none pos.line X.env=pure false:=by rfl):mT X EX (.Expr e pos) (mU wd):=by
 obtain⟨t,p,k⟩:=he.t;refine⟨⟨_,fM p hs,λW0 H0 F W σ H ρ Δ E Dn N s d fl eo no h=>?_⟩,λE ρ Δ N N' hl q=>he.mono _ _ _ _ _ (λ_ δ=>hl.nx ρ δ) q⟩;exact k W0 H0 W σ H ρ Δ E _ s d eo (he.mono _ _ _ _ _ (λx δ hd v W1 H0' H1 m s1 d1 g1 r1=>no.nx H0' δ W1 σ H1 ρ m s1 d1 (fl.trans g1) hd) h)
def cV(i:Nat)(w:cU):dv:=λE N ρ Δ=>w E ρ Δ λx δ=>N.nx (ρ.set i (.d x)) δ
theorem rP(i:Nat)(he:d4 X EX e wd)(hN:X.N.Nodup)(hi:X.N[i]? = some x:=by rfl)(hx:jX X.env.scope x:=by first|exact Or.inl rfl|exact Or.inr rfl)(hs:swapsWith e (some (.Name x pos')) pos.line X.env=pure false:=by rfl)
  (hf:X.fn x=true\/X.env.scope.names.lookup x=some .local:=by first|exact .inl rfl|exact .inr rfl|assumption):mT X EX (.Assign [.Name x pos'] e pos) (cV i wd):=by
 obtain⟨t,p,k⟩:=he.t;refine⟨⟨_,hX hN hi hx p hs hf,λW0 H0 F W σ H ρ Δ E Dn N s d fl eo no h=>?_⟩,λE ρ Δ N N' hl q=>he.mono _ _ _ _ _ (λ_ δ=>hl.nx _ δ) q⟩;exact k W0 H0 W σ H ρ Δ E _ s d eo (he.mono _ _ _ _ _ (λy δ hd v W1 H0' H1 m s1 d1 g1 r1=>no.nx H0' δ W1 _ H1 _ m (s1.set r1) d1 (fl.trans g1) hd) h)
def oa(w w':iN):iN:=λE ρ Δ Q=>w E ρ Δ λb δ=>if b=true then Q true δ else w' E ρ δ Q
structure PXWD(X:Cx)(EX:XK)(e:Expr)(w:iN):Prop where
 t:∃t,PW X e t/\∀W0 H0 W σ H ρ Δ E Q,SOk X.K W0 H0 W σ H ρ->DOk X.K W0 H0 W Δ->EOkD X.K W0 H0 Δ E EX->w E ρ Δ (λb Δ'=>RD X.K W0 H0 Δ W σ ρ (Q b) (λ_=>True) Δ')->t σ H Q
 mono:∀E ρ Δ P P',(∀d δ,P d δ->P' d δ)->w E ρ Δ P->w E ρ Δ P'
theorem PXWD.pxt{w:iN}(h:PXWD X EX a w):gk X EX a w:=let⟨t,p,k⟩:=h.t;⟨⟨t,p.pt,k⟩,h.mono⟩
theorem AY{w:iN}(ha:gk X EX a w):PXWD X EX (.BoolOp .Or [a] pos) w:=let⟨t,p,k⟩:=ha.t;⟨⟨t,kA p,k⟩,ha.mono⟩
theorem AZ{w w':iN}(ha:gk X EX a w)(hb:PXWD X EX (.BoolOp .Or (b::es) pos) w'):PXWD X EX (.BoolOp .Or (a::b::es) pos) (oa w w'):=by
 obtain⟨ta,pa,ka⟩:=ha.t;obtain⟨tb,pb,kb⟩:=hb.t;refine⟨⟨_,nr pa pb,λW0 H0 W σ H ρ Δ E Q s d eo h=>?_⟩,λE ρ Δ P P' hp h=>ha.mono _ _ _ _ _ (λb δ hb'=>?_) h⟩
 .refine ka W0 H0 W σ H ρ Δ E _ s d eo (ha.mono _ _ _ _ _ (λb δ hb' W1 H0' H1 m s1 d1 g1 _=>?_) h)
  cases b with
  |true=>rw[Hh rfl] at hb' ⊢;exact hb' W1 H0' H1 m s1 d1 g1 trivial
  |false=>
   rw[if_neg (by decide)] at hb' ⊢;exact kb W0 H0' W1 σ H1 ρ δ E _ s1 d1 (eo.mv m) (hb.mono _ _ _ _ _ (λb _ hq=>hq.mv m g1) hb')
 .cases b with
  |true=>rw[Hh rfl] at hb' ⊢;exact hp _ _ hb'
  |false=>rw[if_neg (by decide)] at hb' ⊢;exact hb.mono _ _ _ _ _ hp hb'
def en(w:iN):iN:=λE ρ Δ Q=>w E ρ Δ λb=>Q (!b)
theorem A0{w:iN}(ha:gk X EX a w):gk X EX (.UnaryOp .Not a pos) (en w):=by
 obtain⟨ta,pa,ka⟩:=ha.t;exact⟨⟨_,kB pa,λW0 H0 W σ H ρ Δ E Q s d eo h=>ka W0 H0 W σ H ρ Δ E _ s d eo h⟩,λE ρ Δ P P' hp h=>ha.mono _ _ _ _ _ (λb δ hb=>hp _ _ hb) h⟩
def kf(w:cU):iN:=λE ρ Δ Q=>w E ρ Δ λd δ=>isB (λb=>Q b δ) d
theorem A1(ha:d4 X EX a wd)(he:∀whole,isTrue a X.env whole=(do let v <-whole;standAt a.pos;holding [v] (truthy v)):=by intro _;rfl):gk X EX a (kf wd):=by
 obtain⟨ta,pa,ka⟩:=ha.t;refine⟨⟨_,gF pa he,λW0 H0 W σ H ρ Δ E Q s d eo h=>?_⟩,λE ρ Δ P P' hp h=>ha.mono _ _ _ _ _ (λd δ hd=>isB.mono (λb=>hp b δ) d hd) h⟩;refine ka W0 H0 W σ H ρ Δ E _ s d eo (ha.mono _ _ _ _ _ (λx δ hd v W1 H0' H1 m s1 d1 g1 r1=>?_) h);obtain⟨b,rfl,q⟩:=mB hd;cases r1;exact⟨b,rfl,q W1 H0' H1 m s1 d1 g1 trivial⟩
def cP(g:G2)(wd:cU)(w:WE):iN:=λE ρ Δ Q=>wd E ρ Δ λx δ=>w (λex=>E ex δ) ρ λy=>g x y (isB λb=>Q b δ)
theorem qR{g:G2}(ho:c8 X (compareOp op) g)(ha:d4 X EX a wd)(hb:PX X EX b w)(hm:behindInMarks op b=false:=by first|exact fO _|with_unfolding_all rfl):gk X EX (.Compare a [op] [b] pos) (cP g wd w):=by
 obtain⟨ta,pa,ka⟩:=ha.t;obtain⟨tb,pb,kb⟩:=hb.t;obtain⟨r,pr,kr⟩:=ho.t;refine⟨⟨_,eA pr pa pb hm,λW0 H0 W σ H ρ Δ E Q s d eo h=>?_⟩,λE ρ Δ P P' hp h=>ha.mono _ _ _ _ _ (λx δ hx=>hb.mono _ _ _ _ (λy hy=>ho.mono _ _ _ _ (isB.mono λb=>hp b δ) hy) hx) h⟩;refine ka W0 H0 W σ H ρ Δ E _ s d eo (ha.mono _ _ _ _ _ (λx δ hx v W1 H0' H1 m s1 d1 g1 r1=>?_) h);refine kb W1 _ W1 σ H1 ρ _ _ s1.rebIn ((eo.mv m).one s1.ext d1) (hb.mono _ _ _ _ (λy hy u W2 H2 y2 r2=>?_) hx);refine kr W2 H2 v u x y _ y2.ok (y2.rep r1) r2 (ho.mono _ _ _ _ (λdd hd v3 W3 H3 y3 r3=>?_) hy);obtain⟨b,rfl,q⟩:=mB hd;cases r3;exact⟨b,rfl,(q.mv m g1).of s1 d1 (y2.trans y3) trivial⟩
end
def cj(Δ:Dl)(b:Addr)(xs:List D):Dl:=λc=>if c=b then some xs else Δ c
theorem mV:cj Δ b xs b=some xs:=Hh rfl
theorem qS{c:Addr}(h:c≠b):cj Δ b xs c=Δ c:=if_neg h
theorem vL(h:Δ b=some xs):cj Δ b xs=Δ:=by
 funext c;unfold cj;split
 .rename_i e;rw[e,h]
 .rfl
abbrev fk:=List D->Dl->ED->(D->Dl->Prop)->Prop
def lu(S:fk):Prop:=∀ds Δ E E' Q Q',(∀ex δ,E ex δ->E' ex δ)->(∀d δ,Q d δ->Q' d δ)->S ds Δ E Q->S ds Δ E' Q'
def vM(K:Hg)(S:fk):Sp:=λvs H Q EX=>∃ds W Δ,WOk W H/\Reps K W vs ds/\DOk K W H W Δ/\
 S ds Δ (λex δ=>∀H0' W' H' cls dx,Mv Δ H δ H0'->Ext W H0' W' H'->DOk K W H0' W' δ->nO K W' H' cls dx ex->EX cls dx H') (λd δ=>∀v H0' W' H',Mv Δ H δ H0'->Ext W H0' W' H'->DOk K W H0' W' δ->Rep K W' v d->Q v H')
section
variable{W:Wd}{E:ED}
theorem ua{S:fk}{Q:VK}(hS:lu S)(s:SOk K W0 H0 W σ H ρ)(d:DOk K W0 H0 W Δ)(eo:EOkD K W0 H0 Δ E EX)(r:Reps K W vs ds)(hq:S ds Δ E (λx δ=>∀v,RD K W0 H0 Δ W σ ρ (Q v) (λW'=>Rep K W' v x) δ)):vM K S vs H Q EX:=by
 refine⟨ds,W,Δ,s.ok,r,λb xs e=>let⟨us,_,h1,h2,h3,r⟩:=d.now s.ext e;⟨us,h1,h2,h3,r⟩,hS _ _ _ _ _ _ (λex δ he H0' W' H' cls dx m y d1 xr=>?_) (λx δ hx v H0' W' H' m y d1 r1=>?_) hq⟩
 .obtain⟨H2,m2,s2,d2⟩:=s.after d m y d1
  exact eo H2 δ ex W' H' cls dx m2 he s2.ext d2 xr
 .obtain⟨H2,m2,s2,d2⟩:=s.after d m y d1
  exact hx v W' H2 H' m2 s2 d2 y.wle r1
theorem SOk.putB(s:SOk K W0 H0 W σ H ρ)(d:DOk K W0 H0 W Δ)(e:Δ b=some xs)(r:Reps K W us ys):Mv Δ H0 (cj Δ b ys) (upd H0 b (.lst us))/\SOk K W0 (upd H0 b (.lst us)) W σ (upd H b (.lst us)) ρ/\DOk K W0 (upd H0 b (.lst us)) W (cj Δ b ys):=by
 obtain⟨vs,h1,h2,h3,h4,_⟩:=d.now s.ext e;refine⟨λc o hc ec=>?_,s.chgB (· = b) (λc hc=>?_) λc hc=>⟨aE hc,aE hc⟩,λc zs ec=>?_⟩
 .have ne:c≠b:=λz=>by rw[z,e] at hc;cases hc
  exact⟨by rw[aE ne];exact ec,by rw[qS ne];exact hc⟩
 .subst hc
  exact⟨.inl (by rw[h1];simp),h3,h4,by rw[aG,aG]⟩
 .by_cases ne:c=b
  .subst ne
   rw[mV] at ec;cases ec;obtain⟨_,_,g,p,_⟩:=d c xs e;exact⟨us,aG,g,p,r⟩
  .rw[qS ne] at ec
   obtain⟨ws,q1,q2⟩:=d c zs ec;exact⟨ws,by rw[aE ne];exact q1,q2⟩
theorem SOk.newB(s:SOk K W0 H0 W σ H ρ)(d:DOk K W0 H0 W Δ)(e:H b=none)(r:Reps K W us ys):Δ b=none/\Mv Δ H0 (cj Δ b ys) (upd H0 b (.lst us))/\SOk K W0 (upd H0 b (.lst us)) W σ (upd H b (.lst us)) ρ/\DOk K W0 (upd H0 b (.lst us)) W (cj Δ b ys):=by
 have hn:Δ b=none:=by
  cases q:Δ b with
  |none=>rfl
  |some xs=>obtain⟨_,_,h,_⟩:=d.now s.ext q;rw[e] at h;cases h
 have h0:H0 b=none:=s.ext.isN e;obtain⟨g,p⟩:=s.ok.fresh e;refine⟨hn,λc o hc ec=>?_,s.chgB (· = b) (λc hc=>?_) λc hc=>⟨aE hc,aE hc⟩,λc zs ec=>?_⟩
 .have ne:c≠b:=λz=>by rw[z,h0] at ec;cases ec
  exact⟨by rw[aE ne];exact ec,by rw[qS ne];exact hc⟩
 .subst hc
  exact⟨.inr e,g,p,by rw[aG,aG]⟩
 .by_cases ne:c=b
  .subst ne
   rw[mV] at ec;cases ec;refine⟨us,aG,?_,λz=>p (s.ext.p _ z),r⟩;cases q:W0.G c with
   |none=>rfl
   |some o=>have:=s.ext.g _ _ q;rw[g] at this;cases this
  .rw[qS ne] at ec
   obtain⟨ws,q1,q2⟩:=d c zs ec;exact⟨ws,by rw[aE ne];exact q1,q2⟩
end
structure rQ(P:Program)(w:World)(K:Hg)(mg:Str->Option Value)(base:Heap)(k:Nat)(x:Str)(ps:List Str)(S:fk):Prop where
 ok:∃f fd,FnOk P w K mg base (bE P w) k f fd ps (vM K S)/\mg x=some (.ref f)/\PySem.W.keepIn K (.ref f)=true/\Binds K fd ps []
 mono:lu S
structure DC(K:Hg)(mg:Str->Option Value)(C:Addr):Prop where
 at_:eE K "Desk" = some C
 mg:mg "Desk" = some (.ref C)
 cls:Cls K C
 no:NoAttr K C "standing"
structure rR(P:Program)(w:World)(K:Hg)(mg:Str->Option Value)(base:Heap)(k:Nat)(m:Str)(ps:List Str)(S:fk):Prop where
 ok:∃C f fd,DC K mg C/\gG K C m f/\FnOk P w K mg base (bE P w) k f fd ps (vM K S)/\Binds K fd ps []
 mono:lu S
section
variable{o a b:Expr}{S:fk}{w:WE}{wd':cU}
def dF(S:fk)(t:WA):cU:=λE ρ Δ Q=>t (λex=>E ex Δ) ρ λds=>S ds Δ E Q
theorem yp(G:rQ X.prog X.w X.K X.mg X.base k x ps S)(hr:Room j X.A)(hx:aM (bE X.prog X.w) X EX)(ha:ff X EX (e::es) t)(hk:k<=j:=by decide)(hg:Gl X x:=by rfl)(hdb:(x==("__debug__" : Str))=false:=by decide)(he:starEach (e::es) X.env=(false,eval e X.env)::starEach es X.env:=by rfl)(hpl:(backTo pos (starEach es X.env)).any (·.1)=false:=by rfl) :
  d4 X EX (.Call (.Name x p) (e::es) [] pos) (dF S t):=by
 obtain⟨f,fd,F,hm,kp,hb⟩:=G.ok;obtain⟨ta,pa,ka⟩:=ha.t;refine⟨⟨_,eC F (hr.mono hk) hg hm kp hb .nil hx pa hdb he hpl,λW0 H0 W σ H ρ Δ E Q s d eo h=>?_⟩,λE ρ Δ P P' hp q=>ha.mono _ _ _ _ (λds hds=>G.mono _ _ _ _ _ _ (λ_ _ z=>z) hp hds) q⟩;refine ka W _ W σ H ρ _ _ s.rebIn (eo.one s.ext d) (ha.mono _ _ _ _ (λds hds vs W1 H1 x1 r1=>?_) h);rw[jj];exact ua G.mono (s.step x1) (d.step x1.wle) eo r1 (G.mono _ _ _ _ _ _ (λ_ _ z=>z) (λx δ hx v=>(hx v).mv .refl x1.wle) hds)
def dM(S:fk)(wo:WE)(t:WA):cU:=λE ρ Δ Q=>wo (λex=>E ex Δ) ρ λo=>∃b,o=.pl 1 b/\t (λex=>E ex Δ) ρ λds=>S (.pl 1 b::ds) Δ E Q
theorem Rep.desk{W:Wd}{v:V}{b C:Addr}(r:Rep K W v (.pl 1 b))(ok:WOk W H)(c:DC K mg C):∃q dx,v=.ref q/\H q=some (.ins C dx [("standing",.ref b)]):=by
 cases r with
 |pl q=>
  obtain⟨C',dx,h1,h2⟩:=q;rw[c.at_] at h2;cases h2;exact⟨_,dx,rfl,ok.g _ _ h1⟩
theorem dM.mono(hS:lu S)(ho:PX X EX o wo)(ha:∀E ρ P P',(∀d,P d->P' d)->t E ρ P->t E ρ P'):∀E ρ Δ P P',(∀d δ,P d δ->P' d δ)->dM S wo t E ρ Δ P->dM S wo t E ρ Δ P':=
 λE ρ Δ P P' hp q=>ho.mono _ _ _ _ (λo ⟨b,eb,z⟩=>⟨b,eb,ha _ _ _ _ (λds hds=>hS _ _ _ _ _ _ (λ_ _ z=>z) hp hds) z⟩) q
theorem Zg(G:rR X.prog X.w X.K X.mg X.base k m ps S)(hr:Room j X.A)(hx:aM (bE X.prog X.w) X EX)(ho:PX X EX o wo)(ha:ff X EX (e::es) t)(hk:k<=j:=by decide)(hm0:(m==("standing" : Str))=false:=by decide)
  (hst:starEach (e::es) X.env=(false,eval e X.env)::starEach es X.env:=by rfl) (hpl:(backTo pos (starEach es X.env)).any (·.1)=false:=by rfl)
  (ht:eval (.Call (.Attribute o m apos) (e::es) [] pos) X.env=(do
   let ov <-eval o X.env
   standAt apos.atName
   let(f,first) <-holding [ov] (getMethod ov m pl)
   callWith pos f first (backTo pos (starEach (e::es) X.env)) (backToKw pos (keywordEach [] X.env))):=by rfl):d4 X EX (.Call (.Attribute o m apos) (e::es) [] pos) (dM S wo t):=by
 obtain⟨C,f,fd,c,hm,F,hb⟩:=G.ok;obtain⟨to,po,ko⟩:=ho.t;obtain⟨ta,pa,ka⟩:=ha.t;refine⟨⟨_,i8 po c.cls hm F (hr.mono hk) hb .nil hx pa hst hpl ht,λW0 H0 W σ H ρ Δ E Q s d eo h=>?_⟩,dM.mono G.mono ho ha.mono⟩;refine ko W _ W σ H ρ _ _ s.rebIn (eo.one s.ext d) (ho.mono _ _ _ _ (λdd ⟨b,eb,q⟩ v W1 H1 x1 r1=>?_) h);subst eb;obtain⟨p,dx,rfl,hp⟩:=r1.desk x1.ok c;refine⟨p,dx,_,rfl,hp,by simp only[gB,hm0,ww],?_⟩;have s1:=s.step x1;have d1:=d.step x1.wle;refine ka W1 _ W1 σ H1 ρ _ _ s1.rebIn (eo.one s1.ext d1) (ha.mono _ _ _ _ (λds hds vs W2 H2 x2 r2=>?_) q);rw[jj];exact ua G.mono (s1.step x2) (d1.step x2.wle) eo (.cons (x2.rep r1) r2) (G.mono _ _ _ _ _ _ (λ_ _ z=>z) (λx δ hx v=>(hx v).mv .refl (x1.trans x2).wle) hds)
theorem E5(G:rR X.prog X.w X.K X.mg X.base k m ps S)(hr:Room j X.A)(hx:aM (bE X.prog X.w) X EX)(ho:PX X EX o wo)(hk:k<=j:=by decide)(hm0:(m==("standing" : Str))=false:=by decide)
  (ht:eval (.Call (.Attribute o m apos) [] [] pos) X.env=(do
   let ov <-eval o X.env
   standAt apos.atName
   let(f,first) <-holding [ov] (getMethod ov m pl)
   callWith pos f first (backTo pos (starEach [] X.env)) (backToKw pos (keywordEach [] X.env))):=by rfl):d4 X EX (.Call (.Attribute o m apos) [] [] pos) (dM S wo aC):=by
 obtain⟨C,f,fd,c,hm,F,hb⟩:=G.ok;obtain⟨to,po,ko⟩:=ho.t;refine⟨⟨_,kS po c.cls hm F (hr.mono hk) hb .nil hx ht,λW0 H0 W σ H ρ Δ E Q s d eo h=>?_⟩,dM.mono G.mono ho λ_ _ _ _ hp z=>hp _ z⟩;refine ko W _ W σ H ρ _ _ s.rebIn (eo.one s.ext d) (ho.mono _ _ _ _ (λdd ⟨b,eb,q⟩ v W1 H1 x1 r1=>?_) h);subst eb;obtain⟨p,dx,rfl,hp⟩:=r1.desk x1.ok c;refine⟨p,dx,_,rfl,hp,by simp only[gB,hm0,ww],?_⟩;exact ua G.mono (s.step x1) (d.step x1.wle) eo (.cons r1 .nil) (G.mono _ _ _ _ _ _ (λ_ _ z=>z) (λx δ hx v=>(hx v).mv .refl x1.wle) q)
def gl:D->(D->Prop)->Prop:=λd Q=>∃b,d=.pl 1 b/\Q (.pl 0 b)
theorem E6{C:Addr}(c:DC X.K X.mg C)(ha:PX X EX a wa)(hb:attributeBase a "standing" X.env (eval a X.env)=eval a X.env:=by rfl):PX X EX (.Attribute a "standing" pos) (w1 gl wa):=by
 obtain⟨ta,pa,ka⟩:=ha.t;refine⟨⟨_,o5 pa hb,λW0 H0 W σ H ρ E Q s eo q=>ka W0 H0 W σ H ρ E _ s eo (ha.mono _ _ _ _ (λd ⟨b,eb,q⟩ v W1 H1 x1 r1=>?_) q)⟩,λE ρ P P' hp q=>ha.mono _ _ _ _ (λd ⟨b,eb,q⟩=>⟨b,eb,hp _ q⟩) q⟩;subst eb;obtain⟨p,dx,rfl,h⟩:=r1.desk x1.ok c;exact⟨p,C,dx,_,_,rfl,h,c.cls,c.no,rfl,q _ _ _ x1 (.pl rfl)⟩
theorem Rep.at0{W:Wd}{v:V}{b:Addr}(r:Rep K W v (.pl 0 b)):v=.ref b:=by
 cases r with
 |pl q=>exact congrArg V.ref q
def gR(wa wb:WE):cU:=λE ρ Δ Q=>wa (λex=>E ex Δ) ρ λo=>∃b,o=.pl 0 b/\wb (λex=>E ex Δ) ρ (isI λi=>∃xs d,Δ b=some xs/\cG xs i=some d/\Q d Δ)
theorem ub(ha:PX X EX a wa)(hb:PX X EX b wb)(hs:eD b:=by exact λ_ _=>rfl):d4 X EX (.Subscript a b pos) (gR wa wb):=by
 obtain⟨ta,pa,ka⟩:=ha.t;obtain⟨tb,pb,kb⟩:=hb.t;refine⟨⟨_,kX ix_list pa pb hs,λW0 H0 W σ H ρ Δ E Q s d eo h=>?_⟩,λE ρ Δ P P' hp q=>ha.mono _ _ _ _ (λo ⟨b,eb,z⟩=>⟨b,eb,hb.mono _ _ _ _ (isI.mono λi ⟨xs,d,h1,h2,h3⟩=>⟨xs,d,h1,h2,hp _ _ h3⟩) z⟩) q⟩;refine ka W _ W σ H ρ _ _ s.rebIn (eo.one s.ext d) (ha.mono _ _ _ _ (λdd ⟨b,eb,q⟩ v W1 H1 x1 r1=>?_) h);subst eb;obtain rfl:=r1.at0;have s1:=s.step x1;have d1:=d.step x1.wle;refine kb W1 _ W1 σ H1 ρ _ _ s1.rebIn (eo.one s1.ext d1) (hb.mono _ _ _ _ (λdi hdi vi W2 H2 x2 r2=>?_) q);obtain⟨i,rfl,xs,y,h1,h2,hq⟩:=nS hdi;cases r2;obtain⟨us,_,g1,_,_,rr⟩:=(d1.step x2.wle).now (s1.step x2).ext h1;obtain⟨j,e1,e2⟩:∃j,jv xs.length i=some j/\xs[j]? = some y:=by
  unfold cG at h2;cases z:jv xs.length i with
  |none=>rw[z] at h2;cases h2
  |some j=>rw[z] at h2;exact⟨j,rfl,h2⟩
 obtain⟨u,eu,ru⟩:=rr.get e2;refine⟨b,us,i,u,rfl,rfl,SqL.of g1,by unfold cG;rw[rr.length,e1];exact eu,?_⟩;exact hq u W2 H0 H2 .refl (s1.step x2) (d1.step x2.wle) (x1.trans x2).wle ru
def lv(wa:WE):cU:=λE ρ Δ Q=>wa (λex=>E ex Δ) ρ λo=>∃b xs,o=.pl 0 b/\Δ b=some xs/\Q (.int xs.length) Δ
theorem A2(hm:X.mg "len" = none)(ha:PX X EX a wa)(hg:Gl X "len" :=by rfl)(he:starEach [a] X.env=(false,eval a X.env)::starEach [] X.env:=by rfl)(hpl:(backTo pos (starEach [] X.env)).any (·.1)=false:=by rfl):d4 X EX (.Call (.Name "len" p) [a] [] pos) (lv wa):=by
 obtain⟨ta,pa,ka⟩:=ha.t;refine⟨⟨_,gH dn hg hm PySem.boot_len (cz pa c0 he) (by decide) (by decide) he hpl,λW0 H0 W σ H ρ Δ E Q s d eo h=>?_⟩,λE ρ Δ P P' hp q=>ha.mono _ _ _ _ (λo ⟨b,xs,eb,h1,z⟩=>⟨b,xs,eb,h1,hp _ _ z⟩) q⟩;refine ka W _ W σ H ρ _ _ s.rebIn (eo.one s.ext d) (ha.mono _ _ _ _ (λdd ⟨b,xs,eb,h1,q⟩ v W1 H1 x1 r1=>?_) h);subst eb;obtain rfl:=r1.at0;obtain⟨us,_,g1,_,_,rr⟩:=(d.step x1.wle).now (s.step x1).ext h1;refine⟨b,us,rfl,.inl (SqL.of g1),?_⟩;rw[rr.length];exact(q _).of s d x1 (.int _)
def jP(wa w:WE):cU:=λE ρ Δ Q=>wa (λex=>E ex Δ) ρ λo=>∃b xs,o=.pl 0 b/\Δ b=some xs/\w (λex=>E ex Δ) ρ λd=>xs.length<small/\Q .non (cj Δ b (xs++[d]))
theorem A3(ha:PX X EX a wa)(he:PX X EX e w)(hbase:attributeBase a "append" X.env (eval a X.env)=eval a X.env:=by rfl)
  (hfew:((backTo pos (starEach [e] X.env)).all (λx=>!x.1)&&(backToKw pos (keywordEach [] X.env)).all (λx=>x.1.isSome)&&decide ([e].length+([]:List Keyword).length+(if([]:List Keyword).isEmpty then 0 else 1)<30))=true:=by rfl)
  (hline:(apos.endLine==pos.line)=true:=by rfl) (hs:starEach [e] X.env=(false,eval e X.env)::starEach [] X.env:=by rfl) (hplain:(backTo pos (starEach [] X.env)).any (·.1)=false:=by rfl):d4 X EX (.Call (.Attribute a "append" apos) [e] [] pos) (jP wa w):=by
 obtain⟨ta,pa,ka⟩:=ha.t;obtain⟨te,pe,ke⟩:=he.t;refine⟨⟨_,gL PySem.F.plainAttrs_list PySem.F.slot_list_append PySem.F.type_list_append fA pa (cz pe c0 hs) hbase hfew hline hs hplain,λW0 H0 W σ H ρ Δ E Q s d eo h=>?_⟩,λE ρ Δ P P' hp q=>ha.mono _ _ _ _ (λo ⟨b,xs,eb,h1,z⟩=>⟨b,xs,eb,h1,he.mono _ _ _ _ (λy h=>⟨h.1,hp _ _ h.2⟩) z⟩) q⟩;refine ka W _ W σ H ρ _ _ s.rebIn (eo.one s.ext d) (ha.mono _ _ _ _ (λdd ⟨b,xs,eb,hx,q⟩ v W1 H1 x1 r1=>?_) h);subst eb;obtain rfl:=r1.at0;have s1:=s.step x1;have d1:=d.step x1.wle;obtain⟨us,_,g1,_,_,rr⟩:=d1.now s1.ext hx;refine⟨.inl ⟨rfl,us,SqL.of g1⟩,ke W1 _ W1 σ H1 ρ _ _ s1.rebIn (eo.one s1.ext d1) (he.mono _ _ _ _ (λy hy u W2 H2 x2 r2=>?_) q)⟩;have s2:=s1.step x2;have d2:=d1.step x2.wle;obtain⟨us2,_,g2,_,_,rr2⟩:=d2.now s2.ext hx;obtain⟨m3,s3,d3⟩:=s2.putB d2 hx (rr2.append (.cons r2 .nil));exact⟨b,us2,u,rfl,rfl,g2,by rw[rr2.length];exact cX hy.1 (fD (bP _)),hy.2 .non W2 _ _ m3 s3 d3 (x1.trans x2).wle .non⟩
def ly(wa:WE):cU:=λE ρ Δ Q=>wa (λex=>E ex Δ) ρ λo=>∃b xs d,o=.pl 0 b/\Δ b=some xs/\xs[xs.length-1]? = some d/\Q d (cj Δ b xs.dropLast)
theorem A4(ha:PX X EX a wa)(hbase:attributeBase a "pop" X.env (eval a X.env)=eval a X.env:=by rfl)(hline:(apos.endLine==pos.line)=true:=by rfl):d4 X EX (.Call (.Attribute a "pop" apos) [] [] pos) (ly wa):=by
 obtain⟨ta,pa,ka⟩:=ha.t;refine⟨⟨_,o9 PySem.F.plainAttrs_list PySem.F.slot_list_pop PySem.F.type_list_pop pj pa hbase hline,λW0 H0 W σ H ρ Δ E Q s d eo h=>?_⟩,λE ρ Δ P P' hp q=>ha.mono _ _ _ _ (λo ⟨b,xs,y,eb,h1,h2,z⟩=>⟨b,xs,y,eb,h1,h2,hp _ _ z⟩) q⟩;refine ka W _ W σ H ρ _ _ s.rebIn (eo.one s.ext d) (ha.mono _ _ _ _ (λdd ⟨b,xs,y,eb,hx,hy,q⟩ v W1 H1 x1 r1=>?_) h);subst eb;obtain rfl:=r1.at0;have s1:=s.step x1;have d1:=d.step x1.wle;obtain⟨us,_,g1,_,_,rr⟩:=d1.now s1.ext hx;obtain⟨u,eu,ru⟩:=rr.get hy;have rd:Reps X.K W1 us.dropLast xs.dropLast:=by rw[List.dropLast_eq_take,List.dropLast_eq_take,rr.length];exact rr.take _
 obtain⟨m3,s3,d3⟩:=s1.putB d1 hx rd;exact⟨.inl ⟨rfl,us,SqL.of g1⟩,b,us,u,rfl,rfl,g1,by rw[rr.length];exact eu,q u W1 _ _ m3 s3 d3 x1.wle ru⟩
def A5(w:WE)(wd:cU):cU:=λE ρ Δ Q=>w (λex=>E ex Δ) ρ λx=>wd E ρ Δ λy δ=>Q (.tup [x,y]) δ
def yt(K:Hg)(C:Addr)(v:V):Sp:=λvs H Q _=>∃x dx,vs=[.ref x]/\H x=some (.ins C dx [])/\∀l,H l=none->Q .non (upd (upd H l (.lst [v])) x (.ins C dx [("standing",.ref l)]))
structure vN(P:Program)(w:World)(K:Hg)(mg:Str->Option Value)(base:Heap)(k:Nat)(ds:List D):Prop where
 ok:∃C f fd ps v,DC K mg C/\Mk K C f/\FnOk P w K mg base (bE P w) k f fd ps (yt K C v)/\Binds K fd ps []/\∀W,Rep K W v (.tup ds)
def qT(ds:List D):cU:=λ_ _ Δ Q=>∀b,Δ b=none->Q (.pl 1 b) (cj Δ b [.tup ds])
theorem yu(G:vN X.prog X.w X.K X.mg X.base k ds)(hr:Room (j+1) X.A)(hx:aM (bE X.prog X.w) X EX)(hk:k<=j:=by decide)(hg:Gl X "Desk" :=by rfl):d4 X EX (.Call (.Name "Desk" p) [] [] pos) (qT ds):=by
 obtain⟨C,f,fd,ps,v0,c,M,F,hb,hv⟩:=G.ok;refine⟨⟨_,kU M (F.mono hk) hr hg c.mg hb .nil hx (by decide),λW0 H0 W σ H ρ Δ E Q s d eo h=>?_⟩,λE ρ Δ P P' hp q b hb=>hp _ _ (q b hb)⟩;intro x dx hx1 hdx ne;refine⟨x,dx,rfl,aG,λl hl=>⟨rfl,?_⟩⟩;have lx:l≠x:=λz=>by rw[z,aG] at hl;cases hl
 rw[aE lx] at hl;have ld:l≠dx:=λz=>by rw[z,aG] at hl;cases hl
 rw[aE ld] at hl;obtain⟨hn,m1,s1,d1⟩:=s.newB d hl (us:=[v0]) (ys:=[.tup ds]) (.cons (hv W) .nil);have x2:=Ext.put (o:=.own x) s1.ok (a:=dx) (by rw[aE (Hv ld)];exact hdx);have x3:=Ext.put (o:=.ins C dx [("standing",.ref l)]) x2.ok (a:=x) (by rw[aE (Hv ne),aE (Hv lx)];exact hx1);have x23:=x2.trans x3;have eH:upd (upd (upd (upd H dx (.own x)) x (.ins C dx [])) l (.lst [v0])) x (.ins C dx [("standing",.ref l)])=upd (upd (upd H l (.lst [v0])) dx (.own x)) x (.ins C dx [("standing",.ref l)]):=by
  funext c;unfold upd
  by_cases c1:c=x
  .simp only[c1,if_true]
  .by_cases c2:c=l
   .simp only[c2,lx,ld,if_true,if_false]
   .simp only[c1,c2,if_false]
 rw[eH];exact h l hn _ _ _ _ m1 (s1.step x23) (d1.step x23.wle) x23.wle (.pl ⟨C,dx,by unfold Wd.put;dsimp only;rw[aG],c.at_⟩)
def uc(i j:Nat)(w1 w2:cU):dv:=λE N ρ Δ=>w1 E ρ Δ λx δ=>w2 E ρ δ λy δ'=>N.nx ((ρ.set i (.d x)).set j (.d y)) δ'
end
section
variable{c:Expr}{g:WG}
def Zbp(g:WG)(zb:dv)(E:ED)(N:NdD):List D->bV->Dl->Prop
 |[],ρ,Δ=>N.nx ρ Δ
 |d::ds,ρ,Δ=>g d ρ λρ1=>zb E { nx:=Zbp g zb E N ds,rt:=N.rt,bk:=N.nx,ct:=Zbp g zb E N ds } ρ1 Δ
def gS(wi:WA)(g:WG)(zb:dv):dv:=λE N ρ Δ=>wi (λex=>E ex Δ) ρ λds=>Zbp g zb E N ds ρ Δ
theorem Zbp.mono(hg:∀d ρ P P',(∀r,P r->P' r)->g d ρ P->g d ρ P')(hb:∀E ρ Δ N N',N.le N'->zb E N ρ Δ->zb E N' ρ Δ){E:ED}{N N':NdD}(hl:N.le N'):∀ds ρ Δ,Zbp g zb E N ds ρ Δ->Zbp g zb E N' ds ρ Δ
 |[],ρ,Δ,h=>hl.nx _ _ h
 |d::ds,ρ,Δ,h=>hg _ _ _ _ (λr hr=>hb E r Δ { nx:=Zbp g zb E N ds,rt:=N.rt,bk:=N.nx,ct:=Zbp g zb E N ds } _ ⟨Zbp.mono hg hb hl ds,hl.rt,hl.nx,Zbp.mono hg hb hl ds⟩ hr) h
theorem A6(hp:PassesOwn (model X.prog X.w) X.A X.env X.xe)(hc:X.calm=true)(hi:pB X EX target iter wi)(hg:pC X target g)(hb:dU X EX body zb)
  (hs:∀x,foldedSetIterable iter X.env x=pure x:=by intro _;rfl):mT X EX (.For target iter body [] pos) (gS wi g zb):=by
 obtain⟨ti,pi,ki⟩:=hi.t;obtain⟨tg,pg,kg⟩:=hg.t;obtain⟨tb,pb,kb⟩:=hb.t;refine⟨⟨_,oR hp hc pi pg pb hs,λW0 H0 F W σ H ρ Δ E Dn N s d fl eo no h=>?_⟩,λE ρ Δ N N' hl q=>hi.mono _ _ _ _ (λds hds=>Zbp.mono hg.mono hb.mono hl ds ρ Δ hds) q⟩;refine ki W _ W σ H ρ _ _ s.rebIn (eo.one s.ext d) (hi.mono _ _ _ _ (λds hds W1 H1 J x1 it=>?_) h);refine⟨λi m σ2 H2=>m=ds.length-i/\i<=ds.length/\∃W2 H02 Δ2 ρ2,Mv Δ H0 Δ2 H02/\SOk X.K W0 H02 W2 σ2 H2 ρ2/\DOk X.K W0 H02 W2 Δ2/\Wle W1 W2/\Zbp g zb E N (ds.drop i) ρ2 Δ2,⟨_,rfl,gW _,W1,H0,Δ,ρ,.refl,s.step x1,d.step x1.wle,.refl W1,by rw[rk];exact hds⟩,?_⟩;rintro i m σ2 H2 ⟨rfl,hi',W2,H02,Δ2,ρ2,m2,s2,d2,f2,q2⟩;obtain⟨itg,its⟩:=it W2 H2 i f2.g f2.p s2.ok;have fF:∀{V:Wd},Wle W1 V->Wle F V:=λf=>(fl.ext x1).trans f;rcases jW i ds.length with hlt|hge
 .have hd:ds[i]? = some ds[i]:=iQ hlt
  obtain⟨go',yl⟩:=itg _ hd;rw[List.drop_eq_getElem_cons hlt] at q2;refine .inr ⟨go',λσ3 H3=>∃W3 H03 Δ3 ρ3,Mv Δ H0 Δ3 H03/\SOk X.K W0 H03 W3 σ3 H3 ρ3/\DOk X.K W0 H03 W3 Δ3/\Wle W1 W3/\Zbp g zb E N (ds.drop (i+1)) ρ3 Δ3,λσ3 H3 q3=>⟨ds.length-(i+1),by omega,rfl,hlt,q3⟩,λx H3 y=>?_⟩;obtain⟨W3,x3,r3⟩:=yl x H3 y;refine kg W0 H02 W3 σ2 H3 ρ2 ds[i] x _ (s2.step x3) r3 (hg.mono _ _ _ _ (λρ4 hr σ4 s4=>?_) q2);exact kb W0 H02 W1 W3 σ4 H3 ρ4 Δ2 E _ { nx:=Zbp g zb E N (ds.drop (i+1)),rt:=N.rt,bk:=N.nx,ct:=Zbp g zb E N (ds.drop (i+1)) } s4 (d2.step x3.wle) (f2.ext x3) (eo.mv m2)
   ⟨λH0' Δ' W5 σ5 H5 ρ5 m5 s5 d5 f5 h5=>⟨W5,H0',Δ',ρ5,m2.trans m5,s5,d5,f5,h5⟩,no.rt.mv m2,λH0' Δ' W5 σ5 H5 ρ5 m5 s5 d5 f5 h5=>no.nx H0' Δ' W5 σ5 H5 ρ5 (m2.trans m5) s5 d5 (fF f5) h5,λH0' Δ' W5 σ5 H5 ρ5 m5 s5 d5 f5 h5=>⟨W5,H0',Δ',ρ5,m2.trans m5,s5,d5,f5,h5⟩⟩ hr
 .refine .inl ⟨its hge,?_⟩
  rw[List.drop_of_length_le hge] at q2;exact no.nx H02 Δ2 W2 σ2 H2 ρ2 m2 s2 d2 (fF f2) q2
end
section
variable{w:World}{base:Heap}{st:Stmt}{f:Addr}{z:dv}
theorem ud{S:fk}(F:Fun K x qual st f fd)(sc:aT N ps (aA st))(len:∀ds Δ E Q,S ds Δ E Q->ds.length=ps.length)
  (hbody:∀ (cdv:Value) (A:Around) (outer:List Env) (s:Shared) (H:Hp) (E:XK),Room k (A.deeper (envOfC qual (aA st) s.heap.objs.size f cdv))->
   aM (bE P w) (bA (bE P w) P w K mg base N qual (aA st) f cdv A outer s H E) E->dJ (bA (bE P w) P w K mg base N qual (aA st) f cdv A outer s H E) E->
   dU (bA (bE P w) P w K mg base N qual (aA st) f cdv A outer s H E) E (aI st) z)
  (h:∀ds Δ E Q,S ds Δ E Q->z E { nx:=λ_ δ=>Q .non δ,rt:=Q } (cB N ds) Δ):FnOk P w K mg base (bE P w) (k+1) f fd ps (vM K S):=by
 obtain⟨oc,od,kV,doc,pm,an,cdv,ct,osl,rfl,lk,hcd⟩:=F.ex;refine i9 lk hcd sc (λvs H Q E hs=>?_) λA outer s H vs Q E hr hs=>?_
 .obtain⟨ds,W,Δ,_,r,_,hS⟩:=hs
  rw[r.length];exact len _ _ _ _ hS
 .obtain⟨ds,W,Δ,ok,r,d,hS⟩:=hs
  obtain⟨t,p,kk⟩:=(hbody cdv A outer s H E hr va vb).t;exact ⟨t,p,kk W H W W (start N vs) H (cB N ds) Δ _ _ { nx:=λ_ δ=>_,rt:=_ } (tJ ok r) d (.refl W) (λH0' δ ex W' H' cls dx m he x d1 r=>he H0' W' H' cls dx m x d1 r)
   ⟨λH0' δ W1 σ1 H1 ρ1 m s1 d1 _ q=>q .non H0' W1 H1 m s1.ext d1 .non,λH0' δ x v W1 H1 m x1 d1 r1 q=>q v H0' W1 H1 m x1 d1 r1,λ_ _ _ _ _ _ _ _ _ _ q=>q.elim,λ_ _ _ _ _ _ _ _ _ _ q=>q.elim⟩ (h ds Δ _ _ hS)⟩
theorem ue(F:Fun K x qual st f fd)(sc:aT N ps (aA st))(len:∀ds E Q,S ds E Q->ds.length=ps.length)
  (hbody:∀ (cdv:Value) (A:Around) (outer:List Env) (s:Shared) (H:Hp) (E:XK),Room k (A.deeper (envOfC qual (aA st) s.heap.objs.size f cdv))->
   aM (bE P w) (bA (bE P w) P w K mg base N qual (aA st) f cdv A outer s H E) E->dJ (bA (bE P w) P w K mg base N qual (aA st) f cdv A outer s H E) E->
   dU (bA (bE P w) P w K mg base N qual (aA st) f cdv A outer s H E) E (aI st) z)
  (h:∀ds E Q,S ds E Q->z (λex _=>E ex) { nx:=λ_ _=>Q .non,rt:=λd _=>Q d } (cB N ds) λ_=>none):FnOk P w K mg base (bE P w) (k+1) f fd ps (dq K S):=by
 obtain⟨oc,od,kV,doc,pm,an,cdv,ct,osl,rfl,lk,hcd⟩:=F.ex;refine i9 lk hcd sc (λvs H Q E hs=>?_) λA outer s H vs Q E hr hs=>?_
 .obtain⟨ds,W,_,r,hS⟩:=hs
  rw[r.length];exact len _ _ _ hS
 .obtain⟨ds,W,ok,r,hS⟩:=hs
  obtain⟨t,p,kk⟩:=(hbody cdv A outer s H E hr va vb).t;have le:∀{δ:Dl} {H0' H':Hp} {W':Wd},Mv (λ_=>none) H δ H0'->Ext W H0' W' H'->Ext W H W' H':=λm x=>x.le λc o e=>(m c o rfl e).1;exact ⟨t,p,kk W H W W (start N vs) H (cB N ds) (λ_=>none) (λex _=>∀ W' H' cls dx,Ext W H W' H'->nO K W' H' cls dx ex->E cls dx H') _ { nx:=λ_ _=>RQ K W H Q .non,rt:=λd _=>RQ K W H Q d } (tJ ok r) (λ_ _ e=>by cases e) (.refl W) (λH0' δ ex W' H' cls dx m he x d1 r=>he W' H' cls dx (le m x) r)
   ⟨λH0' δ W1 σ1 H1 ρ1 m s1 d1 _ q=>q .non W1 H1 (le m s1.ext) .non,λH0' δ x v W1 H1 m x1 d1 r1 q=>q v W1 H1 (le m x1) r1,λ_ _ _ _ _ _ _ _ _ _ q=>q.elim,λ_ _ _ _ _ _ _ _ _ _ q=>q.elim⟩ (h ds _ _ hS)⟩
theorem qU{S:fk}(h:bB K mg x st)
  (hbody:∀ (sc:N.Nodup) (f:Addr) (cdv:Value) (A:Around) (outer:List Env) (s:Shared) (H:Hp) (E:XK),Room k (A.deeper (envOfC x (aA st) s.heap.objs.size f cdv))->
   aM (bE P w) (bA (bE P w) P w K mg base N x (aA st) f cdv A outer s H E) E->dJ (bA (bE P w) P w K mg base N x (aA st) f cdv A outer s H E) E->
   dU (bA (bE P w) P w K mg base N x (aA st) f cdv A outer s H E) E (aI st) z)
  (rd:∀ds Δ E Q,S ds Δ E Q->z E { nx:=λ_ δ=>Q .non δ,rt:=Q } (cB N ds) Δ) (len:∀ds Δ E Q,S ds Δ E Q->ds.length=ps.length) (mono:lu S)
  (sc:aT N ps (aA st):=by exact⟨rfl,rfl,rfl,by decide +kernel,rfl,by decide +kernel,by decide +kernel⟩)
  (hb:∀ (kV doc pm:Value) (an:Option Addr) (cdv ct:Value) (us:List Value),us.length=ps.length->bindArgs (PySem.W.fnOf x x (aR st) (aI st) (aA st) .none kV doc pm an cdv ct) ⟨us,[]⟩=pure (ps.zip us):=by
   intro _ _ _ _ _ _;(first|refine rE ?_|refine rF ?_|refine rG ?_|refine rH ?_);intros;rfl):rQ P w K mg base (k+1) x ps S:=by
 obtain⟨f,fd,F,m,q⟩:=h;exact⟨⟨f,fd,ud (z:=z) F sc len (λcdv A outer s H E hr hx hw=>hbody sc.nd f cdv A outer s H E hr hx hw) rd,m,F.kp,F.binds hb⟩,mono⟩
theorem uf{S:fk}{C:Addr}(c:DC K mg C)(F:Fun K x qual st f fd)(hm:gG K C x f)
  (hbody:∀ (sc:N.Nodup) (cdv:Value) (A:Around) (outer:List Env) (s:Shared) (H:Hp) (E:XK),Room k (A.deeper (envOfC qual (aA st) s.heap.objs.size f cdv))->
   aM (bE P w) (bA (bE P w) P w K mg base N qual (aA st) f cdv A outer s H E) E->dJ (bA (bE P w) P w K mg base N qual (aA st) f cdv A outer s H E) E->
   dU (bA (bE P w) P w K mg base N qual (aA st) f cdv A outer s H E) E (aI st) z)
  (rd:∀ds Δ E Q,S ds Δ E Q->z E { nx:=λ_ δ=>Q .non δ,rt:=Q } (cB N ds) Δ) (len:∀ds Δ E Q,S ds Δ E Q->ds.length=ps.length) (mono:lu S)
  (sc:aT N ps (aA st):=by exact⟨rfl,rfl,rfl,by decide +kernel,rfl,by decide +kernel,by decide +kernel⟩)
  (hb:∀ (kV doc pm:Value) (an:Option Addr) (cdv ct:Value) (us:List Value),us.length=ps.length->bindArgs (PySem.W.fnOf x qual (aR st) (aI st) (aA st) .none kV doc pm an cdv ct) ⟨us,[]⟩=pure (ps.zip us):=by
   intro _ _ _ _ _ _;(first|refine rE ?_|refine rF ?_|refine rG ?_|refine rH ?_);intros;rfl):rR P w K mg base (k+1) x ps S:=
 ⟨⟨C,f,fd,c,hm,ud (z:=z) F sc len (λcdv A outer s H E hr hx hw=>hbody sc.nd cdv A outer s H E hr hx hw) rd,F.binds hb⟩,mono⟩
theorem yv(h:bB K mg x st)(hfa:mg x=some (.ref fa))
  (hbody:∀ (base:Heap) (sc:N.Nodup) (f:Addr) (cdv:Value) (A:Around) (outer:List Env) (s:Shared) (H:Hp) (E:XK),Room k (A.deeper (envOfC x (aA st) s.heap.objs.size f cdv))->
   aM (bE l.prog w) (bA (bE l.prog w) l.prog w K mg base N x (aA st) f cdv A outer s H E) E->dJ (bA (bE l.prog w) l.prog w K mg base N x (aA st) f cdv A outer s H E) E->
   dU (bA (bE l.prog w) l.prog w K mg base N x (aA st) f cdv A outer s H E) E (aI st) z)
  (rd:∀ds E Q,S ds E Q->z (λex _=>E ex) { nx:=λ_ _=>Q .non,rt:=λd _=>Q d } (cB N ds) λ_=>none)
  (sc:aT N ["_law_script"] (aA st):=by exact⟨rfl,rfl,rfl,by decide +kernel,rfl,by decide +kernel,by decide +kernel⟩)
  (len:∀ds E Q,S ds E Q->ds.length=1:=by exact fnS.len (ps:=["_law_script"]) λ_=>rfl)
  (hb:∀(kV doc pm:Value) (an:Option Addr) (cdv ct:Value) (s:Shared) (v:Value),BindsTo s (PySem.W.fnOf x x (aR st) (aI st) (aA st) .none kV doc pm an cdv ct) ⟨[v],[]⟩ [("_law_script",v)]:=by exact λ_ _ _ _ _ _ _ _=>.of_eq rfl) :
  ∃fd:FuncData,(∀(s:Shared) (v:Value),BindsTo s fd ⟨[v],[]⟩ [("_law_script",v)])/\∀base:Heap,K.In base->base.Ns mainGlobals mg->FnOk l.prog w K mg base (bE l.prog w) (k+1) fa fd ["_law_script"] (dq K S):=by
 obtain⟨f,fd,F,m,q⟩:=h;rw[m] at hfa;cases hfa;refine⟨fd,?_,λbase _ _=>ue (z:=z) F sc len (λcdv A outer s H E hr hx hw=>hbody base sc.nd _ cdv A outer s H E hr hx hw) rd⟩;obtain⟨_,_,_,_,_,_,_,_,_,rfl,_⟩:=F.ex;exact hb _ _ _ _ _ _
end
section
def qV(L:List Str)(n i:Nat)(zb:dv)(zh:WS):dv:=λ_ N ρ Δ=>∃E':ED,(∀ex δ,E' ex δ->ex∈L/\zh No { nx:=λ_=>False,rt:=λd=>N.rt d δ } (pH n i ex))/\zb E' N ρ Δ
theorem E7(L:List Str)(i:Nat){n cx:Str}{suite:List Stmt}{b0:Stmt}{zh:WS}{hpos:Pos}(hcx:XT X.K X.mg cx L)(hN:X.N.Nodup)
  (hb:∀xe pins EX',aM (bE X.prog X.w) (X.tr xe pins) EX'->dU (X.tr xe pins) EX' body zb) (hh:∀e xe,ix (X.hnd e xe) E0 (b0::suite) zh)
  (hstk:X.stack=X.env::X.outer/\X.env.frame=some X.env.locals:=by exact⟨rfl,rfl⟩) (hi:X.N[i]? = some n:=by rfl) (hx:X.env.scope.names.lookup n=some .local:=by rfl)
  (hg:Gl X cx:=by rfl) (hd:(cx==("__debug__" : Str))=false:=by decide) (hkf:X.env.scope.kind=.function:=by rfl) (hex:X.ex=[]:=by rfl) :
  mT X EX (.Try body [.ExceptHandler (some (.Name cx np)) (some n) (b0::suite) hpos] [] [] pos) (qV L X.N.length i zb zh):=by
 have hbm:=(hb (λ_ _=>False) [] E0 u8).mono;refine⟨⟨λD σ H=>∃W0 H0 F W ρ Δ N,SOk X.K W0 H0 W σ H ρ/\DOk X.K W0 H0 W Δ/\Wle F W/\NOkD X.K W0 H0 Δ F D N/\qV L X.N.length i zb zh (λ_ _=>False) N ρ Δ,?_,λW0 H0 F W σ H ρ Δ E Dn N s d fl eo no h=>⟨W0,H0,F,W,ρ,Δ,N,s,d,fl,no,h⟩⟩,λE ρ Δ N N' hl ⟨E',h1,h2⟩=>⟨E',λex δ he=>⟨(h1 ex δ he).1,(hh 0 λ_ _=>False).mono _ _ { nx:=λ_=>False,rt:=λd=>N.rt d δ } { nx:=λ_=>False,rt:=λd=>N'.rt d δ } ⟨λ_ z=>z,λd=>hl.rt d δ,λ_ z=>z,λ_ z=>z⟩ (h1 ex δ he).2⟩,hbm _ _ _ _ _ hl h2⟩⟩;rintro pins s σ H D I ⟨W0,H0,F,W,ρ,Δ,N,so,dd,fl,no,E',hE',hz⟩;obtain⟨Cs,newId,bmB,hm,hexc,hbase,hsub⟩:=hcx.h;have hcalm:=I.ok.hd
 let Eh:Value->Shared->Prop:=λe s1=>wpAny (model X.prog X.w) X.A (noteFrame e X.env) (λ_ s2=>wpAny (model X.prog X.w) X.A (setFlight e none) (λ_ s3=>wpAny (model X.prog X.w) X.A (handleBy e X.env [.ExceptHandler (some (.Name cx np)) (some n) (b0::suite) hpos]) (SP X pins D) X.xe s3) X.xe s2) X.xe s1
 have pass:aM (bE X.prog X.w) (X.tr Eh pins) (λcls dx H'=>∃W' ex H0' δ,Mv Δ H0 δ H0'/\Ext W0 H0' W' H'/\DOk X.K W0 H0' W' δ/\nO X.K W' H' cls dx ex/\E' ex δ):=by
  rintro pins' σ1 H1 s1 _ s' I1 ⟨ea,cls,dx,H',B,rfl,fly,hos,hbare,un,hok,hB,hT,W',ex,H0',δ,mv,x',d',⟨C,hcl,rfl,hxd⟩,he⟩;have J:Inv X pins σ1 H1 s1:=I1.untr;obtain⟨hL,hw⟩:=hE' ex δ he;have fly':Fl.Up (Fl.Is (.ref C) dx) B (X.env::X.outer) ea .none s'.heap:=by rw[<-hstk.1];exact fly
  have frm:∀b∈ce X.stack,∃o,s'.heap.get? b=some o/\∀vs,o.data≠.fields vs:=λb hb=>(fly.fr.mem hb).2;show wpAny (model X.prog X.w) X.A (noteFrame (.ref ea) X.env) _ _ s';refine Fl.note Fl.Is.firm (by rw[J.ok.frames,hstk.1]) hstk.2 fly' λh4 held4 up4=>?_;refine Fl.lands (s:={ s' with heap:=h4 }) held4 λh5 fl5 up5=>?_;have up45:=up4.trans up5;have J5:Inv X pins σ1 H' { s' with heap:=h5 }:=J.fly hos hbare un hok hB hT fly.st fl5.st up45 frm;refine wpAny_handleBy_cons (codeAny_handlers_test ?_) (by intro q;cases q);refine ck (X:=X.hnd ea X.xe) J5.hnd hg hm ?_ hd;refine Co J5.kIn hexc hbase (let⟨ob,z1,z2,_⟩:=fl5.there;⟨ob,z1,z2.1⟩) (hsub ex hL C hcl) ?_;refine codeAny_handlers_suite_as ?_;refine Fl.lands (s:={ s' with heap:=h5 }) fl5 λh6 fl6 up6=>?_;have J6:Inv X pins σ1 H' { s' with heap:=h6 }:=J.fly hos hbare un hok hB hT fly.st fl6.st (up45.trans up6) frm
  obtain⟨oe0,g1,g2,vs0,g3⟩:=fly.there;have nofr:ea∉ce X.stack:=λhm=>by
   obtain⟨o,e,nf⟩:=frm ea hm;rw[g1] at e;cases e;exact nf _ g3
  have nB:B.get? ea=none:=fly.new;have noS:s1.heap.get? ea=none:=by
   cases q:s1.heap.get? ea with
   |none=>rfl
   |some o=>obtain⟨o',e⟩:=hB ea o q nofr;rw[nB] at e;cases e
  have hn':H' ea=none:=by
   cases q:H' ea with
   |none=>rfl
   |some u=>obtain⟨o,e⟩:=hT ea u q;rw[nB] at e;cases e
  have no0:X.s₀.heap.get? ea=none:=by
   cases q:X.s₀.heap.get? ea with
   |none=>rfl
   |some o=>
    obtain⟨o',e⟩:=J.base.there ea o q (by rw[hex];simp);rw[noS] at e;cases e
  have nL:ea≠X.env.locals:=λz=>by
   obtain⟨m,⟨o,es,ep,ho,_⟩,_⟩:=J.loc;rw[<-z,noS] at ho;cases ho
  have nC:∀x c,X.env.cells.lookup x=some c->c≠ea:=λx c e z=>by
   obtain⟨v,o,ho,_⟩:=J.cell x c e;rw[z,noS] at ho;cases ho
  have nP:∀p∈X.pn++pins,p.1≠ea:=λp hp z=>by
   have:=(J.pin p hp).1;rw[z,noS] at this;cases this
  obtain⟨oe,q1,q2,vs,q3⟩:=fl6.there;refine ft (X:=X.hnd ea X.xe) (v:=.ref ea) J6.hnd hN hi (Or.inl hx) rfl (λs7 J7 sb=>?_) (.inr hx);have hat:∃oe,s7.heap.get? ea=some oe/\oe.cls=.ref C/\PySem.W.notCls oe=true/\oe.dict=dx/\∃vs,oe.data=.fields vs:=by
   obtain⟨a,hs,ha⟩:=sb;have hne:ea≠a:=λz=>by
    rcases ha with ha|ha
    .exact nL (z.trans ha)
    .exact nC _ _ ha z.symm
   refine⟨oe,(hs.2 ea hne).trans q1,q2.1,?_,q2.2,vs,q3⟩;unfold PySem.W.notCls;rw[q3]
  have J8:Inv (X.hnd ea λ_ _=>False) pins (σ1.set i (some (.ref ea))) (upd H' ea (lf C ea dx)) s7:=by
   refine((J7.unhnd hcalm).hnd).track hn' no0 nL nC nP ⟨hat,?_,?_⟩ (λ_ z=>by first|cases z|(unfold lf at z;cases z))
   .obtain⟨o,e,_⟩:=hat;exact⟨o,e⟩
   .rintro g1 g2 ⟨o,e,r⟩ k
    exact⟨o,k o e,r⟩
  have xt:Ext W' H' (W'.put ea (lf C ea dx)) (upd H' ea (lf C ea dx)):=Ext.put x'.ok hn';have hil:i<X.N.length:=(Yap.mp hi).1;have so2:SOk X.K W0 H0' (W'.put ea (lf C ea dx)) (σ1.set i (some (.ref ea))) (upd H' ea (lf C ea dx)) (pH X.N.length i ex):=by
   have hlen:σ1.length=X.N.length:=J.len;have slot:∀(j:Nat) sv,(pH X.N.length i ex)[j]? = some sv->sv=.un\/(j=i/\sv=.d (.exc ex)):=λj sv e=>by
    unfold pH at e
    by_cases h:i=j
    .subst h
     rw[dW (by simpa using hil)] at e;cases e;exact .inr ⟨rfl,rfl⟩
    .rw[dg h,ku] at e
     split at e
     .cases e;exact .inl rfl
     .cases e
   refine⟨x'.trans xt,by unfold pH;rw[et,et,lY,hlen],λj y e=>?_,λj ys e=>?_,λj k ys zs b _ e=>?_,.none λj xss e=>?_⟩
   .rcases slot j _ e with z|⟨rfl,z⟩
    .cases z
    .cases z
     exact⟨.ref ea,dW (by rw[hlen];exact hil),.exc (by unfold Wd.put;dsimp only;rw[aG]) hcl (hxd.mono xt.g)⟩
   .rcases slot j _ e with z|⟨_,z⟩<;>cases z
   .rcases slot j _ e with z|⟨_,z⟩<;>cases z
   .rcases slot j _ e with z|⟨_,z⟩<;>cases z
  obtain⟨th,ph,kh⟩:=(ee (hh ea λ_ _=>False)).t;refine HB (ph pins s7 _ _ { nx:=λ_ _=>False,rt:=D.rt } J8 (kh W0 H0' _ _ _ _ _ δ (λ_ _=>False) _ { nx:=λ_ _=>False,rt:=N.rt } so2 (d'.step xt.wle) (.refl _) (λ_ _ _ _ _ _ _ _ z=>z.elim)
   ⟨λ_ _ _ _ _ _ _ _ _ _ z=>z.elim,no.rt.mv mv,λ_ _ _ _ _ _ _ _ _ _ z=>z.elim,λ_ _ _ _ _ _ _ _ _ _ z=>z.elim⟩ hw)) (λf s9 q=>?_) λ_ _ z=>z.elim
  cases f with
  |next=>obtain⟨_,_,_,z⟩:=q;exact z.elim
  |brk=>obtain⟨_,_,_,z⟩:=q;exact z.elim
  |cont=>obtain⟨_,_,_,z⟩:=q;exact z.elim
  |ret u=>
   obtain⟨v,σ9,H9,J9,r9,q9⟩:=q;have K9:=J9.unhnd hcalm;obtain⟨m,hns,_⟩:=K9.loc;exact wpAny_nameGoes hx hns (by rw[hkf];rfl) λh' m' hn2 hs2=>⟨v,_,H9,K9.names hn2 hs2,r9,q9⟩
 obtain⟨tb,pb,kb⟩:=(hb Eh pins _ pass).t;refine wpAny_Try_except (HB (pb [] s σ H D I.tr (kb W0 H0 F W σ H ρ Δ E' D N so dd fl (λH0' δ ex W' H' cls dx m he x d r=>⟨W',ex,H0',δ,m,x,d,r,he⟩) no hz)) (λf s1 q=>?_) λe s1 q=>q);cases f with
 |next=>exact HQ q.untr
 |brk=>exact q.untr
 |cont=>exact q.untr
 |ret u=>exact q.untr
end
section
variable{a b:Expr}{w:WE}
def yw(i j:Nat)(w:WE):WS:=λE N ρ=>w E ρ λd=>match d with
 |.lst (x::xs)=>N.nx ((ρ.set i (.d x)).set j (.d (.lst xs)))
 |_=>False
theorem E8(i j:Nat){px py sp tp:Pos}(he:PX X EX e w)(hN:X.N.Nodup)(hc:X.calm=true:=by rfl)(hi:X.N[i]? = some x:=by rfl)(hj:X.N[j]? = some y:=by rfl)(hx:jX X.env.scope x:=by first|exact Or.inl rfl|exact Or.inr rfl)(hy:jX X.env.scope y:=by first|exact Or.inl rfl|exact Or.inr rfl)
  (hfx:X.fn x=true\/X.env.scope.names.lookup x=some .local:=by first|exact .inl rfl|exact .inr rfl|assumption) (hfy:X.fn y=true\/X.env.scope.names.lookup y=some .local:=by first|exact .inl rfl|exact .inr rfl|assumption)
  (hn:(assignEach [.Name x px,.Starred (.Name y py) sp] X.env).length=2:=by rfl) (hst:(assignEach [.Name x px,.Starred (.Name y py) sp] X.env).findIdx? (·.1)=some 1:=by rfl)
  (hs2:(assignEach [.Name x px,.Starred (.Name y py) sp] X.env).map (·.2)=(assignEach [.Name x px,.Name y py] X.env).map (·.2):=by rfl)
  (h2:(assignEach [.Name x px,.Name y py] X.env).map (·.2)=assign (.Name x px) X.env::(assignEach [.Name y py] X.env).map (·.2):=by rfl) (h3:(assignEach [.Name y py] X.env).map (·.2)=assign (.Name y py) X.env::(assignEach [] X.env).map (·.2):=by rfl)
  (hs:swapsWithSole [.Tuple [.Name x px,.Starred (.Name y py) sp] k tp] e pos.line X.env=pure false:=by rfl) (hw:swappedStores [.Tuple [.Name x px,.Starred (.Name y py) sp] k tp] e X.env=pure none:=by rfl)
  (h1:(assignEach [.Tuple [.Name x px,.Starred (.Name y py) sp] k tp] X.env).map (·.2)=[assign (.Tuple [.Name x px,.Starred (.Name y py) sp] k tp) X.env]:=by rfl) :
  PZ X EX (.Assign [.Tuple [.Name x px,.Starred (.Name y py) sp] k tp] e pos) (yw i j w):=by
 obtain⟨t,p,kk⟩:=he.t;refine⟨⟨_,hW p (Dh hc (eJ (fN hN hi hx hfx) (eJ (fN hN hj hy hfy) iR h3) h2) hn hst hs2) hs hw h1,λW0 H0 F W σ H ρ E Dn N s fl eo no h=>?_⟩,λE ρ N N' hl q=>he.mono _ _ _ _ (λd hd=>?_) q⟩
 .refine kk W0 H0 W σ H ρ E _ s eo (he.mono _ _ _ _ (λd hd v W1 H1 x1 r1=>?_) h)
  split at hd
  .obtain⟨l,vs,rfl,sq,rr⟩:=r1.sql x1.ok
   cases rr with
   | @cons y0 _ ys _ r0 rs=>
    refine⟨l,y0,ys,rfl,sq,λD hD=>⟨_,_,rfl,_,_,rfl,rfl,?_⟩⟩;have xp:=Ext.put (o:=.lst ys) x1.ok hD;have s2:=(s.step x1).step xp;exact no.nx _ _ _ _ ((s2.set (xp.rep r0)).set (.lst (by unfold Wd.put;dsimp only;rw[aG]) (xp.reps rs))) (fl.ext (x1.trans xp)) hd
  .exact hd.elim
 .split at hd
  .exact hl.nx _ hd
  .exact hd.elim
inductive Ent (K:Hg):List DictEntry->List (Str×D)->Prop
 |nil:Ent K [] []
 |cons {e:DictEntry} {es:List DictEntry} {k:Str} {t:Tok} {v:V} {d:D} {r:List (Str×D)}:e.key=.str k t->RelV v e.val->(∀W,Rep K W v d)->Ent K es r->Ent K (e::es) ((k,d)::r)
def CD(K:Hg)(P:Params)(mg:Str->Option Value)(x:Str)(kvs:List (Str×D)):Prop:=∃(a:Addr) (es:Array DictEntry) (n:Nat),mg x=some (.ref a)/\K.lookup a=some { cls:=.type "dict",data:=.dict es n }/\PySem.W.KeysLit P es.toList/\(a==sysModules)=false/\Ent K es.toList kvs
theorem Ent.find{K:Hg}{k:Str}:∀{es:List DictEntry} {kvs:List (Str×D)},Ent K es kvs->match kvs.lookup k with
  |some d=>∃u v,(es.find? λe=>Value.isStrOf k e.key).map (·.val)=some u/\RelV v u/\∀W,Rep K W v d
  |none=>(es.find? λe=>Value.isStrOf k e.key).map (·.val)=none:=by
 intro es kvs h
 induction h with
 |nil=>rfl
 | @cons e es k' t v d r hk hv hr _ ih=>
  rw[gB,List.find?_cons];have:Value.isStrOf k e.key=(k==k'):=by rw[hk];show(k'==k)=(k==k');rw[kq];simp only[HD];exact⟨Eq.symm,Eq.symm⟩
  rw[this];cases q:k==k' with
  |true=>exact⟨_,v,rfl,hv,hr⟩
  |false=>exact ih
theorem CD.map(h:CD X.K X.w.params X.mg x kvs):∃a f,X.mg x=some (.ref a)/\mz X a f/\∀k,match kvs.lookup k with
  |some d=>∃u v,f k=some u/\RelV v u/\∀W,Rep X.K W v d
  |none=>f k=none:=by
 obtain⟨a,es,n,h1,h2,h3,h4,h5⟩:=h;refine⟨a,_,h1,⟨es,n,h2,h3,h4,rfl⟩,λk=>?_⟩;have:=h5.find (k:=k);unfold findBy;rw[<-v7];exact this
def mW(kvs:List (Str×D))(neg:Bool):D->(Bool->Prop)->Prop:=λd Q=>∃k,d=.str k/\Q (if neg then !(kvs.lookup k).isSome else(kvs.lookup k).isSome)
def gp(kvs:List (Str×D))(neg:Bool)(w:WE):WT:=λE ρ Q=>w E ρ λd=>mW kvs neg d Q
theorem A7{x:Str}{a:Addr}{f:Str->Option Value}{k:Str}(h:match kvs.lookup k with
  |some d=>∃u v,f k=some u/\RelV v u/\∀W,Rep X.K W v d
  |none=>f k=none):(f k).isSome=(kvs.lookup k).isSome:=by
 cases e2:kvs.lookup k with
 |some d=>rw[e2] at h;obtain⟨u,v,e,_⟩:=h;rw[e];rfl
 |none=>rw[e2] at h;dsimp only at h;rw[h];rfl
theorem E9(h:CD X.K X.w.params X.mg x kvs)(ha:PX X EX a w)(hg:Gl X x:=by rfl)(hd:(x==("__debug__" : Str))=false:=by decide)(hm:behindInMarks .In (.Name x p)=false:=by with_unfolding_all rfl):iw X EX (.Compare a [.In] [.Name x p] pos) (gp kvs false w):=by
 obtain⟨d,f,h1,h2,h3⟩:=h.map;obtain⟨ta,pa,ka⟩:=ha.t;refine⟨⟨_,eA Di pa (dl (v:=.ref d) hg h1 rfl hd) hm,λW0 H0 W σ H ρ E Q s eo q=>ka W0 H0 W σ H ρ E _ s eo (ha.mono _ _ _ _ (λy ⟨k,ek,q⟩ v W1 H1 x1 r1=>?_) q)⟩,λE ρ P P' hp q=>ha.mono _ _ _ _ (λy ⟨k,ek,q⟩=>⟨k,ek,hp _ q⟩) q⟩;subst ek;cases r1;exact⟨k,d,f,rfl,rfl,h2,_,rfl,by rw[A7 (X:=X) (x:=x) (a:=d) (h3 k)];exact q W1 H1 x1⟩
theorem Fa(h:CD X.K X.w.params X.mg x kvs)(ha:PX X EX a w)(hg:Gl X x:=by rfl)(hd:(x==("__debug__" : Str))=false:=by decide)(hm:behindInMarks .NotIn (.Name x p)=false:=by with_unfolding_all rfl):iw X EX (.Compare a [.NotIn] [.Name x p] pos) (gp kvs true w):=by
 obtain⟨d,f,h1,h2,h3⟩:=h.map;obtain⟨ta,pa,ka⟩:=ha.t;refine⟨⟨_,eA Dj pa (dl (v:=.ref d) hg h1 rfl hd) hm,λW0 H0 W σ H ρ E Q s eo q=>ka W0 H0 W σ H ρ E _ s eo (ha.mono _ _ _ _ (λy ⟨k,ek,q⟩ v W1 H1 x1 r1=>?_) q)⟩,λE ρ P P' hp q=>ha.mono _ _ _ _ (λy ⟨k,ek,q⟩=>⟨k,ek,hp _ q⟩) q⟩;subst ek;cases r1;exact⟨k,d,f,rfl,rfl,h2,_,rfl,by rw[A7 (X:=X) (x:=x) (a:=d) (h3 k)];exact q W1 H1 x1⟩
def mX(kvs:List (Str×D)):D->(D->Prop)->Prop:=λd Q=>∃k y,d=.str k/\kvs.lookup k=some y/\Q y
theorem yx(h:CD X.K X.w.params X.mg x kvs)(hb:PX X EX b w)(hg:Gl X x:=by rfl)(hd:(x==("__debug__" : Str))=false:=by decide)(hs:eD b:=by exact λ_ _=>rfl):PX X EX (.Subscript (.Name x p) b pos) (w1 (mX kvs) w):=by
 obtain⟨d,f,h1,h2,h3⟩:=h.map;obtain⟨tb,pb,kb⟩:=hb.t;refine⟨⟨_,kX xu (dl (v:=.ref d) hg h1 rfl hd) pb hs,λW0 H0 W σ H ρ E Q s eo q=>kb W0 H0 W σ H ρ E _ s eo (hb.mono _ _ _ _ (λy ⟨k,z,ek,ez,q⟩ v W1 H1 x1 r1=>?_) q)⟩,λE ρ P P' hp q=>hb.mono _ _ _ _ (λy ⟨k,z,ek,ez,q⟩=>⟨k,z,ek,ez,hp _ q⟩) q⟩;subst ek;cases r1;have:=h3 k;rw[ez] at this;obtain⟨u,v,e1,e2,e3⟩:=this;exact⟨k,d,f,v,u,rfl,rfl,h2,e1,e2,q v W1 H1 x1 (e3 W1)⟩
end
namespace D7
def NUMD:List (Str×D):=[("size",.int 1),("row",.non),("set",.int 2),("turn",.int 0),("times",.int 1),("cut",.int 1),("back",.int 0),("slants",.int 0),("number",.int 0),("corners",.int 0),("weak",.int 0),("full",.int 0),("even",.int 0),("rank",.int 0),("inverse",.int 1),("solve",.non),("weights",.int 0),("signs",.int 0),("length",.int 0),("shown",.int 0)]
def DEEDD:List (Str×D):=[("size",.cls "new_size"),("row",.cls "new_row"),("set",.cls "one_set"),("turn",.cls "all_turned"),("times",.cls "all_times"),("cut",.cls "cut_to")]
def QUESD:List (Str×D):=[("slants",.cls "ask_slants"),("number",.cls "ask_number"),("corners",.cls "ask_corners"),("weak",.cls "ask_weak"),("full",.cls "ask_full"),("even",.cls "ask_even"),("rank",.cls "ask_rank"),("inverse",.cls "ask_inverse"),("solve",.cls "ask_solve"),("weights",.cls "ask_weights"),("signs",.cls "ask_signs"),("length",.cls "ask_length"),("shown",.cls "ask_shown")]
def jQ(d:D)(n:Nat):Bool:=match d with
 |.int k=>(n:Int)==k
 |_=>decide (0<n)
def gq:List Str->Option (Str×List Int)
 |[]=>none
 |w::os=>match NUMD.lookup w with
  |none=>none
  |some d=>if(os.map bO).all Option.isSome&&jQ d os.length then some (w,(os.map bO).filterMap id) else none
def lR(x:Str):Option (Str×List Int):=gq (Txt.split x " ")
def kj:D->Option (Str×List Int)
 |.str x=>lR x
 |_=>none
def rS:D->Prop
 |.str x=>gQ x
 |_=>True
def yy(d:D):Except Str D:=match kj d with
 |some (w,ns)=>.ok (.tup [.str w,aN ns])
 |none=>.error "NoLine"
def lz(ns:List Int):Except Str (List Int):=if bU 1 5 (.int (ns.headD 0)) then .ok (List.replicate (2*ns.headD 0-1).toNat 0) else .error "NoNumber"
def gT(ns:List Int):Except Str (List Int):=if dQ (aN ns) then .ok ns else .error "NoSlants"
def km(s ns:List Int):Except Str (List Int):=if bU 0 (s.length-1) (.int (ns.headD 0))&&bU (-50) 50 (.int (ns.getD 1 0)) then .ok (s.set (ns.headD 0).toNat (ns.getD 1 0)) else .error "NoNumber"
def A8(s ns:List Int):Except Str (List Int):=gT (s.map (· * ns.headD 0))
def lA(s ns:List Int):Except Str (List Int):=if bU 1 (sN (aN s)) (.int (ns.headD 0)) then .ok (pF s (sN (aN s)) (ns.headD 0).toNat) else .error "NoNumber"
def gU(w:Str)(s ns:List Int):Option (Except Str (List Int)):=
 if w = "size" then some (lz ns) else if w = "row" then some (gT ns) else if w = "set" then some (km s ns) else if w = "turn" then some (.ok s.reverse) else if w = "times" then some (A8 s ns) else if w = "cut" then some (lA s ns) else none
def mY(s:List Int):Str:=Txt.join " " (s.map aO)
structure df(st:List (List Int)):Prop where
 ne:st≠[]
 len:st.length<=100
 all:∀s∈st,∃n,IsSl s n
def lst(st:List (List Int)):List Int:=st.getLastD []
def jR(n:Str):Str:=if n = "NoSlants" then "slants" else if n = "NoNumber" then "number" else "line"
def S_number_read:bN:=B.T2.S_number_read
def dd(ok:List Int->Prop)(f:List Int->List Int->Except Str (List Int)):bN:=xS (λx:List Int×List Int=>[aN x.1,aN x.2]) (λx=>(∃n,IsSl x.1 n)/\ok x.2) λx=>(f x.1 x.2).map aN
def rT:bN:=dd (λns=>ns.length=1) λ_=>lz
def rV:bN:=dd (λns=>ns.length<=5000) λ_=>gT
def rW:bN:=dd (λns=>ns.length=2) km
def rX:bN:=dd (λns=>ns.length=0) λs _=>.ok s.reverse
def Zb:bN:=dd (λns=>ns.length=1/\Bd (ns.headD 0)) A8
def rY:bN:=dd (λns=>ns.length=1) lA
def yz:bN:=fnS (λs:List Int=>[aN s]) (λs=>∃n,IsSl s n) λs=>.str (mY s)
def ug:bN:=fnS (λs:List Int=>[aN s,aN []]) (λs=>∃n,IsSl s n) λs=>.str (mY s)
def yA:bN:=xS (λx:D=>[x]) (λx=>kd x=true/\rS x) yy
def mZ:List Str:=["NoSlants", "NoNumber", "NoLine"]
def SD(b:Addr)(st:List (List Int))(r:D)(Δ:Dl):Prop:=Δ b=some (st.map aN)/\df st/\kd r=true/\rS r
def uh:fk:=λds Δ E Q=>∃b st,ds=[.pl 1 b]/\Δ b=some (st.map aN)/\st≠[]/\if st.length=1 then E "NoLine" Δ else Q .non (cj Δ b (st.dropLast.map aN))
theorem Fb:lu uh:=λds Δ E E' Q Q' hE hQ ⟨b,st,h1,h2,h3,h4⟩=>⟨b,st,h1,h2,h3,by
 split
 .rename_i e;rw[Hh e] at h4;exact hE _ _ h4
 .rename_i e;rw[if_neg e] at h4;exact hQ _ _ h4⟩
theorem Fc:∀ds Δ E Q,uh ds Δ E Q->ds.length=1:=λds Δ E Q ⟨b,st,h,_⟩=>by rw[h];rfl
end D7
section
def qW(i:Nat):WS:=λ_ N ρ=>match ρ[i]? with
 |some (.ow xs)=>xs≠[]/\N.nx (ρ.set i (.ow xs.dropLast))
 |_=>False
end
section
def ui:List D->(D->Prop)->Prop:=λds Q=>match ds with
 |[.lst xs]=>∃ns:List Int,xs=its ns/\ns≠[]/\∀m∈ns,(∀x∈ns,x<=m)->Q (.int m)
 |_=>False
theorem Fd(hc:X.calm=true):cl X (.builtin "max") ui:=by
 refine⟨⟨_,Dk hc,λW H vs ds Q ok r hg=>?_⟩,λds P P' hp hg=>?_⟩
 .unfold ui at hg
  split at hg
  .obtain⟨ns,rfl,hne,q⟩:=hg
   obtain⟨v,rfl,rv⟩:=r.one;obtain⟨p,us,rfl,h1,rr⟩:=rv.sql ok;rw[Aa rr] at h1;exact⟨p,ns,rfl,h1,hne,λm hm hl=>(q m hm hl).now ok (.int _)⟩
  .exact hg.elim
 .unfold ui at hg ⊢
  split at hg
  .obtain⟨bs,e,hne,q⟩:=hg;exact⟨bs,e,hne,λm hm hl=>hp _ (q m hm hl)⟩
  .exact hg.elim
end
namespace D7
abbrev Zhb:List Str:=["row", "word", "others", "numbers", "due"]
def A9:WS:=(aK (cr (cm (wT (wB gIs (aD (wN 0) (aD (wC (.ty "str")) aC))))) (gx (PySem.Str.ofString "NoLine")) bI) (aK (yw 1 2 (wL (gP (wN 0) (aD (wC (D.str (PySem.Str.ofString " "))) aC)))) (aK (aW 3 (wB jZ (aD (wL (aLC (iS (wN 2)) 1 [] (gN 0) dB (wF S_number_read (aD (wN 0) aC)))) aC))) (aK (cr (fg (gp NUMD true (wN 1)) (wT (w2 qP (wC D.non) (wN 3)))) (gx (PySem.Str.ofString "NoLine")) bI) (aK (aW 4 (w1 (mX NUMD) (wN 1))) (aK (cr (fg (dL (wT (w2 (gIsC false) (wN 4) (wC D.non))) (wT (w2 (gEq false) (wB bL (aD (wN 3) aC)) (wC (D.int (0)))))) (dL (wT (w2 (gIsC true) (wN 4) (wC D.non))) (wT (w2 (gEq true) (wB bL (aD (wN 3) aC)) (wN 4))))) (gx (PySem.Str.ofString "NoLine")) bI) (aH (bJ (aD (wN 1) (aD (wN 3) aC))))))))))
abbrev ZfS:List Str:=["slants", "numbers", "size"]
def Ba:WS:=(aK (aW 2 (w2 gIx (wN 1) (wC (D.int (0))))) (aK (cr (cm (wT (wF nZ (aD (wN 2) (aD (wC (D.int (1))) (aD (wC (.int (5))) aC)))))) (gx (PySem.Str.ofString "NoNumber")) bI) (aH (w2 Zcy (bJ (aD (wC (D.int (0))) aC)) (w2 jH (w2 gMul (wC (D.int (2))) (wN 2)) (wC (D.int (1))))))))
abbrev Zha:List Str:=["slants", "numbers"]
def Bb:WS:=(aK (g0 (wF lL (aD (wN 1) aC))) (aH (wN 1)))
abbrev Zh:List Str:=["slants", "numbers", "place", "number"]
def Bc:WS:=(aK (d7 (wN 1) (iD 2 (jd (gN 2) (jd (gN 3) j5)))) (aK (cr (fg (cm (wT (wF nZ (aD (wN 2) (aD (wC (D.int (0))) (aD (w2 jH (wB bL (aD (wN 0) aC)) (wC (D.int (1)))) aC)))))) (cm (wT (wF nZ (aD (wN 3) (aD (wC (.int (-50))) (aD (wC (.int (50))) aC))))))) (gx (PySem.Str.ofString "NoNumber")) bI) (aH (w2 gAdd (w2 gAdd (cI (wN 0) gM (eQ (wN 2))) (bJ (aD (wN 3) aC))) (cI (wN 0) (eQ (w2 gAdd (wN 2) (wC (D.int (1))))) gM)))))
abbrev Zd3:List Str:=["slants", "numbers"]
def Be:WS:=(aH (wF vx (aD (wN 0) aC)))
abbrev Zfa:List Str:=["slants", "numbers", "product"]
def Bf:WS:=(aK (aW 2 (wB jZ (aD (wL (aLC (iS (wN 0)) 1 [1] (gN 0) dB (w2 gMul (wN 0) (w2 gIx (wN 1) (wC (D.int (0))))))) aC))) (aK (g0 (wF lL (aD (wN 2) aC))) (aH (wN 2))))
abbrev Zif:List Str:=["slants", "numbers"]
def Bg:WS:=(aH (wF xR (aD (wN 0) (aD (w2 gIx (wN 1) (wC (D.int (0)))) aC))))
abbrev ZcF:List Str:=["things"]
def Bh:WS:=(aH (jc (wT (w2 jI (wB bL (aD (wN 0) aC)) (wC (D.int (0))))) (wS Zc (wC (D.str (PySem.Str.ofString " "))) (aD (wL (aLC (iS (wN 0)) 1 [] (gN 0) dB (wB g5 (aD (wN 0) aC)))) aC)) (wC (D.str (PySem.Str.ofString "none")))))
abbrev Zd1:List Str:=["slants", "numbers"]
def Bi:WS:=(aH (wF yz (aD (wN 0) aC)))
abbrev ZjE:List Str:=["self"]
def yB:dv:=(aY (dw (cP (gEq false) (lv (w1 gl (wN 0))) (wC (D.int (1)))) (dS (gx (PySem.Str.ofString "NoLine"))) (dS bI)) (mU (ly (w1 gl (wN 0)))))
end D7
theorem m4:(" " : Str)=⟨#[32]⟩:=by decide +kernel
theorem Fe{t:Str}(q:Q (.bl true)):gIs [.str t,.ty "str"] Q:=⟨"str",rfl,by decide,q⟩
theorem Ff{x:D}(h:kd x=true)(hn:∀t,x≠.str t)(q:Q (.bl false)):gIs [x,.ty "str"] Q:=by
 cases x with
 |str t=>exact Hj rfl (hn t)
 |non=>exact⟨_,rfl,by decide,q⟩
 |bl b=>exact⟨_,rfl,by decide,q⟩
 |int i=>exact⟨_,rfl,by decide,q⟩
 |tup xs=>exact⟨_,rfl,by decide,q⟩
 |lst xs=>exact⟨_,rfl,by decide,q⟩
 |dic=>exact⟨_,rfl,by decide,q⟩
 |_=>cases h
local macro_rules | `(tactic| walk_at "w1")=>`(tactic| simp only [aH,cr,aW,bI,g0,bT,cO,f6,mK,f8,d7,dP,mL,d8,mM,f7,gx,iG,wM,Zcy,jB,fX,lh,dL,fg,cm,wT,jc,w1,w2,wB,wF,wL,bJ,cI,ZaP,aB,aU,aD,aC,aLC,ZbM,dB,iS,iC,rL,gP,wS,gj,mQ,t4,n8,qO,eU,ZaK,isI,gp,qW,iL,iT,lj,mH,iZ,gM,eQ,wN,wC,gN,iD,jd,j5,de,mI,eS,f9,gb,gc,ge,da,gg,gh,cB,pub,cF,hJ,cD,fG,kx,eG,List.replicate,l3,l4,l5,l6,Nat.reduceSub,Nat.reduceAdd,eX,l8,true_and,cw,if_true,if_false,ite_true,ite_false,nb,dA,gC,
 pJ,pK,pL,pM,pN,pO,pP,pQ,pR,pS,pT,pU,pV,pW,pX,pY,pZ,p6,p8,p9,qc,qd,qe,qf,qg,qh,qi,qj,qk,ql,qo,Zd,qp,qq,qr,qs,qt,qu,qv,qw,qx,qy,qz,qA,qB,qC,qD,qE,qF,iH,qG,qH,qI,qJ,qK,iJ,iK])
namespace D7
section
variable{n:Nat}
theorem rZ{ok:List Int->Prop}{f:List Int->List Int->Except Str (List Int)}(h:IsSl s n)(ho:ok ns)(q:exQ E Q ((f s ns).map aN)):dd ok f [aN s,aN ns] E Q:=⟨(s,ns),rfl,⟨⟨n,h⟩,ho⟩,q⟩
end
theorem qX(h:ns.length=1):∃k,ns=[k]:=by
 match ns,h with
 |[k],_=>exact⟨k,rfl⟩
theorem Bj(h:ns.length=2):∃k j,ns=[k,j]:=by
 match ns,h with
 |[k,j],_=>exact⟨k,j,rfl⟩
theorem Bk(h:ns.length=0):ns=[]:=by
 match ns,h with
 |[],_=>rfl
theorem at0{r:List D}:cG (d::r) 0=some d:=aQ (j:=0) rfl
theorem Fg:Rd rT Ba ZfS:=by
 rintro _ E Q ⟨⟨s,ns⟩,rfl,⟨⟨n,h⟩,hn⟩,q⟩;obtain⟨k,rfl⟩:=qX hn;unfold Ba;walk_at "nx";refine⟨_,at0,?_⟩;walk_at "nx";refine vy (by rw[kd]) ?_;change exQ E Q ((lz [k]).map aN) at q;cases e:bU 1 5 (.int k) with
 |false=>
  rw[show lz [k]=.error "NoNumber" from if_neg (by show¬bU 1 5 (.int k)=true;rw[e];decide)] at q;simp only[isB,gC,if_true];exact q
 |true=>
  rw[show lz [k]=.ok (List.replicate (2*k-1).toNat 0) from Hh e] at q;have hk:1<=k/\k<=5:=by simpa[bU] using e
  simp only[isB,dA,cw,if_false];refine⟨cq (by decide),⟨gO (n:=2) (by decide) (by decide),gO (n:=3) (by omega) (by decide)⟩,by omega,by omega,cq (by omega),?_⟩;have:(List.replicate (2*k-1).toNat [D.int 0]).flatten=(List.replicate (2*k-1).toNat (0:Int)).map D.int:=by
   generalize (2*k-1).toNat=m
   induction m with
   |zero=>rfl
   |succ m ih=>rw[eX,eX,nc,ih];rfl
  rw[this];exact q
theorem Bl(e:dQ (aN ns)=false):gT ns=.error "NoSlants" :=if_neg (by rw[e];decide)
theorem Bm(e:dQ (aN ns)=true):gT ns=.ok ns:=Hh e
theorem Fh:Rd rV Bb Zha:=by
 rintro _ E Q ⟨⟨s,ns⟩,rfl,⟨⟨n,h⟩,hn⟩,q⟩;unfold Bb;walk_at "nx";change exQ E Q ((gT ns).map aN) at q;cases e:dQ (aN ns) with
 |false=>
  rw[Bl e] at q;exact vB (xP hn) e q
 |true=>
  rw[Bm e] at q;obtain⟨s',n',e1,h'⟩:=vz e;rw[e1];refine vA h' ?_;walk_at "st";rw[<-e1];exact q
theorem Fi:Rd rX Be Zd3:=by
 rintro _ E Q ⟨⟨s,ns⟩,rfl,⟨⟨n,h⟩,hn⟩,q⟩;unfold Be;walk_at "st";exact DY h q
theorem Fj:Rd rY Bg Zif:=by
 rintro _ E Q ⟨⟨s,ns⟩,rfl,⟨⟨n,h⟩,hn⟩,q⟩;obtain⟨k,rfl⟩:=qX hn;unfold Bg;walk_at "st";refine⟨_,at0,?_⟩;refine⟨(aN s,.int k),rfl,⟨h.kd,by rw[kd]⟩,?_⟩;dsimp only;rw[tP h,pG];change exQ E Q ((lA s [k]).map aN) at q;cases e:bU 1 (sN (aN s)) (.int k) with
 |false=>rw[show lA s [k]=.error "NoNumber" from if_neg (by show¬bU 1 (sN (aN s)) (.int k)=true;rw[e];decide)] at q;exact q
 |true=>rw[show lA s [k]=.ok (pF s (sN (aN s)) k.toNat) from Hh e] at q;exact q
theorem Bn{α:Type}{xs:List α}{a:Nat}(h:a<=xs.length):bH xs none (some (a:Int))=xs.take a:=by
 have:=xZ (xs:=xs) (gW a) h;rw[rk,Nat.sub_zero] at this;exact this
theorem Fk:Rd rW Bc Zh:=by
 rintro _ E Q ⟨⟨s,ns⟩,rfl,⟨⟨n,h⟩,hn⟩,q⟩;obtain⟨k,j,rfl⟩:=Bj hn;have h9:=h.l9;have hl:=h.len;have hn1:=h.n1;unfold Bc;walk_at "nx";refine⟨rfl,?_⟩;walk_at "nx";refine vy (by rw[kd]) ?_;change exQ E Q ((km s [k,j]).map aN) at q;cases e:bU 0 ((s.length:Int)-1) (.int k) with
 |false=>
  rw[show km s [k,j]=.error "NoNumber" from if_neg (by show¬(bU 0 ((s.length:Int)-1) (.int k)&&bU (-50) 50 (.int j))=true;rw[e,uM];decide)] at q;simp only[isB,gC,if_true];exact q
 |true=>
 simp only[isB,dA,cw,if_false];refine vy (by rw[kd]) ?_;cases e2:bU (-50) 50 (.int j) with
 |false=>
  rw[show km s [k,j]=.error "NoNumber" from if_neg (by show¬(bU 0 ((s.length:Int)-1) (.int k)&&bU (-50) 50 (.int j))=true;rw[e,e2];decide)] at q;simp only[isB,gC,if_true];exact q
 |true=>
 rw[show km s [k,j]=.ok (s.set k.toNat j) from Hh (show(bU 0 ((s.length:Int)-1) (.int k)&&bU (-50) 50 (.int j))=true by rw[e,e2];rfl)] at q;have hk:0<=k/\k<=(s.length:Int)-1:=by simpa[bU] using e
 simp only[isB,dA,cw,if_false];walk_at "st";obtain⟨a,rfl⟩:∃a:Nat,k=a:=⟨k.toNat,by omega⟩
 have ha:a<s.length:=by omega
 have e3:bH (s.map D.int) none (some (a:Int))=(s.take a).map D.int:=by rw[Bn (by rw[bR];omega),sx]
 have e4:bH (s.map D.int) (some ((a:Int)+1)) none=(s.drop (a+1)).map D.int:=by rw[show(a:Int)+1=((a+1:Nat):Int) by omega,x8 (by rw[bR];omega),sw]
 rw[e3,e4];have e5:(s.take a).map D.int++[D.int j]++(s.drop (a+1)).map D.int=(s.set a j).map D.int:=by
  rw[zm,Hh ha,lH,cF,l0];rfl
 rw[e5];have l1:(s.take a).length<=9:=by rw[jV];omega
 have l2:(s.drop (a+1)).length<=9:=by rw[kv];omega
 refine⟨cq (by decide),cq (by rw[bR];omega),cq (by rw[gu,bR,bR];simp only[cD,fG];omega),q⟩
theorem Fm:Rd Zb Bf Zfa:=by
 rintro _ E Q ⟨⟨s,ns⟩,rfl,⟨⟨n,h⟩,hn,hk⟩,q⟩;obtain⟨k,rfl⟩:=qX hn;have h9:=h.l9;unfold Bf;walk_at "nx";refine lP (g:=λi:Int=>D.int i) (f:=λi:Int=>D.int (i*k)) s (λi hi Q hq=>?_) .un [] (cq (by rw[fG];omega)) ?_
 .walk_at "st"
  refine⟨_,at0,?_⟩;walk_at "st";have:=h.b i hi;exact⟨⟨gO (n:=6) (by omega) (by decide),hk⟩,hq⟩
 rw[eG];walk_at "nx";have ei:(D.tup (s.map λi=>D.int (i*k)))=aN (s.map (· * k)):=by show _=D.tup ((s.map (· * k)).map D.int);rw[iP];rfl
 rw[ei];change exQ E Q ((gT (s.map (· * k))).map aN) at q;cases e:dQ (aN (s.map (· * k))) with
 |false=>
  rw[Bl e] at q;exact vB (xP (by rw[bR];omega)) e q
 |true=>
  rw[Bm e] at q;obtain⟨s',n',e1,h'⟩:=vz e;rw[e1];refine vA h' ?_;rw[<-e1];exact q
theorem Fn(h1:s.length<=11)(h2:∀i∈s,i.natAbs<10^20)(q:Q (.str (mY s))):Zc " " [.lst (s.map λi=>D.str (aO i))] Q:=by
 refine⟨s.map aO,by rw[iP];rfl,by decide +kernel,?_,q⟩;rw[iP,bR];have:∀(l:List Int),(∀i∈l,i.natAbs<10^20)->(l.map ((λx:Str=>x.length)∘aO)).sum<=l.length*23:=by
  intro l
  induction l with
  |nil=>intro _;exact gW _
  |cons a r ih=>
   intro h;have h1:=B.T2.istr_len (i:=a) (jU (h a (dk ..)) (by decide));have h2:=ih λi hi=>h i (cK _ hi);rw[cF,uU,cD];show(aO a).length+_<=_;omega
 have:=this s h2;omega
theorem m6{i:Int}(h:i.natAbs<10^20)(q:Q (.str (aO i))):g5 [.int i] Q:=⟨i,rfl,jU (Er (k:=67) (by decide) (jU h (by decide))) (by decide),q⟩
theorem Bo(h1:s.length<=11)(h2:∀i∈s,i.natAbs<10^20)(q:Q (.str (mY s))):lcW (gN 0) dB (wB g5 (aD (wN 0) aC)) (List.map D.int s) [SV.un] [] λds=>Zc (Str.ofString " ") [D.lst ds] Q:=by
 refine lP (g:=λi:Int=>D.int i) (f:=λi:Int=>D.str (aO i)) s (λi hi Q hq=>?_) .un [] (cq (by rw[fG];omega)) ?_
 .walk_at "st"
  exact m6 (h2 i hi) hq
 rw[eG];exact Fn h1 h2 q
theorem IsSl.abs{n:Nat}(h:IsSl s n):∀i∈s,i.natAbs<10^20:=λi hi=>by have:=h.b i hi;exact oz (by omega:i.natAbs<=50) (by decide)
theorem Fo:Rd yz Bh ZcF:=by
 rintro _ E Q ⟨s,rfl,⟨n,h⟩,q⟩;have h9:=h.l9;have hl:=h.len;have hn1:=h.n1;unfold Bh;walk_at "st";rw[Hl (by omega),Hh rfl];exact Bo (by omega) (IsSl.abs h) q
theorem Fq:Rd ug Bi Zd1:=by
 rintro _ E Q ⟨s,rfl,h,q⟩;unfold Bi;walk_at "st";exact⟨s,rfl,h,q⟩
theorem Fr(l:List (Option Int)):(l.map fj).any vG=l.any Option.isNone:=by
 induction l with
 |nil=>rfl
 |cons a r ih=>rw[cF,rj,rj,ih];cases a<;>rfl
theorem Fs(l:List (Option Int)):∀d∈l.map fj,d=.non\/(∃i,d=.int i)\/∃xs,d=.tup xs:=λd hd=>by
 obtain⟨o,_,rfl⟩:=Yby.mp hd;cases o with
 |none=>exact .inl rfl
 |some i=>exact .inr (.inl ⟨i,rfl⟩)
theorem Bp:∀(l:List (Option Int)),l.any Option.isNone=false->l.map fj=(l.filterMap id).map D.int/\l.length=(l.filterMap id).length/\l.all Option.isSome=true
 |[],_=>⟨rfl,rfl,rfl⟩
 |none::r,h=>by simp at h
 |some i::r,h=>by
  rw[rj] at h;obtain⟨h1,h2,h3⟩:=Bp r (by simpa using h);exact⟨by rw[cF,h1];rfl,by rw[cD,h2];rfl,by rw[List.all_cons,h3];rfl⟩
theorem Ft(l:List (Option Int))(h:l.any Option.isNone=true):l.all Option.isSome=false:=by
 obtain⟨o,ho,hn⟩:=List.any_eq_true.mp h;cases e:l.all Option.isSome with
 |false=>rfl
 |true=>have h2:=Ybe.mp e o ho;cases o with|none=>cases h2|some i=>cases hn
theorem Bq{α:Type}{k:Str}{v:α}:∀{l:List (Str×α)},l.lookup k=some v->(k,v)∈l
 |(a,b)::l,h=>by
  rw[gB] at h;cases e:k==a with
  |true=>rw[e] at h;cases h;rw[eq_of_beq e];exact dk ..
  |false=>rw[e] at h;exact cK _ (Bq h)
theorem Fu(h:NUMD.lookup w=some d):d=.non\/∃k,d=.int k:=by
 have:=Bq h;simp only[NUMD,Yam,eZ,or_false,Prod.mk.injEq] at this;rcases this with⟨_,rfl⟩|⟨_,rfl⟩|⟨_,rfl⟩|⟨_,rfl⟩|⟨_,rfl⟩|⟨_,rfl⟩|⟨_,rfl⟩|⟨_,rfl⟩|⟨_,rfl⟩|⟨_,rfl⟩|⟨_,rfl⟩|⟨_,rfl⟩|⟨_,rfl⟩|⟨_,rfl⟩|⟨_,rfl⟩|⟨_,rfl⟩|⟨_,rfl⟩|⟨_,rfl⟩|⟨_,rfl⟩|⟨_,rfl⟩<;>first|exact .inl rfl|exact .inr ⟨_,rfl⟩
def yC:Option (Str×List Int)->Except Str D
 |some (w,ns)=>.ok (.tup [.str w,aN ns])
 |none=>.error "NoLine"
theorem yD{x:D}:yy x=yC (kj x):=by
 unfold yy yC;cases kj x with
 |none=>rfl
 |some p=>rfl
theorem Br(e:NUMD.lookup w=none):gq (w::os)=none:=by
 show(match NUMD.lookup w with|none=>none|some d=>if(os.map bO).all Option.isSome&&jQ d os.length then some (w,(os.map bO).filterMap id) else none)=none;rw[e]
theorem yE(e:NUMD.lookup w=some d):gq (w::os)=if(os.map bO).all Option.isSome&&jQ d os.length then some (w,(os.map bO).filterMap id) else none:=by
 show(match NUMD.lookup w with|none=>none|some d=>if(os.map bO).all Option.isSome&&jQ d os.length then some (w,(os.map bO).filterMap id) else none)=_;rw[e]
theorem Fv:Rd yA A9 Zhb:=by
 rintro _ E Q ⟨x,rfl,⟨h1,h2⟩,q⟩;unfold A9
 by_cases hs:∃t,x=.str t
 .obtain⟨t,rfl⟩:=hs
  have ht:gQ t:=h2;walk_at "nx";refine Fe ?_;simp only[isB,dA,cw,if_false];refine eW ?_;unfold yw;walk_at "st";rw[show(Str.ofString " ")=⟨#[32]⟩ from m4];have hm:=λp hp=>yn (p:=p) ht hp (c:=32);have hk:=AV t 32;have hw:=ht.2;have hp:=split_pos t ⟨#[32]⟩;rw[yD] at q;change exQ E Q (yC (gq (Txt.split t " "))) at q;rw[show(" " : Str)=⟨#[32]⟩ from m4] at q;refine⟨_,rfl,by decide +kernel,cq (by omega),?_⟩;generalize Txt.split t ⟨#[32]⟩=L at *;refine⟨cq (by omega),?_⟩;cases L with
  |nil=>simp at hp
  |cons w os=>
   walk_at "nx";refine lP (g:=D.str) (f:=λp=>fj (bO p)) os (λp hp Q hq=>?_) .un [] (cq (by rw[fG];simp only[cD] at hk;omega)) ?_
   .walk_at "st"
    exact B.T2.u_number_read (hm p (cK _ hp)) hq
   rw[eG];walk_at "nx";rw[show(λp=>fj (bO p))=fj∘bO from rfl,<-iP];unfold mW;refine⟨w,rfl,?_⟩;cases e:NUMD.lookup w with
   |none=>
    rw[Br e] at q;simp only[wx,gC,if_true];exact q
   |some du=>
   rw[yE e] at q;simp only[Option.isSome_some,dA,cw,if_false,if_true];refine⟨_,rfl,.inr rfl,Fs _,?_⟩;rw[Fr];cases e2:(os.map bO).any Option.isNone with
   |true=>
    simp only[isB,if_true];have:((os.map bO).all Option.isSome&&jQ du os.length)=false:=by rw[Ft _ e2];rfl
    rw[this] at q;exact q
   |false=>
   simp only[isB,cw,if_false];obtain⟨o1,o2,o3⟩:=Bp _ e2;rw[bR] at o2;have ol:((os.map bO).map fj).length=os.length:=by rw[bR,bR]
   walk_at "nx";refine⟨w,du,rfl,e,?_⟩;rw[o3,Bool.true_and] at q;walk_at "nx";rw[ol];have fin:jQ du os.length=true->2<=small/\Q (D.tup [D.str w,D.tup (List.map fj (List.map bO os))]):=λz=>by
    rw[z,Hh rfl] at q;refine⟨by decide,?_⟩;rw[o1];exact q
   have bad:jQ du os.length=false->E (Str.ofString "NoLine"):=λz=>by
    rw[z] at q;exact q
   rcases Fu e with rfl|⟨k,rfl⟩
   .refine⟨rfl,?_⟩
    show isB _ (.bl true);simp only[isB,if_true]
    by_cases z:os.length=0
    .rw[Hh (by rw[z];rfl)]
     exact bad (by unfold jQ;rw[z];rfl)
    .rw[if_neg (by rw[HD];omega)]
     refine⟨rfl,?_⟩;show isB _ (.bl false);simp only[isB,cw,if_false];exact fin (by unfold jQ;exact Hl (by omega))
   .refine⟨rfl,?_⟩
    show isB _ (.bl false);simp only[isB,cw,if_false];refine⟨rfl,?_⟩;show isB _ (.bl true);simp only[isB,if_true];refine zP ?_;simp only[if_true,isB];cases z:((os.length:Int)==k) with
    |true=>
     rw[dA,if_neg bW];exact fin z
    |false=>
     rw[gC,Hh rfl];exact bad z
 .walk_at "nx"
  refine Ff h1 (λt z=>hs ⟨t,z⟩) ?_;simp only[isB,gC,if_true];rw[yD] at q;cases x with
  |str t=>exact Hj ⟨t,rfl⟩ hs
  |_=>exact q
end D7
local macro_rules | `(tactic| walk_at "dd")=>`(tactic| (simp only[dw,dT,dS,dE,ls,mU,cV,dM,gR,lv,jP,ly,cP,A5,kf,en,oa,dF,qT,uc,NdD.to,w1,gl,gp,mW];walk_at "st"))
namespace D7
theorem bQ{z z':dv}{E:ED}{N:NdD}(h:z E { N with nx:=z' E N } ρ Δ):aY z z' E N ρ Δ:=h
theorem Bt(h:st≠[]):cG (st.map aN) (-1)=some (aN (lst st)):=by
 obtain⟨r,s,rfl⟩:∃r s,st=r++[s]:=⟨_,_,(wy h).symm⟩
 rw[lH];have:lst (r++[s])=s:=by unfold lst;simp
 rw[this];exact gK _ _
theorem Fw:∀ds Δ E Q,uh ds Δ E Q->yB E { nx:=λ_ δ=>Q .non δ,rt:=Q } (cB ZjE ds) Δ:=by
 rintro _ Δ E Q ⟨b,st,rfl,hΔ,hne,q⟩;unfold yB;refine bQ ?_;walk_at "dd";refine⟨b,rfl,b,_,rfl,hΔ,?_⟩;rw[bR]
 by_cases e:st.length=1
 .rw[Hh e] at q
  rw[Hh (by rw[e];rfl)];exact q
 .rw[if_neg e] at q
  rw[if_neg (by rw[HD];omega)];have h0:0<st.length:=List.length_pos_iff.mpr hne;refine⟨b,rfl,b,_,aN (st[st.length-1]'(by omega)),rfl,hΔ,?_,?_⟩
  .rw[bR,eF,iQ (by omega)];rfl
  .rw[<-List.map_dropLast]
   exact q
theorem Fx{i:Int}(h:bO w=some i):i.natAbs<10^20:=by
 unfold bO at h;split at h
 .rename_i g
  cases h;unfold lQ at g;simp only[cf,Hk] at g;obtain⟨⟨⟨h1,h2⟩,h3⟩,_⟩:=g;have:=E1 (AJ h3);have h4:(10:Nat)^(aX w).length<=10^20:=Nat.pow_le_pow_right (by decide) h2;unfold jO;split<;>omega
 .cases h
theorem Fy(h:gq L=some (w,ns)):∃d,NUMD.lookup w=some d/\jQ d ns.length=true/\ns.length<=L.length/\∀i∈ns,i.natAbs<10^20:=by
 cases L with
 |nil=>cases h
 |cons v os=>
  cases e:NUMD.lookup v with
  |none=>rw[Br e] at h;cases h
  |some d=>
   rw[yE e] at h;split at h
   .rename_i g
    cases h;rw[cf] at g;have hl:((os.map bO).filterMap id).length=os.length:=by
     have:∀l:List (Option Int),l.all Option.isSome=true->(l.filterMap id).length=l.length:=by
      intro l
      induction l with
      |nil=>intro _;rfl
      |cons a r ih=>
       intro h;rw[List.all_cons,cf] at h;cases a with
       |none=>cases h.1
       |some i=>show(i::r.filterMap id).length=_;rw[cD,ih h.2,cD]
     rw[this _ g.1,bR]
    refine⟨d,e,by rw[hl];exact g.2,by rw[hl];simp,λi hi=>?_⟩;obtain⟨o,ho,he⟩:=Yax.mp hi;obtain⟨x,_,rfl⟩:=Yby.mp ho;exact Fx he
   .cases h
theorem og(h:NUMD.lookup w=some (.int k))(hd:NUMD.lookup w=some d)(due:jQ d ns.length=true):ns.length=k:=by
 rw[h] at hd;cases hd;have:=eq_of_beq (show((ns.length:Int)==(k:Int))=true from due);omega
theorem r8(h:st≠[]):lst st∈st:=by
 obtain⟨r,s,rfl⟩:∃r s,st=r++[s]:=⟨_,_,(wy h).symm⟩
 unfold lst;simp
theorem Fz(h:gU w s ns=some (.error ex)):ex∈mZ:=by
 have sz:∀{ns:List Int} {ex:Str},lz ns=.error ex->ex∈mZ:=λh=>by unfold lz at h;split at h<;>cases h;decide +kernel
 have rw':∀{ns:List Int} {ex:Str},gT ns=.error ex->ex∈mZ:=λh=>by unfold gT at h;split at h<;>cases h;decide +kernel
 have st:∀{s ns:List Int} {ex:Str},km s ns=.error ex->ex∈mZ:=λh=>by unfold km at h;split at h<;>cases h;decide +kernel
 have cu:∀{s ns:List Int} {ex:Str},lA s ns=.error ex->ex∈mZ:=λh=>by unfold lA at h;split at h<;>cases h;decide +kernel
 unfold gU at h
 repeat' split at h
 .exact sz (Hn h)
 .exact rw' (Hn h)
 .exact st (Hn h)
 .cases h
 .exact rw' (Hn h)
 .exact cu (Hn h)
 .cases h
theorem Bu{i:Int}(h:c∈(aO i).cps.toList):c=45\/(48<=c/\c<=57):=by
 have dig:∀{m c:Nat},c∈(Nat.toDigits 10 m).map Char.toNat->48<=c/\c<=57:=λ{m c} h=>Zdg.mp (Ybe.mp (t6 m) c h);rcases wr i with⟨m,rfl|rfl⟩
 .rw[rN] at h;exact .inr (dig h)
 .by_cases z:m=0
  .subst z
   have:aO (-((0:Nat):Int))=aO ((0:Nat):Int):=by decide +kernel
   rw[this,rN] at h;exact .inr (dig h)
  .rw[vH m z] at h
   rcases Yam.mp h with rfl|h
   .exact .inl rfl
   .exact .inr (dig h)
def cW(w:Str)(ns:List Int):Str:=Txt.join " " (w::ns.map aO)
theorem vO(L:List Str):Txt.join " " L=Str.join ⟨#[32]⟩ L:=by rw[m4];exact StrLaws.glued_eq_join _ _
theorem Bv(p q:Str)(r:List Str):(Txt.join " " (p::q::r)).cps.toList=p.cps.toList++32::(Txt.join " " (q::r)).cps.toList:=by
 rw[vO,vO];show(p++⟨#[32]⟩++Str.join ⟨#[32]⟩ (q::r)).cps.toList=_;simp only[Str.cps_append,sB];simp
theorem Bw(p:Str):Txt.join " " [p]=p:=by rw[vO];rfl
theorem jh(a b:Str):(a++b).cps.toList=a.cps.toList++b.cps.toList:=by simp only[Str.cps_append,sB]
theorem uj:(" " : Str).cps.toList=[32]:=by decide +kernel
theorem FA{v:Str}(h:ns≠[])(e:v=w++ " "):cW w ns=v++mY ns:=by
 subst e;cases ns with
 |nil=>exact Hj rfl h
 |cons i r=>
  refine n9 ?_;unfold cW mY;rw[cF,Bv,jh,jh,uj];simp
theorem FC(w:Str):cW w []=w:=Bw w
def lT(w:Str):Bool:=w.cps.toList.all (λc=>decide (32<c)&&decide (c<128))&&decide (w.length<=10)
theorem Bx(h:lT w=true)(hc:c∈w.cps.toList):32<c/\c<128:=by
 unfold lT at h;rw[cf] at h;have:=Ybe.mp h.1 c hc;simpa using this
theorem By(hd:NUMD.lookup w=some d)(hw:lT w=true)(hn:∀i∈ns,i.natAbs<10^20)(due:jQ d ns.length=true):lR (cW w ns)=some (w,ns):=by
 unfold lR cW;rw[m4,yi (by simp) (λp hp hc=>?_),yE hd]
 .have e:(ns.map aO).map bO=ns.map some:=by
   rw[iP];exact wq λi hi=>AN (hn i hi)
  rw[e,bR,due,Bool.and_true];have e2:(ns.map some).all Option.isSome=true:=by rw[uS];simp
  have e3:(ns.map some).filterMap id=ns:=by rw[List.filterMap_map];simp
  rw[e2,Hh rfl,e3]
 .rcases Yam.mp hp with rfl|hp
  .have:=Bx hw hc;omega
  .obtain⟨i,_,rfl⟩:=Yby.mp hp
   have:=Bu hc;omega
theorem FD:∀(L:List Str),(∀p∈L,(∀c∈p.cps.toList,c<128)/\p.length<=23)->(∀c∈(Txt.join " " L).cps.toList,c<128)/\(Txt.join " " L).cps.toList.length<=24*L.length:=by
 intro L
 induction L with
 |nil=>intro _;refine⟨λc hc=>?_,by decide +kernel⟩;rw[vO] at hc;exact nomatch (show c∈([]:List Nat) from hc)
 |cons p r ih=>
  intro h;have hp:=h p (dk ..);have hr:=ih λq hq=>h q (cK _ hq);cases r with
  |nil=>rw[Bw];exact⟨hp.1,by rw[j9];have:=hp.2;simp;omega⟩
  |cons q r=>
   rw[Bv];refine⟨λc hc=>?_,?_⟩
   .rcases Yan.mp hc with hc|hc
    .exact hp.1 c hc
    .rcases Yam.mp hc with rfl|hc
     .decide
     .exact hr.1 c hc
   .have h1:=hr.2
    have h2:=hp.2;rw[gu,cD,j9];simp only[cD] at h1 ⊢;omega
theorem yF(hw:lT w=true)(hl:ns.length<=11)(hn:∀i∈ns,i.natAbs<10^20):(∀c∈(cW w ns).cps.toList,c<128)/\(cW w ns).length<=288:=by
 have hk:=FD (w::ns.map aO) λp hp=>by
  rcases Yam.mp hp with rfl|hp
  .refine⟨λc hc=>(Bx hw hc).2,?_⟩
   unfold lT at hw;rw[cf,Hk] at hw;omega
  .obtain⟨i,hi,rfl⟩:=Yby.mp hp
   exact⟨λc hc=>by have:=Bu hc;omega,B.T2.istr_len (jU (hn i hi) (by decide))⟩
 refine⟨hk.1,?_⟩;have:=hk.2;rw[j9] at this;simp only[cD,bR] at this;unfold cW;omega
theorem yG(hw:lT w=true)(hl:ns.length<=11)(hn:∀i∈ns,i.natAbs<10^20):gQ (cW w ns):=⟨Za0.mpr (yF hw hl hn).1,gA (yF hw hl hn).2 (by decide)⟩
theorem lV{a b:Str}(h:a.length+b.length<=5000)(q:Q (.str (a++b))):iM (.str a) (.str b) Q:=⟨cq h,q⟩
theorem sd(a b:Str):(a++b).length=a.length+b.length:=strLen_append ..
theorem oh{i:Int}(h:i.natAbs<=1000):i.natAbs<10^20:=oz h (by decide)
theorem FE{i:Int}(h:i.natAbs<10^20):(aO i).length<=23:=B.T2.istr_len (jU h (by decide))
theorem Bz(hd:NUMD.lookup w=some (.int 0))(hw:lT w=true):lR w=some (w,[])/\gQ w:=by
 have hn:∀i∈([]:List Int),i.natAbs<10^20:=λ_ h=>nomatch h;have h1:=By hd hw hn rfl;have h2:=yG (ns:=[]) hw (by simp) hn;rw[FC] at h1 h2;exact⟨h1,h2⟩
theorem FF(h:asc x=true):PyData.canLay0 (.str x)=true:=by
 unfold PyData.canLay0 PyData.strOk;rw[wu];intro c hc;have:=Za0.mp h c (by simpa using hc);exact Hl (by omega)
theorem yH(h:asc x=true):d9 (.tup [.str x]) 60=true:=by simp[d9,jJ,FF h]
theorem FG(ne:s≠[])(h:s.length<=11)(hb:∀i∈s,i.natAbs<10^20):asc (mY s)=true:=by
 have:=(yG (w:= "row") (by decide +kernel) h hb).1;rw[FA (w:= "row") (v:= "row ") ne (by decide +kernel)] at this;refine Za0.mpr λc hc=>Za0.mp this c ?_;rw[jh];exact iO _ hc
theorem FH(ex:Str):asc (jR ex)=true:=by
 unfold jR;split
 .decide +kernel
 .split<;>decide +kernel
end D7
namespace B.T
abbrev ZaS:List Str:=["slants"]
def z_slants_shown:WS:=(aK (g0 (wF lL (aD (wN 0) aC))) (aH (wS Zc (wC (D.str (PySem.Str.ofString "\n"))) (aD (w2 gAdd (wL (aU (aD (mQ (wC (D.str (PySem.Str.ofString "size "))) (gj (wF pE (aD (wN 0) aC)))) aC))) (wL (aLC (iS (wN 0)) 1 [] (gN 0) dB (mQ (wC (D.str (PySem.Str.ofString "slant "))) (gj (wN 0)))))) aC))))
abbrev ZaT:List Str:=["_law_slants", "_law_rows"]
def z__law_text_of:WS:=(aK (aW 1 (w2 gAdd (wL (aU (aD (w2 iM (wC (D.str (PySem.Str.ofString "size "))) (wB g5 (aD (w2 iE (w2 gAdd (wB bL (aD (wN 0) aC)) (wC (D.int (1)))) (wC (D.int (2)))) aC))) aC))) (wL (aLC (iS (wN 0)) 1 [] (gN 0) dB (w2 iM (wC (D.str (PySem.Str.ofString "slant "))) (wB g5 (aD (wN 0) aC))))))) (aH (wS Zc (wC (D.str (PySem.Str.ofString "\n"))) (aD (wN 1) aC))))
end B.T
local macro_rules | `(tactic| walk_at "w1")=>`(tactic| simp only [aH,cr,aW,bI,g0,bT,cO,f6,mK,f8,d7,dP,mL,d8,mM,f7,gx,iG,wM,Zcy,jB,fX,lh,dL,fg,cm,wT,jc,w1,w2,wB,wF,wL,bJ,cI,ZaP,aB,aU,aD,aC,aLC,ZbM,dB,iS,iC,rL,gP,wS,gj,mQ,iL,iT,lj,mH,iZ,gM,eQ,wN,wC,gN,iD,jd,j5,de,mI,eS,f9,gb,gc,ge,da,gg,gh,cB,pub,cF,hJ,cD,fG,kx,eG,List.replicate,l3,l4,l5,l6,Nat.reduceSub,Nat.reduceAdd,eX,l8,true_and,cw,if_true,if_false,ite_true,ite_false,nb,dA,gC,
 pJ,pK,pL,pM,pN,pO,pP,pQ,pR,pS,pT,pU,pV,pW,pX,pY,pZ,p6,p8,p9,qc,qd,qe,qf,qg,qh,qi,qj,qk,ql,qo,Zd,qp,qq,qr,qs,qt,qu,qv,qw,qx,qy,qz,qA,qB,qC,qD,qE,qF,iH,qG,qH,qI,qJ,qK,iJ,iK])
namespace B.T
theorem vP{i:Int}(h:-50<=i/\i<=50):i.natAbs.log2<1920:=by
 by_cases z:i.natAbs=0
 .rw[z];decide
 .exact(Nat.log2_lt z).mpr (oz (by omega:i.natAbs<=50) (by decide))
theorem FJ:(s.map λi=>D.str (("slant " : Str)++aO i))=(s.map λi=>("slant " : Str)++aO i).map D.str:=by rw[iP];rfl
theorem BA{n:Nat}(h:IsSl s n)(q:Q (.str (mS s n))):Zc "\n" [.lst ([.str (("size " : Str)++aO n)]++s.map λi=>D.str (("slant " : Str)++aO i))] Q:=by
 refine⟨g6 s n,?_,by decide +kernel,gA (AH h) (by decide),q⟩;unfold g6;rw[FJ];rfl
theorem yI:("size " : Str).length=5:=by decide +kernel
theorem yJ:("slant " : Str).length=6:=by decide +kernel
theorem BB{i:Int}(o:lq i):("size " : Str).length+(aO i).length<=small:=by
 have:=o.lw;rw[yI];exact cq (by omega)
theorem BC{i:Int}(o:lq i):("slant " : Str).length+(aO i).length<=small:=by
 have:=o.lw;rw[yJ];exact cq (by omega)
theorem rd_slants_shown:Rd S_slants_shown z_slants_shown ZaS:=by
 rintro _ E Q ⟨x,rfl,hk,q⟩;unfold z_slants_shown;walk_at "nx";unfold txR at q;cases e:dQ x with
 |false=>exact vB hk e (x9 e q)
 |true=>
 obtain⟨s,n,rfl,h⟩:=vz e;have n5:=h.n5;have n1:=h.n1;have h9:=h.l9;replace q:=ya h q;rw[pG,h.sN] at q;refine vA h ?_;have on:=rM (i:=(n:Int)) (by omega);walk_at "st";refine⟨by decide +kernel,z0 h ?_⟩;walk_at "st";refine⟨vP (by omega),BB on,by decide,?_⟩;refine lP (g:=λi:Int=>D.int i) (f:=λi:Int=>D.str (("slant " : Str)++aO i)) s (λi hi Q hq=>?_) .un [] (by simp[small];omega) ?_
 .have oi:=rM (h.b i hi)
  walk_at "st";exact⟨by decide +kernel,vP (h.b i hi),BC oi,hq⟩
 .rw[eG]
  walk_at "st";exact⟨cq (by simp;omega),BA h q⟩
theorem rd__law_text_of:Rd S__law_text_of z__law_text_of ZaT:=by
 rintro _ E Q ⟨⟨s,n⟩,rfl,h,q⟩;dsimp only at h q;have n5:=h.n5;have n1:=h.n1;have h9:=h.l9;have hsl:=h.len;have on:=rM (i:=(n:Int)) (by omega);unfold z__law_text_of aN;walk_at "nx";refine⟨⟨by decide,gO (n:=2) (by decide) (by omega)⟩,?_⟩;rw[bR,uT _ (by decide),show((s.length:Int)+1)/2=n by omega];refine⟨_,rfl,vP (by omega),BB on,by decide,?_⟩;walk_at "st";refine lP (g:=λi:Int=>D.int i) (f:=λi:Int=>D.str (("slant " : Str)++aO i)) s (λi hi Q hq=>?_) .un [] (by simp[small];omega) ?_
 .have oi:=rM (h.b i hi)
  walk_at "st";exact⟨_,rfl,vP (h.b i hi),BC oi,hq⟩
 .rw[eG]
  walk_at "st";refine⟨cq (by simp;omega),?_⟩;walk_at "st";exact BA h q
end B.T
structure FK(K:Hg)(mg:Str->Option Value)(st:Stmt):Prop where
 h:∃(C fI:Addr) (od:Option Addr) (osl:Array (Option Value)) (kV doc pm:Value) (an:Option Addr) (cdv ct:Value),eE K "TooGreat" = some C/\mg "TooGreat" = some (.ref C)/\Fl.clsF K C Fl.bmV "ValueError.__new__" "many" fI=true/\Fl.clsF K C Fl.bmV "ValueError.__new__" "most" fI=true/\
  K.lookup fI=some ⟨.type "function",od,.func (PySem.W.fnOf "__init__" "TooGreat.__init__" (aR st) (aI st) (aA st) .none kV doc pm an cdv ct),osl⟩/\PySem.W.codeIn K cdv "TooGreat.__init__" = true/\PySem.W.keepIn K (.ref fI)=true
section
variable{w:World}{base:Heap}{st:Stmt}
theorem mkXF2(X:K.In hp)(G:hp.Ns mainGlobals mg){C:Addr}{kV:Value}{dd:Option Addr}(a:PySem.W.nsIn K mainGlobals "TooGreat" = some (some (.ref C)))(lc:K.lookup C=some ⟨.type "type",dd,.cls cd,sl⟩)(ni:PySem.W.nsIn K cd.ns "__init__" = some (some (.ref fI)))(q:Fl.clsF K C Fl.bmV "ValueError.__new__" "many" fI=true)(q2:Fl.clsF K C Fl.bmV "ValueError.__new__" "most" fI=true)
  (l:K.lookup fI=some ⟨.type "function",od,.func (PySem.W.fnOf "__init__" "TooGreat.__init__" (aR st) (aI st) (aA st) .none kV doc pm an cdv ct),osl⟩) (c:PySem.W.codeIn K cdv "TooGreat.__init__" = true) (kp:PySem.W.keepIn K (.ref fI)=true):FK K mg st:=
 ⟨C,fI,od,osl,kV,doc,pm,an,cdv,ct,lN a,PySem.W.mg_of X G a,q,q2,l,c,kp⟩
end
def yK(s:Stmt)(i:Nat):Stmt:=match s with
 |.ClassDef _ _ _ b _ _ _ _ _ _ _=>b.getD i s
 |s=>s
structure DK(K:Hg)(mg:Str->Option Value)(stI stS stU:Stmt):Prop where
 h:∃(C fI fS fU:Addr) (fdI fdS fdU:FuncData),DC K mg C/\Mk K C fI/\Fun K "__init__" "Desk.__init__" stI fI fdI/\Fun K "say" "Desk.say" stS fS fdS/\gG K C "say" fS/\Fun K "undo" "Desk.undo" stU fU fdU/\gG K C "undo" fU
section
variable{w:World}{base:Heap}{stI stS stU:Stmt}
theorem mkDK(X:K.In hp)(G:hp.Ns mainGlobals mg){C fS fU:Addr}{oI oS oU iI iS iU:Option Addr}{lI lS lU:Array (Option Value)}{a1 a2 a3 a4 a5 a6 b1 b2 b3 b4 b5 b6 c1 c2 c3 c4 c5 c6:Value}
  (a:PySem.W.nsIn K mainGlobals "Desk" = some (some (.ref C))) (pg:PySem.W.plainGet K C Str.empty=true) (hd:PySem.W.hasDictIn K C=true) (po:PySem.W.plainOver K C=true) (sa:PySem.W.findIn K (.ref C) "__setattr__" = some (some (.builtin "object.__setattr__"))) (no:PySem.W.findIn K (.ref C) "standing" = some none)
  (mk:PySem.W.makesIn K C=true) (ni:PySem.W.findIn K (.ref C) "__init__" = some (some (.ref fI))) (ki:PySem.W.keepIn K (.ref C)=true)
  (e1:K.lookup fI=some ⟨a1,oI,.func (PySem.W.fnOf "__init__" "Desk.__init__" (aR stI) (aI stI) (aA stI) .none a2 a3 a4 iI a5 a6),lI⟩) (e2:PySem.W.codeIn K a5 "Desk.__init__" = true) (e3:PySem.W.keepIn K (.ref fI)=true) (e4:PySem.W.isFn K (.ref fI)=true)
  (s0:PySem.W.findIn K (.ref C) "say" = some (some (.ref fS))) (s1:K.lookup fS=some ⟨b1,oS,.func (PySem.W.fnOf "say" "Desk.say" (aR stS) (aI stS) (aA stS) .none b2 b3 b4 iS b5 b6),lS⟩) (s2:PySem.W.codeIn K b5 "Desk.say" = true) (s3:PySem.W.keepIn K (.ref fS)=true) (s4:PySem.W.isFn K (.ref fS)=true)
  (u0:PySem.W.findIn K (.ref C) "undo" = some (some (.ref fU))) (u1:K.lookup fU=some ⟨c1,oU,.func (PySem.W.fnOf "undo" "Desk.undo" (aR stU) (aI stU) (aA stU) .none c2 c3 c4 iU c5 c6),lU⟩) (u2:PySem.W.codeIn K c5 "Desk.undo" = true) (u3:PySem.W.keepIn K (.ref fU)=true) (u4:PySem.W.isFn K (.ref fU)=true):DK K mg stI stS stU:=
 ⟨C,fI,fS,fU,_,_,_,⟨lN a,PySem.W.mg_of X G a,⟨pg,hd,po,sa⟩,no⟩,⟨mk,ni,e4,ki⟩,fW e1 e2 e3,fW s1 s2 s3,⟨s0,s4,s3⟩,fW u1 u2 u3,⟨u0,u4,u3⟩⟩
theorem mkT1(X:K.In hp)(G:hp.Ns mainGlobals mg){f:Addr}{d:Option Addr}{n:Nat}{i:Int}{t:Tok}(a:PySem.W.nsIn K mainGlobals x=some (some (.ref f)))(l:K.lookup f=some ⟨.type "tuple",d,.seq #[.int i t] n,sl⟩):CT K mg x [.int i]:=
 ⟨f,[.int i],PySem.W.mg_of X G a,⟨_,_,_,l,rfl,rfl,(by show 1<=sizeLine;decide),.cons ⟨_,rfl⟩ .nil⟩,λ_=>.cons (.int _) .nil⟩
theorem Ent.i{e:DictEntry}{es:List DictEntry}{k:Str}{t u:Tok}{i:Int}{r:List (Str×D)}(h:e.key=.str k t)(hv:e.val=.int i u)(q:Ent K es r):Ent K (e::es) ((k,.int i)::r):=.cons (v:=.int i) h ⟨u,hv⟩ (λ_=>.int i) q
theorem Ent.n{e:DictEntry}{es:List DictEntry}{k:Str}{t:Tok}{r:List (Str×D)}(h:e.key=.str k t)(hv:e.val=.none)(q:Ent K es r):Ent K (e::es) ((k,.non)::r):=.cons (v:=.non) h hv (λ_=>.non) q
theorem Ent.f{e:DictEntry}{es:List DictEntry}{k m:Str}{t:Tok}{f:Addr}{r:List (Str×D)}(h:e.key=.str k t)(hv:e.val=.ref f)(a:PySem.W.nsIn K mainGlobals m=some (some (.ref f)))(q:Ent K es r):Ent K (e::es) ((k,.cls m)::r):=.cons (v:=.ref f) h hv (λ_=>.cls (lN a)) q
theorem mkD(X:K.In hp)(G:hp.Ns mainGlobals mg){p:Params}{es:Array DictEntry}{n:Nat}(h:PySem.W.nsIn K mainGlobals x=some (some (.ref a)))(l:K.lookup a=some { cls:=.type "dict",data:=.dict es n })(s:(a==sysModules)=false)(k:PySem.W.KeysLit p es.toList)(e:Ent K es.toList kvs):CD K p mg x kvs:=⟨a,es,n,PySem.W.mg_of X G h,l,k,s,e⟩
theorem yL{st:Stmt}{C:Addr}{p0 q0 lp r0:Pos}(dc:DC K mg C)(M:Mk K C fI)(F:Fun K "__init__" "Desk.__init__" st fI fd)(ct:CT K mg "FIRST_SLANTS" [.int 0])
  (sc:aT [("self" : Str)] [("self" : Str)] (aA st)) (hb:aI st=[.Assign [.Attribute (.Name "self" p0) "standing" q0] (.List [.Name "FIRST_SLANTS" p1] lp) r0])
  (hg:∀(f:Addr) (cdv:Value) (A:Around) (outer:List Env) (s:Shared) (H:Hp) (E:XK),Gl (bA (bE P w) P w K mg base [("self" : Str)] "Desk.__init__" (aA st) f cdv A outer s H E) "FIRST_SLANTS")
  (hs:∀env,swapsWith (.List [.Name "FIRST_SLANTS" p1] lp) (some (.Attribute (.Name "self" p0) "standing" q0)) r0.line env=pure false) (he:∀env,starEach [.Name "FIRST_SLANTS" p1] env=(false,eval (.Name "FIRST_SLANTS" p1) env)::starEach [] env)
  (bi:∀(kV doc pm:Value) (an:Option Addr) (cdv ct:Value) (us:List Value),us.length=1->bindArgs (PySem.W.fnOf "__init__" "Desk.__init__" (aR st) (aI st) (aA st) .none kV doc pm an cdv ct) ⟨us,[]⟩=pure ([("self" : Str)].zip us)):vN P w K mg base (k+1) [.int 0]:=by
 obtain⟨a,vs,hm,hk,hr⟩:=ct;refine⟨C,fI,fd,[("self" : Str)],.ref a,dc,M,?_,F.binds bi,λW=>.ktup hk (hr W)⟩;obtain⟨oc,od,kV,doc,pm,an,cdv,ct,osl,rfl,lk,hcd⟩:=F.ex;have v0:oF (aA st) "self" :=(sc.par "self" (by simp)).elim .inl λz=>.inr (.inl z);refine i9 lk hcd sc (λvs H Q E ⟨x,dx,z,_⟩=>by rw[z];rfl) λA outer s H vs Q E hr hsp=>?_;obtain⟨x,dx,rfl,hx,q⟩:=hsp
 let X:=bA (bE P w) P w K mg base [("self" : Str)] "Desk.__init__" (aA st) fI cdv A outer s H E
 refine⟨_,by rw[hb];exact fL (o6 (X:=X) (fK (i:=0) rfl v0 (by decide) (by decide)) (ik (cz (dl (v:=.ref a) (hg _ _ _ _ _ _ _) hm rfl (by decide)) c0 (he _))) (hs _)),?_⟩;refine⟨by show 1<=sizeLine;decide,λl hl=>⟨_,rfl,x,C,dx,[],rfl,?_,dc.cls,dc.no,by decide,?_⟩⟩
 .rw[aE (λz=>by rw[<-z,hx] at hl;cases hl)];exact hx
 .exact q l hl
theorem DK.dc(h:DK K mg stI stS stU):∃C,DC K mg C:=by
 obtain⟨C,_,_,_,_,_,_,c,_⟩:=h.h;exact⟨C,c⟩
theorem vQ{a:Expr}(c:∃C,DC X.K X.mg C)(ha:PX X EX a wa)(hb:attributeBase a "standing" X.env (eval a X.env)=eval a X.env:=by rfl):PX X EX (.Attribute a "standing" pos) (w1 gl wa):=by
 obtain⟨C,c⟩:=c;exact E6 c ha hb
theorem FL(h:DK K mg stI stS stU)(ct:CT K mg "FIRST_SLANTS" [.int 0])(I:∃ p0 p1 q0 lp r0,aI stI=[.Assign [.Attribute (.Name "self" p0) "standing" q0] (.List [.Name "FIRST_SLANTS" p1] lp) r0]/\(∀ (f:Addr) (cdv:Value) (A:Around) (outer:List Env) (s:Shared) (H:Hp) (E:XK),Gl (bA (bE P w) P w K mg base [("self" : Str)] "Desk.__init__" (aA stI) f cdv A outer s H E) "FIRST_SLANTS")/\
   (∀env,swapsWith (.List [.Name "FIRST_SLANTS" p1] lp) (some (.Attribute (.Name "self" p0) "standing" q0)) r0.line env=pure false)/\∀env,starEach [.Name "FIRST_SLANTS" p1] env=(false,eval (.Name "FIRST_SLANTS" p1) env)::starEach [] env)
  (sc:aT [("self" : Str)] [("self" : Str)] (aA stI):=by exact⟨rfl,rfl,rfl,by decide +kernel,rfl,by decide +kernel,by decide +kernel⟩)
  (bi:∀ (kV doc pm:Value) (an:Option Addr) (cdv ct:Value) (us:List Value),us.length=1->bindArgs (PySem.W.fnOf "__init__" "Desk.__init__" (aR stI) (aI stI) (aA stI) .none kV doc pm an cdv ct) ⟨us,[]⟩=pure ([("self" : Str)].zip us):=by
   intro _ _ _ _ _ _ us hl
   match us,hl with|[_],_=>rfl):vN P w K mg base (k+1) [.int 0]:=by
 obtain⟨C,fI,fS,fU,_,_,_,dc,M,FI,_⟩:=h.h;obtain⟨_,_,_,_,_,hb,hg,hs,he⟩:=I;exact yL dc M FI ct sc hb hg hs he bi
end
section
variable{α β:Type}{M:Model}{A:Around}{s:Shared}{E:Value->Shared->Prop}
theorem FM{m:Sem α}{f:α->Sem β}{Q:β->Shared->Prop}(h:wpAny M A (m >>= f) Q E s)(Γ:PySem.Ctx)(p:Pos)(hΓ:Γ.In A):Sem.wp M Γ m (λa p' s'=>Sem.wp M Γ (f a) (λa _ s'=>Q a s') (λe _ s'=>E e s') p' s') (λe _ s'=>E e s') p s:=by
 have:=h Γ p hΓ
 rwa [Sem.wp_bind'] at this
theorem FN{t:Sem α}{f:Value->Sem α}{env:Env}{Q:α->Shared->Prop}(ht:t=(eval (.Constant (.str x) j pos) env >>= f))(h:wpAny M A t Q E s):wpAny M A t (λa s'=>1<=s'.toks/\Q a s') E s:=by
 subst ht;intro Γ p hΓ;have h1:=FM h Γ p hΓ;rw[Sem.wp_bind'];exact Sem.wp_mono M Γ _ (λ_ _ _ z=>z) (λ_ _ _ z=>z) p s (show Sem.wp M Γ (eval (.Constant (.str x) j pos) env) _ _ p s from
  Sem.wp_mono M Γ _ (λ_ _ _ z=>z) (λ_ _ _ z=>z) _ _ (Sem.wp_mono M Γ (f (.str x s.toks)) (λa _ s' z=>z) (λe _ s' z=>z.2) p { s with toks:=s.toks+1 } (Sem.wp_toks M Γ 1 _ _ _ p { s with toks:=s.toks+1 } (Nat.le_add_left _ _) h1)))
end
def uk(X:Cx)(e:Expr)(t:TE):Prop:=
 ∀(pins:List (Addr×Obj)) (s:Shared) (σ:L2.St) (H:Hp) (Q:VK),Inv X pins σ H s->t σ H Q->wpAny (model X.prog X.w) X.A (eval e X.env) (λv s'=>1<=s'.toks/\EP X pins σ Q v s') X.xe s
def lB(X:Cx)(st:List Stmt)(t:TS):Prop:=
 ∀(pins:List (Addr×Obj)) (s:Shared) (σ:L2.St) (H:Hp) (D:e8),Inv X pins σ H s->t D σ H->wpAny (model X.prog X.w) X.A (execs st X.env) (λf s'=>1<=s'.toks/\SP X pins D f s') X.xe s
def vR(X:Cx)(st:Stmt)(t:TS):Prop:=
 ∀(pins:List (Addr×Obj)) (s:Shared) (σ:L2.St) (H:Hp) (D:e8),Inv X pins σ H s->t D σ H->wpAny (model X.prog X.w) X.A (exec st X.env) (λf s'=>f=.next/\SP X pins D f s') X.xe s
section
variable{te:TE}{st:Stmt}{bD:List Stmt}{t u:TS}
theorem FO{f:Value->Sem Value}(he:PE X e te)(h:eval e X.env=(eval (.Constant (.str x) j p) X.env >>= f)):uk X e te:=λpins s σ H Q I q=>FN h (he pins s σ H Q I q)
theorem FP(he:PE X e te)(hs:swapsWith e none pos.line X.env=pure false:=by rfl):vR X (.Expr e pos) (nu te):=by
 intro pins s σ H D I h;exact wpAny_Expr_any (aV (he pins s σ H _ I h) λv s1 ⟨x,H1,I1,r1,q1⟩=>⟨rfl,σ,H1,I1,q1⟩) I.quiet hs
theorem FQ{i:Nat}(hN:X.N.Nodup)(hi:X.N[i]? = some x)(hx:jX X.env.scope x)(he:PE X e te)(hs:swapsWith e (some (.Name x pos')) pos.line X.env=pure false:=by rfl)(hf:X.fn x=true\/X.env.scope.names.lookup x=some .local:=by first|exact .inl rfl|exact .inr rfl|assumption) :
  vR X (.Assign [.Name x pos'] e pos) (oQ te (kG i)):=by
 intro pins s σ H D I h;refine wpAny_Assign_Name (aV (he pins s σ H _ I h) λv s1 ⟨y,H1,I1,r1,q1⟩=>?_) hs;exact eI I1 hN hi hx r1 (λs2 I2=>⟨rfl,_,H1,I2,q1⟩) hf
theorem FR(he:uk X e te):lB X [.Return (some e) pos] (sH te):=by
 intro pins s σ H D I h;refine HP (wpAny_Return_some (aV (he pins s σ H _ I h) λv s1 ⟨z,x,H1,I1,r1,q1⟩=>?_));exact⟨z,x,σ,H1,I1,r1,q1⟩
theorem FT(h1:vR X st t)(h2:lB X bD u):lB X (st::bD) (sG t u):=by
 intro pins s σ H D I h;refine HP (aV (h1 pins s σ H { D with nx:=u D } I h) λf s1 ⟨z,q⟩=>?_);subst z;obtain⟨σ',H',I',q⟩:=q;exact h2 pins s1 σ' H' D I' q
end
structure vS(P:Program)(w:World)(K:Hg)(mg:Str->Option Value)(base:Heap)(CX:i6)(k:Nat)(f:Addr)(fd:FuncData)(ps:List Str)(sp:Sp):Prop where
 len:∀vs H Q E,sp vs H Q E->vs.length=ps.length
 run:∀(A:Around) (outer:List Env) (s:Shared) (H:Hp) (args:Args) (us:List Value) (vs:List V) (Q:VK) (E:XK),Room k A->Env0 P w K mg base A outer s H->BindsTo s fd args (ps.zip us)->Vals vs us->sp vs H Q E->
  codeAny (model P w) A (.call (.ref f) args) (λr s'=>((∃fl,r=.ok fl)->1<=s'.toks)/\CR CX outer P w H s Q E r s') s
theorem FV{w:World}{base:Heap}{f:Addr}{params:Arguments}{scope:Scope}{dV kV:Value}
 {sp:Sp} (lk:K.lookup f=some ⟨oc,od,.func (PySem.W.fnOf name qual params body scope dV kV doc pm an cdv ct),osl⟩) (hcd:PySem.W.codeIn K cdv qual=true) (S:aT N ps scope)
  (len:∀vs H Q E,sp vs H Q E->vs.length=ps.length)
  (hbody:∀ (A:Around) (outer:List Env) (s:Shared) (H:Hp) (vs:List V) (Q:VK) (E:XK),Room k (A.deeper (envOfC qual scope s.heap.objs.size f cdv))->sp vs H Q E->
   ∃t,lB (bA CX P w K mg base N qual scope f cdv A outer s H E) body t/\t { nx:=λ_ H'=>Q .non H',rt:=Q } (start N vs) H) :
  vS P w K mg base CX (k+1) f (PySem.W.fnOf name qual params body scope dV kV doc pm an cdv ct) ps sp:=by
 refine⟨len,λA outer s H args us vs Q E hr e0 hb r hsp=>?_⟩;have hl:=len _ _ _ _ hsp;have KX:K.In s.heap:=e0.mod.kin.keeps λb o e=>(e0.bs b o e).1;have lim:s.heap.NoLimit:=e0.mod.nolimit.keeps λb o e=>(e0.bs b o e).1;have hkind:∀y∈ps.zip us,scope.names.lookup y.1=some .local\/(scope.names.lookup y.1=some .cell/\((cellsFrom (s.heap.objs.size+1) scope.names []).lookup y.1).isSome=true):=λ⟨n,v⟩ hy=>by
  rcases S.par n (sj hy).1 with q|q
  .exact .inl q
  .exact .inr ⟨q,PySem.W.cellsFrom_some _ _ _ (.inl q)⟩
 refine codeAny_call_function hr.depth (KX _ _ lk) rfl S.co S.gen rfl (PySem.W.codeRec_of KX hcd) (hb _ _ _ _ ?_);refine HL S.kind hkind λenv he s1 x=>?_;subst he;refine⟨lim.keeps x.toInCall.keep,codeAny_func ?_⟩;obtain⟨t,ht,hq⟩:=hbody A outer s H vs Q E (hr.deeper _) hsp;have I:Inv (bA CX P w K mg base N qual scope f cdv A outer s H E) [] (start N vs) H s1:=fw S hr.hd e0 hl r x;refine HB (ht [] s1 (start N vs) H _ I hq) (λfl s' ⟨tk,hs⟩=>?_) λe s' hs=>HB hs (λ_ _ z=>⟨λ⟨_,q⟩=>(nomatch q),z⟩) (λ_ _ z=>⟨λ⟨_,q⟩=>(nomatch q),z⟩);have fin:∀{σ':L2.St} {H':Hp} {v:V} {u:Value},Inv (bA CX P w K mg base N qual scope f cdv A outer s H E) [] σ' H' s'->RelV v u->Q v H'->CE outer P w H s Q u s':=
  λ{σ' H' v u} J rv q=>⟨v,H',J.os,J.bare,J.base,J.hok,rv,q⟩
 cases fl with
 |ret u=>
  obtain⟨v,σ',H',J,rv,q⟩:=hs;exact⟨λ_=>tk,fin J rv q⟩
 |next=>
  obtain⟨σ',H',J,q⟩:=hs;exact⟨λ_=>tk,fin (v:=V.non) (u:=Value.none) J rfl q⟩
 |brk=>
  obtain⟨_,_,_,q⟩:=hs;exact Hr q
 |cont=>
  obtain⟨_,_,_,q⟩:=hs;exact Hr q
section
variable{t:TA}{f:Addr}{sp:Sp}{ds:List Value}{dvs:List V}{E:XK}
theorem FW(F:vS X.prog X.w X.K X.mg X.base CX k f fd ps sp)(hr:Room k X.A)(hg:Gl X x)(hm:X.mg x=some (.ref f))(hk:PySem.W.keepIn X.K (.ref f)=true)(hb:Binds X.K fd ps ds)(hd:Vals dvs ds)(hx:aM CX X E)
  (ha:PA X (e::es) t) (hdb:(x==("__debug__" : Str))=false:=by decide) (he:starEach (e::es) X.env=(false,eval e X.env)::starEach es X.env:=by rfl) (hpl:(backTo pos (starEach es X.env)).any (·.1)=false:=by rfl) :
  uk X (.Call (.Name x p) (e::es) [] pos) (i7 sp dvs E t):=by
 intro pins s σ H Q I h;refine Hx (ck I hg hm ?_ hdb);refine PySem.W.callWith_K (h₀:=X.base) I.ok.mod.kin hk (aV (ha pos pins s σ H _ I h) λus s1 ⟨vs,H1,I1,r,q⟩=>⟨I1.kIn,?_⟩) he hpl;have r2:Vals (vs++dvs) (us++ds):=r.append hd;have hl:(us++ds).length=ps.length:=by rw[<-r2.length];exact F.len _ _ _ _ q
 refine wpAny_call (codeAny_mono (F.run X.A X.stack s1 H1 ⟨us,[]⟩ (us++ds) (vs++dvs) Q E hr I1.env0 (hb s1 us I1.kIn hl) r2 q) λr s' ⟨tk,hq⟩=>?_);cases r with
 |error e=>exact hx pins σ H1 s1 e s' I1 hq
 |ok fl=>
  cases fl with
  |ret u=>exact⟨tk ⟨_,rfl⟩,I1.after hq⟩
  |next=>exact Hr hq
  |brk=>exact Hr hq
  |cont=>exact Hr hq
end
def ul(K:Hg)(y z:Str)(to:TE):TE:=λσ H Q=>to σ H λx H1=>u6 K "str" x H1/\∃a,x=.str a/\a.length+(a.length+1)*z.length<=16777216/\Q (.str (Txt.replace a y z)) H1
theorem FX{o:Expr}{to:TE}{z:Str}{j1 j2:Nat}(ho:uk X o to)(hyz:(y==z)=false:=by decide)
  (hbase:attributeBase o "replace" X.env (eval o X.env)=eval o X.env:=by rfl)
  (hfew:((backTo cpos (starEach [.Constant (.str y) j1 p1,.Constant (.str z) j2 p2] X.env)).all (λx=>!x.1) && (backToKw cpos (keywordEach [] X.env)).all (λx=>x.1.isSome)
   && decide ([(Expr.Constant (.str y) j1 p1),.Constant (.str z) j2 p2].length+([]:List Keyword).length+(if([]:List Keyword).isEmpty then 0 else 1)<30))=true:=by rfl)
  (hline:(apos.endLine==cpos.line)=true:=by rfl) (hs:backTo cpos (starEach [.Constant (.str y) j1 p1,.Constant (.str z) j2 p2] X.env)=[(false,eval (.Constant (.str y) j1 p1) X.env),(false,eval (.Constant (.str z) j2 p2) X.env)]:=by rfl) :
  PE X (.Call (.Attribute o "replace" apos) [.Constant (.str y) j1 p1,.Constant (.str z) j2 p2] [] cpos) (ul X.K y z to):=by
 intro pins s σ H Q I h;refine wpAny_Call_method_late hbase hfew hline rfl (aV (ho pins s σ H _ I h) λv s1 ⟨tk,x,H1,I1,r1,ty,a,ex,hl,q1⟩=>?_);subst ex;obtain⟨h1,h2⟩:=iq I1 r1 ty;obtain⟨t',rfl⟩:∃t',v=.str a t':=r1;refine⟨"str", "str.replace",PySem.F.plainAttrs_str,PySem.F.slot_str_replace,PySem.F.type_str_replace,h1,h2,?_⟩;rw[hs];refine Calls.callWith_builtin rfl (Calls.evalArgs_plain ?_);refine Calls.spliced_cons (Calls.Constant_str (Calls.spliced_cons (Calls.Constant_str (Calls.spliced_nil ?_))));exact PySem.SC.replace (Nat.ne_of_gt tk) (Nat.succ_ne_zero _) (er (v8 _)) hyz hl λt2 k=>⟨.str _,H1,I1.tok _,⟨_,rfl⟩,q1⟩
structure vT(X:Cx)(EX:XK)(e:Expr)(w:WE):Prop where
 t:∃t,uk X e t/\∀W0 H0 W σ H ρ E Q,SOk X.K W0 H0 W σ H ρ->gv X.K W0 H0 E EX->w E ρ (RQ X.K W H Q)->t σ H Q
 mono:∀E ρ P P',(∀d,P d->P' d)->w E ρ P->w E ρ P'
def um(y z:Str)(wo:WE):WE:=λE ρ Q=>wo E ρ (ZaK λx=>x.length+(x.length+1)*z.length<=16777216/\Q (.str (Txt.replace x y z)))
section
variable{o:Expr}{w:WE}{z:Str}{j1 j2:Nat}{f:Value->Sem Value}
theorem BD(he:PX X EX e w)(h:eval e X.env=(eval (.Constant (.str x) j p) X.env >>= f)):vT X EX e w:=by
 obtain⟨t,pe,k⟩:=he.t;exact⟨⟨t,FO pe h,k⟩,he.mono⟩
theorem BE(ho:vT X EX o wo)(hyz:(y==z)=false:=by decide)
  (hbase:attributeBase o "replace" X.env (eval o X.env)=eval o X.env:=by rfl)
  (hfew:((backTo cpos (starEach [.Constant (.str y) j1 p1,.Constant (.str z) j2 p2] X.env)).all (λx=>!x.1) && (backToKw cpos (keywordEach [] X.env)).all (λx=>x.1.isSome)
   && decide ([(Expr.Constant (.str y) j1 p1),.Constant (.str z) j2 p2].length+([]:List Keyword).length+(if([]:List Keyword).isEmpty then 0 else 1)<30))=true:=by rfl)
  (hline:(apos.endLine==cpos.line)=true:=by rfl) (hs:backTo cpos (starEach [.Constant (.str y) j1 p1,.Constant (.str z) j2 p2] X.env)=[(false,eval (.Constant (.str y) j1 p1) X.env),(false,eval (.Constant (.str z) j2 p2) X.env)]:=by rfl) :
  PX X EX (.Call (.Attribute o "replace" apos) [.Constant (.str y) j1 p1,.Constant (.str z) j2 p2] [] cpos) (um y z wo):=by
 obtain⟨to,po,ko⟩:=ho.t;refine⟨⟨_,FX po hyz hbase hfew hline hs,λW0 H0 W σ H ρ E Q s eo h=>?_⟩,λE ρ P P' hp q=>ho.mono _ _ _ _ (ZaK.mono λx h2=>⟨h2.1,hp _ h2.2⟩) q⟩;refine ko W0 H0 W σ H ρ E _ s eo (ho.mono _ _ _ _ (λd hd v W1 H1 x1 r1=>?_) h);obtain⟨x,rfl,h2,h3⟩:=jf hd;cases r1;exact⟨rfl,x,rfl,h2,h3 _ _ _ x1 (.str _)⟩
end
structure yM(X:Cx)(EX:XK)(st:Stmt)(z:WS):Prop where
 t:∃t,vR X st t/\∀W0 H0 F W σ H ρ E Dn N,SOk X.K W0 H0 W σ H ρ->Wle F W->gv X.K W0 H0 E EX->tE X.K W0 H0 F Dn N->z E N ρ->t Dn σ H
 mono:∀E ρ N N',N.le N'->z E N ρ->z E N' ρ
structure lC(X:Cx)(EX:XK)(st:List Stmt)(z:WS):Prop where
 t:∃t,lB X st t/\∀W0 H0 F W σ H ρ E Dn N,SOk X.K W0 H0 W σ H ρ->Wle F W->gv X.K W0 H0 E EX->tE X.K W0 H0 F Dn N->z E N ρ->t Dn σ H
 mono:∀E ρ N N',N.le N'->z E N ρ->z E N' ρ
section
variable{w:WE}{st:Stmt}{bD:List Stmt}
theorem FY(he:PX X EX e w)(hs:swapsWith e none pos.line X.env=pure false:=by rfl):yM X EX (.Expr e pos) (g0 w):=by
 obtain⟨t,p,k⟩:=he.t;refine⟨⟨_,FP p hs,λW0 H0 F W σ H ρ E Dn N s fl eo no h=>?_⟩,λE ρ N N' hl q=>he.mono _ _ _ _ (λ_=>hl.nx ρ) q⟩;exact k W0 H0 W σ H ρ E _ s eo (he.mono _ _ _ _ (λd hd v W1 H1 x1 r1=>no.nx W1 σ H1 ρ (s.step x1) (fl.ext x1) hd) h)
theorem FZ(i:Nat)(he:PX X EX e w)(hN:X.N.Nodup)(hi:X.N[i]? = some x:=by rfl)(hx:jX X.env.scope x:=by first|exact Or.inl rfl|exact Or.inr rfl)(hs:swapsWith e (some (.Name x pos')) pos.line X.env=pure false:=by rfl)
  (hf:X.fn x=true\/X.env.scope.names.lookup x=some .local:=by first|exact .inl rfl|exact .inr rfl|assumption):yM X EX (.Assign [.Name x pos'] e pos) (aW i w):=by
 obtain⟨t,p,k⟩:=he.t;refine⟨⟨_,FQ hN hi hx p hs hf,λW0 H0 F W σ H ρ E Dn N s fl eo no h=>?_⟩,λE ρ N N' hl q=>he.mono _ _ _ _ (λ_=>hl.nx _) q⟩;exact k W0 H0 W σ H ρ E _ s eo (he.mono _ _ _ _ (λd hd v W1 H1 x1 r1=>no.nx W1 _ H1 _ ((s.step x1).set r1) (fl.ext x1) hd) h)
theorem BF(he:vT X EX e w):lC X EX [.Return (some e) pos] (aH w):=by
 obtain⟨t,p,k⟩:=he.t;refine⟨⟨_,FR p,λW0 H0 F W σ H ρ E Dn N s fl eo no h=>?_⟩,λE ρ N N' hl q=>he.mono _ _ _ _ hl.rt q⟩;exact k W0 H0 W σ H ρ E _ s eo (he.mono _ _ _ _ (λd hd v W1 H1 x1 r1=>no.rt d v W1 H1 (s.ext.trans x1) r1 hd) h)
theorem BG(h1:yM X EX st z)(h2:lC X EX bD z'):lC X EX (st::bD) (aK z z'):=by
 obtain⟨t1,p1,k1⟩:=h1.t;obtain⟨t2,p2,k2⟩:=h2.t;refine⟨⟨_,FT p1 p2,λW0 H0 F W σ H ρ E Dn N s fl eo no h=>?_⟩,λE ρ N N' hl h=>h1.mono _ _ _ _ (Nds.le_nx hl λρ' h'=>h2.mono _ _ _ _ hl h') h⟩;exact k1 W0 H0 F W σ H ρ E _ { N with nx:=z' E N } s fl eo ⟨λW1 σ1 H1 ρ1 s1 f1 hn=>k2 W0 H0 F W1 σ1 H1 ρ1 E Dn N s1 f1 eo no hn,no.rt,no.bk,no.ct⟩ h
end
structure vU(P:Program)(w:World)(K:Hg)(mg:Str->Option Value)(base:Heap)(k:Nat)(x:Str)(ps:List Str)(S:bN):Prop where
 ok:∃f fd,vS P w K mg base (bE P w) k f fd ps (dq K S)/\mg x=some (.ref f)/\PySem.W.keepIn K (.ref f)=true/\Binds K fd ps []
 mono:jY S
section
variable{w:World}{base:Heap}
theorem yN{st:Stmt}{f:Addr}(F:Fun K x qual st f fd)(sc:aT N ps (aA st))(len:∀ds E Q,S ds E Q->ds.length=ps.length)
  (hbody:∀ (cdv:Value) (A:Around) (outer:List Env) (s:Shared) (H:Hp) (E:XK),Room k (A.deeper (envOfC qual (aA st) s.heap.objs.size f cdv))->
   aM (bE P w) (bA (bE P w) P w K mg base N qual (aA st) f cdv A outer s H E) E->dJ (bA (bE P w) P w K mg base N qual (aA st) f cdv A outer s H E) E->
   lC (bA (bE P w) P w K mg base N qual (aA st) f cdv A outer s H E) E (aI st) z)
  (h:∀ds E Q,S ds E Q->z E { nx:=λ_=>Q .non,rt:=Q } (cB N ds)):vS P w K mg base (bE P w) (k+1) f fd ps (dq K S):=by
 obtain⟨oc,od,kV,doc,pm,an,cdv,ct,osl,rfl,lk,hcd⟩:=F.ex;refine FV lk hcd sc (λvs H Q E hs=>?_) λA outer s H vs Q E hr hs=>?_
 .obtain⟨ds,W,_,r,hS⟩:=hs
  rw[r.length];exact len _ _ _ hS
 .obtain⟨ds,W,ok,r,hS⟩:=hs
  obtain⟨t,p,k⟩:=(hbody cdv A outer s H E hr va vb).t;refine ⟨t,p,k W H W W (start N vs) H (cB N ds) (λex=>∀ W' H' cls dx,Ext W H W' H'->nO K W' H' cls dx ex->E cls dx H') _ { nx:=λ_=>RQ K W H Q .non,rt:=RQ K W H Q } (tJ ok r) (.refl W) (λex W' H' cls dx he x r=>he W' H' cls dx x r)
   ⟨λW1 σ1 H1 ρ1 s1 _ q=>q _ W1 H1 s1.ext .non,λd v W1 H1 x1 r1 q=>q v W1 H1 x1 r1,λ_ _ _ _ _ _ q=>q.elim,λ_ _ _ _ _ _ q=>q.elim⟩ (h ds _ _ hS)⟩
theorem uo{st:Stmt}(h:bB K mg x st)
  (hbody:∀ (sc:N.Nodup) (f:Addr) (cdv:Value) (A:Around) (outer:List Env) (s:Shared) (H:Hp) (E:XK),Room k (A.deeper (envOfC x (aA st) s.heap.objs.size f cdv))->
   aM (bE P w) (bA (bE P w) P w K mg base N x (aA st) f cdv A outer s H E) E->dJ (bA (bE P w) P w K mg base N x (aA st) f cdv A outer s H E) E->
   lC (bA (bE P w) P w K mg base N x (aA st) f cdv A outer s H E) E (aI st) z)
  (rd:Rd S z N)
  (sc:aT N ps (aA st):=by exact⟨rfl,rfl,rfl,by decide +kernel,rfl,by decide +kernel,by decide +kernel⟩)
  (len:∀ds E Q,S ds E Q->ds.length=ps.length:=by first|exact fnS.len λ_=>rfl|exact xS.len λ_=>rfl|exact rlS.len λ_=>rfl)
  (hb:∀ (kV doc pm:Value) (an:Option Addr) (cdv ct:Value) (us:List Value),us.length=ps.length->bindArgs (PySem.W.fnOf x x (aR st) (aI st) (aA st) .none kV doc pm an cdv ct) ⟨us,[]⟩=pure (ps.zip us):=by
   intro _ _ _ _ _ _;(first|refine rE ?_|refine rF ?_|refine rG ?_|refine rH ?_);intros;rfl)
  (mono:jY S:=by first|exact fnS.mono|exact rlS.mono|exact xS.mono):vU P w K mg base (k+1) x ps S:=by
 obtain⟨f,fd,F,m,q⟩:=h;exact⟨⟨f,fd,yN (z:=z) F sc len (λcdv A outer s H E hr hx hw=>hbody sc.nd f cdv A outer s H E hr hx hw) rd,m,F.kp,F.binds hb⟩,mono⟩
end
section
theorem BH(G:vU X.prog X.w X.K X.mg X.base k x ps S)(hr:Room j X.A)(hx:aM (bE X.prog X.w) X EX)(ha:ff X EX (e::es) t)(hk:k<=j:=by decide)(hg:Gl X x:=by rfl)(hdb:(x==("__debug__" : Str))=false:=by decide)(he:starEach (e::es) X.env=(false,eval e X.env)::starEach es X.env:=by rfl)(hpl:(backTo pos (starEach es X.env)).any (·.1)=false:=by rfl) :
  vT X EX (.Call (.Name x p) (e::es) [] pos) (wF S t):=by
 obtain⟨f,fd,F,hm,kp,hb⟩:=G.ok;have hS:=G.mono;obtain⟨ta,pa,ka⟩:=ha.t;refine⟨⟨_,FW F (hr.mono hk) hg hm kp hb .nil hx pa hdb he hpl,λW0 H0 W σ H ρ E Q s eo h=>?_⟩,λE ρ P P' hp z=>ha.mono _ _ _ _ (λds hds=>hS _ _ _ _ _ (λ_ q=>q) hp hds) z⟩;refine ka W0 H0 W σ H ρ E _ s eo (ha.mono _ _ _ _ (λds hds vs W1 H1 x1 r1=>?_) h);refine⟨ds,W1,x1.ok,by rw[jj];exact r1,hS _ _ _ _ _ (λex hex W' H' cls dx x' r'=>?_) (λd hd=>RQ.ext hd x1) hds⟩;exact eo ex W' H' cls dx hex (s.ext.trans (x1.trans x')) r'
end
section
variable{a:Expr}{w:WE}
def vV(w:WE):WE:=λE ρ Q=>w E ρ λd=>match d with
 |.tup ds=>ds.length<=10000/\Q (.tup ds.reverse)
 |_=>False
theorem F0(hml:X.mg "tuple" = none)(hmr:X.mg "reversed" = none)(ha:PX X EX a w)(hc:X.calm=true:=by rfl)(hgl:Gl X "tuple" :=by rfl)(hgr:Gl X "reversed" :=by rfl)
  (he:starEach [a] X.env=(false,eval a X.env)::starEach [] X.env:=by rfl) (hpl:(backTo p2 (starEach [] X.env)).any (·.1)=false:=by rfl)
  (he2:starEach [.Call (.Name "reversed" p1) [a] [] p2] X.env=(false,eval (.Call (.Name "reversed" p1) [a] [] p2) X.env)::starEach [] X.env:=by rfl) (hpl2:(backTo pos (starEach [] X.env)).any (·.1)=false:=by rfl) (hb0:backTo pos (starEach [] X.env)=[]:=by rfl) :
  PX X EX (.Call (.Name "tuple" p) [.Call (.Name "reversed" p1) [a] [] p2] [] pos) (vV w):=by
 obtain⟨ta,pa,ka⟩:=ha.t;refine⟨⟨_,Dq hml hmr pa hc hgl hgr he hpl he2 hpl2 hb0,λW0 H0 W σ H ρ E Q s eo h=>?_⟩,λE ρ P P' hp z=>ha.mono _ _ _ _ (λd hd=>?_) z⟩
 .refine ka W0 H0 W σ H ρ E _ s eo (ha.mono _ _ _ _ (λd hd v W1 H1 x1 r1=>?_) h)
  split at hd
  .obtain⟨q,us,rfl,sq,ru⟩:=r1.sqt x1.ok
   refine⟨q,us,rfl,sq,by rw[ru.length];exact hd.1,λl hl=>?_⟩;have x3:=Ext.put (o:=.tup us.reverse) x1.ok hl;exact hd.2 _ _ _ (x1.trans x3) (.tup (by unfold Wd.put;dsimp only;rw[aG]) (x3.reps (Reps.rev ru)))
  .exact hd.elim
 .split at hd
  .exact⟨hd.1,hp _ hd.2⟩
  .exact hd.elim
end
section
def m7(t:WA):cU:=λE ρ Δ Q=>t (λex=>E ex Δ) ρ λxs=>xs.length<=small/\∀b,Δ b=none->Q (.pl 0 b) (cj Δ b xs)
theorem F1(ha:ff X EX es t):d4 X EX (.List es pos) (m7 t):=by
 obtain⟨ta,pa,ka⟩:=ha.t;refine⟨⟨_,ik pa,λW0 H0 W σ H ρ Δ E Q s d eo h=>?_⟩,λE ρ Δ P P' hp q=>ha.mono _ _ _ _ (λxs ⟨h1,h2⟩=>⟨h1,λb hb=>hp _ _ (h2 b hb)⟩) q⟩;refine ka W _ W σ H ρ _ _ s.rebIn (eo.one s.ext d) (ha.mono _ _ _ _ (λxs ⟨hl,hx⟩ vs W1 H1 x1 r1=>?_) h);refine⟨fD (by rw[r1.length];exact hl),λl hl'=>?_⟩;have s1:=s.step x1;have d1:=d.step x1.wle;obtain⟨hn,m1,s2,d2⟩:=s1.newB d1 hl' r1;exact hx l hn (.ref l) W1 _ _ m1 s2 d2 x1.wle (.pl rfl)
end
section
variable{o a b:Expr}{S:fk}{w:WE}{wd':cU}
def yO(g:G2)(wd:cU)(w:WE):cU:=λE ρ Δ Q=>wd E ρ Δ λx δ=>w (λex=>E ex δ) ρ λy=>g x y λd=>Q d δ
theorem F2{g:G2}(ho:c8 X (compareOp op) g)(ha:d4 X EX a wd)(hb:PX X EX b w)(hm:behindInMarks op b=false:=by first|exact fO _|with_unfolding_all rfl):d4 X EX (.Compare a [op] [b] pos) (yO g wd w):=by
 obtain⟨ta,pa,ka⟩:=ha.t;obtain⟨tb,pb,kb⟩:=hb.t;obtain⟨r,pr,kr⟩:=ho.t;refine⟨⟨_,i0 pr pa pb hm,λW0 H0 W σ H ρ Δ E Q s d eo h=>?_⟩,λE ρ Δ P P' hp h=>ha.mono _ _ _ _ _ (λx δ hx=>hb.mono _ _ _ _ (λy hy=>ho.mono _ _ _ _ (λd=>hp d δ) hy) hx) h⟩;refine ka W0 H0 W σ H ρ Δ E _ s d eo (ha.mono _ _ _ _ _ (λx δ hx v W1 H0' H1 m s1 d1 g1 r1=>?_) h);refine kb W1 _ W1 σ H1 ρ _ _ s1.rebIn ((eo.mv m).one s1.ext d1) (hb.mono _ _ _ _ (λy hy u W2 H2 y2 r2=>?_) hx);refine kr W2 H2 v u x y _ y2.ok (y2.rep r1) r2 (ho.mono _ _ _ _ (λdd hd v3 W3 H3 y3 r3=>?_) hy);exact((hd v3).mv m g1).of s1 d1 (y2.trans y3) r3
def yP(S:fk)(wd:cU)(t:WA):cU:=λE ρ Δ Q=>wd E ρ Δ λo δ=>∃b,o=.pl 1 b/\t (λex=>E ex δ) ρ λds=>S (.pl 1 b::ds) δ E Q
theorem F3(G:rR X.prog X.w X.K X.mg X.base k m ps S)(hr:Room j X.A)(hx:aM (bE X.prog X.w) X EX)(ho:d4 X EX o wd)(ha:ff X EX (e::es) t)(hk:k<=j:=by decide)(hm0:(m==("standing" : Str))=false:=by decide)
  (hst:starEach (e::es) X.env=(false,eval e X.env)::starEach es X.env:=by rfl) (hpl:(backTo pos (starEach es X.env)).any (·.1)=false:=by rfl)
  (ht:eval (.Call (.Attribute o m apos) (e::es) [] pos) X.env=(do
   let ov <-eval o X.env
   standAt apos.atName
   let(f,first) <-holding [ov] (getMethod ov m pl)
   callWith pos f first (backTo pos (starEach (e::es) X.env)) (backToKw pos (keywordEach [] X.env))):=by rfl):d4 X EX (.Call (.Attribute o m apos) (e::es) [] pos) (yP S wd t):=by
 obtain⟨C,f,fd,c,hm,F,hb⟩:=G.ok;obtain⟨to,po,ko⟩:=ho.t;obtain⟨ta,pa,ka⟩:=ha.t;refine⟨⟨_,i8 po c.cls hm F (hr.mono hk) hb .nil hx pa hst hpl ht,λW0 H0 W σ H ρ Δ E Q s d eo h=>?_⟩,λE ρ Δ P P' hp q=>ho.mono _ _ _ _ _ (λo δ ⟨b,eb,z⟩=>⟨b,eb,ha.mono _ _ _ _ (λds hds=>G.mono _ _ _ _ _ _ (λ_ _ z=>z) hp hds) z⟩) q⟩;refine ko W0 H0 W σ H ρ Δ E _ s d eo (ho.mono _ _ _ _ _ (λdd δ ⟨b,eb,q⟩ v W1 H0' H1 mv s1 d1 g1 r1=>?_) h);subst eb;obtain⟨p,dx,rfl,hp⟩:=r1.desk s1.ok c;refine⟨p,dx,_,rfl,hp,by simp only[gB,hm0,ww],?_⟩;refine ka W1 _ W1 σ H1 ρ _ _ s1.rebIn ((eo.mv mv).one s1.ext d1) (ha.mono _ _ _ _ (λds hds vs W2 H2 x2 r2=>?_) q);rw[jj];exact ua G.mono (s1.step x2) (d1.step x2.wle) (eo.mv mv) (.cons (x2.rep r1) r2) (G.mono _ _ _ _ _ _ (λ_ _ z=>z) (λx δ hx v=>(hx v).mv mv (g1.trans x2.wle)) hds)
def F4(S:fk)(wd:cU)(t:WA):cU:=λE ρ Δ Q=>wd E ρ Δ λx δ=>t (λex=>E ex δ) ρ λds=>S (x::ds) δ E Q
end
abbrev qY:=ED->bV->Dl->(List D->Dl->Prop)->Prop
structure lD(X:Cx)(EX:XK)(es:List Expr)(w:qY):Prop where
 t:∃t,PA X es t/\∀W0 H0 W σ H ρ Δ E Q,SOk X.K W0 H0 W σ H ρ->DOk X.K W0 H0 W Δ->EOkD X.K W0 H0 Δ E EX->w E ρ Δ (λds Δ'=>∀vs,RD X.K W0 H0 Δ W σ ρ (Q vs) (λW'=>Reps X.K W' vs ds) Δ')->t σ H Q
 mono:∀E ρ Δ P P',(∀d δ,P d δ->P' d δ)->w E ρ Δ P->w E ρ Δ P'
def g7:qY:=λ_ _ Δ Q=>Q [] Δ
def dj(wd:cU)(t:qY):qY:=λE ρ Δ Q=>wd E ρ Δ λx δ=>t E ρ δ λxs δ'=>Q (x::xs) δ'
section
variable{o a b:Expr}{t:qY}{S:fk}{w:WE}
theorem uq:lD X EX [] g7:=⟨⟨_,c0,λW0 H0 W σ H ρ Δ E Q s d eo h=>(h []).of s d (.refl s.ok) .nil⟩,λE ρ Δ P P' hp q=>hp _ _ q⟩
theorem lW(ha:d4 X EX e wd)(hr:lD X EX es t)(hs:starEach (e::es) X.env=(false,eval e X.env)::starEach es X.env:=by rfl):lD X EX (e::es) (dj wd t):=by
 obtain⟨ta,pa,ka⟩:=ha.t;obtain⟨tr,pr,kr⟩:=hr.t;refine⟨⟨_,cz pa pr hs,λW0 H0 W σ H ρ Δ E Q s d eo h=>?_⟩,λE ρ Δ P P' hp q=>ha.mono _ _ _ _ _ (λx δ hx=>hr.mono _ _ _ _ _ (λxs δ' h=>hp _ _ h) hx) q⟩;refine ka W0 H0 W σ H ρ Δ E _ s d eo (ha.mono _ _ _ _ _ (λx δ hx v W1 H0' H1 m s1 d1 g1 r1=>?_) h);refine kr W0 H0' W1 σ H1 ρ δ E _ s1 d1 (eo.mv m) (hr.mono _ _ _ _ _ (λxs δ' hq vs W2 H02 H2 m2 s2 d2 g2 r2=>?_) hx);exact hq (v::vs) W2 H02 H2 (m.trans m2) s2 d2 (g1.trans g2) (.cons (r1.mono g2.g g2.p) r2)
def kn(S:fk)(t:qY):cU:=λE ρ Δ Q=>t E ρ Δ λds δ=>S ds δ E Q
theorem yQ(G:rQ X.prog X.w X.K X.mg X.base k x ps S)(hr:Room j X.A)(hx:aM (bE X.prog X.w) X EX)(ha:lD X EX (e::es) t)(hk:k<=j:=by decide)(hg:Gl X x:=by rfl)(hdb:(x==("__debug__" : Str))=false:=by decide)(he:starEach (e::es) X.env=(false,eval e X.env)::starEach es X.env:=by rfl)(hpl:(backTo pos (starEach es X.env)).any (·.1)=false:=by rfl) :
  d4 X EX (.Call (.Name x p) (e::es) [] pos) (kn S t):=by
 obtain⟨f,fd,F,hm,kp,hb⟩:=G.ok;obtain⟨ta,pa,ka⟩:=ha.t;refine⟨⟨_,eC F (hr.mono hk) hg hm kp hb .nil hx pa hdb he hpl,λW0 H0 W σ H ρ Δ E Q s d eo h=>?_⟩,λE ρ Δ P P' hp q=>ha.mono _ _ _ _ _ (λds δ hds=>G.mono _ _ _ _ _ _ (λ_ _ z=>z) hp hds) q⟩;refine ka W0 H0 W σ H ρ Δ E _ s d eo (ha.mono _ _ _ _ _ (λds δ hds vs W1 H0' H1 m s1 d1 g1 r1=>?_) h);rw[jj];exact ua G.mono s1 d1 (eo.mv m) r1 (G.mono _ _ _ _ _ _ (λ_ _ z=>z) (λx δ hx v=>(hx v).mv m g1) hds)
def se(S:bN)(t:qY):cU:=λE ρ Δ Q=>t E ρ Δ λds δ=>S ds (λex=>E ex δ) λx=>Q x δ
theorem BI{S:bN}(G:Fp X.prog X.w X.K X.mg X.base k x ps S)(hr:Room j X.A)(hx:aM (bE X.prog X.w) X EX)(ha:lD X EX (e::es) t)(hk:k<=j:=by decide)(hg:Gl X x:=by rfl)(hdb:(x==("__debug__" : Str))=false:=by decide)(he:starEach (e::es) X.env=(false,eval e X.env)::starEach es X.env:=by rfl)(hpl:(backTo pos (starEach es X.env)).any (·.1)=false:=by rfl) :
  d4 X EX (.Call (.Name x p) (e::es) [] pos) (se S t):=by
 obtain⟨f,fd,F,hm,kp,hb⟩:=G.ok;have hS:=G.mono;obtain⟨ta,pa,ka⟩:=ha.t;refine⟨⟨_,eC F (hr.mono hk) hg hm kp hb .nil hx pa hdb he hpl,λW0 H0 W σ H ρ Δ E Q s d eo h=>?_⟩,λE ρ Δ P P' hp q=>ha.mono _ _ _ _ _ (λds δ hds=>hS _ _ _ _ _ (λ_ z=>z) (λd=>hp d δ) hds) q⟩;refine ka W0 H0 W σ H ρ Δ E _ s d eo (ha.mono _ _ _ _ _ (λds δ hds vs W1 H0' H1 m s1 d1 g1 r1=>?_) h);refine⟨ds,W1,s1.ok,by rw[jj];exact r1,hS _ _ _ _ _ (λex hex W' H' cls dx x' r'=>?_) (λy hy v W2 H2 x2 r2=>((hy v).mv m g1).of s1 d1 x2 r2) hds⟩;exact(eo.mv m).one s1.ext d1 ex W' H' cls dx hex ((Ext.rebIn s1.ok).trans x') r'
end
section
variable{a b:Expr}{bD:List Expr}
theorem F5{op}(h:d4 X EX a wd):d4 X EX (.BoolOp op [a] pos) wd:=let⟨t,q,k⟩:=h.t;⟨⟨t,kC q,k⟩,h.mono⟩
def lE(wa:WE)(wd:cU):cU:=λE ρ Δ Q=>wa (λex=>E ex Δ) ρ λd=>match d with
 |.lst xs=>if xs.isEmpty=true then wd E ρ Δ Q else Q (.lst xs) Δ
 |_=>False
theorem Zl(ha:PX X EX a wa)(hb:d4 X EX (.BoolOp .Or (b::bD) pos) wd):d4 X EX (.BoolOp .Or (a::b::bD) pos) (lE wa wd):=by
 obtain⟨ta,pa,ka⟩:=ha.t;obtain⟨tb,pb,kb⟩:=hb.t;refine⟨⟨_,Dr pa pb,λW0 H0 W σ H ρ Δ E Q s d eo h=>?_⟩,λE ρ Δ P P' hp h=>ha.mono _ _ _ _ (λd hd=>?_) h⟩
 .refine ka W _ W σ H ρ _ _ s.rebIn (eo.one s.ext d) (ha.mono _ _ _ _ (λdd hd v W1 H1 x1 r1=>?_) h)
  split at hd
  .rename_i xs
   obtain⟨p,vs,rfl,hq,rs⟩:=r1.sql x1.ok;have he:vs.isEmpty=xs.isEmpty:=by
    have:=rs.length;cases vs<;>cases xs<;>simp_all
   refine⟨!vs.isEmpty,.inl ⟨vs,hq,rfl⟩,?_⟩;rw[he];cases e:xs.isEmpty with
   |true=>
    rw[e,Hh rfl] at hd;rw[dA,if_neg bW];exact kb W0 H0 W1 σ H1 ρ Δ E _ (s.step x1) (d.step x1.wle) eo (hb.mono _ _ _ _ _ (λy δ hy v=>(hy v).mv .refl x1.wle) hd)
   |false=>
    rw[e,if_neg bW] at hd;rw[gC,Hh rfl];exact((hd _).mv .refl x1.wle).of (s.step x1) (d.step x1.wle) (.refl x1.ok) r1
  .exact hd.elim
 .split at hd
  .rename_i xs
   cases e:xs.isEmpty with
   |true=>rw[e,Hh rfl] at hd;rw[Hh rfl];exact hb.mono _ _ _ _ _ hp hd
   |false=>rw[e,if_neg bW] at hd;rw[if_neg bW];exact hp _ _ hd
  .exact hd.elim
end
namespace D7
namespace D3
def oj(s:List Int)(n:Nat):Str:=Txt.replace (mS s n) "\n" " ; "
def Zbn(w:Str)(ns:List Int)(st:List (List Int))(E:Str->Prop)(Q:Str->List (List Int)->Prop):Prop:=
 if w = "back" then(if st.length=1 then E "NoLine" else Q "ok" st.dropLast)
 else match gU w (lst st) ns with
  |some (.ok s)=>Q "ok" (st++[s])
  |some (.error ex)=>E ex
  |none=>(w = "slants" /\Q (mY (lst st)) st)\/(w = "shown" /\∃n,IsSl (lst st) n/\Q (oj (lst st) n) st)
def Zdo(r:D)(st:List (List Int))(E:Str->Prop)(Q:Str->List (List Int)->Prop):Prop:=match kj r with
 |none=>E "NoLine"
 |some (w,ns)=>Zbn w ns st E Q
theorem Zbn.mono{E E':Str->Prop}{Q Q':Str->List (List Int)->Prop}(hE:∀ex,E ex->E' ex)(hQ:∀t s,Q t s->Q' t s)(h:Zbn w ns st E Q):Zbn w ns st E' Q':=by
 unfold Zbn at h ⊢;split
 .rename_i e
  rw[Hh e] at h;split
  .rename_i e2;rw[Hh e2] at h;exact hE _ h
  .rename_i e2;rw[if_neg e2] at h;exact hQ _ _ h
 .rename_i e
  rw[if_neg e] at h;split
  .rename_i e2;rw[e2] at h;exact hQ _ _ h
  .rename_i e2;rw[e2] at h;exact hE _ h
  .rename_i e2
   rw[e2] at h;rcases h with⟨h1,h2⟩|⟨h1,n,h2,h3⟩
   .exact .inl ⟨h1,hQ _ _ h2⟩
   .exact .inr ⟨h1,n,h2,hQ _ _ h3⟩
theorem Zdo.mono{r:D}{st:List (List Int)}{E E':Str->Prop}{Q Q':Str->List (List Int)->Prop}(hE:∀ex,E ex->E' ex)(hQ:∀t s,Q t s->Q' t s)(h:Zdo r st E Q):Zdo r st E' Q':=by
 unfold Zdo at h ⊢;split
 .rename_i e;rw[e] at h;exact hE _ h
 .rename_i e;rw[e] at h;exact h.mono hE hQ
structure fo(w:Str)(ns:List Int):Prop where
 kw:w∈[("set" : Str), "row", "size", "turn", "times", "cut", "back"]
 due:∃d,NUMD.lookup w=some d/\jQ d ns.length=true
 len:ns.length<=11
 small:∀i∈ns,i.natAbs<10^20
def gy(w:Str)(ns:List Int):D:=.lst ((w::ns.map aO).map .str)
def ur(w:Str)(s ns:List Int):D:=match gU w s ns with
 |some (.ok s')=>aN s'
 |some (.error ex)=>.str (jR ex)
 |none=>.non
def S_slants_shown:bN:=B.T.S_slants_shown
def S__law_text_of:bN:=B.T.S__law_text_of
def S__law_signs_of:bN:=B.T2.S__law_signs_of
def S__law_refused:bN:=B.S__law_refused
def ut:bN:=fnS (λx:SL=>[aN x.1,aN []]) (λx=>IsSl x.1 x.2) λx=>.str (oj x.1 x.2)
def sf:bN:=rlS (λx:SL=>[.pen,aN x.1]) (λx=>IsSl x.1 x.2) λx d=>∃w ns,fo w ns/\d=gy w ns
def vW:bN:=fnS (λx:List Int×Str×List Int=>[aN x.1,gy x.2.1 x.2.2]) (λx=>(∃n,IsSl x.1 n)/\fo x.2.1 x.2.2/\x.2.1≠ "back") λx=>ur x.2.1 x.1 x.2.2
def om:bN:=rlS (λx:Str×List Int=>[.pen,.str (cW x.1 x.2)]) (λx=>fo x.1 x.2) λx d=>kd d=true/\rS d/\kj d=none
def lX:fk:=λds Δ E Q=>∃b st r,ds=[.pl 1 b,r]/\SD b st r Δ/\Zdo r st (λex=>E ex Δ) λt st'=>Q (.str t) (cj Δ b (st'.map aN))
def g8:fk:=λds Δ E Q=>∃b st r,ds=[.pl 1 b,r]/\SD b st r Δ/\Zdo r st (λex=>Q (.tup [.str (jR ex)]) Δ) λt st'=>Q (.str t) (cj Δ b (st'.map aN))
def oq:fk:=λds Δ E Q=>∃b st w ns,ds=[.pl 0 b,gy w ns]/\Δ b=some (st.map aN)/\df st/\fo w ns/\
 Zbn w ns st (λex=>Q (.tup [.str (jR ex)]) Δ) λt st'=>Q (.str t) (cj Δ b (st'.map aN))
def ji:fk:=λds Δ E Q=>∃b st,ds=[.pl 1 b,aN (lst st)]/\Δ b=some (st.map aN)/\df st/\Q (.bl true) Δ
def uu:bN:=fnS (λns:List Int=>[.scr (ns.map .int)]) (λns=>ns.length<=63) λ_=>.bl true
theorem F6:lu lX:=λds Δ E E' Q Q' hE hQ ⟨b,st,r,h1,h2,h3⟩=>⟨b,st,r,h1,h2,h3.mono (λex=>hE ex Δ) λt s=>hQ _ _⟩
theorem F7:lu g8:=λds Δ E E' Q Q' hE hQ ⟨b,st,r,h1,h2,h3⟩=>⟨b,st,r,h1,h2,h3.mono (λex=>hQ _ _) λt s=>hQ _ _⟩
theorem F8:lu oq:=λds Δ E E' Q Q' hE hQ ⟨b,st,w,ns,h1,h2,h3,h4,h5⟩=>⟨b,st,w,ns,h1,h2,h3,h4,h5.mono (λex=>hQ _ _) λt s=>hQ _ _⟩
theorem F9:lu ji:=λds Δ E E' Q Q' hE hQ ⟨b,st,h1,h2,h3,h4⟩=>⟨b,st,h1,h2,h3,hQ _ _ h4⟩
theorem Ga:∀ds Δ E Q,lX ds Δ E Q->ds.length=2:=λds Δ E Q ⟨b,st,r,h,_⟩=>by rw[h];rfl
theorem Gb:∀ds Δ E Q,g8 ds Δ E Q->ds.length=2:=λds Δ E Q ⟨b,st,r,h,_⟩=>by rw[h];rfl
theorem Gc:∀ds Δ E Q,oq ds Δ E Q->ds.length=2:=λds Δ E Q ⟨b,st,w,ns,h,_⟩=>by rw[h];rfl
theorem Gd:∀ds Δ E Q,ji ds Δ E Q->ds.length=2:=λds Δ E Q ⟨b,st,h,_⟩=>by rw[h];rfl
section
variable{n:Nat}
theorem Ge(h:IsSl s n)(q:Q (.str (mS s n))):S__law_text_of [aN s] E Q:=⟨(s,n),rfl,h,q⟩
theorem Gf(h:IsSl s n)(q:∀w ns,fo w ns->Q (gy w ns)):sf [.pen,aN s] E Q:=⟨(s,n),rfl,h,λd ⟨w,ns,hw,e⟩=>by rw[e];exact q w ns hw⟩
theorem Gg(h:IsSl s n)(hw:fo w ns)(hb:w≠ "back")(q:Q (ur w s ns)):vW [aN s,gy w ns] E Q:=⟨(s,w,ns),rfl,⟨⟨n,h⟩,hw,hb⟩,q⟩
theorem Gh(hw:fo w ns)(q:∀d,kd d=true->rS d->kj d=none->Q d):om [.pen,.str (cW w ns)] E Q:=⟨(w,ns),rfl,hw,λd ⟨h1,h2,h3⟩=>q d h1 h2 h3⟩
end
abbrev Zf:List Str:=["slants", "numbers"]
def BJ:WS:=(aH (um (PySem.Str.ofString "\n") (PySem.Str.ofString " ; ") (wF S_slants_shown (aD (wN 0) aC))))
abbrev ZlV:List Str:=["self", "row", "word", "numbers", "slants", "deed", "question"]
def yR:dv:=(aY (dS (d7 (wF yA (aD (wN 1) aC)) (iD 2 (jd (gN 2) (jd (gN 3) j5))))) (aY (dw (dT (wT (w2 gEqS (wN 2) (wC (D.str (PySem.Str.ofString "back")))))) (aY (mU (dM uh (wN 0) aC)) (dS (aH (wC (D.str (PySem.Str.ofString "ok")))))) (dS bI)) (aY (cV 4 (gR (w1 gl (wN 0)) (w1 cJ (wC (D.int (1)))))) (aY (dw (dT (gp DEEDD false (wN 2))) (aY (dS (aW 5 (w1 (mX DEEDD) (wN 2)))) (aY (mU (jP (w1 gl (wN 0)) (eU [((PySem.Str.ofString "new_size"),rT),((PySem.Str.ofString "new_row"),rV),((PySem.Str.ofString "one_set"),rW),((PySem.Str.ofString "all_turned"),rX),((PySem.Str.ofString "all_times"),Zb),((PySem.Str.ofString "cut_to"),rY)] (wN 5) (aD (wN 4) (aD (wN 3) aC))))) (dS (aH (wC (D.str (PySem.Str.ofString "ok"))))))) (dS bI)) (dS (aK (aW 6 (w1 (mX QUESD) (wN 2))) (aH (eU [((PySem.Str.ofString "ask_slants"),ug),((PySem.Str.ofString "ask_shown"),ut)] (wN 6) (aD (wN 4) (aD (wN 3) aC))))))))))
abbrev Zdj:List Str:=["_law_desk", "_law_row", "_law_e"]
def yS:dv:=(qV LX 3 2 (ls (dM lX (wN 0) (aD (wN 1) aC))) (aH (wF S__law_refused (aD (wN 2) aC))))
abbrev ZbP:List Str:=["_law_e", "_law_kind"]
def yT:WS:=(aK (aW 1 (wF vF (aD (wN 0) aC))) (aK (cr (wT (w2 (gEq false) (wN 1) (wC (D.str (PySem.Str.ofString "strong"))))) (aH (bJ (aD (wN 1) (aD (w1 (rO (PySem.Str.ofString "NotStrong") (PySem.Str.ofString "size")) (wN 0)) aC)))) bI) (aH (bJ (aD (wN 1) aC)))))
abbrev Zcp:List Str:=["_law_pen", "_law_slants", "_law_way", "_law_size", "_law_beyond", "_law_number", "_law_many"]
def BK:WS:=(aK (aW 2 (wF dC (aD (wN 0) (aD (wC (D.int (20))) aC)))) (aK (aW 3 (w2 iE (w2 gAdd (wB bL (aD (wN 1) aC)) (wC (D.int (1)))) (wC (D.int (2))))) (aK (aW 4 (w2 gIx (wL (aU (aD (wC (D.int (51))) (aD (w1 cJ (wC (D.int (51)))) (aD (w2 xL (wC (D.int (10))) (wC (D.int (19)))) aC))))) (wF dC (aD (wN 0) (aD (wC (D.int (3))) aC))))) (aK (aW 5 (w2 gIx (wL (aU (aD (w2 jH (wF dC (aD (wN 0) (aD (wC (D.int (7))) aC))) (wC (D.int (3)))) (aD (w2 jH (wF dC (aD (wN 0) (aD (wC (D.int (101))) aC))) (wC (D.int (50)))) (aD (wN 4) aC))))) (w2 iE (wF dC (aD (wN 0) (aD (wC (D.int (12))) aC))) (wC (D.int (5)))))) (aK (cr (wT (w2 eT (wN 2) (wC (D.int (8))))) (aH (wL (aU (aD (wC (D.str (PySem.Str.ofString "set"))) (aD (wB g5 (aD (wF dC (aD (wN 0) (aD (w2 gAdd (wB bL (aD (wN 1) aC)) (wB fZ (aD (w2 (gEq false) (wF dC (aD (wN 0) (aD (wC (D.int (8))) aC))) (wC (D.int (0)))) aC))) aC))) aC)) (aD (wB g5 (aD (wN 5) aC)) aC)))))) bI) (aK (cr (wT (w2 eT (wN 2) (wC (D.int (10))))) (aK (aW 6 (w2 gIx (wL (aU (aD (wC (D.int (1))) (aD (wC (D.int (3))) (aD (wC (D.int (5))) (aD (wC (D.int (7))) (aD (wC (D.int (9))) (aD (wC (D.int (2))) (aD (wC (D.int (11))) aC))))))))) (wF dC (aD (wN 0) (aD (wC (D.int (7))) aC))))) (aH (w2 gAdd (w2 gAdd (wL (aU (aD (wC (D.str (PySem.Str.ofString "row"))) aC))) (wL (aLC (lj (aD (w2 jH (wN 6) (wC (D.int (1)))) aC)) 1 [0] (gN 0) dB (wB g5 (aD (w2 jH (wF dC (aD (wN 1) (aD (wC (D.int (5))) aC))) (wC (D.int (2)))) aC))))) (wL (aU (aD (wB g5 (aD (wN 5) aC)) aC)))))) bI) (aK (cr (wT (w2 eT (wN 2) (wC (D.int (12))))) (aH (wL (aU (aD (wC (D.str (PySem.Str.ofString "size"))) (aD (wB g5 (aD (w2 gIx (wL (aU (aD (wC (D.int (1))) (aD (wC (D.int (2))) (aD (wC (D.int (3))) (aD (wC (D.int (4))) (aD (wC (D.int (5))) (aD (wC (D.int (0))) (aD (wC (D.int (6))) (aD (w1 cJ (wC (D.int (1)))) aC)))))))))) (wF dC (aD (wN 0) (aD (wC (D.int (8))) aC)))) aC)) aC))))) bI) (aK (cr (wT (w2 eT (wN 2) (wC (D.int (14))))) (aH (wL (aU (aD (wC (D.str (PySem.Str.ofString "turn"))) aC)))) bI) (aK (cr (wT (w2 eT (wN 2) (wC (D.int (16))))) (aH (wL (aU (aD (wC (D.str (PySem.Str.ofString "times"))) (aD (wB g5 (aD (w2 gIx (wL (aU (aD (wC (D.int (2))) (aD (w1 cJ (wC (D.int (1)))) (aD (wC (D.int (0))) (aD (wC (D.int (1))) (aD (wC (D.int (3))) (aD (wN 5) aC)))))))) (wF dC (aD (wN 0) (aD (wC (D.int (6))) aC)))) aC)) aC))))) bI) (aK (cr (wT (w2 eT (wN 2) (wC (D.int (18))))) (aH (wL (aU (aD (wC (D.str (PySem.Str.ofString "cut"))) (aD (wB g5 (aD (w2 gIx (wL (aU (aD (wN 3) (aD (w2 jH (wN 3) (wC (D.int (1)))) (aD (wC (D.int (1))) (aD (w2 gAdd (wN 3) (wC (D.int (1)))) (aD (wC (D.int (0))) (aD (w1 cJ (wC (D.int (1)))) aC)))))))) (wF dC (aD (wN 0) (aD (wC (D.int (6))) aC)))) aC)) aC))))) bI) (aH (wL (aU (aD (wC (D.str (PySem.Str.ofString "back"))) aC))))))))))))))
abbrev ZcG:List Str:=["_law_slants", "_law_words", "_law_numbers", "_law_size", "_law_cut", "_law_found"]
def BL:WS:=(aK (cO 2 (aLC (iS (cI (wN 1) (eQ (wC (D.int (1)))) gM)) 1 [] (gN 0) dB (wB rK (aD (wN 0) aC)))) (aK (aW 3 (w2 iE (w2 gAdd (wB bL (aD (wN 0) aC)) (wC (D.int (1)))) (wC (D.int (2))))) (bT 2 (aK (cr (wT (w2 (gEq false) (w2 gIx (wN 1) (wC (D.int (0)))) (wC (D.str (PySem.Str.ofString "size"))))) (bT 2 (aH (jc (wT (ZaP eT eT (wC (D.int (0))) (w2 gIx (wN 2) (wC (D.int (0)))) (wC (D.int (6))))) (w2 Zcy (bJ (aD (wC (D.int (0))) aC)) (w2 jH (w2 gMul (wC (D.int (2))) (w2 gIx (wN 2) (wC (D.int (0))))) (wC (D.int (1))))) (wC (D.str (PySem.Str.ofString "number")))))) bI) (bT 2 (aK (cr (wT (w2 (gEq false) (w2 gIx (wN 1) (wC (D.int (0)))) (wC (D.str (PySem.Str.ofString "set"))))) (bT 2 (aK (cr (fg (cm (wT (ZaP iF eT (wC (D.int (0))) (w2 gIx (wN 2) (wC (D.int (0)))) (wB bL (aD (wN 0) aC))))) (wT (w2 jI (wB fY (aD (w2 gIx (wN 2) (wC (D.int (1)))) aC)) (wC (D.int (50)))))) (aH (wC (D.str (PySem.Str.ofString "number")))) bI) (bT 2 (aH (w2 gAdd (w2 gAdd (cI (wN 0) gM (eQ (w2 gIx (wN 2) (wC (D.int (0)))))) (bJ (aD (w2 gIx (wN 2) (wC (D.int (1)))) aC))) (cI (wN 0) (eQ (w2 gAdd (w2 gIx (wN 2) (wC (D.int (0)))) (wC (D.int (1))))) gM)))))) bI) (aK (cr (wT (w2 (gEq false) (w2 gIx (wN 1) (wC (D.int (0)))) (wC (D.str (PySem.Str.ofString "turn"))))) (aH (vV (wN 0))) bI) (bT 2 (aK (cr (wT (w2 (gEq false) (w2 gIx (wN 1) (wC (D.int (0)))) (wC (D.str (PySem.Str.ofString "cut"))))) (bT 2 (aK (aW 4 (w2 jH (wN 3) (w2 gIx (wN 2) (wC (D.int (0)))))) (bT 2 (aH (jc (wT (ZaP eT iF (wC (D.int (0))) (w2 gIx (wN 2) (wC (D.int (0)))) (wN 3))) (cI (wN 0) (eQ (wN 4)) (eQ (w2 jH (wB bL (aD (wN 0) aC)) (wN 4)))) (wC (D.str (PySem.Str.ofString "number")))))))) bI) (bT 2 (aK (aW 5 (jc (wT (w2 (gEq false) (w2 gIx (wN 1) (wC (D.int (0)))) (wC (D.str (PySem.Str.ofString "row"))))) (wB jZ (aD (wN 2) aC)) (wB jZ (aD (wL (aLC (iS (wN 0)) 1 [2] (gN 0) dB (w2 gMul (wN 0) (w2 gIx (wN 1) (wC (D.int (0))))))) aC)))) (aK (cr (fg (wT (w2 (gEq false) (w2 nX (wB bL (aD (wN 5) aC)) (wC (D.int (2)))) (wC (D.int (0))))) (fg (wT (w2 jI (wB bL (aD (wN 5) aC)) (wC (D.int (9))))) (wT (w2 jI (wB ui (aD (wL (aLC (iS (wN 5)) 1 [] (gN 0) dB (wB fY (aD (wN 0) aC)))) aC)) (wC (D.int (50))))))) (aH (wC (D.str (PySem.Str.ofString "slants")))) bI) (aH (wN 5))))))))))))))
abbrev Zb6:List Str:=["_law_states", "_law_words", "_law_found"]
def yU:dv:=(aY (dw (dT (wT (w2 (gEq false) (w2 gIx (wN 1) (wC (D.int (0)))) (wC (D.str (PySem.Str.ofString "back")))))) (aY (dw (cP (gEq false) (lv (wN 0)) (wC (D.int (1)))) (dS (aH (bJ (aD (wC (D.str (PySem.Str.ofString "line"))) aC)))) (dS bI)) (aY (mU (ly (wN 0))) (dS (aH (wC (D.str (PySem.Str.ofString "ok"))))))) (dS bI)) (aY (cV 2 (se vW (dj (gR (wN 0) (w1 cJ (wC (D.int (1))))) (dj (dE (wN 1)) g7)))) (aY (dS (cr (wT (wB gIs (aD (wN 2) (aD (wC (.ty "str")) aC)))) (aH (bJ (aD (wN 2) aC))) bI)) (aY (mU (jP (wN 0) (wN 2))) (dS (aH (wC (D.str (PySem.Str.ofString "ok")))))))))
abbrev ZbE:List Str:=["_law_pen", "_law_line", "_law_signs", "_law_at", "_law_word", "_law_some"]
def yV:WS:=(aK (aW 2 (qO S__law_signs_of)) (aK (aW 3 (wF dC (aD (wN 0) (aD (w2 gAdd (wB yh (aD (wN 1) aC)) (wC (D.int (1)))) aC)))) (aK (aW 4 (w2 iM (w2 iM (w2 gIx (wN 2) (wF dC (aD (wN 0) (aD (wC (D.int (94))) aC)))) (w2 gIx (wN 2) (wF dC (aD (wN 0) (aD (wC (D.int (94))) aC))))) (wC (D.str (PySem.Str.ofString "x"))))) (aK (cO 5 (aU (aD (wC D.non) (aD (wC (D.int (7))) (aD (wL (aU (aD (wN 1) aC))) (aD (wC (D.bl true)) (aD (wC (D.str (PySem.Str.ofString ""))) (aD (wC (D.str (PySem.Str.ofString " "))) (aD (w2 iM (wN 1) (wC (D.str (PySem.Str.ofString " ")))) (aD (w2 iM (wC (D.str (PySem.Str.ofString " "))) (wN 1)) (aD (w2 iM (wN 1) (wC (D.str (PySem.Str.ofString "\n")))) (aD (w2 iM (wN 1) (wC (D.str (PySem.Str.ofString " x")))) aC)))))))))))) (aK (dP 5 (w2 iM (w2 iM (n8 (wN 1) gM (eQ (wN 3))) (wC (D.str (PySem.Str.ofString "  ")))) (n8 (wN 1) (eQ (wN 3)) gM))) (bT 5 (aK (cO 5 (da (wN 5) (wL (aU (aD (wC (D.str (PySem.Str.ofString "size"))) (aD (wC (D.str (PySem.Str.ofString "size 1 2"))) (aD (wC (D.str (PySem.Str.ofString "size a"))) (aD (wC (D.str (PySem.Str.ofString "size 01"))) (aD (wC (D.str (PySem.Str.ofString "size +1"))) (aD (wC (D.str (PySem.Str.ofString "size -0"))) (aD (w2 iM (wC (D.str (PySem.Str.ofString "size 1"))) (w2 AD (wC (D.str (PySem.Str.ofString "0"))) (wC (D.int (20))))) (aD (wC (D.str (PySem.Str.ofString "row"))) aC)))))))))))) (bT 5 (aK (cO 5 (da (wN 5) (wL (aU (aD (wC (D.str (PySem.Str.ofString "row "))) (aD (wC (D.str (PySem.Str.ofString "row a"))) (aD (wC (D.str (PySem.Str.ofString "row 1 --1"))) (aD (wC (D.str (PySem.Str.ofString "set 0"))) (aD (wC (D.str (PySem.Str.ofString "set 0 1 2"))) (aD (wC (D.str (PySem.Str.ofString "set 0 +1"))) (aD (wC (D.str (PySem.Str.ofString "turn 1"))) (aD (wC (D.str (PySem.Str.ofString "times"))) (aD (wC (D.str (PySem.Str.ofString "times 1 1"))) aC))))))))))))) (bT 5 (aK (cO 5 (da (wN 5) (wL (aU (aD (wC (D.str (PySem.Str.ofString "cut"))) (aD (wC (D.str (PySem.Str.ofString "cut 1 1"))) (aD (wC (D.str (PySem.Str.ofString "back 1"))) (aD (wC (D.str (PySem.Str.ofString "slants 0"))) (aD (wC (D.str (PySem.Str.ofString "number 0"))) (aD (wC (D.str (PySem.Str.ofString "corners 1"))) (aD (wC (D.str (PySem.Str.ofString "weak 1"))) (aD (wC (D.str (PySem.Str.ofString "full 1"))) (aD (wC (D.str (PySem.Str.ofString "even 1"))) aC))))))))))))) (bT 5 (aK (cO 5 (da (wN 5) (wL (aU (aD (wC (D.str (PySem.Str.ofString "rank 1"))) (aD (wC (D.str (PySem.Str.ofString "inverse"))) (aD (wC (D.str (PySem.Str.ofString "inverse 0 0"))) aC))))))) (bT 5 (aK (cO 5 (da (wN 5) (wL (aU (aD (wC (D.str (PySem.Str.ofString "solve"))) (aD (wC (D.str (PySem.Str.ofString "solve x"))) (aD (wC (D.str (PySem.Str.ofString "weights 1"))) (aD (wC (D.str (PySem.Str.ofString "signs 1"))) (aD (wC (D.str (PySem.Str.ofString "length 1"))) (aD (wC (D.str (PySem.Str.ofString "shown 1"))) (aD (wC (D.str (PySem.Str.ofString "Size 1"))) (aD (wC (D.str (PySem.Str.ofString "slant 0"))) (aD (wC (D.str (PySem.Str.ofString "0"))) (aD (wN 4) aC)))))))))))))) (bT 5 (aH (w2 gIx (w2 gAdd (wN 5) (wL (aU (aD (w2 iM (wN 4) (wC (D.str (PySem.Str.ofString " 0")))) (aD (wC .dic) (aD (bJ (aD (wC (D.str (PySem.Str.ofString "turn"))) aC)) (aD (w2 xL (wC (D.int (10))) (wC (D.int (30)))) aC))))))) (wF dC (aD (wN 0) (aD (w2 gAdd (wB bL (aD (wN 5) aC)) (wC (D.int (4)))) aC)))))))))))))))))))))
abbrev Za4:List Str:=["_law_desk", "_law_slants"]
def yW:dv:=(aY (dw (cP (gEq true) (dM lX (wN 0) (aD (wC (D.str (PySem.Str.ofString "slants"))) aC)) (wS Zc (wC (D.str (PySem.Str.ofString " "))) (aD (wL (aLC (iS (wN 1)) 1 [] (gN 0) dB (wB g5 (aD (wN 0) aC)))) aC))) (dS (aH (wC (D.bl false)))) (dS bI)) (ls (yO (gEq false) (dM lX (wN 0) (aD (wC (D.str (PySem.Str.ofString "shown"))) aC)) (um (PySem.Str.ofString "\n") (PySem.Str.ofString " ; ") (wF S__law_text_of (aD (wN 1) aC))))))
abbrev BM:List Str:=["_law_script", "_law_cell", "_law_pen", "_law_desk", "_law_states", "_law_size", "_law_words", "_law_due"]
def yX:dv:=(aY (dw (oa (cP (gEq true) (yP lX (qT [.int 0]) (aD (wC (D.str (PySem.Str.ofString "shown"))) aC)) (wC (D.str (PySem.Str.ofString "size 1 ; slant 0")))) (cP (gEq true) (kn g8 (dj (qT [.int 0]) (dj (dE (wC (D.str (PySem.Str.ofString "back")))) g7))) (bJ (aD (wC (D.str (PySem.Str.ofString "line"))) aC)))) (dS (aH (wC (D.bl false)))) (dS bI)) (aY (gS (iS (w2 gAdd (wL (aU (aD (wF vE (aD (wN 0) (aD (wC (D.int (0))) aC))) aC))) (cI (wN 0) (eQ (wC (D.int (1)))) (eQ (wC (D.int (4))))))) (gN 1) (aY (dS (aW 2 (wF tS (aD (wN 1) aC)))) (aY (cV 3 (qT [.int 0])) (aY (cV 4 (m7 (aD (bJ (aD (wC (D.int (0))) aC)) aC))) (aY (dS (aW 5 (w2 gAdd (wC (D.int (2))) (wF dC (aD (wN 2) (aD (wC (D.int (4))) aC)))))) (gS (iS (w2 gAdd (wL (aU (aD (wL (aU (aD (wC (D.str (PySem.Str.ofString "size"))) (aD (wB g5 (aD (wN 5) aC)) aC)))) aC))) (w2 gMul (wL (aU (aD (wL (aU aC)) aC))) (w2 gAdd (wC (D.int (18))) (wF dC (aD (wN 2) (aD (wC (D.int (23))) aC))))))) (gN 6) (aY (cV 6 (lE (wN 6) (se sf (dj (dE (wN 2)) (dj (gR (wN 4) (w1 cJ (wC (D.int (1))))) g7))))) (aY (cV 7 (dF oq (aD (wN 4) (aD (wN 6) aC)))) (aY (dw (oa (cP (gEq true) (dF g8 (aD (wN 3) (aD (wS Zc (wC (D.str (PySem.Str.ofString " "))) (aD (wN 6) aC)) aC))) (wN 7)) (en (kf (kn ji (dj (dE (wN 3)) (dj (gR (wN 4) (w1 cJ (wC (D.int (1))))) g7)))))) (dS (aH (wC (D.bl false)))) (dS bI)) (dw (dT (wT (w2 (gEq false) (wF dC (aD (wN 2) (aD (wC (D.int (3))) aC))) (wC (D.int (0)))))) (aY (dw (cP (gEq true) (dF g8 (aD (wN 3) (aD (wF om (aD (wN 2) (aD (wS Zc (wC (D.str (PySem.Str.ofString " "))) (aD (wN 6) aC)) aC))) aC))) (bJ (aD (wC (D.str (PySem.Str.ofString "line"))) aC))) (dS (aH (wC (D.bl false)))) (dS bI)) (dw (en (kf (kn ji (dj (dE (wN 3)) (dj (gR (wN 4) (w1 cJ (wC (D.int (1))))) g7))))) (dS (aH (wC (D.bl false)))) (dS bI))) (dS bI))))))))))) (dS (aH (wC (D.bl true))))))
end D3
end D7
local macro_rules | `(tactic| walk_at "w1")=>`(tactic| simp only [aH,cr,aW,bI,g0,bT,cO,f6,mK,f8,d7,dP,mL,d8,mM,f7,gx,iG,wM,Zcy,jB,fX,lh,dL,fg,cm,wT,jc,w1,w2,wB,wF,wL,bJ,cI,ZaP,aB,aU,aD,aC,aLC,ZbM,dB,iS,iC,rL,gP,wS,gj,mQ,t4,n8,qO,eU,ZaK,isI,gp,qW,um,vV,iL,iT,lj,mH,iZ,gM,eQ,wN,wC,gN,iD,jd,j5,de,mI,eS,f9,gb,gc,ge,da,gg,gh,cB,pub,cF,hJ,cD,fG,kx,eG,List.replicate,l3,l4,l5,l6,Nat.reduceSub,Nat.reduceAdd,eX,l8,true_and,cw,if_true,if_false,ite_true,ite_false,nb,dA,gC,
 pJ,pK,pL,pM,pN,pO,pP,pQ,pR,pS,pT,pU,pV,pW,pX,pY,pZ,p6,p8,p9,qc,qd,qe,qf,qg,qh,qi,qj,qk,ql,qo,Zd,qp,qq,qr,qs,qt,qu,qv,qw,qx,qy,qz,qA,qB,qC,qD,qE,qF,iH,qG,qH,qI,qJ,qK,iJ,iK])
local macro_rules | `(tactic| walk_at "dd")=>`(tactic| (simp only[dw,dT,dS,dE,ls,mU,cV,dM,gR,lv,jP,ly,cP,A5,kf,en,oa,dF,qT,uc,kn,se,dj,g7,yP,F4,yO,m7,lE,NdD.to,w1,gl,gp,mW];walk_at "st"))
namespace D7
namespace D3
theorem Gi:∀ds Δ E Q,lX ds Δ E Q->yR E { nx:=λ_ δ=>Q .non δ,rt:=Q } (cB ZlV ds) Δ:=by
 rintro _ Δ E Q ⟨b,st,r,rfl,⟨hΔ,hst,hk,hl⟩,q⟩;unfold yR;refine bQ ?_;walk_at "dd";refine⟨r,rfl,⟨hk,hl⟩,?_⟩;rw[yD];unfold Zdo at q;cases e:kj r with
 |none=>rw[e] at q;exact q
 |some p=>
 obtain⟨w,ns⟩:=p;rw[e] at q;change Zbn w ns st (λex=>E ex Δ) _ at q;obtain⟨x,rfl⟩:∃x,r=.str x:=by cases r with|str x=>exact⟨x,rfl⟩|_=>cases e
 have e':gq (Txt.split x " ")=some (w,ns):=e;obtain⟨d,hd,due,hln,hbd⟩:=Fy e';have hsp:=AV x 32;have hx2:x.length<=2000:=hl.2;have hln5:ns.length<=5000:=by rw[m4] at hln;omega
 show _/\_;refine⟨rfl,?_⟩;refine bQ ?_;walk_at "dd";refine⟨w,_,rfl,rfl,?_⟩
 by_cases hb:w = "back"
 .rw[beq_iff_eq.mpr hb]
  unfold Zbn at q;rw[Hh hb] at q;simp only[isB,if_true];refine bQ ?_;walk_at "dd";refine⟨b,rfl,b,st,rfl,hΔ,hst.ne,?_⟩
  by_cases h1:st.length=1
  .rw[Hh h1] at q ⊢;exact q
  .rw[if_neg h1] at q ⊢;exact q
 .rw[beq_eq_false_iff_ne.mpr hb]
  unfold Zbn at q;rw[if_neg hb] at q;simp only[isB,cw,if_false];refine bQ ?_;walk_at "dd";refine⟨b,rfl,b,rfl,_,_,hΔ,Bt hst.ne,?_⟩;refine bQ ?_;walk_at "dd";refine⟨w,rfl,?_⟩;obtain⟨n,hsl⟩:∃n,IsSl (lst st) n:=hst.all _ (r8 hst.ne);have hlen:(st.map aN).length<small:=by rw[bR];have:=hst.len;exact oz this (by decide)
  have go:∀(f:Str) (S:bN) (r:Except Str (List Int)),gU w (lst st) ns=some r->DEEDD.lookup w=some (.cls f)->(f,S)∈[((Str.ofString "new_size"),rT),(Str.ofString "new_row",rV),(Str.ofString "one_set",rW),(Str.ofString "all_turned",rX),(Str.ofString "all_times",Zb),(Str.ofString "cut_to",rY)]->
    (∀E' Q',exQ E' Q' (r.map aN)->S [aN (lst st),aN ns] E' Q')->if(List.lookup w DEEDD).isSome=true then
    aY (dS (aW 5 (w1 (mX DEEDD) (wN 2)))) (aY (mU (jP (w1 gl (wN 0)) (eU [(Str.ofString "new_size",rT),(Str.ofString "new_row",rV),(Str.ofString "one_set",rW),(Str.ofString "all_turned",rX),(Str.ofString "all_times",Zb),(Str.ofString "cut_to",rY)] (wN 5) (aD (wN 4) (aD (wN 3) aC))))) (dS (aH (wC (D.str (Str.ofString "ok")))))) E
     { nx:=dS (aK (aW 6 (w1 (mX QUESD) (wN 2))) (aH (eU [(Str.ofString "ask_slants",ug),(Str.ofString "ask_shown",ut)] (wN 6) (aD (wN 4) (aD (wN 3) aC))))) E { nx:=λx δ=>Q D.non δ,rt:=Q },rt:=Q }
     [SV.d (D.pl 1 b),SV.d (D.str x),SV.d (D.str w),SV.d (aN ns),SV.d (aN (lst st)),SV.un,SV.un] Δ
   else
    aK (aW 6 (w1 (mX QUESD) (wN 2))) (aH (eU [(Str.ofString "ask_slants",ug),(Str.ofString "ask_shown",ut)] (wN 6) (aD (wN 4) (aD (wN 3) aC)))) (λex=>E ex Δ) { nx:=λρ=>Q D.non Δ,rt:=λd=>Q d Δ }
     [SV.d (D.pl 1 b),SV.d (D.str x),SV.d (D.str w),SV.d (aN ns),SV.d (aN (lst st)),SV.un,SV.un]:=by
   intro f S r hr hf hS hU;rw[hr] at q;rw[hf,Hh (show(some (D.cls f)).isSome=true from rfl)];refine bQ ?_;walk_at "dd";refine⟨w,.cls f,rfl,hf,?_⟩;refine bQ ?_;walk_at "dd";refine⟨b,rfl,b,_,rfl,hΔ,(f,S),hS,rfl,hU _ _ ?_⟩;cases r with
   |error ex=>exact q
   |ok s=>
    refine⟨hlen,?_⟩;have:(st++[s]).map aN=st.map aN++[aN s]:=by rw[lH];rfl
    rw[<-this];exact q
  clear hx2 hsp
  by_cases w1:w = "size"
  .subst w1
   have hn:ns.length=1:=og (w:= "size") (k:=1) rfl hd due;exact go "new_size" rT _ rfl rfl (by simp) λE' Q' z=>rZ hsl hn z
  by_cases w2:w = "row"
  .subst w2
   exact go "new_row" rV _ rfl rfl (by simp) λE' Q' z=>rZ hsl hln5 z
  by_cases w3:w = "set"
  .subst w3
   have hn:ns.length=2:=og (w:= "set") (k:=2) rfl hd due;exact go "one_set" rW _ rfl rfl (by simp) λE' Q' z=>rZ hsl hn z
  by_cases w4:w = "turn"
  .subst w4
   have hn:ns.length=0:=og (w:= "turn") (k:=0) rfl hd due;exact go "all_turned" rX _ rfl rfl (by simp) λE' Q' z=>rZ hsl hn z
  by_cases w5:w = "times"
  .subst w5
   have hn:ns.length=1:=og (w:= "times") (k:=1) rfl hd due;refine go "all_times" Zb _ rfl rfl (by simp) λE' Q' z=>rZ hsl ⟨hn,?_⟩ z;obtain⟨k,rfl⟩:=qX hn;exact gO (n:=67) (jU (hbd k (dk ..)) (by decide)) (by decide)
  by_cases w6:w = "cut"
  .subst w6
   have hn:ns.length=1:=og (w:= "cut") (k:=1) rfl hd due;exact go "cut_to" rY _ rfl rfl (by simp) λE' Q' z=>rZ hsl hn z
  have hN:gU w (lst st) ns=none:=by unfold gU;rw[if_neg w1,if_neg w2,if_neg w3,if_neg w4,if_neg w5,if_neg w6]
  rw[hN] at q;rcases q with⟨rfl,q⟩|⟨rfl,n',hsl',q⟩
  .have hn:ns.length=0:=og (w:= "slants") (k:=0) rfl hd due
   obtain rfl:=Bk hn;rw[show List.lookup (Str.ofString "slants") DEEDD=none from rfl];simp only[wx,cw,if_false];walk_at "nx";unfold mX;refine⟨_,_,rfl,(show QUESD.lookup (Str.ofString "slants")=some (.cls "ask_slants") from rfl),?_⟩;walk_at "st";refine⟨_,dk ..,rfl,_,rfl,⟨n,hsl⟩,?_⟩;rw[vL hΔ] at q;exact q
  .have hn:ns.length=0:=og (w:= "shown") (k:=0) rfl hd due
   obtain rfl:=Bk hn;rw[show List.lookup (Str.ofString "shown") DEEDD=none from rfl];simp only[wx,cw,if_false];walk_at "nx";unfold mX;refine⟨_,_,rfl,(show QUESD.lookup (Str.ofString "shown")=some (.cls "ask_shown") from rfl),?_⟩;walk_at "st";refine⟨_,cK _ (dk ..),rfl,(lst st,n'),rfl,hsl',?_⟩;rw[vL hΔ] at q;exact q
theorem Gj{r:D}{E:Str->Prop}{Q:Str->List (List Int)->Prop}(h:Zdo r st E Q):Zdo r st (λex=>ex∈mZ/\E ex) Q:=by
 unfold Zdo at h ⊢;split
 .rename_i e;rw[e] at h;exact⟨by decide +kernel,h⟩
 .rename_i w ns e
  rw[e] at h;change Zbn w ns st E Q at h;unfold Zbn at h ⊢;split
  .rename_i e1
   rw[Hh e1] at h;split
   .rename_i e2;rw[Hh e2] at h;exact⟨by decide +kernel,h⟩
   .rename_i e2;rw[if_neg e2] at h;exact h
  .rename_i e1
   rw[if_neg e1] at h;split
   .rename_i e2;rw[e2] at h;exact h
   .rename_i e2;rw[e2] at h;exact⟨Fz e2,h⟩
   .rename_i e2;rw[e2] at h;exact h
theorem Gk:Rd ut BJ Zf:=by
 rintro _ E Q ⟨⟨s,n⟩,rfl,h,q⟩;dsimp only at q h;unfold BJ;walk_at "st";refine⟨aN s,rfl,h.kd,?_⟩;rw[show B.T.txR (aN s)=.ok (.str (mS s n)) by unfold B.T.txR;rw[tP h,pG,h.sN]];have hl:=AI h;exact⟨by rw[show(Str.ofString " ; ").length=3 by decide +kernel];omega,q⟩
theorem Gm:∀ds E Q,S__law_refused ds E Q->yT No { nx:=λ_=>Q .non,rt:=Q } (cB ZbP ds):=by
 rintro _ E Q ⟨n,rfl,hn,q⟩;dsimp only at q;unfold yT;walk_at "nx";refine Em hn ?_;have go:∀k:Str,d9 (.str k) 60=true->ll (D.str k) (D.str (Str.ofString "strong"))=false->n4 n=k->aK (cr (wT (w2 (gEq false) (wN 1) (wC (D.str (PySem.Str.ofString "strong"))))) (aH (bJ (aD (wN 1) (aD (w1 (rO (PySem.Str.ofString "NotStrong") (PySem.Str.ofString "size")) (wN 0)) aC)))) bI) (aH (bJ (aD (wN 1) aC))) No { nx:=λ_=>Q .non,rt:=Q } [SV.d (D.exc n),SV.d (D.str (n4 n))]:=by
  intro k h1 h2 e;rw[e] at q ⊢;walk_at "nx";refine rB h1 (by decide +kernel) ?_;rw[if_neg bW,h2];simp only[isB,cw,if_false];exact⟨by decide,q⟩
 simp only[LX,Yam,eZ,or_false] at hn;rcases hn with rfl|rfl|rfl|rfl|rfl|rfl
 .exact go "slants" (by decide +kernel) (by decide +kernel) (by decide +kernel)
 .exact go "row" (by decide +kernel) (by decide +kernel) (by decide +kernel)
 .exact go "number" (by decide +kernel) (by decide +kernel) (by decide +kernel)
 .exact go "line" (by decide +kernel) (by decide +kernel) (by decide +kernel)
 .exact go "even" (by decide +kernel) (by decide +kernel) (by decide +kernel)
 .exact go "full" (by decide +kernel) (by decide +kernel) (by decide +kernel)
theorem uv(h:ex∈mZ):ex∈LX/\n4 ex=jR ex:=by
 simp only[mZ,Yam,eZ,or_false] at h;rcases h with rfl|rfl|rfl<;>exact⟨by decide +kernel,by decide +kernel⟩
theorem Gn:∀ds Δ E Q,g8 ds Δ E Q->yS E { nx:=λ_ δ=>Q .non δ,rt:=Q } (cB Zdj ds) Δ:=by
 rintro _ Δ E Q ⟨b,st,r,rfl,hs,q⟩;unfold yS;refine⟨λex δ=>δ=Δ/\ex∈mZ/\Q (.tup [.str (jR ex)]) Δ,λex δ h=>?_,?_⟩
 .obtain⟨rfl,hx,hq⟩:=h
  obtain⟨h1,h2⟩:=uv hx;refine⟨h1,?_⟩;unfold pH;walk_at "st";exact⟨ex,rfl,h1,by show Q (.tup [.str (n4 ex)]) δ;rw[h2];exact hq⟩
 .walk_at "dd"
  exact⟨b,rfl,b,st,r,rfl,hs,(Gj q).mono (λex h=>⟨rfl,h⟩) λt s h=>h⟩
end D3
end D7
theorem vX(hx:asc x=true)(hy:asc y=true):asc (x++y)=true:=by
 rw[Za0];intro c hc;rw[Str.cps_append,sB,Yan] at hc;rcases hc with h|h
 .exact Za0.mp hx c h
 .exact Za0.mp hy c h
theorem BN(i:Int):asc (aO i)=true:=by
 rw[Za0];rcases wr i with⟨m,rfl|rfl⟩
 .rw[rN]
  intro c hc;have:=Zdg.mp (Ybe.mp (t6 m) c hc);omega
 .rcases sm m with rfl|z
  .decide +kernel
  .rw[vH m (by omega)]
   intro c hc;rcases Yam.mp hc with rfl|hc
   .omega
   .have:=Zdg.mp (Ybe.mp (t6 m) c hc)
    omega
namespace D7
namespace D3
theorem fq(h:fo w ns):d9 (.str w) 60=true:=(by decide +kernel:∀w∈[("set" : Str), "row", "size", "turn", "times", "cut", "back"],d9 (.str w) 60=true) w h.kw
theorem uw(h:fo w ns)(hb:w≠ "back"):ll (D.str w) (D.str "back")=false:=(by decide +kernel:∀w∈[("set" : Str), "row", "size", "turn", "times", "cut", "back"],w≠ "back" ->ll (D.str w) (D.str "back")=false) w h.kw hb
theorem Go:∀ds Δ E Q,oq ds Δ E Q->yU E { nx:=λ_ δ=>Q .non δ,rt:=Q } (cB Zb6 ds) Δ:=by
 rintro _ Δ E Q ⟨b,st,w,ns,rfl,hΔ,hst,hw,q⟩;unfold yU;unfold gy;refine bQ ?_;walk_at "dd";refine⟨_,aQ (j:=0) rfl,rB (fq hw) (by decide +kernel) ?_⟩;rw[if_neg bW];unfold Zbn at q
 by_cases hb:w = "back"
 .subst hb
  rw[Hh rfl] at q;rw[show ll (D.str (Str.ofString "back")) (D.str (Str.ofString "back"))=true by decide +kernel];simp only[isB,if_true];refine bQ ?_;walk_at "dd";refine⟨b,_,rfl,hΔ,?_⟩;rw[bR]
  by_cases e:st.length=1
  .rw[Hh e] at q
   rw[Hh (by rw[e];rfl)];exact⟨by decide,q⟩
  .rw[if_neg e] at q
   rw[if_neg (by rw[HD];omega)];have h0:0<st.length:=List.length_pos_iff.mpr hst.ne;refine bQ ?_;walk_at "dd";refine⟨b,_,aN (st[st.length-1]'(by omega)),rfl,hΔ,?_,?_⟩
   .rw[bR,eF,iQ (by omega)];rfl
   .rw[<-List.map_dropLast]
    exact q
 .rw[if_neg hb] at q
  rw[show ll (D.str w) (D.str (Str.ofString "back"))=false from uw hw hb];simp only[isB,cw,if_false];obtain⟨n,hsl⟩:∃n,IsSl (lst st) n:=hst.all _ (r8 hst.ne);refine bQ ?_;walk_at "dd";refine⟨b,rfl,_,_,hΔ,Bt hst.ne,?_⟩;refine Gg hsl hw hb ?_;unfold ur;split at q
  .rename_i s e
   refine bQ ?_;walk_at "dd";refine⟨_,rfl,by decide +kernel,?_⟩;rw[show jF "tuple" "str" = false by decide +kernel];simp only[isB,cw,if_false];refine bQ ?_;walk_at "dd";have hlen:(st.map aN).length<small:=by rw[bR];have:=hst.len;exact oz this (by decide)
   refine⟨b,_,rfl,hΔ,hlen,?_⟩;have:(st++[s]).map aN=st.map aN++[aN s]:=by rw[lH];rfl
   rw[<-this];exact q
  .rename_i ex e
   refine bQ ?_;walk_at "dd";refine⟨_,rfl,by decide +kernel,?_⟩;rw[show jF "str" "str" = true by decide +kernel];simp only[isB,if_true];exact⟨by decide,q⟩
  .exfalso
   have h1:=(by decide +kernel:∀w∈[("set" : Str), "row", "size", "turn", "times", "cut", "back"],¬(w = "slants" \/w = "shown")) w hw.kw;rcases q with⟨z,_⟩|⟨z,_⟩
   .exact h1 (.inl z)
   .exact h1 (.inr z)
theorem Gp{E:ED}{Q:D->Dl->Prop}(hΔ:Δ b=some (st.map aN))(hst:df st)(q:Q (.str (mY (lst st))) Δ):lX [.pl 1 b,.str (Str.ofString "slants")] Δ E Q:=by
 obtain⟨l1,t1⟩:=Bz (w:=Str.ofString "slants") rfl (by decide +kernel);refine⟨b,st,_,rfl,⟨hΔ,hst,rfl,t1⟩,?_⟩;unfold Zdo;rw[show kj (.str (Str.ofString "slants"))=some (Str.ofString "slants",[]) from l1];show Zbn _ _ _ _ _;unfold Zbn;rw[if_neg (by decide +kernel),show gU (Str.ofString "slants") (lst st) []=none by unfold gU;rw[if_neg (by decide +kernel),if_neg (by decide +kernel),if_neg (by decide +kernel),if_neg (by decide +kernel),if_neg (by decide +kernel),if_neg (by decide +kernel)]];refine .inl ⟨rfl,?_⟩;dsimp only;rw[vL hΔ];exact q
theorem BO{n:Nat}{E:ED}{Q:D->Dl->Prop}(hΔ:Δ b=some (st.map aN))(hst:df st)(h:IsSl (lst st) n)(q:Q (.str (oj (lst st) n)) Δ):lX [.pl 1 b,.str (Str.ofString "shown")] Δ E Q:=by
 obtain⟨l1,t1⟩:=Bz (w:=Str.ofString "shown") rfl (by decide +kernel);refine⟨b,st,_,rfl,⟨hΔ,hst,rfl,t1⟩,?_⟩;unfold Zdo;rw[show kj (.str (Str.ofString "shown"))=some (Str.ofString "shown",[]) from l1];show Zbn _ _ _ _ _;unfold Zbn;rw[if_neg (by decide +kernel),show gU (Str.ofString "shown") (lst st) []=none by unfold gU;rw[if_neg (by decide +kernel),if_neg (by decide +kernel),if_neg (by decide +kernel),if_neg (by decide +kernel),if_neg (by decide +kernel),if_neg (by decide +kernel)]];refine .inr ⟨rfl,n,h,?_⟩;dsimp only;rw[vL hΔ];exact q
theorem BP{z:Str}(hz:asc z=true):∀{L:List Str},(∀p∈L,asc p=true)->asc (Str.join z L)=true
 |[],_=>by
  show asc Str.empty=true;decide +kernel
 |[a],h=>h a (by simp)
 |a::b::L,h=>by
  show asc (a++z++Str.join z (b::L))=true;exact vX (vX (h a (by simp)) hz) (BP hz λp hp=>h p (cK _ hp))
theorem Gq:("\n" : Str)=⟨#[10]⟩:=by decide +kernel
theorem Gr{n:Nat}(h:IsSl s n):oj s n=Str.join " ; " (g6 s n):=by
 unfold oj mS;rw[Gq,StrLaws.replace_one,yi (EJ s n) λp hp=>(AG h p hp).2]
theorem Gs{n:Nat}(h:IsSl s n):asc (oj s n)=true:=by
 rw[Gr h];refine BP (by decide +kernel) λp hp=>?_;unfold g6 at hp;rcases Yam.mp hp with rfl|hp
 .exact vX (by decide +kernel) (BN _)
 .obtain⟨i,_,rfl⟩:=Yby.mp hp
  exact vX (by decide +kernel) (BN _)
theorem Gu:∀ds Δ E Q,ji ds Δ E Q->yW E { nx:=λ_ δ=>Q .non δ,rt:=Q } (cB Za4 ds) Δ:=by
 rintro _ Δ E Q ⟨b,st,rfl,hΔ,hst,q⟩;obtain⟨n,hsl⟩:∃n,IsSl (lst st) n:=hst.all _ (r8 hst.ne);have h9:=hsl.l9;have hl:=hsl.len;have hn1:=hsl.n1;unfold yW;refine bQ ?_;walk_at "dd";refine⟨b,rfl,Gp hΔ hst ?_⟩;refine Bo (by omega) (IsSl.abs hsl) ?_;refine pD (AT (FG (by intro z;rw[z] at hl;simp at hl;omega) (by omega) (IsSl.abs hsl))) ?_;simp only[isB,dA,cw,if_false];refine⟨b,rfl,BO hΔ hst hsl ?_⟩;refine Ge hsl ?_;have ht:=AI hsl;refine⟨by rw[show(Str.ofString " ; ").length=3 by decide +kernel];omega,?_⟩;exact pD (AT (Gs hsl)) q
theorem uy{i:Int}(h:i.natAbs<10^20)(q:Q (.int i)):rK [.str (aO i)] Q:=by
 have hv:=AN h;unfold bO at hv;split at hv
 .rename_i g
  have hl:=B.T2.istr_len (i:=i) (jU h (by decide));exact⟨_,i,rfl,by rw[AO g];exact hv,by omega,q⟩
 .cases hv
theorem Gv{Q:List D->Prop}(h:∀i∈ns,i.natAbs<10^20)(hl:ns.length<=11)(q:Q (ns.map D.int)):lcW (gN 0) dB (wB rK (aD (wN 0) aC)) (bH (D.str w::List.map D.str (List.map aO ns)) (some 1) none) [SV.un] [] Q:=by
 rw[show bH (D.str w::List.map D.str (List.map aO ns)) (some 1) none=ns.map λi=>D.str (aO i) by rw[iP,show(1:Int)=((1:Nat):Int) from rfl,x8 (by simp)];rfl];refine lP (g:=λi:Int=>D.str (aO i)) (f:=λi:Int=>D.int i) ns (λi hi Q hq=>?_) .un [] (cq (by rw[fG];omega)) ?_
 .walk_at "st"
  exact uy (h i hi) hq
 rw[eG];exact q
theorem gz{v:Str}{N:Nds}{a:SV}{A B:WS}(ow:d9 (.str w) 60=true)(ov:d9 (.str v) 60=true)(b:Bool)(e:ll (D.str w) (D.str v)=b)(h:if b=true then A E N (a::.d (.lst (.str w::ds))::ρ) else B E N (a::.d (.lst (.str w::ds))::ρ)) :
  cr (wT (w2 (gEq false) (w2 gIx (wN 1) (wC (.int 0))) (wC (.str v)))) A B E N (a::.d (.lst (.str w::ds))::ρ):=by
 walk_at "st";refine⟨_,aQ (j:=0) rfl,rB ow ov ?_⟩;rw[if_neg bW,e];exact h
theorem BQ{xs:List Int}{a b c d e:SV}{P:bV->Prop}(hx:xs≠[])(hl:xs.length<=11)(q:Q (match gT xs with|.ok s'=>aN s'|.error ex=>.str (jR ex))) :
  aK
  (cr
   (fg (wT (w2 (gEq false) (w2 nX (wB bL (aD (wN 5) aC)) (wC (D.int 2))) (wC (D.int 0))))
    (fg (wT (w2 jI (wB bL (aD (wN 5) aC)) (wC (D.int 9))))
     (wT
      (w2 jI (wB ui (aD (wL (aLC (iS (wN 5)) 1 [] (gN 0) dB (wB fY (aD (wN 0) aC)))) aC))
       (wC (D.int 50))))))
   (aH (wC (D.str (Str.ofString "slants")))) bI)
  (aH (wN 5)) E { nx:=P,rt:=Q } [a,b,c,d,e,SV.d (D.tup (List.map D.int xs))]:=by
 walk_at "nx";rw[bR];refine⟨by decide,?_⟩;have hsl:dQ (aN xs)=true↔(∀i∈xs,-50<=i/\i<=50)/\xs.length%2=1/\xs.length<=9:=by
  simp only[dQ,aN,cf,Hk,bR,uS,Ybe,Function.comp,bU,and_assoc]
 have hno:¬(dQ (aN xs)=true)->Q (.str "slants"):=λh=>by
  rw[show gT xs=.error "NoSlants" from if_neg h] at q;exact q
 have hf:(xs.length:Int).fmod 2=((xs.length%2:Nat):Int):=by rw[zl _ (by decide)];omega
 rw[hf]
 by_cases h1:xs.length%2=0
 .rw[Hh (by rw[h1];rfl)]
  exact hno λh=>by have:=(hsl.mp h).2.1;omega
 rw[if_neg (by rw[HD];omega)]
 by_cases h2:(xs.length:Int)>9
 .rw[Hh (Hl h2)]
  exact hno λh=>by have:=(hsl.mp h).2.2;omega
 rw[if_neg (by simpa using h2)];refine lP (g:=λi:Int=>D.int i) (f:=λi:Int=>D.int (if i<0 then -i else i)) xs (λi hi Q hq=>?_) .un [] (cq (by rw[fG];omega)) ?_
 .walk_at "st"
  exact hq
 rw[eG];refine⟨xs.map λi=>if i<0 then -i else i,by unfold its;rw[iP];rfl,by simpa using hx,λm hm hM=>?_⟩;walk_at "st"
 by_cases h3:m>50
 .rw[Hh (Hl h3)]
  obtain⟨i,hi,rfl⟩:=Yby.mp hm;exact hno λh=>by have:=(hsl.mp h).1 i hi;split at h3<;>omega
 .rw[if_neg (by simpa using h3)]
  rw[show gT xs=.ok xs from Hh (hsl.mpr ⟨λi hi=>by have:=hM _ (wz hi);split at this<;>omega,by omega,by omega⟩)] at q;exact q
theorem uz{xs:List Int}(e:gU w s ns=some (gT xs))(q:Q (ur w s ns)):Q (match gT xs with|.ok s'=>aN s'|.error ex=>.str (jR ex)):=by
 unfold ur at q;rw[e] at q;cases hr:gT xs with
 |ok s'=>rw[hr] at q;exact q
 |error ex=>rw[hr] at q;exact q
theorem vY(hw:fo w ns)(h:NUMD.lookup w=some (.int k)):ns.length=k:=by
 obtain⟨d,hd,due⟩:=hw.due;exact og h hd due
theorem Gw:Rd vW BL ZcG:=by
 rintro _ E Q ⟨⟨s,w,ns⟩,rfl,⟨⟨n,hs⟩,hw,hb⟩,q⟩;dsimp only at hs hw hb q;have hn1:=hs.n1;have hl:=hs.len;have h9:=hs.l9;have hkw:=hw.kw;unfold BL;dsimp only[gy];walk_at "nx";refine Gv hw.small hw.len ?_;walk_at "nx";refine⟨⟨by decide,gO (n:=3) (by decide) (by decide)⟩,?_⟩;simp only[Yam,eZ,or_false] at hkw;rcases hkw with rfl|rfl|rfl|rfl|rfl|rfl|rfl
 .refine eW (gz (fq hw) (by decide +kernel) false (by decide +kernel) ?_)
  rw[if_neg bW];walk_at "st";refine eW (gz (fq hw) (by decide +kernel) true (by decide +kernel) ?_);rw[Hh rfl];obtain⟨i,k,rfl⟩:=Bj (vY hw (k:=2) rfl);change Q (match(some (km s [i,k]):Option (Except Str (List Int))) with|some (.ok s')=>aN s'|some (.error ex)=>.str (jR ex)|none=>.non) at q;have hk20:k.natAbs<10^20:=hw.small k (by simp);have hno:¬((0<=i/\i<=(s.length:Int)-1)/\-50<=k/\k<=50)->Q (.str "number"):=λh=>by
   rw[show km s [i,k]=.error "NoNumber" from if_neg (show¬(bU 0 ((s.length:Int)-1) (.int i)&&bU (-50) 50 (.int k))=true by simp only[bU,cf,Hk];exact h)] at q;exact q
  walk_at "nx";refine⟨_,aQ (j:=0) rfl,?_⟩;walk_at "st"
  by_cases h1:0<=i
  .rw[Hh (Hl h1)]
   by_cases h2:i<s.length
   .rw[if_neg (by simpa using h2)]
    refine⟨_,aQ (j:=1) rfl,?_⟩;walk_at "st"
    by_cases h3:(if k<0 then -k else k)>50
    .rw[Hh (Hl h3)]
     exact hno λh=>by split at h3<;>omega
    .rw[if_neg (by simpa using h3)]
     have hk5:-50<=k/\k<=50:=by split at h3<;>omega
     rw[show km s [i,k]=.ok (s.set i.toNat k) from Hh (show(bU 0 ((s.length:Int)-1) (.int i)&&bU (-50) 50 (.int k))=true by simp only[bU,cf,Hk];omega)] at q;obtain⟨a,rfl⟩:∃a:Nat,i=a:=⟨i.toNat,by omega⟩
     have ha:a<s.length:=by omega
     refine⟨_,aQ (j:=0) rfl,_,aQ (j:=1) rfl,?_⟩;have e3:bH (s.map D.int) none (some (a:Int))=(s.take a).map D.int:=by rw[Bn (by rw[bR];omega),sx]
     have e4:bH (s.map D.int) (some ((a:Int)+1)) none=(s.drop (a+1)).map D.int:=by rw[show(a:Int)+1=((a+1:Nat):Int) by omega,x8 (by rw[bR];omega),sw]
     have e5:(s.take a).map D.int++[D.int k]++(s.drop (a+1)).map D.int=(s.set a k).map D.int:=by
      rw[zm,Hh ha,lH,cF,l0];rfl
     have l1:(s.take a).length<=9:=by rw[jV];omega
     have l2:(s.drop (a+1)).length<=9:=by rw[kv];omega
     rw[e3];refine⟨cq (by decide),cq (by rw[bR];omega),_,aQ (j:=0) rfl,?_⟩;walk_at "st";rw[e4,e5];exact⟨cq (by rw[gu,bR,bR];simp only[cD,fG];omega),q⟩
   .rw[Hh (by simpa using h2)]
    exact hno λh=>h2 (by omega)
  .rw[if_neg (by simpa using h1)]
   exact hno λh=>h1 (by omega)
 .refine eW (gz (fq hw) (by decide +kernel) false (by decide +kernel) ?_)
  rw[if_neg bW];walk_at "st";refine eW (gz (fq hw) (by decide +kernel) false (by decide +kernel) ?_);rw[if_neg bW];walk_at "st";refine eW (gz (fq hw) (by decide +kernel) false (by decide +kernel) ?_);rw[if_neg bW];walk_at "st";refine eW (gz (fq hw) (by decide +kernel) false (by decide +kernel) ?_);rw[if_neg bW];walk_at "st";refine eW ?_;walk_at "st";refine⟨_,aQ (j:=0) rfl,rB (fq hw) (by decide +kernel) ?_⟩;rw[if_neg bW,show ll (D.str (Str.ofString "row")) (D.str (Str.ofString "row"))=true by decide +kernel];walk_at "st";refine BQ (λz=>?_) hw.len (uz rfl q);obtain⟨d,hd,due⟩:=hw.due;rw[z] at due;rw[show NUMD.lookup (Str.ofString "row")=some .non from rfl] at hd;cases hd;cases due
 .refine eW (gz (fq hw) (by decide +kernel) true (by decide +kernel) ?_)
  rw[Hh rfl];obtain⟨k,rfl⟩:=qX (vY hw (k:=1) rfl);walk_at "st";refine⟨_,aQ (j:=0) rfl,?_⟩;have hq:Q (if 1<=k/\k<=5 then aN (List.replicate (2*k-1).toNat 0) else .str "number"):=by
   change Q (match(some (lz [k]):Option (Except Str (List Int))) with|some (.ok s')=>aN s'|some (.error ex)=>.str (jR ex)|none=>.non) at q
   by_cases h:1<=k/\k<=5
   .rw[Hh h]
    rw[show lz [k]=.ok (List.replicate (2*k-1).toNat 0) from Hh (show bU 1 5 (.int k)=true by simp only[bU,cf,Hk];exact h)] at q;exact q
   .rw[if_neg h]
    rw[show lz [k]=.error "NoNumber" from if_neg (show¬bU 1 5 (.int k)=true by simp only[bU,cf,Hk];exact h)] at q;exact q
  walk_at "st"
  by_cases h1:0<k
  .rw[Hh (Hl h1)]
   by_cases h2:k<6
   .rw[Hh (Hl h2)]
    rw[Hh ⟨by omega,by omega⟩] at hq;refine⟨by decide,_,aQ (j:=0) rfl,?_,?_⟩
    .exact⟨gO (n:=2) (by decide) (by decide),gO (n:=3) (by show k.natAbs<8;omega) (by decide)⟩
    walk_at "st";refine⟨by omega,by omega,cq (by show 1*_<=_;omega),?_⟩;rw[show(List.replicate (2*k-1).toNat [D.int 0]).flatten=(List.replicate (2*k-1).toNat (0:Int)).map D.int by rw[List.map_replicate];generalize (2*k-1).toNat=m;induction m with|zero=>rfl|succ m ih=>rw[eX,nc,ih,eX];rfl];exact hq
   .rw[if_neg (by simpa using h2)]
    rw[if_neg (by omega)] at hq;exact hq
  .rw[if_neg (by simpa using h1)]
   rw[if_neg (by omega)] at hq;exact hq
 .refine eW (gz (fq hw) (by decide +kernel) false (by decide +kernel) ?_)
  rw[if_neg bW];walk_at "st";refine eW (gz (fq hw) (by decide +kernel) false (by decide +kernel) ?_);rw[if_neg bW];walk_at "st";refine eW (gz (fq hw) (by decide +kernel) true (by decide +kernel) ?_);rw[Hh rfl];walk_at "st";change Q (aN s.reverse) at q;refine⟨show(s.map D.int).length<=10000 by rw[bR];omega,?_⟩;rw[<-su];exact q
 .obtain⟨k,rfl⟩:=qX (vY hw (k:=1) rfl)
  refine eW (gz (fq hw) (by decide +kernel) false (by decide +kernel) ?_);rw[if_neg bW];walk_at "st";refine eW (gz (fq hw) (by decide +kernel) false (by decide +kernel) ?_);rw[if_neg bW];walk_at "st";refine eW (gz (fq hw) (by decide +kernel) false (by decide +kernel) ?_);rw[if_neg bW];walk_at "st";refine eW (gz (fq hw) (by decide +kernel) false (by decide +kernel) ?_);rw[if_neg bW];walk_at "st";refine eW ?_;walk_at "st";refine⟨_,aQ (j:=0) rfl,rB (fq hw) (by decide +kernel) ?_⟩;rw[if_neg bW,show ll (D.str (Str.ofString "times")) (D.str (Str.ofString "row"))=false by decide +kernel];walk_at "st";have hk:k.natAbs<10^20:=hw.small k (by simp);refine lP (g:=λi:Int=>D.int i) (f:=λi:Int=>D.int (i*k)) s (λi hi Q hq=>?_) .un [] (cq (by rw[fG];omega)) ?_
  .walk_at "st"
   refine⟨_,aQ (j:=0) rfl,?_⟩;have hi5:=hs.b i hi;exact⟨⟨gO (n:=6) (by show i.natAbs<64;omega) (by decide),gO (n:=67) (jU hk (by decide)) (by decide)⟩,hq⟩
  rw[eG,show(s.map λi=>D.int (i*k))=(s.map (· * k)).map D.int by rw[iP];rfl];exact BQ (λz=>by have:=congrArg List.length z;simp at this;rw[this] at hl;simp at hl;omega) (by rw[bR];omega) (uz rfl q)
 .have e0:((s.length:Int)+1).fdiv 2=n:=by rw[show(s.length:Int)+1=2*(n:Int) by omega];exact Int.mul_fdiv_cancel_left _ (by decide)
  rw[e0];refine eW (gz (fq hw) (by decide +kernel) false (by decide +kernel) ?_);rw[if_neg bW];walk_at "st";refine eW (gz (fq hw) (by decide +kernel) false (by decide +kernel) ?_);rw[if_neg bW];walk_at "st";refine eW (gz (fq hw) (by decide +kernel) false (by decide +kernel) ?_);rw[if_neg bW];walk_at "st";refine eW (gz (fq hw) (by decide +kernel) true (by decide +kernel) ?_);rw[Hh rfl];obtain⟨k,rfl⟩:=qX (vY hw (k:=1) rfl);walk_at "nx";refine⟨_,aQ (j:=0) rfl,?_⟩;walk_at "st";refine⟨_,aQ (j:=0) rfl,?_⟩;walk_at "st";change Q (match(some (lA s [k]):Option (Except Str (List Int))) with|some (.ok s')=>aN s'|some (.error ex)=>.str (jR ex)|none=>.non) at q;have hno:¬(1<=k/\k<=(n:Int))->Q (.str "number"):=λh=>by
   rw[show lA s [k]=.error "NoNumber" from if_neg (show¬bU 1 (sN (aN s)) (.int k)=true by rw[hs.sN];simp only[bU,cf,Hk];exact h)] at q;exact q
  by_cases h1:0<k
  .rw[Hh (Hl h1)]
   by_cases h2:k<=(n:Int)
   .rw[Hh (Hl h2)]
    rw[show lA s [k]=.ok (pF s (sN (aN s)) k.toNat) from Hh (show bU 1 (sN (aN s)) (.int k)=true by rw[hs.sN];simp only[bU,cf,Hk];omega),hs.sN] at q;obtain⟨c,rfl⟩:∃c:Nat,k=c:=⟨k.toNat,by omega⟩
    rw[show(n:Int)-c=((n-c:Nat):Int) by omega,show(s.length:Int)-((n-c:Nat):Int)=((s.length-(n-c):Nat):Int) by omega,xZ (by omega) (by rw[bR];omega)];rw[show s.length-(n-c)-(n-c)=2*c-1 by omega,<-sw,<-sx];exact q
   .rw[if_neg (by simpa using h2)]
    exact hno λh=>h2 h.2
  .rw[if_neg (by simpa using h1)]
   exact hno λh=>h1 (by omega)
 .exact Hj rfl hb
theorem jS{xs:List Int}(hk:k<xs.length)(q:∀i∈xs,Q (.int i)):∃d,cG (xs.map D.int) (k:Int)=some d/\Q d:=⟨.int xs[k],aQ (by rw[eF,iQ hk];rfl),q _ (uR hk)⟩
theorem one{i:Int}(h1:w∈[("set" : Str), "row", "size", "turn", "times", "cut", "back"])(h2:NUMD.lookup w=some (.int 1))(h:i.natAbs<10^20):fo w [i]:=⟨h1,⟨_,h2,rfl⟩,by simp,λj hj=>by rw[YbV.mp hj];exact h⟩
theorem Gx:Rd sf BK Zcp:=by
 rintro _ E Q ⟨⟨s,n⟩,rfl,hs,q⟩;dsimp only at hs q;have fin:∀w ns,fo w ns->Q (gy w ns):=λw ns hw=>q _ ⟨w,ns,hw,rfl⟩;have h9:=hs.l9;have hl:=hs.len;have h1:=hs.n1;have e0:((s.length:Int)+1).fdiv 2=n:=by rw[uT _ (by decide)];omega
 unfold BK;walk_at "nx";refine gi (n:=20) (by decide) (by decide) λway hway=>?_;walk_at "nx";rw[e0];refine⟨⟨by decide,gO (n:=3) (by decide) (by decide)⟩,?_⟩;walk_at "nx";refine⟨⟨by decide,by decide,by decide⟩,by decide,gi (n:=3) (by decide) (by decide) λk3 hk3=>?_⟩;refine jS (xs:=[51,-51,10^Int.toNat 19]) hk3 λbey hbey=>?_;have hb20:bey.natAbs<10^20:=by
  simp only[Yam,eZ,or_false] at hbey;rcases hbey with rfl|rfl|rfl<;>decide
 walk_at "nx";refine gi (n:=7) (by decide) (by decide) λk1 hk1=>?_;walk_at "st";refine gi (n:=101) (by decide) (by decide) λk2 hk2=>?_;walk_at "st";refine⟨by decide,gi (n:=12) (by decide) (by decide) λk4 hk4=>?_⟩;walk_at "st";have e5:((k4:Int)).fdiv 5=((k4/5:Nat):Int):=by rw[uT _ (by decide)];omega
 rw[e5];refine⟨⟨by decide,gO (n:=3) (by decide) (by decide)⟩,?_⟩;refine jS (xs:=[(k1:Int)-3,(k2:Int)-50,bey]) (show k4/5<3 by omega) λnum hnum=>?_;have hn20:num.natAbs<10^20:=by
  simp only[Yam,eZ,or_false] at hnum;rcases hnum with rfl|rfl|rfl
  .exact oh (by omega)
  .exact oh (by omega)
  .exact hb20
 clear hnum;walk_at "nx"
 by_cases w8:way<8
 .rw[Hh (Hl (by omega))]
  refine gi (n:=8) (by decide) (by decide) λk8 hk8=>?_;walk_at "st";obtain⟨m,em,hm⟩:∃m:Nat,(s.length:Int)+(if((k8:Int)==0)=true then 1 else 0)=(m:Int)/\0<m/\m<20:=by
   split
   .exact⟨s.length+1,by omega,by omega,by omega⟩
   .exact⟨s.length,by omega,by omega,by omega⟩
  rw[em];refine gi (n:=m) hm.1 (jU hm.2 (by decide)) λa ha=>?_;have h20:(a:Int).natAbs<10^20:=oh (by omega);exact m6 h20 (m6 hn20 ⟨by decide,fin "set" [(a:Int),num] ⟨by decide +kernel,⟨_,rfl,rfl⟩,by simp,λj hj=>by
   rcases Yam.mp hj with rfl|hj
   .exact h20
   .rw[YbV.mp hj];exact hn20⟩⟩)
 rw[if_neg (by rw[Hk];omega)];walk_at "nx"
 by_cases w10:way<10
 .rw[Hh (Hl (by omega))]
  walk_at "nx";refine⟨by decide,gi (n:=7) (by decide) (by decide) λk7 hk7=>?_⟩;refine jS (xs:=[1,3,5,7,9,2,11]) hk7 λmany hmany=>?_;walk_at "st";have hm:1<=many/\many<=11:=by
   simp only[Yam,eZ,or_false] at hmany;omega
  refine⟨by decide,by omega,by omega,?_⟩;refine DS (R:=λ_ y=>∃i:Int,y=.str (aO i)/\i.natAbs<10^20) (λd _ Q hq=>?_) .un [] (cq (by unfold rng;simp;omega)) λys hl hy=>?_
  .walk_at "st"
   refine gi (n:=5) (by decide) (by decide) λk hk=>?_;walk_at "st";exact m6 (oh (by omega)) (hq _ ⟨_,rfl,oh (by omega)⟩)
  obtain⟨ns,rfl,hns⟩:∃ns:List Int,ys=ns.map (λi=>D.str (aO i))/\∀i∈ns,i.natAbs<10^20:=by
   clear hl
   induction ys with
   |nil=>exact⟨[],rfl,λ_ h=>nomatch h⟩
   |cons y r ih=>
    obtain⟨_,_,i,e,hi⟩:=hy y (dk ..);obtain⟨ns,e2,h2⟩:=ih λz hz=>hy z (cK _ hz);exact ⟨i::ns,by rw [e,e2];rfl,λj hj=>by
     rcases Yam.mp hj with rfl|hj
     .exact hi
     .exact h2 j hj⟩
  have hl2:ns.length<=10:=by
   rw[bR] at hl;rw[hl];unfold rng;simp;omega
  rw[eG,bR];refine⟨cq (by omega),m6 hn20 ⟨by decide,cq (by omega),?_⟩⟩;have e7:D.lst (D.str (Str.ofString "row")::(ns.map (λi=>D.str (aO i))++[D.str (aO num)]))=gy "row" (ns++[num]):=by
   unfold gy;rw[cF,lH,lH,iP];rfl
  rw[e7];refine fin "row" _ ⟨by decide +kernel,⟨.non,rfl,?_⟩,by simp;omega,λj hj=>?_⟩
  .exact Hl (by simp:0<(ns++[num]).length)
  .rcases Yan.mp hj with hj|hj
   .exact hns j hj
   .rw[YbV.mp hj];exact hn20
 rw[if_neg (by rw[Hk];omega)];walk_at "nx"
 by_cases w12:way<12
 .rw[Hh (Hl (by omega))]
  refine⟨by decide,gi (n:=8) (by decide) (by decide) λk7 hk7=>?_⟩;refine jS (xs:=[1,2,3,4,5,0,6,-1]) hk7 λi hi=>?_;have h20:i.natAbs < 10 ^ 20:=oh (by
   simp only[Yam,eZ,or_false] at hi;omega)
  exact m6 h20 ⟨by decide,fin "size" [i] (one (by decide +kernel) rfl h20)⟩
 rw[if_neg (by rw[Hk];omega)];walk_at "nx"
 by_cases w14:way<14
 .rw[Hh (Hl (by omega))]
  exact⟨by decide,fin "turn" [] ⟨by decide +kernel,⟨_,rfl,rfl⟩,by simp,λ_ h=>nomatch h⟩⟩
 rw[if_neg (by rw[Hk];omega)];walk_at "nx"
 by_cases w16:way<16
 .rw[Hh (Hl (by omega))]
  refine⟨by decide,gi (n:=6) (by decide) (by decide) λk7 hk7=>?_⟩;refine jS (xs:=[2,-1,0,1,3,num]) hk7 λi hi=>?_;have h20:i.natAbs<10^20:=by
   simp only[Yam,eZ,or_false] at hi;rcases hi with rfl|rfl|rfl|rfl|rfl|rfl
   iterate 5 decide
   exact hn20
  exact m6 h20 ⟨by decide,fin "times" [i] (one (by decide +kernel) rfl h20)⟩
 rw[if_neg (by rw[Hk];omega)];walk_at "nx"
 by_cases w18:way<18
 .rw[Hh (Hl (by omega))]
  refine⟨by decide,gi (n:=6) (by decide) (by decide) λk7 hk7=>?_⟩;refine jS (xs:=[(n:Int),(n:Int)-1,1,(n:Int)+1,0,-1]) hk7 λi hi=>?_;have h20:i.natAbs < 10 ^ 20:=oh (by
   have:=hs.n5;simp only[Yam,eZ,or_false] at hi;omega)
  exact m6 h20 ⟨by decide,fin "cut" [i] (one (by decide +kernel) rfl h20)⟩
 rw[if_neg (by rw[Hk];omega)];exact⟨by decide,fin "back" [] ⟨by decide +kernel,⟨_,rfl,rfl⟩,by simp,λ_ h=>nomatch h⟩⟩
theorem BR{c:Nat}{b r:List Nat}:∀{a p:List Nat},c∉a->c∉p->a++c::b=p++c::r->a=p/\b=r
 |[],[],_,_,h=>⟨rfl,List.tail_eq_of_cons_eq h⟩
 |[],y::p,_,h2,h=>Hj (by rw[wD h];exact dk ..) h2
 |x::a,[],h1,_,h=>Hj (by rw[<-wD h];exact dk ..) h1
 |x::a,y::p,h1,h2,h=>by
  have:=BR (a:=a) (p:=p) (λz=>h1 (cK _ z)) (λz=>h2 (cK _ z)) (List.tail_eq_of_cons_eq h);exact⟨by rw[wD h,this.1],this.2⟩
theorem qZ(a b:Str)(c:Nat):(a++⟨#[c]⟩++b).cps.toList=a.cps.toList++c::b.cps.toList:=by
 rw[jh,jh,l0];rfl
theorem yY{p r:Str}(hp:c∉p.cps.toList):Txt.split (p++⟨#[c]⟩++r) ⟨#[c]⟩=p::Txt.split r ⟨#[c]⟩:=by
 rcases vI (p++⟨#[c]⟩++r) c with⟨h,_⟩|⟨p',r',e,hp',_,es⟩
 .exact Hj (by rw[qZ];simp) h
 .have e2:=congrArg (λx:Str=>x.cps.toList) e
  rw[qZ,qZ] at e2;obtain⟨e3,e4⟩:=BR hp hp' e2;rw[es,n9 e3,n9 e4]
theorem BS(b:Str)(c:Nat):∀(n:Nat) (a:Str),a.cps.toList.length<=n->Txt.split (a++⟨#[c]⟩++b) ⟨#[c]⟩=Txt.split a ⟨#[c]⟩++Txt.split b ⟨#[c]⟩:=by
 intro n
 induction n with
 |zero=>
  intro a h;have ha:c∉a.cps.toList:=by rw[Yb3.mp (Nat.le_zero.mp h)];simp
  rcases vI a c with⟨_,_,ea⟩|⟨p,r,e,_⟩
  .rw[yY ha,ea];rfl
  .exact Hj (by rw[e,qZ];simp) ha
 |succ n ih=>
  intro a h;rcases vI a c with⟨ha,_,ea⟩|⟨p,r,e,hp,_,ea⟩
  .rw[yY ha,ea];rfl
  .have hr:r.cps.toList.length<=n:=by
    rw[e,qZ,gu,cD] at h;omega
   rw[ea,kx,<-ih r hr,<-yY hp,e];exact congrArg (Txt.split · _) (n9 (by simp only[jh,l0]))
theorem yn{e:Nat}(hce:e≠c):∀(n:Nat) (a:Str),a.cps.toList.length<=n->e∈a.cps.toList->∃p∈Txt.split a ⟨#[c]⟩,e∈p.cps.toList:=by
 intro n
 induction n with
 |zero=>intro a h he;rw[Yb3.mp (Nat.le_zero.mp h)] at he;exact nomatch he
 |succ n ih=>
  intro a h he;rcases vI a c with⟨ha,_,ea⟩|⟨p,r,e2,hp,_,ea⟩
  .exact⟨a,by rw[ea];simp,he⟩
  .rw[ea]
   rw[e2,qZ,gu,cD] at h;rw[e2,qZ] at he;rcases Yan.mp he with he|he
   .exact⟨p,dk ..,he⟩
   .rcases Yam.mp he with he|he
    .exact Hj he hce
    .obtain⟨q,hq,h3⟩:=ih r (by omega) he
     exact⟨q,cK _ hq,h3⟩
theorem BT{p:Str}:∀{ps:List Str},p∈ps->NUMD.lookup p=none->bO p=none->gq ps=none
 |w::os,hp,h1,h2=>by
  rcases Yam.mp hp with rfl|hp
  .simp only[gq,h1]
  .simp only[gq]
   split
   .rfl
   .rw[if_neg]
    rw[cf];intro h;have:=Ybe.mp h.1 _ (wz hp);rw[h2] at this;cases this
theorem BU{α:Type}{p:Str}{d:α}:∀{L:List (Str×α)},L.lookup p=some d->(p,d)∈L
 |(k,v)::L,h=>by
  rw[gB] at h;split at h
  .rename_i e;cases h;rw[eq_of_beq e];exact dk ..
  .exact cK _ (BU h)
theorem yZ(hc:c∈x.cps.toList)(h:c=10\/c=120):lR x=none:=by
 unfold lR;rw[m4];obtain⟨p,hp,he⟩:=yn (c:=32) (e:=c) (by omega) _ x (bP _) hc;refine BT hp ?_ ?_
 .cases e:NUMD.lookup p with
  |none=>rfl
  |some d=>
   have h1:∀q∈NUMD.map Prod.fst,(10∉q.cps.toList/\120∉q.cps.toList):=by decide +kernel
   have h2:=h1 p (wz (f:=Prod.fst) (BU e));rcases h with rfl|rfl
   .exact Hj he h2.1
   .exact Hj he h2.2
 .unfold bO
  rw[if_neg];unfold lQ;rw[cf,cf];intro hg;have hf:c∈aX p:=by
   unfold aX dR;split
   .rename_i hn
    cases hl:p.cps.toList with
    |nil=>rw[hl] at he;exact nomatch he
    |cons y r=>
     rw[hl] at he hn;rcases Yam.mp he with rfl|he
     .have:=eq_of_beq hn
      cases this;omega
     .exact he
   .exact he
  have:=Zdg.mp (Ybe.mp hg.1.2 c hf);omega
theorem y8{a b:Str}(h:("" : Str)∈Txt.split a " " \/("" : Str)∈Txt.split b " "):lR (a++ " " ++b)=none:=by
 unfold lR;rw[m4] at h ⊢;rw[BS b 32 _ a (bP _)];exact BT (p:= "") (Yan.mpr h) (by decide +kernel) (by decide +kernel)
theorem y9:("" : Str)∈Txt.split "" " " :=by decide +kernel
def lF(d:D):Prop:=kd d=true/\rS d/\kj d=none
theorem uA(h1:∀c∈x.cps.toList,c<128)(h2:x.length<=2000)(h3:lR x=none):lF (.str x):=⟨by rw[kd],⟨Za0.mpr h1,h2⟩,h3⟩
def m8(x:Str):Bool:=asc x&&decide (x.length<=2000)&&(lR x).isNone
theorem vZ(h:m8 x=true):lF (.str x):=by
 unfold m8 at h;rw[cf,cf,Hk] at h;exact⟨by rw[kd],h.1,Option.isNone_iff_eq_none.mp h.2⟩
theorem uB(L:List String)(h:(L.all λs=>m8 (Str.ofString s))=true):∀d∈L.map (λs=>D.str (Str.ofString s)),lF d:=λd hd=>by
 obtain⟨s,hs,rfl⟩:=Yby.mp hd;exact vZ (Ybe.mp h s hs)
theorem uC{xs:List Int}(h:dQ (aN xs)=true):∃n,IsSl xs n:=by
 simp only[dQ,aN,cf,Hk,bR,uS,Ybe,Function.comp,bU,and_assoc] at h;exact⟨(xs.length+1)/2,by omega,by omega,by omega,h.1⟩
theorem Zm{xs s':List Int}(e:gT xs=.ok s'):∃n,IsSl s' n:=by
 unfold gT at e;split at e
 .rename_i h;cases e;exact uC h
 .cases e
theorem Gy{s':List Int}{n:Nat}(h:IsSl s n)(e:gU w s ns=some (.ok s')):∃m,IsSl s' m:=by
 unfold gU at e;split at e
 .unfold lz at e
  split at e
  .rename_i hk
   simp only[bU,cf,Hk] at hk;cases e;exact⟨(ns.headD 0).toNat,by rw[lY];omega,by omega,by omega,λx hx=>by rw[(List.mem_replicate.mp hx).2];decide⟩
  .cases e
 split at e
 .exact Zm (Hn e)
 split at e
 .unfold km at e
  split at e
  .rename_i hk
   simp only[bU,cf,Hk] at hk;cases e;refine⟨n,by rw[et];exact h.len,h.n1,h.n5,λx hx=>?_⟩;rcases List.mem_or_eq_of_mem_set hx with hx|rfl
   .exact h.b x hx
   .exact hk.2
  .cases e
 split at e
 .cases e;exact⟨n,h.rev⟩
 split at e
 .exact Zm (Hn e)
 split at e
 .unfold lA at e
  split at e
  .rename_i hk
   rw[h.sN] at hk e;simp only[bU,cf,Hk] at hk;cases e;exact⟨_,En h (by omega) (by omega)⟩
  .cases e
 .cases e
theorem Gz(hw:fo w ns)(hb:w≠ "back"):gU w s ns≠none:=by
 have hk:=hw.kw;unfold gU;simp only[Yam,eZ,or_false] at hk;rcases hk with rfl|rfl|rfl|rfl|rfl|rfl|rfl
 .rw[if_neg (by decide +kernel),if_neg (by decide +kernel),Hh rfl];exact nofun
 .rw[if_neg (by decide +kernel),Hh rfl];exact nofun
 .rw[Hh rfl];exact nofun
 .rw[if_neg (by decide +kernel),if_neg (by decide +kernel),if_neg (by decide +kernel),Hh rfl];exact nofun
 .rw[if_neg (by decide +kernel),if_neg (by decide +kernel),if_neg (by decide +kernel),if_neg (by decide +kernel),Hh rfl];exact nofun
 .rw[if_neg (by decide +kernel),if_neg (by decide +kernel),if_neg (by decide +kernel),if_neg (by decide +kernel),if_neg (by decide +kernel),Hh rfl];exact nofun
 .exact Hj rfl hb
theorem GA(st:List (List Int))(s:List Int):lst (st++[s])=s:=by unfold lst;simp
theorem GB(hw:fo w ns)(hst:df st)(h99:st.length<100) :
  (∃ex,∀(E:Str->Prop) (Q:Str->List (List Int)->Prop),E ex->Zbn w ns st E Q)\/∃st',df st'/\st'.length<=st.length+1/\∀(E:Str->Prop) (Q:Str->List (List Int)->Prop),Q "ok" st'->Zbn w ns st E Q:=by
 obtain⟨n,hs⟩:=hst.all _ (r8 hst.ne)
 by_cases hb:w = "back"
 .by_cases h1:st.length=1
  .exact .inl ⟨"NoLine",λE Q q=>by unfold Zbn;rw[Hh hb,Hh h1];exact q⟩
  .have h0:st.length≠0:=λz=>hst.ne (Yb3.mp z)
   exact .inr ⟨st.dropLast,⟨λz=>by have:=congrArg List.length z;rw[uN,fG] at this;omega,by rw[uN];omega,λs hs=>hst.all s (List.dropLast_subset _ hs)⟩,by rw[uN];omega,λE Q q=>by unfold Zbn;rw[Hh hb,if_neg h1];exact q⟩
 .cases e:gU w (lst st) ns with
  |none=>exact Hj e (Gz hw hb)
  |some r=>
   cases r with
   |error ex=>exact .inl ⟨ex,λE Q q=>by unfold Zbn;rw[if_neg hb,e];exact q⟩
   |ok s'=>
    have hs':=Gy hs e;refine .inr ⟨st++[s'],⟨by simp,by rw[gu,oy];omega,λs hs=>?_⟩,by rw[gu,oy];omega,λE Q q=>by unfold Zbn;rw[if_neg hb,e];exact q⟩;rcases Yan.mp hs with hs|hs
    .exact hst.all s hs
    .rw[YbV.mp hs];exact hs'
theorem m9(h:fo w ns):lT w=true:=(by decide +kernel:∀w∈[("set" : Str), "row", "size", "turn", "times", "cut", "back"],lT w=true) w h.kw
theorem za(hw:fo w ns)(q:Q (.str (cW w ns))):Zc (Str.ofString " ") [gy w ns] Q:=by
 refine⟨w::ns.map aO,rfl,by decide +kernel,?_,q⟩;have h1:w.length<=10:=by
  have:=m9 hw;unfold lT at this;rw[cf,Hk] at this;exact this.2
 have:∀(l:List Int),(∀i∈l,i.natAbs<10^20)->((l.map aO).map (·.length)).sum<=l.length*23:=by
  intro l
  induction l with
  |nil=>intro _;exact gW _
  |cons a r ih=>
   intro h;have h1:=FE (h a (dk ..));have h2:=ih λi hi=>h i (cK _ hi);rw[cF,cF,uU,cD];omega
 have h2:=this ns hw.small;have h3:=hw.len;rw[cF,uU,cD,bR];omega
theorem zc{E:ED}{Q:D->Dl->Prop}(hb:Δ b=some (st.map aN))(hst:df st)(hw:fo w ns)(q:Zbn w ns st (λex=>Q (.tup [.str (jR ex)]) Δ) λt st'=>Q (.str t) (cj Δ b (st'.map aN))):g8 [.pl 1 b,.str (cW w ns)] Δ E Q:=by
 obtain⟨d,h1,h2⟩:=hw.due;refine⟨b,st,_,rfl,⟨hb,hst,by rw[kd],yG (m9 hw) hw.len hw.small⟩,?_⟩;unfold Zdo;rw[show kj (.str (cW w ns))=some (w,ns) from By h1 (m9 hw) hw.small h2];exact q
theorem uD{E:ED}{Q:D->Dl->Prop}(hb:Δ b=some (st.map aN))(hst:df st)(h1:kd d=true)(h2:rS d)(h3:kj d=none)(q:Q (.tup [.str "line"]) Δ):g8 [.pl 1 b,d] Δ E Q:=by
 refine⟨b,st,_,rfl,⟨hb,hst,h1,h2⟩,?_⟩;unfold Zdo;rw[h3];exact q
theorem st0:df [[0]]:=⟨by simp,by simp,λs hs=>⟨1,by rw[YbV.mp hs];exact⟨rfl,by decide,by decide,λx hx=>by rw[YbV.mp hx];decide⟩⟩⟩
theorem BV(h:st≠[]):cG (st.map aN) (-1)=some (aN (lst st)):=by
 obtain⟨r,s,rfl⟩:∃r s,st=r++[s]:=⟨_,_,(wy h).symm⟩
 rw[lH,GA];exact gK _ _
def ze:dv:=(aY (cV 7 (dF oq (aD (wN 4) (aD (wN 6) aC)))) (aY (dw (oa (cP (gEq true) (dF g8 (aD (wN 3) (aD (wS Zc (wC (D.str (PySem.Str.ofString " "))) (aD (wN 6) aC)) aC))) (wN 7)) (en (kf (kn ji (dj (dE (wN 3)) (dj (gR (wN 4) (w1 cJ (wC (D.int (1))))) g7)))))) (dS (aH (wC (D.bl false)))) (dS bI)) (dw (dT (wT (w2 (gEq false) (wF dC (aD (wN 2) (aD (wC (D.int (3))) aC))) (wC (D.int (0)))))) (aY (dw (cP (gEq true) (dF g8 (aD (wN 3) (aD (wF om (aD (wN 2) (aD (wS Zc (wC (D.str (PySem.Str.ofString " "))) (aD (wN 6) aC)) aC))) aC))) (bJ (aD (wC (D.str (PySem.Str.ofString "line"))) aC))) (dS (aH (wC (D.bl false)))) (dS bI)) (dw (en (kf (kn ji (dj (dE (wN 3)) (dj (gR (wN 4) (w1 cJ (wC (D.int (1))))) g7))))) (dS (aH (wC (D.bl false)))) (dS bI))) (dS bI))))
def uE:dv:=(aY (cV 6 (lE (wN 6) (se sf (dj (dE (wN 2)) (dj (gR (wN 4) (w1 cJ (wC (D.int (1))))) g7))))) (aY (cV 7 (dF oq (aD (wN 4) (aD (wN 6) aC)))) (aY (dw (oa (cP (gEq true) (dF g8 (aD (wN 3) (aD (wS Zc (wC (D.str (PySem.Str.ofString " "))) (aD (wN 6) aC)) aC))) (wN 7)) (en (kf (kn ji (dj (dE (wN 3)) (dj (gR (wN 4) (w1 cJ (wC (D.int (1))))) g7)))))) (dS (aH (wC (D.bl false)))) (dS bI)) (dw (dT (wT (w2 (gEq false) (wF dC (aD (wN 2) (aD (wC (D.int (3))) aC))) (wC (D.int (0)))))) (aY (dw (cP (gEq true) (dF g8 (aD (wN 3) (aD (wF om (aD (wN 2) (aD (wS Zc (wC (D.str (PySem.Str.ofString " "))) (aD (wN 6) aC)) aC))) aC))) (bJ (aD (wC (D.str (PySem.Str.ofString "line"))) aC))) (dS (aH (wC (D.bl false)))) (dS bI)) (dw (en (kf (kn ji (dj (dE (wN 3)) (dj (gR (wN 4) (w1 cJ (wC (D.int (1))))) g7))))) (dS (aH (wC (D.bl false)))) (dS bI))) (dS bI)))))
def rc:dv:=(aY (dS (aW 2 (wF tS (aD (wN 1) aC)))) (aY (cV 3 (qT [.int 0])) (aY (cV 4 (m7 (aD (bJ (aD (wC (D.int (0))) aC)) aC))) (aY (dS (aW 5 (w2 gAdd (wC (D.int (2))) (wF dC (aD (wN 2) (aD (wC (D.int (4))) aC)))))) (gS (iS (w2 gAdd (wL (aU (aD (wL (aU (aD (wC (D.str (PySem.Str.ofString "size"))) (aD (wB g5 (aD (wN 5) aC)) aC)))) aC))) (w2 gMul (wL (aU (aD (wL (aU aC)) aC))) (w2 gAdd (wC (D.int (18))) (wF dC (aD (wN 2) (aD (wC (D.int (23))) aC))))))) (gN 6) (aY (cV 6 (lE (wN 6) (se sf (dj (dE (wN 2)) (dj (gR (wN 4) (w1 cJ (wC (D.int (1))))) g7))))) (aY (cV 7 (dF oq (aD (wN 4) (aD (wN 6) aC)))) (aY (dw (oa (cP (gEq true) (dF g8 (aD (wN 3) (aD (wS Zc (wC (D.str (PySem.Str.ofString " "))) (aD (wN 6) aC)) aC))) (wN 7)) (en (kf (kn ji (dj (dE (wN 3)) (dj (gR (wN 4) (w1 cJ (wC (D.int (1))))) g7)))))) (dS (aH (wC (D.bl false)))) (dS bI)) (dw (dT (wT (w2 (gEq false) (wF dC (aD (wN 2) (aD (wC (D.int (3))) aC))) (wC (D.int (0)))))) (aY (dw (cP (gEq true) (dF g8 (aD (wN 3) (aD (wF om (aD (wN 2) (aD (wS Zc (wC (D.str (PySem.Str.ofString " "))) (aD (wN 6) aC)) aC))) aC))) (bJ (aD (wC (D.str (PySem.Str.ofString "line"))) aC))) (dS (aH (wC (D.bl false)))) (dS bI)) (dw (en (kf (kn ji (dj (dE (wN 3)) (dj (gR (wN 4) (w1 cJ (wC (D.int (1))))) g7))))) (dS (aH (wC (D.bl false)))) (dS bI))) (dS bI))))))))))
theorem zf{c:Addr}{E:ED}{P:D->Dl->Prop}(hst:df st)(hb:Δ b=some (st.map aN))(hc:Δ c=some (st.map aN))(q:P (.bl true) Δ):∃b1,D.pl 0 c=D.pl 0 b1/\∃xs d,Δ b1=some xs/\cG xs (-1)=some d/\ji [D.pl 1 b,d] Δ E P:=⟨c,rfl,_,_,hc,BV hst.ne,b,st,rfl,hb,hst,q⟩
theorem BW{c:Addr}{E:ED}{x1 x5 x7:SV}{N:NdD}(hw:fo w ns)(hst:df st)(hb:Δ b=some (st.map aN))(hc:Δ c=some (st.map aN))(q:N.nx [x0,x1,.d .pen,.d (.pl 1 b),.d (.pl 0 c),x5,.d (gy w ns),x7] Δ) :
  (dw (dT (wT (w2 (gEq false) (wF dC (aD (wN 2) (aD (wC (D.int (3))) aC))) (wC (D.int (0)))))) (aY (dw (cP (gEq true) (dF g8 (aD (wN 3) (aD (wF om (aD (wN 2) (aD (wS Zc (wC (D.str (PySem.Str.ofString " "))) (aD (wN 6) aC)) aC))) aC))) (bJ (aD (wC (D.str (PySem.Str.ofString "line"))) aC))) (dS (aH (wC (D.bl false)))) (dS bI)) (dw (en (kf (kn ji (dj (dE (wN 3)) (dj (gR (wN 4) (w1 cJ (wC (D.int (1))))) g7))))) (dS (aH (wC (D.bl false)))) (dS bI))) (dS bI)) E N [x0,x1,.d .pen,.d (.pl 1 b),.d (.pl 0 c),x5,.d (gy w ns),x7] Δ:=by
 walk_at "dd";refine gi (n:=3) (by decide) (by decide) λk hk=>?_;walk_at "st";split
 .refine bQ ?_
  walk_at "dd";refine za hw (Gh hw λd h1 h2 h3=>uD hb hst h1 h2 h3 ?_);refine⟨by decide,pD (yH (by decide +kernel)) ?_⟩;simp only[isB,dA,cw,if_false];refine zf hst hb hc ?_;simp only[dA,cw,if_false];exact q
 .exact q
theorem GC{c:Addr}{E:ED}{x1 x5 x7:SV}{N:NdD}(hbc:b≠c)(hw:fo w ns)(hst:df st)(h99:st.length<100)(hb:Δ b=some (st.map aN))(hc:Δ c=some (st.map aN))
  (q:∀st' Δ' y7,df st'->st'.length<=st.length+1->Δ' b=some (st'.map aN)->Δ' c=some (st'.map aN)->N.nx [x0,x1,.d .pen,.d (.pl 1 b),.d (.pl 0 c),x5,.d (gy w ns),y7] Δ'):ze E N [x0,x1,.d .pen,.d (.pl 1 b),.d (.pl 0 c),x5,.d (gy w ns),x7] Δ:=by
 unfold ze;refine bQ ?_;walk_at "dd";refine⟨c,st,w,ns,rfl,hc,hst,hw,?_⟩;rcases GB hw hst h99 with⟨ex,h⟩|⟨st',hst',hl,h⟩
 .refine h _ _ ?_
  refine bQ ?_;walk_at "dd";refine za hw (zc hb hst hw (h _ _ ?_));refine pD (yH (FH ex)) ?_;simp only[isB,dA,cw,if_false];refine zf hst hb hc ?_;simp only[dA,cw,if_false];exact BW (N:=N) hw hst hb hc (q st Δ _ hst (by omega) hb hc)
 .refine h _ _ ?_
  have hb':cj Δ c (st'.map aN) b=some (st.map aN):=by rw[qS hbc];exact hb
  refine bQ ?_;walk_at "dd";refine za hw (zc hb' hst hw (h _ _ ?_));refine pD (by decide +kernel) ?_;simp only[isB,dA,cw,if_false];have hb2:cj (cj Δ c (st'.map aN)) b (st'.map aN) b=some (st'.map aN):=mV;have hc2:cj (cj Δ c (st'.map aN)) b (st'.map aN) c=some (st'.map aN):=by rw[qS (Hv hbc)];exact mV
  refine zf hst' hb2 hc2 ?_;simp only[dA,cw,if_false];exact BW (N:=N) hw hst' hb2 hc2 (q st' _ _ hst' hl hb2 hc2)
theorem Zi{b c:Addr}{E:ED}{x0 x1 x5:SV}{N:NdD}(hbc:b≠c)(q:∀Δ y6 y7,N.nx [x0,x1,.d .pen,.d (.pl 1 b),.d (.pl 0 c),x5,y6,y7] Δ) :
  ∀(ds:List D) (st:List (List Int)) (Δ:Dl) (y6 y7:SV),(∀d∈ds,d=.lst []\/∃w ns,fo w ns/\d=gy w ns)->df st->st.length+ds.length<=100->Δ b=some (st.map aN)->Δ c=some (st.map aN)->Zbp (gN 6) uE E N ds [x0,x1,.d .pen,.d (.pl 1 b),.d (.pl 0 c),x5,y6,y7] Δ
 |[],st,Δ,y6,y7,_,hst,_,hb,hc=>q Δ y6 y7
 |d::ds,st,Δ,y6,y7,hd,hst,hl,hb,hc=>by
  have ih:=Zi (N:=N) (E:=E) hbc q ds;obtain⟨n,hs⟩:=hst.all _ (r8 hst.ne);rw[cD] at hl;have fin:∀w ns,fo w ns->ze E { nx:=Zbp (gN 6) uE E N ds,rt:=N.rt,bk:=N.nx,ct:=Zbp (gN 6) uE E N ds } [x0,x1,.d .pen,.d (.pl 1 b),.d (.pl 0 c),x5,.d (gy w ns),y7] Δ:=λw ns hw=>
   GC hbc hw hst (by omega) hb hc λst' Δ' z7 h1 h2 h3 h4=>ih st' Δ' _ _ (λd h=>hd d (cK _ h)) h1 (by omega) h3 h4
  rw[Zbp];unfold uE;walk_at "st";refine bQ ?_;walk_at "dd";rcases hd d (dk ..) with rfl|⟨w,ns,hw,rfl⟩
  .dsimp only
   rw[Hh (show([]:List D).isEmpty=true from rfl)];refine⟨c,rfl,_,_,hc,BV hst.ne,Gf hs λw ns hw=>?_⟩;exact fin w ns hw
  .unfold gy
   dsimp only;rw[if_neg (by simp)];exact fin w ns hw
theorem GD{E:ED}{N:NdD}{i:Int}(q:∀ρ Δ,(∃y1 y2 y3 y4 y5 y6 y7,ρ=[x0,y1,y2,y3,y4,y5,y6,y7])->N.nx ρ Δ)(Δ:Dl)(y2 y3 y4 y5 y6 y7:SV):rc E N [x0,.d (.int i),y2,y3,y4,y5,y6,y7] Δ:=by
 unfold rc;refine bQ ?_;walk_at "dd";refine Eg ?_;refine bQ ?_;walk_at "dd";intro b hb;refine bQ ?_;walk_at "dd";refine⟨by decide,by decide,λc hc=>?_⟩;have hbc:b≠c:=λz=>by rw[<-z,mV] at hc;cases hc
 refine bQ ?_;walk_at "dd";refine gi (n:=4) (by decide) (by decide) λk hk=>?_;walk_at "st";show gS _ _ uE _ _ _ _;unfold gS;walk_at "st";have h20:(2+(k:Int)).natAbs<10^20:=oh (by omega);refine m6 h20 ⟨by decide,by decide,by decide,by decide,gi (n:=23) (by decide) (by decide) λm hm=>?_⟩;walk_at "st";rw[show(18+(m:Int)).toNat=18+m by omega,List.flatten_replicate_singleton,lY];refine⟨by omega,by omega,cq (by omega),cq (by omega),?_⟩;refine Zi hbc (fun Δ y6 y7=>q _ _ ⟨_,_,_,_,_,_,_,rfl⟩) _ [[0]] _ _ _ (λd hd=>?_) st0 (by simp;omega) (by rw[qS hbc,mV];rfl) (by rw[mV];rfl);rcases Yam.mp hd with rfl|hd
 .exact .inr ⟨"size",[2+(k:Int)],⟨by decide +kernel,⟨_,rfl,rfl⟩,by simp,λj hj=>by rw[YbV.mp hj];exact h20⟩,rfl⟩
 .exact .inl (List.mem_replicate.mp hd).2
theorem BX{E:ED}{N:NdD}{x0:SV}(q:∀ρ Δ,(∃y1 y2 y3 y4 y5 y6 y7,ρ=[x0,y1,y2,y3,y4,y5,y6,y7])->N.nx ρ Δ):∀(L:List Int) ρ Δ,(∃y1 y2 y3 y4 y5 y6 y7,ρ=[x0,y1,y2,y3,y4,y5,y6,y7])->Zbp (gN 1) rc E N (L.map D.int) ρ Δ
 |[],ρ,Δ,h=>q ρ Δ h
 |i::L,_,Δ,⟨y1,y2,y3,y4,y5,y6,y7,rfl⟩=>by
  rw[cF,Zbp];walk_at "st";exact GD (N:={ nx:=Zbp (gN 1) rc E N (L.map D.int),rt:=N.rt,bk:=N.nx,ct:=Zbp (gN 1) rc E N (L.map D.int) }) (λρ Δ h=>BX q L ρ Δ h) Δ _ _ _ _ _ _
theorem uF:oj [0] 1=Str.ofString "size 1 ; slant 0" :=by decide +kernel
theorem GE:∀ds E Q,uu ds E Q->yX (λex _=>E ex) { nx:=λ_ _=>Q .non,rt:=λd _=>Q d } (cB BM ds) λ_=>none:=by
 rintro _ E Q ⟨xs,rfl,hx,q⟩;dsimp only at hx q;unfold yX;refine bQ ?_;walk_at "dd";intro b hb;refine⟨b,rfl,?_⟩;refine BO (st:=[[0]]) (n:=1) mV st0 ((st0.all _ (r8 st0.ne)).elim λn h=>by have:=h.len;exact(show n=1 by simp[lst] at this;omega)▸h) ?_;rw[show oj (lst [[0]]) 1=Str.ofString "size 1 ; slant 0" from uF];refine pD (by decide +kernel) ?_;simp only[isB,dA,cw,if_false];intro c hc;refine zc (st:=[[0]]) (w:= "back") (ns:=[]) mV st0 ⟨by decide +kernel,⟨_,rfl,rfl⟩,by simp,λ_ h=>nomatch h⟩ ?_;unfold Zbn;rw[Hh rfl,Hh (show([[0]]:List (List Int)).length=1 from rfl)];dsimp only;refine⟨by decide,pD (yH (by decide +kernel)) ?_⟩;simp only[isB,dA,cw,if_false];obtain⟨cs,ec,hcs⟩:∃cs:List Int,bH (xs.map D.int) (some 1) (some 4)=cs.map D.int/\cs.length<=63:=by
  refine⟨bH xs (some 1) (some 4),?_,?_⟩
  .unfold bH
   rw[bR,sx,sw]
  .unfold bH
   rw[jV,kv];omega
 refine bQ ?_;show gS _ _ rc _ _ _ _;unfold gS;walk_at "st";refine Ef (i:=0) ?_;walk_at "st";rw[ec];refine⟨by decide,by simp[small];omega,?_⟩;show Zbp (gN 1) rc _ _ ((xs.getD 0 0::cs).map D.int) _ _;exact BX (λρ Δ _=>q) _ _ _ ⟨_,_,_,_,_,_,_,rfl⟩
theorem GF:(B.T2.sgs).cps.toList.all (λc=>decide (c<128))=true:=by decide +kernel
theorem GG:(jg B.T2.sgs).length=94:=by decide +kernel
theorem GH(h:k<(jg x).length):∃c,c∈x.cps.toList/\cG (jg x) (k:Int)=some (.str ⟨#[c]⟩):=by
 unfold jg at h ⊢;rw[bR] at h;refine⟨x.cps.toList[k],uR _,aQ ?_⟩;rw[eF,iQ h];rfl
def a7(x:Str):Prop:=∀c∈x.cps.toList,c<128
theorem ot{a b:Str}(h1:a7 a)(h2:a7 b):a7 (a++b):=λc hc=>by
 rw[jh] at hc;exact(Yan.mp hc).elim (h1 c) (h2 c)
theorem jT{y:String}(h:((Str.ofString y).cps.toList.all λc=>decide (c<128))=true):a7 (Str.ofString y):=λc hc=>HJ (Ybe.mp h c hc)
theorem zg{a:Str}{y:String}(h1:a7 a)(h2:a.length<=1000)(h3:((Str.ofString y).cps.toList.all λc=>decide (c<128))=true)(h4:(Str.ofString y).length<=1000)(h5:(10∈(Str.ofString y).cps.toList)\/120∈(Str.ofString y).cps.toList):lF (.str (a++Str.ofString y)):=by
 refine uA (ot h1 (jT h3)) (by rw[sd];omega) ?_;rcases h5 with h|h
 .exact yZ (c:=10) (by rw[jh];exact iO _ h) (.inl rfl)
 .exact yZ (c:=120) (by rw[jh];exact iO _ h) (.inr rfl)
theorem uG(a:Str):a++("" : Str)=a:=n9 (by rw[jh,show("" : Str).cps.toList=[] by decide +kernel,jj])
theorem uH(a:Str):("" : Str)++a=a:=n9 (by rw[jh,show("" : Str).cps.toList=[] by decide +kernel,eG])
theorem uI{a b:Str}(h1:a7 a)(h2:a7 b)(l1:a.length<=900)(l2:b.length<=900):lF (.str (a++Str.ofString "  " ++b)):=by
 have s2:(Str.ofString "  ").length=2:=by decide +kernel
 refine uA (ot (ot h1 (jT (by decide +kernel))) h2) (by rw[sd,sd];omega) ?_;rw[show a++Str.ofString "  " ++b=a++ " " ++("" ++ " " ++b) from n9 (by simp only[jh,l0,show(Str.ofString "  ").cps.toList=[32,32] by decide +kernel,uj,show("" : Str).cps.toList=[] by decide +kernel];rfl)];refine y8 (.inr ?_);rw[m4,BS b 32 _ "" (bP _)];have:=y9;rw[m4] at this;exact si _ this
theorem re{M N:List D}(h1:(∀d∈M,lF d)/\M.length=k)(h2:∀d∈N,lF d)(h3:N.length=j):∃L,L=M++N/\(∀d∈L,lF d)/\L.length=k+j:=⟨_,rfl,λd hd=>(Yan.mp hd).elim (h1.1 d) (h2 d),by rw[gu,h1.2,h3]⟩
theorem GI:Rd om yV ZbE:=by
 rintro _ E Q ⟨⟨w,ns⟩,rfl,hw,q⟩;dsimp only at hw q;obtain⟨l1,l2⟩:=yF (m9 hw) hw.len hw.small;show yV E _ (cB ZbE [.pen,.str (cW w ns)]);unfold yV;generalize cW w ns=x at *;have hsg:∀{k:Nat},k<94->∃c,c<128/\cG (jg B.T2.sgs) (k:Int)=some (.str ⟨#[c]⟩):=λ{k} hk=>by
  obtain⟨c,hc,e⟩:=GH (x:=B.T2.sgs) (k:=k) (by rw[GG];exact hk);exact⟨c,HJ (Ybe.mp GF c hc),e⟩
 walk_at "nx";refine B.T2.u__law_signs_of ?_;walk_at "nx";refine⟨x,rfl,cq (by omega),?_⟩;walk_at "st";refine gi (n:=x.length+1) (by omega) (oz (by omega:x.length+1<=289) (by decide)) λat' hat=>?_;walk_at "nx";generalize B.T2.sgs=sg at *;refine gi (n:=94) (by decide) (by decide) λk1 hk1=>?_;obtain⟨c1,hc1,e1⟩:=hsg hk1;refine⟨_,e1,gi (n:=94) (by decide) (by decide) λk2 hk2=>?_⟩;obtain⟨c2,hc2,e2⟩:=hsg hk2;refine⟨_,e2,?_⟩;refine lV (show 1+1<=5000 by decide) (lV (show 2+1<=5000 by decide) ?_);have hwd:lF (.str (⟨#[c1]⟩++⟨#[c2]⟩++Str.ofString "x"))/\lF (.str (⟨#[c1]⟩++⟨#[c2]⟩++Str.ofString "x" ++Str.ofString " 0")):=by
  have h2:a7 ((⟨#[c1]⟩:Str)++⟨#[c2]⟩):=ot (λc hc=>by rw[show c=c1 by simpa using hc];exact hc1) (λc hc=>by rw[show c=c2 by simpa using hc];exact hc2);refine⟨zg h2 (show 2<=1000 by decide) (by decide +kernel) (by decide +kernel) (.inr (by decide +kernel)),uA (ot (ot h2 (jT (by decide +kernel))) (jT (by decide +kernel))) (show 2+1+2<=2000 by decide) (yZ (c:=120) ?_ (.inr rfl))⟩;rw[jh,jh];exact si _ (iO _ (by decide +kernel))
 have hwl:((⟨#[c1]⟩:Str)++⟨#[c2]⟩++Str.ofString "x").length=3:=rfl;generalize (⟨#[c1]⟩:Str)++⟨#[c2]⟩++Str.ofString "x" = wd at hwd hwl ⊢;walk_at "nx";have s1:(Str.ofString " ").length=1:=by decide +kernel
 have s2:(Str.ofString "\n").length=1:=by decide +kernel
 have s3:(Str.ofString " x").length=2:=by decide +kernel
 refine⟨by decide,lV (by omega) (lV (by omega) (lV (by omega) (lV (by omega) ⟨by decide,?_⟩)))⟩;obtain⟨M,eM,hM,lM⟩:∃M,M=[D.non,D.int 7,D.lst [D.str x],D.bl true,D.str (Str.ofString ""),D.str (Str.ofString " "),.str (x++Str.ofString " "),.str (Str.ofString " " ++x),.str (x++Str.ofString "\n"),.str (x++Str.ofString " x")]/\(∀d∈M,lF d)/\M.length=10:=by
  refine⟨_,rfl,λd hd=>?_,rfl⟩;simp only[Yam,eZ,or_false] at hd;rcases hd with rfl|rfl|rfl|rfl|rfl|rfl|rfl|rfl|rfl|rfl
  .exact⟨rfl,trivial,rfl⟩
  .exact⟨rfl,trivial,rfl⟩
  .exact⟨rfl,trivial,rfl⟩
  .exact⟨rfl,trivial,rfl⟩
  .exact vZ (by decide +kernel)
  .exact vZ (by decide +kernel)
  .refine uA (ot l1 (jT (by decide +kernel))) (by rw[sd];omega) ?_
   rw[<-uG (x++Str.ofString " ")];exact y8 (.inr y9)
  .refine uA (ot (jT (by decide +kernel)) l1) (by rw[sd];omega) ?_
   rw[<-uH (Str.ofString " ")];exact y8 (.inl y9)
  .exact zg l1 (by omega) (by decide +kernel) (by decide +kernel) (.inl (by decide +kernel))
  .exact zg l1 (by omega) (by decide +kernel) (by decide +kernel) (.inr (by decide +kernel))
 rw[<-eM];clear eM;walk_at "nx";have p1:(cH x none (some (at':Int))).length<=x.length:=by rw[<-j9,AR,jV,j9];omega
 have p2:(cH x (some (at':Int)) none).length<=x.length:=by rw[<-j9,AQ,kv,j9];omega
 have p3:=uI (a:=cH x none (some (at':Int))) (b:=cH x (some (at':Int)) none) (λc hc=>l1 c (List.mem_of_mem_take (by rw[<-AR];exact hc))) (λc hc=>l1 c (List.mem_of_mem_drop (by rw[<-AQ];exact hc))) (by omega) (by omega);have s4:(Str.ofString "  ").length=2:=by decide +kernel
 refine⟨cq (by omega),lV (by omega) ⟨cq (by omega),lV (by rw[sd];omega) ⟨cX (by omega:M.length<11) (cq (by decide)),?_⟩⟩⟩;generalize cH x none (some (at':Int))++Str.ofString "  " ++cH x (some (at':Int)) none=db at p3;obtain⟨M1,e1,h1⟩:=re ⟨hM,lM⟩ (N:=[.str db]) (j:=1) (λd hd=>by rw[YbV.mp hd];exact p3) rfl;rw[<-e1];walk_at "nx";have o1:m8 (Str.ofString "size 1" ++mR (Str.ofString "0") (20:Int).toNat)=true:=by decide +kernel
 have o2:(Str.ofString "size 1").length+(mR (Str.ofString "0") (20:Int).toNat).length<=5000:=by decide +kernel
 refine⟨by decide,by decide,by decide +kernel,by decide +kernel,lV o2 ⟨by decide,cq (by omega),?_⟩⟩;generalize Str.ofString "size 1" ++mR (Str.ofString "0") (20:Int).toNat=bg at o1;have r1:=uB ["size", "size 1 2", "size a", "size 01", "size +1", "size -0", "row"] (by decide +kernel);obtain ⟨M2,e2,h2⟩:=re h1 (N:=[D.str (Str.ofString "size"),D.str (Str.ofString "size 1 2"),D.str (Str.ofString "size a"),D.str (Str.ofString "size 01"),D.str (Str.ofString "size +1"),D.str (Str.ofString "size -0"),.str bg,D.str (Str.ofString "row")]) (j:=8) (λd hd=>by
  by_cases e:d=.str bg
  .rw[e];exact vZ o1
  .refine r1 d ?_
   simp only[cF,hJ,Yam,eZ,or_false] at hd ⊢;rcases hd with h|h|h|h|h|h|h|h
   all_goals first|exact Hj h e|simp only[h,true_or,or_true]) rfl
 rw[<-e2];walk_at "nx";refine⟨by decide,cq (by omega),?_⟩;obtain⟨M3,e3,h3⟩:=re h2 (j:=9) (uB ["row ", "row a", "row 1 --1", "set 0", "set 0 1 2", "set 0 +1", "turn 1", "times", "times 1 1"] (by decide +kernel)) rfl;simp only[cF,hJ] at e3;rw[<-e3];walk_at "nx";refine⟨by decide,cq (by omega),?_⟩;obtain⟨M4,e4,h4⟩:=re h3 (j:=9) (uB ["cut", "cut 1 1", "back 1", "slants 0", "number 0", "corners 1", "weak 1", "full 1", "even 1"] (by decide +kernel)) rfl;simp only[cF,hJ] at e4;rw[<-e4];walk_at "nx";refine⟨by decide,cq (by omega),?_⟩;obtain⟨M5,e5,h5⟩:=re h4 (j:=3) (uB ["rank 1", "inverse", "inverse 0 0"] (by decide +kernel)) rfl;simp only[cF,hJ] at e5;rw[<-e5];walk_at "nx";refine⟨by decide,cq (by omega),?_⟩;have r2:=uB ["solve", "solve x", "weights 1", "signs 1", "length 1", "shown 1", "Size 1", "slant 0", "0"] (by decide +kernel);obtain ⟨M6,e6,h6⟩:=re h5 (N:=["solve", "solve x", "weights 1", "signs 1", "length 1", "shown 1", "Size 1", "slant 0", "0"].map (λs=>D.str (Str.ofString s))++[.str wd]) (j:=10) (λd hd=>by
  rcases Yan.mp hd with hd|hd
  .exact r2 d hd
  .rw[YbV.mp hd];exact hwd.1) rfl
 simp only[cF,hJ,kx,eG] at e6;rw[<-e6];walk_at "st";have s5:(Str.ofString " 0").length=2:=by decide +kernel
 refine lV (by omega) ⟨by decide,⟨by decide,by decide,by decide⟩,by decide,cq (by omega),?_⟩;obtain ⟨M7,e7,h7⟩:=re h6 (N:=[.str (wd++Str.ofString " 0"),.dic,.tup [.str (Str.ofString "turn")],.int (10 ^ Int.toNat 30)]) (j:=4) (λd hd=>by
  simp only[Yam,eZ,or_false] at hd;rcases hd with rfl|rfl|rfl|rfl
  .exact hwd.2
  .exact⟨rfl,trivial,rfl⟩
  .exact⟨rfl,trivial,rfl⟩
  .exact⟨by rw[kd],trivial,rfl⟩) rfl
 rw[<-e7];have l7:(M6.length:Int)+4=(M7.length:Int):=by have:=h6.2;have:=h7.2;omega
 rw[l7];refine gi (n:=M7.length) (by have:=h7.2;omega) (oz (by have:=h7.2;omega:M7.length<=100) (by decide)) λk hk=>?_;exact⟨M7[k],aQ (iQ hk),q _ (h7.1 _ (uR hk))⟩
end D3
end D7
namespace D7.D3
abbrev Zbs:List Str:=["word", "figures"]
abbrev z_number_read:=B.T2.z_number_read
theorem rd_number_read:Rd S_number_read z_number_read Zbs:=B.T2.rd_number_read
abbrev ZaS:List Str:=["slants"]
abbrev z_slants_shown:=B.T.z_slants_shown
theorem rd_slants_shown:Rd S_slants_shown z_slants_shown ZaS:=B.T.rd_slants_shown
abbrev ZaT:List Str:=["_law_slants", "_law_rows"]
abbrev z__law_text_of:=B.T.z__law_text_of
theorem rd__law_text_of:Rd S__law_text_of z__law_text_of ZaT:=B.T.rd__law_text_of
abbrev vJ:List Str:=["_law_signs"]
abbrev GJ:List Str:=[]
abbrev z__law_signs_of:=B.T2.z__law_signs_of
theorem rd__law_signs_of:Rd S__law_signs_of z__law_signs_of vJ:=B.T2.rd__law_signs_of
theorem GK(hl:ns.length<=63)(hO:my H)(hS:SqL K H a (ns.map V.int)):dq K uu [.ref a] H (λv _=>v=.bl true) λ_ _ _=>False:=by
 have rv:∀W:Wd,Reps K W (ns.map V.int) (ns.map D.int):=λW=>by
  clear hl hS
  induction ns with
  |nil=>exact .nil
  |cons n ns ih=>exact .cons (.int n) ih
 have ok:WOk ⟨H,λ_=>False⟩ H:=⟨λ_ _ e=>e,λ_ e=>e.elim⟩
 refine⟨[.scr (ns.map .int)],⟨H,λ_=>False⟩,ok,.cons (.scr ?_ (rv _)) .nil,ns,rfl,hl,λv W' H' _ r=>?_⟩
 .rcases hS with(h|h)|h
  .rcases hO a with z|⟨o,xs,z⟩
   .rw[h] at z;cases z
   .rw[h] at z;cases z
  .exact .inl h
  .exact .inr h
 .cases r;rfl
def cC(i:Nat):Stmt:=PySem.Challenge.pw_slanttables_k73_a_desk_is_told.main.body.getD i (.Pass ⟨0,0,0,0⟩)
structure Bs(K:Hg)(mg:Str->Option Value)(pr:Params):Prop where
 aa:bB K mg "is_whole" (cC 14)
 ab:bB K mg "is_within" (cC 15)
 ac:bB K mg "are_within" (cC 16)
 ad:bB K mg "size_of" (cC 42)
 ae:bB K mg "slants_good" (cC 43)
 af:bB K mg "need_slants" (cC 44)
 ag:bB K mg "turned_slants" (cC 46)
 ah:bB K mg "corner" (cC 47)
 ai:bB K mg "number_read" (cC 102)
 aj:bB K mg "slants_shown" (cC 103)
 ak:bB K mg "new_size" (cC 109)
 al:bB K mg "new_row" (cC 110)
 am:bB K mg "one_set" (cC 111)
 an:bB K mg "all_turned" (cC 112)
 ao:bB K mg "all_times" (cC 113)
 ap:bB K mg "cut_to" (cC 114)
 aq:bB K mg "things_shown" (cC 116)
 ar:bB K mg "ask_slants" (cC 118)
 as:bB K mg "ask_shown" (cC 130)
 au:bB K mg "line_of" (cC 132)
 av:bB K mg "_law_cell_at" (cC 135)
 aw:bB K mg "_law_next" (cC 136)
 ax:bB K mg "_law_pen_of" (cC 137)
 ay:bB K mg "_law_draw" (cC 138)
 az:bB K mg "_law_kind_of" (cC 139)
 a0:bB K mg "_law_refused" (cC 140)
 a1:bB K mg "_law_text_of" (cC 141)
 a2:bB K mg "_law_signs_of" (cC 142)
 a3:bB K mg "_law_words_of" (cC 143)
 a4:bB K mg "_law_changed" (cC 144)
 a5:bB K mg "_law_said" (cC 145)
 a6:bB K mg "_law_due_of" (cC 146)
 a7:bB K mg "_law_odd_line" (cC 147)
 a8:bB K mg "_law_shown_right" (cC 148)
 a9:bB K mg "law" (cC 149)
 ba:DK K mg (yK (cC 133) 0) (yK (cC 133) 1) (yK (cC 133) 2)
 bb:CT K mg "FIRST_SLANTS" [.int 0]
 bc:mg "len" = none
 bd:mg "abs" = none
 be:mg "int" = none
 bf:mg "max" = none
 bg:mg "reversed" = none
 bh:mg "tuple" = none
 bi:mg "isinstance" = none
 bj:mg "str" = none
 bk:mg "list" = none
 bl:mg "ValueError" = none
 bm:CC K mg "NoLine"
 bn:CC K mg "NoNumber"
 bo:CC K mg "NoRow"
 bp:CC K mg "NoSlants"
 bq:CC K mg "NoText"
 br:CC K mg "NotEven"
 bs:CC K mg "NotFull"
 bt:CC K mg "NotStrong"
 bu:CC K mg "TooGreat"
 xi:XI K LX MX
 bv:ym K mg "NotStrong" "NotStrong.__init__" "size" (yk (cC 8))
 bw:mg "bool" = none
 bx:mg "all" = none
 bz:CI mg "GREATEST_SIZE" (5)
 b0:CI mg "LEAST" (-50)
 b1:CI mg "MOST" (50)
 b2:XC K mg "NoSlants"
 b3:XC K mg "NoNumber"
 b4:CS mg "FIGURES" "0123456789"
 b5:CI mg "MOST_FIGURES" (20)
 b6:CD K pr mg "NUMBERS_DUE" NUMD
 b7:XC K mg "NoLine"
 b8:CD K pr mg "DEEDS" DEEDD
 b9:CD K pr mg "QUESTIONS" QUESD
 ca:XT K mg "SlantError" LX
 cb:mg "range" = none
section
variable{w:World}{base:Heap}(Z:Bs K mg w.params)
include Z
theorem zi:vN P w K mg base 1 [.int 0]:=FL Z.ba Z.bb ⟨_,_,_,_,_,rfl,λ_ _ _ _ _ _ _=>rfl,λ_=>rfl,λ_=>rfl⟩
theorem GL:Fp P w K mg base 1 "_law_cell_at" (ZcH.take 2) vE:=d0 Ei Z.av λsc hr hx hw=>bG (dO (c9 eR (aF 1) (cA gZ Z.bc Hy (Za (aF 0) aJ))) (bF (bM (cL bK (aF 0) (aF 1)))) cE) (bF (bM aL))
theorem BY:Fp P w K mg base 1 "_law_next" (Zfb.take 1) tR:=d0 Ej Z.aw λsc hr hx hw=>bG (dt 0 (bC pv (bC dh (aF 0) aL) aL) sc) (bF (bM (bC pv (bC dh (bC dh (bC pz (aF 0) (aF 0)) (bC pz aL (aF 0))) aL) aL)))
theorem gr:Fp P w K mg base 2 "_law_draw" (Zfc.take 2) dC:=d0 El Z.ay λsc hr hx hw=>bG (dO (c9 (cT hr.units) (cL tN (aF 0) aL) aL) (bG (dt 2 (bC pv (cL tN (aF 0) aL) (aF 1)) sc) (bG (zT 0 0 (bC pw (cL tN (aF 0) aL) (aF 1))) (bF (bM (aF 2))))) cE) (bG (zT 0 2 (cg (BY Z) hr hx (Za (bC dh (cg (BY Z) hr hx (Za (cL tN (aF 0) aL) aJ)) aL) aJ))) (bF (bM (bC pv (bC pw (cL tN (aF 0) aL) aL) (aF 1)))))
theorem GM:Fp P w K mg base 1 "_law_changed" (ZcG.take 2) vW:=d0 Gw Z.a4 λsc hr hx hw=>bG (pA 2 (j3 ["_law_word"] [] rfl (j4 (nV (aF 1) (jD aL) pq)) (λ_ _ _=>(gw 0 (by decide +kernel:List.Nodup (["_law_word"]:List Str)))) (λ_ _ _=>j0) (λ_ _ _=>(fE Az Z.be boot_int (Za (aF 0) aJ)))) sc) (bG (dt 3 (bC pw (bC dh (cA gZ Z.bc Hy (Za (aF 0) aJ)) aL) aL) sc) (iB 2 (bG (dO (c9 (cT hr.units) (cL bK (aF 1) aL) aS) (iB 2 (bF (bM (vf (vg eR eR aL (cL bK (aF 2) aL) aL) (bC z9 (jC (Za aL aJ)) (bC jE (bC pz aL (cL bK (aF 2) aL)) aL)) aS)))) cE) (iB 2 (bG (dO (c9 (cT hr.units) (cL bK (aF 1) aL) aS) (iB 2 (bG (dO (PXW.pxt (mC (lg (vg iy eR aL (cL bK (aF 2) aL) (cA gZ Z.bc Hy (Za (aF 0) aJ)))) (nQ (c9 mE (cA zL Z.bd boot_abs (Za (cL bK (aF 2) aL) aJ)) aL)))) (bF (bM aS)) cE) (iB 2 (bF (bM (bC dh (bC dh (nV (aF 0) pq (jD (cL bK (aF 2) aL))) (jC (Za (cL bK (aF 2) aL) aJ))) (nV (aF 0) (jD (bC dh (cL bK (aF 2) aL) aL)) pq))))))) cE) (bG (dO (c9 (cT hr.units) (cL bK (aF 1) aL) aS) (bF (bM (F0 Z.bh Z.bg (aF 0)))) cE) (iB 2 (bG (dO (c9 (cT hr.units) (cL bK (aF 1) aL) aS) (iB 2 (bG (dt 4 (bC jE (aF 3) (cL bK (aF 2) aL)) sc) (iB 2 (bF (bM (vf (vg eR iy aL (cL bK (aF 2) aL) (aF 3)) (nV (aF 0) (jD (aF 4)) (jD (bC jE (cA gZ Z.bc Hy (Za (aF 0) aJ)) (aF 4)))) aS)))))) cE) (iB 2 (bG (dt 5 (vf (c9 (cT hr.units) (cL bK (aF 1) aL) aS) (fE vk Z.bh HS (Za (aF 2) aJ)) (fE vk Z.bh HS (Za (PXL.px (j3 ["_law_number"] [2] rfl (j4 (aF 0)) (λ_ _ _=>(gw 0 (by decide +kernel:List.Nodup (["_law_number", "_law_numbers"]:List Str)))) (λ_ _ _=>j0) (λ_ _ _=>(bC pz (aF 0) (cL bK (aF 1) aL))))) aJ))) sc) (bG (dO (PXW.pxt (mC (c9 (cT hr.units) (bC pv (cA gZ Z.bc Hy (Za (aF 5) aJ)) aL) aL) (mC (c9 mE (cA gZ Z.bc Hy (Za (aF 5) aJ)) aL) (nQ (c9 mE (cA (Fd rfl) Z.bf boot_max (Za (PXL.px (j3 ["_law_number"] [] rfl (j4 (aF 5)) (λ_ _ _=>(gw 0 (by decide +kernel:List.Nodup (["_law_number"]:List Str)))) (λ_ _ _=>j0) (λ_ _ _=>(cA zL Z.bd boot_abs (Za (aF 0) aJ))))) aJ)) aL))))) (bF (bM aS)) cE) (bF (bM (aF 5))))))))))))))
theorem GN:rQ P w K mg base 2 "_law_due_of" (Zb6.take 2) oq:=qU (z:=yU) (N:=Zb6) Z.a6 (λsc _ _ _ _ _ _ _ hr hx hw=>(eh (lr (vK (c9 (cT hr.units) (cL bK (aF 1) aL) aS)) (eh (lr (qR (cT hr.units) (A2 Z.bc (aF 0)) aL) (ee (bF (bM (jC (Za aS aJ))))) (ee cE)) (eh (t9 (A4 (aF 0))) (ee (bF (bM aS))))) (ee cE)) (eh (rP 2 (BI (GM Z) hr hx (lW (ub (aF 0) (mD mF aL)) (lW (t7 (aF 1)) uq))) sc) (eh (t8 (dO (lK (cA tI Z.bi Hs (Za (aF 2) (Za (rz Z.bj boot_str) aJ)))) (bF (bM (jC (Za (aF 2) aJ)))) cE)) (eh (t9 (A3 (aF 0) (aF 2))) (ee (bF (bM aS)))))))) Go Gc F8
theorem GO:Fp P w K mg base 1 "_law_signs_of" GJ S__law_signs_of:=Ev (z:=z__law_signs_of) (N:=vJ) Z.a2 (λsc _ _ _ _ _ _ _ hr hx hw=>(bG (dt 0 aS sc) (bF (bM (PXL.px (Dw (EF rfl) Z.bk boot_list (Za (bC jM (aF 0) aS) aJ))))))) rd__law_signs_of (hb:=λ_ _ _ _ _ _ us hl=>match us,hl with|[],_=>rfl)
theorem GP:Fp P w K mg base 3 "_law_odd_line" (ZbE.take 2) om:=d0 GI Z.a7 λsc hr hx hw=>bG (dt 2 (EC (GO Z) hr hx) sc) (bG (dt 3 (cg (gr Z) hr hx (Za (aF 0) (Za (bC dh (cA Ay Z.bc Hy (Za (aF 1) aJ)) aL) aJ))) sc) (bG (dt 4 (bC jM (bC jM (cL bK (aF 2) (cg (gr Z) hr hx (Za (aF 0) (Za aL aJ)))) (cL bK (aF 2) (cg (gr Z) hr hx (Za (aF 0) (Za aL aJ))))) aS) sc) (bG (pA 5 (cR (Za rn (Za aL (Za (PXL.px (cR (Za (aF 1) aJ))) (Za lJ (Za aS (Za aS (Za (bC jM (aF 1) aS) (Za (bC jM aS (aF 1)) (Za (bC jM (aF 1) aS) (Za (bC jM (aF 1) aS) aJ))))))))))) sc) (bG (DP 5 (bC jM (bC jM (AC (aF 1) pq (jD (aF 3))) aS) (AC (aF 1) (jD (aF 3)) pq))) (iB 5 (bG (pA 5 (tM (aF 5) (PXL.px (cR (Za aS (Za aS (Za aS (Za aS (Za aS (Za aS (Za (bC jM aS (bC EB aS aL)) (Za aS aJ))))))))))) sc) (iB 5 (bG (pA 5 (tM (aF 5) (PXL.px (cR (Za aS (Za aS (Za aS (Za aS (Za aS (Za aS (Za aS (Za aS (Za aS aJ)))))))))))) sc) (iB 5 (bG (pA 5 (tM (aF 5) (PXL.px (cR (Za aS (Za aS (Za aS (Za aS (Za aS (Za aS (Za aS (Za aS (Za aS aJ)))))))))))) sc) (iB 5 (bG (pA 5 (tM (aF 5) (PXL.px (cR (Za aS (Za aS (Za aS aJ)))))) sc) (iB 5 (bG (pA 5 (tM (aF 5) (PXL.px (cR (Za aS (Za aS (Za aS (Za aS (Za aS (Za aS (Za aS (Za aS (Za aS (Za (aF 4) aJ))))))))))))) sc) (iB 5 (bF (bM (cL bK (bC dh (aF 5) (PXL.px (cR (Za (bC jM (aF 4) aS) (Za D2 (Za (jC (Za aS aJ)) (Za (bC xD aL aL) aJ))))))) (cg (gr Z) hr hx (Za (aF 0) (Za (bC dh (cA gZ Z.bc Hy (Za (aF 5) aJ)) aL) aJ)))))))))))))))))))))
theorem GQ:Fp P w K mg base 1 "_law_pen_of" (ZdF.take 1) tS:=d0 Ek Z.ax λsc hr hx hw=>bG (dt 1 (cA (tH rfl) Z.bf boot_max (Za (aF 0) (Za (bC jE aL (aF 0)) aJ))) sc) (bF (bM (DQ (cR (Za (aF 1) (Za (fE zM Z.be boot_int (Za (ve xE (aF 1) (bC xD aL aL)) aJ)) (Za (bC pv (aF 1) aL) aJ)))))))
theorem GR:vC P w K mg base 1 "_law_kind_of" (ZbQ.take 1) vF:=tX (z:=yb) (N:=ZbQ) Z.az (λsc _ _ _ _ _ _ hr=>(bG (dt 1 (PXL.px (cR (Za (cA (lO Z.xi) Z.bi Hs (Za (aF 0) (Za (mP Z.bp) aJ))) (Za (cA (lO Z.xi) Z.bi Hs (Za (aF 0) (Za (mP Z.bo) aJ))) (Za (cA (lO Z.xi) Z.bi Hs (Za (aF 0) (Za (mP Z.bn) aJ))) (Za (cA (lO Z.xi) Z.bi Hs (Za (aF 0) (Za (mP Z.bm) aJ))) aJ)))))) sc) (bG (dt 1 (bC dh (aF 1) (PXL.px (cR (Za (cA (lO Z.xi) Z.bi Hs (Za (aF 0) (Za (mP Z.br) aJ))) (Za (cA (lO Z.xi) Z.bi Hs (Za (aF 0) (Za (mP Z.bs) aJ))) (Za (cA (lO Z.xi) Z.bi Hs (Za (aF 0) (Za (mP Z.bt) aJ))) aJ)))))) sc) (bG (dt 1 (bC dh (aF 1) (PXL.px (cR (Za (cA (lO Z.xi) Z.bi Hs (Za (aF 0) (Za (mP Z.bq) aJ))) (Za (cA (lO Z.xi) Z.bi Hs (Za (aF 0) (Za (mP Z.bu) aJ))) aJ))))) sc) (bG (dO (PXW.pxt (mC (lg (lK (cA (lO Z.xi) Z.bi Hs (Za (aF 0) (Za (rz Z.bl Ep) aJ))))) (nQ (c9 (iz hr.units) (z6 PySem.F.slot_list_count PySem.F.type_list_count D0 (aF 1) (Za lJ aJ)) aL)))) (bF (bM aS)) cE) (bF (bM (cL bK (PXL.px (cR (Za aS (Za aS (Za aS (Za aS (Za aS (Za aS (Za aS (Za aS (Za aS aJ))))))))))) (z6 PySem.F.slot_list_index PySem.F.type_list_index D1 (aF 1) (Za lJ aJ)))))))))) Eo
theorem GS:vC P w K mg base 2 "_law_refused" (ZbP.take 1) S__law_refused:=tX (z:=yT) (N:=ZbP) Z.a0 (λsc _ _ _ _ _ _ hr=>(bG (dt 1 (z5 (GR Z) hr (Za (aF 0) aJ)) sc) (bG (dO (c9 (cT hr.units) (aF 1) aS) (bF (bM (jC (Za (aF 1) (Za (EY Z.bv EZ (aF 0)) aJ))))) cE) (bF (bM (jC (Za (aF 1) aJ))))))) Gm
theorem GT:Fp P w K mg base 1 "is_whole" (ZfT.take 1) xQ:=d0 D4 Z.aa λsc hr hx hw=>bF (bM (xA (cA tI Z.bi Hs (Za (aF 0) (Za (rz Z.be boot_int) aJ))) (xz (Du (cA tI Z.bi Hs (Za (aF 0) (Za (rz Z.bw boot_bool) aJ)))))))
theorem uJ:Fp P w K mg base 2 "is_within" (Ze9.take 3) nZ:=d0 D5 Z.ab λsc hr hx hw=>bF (bM (xA (cg (GT Z) hr hx (Za (aF 0) aJ)) (xz (Dv iy iy (aF 1) (aF 0) (aF 2)))))
theorem GU:Fp P w K mg base 3 "are_within" (Zd2.take 3) vv:=d0 D6 Z.ac λsc hr hx hw=>bF (bM (xA (cA tI Z.bi Hs (Za (aF 0) (Za (rz Z.bh HS) aJ))) (xz (cA (zO rfl) Z.bx boot_all (Za (PXL.px (j3 ["number"] [1,2] rfl (j4 (aF 0)) (λ_ _ _=>(gw 0 (by decide +kernel:List.Nodup (["number", "least", "most"]:List Str)))) (λ_ _ _=>j0) (λ_ _ _=>(cg (uJ Z) hr u8 (Za (aF 0) (Za (aF 1) (Za (aF 2) aJ))))))) aJ)))))
theorem zj:Fp P w K mg base 1 "size_of" (Zg9.take 1) pE:=d0 D9 Z.ad λsc hr hx hw=>bF (bM (bC pw (bC dh (cA gZ Z.bc Hy (Za (aF 0) aJ)) aL) aL))
theorem GV:Fp P w K mg base 4 "slants_good" (ZdD.take 1) vw:=d0 Ea Z.ae λsc hr hx hw=>bG (dO (PXW.pxt (mC (lg (lK (cg (GU Z) hr hx (Za (aF 0) (Za (qM Z.b0) (Za (qM Z.b1) aJ)))))) (nQ (c9 (cT hr.units) (bC pv (cA gZ Z.bc Hy (Za (aF 0) aJ)) aL) aL)))) (bF (bM lJ)) cE) (bF (bM (ve iy (cg (zj Z) hr hx (Za (aF 0) aJ)) (qM Z.bz))))
theorem uK:Fp P w K mg base 5 "need_slants" (ZdE.take 1) lL:=d0 Eb Z.af λsc hr hx hw=>bF (dO (lg (lK (cg (GV Z) hr hx (Za (aF 0) aJ)))) (bF (n3 hw Z.b2)) cE)
theorem GW:Fp P w K mg base 6 "all_times" (Zfa.take 2) Zb:=d0 Fm Z.ao λsc hr hx hw=>bG (dt 2 (fE vk Z.bh HS (Za (PXL.px (j3 ["number"] [1] rfl (j4 (aF 0)) (λ_ _ _=>(gw 0 (by decide +kernel:List.Nodup (["number", "numbers"]:List Str)))) (λ_ _ _=>j0) (λ_ _ _=>(bC pz (aF 0) (cL bK (aF 1) aL))))) aJ)) sc) (bG (vo (cg (uK Z) hr hx (Za (aF 2) aJ))) (bF (bM (aF 2))))
theorem GX:Fp P w K mg base 6 "turned_slants" (Zco.take 1) vx:=d0 Ed Z.ag λsc hr hx hw=>bG (vo (cg (uK Z) hr hx (Za (aF 0) aJ))) (bF (bM (DH (aF 0))))
theorem GY:Fp P w K mg base 7 "all_turned" (Zd3.take 2) rX:=d0 Fi Z.an λsc hr hx hw=>bF (bM (cg (GX Z) hr hx (Za (aF 0) aJ)))
theorem GZ:vU P w K mg base 6 "slants_shown" (ZaS.take 1) S_slants_shown:=uo (z:=z_slants_shown) (N:=ZaS) Z.aj (λsc _ _ _ _ _ _ _ hr hx hw=>(BG (FY (cg (uK Z) hr hx (Za (aF 0) aJ))) (BF (BD (j:=0) (p:=⟨0,0,0,0⟩) (qN PySem.F.slot_str_join PySem.F.type_str_join rJ aS (Za (bC dh (PXL.px (cR (Za (AB aS (AA (cg (zj Z) hr hx (Za (aF 0) aJ)))) aJ))) (PXL.px (j3 ["number"] [] rfl (j4 (aF 0)) (λ_ _ _=>(gw 0 (by decide +kernel:List.Nodup (["number"]:List Str)))) (λ_ _ _=>j0) (λ_ _ _=>(AB aS (AA (aF 0))))))) aJ)) rfl)))) rd_slants_shown
theorem G0:Fp P w K mg base 7 "ask_shown" (Zf.take 2) ut:=d0 Gk Z.as λsc hr hx hw=>bF (bM (BE (BH (GZ Z) hr hx (Za (aF 0) aJ))))
theorem G1:Fp P w K mg base 1 "things_shown" (ZcF.take 1) yz:=d0 Fo Z.aq λsc hr hx hw=>bF (bM (vf (c9 mE (cA gZ Z.bc Hy (Za (aF 0) aJ)) aL) (qN PySem.F.slot_str_join PySem.F.type_str_join rJ aS (Za (PXL.px (j3 ["thing"] [] rfl (j4 (aF 0)) (λ_ _ _=>(gw 0 (by decide +kernel:List.Nodup (["thing"]:List Str)))) (λ_ _ _=>j0) (λ_ _ _=>(fE j7 Z.bj j8 (Za (aF 0) aJ))))) aJ)) aS))
theorem G3:Fp P w K mg base 2 "ask_slants" (Zd1.take 2) ug:=d0 Fq Z.ar λsc hr hx hw=>bF (bM (cg (G1 Z) hr hx (Za (aF 0) aJ)))
theorem G4:Fp P w K mg base 6 "corner" (Zig.take 2) xR:=d0 Ee Z.ah λsc hr hx hw=>bG (vo (cg (uK Z) hr hx (Za (aF 0) aJ))) (bG (dt 2 (cg (zj Z) hr hx (Za (aF 0) aJ)) sc) (bG (dO (lg (lK (cg (uJ Z) hr hx (Za (aF 1) (Za aL (Za (aF 2) aJ)))))) (bF (n3 hw Z.b3)) cE) (bF (bM (nV (aF 0) (jD (bC jE (aF 2) (aF 1))) (jD (bC jE (bC dh (aF 2) (aF 1)) aL)))))))
theorem Zj:Fp P w K mg base 7 "cut_to" (Zif.take 2) rY:=d0 Fj Z.ap λsc hr hx hw=>bF (bM (cg (G4 Z) hr hx (Za (aF 0) (Za (cL bK (aF 1) aL) aJ))))
theorem G5:Fp P w K mg base 1 "number_read" (Zbs.take 1) S_number_read:=d0 rd_number_read Z.ai λsc hr hx hw=>bG (dt 1 (qN PySem.F.slot_str_removeprefix PySem.F.type_str_removeprefix Ey (aF 0) (Za aS aJ)) sc) (bG (dO (PXW.pxt (mC (lg (vg iy iy aL (cA Ay Z.bc Hy (Za (aF 1) aJ)) (qM Z.b5))) (nQ (lg (lK (cA (zO rfl) Z.bx boot_all (Za (PXL.px (j3 ["sign"] [] rfl (EA (aF 1)) (λ_ _ _=>(gw 0 (by decide +kernel:List.Nodup (["sign"]:List Str)))) (λ_ _ _=>j0) (λ_ _ _=>(ve t3 (aF 0) (Ez Z.b4))))) aJ))))))) (bF (bM rn)) cE) (bG (dO (PXW.pxt (xy (c9 Av (cL tZ (aF 1) aL) aS) (xw (c9 tV (aF 0) aS)))) (bF (bM rn)) cE) (bF (bM (fE Az Z.be boot_int (Za (aF 0) aJ))))))
theorem G6:Fp P w K mg base 2 "line_of" (Zhb.take 1) yA:=d0 Fv Z.au λsc hr hx hw=>bG (dO (lg (lK (cA tI Z.bi Hs (Za (aF 0) (Za (rz Z.bj boot_str) aJ))))) (bF (n3 hw Z.b7)) cE) (bG (E8 1 2 (PXL.px (Ew (aF 0) (Za aS aJ))) sc) (bG (dt 3 (fE vk Z.bh HS (Za (PXL.px (j3 ["other"] [] rfl (j4 (aF 2)) (λ_ _ _=>(gw 0 (by decide +kernel:List.Nodup (["other"]:List Str)))) (λ_ _ _=>j0) (λ_ _ _=>(cg (G5 Z) hr u8 (Za (aF 0) aJ))))) aJ)) sc) (bG (dO (PXW.pxt (mC (Fa Z.b6 (aF 1)) (nQ (c9 (t5 hr.units) rn (aF 3))))) (bF (n3 hw Z.b7)) cE) (bG (dt 4 (yx Z.b6 (aF 1)) sc) (bG (dO (PXW.pxt (mC (PXW.pxt (xy (c9 yd (aF 4) rn) (xw (c9 (cT hr.units) (cA gZ Z.bc Hy (Za (aF 3) aJ)) aL)))) (nQ (PXW.pxt (xy (c9 Es (aF 4) rn) (xw (c9 (iz hr.units) (cA gZ Z.bc Hy (Za (aF 3) aJ)) (aF 4)))))))) (bF (n3 hw Z.b7)) cE) (bF (bM (jC (Za (aF 1) (Za (aF 3) aJ))))))))))
theorem G7:Fp P w K mg base 6 "new_row" (Zha.take 2) rV:=d0 Fh Z.al λsc hr hx hw=>bG (vo (cg (uK Z) hr hx (Za (aF 1) aJ))) (bF (bM (aF 1)))
theorem G8:Fp P w K mg base 3 "new_size" (ZfS.take 2) rT:=d0 Fg Z.ak λsc hr hx hw=>bG (dt 2 (cL bK (aF 1) aL) sc) (bG (dO (lg (lK (cg (uJ Z) hr hx (Za (aF 2) (Za aL (Za (qM Z.bz) aJ)))))) (bF (n3 hw Z.b3)) cE) (bF (bM (bC z9 (jC (Za aL aJ)) (bC jE (bC pz aL (aF 2)) aL)))))
theorem G9:Fp P w K mg base 3 "one_set" (Zh.take 2) rW:=d0 Fk Z.am λsc hr hx hw=>bG (zS (aF 1) (zR rfl (vq (gw 2 sc) (vq (gw 3 sc) zQ)))) (bG (dO (PXW.pxt (mC (lg (lK (cg (uJ Z) hr hx (Za (aF 2) (Za aL (Za (bC jE (cA gZ Z.bc Hy (Za (aF 0) aJ)) aL) aJ)))))) (nQ (lg (lK (cg (uJ Z) hr hx (Za (aF 3) (Za (qM Z.b0) (Za (qM Z.b1) aJ))))))))) (bF (n3 hw Z.b3)) cE) (bF (bM (bC dh (bC dh (nV (aF 0) pq (jD (aF 2))) (jC (Za (aF 3) aJ))) (nV (aF 0) (jD (bC dh (aF 2) aL)) pq)))))
theorem Ha:rR P w K mg base 1 "undo" (ZjE.take 1) uh:=by
 obtain⟨C,fI,fS,fU,_,_,_,dc,M,FI,FS,hS,FU,hU⟩:=Z.ba.h;exact uf (z:=yB) (N:=ZjE) dc FU hU (λsc _ _ _ _ _ _ hr hx hw=>(eh (lr (qR (cT hr.units) (A2 Z.bc (vQ Z.ba.dc (aF 0))) aL) (ee (bF (n3 hw Z.b7))) (ee cE)) (qQ (t9 (A4 (vQ Z.ba.dc (aF 0))))))) Fw Fc Fb
theorem v4:rR P w K mg base 8 "say" (ZlV.take 2) lX:=by
 obtain⟨C,fI,fS,fU,_,_,_,dc,M,FI,FS,hS,FU,hU⟩:=Z.ba.h;exact uf (z:=yR) (N:=ZlV) dc FS hS (λsc _ _ _ _ _ _ hr hx hw=>(eh (t8 (zS (cg (G6 Z) hr hx (Za (aF 1) aJ)) (zR rfl (vq (gw 2 sc) (vq (gw 3 sc) zQ))))) (eh (lr (vK (c9 Av (aF 2) aS)) (eh (t9 (E5 (Ha Z) hr hx (aF 0))) (ee (bF (bM aS)))) (ee cE)) (eh (rP 4 (ub (vQ Z.ba.dc (aF 0)) (mD mF aL)) sc) (eh (lr (vK (E9 Z.b8 (aF 2))) (eh (t8 (dt 5 (yx Z.b8 (aF 2)) sc)) (eh (t9 (A3 (vQ Z.ba.dc (aF 0)) (At hr hx (n6 Z.ak (G8 Z) (n6 Z.al (G7 Z) (n6 Z.am (G9 Z) (n6 Z.an (GY Z) (n6 Z.ao (GW Z) (n6 Z.ap (Zj Z) Au)))))) (aF 5) (Za (aF 4) (Za (aF 3) aJ))))) (ee (bF (bM aS))))) (ee cE)) (ee (bG (dt 6 (yx Z.b9 (aF 2)) sc) (bF (bM (At hr hx (n6 Z.ar (G3 Z) (n6 Z.as (G0 Z) Au)) (aF 6) (Za (aF 4) (Za (aF 3) aJ)))))))))))) Gi Ga F6
theorem zk:rQ P w K mg base 9 "_law_said" (Zdj.take 2) g8:=qU (z:=yS) (N:=Zdj) Z.a5 (λsc _ _ _ _ _ _ _ hr hx hw=>(qQ (E7 LX 2 Z.ca sc (λ_ _ _ hx1=>(qQ (AX (Zg (v4 Z) hr hx1 (aF 0) (Za (aF 1) aJ))))) (λ_ _=>(bF (bM (z5 (GS Z) (hr.u.mark) (Za (aF 2) aJ)))))))) Gn Gb F7
theorem Hb:vU P w K mg base 1 "_law_text_of" (ZaT.take 1) S__law_text_of:=uo (z:=z__law_text_of) (N:=ZaT) Z.a1 (λsc _ _ _ _ _ _ _ hr hx hw=>(BG (FZ 1 (bC dh (PXL.px (cR (Za (bC jM aS (fE j7 Z.bj j8 (Za (bC pw (bC dh (cA gZ Z.bc Hy (Za (aF 0) aJ)) aL) aL) aJ))) aJ))) (PXL.px (j3 ["_law_number"] [] rfl (j4 (aF 0)) (λ_ _ _=>(gw 0 (by decide +kernel:List.Nodup (["_law_number"]:List Str)))) (λ_ _ _=>j0) (λ_ _ _=>(bC jM aS (fE j7 Z.bj j8 (Za (aF 0) aJ))))))) sc) (BF (BD (j:=0) (p:=⟨0,0,0,0⟩) (qN PySem.F.slot_str_join PySem.F.type_str_join rJ aS (Za (aF 1) aJ)) rfl)))) rd__law_text_of
theorem BZ:rQ P w K mg base 9 "_law_shown_right" (Za4.take 2) ji:=qU (z:=yW) (N:=Za4) Z.a8 (λsc _ _ _ _ _ _ _ hr hx hw=>(eh (lr (qR (iz hr.units) (Zg (v4 Z) hr hx (aF 0) (Za aS aJ)) (qN PySem.F.slot_str_join PySem.F.type_str_join rJ aS (Za (PXL.px (j3 ["_law_number"] [] rfl (j4 (aF 1)) (λ_ _ _=>(gw 0 (by decide +kernel:List.Nodup (["_law_number"]:List Str)))) (λ_ _ _=>j0) (λ_ _ _=>(fE j7 Z.bj j8 (Za (aF 0) aJ))))) aJ))) (ee (bF (bM lJ))) (ee cE)) (qQ (AX (F2 (cT hr.units) (Zg (v4 Z) hr hx (aF 0) (Za aS aJ)) (BE (BH (Hb Z) hr hx (Za (aF 1) aJ)))))))) Gu Gd F9
theorem Ze:Fp P w K mg base 3 "_law_words_of" (Zcp.take 2) sf:=d0 Gx Z.a3 λsc hr hx hw=>bG (dt 2 (cg (gr Z) hr hx (Za (aF 0) (Za aL aJ))) sc) (bG (dt 3 (bC pw (bC dh (cA gZ Z.bc Hy (Za (aF 1) aJ)) aL) aL) sc) (bG (dt 4 (cL bK (PXL.px (cR (Za aL (Za (mD mF aL) (Za (bC xD aL aL) aJ))))) (cg (gr Z) hr hx (Za (aF 0) (Za aL aJ)))) sc) (bG (dt 5 (cL bK (PXL.px (cR (Za (bC jE (cg (gr Z) hr hx (Za (aF 0) (Za aL aJ))) aL) (Za (bC jE (cg (gr Z) hr hx (Za (aF 0) (Za aL aJ))) aL) (Za (aF 4) aJ))))) (bC pw (cg (gr Z) hr hx (Za (aF 0) (Za aL aJ))) aL)) sc) (bG (dO (c9 eR (aF 2) aL) (bF (bM (PXL.px (cR (Za aS (Za (fE j7 Z.bj j8 (Za (cg (gr Z) hr hx (Za (aF 0) (Za (bC dh (cA gZ Z.bc Hy (Za (aF 1) aJ)) (fE zM Z.be boot_int (Za (ve (cT hr.units) (cg (gr Z) hr hx (Za (aF 0) (Za aL aJ))) aL) aJ))) aJ))) aJ)) (Za (fE j7 Z.bj j8 (Za (aF 5) aJ)) aJ))))))) cE) (bG (dO (c9 eR (aF 2) aL) (bG (dt 6 (cL bK (PXL.px (cR (Za aL (Za aL (Za aL (Za aL (Za aL (Za aL (Za aL aJ))))))))) (cg (gr Z) hr hx (Za (aF 0) (Za aL aJ)))) sc) (bF (bM (bC dh (bC dh (PXL.px (cR (Za aS aJ))) (PXL.px (j3 ["_law_turn"] [0] rfl (DM Z.cb (Za (bC jE (aF 6) aL) aJ)) (λ_ _ _=>(gw 0 (by decide +kernel:List.Nodup (["_law_turn", "_law_pen"]:List Str)))) (λ_ _ _=>j0) (λ_ _ _=>(fE j7 Z.bj j8 (Za (bC jE (cg (gr Z) hr u8 (Za (aF 1) (Za aL aJ))) aL) aJ)))))) (PXL.px (cR (Za (fE j7 Z.bj j8 (Za (aF 5) aJ)) aJ))))))) cE) (bG (dO (c9 eR (aF 2) aL) (bF (bM (PXL.px (cR (Za aS (Za (fE j7 Z.bj j8 (Za (cL bK (PXL.px (cR (Za aL (Za aL (Za aL (Za aL (Za aL (Za aL (Za aL (Za (mD mF aL) aJ)))))))))) (cg (gr Z) hr hx (Za (aF 0) (Za aL aJ)))) aJ)) aJ)))))) cE) (bG (dO (c9 eR (aF 2) aL) (bF (bM (PXL.px (cR (Za aS aJ))))) cE) (bG (dO (c9 eR (aF 2) aL) (bF (bM (PXL.px (cR (Za aS (Za (fE j7 Z.bj j8 (Za (cL bK (PXL.px (cR (Za aL (Za (mD mF aL) (Za aL (Za aL (Za aL (Za (aF 5) aJ)))))))) (cg (gr Z) hr hx (Za (aF 0) (Za aL aJ)))) aJ)) aJ)))))) cE) (bG (dO (c9 eR (aF 2) aL) (bF (bM (PXL.px (cR (Za aS (Za (fE j7 Z.bj j8 (Za (cL bK (PXL.px (cR (Za (aF 3) (Za (bC jE (aF 3) aL) (Za aL (Za (bC dh (aF 3) aL) (Za aL (Za (mD mF aL) aJ)))))))) (cg (gr Z) hr hx (Za (aF 0) (Za aL aJ)))) aJ)) aJ)))))) cE) (bF (bM (PXL.px (cR (Za aS aJ))))))))))))))
theorem all_mk(hfa:mg "law" = some (.ref fa)):∃fd:FuncData,(∀(s:Shared) (v:Value),BindsTo s fd ⟨[v],[]⟩ [("_law_script",v)])/\∀base:Heap,K.In base->base.Ns mainGlobals mg->FnOk l.prog w K mg base (bE l.prog w) 10 fa fd ["_law_script"] (dq K uu):=
 yv (z:=yX) (N:=BM) Z.a9 hfa (λ_ sc _ _ _ _ _ _ _ hr hx hw=>(eh (lr (PXWD.pxt (AZ (qR (iz hr.units) (F3 (v4 Z) hr hx (yu (zi Z) hr hx) (Za aS aJ)) aS) (AY (qR (iz hr.units) (yQ (zk Z) hr hx (lW (yu (zi Z) hr hx) (lW (t7 aS) uq))) (jC (Za aS aJ)))))) (ee (bF (bM lJ))) (ee cE)) (eh (A6 PassesOwn.leaving rfl (j4 (bC dh (PXL.px (cR (Za (cg (GL Z) hr hx (Za (aF 0) (Za aL aJ))) aJ))) (nV (aF 0) (jD aL) (jD aL)))) (gw 1 sc) (eh (t8 (dt 2 (cg (GQ Z) hr hx (Za (aF 1) aJ)) sc)) (eh (rP 3 (yu (zi Z) hr hx) sc) (eh (rP 4 (F1 (Za (jC (Za aL aJ)) aJ)) sc) (eh (t8 (dt 5 (bC dh aL (cg (gr Z) hr hx (Za (aF 2) (Za aL aJ)))) sc)) (qQ (A6 PassesOwn.leaving rfl (j4 (bC dh (PXL.px (cR (Za (PXL.px (cR (Za aS (Za (fE j7 Z.bj j8 (Za (aF 5) aJ)) aJ)))) aJ))) (bC pz (PXL.px (cR (Za (PXL.px (cR aJ)) aJ))) (bC dh aL (cg (gr Z) hr hx (Za (aF 2) (Za aL aJ))))))) (gw 6 sc) (eh (rP 6 (Zl (aF 6) (F5 (BI (Ze Z) hr hx (lW (t7 (aF 2)) (lW (ub (aF 4) (mD mF aL)) uq))))) sc) (eh (rP 7 (yp (GN Z) hr hx (Za (aF 4) (Za (aF 6) aJ))) sc) (eh (lr (PXWD.pxt (AZ (qR (iz hr.units) (yp (zk Z) hr hx (Za (aF 3) (Za (qN PySem.F.slot_str_join PySem.F.type_str_join rJ aS (Za (aF 6) aJ)) aJ))) (aF 7)) (AY (A0 (A1 (yQ (BZ Z) hr hx (lW (t7 (aF 3)) (lW (ub (aF 4) (mD mF aL)) uq)))))))) (ee (bF (bM lJ))) (ee cE)) (qQ (lr (vK (c9 (cT hr.units) (cg (gr Z) hr hx (Za (aF 2) (Za aL aJ))) aL)) (eh (lr (qR (iz hr.units) (yp (zk Z) hr hx (Za (aF 3) (Za (cg (GP Z) hr hx (Za (aF 2) (Za (qN PySem.F.slot_str_join PySem.F.type_str_join rJ aS (Za (aF 6) aJ)) aJ))) aJ))) (jC (Za aS aJ))) (ee (bF (bM lJ))) (ee cE)) (qQ (lr (A0 (A1 (yQ (BZ Z) hr hx (lW (t7 (aF 3)) (lW (ub (aF 4) (mD mF aL)) uq))))) (ee (bF (bM lJ))) (ee cE)))) (ee cE))))))))))))) (ee (bF (bM lJ)))))) GE
end
theorem walk{q:Program}{loose:List Str}{d:DefRec}{K:Params->Hg}(hn:l.most=some 63)(hdf:d.params.defaults=[])
  (hY:∀(w:World) (h:Heap),YP w h->(K w.params).In h)
  (F:∀ (w:World) (mg:Str->Option Value) (fa:Addr) (h:Heap),(K w.params).In h->h.Ns mainGlobals mg->mg d.name=some (.ref fa)->
   ∃fd:FuncData,(∀(s:Shared) (u:Value),BindsTo s fd ⟨[u],[]⟩ [("_law_script",u)])/\∀base:Heap,(K w.params).In base->base.Ns mainGlobals mg->FnOk l.prog w (K w.params) mg base (bE l.prog w) 10 fa fd ["_law_script"] (dq (K w.params) uu)) :
  PySem.W.WalkO q loose XP YP l.row.toRowW d [] (λf vs=>PySem.call f vs):=
 L2.walk_of (n:=63) (k:=10) (x:= "_law_script") (CX:=λw=>bE l.prog w) (sp:=λw=>dq (K w.params) uu) hn (by decide) hdf ⟨rfl,rfl,by decide,by decide⟩ hY F (λ_ _ a ns hl hO hS=>GK hl hO hS) λ_ _ _ _ _ ⟨_,_,_,_,_,_,_,_,_,_,_,_,_,z⟩=>z
end D7.D3
end LP
namespace PySem.W.Fast
def tw2202087405590426761:=0
def tw15047374813118760354:=0
def tw10062445002941943972:=0
def tw13864591300739684706:=0
def tw7591925962430041911:=0
def tw9589416937656371853:=0
def tw10208382352181554809:=0
def tw2734946650110020657:=0
def tw6301896022632732640:=0
def tw9392520287866696694:=0
def tw7164113667950200841:=0
def tw10882984045668959957:=0
def tw3076794781831140549:=0
def tw16639949986092531000:=0
def tw12175086180993873459:=0
def tw15417886004543422887:=0
def tw7482617865053332693:=0
def tw821573340826100052:=0
def tw7032150353856044418:=0
def tw11730419421985565314:=0
def tw9881695972699018420:=0
def tw3547284462166360681:=0
def tw9231885801800648845:=0
def tw770201059658652311:=0
def tw3227045688913561199:=0
def tw18152434914423691467:=0
def tw9716081144031997459:=0
def tw6084387947712398192:=0
def tw5444264034082303647:=0
def tw18134102482406270066:=0
def tw5083153860374308617:=0
def tw14460691384307229478:=0
def tw2786956157372108160:=0
def tw7112476608609026049:=0
def tw16924713628917543872:=0
def tw2210804848138396120:=0
def tw3857797698759190761:=0
def tw15044962550897852640:=0
def tw15279024684762273417:=0
def tw5249819320535359821:=0
def tw26287579384061861:=0
def tw11689148759025029438:=0
def tw5448688312006412140:=0
def tw14240250866466383778:=0
def tw8460848738600462876:=0
def tw5039473392236071915:=0
def tw14014959217468205239:=0
def tw16687333271614139650:=0
def tw16899718768247386350:=0
def tw12254239109692686726:=0
def tw17531003599563101731:=0
def tw3770013284000160576:=0
def tw12801469460533315227:=0
def tw14473662226987403500:=0
def tw16036037504235872186:=0
def tw1114687119901644361:=0
def tw9887595825251691165:=0
def tw5944791604068587744:=0
def tw6417766642671209798:=0
def tw10055991650542521721:=0
def tw14344717567391904401:=0
def tw10444182052579198729:=0
def tw11017641420209873216:=0
def tw9442389647610232650:=0
def tw2913015466057410142:=0
def tw7999317654455383850:=0
def tw7441187586510686610:=0
def tw12282983962649922266:=0
def tw12686439089006921790:=0
def tw13735660042612858693:=0
def tw5840487499141434153:=0
def tw17031317229278597251:=0
def tw10463462970163009742:=0
def tw9601937254669559225:=0
def tw2745024751280620976:=0
def tw11131993585977412808:=0
def tw14416758914514272916:=0
def tw9172184840075512683:=0
def tw16997998121975325801:=0
def tw15679390033374899256:=0
def tw9723483167781182443:=0
def tw11474968240600923124:=0
def tw1704583030198400263:=0
def tw1270651244964759992:=0
def tw3860624538716711579:=0
def tw8225771646002663605:=0
def tw3265186784622293192:=0
def tw4463914765878143135:=0
def tw14459958779552023797:=0
def tw14574037901617348353:=0
def tw5096659693496093901:=0
def tw16382223714446685428:=0
def tw3916223004844693446:=0
def tw2685304852103008314:=0
def tw4752224275020994856:=0
def tw18070714983934274237:=0
def tw1015272579911190557:=0
def tw5372608665578815754:=0
def tw1573488785128026011:=0
def tw7386510923769648273:=0
def tw14844398538416752011:=0
def tw3387221823680903211:=0
def tw7881830336490237931:=0
def tw15027051693993798951:=0
def tw6972790615786810732:=0
def tw14782482994007910689:=0
def tw6264376460196095439:=0
def tw1370736140931845079:=0
def tw397543189599306875:=0
def tw4895567835656027944:=0
def tw6703221007219955458:=0
def tw17328442496711640342:=0
def tw5226750770299205483:=0
def tw17566495238657301204:=0
def tw12288282714767339232:=0
def tw11807247613818528613:=0
def tw10011412535978224251:=0
def tw596573564581778397:=0
def tw1959931147615396936:=0
def tw7386454502523604588:=0
def tw5884157641516749891:=0
def tw10516684654009367510:=0
def tw1690023201949212170:=0
def tw3558755874094970706:=0
def tw7193160696386531173:=0
def tw14483383037080335871:=0
def tw15120304080795918946:=0
def tw4426618293820012994:=0
def tw11319120489982421845:=0
def tw14644479221357632738:=0
def tw6965956391467460272:=0
def tw17487737398315660045:=0
def tw3723693043025166517:=0
def tw5393754766188804107:=0
def tw14140047203881024445:=0
def tw6179024808709712748:=0
def tw10738513130187599395:=0
def tw3534358534859455947:=0
def tw11763571318934063522:=0
def tw7654069734386886681:=0
def tw13492640477624394703:=0
def tw429735695618588207:=0
def tw1445791622527414644:=0
def tw7932726050052656192:=0
def tw14161462446244067325:=0
def tw6655752419385387872:=0
def tw6855603369223248438:=0
def tw9948347894362520673:=0
def tw7706829982514261417:=0
def tw9421110337989326924:=0
def tw3876579407099480121:=0
def tw2590318897530235983:=0
def tw14160425373746978369:=0
def tw2137245192351588693:=0
def tw3013260900431511432:=0
def tw6320687127420776052:=0
def tw2148472209994288022:=0
def tw4888873795792476164:=0
def tw7771975067221867032:=0
def tw17761133542893517311:=0
def tw4530193713184957533:=0
def tw863257626497476158:=0
def tw2374076368791850477:=0
def tw9798070910028230048:=0
def tw9079024652353265158:=0
def tw14069870168793420937:=0
def tw6967375341527949592:=0
def tw6024757017139760900:=0
def tw1173543293435133753:=0
def tw3203328418145402604:=0
def tw4009127233201173886:=0
def tw6966019729349637698:=0
def tw13559073187573971858:=0
def tw949309743183281690:=0
def tw5017610801114701009:=0
def tw197401632711596409:=0
def tw5959959111835325193:=0
def tw4714410511328157261:=0
def tw13713724979969944032:=0
def tw4432888325509084380:=0
def tw3527390016324469678:=0
def tw3357486048251461389:=0
def tw17614369596436572834:=0
def tw3375337403488578102:=0
def tw13267285252023489227:=0
def tw3895185616292781243:=0
def tw10780551037930735152:=0
def tw17891599527611514104:=0
def tw13431673484380981695:=0
def tw14748598814387416266:=0
def tw11054891397848577550:=0
def tw15744141532528895614:=0
def tw8643320178556187860:=0
def tw16094637702228361108:=0
def tw3445584113782684315:=0
def tw11618095180114891556:=0
def tw8732946743498959003:=0
def tw8719146168194968685:=0
def tw10690428725381545315:=0
def tw17512850766307508661:=0
def tw12908878037971933202:=0
def tw9507766650777404068:=0
def tw6024436314717456123:=0
def tw15181221300408528860:=0
def tw14025258612801264920:=0
def tw13764796494609307919:=0
def tw1754563459564331726:=0
def tw5931678550420442952:=0
def tw11351361639698897275:=0
def tw9822304407933750794:=0
def tw1815965912852155137:=0
def tw18245225858429544944:=0
def tw6638166076172386190:=0
def tw10375984223823566828:=0
def tw63590668497802497:=0
def tw8726113428115423830:=0
def tw3519671792368196739:=0
def tw8919616600557923105:=0
def tw16373031370389905182:=0
def tw1014573943889964406:=0
def tw3159135099886139715:=0
def tw4163609442655704286:=0
def tw18089755000252472355:=0
def tw11255951266947654422:=0
def tw14746966508072613934:=0
def tw1694275383612676409:=0
def tw2941798678483676777:=0
def tw11017494078511127953:=0
def tw283531167366349024:=0
def tw4943810554579432356:=0
def tw15077434184895594337:=0
def tw730421862489183786:=0
def tw10050064777729647388:=0
def tw896269850574029488:=0
def tw10991934826800267102:=0
def tw9466164958133388151:=0
def tw12677647219329236317:=0
def tw4508538309365342546:=0
def tw16093330334653196461:=0
def tw14073793392156832691:=0
def tw12086259108411793156:=0
def tw9429286816860465873:=0
def tw9906922732006183065:=0
def tw7207046301742582529:=0
def tw4683291738037997940:=0
def tw14020471811338749643:=0
def tw13350986283890783942:=0
def tw12389915155506599874:=0
def tw14021067573408314618:=0
def tw3894068140684701834:=0
def tw3829411545477863853:=0
def tw15083104021556235103:=0
def tw3132867507028669359:=0
def tw1270211513142231427:=0
def tw17857808918442058858:=0
def tw822071987630400602:=0
def tw6188382235645054175:=0
def tw16495736882509710263:=0
def tw13889490002428120327:=0
def tw5399530999317457678:=0
def tw18332799113859823287:=0
def tw6892905496985346635:=0
def tw195583891285352533:=0
def tw3949472712530594078:=0
def tw6799928823325255730:=0
def tw1708777120085687862:=0
def tw15271301303200091131:=0
def tw6665548656302690859:=0
def tw5159274002994268226:=0
def tw3938329796104453120:=0
def tw15156035162219006351:=0
def tw14433848240360502807:=0
def tw13038061354081199427:=0
def tw11641582270698917692:=0
def tw961048016841407655:=0
def tw7793710695946253417:=0
def tw3249653231992584786:=0
def tw2824856663909236057:=0
def tw155369104339402022:=0
def tw15296419014772162631:=0
def tw11851643332007423818:=0
def tw1379937117591420378:=0
def tw12814675841227981080:=0
def tw8093890780734184591:=0
def tw14633920194330460559:=0
def tw4340998857044171930:=0
def tw12979608330952690611:=0
def tw5399521805789573238:=0
def tw9235848929197339642:=0
def tw5412381823549495999:=0
def tw3250850504477170753:=0
def tw6746036444595701615:=0
def tw809757460680089213:=0
def tw1818067236713238344:=0
def tw16631533533008341646:=0
def tw16235670372196477701:=0
def tw12277836139713004239:=0
def tw10613325428970334802:=0
def tw18433694195142230910:=0
def tw4527461501067533579:=0
def tw13574285194497735090:=0
def tw13181565201470006047:=0
def tw12831474780966305787:=0
def tw17565325917723146743:=0
def tw1507947628023847904:=0
def tw13078461773290195077:=0
def tw3115566956460863219:=0
def tw12776698088478713496:=0
def tw17454135714667689436:=0
def tw13555910139236427294:=0
def tw10706290916138696199:=0
def tw17770476262523999161:=0
def tw252341824225427136:=0
def tw7133921532762822562:=0
def tw6061809229908265183:=0
def tw913602569008051788:=0
def tw8435099894557122677:=0
def tw2187299018721687455:=0
def tw1458169957928802454:=0
def tw12374927185242633729:=0
def tw11476861568863043348:=0
def tw9717427141318756099:=0
def tw9625693855481084045:=0
def tw9371796776641181430:=0
def tw9274861225261963785:=0
def tw9083055836880149705:=0
def tw8942392640915470600:=0
def tw8365644038667053751:=0
def tw8245203857718405091:=0
def tw8037618080764173983:=0
def tw7825060279269549050:=0
def tw7780003378682538833:=0
def tw7549849750469916903:=0
def tw7480383920223505651:=0
def tw746802792088859742:=0
def tw732836807881496329:=0
def tw7252566264606236480:=0
def tw6943561180488343933:=0
def tw6925798052068989486:=0
def tw6441375596029993239:=0
def tw6107383801412703926:=0
def tw5685142205842961626:=0
def tw5188736845013561629:=0
def tw5161918161842704361:=0
def tw4962660391488580574:=0
def tw4829685681282425914:=0
def tw4816213650204344644:=0
def tw4800078154531707735:=0
def tw4380123352498084234:=0
def tw4100546882404994053:=0
def tw3961689336956730070:=0
def tw3570058909795261468:=0
def tw3256920276022932696:=0
def tw323985454952768785:=0
def tw3150188333595480075:=0
def tw2941721751267562413:=0
def tw2884489532430266533:=0
def tw261186618052337367:=0
def tw18385592429173285965:=0
def tw18340362427732537882:=0
def tw17533428024035380277:=0
def tw17347555358789615087:=0
def tw169866483857666019:=0
def tw16681913278094835070:=0
def tw16427052596949519082:=0
def tw1618554272476644766:=0
def tw15784892865763196031:=0
def tw15668200735285759365:=0
def tw15342714969340477908:=0
def tw14570645771329761845:=0
def tw14335503944433615038:=0
def tw14229012034782435415:=0
def tw13983724003378174660:=0
def tw13947164242563921733:=0
def tw13845600156017857390:=0
def tw13755432385873146270:=0
def tw13136040754125685753:=0
def tw13129474776101889226:=0
def tw12790036804543657397:=0
def tw12773370783865870686:=0
def tw12756839086564132280:=0
def tw12737777136018017876:=0
def tw12599355818254070398:=0
def tw12451098480535574107:=0
def tw12346814713200730364:=0
def tw1213605514779518107:=0
def tw12016250049427892837:=0
def tw12004850559270177881:=0
def tw11901833945506020852:=0
def tw11851484569379097184:=0
def tw11019358433932127084:=0
def tw10781737032923254953:=0
def tw10515500797052735891:=0
def tw5649276752500156669:=0
def tw9424771210142778990:=0
def tw15609821754873257766:=0
def tw908608144863260562:=0
def tw16506269842924306343:=0
def tw12746233913932459260:=0
def tw10874611259804488874:=0
def tw72531170500909435:=0
def tw11838578296656114266:=0
def tw961374343760279736:=0
def tw9500286033682989684:=0
def tw9411626660323913487:=0
def tw9373183763760980248:=0
def tw9038022056351709681:=0
def tw875168384178865434:=0
def tw8319433974994528514:=0
def tw7804586272164558670:=0
def tw771755181488693797:=0
def tw717489585568474185:=0
def tw4439290952099359245:=0
def tw4406059722948994025:=0
def tw4348360873805585830:=0
def tw3094681204826928940:=0
def tw2558582050429474191:=0
def tw2450922166014062265:=0
def tw17203722614191768921:=0
def tw17156341271751646170:=0
def tw17013225701307234271:=0
def tw16240727329934360564:=0
def tw16067941959268512239:=0
def tw15880059985136985865:=0
def tw15420353320031760198:=0
def tw14867234604592324532:=0
def tw143821450208013566:=0
def tw13224904459004979259:=0
def tw11897135572463591554:=0
def tw11396136254361879228:=0
def tw11312503657209458474:=0
def tw10938219688436492419:=0
def tw5511439393314820167:=0
def tw5031376959020195596:=0
def tw11376983767330365886:=0
def tw5751243638319535935:=0
def tw8241481844713693935:=0
def tw549348641433568660:=0
def tw17517947101597060255:=0
def tw105589700245705818:=0
def tw9487472272408902003:=0
def tw2173852604628864775:=0
def tw12239224744438154473:=0
def tw10003263131340848732:=0
def tw6790104310369297824:=0
def tw564199817732525534:=0
def tw15147220264663058376:=0
def tw14125194634248636257:=0
def tw9713235576385046518:=0
def tw7327933894128948586:=0
def tw5838683221745063975:=0
def tw537613193928327617:=0
def tw4348775893643145917:=0
def tw2828565071454448928:=0
def tw2490092070828113095:=0
def tw18003767269686108377:=0
def tw17153769705377618986:=0
def tw1685325485923834584:=0
def tw15631863758330642918:=0
def tw13213569952610757580:=0
def tw11843025442781493345:=0
def tw11667946784216046582:=0
def tw7745873924181507569:=0
def tw7742916786536151327:=0
def tw6867741158344810421:=0
def tw2344391979895229817:=0
def tw1655336150442554550:=0
def tw12025356328130709221:=0
def tw15973704358316033431:=0
def tw6643196702602644644:=0
def tw5123419434502371485:=0
def tw4794208998557625584:=0
def tw3637283696981816388:=0
def tw3325774071075201369:=0
def tw1729460736815771220:=0
def tw17049748895154259022:=0
def tw15939401691683162562:=0
def tw11748698637886001300:=0
def tw10876781867136852594:=0
def tw7694829054700334938:=0
def tw6790937386995957405:=0
def tw4047314022627476122:=0
def tw2586371877728038749:=0
def tw14778069056582901817:=0
def tw11162568857999988628:=0
def tw8184595705540348013:=0
def tw16897478635646819338:=0
def tw9998807329567144219:=0
def tw902487315802632032:=0
def tw16052377643417674582:=0
def tw4193692888670073015:=0
def tw6510647385916176099:=0
def tw15927584172045869338:=0
def tw1321266429481486249:=0
def tw11657736717870026380:=0
def tw9076219838207094316:=0
def tw1203461583663154226:=0
def tw10470747502936365235:=0
def tw4755658630656458667:=0
def tw8158170119566158841:=0
def tw6067664637477802682:=0
def tw4916232655095396696:=0
def tw9708449293559814572:=0
def tw15177238891139030453:=0
def tw5706429649812338077:=0
def tw6956469788822901033:=0
def tw16597342846195826981:=0
def tw4217168769812416723:=0
def tw9403674504692935476:=0
def tw8998701278836541612:=0
def tw80426944991530772:=0
def tw6933729672582316994:=0
def tw4948033446240021037:=0
def tw2469002929851483803:=0
def tw2019494144356421517:=0
def tw1643984480750366063:=0
def tw15915509963497557567:=0
def tw1331734083144602887:=0
def tw103957249450770801:=0
def tw8828188087259985708:=0
def tw1956021281525534432:=0
def tw18001972626917766744:=0
def tw4927575636379276937:=0
def tw9687343588047941253:=0
def tw9020581402802114391:=0
def tw8792920234890800566:=0
def tw5399038400916680260:=0
def tw3057687223531588437:=0
def tw2871579125279523945:=0
def tw17282577076975439493:=0
def tw14527665827384495394:=0
def tw13871686462473537791:=0
def tw12617474534568084442:=0
def tw12442829739665673794:=0
def tw12426689754970666387:=0
def tw11857659166474769980:=0
def tw1168936422132752320:=0
def tw10080654369140634415:=0
def tw5977917553368683094:=0
def tw7454098956804981503:=0
def tw4825894557790792605:=0
def tw14210703597127282000:=0
def tw14571391661027784793:=0
def tw10307044277092867183:=0
def tw8609119392963965075:=0
def tw1323557015047829475:=0
def tw10376274008467332425:=0
def tw9343813442331145984:=0
def tw8904738477182554179:=0
def tw8844471091670728628:=0
def tw851432470644352338:=0
def tw8261971896563775318:=0
def tw8183708005061971774:=0
def tw8026346227167297458:=0
def tw7713775658552316523:=0
def tw7182276413242314229:=0
def tw6849072537932068638:=0
def tw6390290738652895298:=0
def tw5840515237203616599:=0
def tw5214900873222107597:=0
def tw4677118375859340734:=0
def tw4527400953537888463:=0
def tw3855583531604599113:=0
def tw3497391935351695942:=0
def tw3479115800804046181:=0
def tw3340172355064286037:=0
def tw300698148318413410:=0
def tw2961716943593490080:=0
def tw2207694997179131203:=0
def tw2097164179152817094:=0
def tw1795189404240324337:=0
def tw17485642850916153918:=0
def tw16169628609473956884:=0
def tw15314732662995044108:=0
def tw14949047874464034186:=0
def tw14532998816999531446:=0
def tw13823268564175743332:=0
def tw13083064878555000640:=0
def tw13053508935952689500:=0
def tw12878493954249627997:=0
def tw12871937975591389757:=0
def tw12140870828815104811:=0
def tw11943261723422656299:=0
def tw10504900647369435578:=0
def tw10812665439910594151:=0
def tw7657535460075262812:=0
def tw8683761481041388337:=0
def tw8306388583622445244:=0
def tw7247102860838509827:=0
def tw6070436885306684338:=0
def tw5432702415487186694:=0
def tw5205941098670344533:=0
def tw5196970830838623300:=0
def tw5176562830350595020:=0
def tw4966992030754200229:=0
def tw4956459070946245894:=0
def tw4575788353945974791:=0
def tw4036491256724234681:=0
def tw3688230936365030772:=0
def tw17531588754910883402:=0
def tw16910974440432127724:=0
def tw1604672430776499576:=0
def tw15934115212875169002:=0
def tw15839634050327622915:=0
def tw14936376099886246783:=0
def tw14482468764165588059:=0
def tw13193800543774680176:=0
def tw12815987391721081867:=0
def tw12390338446680324161:=0
def tw12104970938801712015:=0
def tw9372586242729904835:=0
def tw8541261315722277178:=0
def tw8347568681910872577:=0
def tw7407713220928625729:=0
def tw5539969136955696393:=0
def tw4495392283531704459:=0
def tw3532798090023735658:=0
def tw3002769243511217196:=0
def tw2571476852053503025:=0
def tw17003403446735777493:=0
def tw1658112443232087624:=0
def tw15561088337962836736:=0
def tw15473189876023064618:=0
def tw14952917689330805996:=0
def tw13305040898967312178:=0
def tw12460259637808229852:=0
def tw11982512036167591242:=0
def tw11442212228649324629:=0
def tw11332078316003421788:=0
def tw11097746577554659540:=0
def tw8142673280209657295:=0
def tw542270437125605697:=0
def tw4475260832128788863:=0
def tw4088024595074430762:=0
def tw1958186606643896991:=0
def tw17246561607340643427:=0
def tw16347194853463478884:=0
def tw1622177624888223790:=0
def tw11657600457044455949:=0
def tw10431067099082170124:=0
def tw10261964533844166395:=0
def tw8925434630991410321:=0
def tw9929314986787369679:=0
def tw9614719290670054603:=0
def tw9388060869374513205:=0
def tw6758098681029817479:=0
def tw5597053583782219771:=0
def tw4139522172317823023:=0
def tw2428917598309355477:=0
def tw18231118062574677484:=0
def tw17147634290551090318:=0
def tw1618013260043341508:=0
def tw10386972174042561472:=0
def tw9989366976234523452:=0
def tw9956768416585857547:=0
def tw977843127247221840:=0
def tw9770457884927956183:=0
def tw9687030496290007531:=0
def tw9656205753964021336:=0
def tw9645306564016879446:=0
def tw9501117012715566968:=0
def tw9445871454882384994:=0
def tw9426622628012698041:=0
def tw9312103409255978826:=0
def tw9265669128794306171:=0
def tw9190308784850901648:=0
def tw9113030618221427072:=0
def tw9021199222949445772:=0
def tw8911237704212466955:=0
def tw8871596207449266418:=0
def tw8844933349082121289:=0
def tw8720246540200167572:=0
def tw8712577759771790956:=0
def tw8696350172517295593:=0
def tw8681006965507503128:=0
def tw8539706493443991414:=0
def tw8438116258024018230:=0
def tw8410788762592465522:=0
def tw8373028394175402784:=0
def tw8341069117120459820:=0
def tw8280871915407849675:=0
def tw825987799855934579:=0
def tw8258488057078594674:=0
def tw8243222620515051524:=0
def tw8158377545272403302:=0
def tw8092917671865856360:=0
def tw8073211922624331160:=0
def tw806816226325826306:=0
def tw8042331560269310760:=0
def tw8003850803860963507:=0
def tw7987386096157500333:=0
def tw7840711814366859134:=0
def tw75882539309699816:=0
def tw7529522479321442251:=0
def tw7522770361646320776:=0
def tw7450816577780101081:=0
def tw7409990661285224433:=0
def tw7381506499196064567:=0
def tw735135492489725542:=0
def tw7322711066506349880:=0
def tw7238197308033442690:=0
def tw6904486408900820095:=0
def tw6874489772927269101:=0
def tw680065169354698591:=0
def tw6763026741061224553:=0
def tw6733184973969219814:=0
def tw6716090210663383729:=0
def tw6573064136662462069:=0
def tw6378781846511209003:=0
def tw6339661276810460395:=0
def tw6263997244814334850:=0
def tw6157389277050285463:=0
def tw6074453480824059082:=0
def tw6046408789881752911:=0
def tw5980120616939966865:=0
def tw596174939812959050:=0
def tw5951304695094354171:=0
def tw5915215169922767377:=0
def tw5843740063009821874:=0
def tw5747942491083422661:=0
def tw5618814600622126487:=0
def tw5588815639779265700:=0
def tw547281791119424007:=0
def tw5446715683821032709:=0
def tw5380604639184540953:=0
def tw5228775993141840787:=0
def tw5176131127084916983:=0
def tw5125462241388845312:=0
def tw5091760536886673248:=0
def tw4898242531387429545:=0
def tw4824502521114574902:=0
def tw4708748457738216449:=0
def tw464190151613835791:=0
def tw4533413676040273117:=0
def tw4449150878947128006:=0
def tw4402766856529166320:=0
def tw4378422041797596333:=0
def tw429738624270031843:=0
def tw4151964933932200076:=0
def tw4128740948547979106:=0
def tw4016549250509790580:=0
def tw4008265893987801529:=0
def tw3973724913188366585:=0
def tw380440160376594032:=0
def tw3767833287835915284:=0
def tw3649579998462309379:=0
def tw3627849560396964047:=0
def tw3627766726404953558:=0
def tw352981962306894505:=0
def tw3415480939873973827:=0
def tw3156072589136321819:=0
def tw3051498033296853391:=0
def tw282089602901278175:=0
def tw2726080719191409403:=0
def tw2673862613670577165:=0
def tw2649936858822801592:=0
def tw2632232960273586570:=0
def tw2555405832485848056:=0
def tw2478767559193464331:=0
def tw2368862543307298760:=0
def tw228018293914107866:=0
def tw2279966283940390365:=0
def tw227734616392160645:=0
def tw2243941615087901709:=0
def tw2189953797389601268:=0
def tw2169660157140003866:=0
def tw2123234653868788211:=0
def tw1924603782589003887:=0
def tw1833136988303949345:=0
def tw18247072834078386071:=0
def tw18240299335486421154:=0
def tw18069185877026319946:=0
def tw17911711520441653946:=0
def tw17700206106339219681:=0
def tw17700098901460457012:=0
def tw17621853884903864375:=0
def tw17574343965720895554:=0
def tw17413454730894249216:=0
def tw17300722278730696331:=0
def tw17248461154593747411:=0
def tw17232142704129005334:=0
def tw17226677794010985087:=0
def tw17141467175444411483:=0
def tw17029870265763151906:=0
def tw1701451636789748892:=0
def tw1697254650333656917:=0
def tw16903519738959360192:=0
def tw16798417647782355876:=0
def tw16792366438800192429:=0
def tw167486230415759252:=0
def tw16671072319736479138:=0
def tw16626506945822187817:=0
def tw16499311713917339132:=0
def tw16494806693553543196:=0
def tw16299067882632534025:=0
def tw16281401344556468133:=0
def tw1619151092387813587:=0
def tw16072821356381498298:=0
def tw16026228572204013031:=0
def tw1595744199978899736:=0
def tw1586608299281529780:=0
def tw1583179531192126037:=0
def tw15698852376406687676:=0
def tw15694364307113821670:=0
def tw15645713685620511397:=0
def tw15608014003126981654:=0
def tw15584458778965411619:=0
def tw15565965362441543189:=0
def tw15427569858288920214:=0
def tw15320698845849203033:=0
def tw15231986084513847728:=0
def tw15165260804819127294:=0
def tw14951788918305857458:=0
def tw1476938900397949969:=0
def tw14639229130239100475:=0
def tw14569782232036011095:=0
def tw1442617786810384169:=0
def tw14232801152039226864:=0
def tw14211669403488558715:=0
def tw14182325759659700053:=0
def tw14163561639385288919:=0
def tw14100572003238194068:=0
def tw14020282818864283908:=0
def tw14019696284633849338:=0
def tw13917833525977981543:=0
def tw13874559364283303708:=0
def tw13750721183176801854:=0
def tw13718433585486643644:=0
def tw13624663544653376846:=0
def tw13614943915131708846:=0
def tw13480431269929381010:=0
def tw1335055061400777318:=0
def tw13164222832724967080:=0
def tw13066358591253268124:=0
def tw13055174451966676795:=0
def tw13046111333082397765:=0
def tw12911732593059194531:=0
def tw12871964267687058035:=0
def tw1284535040779216974:=0
def tw12599078057748048671:=0
def tw12556719446977005884:=0
def tw1244402520999685204:=0
def tw12338097973577325514:=0
def tw12245046683029492497:=0
def tw12208290222743464548:=0
def tw11963263583175217685:=0
def tw11926756192326472090:=0
def tw11878296944639224746:=0
def tw11730312728530343641:=0
def tw11725564239452832520:=0
def tw1158453014930363021:=0
def tw11490687223575022653:=0
def tw11440649598996248559:=0
def tw11317056342559134580:=0
def tw11235788920938387624:=0
def tw11153086613222047853:=0
def tw11130599813081661338:=0
def tw11101345803625543772:=0
def tw11024338816253229796:=0
def tw10894376748919656935:=0
def tw10879885314534162308:=0
def tw10728616445420830213:=0
def tw10609949743881795700:=0
def tw10556512933485435846:=0
def tw10482899451820789777:=0
def tw10431355096088985273:=0
def tw10327808286671221572:=0
def tw10296468049077697235:=0
def tw10155955517126631863:=0
def tw10076297597608432908:=0
def tw10069683180319928129:=0
def tw10013400617390478371:=0
def tw9928765647891238524:=0
def tw9769587284079930874:=0
def tw9754774753085146475:=0
def tw9736696983755322478:=0
def tw9283541915930271724:=0
def tw8949276556279766771:=0
def tw8808958108190063055:=0
def tw8776402664746833775:=0
def tw8733202682519828724:=0
def tw8551987446226399670:=0
def tw8334495412883190674:=0
def tw8227567760213409781:=0
def tw8204949875400668148:=0
def tw7909662605055864062:=0
def tw7768416347466804347:=0
def tw7645873551983598420:=0
def tw748626545670696554:=0
def tw7431857834308255171:=0
def tw7327874825359253950:=0
def tw7253432852518886853:=0
def tw7084195041390932665:=0
def tw7015571678321672291:=0
def tw6890519818224000754:=0
def tw6847435323097485414:=0
def tw6547017556226846718:=0
def tw6409188195082525765:=0
def tw6402026610957816612:=0
def tw5928003936373831007:=0
def tw5708827631090337173:=0
def tw5670697623183601126:=0
def tw5637522784151179097:=0
def tw5485226307217196832:=0
def tw5415443297873150708:=0
def tw5276915464209106449:=0
def tw4992646911722719258:=0
def tw4951377072704266364:=0
def tw4790573816809925915:=0
def tw475108142363416560:=0
def tw4714806136279160790:=0
def tw4526026437327373589:=0
def tw4474025035277811853:=0
def tw4310184045860443800:=0
def tw4186103368790741303:=0
def tw4148017300527035942:=0
def tw3804045615651370788:=0
def tw3530525482241458825:=0
def tw329969215760848753:=0
def tw3160001423155849855:=0
def tw3159652604599819667:=0
def tw3025874282934218229:=0
def tw2941028885375893395:=0
def tw2812844812552590260:=0
def tw280467190640292591:=0
def tw2787211696906195598:=0
def tw2781912409322904709:=0
def tw2694929560336442312:=0
def tw258685002377180181:=0
def tw2498711725853584628:=0
def tw2468164191210544309:=0
def tw2455959258533877940:=0
def tw2421332096039400305:=0
def tw2387038088673467600:=0
def tw233286064834383567:=0
def tw2155749006634255805:=0
def tw2073304195676618864:=0
def tw190053356153304:=0
def tw18199398399004034894:=0
def tw18179560382385456692:=0
def tw18080048635120994634:=0
def tw18020718390834065246:=0
def tw17942076980270708966:=0
def tw17908348338162180317:=0
def tw17885294475622385677:=0
def tw17872136783770558714:=0
def tw1779723016168715200:=0
def tw17711285784996213588:=0
def tw17500197870327228660:=0
def tw17449359074208390604:=0
def tw17442691128023289943:=0
def tw17364606253411554098:=0
def tw17106398010243562243:=0
def tw17072146861922333339:=0
def tw17030227474765960388:=0
def tw16813590123400937864:=0
def tw16683217864488491691:=0
def tw16413829739808639459:=0
def tw16413116735736012408:=0
def tw16208367754864845938:=0
def tw16179501945722735763:=0
def tw16000558471168958224:=0
def tw15819987949811299973:=0
def tw15631393119587405687:=0
def tw15293777477336816585:=0
def tw15291991881447298178:=0
def tw1511174712054173757:=0
def tw15086345352076963257:=0
def tw14891708290323468890:=0
def tw14865849645394014839:=0
def tw14229336182065086409:=0
def tw13728607355864207498:=0
def tw1356014973906222854:=0
def tw13350786900915745049:=0
def tw13265382597182270629:=0
def tw13246041284940732421:=0
def tw13239373280336541750:=0
def tw1317272048809037039:=0
def tw12891573902955349995:=0
def tw12852090907959475411:=0
def tw12708697545058127072:=0
def tw12614331312572677211:=0
def tw12039658715273879357:=0
def tw11766447835519703753:=0
def tw11617477648339151210:=0
def tw11554376556332080728:=0
def tw11421683882219802140:=0
def tw1126161944444025854:=0
def tw11029504805960497668:=0
def tw10765609495698313053:=0
def tw10691976162854415343:=0
def tw10472062149204039877:=0
def tw10404149618626394439:=0
def tw10291501400967699089:=0
def tw10252965950965188131:=0
def tw10214926344299031131:=0
end PySem.W.Fast
open PySem PySem.W PyProof.Rows
set_option maxRecDepth 100000 in
set_option maxHeartbeats 0 in
theorem PySem.Challenge.cw_slanttables_k73_a_desk_is_told_holds : PySem.Challenge.rw_slanttables_k73_a_desk_is_told.Holds := by
  w_on;o_law;k_head;(case hw=>w_witness2)
  k_fill
  refine LP.D7.D3.walk (l:=PySem.Challenge.rw_slanttables_k73_a_desk_is_told) rfl rfl (λw h Y=>PySem.W.kIn_of Y) ?F
  case F=>
    intro w mg fa h KX G hmg;refine LP.D7.D3.all_mk ?_ hmg;constructor
    all_goals first
      |(refine' LP.mkF KX G ?a ?l ?c ?k;(case a=>k_is);(case l=>k_is);(case c=>k_is);(case k=>k_is))
      |(refine' mg_none_of KX G ?a;case a=>k_is)
      |(refine' LP.mkC KX G ?a;case a=>k_is)
      |(refine' LP.mkI KX G ?a;case a=>k_is)
      |(refine' LP.mkS KX G ?a;case a=>k_is)
      |(refine' LP.mkDK KX G ?a ?pg ?hd ?po ?sa ?no ?mk ?ni ?ki ?e1 ?e2 ?e3 ?e4 ?s0 ?s1 ?s2 ?s3 ?s4 ?u0 ?u1 ?u2 ?u3 ?u4;(case a=>k_is);(case pg=>k_is);(case hd=>k_is);(case po=>k_is);(case sa=>k_is);(case no=>k_is);(case mk=>k_is);(case ni=>k_is);(case ki=>k_is);(case e1=>k_is);(case e2=>k_is);(case e3=>k_is);(case e4=>k_is);(case s0=>k_is);(case s1=>k_is);(case s2=>k_is);(case s3=>k_is);(case s4=>k_is);(case u0=>k_is);(case u1=>k_is);(case u2=>k_is);(case u3=>k_is);(case u4=>k_is))
      |(refine' LP.mkT1 KX G ?a ?l;(case a=>k_is);(case l=>k_is))
      |(refine' LP.mkD KX G ?a ?l ?s ?k ?e;(case a=>k_is);(case l=>k_is);(case s=>decide);(case k=>(repeat (refine And.intro ⟨_,_,rfl,rfl⟩ ?_));exact trivial);(case e=>(first|unfold LP.D7.NUMD|unfold LP.D7.DEEDD|unfold LP.D7.QUESD);(repeat first|refine LP.Ent.i rfl rfl ?_|refine LP.Ent.n rfl rfl ?_|refine LP.Ent.f rfl rfl (by k_is) ?_);exact .nil))
      |(refine' LP.mkXF2 KX G ?a ?lc ?ni ?yq ?yr ?l ?c ?k;(case a=>k_is);(case lc=>k_is);(case ni=>k_is);(case l=>k_is);(case c=>k_is);(case k=>k_is);(case yq=>kernel_rfl);(case yr=>kernel_rfl))
      |(refine' LP.mkT KX G ?a ?l;(case a=>k_is);(case l=>k_is))
      |(refine' LP.mkXF KX G ?a ?lc ?ni ?yq ?l ?c ?k;(case a=>k_is);(case lc=>k_is);(case ni=>k_is);(case l=>k_is);(case c=>k_is);(case k=>k_is);(case yq=>kernel_rfl))
      |(refine' LP.mkX KX G ?a ?e;(case a=>k_is);(case e=>k_exc))
      |(refine' LP.mkH KX G ?a ?e ?_;(case a=>k_is);(case e=>k_exc);intro n hn;simp only[LP.LX,Yam,eZ,or_false] at hn;first|(rcases hn with rfl|rfl|rfl|rfl|rfl|rfl|rfl|rfl|rfl|rfl|rfl<;>(refine' LP.exD ?a ?b;(case a=>k_is);(case b=>k_is)))|(rcases hn with rfl|rfl|rfl|rfl|rfl|rfl<;>(refine' LP.exD ?a ?b;(case a=>k_is);(case b=>k_is)))|(rcases hn with rfl|rfl|rfl<;>(refine' LP.exD ?a ?b;(case a=>k_is);(case b=>k_is)))|(subst hn;refine' LP.exD ?a ?b;(case a=>k_is);(case b=>k_is)))
      | (refine ⟨λn hn=>?_⟩;simp only [LP.LX,Yam,eZ,or_false] at hn;rcases hn with rfl | rfl | rfl | rfl | rfl | rfl<;>
         (refine' LP.exX ?a (LP.clsX_of ?g ?n ?b ?h ?c ?d ?t ?o) ?k ?_;(case a=>k_is);(case g=>k_is);(case n=>k_is);(case b=>k_is);(case h=>k_is);(case c=>k_is);(case d=>k_is);(case t=>k_is);(case o=>k_is);(case k=>kit_is)
          intro m hm;simp only[LP.MX,LP.LX,Yam,eZ,or_false] at hm;rcases hm with rfl|rfl|rfl|rfl|rfl|rfl|rfl|rfl|rfl<;>
           (refine' LP.exC ?a ?b;(case a=>k_is);(case b=>first|(refine Eq.trans (b:=some true) ?_ (by decide +kernel);kit_is)|(refine Eq.trans (b:=some false) ?_ (by decide +kernel);kit_is)))))
