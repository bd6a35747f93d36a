import PyProof.Rows.All
import Wide.All
import OpenK.AllK
import Wide.FinOn
import PySem.Challenge.RW_slanttables_k77_a_desk_told_wrong_places
set_option genSizeOf false
set_option genInjectivity false
set_option compiler.extract_closed false
set_option Elab.async false
set_option linter.all false
set_option maxRecDepth 100000
set_option exponentiation.threshold 400
set_option maxHeartbeats 8000000
def bY:=@PySem.Heap.lt_size
def cG:=@Nat.lt_of_lt_of_le
def gp:=@Nat.lt_irrefl
def tm:=@Array.append_assoc
def el:=@Nat.ne_of_lt
def lQ:=@Nat.lt_trans
def Yag:=@List.mem_range
def fA:=@Nat.le_trans
def o7:=@Nat.le_of_lt
def rq:=@List.filterMap_cons
def en:=@List.mem_cons_self
def da:=@List.mem_cons_of_mem
def rz:=@PySem.Heap.get?_none_of_le
def Yan:=@List.mem_cons
def Yao:=@List.mem_append
def tq:=@List.mem_append_left
def Yaq:=@List.getElem?_eq_some_iff
def cN:=@List.getElem?_set_self
def cm:=@List.getElem?_set_ne
def o8:=@Array.length_toList
def cj:=@PySem.Heap.get?_push_of_some
def dv:=@Bool.false_ne_true
def o9:=@Bool.false_and
def gc:=@PySem.Heap.get?_push_size
def bO:=@Nat.le_refl
def Yaz:=@List.mem_filterMap
def jf:=@List.mem_append_right
def jg:=@Bool.eq_iff_iff
def cw:=@List.size_toArray
def tu:=@Array.find?_toList
theorem cn{α}{a:α}{l:List α}:(a::l).length=l.length+1:=rfl
def dD:=@List.map_cons
def bJ:=@List.length_map
def oa:=@PySem.Heap.size_push
def im:=@Nat.zero_le
def kn:=@List.append_nil
def YaK:=@List.nodup_cons
def rB:=@List.of_mem_zip
def kL:=@List.length_take
def jh:=@List.getElem?_append_right
def ji:=@List.getElem?_replicate
def kq:=@List.getElem?_append_left
def e7:=@List.getElem?_map
def og:=@List.mem_of_getElem?
def dP:=@List.length_append
def mC:=@List.length_replicate
theorem rC(n:Nat):(n:Int).toNat=n:=rfl
def lR:=@List.length_drop
def cy:=@Bool.and_eq_true
def rD:=@PySem.Heap.get?_update_self
def mD:=@PySem.Heap.get?_update_other
def cR:=@List.length_set
theorem gZ{α}{a:α}{n}:List.replicate (n+1) a=a::List.replicate n a:=rfl
def mE:=@List.flatten_cons
def lT:=@List.append_assoc
def lV:=@List.length_singleton
def rE:=@List.length_dropLast
theorem fL{α}(l:List α):[]++l=l:=rfl
def oh:=@List.map_nil
def oi:=@List.any_cons
def eC:=@List.lookup_cons
def mF:=@Bool.not_eq_true'
def cH:=@Bool.false_eq_true
def tw:=@Option.map_some
def Ybc:=@List.all_eq_true
def tx:=@Bool.or_eq_true
def tz:=@Nat.le_of_succ_le
def kM:=@Nat.lt_or_ge
def pj:=@List.getD_eq_getElem?_getD
def tB:=@Array.getElem?_eq_getElem
def e8:=@List.getElem?_eq_none
def rF:=@List.reverse_cons
def tD:=@List.length_reverse
def Ybl:=@Array.getElem?_eq_some_iff
def tE:=@PySem.Heap.get?_push_at
def pk:=@List.contains_cons
theorem fM{α}:([]:List α).length=0:=rfl
def pp:=@List.lookup_nil
def rG:=@List.drop_zero
def jj:=@List.getElem?_eq_getElem
def Ybs:=@List.mem_iff_getElem
def gq:=@List.not_mem_nil
def Ybu:=@List.mem_map
def iY:=@List.map_map
def rH:=@List.map_congr_left
theorem pq{α}{a:α}{l k:List α}:(a::l)++k=a::(l++k):=rfl
theorem pv{α}{a:α}{l:List α}:(a::l)[0]? = some a:=rfl
theorem pw{α}{a:α}{n:Nat}{l:List α}:(a::l)[n+1]? = l[n]? :=rfl
theorem pz{α}{a b:α}{l:List α}:(a::l).set 0 b=b::l:=rfl
theorem pA{α}{a b:α}{n}{l:List α}:(a::l).set (n+1) b=a::l.set n b:=rfl
def pB:=@List.replicate_zero
def tF:=@Nat.min_eq_left
def xy:=@Int.fdiv_eq_ediv_of_nonneg
def dQ:=@Bool.not_true
def rJ:=@List.map_reverse
def pC:=@List.map_drop
def pD:=@List.map_take
def i4:=@Bool.not_false
def rK:=@Array.toList_append
def tG:=@Nat.eq_zero_or_pos
def gu:=@List.map_append
def xz:=@Array.all_eq_true_iff_forall_mem
def rL:=@Bool.and_false
def YbP:=@List.mem_singleton
def rM:=@List.dropLast_eq_take
def YbR:=@List.length_pos_iff
def tH:=@List.set_eq_take_append_cons_drop
def mG:=@Nat.lt_of_le_of_lt
def tI:=@List.dropLast_concat_getLast
def mH:=@Bool.and_eq_false_iff
def tJ:=@List.mem_map_of_mem
section
open PySem PySem.Spec PyProof.Rows PySem.W
def D8:=@wpAny_bind
abbrev D9:=PySem.W.Frag
def Ea:=@wpAny_pure
def Eb:=@absurd
def Ec:=@decide_eq_true
def Ed:=@Option.some.inj
def Ee:=@decide_eq_true_eq
def Ef:=@wpAny_loadPart_at
def Eg:=@PySem.mem_of_lookup
def Ei:=@decide_eq_false
def Ej:=@False.elim
def Ek:=@boot_isinstance
def El:=@decide_eq_false_iff_not
def Em:=@Ne.symm
def En:=@wpAny_newObj_type
def Eo:=@wpAny_holding
def Ep:=@wpAny_mono
def Er:=@beq_self_eq_true
def Es:=@wpAny_truthy_bool
def Et:=@beq_iff_eq
def Eu:=@boot_len
def Ev:=@wpAny_field
def Ew:=@wpAny_passesOwn
def Ey:=@wpAny_isSubtype_exc
def Ez:=@wpAny_Call_Name_kw
def EA:=@wpAny_standAt
def EB:=@wpAny_execs_nil
def EC:=@wpAny_typeOf
end
namespace L2
open PySem PySem.Spec PyProof.Rows
variable{κ:Type}{a b it dx:Addr}{P prog:Program}{w:World}{h h':Heap}{x name m qual:Str}{e c tg:Expr}{pins:List (Addr×Obj)}{s s':Shared}{g':Array GenState}{t' j k:Nat}{d':Drawn}{ch fp:List Addr}{N ps:List Str}{M:Model}{A:Around}{E Q:Value->Shared->Prop}{pos pos' p apos:Pos}{K:D9}{es:List Expr}{g:Int->Int->Int}{body:List Stmt}{pl:Sem Bool}{op:CmpOp}{us:List Value}{mA mg:Str->Option Value}{kw:List (Str×Value)}{outer:List Env}{fd:FuncData}{scope:Scope}{osl:Array (Option Value)}
abbrev ge:=Sum Int Str
def lW:ge->Value->Bool
 |.inl k,v=>Value.isInt k v
 |.inr x,v=>Value.isStrOf x v
def tK(w:World):ge->Int
 |.inl k=>hashInt k
 |.inr x=>hashStr w x
theorem aW:∀{k:ge} {v:Value},lW k v=true->(∃i t,k=Sum.inl i/\v=Value.int i t)\/(∃x t,k=Sum.inr x/\v=Value.str x t)
 |.inl i,v,h=>by
  obtain⟨t,e⟩:=Value.isInt_shape (k:=i) (v:=v) h;exact .inl ⟨i,t,rfl,e⟩
 |.inr x,v,h=>by
  obtain⟨t,e⟩:=Value.isStrOf_shape (x:=x) (v:=v) h;exact .inr ⟨x,t,rfl,e⟩
theorem mI(a b:Int):decide ((Sum.inl a:ge)=Sum.inl b)=(a==b):=by
 by_cases e:a=b
 .subst e;simp
 .have h:¬(Sum.inl a:ge)=Sum.inl b:=λq=>e (Sum.inl.inj q)
  rw[Ei h];exact(beq_eq_false_iff_ne.mpr e).symm
theorem mJ(a b:Str):decide ((Sum.inr a:ge)=Sum.inr b)=decide (a=b):=by
 by_cases e:a=b
 .subst e;simp
 .have h:¬(Sum.inr a:ge)=Sum.inr b:=λq=>e (Sum.inr.inj q)
  rw[Ei h,Ei e]
theorem mK(a:Int)(b:Str):decide ((Sum.inl a:ge)=Sum.inr b)=false:=Ei (λq=>nomatch q)
theorem mL(a:Str)(b:Int):decide ((Sum.inr a:ge)=Sum.inl b)=false:=Ei (λq=>nomatch q)
def e9(prog:Program)(w:World):PySem.KeyKind prog w ge where
 is:=lW
 hash:=tK w
 inj:=λv a b ha hb=>by
  rcases aW ha with⟨i,t,rfl,rfl⟩|⟨x,t,rfl,rfl⟩
  .rcases aW hb with⟨j,u,rfl,e⟩|⟨y,u,rfl,e⟩
   .injection e with e1 _;rw[e1]
   .exact nomatch e
  .rcases aW hb with⟨j,u,rfl,e⟩|⟨y,u,rfl,e⟩
   .exact nomatch e
   .injection e with e1 _;rw[e1]
 byValue:=λk v h=>by
  rcases aW h with⟨i,t,rfl,rfl⟩|⟨x,t,rfl,rfl⟩<;>rfl
 pyHash:=λhv h=>by
  rcases aW hv with⟨i,t,rfl,rfl⟩|⟨x,t,rfl,rfl⟩
  .exact wpAny_pyHash_int h
  .exact wpAny_pyHash_str h
 eqBool:=λhu hv h=>by
  rcases aW hu with⟨i,t,rfl,rfl⟩|⟨x,t,rfl,rfl⟩
  .rcases aW hv with⟨j,u,rfl,rfl⟩|⟨y,u,rfl,rfl⟩
   .rw[mI] at h;exact wpAny_eqBool_int h
   .rw[mK] at h;exact SeqAt.EqAt.int_str i t y u _ _ _ _ h
  .rcases aW hv with⟨j,u,rfl,rfl⟩|⟨y,u,rfl,rfl⟩
   .rw[mL] at h;exact SeqAt.EqAt.str_int x t j u _ _ _ _ h
   .rw[mJ] at h;exact wpAny_eqBool_str h
 «strs»:=λk x t v h=>by
  rcases aW h with⟨i,u,rfl,e⟩|⟨y,u,rfl,e⟩
  .exact nomatch e
  .injection e with e1 _
   subst e1;cases v<;>rfl
set_option genInjectivity true in
inductive V where
 |non|bl (b:Bool)|int (i:Int)|str (x:Str)|byt (b:Array UInt8)|flt (b:UInt64)|ref (a:Addr)|ty (n:String)
 deriving DecidableEq
variable{v y:V}{xs vs:List V}{gV:List V->List V->List V}
def RelV:V->Value->Prop
 |.non,u=>u=Value.none
 |.bl b,u=>u=Value.bool b
 |.int i,u=>∃t,u=Value.int i t
 |.str x,u=>∃t,u=Value.str x t
 |.byt b,u=>∃t,u=Value.bytes b t
 |.flt b,u=>∃t,u=Value.float b t
 |.ref a,u=>u=Value.ref a
 |.ty n,u=>u=Value.type n
abbrev Vals:List V->List Value->Prop:=Paired RelV
theorem Vals.length{xs:List V}{us:List Value}(r:Vals xs us):xs.length=us.length:=Paired.length r
theorem Vals.get:∀{xs:List V} {us:List Value} {i:Nat} {x:V},Vals xs us->xs[i]? = some x->∃u,us[i]? = some u/\RelV x u
 |_,_,_,_,.nil,e=>by simp at e
 |_,_,0,_,.cons r _,e=>by simp at e;subst e;exact⟨_,rfl,r⟩
 |_,_,i+1,x,.cons _ t,e=>by
  obtain⟨u,h1,h2⟩:=Vals.get (i:=i) (x:=x) t (by simpa using e);exact⟨u,by simpa using h1,h2⟩
theorem Vals.set{x:V}{u:Value}(r:RelV x u):∀{xs:List V} {us:List Value} (i:Nat),Vals xs us->Vals (xs.set i x) (us.set i u)
 |_,_,_,.nil=>.nil
 |_,_,0,.cons _ t=>.cons r t
 |_,_,i+1,.cons q t=>.cons q (Vals.set r i t)
theorem Vals.append:∀{xs ys:List V} {us ws:List Value},Vals xs us->Vals ys ws->Vals (xs++ys) (us++ws)
 |_,_,_,_,.nil,s=>s
 |_,_,_,_,.cons r t,s=>.cons r (Vals.append t s)
theorem Vals.take:∀{xs:List V} {us:List Value} (n:Nat),Vals xs us->Vals (xs.take n) (us.take n)
 |_,_,0,_=>.nil
 |_,_,_+1,.nil=>.nil
 |_,_,n+1,.cons r t=>.cons r (Vals.take n t)
theorem Vals.drop:∀{xs:List V} {us:List Value} (n:Nat),Vals xs us->Vals (xs.drop n) (us.drop n)
 |_,_,0,r=>r
 |_,_,_+1,.nil=>.nil
 |_,_,n+1,.cons _ t=>Vals.drop n t
def RelO:Option V->Option Value->Prop
 |some v,some u=>RelV v u
 |none,none=>True
 |_,_=>False
def KV:List (κ×V)->List (κ×Value)->Prop:=Paired λ(p:κ×V) (q:κ×Value)=>p.1=q.1/\RelV p.2 q.2
def kV:ge->V
 |.inl i=>.int i
 |.inr x=>.str x
set_option genInjectivity true in
inductive HO where
 |lst (xs:List V)
 |tup (xs:List V)
 |dK (kvs:List (ge×V))|dT (kvs:List (List ge×V))
 |set (S:Int->Bool) (n:Nat)
 |ins (C dx:Addr) (fs:List (Str×V))
 |own (x:Addr)
 |xd (fs:List (Str×V))
 |met (f x:Addr)
 |rng (lo hi:Int)
 |frz (o:Obj) (u:HO)
 |tbl (ps:Array Value)
 |ext (φ:Heap->Prop)
variable{o:HO}
abbrev Hp:=Addr->Option HO
variable{H H':Hp}{R:V->V->Hp->Prop}
def upd(H:Hp)(a:Addr)(o:HO):Hp:=λb=>if b=a then some o else H b
theorem aF:upd H a o a=some o:=by unfold upd;rw[if_pos rfl]
theorem aE(h:b≠a):upd H a o b=H b:=by unfold upd;rw[if_neg h]
theorem g0{u:HO}:upd (upd H a o) a u=upd H a u:=by
 funext b;unfold upd;split<;>rfl
theorem bS(h:H a=some o)(h':H b=none):a≠b:=by
 intro e;subst e;rw[h] at h';cases h'
section
variable(P:Program)(w:World)
def ObjOk(H:Hp)(h:Heap)(a:Addr):HO->Prop
 |.lst xs=>xs.length<=sizeLine/\∃(its:List Value) (n:Nat),Vals xs its/\h.get? a=some { cls:=.type "list",data:=.seq its.toArray n }
 |.tup xs=>xs.length<=sizeLine/\∃its:List Value,Vals xs its/\IsTup h a its.toArray
 |.dK kvs=>kvs.length<=sizeLine/\(a==sysModules)=false/\∃vs,KV kvs vs/\h.DictOf (e9 P w) a vs
 |.dT kvs=>kvs.length<=sizeLine/\(a==sysModules)=false/\∃xs:List (List ge×Addr×Value),
   Paired (λ(p:List ge×V) (q:List ge×Addr×Value)=>p.1=q.1/\H q.2.1=some (.tup (p.1.map kV))/\RelV p.2 q.2.2) kvs xs/\
   ∃o es ep,h.get? a=some o/\o.ExactDict/\o.data=.dict es ep/\es.toList=xs.map (entryOfKey (tupleKind (e9 P w)))/\(xs.map (·.1)).Nodup
 |.set S n=>h.SetOf (intKind P w) a S n
 |.ins C dx fs=>H dx=some (.own a)/\fs.length<=1000/\dx≠a/\h.get? a=some (PySem.W.instObj C dx)/\
   ∃mA,h.Ns1 dx mA/\(∀f,RelO (fs.lookup f) (mA f))/\PySem.Within mA (fs.map (·.1))
 |.own _=>∃o,h.get? a=some o
 |.xd fs=>∃mA,h.Ns1 a mA/\∀f,RelO (fs.lookup f) (mA f)
 |.rng lo hi=>∃t u v,h.get? a=some { cls:=.type "range",data:=.fields #[.int lo t,.int hi u,.int 1 v] }
 |.frz o u=>h.get? a=some o/\ObjOk H h a u
 |.tbl ps=>h.get? a=some { cls:=.none,data:=.fields ps }
 |.met f x=>h.get? a=some (PySem.W.methodObj (.ref f) (.ref x))
 |.ext φ=>φ h/\(∃o,h.get? a=some o)/\∀h1 h2:Heap,φ h1->(∀o,h1.get? a=some o->h2.get? a=some o)->φ h2
def HOk(H:Hp)(h:Heap):Prop:=∀a o,H a=some o->ObjOk P w H h a o
end
section
theorem ObjOk.lt(x:ObjOk P w H h a o):a<h.objs.size:=by
 cases o with
 |lst xs=>obtain⟨_,_,_,_,e⟩:=x;exact bY e
 |tup xs=>obtain⟨_,_,_,p⟩:=x;exact p.lt
 |dK kvs=>obtain⟨_,_,_,_,o,_,_,e,_⟩:=x;exact bY e
 |dT kvs=>obtain⟨_,_,_,_,o,_,_,e,_⟩:=x;exact bY e
 |set S n=>obtain⟨o,_,_,_,e,_⟩:=x;exact bY e
 |ins C dx fs=>obtain⟨_,_,_,e,_⟩:=x;exact bY e
 |own y=>obtain⟨_,e⟩:=x;exact bY e
 |xd fs=>obtain⟨_,⟨_,_,_,e,_⟩,_⟩:=x;exact bY e
 |rng lo hi=>obtain⟨_,_,_,e⟩:=x;exact bY e
 |frz ob u=>obtain⟨e,_⟩:=x;exact bY e
 |tbl ps=>exact bY (show h.get? a=some _ from x)
 |met f y=>exact bY (show h.get? a=some _ from x)
 |ext φ=>obtain⟨_,⟨_,e⟩,_⟩:=x;exact bY e
theorem Paired.mapP{α β:Type}{F G:α->β->Prop}:∀{l₁:List α} {l₂:List β},Paired F l₁ l₂->(∀a b,F a b->G a b)->Paired G l₁ l₂
 |_,_,.nil,_=>.nil
 |_,_,.cons r t,f=>.cons (f _ _ r) (Paired.mapP t f)
theorem ObjOk.stay(x:ObjOk P w H h a o)(k:∀b u,(b=a\/H b=some (.own a))->h.get? b=some u->h'.get? b=some u)
  (ho:∀b,H b=some (.own a)->H' b=some (.own a)) (ht:∀b xs,H b=some (.tup xs)->H' b=some (.tup xs)):ObjOk P w H' h' a o:=by
 induction o with
 |lst xs=>obtain⟨z,its,n,r,e⟩:=x;exact⟨z,its,n,r,k _ _ (.inl rfl) e⟩
 |tup xs=>obtain⟨z,its,r,ob,e,c⟩:=x;exact⟨z,its,r,ob,k _ _ (.inl rfl) e,c⟩
 |dK kvs=>obtain⟨z,y,vs,r,ob,es,ep,e,c⟩:=x;exact⟨z,y,vs,r,ob,es,ep,k _ _ (.inl rfl) e,c⟩
 |dT kvs=>
  obtain⟨z,y,xs,r,ob,es,ep,e,c⟩:=x;exact⟨z,y,xs,Paired.mapP r λp q z=>⟨z.1,ht _ _ z.2.1,z.2.2⟩,ob,es,ep,k _ _ (.inl rfl) e,c⟩
 |set S n=>obtain⟨ob,es,ep,t,e,c⟩:=x;exact⟨ob,es,ep,t,k _ _ (.inl rfl) e,c⟩
 |ins C dx fs=>
  obtain⟨d,z,ne,e,mA,⟨od,es,ep,e2,c⟩,r⟩:=x;exact⟨ho _ d,z,ne,k _ _ (.inl rfl) e,mA,⟨od,es,ep,k _ _ (.inr d) e2,c⟩,r⟩
 |own y=>obtain⟨ob,e⟩:=x;exact⟨ob,k _ _ (.inl rfl) e⟩
 |xd fs=>obtain⟨mA,⟨od,es,ep,e,c⟩,r⟩:=x;exact⟨mA,⟨od,es,ep,k _ _ (.inl rfl) e,c⟩,r⟩
 |rng lo hi=>obtain⟨t,u,v,e⟩:=x;exact⟨t,u,v,k _ _ (.inl rfl) e⟩
 |frz ob u ih=>obtain⟨e,q⟩:=x;exact⟨k _ _ (.inl rfl) e,ih q⟩
 |tbl ps=>
  have e:h.get? a=some { cls:=.none,data:=.fields ps }:=x;show h'.get? a=some { cls:=.none,data:=.fields ps };exact k a _ (.inl rfl) e
 |met f y=>
  have e:h.get? a=some (PySem.W.methodObj (.ref f) (.ref y)):=x;show h'.get? a=some (PySem.W.methodObj (.ref f) (.ref y));exact k a _ (.inl rfl) e
 |ext φ=>obtain⟨p,⟨o,e⟩,st⟩:=x;exact⟨st _ _ p λo q=>k _ _ (.inl rfl) q,⟨o,k _ _ (.inl rfl) e⟩,st⟩
theorem HOk.lt(x:HOk P w H h)(e:H a=some o):a<h.objs.size:=(x a o e).lt
theorem HOk.fresh(x:HOk P w H h)(e:h.objs.size<=a):H a=none:=by
 cases q:H a with
 |none=>rfl
 |some u=>exact Eb (cG (x.lt q) e) (gp _)
theorem HOk.kept(x:HOk P w H h)(k:∀b u,h.get? b=some u->h'.get? b=some u):HOk P w H h':=λa o e=>
 (x a o e).stay (λb u _ q=>k b u q) (λ_ q=>q) λ_ _ q=>q
theorem HOk.laid(x:HOk P w H h)(k:∀b u,h.get? b=some u->h'.get? b=some u)(hp:h.objs.size<=a)(new:ObjOk P w (upd H a o) h' a o):HOk P w (upd H a o) h':=λb u e=>by
 have hn:=x.fresh hp
 by_cases hb:b=a
 .subst hb;rw[aF] at e;cases e;exact new
 .rw[aE hb] at e
  exact(x b u e).stay (λc v _ q=>k c v q) (λc q=>by rw[aE (bS q hn)];exact q) λc xs q=>by rw[aE (bS q hn)];exact q
end
def Rd(H:Hp)(a:Addr)(u:HO):Prop:=H a=some u\/∃o,H a=some (.frz o u)
theorem Rd.ok{u:HO}(r:Rd H a u)(x:HOk P w H h):ObjOk P w H h a u:=by
 rcases r with r|⟨o,r⟩
 .exact x a u r
 .obtain⟨_,q⟩:=x a _ r
  exact q
def rN:Option HO->Prop
 |some (.lst _)=>True
 |some (.dK _)=>True
 |some (.dT _)=>True
 |some (.set _ _)=>True
 |some (.ins _ _ _)=>True
 |some (.ext _)=>True
 |_=>False
section
variable{x e:Addr}{o':HO}
theorem HOk.write(ok:HOk P w H h)(mu:rN (H x))(he:e=x\/H e=some (.own x))(k:∀b u,b≠e->h.get? b=some u->h'.get? b=some u)(heo:∃u,h'.get? e=some u)
  (new:ObjOk P w (upd H x o') h' x o'):HOk P w (upd H x o') h':=λb u q=>by
 have nown:∀c y,H c=some (.own y)->c≠x:=λc y r z=>by subst z;rw[r] at mu;exact mu
 have ntup:∀c xs,H c=some (.tup xs)->c≠x:=λc xs r z=>by subst z;rw[r] at mu;exact mu
 by_cases hb:b=x
 .subst hb;rw[aF] at q;cases q;exact new
 .rw[aE hb] at q
  by_cases hbe:b=e
  .have q':H b=some (.own x):=by
    rcases he with z|z
    .exact Eb (hbe.trans z) hb
    .rw[hbe];exact z
   rw[q] at q';cases q';obtain⟨v,hv⟩:=heo;exact⟨v,by rw[hbe];exact hv⟩
  .refine(ok b u q).stay (λc v hc r=>k c v ?_ r) (λc r=>by rw[aE (nown c b r)];exact r) λc xs r=>by rw[aE (ntup c xs r)];exact r
   rcases hc with rfl|hc
   .exact hbe
   .rintro rfl
    rcases he with z|z
    .exact nown c b hc z
    .rw[hc] at z;cases z;exact hb rfl
end
structure Un(fs ex:List Addr)(H H':Hp)(h h':Heap):Prop where
 keep:∀b o,h.get? b=some o->H b=none->b∉fs->b∉ex->h'.get? b=some o
 slot:∀b o,h.get? b=some o->H b=none->b∈fs->b∉ex->∃sl,h'.get? b=some { o with slots:=sl }
 free:∀b o,h.get? b=some o->H b=none->b∉ex->H' b=none
 there:∀b o,h.get? b=some o->b∉ex->∃o',h'.get? b=some o'
 tups:∀b xs,H b=some (.tup xs)->H' b=some (.tup xs)
 frzs:∀b o u,H b=some (.frz o u)->H' b=some (.frz o u)
 tbls:∀b ps,H b=some (.tbl ps)->∃more,H' b=some (.tbl (ps++more))
 sys:mainGlobals∉ex->(∃o,h.get? mainGlobals=some o)->(∀xs,H sysModules≠some (.lst xs))->∀xs,H' sysModules≠some (.lst xs)
section
variable{fs fs' ex ex':List Addr}{H1 H2:Hp}{h1 h2:Heap}{x e:Addr}
theorem Un.any(u:Un fs ex H H1 h h1){ob:Obj}(q:h.get? b=some ob)(n:H b=none)(hx:b∉ex):∃sl,h1.get? b=some { ob with slots:=sl }:=by
 by_cases hb:b∈fs
 .exact u.slot b ob q n hb hx
 .exact⟨ob.slots,u.keep b ob q n hb hx⟩
theorem Un.trans(a:Un fs ex H H1 h h1)(b:Un fs ex H1 H2 h1 h2):Un fs ex H H2 h h2 where
 keep:=λc ob q n hc hx=>b.keep c ob (a.keep c ob q n hc hx) (a.free c ob q n hx) hc hx
 slot:=λc ob q n hc hx=>by
  obtain⟨sl,e1⟩:=a.slot c ob q n hc hx;obtain⟨sl',e2⟩:=b.slot c _ e1 (a.free c ob q n hx) hc hx;exact⟨sl',e2⟩
 free:=λc ob q n hx=>by
  obtain⟨o',e1⟩:=a.there c ob q hx;exact b.free c o' e1 (a.free c ob q n hx) hx
 there:=λc ob q hx=>by
  obtain⟨o',e1⟩:=a.there c ob q hx;exact b.there c o' e1 hx
 tups:=λc xs q=>b.tups c xs (a.tups c xs q)
 frzs:=λc ob xs q=>b.frzs c ob xs (a.frzs c ob xs q)
 tbls:=λc ps q=>by
  obtain⟨m1,e1⟩:=a.tbls c ps q;obtain⟨m2,e2⟩:=b.tbls c _ e1;exact⟨m1++m2,by rw[e2,tm]⟩
 sys:=λhx ⟨o,e⟩ n=>b.sys hx (a.there _ o e hx) (a.sys hx ⟨o,e⟩ n)
theorem Un.kept(k:∀b u,h.get? b=some u->h'.get? b=some u):Un fs ex H H h h':=
 ⟨λb ob q _ _ _=>k b ob q,λb ob q _ _ _=>⟨ob.slots,k b ob q⟩,λ_ _ _ n _=>n,λb ob q _=>⟨ob,k b ob q⟩,λ_ _ q=>q,λ_ _ _ q=>q,λ_ ps q=>⟨#[],by rw[q];simp⟩,λ_ _ n=>n⟩
theorem Un.refl:Un fs ex H H h h:=Un.kept λ_ _ q=>q
theorem Un.laid(k:∀b u,h.get? b=some u->h'.get? b=some u)(hp:h.objs.size<=a)(hn:H a=none):Un fs ex H (upd H a o) h h' where
 keep:=λb u q _ _ _=>k b u q
 slot:=λb u q _ _ _=>⟨u.slots,k b u q⟩
 free:=λb u q n _=>by rw[aE (el (cG (bY q) hp))];exact n
 there:=λb u q _=>⟨u,k b u q⟩
 tups:=λb xs q=>by rw[aE (bS q hn)];exact q
 frzs:=λb u xs q=>by rw[aE (bS q hn)];exact q
 tbls:=λb ps q=>⟨#[],by rw[aE (bS q hn),q];simp⟩
 sys:=λ_ ⟨_,q⟩ n=>by rw[aE (el (cG (lQ (by decide) (bY q)) hp))];exact n
theorem Un.write(mu:rN (H x))(he:e=x\/H e=some (.own x))(k:∀b u,b≠e->h.get? b=some u->h'.get? b=some u)(heo:∃u,h'.get? e=some u)(hk:(∃us,H x=some (.lst us))\/∀us,o≠.lst us):Un fs ex H (upd H x o) h h':=by
 have hx:∀b,H b=none->b≠x:=λb n z=>by subst z;rw[n] at mu;exact mu
 have hb:∀b,H b=none->b≠e:=λb n z=>by
  subst z;rcases he with r|r
  .exact hx b n r
  .rw[n] at r;cases r
 have hm:∀b u,H b=some u->¬rN (some u)->b≠x:=λb u q nm z=>by subst z;rw[q] at mu;exact nm mu
 refine ⟨λb u q n _ _=>k b u (hb b n) q,λb u q n _ _=>⟨u.slots,k b u (hb b n) q⟩,λb u q n _=>by rw [aE (hx b n)];exact n,λb u q _=>?_,
  λb xs q=>by rw[aE (hm b _ q λz=>z)];exact q,λb u xs q=>by rw[aE (hm b _ q λz=>z)];exact q,λb ps q=>⟨#[],by rw[aE (hm b _ q λz=>z),q];simp⟩,λ_ _ n ys=>by
   by_cases z:sysModules=x
   .rw[z,aF]
    rcases hk with⟨us,hk⟩|hk
    .exact Eb (z▸hk) (n us)
    .exact λy=>hk ys (Ed y)
   .rw[aE z];exact n ys⟩
 by_cases hbe:b=e
 .subst hbe;exact heo
 .exact⟨u,k b u hbe q⟩
end
def rO(h:Heap)(H:Hp):List Addr:=(List.range h.objs.size).filter λa=>(H a).isSome
def fb(h:Heap)(H:Hp):Heap:=PySem.W.hideAll h (rO h H)
theorem io(h:Heap)(H:Hp):(fb h H).objs.size=h.objs.size:=PySem.W.hideAll_size _ _
theorem jk{o:Obj}(e:h.get? b=some o)(n:H b=none):(fb h H).get? b=some o:=
 PySem.W.hideAll_get _ e λhm=>by
  have q:(H b).isSome=true:=(List.mem_filter.mp hm).2;rw[n] at q;simp at q
theorem kN{o:Obj}(e:(fb h H).get? b=some o):h.get? b=some o/\H b=none:=by
 have e':h.get? b=some o:=PySem.W.of_hideAll (rO h H) e;refine⟨e',?_⟩;cases q:H b with
 |none=>rfl
 |some x=>
  have hm:b∈rO h H:=List.mem_filter.mpr ⟨Yag.mpr (bY e'),by simp[q]⟩;have z:(fb h H).get? b=none:=PySem.W.hideAll_none (rO h H) hm;rw[z] at e;cases e
def kO(g h:Heap)(L:Addr):List (Addr×Obj):=(List.range h.objs.size).filterMap λa=>if a=L\/(g.get? a).isSome=true then none else(h.get? a).map λo=>(a,o)
def rest(g h:Heap)(L d:Addr):List (Addr×Obj):=(kO g h L).filter λp=>decide (p.1≠d)
structure Mod(K:D9)(mg:Str->Option Value)(base:Heap):Prop where
 kin:K.In base
 glob:base.Ns mainGlobals mg
 blt:∃mb,base.Ns builtinsNs mb/\∀x:Str,x≠ "__name__" ->mb x=bootBuiltins x
 nolimit:base.NoLimit
structure Cx where
 prog:Program
 w:World
 K:D9
 mg:Str->Option Value
 base:Heap
 A:Around
 N:List Str
 s₀:Shared
 H₀:Hp
 env:Env
 outer:List Env
 stack:List Env
 ex:List Addr
 fn:Str->Bool
 calm:Bool
 pn:List (Addr×Obj)
 xe:Value->Shared->Prop
variable{X:Cx}
def bX(l:List Env):List Addr:=l.filterMap (·.frame)
abbrev Cx.fs(X:Cx):List Addr:=bX X.outer
def g5(sc:Scope)(x:Str):Prop:=sc.names.lookup x=some .local\/sc.names.lookup x=some .cell\/sc.names.lookup x=some .free
def i5(sc:Scope)(x:Str):Prop:=sc.names.lookup x=some .local\/sc.names.lookup x=some .cell
def tL(env:Env)(h:Heap)(m:Str->Option Value)(x:Str)(u:Value):Prop:=
 (env.kindOf x=some .local/\m x=some u)\/((env.kindOf x=some .cell\/env.kindOf x=some .free)/\∃c,env.cells.lookup x=some c/\h.IsCell c (some u))
structure Cx.Ok(X:Cx):Prop where
 mod:Mod X.K X.mg X.base
 kind:X.env.scope.kind=.function
 glob:X.env.globals=mainGlobals
 blt:X.env.builtins=builtinsNs
 above:X.s₀.heap.objs.size<=X.env.locals
 inj:∀x y c,X.env.cells.lookup x=some c->X.env.cells.lookup y=some c->x=y
 has:∀x,(X.env.kindOf x=some .cell\/X.env.kindOf x=some .free)->∃c,X.env.cells.lookup x=some c
 cab:∀x c,X.fn x=true->X.env.cells.lookup x=some c->X.s₀.heap.objs.size<=c
 hd:X.calm=true->X.A.handled=none
 frames:X.A.frames=some X.stack
 stk:X.stack=X.outer\/(X.stack=X.env::X.outer/\X.env.frame=some X.env.locals)
 exf:∀b∈X.ex,b≠X.env.locals/\∀x c,X.env.cells.lookup x=some c->c≠b
 bs:∀b o,X.base.get? b=some o->X.s₀.heap.get? b=some o/\X.H₀ b=none
 bsz:X.base.objs.size<=X.s₀.heap.objs.size
 noex:∀b o,X.base.get? b=some o->b∉X.ex
 exfs:∀b∈X.ex,b∉X.fs
 funs:X.s₀.heap.FunFrames X.base X.outer
 frf:∀b∈X.fs,X.H₀ b=none
 sys0:∀xs,X.H₀ sysModules≠some (.lst xs)
structure Inv(X:Cx)(pins:List (Addr×Obj))(σ:List (Option V))(H:Hp)(s:Shared):Prop where
 ok:X.Ok
 os:s.os=X.s₀.os
 bare:AllBare s.gens
 base:Un X.fs X.ex X.H₀ H X.s₀.heap s.heap
 loc:∃m,s.heap.Ns X.env.locals m/\∀(i:Nat) (x:Str) (v:V),X.N[i]? = some x->σ[i]? = some (some v)->g5 X.env.scope x->∃u,RelV v u/\tL X.env s.heap m x u
 cell:∀x c,X.env.cells.lookup x=some c->∃v,s.heap.IsCell c v
 free:H X.env.locals=none
 freeC:∀x c,X.env.cells.lookup x=some c->H c=none
 pin:∀p∈X.pn++pins,s.heap.get? p.1=some p.2/\H p.1=none/\p.1≠X.env.locals/\p.1∉X.fs/\∀v,p.2.data≠.cell v
 hok:HOk X.prog X.w H s.heap
 len:σ.length=X.N.length
section
variable{σ:List (Option V)}
theorem Cx.Ok.nofr(ok:X.Ok){o:Obj}(e:X.base.get? b=some o):b∉X.fs:=λhb=>by
 have:=(ok.funs.mem hb).1;rw[e] at this;cases this
theorem Inv.bs(I:Inv X pins σ H s):∀b o,X.base.get? b=some o->s.heap.get? b=some o/\H b=none:=λb o e=>
 ⟨I.base.keep b o (I.ok.bs b o e).1 (I.ok.bs b o e).2 (I.ok.nofr e) (I.ok.noex b o e),I.base.free b o (I.ok.bs b o e).1 (I.ok.bs b o e).2 (I.ok.noex b o e)⟩
theorem Inv.bk(I:Inv X pins σ H s):∀b o,X.base.get? b=some o->s.heap.get? b=some o:=λb o e=>(I.bs b o e).1
theorem Inv.mod(I:Inv X pins σ H s):Mod X.K X.mg X.base:=I.ok.mod
theorem Inv.hasG(I:Inv X pins σ H s):∃o,s.heap.get? mainGlobals=some o:=by
 obtain⟨o,_,_,e,_⟩:=I.ok.mod.glob;exact⟨o,I.bk _ _ e⟩
theorem Inv.sysn(I:Inv X pins σ H s):∀xs,H sysModules≠some (.lst xs):=by
 obtain⟨o,_,_,e,_⟩:=I.ok.mod.glob;exact I.base.sys (I.ok.noex _ _ e) ⟨o,(I.ok.bs _ _ e).1⟩ I.ok.sys0
theorem Inv.kIn(I:Inv X pins σ H s):X.K.In s.heap:=I.ok.mod.kin.keeps I.bk
theorem Inv.lt(I:Inv X pins σ H s):X.env.locals<s.heap.objs.size:=let⟨_,hn,_⟩:=I.loc;hn.lt
theorem Inv.sz(I:Inv X pins σ H s):X.s₀.heap.objs.size<=s.heap.objs.size:=fA I.ok.above (o7 I.lt)
theorem Inv.nofs(I:Inv X pins σ H s)(h:s.heap.objs.size<=a):a∉X.fs:=λhb=>by
 obtain⟨_,o,ho,_⟩:=I.ok.funs.mem hb;exact Eb (cG (bY ho) (fA I.sz h)) (gp _)
theorem Inv.cne(I:Inv X pins σ H s):∀x c,X.env.cells.lookup x=some c->c≠X.env.locals:=λx c e z=>by
 obtain⟨v,o,ho,hd⟩:=I.cell x c e;obtain⟨m,⟨o',es,ep,ho',hd',_⟩,_⟩:=I.loc;rw[z,ho'] at ho;cases ho;rw[hd'] at hd;cases hd
theorem Inv.funs(I:Inv X pins σ H s):s.heap.FunFrames X.base X.outer:=by
 have all:∀(l:List Env),(∀b∈bX l,b∈X.fs)->X.s₀.heap.FunFrames X.base l->s.heap.FunFrames X.base l:=by
  intro l
  induction l with
  |nil=>intro _ _;trivial
  |cons env r ih=>
   intro hs hl;obtain⟨hk,⟨L,o,hf,hn,ho,hd⟩,hr⟩:=hl;have hL:L∈X.fs:=hs L (by unfold bX;rw[rq,hf];exact en);obtain⟨sl,e⟩:=I.base.slot L o ho (I.ok.frf L hL) hL λz=>I.ok.exfs L z hL;exact⟨hk,⟨L,_,hf,hn,e,hd⟩,ih (λb hb=>hs b (by unfold bX;rw[rq,hf];exact da _ hb)) hr⟩
 exact all X.outer (λ_ hb=>hb) I.ok.funs
theorem Inv.stack(I:Inv X pins σ H s):s.heap.FunFrames X.base X.stack:=by
 rcases I.ok.stk with e|⟨e,hf⟩
 .rw[e];exact I.funs
 .rw[e]
  obtain⟨m,hn,_⟩:=I.loc;refine .cons (by rw[I.ok.kind];decide) hf hn ?_ I.funs;exact rz (fA I.ok.bsz I.ok.above)
theorem Inv.stkSub(I:Inv X pins σ H s):∀b∈bX X.stack,b∈X.env.locals::X.fs:=λb hb=>by
 rcases I.ok.stk with e|⟨e,hf⟩
 .rw[e] at hb;exact da _ hb
 .rw[e] at hb
  unfold bX at hb;rw[rq,hf] at hb;exact hb
theorem Inv.stkFree(I:Inv X pins σ H s):∀b∈bX X.stack,H b=none:=λb hb=>by
 rcases Yan.mp (I.stkSub b hb) with e|hb
 .rw[e];exact I.free
 .obtain⟨_,o,ho,_⟩:=I.ok.funs.mem hb
  exact I.base.free b o ho (I.ok.frf b hb) λz=>I.ok.exfs b z hb
theorem Inv.step(I:Inv X pins σ H s)
  (hch:∀b∈ch,(b∈X.ex\/X.s₀.heap.objs.size<=b)/\b≠X.env.locals/\(∀x c,X.env.cells.lookup x=some c->c≠b)/\∀p∈X.pn++pins,p.1≠b)
  (keep:∀b o,b≠X.env.locals->b∉X.fs->b∉ch->s.heap.get? b=some o->H b=none->h'.get? b=some o)
  (slot:∀b o,b≠X.env.locals->b∈X.fs->b∉ch->s.heap.get? b=some o->H b=none->∃sl,h'.get? b=some { o with slots:=sl }) (free:∀b o,b∉ch->s.heap.get? b=some o->H b=none->H' b=none)
  (there:∀b o,b∉ch->s.heap.get? b=some o->∃o',h'.get? b=some o')
  (tups:∀b xs,H b=some (.tup xs)->H' b=some (.tup xs)) (frzs:∀b o u,H b=some (.frz o u)->H' b=some (.frz o u)) (tbls:∀b ps,H b=some (.tbl ps)->∃more,H' b=some (.tbl (ps++more)))
  (ns:∀m,s.heap.Ns X.env.locals m->h'.Ns X.env.locals m) (hok:HOk X.prog X.w H' h') (hg:AllBare g') (sy:(∀xs,H sysModules≠some (.lst xs))->∀xs,H' sysModules≠some (.lst xs)) :
  Inv X pins σ H' { s with heap:=h',gens:=g',drawn:=d',toks:=t' }:=by
 have neL:∀b o,X.s₀.heap.get? b=some o->b≠X.env.locals:=λb o e=>el (cG (bY e) I.ok.above);have neC:∀b o,X.s₀.heap.get? b=some o->b∉X.ex->b∉ch:=λb o e hx hb=>by
  rcases(hch b hb).1 with z|z
  .exact hx z
  .exact Eb (cG (bY e) z) (gp _)
 have cellK:∀x c,X.env.cells.lookup x=some c->∀v,s.heap.IsCell c v->h'.IsCell c v:=λx c e v ⟨o,ho,hd⟩=>by
  have nch:c∉ch:=λz=>(hch c z).2.2.1 x c e rfl
  by_cases hc:c∈X.fs
  .obtain⟨sl,q⟩:=slot c o (I.cne x c e) hc nch ho (I.freeC x c e)
   exact⟨_,q,hd⟩
  .exact⟨o,keep c o (I.cne x c e) hc nch ho (I.freeC x c e),hd⟩
 refine⟨I.ok,I.os,hg,⟨λb o e n hb hx=>?_,λb o e n hb hx=>?_,λb o e n hx=>?_,λb o e hx=>?_,λb xs e=>tups b xs (I.base.tups b xs e),λb o xs e=>frzs b o xs (I.base.frzs b o xs e),λb ps e=>?_,λx0 e0 n=>sy (I.base.sys x0 e0 n)⟩,?_,λx c e=>?_,?_,λx c e=>?_,λp hp=>?_,hok,I.len⟩
 .exact keep b o (neL b o e) hb (neC b o e hx) (I.base.keep b o e n hb hx) (I.base.free b o e n hx)
 .obtain⟨sl,e1⟩:=I.base.slot b o e n hb hx
  obtain⟨sl',e2⟩:=slot b _ (neL b o e) hb (neC b o e hx) e1 (I.base.free b o e n hx);exact⟨sl',e2⟩
 .obtain⟨o',e1⟩:=I.base.there b o e hx
  exact free b o' (neC b o e hx) e1 (I.base.free b o e n hx)
 .obtain⟨o',e1⟩:=I.base.there b o e hx
  exact there b o' (neC b o e hx) e1
 .obtain⟨m1,e1⟩:=I.base.tbls b ps e
  obtain⟨m2,e2⟩:=tbls b _ e1;exact⟨m1++m2,by rw[e2,tm]⟩
 .obtain⟨m,hn,hl⟩:=I.loc
  refine⟨m,ns m hn,λi x v e1 e2 e3=>?_⟩;obtain⟨u,r,l⟩:=hl i x v e1 e2 e3;refine⟨u,r,?_⟩;rcases l with l|⟨k,c,e,z⟩
  .exact .inl l
  .exact .inr ⟨k,c,e,cellK x c e _ z⟩
 .obtain⟨v,z⟩:=I.cell x c e
  exact⟨v,cellK x c e v z⟩
 .obtain⟨m,⟨o,_,_,ho,_⟩,_⟩:=I.loc
  exact free _ o (λz=>(hch _ z).2.1 rfl) ho I.free
 .obtain⟨v,o,ho,hd⟩:=I.cell x c e
  exact free c o (λz=>(hch c z).2.2.1 x c e rfl) ho (I.freeC x c e)
 .obtain⟨e,n,ne,nf,d⟩:=I.pin p hp
  have nch:p.1∉ch:=λz=>(hch p.1 z).2.2.2 p hp rfl;exact⟨keep p.1 p.2 ne nf nch e n,free p.1 p.2 nch e n,ne,nf,d⟩
theorem Inv.un(I:Inv X pins σ H s)(u:Un X.fs [] H H' s.heap h')(hok:HOk X.prog X.w H' h'):Inv X pins σ H' { s with heap:=h',toks:=t' }:=by
 obtain⟨m,⟨o,es,ep,ho,r⟩,_⟩:=id I.loc;obtain⟨sl,hL⟩:=u.any ho I.free (by simp);exact I.step (g':=s.gens) (d':=s.drawn) (ch:=[]) (λ_ z=>nomatch z) (λb o _ hb _ e n=>u.keep b o e n hb (by simp)) (λb o _ hb _ e n=>u.slot b o e n hb (by simp)) (λb o _ e n=>u.free b o e n (by simp)) (λb o _ e=>u.there b o e (by simp)) u.tups u.frzs u.tbls (λm' hm=>by
  obtain⟨o',es',ep',ho',r'⟩:=hm;rw[ho] at ho';cases ho';exact⟨_,es',ep',hL,r'⟩) hok I.bare (u.sys (by simp) I.hasG)
theorem Inv.call(I:Inv X pins σ H s)(u:Un (bX X.stack) ch H H' s.heap h')(hok:HOk X.prog X.w H' h')(hg:AllBare g')
  (hch:∀b∈ch,(b∈X.ex\/X.s₀.heap.objs.size<=b)/\b≠X.env.locals/\(∀x c,X.env.cells.lookup x=some c->c≠b)/\∀p∈X.pn++pins,p.1≠b) :
  Inv X pins σ H' { s with heap:=h',gens:=g',drawn:=d',toks:=t' }:=by
 obtain⟨m,⟨o,es,ep,ho,r⟩,_⟩:=id I.loc;obtain⟨sl,hL⟩:=u.any ho I.free λz=>(hch _ z).2.1 rfl;exact I.step (ch:=ch) hch (λb o hL hb hc e n=>u.keep b o e n (λz=>(Yan.mp (I.stkSub b z)).elim hL hb) hc) (λb o _ _ hc e n=>u.any e n hc) (λb o hc e n=>u.free b o e n hc) (λb o hc e=>u.there b o e hc) u.tups u.frzs u.tbls (λm' hm=>by
  obtain⟨o',es',ep',ho',r'⟩:=hm;rw[ho] at ho';cases ho';exact ⟨_,es',ep',hL,r'⟩) hok hg (u.sys (λz=>by
   obtain⟨o0,_,_,e0,_⟩:=I.ok.mod.glob;rcases(hch _ z).1 with y|y
   .exact I.ok.noex _ _ e0 y
   .exact Eb (cG (bY (I.ok.bs _ _ e0).1) y) (gp _)) I.hasG)
theorem Inv.turned(I:Inv X pins σ H s)(k:∀b o,b≠it->s.heap.get? b=some o->h'.get? b=some o)(hn:H it=none)(hL:it≠X.env.locals)
  (h1:it∈X.ex\/X.s₀.heap.objs.size<=it) (h2:∀x c,X.env.cells.lookup x=some c->c≠it) (h3:∀p∈X.pn++pins,p.1≠it):Inv X pins σ H { s with heap:=h',toks:=t' }:=by
 have nit:∀b u,H b=some u->b≠it:=λb u e z=>by rw[z,hn] at e;cases e
 refine I.step (g':=s.gens) (d':=s.drawn) (ch:=[it]) (λb hb=>?_) (λb o _ _ hc e _=>k b o (λz=>hc (by simp[z])) e) (λb o _ _ hc e _=>⟨o.slots,k b o (λz=>hc (by simp[z])) e⟩) (λ_ _ _ _ n=>n)
  (λb o hc e=>⟨o,k b o (λz=>hc (by simp[z])) e⟩) (λ_ _ e=>e) (λ_ _ _ e=>e) (λb ps e=>⟨#[],by rw[e];simp⟩) (λm hm=>?_) (λb u e=>?_) I.bare (λn=>n)
 .have e:b=it:=by simpa using hb
  subst e;exact⟨h1,hL,h2,h3⟩
 .obtain⟨o,es,ep,ho,r⟩:=hm
  exact⟨o,es,ep,k _ o (Em hL) ho,r⟩
 .refine(I.hok b u e).stay (λc v hc q=>k c v ?_ q) (λ_ q=>q) λ_ _ q=>q
  rcases hc with z|z
  .rw[z];exact nit b u e
  .exact nit c _ z
theorem Inv.tok(I:Inv X pins σ H s)(t:Nat):Inv X pins σ H { s with toks:=t }:=I.un (h':=s.heap) (t':=t) Un.refl I.hok
theorem Inv.kept{t':Nat}(I:Inv X pins σ H s)(k:∀b u,s.heap.get? b=some u->h'.get? b=some u):Inv X pins σ H { s with heap:=h',toks:=t' }:=I.un (Un.kept k) (I.hok.kept k)
theorem Inv.laid{a:Addr}{o:HO}{t':Nat}(I:Inv X pins σ H s)(k:∀b u,s.heap.get? b=some u->h'.get? b=some u)(hp:s.heap.objs.size<=a)(new:ObjOk X.prog X.w (upd H a o) h' a o) :
  Inv X pins σ (upd H a o) { s with heap:=h',toks:=t' }:=I.un (Un.laid k hp (I.hok.fresh hp)) (I.hok.laid k hp new)
theorem Inv.write{x e:Addr}{o:HO}{t':Nat}(I:Inv X pins σ H s)(mu:rN (H x))(he:e=x\/H e=some (.own x))(k:∀b u,b≠e->s.heap.get? b=some u->h'.get? b=some u)(heo:∃u,h'.get? e=some u)
  (new:ObjOk X.prog X.w (upd H x o) h' x o) (hk:(∃us,H x=some (.lst us))\/∀us,o≠.lst us):Inv X pins σ (upd H x o) { s with heap:=h',toks:=t' }:=I.un (Un.write mu he k heo hk) (I.hok.write mu he k heo new)
theorem Inv.pins_of{pins':List (Addr×Obj)}(I:Inv X pins σ H s)(h:∀p∈pins',s.heap.get? p.1=some p.2/\H p.1=none/\p.1≠X.env.locals/\p.1∉X.fs/\∀v,p.2.data≠.cell v):Inv X pins' σ H s:=
 ⟨I.ok,I.os,I.bare,I.base,I.loc,I.cell,I.free,I.freeC,λp hp=>(Yao.mp hp).elim (λz=>I.pin p (tq _ z)) (h p),I.hok,I.len⟩
theorem fN(hN:N.Nodup){i:Nat}(a:N[i]? = some x)(b:N[j]? = some x):i=j:=by
 obtain⟨h1,e1⟩:=Yaq.mp a;obtain⟨h2,e2⟩:=Yaq.mp b;exact(List.getElem_inj hN).mp (e1.trans e2.symm)
theorem db{i:Nat}{u:Value}{Q:Unit->Shared->Prop}(I:Inv X pins σ H s)(hN:X.N.Nodup)(hi:X.N[i]? = some x)(hx:i5 X.env.scope x)(r:RelV v u)
  (h:∀s',Inv X pins (σ.set i (some v)) H s'->(∃a,Heap.SameBut a s.heap s'.heap/\(a=X.env.locals\/X.env.cells.lookup x=some a))->Q () s') (hf:X.fn x=true\/X.env.scope.names.lookup x=some .local:=by first|exact .inl rfl|exact .inr rfl|assumption):wpAny M A (storeName X.env x u) Q E s:=by
 obtain⟨m,hn,hl⟩:=id I.loc;have hcls:(X.env.scope.kind==.class||(X.env.scope.kind==.module&&X.env.locals != X.env.globals))=false:=by rw[I.ok.kind];rfl
 have hiσ:i<σ.length:=by rw[I.len];exact(Yaq.mp hi).1
 have cne:=I.cne;have tracked:∀{a:Addr} {h':Heap},(∃o,s.heap.get? a=some o/\H a=none)->Heap.SameBut a s.heap h'->HOk X.prog X.w H h':=λ{a h'} ha hs b ob e=>by
  obtain⟨_,_,hfree⟩:=ha;refine(I.hok b ob e).stay (λc w' hc q=>(hs.2 c ?_).trans q) (λ_ q=>q) λ_ _ q=>q;rintro rfl;rcases hc with rfl|hc
  .rw[hfree] at e;cases e
  .rw[hfree] at hc;cases hc
 rcases hx with hk|hk
 .refine wpAny_storeName_local hk hn (λh' hn' hs=>?_) hcls
  obtain⟨oL,_,_,hoL,_⟩:=id hn;refine h _ ⟨I.ok,I.os,I.bare,⟨λb o e n hb hx=>?_,λb o e n hb hx=>?_,I.base.free,λb o e hx=>?_,I.base.tups,I.base.frzs,I.base.tbls,I.base.sys⟩,⟨_,hn',λj y v' e1 e2 e3=>?_⟩,λy c e=>?_,I.free,I.freeC,λp hp=>?_,tracked ⟨oL,hoL,I.free⟩ hs,by simpa using I.len⟩ ⟨_,hs,.inl rfl⟩
  .exact(hs.2 b (el (cG (bY e) I.ok.above))).trans (I.base.keep b o e n hb hx)
  .obtain⟨sl,e1⟩:=I.base.slot b o e n hb hx
   exact⟨sl,(hs.2 b (el (cG (bY e) I.ok.above))).trans e1⟩
  .obtain⟨o',e1⟩:=I.base.there b o e hx
   exact⟨o',(hs.2 b (el (cG (bY e) I.ok.above))).trans e1⟩
  .by_cases hj:j=i
   .subst hj
    rw[hi] at e1;cases e1;rw[cN hiσ] at e2;cases e2;exact⟨u,r,.inl ⟨hk,by simp⟩⟩
   .rw[cm (Em hj)] at e2
    obtain⟨u',r',q⟩:=hl j y v' e1 e2 e3;refine⟨u',r',?_⟩;rcases q with⟨k,e⟩|⟨k,c,e,z⟩
    .refine .inl ⟨k,?_⟩
     have:y≠x:=λe=>hj (fN hN e1 (e▸hi));simp[this,e]
    .exact .inr ⟨k,c,e,z.sameBut hs (cne y c e)⟩
  .obtain⟨w',z⟩:=I.cell y c e
   exact⟨w',z.sameBut hs (cne y c e)⟩
  .obtain⟨e,n,ne,nf,d⟩:=I.pin p hp
   exact⟨(hs.2 p.1 ne).trans e,n,ne,nf,d⟩
 .have hfn:X.fn x=true:=by
   rcases hf with z|z
   .exact z
   .rw[z] at hk;cases hk
  obtain⟨c,hc⟩:=I.ok.has x (.inl hk);obtain⟨w',z⟩:=I.cell x c hc;refine wpAny_storeName_cell I.ok.kind hk hc z (λh' hc' hs=>?_);obtain⟨oc,hoc,hocd⟩:=id z;refine h { s with heap:=h' } ⟨I.ok,I.os,I.bare,⟨λb o e n hb hx=>?_,λb o e n hb hx=>?_,I.base.free,λb o e hx=>?_,I.base.tups,I.base.frzs,I.base.tbls,I.base.sys⟩,⟨m,hn.sameBut hs (Em (cne x c hc)),λj y v' e1 e2 e3=>?_⟩,λy c' e=>?_,I.free,I.freeC,λp hp=>?_,tracked ⟨oc,hoc,I.freeC x c hc⟩ hs,by simpa using I.len⟩ ⟨c,hs,.inr hc⟩
  .exact(hs.2 b (el (cG (bY e) (I.ok.cab x c hfn hc)))).trans (I.base.keep b o e n hb hx)
  .obtain⟨sl,e1⟩:=I.base.slot b o e n hb hx
   exact⟨sl,(hs.2 b (el (cG (bY e) (I.ok.cab x c hfn hc)))).trans e1⟩
  .obtain⟨o',e1⟩:=I.base.there b o e hx
   exact⟨o',(hs.2 b (el (cG (bY e) (I.ok.cab x c hfn hc)))).trans e1⟩
  .by_cases hj:j=i
   .subst hj
    rw[hi] at e1;cases e1;rw[cN hiσ] at e2;cases e2;exact⟨u,r,.inr ⟨.inl hk,c,hc,hc'⟩⟩
   .rw[cm (Em hj)] at e2
    obtain⟨u',r',q⟩:=hl j y v' e1 e2 e3;refine⟨u',r',?_⟩;rcases q with q|⟨k,c',e,z'⟩
    .exact .inl q
    .refine .inr ⟨k,c',e,z'.sameBut hs ?_⟩
     rintro rfl;exact hj (fN hN e1 (I.ok.inj _ _ _ e hc▸hi))
  .by_cases hcc:c'=c
   .subst hcc;exact⟨_,hc'⟩
   .obtain⟨w2,z2⟩:=I.cell y c' e
    exact⟨w2,z2.sameBut hs hcc⟩
  .obtain⟨e,n,ne,nf,d⟩:=I.pin p hp
   refine⟨(hs.2 p.1 ?_).trans e,n,ne,nf,d⟩;intro q;rw[q,hoc] at e;have q':oc=p.2:=Ed e;exact d w' (by rw[<-q'];exact hocd)
theorem cS{i:Nat}{u:Value}{Q:Unit->Shared->Prop}(I:Inv X pins σ H s)(hN:X.N.Nodup)(hi:X.N[i]? = some x)(hx:i5 X.env.scope x)(r:RelV v u)
  (h:∀s',Inv X pins (σ.set i (some v)) H s'->Q () s') (hf:X.fn x=true\/X.env.scope.names.lookup x=some .local:=by first|exact .inl rfl|exact .inr rfl|assumption):wpAny M A (storeName X.env x u) Q E s:=
 db I hN hi hx r (λs' I' _=>h s' I') hf
theorem Inv.call'(I:Inv X pins σ H s)(ho:s'.os=s.os)(u:Un (bX X.stack) ch H H' s.heap s'.heap)(hok:HOk X.prog X.w H' s'.heap)(hg:AllBare s'.gens)
  (hch:∀b∈ch,(b∈X.ex\/X.s₀.heap.objs.size<=b)/\b≠X.env.locals/\(∀x c,X.env.cells.lookup x=some c->c≠b)/\∀p∈X.pn++pins,p.1≠b):Inv X pins σ H' s':=by
 obtain⟨h',g',d',t',o'⟩:=s';have e:o'=s.os:=ho;subst e;exact I.call (g':=g') (t':=t') (d':=d') u hok hg hch
end
abbrev XK:=Value->Option Addr->Hp->Prop
abbrev St:=List (Option V)
variable{σ:St}
abbrev VK:=V->Hp->Prop
abbrev TE:=St->Hp->VK->Prop
variable{ta tb te:TE}
abbrev TT:=St->Hp->(Bool->Hp->Prop)->Prop
variable{tc:TT}
abbrev TA:=St->Hp->(List V->Hp->Prop)->Prop
variable{t:TA}
structure fO where
 nx:St->Hp->Prop
 rt:VK
 bk:St->Hp->Prop:=λ_ _=>False
 ct:St->Hp->Prop:=λ_ _=>False
abbrev TS:=fO->St->Hp->Prop
def EP(X:Cx)(pins:List (Addr×Obj))(σ:St)(Q:VK)(u:Value)(s':Shared):Prop:=∃v H',Inv X pins σ H' s'/\RelV v u/\Q v H'
def TP(X:Cx)(pins:List (Addr×Obj))(σ:St)(Q:Bool->Hp->Prop)(b:Bool)(s':Shared):Prop:=∃H',Inv X pins σ H' s'/\Q b H'
def AP(X:Cx)(pins:List (Addr×Obj))(σ:St)(Q:List V->Hp->Prop)(us:List Value)(s':Shared):Prop:=∃vs H',Inv X pins σ H' s'/\Vals vs us/\Q vs H'
def SP(X:Cx)(pins:List (Addr×Obj))(D:fO)(f:Flow)(s':Shared):Prop:=
 match f with
 |.next=>∃σ' H',Inv X pins σ' H' s'/\D.nx σ' H'
 |.brk=>∃σ' H',Inv X pins σ' H' s'/\D.bk σ' H'
 |.cont=>∃σ' H',Inv X pins σ' H' s'/\D.ct σ' H'
 |.ret u=>∃v σ' H',Inv X pins σ' H' s'/\RelV v u/\D.rt v H'
def PE(X:Cx)(e:Expr)(t:TE):Prop:=
 ∀(pins:List (Addr×Obj)) (s:Shared) (σ:St) (H:Hp) (Q:VK),Inv X pins σ H s->t σ H Q->wpAny (model X.prog X.w) X.A (eval e X.env) (EP X pins σ Q) X.xe s
def PT(X:Cx)(e:Expr)(t:TT):Prop:=
 ∀(pins:List (Addr×Obj)) (s:Shared) (σ:St) (H:Hp) (Q:Bool->Hp->Prop),Inv X pins σ H s->t σ H Q->wpAny (model X.prog X.w) X.A (isTrue e X.env (eval e X.env)) (TP X pins σ Q) X.xe s
def PW(X:Cx)(e:Expr)(t:TT):Prop:=
 ∀(whole:Sem Value) (pins:List (Addr×Obj)) (s:Shared) (σ:St) (H:Hp) (Q:Bool->Hp->Prop),Inv X pins σ H s->t σ H Q->wpAny (model X.prog X.w) X.A (isTrue e X.env whole) (TP X pins σ Q) X.xe s
theorem PW.pt{t:TT}(h:PW X e t):PT X e t:=h _
def PA(X:Cx)(es:List Expr)(t:TA):Prop:=
 ∀(pos:Pos) (pins:List (Addr×Obj)) (s:Shared) (σ:St) (H:Hp) (Q:List V->Hp->Prop),Inv X pins σ H s->t σ H Q->wpAny (model X.prog X.w) X.A (spliced (backTo pos (starEach es X.env))) (AP X pins σ Q) X.xe s
def PS(X:Cx)(st:Stmt)(t:TS):Prop:=
 ∀(pins:List (Addr×Obj)) (s:Shared) (σ:St) (H:Hp) (D:fO),Inv X pins σ H s->t D σ H->wpAny (model X.prog X.w) X.A (exec st X.env) (SP X pins D) X.xe s
def i6(X:Cx)(st:List Stmt)(t:TS):Prop:=
 ∀(pins:List (Addr×Obj)) (s:Shared) (σ:St) (H:Hp) (D:fO),Inv X pins σ H s->t D σ H->wpAny (model X.prog X.w) X.A (execs st X.env) (SP X pins D) X.xe s
theorem aU{α:Type}{t:Sem α}{Q Q':α->Shared->Prop}(h:wpAny M A t Q E s)(hQ:∀a s,Q a s->Q' a s):wpAny M A t Q' E s:=Ep h hQ λ_ _ x=>x
section
theorem D5{a b:Expr}(ha:PE X a ta)(hb:PE X b tb)(I:Inv X pins σ H s)(h:ta σ H λx H1=>tb σ H1 λy H2=>R x y H2)
  {α:Type} {Q:α->Shared->Prop} {f:Value->Value->Sem α}
  (hf:∀v u s2 x y H2,Inv X pins σ H2 s2->RelV x v->RelV y u->R x y H2->wpAny (model X.prog X.w) X.A (f v u) Q X.xe s2) :
  wpAny (model X.prog X.w) X.A (eval a X.env) (λv s₁=>wpAny (model X.prog X.w) X.A (eval b X.env) (λu s₂=>wpAny (model X.prog X.w) X.A (f v u) Q X.xe s₂) X.xe s₁) X.xe s:=by
 refine aU (ha pins s σ H _ I h) λv s1 ⟨x,H1,I1,r1,q1⟩=>?_;refine aU (hb pins s1 σ H1 _ I1 q1) λu s2 ⟨y,H2,I2,r2,q2⟩=>?_;exact hf v u s2 x y H2 I2 r1 r2 q2
def jl(i:Nat):TE:=λσ H Q=>∃v,σ[i]? = some (some v)/\Q v H
def tC(v:V):TE:=λ_ H Q=>Q v H
theorem bN{i:Nat}(hN:X.N[i]? = some x)(hv:g5 X.env.scope x)(hd:(x==("__debug__" : Str))=false:=by decide)(hcd:(x==("__classdict__" : Str))=false:=by decide):PE X (.Name x pos) (jl i):=by
 intro pins s σ H Q I h;obtain⟨v,e,h⟩:=h;obtain⟨m,hn,hl⟩:=I.loc;obtain⟨u,r,l⟩:=hl i x v hN e hv;have fin:EP X pins σ Q u s:=⟨v,H,I,r,h⟩
 rcases l with⟨hk,hm⟩|⟨hk,c,hc,hcell⟩
 .exact wpAny_Name (wpAny_loadName_local I.ok.kind hk hn hm fin) hd
 .rcases hk with hk|hk
  .exact wpAny_Name (wpAny_loadName_cell I.ok.kind hk hc hcell fin) hd
  .exact wpAny_Name (wpAny_loadName_free I.ok.kind hk hc hcell fin hcd) hd
theorem de{i j pos}:PE X (.Constant (.int i) j pos) (tC (.int i)):=λ_ _ _ H _ I h=>wpAny_Constant_int ⟨.int i,H,I.tok _,⟨_,rfl⟩,h⟩
theorem pE{b j pos}:PE X (.Constant (.bool b) j pos) (tC (.bl b)):=λ_ _ _ H _ I h=>Constant_bool ⟨.bl b,H,I,rfl,h⟩
theorem mM{j pos}:PE X (.Constant .none j pos) (tC .non):=λ_ _ _ H _ I h=>Constant_none ⟨.non,H,I,rfl,h⟩
theorem mO{x j pos}:PE X (.Constant (.str x) j pos) (tC (.str x)):=λ_ _ _ H _ I h=>Calls.Constant_str ⟨.str x,H,I.tok _,⟨_,rfl⟩,h⟩
def Gl(X:Cx)(x:Str):Prop:=X.env.kindOf x=some .globalImplicit
theorem cc{u:Value}(I:Inv X pins σ H s)(hg:Gl X x)(hm:X.mg x=some u)(h:Q u s)
  (hd:(x==("__debug__" : Str))=false:=by decide):wpAny (model X.prog X.w) X.A (eval (.Name x pos) X.env) Q E s:=
 Calls.Name_function_global I.ok.kind hg (Calls.loadGlobal_global (by rw[I.ok.glob];exact I.mod.glob.keeps I.bk) hm h) hd
theorem fc{u:Value}(I:Inv X pins σ H s)(hg:Gl X x)(hm:X.mg x=none)(hv:bootBuiltins x=some u)(h:Q u s)
  (hn:x≠ "__name__" :=by decide) (hd:(x==("__debug__" : Str))=false:=by decide):wpAny (model X.prog X.w) X.A (eval (.Name x pos) X.env) Q E s:=by
 obtain⟨mb,h1,h2⟩:=I.mod.blt;exact Calls.Name_function_global I.ok.kind hg (Calls.loadGlobal_builtin (by rw[I.ok.glob];exact I.mod.glob.keeps I.bk) hm (by rw[I.ok.blt];exact h1.keeps I.bk) ((h2 x hn).trans hv) h) hd
theorem cT{u:Value}(hg:Gl X x)(hm:X.mg x=some u)(r:RelV v u)(hd:(x==("__debug__" : Str))=false:=by decide):PE X (.Name x pos) (tC v):=
 λ_ _ _ H _ I h=>cc I hg hm ⟨v,H,I,r,h⟩ hd
theorem kP{u:Value}(hg:Gl X x)(hm:X.mg x=none)(hv:bootBuiltins x=some u)(r:RelV v u)(hn:x≠ "__name__" :=by decide)(hd:(x==("__debug__" : Str))=false:=by decide):PE X (.Name x pos) (tC v):=
 λ_ _ _ H _ I h=>fc I hg hm hv ⟨v,H,I,r,h⟩ hn hd
variable{a b:Expr}
variable{tA tB':TT}{rest:List Expr}
def tM(t u:TT):TT:=λσ H Q=>t σ H λc H1=>if c=true then u σ H1 Q else Q false H1
def zZ(t u:TT):TT:=λσ H Q=>t σ H λc H1=>if c=true then Q true H1 else u σ H1 Q
def tN(t:TT):TT:=λσ H Q=>t σ H λc H1=>Q (!c) H1
theorem kQ(ha:PT X a tA):PW X (.BoolOp .And [a] pos) tA:=by
 intro wh pins s σ H Q I h;refine isTrue_and (aU (ha pins s σ H Q I h) λc s1 e=>?_);cases c with
 |true=>exact isTrue_and_nil e
 |false=>exact e
theorem jm(ha:PT X a tA):PW X (.BoolOp .Or [a] pos) tA:=by
 intro wh pins s σ H Q I h;refine isTrue_or (aU (ha pins s σ H Q I h) λc s1 e=>?_);cases c with
 |false=>exact isTrue_or_nil e
 |true=>exact e
theorem mP(ha:PT X a tA)(hb:PW X (.BoolOp .And (b::rest) pos) tB'):PW X (.BoolOp .And (a::b::rest) pos) (tM tA tB'):=by
 intro wh pins s σ H Q I h;refine isTrue_and (aU (ha pins s σ H _ I h) λc s1 ⟨H1,I1,q1⟩=>?_);cases c with
 |true=>exact hb wh pins s1 σ H1 Q I1 q1
 |false=>exact⟨H1,I1,q1⟩
theorem lX(ha:PT X a tA)(hb:PW X (.BoolOp .Or (b::rest) pos) tB'):PW X (.BoolOp .Or (a::b::rest) pos) (zZ tA tB'):=by
 intro wh pins s σ H Q I h;refine isTrue_or (aU (ha pins s σ H _ I h) λc s1 ⟨H1,I1,q1⟩=>?_);cases c with
 |true=>exact⟨H1,I1,q1⟩
 |false=>exact hb wh pins s1 σ H1 Q I1 q1
theorem jn(ha:PT X a tA):PT X (.UnaryOp .Not a pos) (tN tA):=by
 intro pins s σ H Q I h;exact isTrue_not (ha pins s σ H (λc H1=>Q (!c) H1) I h)
def pF(ta tb:TE):TE:=λσ H Q=>ta σ H λx H1=>∃c,x=.bl c/\if c=true then tb σ H1 Q else Q (.bl false) H1
def pG(ta:TE):TE:=λσ H Q=>ta σ H λx H1=>∃c,x=.bl c/\Q (.bl (!c)) H1
theorem mQ{op}{t:TE}(h:PE X a t):PE X (.BoolOp op [a] pos) t:=λpins s σ H Q I hw=>BoolOp_one (h pins s σ H Q I hw)
theorem mR(ha:PE X a ta)(hb:PE X (.BoolOp .And (b::rest) pos) tb):PE X (.BoolOp .And (a::b::rest) pos) (pF ta tb):=by
 intro pins s σ H Q I h;refine BoolOp_and (aU (ha pins s σ H _ I h) λv s1 ⟨x,H1,I1,r1,q1⟩=>?_);obtain⟨c,rfl,q1⟩:=q1;cases r1;refine Es ?_;cases c with
 |true=>exact hb pins s1 σ H1 Q I1 q1
 |false=>exact⟨.bl false,H1,I1,rfl,q1⟩
theorem mS(ha:PE X a ta):PE X (.UnaryOp .Not a pos) (pG ta):=by
 intro pins s σ H Q I h;refine UnaryOp_ (aU (ha pins s σ H _ I h) λv s1 ⟨x,H1,I1,r1,q1⟩=>?_);obtain⟨c,rfl,q1⟩:=q1;cases r1;exact not_of (Es ⟨.bl (!c),H1,I1,rfl,q1⟩)
def z4(t:TT)(ta tb:TE):TE:=λσ H Q=>t σ H λc H1=>if c=true then ta σ H1 Q else tb σ H1 Q
theorem jo(hc:PT X c tA)(ha:PE X a ta)(hb:PE X b tb):PE X (.IfExp c a b pos) (z4 tA ta tb):=by
 intro pins s σ H Q I h;refine wpAny_IfExp (aU (hc pins s σ H _ I h) λd s1 ⟨H1,I1,q1⟩=>?_);cases d with
 |true=>exact ha pins s1 σ H1 Q I1 q1
 |false=>exact hb pins s1 σ H1 Q I1 q1
end
def SqL(K:D9)(H:Hp)(a:Addr)(xs:List V):Prop:=
 Rd H a (.lst xs)\/
  ∃(o:Obj) (its:Array Value) (n:Nat),K.lookup a=some o/\o.cls=.type "list" /\o.dict=none/\o.data=.seq its n/\its.size<=sizeLine/\Vals xs its.toList
def SqT(K:D9)(H:Hp)(a:Addr)(xs:List V):Prop:=
 Rd H a (.tup xs)\/
  ∃(o:Obj) (its:Array Value) (n:Nat),K.lookup a=some o/\o.cls=.type "tuple" /\o.data=.seq its n/\its.size<=sizeLine/\Vals xs its.toList
def tO:Value->Option V
 |.none=>some .non
 |.bool b=>some (.bl b)
 |.int i _=>some (.int i)
 |.str x _=>some (.str x)
 |.bytes b _=>some (.byt b)
 |.float b _=>some (.flt b)
 |.ref a=>some (.ref a)
 |.type n=>some (.ty n)
 |_=>none
theorem RelV.abs{x:V}{u:Value}(r:RelV x u):tO u=some x:=by
 cases x with
 |non=>cases r;rfl
 |bl _=>cases r;rfl
 |int _=>obtain⟨t,rfl⟩:=r;rfl
 |str _=>obtain⟨t,rfl⟩:=r;rfl
 |byt _=>obtain⟨t,rfl⟩:=r;rfl
 |flt _=>obtain⟨t,rfl⟩:=r;rfl
 |ref _=>cases r;rfl
 |ty _=>cases r;rfl
theorem RelV.inj{x y:V}{u:Value}(r:RelV x u)(q:RelV y u):x=y:=Ed (r.abs.symm.trans q.abs)
theorem Vals.inj:∀{xs ys:List V} {us:List Value},Vals xs us->Vals ys us->xs=ys
 |_,_,_,.nil,.nil=>rfl
 |_,_,_,.cons r t,.cons r' t'=>by rw[r.inj r',Vals.inj t t']
section
variable{ys:List V}
theorem SqL.of(h:H a=some (.lst xs)):SqL K H a xs:=.inl (.inl h)
theorem SqT.of(h:H a=some (.tup xs)):SqT K H a xs:=.inl (.inl h)
theorem Inv.list(I:Inv X pins σ H s)(h:SqL X.K H a xs):∃its:List Value,Vals xs its/\PlainL s.heap a its.toArray/\xs.length<=sizeLine:=by
 rcases h with h|⟨o,its,n,hk,hc,hd,hs,hz,r⟩
 .obtain⟨z,its,n,r,e⟩:=h.ok I.hok
  exact⟨its,r,⟨_,n,e,rfl,rfl,rfl⟩,z⟩
 .refine⟨its.toList,r,⟨o,n,I.kIn a o hk,hc,hd,by simpa using hs⟩,?_⟩
  have e:=r.length;simp only[o8] at e;omega
theorem Inv.tuple(I:Inv X pins σ H s)(h:SqT X.K H a xs):∃its:List Value,Vals xs its/\IsTup s.heap a its.toArray/\xs.length<=sizeLine:=by
 rcases h with h|⟨o,its,n,hk,hc,hs,hz,r⟩
 .obtain⟨z,its,r,p⟩:=h.ok I.hok
  exact⟨its,r,p,z⟩
 .refine⟨its.toList,r,⟨o,I.kIn a o hk,hc,n,by simpa using hs⟩,?_⟩
  have e:=r.length;simp only[o8] at e;omega
theorem Inv.list_inj(I:Inv X pins σ H s)(h:SqL X.K H a xs)(h':SqL X.K H a ys):xs=ys:=by
 obtain⟨its,r,⟨o,n,e,_,_,d⟩,_⟩:=I.list h;obtain⟨its',r',⟨o',n',e',_,_,d'⟩,_⟩:=I.list h';rw[e] at e';cases e';rw[d] at d';injection d' with d1 _
 have:its=its':=by simpa using congrArg Array.toList d1
 subst this;exact r.inj r'
theorem Inv.tuple_inj(I:Inv X pins σ H s)(h:SqT X.K H a xs)(h':SqT X.K H a ys):xs=ys:=by
 obtain⟨its,r,⟨o,e,_,n,d⟩,_⟩:=I.tuple h;obtain⟨its',r',⟨o',e',_,n',d'⟩,_⟩:=I.tuple h';rw[e] at e';cases e';rw[d] at d';injection d' with d1 _
 have:its=its':=by simpa using congrArg Array.toList d1
 subst this;exact r.inj r'
end
section
variable{st:Stmt}{rest:List Stmt}{t u:TS}
def pH:TS:=λD σ H=>D.nx σ H
def tP(t u:TS):TS:=λD σ H=>t { D with nx:=u D } σ H
theorem kR:i6 X [] pH:=λ_ _ σ H _ I h=>EB ⟨σ,H,I,h⟩
theorem dY(h1:PS X st t)(h2:i6 X rest u):i6 X (st::rest) (tP t u):=by
 intro pins s σ H D I h;refine wpAny_execs_cons (aU (h1 pins s σ H { D with nx:=u D } I h) λf s1 q=>?_);cases f with
 |next=>
  obtain⟨σ',H',I',q⟩:=q;exact h2 pins s1 σ' H' D I' q
 |ret v=>exact q
 |brk=>exact q
 |cont=>exact q
theorem cU(h1:PS X st t):i6 X [st] t:=by
 intro pins s σ H D I h;refine wpAny_execs_cons (aU (h1 pins s σ H D I h) λf s1 q=>?_);cases f with
 |next=>exact EB q
 |ret v=>exact q
 |brk=>exact q
 |cont=>exact q
theorem Inv.quiet(I:Inv X pins σ H s):interactive X.env=false:=by simp[interactive,I.ok.kind]
def pI(te:TE):TS:=λD σ H=>te σ H λ_ H1=>D.nx σ H1
theorem dR(he:PE X e te)(hs:swapsWith e none pos.line X.env=pure false:=by rfl):PS X (.Expr e pos) (pI te):=by
 intro pins s σ H D I h;exact wpAny_Expr_any (aU (he pins s σ H _ I h) λv s1 ⟨x,H1,I1,r1,q1⟩=>⟨σ,H1,I1,q1⟩) I.quiet hs
def tQ(te:TE):TS:=λD σ H=>te σ H D.rt
theorem jp(he:PE X e te):PS X (.Return (some e) pos) (tQ te):=by
 intro pins s σ H D I h;exact wpAny_Return_some (aU (he pins s σ H _ I h) λv s1 ⟨x,H1,I1,r1,q1⟩=>⟨x,σ,H1,I1,r1,q1⟩)
def tR(c:TT)(t u:TS):TS:=λD σ H=>c σ H λb H1=>if b=true then t D σ H1 else u D σ H1
theorem lY{a b:List Stmt}(hc:PT X c tc)(ha:i6 X a t)(hb:i6 X b u):PS X (.If c a b pos) (tR tc t u):=by
 intro pins s σ H D I h;refine wpAny_If (aU (hc pins s σ H _ I h) λd s1 ⟨H1,I1,q1⟩=>?_);cases d with
 |true=>exact ha pins s1 σ H1 D I1 q1
 |false=>exact hb pins s1 σ H1 D I1 q1
end
abbrev TG:=V->St->Hp->(St->Hp->Prop)->Prop
abbrev kS:=List V->St->Hp->(St->Hp->Prop)->Prop
def PG(X:Cx)(target:Expr)(t:TG):Prop:=
 ∀(pins:List (Addr×Obj)) (s:Shared) (σ:St) (H:Hp) (v:V) (u:Value) (Q:St->Hp->Prop),Inv X pins σ H s->RelV v u->t v σ H Q->
  wpAny (model X.prog X.w) X.A (assign target X.env u) (λ_ s'=>∃σ' H',Inv X pins σ' H' s'/\Q σ' H') X.xe s
def oj(X:Cx)(ts:List Expr)(t:kS):Prop:=
 ∀(pins:List (Addr×Obj)) (s:Shared) (σ:St) (H:Hp) (vs:List V) (us:List Value) (Q:St->Hp->Prop),Inv X pins σ H s->Vals vs us->t vs σ H Q->
  wpAny (model X.prog X.w) X.A (assignInOrder ((assignEach ts X.env).map (·.2)) us) (λ_ s'=>∃σ' H',Inv X pins σ' H' s'/\Q σ' H') X.xe s
abbrev mT:=V->V->V->Hp->(Hp->Prop)->Prop
def pJ(X:Cx)(t:mT):Prop:=
 ∀(pins:List (Addr×Obj)) (s:Shared) (σ:St) (H:Hp) (o i v:V) (ov iv u:Value) (Q:Hp->Prop),Inv X pins σ H s->RelV o ov->RelV i iv->RelV v u->t o i v H Q->
  wpAny (model X.prog X.w) X.A (setItem ov iv u) (λ_ s'=>∃H',Inv X pins σ H' s'/\Q H') X.xe s
section
def g6(i:Nat):TG:=λv σ H Q=>Q (σ.set i (some v)) H
theorem fe{i:Nat}(hN:X.N.Nodup)(hi:X.N[i]? = some x)(hx:i5 X.env.scope x)(hf:X.fn x=true\/X.env.scope.names.lookup x=some .local:=by first|exact .inl rfl|exact .inr rfl|assumption):PG X (.Name x pos) (g6 i):=by
 intro pins s σ H v u Q I r h;exact wpAny_assign_Name (cS I hN hi hx r (λs' I'=>⟨_,H,I',h⟩) hf)
def tS:kS:=λvs σ H Q=>vs=[]/\Q σ H
def pK(t:TG)(u:kS):kS:=λvs σ H Q=>∃v r,vs=v::r/\t v σ H λσ' H'=>u r σ' H' Q
theorem g7:oj X [] tS:=by
 intro pins s σ H vs us Q I r h;obtain⟨e,h⟩:=h;subst e;cases r;exact assignInOrder_nil ⟨σ,H,I,h⟩
theorem dZ{t:TG}{u:kS}(h1:PG X e t)(h2:oj X es u)
  (hs:(assignEach (e::es) X.env).map (·.2)=assign e X.env::(assignEach es X.env).map (·.2):=by rfl):oj X (e::es) (pK t u):=by
 intro pins s σ H vs us Q I r h;obtain⟨v,vr,e1,h⟩:=h;subst e1;cases r with
 |cons r rr=>
  rw[hs];refine assignInOrder_cons (aU (h1 pins s σ H _ _ _ I r h) λ_ s1 ⟨σ1,H1,I1,q1⟩=>?_);exact h2 pins s1 σ1 H1 _ _ Q I1 rr q1
def tU(K:D9)(n:Nat)(t:kS):TG:=λv σ H Q=>∃a xs,v=.ref a/\SqT K H a xs/\xs.length=n/\t xs σ H Q
theorem mU{t:kS}{n:Nat}(hc:X.calm=true)(h:oj X es t)
  (hn:(assignEach es X.env).length=n:=by rfl) (hst:(assignEach es X.env).findIdx? (·.1)=none:=by rfl):PG X (.Tuple es k pos) (tU X.K n t):=by
 intro pins s σ H v u Q I r hw;obtain⟨a,xs,e1,hq,hl,hw⟩:=hw;subst e1;cases r;obtain⟨its,rv,ht,hz⟩:=I.tuple hq;refine assign_Tuple_tuple (I.ok.hd hc) ht (by simp[hn,<-hl,rv.length]) hst λh' hx=>?_;have I1:Inv X pins σ H { s with heap:=h' }:=I.kept (t':=s.toks) λb o e=>hx b o (el (bY e)) e;exact h pins _ σ H xs _ Q I1 (by simpa using rv) hw
def tV(to ti:TE)(t:mT):TG:=λv σ H Q=>to σ H λo H1=>ti σ H1 λi H2=>t o i v H2 λH3=>Q σ H3
theorem mV{o i:Expr}{to ti:TE}{t:mT}(ho:PE X o to)(hi:PE X i ti)(hs:pJ X t)
  (ha:∀ v,assign (.Subscript o i pos) X.env v=(do
   let ov <-holding [v] (eval o X.env)
   let iv <-holding [v,ov] (eval i X.env)
   standAt pos
   holding [v,ov,iv] (setItem ov iv v)
   release [v,ov,iv] []):=by intro _;rfl):PG X (.Subscript o i pos) (tV to ti t):=by
 intro pins s σ H v u Q I r h;rw[ha];refine D8 (Eo (aU (ho pins s σ H _ I h) λov s1 ⟨x,H1,I1,r1,q1⟩=>?_));refine D8 (Eo (aU (hi pins s1 σ H1 _ I1 q1) λiv s2 ⟨y,H2,I2,r2,q2⟩=>?_));refine D8 (EA (D8 (Eo (aU (hs pins s2 σ H2 x y v ov iv u _ I2 r1 r2 r q2) λ_ s3 ⟨H3,I3,q3⟩=>?_))));exact wpAny_release ⟨σ,H3,I3,q3⟩
def mW(te:TE)(g:TG):TS:=λD σ H=>te σ H λx H1=>g x σ H1 D.nx
theorem gv{g:TG}(he:PE X e te)(hg:PG X tg g)(hs:swapsWithSole [tg] e pos.line X.env=pure false:=by rfl)(hw:swappedStores [tg] e X.env=pure none:=by rfl)
  (h1:(assignEach [tg] X.env).map (·.2)=[assign tg X.env]:=by rfl):PS X (.Assign [tg] e pos) (mW te g):=by
 intro pins s σ H D I h;refine wpAny_Assign_stores (aU (he pins s σ H _ I h) λv s1 ⟨x,H1,I1,r1,q1⟩=>?_) hs hw;rw[h1];exact aU (hg pins s1 σ H1 x v _ I1 r1 q1) λ_ s2 q=>q
theorem df{i:Nat}(hN:X.N.Nodup)(hi:X.N[i]? = some x)(hx:i5 X.env.scope x)(he:PE X e te)(hs:swapsWith e (some (.Name x pos')) pos.line X.env=pure false:=by rfl)(hf:X.fn x=true\/X.env.scope.names.lookup x=some .local:=by first|exact .inl rfl|exact .inr rfl|assumption) :
  PS X (.Assign [.Name x pos'] e pos) (mW te (g6 i)):=by
 intro pins s σ H D I h;refine wpAny_Assign_Name (aU (he pins s σ H _ I h) λv s1 ⟨y,H1,I1,r1,q1⟩=>?_) hs;exact cS I1 hN hi hx r1 (λs2 I2=>⟨_,H1,I2,q1⟩) hf
def tW(i j:Nat)(ta:TA):TS:=λD σ H=>ta σ H λvs H1=>∃v w,vs=[v,w]/\D.nx ((σ.set i (some v)).set j (some w)) H1
theorem jq{i:Nat}{y:Str}{a b:Expr}{ta:TA}{px py pt:Pos}{kt k2 pt2}(hc:X.calm=true)(hN:X.N.Nodup)(hi:X.N[i]? = some x)(hj:X.N[j]? = some y)(hij:i≠j)
  (hx:X.env.scope.names.lookup x=some .local) (hy:X.env.scope.names.lookup y=some .local) (ha:PA X [a,b] ta)
  (hw:swappedStores [.Tuple [.Name x px,.Name y py] kt pt] (.Tuple [a,b] k2 pt2) X.env=pure (some [x,y]))
  (hs:swapsWithSole [.Tuple [.Name x px,.Name y py] kt pt] (.Tuple [a,b] k2 pt2) pos.line X.env=pure false:=by rfl) :
  PS X (.Assign [.Tuple [.Name x px,.Name y py] kt pt] (.Tuple [a,b] k2 pt2) pos) (tW i j ta):=by
 intro pins s σ H D I h;rw[exec_Assign_arm];refine D8 (EA ?_);rw[hs];refine D8 (Ea ?_);rw[if_neg (by decide)];refine D8 (Tuple_ (aU (ha _ pins s σ H _ I h) λus s1 ⟨vs,H1,I1,r1,q1⟩=>?_));obtain⟨v,w,e1,q1⟩:=q1;subst e1;obtain⟨u1,u2,rfl,rv,rw'⟩:∃u1 u2,us=[u1,u2]/\RelV v u1/\RelV w u2:=by
  cases r1 with
  |cons p q=>
   cases q with
   |cons p' q'=>
    cases q';exact⟨_,_,rfl,p,p'⟩
 refine En ?_ (by show 2<=sizeLine;decide);have I2:Inv X pins σ H1 { s1 with heap:=s1.heap.push { cls:=.type "tuple",data:=.seq [u1,u2].toArray } }:=I1.kept (t':=s1.toks) λb o e=>cj _ e;rw[hw];refine D8 (Ea ?_);show wpAny (model X.prog X.w) X.A (do rule "assign.swapped-stores";let items <-unpackItems (.ref s1.heap.objs.size) 2 none;assignInOrder [λv=>bindName X.env y v,λv=>bindName X.env x v] items.reverse;pure Flow.next) _ _ _;refine D8 (wpAny_rule (D8 (unpackItems_tuple (items:=#[u1,u2]) (I.ok.hd hc) (IsTup.new s1.heap _) λh' hx'=>?_)));have I3:=I2.kept (h':=h') (t':=s1.toks) λb o e=>hx' b o (el (bY e)) e;show wpAny _ _ (assignInOrder [λv=>bindName X.env y v,λv=>bindName X.env x v] [u2,u1] >>= λ_=>pure Flow.next) _ _ _;refine D8 (assignInOrder_cons (wpAny_bindName (cS I3 hN hj (.inl hy) rw' (λs2 I4=>?_) (.inr hy))));refine assignInOrder_cons (wpAny_bindName (cS I4 hN hi (.inl hx) rv (λs3 I5=>assignInOrder_nil (Ea ?_)) (.inr hx)));rw[List.set_comm _ _ (Em hij)] at I5;exact⟨_,H1,I5,q1⟩
end
section
def mX(c:TT)(tb:TS):TS:=λD σ H=>∃W:Nat->St->Hp->Prop,(∃m,W m σ H)/\∀m σ H,W m σ H->
 c σ H λb H1=>if b=true then∃N:St->Hp->Prop,(∀σ' H',N σ' H'->∃m',m'<m/\W m' σ' H')/\tb { D with nx:=N,ct:=N,bk:=D.nx } σ H1 else D.nx σ H1
theorem jr{tb:TS}(hp:PassesOwn (model X.prog X.w) X.A X.env X.xe)(hc:PT X c tc)(hb:i6 X body tb):PS X (.While c body [] pos) (mX tc tb):=by
 intro pins s σ H D I h;obtain⟨W,⟨m0,w0⟩,turn⟩:=h;refine wpAny_While (codeAny_whileLoop (λn s'=>∃σ' H',Inv X pins σ' H' s'/\W n σ' H') ?_ m0 ⟨σ,H,I,w0⟩);rintro n s1 ⟨σ1,H1,I1,w1⟩;refine Ew hp (aU (hc pins s1 σ1 H1 _ I1 (turn n σ1 H1 w1)) λb s2 ⟨H2,I2,q2⟩=>?_);cases b with
 |true=>
  obtain⟨N,hN,q2⟩:=q2;rw[if_pos rfl];refine Ew hp (aU (hb pins s2 σ1 H2 _ I2 q2) λf s3 q3=>?_);cases f with
  |next=>
   obtain⟨σ3,H3,I3,n3⟩:=q3;obtain⟨m',hm,w3⟩:=hN σ3 H3 n3;exact⟨m',hm,σ3,H3,I3,w3⟩
  |cont=>
   obtain⟨σ3,H3,I3,n3⟩:=q3;obtain⟨m',hm,w3⟩:=hN σ3 H3 n3;exact⟨m',hm,σ3,H3,I3,w3⟩
  |brk=>exact q3
  |ret v=>exact q3
 |false=>
  rw[if_neg dv];exact EB ⟨σ1,H2,I2,q2⟩
end
structure It where
 go:Nat->Hp->Prop
 yld:Nat->Hp->V->Hp->Prop
 stop:Nat->Hp->Prop
def d4(X:Cx)(pins:List (Addr×Obj))(H:Hp)(b:Addr):Prop:=
 H b=none/\b≠X.env.locals/\b∉X.fs/\(b∈X.ex\/X.s₀.heap.objs.size<=b)/\(∀x c,X.env.cells.lookup x=some c->c≠b)/\∀p∈X.pn++pins,p.1≠b
theorem Inv.fpOk(I:Inv X pins σ H s)(hb:s.heap.objs.size<=b)(hn:H' b=none):d4 X pins H' b:=by
 refine⟨hn,Nat.ne_of_gt (cG I.lt hb),I.nofs hb,.inr (fA I.sz hb),λx c e z=>?_,λp hp z=>?_⟩
 .obtain⟨v,q⟩:=I.cell x c e
  exact Eb (cG q.lt (by rw[z];exact hb)) (gp _)
 .exact Eb (cG (bY (I.pin p hp).1) (by rw[z];exact hb)) (gp _)
structure ip(P:Program)(w:World)(K:D9)(tg:Expr)(J:It)(fp:List Addr)(it:Addr)(tn:Nat->Heap->Prop):Prop where
 mem:it∈fp
 obj:∀i h,tn i h->∀b∈fp,∃o,h.get? b=some o/\∀v,o.data≠.cell v
 keep:∀i h h',tn i h->(∀b∈fp,∀o,h.get? b=some o->h'.get? b=some o)->tn i h'
 item:∀(X:Cx),X.prog=P->X.w=w->X.K=K->X.calm=true->∀(i:Nat) (pins:List (Addr×Obj)) (s:Shared) (σ:St) (H:Hp) (E:Value->Shared->Prop),Inv X pins σ H s->(∀b∈fp,d4 X pins H b)->tn i s.heap->J.go i H->
  wpAny (model P w) X.A (pyNext (.ref it)) (λr s1=>∃ u,r=some u/\
   wpAny (model P w) X.A (letOwnedTupleGo tg (.ref it) u) (λ_ s2=>∃x H',Inv X pins σ H' s2/\RelV x u/\J.yld i H x H'/\tn (i+1) s2.heap/\∀b∈fp,H' b=none) E s1) E s
 done:∀(X:Cx),X.prog=P->X.w=w->X.K=K->X.calm=true->∀(i:Nat) (pins:List (Addr×Obj)) (s:Shared) (σ:St) (H:Hp) (E:Value->Shared->Prop),Inv X pins σ H s->(∀b∈fp,d4 X pins H b)->tn i s.heap->J.stop i H->
  wpAny (model P w) X.A (pyNext (.ref it)) (λr s1=>r=none/\Inv X pins σ H s1) E s
 self:∀(A:Around) (i:Nat) (s:Shared) (Q:Value->Shared->Prop) (E:Value->Shared->Prop),tn i s.heap->Q (.ref it) s->wpAny (model P w) A (pyIter (.ref it)) Q E s
abbrev TI:=St->Hp->(It->Hp->Prop)->Prop
def xA(X:Cx)(pins:List (Addr×Obj))(σ:St)(tg:Expr)(R:It->Hp->Prop)(itv:Value)(s2:Shared):Prop:=
 ∃(it:Addr) (fp:List Addr) (tn:Nat->Heap->Prop) (J:It) (H':Hp),itv=.ref it/\Inv X pins σ H' s2/\ip X.prog X.w X.K tg J fp it tn/\tn 0 s2.heap/\(∀b∈fp,d4 X pins H' b)/\R J H'
def PI(X:Cx)(tg iter:Expr)(wi:TI):Prop:=
 ∀(pins:List (Addr×Obj)) (s:Shared) (σ:St) (H:Hp) (R:It->Hp->Prop),Inv X pins σ H s->wi σ H R->
  wpAny (model X.prog X.w) X.A (eval iter X.env) (λv s1=>wpAny (model X.prog X.w) X.A (pyIter v) (xA X pins σ tg R) X.xe s1) X.xe s
theorem g8{u:Value}{o:Obj}{n:String}{vs:Array Value}{Q:Unit->Shared->Prop}(ho:s.heap.get? it=some o)(hc:o.cls = .type n)(hd:o.data = .fields vs)
    (hn:["enumerate", "zip", "dict_itemiterator", "dict_reverseitemiterator", "odict_iterator", "itertools.zip_longest", "itertools.pairwise"].contains n=false) (hQ:Q () s):wpAny M A (letOwnedTupleGo tg (.ref it) u) Q E s:=by
  unfold letOwnedTupleGo;cases tg<;>first
    |exact Ea hQ
    | (cases u<;>first
        |exact Ea hQ
        | (refine D8 (wpAny_load ho ?_)
           rw[hc,hd];show wpAny M A (if(["enumerate", "zip", "dict_itemiterator", "dict_reverseitemiterator", "odict_iterator", "itertools.zip_longest", "itertools.pairwise"].contains n&&vs[0]? == some (rawInt _))=true then _ else _) Q E s;rw[if_neg (by intro h;rw[hn,o9] at h;cases h)];exact Ea hQ))
def xB(K:D9)(a:Addr):It:=
 ⟨λi H=>∃xs x,SqL K H a xs/\xs[i]? = some x,λi H x H'=>H'=H/\∀xs,SqL K H a xs->xs[i]? = some x,λi H=>∃xs,SqL K H a xs/\xs.length<=i⟩
def tX(K:D9)(a:Addr):It:=
 ⟨λi H=>∃xs x,SqT K H a xs/\xs[i]? = some x,λi H x H'=>H'=H/\∀xs,SqT K H a xs->xs[i]? = some x,λi H=>∃xs,SqT K H a xs/\xs.length<=i⟩
def rP(lo:Int)(n:Nat):It:=⟨λi _=>i<n,λi H x H'=>H'=H/\x=.int (lo+i),λi _=>n<=i⟩
theorem iq(a it:Addr):ip P w K tg (xB K a) [it] it (λi h=>h.IsListIter it a i) where
 mem:=by simp
 obj:=λi h st b hb=>by
  have e:b=it:=by simpa using hb
  subst e;obtain⟨o,e,c,d⟩:=st;exact⟨o,e,λv z=>by rw[d] at z;cases z⟩
 keep:=λi h h' st k=>st.at λo e=>k it (by simp) o e
 item:=by
  intro X hP hw hK hc i pins s σ H E I hf st hg;subst hP hw hK;obtain⟨xs,x,hq,hx⟩:=hg;obtain⟨its,rv,p,hz⟩:=I.list hq;obtain⟨u,hu,ru⟩:=rv.get hx;obtain⟨f0,f1,f2,f3,f4,f5⟩:=hf it (by simp);refine wpAny_pyNext_list_item st p.isList (x:=u) (by simpa using hu) λh' st' sb=>?_;have I1:Inv X pins σ H { s with heap:=h' }:=I.turned (t':=s.toks) (λb o hb e=>(sb.2 b hb).trans e) f0 f1 f3 f4 f5;obtain⟨o,e,c,d⟩:=id st';exact⟨u,rfl,g8 (s:={ s with heap:=h' }) e c d (by decide) ⟨x,H,I1,ru,⟨rfl,λys hy=>by rw[I.list_inj hy hq];exact hx⟩,st',λb hb=>(hf b hb).1⟩⟩
 done:=by
  intro X hP hw hK hc i pins s σ H E I hf st hg;subst hP hw hK;obtain⟨xs,hq,hx⟩:=hg;obtain⟨its,rv,p,hz⟩:=I.list hq;obtain⟨f0,f1,f2,f3,f4,f5⟩:=hf it (by simp);have hl:=rv.length;exact wpAny_pyNext_list_end (I.ok.hd hc) st p.isList (by simp;omega) λh' eb=>⟨rfl,I.turned (t':=s.toks) (λb o hb e=>eb b o hb e) f0 f1 f3 f4 f5⟩
 self:=λ_ _ _ _ _ st h=>wpAny_pyIter_listiter st h
theorem gw(a it:Addr):ip P w K tg (tX K a) [it] it (λi h=>h.IsTupleIter it a i) where
 mem:=by simp
 obj:=λi h st b hb=>by
  have e:b=it:=by simpa using hb
  subst e;obtain⟨o,e,c,d⟩:=st;exact⟨o,e,λv z=>by rw[d] at z;cases z⟩
 keep:=λi h h' st k=>st.at λo e=>k it (by simp) o e
 item:=by
  intro X hP hw hK hc i pins s σ H E I hf st hg;subst hP hw hK;obtain⟨xs,x,hq,hx⟩:=hg;obtain⟨its,rv,p,hz⟩:=I.tuple hq;obtain⟨u,hu,ru⟩:=rv.get hx;obtain⟨f0,f1,f2,f3,f4,f5⟩:=hf it (by simp);refine wpAny_pyNext_tuple_item st (show s.heap.IsTuple a its.toArray from p) (x:=u) (by simpa using hu) λh' st' sb=>?_;have I1:Inv X pins σ H { s with heap:=h' }:=I.turned (t':=s.toks) (λb o hb e=>(sb.2 b hb).trans e) f0 f1 f3 f4 f5;obtain⟨o,e,c,d⟩:=id st';exact⟨u,rfl,g8 (s:={ s with heap:=h' }) e c d (by decide) ⟨x,H,I1,ru,⟨rfl,λys hy=>by rw[I.tuple_inj hy hq];exact hx⟩,st',λb hb=>(hf b hb).1⟩⟩
 done:=by
  intro X hP hw hK hc i pins s σ H E I hf st hg;subst hP hw hK;obtain⟨xs,hq,hx⟩:=hg;obtain⟨its,rv,p,hz⟩:=I.tuple hq;obtain⟨f0,f1,f2,f3,f4,f5⟩:=hf it (by simp);have hl:=rv.length;exact wpAny_pyNext_tuple_end (I.ok.hd hc) st (show s.heap.IsTuple a its.toArray from p) (by simp;omega) λh' eb=>⟨rfl,I.turned (t':=s.toks) (λb o hb e=>eb b o hb e) f0 f1 f3 f4 f5⟩
 self:=λ_ _ _ _ _ st h=>wpAny_pyIter_tupleiter st h
theorem gx(it:Addr)(lo:Int)(n:Nat):ip P w K tg (rP lo n) [it] it (λi h=>IsRangeIter h it (lo+(i:Nat)*1) ((n:Int)-(i:Nat)) 1) where
 mem:=by simp
 obj:=λi h st b hb=>by
  have e:b=it:=by simpa using hb
  subst e;exact ⟨_,st,λv z=>by
   have z':Data.fields _=Data.cell v:=z;cases z'⟩
 keep:=λi h h' st k=>k it (by simp) _ st
 item:=by
  intro X hP hw hK hc i pins s σ H E I hf st hg;subst hP hw hK;obtain⟨f0,f1,f2,f3,f4,f5⟩:=hf it (by simp);have W:=Walks.range (prog:=X.prog) (w:=X.w) (I.ok.hd hc) it lo 1 n;refine W.item i s _ _ hg st λv h' tk hv st' kk=>?_;obtain⟨t,rfl⟩:=hv;have I1:Inv X pins σ H { s with heap:=h',toks:=tk }:=I.turned (λb o hb e=>kk b o (by simpa using hb) e) f0 f1 f3 f4 f5;refine⟨_,rfl,g8 (s:={ s with heap:=h',toks:=tk }) (n:= "range_iterator") st' rfl rfl (by decide) ⟨.int (lo+i),H,I1,⟨t,?_⟩,⟨rfl,rfl⟩,st',λb hb=>(hf b hb).1⟩⟩;rw[Int.mul_one]
 done:=by
  intro X hP hw hK hc i pins s σ H E I hf st hg;subst hP hw hK;obtain⟨f0,f1,f2,f3,f4,f5⟩:=hf it (by simp);exact wpAny_pyNext_range_end (I.ok.hd hc) st (by have:n<=i:=hg;omega) λh' eb=>⟨rfl,I.turned (t':=s.toks) (λb o hb e=>eb b o hb e) f0 f1 f3 f4 f5⟩
 self:=λ_ _ _ _ _ st h=>wpAny_pyIter_rangeiter st h
section
theorem jt{R:It->Hp->Prop}{lo hi:Int}{t u v:Tok}{tk:Nat}(I:Inv X pins σ H s)(h1:-(2^62)<=lo)(h2:lo<2^62)(h3:-(2^62)<=hi)(h4:hi<2^62)
  (q:R (rP lo (hi-lo).toNat) H):wpAny (model X.prog X.w) X.A (pyIter (.ref s.heap.objs.size)) (xA X pins σ tg R) E { s with heap:=s.heap.push { cls:=.type "range",data:=.fields #[.int lo t,.int hi u,.int 1 v] },toks:=tk }:=by
 refine wpAny_pyIter_range (IsRange.new ..) (small_one h1 h2 h3 h4) ?_;have I1:Inv X pins σ H { s with heap:=s.heap.push { cls:=.type "range",data:=.fields #[.int lo t,.int hi u,.int 1 v] },toks:=tk }:=I.kept λb o e=>cj _ e;refine ⟨(s.heap.push { cls:=.type "range",data:=.fields #[.int lo t,.int hi u,.int 1 v] }).objs.size,[(s.heap.push { cls:=.type "range",data:=.fields #[.int lo t,.int hi u,.int 1 v] }).objs.size],_,_,H,rfl,
  I1.kept (t':=tk) λb o e=>cj _ e,gx _ lo (hi-lo).toNat,?_,λb hb=>?_,q⟩
 .have e1:lo+((0:Nat):Int)*1=lo:=by simp
  have e2:(((hi-lo).toNat:Nat):Int)-((0:Nat):Int)=Builtin.Range.rangeSize lo hi 1:=by rw[rangeSize_one];split<;>omega
  show IsRangeIter _ _ (lo+((0:Nat):Int)*1) ((((hi-lo).toNat:Nat):Int)-((0:Nat):Int)) 1;rw[e1,e2];exact gc _ rfl
 .have e:b=(s.heap.push { cls:=.type "range",data:=.fields #[.int lo t,.int hi u,.int 1 v] }).objs.size:=by simpa using hb
  subst e;exact I1.fpOk (bO _) (I1.hok.fresh (bO _))
def pL(ta:TA):TI:=λσ H R=>ta σ H λvs H1=>∃j:Int,vs=[.int j]/\-(2^62)<=j/\j<2^62/\R (rP 0 j.toNat) H1
theorem ir{a:Expr}{ta:TA}(hg:Gl X "range")(hm:X.mg "range" = none)(ha:PA X [a] ta)(hs:starEach [a] X.env=[(false,eval a X.env)]:=by rfl):PI X tg (.Call (.Name "range" p) [a] [] pos) (pL ta):=by
 intro pins s σ H R I h;refine Call_ (fc I hg hm boot_range (PyProof.Rows.callWith_type1 (aU (ha pos pins s σ H _ I h) λus s1 ⟨vs,H1,I1,r1,q1⟩=>?_) hs rfl));obtain⟨j,e,q1,q2,q⟩:=q1;subst e;cases r1 with
 |cons r rr=>
  cases rr;obtain⟨t,rfl⟩:=r;exact call_range_1 (jt I1 (by omega) (by omega) q1 q2 (by simpa using q))
def tY(wi:TI)(g:TG)(tb:TS):TS:=λD σ H=>wi σ H λJ H1=>∃W:Nat->Nat->St->Hp->Prop,(∃m,W 0 m σ H1)/\∀i m σ H,W i m σ H->
 (J.stop i H/\D.nx σ H)\/(J.go i H/\∃N:St->Hp->Prop,(∀σ' H',N σ' H'->∃m',m'<m/\W (i+1) m' σ' H')/\∀x H',J.yld i H x H'->g x σ H' λσ2 H2=>tb { D with nx:=N,ct:=N,bk:=D.nx } σ2 H2)
def d6(fp:List Addr)(h:Heap):List (Addr×Obj):=fp.filterMap λb=>(h.get? b).map λo=>(b,o)
theorem ce{o:Obj}(hb:b∈fp)(e:h.get? b=some o):(b,o)∈d6 fp h:=Yaz.mpr ⟨b,hb,by rw[e];rfl⟩
theorem iu{p:Addr×Obj}(hp:p∈d6 fp h):p.1∈fp/\h.get? p.1=some p.2:=by
 obtain⟨b,hb,e⟩:=Yaz.mp hp;cases q:h.get? b with
 |none=>rw[q] at e;cases e
 |some o=>
  rw[q] at e;have e':(b,o)=p:=Ed e;subst e';exact⟨hb,q⟩
theorem Inv.pinned(I:Inv X pins σ H s)(hf:∀b∈fp,d4 X pins H b)(ho:∀b∈fp,∃o,s.heap.get? b=some o/\∀v,o.data≠.cell v):Inv X (pins++d6 fp s.heap) σ H s:=
 I.pins_of λp hp=>(Yao.mp hp).elim (λz=>I.pin p (jf _ z)) λz=>by
  obtain⟨hb,e⟩:=iu z;obtain⟨f0,f1,f2,_⟩:=hf p.1 hb;obtain⟨o,e',d⟩:=ho p.1 hb;rw[e] at e';cases e';exact⟨e,f0,f1,f2,d⟩
theorem Inv.unpinned{pl:List (Addr×Obj)}(I:Inv X (pins++pl) σ H s):Inv X pins σ H s:=I.pins_of λp hp=>I.pin p (jf _ (tq _ hp))
theorem mY{iter:Expr}{wi:TI}{g:TG}{tb:TS}(hp:PassesOwn (model X.prog X.w) X.A X.env X.xe)(hc:X.calm=true)(hi:PI X tg iter wi)(hg:PG X tg g)(hb:i6 X body tb)
  (hs:∀x,foldedSetIterable iter X.env x=pure x:=by intro _;rfl):PS X (.For tg iter body [] pos) (tY wi g tb):=by
 intro pins s σ H D I h;refine wpAny_For (aU (hi pins s σ H _ I h) λv s1 h1=>aU h1 λitv s2 h2=>?_) hs;obtain⟨it,fp,tn,J,H2,e,I2,T,st2,f2,W,⟨m0,w0⟩,turn⟩:=h2;subst e
 have stat:∀{H':Hp},(∀b∈fp,H' b=none)->∀b∈fp,d4 X pins H' b:=λhn b hb=>⟨hn b hb,(f2 b hb).2⟩;refine codeAny_forLoop_any (λn s'=>∃i σ' H',Inv X pins σ' H' s'/\tn i s'.heap/\(∀b∈fp,H' b=none)/\W i n σ' H') ?_ m0 ⟨0,σ,H2,I2,st2,λb hb=>(f2 b hb).1,w0⟩;rintro n s3 ⟨i,σ3,H3,I3,st3,fr3,w3⟩;rcases turn i n σ3 H3 w3 with⟨stop,qn⟩|⟨go,N,hN,step⟩
 .refine Ew hp (aU (T.done X rfl rfl rfl hc i pins s3 σ3 H3 X.xe I3 (stat fr3) st3 stop) λr s4 ⟨hr,I4⟩=>?_)
  subst hr;exact EB ⟨σ3,H3,I4,qn⟩
 .refine Ew hp (aU (T.item X rfl rfl rfl hc i pins s3 σ3 H3 X.xe I3 (stat fr3) st3 go) λr s4 ⟨u,hr,h4⟩=>?_)
  subst hr;refine Ew hp (aU h4 λ_ s5 ⟨x,H5,I5,r5,y5,st5,fr5⟩=>?_);have I5':=I5.pinned (stat fr5) (T.obj _ _ st5);refine Ew hp (aU (hg _ s5 σ3 H5 x u _ I5' r5 (step x H5 y5)) λ_ s6 ⟨σ6,H6,I6,q6⟩=>?_);refine Ew hp (aU (hb _ s6 σ6 H6 _ I6 q6) λf s7 q7=>?_);have again:∀{σ7:St} {H7:Hp},Inv X (pins++d6 fp s5.heap) σ7 H7 s7->N σ7 H7->∃m,m<n/\∃i σ' H',Inv X pins σ' H' s7/\tn i s7.heap/\(∀b∈fp,H' b=none)/\W i m σ' H':=λ{σ7 H7} I7 n7=>by
   obtain⟨m',hm,w7⟩:=hN σ7 H7 n7;refine⟨m',hm,i+1,σ7,H7,I7.unpinned,T.keep _ _ _ st5 λb hb o e=>(I7.pin (b,o) (jf _ (jf _ (ce hb e)))).1,λb hb=>?_,w7⟩;obtain⟨o,e,d⟩:=T.obj _ _ st5 b hb;exact(I7.pin (b,o) (jf _ (jf _ (ce hb e)))).2.1
  cases f with
  |next=>obtain⟨σ7,H7,I7,n7⟩:=q7;exact again I7 n7
  |cont=>obtain⟨σ7,H7,I7,n7⟩:=q7;exact again I7 n7
  |brk=>obtain⟨σ7,H7,I7,q7⟩:=q7;exact⟨σ7,H7,I7.unpinned,q7⟩
  |ret v=>obtain⟨x7,σ7,H7,I7,r7,q7⟩:=q7;exact⟨x7,σ7,H7,I7.unpinned,r7,q7⟩
end
abbrev R2:=V->V->Hp->VK->Prop
variable{r r':R2}
def OpR(X:Cx)(f:Value->Value->Sem Value)(r:R2):Prop:=
 ∀(pins:List (Addr×Obj)) (s:Shared) (σ:St) (H:Hp) (x y:V) (v u:Value) (Q:VK),Inv X pins σ H s->RelV x v->RelV y u->r x y H Q->
  wpAny (model X.prog X.w) X.A (f v u) (EP X pins σ Q) X.xe s
def rQ(X:Cx)(f:Value->Sem Value)(r:V->Hp->VK->Prop):Prop:=
 ∀(pins:List (Addr×Obj)) (s:Shared) (σ:St) (H:Hp) (x:V) (v:Value) (Q:VK),Inv X pins σ H s->RelV x v->r x H Q->
  wpAny (model X.prog X.w) X.A (f v) (EP X pins σ Q) X.xe s
def b7(X:Cx)(f:Value)(r:List V->Hp->VK->Prop):Prop:=
 ∀(pins:List (Addr×Obj)) (s:Shared) (σ:St) (H:Hp) (xs:List V) (us:List Value) (Q:VK),Inv X pins σ H s->Vals xs us->r xs H Q->
  wpAny (model X.prog X.w) X.A (call f us) (EP X pins σ Q) X.xe s
def tZ(X:Cx)(r:V->Hp->(Bool->Hp->Prop)->Prop):Prop:=
 ∀(pins:List (Addr×Obj)) (s:Shared) (σ:St) (H:Hp) (x:V) (v:Value) (Q:Bool->Hp->Prop),Inv X pins σ H s->RelV x v->r x H Q->
  wpAny (model X.prog X.w) X.A (truthy v) (TP X pins σ Q) X.xe s
def rR(r:R2)(ta tb:TE):TE:=λσ H Q=>ta σ H λx H1=>tb σ H1 λy H2=>r x y H2 Q
def z5(r:V->Hp->VK->Prop)(ta:TE):TE:=λσ H Q=>ta σ H λx H1=>r x H1 Q
def rI(C:Int->Int->Prop)(g:Int->Int->V):R2:=λx y H Q=>∃i j,x=.int i/\y=.int j/\C i j/\Q (g i j) H
def kT(g:Int->Int->V):R2:=λx y H Q=>∃i j,x=.int i/\y=.int j/\Q (g i j) H
def rU(g:Int->V):V->Hp->VK->Prop:=λx H Q=>∃i,x=.int i/\Q (g i) H
section
variable{a b:Expr}{tc:TE}
theorem mZ(ha:PE X a ta)(hb:PE X b tb)(I:Inv X pins σ H s)
  (h:ta σ H λx H1=>tb σ H1 λy H2=>R x y H2) {f:Value->Value->Sem Value}
  (hf:∀v u s2 x y H2,Inv X pins σ H2 s2->RelV x v->RelV y u->R x y H2->wpAny (model X.prog X.w) X.A (f v u) Q X.xe s2) :
  wpAny (model X.prog X.w) X.A (eval a X.env) (λv s₁=>wpAny (model X.prog X.w) X.A (eval b X.env) (λu s₂=>wpAny (model X.prog X.w) X.A (f v u) Q X.xe s₂) X.xe s₁) X.xe s:=by
 refine aU (ha pins s σ H _ I h) λv s1 ⟨x,H1,I1,r1,q1⟩=>?_;refine aU (hb pins s1 σ H1 _ I1 q1) λu s2 ⟨y,H2,I2,r2,q2⟩=>?_;exact hf v u s2 x y H2 I2 r1 r2 q2
theorem lZ{op:Operator}(ho:OpR X (binaryOp op) r)(ha:PE X a ta)(hb:PE X b tb):PE X (.BinOp a op b pos) (rR r ta tb):=by
 intro pins s σ H Q I h;exact wpAny_BinOp (mZ ha hb I h λv u s2 x y H2 I2 rx ry q=>ho pins s2 σ H2 x y v u Q I2 rx ry q)
theorem l3{op:UnaryOp}{r:V->Hp->VK->Prop}(ho:rQ X (unaryOp op) r)(ha:PE X a ta):PE X (.UnaryOp op a pos) (z5 r ta):=by
 intro pins s σ H Q I h;exact UnaryOp_ (aU (ha pins s σ H _ I h) λv s1 ⟨x,H1,I1,r1,q1⟩=>ho pins s1 σ H1 x v Q I1 r1 q1)
theorem rS{f:Value->Value->Sem Value}{C:Int->Int->Prop}
  (rule:∀(i j:Int) (t u:Tok) (s:Shared) (Q:Value->Shared->Prop) (E:Value->Shared->Prop),C i j->Q (.int (g i j) s.toks) { s with toks:=s.toks+1 }->wpAny (model X.prog X.w) X.A (f (.int i t) (.int j u)) Q E s) :
  OpR X f (rI C λi j=>.int (g i j)):=by
 intro pins s σ H x y v u Q I rx ry h;obtain⟨i,j,rfl,rfl,hc,q⟩:=h;obtain⟨t,rfl⟩:=rx;obtain⟨t',rfl⟩:=ry;exact rule i j t t' s _ _ hc ⟨.int (g i j),H,I.tok _,⟨_,rfl⟩,q⟩
theorem pM{f:Value->Value->Sem Value}
  (rule:∀(i j:Int) (t u:Tok) (s:Shared) (Q:Value->Shared->Prop) (E:Value->Shared->Prop),Q (.int (g i j) s.toks) { s with toks:=s.toks+1 }->wpAny (model X.prog X.w) X.A (f (.int i t) (.int j u)) Q E s) :
  OpR X f (kT λi j=>.int (g i j)):=by
 intro pins s σ H x y v u Q I rx ry h;obtain⟨i,j,rfl,rfl,q⟩:=h;obtain⟨t,rfl⟩:=rx;obtain⟨t',rfl⟩:=ry;exact rule i j t t' s _ _ ⟨.int (g i j),H,I.tok _,⟨_,rfl⟩,q⟩
theorem kU{f:Value->Value->Sem Value}{g:Int->Int->Bool}
  (rule:∀(i j:Int) (t u:Tok) (s:Shared) (Q:Value->Shared->Prop) (E:Value->Shared->Prop),Q (.bool (g i j)) s->wpAny (model X.prog X.w) X.A (f (.int i t) (.int j u)) Q E s) :
  OpR X f (kT λi j=>.bl (g i j)):=by
 intro pins s σ H x y v u Q I rx ry h;obtain⟨i,j,rfl,rfl,q⟩:=h;obtain⟨t,rfl⟩:=rx;obtain⟨t',rfl⟩:=ry;exact rule i j t t' s _ _ ⟨.bl (g i j),H,I,rfl,q⟩
def kW(i j:Int):Prop:=0<=j/\j<=1000000/\i.natAbs<2^64
theorem m4:OpR X (binaryOp .Add) (kT λi j=>.int (i+j)):=pM λ_ _ _ _ _ _ _ q=>add_int q
theorem m6:OpR X (binaryOp .Sub) (kT λi j=>.int (i-j)):=pM λ_ _ _ _ _ _ _ q=>sub_int q
theorem kX:OpR X (binaryOp .Mod) (rI (λ_ j=>j≠0) λi j=>.int (i.fmod j)):=rS λ_ _ _ _ _ _ _ hc q=>mod_int' hc q
theorem m7:OpR X (binaryOp .Pow) (rI kW λi j=>.int (i^j.toNat)):=rS λ_ _ _ _ _ _ _ hc q=>pow_int_small hc.1 hc.2.1 hc.2.2 q
theorem z6{f:Value->Sem Value}{g:Int->Int}
  (rule:∀(i:Int) (t:Tok) (s:Shared) (Q:Value->Shared->Prop) (E:Value->Shared->Prop),Q (.int (g i) s.toks) { s with toks:=s.toks+1 }->wpAny (model X.prog X.w) X.A (f (.int i t)) Q E s) :
  rQ X f (rU λi=>.int (g i)):=by
 intro pins s σ H x v Q I rx h;obtain⟨i,rfl,q⟩:=h;obtain⟨t,rfl⟩:=rx;exact rule i t s _ _ ⟨.int (g i),H,I.tok _,⟨_,rfl⟩,q⟩
theorem ju:rQ X (unaryOp .USub) (rU λi=>.int (-i)):=z6 λ_ _ _ _ _ q=>neg_int q
end
def pN:V->V->Bool
 |.non,.non=>true|.non,.int _=>true|.int _,.non=>true|.non,.bl _=>true|.bl _,.non=>true|.non,.str _=>true|.str _,.non=>true
 |.int _,.int _=>true|.bl _,.bl _=>true|.str _,.str _=>true|.byt _,.byt _=>true
 |.int _,.str _=>true|.str _,.int _=>true|.bl _,.str _=>true|.str _,.bl _=>true
 |_,_=>false
def z7:R2:=λx y H Q=>pN x y=true/\Q (.bl (decide (x=y))) H
def z8:R2:=λx y H Q=>pN x y=true/\Q (.bl (!decide (x=y))) H
theorem g9{i j:Int}:decide (V.int i=V.int j)=(i==j):=by
 rw[jg];simp
theorem jv{i j:Bool}:decide (V.bl i=V.bl j)=(i==j):=by
 rw[jg];simp
theorem hJ{i j:Str}:decide (V.str i=V.str j)=(i==j):=by
 rw[jg];simp
theorem hV{i j:Array UInt8}:decide (V.byt i=V.byt j)=(i.toList==j.toList):=by
 rw[jg];cases i;cases j;simp
section
variable{a b:Expr}{tc:TE}
theorem aK{Q:VK}{k k':Bool}(I:Inv X pins σ H s)(q:Q (.bl k) H)(e:k=k'):EP X pins σ Q (.bool k') s:=by
 subst e;exact⟨.bl k,H,I,rfl,q⟩
theorem pO:OpR X (compareOp .Eq) z7:=by
 intro pins s σ H x y v u Q I rx ry h;obtain⟨hs,q⟩:=h;cases x with
 |non=>
  cases rx;cases y with
  |non=>cases ry;exact PySem.EqNone.eq_none_none (aK I q (by simp))
  |bl j=>cases ry;exact PySem.EqNone.eq_none_bool (aK I q (by simp))
  |int j=>obtain⟨t',rfl⟩:=ry;exact PySem.EqNone.eq_none_int (aK I q (by simp))
  |str j=>obtain⟨t',rfl⟩:=ry;exact PySem.EqNone.eq_none_str (aK I q (by simp))
  |_=>exact Eb (show false=true from hs) dv
 |bl i=>
  cases rx;cases y with
  |non=>cases ry;exact PySem.EqNone.eq_bool_none (aK I q (by simp))
  |bl j=>cases ry;exact eq_bool (aK I q jv)
  |str j=>obtain⟨t',rfl⟩:=ry;exact PySem.EqMixed.eq_bool_str (aK I q (by simp))
  |_=>exact Eb (show false=true from hs) dv
 |int i=>
  obtain⟨t,rfl⟩:=rx;cases y with
  |non=>cases ry;exact PySem.EqNone.eq_int_none (aK I q (by simp))
  |int j=>obtain⟨t',rfl⟩:=ry;exact eq_int (aK I q g9)
  |str j=>obtain⟨t',rfl⟩:=ry;exact PySem.EqMixed.eq_int_str (aK I q (by simp))
  |_=>exact Eb (show false=true from hs) dv
 |str i=>
  obtain⟨t,rfl⟩:=rx;cases y with
  |non=>cases ry;exact PySem.EqNone.eq_str_none (aK I q (by simp))
  |bl j=>cases ry;exact PySem.EqMixed.eq_str_bool (aK I q (by simp))
  |int j=>obtain⟨t',rfl⟩:=ry;exact PySem.EqMixed.eq_str_int (aK I q (by simp))
  |str j=>obtain⟨t',rfl⟩:=ry;exact eq_str (aK I q hJ)
  |_=>exact Eb (show false=true from hs) dv
 |byt i=>
  obtain⟨t,rfl⟩:=rx;cases y with
  |byt j=>obtain⟨t',rfl⟩:=ry;exact PySem.W.eq_bytes (aK I q hV)
  |_=>exact Eb (show false=true from hs) dv
 |_=>cases y<;>exact Eb (show false=true from hs) dv
theorem pP:OpR X (compareOp .NotEq) z8:=by
 intro pins s σ H x y v u Q I rx ry h;obtain⟨hs,q⟩:=h;cases x with
 |non=>
  cases rx;cases y with
  |non=>cases ry;exact PySem.EqNone.ne_none_none (aK I q (by simp))
  |bl j=>cases ry;exact PySem.EqNone.ne_none_bool (aK I q (by simp))
  |int j=>obtain⟨t',rfl⟩:=ry;exact PySem.EqNone.ne_none_int (aK I q (by simp))
  |str j=>obtain⟨t',rfl⟩:=ry;exact PySem.EqNone.ne_none_str (aK I q (by simp))
  |_=>exact Eb (show false=true from hs) dv
 |bl i=>
  cases rx;cases y with
  |non=>cases ry;exact PySem.EqNone.ne_bool_none (aK I q (by simp))
  |bl j=>cases ry;exact ne_bool (aK I q (congrArg not jv))
  |str j=>obtain⟨t',rfl⟩:=ry;exact PySem.EqMixed.ne_bool_str (aK I q (by simp))
  |_=>exact Eb (show false=true from hs) dv
 |int i=>
  obtain⟨t,rfl⟩:=rx;cases y with
  |non=>cases ry;exact PySem.EqNone.ne_int_none (aK I q (by simp))
  |int j=>obtain⟨t',rfl⟩:=ry;exact ne_int (aK I q (congrArg not g9))
  |str j=>obtain⟨t',rfl⟩:=ry;exact PySem.EqMixed.ne_int_str (aK I q (by simp))
  |_=>exact Eb (show false=true from hs) dv
 |str i=>
  obtain⟨t,rfl⟩:=rx;cases y with
  |non=>cases ry;exact PySem.EqNone.ne_str_none (aK I q (by simp))
  |bl j=>cases ry;exact PySem.EqMixed.ne_str_bool (aK I q (by simp))
  |int j=>obtain⟨t',rfl⟩:=ry;exact PySem.EqMixed.ne_str_int (aK I q (by simp))
  |str j=>obtain⟨t',rfl⟩:=ry;exact ne_str (aK I q (congrArg not hJ))
  |_=>exact Eb (show false=true from hs) dv
 |byt i=>
  obtain⟨t,rfl⟩:=rx;cases y with
  |byt j=>obtain⟨t',rfl⟩:=ry;exact PySem.W.ne_bytes (aK I q (congrArg not hV))
  |_=>exact Eb (show false=true from hs) dv
 |_=>cases y<;>exact Eb (show false=true from hs) dv
theorem iw:OpR X (compareOp .In) (λx y H Q=>∃i j,x=.str i/\y=.str j/\Q (.bl (!(Builtin.Str.occurrences j i 0 j.length 1).isEmpty)) H):=by
 intro pins s σ H x y v u Q I rx ry h;obtain⟨i,j,rfl,rfl,q⟩:=h;obtain⟨t,rfl⟩:=rx;obtain⟨t',rfl⟩:=ry;exact in_str (aK I q rfl)
theorem OpR.or{f:Value->Value->Sem Value}(h:OpR X f r)(h':OpR X f r'):OpR X f (λx y H Q=>r x y H Q\/r' x y H Q):=by
 intro pins s σ H x y v u Q I rx ry q;rcases q with q|q
 .exact h pins s σ H x y v u Q I rx ry q
 .exact h' pins s σ H x y v u Q I rx ry q
theorem gy(b:Expr)(h:op≠.In:=by decide)(h2:op≠.NotIn:=by decide):behindInMarks op b=false:=by
 have e1:(op==CmpOp.In)=false:=by cases op<;>first|rfl|exact Eb rfl h
 have e2:(op==CmpOp.NotIn)=false:=by cases op<;>first|rfl|exact Eb rfl h2
 cases b<;>simp[behindInMarks,e1,e2]
theorem kY(ho:OpR X (compareOp op) r)(ha:PE X a ta)(hb:PE X b tb)(hm:behindInMarks op b=false):PE X (.Compare a [op] [b] pos) (rR r ta tb):=by
 intro pins s σ H Q I h;exact wpAny_Compare1 (mZ ha hb I h λv u s2 x y H2 I2 rx ry q=>ho pins s2 σ H2 x y v u Q I2 rx ry q) hm
def l4(t:TE):TT:=λσ H Q=>t σ H λx H'=>∃k,x=.bl k/\Q k H'
theorem dU(ho:OpR X (compareOp op) r)(ha:PE X a ta)(hb:PE X b tb)(hm:behindInMarks op b=false):PT X (.Compare a [op] [b] pos) (l4 (rR r ta tb)):=by
 intro pins s σ H Q I h;refine wpAny_isTrue_Compare1 (aU (ha pins s σ H _ I h) λv s1 ⟨x,H1,I1,r1,q1⟩=>aU (hb pins s1 σ H1 _ I1 q1) λu s2 ⟨y,H2,I2,r2,q2⟩=>
  aU (ho pins s2 σ H2 x y v u _ I2 r1 r2 q2) λc s3 ⟨z,H3,I3,r3,k,e,q3⟩=>?_) hm
 subst e;cases r3;exact Es ⟨H3,I3,q3⟩
def jw(r r':R2)(ta tb tc:TE):TE:=λσ H Q=>ta σ H λx H1=>tb σ H1 λy H2=>r x y H2 λz H3=>∃k,z=.bl k/\
 (if k=true then tc σ H3 λw' H4=>r' y w' H4 Q else Q (.bl false) H3)
theorem jx{op':CmpOp}(ho:OpR X (compareOp op) r)(ho':OpR X (compareOp op') r')(ha:PE X a ta)(hb:PE X b tb)(hc:PE X c tc)
  (hm:lastMarks [op,op'] [b,c]=false:=by with_unfolding_all rfl):PE X (.Compare a [op,op'] [b,c] pos) (jw r r' ta tb tc):=by
 intro pins s σ H Q I h;refine Compare_chain (aU (ha pins s σ H _ I h) λv s1 ⟨x,H1,I1,r1,q1⟩=>chain_link (aU (hb pins s1 σ H1 _ I1 q1) λu s2 ⟨y,H2,I2,r2,q2⟩=>
  aU (ho pins s2 σ H2 x y v u _ I2 r1 r2 q2) λd s3 ⟨z,H3,I3,r3,k,e,q3⟩=>?_)) hm
 subst e;cases r3;refine Es ?_;cases k with
 |false=>exact ite_ff ⟨.bl false,H3,I3,rfl,q3⟩
 |true=>exact ite_tt (chain_last (aU (hc pins s3 σ H3 _ I3 q3) λw' s4 ⟨z',H4,I4,r4,q4⟩=>ho' pins s4 σ H4 y z' u w' Q I4 r2 r4 q4))
theorem jy{op':CmpOp}(ho:OpR X (compareOp op) r)(ho':OpR X (compareOp op') r')(ha:PE X a ta)(hb:PE X b tb)(hc:PE X c tc)
  (hm:lastMarks [op,op'] [b,c]=false:=by with_unfolding_all rfl):PT X (.Compare a [op,op'] [b,c] pos) (l4 (jw r r' ta tb tc)):=by
 intro pins s σ H Q I h;refine isTrue_chain (aU (ha pins s σ H _ I h) λv s1 ⟨x,H1,I1,r1,q1⟩=>test_link (aU (hb pins s1 σ H1 _ I1 q1) λu s2 ⟨y,H2,I2,r2,q2⟩=>
  aU (ho pins s2 σ H2 x y v u _ I2 r1 r2 q2) λd s3 ⟨z,H3,I3,r3,k,e,q3⟩=>?_)) hm
 subst e;cases r3;refine Es ?_;cases k with
 |false=>
  obtain⟨k',e',q'⟩:=q3;cases e';exact ite_ff ⟨H3,I3,q'⟩
 |true=>
  refine ite_tt (test_last (aU (hc pins s3 σ H3 _ I3 q3) λw' s4 ⟨z',H4,I4,r4,q4⟩=>aU (ho' pins s4 σ H4 y z' u w' _ I4 r2 r4 q4) λd' s5 ⟨z2,H5,I5,r5,k2,e2,q5⟩=>?_));subst e2;cases r5;exact Es ⟨H5,I5,q5⟩
def pQ(K:D9)(x:V)(H:Hp)(k:Bool):Prop:=
 match x with
 |.non=>k=false
 |.bl b=>k=b
 |.int i=>k=(i != 0)
 |.str y=>y.length<=sizeLine/\k=((y.length:Int) != 0)
 |.byt y=>y.size<=sizeLine/\k=((y.size:Int) != 0)
 |.ref p=>(∃xs,SqL K H p xs/\k = !xs.isEmpty)\/(∃xs,SqT K H p xs/\k = !xs.isEmpty)\/∃kvs,H p=some (.dK kvs)/\k = !kvs.isEmpty
 |_=>False
theorem gz{kvs:List (κ×V)}{vs:List (κ×Value)}(r:KV kvs vs):(!vs.isEmpty) = !kvs.isEmpty:=by
 cases r<;>rfl
theorem d7{its:List Value}(r:Vals xs its):(!its.toArray.isEmpty) = !xs.isEmpty:=by
 cases r<;>simp
theorem cI:(sizeLine:Nat)<2^63:=by rw[sizeLine_eq];decide
theorem m8:tZ X (λx H Q=>∃k,pQ X.K x H k/\Q k H):=by
 intro pins s σ H x v Q I rx h;obtain⟨k,e,q⟩:=h;have hl:=cI;have hs:sizeLine=16777216:=sizeLine_eq;cases x with
 |non=>
  cases rx;have e':k=false:=e;subst e';exact truthy_none ⟨H,I,q⟩
 |bl b=>
  cases rx;have e':k=b:=e;subst e';exact Es ⟨H,I,q⟩
 |int i=>
  obtain⟨t,rfl⟩:=rx;have e':k=(i != 0):=e;subst e';exact PySem.P.truthy_int ⟨H,I,q⟩
 |str y=>
  obtain⟨t,rfl⟩:=rx;obtain⟨hy,e'⟩:y.length<=sizeLine/\k=((y.length:Int) != 0):=e;subst e';exact PySem.P.truthy_str (by omega) ⟨H,I.tok _,q⟩
 |byt y=>
  obtain⟨t,rfl⟩:=rx;obtain⟨hy,e'⟩:y.size<=sizeLine/\k=((y.size:Int) != 0):=e;subst e';exact PySem.W.truthy_bytes (by omega) ⟨H,I.tok _,q⟩
 |ref p=>
  cases rx;have e':(∃xs,SqL X.K H p xs/\k = !xs.isEmpty)\/(∃xs,SqT X.K H p xs/\k = !xs.isEmpty)\/∃kvs,H p=some (.dK kvs)/\k = !kvs.isEmpty:=e;rcases e' with⟨xs,hx,e'⟩|⟨xs,hx,e'⟩|⟨kvs,hx,e'⟩
  .subst e'
   obtain⟨its,r,pl,hz⟩:=I.list hx;have hlen:=r.length;exact wpAny_truthy_list pl.isList (by simp only[cw];omega) ⟨H,I.tok _,by rw[d7 r];exact q⟩
  .subst e'
   obtain⟨its,r,pl,hz⟩:=I.tuple hx;have hlen:=r.length;exact truthy_tuple pl (by simp only[cw];omega) ⟨H,I.tok _,by rw[d7 r];exact q⟩
  .subst e'
   obtain⟨hz,hS,vs,r,m⟩:kvs.length<=sizeLine/\(p==sysModules)=false/\∃vs,KV kvs vs/\s.heap.DictOf (e9 X.prog X.w) p vs:=I.hok p _ hx;have hlen:kvs.length=vs.length:=Paired.length r;exact wpAny_truthy_dict hS m (by omega) ⟨H,I.tok _,by rw[gz r];exact q⟩
 |_=>exact(show False from e).elim
theorem fP(ha:PE X a ta)(he:∀whole,isTrue a X.env whole=(do let v <-whole;standAt a.pos;holding [v] (truthy v))) :
  PT X a (λσ H Q=>ta σ H λx H'=>∃k,pQ X.K x H' k/\Q k H'):=by
 intro pins s σ H Q I h;exact isTrue_plain (aU (ha pins s σ H _ I h) λv s1 ⟨x,H1,I1,r1,q1⟩=>m8 pins s1 σ H1 x v Q I1 r1 q1) (he _)
theorem gA:OpR X (binaryOp .Add) (λx y H Q=>∃i j,x=.str i/\y=.str j/\i.length+j.length<=sizeLine/\Q (.str (i++j)) H):=by
 intro pins s σ H x y v u Q I rx ry h;obtain⟨i,j,rfl,rfl,hz,q⟩:=h;obtain⟨t,rfl⟩:=rx;obtain⟨t',rfl⟩:=ry;exact add_str (λt' tk=>⟨.str (i++j),H,I.tok _,⟨_,rfl⟩,q⟩) hz
theorem bT{x:V}(r:Vals [x] us):∃u,us=[u]/\RelV x u:=by
 cases r with
 |cons r1 r2=>cases r2;exact⟨_,rfl,r1⟩
theorem hW{x:V}(r:Vals [x,y] us):∃u w',us=[u,w']/\RelV x u/\RelV y w':=by
 cases r with
 |cons r1 r2=>
  cases r2 with
  |cons r3 r4=>cases r4;exact⟨_,_,rfl,r1,r3⟩
theorem jz:b7 X (.builtin "abs") (λxs H Q=>∃i,xs=[.int i]/\Q (.int (if i<0 then -i else i)) H):=by
 intro pins s σ H xs us Q I r h;obtain⟨i,rfl,q⟩:=h;obtain⟨u,rfl,t,rfl⟩:=bT r;exact call_abs_int λu tk=>⟨.int (if i<0 then -i else i),H,I.tok _,⟨_,rfl⟩,q⟩
theorem ix(hc:X.calm=true):b7 X (.builtin "max") (λxs H Q=>∃i j,xs=[.int i,.int j]/\Q (.int (if j>i then j else i)) H):=by
 intro pins s σ H xs us Q I r h;obtain⟨i,j,rfl,q⟩:=h;obtain⟨u,w',rfl,⟨t,rfl⟩,⟨t',rfl⟩⟩:=hW r;refine max_two_ints (I.ok.hd hc) λh' tk k=>⟨_,H,I.kept k,?_,q⟩
 by_cases hj:j>i
 .rw[if_pos hj,if_pos hj];exact⟨_,rfl⟩
 .rw[if_neg hj,if_neg hj];exact⟨_,rfl⟩
theorem iy:b7 X (.type "int") (λxs H Q=>(∃i,xs=[.int i]/\Q (.int i) H)\/∃k,xs=[.bl k]/\Q (.int (if k then 1 else 0)) H):=by
 intro pins s σ H xs us Q I r h;rcases h with⟨i,rfl,q⟩|⟨k,rfl,q⟩
 .obtain⟨u,rfl,t,rfl⟩:=bT r
  exact call_int_int ⟨.int i,H,I,⟨_,rfl⟩,q⟩
 .obtain⟨u,rfl,r1⟩:=bT r
  cases r1;exact call_int_bool ⟨.int (if k then 1 else 0),H,I.tok _,⟨_,rfl⟩,q⟩
theorem ff:b7 X (.type "str") (λxs H Q=>∃i,xs=[.int i]/\i.natAbs.log2<1920/\Q (.str (toString i)) H):=by
 intro pins s σ H xs us Q I r h;obtain⟨i,rfl,hz,q⟩:=h;obtain⟨u,rfl,t,rfl⟩:=bT r;exact PySem.P.str_of_int hz ⟨.str _,H,I.tok _,⟨_,rfl⟩,q⟩
end
structure ObjM(h:Heap)(x dx C:Addr)(mA:Str->Option Value):Prop where
 obj:h.get? x=some (PySem.W.instObj C dx)
 ns:h.Ns1 dx mA
 ne:dx≠x
theorem iz(n:h.Ns1 dx mA):∃od,h.get? dx=some od/\∀name,PySem.W.lookIn name od=some (mA name):=by
 obtain⟨o,es,ep,ho,hd,hk,_,hm⟩:=n;refine⟨o,ho,λname=>?_⟩;have e:=hm name;unfold nsFind findBy at e;rw[<-tu] at e;unfold PySem.W.lookIn;rw[hd];dsimp only;split
 .rename_i y q
  rw[q] at e;exact congrArg some e
 .rename_i q
  rw[q] at e;have a:es.toList.any (·.refKey)=false:=by
   rw[List.any_eq_false];intro y hy;obtain⟨z,t,hkey⟩:=hk y (Array.mem_toList_iff.mp hy);simp[DictEntry.refKey,hkey]
  have a':¬es.toList.any (·.refKey)=true:=by rw[a];exact dv
  rw[if_neg a'];exact congrArg some e
theorem ObjM.look{x C:Addr}(I:ObjM h x dx C mA):∃od,PySem.W.InstAt h x (PySem.W.instObj C dx) C (some od)/\∀name,PySem.W.lookIn name od=some (mA name):=
 let⟨od,ho,hl⟩:=iz I.ns
 ⟨od,⟨I.obj,rfl,rfl,ho⟩,hl⟩
section
variable{x C f:Addr}{v:Value}
theorem kZ{expr:Bool}(X:K.In s.heap)(I:ObjM s.heap x dx C mA)(hg:PySem.W.plainGet K C name=true)(hh:PySem.W.hasDictIn K C=true)
  (ha:PySem.W.findIn K (.ref C) name=some none) (hv:mA name=some v) (hv':PySem.W.handedIn v=true) (h:Q v { s with toks:=s.toks+1 }) :
  wpAny (model prog w) A (getAttr (.ref x) name expr) Q E s:=by
 obtain⟨od,J,hl⟩:=I.look;exact PySem.W.get_value X J (PySem.W.plainGet_of hg).1 (PySem.W.findObj_own hh ha rfl (by rw[hl,hv])) hv' h
theorem jA{Q:Value×List Value->Shared->Prop}(X:K.In s.heap)(I:ObjM s.heap x dx C mA)(hg:PySem.W.plainGet K C name=true)
  (hf:PySem.W.findIn K (.ref C) name=some (some (.ref f))) (ht:PySem.W.isFn K (.ref f)=true) (hv:mA name=none) (h:Q (.ref f,[.ref x]) s) :
  wpAny (model prog w) A (getMethod (.ref x) name pl) Q E s:=by
 obtain⟨od,J,hl⟩:=I.look;exact PySem.W.method_fn X J (PySem.W.plainGet_of hg).1 (PySem.W.plainGet_of hg).2 hf (beq_iff_eq.mp ht) (by show(PySem.W.lookIn name od).map (·.isSome)=some false;rw[hl,hv];rfl) h
theorem k6{ns:List Str}{Q:Unit->Shared->Prop}(X:K.In s.heap)(I:ObjM s.heap x dx C mA)
  (hs:PySem.W.findIn K (.ref C) "__setattr__" = some (some (.builtin "object.__setattr__"))) (hp:PySem.W.plainOver K C=true) (ht:PySem.W.takerIn K C name=some none) (hh:PySem.W.hasDictIn K C=true)
  (hw:PySem.Within mA ns) (hsz:ns.length<=sizeLine)
  (h:∀h',ObjM h' x dx C (λy=>if y=name then some v else mA y)->Heap.SameBut dx s.heap h'->Q () { s with heap:=h',toks:=s.toks+2 }) :
  wpAny (model prog w) A (setAttr (.ref x) name v) Q E s:=by
 obtain⟨od,J,hl⟩:=I.look;refine PySem.W.set_plain X J hs (PySem.W.osa_open (s:={ s with toks:=s.toks+1 }) (r:=none) X J hp ht λb=>?_);obtain⟨cd,hc,hd'⟩:=PySem.W.any_some hh;have hx:s.heap.get? x=some ⟨.ref C,some dx,.plain,#[]⟩:=I.obj;refine D8 (Ea (D8 (D8 (wpAny_loadPart hx (D8 (PySem.W.Looks.here (s:={ s with toks:=s.toks+1 }) (PySem.W.looks_clsIn X hc) ?_))))));rw[hd'];refine Ea (a:=some dx) (D8 (Ea (D8 ?_)));refine wpAny_nsSet1 (s:={ s with toks:=s.toks+1 }) I.ns λh' hn2 hs2=>?_;obtain⟨oD,esD,epD,hoD,hdD,hcD⟩:=hn2.count (PySem.Within.cons name v hw);refine D8 (wpAny_lookBehind hoD (by rw[hdD];exact pastItsLine_dict (fA hcD (by rw[cn];omega))) ?_);exact Ea (h _ ⟨(hs2.2 _ (Em I.ne)).trans I.obj,hn2,I.ne⟩ hs2)
theorem jB{R:Result->Shared->Prop}{vs:List Value}(X:K.In s.heap)(hm:PySem.W.makesIn K C=true)
  (hi:PySem.W.findIn K (.ref C) "__init__" = some (some (.ref f))) (hf:PySem.W.typeIn K (.ref f)=some (.type "function"))
  (h:codeAny (model prog w) (A.under (.builtin "type.__call__" ⟨.ref C::vs,kw⟩)) (.call (.ref f) ⟨.ref (s.heap.objs.size+1)::vs,kw⟩) (PySem.W.InitBack (s.heap.objs.size+1) R)
   { s with heap:=(s.heap.push PySem.W.emptyDict).push (PySem.W.instObj C s.heap.objs.size) }) :
  codeAny (model prog w) A (.call (.ref C) ⟨vs,kw⟩) R s:=by
 obtain⟨hh,g,d,t,os⟩:=s;exact PySem.W.make_core (PySem.W.makes_of X hm) (PySem.W.looks_findIn X hi) (λself=>PySem.W.bind_fn X self hf) (.inl rfl) h
end
def cz(f:Str)(v:V):List (Str×V)->List (Str×V)
 |[]=>[(f,v)]
 |(g,x)::r=>if g=f then(g,v)::r else(g,x)::cz f v r
theorem dw(f g:Str)(v:V):∀fs:List (Str×V),(cz f v fs).lookup g=if g=f then some v else fs.lookup g
 |[]=>by
  show List.lookup g [(f,v)]=_
  by_cases h:g=f
  .have hb:(g==f)=true:=beq_iff_eq.mpr h
   simp only[List.lookup,hb,if_pos h]
  .have hb:(g==f)=false:=beq_eq_false_iff_ne.mpr h
   simp only[List.lookup,hb,if_neg h]
 |(k,x)::r=>by
  have ih:=dw f g v r;rw[show cz f v ((k,x)::r)=(if k=f then(k,v)::r else(k,x)::cz f v r) from rfl]
  by_cases hk:k=f
  .rw[if_pos hk]
   by_cases h:g=k
   .have hb:(g==k)=true:=beq_iff_eq.mpr h
    simp only[List.lookup,hb,if_pos (h.trans hk)]
   .have hb:(g==k)=false:=beq_eq_false_iff_ne.mpr h
    simp only[List.lookup,hb,if_neg (λe:g=f=>h (e.trans hk.symm))]
  .rw[if_neg hk]
   by_cases h:g=k
   .have hb:(g==k)=true:=beq_iff_eq.mpr h
    simp only[List.lookup,hb,if_neg (λe:g=f=>hk (h.symm.trans e))]
   .have hb:(g==k)=false:=beq_eq_false_iff_ne.mpr h
    simp only[List.lookup,hb];exact ih
theorem dg(f:Str)(v:V):∀fs:List (Str×V),f∈(cz f v fs).map (·.1)/\∀g,g∈fs.map (·.1)->g∈(cz f v fs).map (·.1)
 |[]=>⟨by simp[cz],λg h=>by simp at h⟩
 |(k,x)::r=>by
  obtain⟨i1,i2⟩:=dg f v r;rw[show cz f v ((k,x)::r)=(if k=f then(k,v)::r else(k,x)::cz f v r) from rfl]
  by_cases hk:k=f
  .rw[if_pos hk]
   subst hk;exact⟨by simp,λg h=>by simpa using h⟩
  .rw[if_neg hk]
   refine⟨?_,λg h=>?_⟩
   .rw[dD]
    exact da _ i1
   .rw[dD] at h ⊢
    rcases Yan.mp h with e|e
    .exact Yan.mpr (.inl e)
    .exact da _ (i2 g e)
theorem dA(f:Str)(v:V):∀fs:List (Str×V),(cz f v fs).length<=fs.length+1
 |[]=>by simp[cz]
 |(k,x)::r=>by
  have ih:=dA f v r;rw[show cz f v ((k,x)::r)=(if k=f then(k,v)::r else(k,x)::cz f v r) from rfl]
  by_cases hk:k=f
  .rw[if_pos hk,cn,cn];omega
  .rw[if_neg hk,cn,cn];omega
theorem RelO.some_of{o:Option Value}(r:RelO (some v) o):∃u,o=some u/\RelV v u:=by
 cases o with
 |none=>exact(show False from r).elim
 |some u=>exact⟨u,rfl,r⟩
theorem RelO.none_of{o:Option Value}(r:RelO none o):o=none:=by
 cases o with
 |none=>rfl
 |some u=>exact(show False from r).elim
theorem iA{u:Value}(r:RelV v u):PySem.W.handedIn u=true:=by
 cases v with
 |non=>cases(show u=Value.none from r);rfl
 |bl b=>cases(show u=Value.bool b from r);rfl
 |int i=>obtain⟨t,e⟩:=(show∃t,u=Value.int i t from r);cases e;rfl
 |str x=>obtain⟨t,e⟩:=(show∃t,u=Value.str x t from r);cases e;rfl
 |byt b=>obtain⟨t,e⟩:=(show∃t,u=Value.bytes b t from r);cases e;rfl
 |flt b=>obtain⟨t,e⟩:=(show∃t,u=Value.float b t from r);cases e;rfl
 |ref a=>cases(show u=Value.ref a from r);rfl
 |ty n=>cases(show u=Value.type n from r);rfl
section
variable{C:Addr}{fs fs':List (Str×V)}
theorem fg(hok:HOk P w H h)(e:H a=some (.ins C dx fs)):∃mA,ObjM h a dx C mA/\(∀f,RelO (fs.lookup f) (mA f))/\PySem.Within mA (fs.map (·.1))/\fs.length<=1000/\H dx=some (.own a):=by
 obtain⟨d,z,ne,ob,mA,n,r,q⟩:=(show ObjOk P w H h a (.ins C dx fs) from hok a _ e)
 exact⟨mA,⟨ob,n,ne⟩,r,q,z,d⟩
end
structure Cls(K:D9)(C:Addr):Prop where
 pg:PySem.W.plainGet K C Str.empty=true
 hd:PySem.W.hasDictIn K C=true
 po:PySem.W.plainOver K C=true
 sa:PySem.W.findIn K (.ref C) "__setattr__" = some (some (.builtin "object.__setattr__"))
theorem Cls.get{C:Addr}(c:Cls K C)(f:Str):PySem.W.plainGet K C f=true:=c.pg
def NoAttr(K:D9)(C:Addr)(f:Str):Prop:=PySem.W.findIn K (.ref C) f=some none
theorem NoAttr.taker{C:Addr}{f:Str}(n:NoAttr K C f):PySem.W.takerIn K C f=some none:=by
 unfold PySem.W.takerIn;rw[show PySem.W.findIn K (.ref C) f=some none from n];rfl
structure fQ(K:D9)(C:Addr)(m:Str)(f:Addr):Prop where
 at_:PySem.W.findIn K (.ref C) m=some (some (.ref f))
 fn:PySem.W.isFn K (.ref f)=true
 kp:PySem.W.keepIn K (.ref f)=true
section
variable{C:Addr}{fs:List (Str×V)}{f:Str}
theorem gB{b:Bool}(I:Inv X pins σ H s)(e:H a=some (.ins C dx fs))(c:Cls X.K C)(n:NoAttr X.K C f)(l:fs.lookup f=some v)
  (h:∀u s',Inv X pins σ H s'->RelV v u->Q u s'):wpAny (model X.prog X.w) A (getAttr (.ref a) f b) Q E s:=by
 obtain⟨mA,O,r,_,_,_⟩:=fg I.hok e;obtain⟨u,hu,ru⟩:=RelO.some_of (v:=v) (o:=mA f) (by rw[<-l];exact r f);exact kZ I.kIn O (c.get f) c.hd n hu (iA ru) (h u _ (I.tok _) ru)
theorem cJ{g:Addr}{Q:Value×List Value->Shared->Prop}(I:Inv X pins σ H s)(e:H a=some (.ins C dx fs))(c:Cls X.K C)(k:fQ X.K C m g)(l:fs.lookup m=none)
  (h:Q (.ref g,[.ref a]) s):wpAny (model X.prog X.w) A (getMethod (.ref a) m pl) Q E s:=by
 obtain⟨mA,O,r,_,_,_⟩:=fg I.hok e;have hn:mA m=none:=RelO.none_of (by rw[<-l];exact r m);exact jA I.kIn O (c.get m) k.at_ k.fn hn h
theorem gC{u:Value}{Q:Unit->Shared->Prop}(I:Inv X pins σ H s)(e:H a=some (.ins C dx fs))(c:Cls X.K C)(n:NoAttr X.K C f)(hl:fs.length<1000)(ry:RelV y u)
  (h:∀s',Inv X pins σ (upd H a (.ins C dx (cz f y fs))) s'->Q () s'):wpAny (model X.prog X.w) A (setAttr (.ref a) f u) Q E s:=by
 obtain⟨mA,O,r,wi,_,ho⟩:=fg I.hok e;have hz:(fs.map (·.1)).length<=sizeLine:=by rw[bJ,sizeLine_eq];omega
 refine k6 I.kIn O c.sa c.po n.taker c.hd wi hz λh' O' sb=>h _ ?_;have hd:∃o,h'.get? dx=some o:=let⟨o,_,_,e',_⟩:=O'.ns;⟨o,e'⟩;refine I.write (x:=a) (e:=dx) (by rw[e];exact True.intro) (.inr ho) (λb q hb z=>(sb.2 b hb).trans z) hd ?_ (.inr λ_ z=>nomatch z);refine⟨by rw[aE O.ne];exact ho,?_,O.ne,O'.obj,_,O'.ns,λg=>?_,λg hg=>?_⟩
 .have:=dA f y fs;omega
 .show RelO ((cz f y fs).lookup g) (if g=f then some u else mA g)
  rw[dw]
  by_cases q:g=f
  .rw[if_pos q,if_pos q];exact ry
  .rw[if_neg q,if_neg q];exact r g
 .by_cases q:g=f
  .rw[q];exact(dg f y fs).1
  .refine(dg f y fs).2 g (wi g λz=>hg ?_)
   show(if g=f then some u else mA g)=none;rw[if_neg q];exact z
theorem Inv.made(I:Inv X pins σ H s):Inv X pins σ (upd (upd H s.heap.objs.size (.own (s.heap.objs.size+1))) (s.heap.objs.size+1) (.ins C s.heap.objs.size []))
  { s with heap:=(s.heap.push PySem.W.emptyDict).push (PySem.W.instObj C s.heap.objs.size) }:=by
 have e1:(s.heap.push PySem.W.emptyDict).get? s.heap.objs.size=some PySem.W.emptyDict:=gc s.heap rfl;have e2:((s.heap.push PySem.W.emptyDict).push (PySem.W.instObj C s.heap.objs.size)).get? (s.heap.objs.size+1)=some (PySem.W.instObj C s.heap.objs.size):=by
  have:=gc (s.heap.push PySem.W.emptyDict) (o:=PySem.W.instObj C s.heap.objs.size) rfl
  rwa [oa] at this
 have e3:(s.heap.push PySem.W.emptyDict).Ns s.heap.objs.size (λ_=>none):=⟨PySem.W.emptyDict,#[],_,e1,rfl,(λe he=>Eb he (by simp)),λ_=>rfl⟩
 have I1:=I.laid (a:=s.heap.objs.size) (o:=.own (s.heap.objs.size+1)) (h':=s.heap.push PySem.W.emptyDict) (t':=s.toks) (λb u q=>cj _ q) (bO _) ⟨_,e1⟩;refine I1.laid (a:=s.heap.objs.size+1) (o:=.ins C s.heap.objs.size []) (t':=s.toks) (λb u q=>cj _ q) (Nat.le_of_eq (oa _ _)) ?_;have ne:s.heap.objs.size≠s.heap.objs.size+1:=el (Nat.lt_succ_self _);refine⟨by rw[aE ne,aF],im _,ne,e2,λ_=>none,(Heap.Ns1.of_empty e3).at λo q=>cj _ q,λ_=>True.intro,λy hy=>Eb rfl hy⟩
theorem fh{env:Env}{f:Str}(hb:attributeBase e f env (eval e env)=eval e env)
  (h:wpAny (model prog w) A (eval e env) (λo s₁=>wpAny (model prog w) A (getAttr o f true) Q E s₁) E s):wpAny (model prog w) A (eval (.Attribute e f pos) env) Q E s:=
 Attribute_any_ h (by rw[arm_eval_Attribute,hb])
end
def t0(K:D9)(ta:TE)(f:Str):TE:=λσ H Q=>ta σ H λx H1=>∃a C dx fs v,x=.ref a/\H1 a=some (.ins C dx fs)/\Cls K C/\NoAttr K C f/\fs.lookup f=some v/\Q v H1
def t3(K:D9)(ta tv:TE)(f:Str):TS:=λD σ H=>tv σ H λy H1=>ta σ H1 λx H2=>∃a C dx fs,x=.ref a/\H2 a=some (.ins C dx fs)/\Cls K C/\NoAttr K C f/\fs.length<1000/\
 D.nx σ (upd H2 a (.ins C dx (cz f y fs)))
section
variable{o value:Expr}{f:Str}{tpos:Pos}{tv:TE}
theorem m9(he:PE X e ta)(hb:attributeBase e f X.env (eval e X.env)=eval e X.env):PE X (.Attribute e f pos) (t0 X.K ta f):=by
 intro pins s σ H Q I h;refine fh hb (aU (he pins s σ H _ I h) λu s1 ⟨x,H1,I1,rx,a,C,dx,fs,v,ex,ea,c,n,l,q⟩=>?_);subst ex;obtain rfl:u=Value.ref a:=rx;exact gB I1 ea c n l λu' s2 I2 ru=>⟨v,H1,I2,ru,q⟩
theorem nb(ha:PE X o ta)(hv:PE X value tv)(hs:swapsWith value (some (.Attribute o f pos')) pos.line X.env=pure false):PS X (.Assign [.Attribute o f pos'] value pos) (t3 X.K ta tv f):=by
 intro pins s σ H D I h;refine plainObj_wpAny_Assign_Attribute (aU (hv pins s σ H _ I h) λu s1 ⟨y,H1,I1,ry,q⟩=>aU (ha pins s1 σ H1 _ I1 q) λov s2 ⟨x,H2,I2,rx,a,C,dx,fs,ex,ea,c,n,l,q2⟩=>?_) hs;subst ex;obtain rfl:ov=Value.ref a:=rx;exact gC I2 ea c n l ry λs3 I3=>⟨σ,_,I3,q2⟩
theorem l5{args:List Expr}(he:PE X e te)(I:Inv X pins σ H s)
  (h:te σ H λx H1=>∃ a C dx fs g,x = .ref a/\H1 a=some (.ins C dx fs)/\Cls X.K C/\fQ X.K C m g/\fs.lookup m=none/\
   ∀s1,Inv X pins σ H1 s1->wpAny (model X.prog X.w) X.A (callWith pos (.ref g) [.ref a] (backTo pos (starEach args X.env)) (backToKw pos (keywordEach [] X.env))) Q X.xe s1)
  (ht:eval (.Call (.Attribute e m apos) args [] pos) X.env=(do
   let ov <-eval e X.env
   standAt apos.atName
   let(f,first) <-holding [ov] (getMethod ov m pl)
   callWith pos f first (backTo pos (starEach args X.env)) (backToKw pos (keywordEach [] X.env)))) :
  wpAny (model X.prog X.w) X.A (eval (.Call (.Attribute e m apos) args [] pos) X.env) Q X.xe s:=by
 refine PySem.W.methodCall_KW (pl:=pl) (aU (he pins s σ H _ I h) λu s1 ⟨x,H1,I1,rx,a,C,dx,fs,g,ex,ea,c,k,l,q⟩=>?_) ht;subst ex;obtain rfl:u=Value.ref a:=rx;exact cJ I1 ea c k l (q s1 I1)
end
structure Room(k:Nat)(A:Around):Prop where
 hd:A.handled=none
 gd:A.guards=some []
 dp:A.depth+3*k+5<recursionLimit
 un:A.units+16*k+200<cLine
theorem Room.mono(r:Room k A)(h:j<=k):Room j A:=⟨r.hd,r.gd,by have:=r.dp;omega,by have:=r.un;omega⟩
theorem Room.deeper{k:Nat}{A:Around}(r:Room (k+1) A)(env:Env):Room k (A.deeper env):=
 ⟨r.hd,r.gd,by have:=r.dp;show A.depth+1+3*k+5<_;omega,by have:=r.un;show A.units+3+16*k+200<_;omega⟩
theorem gD{C:Addr}:(A.under (.builtin "type.__call__" ⟨.ref C::us,kw⟩)).depth=A.depth+1:=by
 first|rfl|simp[Around.under,Code.weight,Code.isCreation,Code.isGuard,Code.isCaller,Code.frames,Code.isFrame,guardIds]
theorem gE{C:Addr}:(A.under (.builtin "type.__call__" ⟨.ref C::us,kw⟩)).units=A.units+1:=by
 first|rfl|simp[Around.under,Code.cUnits,Code.frames,Code.isFrame]
theorem Room.make(r:Room (k+1) A)(C:Addr)(us:List Value)(kw:List (Str×Value)):Room k (A.under (.builtin "type.__call__" ⟨.ref C::us,kw⟩)):=
 ⟨r.hd,by first|exact r.gd|simp[Around.under,Code.weight,Code.isCreation,Code.isGuard,Code.isCaller,Code.frames,Code.isFrame,guardIds,r.gd],by have:=r.dp;rw[gD];omega,by have:=r.un;rw[gE];omega⟩
theorem Room.depth{k:Nat}{A:Around}(r:Room k A):A.depth<recursionLimit:=by have:=r.dp;omega
theorem Room.units{k:Nat}{A:Around}(r:Room k A):A.units+64<cLine:=by have:=r.un;omega
def nc:TA:=λ_ H Q=>Q [] H
def pR(ta:TE)(tr:TA):TA:=λσ H Q=>ta σ H λx H1=>tr σ H1 λxs H2=>Q (x::xs) H2
section
theorem cf:PA X [] nc:=λ_ _ _ _ H Q I h=>Calls.spliced_nil ⟨[],H,I,.nil,h⟩
theorem bF(ha:PE X e te)(hr:PA X es t)(hs:starEach (e::es) X.env=(false,eval e X.env)::starEach es X.env:=by rfl):PA X (e::es) (pR te t):=by
 intro pos pins s σ H Q I h;rw[hs];show wpAny _ _ (spliced ((false,eval e X.env)::backTo pos (starEach es X.env))) _ _ s;refine Calls.spliced_cons (aU (ha pins s σ H _ I h) λu s1 ⟨x,H1,I1,r1,q1⟩=>?_);exact aU (hr pos pins s1 σ H1 _ I1 q1) λus s2 ⟨xs,H2,I2,r2,q2⟩=>⟨x::xs,H2,I2,.cons r1 r2,q2⟩
def t4(t:TA):TE:=λσ H Q=>t σ H λxs H1=>xs.length<=sizeLine/\∀p,H1 p=none->Q (.ref p) (upd H1 p (.tup xs))
def t5(t:TA):TE:=λσ H Q=>t σ H λxs H1=>xs.length<=sizeLine/\∀p,H1 p=none->Q (.ref p) (upd H1 p (.lst xs))
theorem jC{x1}(h:PA X es t):PE X (.Tuple es x1 pos) (t4 t):=by
 intro pins s σ H Q I hq;refine wpAny_Tuple_spliced (aU (h pos pins s σ H _ I hq) λus s1 ⟨xs,H1,I1,r,z,q⟩=>⟨by rw[<-r.length];exact z,?_⟩);have hf:H1 s1.heap.objs.size=none:=I1.hok.fresh (bO _);refine⟨.ref s1.heap.objs.size,upd H1 s1.heap.objs.size (.tup xs),I1.laid (t':=s1.toks) (λb u e=>cj _ e) (bO _) ?_,rfl,q _ hf⟩;exact⟨z,us,r,⟨_,gc _ rfl,rfl,_,rfl⟩⟩
theorem jD(h:PA X es t):PE X (.List es pos) (t5 t):=by
 intro pins s σ H Q I hq;refine wpAny_List_spliced (aU (h pos pins s σ H _ I hq) λus s1 ⟨xs,H1,I1,r,z,q⟩=>⟨by rw[<-r.length];exact z,?_⟩);have hf:H1 s1.heap.objs.size=none:=I1.hok.fresh (bO _);refine⟨.ref s1.heap.objs.size,upd H1 s1.heap.objs.size (.lst xs),I1.laid (t':=s1.toks) (λb u e=>cj _ e) (bO _) ?_,rfl,q _ hf⟩;exact⟨z,us,0,r,gc _ rfl⟩
end
abbrev Sp:=List V->Hp->VK->XK->Prop
abbrev iB:=List Env->Hp->Shared->XK->Value->Shared->Prop
variable{CX:iB}
structure Env0(P:Program)(w:World)(K:D9)(mg:Str->Option Value)(base:Heap)(A:Around)(outer:List Env)(s:Shared)(H:Hp):Prop where
 frames:A.frames=some outer
 mod:Mod K mg base
 bs:∀b o,base.get? b=some o->s.heap.get? b=some o/\H b=none
 bsz:base.objs.size<=s.heap.objs.size
 funs:s.heap.FunFrames base outer
 frf:∀b∈bX outer,H b=none
 hok:HOk P w H s.heap
 bare:AllBare s.gens
 sysn:∀xs,H sysModules≠some (.lst xs)
def CE(outer:List Env)(P:Program)(w:World)(H:Hp)(s:Shared)(Q:VK)(u:Value)(s':Shared):Prop:=
 ∃v H',s'.os=s.os/\AllBare s'.gens/\Un (bX outer) [] H H' s.heap s'.heap/\HOk P w H' s'.heap/\RelV v u/\Q v H'
def CR(CX:iB)(outer:List Env)(P:Program)(w:World)(H:Hp)(s:Shared)(Q:VK)(E:XK)(r:Result)(s':Shared):Prop:=
 match r with
 |.ok (.ret u)=>CE outer P w H s Q u s'
 |.ok _=>False
 |.error e=>CX outer H s E e s'
structure FnOk(P:Program)(w:World)(K:D9)(mg:Str->Option Value)(base:Heap)(CX:iB)(k:Nat)(f:Addr)(fd:FuncData)(ps:List Str)(sp:Sp):Prop where
 len:∀vs H Q E,sp vs H Q E->vs.length=ps.length
 run:∀(A:Around) (outer:List Env) (s:Shared) (H:Hp) (args:Args) (us:List Value) (vs:List V) (Q:VK) (E:XK),Room k A->Env0 P w K mg base A outer s H->BindsTo s fd args (ps.zip us)->Vals vs us->sp vs H Q E->
  codeAny (model P w) A (.call (.ref f) args) (CR CX outer P w H s Q E) s
theorem FnOk.mono{P:Program}{w:World}{K:D9}{mg:Str->Option Value}{base:Heap}{CX:iB}{j k:Nat}{f:Addr}{fd:FuncData}{ps:List Str}{sp:Sp}(F:FnOk P w K mg base CX j f fd ps sp)(h:j<=k) :
  FnOk P w K mg base CX k f fd ps sp:=⟨F.len,λA outer s H args us vs Q E hr=>F.run A outer s H args us vs Q E (hr.mono h)⟩
theorem Env0.make{base:Heap}(e:Env0 P w K mg base A outer s H)(C:Addr)(us:List Value)(kw:List (Str×Value)) :
  Env0 P w K mg base (A.under (.builtin "type.__call__" ⟨.ref C::us,kw⟩)) outer s H:=⟨by first|exact e.frames|(simpa[Around.under,Code.envs,Code.isFrame,pushEnvs] using e.frames),e.mod,e.bs,e.bsz,e.funs,e.frf,e.hok,e.bare,e.sysn⟩
section
theorem Inv.env0(I:Inv X pins σ H s):Env0 X.prog X.w X.K X.mg X.base X.A X.stack s H:=
 ⟨I.ok.frames,I.ok.mod,I.bs,fA I.ok.bsz I.sz,I.stack,I.stkFree,I.hok,I.bare,I.sysn⟩
theorem Inv.after{Q:VK}{u:Value}(I:Inv X pins σ H s)(h:CE X.stack X.prog X.w H s Q u s'):EP X pins σ Q u s':=by
 obtain⟨v,H',os,bare,un,hok,r,q⟩:=h;obtain⟨hh,g,d,t,os'⟩:=s';obtain rfl:os'=s.os:=os;exact⟨v,H',I.call (h':=hh) (g':=g) (d':=d) (t':=t) (ch:=[]) un hok bare (λb z=>Eb z (by simp)),r,q⟩
end
def l6(sp:Sp)(dvs:List V)(E:XK)(t:TA):TE:=λσ H Q=>t σ H λvs H1=>sp (vs++dvs) H1 Q E
def l7(C:Addr)(m:Str)(sp:Sp)(dvs:List V)(E:XK)(ta:TE)(t:TA):TE:=λσ H Q=>ta σ H λx H1=>∃a dx fs,x=.ref a/\H1 a=some (.ins C dx fs)/\fs.lookup m=none/\
 t σ H1 λvs H2=>sp (x::(vs++dvs)) H2 Q E
def pS(C:Addr)(sp:Sp)(dvs:List V)(E:XK)(t:TA):TE:=λσ H Q=>t σ H λvs H1=>∀x dx,H1 x=none->H1 dx=none->dx≠x->
 sp (.ref x::(vs++dvs)) (upd (upd H1 dx (.own x)) x (.ins C dx [])) (λv H2=>v=.non/\Q (.ref x) H2) E
def Binds(K:D9)(fd:FuncData)(ps:List Str)(ds:List Value):Prop:=
 ∀(s:Shared) (us:List Value),K.In s.heap->(us++ds).length=ps.length->BindsTo s fd ⟨us,[]⟩ (ps.zip (us++ds))
theorem Binds.all(h:∀us:List Value,us.length=ps.length->bindArgs fd ⟨us,[]⟩=pure (ps.zip us)):Binds K fd ps []:=λs us _ hl=>by
 rw[kn] at hl ⊢;exact .of_eq (h us hl)
def aQ(CX:iB)(X:Cx)(E:XK):Prop:=∀(pins:List (Addr×Obj)) (σ:St) (H:Hp) (s:Shared) (e:Value) (s':Shared),Inv X pins σ H s->CX X.stack H s E e s'->X.xe e s'
section
variable{f C:Addr}{sp:Sp}{dvs:List V}{ds:List Value}{E:XK}{o:Expr}
theorem fi{Q:VK}(F:FnOk X.prog X.w X.K X.mg X.base CX k f fd ps sp)(hr:Room k X.A)(hb:Binds X.K fd ps ds)(hd:Vals dvs ds)(hx:aQ CX X E)
  (I:Inv X pins σ H s) (r:Vals vs us) (h:sp (vs++dvs) H Q E):wpAny (model X.prog X.w) X.A (call (.ref f) us) (EP X pins σ Q) X.xe s:=by
 have r2:Vals (vs++dvs) (us++ds):=r.append hd;have hl:(us++ds).length=ps.length:=by rw[<-r2.length];exact F.len _ _ _ _ h
 refine wpAny_call (codeAny_mono (F.run X.A X.stack s H ⟨us,[]⟩ (us++ds) (vs++dvs) Q E hr I.env0 (hb s us I.kIn hl) r2 h) λr s' hq=>?_);cases r with
 |error e=>exact hx pins σ H s e s' I hq
 |ok fl=>
  cases fl with
  |ret u=>exact I.after hq
  |next=>exact Ej hq
  |brk=>exact Ej hq
  |cont=>exact Ej hq
theorem hX(F:FnOk X.prog X.w X.K X.mg X.base CX k f fd ps sp)(hr:Room k X.A)(hg:Gl X x)(hm:X.mg x=some (.ref f))(hk:PySem.W.keepIn X.K (.ref f)=true)(hb:Binds X.K fd ps ds)(hd:Vals dvs ds)(hx:aQ CX X E)
  (ha:PA X (e::es) t) (hdb:(x==("__debug__" : Str))=false:=by decide) (he:starEach (e::es) X.env=(false,eval e X.env)::starEach es X.env:=by rfl) (hpl:(backTo pos (starEach es X.env)).any (·.1)=false:=by rfl) :
  PE X (.Call (.Name x p) (e::es) [] pos) (l6 sp dvs E t):=by
 intro pins s σ H Q I h;refine Ez (cc I hg hm ?_ hdb);refine PySem.W.callWith_K (h₀:=X.base) I.ok.mod.kin hk (aU (ha pos pins s σ H _ I h) λus s1 ⟨vs,H1,I1,r,q⟩=>⟨I1.kIn,?_⟩) he hpl;exact fi F hr hb hd hx I1 r q
theorem k7(he:PE X o ta)(c:Cls X.K C)(hm:fQ X.K C m f)(F:FnOk X.prog X.w X.K X.mg X.base CX k f fd ps sp)(hr:Room k X.A)(hb:Binds X.K fd ps ds)(hd:Vals dvs ds)(hx:aQ CX X E)(ha:PA X (e::es) t)
  (hst:starEach (e::es) X.env=(false,eval e X.env)::starEach es X.env:=by rfl) (hpl:(backTo pos (starEach es X.env)).any (·.1)=false:=by rfl)
  (ht:eval (.Call (.Attribute o m apos) (e::es) [] pos) X.env=(do
   let ov <-eval o X.env
   standAt apos.atName
   let(f,first) <-holding [ov] (getMethod ov m pl)
   callWith pos f first (backTo pos (starEach (e::es) X.env)) (backToKw pos (keywordEach [] X.env))):=by rfl) :
  PE X (.Call (.Attribute o m apos) (e::es) [] pos) (l7 C m sp dvs E ta t):=by
 intro pins s σ H Q I h;refine PySem.W.methodCall_KW (pl:=pl) (aU (he pins s σ H _ I h) λu s1 ⟨x,H1,I1,rx,a,dx,fs,ex,ea,l,q⟩=>?_) ht;subst ex;obtain rfl:u=Value.ref a:=rx;refine cJ I1 ea c hm l ?_;refine PySem.W.callWith_K (first:=[.ref a]) (h₀:=X.base) I.ok.mod.kin hm.kp (aU (ha pos pins s1 σ H1 _ I1 q) λus s2 ⟨vs,H2,I2,r,q2⟩=>⟨I2.kIn,?_⟩) hst hpl;exact fi (us:=.ref a::us) (vs:=.ref a::vs) F hr hb hd hx I2 (.cons rfl r) q2
theorem jE(he:PE X o ta)(c:Cls X.K C)(hm:fQ X.K C m f)(F:FnOk X.prog X.w X.K X.mg X.base CX k f fd ps sp)(hr:Room k X.A)(hb:Binds X.K fd ps ds)(hd:Vals dvs ds)(hx:aQ CX X E)
  (ht:eval (.Call (.Attribute o m apos) [] [] pos) X.env=(do
   let ov <-eval o X.env
   standAt apos.atName
   let(f,first) <-holding [ov] (getMethod ov m pl)
   callWith pos f first (backTo pos (starEach [] X.env)) (backToKw pos (keywordEach [] X.env))):=by rfl) :
  PE X (.Call (.Attribute o m apos) [] [] pos) (l7 C m sp dvs E ta nc):=by
 intro pins s σ H Q I h;refine PySem.W.methodCall_KW (pl:=pl) (aU (he pins s σ H _ I h) λu s1 ⟨x,H1,I1,rx,a,dx,fs,ex,ea,l,q⟩=>?_) ht;subst ex;obtain rfl:u=Value.ref a:=rx;refine cJ I1 ea c hm l ?_;exact PySem.W.callWith_K0 (first:=[.ref a]) I1.kIn hm.kp (fi (us:=[.ref a]) (vs:=[.ref a]) F hr hb hd hx I1 (.cons rfl .nil) q)
structure Mk(K:D9)(C f:Addr):Prop where
 makes:PySem.W.makesIn K C=true
 init:PySem.W.findIn K (.ref C) "__init__" = some (some (.ref f))
 fn:PySem.W.isFn K (.ref f)=true
 kp:PySem.W.keepIn K (.ref C)=true
theorem jF{Q:VK}(M:Mk X.K C f)(F:FnOk X.prog X.w X.K X.mg X.base CX k f fd ps sp)(hr:Room (k+1) X.A)(hb:Binds X.K fd ps ds)(hd:Vals dvs ds)
  (hx:aQ CX X E) (I:Inv X pins σ H s) (r:Vals vs us)
  (h:∀x dx,H x=none->H dx=none->dx≠x->sp (.ref x::(vs++dvs)) (upd (upd H dx (.own x)) x (.ins C dx [])) (λv H2=>v=.non/\Q (.ref x) H2) E) :
  wpAny (model X.prog X.w) X.A (call (.ref C) us) (EP X pins σ Q) X.xe s:=by
 have hq:=h (s.heap.objs.size+1) s.heap.objs.size (I.hok.fresh (Nat.le_succ _)) (I.hok.fresh (bO _)) (el (Nat.lt_succ_self _));have I2:=Inv.made (C:=C) I;have r2:Vals (V.ref (s.heap.objs.size+1)::(vs++dvs)) (Value.ref (s.heap.objs.size+1)::(us++ds)):=.cons rfl (r.append hd);have hl:(Value.ref (s.heap.objs.size+1)::us++ds).length=ps.length:=by
  have e:=r2.length;rw[F.len _ _ _ _ hq] at e;exact e.symm
 refine wpAny_call (jB (f:=f) I.kIn M.makes M.init (beq_iff_eq.mp M.fn) (codeAny_mono (F.run _ X.stack _ _ ⟨Value.ref (s.heap.objs.size+1)::us,[]⟩ (Value.ref (s.heap.objs.size+1)::(us++ds)) _ _ E (hr.make C us [])
  (I2.env0.make C us []) (hb _ (Value.ref (s.heap.objs.size+1)::us) I2.kIn hl) r2 hq) λr s' hq'=>?_))
 cases r with
 |error e=>exact hx pins σ _ _ e s' I2 hq'
 |ok fl=>
  cases fl with
  |ret u=>
   obtain⟨v,H',I3,rv,ev,q3⟩:=I2.after hq';subst ev;exact⟨rv,⟨V.ref (s.heap.objs.size+1),H',I3,rfl,q3⟩⟩
  |next=>exact Ej hq'
  |brk=>exact Ej hq'
  |cont=>exact Ej hq'
theorem jG(M:Mk X.K C f)(F:FnOk X.prog X.w X.K X.mg X.base CX k f fd ps sp)(hr:Room (k+1) X.A)(hg:Gl X x)(hm:X.mg x=some (.ref C))(hb:Binds X.K fd ps ds)(hd:Vals dvs ds)(hx:aQ CX X E)
  (hdb:(x==("__debug__" : Str))=false:=by decide):PE X (.Call (.Name x p) [] [] pos) (pS C sp dvs E nc):=by
 intro pins s σ H Q I h;refine Ez (cc I hg hm ?_ hdb);exact PySem.W.callWith_K0 I.kIn M.kp (jF (us:=[]) M F hr hb hd hx I .nil h)
end
structure aT(N P:List Str)(sc:Scope):Prop where
 kind:sc.kind=.function
 co:sc.isCoroutine=false
 gen:sc.isGenerator=false
 nd:N.Nodup
 pre:N.take P.length=P
 par:∀x∈P,sc.names.lookup x=some .local\/sc.names.lookup x=some .cell
 nofree:∀y∈sc.names,y.2≠.free
theorem eQ{kindOf:Str->Option NameKind}{x:Str}:∀{binds:List (Str×Value)} {m:Str->Option Value},(∀v,(x,v)∉binds)->bindL kindOf binds m x=m x
 |[],_,_=>rfl
 |(n,v)::r,m,h=>by
  unfold bindL;rw[eQ λw hw=>h w (da _ hw)];split
  .have:x≠n:=by rintro rfl;exact h v en
   simp[this]
  .rfl
theorem eR{kindOf:Str->Option NameKind}{x:Str}:∀{binds:List (Str×Value)} {m:Str->Option Value},(∀v,(x,v)∉binds)->bindC kindOf binds m x=m x
 |[],_,_=>rfl
 |(n,v)::r,m,h=>by
  unfold bindC;rw[eR λw hw=>h w (da _ hw)];split
  .rfl
  .have:x≠n:=by rintro rfl;exact h v en
   simp[this]
theorem dh{kindOf:Str->Option NameKind}{x:Str}{v:Value}:∀{P:List Str} {vs:List Value} {i:Nat} {m:Str->Option Value},P.Nodup->P[i]? = some x->vs[i]? = some v->kindOf x=some .local->
  bindL kindOf (P.zip vs) m x=some v
 |[],_,_,_,_,h,_,_=>by simp at h
 |_::_,[],_,_,_,_,h,_=>by simp at h
 |p::P,w::vs,0,m,nd,h1,h2,hk=>by
  simp at h1 h2;subst h1;subst h2;show bindL kindOf ((p,w)::P.zip vs) m p=_;unfold bindL;rw[eQ λv hv=>(YaK.mp nd).1 (rB hv).1,if_pos hk];simp
 |p::P,w::vs,i+1,m,nd,h1,h2,hk=>by
  show bindL kindOf ((p,w)::P.zip vs) m x=_;unfold bindL;exact dh (i:=i) (YaK.mp nd).2 (by simpa using h1) (by simpa using h2) hk
theorem dj{kindOf:Str->Option NameKind}{x:Str}{v:Value}:∀{P:List Str} {vs:List Value} {i:Nat} {m:Str->Option Value},P.Nodup->P[i]? = some x->vs[i]? = some v->kindOf x≠some .local->
  bindC kindOf (P.zip vs) m x=some v
 |[],_,_,_,_,h,_,_=>by simp at h
 |_::_,[],_,_,_,_,h,_=>by simp at h
 |p::P,w::vs,0,m,nd,h1,h2,hk=>by
  simp at h1 h2;subst h1;subst h2;show bindC kindOf ((p,w)::P.zip vs) m p=_;unfold bindC;rw[eR λv hv=>(YaK.mp nd).1 (rB hv).1,if_neg hk];simp
 |p::P,w::vs,i+1,m,nd,h1,h2,hk=>by
  show bindC kindOf ((p,w)::P.zip vs) m x=_;unfold bindC;exact dj (i:=i) (YaK.mp nd).2 (by simpa using h1) (by simpa using h2) hk
def start(N:List Str)(vs:List V):St:=vs.map some++List.replicate (N.length-vs.length) none
def bB(CX:iB)(P:Program)(w:World)(K:D9)(mg:Str->Option Value)(base:Heap)(N:List Str)(qual:Str)(scope:Scope)(f:Addr)(cd:Value)(A:Around)(outer:List Env)(s:Shared)(H:Hp)(E:XK):Cx where
 prog:=P
 w:=w
 K:=K
 mg:=mg
 base:=base
 A:=A.deeper (envOfC qual scope s.heap.objs.size f cd)
 N:=N
 s₀:=s
 H₀:=H
 env:=envOfC qual scope s.heap.objs.size f cd
 outer:=outer
 stack:=envOfC qual scope s.heap.objs.size f cd::outer
 ex:=[]
 calm:=true
 fn:=λ_=>true
 pn:=[]
 xe:=λe s'=>wpAny (model P w) (A.deeper (envOfC qual scope s.heap.objs.size f cd)) (leaving (envOfC qual scope s.heap.objs.size f cd) e) (λ_ s''=>CX outer H s E e s'') (λe' s''=>CX outer H s E e' s'') s'
theorem cl{sc:Scope}{n:Nat}(h:sc.names.lookup x=some .cell):∃c,(cellsFrom n sc.names []).lookup x=some c:=by
 have q:=PySem.W.cellsFrom_some sc.names n [] (.inl h);exact Option.isSome_iff_exists.mp q
theorem iD{base:Heap}{f:Addr}{cd:Value}{s1:Shared}{E:XK}
  (S:aT N ps scope) (hd:A.handled=none) (e0:Env0 P w K mg base A outer s H) (hl:vs.length=ps.length) (r:Vals vs us)
  (x:InCallC s s.heap.objs.size (bindL (envOfC qual scope s.heap.objs.size f cd).kindOf (ps.zip us) λ_=>none) (cellsFrom (s.heap.objs.size+1) scope.names []) (bindC (envOfC qual scope s.heap.objs.size f cd).kindOf (ps.zip us) λ_=>none) s1) :
  Inv (bB CX P w K mg base N qual scope f cd A outer s H E) [] (start N vs) H s1:=by
 have hpl:ps.length<=N.length:=by have:=congrArg List.length S.pre;rw[kL] at this;omega
 obtain⟨h1,tk,rfl,hk⟩:=x.done;have noA:∀b:Addr,b∉(bB CX P w K mg base N qual scope f cd A outer s H E).ex:=λb z=>Eb (show b∈([]:List Addr) from z) (by simp);refine ⟨⟨e0.mod,S.kind,rfl,rfl,bO _,λy z c h1 h2=>?_,λy hy=>?_,λy c _ h=>?_,λ_=>hd,Around.frames_deeper e0.frames,.inr ⟨rfl,rfl⟩,λb z=>Eb z (noA b),e0.bs,e0.bsz,λb _ _=>noA b,λb z=>Eb z (noA b),e0.funs,e0.frf,e0.sysn⟩,
  rfl,e0.bare,Un.kept hk,⟨_,x.toInCall.ns,λi y v h1 h2 h3=>?_⟩,λy c h=>⟨_,x.cell y c h⟩,e0.hok.fresh (bO _),λy c h=>?_,λp hp=>Eb (show p∈([]:List (Addr×Obj)) from hp) (by simp),e0.hok.kept hk,?_⟩
 .exact name_of_addr x.apart (Eg h1) (Eg h2)
 .have hy:scope.names.lookup y=some .cell\/scope.names.lookup y=some .free:=hy
  rcases hy with hy|hy
  .exact cl hy
  .exact Eb rfl (S.nofree _ (Eg hy))
 .exact o7 (x.above y c (Eg h))
 .have hi:i<vs.length:=by
   unfold start at h2
   by_cases hi:i<vs.length
   .exact hi
   .rw[jh (by simpa using hi)] at h2
    rw[ji] at h2;split at h2<;>cases h2
  have ha:vs[i]? = some v:=by
   unfold start at h2;rw[kq (by simpa using hi),e7] at h2;cases e:vs[i]? with
   |none=>rw[e] at h2;cases h2
   |some a=>rw[e] at h2;cases h2;rfl
  obtain⟨u,hu,rv⟩:=r.get ha;have hp:ps[i]? = some y:=by
   rw[<-S.pre,List.getElem?_take_of_lt (by omega)];exact h1
  have ndP:ps.Nodup:=by rw[<-S.pre];exact S.nd.sublist (List.take_sublist _ _)
  refine⟨u,rv,?_⟩;rcases S.par y (og hp) with k|k
  .exact .inl ⟨k,dh ndP hp hu k⟩
  .obtain⟨c,e⟩:=cl (n:=s.heap.objs.size+1) k
   refine .inr ⟨.inl k,c,e,?_⟩;have q:=x.cell y c e;rw[dj ndP hp hu (by show scope.names.lookup y≠_;rw[k];decide)] at q;exact q
 .exact e0.hok.fresh (o7 (x.above y c (Eg h)))
 .unfold start
  show _=N.length;rw[dP,bJ,mC];omega
theorem eS{base:Heap}{f:Addr}{params:Arguments}{dV kV doc pm cdv ct oc:Value}{an od:Option Addr}
 {sp:Sp} (lk:K.lookup f=some ⟨oc,od,.func (PySem.W.fnOf name qual params body scope dV kV doc pm an cdv ct),osl⟩) (hcd:PySem.W.codeIn K cdv qual=true) (S:aT N ps scope)
  (len:∀vs H Q E,sp vs H Q E->vs.length=ps.length)
  (hbody:∀ (A:Around) (outer:List Env) (s:Shared) (H:Hp) (vs:List V) (Q:VK) (E:XK),Room k (A.deeper (envOfC qual scope s.heap.objs.size f cdv))->sp vs H Q E->
   ∃t,i6 (bB CX P w K mg base N qual scope f cdv A outer s H E) body t/\t { nx:=λ_ H'=>Q .non H',rt:=Q } (start N vs) H) :
  FnOk P w K mg base CX (k+1) f (PySem.W.fnOf name qual params body scope dV kV doc pm an cdv ct) ps sp:=by
 refine⟨len,λA outer s H args us vs Q E hr e0 hb r hsp=>?_⟩;have hl:=len _ _ _ _ hsp;have KX:K.In s.heap:=e0.mod.kin.keeps λb o e=>(e0.bs b o e).1;have lim:s.heap.NoLimit:=e0.mod.nolimit.keeps λb o e=>(e0.bs b o e).1;have hkind:∀y∈ps.zip us,scope.names.lookup y.1=some .local\/(scope.names.lookup y.1=some .cell/\((cellsFrom (s.heap.objs.size+1) scope.names []).lookup y.1).isSome=true):=λ⟨n,v⟩ hy=>by
  rcases S.par n (rB hy).1 with q|q
  .exact .inl q
  .exact .inr ⟨q,PySem.W.cellsFrom_some _ _ _ (.inl q)⟩
 refine codeAny_call_function hr.depth (KX _ _ lk) rfl S.co S.gen rfl (PySem.W.codeRec_of KX hcd) (hb _ _ _ _ ?_);refine wpAny_newFunctionEnv_cells S.kind hkind λenv he s1 x=>?_;subst he;refine⟨lim.keeps x.toInCall.keep,codeAny_func ?_⟩;obtain⟨t,ht,hq⟩:=hbody A outer s H vs Q E (hr.deeper _) hsp;have I:Inv (bB CX P w K mg base N qual scope f cdv A outer s H E) [] (start N vs) H s1:=iD S hr.hd e0 hl r x;refine Ep (ht [] s1 (start N vs) H _ I hq) (λfl s' hs=>?_) λe s' hs=>hs;have fin:∀{σ':St} {H':Hp} {v:V} {u:Value},Inv (bB CX P w K mg base N qual scope f cdv A outer s H E) [] σ' H' s'->RelV v u->Q v H'->CE outer P w H s Q u s':=
  λ{σ' H' v u} J rv q=>⟨v,H',J.os,J.bare,J.base,J.hok,rv,q⟩
 cases fl with
 |ret u=>
  obtain⟨v,σ',H',J,rv,q⟩:=hs;exact fin J rv q
 |next=>
  obtain⟨σ',H',J,q⟩:=hs;exact fin (v:=V.non) (u:=Value.none) J rfl q
 |brk=>
  obtain⟨_,_,_,q⟩:=hs;exact Ej q
 |cont=>
  obtain⟨_,_,_,q⟩:=hs;exact Ej q
section
variable{id T:String}{r:List V->Hp->VK->Prop}
def xC(r:List V->Hp->VK->Prop)(t:TA):TE:=λσ H Q=>t σ H λvs H1=>r vs H1 Q
theorem fR(hc:b7 X (.builtin id) r)(hg:Gl X x)(hm:X.mg x=none)(hv:bootBuiltins x=some (.builtin id))(ha:PA X (e::es) t)(hn:x≠ "__name__" :=by decide)(hdb:(x==("__debug__" : Str))=false:=by decide)
  (he:starEach (e::es) X.env=(false,eval e X.env)::starEach es X.env:=by rfl) (hpl:(backTo pos (starEach es X.env)).any (·.1)=false:=by rfl):PE X (.Call (.Name x p) (e::es) [] pos) (xC r t):=by
 intro pins s σ H Q I h;refine Ez (fc I hg hm hv ?_ hn hdb);exact PyProof.Rows.callWith_builtin1 (aU (ha pos pins s σ H _ I h) λus s1 ⟨vs,H1,I1,r1,q1⟩=>hc pins s1 σ H1 vs us Q I1 r1 q1) he hpl
theorem iE(hc:b7 X (.type T) r)(hg:Gl X x)(hm:X.mg x=none)(hv:bootBuiltins x=some (.type T))(ha:PA X (e::es) t)(hn:x≠ "__name__" :=by decide)(hdb:(x==("__debug__" : Str))=false:=by decide)
  (he:starEach (e::es) X.env=(false,eval e X.env)::starEach es X.env:=by rfl) (hpl:(backTo pos (starEach es X.env)).any (·.1)=false:=by rfl):PE X (.Call (.Name x p) (e::es) [] pos) (xC r t):=by
 intro pins s σ H Q I h;refine Ez (fc I hg hm hv ?_ hn hdb);exact PyProof.Rows.callWith_type1 (aU (ha pos pins s σ H _ I h) λus s1 ⟨vs,H1,I1,r1,q1⟩=>hc pins s1 σ H1 vs us Q I1 r1 q1) he hpl
end
end L2
namespace HT
open PySem PyProof.Rows
section
variable{prog:Program}{w:World}{A:Around}{E:Value->Shared->Prop}{s:Shared}
theorem cat_tup{t b:Addr}{vs ws:List Value}{Q:Value->Shared->Prop}(ht:IsTup s.heap t vs.toArray)(hb:IsTup s.heap b ws.toArray)(hv:vs≠[])
  (h1:ws=[]->Q (.ref t) s) (h2:ws≠[]->Q (.ref s.heap.objs.size) { s with heap:=s.heap.push { cls:=.type "tuple",data:=.seq (vs++ws).toArray } })
  (hsz:vs.length+ws.length<=sizeLine):wpAny (model prog w) A (binaryOp .Add (.ref t) (.ref b)) Q E s:=by
 obtain⟨⟨cls,dd,data,sl⟩,ho,hc,n,hd⟩:=id ht;obtain⟨⟨cls2,dd2,data2,sl2⟩,ho2,hc2,n2,hd2⟩:=id hb;simp only at hc hd hc2 hd2;subst hc hd hc2 hd2;have e:vs.toArray++ws.toArray=(vs++ws).toArray:=by simp
 by_cases hw:ws=[]
 .exact concat_meets ⟨_,ho,rfl⟩ ⟨_,ho2,rfl⟩ noFill_tuple_add seq_tuple_add PySem.F.slot_tuple_add PySem.F.entry_tuple_add (PySem.F.args_tuple_add_2 _ _)
   (tuple_addW1 t b vs.toArray ws.toArray n n2 dd dd2 sl sl2 (by simpa using hv) (by simp[hw])) ⟨ho,ho2,h1 hw⟩
 .refine concat_meets ⟨_,ho,rfl⟩ ⟨_,ho2,rfl⟩ noFill_tuple_add seq_tuple_add PySem.F.slot_tuple_add PySem.F.entry_tuple_add (PySem.F.args_tuple_add_2 _ _)
   (tuple_addW2 t b vs.toArray ws.toArray n n2 dd dd2 sl sl2 (by simpa using hv) (by simpa using hw) (by rw[cw,cw];exact hsz)) ⟨ho,ho2,?_⟩
  rw[e];exact h2 hw
def sIx(n d:Nat):Option Int->Nat
 |none=>d
 |some v=>if v<0 then(v+(n:Int)).toNat else min v.toNat n
theorem sIx_none(n d:Nat):sIx n d none=d:=rfl
theorem sIx_nat(n d k:Nat):sIx n d (some (k:Int))=min k n:=by
 show(if(k:Int)<0 then((k:Int)+(n:Int)).toNat else min (k:Int).toNat n)=min k n;rw[if_neg (by omega),rC]
theorem nh(n d:Nat)(hd:d<=n)(o:Option Int):sIx n d o<=n:=by
 cases o with
 |none=>exact hd
 |some v=>
  show(if v<0 then(v+(n:Int)).toNat else min v.toNat n)<=n
  by_cases hv:v<0
  .rw[if_pos hv];omega
  .rw[if_neg hv];exact Nat.min_le_right _ _
theorem hZ(v:Int)(n d:Nat):(if v<0 then max (v+(n:Int)) 0 else min v (n:Int))=((sIx n d (some v):Nat):Int):=by
 show(if v<0 then max (v+(n:Int)) 0 else min v (n:Int))=(((if v<0 then(v+(n:Int)).toNat else min v.toNat n):Nat):Int)
 by_cases hv:v<0
 .simp only[if_pos hv];omega
 .simp only[if_neg hv];omega
theorem gF(lo hi:Option Int)(n:Nat):Builtin.Slice.sliceAdjust lo hi 1 (n:Int)=(((sIx n 0 lo:Nat):Int),((sIx n n hi:Nat):Int)):=by
 have h1:¬((1:Int)<0):=by omega
 unfold Builtin.Slice.sliceAdjust;simp only[h1,if_false];refine Prod.ext ?_ ?_
 .cases lo with
  |none=>rfl
  |some v=>exact hZ v n 0
 .cases hi with
  |none=>rfl
  |some v=>exact hZ v n n
theorem gG(i j:Nat):Builtin.Slice.slicePlaces (i:Int) (j:Int) 1=j-i:=by
 unfold Builtin.Slice.slicePlaces;have h1:(1:Int)>0:=by omega
 simp only[h1,if_true,Int.ediv_one];split<;>omega
theorem d8{v:Value}{o:Option Int}{Q:Option Int->Shared->Prop}(p:IsPart v o)(h:Q o s):wpAny (model prog w) A (Builtin.Slice.slicePartIndex v) Q E s:=by
 cases p with
 |none=>exact slicePart_none h
 |int i t=>exact slicePart_int h
theorem b8{sl:Addr}{vl vu:Value}{lo hi:Option Int}{n:Nat}{Q:Int×Int×Nat->Shared->Prop}(hs:s.heap.IsSliceOf sl vl vu .none)(pl:IsPart vl lo)(pu:IsPart vu hi)
  (h:Q (((sIx n 0 lo:Nat):Int),1,sIx n n hi-sIx n 0 lo) s):wpAny (model prog w) A (Builtin.Slice.sliceApplied (.ref sl) (pure (n:Int))) Q E s:=by
 obtain⟨os,hos,hcs,hds⟩:=id hs;unfold Builtin.Slice.sliceApplied Builtin.Slice.sliceFields;refine D8 (D8 (Ev hos hds (x:=vl) rfl (D8 (Ev hos hds (x:=vu) rfl (D8 (Ev hos hds (x:=.none) rfl (Ea ?_)))))));refine D8 (slicePart_none ?_);show wpAny _ _ (if((1:Int)==0)=true then _ else _) _ _ s;rw[if_neg (by decide)];refine D8 (d8 pl (D8 (d8 pu (D8 (Ea ?_)))));show wpAny _ _ (match Builtin.Slice.sliceAdjust lo hi 1 (n:Int) with|(lo,hi)=>pure (lo,(1:Int),Builtin.Slice.slicePlaces lo hi 1)) _ _ s;rw[gF lo hi n];show wpAny _ _ (pure (((sIx n 0 lo:Nat):Int),(1:Int),Builtin.Slice.slicePlaces ((sIx n 0 lo:Nat):Int) ((sIx n n hi:Nat):Int) 1)) _ _ s;rw[gG];exact Ea h
theorem jH(xs:Array Value)(i k:Nat):((List.range k).filterMap λ(m:Nat)=>xs[((i:Int)+(m:Int)*1).toNat]?).toArray=((xs.toList.drop i).take k).toArray:=by
 have e:(λ(m:Nat)=>xs[((i:Int)+(m:Int)*1).toNat]?)=λm=>xs[i+m]?:=by
  funext m;have:((i:Int)+(m:Int)*1).toNat=i+m:=by omega
  rw[this]
 rw[e];have:=pick_run xs i k;rw[List.filterMap_map] at this;have e2:((λx=>xs[x]?)∘λx=>i+x)=λm=>xs[i+m]?:=rfl;rw[e2] at this;rw[this]
theorem getItem_tuple_cut{t sl:Addr}{items:Array Value}{vl vu:Value}{lo hi:Option Int}{Q:Value->Shared->Prop}(ht:IsTup s.heap t items)(hs:s.heap.IsSliceOf sl vl vu .none)(pl:IsPart vl lo)(pu:IsPart vu hi)
  (hw:¬(sIx items.size 0 lo=0/\sIx items.size items.size hi=items.size))
  (h:Q (.ref s.heap.objs.size) { s with heap:=s.heap.push { cls:=.type "tuple",data:=.seq ((items.toList.drop (sIx items.size 0 lo)).take (sIx items.size items.size hi-sIx items.size 0 lo)).toArray } })
  (hsz:items.size<=sizeLine):wpAny (model prog w) A (getItem (.ref t) (.ref sl)) Q E s:=by
 have htake:sizeOk (.seq ((items.toList.drop (sIx items.size 0 lo)).take (sIx items.size items.size hi-sIx items.size 0 lo)).toArray):=by
  show((items.toList.drop (sIx items.size 0 lo)).take (sIx items.size items.size hi-sIx items.size 0 lo)).toArray.size<=sizeLine;rw[cw,kL,lR,o8];omega
 have hj:sIx items.size items.size hi<=items.size:=nh _ _ (bO _) hi;obtain⟨os,hos,hcs,hds⟩:=id hs;have hTs:s.TypeIs (.ref sl) "slice" :=⟨os,hos,hcs⟩
 unfold getItem
 try with_reducible refine Eo ?_
 first|refine D8 (Ea ?_)|skip
 refine D8 (wpAny_sequenceKey ht.typeIs (by decide) ?_);refine D8 (wpAny_callSpecial?_slot (name:=Str.ofString "__getitem__") ht.typeIs PyProof.Rows.slot_tuple_getitem
  (wpAny_call_entry PyProof.Rows.slot_tuple_getitem ht.typeIs entry_tuple_getitem ?_ (args_tuple_getitem _ _)))
 show wpAny _ _ (Builtin.Tuple.tupleItemsOf (.ref t) >>= _) _ _ s;refine D8 (tupleItemsOf_ ht ?_);refine D8 (EC hTs ?_);rw[if_pos (by decide)];refine D8 (b8 hs pl pu ?_);have hno:¬((((sIx items.size 0 lo:Nat):Int)==0&&(1:Int)==1&&(sIx items.size items.size hi-sIx items.size 0 lo)==items.size)=true):=by
  intro q;rw[cy,cy] at q;have q1:((sIx items.size 0 lo:Nat):Int)=0:=eq_of_beq q.1.1;have q2:sIx items.size items.size hi-sIx items.size 0 lo=items.size:=eq_of_beq q.2;exact hw ⟨by omega,by omega⟩
 show wpAny _ _ (if(((sIx items.size 0 lo:Nat):Int)==0&&(1:Int)==1&&(sIx items.size items.size hi-sIx items.size 0 lo)==items.size)=true then _ else _) _ _ s;rw[if_neg hno,jH]
 first
  |exact D8 (m:=Builtin.Tuple.tupleExact _) (En (Ea ⟨_,rfl,Ea h⟩) htake)
  |exact D8 (m:=Builtin.Tuple.tupleExact _) (En (D8 (Ea (Ea ⟨_,rfl,Ea h⟩))) htake)
  |exact D8 (D8 (m:=Builtin.Tuple.tupleExact _) (En (Ea (Ea ⟨_,rfl,Ea h⟩)) htake))
  |exact D8 (D8 (m:=Builtin.Tuple.tupleExact _) (En (Ea ⟨_,rfl,Ea h⟩) htake))
end
end HT
namespace L2
open PySem PySem.Spec PyProof.Rows
variable{X:Cx}{e:Expr}{pos:Pos}{r:V->Option Int->Option Int->Hp->VK->Prop}{xs:List V}{j t':Nat}{v:Value}{pins:List (Addr×Obj)}{σ:St}{H:Hp}{s:Shared}{its':List Value}{A:Around}{x:V}{E:Value->Shared->Prop}
abbrev TO:=St->Hp->(Option Int->Hp->Prop)->Prop
def PO(X:Cx)(e:Option Expr)(t:TO):Prop:=
 ∀(pins:List (Addr×Obj)) (s:Shared) (σ:St) (H:Hp) (Q:Option Int->Hp->Prop),Inv X pins σ H s->t σ H Q->
  wpAny (model X.prog X.w) X.A (evalPart e X.env) (λu s'=>∃o H',Inv X pins σ H' s'/\IsPart u o/\Q o H') X.xe s
def k8:TO:=λ_ H Q=>Q none H
def pT(t:TE):TO:=λσ H Q=>t σ H λx H1=>∃i,x=.int i/\Q (some i) H1
section
variable{te:TE}{lo hi:Option Expr}{tl th:TO}{p2:Pos}
theorem k9:PO X none k8:=by
 intro pins s σ H Q I h;rw[evalPart_none];exact Ea ⟨none,H,I,.none,h⟩
theorem la(h:PE X e te):PO X (some e) (pT te):=by
 intro pins s σ H Q I hw;rw[evalPart_some];refine aU (h pins s σ H _ I hw) λu s1 ⟨x,H1,I1,r1,q1⟩=>?_;obtain⟨i,rfl,q⟩:=q1;obtain⟨t,rfl⟩:=r1;exact⟨some i,H1,I1,.int i t,q⟩
def SlR(X:Cx)(r:V->Option Int->Option Int->Hp->VK->Prop):Prop:=
 ∀(pins:List (Addr×Obj)) (s:Shared) (σ:St) (H:Hp) (x:V) (v vl vu:Value) (lo hi:Option Int) (sl:Addr) (Q:VK),Inv X pins σ H s->RelV x v->s.heap.IsSliceOf sl vl vu .none->IsPart vl lo->IsPart vu hi->r x lo hi H Q->
  ∃T id,typeLookup (.type T) "__getitem__" = pure (some (.builtin id))/\s.TypeIs v T/\wpAny (model X.prog X.w) X.A (getItem v (.ref sl)) (EP X pins σ Q) X.xe s
theorem SlR.or{r':V->Option Int->Option Int->Hp->VK->Prop}(h:SlR X r)(h':SlR X r'):SlR X (λx lo hi H Q=>r x lo hi H Q\/r' x lo hi H Q):=by
 intro pins s σ H x v vl vu lo hi sl Q I rx hs pl pu q;rcases q with q|q
 .exact h pins s σ H x v vl vu lo hi sl Q I rx hs pl pu q
 .exact h' pins s σ H x v vl vu lo hi sl Q I rx hs pl pu q
def z9(r:V->Option Int->Option Int->Hp->VK->Prop)(te:TE)(tl th:TO):TE:=λσ H Q=>te σ H λx H1=>tl σ H1 λl H2=>th σ H2 λu H3=>r x l u H3 Q
theorem jI(hr:SlR X r)(he:PE X e te)(hl:PO X lo tl)(hu:PO X hi th):PE X (.Subscript e (.Slice lo hi none p2) pos) (z9 r te tl th):=by
 intro pins s σ H Q I h;refine Subscript_ (aU (he pins s σ H _ I h) λv s1 ⟨x,H1,I1,r1,q1⟩=>?_);refine wpAny_Slice (aU (hl pins s1 σ H1 _ I1 q1) λvl s2 ⟨l,H2,I2,pl,q2⟩=>aU (hu pins s2 σ H2 _ I2 q2) λvu s3 ⟨u,H3,I3,pu,q3⟩=>?_);rw[evalPart_none];refine Ea ?_;have I4:Inv X pins σ H3 { s3 with heap:=s3.heap.push { cls:=.type "slice",data:=.fields #[vl,vu,.none] } }:=I3.kept (t':=s3.toks) λb ob q=>cj _ q;obtain⟨T,id,hT,ht,hg⟩:=hr pins { s3 with heap:=s3.heap.push { cls:=.type "slice",data:=.fields #[vl,vu,.none] } } σ H3 x v vl vu l u s3.heap.objs.size Q I4 r1 (Heap.IsSliceOf.new ..) pl pu q3;show wpAny (model X.prog X.w) X.A (subscriptTail e (.Slice lo hi none p2) v (.ref s3.heap.objs.size)) (EP X pins σ Q) X.xe { s3 with heap:=s3.heap.push { cls:=.type "slice",data:=.fields #[vl,vu,.none] } };exact tail_any (ops:=[.ref s3.heap.objs.size,v]) ht hT hg (by with_unfolding_all rfl)
def fT(xs:List V)(lo hi:Option Int):List V:=(xs.drop (HT.sIx xs.length 0 lo)).take (HT.sIx xs.length xs.length hi-HT.sIx xs.length 0 lo)
theorem dB(xs:List V)(lo hi:Option Int):(fT xs lo hi).length<=xs.length:=by
 unfold fT;rw[kL,lR];omega
def t6(K:D9):V->Option Int->Option Int->Hp->VK->Prop:=λx lo hi H Q=>∃a xs,x=.ref a/\SqT K H a xs/\
 ¬(HT.sIx xs.length 0 lo=0/\HT.sIx xs.length xs.length hi=xs.length)/\∀p,H p=none->Q (.ref p) (upd H p (.tup (fT xs lo hi)))
theorem sl_tup:SlR X (t6 X.K):=by
 intro pins s σ H x v vl vu lo hi sl Q I rx hs pl pu h;obtain⟨a,xs,rfl,hx,hw,q⟩:=h;cases rx;obtain⟨its,r,ht,hz⟩:=I.tuple hx;have hlen:its.toArray.size=xs.length:=by rw[cw];exact r.length.symm
 refine⟨"tuple",_,PyProof.Rows.slot_tuple_getitem.lookup,ht.typeIs,?_⟩;refine HT.getItem_tuple_cut ht hs pl pu (by rw[hlen];exact hw) ?_ (by rw[hlen];exact hz);rw[hlen];refine⟨.ref s.heap.objs.size,_,I.laid (t':=s.toks) (o:=.tup (fT xs lo hi)) (λb ob q=>cj _ q) (bO _) ?_,rfl,q _ (I.hok.fresh (bO _))⟩;exact⟨fA (dB xs lo hi) hz,_,(r.drop (HT.sIx xs.length 0 lo)).take (HT.sIx xs.length xs.length hi-HT.sIx xs.length 0 lo),IsTup.new _ _⟩
def pU(K:D9):R2:=λx y H Q=>∃a b xs ys,x=.ref a/\y=.ref b/\SqT K H a xs/\SqT K H b ys/\xs≠[]/\xs.length+ys.length<=sizeLine/\
 (ys=[]->Q (.ref a) H)/\(ys≠[]->∀p,H p=none->Q (.ref p) (upd H p (.tup (xs++ys))))
theorem Vals.nil_iff{us:List Value}(r:Vals xs us):us=[]↔xs=[]:=by
 cases r with
 |nil=>simp
 |cons _ _=>simp
theorem lb:OpR X (binaryOp .Add) (pU X.K):=by
 intro pins s σ H x y v u Q I rx ry h;obtain⟨a,b,xs,ys,rfl,rfl,ha,hb,hx,hz,q1,q2⟩:=h;cases rx;cases ry;obtain⟨its,r1,p1,_⟩:=I.tuple ha;obtain⟨its2,r2,p2,_⟩:=I.tuple hb;refine HT.cat_tup p1 p2 (λz=>hx (r1.nil_iff.mp z)) (λz=>⟨.ref a,H,I,rfl,q1 (r2.nil_iff.mp z)⟩) (λz=>?_) (by rw[<-r1.length,<-r2.length];exact hz);refine⟨.ref s.heap.objs.size,_,I.laid (t':=s.toks) (o:=.tup (xs++ys)) (λb ob q=>cj _ q) (bO _) ?_,rfl,q2 (λw=>z (r2.nil_iff.mpr w)) _ (I.hok.fresh (bO _))⟩;exact⟨by rw[dP];exact hz,_,r1.append r2,IsTup.new _ _⟩
end
def iF(n:Nat)(i:Int):Option Nat:=if 0<=i then(if i<n then some i.toNat else none) else if -(n:Int)<=i then some (i+n).toNat else none
def cA{α:Type}(xs:List α)(i:Int):Option α:=(iF xs.length i).bind λj=>xs[j]?
theorem h7{n:Nat}{i:Int}(h:iF n i=some j):seqIndex? i n=some j/\j<n/\-(n:Int)<=i/\i<n:=by
 unfold iF at h
 by_cases h0:0<=i
 .rw[if_pos h0] at h
  by_cases h1:i<n
  .rw[if_pos h1] at h
   have e:i.toNat=j:=Ed h;exact⟨by rw[seqIndex_of h0 h1,e],by omega,by omega,h1⟩
  .rw[if_neg h1] at h;cases h
 .rw[if_neg h0] at h
  by_cases h1:-(n:Int)<=i
  .rw[if_pos h1] at h
   have e:(i+n).toNat=j:=Ed h;exact⟨by rw[seqIndex_neg (by omega) h1,e],by omega,h1,by omega⟩
  .rw[if_neg h1] at h;cases h
theorem fj{α:Type}{xs:List α}{i:Int}{v:α}(h:cA xs i=some v):∃j,seqIndex? i xs.length=some j/\xs[j]? = some v/\j<xs.length/\-(xs.length:Int)<=i/\i<xs.length:=by
 unfold cA at h;cases e:iF xs.length i with
 |none=>rw[e] at h;cases h
 |some j=>
  rw[e] at h;obtain⟨h1,h2,h3,h4⟩:=h7 e;exact⟨j,h1,h,h2,h3,h4⟩
theorem cg{α:Type}{xs:List α}{v:α}(h:xs[j]? = some v):cA xs (j:Int)=some v:=by
 have hj:j<xs.length:=(Yaq.mp h).1;have e:iF xs.length (j:Int)=some j:=by
  unfold iF;rw[if_pos (by omega),if_pos (by omega)];simp
 unfold cA;rw[e];exact h
theorem fV{α:Type}(xs:List α)(v:α):cA (xs++[v]) (-1)=some v:=by
 have hl:(xs++[v]).length=xs.length+1:=by simp
 have e:iF (xs++[v]).length (-1)=some xs.length:=by
  unfold iF;rw[hl,if_neg (by decide),if_pos (by omega)];congr 1;omega
 unfold cA;rw[e];show(xs++[v])[xs.length]? = some v;simp
def cV(b:Expr):Prop:=∀o i,subscripted b false o i=operate [o,i] (getItem o i)
def IxR(X:Cx)(r:R2):Prop:=
 ∀(value slice:Expr) (pins:List (Addr×Obj)) (s:Shared) (σ:St) (H:Hp) (x y:V) (v u:Value) (Q:VK),Inv X pins σ H s->RelV x v->RelV y u->r x y H Q->
  subscripted slice false v u=operate [v,u] (getItem v u)->wpAny (model X.prog X.w) X.A (subscriptTail value slice v u) (EP X pins σ Q) X.xe s
def l8(X:Cx)(id:String)(r:V->List V->Hp->VK->Prop):Prop:=
 ∀(pins:List (Addr×Obj)) (s:Shared) (σ:St) (H:Hp) (x:V) (xs:List V) (v:Value) (us:List Value) (Q:VK),Inv X pins σ H s->RelV x v->Vals xs us->r x xs H Q->
  wpAny (model X.prog X.w) X.A (call (.builtin id) (v::us)) (EP X pins σ Q) X.xe s
section
variable{a b:Expr}{ta tb:TE}
theorem IxR.or{r r':R2}(h:IxR X r)(h':IxR X r'):IxR X (λx y H Q=>r x y H Q\/r' x y H Q):=by
 intro value slice pins s σ H x y v u Q I rx ry q hs;rcases q with q|q
 .exact h value slice pins s σ H x y v u Q I rx ry q hs
 .exact h' value slice pins s σ H x y v u Q I rx ry q hs
theorem h8{r:R2}(hr:IxR X r)(ha:PE X a ta)(hb:PE X b tb)(hs:cV b):PE X (.Subscript a b pos) (rR r ta tb):=by
 intro pins s σ H Q I h;exact Subscript_ (mZ ha hb I h λv u s2 x y H2 I2 rx ry q=>hr a b pins s2 σ H2 x y v u Q I2 rx ry q (hs _ _))
def pV(K:D9):R2:=λx y H Q=>∃p xs i v,x=.ref p/\y=.int i/\SqL K H p xs/\cA xs i=some v/\Q v H
def pW(K:D9):R2:=λx y H Q=>∃p xs i v,x=.ref p/\y=.int i/\SqT K H p xs/\cA xs i=some v/\Q v H
def pX:R2:=λx y H Q=>∃z i c,x=.str z/\y=.int i/\z.length<=sizeLine/\cA z.cps.toList i=some c/\Q (.str ⟨#[c]⟩) H
theorem ix_list:IxR X (pV X.K):=by
 intro value slice pins s σ H x y v u Q I rx ry h hs;obtain⟨p,xs,i,z,rfl,rfl,hq,he,q⟩:=h;cases rx;obtain⟨t,rfl⟩:=ry;obtain⟨its,r,pl,hz⟩:=I.list hq;obtain⟨j,h1,h2,h3,h4,h5⟩:=fj he;obtain⟨w,ew,rw'⟩:=r.get h2;have hl:=r.length;have hn:=cI;have fin:EP X pins σ Q w s:=⟨z,H,I,rw',q⟩
 by_cases h0:0<=i
 .have hj:i.toNat=j:=by
   rw[seqIndex_of h0 h5] at h1;exact Ed h1
  exact item_listR pl.isList h0 (by omega) (by rw[hj];simpa using ew) fin hs
 .have hj:(i+(its.toArray.size:Int)).toNat=j:=by
   rw[seqIndex_neg (by omega) h4] at h1;rw[cw,<-hl];exact Ed h1
  exact subscriptTail_builtinR (x:=w) pl.isList.typeIs slot_list_getitem.lookup
   (wpAny_getItem_list_neg (Q:=λr s'=>r=w/\EP X pins σ Q r s') pl.isList (by omega) (by rw[cw]<;>omega) (by omega) (by rw[hj];simpa using ew) ⟨rfl,fin⟩) hs
theorem ix_tup:IxR X (pW X.K):=by
 intro value slice pins s σ H x y v u Q I rx ry h hs;obtain⟨p,xs,i,z,rfl,rfl,hq,he,q⟩:=h;cases rx;obtain⟨t,rfl⟩:=ry;obtain⟨its,r,pl,hz⟩:=I.tuple hq;obtain⟨j,h1,h2,h3,h4,h5⟩:=fj he;obtain⟨w,ew,rw'⟩:=r.get h2;have hl:=r.length;have hn:=cI;have fin:EP X pins σ Q w s:=⟨z,H,I,rw',q⟩
 exact subscriptTail_builtinR (x:=w) pl.typeIs slot_tuple_getitem.lookup
  (getItem_tuple (j:=j) (Q:=λr s'=>r=w/\EP X pins σ Q r s') pl (by omega) (by omega) (by rw[cw,<-hl];exact h1) (by simpa using ew) ⟨rfl,fin⟩) hs
theorem jJ:IxR X pX:=by
 intro value slice pins s σ H x y v u Q I rx ry h hs;obtain⟨z,i,c,rfl,rfl,hz,he,q⟩:=h;obtain⟨t,rfl⟩:=rx;obtain⟨t',rfl⟩:=ry;obtain⟨j,h1,h2,h3,h4,h5⟩:=fj he;have hl:z.cps.toList.length=z.length:=by simp[Str.length]
 rw[hl] at h1 h4 h5;have hn:=cI;exact tail_any (typeIs_str s z t) slot_str_getitem.lookup (getItem_str (c:=c) (by
  have e1:decide (i < -(2^63:Int))=false:=Ei (by omega);have e2:decide (i ≥ 2^63)=false:=Ei (by omega);rw[e1,e2,Bool.or_false]) (by rw[h1];simpa using h2) ⟨.str ⟨#[c]⟩,H,I.tok _,⟨_,rfl⟩,q⟩) hs
def xD(K:D9):R2:=λx y H Q=>pV K x y H Q\/pW K x y H Q\/pX x y H Q
theorem gH:IxR X (xD X.K):=ix_list.or (ix_tup.or jJ)
theorem gI(its:List Value)(n j:Nat)(u:Value):Obj.mapSeq (·.setIfInBounds j u) { cls:=.type "list",data:=.seq its.toArray n }={ cls:=.type "list",data:=.seq (its.set j u).toArray n }:=by
 simp[Obj.mapSeq]
theorem Inv.lst{pins:List (Addr×Obj)}{σ:St}{H:Hp}{s:Shared}{p:Addr}{xs:List V}(I:Inv X pins σ H s)(h:H p=some (.lst xs)) :
  ∃(its:List Value) (n:Nat),Vals xs its/\s.heap.get? p=some { cls:=.type "list",data:=.seq its.toArray n }/\xs.length<=sizeLine:=by
 obtain⟨z,its,n,r,e⟩:=I.hok p _ h;exact⟨its,n,r,e,z⟩
theorem Inv.lstUpd{p:Addr}{ys:List V}{its:List Value}{n n':Nat}{f:Obj->Obj}(I:Inv X pins σ H s)(h:H p=some (.lst xs))
  (ho:s.heap.get? p=some { cls:=.type "list",data:=.seq its.toArray n }) (hf:f { cls:=.type "list",data:=.seq its.toArray n }={ cls:=.type "list",data:=.seq its'.toArray n' }) (r:Vals ys its') (hz:ys.length<=sizeLine) (t:Nat) :
  Inv X pins σ (upd H p (.lst ys)) { s with heap:=s.heap.update p f,toks:=t }:=by
 have e:(s.heap.update p f).get? p=some { cls:=.type "list",data:=.seq its'.toArray n' }:=by
  rw[rD f ho (by rw[hf]<;>rfl),hf]
 refine I.write (x:=p) (e:=p) (by rw[h];trivial) (.inl rfl) (λb u hb q=>(mD _ _ (Em hb)).trans q) ⟨_,e⟩ ?_ (.inl ⟨_,h⟩);exact⟨hz,its',n',r,e⟩
def pY:V->V->V->Hp->(Hp->Prop)->Prop:=λo i v H Q=>∃p xs k j,o=.ref p/\i=.int k/\H p=some (.lst xs)/\iF xs.length k=some j/\Q (upd H p (.lst (xs.set j v)))
theorem jK:pJ X pY:=by
 intro pins s σ H o i v ov iv u Q I ro ri rv h;obtain⟨p,xs,k,j,rfl,rfl,hp,hj,q⟩:=h;cases ro;obtain⟨t,rfl⟩:=ri;obtain⟨its,n,r,ho,hz⟩:=I.lst hp;obtain⟨h1,h2,h3,h4⟩:=h7 hj;have hl:=r.length;have hn:=cI;have I':Inv X pins σ (upd H p (.lst (xs.set j v))) { s with heap:=s.heap.update p (Obj.mapSeq (·.setIfInBounds j u)) }:=
  I.lstUpd hp ho (gI its n j u) (r.set rv j) (by rw[cR];exact hz) s.toks
 by_cases h0:0<=k
 .have hk:k.toNat=j:=by
   rw[seqIndex_of h0 h4] at h1;exact Ed h1
  exact PySem.W.ki_setAt ho h0 (by omega) (by rw[cw,<-hl];exact h4) (by rw[hk];exact⟨_,I',q⟩)
 .have hk:(k+(its.toArray.size:Int)).toNat=j:=by
   rw[seqIndex_neg (by omega) h3] at h1;rw[cw,<-hl];exact Ed h1
  exact PySem.W.ki_setBack ho (by omega) (by rw[cw,<-hl];exact h3) (by omega) (by rw[hk];exact⟨_,I',q⟩)
theorem fk(lo hi:Option Int)(n:Nat):(sliceBounds lo hi none n).1=((HT.sIx n 0 lo:Nat):Int)/\(sliceBounds lo hi none n).2.1=((HT.sIx n n hi:Nat):Int)/\(sliceBounds lo hi none n).2.2=1:=by
 refine⟨?_,?_,rfl⟩
 .cases lo with
  |none=>simp[sliceBounds,HT.sIx]
  |some i=>
   simp only[sliceBounds,HT.sIx,Option.getD_none,show(1:Int)>0 by decide,if_true]
   by_cases h:i<0
   .simp only[h,if_true]<;>omega
   .simp only[h,if_false]<;>omega
 .cases hi with
  |none=>simp[sliceBounds,HT.sIx]
  |some i=>
   simp only[sliceBounds,HT.sIx,Option.getD_none,show(1:Int)>0 by decide,if_true]
   by_cases h:i<0
   .simp only[h,if_true]<;>omega
   .simp only[h,if_false]<;>omega
theorem eD(its:List Value)(lo hi:Option Int):slicePick its.toArray lo hi none=((its.drop (HT.sIx its.length 0 lo)).take (HT.sIx its.length its.length hi-HT.sIx its.length 0 lo)).toArray:=by
 obtain⟨h1,h2,h3⟩:=fk lo hi its.toArray.size;unfold slicePick;rw[h1,h2,h3];simp only[sliceRange_one,pick_run,cw]<;>rfl
def t7(K:D9):V->Option Int->Option Int->Hp->VK->Prop:=λx lo hi H Q=>∃a xs,x=.ref a/\SqL K H a xs/\∀p,H p=none->Q (.ref p) (upd H p (.lst (fT xs lo hi)))
theorem sl_list:SlR X (t7 X.K):=by
 intro pins s σ H x v vl vu lo hi sl Q I rx hs pl pu h;obtain⟨a,xs,rfl,hx,q⟩:=h;cases rx;obtain⟨its,r,ht,hz⟩:=I.list hx;have hlen:=r.length;refine⟨"list",_,slot_list_getitem.lookup,ht.isList.typeIs,?_⟩;refine wpAny_getItem_list_slice ht.isList hs pl pu .none (by simp) ?_ (by rw[cw]<;>omega);rw[eD,<-hlen];refine⟨.ref s.heap.objs.size,_,I.laid (t':=s.toks) (o:=.lst (fT xs lo hi)) (λb ob q=>cj _ q) (bO _) ?_,rfl,q _ (I.hok.fresh (bO _))⟩;exact⟨fA (dB xs lo hi) hz,_,0,(r.drop (HT.sIx xs.length 0 lo)).take (HT.sIx xs.length xs.length hi-HT.sIx xs.length 0 lo),gc _ rfl⟩
def ma:V->Bool
 |.non=>true
 |.bl _=>true
 |.int _=>true
 |.str _=>true
 |_=>false
def Aa:V->V->Bool
 |.non,.non=>true
 |.bl a,.bl b=>a==b
 |.bl a,.int b=>(if a then 1 else 0)==b
 |.int a,.bl b=>a==(if b then 1 else 0)
 |.int a,.int b=>a==b
 |.str a,.str b=>a==b
 |_,_=>false
theorem nq{y:V}{u:Value}(ry:RelV y u)(rx:RelV x v)(fy:ma y=true)(fx:ma x=true):SeqAt.EqAt A s u v (Aa y x):=by
 cases y with
 |non=>
  cases ry;cases x with
  |non=>cases rx;exact SeqAt.EqAt.same _
  |bl b=>cases rx;exact SeqAt.EqAt.none_bool b
  |int b=>obtain⟨t,rfl⟩:=rx;exact SeqAt.EqAt.none_int b t
  |str b=>obtain⟨t,rfl⟩:=rx;exact SeqAt.EqAt.none_str b t
  |_=>exact Eb (show false=true from fx) dv
 |bl a=>
  cases ry;cases x with
  |non=>cases rx;exact SeqAt.EqAt.bool_none a
  |bl b=>cases rx;exact SeqAt.EqAt.bool_bool a b
  |int b=>obtain⟨t,rfl⟩:=rx;exact SeqAt.EqAt.bool_int a b t
  |str b=>obtain⟨t,rfl⟩:=rx;exact SeqAt.EqAt.bool_str a b t
  |_=>exact Eb (show false=true from fx) dv
 |int a=>
  obtain⟨t',rfl⟩:=ry;cases x with
  |non=>cases rx;exact SeqAt.EqAt.int_none a t'
  |bl b=>cases rx;exact SeqAt.EqAt.int_bool a t' b
  |int b=>obtain⟨t,rfl⟩:=rx;exact SeqAt.EqAt.int_int a t' b t
  |str b=>obtain⟨t,rfl⟩:=rx;exact SeqAt.EqAt.int_str a t' b t
  |_=>exact Eb (show false=true from fx) dv
 |str a=>
  obtain⟨t',rfl⟩:=ry;cases x with
  |non=>cases rx;exact SeqAt.EqAt.str_none a t'
  |bl b=>cases rx;exact SeqAt.EqAt.str_bool a t' b
  |int b=>obtain⟨t,rfl⟩:=rx;exact SeqAt.EqAt.str_int a t' b t
  |str b=>obtain⟨t,rfl⟩:=rx;exact SeqAt.EqAt.str_str a t' b t
  |_=>exact Eb (show false=true from fx) dv
 |_=>exact Eb (show false=true from fy) dv
theorem cW:b7 X (.builtin "len") (λxs H Q=>∃p ys,xs=[.ref p]/\(SqL X.K H p ys\/SqT X.K H p ys)/\Q (.int ys.length) H):=by
 intro pins s σ H xs us Q I r h;obtain⟨p,ys,rfl,hq,q⟩:=h;obtain⟨u,rfl,rx⟩:=bT r;cases rx;have hn:=cI;rcases hq with hq|hq
 .obtain⟨its,r',pl,hz⟩:=I.list hq
  have hlen:=r'.length;exact Calls.call_len_list pl.isList (by simp only[cw]<;>omega) ⟨.int ys.length,H,I.tok _,⟨s.toks+1,by rw[cw,hlen]⟩,q⟩
 .obtain⟨its,r',pl,hz⟩:=I.tuple hq
  have hlen:=r'.length;exact len_tuple pl (by simp only[cw]<;>omega) ⟨.int ys.length,H,I.tok _,⟨s.toks+1,by rw[cw,hlen]⟩,q⟩
theorem fo:b7 X (.builtin "len") (λxs H Q=>∃z,xs=[.str z]/\z.length<=sizeLine/\Q (.int z.length) H):=by
 intro pins s σ H xs us Q I r h;obtain⟨z,rfl,hz,q⟩:=h;obtain⟨u,rfl,t,rfl⟩:=bT r;have hn:=cI;exact len_str (by omega) ⟨.int z.length,H,I.tok _,⟨_,rfl⟩,q⟩
theorem eE:b7 X (.type "tuple") (λxs H Q=>∃p ys,xs=[.ref p]/\((SqL X.K H p ys/\∀l,H l=none->Q (.ref l) (upd H l (.tup ys)))\/(SqT X.K H p ys/\Q (.ref p) H))):=by
 intro pins s σ H xs us Q I r h;obtain⟨p,ys,rfl,h⟩:=h;obtain⟨u,rfl,rx⟩:=bT r;cases rx;rcases h with⟨hq,q⟩|⟨hq,q⟩
 .obtain⟨its,r',pl,hz⟩:=I.list hq
  have hlen:=r'.length;refine call_tuple_list pl.isList (λh' kp=>?_) (by simp only[cw]<;>omega);have I1:Inv X pins σ H { s with heap:=h' }:=I.kept (t':=s.toks) kp;have I2:Inv X pins σ (upd H h'.objs.size (.tup ys)) { s with heap:=h'.push { cls:=.type "tuple",data:=.seq its.toArray } }:=
   I1.laid (t':=s.toks) (λb o e=>cj _ e) (bO _) (show ObjOk X.prog X.w _ _ _ (.tup ys) from⟨hz,its,r',IsTup.new _ _⟩)
  exact⟨.ref h'.objs.size,_,I2,rfl,q _ (I1.hok.fresh (bO _))⟩
 .obtain⟨its,r',pl,hz⟩:=I.tuple hq
  exact call_tuple_same pl ⟨.ref p,H,I,rfl,q⟩
def t8(K:D9)(T:String)(x:V)(H:Hp):Prop:=match x with
 |.str _=>T = "str"
 |.int _=>T = "int"
 |.ref p=>(T = "list" /\∃xs,SqL K H p xs)\/(T = "tuple" /\∃o,K.lookup p=some o/\o.cls=.type "tuple" /\o.dict=none)\/
   (T = "dict" /\((∃kvs,H p=some (.dK kvs))\/∃kvs,H p=some (.dT kvs)))\/(T = "set" /\∃S n,H p=some (.set S n))
 |_=>False
theorem jL{T:String}(I:Inv X pins σ H s)(r:RelV x v)(ty:t8 X.K T x H) :
  s.TypeIs v T/\∀a,v=.ref a->∃ob,s.heap.get? a=some ob/\ob.dict=none:=by
 cases x with
 |str z=>
  obtain⟨t,rfl⟩:=r;cases(show T = "str" from ty);exact⟨typeIs_str s z t,λ_ e=>nomatch e⟩
 |int i=>
  obtain⟨t,rfl⟩:=r;cases(show T = "int" from ty);exact⟨typeIs_int s i t,λ_ e=>nomatch e⟩
 |ref p=>
  cases r;rcases ty with⟨rfl,xs,hq⟩|⟨rfl,o,hk,hc,hd⟩|⟨rfl,hk⟩|⟨rfl,S,n,hk⟩
  .obtain⟨its,_,pl,_⟩:=I.list hq
   refine⟨pl.isList.typeIs,λa e=>?_⟩;cases e;obtain⟨o,n,e,c,hd,_⟩:=pl;exact⟨o,e,hd⟩
  .refine⟨⟨o,I.kIn p o hk,hc⟩,λa e=>?_⟩
   cases e;exact⟨o,I.kIn _ o hk,hd⟩
  .have z:∃o,s.heap.get? p=some o/\o.ExactDict:=by
    rcases hk with⟨kvs,hk⟩|⟨kvs,hk⟩
    .obtain⟨_,_,_,_,o,_,_,e,ex,_⟩:=I.hok p _ hk
     exact⟨o,e,ex⟩
    .obtain⟨_,_,_,_,o,_,_,e,ex,_⟩:=I.hok p _ hk
     exact⟨o,e,ex⟩
   obtain⟨o,e,ex⟩:=z;refine⟨⟨o,e,ex.1⟩,λa e2=>?_⟩;cases e2;exact⟨o,e,ex.2.1⟩
  .obtain⟨o,_,_,_,e,ex,_⟩:=I.hok p _ hk
   refine⟨⟨o,e,ex.1⟩,λa e2=>?_⟩;cases e2;exact⟨o,e,ex.2.1⟩
 |_=>exact Ej ty
def t9(K:D9)(T:String)(r:V->List V->Hp->VK->Prop)(to:TE):TE:=λσ H Q=>to σ H λx H1=>t8 K T x H1/\r x [] H1 Q
def Ab(K:D9)(T:String)(r:V->List V->Hp->VK->Prop)(to:TE)(t:TA):TE:=λσ H Q=>to σ H λx H1=>t8 K T x H1/\t σ H1 λxs H2=>r x xs H2 Q
variable{o:Expr}{es:List Expr}{to:TE}{t:TA}{name:Str}{apos cpos:Pos}{T id:String}{r:V->List V->Hp->VK->Prop}
theorem jM(pa:PlainAttrs T)(slot:Slot T name id)(hty:typeOf (.builtin id)=pure (.type "method_descriptor"))(hm:l8 X id r)(ho:PE X o to)
  (hbase:attributeBase o name X.env (eval o X.env)=eval o X.env:=by rfl) (hline:(apos.endLine==cpos.line)=true:=by rfl):PE X (.Call (.Attribute o name apos) [] [] cpos) (t9 X.K T r to):=by
 intro pins s σ H Q I h;refine wpAny_Call_method0_late hbase hline (aU (ho pins s σ H _ I h) λv s1 ⟨x,H1,I1,r1,ty,q1⟩=>?_);obtain⟨h1,h2⟩:=jL I1 r1 ty;exact⟨T,id,pa,slot,hty,h1,h2,Calls.callWith_builtin rfl (PySem.evalArgs_none (hm pins s1 σ H1 x [] v [] Q I1 r1 .nil q1))⟩
theorem fW(pa:PlainAttrs T)(slot:Slot T name id)(hty:typeOf (.builtin id)=pure (.type "method_descriptor"))(hm:l8 X id r)(ho:PE X o to)(ha:PA X (e::es) t)
  (hbase:attributeBase o name X.env (eval o X.env)=eval o X.env:=by rfl)
  (hfew:((backTo cpos (starEach (e::es) X.env)).all (λx=>!x.1) && (backToKw cpos (keywordEach [] X.env)).all (λx=>x.1.isSome)
   && decide ((e::es).length+([]:List Keyword).length+(if([]:List Keyword).isEmpty then 0 else 1)<30))=true:=by rfl)
  (hline:(apos.endLine==cpos.line)=true:=by rfl) (hs:starEach (e::es) X.env=(false,eval e X.env)::starEach es X.env:=by rfl) (hplain:(backTo cpos (starEach es X.env)).any (·.1)=false:=by rfl) :
  PE X (.Call (.Attribute o name apos) (e::es) [] cpos) (Ab X.K T r to t):=by
 intro pins s σ H Q I h;refine wpAny_Call_method_late hbase hfew hline rfl (aU (ho pins s σ H _ I h) λv s1 ⟨x,H1,I1,r1,ty,q1⟩=>?_);obtain⟨h1,h2⟩:=jL I1 r1 ty;refine⟨T,id,pa,slot,hty,h1,h2,?_⟩;have hA:=ha cpos pins s1 σ H1 _ I1 q1;rw[hs] at hA ⊢;refine Calls.callWith_builtin (by show(false||(backTo cpos (starEach es X.env)).any (·.1))=false;rw[hplain]<;>rfl) (Calls.evalArgs_plain ?_);exact aU hA λus s2 ⟨vs,H2,I2,r2,q2⟩=>hm pins s2 σ H2 x vs v us Q I2 r1 r2 q2
/- xs.append(e),list.index on a module's tuple .. are l8 facts of 06m -/
end
def xE(X:Cx)(id:String)(r:V->List V->Hp->VK->Prop):Prop:=
 ∀(pins:List (Addr×Obj)) (s:Shared) (σ:St) (H:Hp) (x:V) (xs:List V) (v:Value) (us:List Value) (Q:VK),Inv X pins σ H s->RelV x v->Vals xs us->r x xs H Q->
  wpAny (model X.prog X.w) X.A (call (.builtin id) (v::us)) (EP X pins σ Q) X.xe s
theorem Vals.one:∀{x:V} {us:List Value},Vals [x] us->∃u,us=[u]/\RelV x u
 |_,_,.cons r .nil=>⟨_,rfl,r⟩
theorem Vals.zero:∀{us:List Value},Vals [] us->us=[]
 |_,.nil=>rfl
theorem Vals.dropLast{xs:List V}{us:List Value}(h:Vals xs us):Vals xs.dropLast us.dropLast:=by
 induction h with
 |nil=>exact .nil
 |cons r t ih=>
  cases t with
  |nil=>exact .nil
  |cons q t'=>exact .cons r ih
theorem Vals.rep{xs:List V}{us:List Value}(h:Vals xs us):∀k:Nat,Vals (List.replicate k xs).flatten (List.replicate k us).flatten
 |0=>.nil
 |k+1=>by
  rw[gZ,gZ,mE,mE];exact Vals.append h (Vals.rep h k)
theorem gJ{α:Type}(l:List α):l.eraseIdx (l.length-1)=l.dropLast:=by
 induction l with
 |nil=>rfl
 |cons a r ih=>
  cases r with
  |nil=>rfl
  |cons b r=>
   have e:(a::b::r).length-1=((b::r).length-1)+1:=by
    have h1:(a::b::r).length=r.length+2:=rfl;have h2:(b::r).length=r.length+1:=rfl;omega
   rw[e,List.eraseIdx_cons_succ,ih]
   all_goals rfl
theorem cq(its:List Value):∀(k:Nat) (acc:List Value),
  List.foldl (λx1 x2=>x1++x2) acc.toArray (List.replicate k its.toArray)=(acc++(List.replicate k its).flatten).toArray
 |0,acc=>by simp
 |k+1,acc=>by
  have e:acc.toArray++its.toArray=(acc++its).toArray:=by simp
  have e2:(acc++its)++(List.replicate k its).flatten=acc++(List.replicate (k+1) its).flatten:=by
   rw[gZ,mE,lT]
  rw[<-e2,<-cq its k (acc++its),<-e,gZ,List.foldl_cons]
section
variable{l b:Addr}{ys zs:List V}
theorem Inv.lset{its:List Value}{n:Nat}{f:Array Value->Array Value}(I:Inv X pins σ H s)(hH:H l=some (.lst xs))
  (e:s.heap.get? l=some { cls:=.type "list",data:=.seq its.toArray n }) (hf:f its.toArray=its'.toArray) (hv:Vals ys its') (hz:ys.length<=sizeLine) :
  Inv X pins σ (upd H l (.lst ys)) { s with heap:=s.heap.update l (Obj.mapSeq f),toks:=t' }:=by
 have q:=PySem.IsL.update e f;rw[hf] at q;refine I.write (x:=l) (e:=l) (by rw[hH];exact trivial) (.inl rfl) (λb' u hb hu=>(mD s.heap (Obj.mapSeq f) (Em hb)).trans hu) ⟨_,q⟩ ?_ (.inl ⟨_,hH⟩);exact⟨hz,its',_,hv,q⟩
theorem Inv.lnew{its:List Value}(I:Inv X pins σ H s)(hv:Vals ys its)(hz:ys.length<=sizeLine) :
  Inv X pins σ (upd H s.heap.objs.size (.lst ys)) { s with heap:=s.heap.push { cls:=.type "list",data:=.seq its.toArray },toks:=t' }:=
 I.laid (λ_ _ q=>cj _ q) (bO _) ⟨hz,its,0,hv,gc _ rfl⟩
theorem Inv.fresh(I:Inv X pins σ H s):H s.heap.objs.size=none:=I.hok.fresh (bO _)
theorem Inv.lstM(I:Inv X pins σ H s)(hH:H l=some (.lst xs)):xs.length<=sizeLine/\∃(its:List Value) (n:Nat),Vals xs its/\xs.length=its.length/\s.heap.get? l=some { cls:=.type "list",data:=.seq its.toArray n }:=by
 obtain⟨z,its,n,r,e⟩:=I.hok l _ hH;exact⟨z,its,n,r,r.length,e⟩
theorem jN{n:Nat}(h:n<=sizeLine):Builtin.List.listTooLong n=false:=by
 unfold Builtin.List.listTooLong;exact Ei (by omega)
end
section
def lf:V->List V->Hp->VK->Prop:=λx vs H Q=>∃l xs y,x=.ref l/\vs=[y]/\H l=some (.lst xs)/\xs.length<sizeLine/\Q .non (upd H l (.lst (xs++[y])))
theorem eT:xE X "list.append" lf:=by
 intro pins s σ H x vs v us Q I rx rv h;obtain⟨l,xs,y,rfl,rfl,hH,hz,q⟩:=h;cases rx;obtain⟨u,rfl,ru⟩:=rv.one;obtain⟨z,its,n,r,hl,e⟩:=I.lstM hH;refine call_meets F.slot_list_append ⟨_,e,rfl⟩ F.entry_list_append (F.args_list_append_2 _ _) (PySem.list_append l its.toArray n u (by rw[cw];omega)) ⟨e,?_⟩;refine⟨.non,_,I.lset (its':=its++[u]) hH e (by simp) (r.append (.cons ru .nil)) ?_,rfl,q⟩;rw[dP,lV];omega
def ua:V->List V->Hp->VK->Prop:=λx vs H Q=>∃l xs y,x=.ref l/\vs=[]/\H l=some (.lst xs)/\xs[xs.length-1]? = some y/\Q y (upd H l (.lst xs.dropLast))
theorem jO:xE X "list.pop" ua:=by
 intro pins s σ H x vs v us Q I rx rv h;obtain⟨l,xs,y,rfl,rfl,hH,hy,q⟩:=h;cases rx;have hus:=rv.zero;subst hus;obtain⟨z,its,n,r,hl,e⟩:=I.lstM hH;obtain⟨u,hu,ru⟩:=r.get hy;have hy':its.toArray[its.toArray.size-1]? = some u:=by
  show its.toArray[its.length-1]? = some u;rw[<-Array.getElem?_toList,<-hl];exact hu
 refine call_meets F.slot_list_pop ⟨_,e,rfl⟩ F.entry_list_pop (F.args_list_pop_1 _) (MeetsSeq.list_pop_last l its.toArray n u hy' (by rw[cw];omega)) ⟨e,?_⟩;refine⟨y,_,I.lset (its':=its.dropLast) hH e ?_ r.dropLast ?_,ru,q⟩
 .show its.toArray.eraseIdxIfInBounds (its.toArray.size-1)=its.dropLast.toArray
  rw[cw,List.eraseIdxIfInBounds_toArray,gJ]
 .rw[rE]
  omega
def ub:R2:=λx y H Q=>∃l k xs,x=.ref l/\y=.int k/\H l=some (.lst xs)/\-(2^63)<=k/\k<2^63/\xs.length*k.toNat<=sizeLine/\
 ∀p,H p=none->Q (.ref p) (upd H p (.lst (List.replicate k.toNat xs).flatten))
theorem fq{α:Type}(xs:List α)(k:Nat):(List.replicate k xs).flatten.length=k*xs.length:=by
 induction k with
 |zero=>simp
 |succ k ih=>rw[gZ,mE,dP,ih,Nat.succ_mul,Nat.add_comm]
theorem nr:OpR X (binaryOp .Mult) ub:=by
 intro pins s σ H x y v u Q I rx ry h;obtain⟨l,k,xs,rfl,rfl,hH,h1,h2,hz,q⟩:=h;cases rx;obtain⟨t,rfl⟩:=ry;obtain⟨z,its,n,r,hl,e⟩:=I.lstM hH;have hlen:its.toArray.size*k.toNat<=sizeLine:=by rw[cw,<-hl];exact hz
 have hcap:¬its.toArray.size*k.toNat>(2^63-1)/8:=by
  have:(sizeLine:Nat)<=(2^63-1)/8:=by decide
  omega
 have hfit:¬(!Builtin.List.listFitsIndex k)=true:=by
  rw[fitsIndex_both h1 h2];exact dv
 have hlong:¬Builtin.List.listTooLong (its.toArray.size*k.toNat)=true:=by
  rw[jN hlen];exact dv
 have hnew:List.foldl (λx1 x2=>x1++x2) #[] (List.replicate (if its.toArray.isEmpty=true then 0 else k.toNat) its.toArray)=(List.replicate k.toNat its).flatten.toArray:=by
  have f0:∀m:Nat,List.foldl (λx1 x2=>x1++x2) #[] (List.replicate m its.toArray)=(List.replicate m its).flatten.toArray:=λm=>by
   have:=cq its m [];rw[fL] at this;exact this
  rw[f0];cases its with
  |nil=>simp
  |cons a r'=>rw[if_neg (by simp)]
 refine wpAny_binaryOp_repeat_ref (T:= "list") (U:= "int") (by decide) ⟨_,e,rfl⟩ (λs'=>typeIs_int s' k t) noFill_list_mul F.fills_int_mul F.slot_int_rmul repeat_list F.slot_int_index.lookup
  (call_meets F.slot_int_rmul (typeIs_int s k t) F.entry_int_rmul (F.args_int_rmul_2 _ _) (int___rmul___int_list k t l its.toArray n)
   ⟨e,rfl,⟨_,e,rfl⟩,call_meets F.slot_list_mul ⟨_,e,rfl⟩ F.entry_list_mul (F.args_list_mul_2 _ _) (AutoListH.list___mul___list_int_3 l its.toArray n k t hfit hcap hlong) ⟨e,?_⟩⟩)
 rw[hnew];exact⟨.ref _,_,I.lnew (t':=s.toks) (r.rep k.toNat) (by rw[fq,Nat.mul_comm];exact hz),rfl,q _ I.fresh⟩
end
end L2
namespace Att
open PySem PySem.W PySem.Calls PyProof.Rows
theorem dG{P:Params}{h:Heap}:∀(ns:List Int) (vs:List Value),WellAll P h vs (ns.map WData.int)->IntsAre vs ns:=by
 intro ns
 induction ns with
 |nil=>
  intro vs w;rw[oh] at w;cases w;exact .nil
 |cons n ns ih=>
  intro vs w;rw[dD] at w;cases w with
  |cons a b=>
   cases a;exact .cons _ _ (ih _ b)
theorem iG{l:OpenLaw}{n:Nat}(hn:l.most=some n){P:Params}{h:Heap}{args:List WData}{vals:List Value}
  (hpre:l.row.toRowW.claim.pre args=true) (hwl:WellAll P h vals args) :
  ∃a vs ns,vals=[Value.ref a]/\args=[WData.list (ns.map WData.int)]/\h.get? a=some { cls:=.type "list",data:=.seq vs.toArray }/\IntsAre vs ns/\ns.length<=n:=by
 have hsh:WShape.hasAll [] args [.list .int]=true:=(pre_splitW hpre).1;have hc:l.pre.holds [] { args:=args }=true:=(pre_splitW hpre).2;obtain⟨d,r,rfl,h1,h2⟩:=hasAllW_cons hsh;obtain rfl:=hasAllW_nil h2;obtain⟨xs,rfl,h3⟩:=hasW_list h1;obtain⟨ns,rfl⟩:=items_int h3;have hlen:ns.length<=n:=by
  unfold OpenLaw.pre at hc;have h4:(WTm.not (.lt (.lit (.int (n:Int))) (.len (.arg 0)))).holds [] { args:=[.list (ns.map .int)] }=true:=by
   have h4:=(holds_andW hc).1;rw[hn] at h4;exact h4
  have h5:=condW_of h4 (w_not (w_lt w_lit (w_len_list (w_arg rfl))));rw[bJ] at h5;refine Nat.le_of_not_lt λq=>?_;have q':(n:Int)<((ns.length:Nat):Int):=by omega
  first
   |(rw[Ec q'] at h5;exact Eb h5 (by decide))
   |(simp at h5;omega)
 cases hwl with
 |cons w1 w2=>
  cases w2;cases w1 with
  |list ho hall=>exact⟨_,_,ns,rfl,rfl,ho,dG ns _ hall,hlen⟩
theorem iH(l:OpenLaw)(args:List WData):l.row.toRowW.claim.post args (.bool true) args=true:=
 postW_of (r:=l.row.toRowW) (X:=(true==true))
  (show WShape.has [] (.bool true) .bool=true by first|rfl|decide|simp[WShape.has,WShape.arms,WShape.armsAll])
  (show(WTm.eq .res (.lit (.bool true))).value [] { args:=args,res:=some (.bool true),after:=args }=some (.bool (true==true)) from w_eq_bool (w_res rfl) w_lit) rfl
theorem attach_call{l:OpenLaw}{n:Nat}{q:Program}{loose:List Str}{XP:(Str->Option Value)->Heap->Prop}{YP:World->Heap->Prop}{d:DefRec}
  (hn:l.most=some n) (hdf:d.params.defaults=[])
  (call:∀ (w:World) (s₀ s₁:Shared) (mg mb:Str->Option Value) (fa:Addr) (o:Obj) (pm cd doc:Value) (a:Addr) (vs:List Value) (ns:List Int),
   Ground q loose [] XP w s₀ mg mb s₁.heap->YP w s₁.heap->
   s₁.heap.get? fa=some o->o.data=.func (docDef d.name d.params d.body d.scope pm cd doc)->s₁.heap.CodeRec cd d.name->mg d.name=some (.ref fa)->
   s₁.heap.get? a=some { cls:=.type "list",data:=.seq vs.toArray }->IntsAre vs ns->ns.length<=n->(a==sysModules)=false->s₁.gens = #[]->
   codeAny (model l.prog w) callerA (.call (.ref fa) ⟨[.ref a],[]⟩) (λr s'=>r=.ok (.ret (.bool true))/\OldK s₁.heap s'.heap/\s'.os=s₁.os/\AllBare s'.gens) s₁) :
  WalkO q loose XP YP l.row.toRowW d [] (λf vs=>PySem.call f vs):=by
 intro w s₀ s₁ mg mb G Y fa o pm cd doc dV kV ho hd hcd hD hmg hg args vals as hpre hlay hrd hwl hlo;obtain rfl:dV=.none:=Dflts.none hD hdf;obtain rfl:kV=.none:=Dflts.noKw hD;obtain⟨a,vs,ns,rfl,rfl,hobj,hints,hlen⟩:=iG hn hpre hwl;have hsy:(a == sysModules)=false:=hlo a (by
  cases hrd with
  |cons h1 h2=>cases h1;simp)
 refine enter_call (codeAny_mono (call w s₀ s₁ mg mb fa o pm cd doc a vs ns G Y ho (fd_plain hd) hcd hmg hobj hints hlen hsy hg) λr s' hq=>?_);obtain⟨rfl,h2,h3,h4⟩:=hq;exact⟨.inl ⟨.bool true,.bool true,[],rfl,λ_=>rfl,.bool true,iH l _,λ_=>⟨List.Pairwise.nil,λ_ hm=>(nomatch hm)⟩⟩,h2,h3,h4⟩
end Att
namespace L2
open PySem PySem.Spec PyProof.Rows
variable{P:Program}{w:World}{K:D9}{mg:Str->Option Value}{k:Nat}{fd:FuncData}{x:Str}{l:PySem.W.OpenLaw}{XP:(Str->Option Value)->Heap->Prop}{YP:World->Heap->Prop}{st:Stmt}{osl:Array (Option Value)}{X:Cx}{scope sc:Scope}{env:Env}{A:Around}{E:Value->Shared->Prop}{s:Shared}{Q:Env->Shared->Prop}{pins:List (Addr×Obj)}{σ:St}{vars:List Str}{sel:List Nat}{fp:List Addr}{R:Value->Addr->Result->Shared->Prop}{tn:Nat->Heap->Prop}{wi:TI}
theorem eU:∀{vs:List Value} {ns:List Int},IntsAre vs ns->Vals (ns.map V.int) vs
 |_,_,.nil=>.nil
 |_,_,.cons n t h=>.cons ⟨t,rfl⟩ (eU h)
def lg(H:Hp):Prop:=∀b,H b=none\/∃o xs,H b=some (.frz o (.lst xs))
theorem jP{mb:Str->Option Value}{CX:iB}{fa a:Addr}{sp:Sp}{s₁:Shared}{vs:List Value}{ns:List Int}
  (KX:K.In s₁.heap) (hns:s₁.heap.Ns mainGlobals mg) (hb:s₁.heap.Ns builtinsNs mb) (hbb:∀x:Str,x≠ "__name__" ->mb x=bootBuiltins x) (hlim:s₁.heap.NoLimit) (hg:s₁.gens = #[])
  (ha:s₁.heap.get? a=some { cls:=.type "list",data:=.seq vs.toArray }) (hi:IntsAre vs ns) (hl:ns.length<=sizeLine) (hsy:(a==sysModules)=false) (hr:Room k callerA)
  (F:∀base:Heap,K.In base->base.Ns mainGlobals mg->FnOk P w K mg base CX k fa fd [x] sp) (hbind:∀(s:Shared) (u:Value),BindsTo s fd ⟨[u],[]⟩ [(x,u)])
  (hsp:∀H:Hp,lg H->SqL K H a (ns.map V.int)->sp [.ref a] H (λv _=>v=.bl true) λ_ _ _=>False)
  (hCX:∀H e s',CX [] H s₁ (λ_ _ _=>False) e s'->False) :
  codeAny (model P w) callerA (.call (.ref fa) ⟨[.ref a],[]⟩) (λr s'=>r=.ok (.ret (.bool true))/\OldK s₁.heap s'.heap/\s'.os=s₁.os/\AllBare s'.gens) s₁:=by
 have rv:=eU hi;have lenV:=hi.length
 have core:∀H:Hp,lg H->SqL K H a (ns.map V.int)->HOk P w H s₁.heap->(∀b,H b≠none->b=a)->(H a≠none->K.lookup a=none)->
   codeAny (model P w) callerA (.call (.ref fa) ⟨[.ref a],[]⟩) (λr s'=>r=.ok (.ret (.bool true))/\OldK s₁.heap s'.heap/\s'.os=s₁.os/\AllBare s'.gens) s₁:=by
  intro H hO hS hok hA hK;have base_of:∀{b:Addr} {o:Obj},s₁.heap.get? b=some o->H b=none->(fb s₁.heap H).get? b=some o:=λe n=>jk e n;have noA:∀{b:Addr} {o:Obj} {es:Array DictEntry} {ep:Nat},s₁.heap.get? b=some o->o.data=.dict es ep->H b=none:=λ{b o es ep} e d=>by
   cases q:H b with
   |none=>rfl
   |some u=>
    have e':b=a:=hA b (by rw[q];simp);subst e';rw[ha] at e;cases e;have d':Data.seq vs.toArray _=Data.dict es ep:=d;cases d'
  have nsK:∀{b:Addr} {m:Str->Option Value},s₁.heap.Ns b m->(fb s₁.heap H).Ns b m:=λ{b m} ⟨o,es,ep,e,d,r⟩=>⟨o,es,ep,base_of e (noA e d),d,r⟩;have hKb:K.In (fb s₁.heap H):=λb o e=>base_of (KX b o e) (by
   cases q:H b with
   |none=>rfl
   |some u=>
    have e':b=a:=hA b (by rw[q];simp);subst e';rw[hK (by rw[q];simp)] at e;cases e)
  have hM:Mod K mg (fb s₁.heap H):=⟨hKb,nsK hns,⟨mb,nsK hb,hbb⟩,let⟨mc,h1,h2⟩:=hlim;⟨mc,nsK h1,h2⟩⟩
  have e0:Env0 P w K mg (fb s₁.heap H) callerA [] s₁ H:=⟨rfl,hM,λb o e=>kN e,Nat.le_of_eq (io _ _),trivial,λb hb=>Eb (show b∈([]:List Addr) from hb) (by simp),hok,.of_eq hg,λxs q=>Eb (hA sysModules (by rw[q];simp)).symm (beq_eq_false_iff_ne.mp hsy)⟩
  refine codeAny_mono ((F _ hKb (nsK hns)).run callerA [] s₁ H ⟨[.ref a],[]⟩ [.ref a] [.ref a] _ _ hr e0 (hbind s₁ (.ref a)) (.cons rfl .nil) (hsp H hO hS)) λr s' h=>?_;cases r with
  |error e=>exact(hCX H e s' h).elim
  |ok fl=>
   cases fl with
   |next=>exact Ej h
   |brk=>exact Ej h
   |cont=>exact Ej h
   |ret u=>
    obtain⟨v,H',os,bare,un,hok',r',q⟩:=h;have q':v=.bl true:=q;subst q';obtain rfl:u=Value.bool true:=r';refine⟨rfl,OldK.of_keep λb o e=>?_,os,bare⟩;cases q:H b with
    |none=>exact un.keep b o e q (by intro z;exact Eb (show b∈([]:List Addr) from z) (by simp)) (by simp)
    |some u=>
     rcases hO b with z|⟨ob,xs,z⟩
     .rw[q] at z;cases z
     .have z2:=un.frzs b ob _ z
      obtain⟨e1,_⟩:=hok b _ z;obtain⟨e2,_⟩:=hok' b _ z2;rw[e] at e1;cases e1;exact e2
 cases hk:K.lookup a with
 |some o=>
  have e:=KX a o hk;rw[ha] at e;cases e;refine core (λ_=>none) (λ_=>.inl rfl) (.inr ⟨_,vs.toArray,_,hk,rfl,rfl,rfl,by rw[cw,lenV];exact hl,by simpa using rv⟩) (λb u z=>by have z':(none:Option HO)=some u:=z;cases z') (λb z=>Eb rfl z) λz=>Eb rfl z
 |none=>
  refine core (λb=>if b=a then some (.frz { cls:=.type "list",data:=.seq vs.toArray } (.lst (ns.map V.int))) else none) (λb=>?_) (.inl (.inr ⟨{ cls:=.type "list",data:=.seq vs.toArray },if_pos rfl⟩)) (λb u z=>?_) (λb z=>?_) λ_=>hk
  .by_cases hb:b=a
   .exact .inr ⟨_,_,if_pos hb⟩
   .exact .inl (if_neg hb)
  .by_cases hb:b=a
   .have z':=(if_pos hb).symm.trans z
    cases z';subst hb;exact⟨ha,by rw[bJ];exact hl,vs,_,rv,ha⟩
   .have z':=(if_neg hb).symm.trans z
    cases z'
  .by_cases hb:b=a
   .exact hb
   .exact Eb (if_neg hb) z
theorem walk_of{n:Nat}{q:Program}{loose:List Str}{d:DefRec}{K:Params->D9}{CX:World->iB}{sp:World->Sp}
  (hn:l.most=some n) (hn2:n<=sizeLine) (hdf:d.params.defaults=[]) (hr:Room k callerA)
  (hY:∀(w:World) (h:Heap),YP w h->(K w.params).In h)
  (F:∀ (w:World) (mg:Str->Option Value) (fa:Addr) (h:Heap),(K w.params).In h->h.Ns mainGlobals mg->mg d.name=some (.ref fa)->
   ∃fd:FuncData,(∀(s:Shared) (u:Value),BindsTo s fd ⟨[u],[]⟩ [(x,u)])/\
    ∀base:Heap,(K w.params).In base->base.Ns mainGlobals mg->FnOk l.prog w (K w.params) mg base (CX w) k fa fd [x] (sp w))
  (hsp:∀(w:World) (H:Hp) (a:Addr) (ns:List Int),ns.length<=n->lg H->SqL (K w.params) H a (ns.map V.int)->sp w [.ref a] H (λv _=>v=.bl true) λ_ _ _=>False)
  (hCX:∀(w:World) (H:Hp) (s:Shared) (e:Value) (s':Shared),CX w [] H s (λ_ _ _=>False) e s'->False) :
  PySem.W.WalkO q loose XP YP l.row.toRowW d [] (λf vs=>PySem.call f vs):=by
 refine Att.attach_call hn hdf λw s₀ s₁ mg mb fa o pm cd doc a vs ns G Y ho hd hcd hmg hobj hints hlen hsy hg=>?_;have KX:=hY w _ Y;obtain⟨fd,hb,hF⟩:=F w mg fa _ KX G.T.g hmg;exact jP KX G.T.g G.T.b G.T.builtins G.T.nolimit hg hobj hints (fA hlen hn2) hsy hr hF hb (λH hO hS=>hsp w H a ns hlen hO hS) λH e s'=>hCX w H s₁ e s'
def aO(s:Stmt):Arguments:=match s with
 |.FunctionDef _ a _ _ _ _ _ _ _ _=>a
 |_=>{ posonlyargs:=[],args:=[],vararg:=none,kwonlyargs:=[],kw_defaults:=[],kwarg:=none,defaults:=[] }
def aH(s:Stmt):List Stmt:=match s with
 |.FunctionDef _ _ b _ _ _ _ _ _ _=>b
 |_=>[]
def aA(s:Stmt):Scope:=match s with
 |.FunctionDef _ _ _ _ _ _ sc _ _ _=>sc
 |_=>{ kind:=.function,names:=[],isGenerator:=false,isCoroutine:=false }
abbrev xF:iB:=λ_ _ _ _ _ _=>False
abbrev E0:XK:=λ_ _ _=>False
structure Fun(K:D9)(x qual:Str)(st:Stmt)(f:Addr)(fd:FuncData):Prop where
 ex:∃(oc:Value) (od:Option Addr) (kV doc pm:Value) (an:Option Addr) (cdv ct:Value) (osl:Array (Option Value)),
  fd=PySem.W.fnOf x qual (aO st) (aH st) (aA st) .none kV doc pm an cdv ct/\K.lookup f=some ⟨oc,od,.func fd,osl⟩/\PySem.W.codeIn K cdv qual=true
 kp:PySem.W.keepIn K (.ref f)=true
section
variable{base:Heap}
theorem Fun.binds{qual:Str}{f:Addr}{ps:List Str}(F:Fun K x qual st f fd)
  (h:∀(kV doc pm:Value) (an:Option Addr) (cdv ct:Value) (us:List Value),us.length=ps.length->bindArgs (PySem.W.fnOf x qual (aO st) (aH st) (aA st) .none kV doc pm an cdv ct) ⟨us,[]⟩=pure (ps.zip us)):Binds K fd ps []:=by
 obtain⟨oc,od,kV,doc,pm,an,cdv,ct,osl,rfl,lk,hcd⟩:=F.ex;exact .all (h kV doc pm an cdv ct)
theorem dk{qual:Str}{f:Addr}{oc:Value}{od an:Option Addr}{kV doc pm cdv ct:Value}(l:K.lookup f=some ⟨oc,od,.func (PySem.W.fnOf x qual (aO st) (aH st) (aA st) .none kV doc pm an cdv ct),osl⟩)
  (c:PySem.W.codeIn K cdv qual=true) (k:PySem.W.keepIn K (.ref f)=true):Fun K x qual st f (PySem.W.fnOf x qual (aO st) (aH st) (aA st) .none kV doc pm an cdv ct):=⟨⟨oc,od,kV,doc,pm,an,cdv,ct,osl,rfl,l,c⟩,k⟩
end
def md:List (Str×NameKind)->Bool
 |[]=>true
 |(n,_)::r=>!(r.any λy=>y.1==n)&&md r
def jQ(sc outer:Scope):Bool:=
 decide (sc.kind=.function)&&md sc.names&&sc.names.all λy=>!decide (y.2=.free)||(decide (outer.names.lookup y.1=some .cell)||decide (outer.names.lookup y.1=some .free))
theorem uc{α:Type}:∀{l:List (Str×α)} {n:Str},(l.any λy=>y.1==n)=false->l.lookup n=none
 |[],_,_=>rfl
 |(k,v)::r,n,h=>by
  simp only[oi,Bool.or_eq_false_iff] at h;have e:(n==k)=false:=by
   have:=h.1;simp only[beq_eq_false_iff_ne] at this ⊢;exact λz=>this z.symm
  rw[eC,e];exact uc h.2
theorem ud:∀{l:List (Str×NameKind)} {n:Str} {k:NameKind},md l=true->(n,k)∈l->l.lookup n=some k
 |(m,j)::r,n,k,nd,h=>by
  simp only[md,cy,mF] at nd;rcases Yan.mp h with e|h2
  .cases e;simp
  .have hm:n≠m:=by
    rintro rfl;have:(r.any λy=>y.1==n)=true:=List.any_eq_true.mpr ⟨_,h2,by simp⟩;rw[nd.1] at this;cases this
   rw[eC,beq_eq_false_iff_ne.mpr hm];exact ud nd.2 h2
def bU(cells:List (Str×Addr)):List (Str×NameKind)->List (Str×Addr)->List (Str×Addr)
 |[],acc=>acc
 |(n,k)::r,acc=>if k==.free then bU cells r ((n,(cells.lookup n).getD 0)::acc) else bU cells r acc
theorem pZ{cells:List (Str×Addr)}{x:Str}:∀{names:List (Str×NameKind)} {acc:List (Str×Addr)},md names=true->
  ((names.lookup x=some .free->∃c,(bU cells names acc).lookup x=some c/\(cells.lookup x).getD 0=c)/\(names.lookup x≠some .free->(bU cells names acc).lookup x=acc.lookup x))
 |[],acc,_=>⟨λh=>by simp at h,λ_=>rfl⟩
 |(m,k)::r,acc,nd=>by
  simp only[md,cy,mF] at nd
  by_cases hm:x=m
  .subst hm
   have hr:r.lookup x=none:=uc nd.1;rw[show List.lookup x ((x,k)::r)=some k by simp];have ih:=@pZ cells x r
   by_cases hk:k=.free
   .subst hk
    refine⟨λ_=>⟨_,?_,rfl⟩,λh=>Eb rfl h⟩;show(bU cells r ((x,_)::acc)).lookup x=_;rw[(ih nd.2).2 (by rw[hr];simp)];simp
   .refine⟨λh=>Eb (Ed h) hk,λ_=>?_⟩
    have:bU cells ((x,k)::r) acc=bU cells r acc:=by
     show(if k==.free then _ else _)=_;rw[if_neg (by simpa using hk)]
    rw[this,(ih nd.2).2 (by rw[hr];simp)]
  .have e:List.lookup x ((m,k)::r)=r.lookup x:=by rw[eC,beq_eq_false_iff_ne.mpr hm]
   rw[e]
   by_cases hk:k=.free
   .subst hk
    have ih:=@pZ cells x r ((m,(cells.lookup m).getD 0)::acc) nd.2;have e2:List.lookup x ((m,(cells.lookup m).getD 0)::acc)=acc.lookup x:=by rw[eC,beq_eq_false_iff_ne.mpr hm]
    rw[e2] at ih;exact ih
   .have:bU cells ((m,k)::r) acc=bU cells r acc:=by
     show(if k==.free then _ else _)=_;rw[if_neg (by simpa using hk)]
    rw[this];exact @pZ cells x r acc nd.2
theorem xG(h:∀y∈scope.names,y.2=.free->∃c,env.cells.lookup y.1=some c):closureFor scope env=pure (bU env.cells scope.names []):=by
  have gen:∀ (names:List (Str×NameKind)) (acc:List (Str×Addr)),(∀ y∈names,y.2 = .free->∃ c,env.cells.lookup y.1=some c)->
      (forIn names acc (fun (x:Str×NameKind) (r:List (Str×Addr))=>(if (x.2 == NameKind.free)=true then (do
        let c <-cellOf env x.1
        pure (ForInStep.yield ((x.1,c)::r))) else pure (ForInStep.yield r):Sem (ForInStep (List (Str×Addr))))))=(pure (bU env.cells names acc):Sem (List (Str×Addr))):=by
    intro names
    induction names with
    |nil=>intro acc _;rfl
    |cons y r ih=>
      intro acc hh;obtain⟨n,k⟩:=y;rw[List.forIn_cons]
      by_cases hk:k=.free
      · subst hk
        obtain⟨c,hc⟩:=hh (n,.free) en rfl;have hc':env.cells.lookup n=some c:=hc;have e:cellOf env n=pure c:=by unfold cellOf;rw[hc']
        simp only[Er,if_true,e];have:=ih ((n,c)::acc) λy hy=>hh y (da _ hy);have e3:bU env.cells ((n,.free)::r) acc=bU env.cells r ((n,c)::acc):=by
          show(if _ then _ else _)=_;rw[hc'];rfl
        rw[e3,<-this];rfl
      · have hb:(k==NameKind.free)=false:=by simpa using hk
        simp only[hb,cH,if_false];have:=ih acc λy hy=>hh y (da _ hy);have e3:bU env.cells ((n,k)::r) acc=bU env.cells r acc:=by
          show(if _ then _ else _)=_;rw[if_neg (by simpa using hk)]
        rw[e3,<-this];rfl
  unfold closureFor;have:=gen scope.names [] h
  first
    |exact this
    | (show (forIn scope.names [] _ >>= λcs=>pure cs)=_
       refine Eq.trans (congrArg (· >>= λcs=>pure cs) this) rfl)
theorem mf{x:Str}:∀(names:List (Str×NameKind)) (n:Nat) (acc acc':List (Str×Addr)),md names=true->
  ((names.lookup x=some .cell->(cellsFrom n names acc).lookup x=(cellsFrom n names acc').lookup x)/\(names.lookup x≠some .cell->(cellsFrom n names acc).lookup x=acc.lookup x))
 |[],_,_,_,_=>⟨λh=>by simp at h,λ_=>rfl⟩
 |(m,k)::r,n,acc,acc',nd=>by
  simp only[md,cy,mF] at nd
  by_cases hm:x=m
  .subst hm
   have hr:r.lookup x=none:=uc nd.1;rw[show List.lookup x ((x,k)::r)=some k by simp]
   by_cases hk:k=.cell
   .subst hk
    refine⟨λ_=>?_,λh=>Eb rfl h⟩;have a:=(@mf x r (n+1) ((x,n)::acc) acc' nd.2).2 (by rw[hr];simp);have b:=(@mf x r (n+1) ((x,n)::acc') acc' nd.2).2 (by rw[hr];simp);show(cellsFrom (n+1) r ((x,n)::acc)).lookup x=(cellsFrom (n+1) r ((x,n)::acc')).lookup x;rw[a,b];simp
   .refine⟨λh=>Eb (Ed h) hk,λ_=>?_⟩
    have e:cellsFrom n ((x,k)::r) acc=cellsFrom n r acc:=by
     show(if k==.cell then _ else _)=_;rw[if_neg (by simpa using hk)]
    rw[e,(@mf x r n acc acc' nd.2).2 (by rw[hr];simp)]
  .have e:List.lookup x ((m,k)::r)=r.lookup x:=by rw[eC,beq_eq_false_iff_ne.mpr hm]
   rw[e]
   by_cases hk:k=.cell
   .subst hk
    have ih:=@mf x r (n+1) ((m,n)::acc) ((m,n)::acc') nd.2;have e2:List.lookup x ((m,n)::acc)=acc.lookup x:=by rw[eC,beq_eq_false_iff_ne.mpr hm]
    rw[e2] at ih;exact ih
   .have e3:∀a:List (Str×Addr),cellsFrom n ((m,k)::r) a=cellsFrom n r a:=λa=>by
     show(if k==.cell then _ else _)=_;rw[if_neg (by simpa using hk)]
    rw[e3,e3];exact @mf x r n acc acc' nd.2
theorem xH:(relabel sc env).names.lookup x=(sc.names.lookup x).map λk=>if(k==NameKind.free&&env.scope.kind==.function&&env.kindOf x==some .cell)=true then .cell else k:=by
 show List.lookup x (sc.names.map _)=_;generalize sc.names=l
 induction l with
 |nil=>rfl
 |cons y r ih=>
  obtain⟨m,k⟩:=y
  by_cases hx:x=m
  .subst hx
   simp only[dD]
   by_cases hc:(k==NameKind.free&&env.scope.kind==.function&&env.kindOf x==some .cell)=true
   .rw[if_pos hc]
    simp only[eC,Er,tw];rw[if_pos hc]
   .rw[if_neg hc]
    simp only[eC,Er,tw];rw[if_neg hc]
  .have hb:(x==m)=false:=beq_eq_false_iff_ne.mpr hx
   simp only[dD]
   by_cases hc:(k==NameKind.free&&env.scope.kind==.function&&env.kindOf m==some .cell)=true
   .rw[if_pos hc];simp only[eC,hb];exact ih
   .rw[if_neg hc];simp only[eC,hb];exact ih
def gg(sc:Scope)(env:Env)(C:Addr):Env:=
 { scope:=relabel sc env,locals:=C,globals:=env.globals,cells:=cellsFrom (C+1) sc.names (bU env.cells sc.names []),qual:=env.qual,func:=none,code:=env.code,frame:=env.frame,builtins:=env.builtins }
theorem Ac{M:Model}
  (h:Q { scope:=sc,locals:=s.heap.objs.size,globals:=env.globals,cells:=cellsFrom (s.heap.objs.size+1) sc.names (bU env.cells sc.names []),qual:=env.qual,func:=none,code:=env.code,frame:=env.frame,builtins:=env.builtins }
   { s with heap:=pushCells (s.heap.push { cls:=.type "dict",data:=.dict #[] }) sc.names }) :
  wpAny M A (newFunctionEnv sc env.globals (bU env.cells sc.names []) [] env.qual none .none (some env)) Q E s:=by
 simp only[newFunctionEnv,Option.isSome_some,if_true];refine D8 (wpAny_alloc ?_);refine D8 (wpAny_layCells _ (λname kind cells=>by cases hkc:kind==NameKind.cell<;>simp[hkc]) _ _ _ _ ?_);rw[show({ s with heap:=s.heap.push { cls:=.type "dict",data:=.dict #[] } }:Shared).heap.objs.size=s.heap.objs.size+1 from oa ..];exact D8 (Ea (Ea h))
def Cx.lc(X:Cx)(sc:Scope)(vars:List Str)(sel:List Nat)(s:Shared)(H:Hp)(fp:List Addr):Cx where
 prog:=X.prog
 w:=X.w
 K:=X.K
 mg:=X.mg
 base:=X.base
 A:=X.A
 N:=vars++sel.map λj=>X.N.getD j ""
 s₀:=s
 H₀:=H
 env:=gg sc X.env s.heap.objs.size
 outer:=X.stack
 stack:=X.stack
 ex:=fp
 fn:=λx=>decide (sc.names.lookup x=some .cell)
 calm:=X.calm
 pn:=[]
 xe:=λ_ _=>False
def om(N:List Str)(sc:Scope)(sel:List Nat):Bool:=sel.all λj=>match N[j]? with
 |some x=>decide (sc.names.lookup x=some .free)
 |none=>false
def eF(nv:Nat)(sel:List Nat)(σ:St):St:=List.replicate nv none++sel.map λj=>(σ[j]?).getD none
section
variable{H:Hp}
theorem ue(I:Inv X pins σ H s)(ok:jQ sc X.env.scope=true):∀y∈sc.names,y.2=.free->∃c,X.env.cells.lookup y.1=some c:=λy hy hk=>by
 simp only[jQ,cy,Ybc,tx,mF,Ee,El] at ok;rcases ok.2 y hy with z|z
 .exact Eb hk z
 .exact I.ok.has y.1 z
theorem Ad(I:Inv X pins σ H s)(ok:jQ sc X.env.scope=true)(so:om X.N sc sel=true)(hf:∀b∈fp,d4 X pins H b)(ho:∀b∈fp,∃o,s.heap.get? b=some o)(ha:X.env.scope.kind=.function:=by rfl) :
  Inv (X.lc sc vars sel s H fp) [] (eF vars.length sel σ) H { s with heap:=pushCells (s.heap.push { cls:=.type "dict",data:=.dict #[] }) sc.names }:=by
 have hcl:=ue I ok;have ok':=ok;simp only[jQ,cy,Ybc,tx,mF,Ee,El] at ok';obtain⟨⟨hk,nd⟩,hfree⟩:=ok';have szp:(s.heap.push { cls:=.type "dict",data:=.dict #[] }).objs.size=s.heap.objs.size+1:=oa ..;have keep:∀b o,s.heap.get? b=some o->(pushCells (s.heap.push { cls:=.type "dict",data:=.dict #[] }) sc.names).get? b=some o:=λb o e=>pushCells_keeps _ _ _ _ (cj _ e);have okc:=cellsFrom_ok sc.names (s.heap.push { cls:=.type "dict",data:=.dict #[] }) (s.heap.objs.size+1) [] ⟨λ_ _ hm=>(nomatch hm),List.Pairwise.nil⟩ (by rw[szp];exact bO _);rw[szp] at okc
 have own:∀x,sc.names.lookup x=some .cell->∃c,(gg sc X.env s.heap.objs.size).cells.lookup x=some c/\(x,c)∈cellsFrom (s.heap.objs.size+1) sc.names []:=λx hx=>by
  have e:=(mf sc.names (s.heap.objs.size+1) (bU X.env.cells sc.names []) [] nd).1 hx;obtain⟨c,hc⟩:=cl (sc:=sc) (n:=s.heap.objs.size+1) hx;exact⟨c,by show(cellsFrom _ _ _).lookup x=_;rw[e];exact hc,Eg hc⟩
 have clo:∀x,sc.names.lookup x=some .free->∃c,(gg sc X.env s.heap.objs.size).cells.lookup x=some c/\X.env.cells.lookup x=some c:=λx hx=>by
  have e:=(mf sc.names (s.heap.objs.size+1) (bU X.env.cells sc.names []) [] nd).2 (by rw[hx];decide);obtain⟨c,h1,h2⟩:=(@pZ X.env.cells x sc.names [] nd).1 hx;obtain⟨c',h3⟩:=hcl (x,.free) (Eg hx) rfl;have h3':X.env.cells.lookup x=some c':=h3;rw[h3'] at h2;have h4:c'=c:=h2;subst h4;exact⟨c',by show(cellsFrom _ _ _).lookup x=_;rw[e];exact h1,h3'⟩
 have oth:∀x c,(gg sc X.env s.heap.objs.size).cells.lookup x=some c->sc.names.lookup x=some .cell\/sc.names.lookup x=some .free:=λx c hc=>by
  by_cases h1:sc.names.lookup x=some .cell
  .exact .inl h1
  .by_cases h2:sc.names.lookup x=some .free
   .exact .inr h2
   .have e:=(mf sc.names (s.heap.objs.size+1) (bU X.env.cells sc.names []) [] nd).2 h1
    have e2:=(@pZ X.env.cells x sc.names [] nd).2 h2;have hc':(cellsFrom (s.heap.objs.size+1) sc.names (bU X.env.cells sc.names [])).lookup x=some c:=hc;rw[e,e2] at hc';simp at hc'
 have ownC:∀x c,(x,c)∈cellsFrom (s.heap.objs.size+1) sc.names []->(pushCells (s.heap.push { cls:=.type "dict",data:=.dict #[] }) sc.names).IsCell c none/\s.heap.objs.size+1<=c:=λx c h=>okc.empty x c h;have cloLt:∀x c,X.env.cells.lookup x=some c->c<s.heap.objs.size:=λx c h=>by
  obtain⟨v,q⟩:=I.cell x c h;exact q.lt
 have noA:∀b∈fp,b<s.heap.objs.size:=λb hb=>by obtain⟨o,e⟩:=ho b hb;exact bY e
 refine ⟨⟨I.ok.mod,hk,I.ok.glob,I.ok.blt,bO _,λx y c h1 h2=>?_,λx hx=>?_,λx c hx h=>?_,I.ok.hd,I.ok.frames,.inl rfl,λb hb=>⟨el (noA b hb),λx c h=>?_⟩,I.bs,fA I.ok.bsz I.sz,λb o e hb=>?_,λb hb hq=>?_,I.stack,I.stkFree,I.sysn⟩,
  rfl,I.bare,Un.kept keep,⟨λ_=>none,?_,λi x v h1 h2 h3=>?_⟩,λx c h=>?_,I.hok.fresh (bO _),λx c h=>?_,λp hp=>Eb (show p∈([]:List (Addr×Obj)) from hp) (by simp),I.hok.kept keep,?_⟩
 ·-- inj
  replace h1:(gg sc X.env s.heap.objs.size).cells.lookup x=some c:=h1;replace h2:(gg sc X.env s.heap.objs.size).cells.lookup y=some c:=h2;rcases oth x c h1 with k1|k1<;>rcases oth y c h2 with k2|k2
  .obtain⟨c1,e1,m1⟩:=own x k1
   obtain⟨c2,e2,m2⟩:=own y k2;rw[h1] at e1;rw[h2] at e2;cases e1;cases e2;exact name_of_addr okc.apart m1 m2
  .obtain⟨c1,e1,m1⟩:=own x k1
   obtain⟨c2,e2,m2⟩:=clo y k2;rw[h1] at e1;rw[h2] at e2;cases e1;cases e2;exact Eb (cG (cloLt y c m2) (tz (ownC x c m1).2)) (gp _)
  .obtain⟨c1,e1,m1⟩:=clo x k1
   obtain⟨c2,e2,m2⟩:=own y k2;rw[h1] at e1;rw[h2] at e2;cases e1;cases e2;exact Eb (cG (cloLt x c m1) (tz (ownC y c m2).2)) (gp _)
  .obtain⟨c1,e1,m1⟩:=clo x k1
   obtain⟨c2,e2,m2⟩:=clo y k2;rw[h1] at e1;rw[h2] at e2;cases e1;cases e2;exact I.ok.inj x y c m1 m2
 ·-- has
  have hx':(relabel sc X.env).names.lookup x=some .cell\/(relabel sc X.env).names.lookup x=some .free:=hx;rw[xH] at hx';cases q:sc.names.lookup x with
  |none=>rw[q] at hx';simp at hx'
  |some k=>
   cases k with
   |cell=>obtain⟨c,e,_⟩:=own x q;exact⟨c,e⟩
   |free=>obtain⟨c,e,_⟩:=clo x q;exact⟨c,e⟩
   | «local»=>rw[q] at hx';simp at hx'
   |globalExplicit=>rw[q] at hx';simp at hx'
   |globalImplicit=>rw[q] at hx';simp at hx'
 .have hx':sc.names.lookup x=some .cell:=of_decide_eq_true hx
  obtain⟨c1,e1,m1⟩:=own x hx';have h':(gg sc X.env s.heap.objs.size).cells.lookup x=some c:=h;rw[h'] at e1;cases e1;have:=(ownC x c m1).2;show s.heap.objs.size<=c;omega
 .rcases oth x c h with k|k
  .obtain⟨c1,e1,m1⟩:=own x k
   rw[show(gg sc X.env s.heap.objs.size).cells.lookup x=some c from h] at e1;cases e1;exact λz=>Eb (cG (noA b hb) (tz (ownC x c m1).2)) (by rw[z];exact gp _)
  .obtain⟨c1,e1,m1⟩:=clo x k
   rw[show(gg sc X.env s.heap.objs.size).cells.lookup x=some c from h] at e1;cases e1;exact(hf b hb).2.2.2.2.1 x c m1
 .have q:=(hf b hb).2.2.2.1
  rcases q with q|q
  .exact I.ok.noex b o e q
  .exact Eb (cG (bY (I.ok.bs b o e).1) q) (gp _)
 .rcases Yan.mp (I.stkSub b hq) with z|z
  .exact(hf b hb).2.1 z
  .exact(hf b hb).2.2.1 z
 ·-- the names' dict
  refine Heap.Ns.keeps (h:=s.heap.push { cls:=.type "dict",data:=.dict #[] }) ?_ (λb o e=>pushCells_keeps _ _ _ _ e);exact⟨_,#[],_,gc _ rfl,rfl,λe he=>Eb he (by simp),λ_=>rfl⟩
 ·-- what is seen
  have hi:vars.length<=i:=by
   rcases kM i vars.length with z|z
   .exfalso
    unfold eF at h2;rw[kq (by simpa using z),ji] at h2;split at h2<;>cases h2
   .exact z
  unfold eF at h2;rw[jh (by simpa using hi),mC,e7] at h2;have h1':(vars++sel.map λj=>X.N.getD j "")[i]? = some x:=h1;rw[jh hi,e7] at h1';cases q:sel[i-vars.length]? with
  |none=>rw[q] at h2;cases h2
  |some j=>
   rw[q] at h1' h2;have e1:X.N.getD j "" = x:=Ed h1';have e2:(σ[j]?).getD none=some v:=Ed h2;have hj:∃y,X.N[j]? = some y/\sc.names.lookup y=some .free:=by
    have:=Ybc.mp so j (og q);cases z:X.N[j]? with
    |none=>rw[z] at this;cases this
    |some y=>rw[z] at this;exact⟨y,rfl,of_decide_eq_true this⟩
   obtain⟨y,hy,hyf⟩:=hj;have:y=x:=by
    rw[<-e1,pj,hy];rfl
   subst this;have e3:σ[j]? = some (some v):=by
    cases z:σ[j]? with
    |none=>rw[z] at e2;cases e2
    |some w=>rw[z] at e2;exact congrArg some e2
   obtain⟨c,k1,k2⟩:=clo y hyf;have vis:g5 X.env.scope y:=by
    rcases hfree (y,.free) (Eg hyf) with z|z|z
    .exact Eb rfl z
    .exact .inr (.inl z)
    .exact .inr (.inr z)
   obtain⟨m,hn,hl⟩:=I.loc;obtain⟨u,r,l⟩:=hl j y v hy e3 vis;refine⟨u,r,?_⟩;have notloc:X.env.kindOf y≠some .local:=by
    rcases hfree (y,.free) (Eg hyf) with z|z|z
    .exact Eb rfl z
    .show X.env.scope.names.lookup y≠_;rw[z];decide
    .show X.env.scope.names.lookup y≠_;rw[z];decide
   rcases l with⟨z,_⟩|⟨_,c',e',q'⟩
   .exact Eb z notloc
   .rw[k2] at e';cases e'
    have kk:(gg sc X.env s.heap.objs.size).kindOf y=some .cell\/(gg sc X.env s.heap.objs.size).kindOf y=some .free:=by
     show(relabel sc X.env).names.lookup y=_\/(relabel sc X.env).names.lookup y=_;rw[xH,hyf];simp only[tw];split
     .exact .inl rfl
     .exact .inr rfl
    exact .inr ⟨kk,c,k1,q'.keeps keep⟩
 .rcases oth x c h with k|k
  .obtain⟨c1,e1,m1⟩:=own x k
   rw[show(gg sc X.env s.heap.objs.size).cells.lookup x=some c from h] at e1;cases e1;exact⟨none,(ownC x c m1).1⟩
  .obtain⟨c1,e1,m1⟩:=clo x k
   rw[show(gg sc X.env s.heap.objs.size).cells.lookup x=some c from h] at e1;cases e1;obtain⟨v,q⟩:=I.cell x c m1;exact⟨v,q.keeps keep⟩
 .rcases oth x c h with k|k
  .obtain⟨c1,e1,m1⟩:=own x k
   rw[show(gg sc X.env s.heap.objs.size).cells.lookup x=some c from h] at e1;cases e1;exact I.hok.fresh (by have:=(ownC x c m1).2;omega)
  .obtain⟨c1,e1,m1⟩:=clo x k
   rw[show(gg sc X.env s.heap.objs.size).cells.lookup x=some c from h] at e1;cases e1;exact I.freeC x c m1
 .show(eF vars.length sel σ).length=(vars++sel.map _).length
  unfold eF;simp
end
def PF(X:Cx)(ifs:List Expr)(t:TT):Prop:=
 ∀(pins:List (Addr×Obj)) (s:Shared) (σ:St) (H:Hp) (Q:Bool->Hp->Prop),Inv X pins σ H s->t σ H Q->
  wpAny (model X.prog X.w) X.A (forIn ifs true λc r=>if r=true then do let ok <-isTrue c X.env (eval c X.env);pure (ForInStep.yield ok) else pure (ForInStep.yield r)) (TP X pins σ Q) X.xe s
def p6:TT:=λ_ H Q=>Q true H
theorem Ae:PF X [] p6:=λ_ _ _ H _ I h=>wpAny_tests_nil ⟨H,I,h⟩
def p8(g:TG)(tf:TT)(te:TE)(J:It)(D:Addr)(Q:Hp->Prop)(W:Nat->Nat->List V->St->Hp->Prop):Prop:=
 ∀ i m ys σ2 H2,W i m ys σ2 H2->H2 D=some (.lst ys)/\((J.stop i H2/\Q H2)\/(J.go i H2/\∀ x H3,J.yld i H2 x H3->g x σ2 H3 λσ4 H4=>tf σ4 H4 λb H5=>
  if b=true then te σ4 H5 λv H6=>H6 D=some (.lst ys)/\ys.length<sizeLine/\∃m',m'<m/\W (i+1) m' (ys++[v]) σ4 (upd H6 D (.lst (ys++[v]))) else∃m',m'<m/\W (i+1) m' ys σ4 H5))
def uf(wi:TI)(nv:Nat)(sel:List Nat)(g:TG)(tf:TT)(te:TE):TE:=λσ H Q=>wi σ H λJ H1=>∀D,H1 D=none->
 ∃W:Nat->Nat->List V->St->Hp->Prop,(∃m,W 0 m [] (eF nv sel σ) (upd H1 D (.lst [])))/\p8 g tf te J D (Q (.ref D)) W
section
variable{H1:Hp}{s2:Shared}{elt target iter:Expr}{ifs:List Expr}{pos:Pos}{g:TG}{tf:TT}{te:TE}
theorem Af{prog:Program}{R:Result->Shared->Prop}{it acc:Value}(I:Nat->Shared->Prop)
  (turn:∀ n s,I n s->wpAny (model prog w) A (pyNext it) (λr s₁=>match r with
   |none=>R (.ok .next) s₁
   | some v=>wpAny (model prog w) A (letOwnedTupleGo target it v) (λ_ s₁'=>wpAny (model prog w) A (assign target env v) (λ_ s₂=>
     wpAny (model prog w) A (forIn ifs true λc r=>if r=true then do let ok <- isTrue c env (eval c env);pure (ForInStep.yield ok) else pure (ForInStep.yield r)) (λok s₃=>
      if ok=true then wpAny (model prog w) A (eval elt env) (λx s₄=>
       wpAny (model prog w) A (call (.builtin "list.append") [acc,x]) (λ_ s₅=>∃m,m<n/\I m s₅) (λ_ _=>False) s₄) (λ_ _=>False) s₃
      else∃m,m<n/\I m s₃) (λ_ _=>False) s₂) (λ_ _=>False) s₁') (λ_ _=>False) s₁) (λ_ _=>False) s)
  (n:Nat) (h:I n s) :
  codeAny (model prog w) A (.compLoop (.ListComp elt [⟨target,iter,ifs,0⟩] scope pos) 0 it acc env) R s:=by
 refine codeAny_loop rfl I (λn s hI=>?_) n h;show wpAny _ A ((compTurn (.ListComp elt [⟨target,iter,ifs,0⟩] scope pos) 0 it acc env).onRaise (λx=>do noteFrame x env;theTreesLotGoes x)) _ _ s;refine wpAny_noted ?_;rw[compTurn_list];refine D8 (EA (D8 (Ep (turn n s hI) (λr s₁ h₁=>?_) λ_ _ h'=>h'.elim)));cases r with
 |none=>exact Ea h₁
 |some v=>
  refine D8 (Ep h₁ (λ_ s₁' h₁'=>?_) λ_ _ h'=>h'.elim);refine D8 (Ep h₁' (λ_ s₂ h₂=>D8 (Ep h₂ (λok s₃ h₃=>?_) λ_ _ h'=>h'.elim)) λ_ _ h'=>h'.elim);cases ok with
  |false=>exact Ea ⟨rfl,h₃⟩
  |true=>
   exact D8 (D8 (Ep h₃ (λx s₄ h₄=>D8 (Ep h₄ (λ_ s₅ h₅=>Ea (Ea ⟨rfl,h₅⟩)) λ_ _ h'=>h'.elim)) λ_ _ h'=>h'.elim))
theorem xI{J:It}{it:Addr}{Q:VK}(hc:X.calm=true)
  (hg:∀s H fp,PG (X.lc sc vars sel s H fp) target g) (hf:∀s H fp,PF (X.lc sc vars sel s H fp) ifs tf) (he:∀s H fp,PE (X.lc sc vars sel s H fp) elt te)
  (ok:jQ sc X.env.scope=true) (so:om X.N sc sel=true)
  (I2:Inv X pins σ H1 s2) (T:ip X.prog X.w X.K target J fp it tn) (st2:tn 0 s2.heap) (f2:∀b∈fp,d4 X pins H1 b)
  (q:∀D,H1 D=none->∃W:Nat->Nat->List V->St->Hp->Prop,(∃m,W 0 m [] (eF vars.length sel σ) (upd H1 D (.lst [])))/\p8 g tf te J D (Q (.ref D)) W)
  (hR:∀D C H' s',Inv X pins σ H' s'->Q (.ref D) H'->(∃m,s'.heap.Ns C m)->d4 X pins H' C->R (.ref D) C (.ok .next) s') :
  wpAny (model X.prog X.w) X.A (newList []) (λacc s₃=>wpAny (model X.prog X.w) X.A (newFunctionEnv sc X.env.globals (bU X.env.cells sc.names []) [] X.env.qual none .none (some X.env)) (λcenv s₄=>
   codeAny (model X.prog X.w) X.A (.compStart (.ListComp elt [⟨target,iter,ifs,0⟩] sc pos) 0 (.ref it) acc { cenv with scope:=relabel sc X.env }) (R acc cenv.locals) s₄) E s₃) E s2:=by
 refine En ?_;have hD0:H1 s2.heap.objs.size=none:=I2.hok.fresh (bO _);obtain⟨W,⟨m0,w0⟩,turn⟩:=q _ hD0;have I3:Inv X pins σ (upd H1 s2.heap.objs.size (.lst [])) { s2 with heap:=s2.heap.push { cls:=.type "list",data:=.seq ([]:List Value).toArray },toks:=s2.toks }:=I2.lnew (ys:=[]) .nil (im _);have ho2:∀b∈fp,∃o,s2.heap.get? b=some o/\∀v,o.data≠.cell v:=T.obj _ _ st2;have lt2:∀b∈fp,b<s2.heap.objs.size:=λb hb=>by obtain⟨o,e,_⟩:=ho2 b hb;exact bY e
 have f3:∀b∈fp,d4 X pins (upd H1 s2.heap.objs.size (.lst [])) b:=λb hb=>⟨by rw[aE (el (lt2 b hb))];exact(f2 b hb).1,(f2 b hb).2⟩;have ho3:∀b∈fp,∃o,(s2.heap.push { cls:=.type "list",data:=.seq ([]:List Value).toArray }).get? b=some o:=λb hb=>by obtain⟨o,e,_⟩:=ho2 b hb;exact⟨o,cj _ e⟩
 refine Ac (s:={ s2 with heap:=s2.heap.push { cls:=.type "list",data:=.seq ([]:List Value).toArray },toks:=s2.toks }) ?_;generalize hs3:({ s2 with heap:=s2.heap.push { cls:=.type "list",data:=.seq ([]:List Value).toArray },toks:=s2.toks }:Shared)=s3 at I3 ⊢;have kp23:∀b o,s2.heap.get? b=some o->s3.heap.get? b=some o:=λb o e=>by rw[<-hs3];exact cj _ e
 have sz3:s3.heap.objs.size=s2.heap.objs.size+1:=by rw[<-hs3];exact oa ..
 have os3:s3.os=s2.os:=by rw[<-hs3]
 have ho3':∀b∈fp,∃o,s3.heap.get? b=some o:=λb hb=>by rw[<-hs3];exact ho3 b hb
 have I4:=Ad (vars:=vars) I3 ok so f3 ho3' I2.ok.kind;have kp4:∀b o,s3.heap.get? b=some o->(pushCells (s3.heap.push { cls:=.type "dict",data:=.dict #[] }) sc.names).get? b=some o:=λb o e=>pushCells_keeps _ _ _ _ (cj _ e);have st4:tn 0 (pushCells (s3.heap.push { cls:=.type "dict",data:=.dict #[] }) sc.names):=T.keep _ _ _ st2 λb hb o e=>kp4 b o (kp23 b o e)
 have stat:∀{H':Hp},(∀b∈fp,H' b=none)->∀b∈fp,d4 (X.lc sc vars sel s3 (upd H1 s2.heap.objs.size (.lst [])) fp) [] H' b:=λ{H'} hn b hb=>by
  refine⟨hn b hb,(I4.ok.exf b hb).1,I4.ok.exfs b hb,.inl hb,λx c e z=>(I4.ok.exf b hb).2 x c e z,λp hp=>Eb (show p∈([]:List (Addr×Obj)) from hp) (by simp)⟩
 have loop:codeAny (model X.prog X.w) X.A (.compLoop (.ListComp elt [⟨target,iter,ifs,0⟩] sc pos) 0 (.ref it) (.ref s2.heap.objs.size) (gg sc X.env s3.heap.objs.size))
   (R (.ref s2.heap.objs.size) s3.heap.objs.size) { s3 with heap:=pushCells (s3.heap.push { cls:=.type "dict",data:=.dict #[] }) sc.names }:=by
  refine Af (λn s'=>∃i ys σ' H',Inv (X.lc sc vars sel s3 (upd H1 s2.heap.objs.size (.lst [])) fp) [] σ' H' s'/\tn i s'.heap/\(∀b∈fp,H' b=none)/\W i n ys σ' H') ?_ m0
   ⟨0,[],_,_,I4,st4,λb hb=>(f3 b hb).1,w0⟩
  rintro n s5 ⟨i,ys,σ5,H5,I5,st5,fr5,w5⟩;obtain⟨hD,⟨stop,qn⟩|⟨go,step⟩⟩:=turn i n ys σ5 H5 w5
  .refine aU (T.done (X.lc sc vars sel s3 (upd H1 s2.heap.objs.size (.lst [])) fp) rfl rfl rfl hc i [] s5 σ5 H5 _ I5 (stat fr5) st5 stop) λr s6 ⟨hr,I6⟩=>?_
   subst hr;have un:Un (bX X.stack) fp H1 H5 s2.heap s6.heap:=by
    have a:Un (bX X.stack) fp H1 (upd H1 s2.heap.objs.size (.lst [])) s2.heap s3.heap:=Un.laid kp23 (bO _) hD0;exact a.trans I6.base
   have I7:Inv X pins σ H5 s6:=I2.call' (ch:=fp) (I6.os.trans os3) un I6.hok I6.bare λb hb=>⟨(f2 b hb).2.2.2.1,(f2 b hb).2.1,(f2 b hb).2.2.2.2.1,(f2 b hb).2.2.2.2.2⟩;refine hR _ _ H5 s6 I7 qn ?_ ?_
   .obtain⟨m,hn,_⟩:=I6.loc
    exact⟨m,hn⟩
   .exact I3.fpOk (bO _) I6.free
  .refine aU (T.item (X.lc sc vars sel s3 (upd H1 s2.heap.objs.size (.lst [])) fp) rfl rfl rfl hc i [] s5 σ5 H5 _ I5 (stat fr5) st5 go) λr s6 ⟨u,hr,h6⟩=>?_
   subst hr;refine aU h6 λ_ s7 ⟨x,H7,I7,r7,y7,st7,fr7⟩=>?_;have I7':=I7.pinned (stat fr7) (T.obj _ _ st7);refine aU (hg _ _ _ _ s7 σ5 H7 x u _ I7' r7 (step x H7 y7)) λ_ s8 ⟨σ8,H8,I8,q8⟩=>?_;refine aU (hf _ _ _ _ s8 σ8 H8 _ I8 q8) λb s9 ⟨H9,I9,q9⟩=>?_;have back:∀{σ':St} {H':Hp} {s':Shared},Inv (X.lc sc vars sel s3 (upd H1 s2.heap.objs.size (.lst [])) fp) ([]++d6 fp s7.heap) σ' H' s'->tn (i+1) s'.heap/\∀b∈fp,H' b=none:=λ{σ' H' s'} I'=>by
    refine⟨T.keep _ _ _ st7 λb hb o e=>(I'.pin (b,o) (jf _ (jf _ (ce hb e)))).1,λb hb=>?_⟩;obtain⟨o,e,d⟩:=T.obj _ _ st7 b hb;exact(I'.pin (b,o) (jf _ (jf _ (ce hb e)))).2.1
   cases b with
   |false=>
    rw[if_neg (by decide)] at q9 ⊢;obtain⟨m',hm,w9⟩:=q9;exact⟨m',hm,i+1,ys,σ8,H9,I9.unpinned,(back I9).1,(back I9).2,w9⟩
   |true=>
    rw[if_pos rfl] at q9 ⊢;refine aU (he _ _ _ _ s9 σ8 H9 _ I9 q9) λv sA ⟨y,HA,IA,rA,hDA,hz,m',hm,wA⟩=>?_;obtain⟨z,its,nn,rr,hl,e⟩:=IA.lstM hDA;refine call_meets F.slot_list_append ⟨_,e,rfl⟩ F.entry_list_append (F.args_list_append_2 _ _) (PySem.list_append _ its.toArray nn v (by rw[cw];omega)) ⟨e,?_⟩;have IB:=IA.lset (its':=its++[v]) (f:=(·.push v)) (t':=sA.toks) hDA e (by simp) (rr.append (.cons rA .nil)) (by rw[dP,lV];omega);exact⟨m',hm,i+1,ys++[y],σ8,_,IB.unpinned,(back IB).1,(back IB).2,wA⟩
 exact codeAny_compStart_list loop (T.self _ 0 _ _ _ st4 loop)
theorem p9(vars:List Str)(sel:List Nat)(hc:X.calm=true)(hi:PI X target iter wi)
  (ok:jQ sc X.env.scope=true) (so:om X.N sc sel=true)
  (hg:∀s H fp,PG (X.lc sc vars sel s H fp) target g) (hf:∀s H fp,PF (X.lc sc vars sel s H fp) ifs tf) (he:∀s H fp,PE (X.lc sc vars sel s H fp) elt te)
  (hs:∀x,foldedSetIterable iter X.env x=pure x:=by intro _;rfl):PE X (.ListComp elt [⟨target,iter,ifs,0⟩] sc pos) (uf wi vars.length sel g tf te):=by
 intro pins s σ H Q I h;rw[eval_ListComp];have ok':=ok;simp only[jQ,cy,Ee] at ok';refine wpAny_comprehension_free (use:=none) rfl hs (xG (ue I ok)) ok'.1.1 (λx hx hl=>?_) ?_
 .obtain⟨n,k⟩:=x
  have hl':k=.local:=hl;subst hl';exact ud ok'.1.2 hx
 .refine aU (hi pins s σ H _ I h) λv s1 h1=>aU h1 λitv s2 h2=>?_
  obtain⟨it,fp,tn,J,H2,e,I2,T,st2,f2,q⟩:=h2;subst e;refine xI (Q:=Q) hc hg hf he ok so I2 T st2 f2 q λD C H' s' I' q' hn fC=>?_;obtain⟨m,hn⟩:=hn;refine⟨m,hn,λh' hs'=>?_⟩;obtain⟨f0,f1,f2,f3,f4,f5⟩:=fC;exact⟨.ref D,H',I'.turned (t':=s'.toks) (λb o hb e=>(hs'.2 b hb).trans e) f0 f1 f3 f4 f5,rfl,q'⟩
theorem qa{i:Nat}{pos' spos:Pos}(vars:List Str)(sel:List Nat)(hc:X.calm=true)(hN:X.N.Nodup)(hix:X.N[i]? = some x)(hx:i5 X.env.scope x)(hi:PI X target iter wi)
  (ok:jQ sc X.env.scope=true) (so:om X.N sc sel=true)
  (hg:∀s H fp,PG (X.lc sc vars sel s H fp) target g) (hf:∀s H fp,PF (X.lc sc vars sel s H fp) ifs tf) (he:∀s H fp,PE (X.lc sc vars sel s H fp) elt te)
  (hsw:swapsWith (.ListComp elt [⟨target,iter,ifs,0⟩] sc pos) (some (.Name x pos')) spos.line X.env=pure true)
  (hs:∀x,foldedSetIterable iter X.env x=pure x:=by intro _;rfl) (hfn:X.fn x=true\/X.env.scope.names.lookup x=some .local:=by first|exact .inl rfl|exact .inr rfl|assumption) :
  PS X (.Assign [.Name x pos'] (.ListComp elt [⟨target,iter,ifs,0⟩] sc pos) spos) (mW (uf wi vars.length sel g tf te) (g6 i)):=by
 intro pins s σ H D I h;rw[exec_Assign_Name_used _ _ _ _ hsw];refine D8 (EA (D8 ?_));show wpAny _ X.A (do let _ <-comprehension (.ListComp elt [⟨target,iter,ifs,0⟩] sc pos) sc X.env _ (newList []) false (eval iter X.env) (some (assign (.Name x pos') X.env))) _ _ s;have ok':=ok;simp only[jQ,cy,Ee] at ok';refine D8 (Ep (wpAny_comprehension_free (use:=some (assign (.Name x pos') X.env)) (Q:=λ_ s'=>SP X pins D .next s') rfl hs (xG (ue I ok)) ok'.1.1 (λx hx hl=>?_) ?_) (λ_ s' q=>Ea (Ea q)) λ_ _ e=>e)
 .obtain⟨n,k⟩:=x
  have hl':k=.local:=hl;subst hl';exact ud ok'.1.2 hx
 .refine aU (hi pins s σ H _ I h) λv s1 h1=>aU h1 λitv s2 h2=>?_
  obtain⟨it,fp,tn,J,H2,e,I2,T,st2,f2,q⟩:=h2;subst e;refine xI (Q:=λv H'=>g6 i v σ H' D.nx) hc hg hf he ok so I2 T st2 f2 q λD' C H' s' I' q' hn fC=>?_;obtain⟨m,hn⟩:=hn;obtain⟨f0,f1,f2,f3,f4,f5⟩:=id fC;refine wpAny_assign_Name (db I' hN hix hx (v:=.ref D') rfl (λs'' I'' ⟨a,sb,ha⟩=>?_) hfn);have hCa:C≠a:=by
   rcases ha with z|z
   .rw[z];exact f1
   .exact Em (f4 x a z)
  refine⟨m,hn.sameBut sb hCa,λh' hs'=>?_⟩;exact⟨_,H',I''.turned (t':=s''.toks) (λb o hb e=>(hs'.2 b hb).trans e) f0 f1 f3 f4 f5,q'⟩
end
end L2
namespace HT
open PySem PySem.Spec PyProof.Rows
section
variable{prog:Program}{w:World}{A:Around}{E:Value->Shared->Prop}{s:Shared}
theorem getItem_tuple_whole{t sl:Addr}{items:Array Value}{vl vu:Value}{lo hi:Option Int}{Q:Value->Shared->Prop}(ht:IsTup s.heap t items)(hs:s.heap.IsSliceOf sl vl vu .none)(pl:IsPart vl lo)(pu:IsPart vu hi)
  (hw:sIx items.size 0 lo=0/\sIx items.size items.size hi=items.size) (h:Q (.ref t) s):wpAny (model prog w) A (getItem (.ref t) (.ref sl)) Q E s:=by
 obtain⟨os,hos,hcs,hds⟩:=id hs;have hTs:s.TypeIs (.ref sl) "slice" :=⟨os,hos,hcs⟩
 unfold getItem
 try with_reducible refine Eo ?_
 first|refine D8 (Ea ?_)|skip
 refine D8 (wpAny_sequenceKey ht.typeIs (by decide) ?_);refine D8 (wpAny_callSpecial?_slot (name:=Str.ofString "__getitem__") ht.typeIs PyProof.Rows.slot_tuple_getitem
  (wpAny_call_entry PyProof.Rows.slot_tuple_getitem ht.typeIs entry_tuple_getitem ?_ (args_tuple_getitem _ _)))
 show wpAny _ _ (Builtin.Tuple.tupleItemsOf (.ref t) >>= _) _ _ s;refine D8 (tupleItemsOf_ ht ?_);refine D8 (EC hTs ?_);rw[if_pos (by decide)];refine D8 (b8 hs pl pu ?_);have hyes:(((sIx items.size 0 lo:Nat):Int)==0&&(1:Int)==1&&(sIx items.size items.size hi-sIx items.size 0 lo)==items.size)=true:=by
  rw[hw.1,hw.2];simp
 show wpAny _ _ (if(((sIx items.size 0 lo:Nat):Int)==0&&(1:Int)==1&&(sIx items.size items.size hi-sIx items.size 0 lo)==items.size)=true then _ else _) _ _ s;rw[if_pos hyes];have ex:Builtin.Tuple.tupleIsExact (.ref t)=(do return(<-typeOf (.ref t))==.type "tuple"):=rfl;rw[ex];refine D8 (D8 (EC ht.typeIs (Ea ?_)));rw[if_pos (by decide)]
 first
  |exact D8 (wpAny_rule (D8 (Ea (Ea ⟨_,rfl,Ea h⟩))))
  |exact D8 (wpAny_rule (Ea ⟨_,rfl,Ea h⟩))
  |exact D8 (wpAny_rule (D8 (Ea ⟨_,rfl,Ea h⟩)))
theorem Ag{sl:Addr}{tk:Tok}{n:Nat}{Q:Int×Int×Nat->Shared->Prop}(hs:s.heap.IsSliceOf sl .none .none (.int (-1) tk))
  (h:Q ((n:Int)-1,-1,n) s):wpAny (model prog w) A (Builtin.Slice.sliceApplied (.ref sl) (pure (n:Int))) Q E s:=by
 obtain⟨os,hos,hcs,hds⟩:=id hs;unfold Builtin.Slice.sliceApplied Builtin.Slice.sliceFields;refine D8 (D8 (Ev hos hds (x:=.none) rfl (D8 (Ev hos hds (x:=.none) rfl (D8 (Ev hos hds (x:=.int (-1) tk) rfl (Ea ?_)))))));refine D8 (slicePart_int ?_);show wpAny _ _ (if((-1:Int)==0)=true then _ else _) _ _ s;rw[if_neg (by decide)];refine D8 (slicePart_none (D8 (slicePart_none (D8 (Ea ?_)))));show wpAny _ _ (match Builtin.Slice.sliceAdjust none none (-1) (n:Int) with|(lo,hi)=>pure (lo,(-1:Int),Builtin.Slice.slicePlaces lo hi (-1))) _ _ s;have e:Builtin.Slice.sliceAdjust none none (-1) (n:Int)=((n:Int)-1,-1):=by
  unfold Builtin.Slice.sliceAdjust;simp
 rw[e];have e2:Builtin.Slice.slicePlaces ((n:Int)-1) (-1) (-1)=n:=by
  unfold Builtin.Slice.slicePlaces;simp
  try omega
 show wpAny _ _ (pure ((n:Int)-1,(-1:Int),Builtin.Slice.slicePlaces ((n:Int)-1) (-1) (-1))) _ _ s;rw[e2];exact Ea h
theorem pick_rev(xs:Array Value):((List.range xs.size).filterMap λ(m:Nat)=>xs[((xs.size:Int)-1+(m:Int)*(-1)).toNat]?)=xs.toList.reverse:=by
 refine List.ext_getElem? λi=>?_;have gen:∀(l:List Nat),(∀m∈l,m<xs.size)->(l.filterMap λ(m:Nat)=>xs[((xs.size:Int)-1+(m:Int)*(-1)).toNat]?)=l.map λm=>xs.toList.getD (xs.size-1-m) .none:=by
  intro l
  induction l with
  |nil=>intro _;rfl
  |cons m r ih=>
   intro hm;have h1:m<xs.size:=hm m en;have h2:((xs.size:Int)-1+(m:Int)*(-1)).toNat=xs.size-1-m:=by omega
   have h3:xs.size-1-m<xs.size:=by omega
   rw[rq,h2,tB h3,dD,ih λk hk=>hm k (da _ hk)];simp[pj,h3]
 rw[gen _ λm hm=>Yag.mp hm]
 by_cases hi:i<xs.size
 .rw[e7,List.getElem?_range hi,List.getElem?_reverse (by simpa using hi)]
  simp[pj];rw[tB (by omega)];simp
 .rw[e8 (by simp;omega),e8 (by simp;omega)]
theorem getItem_tuple_rev{t sl:Addr}{items:Array Value}{tk:Tok}{Q:Value->Shared->Prop}(ht:IsTup s.heap t items)(hs:s.heap.IsSliceOf sl .none .none (.int (-1) tk))(hsz:items.size<=sizeLine)
  (h:Q (.ref s.heap.objs.size) { s with heap:=s.heap.push { cls:=.type "tuple",data:=.seq items.toList.reverse.toArray } }):wpAny (model prog w) A (getItem (.ref t) (.ref sl)) Q E s:=by
 have htake:sizeOk (.seq items.toList.reverse.toArray):=by
  show items.toList.reverse.toArray.size<=sizeLine;simpa using hsz
 obtain⟨os,hos,hcs,hds⟩:=id hs;have hTs:s.TypeIs (.ref sl) "slice" :=⟨os,hos,hcs⟩
 unfold getItem
 try with_reducible refine Eo ?_
 first|refine D8 (Ea ?_)|skip
 refine D8 (wpAny_sequenceKey ht.typeIs (by decide) ?_);refine D8 (wpAny_callSpecial?_slot (name:=Str.ofString "__getitem__") ht.typeIs PyProof.Rows.slot_tuple_getitem
  (wpAny_call_entry PyProof.Rows.slot_tuple_getitem ht.typeIs entry_tuple_getitem ?_ (args_tuple_getitem _ _)))
 show wpAny _ _ (Builtin.Tuple.tupleItemsOf (.ref t) >>= _) _ _ s;refine D8 (tupleItemsOf_ ht ?_);refine D8 (EC hTs ?_);rw[if_pos (by decide)];refine D8 (Ag hs ?_);show wpAny _ _ (if((((items.size:Int)-1)==0&&(-1:Int)==1&&items.size==items.size)=true) then _ else _) _ _ s;rw[if_neg (by simp),pick_rev]
 first
  |exact D8 (m:=Builtin.Tuple.tupleExact _) (En (Ea ⟨_,rfl,Ea h⟩) htake)
  |exact D8 (m:=Builtin.Tuple.tupleExact _) (En (D8 (Ea (Ea ⟨_,rfl,Ea h⟩))) htake)
  |exact D8 (D8 (m:=Builtin.Tuple.tupleExact _) (En (Ea (Ea ⟨_,rfl,Ea h⟩)) htake))
  |exact D8 (D8 (m:=Builtin.Tuple.tupleExact _) (En (Ea ⟨_,rfl,Ea h⟩) htake))
end
end HT
namespace L2
open PySem PySem.Spec PyProof.Rows
variable{X:Cx}{e a tg:Expr}{pos p2 np cpos pos':Pos}{xs vs:Array Value}{us l bm bmB sub:List Value}{M:Model}{A:Around}{E Q:Value->Shared->Prop}{s:Shared}{P prog:Program}{env:Env}{outer:List Env}{oe o:Obj}{b fI:Addr}{h h':Heap}{w:World}{g:Array GenState}{d:Drawn}{t t' k:Nat}{os:OsState}{nm q x name qual f0:Str}{N sn ns ps:List Str}{hdct ab κ:Bool}{col:Option Bool}{k0 k1 k2 k3 k5 y:Option Value}{newId:String}{mN m mg:Str->Option Value}{v cd:Value}{tk:Tok}{H:Hp}{K:D9}{scope:Scope}{tl tc ta:TE}{pins:List (Addr×Obj)}{σ:St}{EX:XK}{st:Stmt}{fd:FuncData}{es:List Expr}{R:Result->Shared->Prop}
section
variable{te:TE}
def qb(K:D9):V->Option Int->Option Int->Hp->VK->Prop:=λx lo hi H Q=>∃a xs,x=.ref a/\SqT K H a xs/\
 (HT.sIx xs.length 0 lo=0/\HT.sIx xs.length xs.length hi=xs.length)/\Q (.ref a) H
theorem Ah:SlR X (qb X.K):=by
 intro pins s σ H x v vl vu lo hi sl Q I rx hs pl pu h;obtain⟨a,xs,rfl,hx,hw,q⟩:=h;cases rx;obtain⟨its,r,ht,hz⟩:=I.tuple hx;have hlen:its.toArray.size=xs.length:=by rw[cw];exact r.length.symm
 refine⟨"tuple",_,PyProof.Rows.slot_tuple_getitem.lookup,ht.typeIs,?_⟩;exact HT.getItem_tuple_whole ht hs pl pu (by rw[hlen];exact hw) ⟨.ref a,H,I,rfl,q⟩
def ug(r:V->Hp->VK->Prop)(te:TE):TE:=λσ H Q=>te σ H λx H1=>r x H1 Q
def uh(K:D9):V->Hp->VK->Prop:=λx H Q=>∃a xs,x=.ref a/\((SqT K H a xs/\∀p,H p=none->Q (.ref p) (upd H p (.tup xs.reverse)))\/(SqL K H a xs/\∀p,H p=none->Q (.ref p) (upd H p (.lst xs.reverse))))
theorem Vals.rev{xs:List V}(r:Vals xs us):Vals xs.reverse us.reverse:=by
 induction xs generalizing us with
 |nil=>cases r;exact .nil
 |cons x xs ih=>cases r with|cons r t=>rw[rF,rF];exact(ih t).append (.cons r .nil)
theorem Ai(its:List Value):slicePick its.toArray none none (some (-1))=its.reverse.toArray:=by
 have e:slicePick its.toArray none none (some (-1))=((sliceRange ((its.length:Int)-1) (-1) (-1)).filterMap (its.toArray[·]?)).toArray:=by
  unfold slicePick sliceBounds;simp
 rw[e];congr 1;have h:=HT.pick_rev its.toArray;rw[cw] at h;have h':its.toArray.toList.reverse=its.reverse:=by simp
 rw[h'] at h;rw[<-h];unfold sliceRange;simp only[show¬((-1:Int)>0) by decide,if_false];have hn:(if(-1:Int)<(its.length:Int)-1 then(its.length:Int) else 0).toNat=its.length:=by split<;>omega
 simp;rw[hn];rfl
theorem Aj{j pos3 pos4}(he:PE X e te):PE X (.Subscript e (.Slice none none (some (.UnaryOp .USub (.Constant (.int 1) j pos3) pos4)) p2) pos) (ug (uh X.K) te):=by
 intro pins s σ H Q I h;refine Subscript_ (aU (he pins s σ H _ I h) λv s1 ⟨x,H1,I1,r1,a,xs,ex,q1⟩=>?_);subst ex;cases r1;refine wpAny_Slice ?_;rw[evalPart_none];refine Ea (Ea ?_);rw[evalPart_some];refine aU (l3 (ju (X:=X)) de pins s1 σ H1 (λx H'=>x=.int (-1)/\H'=H1) I1 ⟨1,rfl,rfl,rfl⟩) λu s3 ⟨y,H3,I3,r3,e3,e4⟩=>?_;subst e3;obtain rfl:=e4.symm;obtain⟨tk,rfl⟩:=r3;have I4:Inv X pins σ H1 { s3 with heap:=s3.heap.push { cls:=.type "slice",data:=.fields #[.none,.none,.int (-1) tk] } }:=I3.kept (t':=s3.toks) λb ob q=>cj _ q;show wpAny (model X.prog X.w) X.A (subscriptTail e (.Slice none none (some (.UnaryOp .USub (.Constant (.int 1) j pos3) pos4)) p2) (.ref a) (.ref s3.heap.objs.size)) (EP X pins σ Q) X.xe { s3 with heap:=s3.heap.push { cls:=.type "slice",data:=.fields #[.none,.none,.int (-1) tk] } };rcases q1 with⟨hx,q1⟩|⟨hx,q1⟩
 .obtain⟨its,r,ht,hz⟩:=I4.tuple hx
  have hlen:=r.length;refine tail_any (ops:=[.ref a,.ref s3.heap.objs.size]) ht.typeIs PyProof.Rows.slot_tuple_getitem.lookup (HT.getItem_tuple_rev ht (Heap.IsSliceOf.new ..) (by rw[cw];omega) ?_) (by with_unfolding_all rfl);refine⟨.ref _,_,I4.laid (t':=s3.toks) (o:=.tup xs.reverse) (λb ob q=>cj _ q) (bO _) ?_,rfl,q1 _ (I4.hok.fresh (bO _))⟩;exact⟨by rw[tD];exact hz,_,r.rev,IsTup.new _ _⟩
 .obtain⟨its,r,ht,hz⟩:=I4.list hx
  have hlen:=r.length;refine tail_any (ops:=[.ref a,.ref s3.heap.objs.size]) ht.isList.typeIs slot_list_getitem.lookup (wpAny_getItem_list_slice ht.isList (Heap.IsSliceOf.new ..) .none .none (.int (-1) tk) (by simp) ?_ (by rw[cw];omega)) (by with_unfolding_all rfl);rw[Ai];refine⟨.ref _,_,I4.laid (t':=s3.toks) (o:=.lst xs.reverse) (λb ob q=>cj _ q) (bO _) ?_,rfl,q1 _ (I4.hok.fresh (bO _))⟩;exact⟨by rw[tD];exact hz,_,0,r.rev,gc _ rfl⟩
end
namespace Fl
def iJ(P:Obj->Prop):Prop:=∀(o:Obj) f,P o->P (o.mapFields f)
theorem Ak(o:Obj)(f:Array Value->Array Value):(o.mapFields f).dict=o.dict:=by
 unfold Obj.mapFields;split<;>rfl
def Is(cls:Value)(dx:Option Addr)(o:Obj):Prop:=o.cls=cls/\o.dict=dx
theorem Is.firm{cls:Value}{dx:Option Addr}:iJ (Is cls dx):=λo f h=>⟨(Obj.cls_mapFields o f).trans h.1,(Ak o f).trans h.2⟩
def Tr(P:Obj->Prop)(base:Heap)(e:Addr)(fl:Value)(h:Heap):Prop:=
 ∃(oe:Obj) (vs:Array Value) (T:Addr) (oT:Obj) (ts:Array Value),h.get? e=some oe/\P oe/\oe.data=.fields vs/\vs[1]? = some (.ref T)/\base.get? T=none/\T≠e/\h.get? T=some oT/\oT.data=.fields ts/\ts[3]? = some fl
structure Up(P:Obj->Prop)(base:Heap)(l:List Env)(e:Addr)(fl:Value)(h:Heap):Prop where
 st:base.StaysIn h
 new:base.get? e=none
 fr:h.FunFrames base l
 tr:Tr P base e fl h
section
variable{P:Obj->Prop}{base:Heap}{l:List Env}{L e:Addr}{fl:Value}{Q:Unit->Shared->Prop}
theorem entry(hP:iJ P){head:Value}{b:Bool}(hA:A.frames=some (env::outer))(hl:s.heap.FunFrames base (env::outer))(hf:env.frame=some L)(he:s.heap.get? e=some oe)(hp:P oe)
  (st:base.StaysIn s.heap) (new:base.get? e=none) (hd:oe.data=.fields vs) (hz:1<vs.size) (k:∀h',Up P base (env::outer) e (rawInt L) h'->s.heap.UpToSlots h'->Q () { s with heap:=h' }) :
  wpAny M A (do let a <-frameOf env;let pl <-entryPlaceOf L b;let c <-EntryCells.newEntry head a .none (rawInt L) .none pl;setField (.ref e) 1 c) Q E s:=by
 have out:e∉(env::outer).filterMap (·.frame):=λz=>by
  obtain⟨_,o,ho,nf⟩:=hl.mem z;cases he.symm.trans ho;exact nf vs hd
 refine D8 (wpAny_frameOf_fun hA hl hf λh1 so=>?_);refine D8 (wpAny_entryPlaceOf λpl place=>?_);unfold EntryCells.newEntry newFields;refine D8 (En ?_ (place.sizeOk5 _ _ _ _ _));generalize ho:({ cls:=.type "traceback",dict:=none,data:=.fields ([head,.ref L,.none,rawInt L,.none]++(if pl.isEmpty then List.replicate 6 Value.none else pl)).toArray }:Obj)=ob;have e1:h1.get? e=some oe:=(so.2.1 e out).trans he;have ne:h1.objs.size≠e:=Nat.ne_of_gt (bY e1);have e2:(h1.push ob).get? e=some oe:=cj ob e1;have fr0:ob.isFreed=false:=by rw[<-ho];exact Obj.isFreed_of_fields rfl
 refine wpAny_setField e2 hd hz (k _ ?_ ?_)
 .have e3:=rD (Obj.mapFields (·.setIfInBounds 1 (Value.ref h1.objs.size))) e2 (Obj.isFreed_of_fields (Obj.data_mapFields hd _))
  have oth:∀{c o},c≠e->h1.get? c=some o->((h1.push ob).update e (Obj.mapFields (·.setIfInBounds 1 (Value.ref h1.objs.size)))).get? c=some o:=λne hc=>(mD _ _ (Em ne)).trans (cj ob hc);refine⟨λc o hc=>?_,new,hl.of_keeps λc o hc nf=>?_,_,_,h1.objs.size,ob,_,e3,hP _ _ hp,Obj.data_mapFields hd _,by simp[hz],?_,ne,(mD _ _ (Em ne)).trans (gc h1 fr0),by rw[<-ho],?_⟩
  .exact oth (λz=>by rw[z,new] at hc;cases hc) ((so.2.1 c λz=>by rw[(hl.mem z).1] at hc;cases hc).trans (st c o hc))
  .obtain⟨sl,hs⟩:=so.2.2 c o hc
   exact⟨_,oth (λz=>by rw[z,he] at hc;cases hc;exact nf vs hd) hs,rfl⟩
  .cases q:base.get? h1.objs.size with
   |none=>rfl
   |some o=>
    have:h1.get? h1.objs.size=some o:=(so.2.1 _ λz=>by rw[(hl.mem z).1] at q;cases q).trans (st _ o q);exact Eb (bY this) (gp _)
  .rcases place with rfl|⟨_,_,_,_,_,_,_,rfl⟩<;>simp
 .intro c o hc nf
  obtain⟨sl,hs⟩:=so.2.2 c o hc;exact⟨sl,(mD _ _ (Em λz=>by rw[z,he] at hc;cases hc;exact nf vs hd)).trans (cj ob hs)⟩
theorem Al(hP:iJ P)(hA:A.frames=some (env::outer))(hl:s.heap.FunFrames base (env::outer))(hf:env.frame=some L)(he:s.heap.get? e=some oe)(hp:P oe)
  (st:base.StaysIn s.heap) (new:base.get? e=none) (hd:oe.data=.fields vs) (h1:vs[1]? = some .none) (k:∀h',Up P base (env::outer) e (rawInt L) h'->s.heap.UpToSlots h'->Q () { s with heap:=h' }) :
  wpAny M A (noteFrame (.ref e) env) Q E s:=by
 unfold noteFrame;simp only[hf];refine D8 (Ev he hd h1 ?_);rw[if_neg (by decide)];exact entry hP hA hl hf he hp st new hd (Ybl.mp h1).1 k
theorem note(hP:iJ P)(hA:A.frames=some (env::outer))(hf:env.frame=some L)(u:Up P base (env::outer) e .none s.heap)
  (k:∀h',Up P base (env::outer) e (rawInt L) h'->s.heap.UpToSlots h'->Q () { s with heap:=h' }):wpAny M A (noteFrame (.ref e) env) Q E s:=by
 obtain⟨st,new,fr,oe,vs,T,oT,ts,he,hp,hd,h1,nT,Te,hT,dT,h3⟩:=u;unfold noteFrame;simp only[hf];refine D8 (Ev he hd h1 ?_);rw[if_pos (show(Value.ref T != Value.none)=true from by simp)];refine D8 (Ev hT dT h3 ?_);rw[if_neg (by simp[rawInt])];refine D8 (wpAny_setField hT dT (Ybl.mp h3).1 ?_);have oth:∀{c o},c≠T->s.heap.get? c=some o->(s.heap.update T (Obj.mapFields (·.setIfInBounds 3 Value.none))).get? c=some o:=λne hc=>(mD _ _ (Em ne)).trans hc;have notT:∀{c o},s.heap.get? c=some o->(∀vs,o.data≠.fields vs)->c≠T:=λhc nf z=>by
  rw[z,hT] at hc;cases hc;exact nf ts dT
 refine entry hP hA (fr.of_keeps λc o hc nf=>⟨o,oth (notT hc nf) hc,rfl⟩) hf (oth (Em Te) he) hp (λc o hc=>oth (λz=>by rw[z,nT] at hc;cases hc) (st c o hc)) new hd (Ybl.mp h1).1 λh' u' up=>k h' u' λc o hc nf=>up c o (oth (notT hc nf) hc) nf
theorem lands(u:Up P base l e fl s.heap)(k:∀h',Up P base l e .none h'->s.heap.UpToSlots h'->Q () { s with heap:=h' }):wpAny M A (setFlight (.ref e) none) Q E s:=by
 obtain⟨st,new,fr,oe,vs,T,oT,ts,he,hp,hd,h1,nT,Te,hT,dT,h3⟩:=u;have oth:∀{c o},c≠T->s.heap.get? c=some o->(s.heap.update T (Obj.mapFields (·.setIfInBounds 3 ((none:Option Addr).elim Value.none λf=>rawInt f)))).get? c=some o:=λne hc=>(mD _ _ (Em ne)).trans hc;have notT:∀{c o},s.heap.get? c=some o->(∀vs,o.data≠.fields vs)->c≠T:=λhc nf z=>by
  rw[z,hT] at hc;cases hc;exact nf ts dT
 have z3:=(Ybl.mp h3).1;unfold setFlight;refine D8 (Ev he hd h1 ?_);rw[if_pos (show(Value.ref T != Value.none)=true from by simp)];refine wpAny_setField hT dT z3 (k _ ⟨λc o hc=>oth (λz=>by rw[z,nT] at hc;cases hc) (st c o hc),new,fr.of_keeps λc o hc nf=>⟨o,oth (notT hc nf) hc,rfl⟩,oe,vs,T,_,_,oth (Em Te) he,hp,hd,h1,nT,Te,rD _ hT (Obj.isFreed_of_fields (Obj.data_mapFields dT _)),Obj.data_mapFields dT _,by simp[z3]⟩ λc o hc nf=>⟨o.slots,oth (notT hc nf) hc⟩)
theorem Up.there(u:Up P base l e fl h):∃ob,h.get? e=some ob/\P ob/\∃vs,ob.data=.fields vs:=by
 obtain⟨oe,vs,_,_,_,he,hp,hd,_⟩:=u.tr;exact⟨oe,he,hp,vs,hd⟩
theorem leaves(hP:iJ P)(hA:A.frames=some (env::outer))(hf:env.frame=some L)(u:Up P base (env::outer) e .none s.heap)(k:∀h',Up P base outer e .none h'->s.heap.UpToSlots h'->Q () { s with heap:=h' }) :
  wpAny M A (leaving env (.ref e)) Q E s:=by
 unfold leaving;exact D8 (note hP hA hf u λh1 u1 up1=>lands (s:={ s with heap:=h1 }) u1 λh2 u2 up2=>k h2 ⟨u2.st,u2.new,u2.fr.2.2,u2.tr⟩ (up1.trans up2))
theorem leaves_new(hP:iJ P)(hA:A.frames=some (env::outer))(hl:s.heap.FunFrames base (env::outer))(hf:env.frame=some L)(he:s.heap.get? e=some oe)(hp:P oe)
  (st:base.StaysIn s.heap) (new:base.get? e=none) (hd:oe.data=.fields vs) (h1:vs[1]? = some .none) (k:∀h',Up P base outer e .none h'->s.heap.UpToSlots h'->Q () { s with heap:=h' }):wpAny M A (leaving env (.ref e)) Q E s:=by
 unfold leaving;exact D8 (Al hP hA hl hf he hp st new hd h1 λh1 u1 up1=>lands (s:={ s with heap:=h1 }) u1 λh2 u2 up2=>k h2 ⟨u2.st,u2.new,u2.fr.2.2,u2.tr⟩ (up1.trans up2))
end
abbrev exo(C t:Addr)(dx:Option Addr):Obj:={ cls:=.ref C,dict:=dx,data:=.fields #[.ref t,.none,.none,.none,.bool false,.none] }
section
variable{C N:Addr}{bs:List Value}{dd:Option Addr}{B initId:String}{rest:List Value}{oI:Obj}
theorem Am(F:ExcBaseFacts B newId initId bmB)(T:OwnTail h bmB bm){Q:Fin->Shared->Prop}(hC:h.get? C=some (excClassObj nm q C N bs bm hdct sn sub ab col dd k0 k1 k2 k3 k5 newId))(hn:h.Ns N mN)(hi:mN "__init__" = some (.ref fI))
  (hf:h.get? fI=some oI) (hc:oI.cls=.type "function") (k:∀h' e,Heap.MadeExcOf h h' e (.ref C) rest->wpAny (model prog w) A (call (.ref fI) (.ref e::rest)) (λr s'=>r=.none/\Q (.done (.ret (.ref e))) s') E ⟨h',g,d,t,os⟩)
  (hr:rest.length<=sizeLine:=by size_fits):wpAny (model prog w) A (Builtin.«type.__call__» ⟨.ref C::rest,[]⟩) Q E ⟨h,g,d,t,os⟩:=by
 repeat (first|with_reducible refine Ef hC ?_|with_reducible refine wpAny_madeBy_exc hC ?_|wp_step)
 refine codeAny_call_builtin_code (Code.quiet_builtin _ F.quiet) (wpAny_check_new_subT F T hC (codeAny_exc_new_subT F T hC ?_ hr));show wpAny _ _ _ _ _ _;generalize e0:h.push { cls:=.type "tuple",data:=.seq rest.toArray }=h0;generalize e1:h0.push (exo C h.objs.size none)=h1;have sz0:h0.objs.size=h.objs.size+1:=by rw[<-e0,oa]
 have up:∀b o,h.get? b=some o->h1.get? b=some o:=λb o z=>by
  rw[<-e1,<-e0];exact cj _ (cj _ z)
 have at1:h1.get? (h.objs.size+1)=some (exo C h.objs.size none):=by
  rw[<-e1];exact tE sz0.symm rfl
 have att:h1.get? h.objs.size=some { cls:=.type "tuple",data:=.seq rest.toArray }:=by
  rw[<-e1,<-e0];exact cj _ (tE rfl rfl)
 have C1:=up _ _ hC;have N1:h1.Ns N mN:=by
  obtain⟨o,es,ep,z,r⟩:=hn;exact⟨o,es,ep,up _ _ z,r⟩
 have T1:OwnTail h1 bmB bm:=T.keeps up;have me:(Value.ref C::bm).contains (.ref C)=true:=by simp
 unfold isInstance
 repeat (first|with_reducible refine Ef at1 ?_|(with_reducible refine Ey C1 ?_;rw[me])|wp_step)
 show wpAny _ _ (typeLookup (.ref C) _) _ _ _;refine wpAny_typeLookup_tail C1 N1 T1 F.mroIs F.init.lookup ?_;rw[hi];refine Eo (D8 ?_);unfold bindSpecial;refine D8 (EC (T:= "function") ⟨_,up _ _ hf,hc⟩ ?_);rw[if_pos (by decide)];have new1:h.get? (h.objs.size+1)=none:=rz (Nat.le_succ _);have new0:h.get? h.objs.size=none:=rz (bO _);refine Ea (D8 (Ep (k h1 (h.objs.size+1) ⟨up,new1,h.objs.size,at1,new0,att⟩) (λr s' z=>?_) λ_ _ z=>z));obtain⟨rfl,z⟩:=z
 wp_walk
 exact z
theorem An(F:ExcBaseFacts B newId initId bmB)(T:OwnTail h bmB bm)(hC:h.get? C=some (excClassObj nm q C N bs bm hdct sn sub ab col dd k0 k1 k2 k3 k5 newId))(hn:h.Ns N mN)(hi:mN "__init__" = some (.ref fI))
  (hf:h.get? fI=some oI) (hc:oI.cls=.type "function") (k:∀h' e,Heap.MadeExcOf h h' e (.ref C) rest->wpAny (model prog w) (A.under (.builtin "type.__call__" ⟨.ref C::rest,[]⟩)) (call (.ref fI) (.ref e::rest)) (λr s'=>r=.none/\Q (.ref e) s') E ⟨h',g,d,t,os⟩)
  (hr:rest.length<=sizeLine:=by size_fits):wpAny (model prog w) A (call (.ref C) rest) Q E ⟨h,g,d,t,os⟩:=by
 have q1:=tc_lookup;have q2:=tc_bind (.ref C);have q3:(⟨h,g,d,t,os⟩:Shared).TypeIs (.ref C) "type" :=⟨_,hC,rfl⟩
 refine wpAny_call (codeAny_of_tree ?_);show wpAny _ _ (callAny (.ref C) _) _ _ _
 repeat (any_goals (first|assumption|with_reducible refine Ef hC ?_|wp_step))
 refine⟨rfl,codeAny_call_builtin_at (Code.quiet_builtin _ (by decide +kernel)) entry_typeCall (wpAny_check_type_call_sub hC (Am (hr:=hr) F T hC hn hi hf hc k))⟩
end
end Fl
namespace Fl
open PySem.Builtin PySem.Builtin.ObjectAttr
inductive Tl (h:Heap) (ns:List Str) (bmB:List Value):List Value->Prop
 |last:Tl h ns bmB bmB
 |more {a:Addr} {c:Value} {dd:Option Addr} {cd:ClassData} {sl:Array (Option Value)} {m:Str->Option Value} {l:List Value}:h.get? a=some ⟨c,dd,.cls cd,sl⟩->h.Ns cd.ns m->(∀n∈ns,m n=none)->Tl h ns bmB l->Tl h ns bmB (.ref a::l)
section
theorem Tl.has(T:Tl h ns bmB l){X:String}{b:Bool}(q:bmB.contains (.type X)=b):l.contains (.type X)=b:=by
 induction T with
 |last=>exact q
 |more _ _ _ _ ih=>rw[pk,ih];rfl
theorem Tl.own(T:Tl h ns bmB l)(i:("__init__" : Str)∈ns):OwnTail h bmB l:=by
 induction T with
 |last=>exact .base
 |more a b c _ ih=>exact .own a b (c _ i) ih
theorem Tl.passes(T:Tl h ns bmB l)(self:Value)(what:Str):refuseLoop self what l=refuseLoop self what bmB:=by
 induction T with
 |last=>rfl
 |more _ _ _ _ ih=>rw[refuseLoop_ref,ih]
end
section
variable{C N x:Addr}{bs:List Value}{dd:Option Addr}{B sa owner:String}
theorem qc{n:Str}{Q:Option Value->Shared->Prop}(T:Tl h ns bmB l)(i:n∈ns)(r:lookupAlong bmB n=pure y)(k:Q y ⟨h,g,d,t,os⟩):wpAny M A (lookupAlong l n) Q E ⟨h,g,d,t,os⟩:=by
 induction T with
 |last=>
  rw[r];exact Ea k
 |more a b c _ ih=>
  rw[lookupAlong_cons];refine D8 (wpAny_classOwn_cls a b ?_);rw[c n i];exact ih
theorem look{n:Str}{Q:Option Value->Shared->Prop}(hC:h.get? C=some (excClassObj nm q C N bs bm hdct sn sub ab col dd k0 k1 k2 k3 k5 newId))(hN:h.Ns N mN)(hm:mN n=none)(T:Tl h ns bmB bm)(i:n∈ns)
  (b:mroOf (.type B)=pure bmB) (hB:typeLookup (.type B) n=pure y) (k:Q y ⟨h,g,d,t,os⟩):wpAny M A (typeLookup (.ref C) n) Q E ⟨h,g,d,t,os⟩:=by
 have r:lookupAlong bmB n=pure y:=by
  rw[typeLookup_eq,b] at hB;exact hB
 rw[typeLookup_eq];refine D8 (wpAny_mroOf_exc hC ?_);rw[lookupAlong_cons];refine D8 (wpAny_classOwn_exc hC hN ?_);rw[hm];exact qc T i r k
theorem Ao{Q:Unit->Shared->Prop}(SF:StoreFacts B bmB sa owner)(hC:h.get? C=some (excClassObj nm q C N bs bm true sn sub ab col dd k0 k1 k2 k3 k5 newId))(hN:h.Ns N mN)(T:Tl h ns bmB bm)
  (m1:mN "__setattr__" = none) (m2:mN name=none) (i1:("__setattr__" : Str)∈ns) (i2:name∈ns) (hB:typeLookup (.type B) name=pure none) (hx:h.get? x=some o) (hc:o.cls=.ref C) (hd:o.dict=none) (hv:o.data=.fields vs)
  (k:∀h' tk dx m,h.get? dx=none->dx≠x->h'.get? x=some { o with dict:=some dx }->h'.Ns1 dx m->m name=some v->(∀n,n≠name->m n=none)->(∀b u,b≠x->h.get? b=some u->h'.get? b=some u)->Q () ⟨h',g,d,tk,os⟩) :
  wpAny (model prog w) A (setAttr (.ref x) name v) Q E ⟨h,g,d,t,os⟩:=by
 have bi:=SF.slot.bind (.ref x);have own:(Value.ref C::bm).contains (.type owner)=true:=by rw[pk,T.has SF.hasOwner,Bool.or_true]
 have pass:=SF.passes (.ref x);unfold setAttr callSpecial? specialOf
 repeat (any_goals (first|assumption|(with_reducible refine Ef hx ?_;rw[hc])|with_reducible refine look hC hN m1 T i1 SF.mro SF.slot.lookup ?_|wp_step))
 refine codeAny_call_builtin SF.slot.plain SF.entry ?_;simp only[checkBuiltinCall,SF.kind,SF.split];refine D8 ?_;unfold isInstance
 repeat (first|(with_reducible refine Ef hx ?_;rw[hc])|(with_reducible refine Ey hC ?_;rw[own])|wp_step)
 have chk:∀{R:Unit->Shared->Prop} {z:Shared},R () z->wpAny (model prog w) A.in1 (match Manifest.signature? sa with|some sig=>Bind.checkArgs sa sig ⟨[.ref x]++[.str name t,v],[]⟩|_=>pure ()) R (λe s'=>E e s') z:=by
  intro R z r;cases e:Manifest.signature? sa with
  |none=>exact Ea r
  |some sig=>
   have ar:=SF.args (.ref x) (.str name t) v;simp only[argsOk,e] at ar;have ar':Bind.checkArgs sa sig ⟨[.ref x]++[.str name t,v],[]⟩=pure ():=ar;show wpAny _ _ (Bind.checkArgs sa sig ⟨[.ref x]++[.str name t,v],[]⟩) _ _ _;rw[ar'];exact Ea r
 refine chk ?_;clear chk;unfold Builtin.«object.__setattr__»
 repeat (first|rw[refuse_eq]|(rw[refuseLoop_ref,T.passes,pass])|(with_reducible refine Ef hx ?_;rw[hc])|with_reducible refine wpAny_mroOf_exc hC ?_|with_reducible refine look hC hN m2 T i2 SF.mro hB ?_|wp_step)
 rw[hd,if_neg (by simp[typeHasDict]),hv];generalize e1:h.push { cls:=.type "dict",data:=.dict #[] }=h1;have in1:∀b u,h.get? b=some u->h1.get? b=some u:=λb u z=>by rw[<-e1];exact cj _ z
 have nx:x≠h.objs.size:=el (bY hx);refine D8 (wpAny_alloc' ?_);rw[e1];refine D8 (wpAny_update' (in1 _ _ hx) (Ea ?_));have fr:({ o with dict:=some h.objs.size }:Obj).isFreed=false:=Obj.isFreed_of_fields hv;generalize e2:(h1.update x λo=>{ cls:=o.cls,dict:=some h.objs.size,data:=o.data,slots:=o.slots })=h2;have at2:h2.get? x=some { o with dict:=some h.objs.size }:=by rw[<-e2];exact rD _ (in1 _ _ hx) fr
 have oth:∀b,b≠x->h2.get? b=h1.get? b:=λb ne=>by rw[<-e2];exact Heap.get?_update_ne _ _ _ _ ne
 have new2:h2.get? h.objs.size=some { cls:=.type "dict",data:=.dict #[] }:=by
  rw[oth _ (Em nx),<-e1];exact tE rfl rfl
 have emp:h2.Ns h.objs.size (λ_=>none):=⟨_,#[],_,new2,rfl,λe z=>Eb z (by simp),λ_=>rfl⟩
 show wpAny _ _ (storeInDict h.objs.size (.str name t) name v) _ _ _;unfold storeInDict newKeyGuard;refine D8 (Ea (D8 (wpAny_nsSet1 (Heap.Ns1.of_empty emp) λh3 n3 same=>?_)));obtain⟨oD,es,ep,g1,g2,g3⟩:=n3.count (Within.cons name v Within.nil);refine D8 (wpAny_lookBehind g1 (by rw[g2];exact pastItsLine_dict (fA g3 (by rw[cn,fM,sizeLine_eq];omega))) ?_)
 wp_walk
 refine k h3 _ h.objs.size _ (rz (bO _)) (Em nx) ((same.2 x nx).trans at2) n3 (by simp) (λn ne=>by simp[ne]) λb u ne z=>?_;exact(same.2 b (el (bY z))).trans ((oth b ne).trans (in1 b u z))
end
section
variable{C N a dx:Addr}{bs:List Value}{dd:Option Addr}{B:String}
theorem Ap{Q:PySem.Fin->Shared->Prop}(FB:ExcAttrBase B bmB)(hC:h.get? C=some (excClassObj nm q C N bs bm true sn sub ab col dd k0 k1 k2 k3 k5 newId))(hN:h.Ns N mN)(T:Tl h ns bmB bm)
  (m3:mN name=none) (i3:name∈ns) (hB:typeLookup (.type B) name=pure none)
  (hx:h.get? a=some o) (hc:o.cls=.ref C) (hd:o.dict=some dx) (hv:o.data=.fields vs) (hm:h.Ns dx m) (hn:m name=some v) (k:Q (.done (.ret v)) ⟨h,g,d,t,os⟩):wpAny (model prog w) A (Builtin.«object.__getattribute__» ⟨[.ref a,.str name tk],[]⟩) Q E ⟨h,g,d,t,os⟩:=by
 repeat (any_goals (first|assumption|(with_reducible refine Ef hx ?_;rw[hc])|with_reducible refine look hC hN m3 T i3 FB.mro hB ?_|wp_step))
 rw[hv];dsimp only;unfold instanceDict
 repeat (any_goals (first|assumption|with_reducible refine Ef hx ?_|wp_step))
 rw[hd,hc];dsimp only
 repeat (any_goals (first|assumption|(with_reducible refine wpAny_nsGet hm ?_;rw[hn])|with_reducible refine Ef hC ?_|wp_step))
theorem get_field{ex:Bool}(FB:ExcAttrBase B bmB)(hC:h.get? C=some (excClassObj nm q C N bs bm true sn sub ab col dd k0 k1 k2 k3 k5 newId))(hN:h.Ns N mN)(T:Tl h ns bmB bm)
  (m1:mN "__getattribute__" = none) (m2:mN "__getattr__" = none) (m3:mN name=none) (i1:("__getattribute__" : Str)∈ns) (i2:("__getattr__" : Str)∈ns) (i3:name∈ns) (hB:typeLookup (.type B) name=pure none)
  (hx:h.get? a=some o) (hc:o.cls=.ref C) (hd:o.dict=some dx) (hv:o.data=.fields vs) (hm:h.Ns dx m) (hn:m name=some v) (ho:handedOut v=pure v) (k:Q v ⟨h,g,d,t+1,os⟩):wpAny (model prog w) A (getAttr (.ref a) name ex) Q E ⟨h,g,d,t,os⟩:=by
 have bi:=FB.ga.bind (.ref a);have x0:(ex&&onTheHeap (Value.builtin "BaseException.__getattribute__"))=false:=by cases ex<;>rfl
 have x2:(Value.builtin "BaseException.__getattribute__" == Value.builtin "object.__getattribute__")=false:=by decide +kernel
 have x1:(onTheHeap (Value.ref C)&&Value.builtin "BaseException.__getattribute__" == Value.builtin "object.__getattribute__")=false:=by rw[x2];rfl
 have kd:builtinKind "BaseException.__getattribute__" = some .slot:=by decide +kernel
 have sp:splitId "BaseException.__getattribute__" = some ("BaseException", "__getattribute__"):=by decide +kernel
 have isB:(Value.ref C::bm).contains (.type "BaseException")=true:=by rw[pk,T.has FB.hasBase];rfl
 have ar:=F.args_bexc_ga (.ref a) (.str name t);have chk:∀{M:Model} {A:Around} {E:Value->Shared->Prop} {R:Unit->Shared->Prop} {u:Nat},R () ⟨h,g,d,u,os⟩->wpAny M A (checkBuiltinCall "BaseException.__getattribute__" ⟨[.ref a]++[.str name t],[]⟩) R E ⟨h,g,d,u,os⟩:=by
  intro M A E R u r;simp only[checkBuiltinCall,kd,sp];refine D8 ?_;unfold isInstance
  repeat (first|(with_reducible refine Ef hx ?_;rw[hc])|(with_reducible refine Ey hC ?_;rw[isB])|wp_step)
  exact r
 unfold getAttr
 repeat (any_goals (first|assumption|(with_reducible refine Ef hx ?_;rw[hc])|with_reducible refine look hC hN m1 T i1 FB.mro FB.ga.lookup ?_|with_reducible refine look hC hN m2 T i2 FB.mro FB.noGetattr ?_|wp_step))
 refine codeAny_call_builtin FB.ga.plain F.entry_bexc_ga (chk (Ap FB hC hN T m3 i3 hB hx hc hd hv hm hn ?_));show wpAny _ _ (handedOut v) _ _ _;rw[ho];exact Ea k
end
end Fl
def bD(P:Program)(w:World):iB:=λouter H s E e s'=>∃(ea:Addr) (cls:Value) (dx:Option Addr) (H':Hp) (B:Heap),e=.ref ea/\Fl.Up (Fl.Is cls dx) B outer ea .none s'.heap/\s'.os=s.os/\AllBare s'.gens/\Un (bX outer) [] H H' s.heap s'.heap/\HOk P w H' s'.heap/\
 (∀b o,s.heap.get? b=some o->b∉bX outer->∃o',B.get? b=some o')/\(∀b u,H' b=some u->∃o,B.get? b=some o)/\E cls dx H'
theorem qd:aQ (bD P w) X E0:=λ_ _ _ _ _ _ _ ⟨_,_,_,_,_,_,_,_,_,_,_,_,_,z⟩=>z.elim
theorem HOk.through{B h2:Heap}(hok:HOk P w H h)(hT:∀ b u,H b=some u->∃ o,B.get? b=some o)(s1:B.StaysIn h)(s2:B.StaysIn h2):HOk P w H h2:=λa o e=>(hok a o e).stay (λb u hb q=>by
  have hb':∃v,H b=some v:=by
   rcases hb with rfl|hb
   .exact⟨_,e⟩
   .exact⟨_,hb⟩
  obtain⟨v,hv⟩:=hb';obtain⟨o',eB⟩:=hT b v hv;have:=s1 b o' eB;rw[q] at this;cases this;exact s2 b _ eB) (λ_ z=>z) λ_ _ z=>z
section
variable{base:Heap}{f:Addr}{E:XK}
theorem rT{l:List Env}(h:b∈bX l):b∈bX (env::l):=by
 unfold bX at h ⊢;obtain⟨e,h1,h2⟩:=Yaz.mp h;exact Yaz.mpr ⟨e,da _ h1,h2⟩
theorem ui:aQ (bD P w) (bB (bD P w) P w K mg base N qual scope f cd A outer s H E) E:=by
 rintro pins σ H1 s1 _ s' I ⟨ea,cls,dx,H',B,rfl,fl,hos,hbare,un,hok,hB,hT,hE⟩;have nostk:∀b o,s.heap.get? b=some o->b∉bX outer->b∉bX (envOfC qual scope s.heap.objs.size f cd::outer):=λb o e hb hm=>by
  rcases Yan.mp (I.stkSub b hm) with z|z
  .have l1:=bY e
   have l2:s.heap.objs.size<=(envOfC qual scope s.heap.objs.size f cd).locals:=I.ok.above;have z':b=(envOfC qual scope s.heap.objs.size f cd).locals:=z;rw[<-z'] at l2;exact Eb (cG l1 l2) (gp _)
  .exact hb z
 have ib:Un (bX outer) [] H H1 s.heap s1.heap:=I.base;show wpAny (model P w) (A.deeper (envOfC qual scope s.heap.objs.size f cd)) (leaving (envOfC qual scope s.heap.objs.size f cd) (.ref ea)) (λ_ s''=>bD P w outer H s E (.ref ea) s'') _ s';refine Fl.leaves Fl.Is.firm I.ok.frames rfl fl λh2 fl2 up=>?_;have frm:∀b,b∈bX (envOfC qual scope s.heap.objs.size f cd::outer)->∃o,s'.heap.get? b=some o/\∀vs,o.data≠.fields vs:=λb hb=>(fl.fr.mem hb).2;refine⟨ea,cls,dx,H',B,rfl,fl2,hos.trans I.os,hbare,⟨λb o e n hb _=>?_,λb o e n hb _=>?_,λb o e n _=>?_,λb o e _=>?_,λb xs e=>un.tups b xs (ib.tups b xs e),λb o xs e=>un.frzs b o xs (ib.frzs b o xs e),λb ps e=>?_,λ_ ⟨o,e⟩ n=>un.sys (by simp) (ib.there _ o e (by simp)) (ib.sys (by simp) ⟨o,e⟩ n)⟩,hok.through hT fl.st fl2.st,λb o e hb=>?_,hT,hE⟩
 .have e1:=ib.keep b o e n hb (by simp)
  have n1:=ib.free b o e n (by simp);have e2:=un.keep b o e1 n1 (nostk b o e hb) (by simp);obtain⟨o',eB⟩:=hB b o e1 (nostk b o e hb);have:=fl.st b o' eB;rw[e2] at this;cases this;exact fl2.st b _ eB
 .obtain⟨sl,e1⟩:=ib.slot b o e n hb (by simp)
  have n1:=ib.free b o e n (by simp);obtain⟨sl',e2⟩:=un.slot b _ e1 n1 (rT hb) (by simp);obtain⟨o3,e3,nf⟩:=frm b (rT hb);rw[e2] at e3;cases e3;obtain⟨sl3,e4⟩:=up b _ e2 nf;exact⟨sl3,e4⟩
 .obtain⟨o',e1⟩:=ib.there b o e (by simp)
  exact un.free b o' e1 (ib.free b o e n (by simp)) (by simp)
 .obtain⟨o',e1⟩:=ib.there b o e (by simp)
  by_cases hb:b∈bX (envOfC qual scope s.heap.objs.size f cd::outer)
  .obtain⟨o3,e3,nf⟩:=frm b hb
   obtain⟨sl3,e4⟩:=up b _ e3 nf;exact⟨_,e4⟩
  .obtain⟨o2,eB⟩:=hB b o' e1 hb
   exact⟨o2,fl2.st b _ eB⟩
 .obtain⟨m1,e1⟩:=ib.tbls b ps e
  obtain⟨m2,e2⟩:=un.tbls b _ e1;exact⟨m1++m2,by rw[e2,tm]⟩
 .obtain⟨o',e1⟩:=ib.there b o e (by simp)
  exact hB b o' e1 (nostk b o e hb)
def eG(X:Cx)(E:XK):Prop:=∀(pins:List (Addr×Obj)) (σ:St) (H:Hp) (s:Shared) (h':Heap) (e:Addr) (cls:Value) (args:List Value),Inv X pins σ H s->Heap.MadeExcOf s.heap h' e cls args->E cls none H->X.xe (.ref e) { s with heap:=h' }
theorem uj:eG (bB (bD P w) P w K mg base N qual scope f cd A outer s H E) E:=by
 intro pins σ H1 s1 h2 e cls args I hx hE;have ib:Un (bX outer) [] H H1 s.heap s1.heap:=I.base;have neL:∀b o,s.heap.get? b=some o->b∉bX outer->b∉bX (envOfC qual scope s.heap.objs.size f cd::outer):=λb o e hb hm=>by
  rcases Yan.mp (I.stkSub b hm) with z|z
  .have l1:=bY e
   have l2:s.heap.objs.size<=(envOfC qual scope s.heap.objs.size f cd).locals:=I.ok.above;have z':b=(envOfC qual scope s.heap.objs.size f cd).locals:=z;rw[<-z'] at l2;exact Eb (cG l1 l2) (gp _)
  .exact hb z
 have stk:s1.heap.FunFrames base (envOfC qual scope s.heap.objs.size f cd::outer):=I.stack;have frm:∀b,b∈bX (envOfC qual scope s.heap.objs.size f cd::outer)->∃o,s1.heap.get? b=some o/\∀vs,o.data≠.fields vs:=λb hb=>(stk.mem hb).2;have inB:∀{b o},s1.heap.get? b=some o->b∉bX (envOfC qual scope s.heap.objs.size f cd::outer)->(PySem.W.hideAll s1.heap (bX (envOfC qual scope s.heap.objs.size f cd::outer))).get? b=some o:=λe hb=>PySem.W.hideAll_get _ e hb;have hT:∀b u,H1 b=some u->∃o,(PySem.W.hideAll s1.heap (bX (envOfC qual scope s.heap.objs.size f cd::outer))).get? b=some o:=λb u hu=>by
  have hb:b∉bX (envOfC qual scope s.heap.objs.size f cd::outer):=λhm=>by
   have:=I.stkFree b hm;rw[hu] at this;cases this
  have l:=I.hok.lt hu;have:∃o,s1.heap.get? b=some o:=by
   have q:=I.hok b u hu;cases u with
   |lst xs=>obtain⟨_,_,_,_,e⟩:=q;exact⟨_,e⟩
   |tup xs=>obtain⟨_,_,_,o,e,_⟩:=q;exact⟨_,e⟩
   |dK kvs=>obtain⟨_,_,_,_,o,_,_,e,_⟩:=q;exact⟨_,e⟩
   |dT kvs=>obtain⟨_,_,_,_,o,_,_,e,_⟩:=q;exact⟨_,e⟩
   |set S n=>obtain⟨o,_,_,_,e,_⟩:=q;exact⟨_,e⟩
   |ins C dx fs=>obtain⟨_,_,_,e,_⟩:=q;exact⟨_,e⟩
   |own y=>obtain⟨o,e⟩:=q;exact⟨_,e⟩
   |xd fs=>obtain⟨_,⟨o,_,_,e,_⟩,_⟩:=q;exact⟨_,e⟩
   |rng lo hi=>obtain⟨_,_,_,e⟩:=q;exact⟨_,e⟩
   |frz ob u=>obtain⟨e,_⟩:=q;exact⟨_,e⟩
   |tbl ps=>exact⟨_,(show s1.heap.get? b=some _ from q)⟩
   |met f y=>exact⟨_,(show s1.heap.get? b=some _ from q)⟩
   |ext φ=>obtain⟨_,⟨o,e⟩,_⟩:=q;exact⟨_,e⟩
  obtain⟨o,e⟩:=this;exact⟨o,inB e hb⟩
 show wpAny (model P w) (A.deeper (envOfC qual scope s.heap.objs.size f cd)) (leaving (envOfC qual scope s.heap.objs.size f cd) (.ref e)) (λ_ s''=>bD P w outer H s E (.ref e) s'') _ _;obtain⟨tt,he,_,_⟩:=hx.there;have newB:(PySem.W.hideAll s1.heap (bX (envOfC qual scope s.heap.objs.size f cd::outer))).get? e=none:=by
  cases q:(PySem.W.hideAll s1.heap (bX (envOfC qual scope s.heap.objs.size f cd::outer))).get? e with
  |none=>rfl
  |some o=>
   have:=PySem.W.of_hideAll _ q;rw[hx.new] at this;cases this
 refine Fl.leaves_new (P:=Fl.Is cls none) (base:=PySem.W.hideAll s1.heap (bX (envOfC qual scope s.heap.objs.size f cd::outer))) Fl.Is.firm I.ok.frames ((PySem.W.funFrames_hide stk λenv he b hb=>Yaz.mpr ⟨env,he,hb⟩).of_keeps λb o hb _=>⟨o,hx.keeps b o hb,rfl⟩) rfl he ⟨rfl,rfl⟩
  (λb o q=>hx.keeps b o (PySem.W.of_hideAll _ q)) newB rfl rfl λh3 fl up=>?_
 have st1:(PySem.W.hideAll s1.heap (bX (envOfC qual scope s.heap.objs.size f cd::outer))).StaysIn s1.heap:=λb o q=>PySem.W.of_hideAll _ q;refine⟨e,cls,none,H1,_,rfl,fl,I.os,I.bare,⟨λb o e n hb _=>?_,λb o e n hb _=>?_,λb o e n _=>ib.free b o e n (by simp),λb o e _=>?_,λb xs e=>ib.tups b xs e,λb o xs e=>ib.frzs b o xs e,λb ps e=>ib.tbls b ps e,λ_ eg n=>ib.sys (by simp) eg n⟩,I.hok.through hT st1 fl.st,λb o e hb=>?_,hT,hE⟩
 .exact fl.st b o (inB (ib.keep b o e n hb (by simp)) (neL b o e hb))
 .obtain⟨sl,e1⟩:=ib.slot b o e n hb (by simp)
  obtain⟨o3,e3,nf⟩:=frm b (rT hb);rw[e1] at e3;cases e3;obtain⟨sl3,e4⟩:=up b _ (hx.keeps b _ e1) nf;exact⟨sl3,e4⟩
 .obtain⟨o',e1⟩:=ib.there b o e (by simp)
  by_cases hb:b∈bX (envOfC qual scope s.heap.objs.size f cd::outer)
  .obtain⟨o3,e3,nf⟩:=frm b hb
   obtain⟨sl3,e4⟩:=up b _ (hx.keeps b _ e3) nf;exact⟨_,e4⟩
  .exact⟨o',fl.st b o' (inB e1 hb)⟩
 .obtain⟨o',e1⟩:=ib.there b o e (by simp)
  exact⟨o',inB e1 (neL b o e hb)⟩
end
section
def uk(K:D9)(tl:TE):TI:=λσ H R=>tl σ H λx H1=>∃a,x=.ref a/\(((∃xs,SqL K H1 a xs)/\R (xB K a) H1)\/((∃xs,SqT K H1 a xs)/\R (tX K a) H1))
theorem Aq{l:Expr}(hl:PE X l tl):PI X tg l (uk X.K tl):=by
 intro pins s σ H R I h;refine aU (hl pins s σ H _ I h) λv s1 ⟨x,H1,I1,r1,q1⟩=>?_;obtain⟨a,e,⟨⟨xs,hq⟩,q⟩|⟨⟨xs,hq⟩,q⟩⟩:=q1
 .subst e
  cases r1;obtain⟨its,rv,p,hz⟩:=I1.list hq;refine wpAny_pyIter_list p.isList ?_;refine⟨s1.heap.objs.size,[s1.heap.objs.size],_,_,H1,rfl,I1.kept (t':=s1.toks) λb o e=>cj _ e,iq a _,⟨_,gc _ rfl,rfl,rfl⟩,λb hb=>?_,q⟩;have e:b=s1.heap.objs.size:=by simpa using hb
  subst e;exact I1.fpOk (bO _) (I1.hok.fresh (bO _))
 .subst e
  cases r1;obtain⟨its,rv,p,hz⟩:=I1.tuple hq;refine wpAny_pyIter_tuple (show s1.heap.IsTuple a its.toArray from p) ?_;refine⟨s1.heap.objs.size,[s1.heap.objs.size],_,_,H1,rfl,I1.kept (t':=s1.toks) λb o e=>cj _ e,gw a _,⟨_,gc _ rfl,rfl,rfl⟩,λb hb=>?_,q⟩;have e:b=s1.heap.objs.size:=by simpa using hb
  subst e;exact I1.fpOk (bO _) (I1.hok.fresh (bO _))
end
theorem qe(n b:Nat)(h:b=n+4\/b=n+2\/b=n+3\/b=n\/b=n+1):n<=b:=by omega
theorem xJ{C:Addr}(X:K.In h)(q:PySem.W.excIn K C bmB newId=true) :
  ∃(bm:List Value) (N:Addr) (nm qn:Str) (bs:List Value) (hd:Bool) (sn:List Str) (sub:List Value) (ab:Bool) (col:Option Bool) (dd:Option Addr) (k0 k1 k2 k3 k5:Option Value) (mN:Str->Option Value),
   h.get? C=some (excClassObj nm qn C N bs bm hd sn sub ab col dd k0 k1 k2 k3 k5 newId)/\h.Ns N mN/\mN "__init__" = none/\OwnTail h bmB bm:=by
 unfold PySem.W.excIn at q;split at q
 .rename_i dd cd sl ho
  split at q
  .rename_i C' bm k0 k1 k2 k3 n k5 hm hs
   simp only[cy,Et,mF] at q;obtain⟨⟨⟨⟨⟨rfl,rfl⟩,hdel⟩,ht⟩,hok⟩,hni⟩:=q;obtain⟨nm,bs,mro,ns,qn,hd,sn,sub,ab,col,del⟩:=cd;dsimp only at hm hdel hok hni;subst hm hdel;have hsl:sl = #[k0,k1,k2,k3,some (.builtin n),k5]:=by
    cases sl with
    |mk l=>exact congrArg Array.mk hs
   subst hsl;exact⟨bm,ns,nm,qn,bs,hd,sn,sub,ab,col,dd,k0,k1,k2,k3,k5,_,X _ _ ho,.of_isNs (PySem.W.isNs_of_in X hok),PySem.W.nsMap_none_of_in X hok hni,PySem.W.tail_of_in X ht⟩
  .cases q
 .cases q
section
variable{C:Addr}{B initId:String}
theorem Ar(hr:eG X EX)(hc:X.calm=true)(hm:X.mg x=some (.ref C))(hq:PySem.W.excIn X.K C bmB newId=true)(FB:ExcBaseFacts B newId initId bmB)(hg:Gl X x:=by rfl)(hd:(x==("__debug__" : Str))=false:=by decide) :
  PS X (.Raise (some (.Call (.Name x np) [] [] cpos)) none pos) (λ_ _ H=>EX (.ref C) none H):=by
 intro pins s σ H D I h;obtain⟨bm,N,nm,qn,bs,hdc,sn,sub,ab,col,dd,k0,k1,k2,k3,k5,mN,hC,hN,hni,T⟩:=xJ I.kIn hq;refine wpAny_Raise_call_subT (C:=C) (nm:=nm) (q:=qn) (N:=N) (bs:=bs) (bm:=bm) (hdct:=hdc) (sn:=sn) (sub:=sub) (ab:=ab) (col:=col) (dd:=dd) (k0:=k0) (k1:=k1) (k2:=k2) (k3:=k3) (k5:=k5)
  FB (mN:=mN) (T.hasType FB.hasBase) (I.ok.hd hc) rfl hni (cc I hg hm ⟨rfl,?_⟩ hd)
 exact evalArgs_empty ⟨rfl,im _,hC,hN,T,λh' e hx=>hr pins σ H s h' e (.ref C) [] I hx h⟩
end
section
variable{H':Hp}{s':Shared}{B h2:Heap}
theorem Inv.fsStk(I:Inv X pins σ H s)(hb:b∈X.fs):b∈bX X.stack:=by
 rcases I.ok.stk with z|⟨z,_⟩
 .rw[z];exact hb
 .rw[z];exact rT hb
theorem Inv.fly(I:Inv X pins σ H s)(hos:s'.os=s.os)(hbare:AllBare s'.gens)(un:Un (bX X.stack) [] H H' s.heap s'.heap)(hok:HOk X.prog X.w H' s'.heap)
  (hB:∀b o,s.heap.get? b=some o->b∉bX X.stack->∃o',B.get? b=some o') (hT:∀b u,H' b=some u->∃o,B.get? b=some o) (st1:B.StaysIn s'.heap) (st2:B.StaysIn h2) (up:s'.heap.UpToSlots h2)
  (frm:∀b∈bX X.stack,∃o,s'.heap.get? b=some o/\∀vs,o.data≠.fields vs):Inv X pins σ H' { s' with heap:=h2 }:=by
 have I':Inv X pins σ H' s':=I.call' hos un hok hbare (ch:=[]) (λb z=>Eb z (by simp));have nostk:∀b o,X.s₀.heap.get? b=some o->b∉X.fs->b∉bX X.stack:=λb o e hb hm=>by
  rcases Yan.mp (I.stkSub b hm) with z|z
  .have l1:=bY e
   have l2:=I.ok.above;rw[<-z] at l2;exact Eb (cG l1 l2) (gp _)
  .exact hb z
 have inB:∀{b o},s.heap.get? b=some o->b∉bX X.stack->∀{u},s'.heap.get? b=some u->h2.get? b=some u:=λ{b o} e hb {u} q=>by
  obtain⟨o',eB⟩:=hB b o e hb;have:=st1 b o' eB;rw[q] at this;cases this;exact st2 b _ eB
 have cellK:∀c v,s'.heap.IsCell c v->h2.IsCell c v:=λc v ⟨o,ho,hd⟩=>by
  obtain⟨sl,e⟩:=up c o ho λvs z=>by rw[hd] at z;cases z
  exact⟨_,e,hd⟩
 refine⟨I'.ok,I'.os,I'.bare,⟨λb o e n hb hx=>?_,λb o e n hb hx=>?_,I'.base.free,λb o e hx=>?_,I'.base.tups,I'.base.frzs,I'.base.tbls,I'.base.sys⟩,?_,λx c e=>?_,I'.free,I'.freeC,λp hp=>?_,hok.through hT st1 st2,I'.len⟩
 .exact inB (I.base.keep b o e n hb hx) (nostk b o e hb) (I'.base.keep b o e n hb hx)
 .obtain⟨sl,e1⟩:=I'.base.slot b o e n hb hx
  obtain⟨o3,e3,nf⟩:=frm b (I.fsStk hb);rw[e1] at e3;cases e3;obtain⟨sl2,e4⟩:=up b _ e1 nf;exact⟨sl2,e4⟩
 .obtain⟨o',e1⟩:=I'.base.there b o e hx
  by_cases hb:b∈bX X.stack
  .obtain⟨o3,e3,nf⟩:=frm b hb
   obtain⟨sl,e4⟩:=up b _ e3 nf;exact⟨_,e4⟩
  .obtain⟨o2,e2⟩:=I.base.there b o e hx
   exact⟨o',inB e2 hb e1⟩
 .obtain⟨m,hn,hl⟩:=I'.loc
  refine⟨m,up.ns hn,λi x v e1 e2 e3=>?_⟩;obtain⟨u,r,l⟩:=hl i x v e1 e2 e3;refine⟨u,r,?_⟩;rcases l with l|⟨k,c,e,z⟩
  .exact .inl l
  .exact .inr ⟨k,c,e,cellK c _ z⟩
 .obtain⟨v,z⟩:=I'.cell x c e
  exact⟨v,cellK c v z⟩
 .obtain⟨e,n,ne,nf,d⟩:=I'.pin p hp
  obtain⟨e0,n0,_⟩:=I.pin p hp;have hb:p.1∉bX X.stack:=λhm=>by
   rcases Yan.mp (I.stkSub _ hm) with z|z
   .exact ne z
   .exact nf z
  exact⟨inB e0 hb e,n,ne,nf,d⟩
theorem Inv.track{a:Addr}{u:HO}(I:Inv X pins σ H s)(hn:H a=none)(h0:X.s₀.heap.get? a=none)(hL:a≠X.env.locals)(hC:∀x c,X.env.cells.lookup x=some c->c≠a)(hP:∀p∈X.pn++pins,p.1≠a)
  (new:ObjOk X.prog X.w (upd H a u) s.heap a u) (hu:∀us,u≠.lst us):Inv X pins σ (upd H a u) s:=by
 have nea:∀b v,H b=some v->b≠a:=λb v e z=>by rw[z,hn] at e;cases e
 refine ⟨I.ok,I.os,I.bare,⟨I.base.keep,I.base.slot,λb o e n hx=>?_,I.base.there,λb xs e=>?_,λb o xs e=>?_,λb ps e=>?_,λx0 e0 n ys=>by
   by_cases z:sysModules=a
   .rw[z,aF];exact λy=>hu ys (Ed y)
   .rw[aE z];exact I.base.sys x0 e0 n ys⟩,I.loc,I.cell,?_,λx c e=>?_,λp hp=>?_,λb v e=>?_,I.len⟩
 .rw[aE (λz=>by rw[z,h0] at e;cases e)]
  exact I.base.free b o e n hx
 .have:=I.base.tups b xs e
  rw[aE (nea _ _ this)];exact this
 .have:=I.base.frzs b o xs e
  rw[aE (nea _ _ this)];exact this
 .obtain⟨m,e1⟩:=I.base.tbls b ps e
  exact⟨m,by rw[aE (nea _ _ e1)];exact e1⟩
 .rw[aE (Em hL)];exact I.free
 .rw[aE (hC x c e)];exact I.freeC x c e
 .obtain⟨e,n,r⟩:=I.pin p hp
  exact⟨e,by rw[aE (hP p hp)];exact n,r⟩
 .by_cases hb:b=a
  .subst hb;rw[aF] at e;cases e;exact new
  .rw[aE hb] at e
   exact(I.hok b v e).stay (λ_ _ _ q=>q) (λc q=>by rw[aE (nea _ _ q)];exact q) λc _ q=>by rw[aE (nea _ _ q)];exact q
end
abbrev Cx.tr(X:Cx)(E:Value->Shared->Prop)(pins:List (Addr×Obj)):Cx:={ X with xe:=E,pn:=X.pn++pins }
abbrev Cx.hnd(X:Cx)(e:Addr)(E:Value->Shared->Prop):Cx:={ X with A:=X.A.mark (some (.ref e)),calm:=false,xe:=E }
section
variable{pins':List (Addr×Obj)}{e:Addr}
theorem Inv.tr(I:Inv X pins σ H s):Inv (X.tr E pins) [] σ H s:=⟨⟨I.ok.mod,I.ok.kind,I.ok.glob,I.ok.blt,I.ok.above,I.ok.inj,I.ok.has,I.ok.cab,I.ok.hd,I.ok.frames,I.ok.stk,I.ok.exf,I.ok.bs,I.ok.bsz,I.ok.noex,I.ok.exfs,I.ok.funs,I.ok.frf,I.ok.sys0⟩,I.os,I.bare,I.base,I.loc,I.cell,I.free,I.freeC,λp hp=>I.pin p (by simpa using hp),I.hok,I.len⟩
theorem Inv.untr(I:Inv (X.tr E pins) pins' σ H s):Inv X pins σ H s:=⟨⟨I.ok.mod,I.ok.kind,I.ok.glob,I.ok.blt,I.ok.above,I.ok.inj,I.ok.has,I.ok.cab,I.ok.hd,I.ok.frames,I.ok.stk,I.ok.exf,I.ok.bs,I.ok.bsz,I.ok.noex,I.ok.exfs,I.ok.funs,I.ok.frf,I.ok.sys0⟩,I.os,I.bare,I.base,I.loc,I.cell,I.free,I.freeC,λp hp=>I.pin p (tq _ hp),I.hok,I.len⟩
theorem SP.untr{D:fO}{f:Flow}{s':Shared}(h:SP (X.tr E pins) pins' D f s'):SP X pins D f s':=by
 cases f with
 |next=>obtain⟨σ',H',I,q⟩:=h;exact⟨σ',H',I.untr,q⟩
 |brk=>obtain⟨σ',H',I,q⟩:=h;exact⟨σ',H',I.untr,q⟩
 |cont=>obtain⟨σ',H',I,q⟩:=h;exact⟨σ',H',I.untr,q⟩
 |ret u=>obtain⟨v,σ',H',I,r,q⟩:=h;exact⟨v,σ',H',I.untr,r,q⟩
theorem Inv.hnd(I:Inv X pins σ H s):Inv (X.hnd e E) pins σ H s:=⟨⟨I.ok.mod,I.ok.kind,I.ok.glob,I.ok.blt,I.ok.above,I.ok.inj,I.ok.has,I.ok.cab,(λz=>by cases z),I.ok.frames,I.ok.stk,I.ok.exf,I.ok.bs,I.ok.bsz,I.ok.noex,I.ok.exfs,I.ok.funs,I.ok.frf,I.ok.sys0⟩,I.os,I.bare,I.base,I.loc,I.cell,I.free,I.freeC,I.pin,I.hok,I.len⟩
theorem Inv.unhnd(hd:X.calm=true->X.A.handled=none)(I:Inv (X.hnd e E) pins σ H s):Inv X pins σ H s:=⟨⟨I.ok.mod,I.ok.kind,I.ok.glob,I.ok.blt,I.ok.above,I.ok.inj,I.ok.has,I.ok.cab,hd,I.ok.frames,I.ok.stk,I.ok.exf,I.ok.bs,I.ok.bsz,I.ok.noex,I.ok.exfs,I.ok.funs,I.ok.frf,I.ok.sys0⟩,I.os,I.bare,I.base,I.loc,I.cell,I.free,I.freeC,I.pin,I.hok,I.len⟩
end
theorem As{ea C Cs:Addr}{Q:Bool->Shared->Prop}(X:K.In s.heap)(hs:PySem.W.excIn K Cs bmB newId=true)(hbase:bmB.contains (.type "BaseException")=true)
  (he:∃oe,s.heap.get? ea=some oe/\oe.cls=.ref C) (hsub:PySem.W.mroIn K C (.ref Cs)=some true) (q:Q true s):wpAny M A (excMatches (.ref ea) (.ref Cs)) Q E s:=by
 obtain⟨bm,N,nm,qn,bs,hd,sn,sub,ab,col,dd,k0,k1,k2,k3,k5,mN,hC,hN,hni,T⟩:=xJ X hs;obtain⟨oe,he,hcls⟩:=he;have hcB:(Value.ref Cs::bm).contains (.type "BaseException")=true:=by rw[pk,T.hasType hbase,Bool.or_true]
 have f:=tc_notTuple;have LS:PySem.W.Looks M s.heap (isSubtype (.ref C) (.ref Cs)) true:=PySem.W.looks_mroIn X hsub;obtain⟨hh,g,d,tk,os⟩:=s;unfold excMatches
 repeat (first|(with_reducible refine Ef he ?_;rw[hcls])|with_reducible refine Ef hC ?_|(with_reducible refine Ey hC ?_;rw[hcB])|with_reducible refine LS.at ?_|wp_step)
 exact q
section
theorem Inv.names(I:Inv X pins σ H s)(hn:h'.Ns X.env.locals m)(hs:Heap.SameBut X.env.locals s.heap h'):Inv X pins (List.replicate σ.length none) H { s with heap:=h',toks:=t' }:=by
 have ne:∀b o,X.s₀.heap.get? b=some o->b≠X.env.locals:=λb o e=>el (cG (bY e) I.ok.above);have same:∀b,b≠X.env.locals->h'.get? b=s.heap.get? b:=λb hb=>hs.2 b hb;have nH:∀b u,H b=some u->b≠X.env.locals:=λb u e z=>by rw[z,I.free] at e;cases e
 refine⟨I.ok,I.os,I.bare,⟨λb o e n hb hx=>?_,λb o e n hb hx=>?_,I.base.free,λb o e hx=>?_,I.base.tups,I.base.frzs,I.base.tbls,I.base.sys⟩,⟨m,hn,λi x v _ e2 _=>?_⟩,λx c e=>?_,I.free,I.freeC,λp hp=>?_,λb u e=>?_,by rw[mC];exact I.len⟩
 .show h'.get? b=_
  rw[same b (ne b o e)];exact I.base.keep b o e n hb hx
 .obtain⟨sl,e1⟩:=I.base.slot b o e n hb hx
  refine⟨sl,?_⟩;show h'.get? b=_;rw[same b (ne b o e)];exact e1
 .obtain⟨o',e1⟩:=I.base.there b o e hx
  refine⟨o',?_⟩;show h'.get? b=_;rw[same b (ne b o e)];exact e1
 .rw[ji] at e2
  split at e2<;>cases e2
 .obtain⟨v,o,ho,hd⟩:=I.cell x c e
  refine⟨v,o,?_,hd⟩;show h'.get? c=_;rw[same c (I.cne x c e)];exact ho
 .obtain⟨e,n,nl,r⟩:=I.pin p hp
  refine⟨?_,n,nl,r⟩;show h'.get? p.1=_;rw[same _ nl];exact e
 .refine(I.hok b u e).stay (λc v hc q=>?_) (λ_ q=>q) λ_ _ q=>q
  show h'.get? c=_;rw[same c ?_]
  .exact q
  .rcases hc with rfl|hc
   .exact nH _ _ e
   .exact nH _ _ hc
end
structure RoomU(k:Nat)(A:Around):Prop where
 dp:A.depth+3*k+5<recursionLimit
 un:A.units+16*k+200<cLine
theorem RoomU.mono{j:Nat}(r:RoomU k A)(h:j<=k):RoomU j A:=⟨by have:=r.dp;omega,by have:=r.un;omega⟩
theorem RoomU.deeper{k:Nat}{A:Around}(r:RoomU (k+1) A)(env:Env):RoomU k (A.deeper env):=
 ⟨by have:=r.dp;show A.depth+1+3*k+5<_;omega,by have:=r.un;show A.units+3+16*k+200<_;omega⟩
theorem RoomU.depth{k:Nat}{A:Around}(r:RoomU k A):A.depth<recursionLimit:=by have:=r.dp;omega
theorem RoomU.units{k:Nat}{A:Around}(r:RoomU k A):A.units+64<cLine:=by have:=r.un;omega
theorem Room.u(r:Room k A):RoomU k A:=⟨r.dp,r.un⟩
theorem RoomU.mark{k:Nat}{A:Around}{v:Option Value}(r:RoomU k A):RoomU k (A.mark v):=⟨r.dp,r.un⟩
structure rV(P:Program)(w:World)(K:D9)(mg:Str->Option Value)(base:Heap)(k:Nat)(f:Addr)(fd:FuncData)(ps:List Str)(sp:Sp):Prop where
 len:∀vs H Q E,sp vs H Q E->vs.length=ps.length
 run:∀(A:Around) (outer:List Env) (s:Shared) (H:Hp) (args:Args) (us:List Value) (vs:List V) (Q:VK) (E:XK),RoomU k A->Env0 P w K mg base A outer s H->BindsTo s fd args (ps.zip us)->Vals vs us->sp vs H Q E->
  codeAny (model P w) A (.call (.ref f) args) (CR xF outer P w H s Q E) s
def nu(P:Program)(w:World)(K:D9)(mg:Str->Option Value)(base:Heap)(N:List Str)(qual:Str)(scope:Scope)(f:Addr)(cd:Value)(A:Around)(outer:List Env)(s:Shared)(H:Hp):Cx:=
 { bB xF P w K mg base N qual scope f cd A outer s H E0 with calm:=false,xe:=λ_ _=>False }
theorem At{base:Heap}{f:Addr}{s1:Shared}{vs:List V}
  (S:aT N ps scope) (e0:Env0 P w K mg base A outer s H) (hl:vs.length=ps.length) (r:Vals vs us)
  (x:InCallC s s.heap.objs.size (bindL (envOfC qual scope s.heap.objs.size f cd).kindOf (ps.zip us) λ_=>none) (cellsFrom (s.heap.objs.size+1) scope.names []) (bindC (envOfC qual scope s.heap.objs.size f cd).kindOf (ps.zip us) λ_=>none) s1) :
  Inv (nu P w K mg base N qual scope f cd A outer s H) [] (start N vs) H s1:=by
 have hpl:ps.length<=N.length:=by have:=congrArg List.length S.pre;rw[kL] at this;omega
 obtain⟨h1,tk,rfl,hk⟩:=x.done;have noA:∀b:Addr,b∉(nu P w K mg base N qual scope f cd A outer s H).ex:=λb z=>Eb (show b∈([]:List Addr) from z) (by simp);refine ⟨⟨e0.mod,S.kind,rfl,rfl,bO _,λy z c h1 h2=>?_,λy hy=>?_,λy c _ h=>?_,(λz=>by cases z),Around.frames_deeper e0.frames,.inr ⟨rfl,rfl⟩,λb z=>Eb z (noA b),e0.bs,e0.bsz,λb _ _=>noA b,λb z=>Eb z (noA b),e0.funs,e0.frf,e0.sysn⟩,
  rfl,e0.bare,Un.kept hk,⟨_,x.toInCall.ns,λi y v h1 h2 h3=>?_⟩,λy c h=>⟨_,x.cell y c h⟩,e0.hok.fresh (bO _),λy c h=>?_,λp hp=>Eb (show p∈([]:List (Addr×Obj)) from hp) (by simp),e0.hok.kept hk,?_⟩
 .exact name_of_addr x.apart (Eg h1) (Eg h2)
 .have hy:scope.names.lookup y=some .cell\/scope.names.lookup y=some .free:=hy
  rcases hy with hy|hy
  .exact cl hy
  .exact Eb rfl (S.nofree _ (Eg hy))
 .exact o7 (x.above y c (Eg h))
 .have hi:i<vs.length:=by
   unfold start at h2
   by_cases hi:i<vs.length
   .exact hi
   .rw[jh (by simpa using hi)] at h2
    rw[ji] at h2;split at h2<;>cases h2
  have ha:vs[i]? = some v:=by
   unfold start at h2;rw[kq (by simpa using hi),e7] at h2;cases e:vs[i]? with
   |none=>rw[e] at h2;cases h2
   |some a=>rw[e] at h2;cases h2;rfl
  obtain⟨u,hu,rv⟩:=r.get ha;have hp:ps[i]? = some y:=by
   rw[<-S.pre,List.getElem?_take_of_lt (by omega)];exact h1
  have ndP:ps.Nodup:=by rw[<-S.pre];exact S.nd.sublist (List.take_sublist _ _)
  refine⟨u,rv,?_⟩;rcases S.par y (og hp) with k|k
  .exact .inl ⟨k,dh ndP hp hu k⟩
  .obtain⟨c,e⟩:=cl (n:=s.heap.objs.size+1) k
   refine .inr ⟨.inl k,c,e,?_⟩;have q:=x.cell y c e;rw[dj ndP hp hu (by show scope.names.lookup y≠_;rw[k];decide)] at q;exact q
 .exact e0.hok.fresh (o7 (x.above y c (Eg h)))
 .unfold start
  show _=N.length;rw[dP,bJ,mC];omega
theorem Fun.okU{base:Heap}{f:Addr}{sp:Sp}(F:Fun K x qual st f fd)(S:aT N ps (aA st))(len:∀vs H Q E,sp vs H Q E->vs.length=ps.length)
  (hbody:∀ (cdv:Value) (A:Around) (outer:List Env) (s:Shared) (H:Hp) (vs:List V) (Q:VK) (E:XK),RoomU k (A.deeper (envOfC qual (aA st) s.heap.objs.size f cdv))->sp vs H Q E->
   ∃t,i6 (nu P w K mg base N qual (aA st) f cdv A outer s H) (aH st) t/\t { nx:=λ_ H'=>Q .non H',rt:=Q } (start N vs) H):rV P w K mg base (k+1) f fd ps sp:=by
 obtain⟨oc,od,kV,doc,pm,an,cdv,ct,osl,rfl,lk,hcd⟩:=F.ex;refine⟨len,λA outer s H args us vs Q E hr e0 hb r hsp=>?_⟩;have hl:=len _ _ _ _ hsp;have KX:K.In s.heap:=e0.mod.kin.keeps λb o e=>(e0.bs b o e).1;have lim:s.heap.NoLimit:=e0.mod.nolimit.keeps λb o e=>(e0.bs b o e).1;have hkind:∀y∈ps.zip us,(aA st).names.lookup y.1=some .local\/((aA st).names.lookup y.1=some .cell/\((cellsFrom (s.heap.objs.size+1) (aA st).names []).lookup y.1).isSome=true):=λ⟨n,v⟩ hy=>by
  rcases S.par n (rB hy).1 with q|q
  .exact .inl q
  .exact .inr ⟨q,PySem.W.cellsFrom_some _ _ _ (.inl q)⟩
 refine codeAny_call_function hr.depth (KX _ _ lk) rfl S.co S.gen rfl (PySem.W.codeRec_of KX hcd) (hb _ _ _ _ ?_);refine wpAny_newFunctionEnv_cells S.kind hkind λenv he s1 x=>?_;subst he;refine⟨lim.keeps x.toInCall.keep,codeAny_func ?_⟩;obtain⟨t,ht,hq⟩:=hbody cdv A outer s H vs Q E (hr.deeper _) hsp;have I:Inv (nu P w K mg base N qual (aA st) f cdv A outer s H) [] (start N vs) H s1:=At S e0 hl r x;refine Ep (ht [] s1 (start N vs) H _ I hq) (λfl s' hs=>?_) λe s' hs=>hs.elim;have fin:∀{σ':St} {H':Hp} {v:V} {u:Value},Inv (nu P w K mg base N qual (aA st) f cdv A outer s H) [] σ' H' s'->RelV v u->Q v H'->CE outer P w H s Q u s':=
  λ{σ' H' v u} J rv q=>⟨v,H',J.os,J.bare,J.base,J.hok,rv,q⟩
 cases fl with
 |ret u=>
  obtain⟨v,σ',H',J,rv,q⟩:=hs;exact fin J rv q
 |next=>
  obtain⟨σ',H',J,q⟩:=hs;exact fin (v:=V.non) (u:=Value.none) J rfl q
 |brk=>
  obtain⟨_,_,_,q⟩:=hs;exact Ej q
 |cont=>
  obtain⟨_,_,_,q⟩:=hs;exact Ej q
section
variable{f:Addr}{sp:Sp}{E:XK}{p:Pos}{t:TA}
theorem Au(F:rV X.prog X.w X.K X.mg X.base k f fd ps sp)(hr:RoomU k X.A)(hg:Gl X x)(hm:X.mg x=some (.ref f))(hk:PySem.W.keepIn X.K (.ref f)=true)(hb:Binds X.K fd ps [])
  (ha:PA X (e::es) t) (hdb:(x==("__debug__" : Str))=false:=by decide) (he:starEach (e::es) X.env=(false,eval e X.env)::starEach es X.env:=by rfl) (hpl:(backTo pos (starEach es X.env)).any (·.1)=false:=by rfl) :
  PE X (.Call (.Name x p) (e::es) [] pos) (l6 sp [] E t):=by
 have F':∀(pins:List (Addr×Obj)) (σ:St) (H:Hp) (s:Shared) (Q:VK) (us:List Value) (vs:List V),Inv X pins σ H s->Vals vs us->sp (vs++[]) H Q E->wpAny (model X.prog X.w) X.A (call (.ref f) us) (EP X pins σ Q) X.xe s:=by
  intro pins σ H s Q us vs I r h;have r2:Vals (vs++[]) (us++[]):=by simpa using r
  have hl:(us++[]).length=ps.length:=by rw[<-r2.length];exact F.len _ _ _ _ h
  refine wpAny_call (codeAny_mono (F.run X.A X.stack s H ⟨us,[]⟩ (us++[]) (vs++[]) Q E hr I.env0 (hb s us I.kIn hl) r2 h) λr s' hq=>?_);cases r with
  |error e=>exact Ej hq
  |ok fl=>
   cases fl with
   |ret u=>exact I.after hq
   |next=>exact Ej hq
   |brk=>exact Ej hq
   |cont=>exact Ej hq
 intro pins s σ H Q I h;refine Ez (cc I hg hm ?_ hdb);refine PySem.W.callWith_K (h₀:=X.base) I.ok.mod.kin hk (aU (ha pos pins s σ H _ I h) λus s1 ⟨vs,H1,I1,r,q⟩=>⟨I1.kIn,?_⟩) he hpl;exact F' pins σ H1 s1 Q us vs I1 r q
end
section
open PySem PySem.Spec PySem.Calls PyProof.Rows PySem.W Builtin Builtin.ObjectAttr Builtin.Getset_descriptor
def XAt(h:Heap)(x C:Addr):Prop:=∃ox,h.get? x=some ox/\ox.cls=.ref C/\notCls ox=true
structure eI(K:Frag)(D:Addr):Prop where
 ga:findIn K (.ref D) "__getattribute__" = some (some (.builtin "BaseException.__getattribute__"))
 gn:findIn K (.ref D) "__getattr__" = some none
 be:mroIn K D (.type "BaseException")=some true
 is:(clsIn K D).isSome=true
 at':findIn K (.ref D) "__class__" = some (some (.builtin "object.__class__"))
 gt:specialIn K (.builtin "object.__class__") "__get__" = some (some (.builtin "getset_descriptor.__get__"))
 tk:takesIn K (.builtin "object.__class__")=some true
 ob:mroIn K D (.type "object")=some true
section
variable{K:Frag}{x D:Addr}
theorem XAt.type(I:XAt h x D):Looks M h (typeOf (.ref x)) (.ref D):=by
 obtain⟨ox,h1,h2,_⟩:=I;exact h2▸(Looks.ld h1).andThen .now
theorem Av(X:K.In h)(c:eI K D):Looks M h (find (.ref x) (.ref D) "__class__") (.bind (.builtin "getset_descriptor.__get__") (.builtin "object.__class__")):=by
 have L1:=looks_findIn (M:=M) X c.at';have L2:Looks M h (getOf (some (.builtin "object.__class__"))) (some (.builtin "getset_descriptor.__get__")):=looks_specialIn X c.gt;have L3:=looks_takesIn (M:=M) X c.tk;refine L1.andThen (L2.andThen ?_);exact(show Looks M h (dataDescriptor? (some (.builtin "object.__class__")) (some (.builtin "getset_descriptor.__get__"))) (some (.builtin "getset_descriptor.__get__",.builtin "object.__class__")) from L3.andThen .now).andThen (Looks.tag .now)
theorem Aw{tp:Value}(X:K.In s.heap)(I:XAt s.heap x D)(hm:mroIn K D (.type "object")=some true)
  (h:R (.ok (.ret (.ref D))) s):codeAny (model prog w) A (.call (.builtin "getset_descriptor.__get__") ⟨[.builtin "object.__class__",.ref x,tp],[]⟩) R s:=by
 obtain⟨hh,g,dr,t,os⟩:=s;have L0:=I.type (M:=model prog w);have L1:=looks_mroIn (M:=model prog w) X hm;refine codeAny_call_builtin KF.slot_gs.plain KF.entry_gs (KF.slot_gs.check _ _ _ _ _ _ _ _ KF.type_class (KF.args_gs _ _ _) ?_);unfold Builtin.«getset_descriptor.__get__» descrGet;rw[dga_obj];refine D8 (Ea ?_);unfold descrGetter descrCheckInstance descrNameAndClass isInstance;simp only[KF.owner_class]
 repeat lk
 refine⟨Code.quiet_builtin _ (by decide +kernel),codeAny_builtin KF.entry_class ?_⟩;unfold Builtin.«object.__class__» shownTypeOf
 repeat lk
 exact h
theorem Ax{nameV:Value}{Q:Unit->Shared->Prop}(X:K.In s.heap)(I:XAt s.heap x D)(c:eI K D)(hq:Q () s):wpAny M A (checkBuiltinCall "BaseException.__getattribute__" ⟨[.ref x,nameV],[]⟩) Q E s:=by
 have hk:builtinKind "BaseException.__getattribute__" = some .slot:=by decide +kernel
 have hsplit:splitId "BaseException.__getattribute__" = some ("BaseException", "__getattribute__"):=by decide +kernel
 have ha:=PySem.F.args_bexc_ga (.ref x) nameV;have L0:=I.type (M:=M);have L1:=looks_mroIn (M:=M) X c.be;simp only[checkBuiltinCall,hk,hsplit];refine D8 ?_;unfold isInstance;refine D8 (L0.at (L1.at ?_))
 repeat (first|assumption|wp_step)
theorem Ay{Q:Fin->Shared->Prop}(X:K.In s.heap)(I:XAt s.heap x D)(c:eI K D)(hq:Q (.done (.ret (.ref D))) s) :
  wpAny (model prog w) A (Builtin.«object.__getattribute__» ⟨[.ref x,.str "__class__" tk],[]⟩) Q E s:=by
 obtain⟨hh,g,d,t,os⟩:=s;have L0:=I.type (M:=model prog w);have L2:=Av (x:=x) (M:=model prog w) X c
 repeat (any_goals (first|assumption|(with_reducible refine L0.at ?_)|(with_reducible refine L2.at ?_)|wp_step))
 exact Aw (K:=K) (s:=⟨hh,g,d,t,os⟩) X I c.ob (Ea hq)
theorem qf(X:K.In s.heap)(I:XAt s.heap x D)(c:eI K D)(hq:R (.ok (.ret (.ref D))) s) :
  codeAny (model prog w) A (.call (.builtin "BaseException.__getattribute__") ⟨[.ref x,.str "__class__" tk],[]⟩) R s:=
 codeAny_call_builtin PySem.F.attr_ValueError.ga.plain PySem.F.entry_bexc_ga (Ax X I c (Ay X I c hq))
theorem Az{Q:Option Value->Shared->Prop}(X:K.In s.heap)(I:XAt s.heap x D)(c:eI K D)(h:Q (some (.ref D)) { s with toks:=s.toks+1 }):wpAny (model prog w) A (getAttr? (.ref x) "__class__") Q E s:=by
 obtain⟨hh,g,d,t,os⟩:=s;have L0:=I.type (M:=model prog w);have L1:=looks_findIn (M:=model prog w) X c.ga;have L3:=looks_findIn (M:=model prog w) X c.gn;have f3:=PySem.F.attr_ValueError.ga.bind (.ref x);have hx2:(Value.builtin "BaseException.__getattribute__" == Value.builtin "object.__getattribute__")=false:=by decide +kernel
 have hx1:(onTheHeap (Value.ref D)&&Value.builtin "BaseException.__getattribute__" == Value.builtin "object.__getattribute__")=false:=by rw[hx2];rfl
 unfold getAttr? getAttrBy?
 repeat (any_goals (first|assumption|(with_reducible refine L0.at ?_)|(with_reducible refine L1.at ?_)|(with_reducible refine L3.at ?_)|wp_step))
 exact qf (K:=K) (s:=⟨hh,g,d,t+1,os⟩) X I c (handed_on rfl (Ea h))
theorem xK(c:eI K D):KitX K (.ref x) (.ref D) (λh=>XAt h x D) where
 ty:=λ_ _ _ I=>I.type
 it:=λ_ _ X _=>by
  have hcD:=c.is;unfold clsIn at hcD;split at hcD
  .rename_i c' d' cd' sl' ho
   intro A' Q' E' s' k q;unfold isType loadHead;exact D8 (wpAny_loadPart (k _ _ (X _ _ ho)) (Ea q))
  .cases hcD
 ne:=λh tp dd its n sl X htp=>by
  have hcD:=c.is;refine Bool.eq_false_iff.mpr λq=>?_;have e:D=tp:=Value.ref.inj (beq_iff_eq.mp q);subst e;unfold clsIn at hcD;split at hcD
  .rename_i c' d' cd' sl' ho
   have z:=(X _ _ ho).symm.trans htp;cases z
  .cases hcD
 ca:=λX I k=>Az X I c k
end
end
theorem AA:fillsNumberSlot (.type "tuple") "mul" = pure false:=
 PySem.fillsNumberSlot_seq (id:= "tuple.__mul__") (r:=some (.builtin "tuple.__rmul__")) PySem.F.slot_tuple_mul.lookup (by decide +kernel) PySem.F.slot_tuple_rmul.lookup (by decide +kernel)
theorem AB:seqRepeat? (.type "tuple")=pure (some (.builtin "tuple.__mul__")):=by
 unfold seqRepeat?;rw[PySem.seqSlot_of (T:= "tuple") (name:= "__mul__") (id:= "tuple.__mul__") PySem.F.slot_tuple_mul.lookup (by decide +kernel),PySem.seqSlot_of (T:= "tuple") (name:= "__rmul__") (id:= "tuple.__rmul__") PySem.F.slot_tuple_rmul.lookup (by decide +kernel)];rfl
theorem AC(a:Int)(t:Tok)(l:Addr)(items:Array Value)(n:Nat)(dd:Option Addr)(sl:Array (Option Value)) :
  Meets (Builtin.«int.__rmul__» ⟨[.int a t,.ref l],[]⟩) (λ_ R s=>s.heap.get? l=some { cls:=.type "tuple",dict:=dd,data:=.seq items n,slots:=sl }/\R (.ok (.ret Value.notImplemented)) s):=
 .of_wp λprog w A R s h=>by obtain⟨hp,g,d,tk,os⟩:=s;obtain⟨hl,h⟩:=h;wp_walk;exact⟨_,rfl,h⟩
theorem AD(l:Addr)(items:Array Value)(n:Nat)(dd:Option Addr)(sl:Array (Option Value))(k:Int)(t:Tok)(h1:-(2^63)<=k)(h1':k<2^63)(h2:(items.isEmpty||k==1)=true) :
  Meets (Builtin.«tuple.__mul__» ⟨[.ref l,.int k t],[]⟩) (λ_ R s=>s.heap.get? l=some { cls:=.type "tuple",dict:=dd,data:=.seq items n,slots:=sl }/\R (.ok (.ret (Value.ref l))) s):=by
 intro prog w A R s h;obtain⟨hp,g,d,tk,os⟩:=s;obtain⟨hl,h⟩:=h;have f1:=AutoSeq1.idx_int;have c1:¬(decide (k < -2^63)||decide (k ≥ 2^63))=true:=by simp;omega
 unfold Builtin.«tuple.__mul__»
 wp_walk using wpAny_loadPart' hl
 rw[if_neg c1]
 wp_walk using wpAny_loadPart' hl
 exact h
theorem Ze(l:Addr)(items:Array Value)(n:Nat)(dd:Option Addr)(sl:Array (Option Value))(k:Int)(t:Tok)(h1:-(2^63)<=k)(h1':k<2^63)(h2:¬(items.isEmpty||k==1)=true)(h3:k<=0) :
  Meets (Builtin.«tuple.__mul__» ⟨[.ref l,.int k t],[]⟩) (λ_ R s=>s.heap.get? l=some { cls:=.type "tuple",dict:=dd,data:=.seq items n,slots:=sl }/\R (.ok (.ret (Value.ref s.heap.objs.size))) { s with heap:=s.heap.push { cls:=Value.type "tuple",data:=Data.seq #[] } }):=by
 intro prog w A R s h;obtain⟨hp,g,d,tk,os⟩:=s;obtain⟨hl,h⟩:=h;have f1:=AutoSeq1.idx_int;have c1:¬(decide (k < -2^63)||decide (k ≥ 2^63))=true:=by simp;omega
 have c2:(decide (k<=0)||items.isEmpty)=true:=by simp[h3]
 unfold Builtin.«tuple.__mul__»
 wp_walk using wpAny_loadPart' hl
 rw[if_neg c1]
 wp_walk using wpAny_loadPart' hl
 exact h
theorem AE(l:Addr)(items:Array Value)(n:Nat)(dd:Option Addr)(sl:Array (Option Value))(k:Int)(t:Tok)(h1:-(2^63)<=k)(h1':k<2^63)(h2:¬(items.isEmpty||k==1)=true)(h3:0<k)(h4:items.size*k.toNat<=sizeLine) :
  Meets (Builtin.«tuple.__mul__» ⟨[.ref l,.int k t],[]⟩) (λ_ R s=>s.heap.get? l=some { cls:=.type "tuple",dict:=dd,data:=.seq items n,slots:=sl }/\R (.ok (.ret (Value.ref s.heap.objs.size))) { s with heap:=s.heap.push { cls:=Value.type "tuple",data:=Data.seq (List.foldl (λx1 x2=>x1++x2) #[] (List.replicate k.toNat items)) } }):=by
 intro prog w A R s h;obtain⟨hp,g,d,tk,os⟩:=s;obtain⟨hl,h⟩:=h;have f1:=AutoSeq1.idx_int;have c1:¬(decide (k < -2^63)||decide (k ≥ 2^63))=true:=by simp;omega
 have c2:¬(decide (k<=0)||items.isEmpty)=true:=by
  have:items.isEmpty=false:=by cases q:items.isEmpty<;>simp_all
  simp[this];omega
 have hk:(items.size:Int)*k=((items.size*k.toNat:Nat):Int):=by rw[Int.natCast_mul,Int.toNat_of_nonneg (by omega)]
 have hsl:(sizeLine:Nat)=2^24:=rfl;have c3:¬((items.size:Int)*k>(2^63-1)/8):=by rw[hk];omega
 have c4:¬Builtin.Tuple.tupleTooMany ((items.size:Int)*k)=true:=λz=>by have z':=of_decide_eq_true z;rw[hk] at z';omega
 unfold Builtin.«tuple.__mul__»
 wp_walk using wpAny_loadPart' hl
 rw[if_neg c1]
 wp_walk using wpAny_loadPart' hl
 rw[if_neg c3]
 wp_walk using wpAny_loadPart' hl
 rw[if_neg c4]
 wp_walk using wpAny_loadPart' hl
 have hnew:List.foldl (λx1 x2=>x1++x2) #[] (List.replicate k.toNat items)=(List.replicate k.toNat items.toList).flatten.toArray:=by
  have:=cq items.toList k.toNat [];rw[fL] at this;simpa using this
 have c5:¬((List.foldl (λx1 x2=>x1++x2) #[] (List.replicate k.toNat items)).size>sizeLine):=by
  rw[hnew,cw,fq,o8,Nat.mul_comm];omega
 rw[if_neg c5]
 wp_walk using wpAny_loadPart' hl
 exact h
section
theorem Inv.tnew{ys:List V}{its:List Value}(I:Inv X pins σ H s)(hv:Vals ys its)(hz:ys.length<=sizeLine) :
  Inv X pins σ (upd H s.heap.objs.size (.tup ys)) { s with heap:=s.heap.push { cls:=.type "tuple",data:=.seq its.toArray },toks:=t' }:=
 I.laid (λ_ _ q=>cj _ q) (bO _) ⟨hz,its,hv,IsTup.new _ _⟩
def qg(K:D9):R2:=λx y H Q=>∃l k xs,x=.ref l/\y=.int k/\SqT K H l xs/\-(2^63)<=k/\k<2^63/\xs.length*k.toNat<=sizeLine/\
 ((xs=[]\/k=1)->Q (.ref l) H)/\∀p,H p=none->Q (.ref p) (upd H p (.tup (List.replicate k.toNat xs).flatten))
theorem AF:OpR X (binaryOp .Mult) (qg X.K):=by
 intro pins s σ H x y v u Q I rx ry h;obtain⟨l,k,xs,rfl,rfl,hq,h1,h2,hz,q1,q2⟩:=h;cases rx;obtain⟨t,rfl⟩:=ry;obtain⟨its,r,pl,_⟩:=I.tuple hq;have hl:xs.length=its.length:=r.length;obtain⟨⟨cls,dd,data,sl⟩,ho,hc,n,hd⟩:=id pl;simp only at hc hd;subst hc hd;refine wpAny_binaryOp_repeat_ref (T:= "tuple") (U:= "int") (by decide) ⟨_,ho,rfl⟩ (λs'=>typeIs_int s' k t) AA PySem.F.fills_int_mul PySem.F.slot_int_rmul AB PySem.F.slot_int_index.lookup
  (call_meets PySem.F.slot_int_rmul (typeIs_int s k t) PySem.F.entry_int_rmul (PySem.F.args_int_rmul_2 _ _) (AC k t l its.toArray n dd sl) ⟨ho,rfl,⟨_,ho,rfl⟩,?_⟩)
 by_cases hs:(its.toArray.isEmpty||k==1)=true
 .refine call_meets PySem.F.slot_tuple_mul ⟨_,ho,rfl⟩ PySem.F.entry_tuple_mul (PySem.F.args_tuple_mul_2 _ _) (AD l its.toArray n dd sl k t h1 h2 hs) ⟨ho,⟨.ref l,H,I,rfl,q1 ?_⟩⟩
  rw[tx] at hs;rcases hs with hs|hs
  .exact .inl (r.nil_iff.mp (by simpa using hs))
  .exact .inr (beq_iff_eq.mp hs)
 .by_cases h3:k<=0
  .refine call_meets PySem.F.slot_tuple_mul ⟨_,ho,rfl⟩ PySem.F.entry_tuple_mul (PySem.F.args_tuple_mul_2 _ _) (Ze l its.toArray n dd sl k t h1 h2 hs h3) ⟨ho,⟨.ref _,_,I.tnew (its:=[]) (ys:=(List.replicate k.toNat xs).flatten) (t':=s.toks) ?_ ?_,rfl,q2 _ I.fresh⟩⟩
   .rw[show k.toNat=0 by omega];exact .nil
   .rw[show k.toNat=0 by omega];exact im _
  .have hnew:List.foldl (λx1 x2=>x1++x2) #[] (List.replicate k.toNat its.toArray)=(List.replicate k.toNat its).flatten.toArray:=by
    have:=cq its k.toNat [];rw[fL] at this;exact this
   refine call_meets PySem.F.slot_tuple_mul ⟨_,ho,rfl⟩ PySem.F.entry_tuple_mul (PySem.F.args_tuple_mul_2 _ _) (AE l its.toArray n dd sl k t h1 h2 hs (by omega) (by rw[cw,<-hl];exact hz)) ⟨ho,?_⟩;rw[hnew];exact⟨.ref _,_,I.tnew (t':=s.toks) (r.rep k.toNat) (by rw[fq,Nat.mul_comm];exact hz),rfl,q2 _ I.fresh⟩
end
section
variable{CX:iB}{E:XK}{c:Expr}{t:TA}
def AG(X:Cx)(CX:iB)(E:XK)(tc:TE)(t:TA):TE:=λσ H Q=>tc σ H λx H1=>∃(f:Addr) (k:Nat) (fd:FuncData) (ps:List Str) (sp:Sp),x=.ref f/\FnOk X.prog X.w X.K X.mg X.base CX k f fd ps sp/\Room k X.A/\PySem.W.keepIn X.K (.ref f)=true/\Binds X.K fd ps []/\t σ H1 λvs H2=>sp vs H2 Q E
theorem AH(hx:aQ CX X E)(hc:PE X c tc)(ha:PA X (e::es) t)
  (hcall:eval (.Call c (e::es) [] pos) X.env=(do callWith pos (<-eval c X.env) [] (backTo pos (starEach (e::es) X.env)) (backToKw pos (keywordEach [] X.env))):=by rfl)
  (he:starEach (e::es) X.env=(false,eval e X.env)::starEach es X.env:=by rfl) (hpl:(backTo pos (starEach es X.env)).any (·.1)=false:=by rfl) :
  PE X (.Call c (e::es) [] pos) (AG X CX E tc t):=by
 intro pins s σ H Q I h;rw[hcall];refine D8 (aU (hc pins s σ H _ I h) λu s1 ⟨x,H1,I1,r1,f,k,fd,ps,sp,ex,F,hr,hk,hb,q1⟩=>?_);subst ex;cases r1;refine PySem.W.callWith_K (h₀:=X.base) I1.ok.mod.kin hk (aU (ha pos pins s1 σ H1 _ I1 q1) λus s2 ⟨vs,H2,I2,r,q⟩=>⟨I2.kIn,?_⟩) he hpl;exact fi F hr hb .nil hx I2 r (by rw[kn];exact q)
end
open PySem.Builtin PySem.Builtin.Str in
theorem AI{y:Str}{t u:Tok}(hy:(y.length==0)=false)(hsz:x.length+2<=sizeLine)
  (h:∀(l:List (Str×Tok)) (k:Nat),l.map (·.1)=Txt.split x y->Q (.ref s.heap.objs.size) { s with heap:=s.heap.push { cls:=.type "list",data:=.seq (strValues l).toArray },toks:=k }) :
  wpAny (model prog w) A (call (.builtin "str.split") [.str x t,.str y u]) Q E s:=by
 have hn:(partsBetween x (occurrences x y 0 x.length (x.length+1)) y.length).length<=sizeLine:=by
  have e1:=StrLaws.occ_length_le x y 0 x.length (x.length+1);rw[length_partsBetween];omega
 cases h1:(decide (x.length<y.length)||decide (strKind x<strKind y))
 .cases hf:(occurrences x y 0 x.length (x.length+1)).isEmpty
  .refine call_meets F.slot_str_split (typeIs_str _ _ _) F.entry_str_split (F.args_str_split_2 _ _) (meets_str_split_sep x y t u h1 hy hf (by omega) hn) ?_
   show wants Q E _ { s with toks:=_,heap:=s.heap.push { cls:=.type "list",data:=.seq (strsFrom s.toks (partsBetween x (occurrences x y 0 x.length (x.length+1)) y.length)).toArray } };rw[strsFrom_eq];exact h (numbered s.toks _) _ ((numbered_texts _ _).trans ((if_neg (ne_true_of_eq_false h1)).trans (if_neg (ne_true_of_eq_false hf))).symm)
  .exact call_meets F.slot_str_split (typeIs_str _ _ _) F.entry_str_split (F.args_str_split_2 _ _) (meets_str_split_not_found x y t u h1 hy hf)
    (h [(x,t)] s.toks ((if_neg (ne_true_of_eq_false h1)).trans (if_pos hf)).symm)
 .exact call_meets F.slot_str_split (typeIs_str _ _ _) F.entry_str_split (F.args_str_split_2 _ _) (meets_str_split_cannot_occur x y t u h1)
   (h [(x,t)] s.toks (if_pos h1).symm)
theorem xL:∀(l:List (Str×Tok)),Vals ((l.map (·.1)).map V.str) (strValues l)
 |[]=>.nil
 |(x,t)::l=>.cons ⟨t,rfl⟩ (xL l)
section
theorem AJ:l8 X "str.split" (λx xs H Q=>∃a b,x=.str a/\xs=[.str b]/\(b.length==0)=false/\a.length+2<=sizeLine/\(Txt.split a b).length<=sizeLine/\∀p,H p=none->Q (.ref p) (upd H p (.lst ((Txt.split a b).map V.str)))):=by
 rintro pins s σ H _ _ v us Q I rx rs ⟨a,b,rfl,rfl,hb,hs,hl,q⟩;obtain⟨t,rfl⟩:=rx;obtain⟨u,rfl,t',rfl⟩:=bT rs;refine AI hb hs λl k e=>?_;have hf:H s.heap.objs.size=none:=I.hok.fresh (bO _);refine⟨.ref s.heap.objs.size,upd H s.heap.objs.size (.lst ((Txt.split a b).map V.str)),I.laid (t':=k) (λb u e=>cj _ e) (bO _) ?_,rfl,q _ hf⟩;rw[<-e] at hl ⊢;exact⟨by rw[bJ];exact hl,strValues l,0,xL l,gc _ rfl⟩
theorem AK:l8 X "str.removeprefix" (λx xs H Q=>∃a b,x=.str a/\xs=[.str b]/\a.length<=sizeLine/\Q (.str (Txt.removeprefix a b)) H):=by
 rintro pins s σ H _ _ v us Q I rx rs ⟨a,b,rfl,rfl,hs,q⟩;obtain⟨t,rfl⟩:=rx;obtain⟨u,rfl,t',rfl⟩:=bT rs;exact PySem.SC.removeprefix (λt' k=>⟨.str _,H,I.tok _,⟨_,rfl⟩,q⟩) hs
theorem xM:∀{ys:List Str} {us:List Value},Vals (ys.map V.str) us->StrsAre us ys
 |[],_,.nil=>.nil
 |y::ys,_,.cons r t=>by
  obtain⟨k,rfl⟩:=r;exact .cons _ _ (xM t)
theorem AL:l8 X "str.join" (λx xs H Q=>∃a p ys,x=.str a/\xs=[.ref p]/\SqL X.K H p (ys.map V.str)/\a.length<=16/\(ys.map (·.length)).sum+ys.length<=1048576/\Q (.str (Txt.join a ys)) H):=by
 rintro pins s σ H _ _ v us Q I rx rs ⟨a,p,ys,rfl,rfl,hq,ha,hl,q⟩;obtain⟨t,rfl⟩:=rx;obtain⟨u,rfl,rfl⟩:=bT rs;obtain⟨its,rv,pl,hz⟩:=I.list hq;exact join_listW pl.isList (by simpa using xM rv) ha hl λt' k=>⟨.str _,H,I.tok _,⟨_,rfl⟩,q⟩
theorem AM:b7 X (.type "int") (λxs H Q=>∃x n,xs=[.str x]/\PySem.intText? x=some n/\x.length<=640/\Q (.int n) H):=by
 rintro pins s σ H vs us Q I r ⟨x,n,rfl,e,hl,q⟩;obtain⟨u,rfl,t,rfl⟩:=bT r;exact PySem.W.KIN.call_text e hl ⟨.int n,H,I.tok _,⟨_,rfl⟩,q⟩
def xN(x:Str):It:=⟨λi _=>i<x.cps.size,λi H v H'=>H'=H/\∃c,x.cps[i]? = some c/\v=.str ⟨#[c]⟩,λi _=>x.cps.size<=i⟩
theorem AN(x:Str)(it:Addr):ip P w K tg (xN x) [it] it (λi h=>∃t,h.IsStrIter it "str_ascii_iterator" x t i) where
 mem:=by simp
 obj:=λi h st b hb=>by
  have e:b=it:=by simpa using hb
  subst e;obtain⟨t,o,e,c,d⟩:=st;exact⟨o,e,λv z=>by rw[d] at z;cases z⟩
 keep:=λi h h' st k=>by
  obtain⟨t,o,e,c,d⟩:=st;exact⟨t,o,k it (by simp) o e,c,d⟩
 item:=by
  intro X hP hw hK hc i pins s σ H E I hf st hg;subst hP hw hK;obtain⟨t,st⟩:=st;have hi:i<x.cps.size:=hg;obtain⟨f0,f1,f2,f3,f4,f5⟩:=hf it (by simp);have hx:x.cps[i]? = some x.cps[i]:=tB hi;refine wpAny_pyNext_ascii_item st hx λh' st' sb=>?_;have I1:Inv X pins σ H { s with heap:=h',toks:=s.toks+1 }:=I.turned (λb o hb e=>(sb.2 b hb).trans e) f0 f1 f3 f4 f5;obtain⟨o,e,c,d⟩:=id st';exact⟨_,rfl,g8 (s:={ s with heap:=h',toks:=s.toks+1 }) e c d (by decide) ⟨.str _,H,I1,⟨_,rfl⟩,⟨rfl,_,hx,rfl⟩,⟨t,st'⟩,λb hb=>(hf b hb).1⟩⟩
 done:=by
  intro X hP hw hK hc i pins s σ H E I hf st hg;subst hP hw hK;obtain⟨t,st⟩:=st;have hi:x.cps.size<=i:=hg;obtain⟨f0,f1,f2,f3,f4,f5⟩:=hf it (by simp);exact wpAny_pyNext_ascii_end (I.ok.hd hc) st (Array.getElem?_eq_none hi) λh' eb=>⟨rfl,I.turned (t':=s.toks) (λb o hb e=>eb b o hb e) f0 f1 f3 f4 f5⟩
 self:=λ_ _ _ _ _ st h=>let⟨_,st⟩:=st;wpAny_pyIter_striter_ascii st h
def ul(tl:TE):TI:=λσ H R=>tl σ H λx H1=>∃a,x=.str a/\a.cps.all (· < 128)=true/\R (xN a) H1
theorem AO{l:Expr}(hl:PE X l tl):PI X tg l (ul tl):=by
 intro pins s σ H R I h;refine aU (hl pins s σ H _ I h) λv s1 ⟨x,H1,I1,r1,a,e,ha,q⟩=>?_;subst e;obtain⟨t,rfl⟩:=r1;refine wpAny_pyIter_ascii ha ?_;refine⟨s1.heap.objs.size,[s1.heap.objs.size],_,_,H1,rfl,I1.kept (t':=s1.toks) λb o e=>cj _ e,AN a _,⟨t,_,gc _ rfl,rfl,rfl⟩,λb hb=>?_,q⟩;have e:b=s1.heap.objs.size:=by simpa using hb
 subst e;exact I1.fpOk (bO _) (I1.hok.fresh (bO _))
variable{b:Expr}{tb:TE}
end
def um(x:Str)(lo hi:Option Int):Str:=⟨((x.cps.toList.drop (HT.sIx x.length 0 lo)).take (HT.sIx x.length x.length hi-HT.sIx x.length 0 lo)).toArray⟩
namespace Fl
def quiet(f:Str):List Str:=["__setattr__", "__getattribute__", "__getattr__",f]
def Zi(K:D9)(ns:List Str)(bmB:List Value):List Value->Bool
 |[]=>bmB==[]
 |v::r=>(v::r)==bmB||match v with
  | .ref a=>(match K.lookup a with
   |some ⟨_,_,.cls cd,_⟩=>PySem.W.nsOkIn K cd.ns&&ns.all (λn=>PySem.W.nsIn K cd.ns n==some none)&&Zi K ns bmB r
   |_=>false)
  |_=>false
theorem xO{K:D9}{h:Heap}{ns:List Str}{bmB:List Value}(X:K.In h):∀{l:List Value},Zi K ns bmB l=true->Tl h ns bmB l
 |[],e=>by rw[<-beq_iff_eq.mp e];exact .last
 |v::r,e=>by
  unfold Zi at e;rcases Bool.or_eq_true_iff.mp e with q|q
  .rw[<-beq_iff_eq.mp q];exact .last
  .split at q
   .split at q
    .rename_i ho
     simp only[cy,Ybc,Et] at q;exact .more (X _ _ ho) (.of_isNs (PySem.W.isNs_of_in X q.1.1)) (λn hn=>PySem.W.nsMap_none_of_in X q.1.1 (q.1.2 n hn)) (xO X q.2)
    .cases q
   .cases q
theorem qh{N:Addr}{n:Str}(X:K.In h)(G:h.Ns N m)(e:PySem.W.nsIn K N n=some (some v)):m n=some v:=by
 obtain⟨ob,es,ep,at1,at2,_,fnd⟩:=G;unfold PySem.W.nsIn at e;split at e
 .rename_i z
  have y:=X _ _ z;rw[at1] at y;cases y;cases at2;split at e
  .rename_i found
   cases e;rw[<-fnd];unfold nsFind findBy;rw[<-tu,found];rfl
  .split at e<;>cases e
 .cases e
def clsF(K:D9)(C:Addr)(bmB:List Value)(newId:String)(f:Str)(fI:Addr):Bool:=match K.lookup C with
 | some ⟨.type "type",_,.cls cd,sl⟩=>(match cd.mro,sl.toList with
  |.ref C'::bm,[_,_,_,_,some (.builtin n),_]=>C'==C&&n==newId && !cd.hasDel&&cd.hasDict&&Zi K ("__init__" ::quiet f) bmB bm&&PySem.W.nsOkIn K cd.ns&&PySem.W.nsIn K cd.ns "__init__" == some (some (.ref fI))&&(quiet f).all (λn=>PySem.W.nsIn K cd.ns n==some none)
  |_,_=>false)
 |_=>false
structure CF(h:Heap)(C:Addr)(bmB:List Value)(newId:String)(f:Str)(fI:Addr):Prop where
 h:∃(bm:List Value) (N:Addr) (nm qn:Str) (bs:List Value) (sn:List Str) (sub:List Value) (ab:Bool) (col:Option Bool) (dd:Option Addr) (k0 k1 k2 k3 k5:Option Value) (mN:Str->Option Value),
  h.get? C=some (excClassObj nm qn C N bs bm true sn sub ab col dd k0 k1 k2 k3 k5 newId)/\h.Ns N mN/\mN "__init__" = some (.ref fI)/\(∀n∈quiet f,mN n=none)/\Tl h ("__init__" ::quiet f) bmB bm
theorem clsF_of{C:Addr}{f:Str}(X:K.In h)(q:clsF K C bmB newId f fI=true):CF h C bmB newId f fI:=by
 unfold clsF at q;split at q
 .rename_i dd cd sl ho
  split at q
  .rename_i C' bm k0 k1 k2 k3 n k5 hm hs
   simp only[cy,Et,mF,Ybc] at q;obtain⟨⟨⟨⟨⟨⟨⟨rfl,rfl⟩,hdel⟩,hdc⟩,ht⟩,hok⟩,hi⟩,hq⟩:=q;obtain⟨nm,bs,mro,ns,qn,hd,sn,sub,ab,col,del⟩:=cd;dsimp only at hm hdel hok hi hq hdc;subst hm hdel hdc;have hsl:sl = #[k0,k1,k2,k3,some (.builtin n),k5]:=by
    cases sl with
    |mk l=>exact congrArg Array.mk hs
   subst hsl;have nsx:h.Ns ns (h.nsMap ns):=.of_isNs (PySem.W.isNs_of_in X hok);exact⟨bm,ns,nm,qn,bs,sn,sub,ab,col,dd,k0,k1,k2,k3,k5,_,X _ _ ho,nsx,qh X nsx hi,λm hm=>PySem.W.nsMap_none_of_in X hok (hq m hm),xO X ht⟩
  .cases q
 .cases q
def exX(C t e:Addr)(dx:Option Addr):HO:=.ext λh=>h.get? e=some (exo C t dx)
theorem HOk.obj(k:HOk P w H h){u:HO}(e:H b=some u):∃o,h.get? b=some o:=by
 have q:=k b u e;cases u with
 |lst xs=>obtain⟨_,_,_,_,e⟩:=q;exact⟨_,e⟩
 |tup xs=>obtain⟨_,_,_,o,e,_⟩:=q;exact⟨_,e⟩
 |dK kvs=>obtain⟨_,_,_,_,o,_,_,e,_⟩:=q;exact⟨_,e⟩
 |dT kvs=>obtain⟨_,_,_,_,o,_,_,e,_⟩:=q;exact⟨_,e⟩
 |set S n=>obtain⟨o,_,_,_,e,_⟩:=q;exact⟨_,e⟩
 |ins C dx fs=>obtain⟨_,_,_,e,_⟩:=q;exact⟨_,e⟩
 |own y=>obtain⟨o,e⟩:=q;exact⟨_,e⟩
 |xd fs=>obtain⟨_,⟨o,_,_,e,_⟩,_⟩:=q;exact⟨_,e⟩
 |rng lo hi=>obtain⟨_,_,_,e⟩:=q;exact⟨_,e⟩
 |frz ob u=>obtain⟨e,_⟩:=q;exact⟨_,e⟩
 |tbl ps=>exact⟨_,(show h.get? b=some _ from q)⟩
 |met f y=>exact⟨_,(show h.get? b=some _ from q)⟩
 |ext φ=>obtain⟨_,⟨o,e⟩,_⟩:=q;exact⟨_,e⟩
abbrev bmV:List Value:=[.type "ValueError",.type "Exception",.type "BaseException",.type "object"]
section
variable{C:Addr}{f:Str}{o value:Expr}
def qi(C:Addr)(f:Str):TS:=λD σ H=>∃e t k,σ[0]? = some (some (.ref e))/\σ[1]? = some (some (.int k))/\H e=some (exX C t e none)/\∀d,H d=none->d≠e->D.nx σ (upd (upd H e (exX C t e (some d))) d (.xd [(f,.int k)]))
theorem df(hq:clsF X.K C bmV newId f fI=true)(hB:typeLookup (.type "ValueError") f=pure none)(ho:PE X o (jl 0))(hv:PE X value (jl 1))(hs:swapsWith value (some (.Attribute o f pos')) pos.line X.env=pure false) :
  PS X (.Assign [.Attribute o f pos'] value pos) (qi C f):=by
 rintro pins s σ H D I ⟨e,t,k,h0,h1,he,q⟩;refine plainObj_wpAny_Assign_Attribute (aU (hv pins s σ H (λv H'=>v=.int k/\H'=H) I ⟨_,h1,rfl,rfl⟩) λu s1 ⟨y,H1,I1,ry,ey,eH⟩=>?_) hs;subst ey eH;refine aU (ho pins s1 σ H1 (λv H'=>v=.ref e/\H'=H1) I1 ⟨_,h0,rfl,rfl⟩) λov s2 ⟨x,H2,I2,rx,ex,eH⟩=>?_;subst ex eH;cases rx;have obj:s2.heap.get? e=some (exo C t none):=(I2.hok e _ he).1;obtain⟨bm,N,nm,qn,bs,sn,sub,ab,col,dd,k0,k1,k2,k3,k5,mN,hC,hN,_,qm,T⟩:=(clsF_of I2.kIn hq).h;obtain⟨hp,g,dr,tk,os⟩:=s2;dsimp only at obj hC hN T I2;refine Ao (B:= "ValueError") PySem.F.store_ValueError hC hN T (qm _ (by simp[quiet])) (qm _ (by simp[quiet])) (by simp[quiet]) (by simp[quiet]) hB obj rfl rfl rfl λh' tk' d m nd ne x1 x2 x3 x4 x5=>?_;have Hd:H2 d=none:=by
  cases z:H2 d with
  |none=>rfl
  |some w=>
   obtain⟨o,y⟩:=HOk.obj I2.hok z;have y':hp.get? d=some o:=y;rw[nd] at y';cases y'
 have ned:∀{b o},hp.get? b=some o->b≠d:=λz y=>by rw[y,nd] at z;cases z
 have nee:∀{b},H2 b=none->b≠e:=λz y=>by rw[y,he] at z;cases z
 have at1:∀{b},b≠d->b≠e->upd (upd H2 e (exX C t e (some d))) d (.xd [(f,.int k)]) b=H2 b:=λy z=>by rw[aE y,aE z]
 have un:Un X.fs [] H2 (upd (upd H2 e (exX C t e (some d))) d (.xd [(f,.int k)])) hp h':=by
  refine ⟨λb o z n _ _=>x5 b o (nee n) z,λb o z n _ _=>⟨o.slots,x5 b o (nee n) z⟩,λb o z n _=>?_,λb o z _=>?_,λb xs z=>?_,λb o xs z=>?_,λb ps z=>⟨#[],?_⟩,λ_ _ n ys=>by
   by_cases y:sysModules=d
   .rw[y,aF];exact λz=>by cases z
   by_cases v:sysModules=e
   .rw[aE y,v,aF];exact λz=>by first|cases z|(unfold exX at z;cases z)
   .rw[at1 y v];exact n ys⟩
  .rw[at1 (ned z) (nee n)];exact n
  .by_cases y:b=e
   .rw[y];exact⟨_,x1⟩
   .exact⟨o,x5 b o y z⟩
  .rw[at1 (λy=>by rw[y,Hd] at z;cases z) (λy=>by rw[y,he] at z;cases z)];exact z
  .rw[at1 (λy=>by rw[y,Hd] at z;cases z) (λy=>by rw[y,he] at z;cases z)];exact z
  .rw[at1 (λy=>by rw[y,Hd] at z;cases z) (λy=>by rw[y,he] at z;cases z),z];simp
 have hok:HOk X.prog X.w (upd (upd H2 e (exX C t e (some d))) d (.xd [(f,.int k)])) h':=λb u z=>by
  by_cases y:b=d
  .subst y
   rw[aF] at z;cases z;refine⟨m,x2,λn=>?_⟩
   by_cases w:n=f
   .subst w
    rw[x3];simp only[eC,Er];exact ry
   .rw[x4 n w]
    have:(n==f)=false:=beq_eq_false_iff_ne.mpr w;simp only[eC,this,pp];trivial
  .rw[aE y] at z
   by_cases w:b=e
   .subst w
    rw[aF] at z;cases z;exact⟨x1,⟨_,x1⟩,λ_ _ p r=>r _ p⟩
   .rw[aE w] at z
    refine(I2.hok b u z).stay (λc v hc r=>?_) (λc r=>?_) λc xs r=>?_
    .refine x5 c v (λp=>?_) r
     rcases hc with hc|hc
     .exact w (hc.symm.trans p)
     .rw[p,he] at hc;cases hc
    .rw[at1 (λp=>by rw[p,Hd] at r;cases r) (λp=>by rw[p,he] at r;cases r)];exact r
    .rw[at1 (λp=>by rw[p,Hd] at r;cases r) (λp=>by rw[p,he] at r;cases r)];exact r
 exact⟨σ,_,I2.un (t':=tk') un hok,q d Hd ne⟩
end
def spI(C:Addr)(f:Str):Sp:=λvs H Q _=>∃e t k,vs=[.ref e,.int k]/\H e=some (exX C t e none)/\∀d,H d=none->d≠e->Q .non (upd (upd H e (exX C t e (some d))) d (.xd [(f,.int k)]))
theorem init_ok{base:Heap}{a0 a1 f:Str}{C fJ:Addr}{p0 p1:Pos}(F:Fun K x qual st fI fd)(sc:aT [a0,a1] [a0,a1] (aA st))
  (hq:clsF K C bmV newId f fJ=true) (hB:typeLookup (.type "ValueError") f=pure none) (hb:aH st=[.Assign [.Attribute (.Name a0 p0) f pos'] (.Name a1 p1) pos])
  (hs:∀env,swapsWith (.Name a1 p1) (some (.Attribute (.Name a0 p0) f pos')) pos.line env=pure false) (d0:(a0==("__debug__" : Str))=false) (d1:(a1==("__debug__" : Str))=false) (c0:(a0==("__classdict__" : Str))=false) (c1:(a1==("__classdict__" : Str))=false) :
  FnOk P w K mg base (bD P w) (k+1) fI fd [a0,a1] (spI C f):=by
 obtain⟨oc,od,kV,doc,pm,an,cdv,ct,osl,rfl,lk,hcd⟩:=F.ex;have v0:g5 (aA st) a0:=(sc.par a0 (by simp)).elim .inl λz=>.inr (.inl z);have v1:g5 (aA st) a1:=(sc.par a1 (by simp)).elim .inl λz=>.inr (.inl z);refine eS lk hcd sc (λvs H Q E ⟨e,t,k,z,_⟩=>by rw[z];rfl) λA outer s H vs Q E hr hsp=>?_;obtain⟨e,t,k,rfl,he,q⟩:=hsp;refine⟨qi C f,?_,e,t,k,rfl,rfl,he,q⟩;rw[hb];exact cU (df (X:=bB (bD P w) P w K mg base [a0,a1] qual (aA st) fI cdv A outer s H E) hq hB (bN rfl v0 d0 c0) (bN rfl v1 d1 c1) (hs _))
end Fl
section
variable{l:Addr}{items:Array Value}
theorem qj{Q:List Value->Shared->Prop}(hh:A.in1.handled=none)(hl:s.heap.IsList l items)(h1':1<=items.size)(hz:items.size<=sizeLine)
  (h:∀(h':Heap) (tk:Nat),(∀b o,s.heap.get? b=some o->h'.get? b=some o)->Q (items.toList.take 1++[.ref h'.objs.size]) { s with heap:=h'.push { cls:=.type "list",data:=.seq (items.toList.drop 1).toArray },toks:=tk }) :
  wpAny (model prog w) A (unpackItems (.ref l) 2 (some 1)) Q E s:=by
 have hlt:l<s.heap.objs.size:=let⟨o,ho,_⟩:=hl;bY ho;unfold unpackItems notIterableAtAll;refine D8 (D8 (wpAny_specialOf hl.typeIs slot_list_iter.lookup (Ea ?_)));dsimp only;rw[if_neg (by first|decide|simp)];refine D8 (Eo (wpAny_pyIter_list hl ?_));have hne:l≠s.heap.objs.size:=el hlt;have at0:(s.heap.push { cls:=.type "list_iterator",data:=.fields #[.ref l,.int 0 0] }).IsListIter s.heap.objs.size l 0:=⟨_,gc _ rfl,rfl,rfl⟩
 have kl:∀{h:Heap},(∀b o,s.heap.get? b=some o->h.get? b=some o)->h.IsList l items:=λk=>let⟨o,ho,r⟩:=hl;⟨o,k _ _ ho,r⟩;refine D8 (Eo (PySem.W.kun_draw hne 1 0 _ _ at0 (kl λ_ _ e=>cj _ e) (by omega) λh1 it1 sb1=>?_));have k1:∀b o,s.heap.get? b=some o->h1.get? b=some o:=λb o e=>(sb1.2 b (el (bY e))).trans (cj _ e);rw[rG];have hln:(items.toList.take 1).length=1:=by rw[kL];simp;omega
 rw[if_neg (by rw[hln];decide)];have sz1:s.heap.objs.size<h1.objs.size:=let⟨o,ho,_⟩:=it1;bY ho;refine D8 (Eo (PySem.W.kun_collect (k:=1) (T:= "list_iterator") (.inr (.inr (.inl rfl))) (Walks.list hh s.heap.objs.size l hne items) (λi u st=>let⟨o,ho,hc,_⟩:=st.1;⟨o,ho,hc⟩) h1' ⟨it1,kl k1⟩ sz1 (lQ hlt sz1) (λh2 tk k2=>?_) hz));have kk:∀b o,s.heap.get? b=some o->h2.get? b=some o:=λb o e=>k2 b o (el (bY e)) (k1 b o e);rw[if_neg (by simp)];have e:(items.toList.drop 1).length-(2-1-1)=(items.toList.drop 1).length:=by omega
 rw[e,List.take_length,List.drop_length];refine D8 (wpAny_newList ?_ (by rw[lR];simp;omega));refine Ea ?_;rw[kn];exact h h2 tk kk
end
section
variable{sp:Pos}{b:Expr}
def qk(K:D9)(t:kS):TG:=λv σ H Q=>∃l y ys,v=.ref l/\SqL K H l (y::ys)/\∀D,H D=none->t [y,.ref D] σ (upd H D (.lst ys)) Q
theorem AQ{t:kS}(hc:X.calm=true)(h:oj X [a,b] t)(hn:(assignEach [a,.Starred b sp] X.env).length=2:=by rfl)(hst:(assignEach [a,.Starred b sp] X.env).findIdx? (·.1)=some 1:=by rfl)
  (hs:(assignEach [a,.Starred b sp] X.env).map (·.2)=(assignEach [a,b] X.env).map (·.2):=by rfl):PG X (.Tuple [a,.Starred b sp] k pos) (qk X.K t):=by
 intro pins s σ H v u Q I r hw;obtain⟨l,y,ys,e1,hq,hw⟩:=hw;subst e1;cases r;obtain⟨its,rv,ht,hz⟩:=I.list hq;rw[assign_Tuple];refine D8 (EA ?_);unfold unpack;rw[hn,hst,hs];have hl:its.toArray.size=ys.length+1:=by rw[cw,<-rv.length];rfl
 refine D8 (Eo (qj (I.ok.hd hc) ht.isList (by omega) (by rw[hl];exact hz) λh' tk k=>?_));cases rv with
 | @cons _ u0 _ us r0 rs=>
  have I1:Inv X pins σ H { s with heap:=h' }:=I.kept (t':=s.toks) k;have I2:=I1.lnew (t':=tk) rs (fA (Nat.le_succ _) hz);exact h pins _ σ _ [y,.ref h'.objs.size] _ Q I2 (.cons r0 (.cons rfl .nil)) (hw _ I1.fresh)
def lh(X:Cx)(a:Addr)(f:Str->Option Value):Prop:=∃(es:Array DictEntry) (n:Nat),X.K.lookup a=some { cls:=.type "dict",data:=.dict es n }/\PySem.W.KeysLit X.w.params es.toList/\(a==sysModules)=false/\f=λk=>findBy Value.isStrOf es k
theorem AR:OpR X (compareOp .In) (λx y H Q=>∃k a f,x=.str k/\y=.ref a/\lh X a f/\Q (.bl (f k).isSome) H):=by
 intro pins s σ H x y v u Q I rx ry h;obtain⟨k,a,f,rfl,rfl,⟨es,n,hl,hk,hs,rfl⟩,q⟩:=h;obtain⟨t,rfl⟩:=rx;cases ry;exact wpAny_in_of (strKind_is _ _ k t) hs (PySem.W.mapOf_K I.kIn hl hk) ⟨.bl _,H,I.tok _,rfl,q⟩
theorem AS:OpR X (compareOp .NotIn) (λx y H Q=>∃k a f,x=.str k/\y=.ref a/\lh X a f/\Q (.bl (!(f k).isSome)) H):=by
 intro pins s σ H x y v u Q I rx ry h;obtain⟨k,a,f,rfl,rfl,⟨es,n,hl,hk,hs,rfl⟩,q⟩:=h;obtain⟨t,rfl⟩:=rx;cases ry;exact wpAny_notIn_of (strKind_is _ _ k t) hs (PySem.W.mapOf_K I.kIn hl hk) ⟨.bl _,H,I.tok _,rfl,q⟩
theorem uo:IxR X (λx y H Q=>∃k a f v u,y=.str k/\x=.ref a/\lh X a f/\f k=some u/\RelV v u/\Q v H):=by
 intro value slice pins s σ H x y v u Q I rx ry h hs;obtain⟨k,a,f,v0,u0,rfl,rfl,⟨es,n,hl,hk,hm,rfl⟩,hf,rv,q⟩:=h;obtain⟨t,rfl⟩:=ry;cases rx;refine subscriptTail_builtinR (x:=u0) (T:= "dict") ⟨_,I.kIn _ _ hl,rfl⟩ PySem.F.slot_dict_getitem.lookup (wpAny_getItem_of (strKind_is _ _ k t) (PySem.W.mapOf_K I.kIn hl hk) hf ⟨rfl,v0,H,I.tok _,rv,q⟩) hs
end
theorem xP(f:Nat->Int):∀k,argBest (λi j=>decide (f i>f j)) k<=k/\∀j,j<=k->f j<=f (argBest (λi j=>decide (f i>f j)) k)
 |0=>⟨bO _,λj hj=>by rw[Nat.le_zero.mp hj];exact Int.le_refl _⟩
 |k+1=>by
  obtain⟨h1,h2⟩:=xP f k;rw[argBest]
  by_cases z:f (k+1)>f (argBest (λi j=>decide (f i>f j)) k)
  .rw[if_pos (Ec z)]
   refine⟨bO _,λj hj=>?_⟩;rcases Nat.eq_or_lt_of_le hj with rfl|hj
   .exact Int.le_refl _
   .have:=h2 j (by omega);omega
  .rw[if_neg (by simpa using z)]
   refine⟨by omega,λj hj=>?_⟩;rcases Nat.eq_or_lt_of_le hj with rfl|hj
   .omega
   .exact h2 j (by omega)
section
theorem AT(hc:X.calm=true):b7 X (.builtin "max") (λxs H Q=>∃(p:Addr) (ns:List Int),xs=[.ref p]/\SqL X.K H p (ns.map V.int)/\ns≠[]/\∀m∈ns,(∀x∈ns,x<=m)->Q (.int m) H):=by
 intro pins s σ H xs us Q I r h;obtain⟨p,ns,rfl,hq,hne,q⟩:=h;obtain⟨u,rfl,ru⟩:=bT r;cases ru;obtain⟨its,rv,pl,hz⟩:=I.list hq;have hits:∃ps:List (Int×Tok),its=ps.map (λp=>Value.int p.1 p.2)/\ps.map (·.1)=ns:=by
  clear hz pl hq q hne
  induction ns generalizing its with
  |nil=>cases rv;exact⟨[],rfl,rfl⟩
  |cons n ns ih=>
   cases rv with
   |cons r1 r2=>
    obtain⟨t,rfl⟩:=r1;obtain⟨ps,rfl,e⟩:=ih _ r2;exact⟨(n,t)::ps,rfl,by rw[dD,e]⟩
 obtain⟨ps,rfl,e⟩:=hits;have hl:s.heap.IsList p (intItems ps.toArray):=by
  have:=pl.isList;simpa[intItems] using this
 have h0:0<ps.length:=by
  cases ps with
  |nil=>rw[<-e] at hne;exact Eb rfl hne
  |cons _ _=>simp
 refine max_intList (I.ok.hd hc) hl (by simpa using h0) λv h' tk hv k=>?_;obtain⟨b1,b2⟩:=xP (numAt ps.toArray) (ps.toArray.size-1);generalize argBest (λi j=>decide (numAt ps.toArray i>numAt ps.toArray j)) (ps.toArray.size-1)=a at hv b1 b2;have ha:a<ps.length:=by simp at b1;omega
 have na:∀j,j<ps.length->ns[j]? = some (numAt ps.toArray j):=λj hj=>by
  rw[<-e,e7,jj hj];simp[numAt,hj]
 have ev:v=.int (numAt ps.toArray a) (ps[a]'ha).2:=by
  rw[show(intItems ps.toArray)[a]? = some (Value.int (ps[a]'ha).1 (ps[a]'ha).2) by simp[intItems,ha]] at hv;rw[<-Ed hv];simp[numAt,ha]
 refine⟨.int (numAt ps.toArray a),H,I.kept k,⟨_,ev⟩,q _ (og (na a ha)) λx hx=>?_⟩;obtain⟨j,hj⟩:=List.mem_iff_getElem?.mp hx;have hj':j<ps.length:=by
  have:=(Yaq.mp hj).1;rw[<-e] at this;simpa using this
 rw[na j hj'] at hj;rw[<-Ed hj];exact b2 j (by simp;omega)
end
namespace Fl
open PySem.Builtin PySem.Builtin.ObjectAttr
section
variable{C N x dx:Addr}{bs:List Value}{dd:Option Addr}{B sa owner:String}{m0:Str->Option Value}
theorem AU{l0:List Str}{Q:Unit->Shared->Prop}(SF:StoreFacts B bmB sa owner)(hC:h.get? C=some (excClassObj nm q C N bs bm true sn sub ab col dd k0 k1 k2 k3 k5 newId))(hN:h.Ns N mN)(T:Tl h ns bmB bm)
  (m1:mN "__setattr__" = none) (m2:mN name=none) (i1:("__setattr__" : Str)∈ns) (i2:name∈ns) (hB:typeLookup (.type B) name=pure none) (hx:h.get? x=some o) (hc:o.cls=.ref C) (hd:o.dict=some dx) (hv:o.data=.fields vs) (hD:h.Ns1 dx m0) (hw:Within m0 l0) (hl:l0.length<=10)
  (k:∀h' tk m,h'.Ns1 dx m->m name=some v->(∀n,n≠name->m n=m0 n)->(∀b u,b≠dx->h.get? b=some u->h'.get? b=some u)->Q () ⟨h',g,d,tk,os⟩) :
  wpAny (model prog w) A (setAttr (.ref x) name v) Q E ⟨h,g,d,t,os⟩:=by
 have bi:=SF.slot.bind (.ref x);have own:(Value.ref C::bm).contains (.type owner)=true:=by rw[pk,T.has SF.hasOwner,Bool.or_true]
 have pass:=SF.passes (.ref x);unfold setAttr callSpecial? specialOf
 repeat (any_goals (first|assumption|(with_reducible refine Ef hx ?_;rw[hc])|with_reducible refine look hC hN m1 T i1 SF.mro SF.slot.lookup ?_|wp_step))
 refine codeAny_call_builtin SF.slot.plain SF.entry ?_;simp only[checkBuiltinCall,SF.kind,SF.split];refine D8 ?_;unfold isInstance
 repeat (first|(with_reducible refine Ef hx ?_;rw[hc])|(with_reducible refine Ey hC ?_;rw[own])|wp_step)
 have chk:∀{R:Unit->Shared->Prop} {z:Shared},R () z->wpAny (model prog w) A.in1 (match Manifest.signature? sa with|some sig=>Bind.checkArgs sa sig ⟨[.ref x]++[.str name t,v],[]⟩|_=>pure ()) R (λe s'=>E e s') z:=by
  intro R z r;cases e:Manifest.signature? sa with
  |none=>exact Ea r
  |some sig=>
   have ar:=SF.args (.ref x) (.str name t) v;simp only[argsOk,e] at ar;have ar':Bind.checkArgs sa sig ⟨[.ref x]++[.str name t,v],[]⟩=pure ():=ar;show wpAny _ _ (Bind.checkArgs sa sig ⟨[.ref x]++[.str name t,v],[]⟩) _ _ _;rw[ar'];exact Ea r
 refine chk ?_;clear chk;unfold Builtin.«object.__setattr__»
 repeat (first|rw[refuse_eq]|(rw[refuseLoop_ref,T.passes,pass])|(with_reducible refine Ef hx ?_;rw[hc])|with_reducible refine wpAny_mroOf_exc hC ?_|with_reducible refine look hC hN m2 T i2 SF.mro hB ?_|wp_step)
 rw[hd];refine Ea ?_;show wpAny _ _ (storeInDict dx (.str name t) name v) _ _ _;unfold storeInDict newKeyGuard;refine D8 (Ea (D8 (wpAny_nsSet1 hD λh3 n3 same=>?_)));obtain⟨oD,es,ep,g1,g2,g3⟩:=n3.count (Within.cons name v hw);refine D8 (wpAny_lookBehind g1 (by rw[g2];exact pastItsLine_dict (fA g3 (by rw[cn,sizeLine_eq];omega))) ?_)
 wp_walk
 exact k h3 _ _ n3 (by simp) (λn ne=>by simp[ne]) λb u ne z=>(same.2 b ne).trans z
end
section
variable{C N:Addr}{bs:List Value}{dd:Option Addr}
theorem AV{args:List Expr}(hp:(backTo cpos (starEach args env)).any (·.1)=false)
  (k:wpAny (model prog w) A (eval (.Name x np) env) (λf s1=>f = .ref C/\wpAny (model prog w) A (evalArgs (.ref C) true (backTo cpos (starEach args env)) [])
   (λa s2=>a.kw=[]/\s2.heap.get? C=some (excClassObj nm q C N bs bm hdct sn sub ab col dd k0 k1 k2 k3 k5 newId)/\wpAny (model prog w) A (call (.ref C) a.pos) Q E s2) E s1) E s) :
  wpAny (model prog w) A (eval (.Call (.Name x np) args [] cpos) env) Q E s:=by
 refine wpAny_Call_ofName (Ep k (λf s1 y=>?_) λ_ _ z=>z);obtain⟨rfl,y⟩:=y;unfold callWith;refine D8 (Eo (Ep y (λa s2 y=>D8 (EA ?_)) λ_ _ z=>z));obtain⟨ap,ak⟩:=a;obtain⟨rfl,cC,y⟩:=y;obtain⟨hp',g,d,tk,os⟩:=s2;simp only[hp];exact D8 (wpAny_keeperOf_exc cC (D8 (Ep y (λv s3 z=>D8 (Eo (wpAny_point (Ea z)))) λ_ _ z=>z)))
end
section
variable{C:Addr}{f:Str}{sp:Sp}{H2:Hp}{s2:Shared}{vs:List V}{Q:VK}
theorem AW(hq:clsF X.K C bmV "ValueError.__new__" f fI=true)(Fi:FnOk X.prog X.w X.K X.mg X.base (bD X.prog X.w) k fI fd ps sp)(hro:Room (k+1) X.A)(hb:Binds X.K fd ps [])(hl:∃od osl,X.K.lookup fI=some ⟨.type "function",od,.func fd,osl⟩)
  (I2:Inv X pins σ H2 s2) (rv:Vals vs us) (hz:us.length<=sizeLine) (hex:X.ex=[]) (hs:∀e t,H2 e=none->sp (.ref e::vs) (upd H2 e (exX C t e none)) (λv H5=>v=.non/\Q (.ref e) H5) E0) :
  wpAny (model X.prog X.w) X.A (call (.ref C) us) (EP X pins σ Q) X.xe s2:=by
 obtain⟨bm,N,nm,qn,bs,sn,sub,ab,col,dd,k0,k1,k2,k3,k5,mN,hC,hN,hi,qm,T⟩:=(clsF_of I2.kIn hq).h;obtain⟨od,osl,lI⟩:=hl;have hoI:=I2.kIn _ _ lI;obtain⟨hp,g,d,tk,os⟩:=s2;refine An (hr:=hz) PySem.F.excBase_ValueError (T.own (by simp)) hC hN hi hoI rfl λh' e m=>?_;obtain⟨t,at1,_,_⟩:=m.there;have I3:Inv X pins σ H2 ⟨h',g,d,tk,os⟩:=I2.kept (t':=tk) m.keeps;have noE:∀{b o},hp.get? b=some o->b≠e:=λz y=>by rw[y,m.new] at z;cases z
 have He:H2 e=none:=by
  cases z:H2 e with
  |none=>rfl
  |some u=>obtain⟨o,y⟩:=HOk.obj I2.hok z;exact Eb rfl (noE y)
 have h0:X.s₀.heap.get? e=none:=by
  cases z:X.s₀.heap.get? e with
  |none=>rfl
  |some o=>obtain⟨o',y⟩:=I2.base.there e o z (by rw[hex];simp);exact Eb rfl (noE y)
 have hL:e≠X.env.locals:=λz=>by
  obtain⟨_,⟨o,_,_,y,_⟩,_⟩:=I2.loc;exact noE y z.symm
 have I4:Inv X pins σ (upd H2 e (exX C t e none)) ⟨h',g,d,tk,os⟩:=I3.track He h0 hL (λy c z w=>by
  obtain⟨v,o,ho,_⟩:=I2.cell y c z;exact noE ho w) (λp hp w=>noE (I2.pin p hp).1 w) ⟨at1,⟨_,at1⟩,λ_ _ p r=>r _ p⟩ (λ_ z=>by first|cases z|(unfold exX at z;cases z))
 have hs':=hs e t He;have hlen:(Value.ref e::us++[]).length=ps.length:=by
  have:=Fi.len _ _ _ _ hs';rw[<-this,kn,cn,cn,rv.length]
 have bi:=hb ⟨h',g,d,tk,os⟩ (.ref e::us) I4.kIn hlen;rw[kn] at bi;refine wpAny_call (codeAny_mono (Fi.run _ X.stack _ _ ⟨.ref e::us,[]⟩ (.ref e::us) (.ref e::vs) _ E0 (hro.make C us []) (I4.env0.make C us []) bi (.cons rfl rv) hs') λr s3 z=>?_);cases r with
 |error e'=>exact(qd pins σ _ _ e' s3 I4 z:_)
 |ok fl=>
  cases fl with
  |ret u=>
   obtain⟨v,H',I5,r5,rfl,q5⟩:=I4.after z;exact⟨r5,.ref e,H',I5,rfl,q5⟩
  |next=>exact Ej z
  |brk=>exact Ej z
  |cont=>exact Ej z
end
section
variable{t:TA}{o value:Expr}
theorem pe_mkx{C:Addr}{f:Str}{sp:Sp}(hq:clsF X.K C bmV "ValueError.__new__" f fI=true)(Fi:FnOk X.prog X.w X.K X.mg X.base (bD X.prog X.w) k fI fd ps sp)(hro:Room (k+1) X.A)(hb:Binds X.K fd ps [])(hl:∃od osl,X.K.lookup fI=some ⟨.type "function",od,.func fd,osl⟩)
  (hm:X.mg x=some (.ref C)) (ha:PA X (a::es) t) (hg:Gl X x:=by rfl) (hd:(x==("__debug__" : Str))=false:=by decide) (he:starEach (a::es) X.env=(false,eval a X.env)::starEach es X.env:=by rfl) (hp:(backTo cpos (starEach (a::es) X.env)).any (·.1)=false:=by rfl) (hex:X.ex=[]:=by rfl) :
  PE X (.Call (.Name x np) (a::es) [] cpos) (λσ H Q=>t σ H λvs H1=>vs.length<=10/\∀e t,H1 e=none->sp (.ref e::vs) (upd H1 e (exX C t e none)) (λv H5=>v=.non/\Q (.ref e) H5) E0):=by
 intro pins s σ H Q I h;obtain⟨bm,N,nm,qn,bs,sn,sub,ab,col,dd,k0,k1,k2,k3,k5,mN,hC,hN,hi,qm,T⟩:=(clsF_of I.mod.kin hq).h;refine AV (C:=C) (nm:=nm) (q:=qn) (N:=N) (bs:=bs) (bm:=bm) (hdct:=true) (sn:=sn) (sub:=sub) (ab:=ab) (col:=col) (dd:=dd) (k0:=k0) (k1:=k1) (k2:=k2) (k3:=k3) (k5:=k5) (newId:= "ValueError.__new__") hp (cc I hg hm ⟨rfl,?_⟩ hd);have hA:=ha cpos pins s σ H _ I h;rw[he] at hA ⊢;refine Calls.evalArgs_plain (aU hA λus s2 ⟨vs,H2,I2,rv,hn,q⟩=>⟨rfl,I2.bk _ _ hC,?_⟩);exact AW hq Fi hro hb hl I2 rv (by rw[<-rv.length];exact fA hn (by decide)) hex q
section
variable{C:Addr}{f:Str}
def ql(C:Addr)(f0 f:Str):TS:=λD σ H=>∃e t d k j,σ[0]? = some (some (.ref e))/\σ[2]? = some (some (.int j))/\H e=some (exX C t e (some d))/\H d=some (.xd [(f0,.int k)])/\D.nx σ (upd H d (.xd [(f0,.int k),(f,.int j)]))
theorem AX(hne:f≠f0)(hq:clsF X.K C bmV newId f fI=true)(hB:typeLookup (.type "ValueError") f=pure none)(ho:PE X o (jl 0))(hv:PE X value (jl 2))(hs:swapsWith value (some (.Attribute o f pos')) pos.line X.env=pure false) :
  PS X (.Assign [.Attribute o f pos'] value pos) (ql C f0 f):=by
 rintro pins s σ H D I ⟨e,t,dx,k,j,h0,h1,he,hdx,q⟩;refine plainObj_wpAny_Assign_Attribute (aU (hv pins s σ H (λv H'=>v=.int j/\H'=H) I ⟨_,h1,rfl,rfl⟩) λu s1 ⟨y,H1,I1,ry,ey,eH⟩=>?_) hs;subst ey eH;refine aU (ho pins s1 σ H1 (λv H'=>v=.ref e/\H'=H1) I1 ⟨_,h0,rfl,rfl⟩) λov s2 ⟨x,H2,I2,rx,ex,eH⟩=>?_;subst ex eH;cases rx;have obj:s2.heap.get? e=some (exo C t (some dx)):=(I2.hok e _ he).1;obtain⟨m0,n1,n2⟩:=I2.hok dx _ hdx;obtain⟨bm,N,nm,qn,bs,sn,sub,ab,col,dd,k0,k1,k2,k3,k5,mN,hC,hN,_,qm,T⟩:=(clsF_of I2.kIn hq).h;obtain⟨hp,g,dr,tk,os⟩:=s2;dsimp only at obj hC hN T I2 n1;have wi:Within m0 [f0]:=λy hy=>by
  have:=n2 y
  by_cases w:y=f0
  .rw[w];exact en ..
  .have z:(y==f0)=false:=beq_eq_false_iff_ne.mpr w
   simp only[eC,z,pp] at this;cases zz:m0 y with
   |none=>exact Eb zz hy
   |some u=>rw[zz] at this;exact this.elim
 refine AU (B:= "ValueError") PySem.F.store_ValueError hC hN T (qm _ (by simp[quiet])) (qm _ (by simp[quiet])) (by simp[quiet]) (by simp[quiet]) hB obj rfl rfl rfl n1 wi (by simp) λh' tk' m x2 x3 x4 x5=>?_;have ned:∀{b},H2 b=none->b≠dx:=λz y=>by rw[y,hdx] at z;cases z
 have at1:∀{b},b≠dx->upd H2 dx (.xd [(f0,.int k),(f,.int j)]) b=H2 b:=λy=>by rw[aE y]
 obtain⟨od,odn⟩:∃o,h'.get? dx=some o:=by obtain⟨o,_,_,y,_⟩:=x2.ns;exact⟨o,y⟩
 have un:Un X.fs [] H2 (upd H2 dx (.xd [(f0,.int k),(f,.int j)])) hp h':=by
  refine ⟨λb o z n _ _=>x5 b o (ned n) z,λb o z n _ _=>⟨o.slots,x5 b o (ned n) z⟩,λb o z n _=>?_,λb o z _=>?_,λb xs z=>?_,λb o xs z=>?_,λb ps z=>⟨#[],?_⟩,λ_ _ n ys=>by
   by_cases y:sysModules=dx
   .rw[y,aF];exact λz=>by cases z
   .rw[at1 y];exact n ys⟩
  .rw[at1 (ned n)];exact n
  .by_cases y:b=dx
   .rw[y];exact⟨_,odn⟩
   .exact⟨o,x5 b o y z⟩
  .rw[at1 (λy=>by rw[y,hdx] at z;cases z)];exact z
  .rw[at1 (λy=>by rw[y,hdx] at z;cases z)];exact z
  .rw[at1 (λy=>by rw[y,hdx] at z;cases z),z];simp
 have hok:HOk X.prog X.w (upd H2 dx (.xd [(f0,.int k),(f,.int j)])) h':=λb u z=>by
  by_cases y:b=dx
  .subst y
   rw[aF] at z;cases z;refine⟨m,x2,λn=>?_⟩
   by_cases w:n=f
   .subst w
    have z:(n==f0)=false:=beq_eq_false_iff_ne.mpr hne;rw[x3];simp only[eC,z,Er];exact ry
   .rw[x4 n w]
    have:=n2 n;have z:(n==f)=false:=beq_eq_false_iff_ne.mpr w
    by_cases w0:n=f0
    .subst w0
     simp only[eC,Er] at this ⊢;exact this
    .have z0:(n==f0)=false:=beq_eq_false_iff_ne.mpr w0
     simp only[eC,z,z0,pp] at this ⊢;exact this
  .rw[aE y] at z
   refine(I2.hok b u z).stay (λc v hc r=>?_) (λc r=>?_) λc xs r=>?_
   .refine x5 c v (λp=>?_) r
    rcases hc with hc|hc
    .exact y (hc.symm.trans p)
    .rw[p,hdx] at hc;cases hc
   .rw[at1 (λp=>by rw[p,hdx] at r;cases r)];exact r
   .rw[at1 (λp=>by rw[p,hdx] at r;cases r)];exact r
 exact⟨σ,_,I2.un (t':=tk') un hok,q⟩
end
def spI2(C:Addr)(f0 f:Str):Sp:=λvs H Q _=>∃e t k j,vs=[.ref e,.int k,.int j]/\H e=some (exX C t e none)/\∀d,H d=none->d≠e->Q .non (upd (upd H e (exX C t e (some d))) d (.xd [(f0,.int k),(f,.int j)]))
theorem init2_ok{base:Heap}{C:Addr}{a0 f:Str}{p0 p1 p3 q0 q1 r0 r1:Pos}(F:Fun K "__init__" qual st fI fd)(sc:aT [a0,f0,f] [a0,f0,f] (aA st))(hne:f≠f0)
  (hq:clsF K C bmV newId f0 fI=true) (hq2:clsF K C bmV newId f fI=true) (hB:typeLookup (.type "ValueError") f0=pure none) (hB2:typeLookup (.type "ValueError") f=pure none)
  (hb:aH st=[.Assign [.Attribute (.Name a0 p0) f0 q0] (.Name f0 p1) r0,.Assign [.Attribute (.Name a0 p2) f q1] (.Name f p3) r1])
  (hs:∀env,swapsWith (.Name f0 p1) (some (.Attribute (.Name a0 p0) f0 q0)) r0.line env=pure false) (hs2:∀env,swapsWith (.Name f p3) (some (.Attribute (.Name a0 p2) f q1)) r1.line env=pure false)
  (d0:(a0==("__debug__" : Str))=false) (d1:(f0==("__debug__" : Str))=false) (d2:(f==("__debug__" : Str))=false) (c0:(a0==("__classdict__" : Str))=false) (c1:(f0==("__classdict__" : Str))=false) (c2:(f==("__classdict__" : Str))=false) :
  FnOk P w K mg base (bD P w) (k+1) fI fd [a0,f0,f] (spI2 C f0 f):=by
 obtain⟨oc,od,kV,doc,pm,an,cdv,ct,osl,rfl,lk,hcd⟩:=F.ex;have v0:g5 (aA st) a0:=(sc.par a0 (by simp)).elim .inl λz=>.inr (.inl z);have v1:g5 (aA st) f0:=(sc.par f0 (by simp)).elim .inl λz=>.inr (.inl z);have v2:g5 (aA st) f:=(sc.par f (by simp)).elim .inl λz=>.inr (.inl z);refine eS lk hcd sc (λvs H Q E ⟨e,t,k,j,z,_⟩=>by rw[z];rfl) λA outer s H vs Q E hr hsp=>?_;obtain⟨e,t,k,j,rfl,he,q⟩:=hsp
 let X:=bB (bD P w) P w K mg base [a0,f0,f] qual (aA st) fI cdv A outer s H E
 refine⟨_,by rw[hb];exact dY (df (X:=X) hq hB (bN rfl v0 d0 c0) (bN rfl v1 d1 c1) (hs _)) (cU (AX (X:=X) (f0:=f0) hne hq2 hB2 (bN rfl v0 d0 c0) (bN rfl v2 d2 c2) (hs2 _))),?_⟩;refine⟨e,t,k,rfl,rfl,he,λd hd ne=>⟨e,t,d,k,j,rfl,rfl,by rw[aE (Em ne),aF],aF,?_⟩⟩;rw[g0];exact q d hd ne
end
end Fl
end L2
namespace LP
open PySem PySem.Spec PyProof.Rows L2
variable{dx od an:Option Addr}{K:D9}{a b fI fa:Addr}{k c j m:Nat}{vs us:List V}{e tg target iter:Expr}{H H1 H2 H0 H0':Hp}{o:HO}{σ:L2.St}{X:Cx}{EX:XK}{pos p p2 pos' py apos cpos np:Pos}{x w y qual name ex:Str}{op:CmpOp}{es ifs:List Expr}{fd:FuncData}{ps N L M os:List Str}{pins:List (Addr×Obj)}{s ns:List Int}{neg:Bool}{lo hi:Option Int}{st:List (List Int)}{sts as body:List Stmt}{sc:Scope}{P:Program}{mg:Str->Option Value}{r:List Rat}{l:PySem.W.OpenLaw}{q:Rat}{h hp:Heap}{osl sl:Array (Option Value)}{doc cdv:Value}{cd:ClassData}{Dn:fO}{pl:Sem Bool}{XP:(Str->Option Value)->Heap->Prop}{YP:World->Heap->Prop}
set_option genInjectivity true in
inductive D where
 |non|bl (b:Bool)|int (i:Int)|str (x:Str)|tup (xs:List D)|lst (xs:List D)|dic|pen|cls (n:Str)|exc (n:Str)|ty (n:String)|scr (xs:List D)|pl (k:Nat) (b:Addr)
variable{ds xs ys:List D}{d:D}{v:Except Str D}{xss:List (List D)}{Q:D->Prop}{G:D->D->Prop}{g:List D->(D->Prop)->Prop}{Q' QL:List D->Prop}{kvs:List (Str×D)}
structure Wd where
 G:Hp
 Pn:Addr->Prop
variable{W' W1 W2 W0:Wd}{R:Wd->Prop}
def KT(K:D9)(a:Addr)(vs:List V):Prop:=
 ∃(o:Obj) (its:Array Value) (n:Nat),K.lookup a=some o/\o.cls=.type "tuple" /\o.data=.seq its n/\its.size<=sizeLine/\Vals vs its.toList
def dH(K:D9)(n:Str):Option Addr:=match PySem.W.nsIn K mainGlobals n with
 |some (some (.ref a))=>some a
 |_=>none
def xtab:List (Str×Str×Str×Int):=[("NotStrong1", "NotStrong", "size",1),("NotStrong2", "NotStrong", "size",2),("NotStrong3", "NotStrong", "size",3),("NotStrong4", "NotStrong", "size",4),("NotStrong5", "NotStrong", "size",5),("NoText0", "NoText", "row",0),("NoText1", "NoText", "row",1),("NoText2", "NoText", "row",2),("NoText3", "NoText", "row",3),("NoText4", "NoText", "row",4),("NoText5", "NoText", "row",5),("NoText6", "NoText", "row",6),("NoText7", "NoText", "row",7),("NoText8", "NoText", "row",8),("NoText9", "NoText", "row",9),("NoText10", "NoText", "row",10),("NoText11", "NoText", "row",11),("NoText12", "NoText", "row",12),("NoText13", "NoText", "row",13),("NoText14", "NoText", "row",14),("NoText15", "NoText", "row",15)]
def jR(n:Str):Option (Str×Str×Int):=(xtab.find? λr=>r.1==n).map (·.2)
def gh(n:Str):Str:=match jR n with
 |some r=>r.1
 |none=>n
def fB(C a:Addr)(dx:Option Addr):HO:=.ext λh=>∃oe,h.get? a=some oe/\oe.cls=.ref C/\PySem.W.notCls oe=true/\oe.dict=dx/\∃vs,oe.data=.fields vs
def XD(W:Wd)(n:Str)(dx:Option Addr):Prop:=∀c f k,jR n=some (c,f,k)->∃d,dx=some d/\W.G d=some (.xd [(f,.int k)])
theorem XD.none{W:Wd}{n:Str}(h:jR n=none):XD W n dx:=λc f k e=>by rw[h] at e;cases e
theorem XD.mono{W:Wd}{n:Str}(g:∀a o,W.G a=some o->W'.G a=some o)(h:XD W n dx):XD W' n dx:=λc f k e=>let⟨d,e1,e2⟩:=h c f k e;⟨d,e1,g _ _ e2⟩
theorem AY{n:Str}(h:jR n=none):gh n=n:=by unfold gh;rw[h]
def AtR(K:D9)(W:Wd)(a:Addr)(k:Nat)(b:Addr):Prop:=match k with
 |0=>a=b
 |1=>∃C dx,W.G a=some (.ins C dx [("standing",.ref b)])/\dH K "Desk" = some C
 |_=>∃C dx,W.G a=some (fB C a (some dx))/\dH K "TooGreat" = some C/\W.G dx=some (.xd [("many",.int 7),("most",.int 5)])
theorem AtR.keep{W:Wd}(g:∀a o,W.G a=some o->(∀us,o≠.lst us)->W'.G a=some o)(h:AtR K W a k b):AtR K W' a k b:=by
 unfold AtR at h ⊢;split
 .exact h
 .obtain⟨C,dx,h1,h2⟩:=h;exact⟨C,dx,g _ _ h1 (λ_ z=>by cases z),h2⟩
 .rename_i h0 h1
  split at h
  .exact Eb rfl h0
  .exact Eb rfl h1
  .obtain⟨C,dx,q1,q2,q3⟩:=h;exact⟨C,dx,g _ _ q1 (λ_ z=>by unfold fB at z;cases z),q2,g _ _ q3 λ_ z=>by cases z⟩
def KL(K:D9)(a:Addr)(vs:List V):Prop:=
 ∃(o:Obj) (its:Array Value) (n:Nat),K.lookup a=some o/\o.cls=.type "list" /\o.dict=none/\o.data=.seq its n/\its.size<=sizeLine/\Vals vs its.toList
mutual
inductive Rep (K:D9) (W:Wd):V->D->Prop
 |non:Rep K W .non .non
 |bl (b:Bool):Rep K W (.bl b) (.bl b)
 |int (i:Int):Rep K W (.int i) (.int i)
 |str (x:Str):Rep K W (.str x) (.str x)
 |tup {a:Addr} {vs:List V} {ds:List D}:W.G a=some (.tup vs)->Reps K W vs ds->Rep K W (.ref a) (.tup ds)
 |ktup {a:Addr} {vs:List V} {ds:List D}:KT K a vs->Reps K W vs ds->Rep K W (.ref a) (.tup ds)
 |lst {a:Addr} {vs:List V} {ds:List D}:W.G a=some (.lst vs)->Reps K W vs ds->Rep K W (.ref a) (.lst ds)
 |scr {a:Addr} {vs:List V} {ds:List D}:((∃o,W.G a=some (.frz o (.lst vs)))\/KL K a vs)->Reps K W vs ds->Rep K W (.ref a) (.scr ds)
 |dic {a:Addr}:W.G a=some (.dK [])->Rep K W (.ref a) .dic
 |pen {a:Addr}:W.Pn a->Rep K W (.ref a) .pen
 |cls {a:Addr} {n:Str}:dH K n=some a->Rep K W (.ref a) (.cls n)
 |exc {a C:Addr} {n:Str} {dx:Option Addr}:W.G a=some (fB C a dx)->dH K (gh n)=some C->XD W n dx->Rep K W (.ref a) (.exc n)
 |ty (n:String):Rep K W (.ty n) (.ty n)
 |pl {a:Addr} {k:Nat} {b:Addr}:AtR K W a k b->Rep K W (.ref a) (.pl k b)
inductive Reps (K:D9) (W:Wd):List V->List D->Prop
 |nil:Reps K W [] []
 |cons {v:V} {d:D} {vs:List V} {ds:List D}:Rep K W v d->Reps K W vs ds->Reps K W (v::vs) (d::ds)
end
section
variable{W:Wd}
mutual
theorem Rep.mono(g:∀a o,W.G a=some o->W'.G a=some o)(p:∀a,W.Pn a->W'.Pn a):∀{v:V} {d:D},Rep K W v d->Rep K W' v d
 |_,_,.non=>.non
 |_,_,.bl b=>.bl b
 |_,_,.int i=>.int i
 |_,_,.str x=>.str x
 |_,_,.tup e r=>.tup (g _ _ e) (Reps.mono g p r)
 |_,_,.ktup e r=>.ktup e (Reps.mono g p r)
 |_,_,.lst e r=>.lst (g _ _ e) (Reps.mono g p r)
 |_,_,.scr e r=>.scr (e.elim (λ⟨o,z⟩=>.inl ⟨o,g _ _ z⟩) .inr) (Reps.mono g p r)
 |_,_,.dic e=>.dic (g _ _ e)
 |_,_,.pen e=>.pen (p _ e)
 |_,_,.cls e=>.cls e
 |_,_,.exc e h x=>.exc (g _ _ e) h (x.mono g)
 |_,_,.ty n=>.ty n
 |_,_,.pl h=>.pl (h.keep λa o e _=>g a o e)
theorem Reps.mono(g:∀a o,W.G a=some o->W'.G a=some o)(p:∀a,W.Pn a->W'.Pn a):∀{vs:List V} {ds:List D},Reps K W vs ds->Reps K W' vs ds
 |_,_,.nil=>.nil
 |_,_,.cons r t=>.cons (Rep.mono g p r) (Reps.mono g p t)
end
theorem Reps.length:∀{vs:List V} {ds:List D},Reps K W vs ds->vs.length=ds.length
 |_,_,.nil=>rfl
 |_,_,.cons _ t=>by simp[Reps.length t]
theorem Reps.get:∀{vs:List V} {ds:List D} {i:Nat} {d:D},Reps K W vs ds->ds[i]? = some d->∃v,vs[i]? = some v/\Rep K W v d
 |_,_,_,_,.nil,e=>by simp at e
 |_,_,0,_,.cons r _,e=>by simp at e;subst e;exact⟨_,rfl,r⟩
 |_,_,i+1,d,.cons _ t,e=>by
  obtain⟨u,h1,h2⟩:=Reps.get (i:=i) (d:=d) t (by simpa using e);exact⟨u,by simpa using h1,h2⟩
theorem Reps.append:∀{vs us:List V} {ds es:List D},Reps K W vs ds->Reps K W us es->Reps K W (vs++us) (ds++es)
 |_,_,_,_,.nil,s=>s
 |_,_,_,_,.cons r t,s=>.cons r (Reps.append t s)
theorem Reps.take:∀{vs:List V} {ds:List D} (n:Nat),Reps K W vs ds->Reps K W (vs.take n) (ds.take n)
 |_,_,0,_=>.nil
 |_,_,_+1,.nil=>.nil
 |_,_,n+1,.cons r t=>.cons r (Reps.take n t)
theorem Reps.drop:∀{vs:List V} {ds:List D} (n:Nat),Reps K W vs ds->Reps K W (vs.drop n) (ds.drop n)
 |_,_,0,r=>r
 |_,_,_+1,.nil=>.nil
 |_,_,n+1,.cons _ t=>Reps.drop n t
theorem Reps.rev(r:Reps K W vs ds):Reps K W vs.reverse ds.reverse:=by
 induction vs generalizing ds with
 |nil=>cases r;exact .nil
 |cons v vs ih=>cases r with|cons r t=>rw[rF,rF];exact(ih t).append (.cons r .nil)
theorem Reps.one(r:Reps K W us [d]):∃v,us=[v]/\Rep K W v d:=by
 cases r with|cons r t=>cases t;exact⟨_,rfl,r⟩
theorem Reps.two{e:D}(r:Reps K W us [d,e]):∃v u,us=[v,u]/\Rep K W v d/\Rep K W u e:=by
 cases r with|cons r t=>cases t with|cons r' t=>cases t;exact⟨_,_,rfl,r,r'⟩
end
def ZjT(H:Hp)(a:Addr):Prop:=∃i j k:Int,H a=some (.lst [.int i,.int j,.int k])
structure WOk(W:Wd)(H:Hp):Prop where
 g:∀a o,W.G a=some o->H a=some o
 p:∀a,W.Pn a->ZjT H a/\W.G a=none
structure Ext(W:Wd)(H:Hp)(W':Wd)(H':Hp):Prop where
 ok:WOk W' H'
 g:∀a o,W.G a=some o->W'.G a=some o
 p:∀a,W.Pn a->W'.Pn a
 gf:∀a,W.G a=none->W'.G a≠none->H a=none
 pf:∀a,¬W.Pn a->W'.Pn a->H a=none
 h:∀a o,H a=some o->¬W.Pn a->H' a=some o
section
variable{W:Wd}
theorem Ext.refl(ok:WOk W H):Ext W H W H:=⟨ok,λ_ _ e=>e,λ_ e=>e,λ_ e n=>Eb e n,λ_ n e=>Eb e n,λ_ _ e _=>e⟩
theorem ZjT.ne(p:ZjT H a):H a≠none:=by obtain⟨_,_,_,e⟩:=p;rw[e];simp
theorem Ext.isN(x:Ext W H W1 H1)(h:H1 a=none):H a=none:=by
 cases q:H a with
 |none=>rfl
 |some o=>
  by_cases hp:W.Pn a
  .exact Eb h ((x.ok.p a (x.p a hp)).1.ne)
  .rw[x.h a o q hp] at h;cases h
theorem Ext.trans(x:Ext W H W1 H1)(y:Ext W1 H1 W2 H2):Ext W H W2 H2 where
 ok:=y.ok
 g:=λa o e=>y.g a o (x.g a o e)
 p:=λa e=>y.p a (x.p a e)
 gf:=λa e n=>by
  cases q:W1.G a with
  |none=>exact x.isN (y.gf a q n)
  |some o=>exact x.gf a e (by rw[q];simp)
 pf:=λa e n=>by
  by_cases q:W1.Pn a
  .exact x.pf a e q
  .exact x.isN (y.pf a q n)
 h:=λa o e n=>y.h a o (x.h a o e n) λq=>by have:=x.pf a n q;rw[e] at this;cases this
theorem Ext.rep(x:Ext W H W1 H1){v:V}(r:Rep K W v d):Rep K W1 v d:=r.mono x.g x.p
theorem Ext.reps(x:Ext W H W1 H1){v:List V}{d:List D}(r:Reps K W v d):Reps K W1 v d:=r.mono x.g x.p
def Wd.put(W:Wd)(a:Addr)(o:HO):Wd:=⟨upd W.G a o,W.Pn⟩
theorem Ext.put{a:Addr}{o:HO}(ok:WOk W H)(h:H a=none):Ext W H (W.put a o) (upd H a o) where
 ok:=⟨λb u e=>by
   unfold Wd.put at e;dsimp only at e
   by_cases hb:b=a
   .subst hb;rw[aF] at e ⊢;exact e
   .rw[aE hb] at e ⊢;exact ok.g b u e,
  λb hb=>by
   have⟨p1,p2⟩:=ok.p b hb;have hne:b≠a:=λz=>p1.ne (by rw[z];exact h);refine⟨?_,by unfold Wd.put;dsimp only;rw[aE hne];exact p2⟩;obtain⟨i,j,k,e⟩:=p1;exact⟨i,j,k,by rw[aE hne];exact e⟩⟩
 g:=λb u e=>by
  have:b≠a:=λz=>by have:=ok.g b u e;rw[z,h] at this;cases this
  unfold Wd.put;dsimp only;rw[aE this];exact e
 p:=λb e=>e
 gf:=λb e n=>by
  by_cases hb:b=a
  .rw[hb];exact h
  .unfold Wd.put at n;dsimp only at n;rw[aE hb] at n;exact Eb e n
 pf:=λb n e=>Eb e n
 h:=λb u e _=>by
  have:b≠a:=λz=>by rw[z,h] at e;cases e
  rw[aE this];exact e
theorem Ext.new(ok:WOk W H)(h:H a=none):Ext W H W (upd H a o) where
 ok:=⟨λb u e=>by
   have q:=ok.g b u e;have:b≠a:=λz=>by rw[z,h] at q;cases q
   rw[aE this];exact q,
  λb hb=>by
   have⟨p1,p2⟩:=ok.p b hb;have hne:b≠a:=λz=>p1.ne (by rw[z];exact h);obtain⟨i,j,k,e⟩:=p1;exact⟨⟨i,j,k,by rw[aE hne];exact e⟩,p2⟩⟩
 g:=λ_ _ e=>e
 p:=λ_ e=>e
 gf:=λ_ e n=>Eb e n
 pf:=λ_ n e=>Eb e n
 h:=λb u e _=>by
  have:b≠a:=λz=>by rw[z,h] at e;cases e
  rw[aE this];exact e
theorem WOk.fresh(ok:WOk W H)(h:H a=none):W.G a=none/\¬W.Pn a:=by
 refine⟨?_,λp=>(ok.p a p).1.ne h⟩;cases q:W.G a with
 |none=>rfl
 |some o=>have:=ok.g a o q;rw[h] at this;cases this
theorem Ext.pub(x:Ext W H W1 H1)(h:H a=none)(e:H1 a=some o)(n:¬W1.Pn a)(ng:W1.G a=none):Ext W H (W1.put a o) H1 where
 ok:=⟨λb u q=>by
   unfold Wd.put at q
   by_cases hb:b=a
   .subst hb;dsimp only at q;rw[aF] at q;cases q;exact e
   .dsimp only at q;rw[aE hb] at q;exact x.ok.g b u q,
  λb hb=>by
   have⟨p1,p2⟩:=x.ok.p b hb;have hne:b≠a:=λz=>n (by rw[<-z];exact hb);exact⟨p1,by unfold Wd.put;dsimp only;rw[aE hne];exact p2⟩⟩
 g:=λb u q=>by
  have q1:=x.g b u q;have:b≠a:=λz=>by rw[z,ng] at q1;cases q1
  unfold Wd.put;dsimp only;rw[aE this];exact q1
 p:=x.p
 gf:=λb q m=>by
  by_cases hb:b=a
  .rw[hb];exact h
  .unfold Wd.put at m;dsimp only at m;rw[aE hb] at m;exact x.gf b q m
 pf:=x.pf
 h:=x.h
theorem li(ng:W.G a=none):∀b u,W.G b=some u->(W.put a o).G b=some u:=λb u q=>by
 have:b≠a:=λz=>by rw[z,ng] at q;cases q
 unfold Wd.put;dsimp only;rw[aE this];exact q
theorem Ext.chg{o':HO}(x:Ext W H W1 H1)(h:H a=none)(e:H1 a=some o)(n:¬W1.Pn a)(ng:W1.G a=none):Ext W H W1 (upd H1 a o') where
 ok:=⟨λb u q=>by
   have:b≠a:=λz=>by rw[z,ng] at q;cases q
   rw[aE this];exact x.ok.g b u q,
  λb hb=>by
   have⟨p1,p2⟩:=x.ok.p b hb;have hne:b≠a:=λz=>n (by rw[<-z];exact hb);obtain⟨i,j,k,e⟩:=p1;exact⟨⟨i,j,k,by rw[aE hne];exact e⟩,p2⟩⟩
 g:=x.g
 p:=x.p
 gf:=x.gf
 pf:=x.pf
 h:=λb u q m=>by
  have:b≠a:=λz=>by rw[z,h] at q;cases q
  rw[aE this];exact x.h b u q m
end
inductive SV where
 |un|d (x:D)|ow (xs:List D)|oo (xss:List (List D))
abbrev bV:=List SV
variable{ρ:bV}
def Own1(K:D9)(H0:Hp)(W:Wd)(H:Hp)(b:Addr)(xs:List D):Prop:=∃vs,H b=some (HO.lst vs)/\W.G b=none/\¬W.Pn b/\H0 b=none/\Reps K W vs xs
structure OwnT(K:D9)(H0:Hp)(W:Wd)(H:Hp)(a:Addr)(bs:List Addr)(xss:List (List D)):Prop where
 a1:H a=some (HO.lst (bs.map V.ref))
 a2:W.G a=none
 a3:¬W.Pn a
 a4:H0 a=none
 nd:(a::bs).Nodup
 len:bs.length=xss.length
 row:∀(i:Nat) b,bs[i]? = some b->∃xs,xss[i]? = some xs/\Own1 K H0 W H b xs
structure OOs(K:D9)(H0:Hp)(W:Wd)(σ:L2.St)(H:Hp)(ρ:bV):Prop where
 t:∀(i:Nat) xss,ρ[i]? = some (SV.oo xss)->∃a bs,σ[i]? = some (some (V.ref a))/\OwnT K H0 W H a bs xss/\∀(j:Nat) ys c,ρ[j]? = some (SV.ow ys)->σ[j]? = some (some (V.ref c))->c∉a::bs
 u:∀(i j:Nat) xss yss,ρ[i]? = some (SV.oo xss)->ρ[j]? = some (SV.oo yss)->i=j
structure SOk(K:D9)(W0:Wd)(H0:Hp)(W:Wd)(σ:L2.St)(H:Hp)(ρ:bV):Prop where
 ext:Ext W0 H0 W H
 len:ρ.length=σ.length
 d:∀(i:Nat) x,ρ[i]? = some (SV.d x)->∃v:V,σ[i]? = some (some v)/\Rep K W v x
 o:∀(i:Nat) xs,ρ[i]? = some (SV.ow xs)->∃a vs,σ[i]? = some (some (V.ref a))/\H a=some (HO.lst vs)/\W.G a=none/\¬W.Pn a/\H0 a=none/\Reps K W vs xs
 ne:∀(i j:Nat) xs ys a,i≠j->ρ[i]? = some (SV.ow xs)->ρ[j]? = some (SV.ow ys)->σ[i]? = some (some (V.ref a))->σ[j]?≠some (some (V.ref a))
 oo:OOs K H0 W σ H ρ
section
variable{W:Wd}
theorem SOk.ok(s:SOk K W0 H0 W σ H ρ):WOk W H:=s.ext.ok
theorem Own1.step(o:Own1 K H0 W H b xs)(x:Ext W H W1 H1):Own1 K H0 W1 H1 b xs:=by
 obtain⟨vs,e2,e3,e4,e5,r⟩:=o;refine⟨vs,x.h b _ e2 e4,?_,λq=>?_,e5,x.reps r⟩
 .cases q:W1.G b with
  |none=>rfl
  |some o=>have:=x.gf b e3 (by rw[q];simp);rw[e2] at this;cases this
 .have:=x.pf b e4 q;rw[e2] at this;cases this
theorem OwnT.step{a:Addr}{bs:List Addr}{xss:List (List D)}(o:OwnT K H0 W H a bs xss)(x:Ext W H W1 H1):OwnT K H0 W1 H1 a bs xss:=by
 refine⟨x.h a _ o.a1 o.a3,?_,λq=>?_,o.a4,o.nd,o.len,λi b e=>let⟨xs,e1,q⟩:=o.row i b e;⟨xs,e1,q.step x⟩⟩
 .cases q:W1.G a with
  |none=>rfl
  |some u=>have:=x.gf a o.a2 (by rw[q];simp);rw[o.a1] at this;cases this
 .have:=x.pf a o.a3 q;rw[o.a1] at this;cases this
theorem OwnT.here{c:Addr}{bs:List Addr}(o:OwnT K H0 W H a bs xss)(h:H c=none):c∉a::bs:=λq=>by
 rcases Yan.mp q with rfl|q
 .rw[o.a1] at h;cases h
 .obtain⟨i,hi,rfl⟩:=Ybs.mp q
  obtain⟨xs,_,vs,e,_⟩:=o.row i _ (jj hi);rw[e] at h;cases h
theorem OwnT.noPen{c:Addr}{bs:List Addr}(o:OwnT K H0 W H a bs xss)(h:W.Pn c):c∉a::bs:=λq=>by
 rcases Yan.mp q with rfl|q
 .exact o.a3 h
 .obtain⟨i,hi,rfl⟩:=Ybs.mp q
  obtain⟨xs,_,vs,_,_,e,_⟩:=o.row i _ (jj hi);exact e h
theorem OwnT.upd{a c:Addr}{o':HO}{bs:List Addr}{xss:List (List D)}(o:OwnT K H0 W H a bs xss)(h:c∉a::bs):OwnT K H0 W (upd H c o') a bs xss:=by
 have ha:a≠c:=λz=>h (by rw[z];simp);refine⟨by rw[aE ha];exact o.a1,o.a2,o.a3,o.a4,o.nd,o.len,λi b e=>?_⟩;obtain⟨xs,e1,vs,q⟩:=o.row i b e;have hb:b≠c:=λz=>h (by rw[<-z];exact da _ (og e));exact⟨xs,e1,vs,by rw[aE hb];exact q⟩
theorem OwnT.put{a c:Addr}{o':HO}{bs:List Addr}{xss:List (List D)}(o:OwnT K H0 W H a bs xss)(h:c∉a::bs)(hc:W.G c=none):OwnT K H0 (W.put c o') H a bs xss:=by
 have ha:a≠c:=λz=>h (by rw[z];simp);refine⟨o.a1,by unfold Wd.put;dsimp only;rw[aE ha];exact o.a2,o.a3,o.a4,o.nd,o.len,λi b e=>?_⟩;obtain⟨xs,e1,vs,q1,q2,q3,q4,q5⟩:=o.row i b e;have hb:b≠c:=λz=>h (by rw[<-z];exact da _ (og e));exact⟨xs,e1,vs,q1,by unfold Wd.put;dsimp only;rw[aE hb];exact q2,q3,q4,q5.mono (li hc) λ_ z=>z⟩
theorem OOs.none(h:∀(i:Nat) xss,ρ[i]?≠some (SV.oo xss)):OOs K H0 W σ H ρ:=⟨λi xss e=>Eb e (h i xss),λi j xss yss e=>Eb e (h i xss)⟩
theorem OOs.step(o:OOs K H0 W σ H ρ)(x:Ext W H W1 H1):OOs K H0 W1 σ H1 ρ:=⟨λi xss e=>let⟨a,bs,e1,q,n⟩:=o.t i xss e;⟨a,bs,e1,q.step x,n⟩,o.u⟩
theorem OOs.set{σ':L2.St}(o:OOs K H0 W σ H ρ){i:Nat}{y:SV}(hy:∀xss,y≠.oo xss)(hσ:∀j,i≠j->σ'[j]? = σ[j]?)(hw:∀ys c,y=.ow ys->σ'[i]? = some (some (V.ref c))->∀(j:Nat) xss a bs,i≠j->ρ[j]? = some (SV.oo xss)->σ[j]? = some (some (V.ref a))->OwnT K H0 W H a bs xss->(∀(j:Nat) ys c,ρ[j]? = some (SV.ow ys)->σ[j]? = some (some (V.ref c))->c∉a::bs)->c∉a::bs):OOs K H0 W σ' H (ρ.set i y):=by
 have nt:∀{j:Nat} {xss:List (List D)},(ρ.set i y)[j]? = some (SV.oo xss)->i≠j/\ρ[j]? = some (SV.oo xss):=λ{j xss} e=>by
  by_cases h:i=j
  .subst h
   by_cases hi:i<ρ.length
   .rw[cN hi] at e;cases e;exact Eb rfl (hy xss)
   .rw[e8 (by rw[cR];omega)] at e;cases e
  .rw[cm h] at e;exact⟨h,e⟩
 refine⟨λj xss e=>?_,λj k xss yss e1 e2=>o.u j k xss yss (nt e1).2 (nt e2).2⟩;obtain⟨h,e'⟩:=nt e;clear e;obtain⟨a,bs,e1,q,n⟩:=o.t j xss e';refine⟨a,bs,by rw[hσ j h];exact e1,q,λk ys c ek ec=>?_⟩
 by_cases hk:i=k
 .subst hk
  by_cases hi:i<ρ.length
  .rw[cN hi] at ek;cases ek;exact hw ys c rfl ec j xss a bs h e' e1 q n
  .rw[e8 (by rw[cR];omega)] at ek;cases ek
 .rw[cm hk] at ek
  rw[hσ k hk] at ec;exact n k ys c ek ec
theorem SOk.step(s:SOk K W0 H0 W σ H ρ)(x:Ext W H W1 H1):SOk K W0 H0 W1 σ H1 ρ where
 ext:=s.ext.trans x
 len:=s.len
 d:=λi y e=>let⟨v,e1,r⟩:=s.d i y e;⟨v,e1,x.rep r⟩
 o:=λi ys e=>by
  obtain⟨a,vs,e1,e2,e3,e4,e5,r⟩:=s.o i ys e;refine⟨a,vs,e1,x.h a _ e2 e4,?_,λq=>?_,e5,x.reps r⟩
  .cases q:W1.G a with
   |none=>rfl
   |some o=>have:=x.gf a e3 (by rw[q];simp);rw[e2] at this;cases this
  .have:=x.pf a e4 q;rw[e2] at this;cases this
 ne:=s.ne
 oo:=s.oo.step x
end
abbrev Ex:=Str
variable{E:Ex->Prop}
def nw(K:D9)(W:Wd)(_:Hp)(cls:Value)(dx:Option Addr)(ex:Ex):Prop:=∃C,dH K (gh ex)=some C/\cls=.ref C/\XD W ex dx
def gK(K:D9)(W0:Wd)(H0:Hp)(E:Ex->Prop)(EX:XK):Prop:=∀ex W' H' cls dx,E ex->Ext W0 H0 W' H'->nw K W' H' cls dx ex->EX cls dx H'
abbrev WE:=(Ex->Prop)->bV->(D->Prop)->Prop
variable{wa wb wc we wo:WE}
abbrev WT:=(Ex->Prop)->bV->(Bool->Prop)->Prop
variable{wt wf:WT}
abbrev WA:=(Ex->Prop)->bV->(List D->Prop)->Prop
variable{t wi:WA}
def RQ(K:D9)(W:Wd)(H:Hp)(Q:VK)(d:D):Prop:=∀v W' H',Ext W H W' H'->Rep K W' v d->Q v H'
structure PX(X:Cx)(EX:XK)(e:Expr)(w:WE):Prop where
 t:∃t,PE X e t/\∀W0 H0 W σ H ρ E Q,SOk X.K W0 H0 W σ H ρ->gK X.K W0 H0 E EX->w E ρ (RQ X.K W H Q)->t σ H Q
 mono:∀E ρ P P',(∀d,P d->P' d)->w E ρ P->w E ρ P'
structure fD(X:Cx)(EX:XK)(e:Expr)(w:WT):Prop where
 t:∃t,PT X e t/\∀W0 H0 W σ H ρ E Q,SOk X.K W0 H0 W σ H ρ->gK X.K W0 H0 E EX->w E ρ (λb=>∀W' H',Ext W H W' H'->Q b H')->t σ H Q
 mono:∀E ρ P P',(∀d,P d->P' d)->w E ρ P->w E ρ P'
structure fE(X:Cx)(EX:XK)(es:List Expr)(w:WA):Prop where
 t:∃t,PA X es t/\∀W0 H0 W σ H ρ E Q,SOk X.K W0 H0 W σ H ρ->gK X.K W0 H0 E EX->w E ρ (λds=>∀vs W' H',Ext W H W' H'->Reps X.K W' vs ds->Q vs H')->t σ H Q
 mono:∀E ρ P P',(∀d,P d->P' d)->w E ρ P->w E ρ P'
structure PXL(X:Cx)(EX:XK)(e:Expr)(w:WA):Prop where
 t:∃t,PE X e t/\∀W0 H0 W σ H ρ E Q,SOk X.K W0 H0 W σ H ρ->gK X.K W0 H0 E EX->
  w E ρ (λds=>∀a vs W' H',Ext W H W' H'->H' a=some (.lst vs)->W'.G a=none->¬W'.Pn a->H a=none->Reps X.K W' vs ds->Q (.ref a) H')->t σ H Q
 mono:∀E ρ P P',(∀d,P d->P' d)->w E ρ P->w E ρ P'
structure Nds where
 nx:bV->Prop
 rt:D->Prop
 bk:bV->Prop:=λ_=>False
 ct:bV->Prop:=λ_=>False
structure Wle(F W:Wd):Prop where
 g:∀a o,F.G a=some o->W.G a=some o
 p:∀a,F.Pn a->W.Pn a
theorem Wle.refl(F:Wd):Wle F F:=⟨λ_ _ e=>e,λ_ e=>e⟩
theorem Wle.trans{F W V:Wd}(a:Wle F W)(b:Wle W V):Wle F V:=⟨λx o e=>b.g x o (a.g x o e),λx e=>b.p x (a.p x e)⟩
theorem Wle.ext{F W:Wd}(a:Wle F W)(x:Ext W H W1 H1):Wle F W1:=a.trans ⟨x.g,x.p⟩
structure uq(K:D9)(W0:Wd)(H0:Hp)(F:Wd)(Dn:fO)(N:Nds):Prop where
 nx:∀W σ H ρ,SOk K W0 H0 W σ H ρ->Wle F W->N.nx ρ->Dn.nx σ H
 rt:∀d v W H,Ext W0 H0 W H->Rep K W v d->N.rt d->Dn.rt v H
 bk:∀W σ H ρ,SOk K W0 H0 W σ H ρ->Wle F W->N.bk ρ->Dn.bk σ H
 ct:∀W σ H ρ,SOk K W0 H0 W σ H ρ->Wle F W->N.ct ρ->Dn.ct σ H
structure Nds.le(N N':Nds):Prop where
 nx:∀ρ,N.nx ρ->N'.nx ρ
 rt:∀d,N.rt d->N'.rt d
 bk:∀ρ,N.bk ρ->N'.bk ρ
 ct:∀ρ,N.ct ρ->N'.ct ρ
abbrev WS:=(Ex->Prop)->Nds->bV->Prop
variable{z:WS}
structure PZ(X:Cx)(EX:XK)(st:Stmt)(z:WS):Prop where
 t:∃t,PS X st t/\∀W0 H0 F W σ H ρ E Dn N,SOk X.K W0 H0 W σ H ρ->Wle F W->gK X.K W0 H0 E EX->uq X.K W0 H0 F Dn N->z E N ρ->t Dn σ H
 mono:∀E ρ N N',N.le N'->z E N ρ->z E N' ρ
structure ia(X:Cx)(EX:XK)(st:List Stmt)(z:WS):Prop where
 t:∃t,i6 X st t/\∀W0 H0 F W σ H ρ E Dn N,SOk X.K W0 H0 W σ H ρ->Wle F W->gK X.K W0 H0 E EX->uq X.K W0 H0 F Dn N->z E N ρ->t Dn σ H
 mono:∀E ρ N N',N.le N'->z E N ρ->z E N' ρ
section
variable{W:Wd}{Q:VK}
theorem RQ.ext(h:RQ K W H Q d)(x:Ext W H W1 H1):RQ K W1 H1 Q d:=λv W' H' y r=>h v W' H' (x.trans y) r
theorem RQ.now(h:RQ K W H Q d)(ok:WOk W H){v:V}(r:Rep K W v d):Q v H:=h v W H (.refl ok) r
theorem RQ.tup{vs:List V}{ds:List D}(h:RQ K W H Q (.tup ds))(ok:WOk W H)(r:Reps K W vs ds){p:Addr}(hp:H p=none):Q (.ref p) (upd H p (.tup vs)):=by
 have x:=Ext.put (o:=.tup vs) ok hp;exact h _ _ _ x (.tup (by unfold Wd.put;dsimp only;rw[aF]) (x.reps r))
theorem RQ.lst{vs:List V}{ds:List D}(h:RQ K W H Q (.lst ds))(ok:WOk W H)(r:Reps K W vs ds){p:Addr}(hp:H p=none):Q (.ref p) (upd H p (.lst vs)):=by
 have x:=Ext.put (o:=.lst vs) ok hp;exact h _ _ _ x (.lst (by unfold Wd.put;dsimp only;rw[aF]) (x.reps r))
theorem Rep.sqt{a:V}(r:Rep K W a (.tup ds))(ok:WOk W H):∃p vs,a=.ref p/\SqT K H p vs/\Reps K W vs ds:=by
 cases r with
 |tup e r=>exact⟨_,_,rfl,.inl (.inl (ok.g _ _ e)),r⟩
 |ktup e r=>exact⟨_,_,rfl,.inr e,r⟩
theorem Rep.sql{a:V}(r:Rep K W a (.lst ds))(ok:WOk W H):∃p vs,a=.ref p/\SqL K H p vs/\Reps K W vs ds:=by
 cases r with
 |lst e r=>exact⟨_,_,rfl,.inl (.inl (ok.g _ _ e)),r⟩
theorem Rep.sqs{a:V}(r:Rep K W a (.scr ds))(ok:WOk W H):∃p vs,a=.ref p/\SqL K H p vs/\Reps K W vs ds:=by
 cases r with
 |scr e r=>exact⟨_,_,rfl,e.elim (λ⟨o,e⟩=>.inl (.inr ⟨o,ok.g _ _ e⟩)) .inr,r⟩
end
section
def wN(i:Nat):WE:=λ_ ρ Q=>match ρ[i]? with
 |some (.d x)=>Q x
 |_=>False
theorem aG(i:Nat)(hN:X.N[i]? = some x:=by rfl)(hv:g5 X.env.scope x:=by first|exact Or.inl rfl|exact Or.inr (Or.inl rfl)|exact Or.inr (Or.inr rfl))(hd:(x==("__debug__" : Str))=false:=by decide)
  (hcd:(x==("__classdict__" : Str))=false:=by decide):PX X EX (.Name x pos) (wN i):=by
 refine⟨⟨_,bN hN hv hd hcd,λW0 H0 W σ H ρ E Q s _ h=>?_⟩,λE ρ P P' hp h=>?_⟩
 .unfold wN at h
  split at h
  .rename_i x e
   obtain⟨v,e1,r⟩:=s.d i x e;exact⟨v,e1,h.now s.ok r⟩
  .exact h.elim
 .unfold wN at h ⊢
  split at h
  .exact hp _ h
  .exact h.elim
def wC(d:D):WE:=λ_ _ Q=>Q d
theorem wC.mono:∀(E:Ex->Prop) ρ P P',(∀d,P d->P' d)->wC d E ρ P->wC d E ρ P':=λ_ _ _ _ hp h=>hp _ h
theorem aR{i j}:PX X EX (.Constant (.int i) j pos) (wC (.int i)):=⟨⟨_,de,λ_ _ _ _ _ _ _ _ s _ h=>RQ.now h s.ok (.int i)⟩,wC.mono⟩
theorem ic{b j}:PX X EX (.Constant (.bool b) j pos) (wC (.bl b)):=⟨⟨_,pE,λ_ _ _ _ _ _ _ _ s _ h=>RQ.now h s.ok (.bl b)⟩,wC.mono⟩
theorem qo{j}:PX X EX (.Constant .none j pos) (wC .non):=⟨⟨_,mM,λ_ _ _ _ _ _ _ _ s _ h=>RQ.now h s.ok .non⟩,wC.mono⟩
theorem bG{x j}:PX X EX (.Constant (.str x) j pos) (wC (.str x)):=⟨⟨_,mO,λ_ _ _ _ _ _ _ _ s _ h=>RQ.now h s.ok (.str x)⟩,wC.mono⟩
theorem ur{v:V}{u:Value}(hm:X.mg x=some u)(r:RelV v u)(rd:∀W,Rep X.K W v d)(hg:Gl X x:=by rfl)(hd:(x==("__debug__" : Str))=false:=by decide):PX X EX (.Name x pos) (wC d):=
 ⟨⟨_,cT hg hm r hd,λ_ _ _ _ _ _ _ _ s _ h=>RQ.now h s.ok (rd _)⟩,wC.mono⟩
theorem AZ{v:V}{u:Value}(hm:X.mg x=none)(hv:bootBuiltins x=some u)(r:RelV v u)(rd:∀W,Rep X.K W v d)(hg:Gl X x:=by rfl)(hn:x≠ "__name__" :=by decide)(hd:(x==("__debug__" : Str))=false:=by decide):PX X EX (.Name x pos) (wC d):=
 ⟨⟨_,kP hg hm hv r hn hd,λ_ _ _ _ _ _ _ _ s _ h=>RQ.now h s.ok (rd _)⟩,wC.mono⟩
end
abbrev G2:=D->D->(D->Prop)->Prop
structure cX(X:Cx)(f:Value->Value->Sem Value)(g:G2):Prop where
 t:∃r,OpR X f r/\∀W H x y dx dy Q,WOk W H->Rep X.K W x dx->Rep X.K W y dy->g dx dy (RQ X.K W H Q)->r x y H Q
 mono:∀x y P P',(∀d,P d->P' d)->g x y P->g x y P'
section
variable{a b c:Expr}
def w2(g:G2)(wa wb:WE):WE:=λE ρ Q=>wa E ρ λx=>wb E ρ λy=>g x y Q
theorem w2.mono{g:G2}(ha:PX X EX a wa)(hb:PX X EX b wb)(hg:∀x y P P',(∀d,P d->P' d)->g x y P->g x y P'):∀E ρ P P',(∀d,P d->P' d)->w2 g wa wb E ρ P->w2 g wa wb E ρ P':=
 λE ρ P P' hp h=>ha.mono E ρ _ _ (λx hx=>hb.mono E ρ _ _ (λy hy=>hg x y _ _ hp hy) hx) h
theorem iK{ta tb:TE}{R:V->V->Hp->Prop}{W:Wd}(hma:∀E ρ P P',(∀d,P d->P' d)->wa E ρ P->wa E ρ P')(hmb:∀E ρ P P',(∀d,P d->P' d)->wb E ρ P->wb E ρ P')
  (ka:∀W0 H0 W σ H ρ E Q,SOk X.K W0 H0 W σ H ρ->gK X.K W0 H0 E EX->wa E ρ (RQ X.K W H Q)->ta σ H Q) (kb:∀W0 H0 W σ H ρ E Q,SOk X.K W0 H0 W σ H ρ->gK X.K W0 H0 E EX->wb E ρ (RQ X.K W H Q)->tb σ H Q)
  (s:SOk X.K W0 H0 W σ H ρ) (eo:gK X.K W0 H0 E EX) (h:wa E ρ λx=>wb E ρ λy=>G x y)
  (k:∀W2 H2 x y dx dy,Ext W H W2 H2->Rep X.K W2 x dx->Rep X.K W2 y dy->G dx dy->R x y H2):ta σ H λx H1=>tb σ H1 λy H2=>R x y H2:=
 ka W0 H0 W σ H ρ E _ s eo (hma E ρ _ _ (λdx hx v W1 H1 x1 r1=>kb W0 H0 W1 σ H1 ρ E _ (s.step x1) eo (hmb E ρ _ _ (λdy hy u W2 H2 x2 r2=>k W2 H2 v u dx dy (x1.trans x2) (x2.rep r1) r2 hy) hx)) h)
theorem aY{op:Operator}{g:G2}(ho:cX X (binaryOp op) g)(ha:PX X EX a wa)(hb:PX X EX b wb):PX X EX (.BinOp a op b pos) (w2 g wa wb):=by
 obtain⟨ta,pa,ka⟩:=ha.t;obtain⟨tb,pb,kb⟩:=hb.t;obtain⟨r,pr,kr⟩:=ho.t;refine⟨⟨_,lZ pr pa pb,λW0 H0 W σ H ρ E Q s eo h=>?_⟩,w2.mono ha hb ho.mono⟩;exact iK ha.mono hb.mono ka kb s eo h λW2 H2 x y dx dy x2 rx ry hg=>kr W2 H2 x y dx dy Q x2.ok rx ry (ho.mono _ _ _ _ (λd hd=>RQ.ext hd x2) hg)
theorem ut{g:G2}(ho:cX X (compareOp op) g)(ha:PX X EX a wa)(hb:PX X EX b wb)(hm:behindInMarks op b=false:=by first|exact gy _|with_unfolding_all rfl):PX X EX (.Compare a [op] [b] pos) (w2 g wa wb):=by
 obtain⟨ta,pa,ka⟩:=ha.t;obtain⟨tb,pb,kb⟩:=hb.t;obtain⟨r,pr,kr⟩:=ho.t;refine⟨⟨_,kY pr pa pb hm,λW0 H0 W σ H ρ E Q s eo h=>?_⟩,w2.mono ha hb ho.mono⟩;exact iK ha.mono hb.mono ka kb s eo h λW2 H2 x y dx dy x2 rx ry hg=>kr W2 H2 x y dx dy Q x2.ok rx ry (ho.mono _ _ _ _ (λd hd=>RQ.ext hd x2) hg)
def isB(Q:Bool->Prop):D->Prop
 |.bl b=>Q b
 |_=>False
theorem isB.mono{Q Q':Bool->Prop}(h:∀b,Q b->Q' b):∀d,isB Q d->isB Q' d
 |.bl b,z=>h b z
 |.non,z=>z|.int _,z=>z|.str _,z=>z|.tup _,z=>z|.lst _,z=>z|.dic,z=>z|.pen,z=>z|.cls _,z=>z|.exc _,z=>z|.ty _,z=>z|.scr _,z=>z|.pl _ _,z=>z
def wT(w:WE):WT:=λE ρ Q=>w E ρ (isB Q)
theorem lj{Q:Bool->Prop}(h:isB Q d):∃b,d=.bl b/\Q b:=by
 cases d with
 |bl b=>exact⟨b,rfl,h⟩
 |_=>exact h.elim
theorem wT.mono{w:WE}(h:∀E ρ P P',(∀d,P d->P' d)->w E ρ P->w E ρ P'):∀E ρ P P',(∀d,P d->P' d)->wT w E ρ P->wT w E ρ P':=λE ρ _ _ hp z=>h E ρ _ _ (isB.mono hp) z
theorem eJ{g:G2}(ho:cX X (compareOp op) g)(ha:PX X EX a wa)(hb:PX X EX b wb)(hm:behindInMarks op b=false:=by first|exact gy _|with_unfolding_all rfl):fD X EX (.Compare a [op] [b] pos) (wT (w2 g wa wb)):=by
 obtain⟨ta,pa,ka⟩:=ha.t;obtain⟨tb,pb,kb⟩:=hb.t;obtain⟨r,pr,kr⟩:=ho.t;refine⟨⟨_,dU pr pa pb hm,λW0 H0 W σ H ρ E Q s eo h=>?_⟩,wT.mono (w2.mono ha hb ho.mono)⟩;refine iK ha.mono hb.mono ka kb s eo h λW2 H2 x y dx dy x2 rx ry hg=>kr W2 H2 x y dx dy _ x2.ok rx ry (ho.mono _ _ _ _ (λd hd v W' H' x' r'=>?_) hg);obtain⟨b,rfl,q⟩:=lj hd;cases r';exact⟨b,rfl,q W' H' (x2.trans x')⟩
theorem ll(ha:PX X EX a wa)(he:∀whole,isTrue a X.env whole=(do let v <-whole;standAt a.pos;holding [v] (truthy v)):=by intro _;rfl):fD X EX a (wT wa):=by
 obtain⟨ta,pa,ka⟩:=ha.t;refine⟨⟨_,fP pa he,λW0 H0 W σ H ρ E Q s eo h=>?_⟩,wT.mono ha.mono⟩;refine ka W0 H0 W σ H ρ E _ s eo (ha.mono _ _ _ _ (λd hd v W' H' x' r'=>?_) h);obtain⟨b,rfl,q⟩:=lj hd;cases r';exact⟨b,rfl,q W' H' x'⟩
def cB(w:WT):WT:=λE ρ Q=>w E ρ λb=>Q (!b)
theorem ku{w:WT}(ha:fD X EX a w):fD X EX (.UnaryOp .Not a pos) (cB w):=by
 obtain⟨ta,pa,ka⟩:=ha.t;refine⟨⟨_,jn pa,λW0 H0 W σ H ρ E Q s eo h=>?_⟩,λE ρ P P' hp h=>ha.mono _ _ _ _ (λb hb=>hp _ hb) h⟩;exact ka W0 H0 W σ H ρ E _ s eo h
structure PXW(X:Cx)(EX:XK)(e:Expr)(w:WT):Prop where
 t:∃t,PW X e t/\∀W0 H0 W σ H ρ E Q,SOk X.K W0 H0 W σ H ρ->gK X.K W0 H0 E EX->w E ρ (λb=>∀W' H',Ext W H W' H'->Q b H')->t σ H Q
 mono:∀E ρ P P',(∀d,P d->P' d)->w E ρ P->w E ρ P'
theorem PXW.pxt{w:WT}(h:PXW X EX a w):fD X EX a w:=let⟨t,p,k⟩:=h.t;⟨⟨t,p.pt,k⟩,h.mono⟩
variable{rest:List Expr}
def ft(w w':WT):WT:=λE ρ Q=>w E ρ λb=>if b=true then w' E ρ Q else Q false
def ie(w w':WT):WT:=λE ρ Q=>w E ρ λb=>if b=true then Q true else w' E ρ Q
theorem uu{w:WT}(ha:fD X EX a w):PXW X EX (.BoolOp .And [a] pos) w:=let⟨t,p,k⟩:=ha.t;⟨⟨t,kQ p,k⟩,ha.mono⟩
theorem ny{w:WT}(ha:fD X EX a w):PXW X EX (.BoolOp .Or [a] pos) w:=let⟨t,p,k⟩:=ha.t;⟨⟨t,jm p,k⟩,ha.mono⟩
theorem uv{w w':WT}(ha:fD X EX a w)(hb:PXW X EX (.BoolOp .And (b::rest) pos) w'):PXW X EX (.BoolOp .And (a::b::rest) pos) (ft w w'):=by
 obtain⟨ta,pa,ka⟩:=ha.t;obtain⟨tb,pb,kb⟩:=hb.t;refine⟨⟨_,mP pa pb,λW0 H0 W σ H ρ E Q s eo h=>?_⟩,λE ρ P P' hp h=>ha.mono _ _ _ _ (λb hb'=>?_) h⟩
 .refine ka W0 H0 W σ H ρ E _ s eo (ha.mono _ _ _ _ (λb hb' W1 H1 x1=>?_) h)
  cases b with
  |true=>
   rw[if_pos rfl] at hb' ⊢;exact kb W0 H0 W1 σ H1 ρ E _ (s.step x1) eo (hb.mono _ _ _ _ (λb hq W' H' x'=>hq W' H' (x1.trans x')) hb')
  |false=>rw[if_neg (by decide)] at hb' ⊢;exact hb' W1 H1 x1
 .cases b with
  |true=>rw[if_pos rfl] at hb' ⊢;exact hb.mono _ _ _ _ hp hb'
  |false=>rw[if_neg (by decide)] at hb' ⊢;exact hp _ hb'
theorem mh{w w':WT}(ha:fD X EX a w)(hb:PXW X EX (.BoolOp .Or (b::rest) pos) w'):PXW X EX (.BoolOp .Or (a::b::rest) pos) (ie w w'):=by
 obtain⟨ta,pa,ka⟩:=ha.t;obtain⟨tb,pb,kb⟩:=hb.t;refine⟨⟨_,lX pa pb,λW0 H0 W σ H ρ E Q s eo h=>?_⟩,λE ρ P P' hp h=>ha.mono _ _ _ _ (λb hb'=>?_) h⟩
 .refine ka W0 H0 W σ H ρ E _ s eo (ha.mono _ _ _ _ (λb hb' W1 H1 x1=>?_) h)
  cases b with
  |true=>rw[if_pos rfl] at hb' ⊢;exact hb' W1 H1 x1
  |false=>
   rw[if_neg (by decide)] at hb' ⊢;exact kb W0 H0 W1 σ H1 ρ E _ (s.step x1) eo (hb.mono _ _ _ _ (λb hq W' H' x'=>hq W' H' (x1.trans x')) hb')
 .cases b with
  |true=>rw[if_pos rfl] at hb' ⊢;exact hp _ hb'
  |false=>rw[if_neg (by decide)] at hb' ⊢;exact hb.mono _ _ _ _ hp hb'
end
section
variable{a b c:Expr}{rest:List Expr}
def lm(wa wb:WE):WE:=λE ρ Q=>wa E ρ (isB λb=>if b=true then wb E ρ Q else Q (.bl false))
def jS(wa wb:WE):WE:=λE ρ Q=>wa E ρ (isB λb=>if b=true then Q (.bl true) else wb E ρ Q)
def nA(wa:WE):WE:=λE ρ Q=>wa E ρ (isB λb=>Q (.bl (!b)))
theorem uw{op}(h:PX X EX a wa):PX X EX (.BoolOp op [a] pos) wa:=let⟨t,q,k⟩:=h.t;⟨⟨t,mQ q,k⟩,h.mono⟩
theorem ux(ha:PX X EX a wa)(hb:PX X EX (.BoolOp .And (b::rest) pos) wb):PX X EX (.BoolOp .And (a::b::rest) pos) (lm wa wb):=by
 obtain⟨ta,pa,ka⟩:=ha.t;obtain⟨tb,pb,kb⟩:=hb.t;refine⟨⟨_,mR pa pb,λW0 H0 W σ H ρ E Q s eo h=>?_⟩,λE ρ P P' hp h=>ha.mono _ _ _ _ (isB.mono λb hb'=>?_) h⟩
 .refine ka W0 H0 W σ H ρ E _ s eo (ha.mono _ _ _ _ (λd hd v W1 H1 x1 r1=>?_) h)
  obtain⟨b,rfl,q⟩:=lj hd;cases r1;refine⟨b,rfl,?_⟩;cases b with
  |true=>rw[if_pos rfl] at q ⊢;exact kb W0 H0 W1 σ H1 ρ E _ (s.step x1) eo (hb.mono _ _ _ _ (λd hd=>RQ.ext hd x1) q)
  |false=>rw[if_neg (by decide)] at q ⊢;exact q _ W1 H1 x1 (.bl false)
 .cases b with
  |true=>rw[if_pos rfl] at hb' ⊢;exact hb.mono _ _ _ _ hp hb'
  |false=>rw[if_neg (by decide)] at hb' ⊢;exact hp _ hb'
theorem A0(ha:PX X EX a wa):PX X EX (.UnaryOp .Not a pos) (nA wa):=by
 obtain⟨ta,pa,ka⟩:=ha.t;refine⟨⟨_,mS pa,λW0 H0 W σ H ρ E Q s eo h=>?_⟩,λE ρ P P' hp h=>ha.mono _ _ _ _ (isB.mono λb hb'=>hp _ hb') h⟩;refine ka W0 H0 W σ H ρ E _ s eo (ha.mono _ _ _ _ (λd hd v W1 H1 x1 r1=>?_) h);obtain⟨b,rfl,q⟩:=lj hd;cases r1;exact⟨b,rfl,q _ W1 H1 x1 (.bl _)⟩
def nD(wt:WT)(wa wb:WE):WE:=λE ρ Q=>wt E ρ λb=>if b=true then wa E ρ Q else wb E ρ Q
theorem qp(hc:fD X EX c wt)(ha:PX X EX a wa)(hb:PX X EX b wb):PX X EX (.IfExp c a b pos) (nD wt wa wb):=by
 obtain⟨ta,pa,ka⟩:=ha.t;obtain⟨tb,pb,kb⟩:=hb.t;obtain⟨tc,pc,kc⟩:=hc.t;refine⟨⟨_,jo pc pa pb,λW0 H0 W σ H ρ E Q s eo h=>?_⟩,λE ρ P P' hp h=>hc.mono _ _ _ _ (λb hb'=>?_) h⟩
 .refine kc W0 H0 W σ H ρ E _ s eo (hc.mono _ _ _ _ (λb q W1 H1 x1=>?_) h)
  cases b with
  |true=>rw[if_pos rfl] at q ⊢;exact ka W0 H0 W1 σ H1 ρ E _ (s.step x1) eo (ha.mono _ _ _ _ (λd hd=>RQ.ext hd x1) q)
  |false=>rw[if_neg (by decide)] at q ⊢;exact kb W0 H0 W1 σ H1 ρ E _ (s.step x1) eo (hb.mono _ _ _ _ (λd hd=>RQ.ext hd x1) q)
 .cases b with
  |true=>rw[if_pos rfl] at hb' ⊢;exact ha.mono _ _ _ _ hp hb'
  |false=>rw[if_neg (by decide)] at hb' ⊢;exact hb.mono _ _ _ _ hp hb'
def Zbm(g g':G2)(wa wb wc:WE):WE:=λE ρ Q=>wa E ρ λx=>wb E ρ λy=>g x y (isB λk=>if k=true then wc E ρ λz=>g' y z Q else Q (.bl false))
theorem Zbm.mono{g g':G2}(ha:PX X EX a wa)(hb:PX X EX b wb)(hc:PX X EX c wc)(hg:∀x y P P',(∀d,P d->P' d)->g x y P->g x y P')(hg':∀x y P P',(∀d,P d->P' d)->g' x y P->g' x y P') :
  ∀E ρ P P',(∀d,P d->P' d)->Zbm g g' wa wb wc E ρ P->Zbm g g' wa wb wc E ρ P':=λE ρ P P' hp h=>
 ha.mono _ _ _ _ (λx hx=>hb.mono _ _ _ _ (λy hy=>hg x y _ _ (isB.mono λk hk=>by
  cases k with
  |true=>rw[if_pos rfl] at hk ⊢;exact hc.mono _ _ _ _ (λz hz=>hg' y z _ _ hp hz) hk
  |false=>rw[if_neg (by decide)] at hk ⊢;exact hp _ hk) hy) hx) h
theorem A1{op':CmpOp}{g g':G2}(ho:cX X (compareOp op) g)(ho':cX X (compareOp op') g')(ha:PX X EX a wa)(hb:PX X EX b wb)(hc:PX X EX c wc)
  (hm:lastMarks [op,op'] [b,c]=false:=by with_unfolding_all rfl):PX X EX (.Compare a [op,op'] [b,c] pos) (Zbm g g' wa wb wc):=by
 obtain⟨ta,pa,ka⟩:=ha.t;obtain⟨tb,pb,kb⟩:=hb.t;obtain⟨tc,pc,kc⟩:=hc.t;obtain⟨r,pr,kr⟩:=ho.t;obtain⟨r',pr',kr'⟩:=ho'.t;refine⟨⟨_,jx pr pr' pa pb pc hm,λW0 H0 W σ H ρ E Q s eo h=>?_⟩,Zbm.mono ha hb hc ho.mono ho'.mono⟩;refine iK ha.mono hb.mono ka kb s eo h λW2 H2 x y dx dy x2 rx ry hg=>kr W2 H2 x y dx dy _ x2.ok rx ry (ho.mono _ _ _ _ (λd hd v W3 H3 x3 r3=>?_) hg);obtain⟨k,rfl,q⟩:=lj hd;cases r3;refine⟨k,rfl,?_⟩;cases k with
 |true=>
  rw[if_pos rfl] at q ⊢;refine kc W0 H0 W3 σ H3 ρ E _ (s.step (x2.trans x3)) eo (hc.mono _ _ _ _ (λdz hz w W4 H4 x4 r4=>?_) q);exact kr' W4 H4 y w dy dz Q x4.ok (x4.rep (x3.rep ry)) r4 (ho'.mono _ _ _ _ (λd hd=>RQ.ext hd (x2.trans (x3.trans x4))) hz)
 |false=>rw[if_neg (by decide)] at q ⊢;exact q _ W3 H3 (x2.trans x3) (.bl false)
theorem A2{op':CmpOp}{g g':G2}(ho:cX X (compareOp op) g)(ho':cX X (compareOp op') g')(ha:PX X EX a wa)(hb:PX X EX b wb)(hc:PX X EX c wc)
  (hm:lastMarks [op,op'] [b,c]=false:=by with_unfolding_all rfl):fD X EX (.Compare a [op,op'] [b,c] pos) (wT (Zbm g g' wa wb wc)):=by
 obtain⟨ta,pa,ka⟩:=ha.t;obtain⟨tb,pb,kb⟩:=hb.t;obtain⟨tc,pc,kc⟩:=hc.t;obtain⟨r,pr,kr⟩:=ho.t;obtain⟨r',pr',kr'⟩:=ho'.t;refine⟨⟨_,jy pr pr' pa pb pc hm,λW0 H0 W σ H ρ E Q s eo h=>?_⟩,wT.mono (Zbm.mono ha hb hc ho.mono ho'.mono)⟩;refine iK ha.mono hb.mono ka kb s eo h λW2 H2 x y dx dy x2 rx ry hg=>kr W2 H2 x y dx dy _ x2.ok rx ry (ho.mono _ _ _ _ (λd hd v W3 H3 x3 r3=>?_) hg);obtain⟨k,rfl,q⟩:=lj hd;cases r3;refine⟨k,rfl,?_⟩;cases k with
 |true=>
  rw[if_pos rfl] at q ⊢;refine kc W0 H0 W3 σ H3 ρ E _ (s.step (x2.trans x3)) eo (hc.mono _ _ _ _ (λdz hz w W4 H4 x4 r4=>?_) q);refine kr' W4 H4 y w dy dz _ x4.ok (x4.rep (x3.rep ry)) r4 (ho'.mono _ _ _ _ (λd hd v5 W5 H5 x5 r5=>?_) hz);obtain⟨b,rfl,q'⟩:=lj hd;cases r5;exact⟨b,rfl,q' W5 H5 (x2.trans (x3.trans (x4.trans x5)))⟩
 |false=>rw[if_neg (by decide)] at q ⊢;exact⟨false,rfl,q W3 H3 (x2.trans x3)⟩
def aC:WA:=λ_ _ Q=>Q []
def aD(w:WE)(t:WA):WA:=λE ρ Q=>w E ρ λx=>t E ρ λxs=>Q (x::xs)
theorem aI:fE X EX [] aC:=⟨⟨_,cf,λ_ _ W _ H _ _ _ s _ h=>h [] W H (.refl s.ok) .nil⟩,λ_ _ _ _ hp h=>hp _ h⟩
theorem Za{w:WE}(ha:PX X EX e w)(hr:fE X EX es t)(hs:starEach (e::es) X.env=(false,eval e X.env)::starEach es X.env:=by rfl):fE X EX (e::es) (aD w t):=by
 obtain⟨ta,pa,ka⟩:=ha.t;obtain⟨tr,pr,kr⟩:=hr.t;refine⟨⟨_,bF pa pr hs,λW0 H0 W σ H ρ E Q s eo h=>?_⟩,λE ρ P P' hp h=>ha.mono _ _ _ _ (λd hd=>hr.mono _ _ _ _ (λds hds=>hp _ hds) hd) h⟩;refine ka W0 H0 W σ H ρ E _ s eo (ha.mono _ _ _ _ (λd hd v W1 H1 x1 r1=>?_) h);exact kr W0 H0 W1 σ H1 ρ E _ (s.step x1) eo (hr.mono _ _ _ _ (λds hds vs W2 H2 x2 r2=>hds _ W2 H2 (x1.trans x2) (.cons (x2.rep r1) r2)) hd)
def aM:Nat:=10000
theorem gi{n:Nat}(h:n<=aM):n<=sizeLine:=fA h (by rw[sizeLine_eq];decide)
def aP(t:WA):WE:=λE ρ Q=>t E ρ λxs=>xs.length<=aM/\Q (.tup xs)
def bP(t:WA):WA:=λE ρ Q=>t E ρ λxs=>xs.length<=aM/\Q xs
theorem cK{x1}(h:fE X EX es t):PX X EX (.Tuple es x1 pos) (aP t):=by
 obtain⟨ta,pa,ka⟩:=h.t;refine⟨⟨_,jC pa,λW0 H0 W σ H ρ E Q s eo hw=>?_⟩,λE ρ P P' hp z=>h.mono _ _ _ _ (λds hds=>⟨hds.1,hp _ hds.2⟩) z⟩;refine ka W0 H0 W σ H ρ E _ s eo (h.mono _ _ _ _ (λds hds vs W1 H1 x1 r1=>?_) hw);refine⟨by rw[r1.length];exact gi hds.1,λq hq=>?_⟩;exact(RQ.ext hds.2 x1).tup x1.ok r1 hq
theorem gj(h:fE X EX es t):PXL X EX (.List es pos) (bP t):=by
 obtain⟨ta,pa,ka⟩:=h.t;refine⟨⟨_,jD pa,λW0 H0 W σ H ρ E Q s eo hw=>?_⟩,λE ρ P P' hp z=>h.mono _ _ _ _ (λds hds=>⟨hds.1,hp _ hds.2⟩) z⟩;refine ka W0 H0 W σ H ρ E _ s eo (h.mono _ _ _ _ (λds hds vs W1 H1 x1 r1=>?_) hw);refine⟨by rw[r1.length];exact gi hds.1,λq hq=>?_⟩;exact hds.2 q vs W1 _ (x1.trans (.new x1.ok hq)) aF (x1.ok.fresh hq).1 (x1.ok.fresh hq).2 (x1.isN hq) r1
def wL(t:WA):WE:=λE ρ Q=>t E ρ λds=>Q (.lst ds)
theorem PXL.px(h:PXL X EX e t):PX X EX e (wL t):=by
 obtain⟨ta,pa,ka⟩:=h.t;refine⟨⟨_,pa,λW0 H0 W σ H ρ E Q s eo hw=>?_⟩,λE ρ P P' hp z=>h.mono _ _ _ _ (λds hds=>hp _ hds) z⟩;refine ka W0 H0 W σ H ρ E _ s eo (h.mono _ _ _ _ (λds hds a vs W1 H1 x1 e1 e2 e3 e4 r1=>?_) hw);refine hds _ _ _ (x1.pub e4 e1 e3 e2) (.lst (by unfold Wd.put;dsimp only;rw[aF]) (r1.mono (li e2) λ_ z=>z))
structure bZ(X:Cx)(f:Value)(g:List D->(D->Prop)->Prop):Prop where
 t:∃r,b7 X f r/\∀W H vs ds Q,WOk W H->Reps X.K W vs ds->g ds (RQ X.K W H Q)->r vs H Q
 mono:∀ds P P',(∀d,P d->P' d)->g ds P->g ds P'
def wB(g:List D->(D->Prop)->Prop)(t:WA):WE:=λE ρ Q=>t E ρ λds=>g ds Q
def aB(g:List D->(List D->Prop)->Prop)(t:WA):WA:=λE ρ Q=>t E ρ λds=>g ds Q
variable{id T:String}
theorem cr(hc:bZ X (.builtin id) g)(hm:X.mg x=none)(hv:bootBuiltins x=some (.builtin id))(ha:fE X EX (e::es) t)(hg:Gl X x:=by rfl)(hn:x≠ "__name__" :=by decide)(hdb:(x==("__debug__" : Str))=false:=by decide)
  (he:starEach (e::es) X.env=(false,eval e X.env)::starEach es X.env:=by rfl) (hpl:(backTo pos (starEach es X.env)).any (·.1)=false:=by rfl):PX X EX (.Call (.Name x p) (e::es) [] pos) (wB g t):=by
 obtain⟨ta,pa,ka⟩:=ha.t;obtain⟨r,pr,kr⟩:=hc.t;refine⟨⟨_,fR pr hg hm hv pa hn hdb he hpl,λW0 H0 W σ H ρ E Q s eo h=>?_⟩,λE ρ P P' hp z=>ha.mono _ _ _ _ (λds hds=>hc.mono _ _ _ hp hds) z⟩;exact ka W0 H0 W σ H ρ E _ s eo (ha.mono _ _ _ _ (λds hds vs W1 H1 x1 r1=>kr W1 H1 vs ds Q x1.ok r1 (hc.mono _ _ _ (λd hd=>RQ.ext hd x1) hds)) h)
theorem gk(hc:bZ X (.type T) g)(hm:X.mg x=none)(hv:bootBuiltins x=some (.type T))(ha:fE X EX (e::es) t)(hg:Gl X x:=by rfl)(hn:x≠ "__name__" :=by decide)(hdb:(x==("__debug__" : Str))=false:=by decide)
  (he:starEach (e::es) X.env=(false,eval e X.env)::starEach es X.env:=by rfl) (hpl:(backTo pos (starEach es X.env)).any (·.1)=false:=by rfl):PX X EX (.Call (.Name x p) (e::es) [] pos) (wB g t):=by
 obtain⟨ta,pa,ka⟩:=ha.t;obtain⟨r,pr,kr⟩:=hc.t;refine⟨⟨_,iE pr hg hm hv pa hn hdb he hpl,λW0 H0 W σ H ρ E Q s eo h=>?_⟩,λE ρ P P' hp z=>ha.mono _ _ _ _ (λds hds=>hc.mono _ _ _ hp hds) z⟩;exact ka W0 H0 W σ H ρ E _ s eo (ha.mono _ _ _ _ (λds hds vs W1 H1 x1 r1=>kr W1 H1 vs ds Q x1.ok r1 (hc.mono _ _ _ (λd hd=>RQ.ext hd x1) hds)) h)
abbrev bW:=List D->(Ex->Prop)->(D->Prop)->Prop
def ln(S:bW):Prop:=∀ds E E' Q Q',(∀ex,E ex->E' ex)->(∀d,Q d->Q' d)->S ds E Q->S ds E' Q'
def dI(K:D9)(S:bW):Sp:=λvs H Q EX=>∃ds W,WOk W H/\Reps K W vs ds/\S ds (λex=>∀W' H' cls dx,Ext W H W' H'->nw K W' H' cls dx ex->EX cls dx H') (RQ K W H Q)
def wF(S:bW)(t:WA):WE:=λE ρ Q=>t E ρ λds=>S ds E Q
theorem A3{CX:iB}{f:Addr}{S:bW}(F:FnOk X.prog X.w X.K X.mg X.base CX k f fd ps (dI X.K S))(hS:ln S)(hr:Room k X.A)(hm:X.mg x=some (.ref f))(hk:PySem.W.keepIn X.K (.ref f)=true)(hb:Binds X.K fd ps [])
  (hx:aQ CX X EX) (ha:fE X EX (e::es) t) (hg:Gl X x:=by rfl) (hdb:(x==("__debug__" : Str))=false:=by decide) (he:starEach (e::es) X.env=(false,eval e X.env)::starEach es X.env:=by rfl) (hpl:(backTo pos (starEach es X.env)).any (·.1)=false:=by rfl) :
  PX X EX (.Call (.Name x p) (e::es) [] pos) (wF S t):=by
 obtain⟨ta,pa,ka⟩:=ha.t;refine⟨⟨_,hX F hr hg hm hk hb .nil hx pa hdb he hpl,λW0 H0 W σ H ρ E Q s eo h=>?_⟩,λE ρ P P' hp z=>ha.mono _ _ _ _ (λds hds=>hS _ _ _ _ _ (λ_ q=>q) hp hds) z⟩;refine ka W0 H0 W σ H ρ E _ s eo (ha.mono _ _ _ _ (λds hds vs W1 H1 x1 r1=>?_) h);refine⟨ds,W1,x1.ok,by rw[kn];exact r1,hS _ _ _ _ _ (λex hex W' H' cls dx x' r'=>?_) (λd hd=>RQ.ext hd x1) hds⟩;exact eo ex W' H' cls dx hex (s.ext.trans (x1.trans x')) r'
structure rW(X:Cx)(g:G2):Prop where
 t:∃r,IxR X r/\∀W H x y dx dy Q,WOk W H->Rep X.K W x dx->Rep X.K W y dy->g dx dy (RQ X.K W H Q)->r x y H Q
 mono:∀x y P P',(∀d,P d->P' d)->g x y P->g x y P'
theorem iM{g:G2}(ho:rW X g)(ha:PX X EX a wa)(hb:PX X EX b wb)(hs:cV b:=by exact λ_ _=>rfl):PX X EX (.Subscript a b pos) (w2 g wa wb):=by
 obtain⟨ta,pa,ka⟩:=ha.t;obtain⟨tb,pb,kb⟩:=hb.t;obtain⟨r,pr,kr⟩:=ho.t;refine⟨⟨_,h8 pr pa pb hs,λW0 H0 W σ H ρ E Q s eo h=>?_⟩,w2.mono ha hb ho.mono⟩;exact iK ha.mono hb.mono ka kb s eo h λW2 H2 x y dx dy x2 rx ry hg=>kr W2 H2 x y dx dy Q x2.ok rx ry (ho.mono _ _ _ _ (λd hd=>RQ.ext hd x2) hg)
structure xQ(X:Cx)(f:Value->Sem Value)(g:D->(D->Prop)->Prop):Prop where
 t:∃r,rQ X f r/\∀W H x dx Q,WOk W H->Rep X.K W x dx->g dx (RQ X.K W H Q)->r x H Q
 mono:∀x P P',(∀d,P d->P' d)->g x P->g x P'
def w1(g:D->(D->Prop)->Prop)(wa:WE):WE:=λE ρ Q=>wa E ρ λx=>g x Q
theorem kv{op:UnaryOp}{g:D->(D->Prop)->Prop}(ho:xQ X (unaryOp op) g)(ha:PX X EX a wa):PX X EX (.UnaryOp op a pos) (w1 g wa):=by
 obtain⟨ta,pa,ka⟩:=ha.t;obtain⟨r,pr,kr⟩:=ho.t;refine⟨⟨_,l3 pr pa,λW0 H0 W σ H ρ E Q s eo h=>?_⟩,λE ρ P P' hp z=>ha.mono _ _ _ _ (λd hd=>ho.mono _ _ _ hp hd) z⟩;exact ka W0 H0 W σ H ρ E _ s eo (ha.mono _ _ _ _ (λd hd v W1 H1 x1 r1=>kr W1 H1 v d Q x1.ok r1 (ho.mono _ _ _ (λd hd=>RQ.ext hd x1) hd)) h)
structure rX(X:Cx)(EX:XK)(e:Option Expr)(w:(Ex->Prop)->bV->(Option Int->Prop)->Prop):Prop where
 t:∃t,PO X e t/\∀W0 H0 W σ H ρ E Q,SOk X.K W0 H0 W σ H ρ->gK X.K W0 H0 E EX->w E ρ (λo=>∀W' H',Ext W H W' H'->Q o H')->t σ H Q
 mono:∀E ρ P P',(∀d,P d->P' d)->w E ρ P->w E ρ P'
def isI(Q:Int->Prop):D->Prop
 |.int i=>Q i
 |_=>False
theorem isI.mono{Q Q':Int->Prop}(h:∀b,Q b->Q' b):∀d,isI Q d->isI Q' d
 |.int b,z=>h b z
 |.non,z=>z|.bl _,z=>z|.str _,z=>z|.tup _,z=>z|.lst _,z=>z|.dic,z=>z|.pen,z=>z|.cls _,z=>z|.exc _,z=>z|.ty _,z=>z|.scr _,z=>z|.pl _ _,z=>z
theorem nE{Q:Int->Prop}(h:isI Q d):∃b,d=.int b/\Q b:=by
 cases d with
 |int b=>exact⟨b,rfl,h⟩
 |_=>exact h.elim
def i7:(Ex->Prop)->bV->(Option Int->Prop)->Prop:=λ_ _ Q=>Q none
def gl(w:WE):(Ex->Prop)->bV->(Option Int->Prop)->Prop:=λE ρ Q=>w E ρ (isI λi=>Q (some i))
theorem oq:rX X EX none i7:=⟨⟨_,k9,λ_ _ W _ H _ _ _ s _ h=>h W H (.refl s.ok)⟩,λ_ _ _ _ hp h=>hp _ h⟩
theorem kx(ha:PX X EX a wa):rX X EX (some a) (gl wa):=by
 obtain⟨ta,pa,ka⟩:=ha.t;refine⟨⟨_,la pa,λW0 H0 W σ H ρ E Q s eo h=>?_⟩,λE ρ P P' hp z=>ha.mono _ _ _ _ (isI.mono λi hi=>hp _ hi) z⟩;refine ka W0 H0 W σ H ρ E _ s eo (ha.mono _ _ _ _ (λd hd v W1 H1 x1 r1=>?_) h);obtain⟨i,rfl,q⟩:=nE hd;cases r1;exact⟨i,rfl,q W1 H1 x1⟩
def bE{α:Type}(xs:List α)(lo hi:Option Int):List α:=(xs.drop (HT.sIx xs.length 0 lo)).take (HT.sIx xs.length xs.length hi-HT.sIx xs.length 0 lo)
def gCut(x:D)(lo hi:Option Int)(Q:D->Prop):Prop:=match x with
 |.tup xs=>Q (.tup (bE xs lo hi))
 |.lst xs=>Q (.lst (bE xs lo hi))
 |.scr xs=>Q (.lst (bE xs lo hi))
 |_=>False
end
variable{S:bW}{Ss:List (Str×bW)}
def Bd(i:Int):Prop:=i.natAbs<2^8990
theorem Bd.log{i:Int}(h:Bd i):i.natAbs.log2<8990:=by
 by_cases h0:i.natAbs=0
 .rw[h0];decide
 .exact(Nat.log2_lt h0).mpr h
theorem Bd.bits{i:Int}(h:Bd i):Builtin.Int.intBits i<=2^20:=by
 unfold Builtin.Int.intBits;have:=h.log;have e:(2:Nat)^20=1048576:=by decide
 split<;>omega
def uy(i j:Int):Prop:=Bd i/\Bd j
def uz(_ j:Int):Prop:=j≠0/\Bd j
section
theorem Zjp:OpR X (binaryOp .Mult) (rI uy λi j=>.int (i*j)):=rS λ_ _ _ _ _ _ _ hc q=>mul_int q (IntMulOk.of_bits hc.1.bits hc.2.bits)
theorem A4:OpR X (binaryOp .FloorDiv) (rI uz λi j=>.int (i.fdiv j)):=rS λ_ _ _ _ _ _ _ hc q=>floordiv_int hc.1 q (.inl (PyProof.noPylong_of_log2 (by have:=hc.2.log;omega)))
def gI2(C:Int->Int->Prop)(kd:Int->Int->D):G2:=λx y Q=>match x,y with
 |.int i,.int j=>C i j/\Q (kd i j)
 |_,_=>False
theorem gI2.mono{C:Int->Int->Prop}{kd:Int->Int->D}:∀x y P P',(∀d,P d->P' d)->gI2 C kd x y P->gI2 C kd x y P':=λx y P P' hp hg=>by
 unfold gI2 at hg ⊢;split at hg
 .exact⟨hg.1,hp _ hg.2⟩
 .exact hg.elim
theorem gI2.get{C:Int->Int->Prop}{kd:Int->Int->D}{x y:D}(h:gI2 C kd x y Q):∃i j,x=.int i/\y=.int j/\C i j/\Q (kd i j):=by
 unfold gI2 at h;split at h
 .exact⟨_,_,rfl,rfl,h.1,h.2⟩
 .exact h.elim
theorem mi{f:Value->Value->Sem Value}{C:Int->Int->Prop}{k:Int->Int->V}{kd:Int->Int->D}(h:OpR X f (rI C k))(hk:∀W i j,Rep X.K W (k i j) (kd i j)):cX X f (gI2 C kd):=
 ⟨⟨_,h,λW H x y dx dy Q ok rx ry hg=>by
  obtain⟨i,j,rfl,rfl,hc,q⟩:=hg.get;cases rx;cases ry;exact⟨_,_,rfl,rfl,hc,q.now ok (hk _ _ _)⟩⟩,gI2.mono⟩
theorem ot{f:Value->Value->Sem Value}{k:Int->Int->V}(h:OpR X f (kT k)):OpR X f (rI (λ_ _=>True) k):=λpins s σ H x y v u Q I rx ry ⟨i,j,e1,e2,_,q⟩=>h pins s σ H x y v u Q I rx ry ⟨i,j,e1,e2,q⟩
theorem ky:cX X (binaryOp .Sub) (gI2 (λ_ _=>True) λi j=>.int (i-j)):=mi (ot m6) λ_ _ _=>.int _
theorem ou:cX X (binaryOp .Mod) (gI2 (λ_ j=>j≠0) λi j=>.int (i.fmod j)):=mi kX λ_ _ _=>.int _
theorem rY:cX X (binaryOp .FloorDiv) (gI2 uz λi j=>.int (i.fdiv j)):=mi A4 λ_ _ _=>.int _
theorem oy:cX X (binaryOp .Pow) (gI2 kW λi j=>.int (i^j.toNat)):=mi m7 λ_ _ _=>.int _
theorem A5:OpR X (compareOp .Lt) (kT λi j=>.bl (decide (i<j))):=kU λ_ _ _ _ _ _ _ q=>lt_int q
theorem A6:OpR X (compareOp .LtE) (kT λi j=>.bl (decide (i<=j))):=kU λ_ _ _ _ _ _ _ q=>le_int q
theorem A7:OpR X (compareOp .Gt) (kT λi j=>.bl (decide (i>j))):=kU λ_ _ _ _ _ _ _ q=>gt_int q
theorem A8:OpR X (compareOp .GtE) (kT λi j=>.bl (decide (i ≥ j))):=kU λ_ _ _ _ _ _ _ q=>ge_int q
theorem qq:cX X (compareOp .Lt) (gI2 (λ_ _=>True) λi j=>.bl (decide (i<j))):=mi (ot A5) λ_ _ _=>.bl _
theorem jT:cX X (compareOp .LtE) (gI2 (λ_ _=>True) λi j=>.bl (decide (i<=j))):=mi (ot A6) λ_ _ _=>.bl _
theorem nF:cX X (compareOp .Gt) (gI2 (λ_ _=>True) λi j=>.bl (decide (i>j))):=mi (ot A7) λ_ _ _=>.bl _
theorem uA:cX X (compareOp .GtE) (gI2 (λ_ _=>True) λi j=>.bl (decide (i ≥ j))):=mi (ot A8) λ_ _ _=>.bl _
theorem kz:xQ X (unaryOp .USub) (λx Q=>isI (λi=>Q (.int (-i))) x):=
 ⟨⟨_,ju,λW H x dx Q ok rx hg=>by
  obtain⟨i,rfl,q⟩:=nE hg;cases rx;exact⟨i,rfl,q.now ok (.int _)⟩⟩,λx P P' hp h=>isI.mono (λi hi=>hp _ hi) x h⟩
mutual
def eK:D->Option PyData
 |.non=>some .none
 |.bl b=>some (.bool b)
 |.int i=>some (.int i)
 |.str x=>some (.str x)
 |.tup xs=>(dl xs).map .tuple
 |.lst xs=>(dl xs).map .list
 |.dic=>none
 |.pen=>none
 |.cls _=>none
 |.exc _=>none
 |.ty _=>none
 |.pl _ _=>none
 |.scr _=>none
def dl:List D->Option (List PyData)
 |[]=>some []
 |x::r=>match eK x,dl r with
  |some a,some b=>some (a::b)
  |_,_=>none
end
variable{s:Shared}{W:Wd}
mutual
theorem qr(I:Inv X pins σ H s)(ok:WOk W H):∀{v:V} {d:D} {u:Value} {p:PyData},Rep X.K W v d->RelV v u->eK d=some p->∃as,Reads s.heap u p as
 |_,_,u,p,.non,r,e=>by cases e;cases r;exact⟨_,.none⟩
 |_,_,u,p,.bl b,r,e=>by cases e;cases r;exact⟨_,.bool b⟩
 |_,_,u,p,.int i,r,e=>by cases e;obtain⟨t,rfl⟩:=r;exact⟨_,.int i t⟩
 |_,_,u,p,.str x,r,e=>by cases e;obtain⟨t,rfl⟩:=r;exact⟨_,.str x t⟩
 |.ref a,.tup ds,u,p,.tup e0 rs,r,e=>by
  cases r;cases q:dl ds with
  |none=>rw[eK,q] at e;cases e
  |some ps=>
   rw[eK,q] at e;cases e;obtain⟨its,rv,⟨o,h1,h2,n,h3⟩,_⟩:=I.tuple (xs:=_) (SqT.of (ok.g _ _ e0));obtain⟨as,ra⟩:=rZ I ok rs rv q;exact⟨_,.tuple h1 h2 h3 (by simpa using ra)⟩
 |.ref a,.tup ds,u,p,.ktup e0 rs,r,e=>by
  cases r;cases q:dl ds with
  |none=>rw[eK,q] at e;cases e
  |some ps=>
   rw[eK,q] at e;cases e;obtain⟨its,rv,⟨o,h1,h2,n,h3⟩,_⟩:=I.tuple (xs:=_) (.inr e0);obtain⟨as,ra⟩:=rZ I ok rs rv q;exact⟨_,.tuple h1 h2 h3 (by simpa using ra)⟩
 |.ref a,.lst ds,u,p,.lst e0 rs,r,e=>by
  cases r;cases q:dl ds with
  |none=>rw[eK,q] at e;cases e
  |some ps=>
   rw[eK,q] at e;cases e;obtain⟨its,rv,⟨o,n,h1,h2,h3,h4⟩,_⟩:=I.list (xs:=_) (SqL.of (ok.g _ _ e0));obtain⟨as,ra⟩:=rZ I ok rs rv q;exact⟨_,.list h1 h2 h4 (by simpa using ra)⟩
 |_,_,u,p,.dic _,r,e=>by rw[eK] at e;cases e
 |_,_,u,p,.pen _,r,e=>by rw[eK] at e;cases e
 |_,_,u,p,.cls _,r,e=>by rw[eK] at e;cases e
 |_,_,u,p,.exc _ _ _,r,e=>by rw[eK] at e;cases e
 |_,_,u,p,.ty _,r,e=>by rw[eK] at e;cases e
 |_,_,u,p,.pl _,r,e=>by rw[eK] at e;cases e
 |_,_,u,p,.scr _ _,r,e=>by rw[eK] at e;cases e
theorem rZ(I:Inv X pins σ H s)(ok:WOk W H):∀{vs:List V} {ds:List D} {us:List Value} {ps:List PyData},Reps X.K W vs ds->Vals vs us->dl ds=some ps->∃as,ReadsAll s.heap us ps as
 |_,_,us,ps,.nil,r,e=>by rw[dl] at e;cases e;cases r;exact⟨_,.nil⟩
 |_,d::ds,us,ps,.cons rd rs,r,e=>by
  rw[dl] at e;cases q1:eK d with
  |none=>rw[q1] at e;cases e
  |some a=>
   cases q2:dl ds with
   |none=>rw[q1,q2] at e;cases e
   |some b=>
    rw[q1,q2] at e;cases e;cases r with
    |cons r1 r2=>
     obtain⟨as,ra⟩:=qr I ok rd r1 q1;obtain⟨bs,rb⟩:=rZ I ok rs r2 q2;exact⟨_,.cons ra rb⟩
end
def gEq(neg:Bool):G2:=λx y Q=>∃p q,eK x=some p/\eK y=some q/\PySem.SeqAt.shaped p=true/\PySem.SeqAt.shaped q=true/\Q (.bl (if neg then !PyData.eqv p q else PyData.eqv p q))
theorem gEq.mono:∀x y P P',(∀d,P d->P' d)->gEq neg x y P->gEq neg x y P':=λx y P P' hp ⟨p,q,h1,h2,h3,h4,h5⟩=>⟨p,q,h1,h2,h3,h4,hp _ h5⟩
theorem iN(hu:X.A.units+64<cLine):cX X (compareOp .Eq) (gEq false):=by
 refine⟨⟨λx y H Q=>∃W dx dy,WOk W H/\Rep X.K W x dx/\Rep X.K W y dy/\gEq false dx dy (RQ X.K W H Q),?_,λW H x y dx dy Q ok rx ry hg=>⟨W,dx,dy,ok,rx,ry,hg⟩⟩,gEq.mono⟩;rintro pins s σ H x y v u Q I rx ry ⟨W,dx,dy,ok,r1,r2,p,q,h1,h2,h3,h4,h5⟩;obtain⟨as,ra⟩:=qr I ok r1 rx h1;obtain⟨bs,rb⟩:=qr I ok r2 ry h2;exact eq_dataH ra rb h3 h4 hu ⟨.bl _,H,I,rfl,h5.now ok (.bl _)⟩
theorem dm(hu:X.A.units+64<cLine):cX X (compareOp .NotEq) (gEq true):=by
 refine⟨⟨λx y H Q=>∃W dx dy,WOk W H/\Rep X.K W x dx/\Rep X.K W y dy/\gEq true dx dy (RQ X.K W H Q),?_,λW H x y dx dy Q ok rx ry hg=>⟨W,dx,dy,ok,rx,ry,hg⟩⟩,gEq.mono⟩;rintro pins s σ H x y v u Q I rx ry ⟨W,dx,dy,ok,r1,r2,p,q,h1,h2,h3,h4,h5⟩;obtain⟨as,ra⟩:=qr I ok r1 rx h1;obtain⟨bs,rb⟩:=qr I ok r2 ry h2;exact ne_dataH ra rb h3 h4 hu ⟨.bl _,H,I,rfl,h5.now ok (.bl _)⟩
end
section
variable{a:Expr}
def gAdd:G2:=λx y Q=>match x,y with
 |.int i,.int j=>Q (.int (i+j))
 |.lst xs,.lst ys=>xs.length+ys.length<=aM/\Q (.lst (xs++ys))
 |.tup xs,.tup ys=>xs.length+ys.length<=aM/\Q (.tup (xs++ys))
 |_,_=>False
theorem gAdd.mono:∀x y P P',(∀d,P d->P' d)->gAdd x y P->gAdd x y P':=λx y P P' hp hg=>by
 unfold gAdd at hg ⊢;split at hg
 .exact hp _ hg
 .exact⟨hg.1,hp _ hg.2⟩
 .exact⟨hg.1,hp _ hg.2⟩
 .exact hg.elim
def qs(K:D9):R2:=λx y H Q=>∃l b xs zs,x=.ref l/\y=.ref b/\SqL K H l xs/\SqL K H b zs/\xs.length+zs.length<=sizeLine/\∀p,H p=none->Q (.ref p) (upd H p (.lst (xs++zs)))
theorem Zhf:OpR X (binaryOp .Add) (qs X.K):=by
 intro pins s σ H x y v u Q I rx ry h;obtain⟨l,b,xs,zs,rfl,rfl,hH,hB,hz,q⟩:=h;cases rx;cases ry;obtain⟨its,r,pl,z⟩:=I.list hH;obtain⟨its2,r2,pl2,z2⟩:=I.list hB;have hl:=r.length;have hl2:=r2.length;obtain⟨⟨cls,dd,data,sl⟩,n,ho,hc,_,hd⟩:=pl;obtain⟨⟨cls2,dd2,data2,sl2⟩,n2,ho2,hc2,_,hd2⟩:=pl2;simp only at hc hd hc2 hd2;subst hc hd hc2 hd2;have e:its.toArray++its2.toArray=(its++its2).toArray:=by simp
 refine concat_meets ⟨_,ho,rfl⟩ ⟨_,ho2,rfl⟩ noFill_list_add seq_list_add PySem.F.slot_list_add PySem.F.entry_list_add (PySem.F.args_list_add_2 _ _) (list_addW l b its.toArray its2.toArray n n2 dd dd2 sl sl2 (by simp;omega)) ⟨ho,ho2,?_⟩;rw[e];exact⟨.ref _,_,I.lnew (t':=s.toks) (r.append r2) (by rw[dP];omega),rfl,q _ I.fresh⟩
def Zk(K:D9):R2:=λx y H Q=>∃a b xs ys,x=.ref a/\y=.ref b/\SqT K H a xs/\SqT K H b ys/\xs.length+ys.length<=sizeLine/\
 (xs=[]->Q (.ref b) H)/\(ys=[]->Q (.ref a) H)/\∀p,H p=none->Q (.ref p) (upd H p (.tup (xs++ys)))
theorem A9:OpR X (binaryOp .Add) (Zk X.K):=by
 intro pins s σ H x y v u Q I rx ry h;obtain⟨a,b,xs,ys,rfl,rfl,ha,hb,hz,q1,q2,q3⟩:=h
 by_cases hx:xs=[]
 .cases rx
  cases ry;obtain⟨its,r1,p1,_⟩:=I.tuple ha;obtain⟨its2,r2,p2,_⟩:=I.tuple hb;have hi:its=[]:=r1.nil_iff.mpr hx;obtain⟨⟨cls,dd,data,sl⟩,ho,hc,n,hd⟩:=id p1;obtain⟨⟨cls2,dd2,data2,sl2⟩,ho2,hc2,n2,hd2⟩:=id p2;simp only at hc hd hc2 hd2;subst hc hd hc2 hd2;exact concat_meets ⟨_,ho,rfl⟩ ⟨_,ho2,rfl⟩ noFill_tuple_add seq_tuple_add PySem.F.slot_tuple_add PySem.F.entry_tuple_add (PySem.F.args_tuple_add_2 _ _)
   (tuple_addW0 a b its.toArray its2.toArray n n2 dd dd2 sl sl2 (by simp[hi])) ⟨ho,ho2,⟨.ref b,H,I,rfl,q1 hx⟩⟩
 .exact lb pins s σ H _ _ v u Q I rx ry ⟨a,b,xs,ys,rfl,rfl,ha,hb,hx,hz,q2,λ_=>q3⟩
theorem dn:cX X (binaryOp .Add) gAdd:=by
 refine⟨⟨_,(ot m4).or (Zhf.or A9),λW H x y dx dy Q ok rx ry hg=>?_⟩,gAdd.mono⟩;unfold gAdd at hg;split at hg
 .cases rx;cases ry
  exact .inl ⟨_,_,rfl,rfl,trivial,hg.now ok (.int _)⟩
 .obtain⟨p,vs,rfl,h1,r1⟩:=rx.sql ok
  obtain⟨q,us,rfl,h2,r2⟩:=ry.sql ok;refine .inr (.inl ⟨p,q,vs,us,rfl,rfl,h1,h2,by rw[r1.length,r2.length];exact gi hg.1,λa ha=>hg.2.lst ok (r1.append r2) ha⟩)
 .obtain⟨p,vs,rfl,h1,r1⟩:=rx.sqt ok
  obtain⟨q,us,rfl,h2,r2⟩:=ry.sqt ok;rename_i xs ys;refine .inr (.inr ⟨p,q,vs,us,rfl,rfl,h1,h2,by rw[r1.length,r2.length];exact gi hg.1,λe=>?_,λe=>?_,λa ha=>hg.2.tup ok (r1.append r2) ha⟩)
  .subst e
   cases r1;exact hg.2.now ok ry
  .subst e
   cases r2;rw[kn] at hg;exact hg.2.now ok rx
 .exact hg.elim
def gMul:G2:=λx y Q=>match x,y with
 |.int i,.int j=>uy i j/\Q (.int (i*j))
 |.lst xs,.int k=>k<1000/\-1000<k/\xs.length*k.toNat<=aM/\Q (.lst (List.replicate k.toNat xs).flatten)
 |_,_=>False
theorem gMul.mono:∀x y P P',(∀d,P d->P' d)->gMul x y P->gMul x y P':=λx y P P' hp hg=>by
 unfold gMul at hg ⊢;split at hg
 .exact⟨hg.1,hp _ hg.2⟩
 .exact⟨hg.1,hg.2.1,hg.2.2.1,hp _ hg.2.2.2⟩
 .exact hg.elim
theorem xR{W:Wd}(r:Reps K W vs ds)(n:Nat):Reps K W (List.replicate n vs).flatten (List.replicate n ds).flatten:=by
 induction n with
 |zero=>exact .nil
 |succ n ih=>rw[gZ,gZ,mE,mE];exact r.append ih
theorem oz:cX X (binaryOp .Mult) gMul:=by
 refine⟨⟨_,Zjp.or nr,λW H x y dx dy Q ok rx ry hg=>?_⟩,gMul.mono⟩;unfold gMul at hg;split at hg
 .cases rx;cases ry
  exact .inl ⟨_,_,rfl,rfl,hg.1,hg.2.now ok (.int _)⟩
 .cases ry
  cases rx with
  | @lst l vs _ e r=>
   refine .inr ⟨l,_,vs,rfl,rfl,ok.g _ _ e,by omega,by omega,?_,λp hp=>hg.2.2.2.lst ok (xR r _) hp⟩;rw[r.length];exact gi hg.2.2.1
 .exact hg.elim
theorem r8{W:Wd}(r:Reps K W vs xs){i:Int}(h:cA xs i=some d):∃v,cA vs i=some v/\Rep K W v d:=by
 unfold cA at h ⊢;rw[r.length];cases q:iF xs.length i with
 |none=>rw[q] at h;cases h
 |some k=>
  rw[q] at h;obtain⟨v,e,rv⟩:=r.get (show xs[k]? = some d from h);exact⟨v,e,rv⟩
def gIx:G2:=λx y Q=>isI (λi=>match x with
 |.tup xs=>∃d,cA xs i=some d/\Q d
 |.lst xs=>∃d,cA xs i=some d/\Q d
 |.scr xs=>∃d,cA xs i=some d/\Q d
 |_=>False) y
theorem gIx.mono:∀ x y P P',(∀ d,P d->P' d)->gIx x y P->gIx x y P':=λx y P P' hp hg=>isI.mono (λi h=>by
 split at h
 .obtain⟨d,e,q⟩:=h;exact⟨d,e,hp _ q⟩
 .obtain⟨d,e,q⟩:=h;exact⟨d,e,hp _ q⟩
 .obtain⟨d,e,q⟩:=h;exact⟨d,e,hp _ q⟩
 .exact h.elim) y hg
theorem gL:rW X gIx:=by
 refine⟨⟨_,gH,λW H x y dx dy Q ok rx ry hg=>?_⟩,gIx.mono⟩;obtain⟨i,rfl,h⟩:=nE hg;cases ry;split at h
 .obtain⟨d,e,q⟩:=h
  obtain⟨p,vs,rfl,h1,r1⟩:=rx.sqt ok;obtain⟨v,e1,rv⟩:=r8 r1 e;exact .inr (.inl ⟨p,vs,i,v,rfl,rfl,h1,e1,q.now ok rv⟩)
 .obtain⟨d,e,q⟩:=h
  obtain⟨p,vs,rfl,h1,r1⟩:=rx.sql ok;obtain⟨v,e1,rv⟩:=r8 r1 e;exact .inl ⟨p,vs,i,v,rfl,rfl,h1,e1,q.now ok rv⟩
 .obtain⟨d,e,q⟩:=h
  obtain⟨p,vs,rfl,h1,r1⟩:=rx.sqs ok;obtain⟨v,e1,rv⟩:=r8 r1 e;exact .inl ⟨p,vs,i,v,rfl,rfl,h1,e1,q.now ok rv⟩
 .exact h.elim
theorem Reps.cut{W:Wd}(r:Reps K W vs ds)(lo hi:Option Int):Reps K W (fT vs lo hi) (bE ds lo hi):=by
 unfold fT bE;rw[r.length];exact(r.drop _).take _
theorem Ba(h:HT.sIx xs.length 0 lo=0/\HT.sIx xs.length xs.length hi=xs.length):bE xs lo hi=xs:=by
 unfold bE;rw[h.1,h.2];simp
theorem gCut.mono:∀x P P',(∀d,P d->P' d)->gCut x lo hi P->gCut x lo hi P':=λx P P' hp hg=>by
 unfold gCut at hg ⊢;split at hg
 .exact hp _ hg
 .exact hp _ hg
 .exact hp _ hg
 .exact hg.elim
def cY(wa:WE)(wl wh:(Ex->Prop)->bV->(Option Int->Prop)->Prop):WE:=λE ρ Q=>wa E ρ λx=>wl E ρ λl=>wh E ρ λh=>gCut x l h Q
theorem mj{lo hi:Option Expr}{wl wh}(ha:PX X EX a wa)(hl:rX X EX lo wl)(hh:rX X EX hi wh):PX X EX (.Subscript a (.Slice lo hi none p2) pos) (cY wa wl wh):=by
 obtain⟨ta,pa,ka⟩:=ha.t;obtain⟨tl,pl,kl⟩:=hl.t;obtain⟨th,ph,kh⟩:=hh.t;refine⟨⟨_,jI (sl_list.or (sl_tup.or Ah)) pa pl ph,λW0 H0 W σ H ρ E Q s eo h=>?_⟩,λE ρ P P' hp h=>ha.mono _ _ _ _ (λx hx=>hl.mono _ _ _ _ (λl hl'=>hh.mono _ _ _ _ (λu hu=>gCut.mono x _ _ hp hu) hl') hx) h⟩;refine ka W0 H0 W σ H ρ E _ s eo (ha.mono _ _ _ _ (λdx hx v W1 H1 x1 r1=>?_) h);refine kl W0 H0 W1 σ H1 ρ E _ (s.step x1) eo (hl.mono _ _ _ _ (λl hl' W2 H2 x2=>?_) hx);refine kh W0 H0 W2 σ H2 ρ E _ ((s.step x1).step x2) eo (hh.mono _ _ _ _ (λu hu W3 H3 x3=>?_) hl');have r3:=(x2.trans x3).rep r1;have hu':=gCut.mono dx _ _ (λd hd=>RQ.ext hd (x1.trans (x2.trans x3))) hu;unfold gCut at hu';split at hu'
 .obtain⟨p,vs,rfl,h1,rr⟩:=r3.sqt x3.ok
  rename_i xs
  by_cases hw:HT.sIx vs.length 0 l=0/\HT.sIx vs.length vs.length u=vs.length
  .refine .inr (.inr ⟨p,vs,rfl,h1,hw,?_⟩)
   rw[rr.length] at hw;rw[Ba hw] at hu';exact hu'.now x3.ok r3
  .exact .inr (.inl ⟨p,vs,rfl,h1,hw,λq hq=>hu'.tup x3.ok (rr.cut l u) hq⟩)
 .obtain⟨p,vs,rfl,h1,rr⟩:=r3.sql x3.ok
  exact .inl ⟨p,vs,rfl,h1,λq hq=>hu'.lst x3.ok (rr.cut l u) hq⟩
 .obtain⟨p,vs,rfl,h1,rr⟩:=r3.sqs x3.ok
  exact .inl ⟨p,vs,rfl,h1,λq hq=>hu'.lst x3.ok (rr.cut l u) hq⟩
 .exact hu'.elim
def gRev:D->(D->Prop)->Prop:=λx Q=>match x with
 |.tup xs=>Q (.tup xs.reverse)
 |.lst xs=>Q (.lst xs.reverse)
 |_=>False
theorem gRev.mono:∀x P P',(∀d,P d->P' d)->gRev x P->gRev x P':=λx P P' hp hg=>by
 unfold gRev at hg ⊢;split at hg
 .exact hp _ hg
 .exact hp _ hg
 .exact hg.elim
theorem xT{j pos3 pos4}(ha:PX X EX a wa):PX X EX (.Subscript a (.Slice none none (some (.UnaryOp .USub (.Constant (.int 1) j pos3) pos4)) p2) pos) (w1 gRev wa):=by
 obtain⟨ta,pa,ka⟩:=ha.t;refine⟨⟨_,Aj pa,λW0 H0 W σ H ρ E Q s eo h=>?_⟩,λE ρ P P' hp h=>ha.mono _ _ _ _ (λx hx=>gRev.mono x _ _ hp hx) h⟩;refine ka W0 H0 W σ H ρ E _ s eo (ha.mono _ _ _ _ (λdx hx v W1 H1 x1 r1=>?_) h);have hu':=gRev.mono dx _ _ (λd hd=>RQ.ext hd x1) hx;unfold gRev at hu';split at hu'
 .obtain⟨p,vs,rfl,h1,rr⟩:=r1.sqt x1.ok
  exact⟨p,vs,rfl,.inl ⟨h1,λq hq=>hu'.tup x1.ok rr.rev hq⟩⟩
 .obtain⟨p,vs,rfl,h1,rr⟩:=r1.sql x1.ok
  exact⟨p,vs,rfl,.inr ⟨h1,λq hq=>hu'.lst x1.ok rr.rev hq⟩⟩
 .exact hu'.elim
def bK:List D->(D->Prop)->Prop:=λds Q=>match ds with
 |[.tup xs]=>Q (.int xs.length)
 |[.lst xs]=>Q (.int xs.length)
 |[.scr xs]=>Q (.int xs.length)
 |_=>False
theorem ig:bZ X (.builtin "len") bK:=by
 refine⟨⟨_,cW,λW H vs ds Q ok r hg=>?_⟩,λds P P' hp hg=>?_⟩
 .unfold bK at hg
  split at hg
  .obtain⟨v,rfl,rv⟩:=r.one
   obtain⟨p,us,rfl,h1,rr⟩:=rv.sqt ok;exact⟨p,us,rfl,.inr h1,by rw[rr.length];exact hg.now ok (.int _)⟩
  .obtain⟨v,rfl,rv⟩:=r.one
   obtain⟨p,us,rfl,h1,rr⟩:=rv.sql ok;exact⟨p,us,rfl,.inl h1,by rw[rr.length];exact hg.now ok (.int _)⟩
  .obtain⟨v,rfl,rv⟩:=r.one
   obtain⟨p,us,rfl,h1,rr⟩:=rv.sqs ok;exact⟨p,us,rfl,.inl h1,by rw[rr.length];exact hg.now ok (.int _)⟩
  .exact hg.elim
 .unfold bK at hg ⊢
  split at hg
  .exact hp _ hg
  .exact hp _ hg
  .exact hp _ hg
  .exact hg.elim
def jU{α:Type}:List D->(List D->Prop)->Prop:=λds Q=>match ds with
 |[.tup xs]=>Q xs
 |[.lst xs]=>Q xs
 |[.scr xs]=>Q xs
 |_=>False
def kA:List D->(D->Prop)->Prop:=λds Q=>match ds with
 |[.tup xs]=>Q (.tup xs)
 |[.lst xs]=>Q (.tup xs)
 |_=>False
theorem xU:bZ X (.type "tuple") kA:=by
 refine⟨⟨_,eE,λW H vs ds Q ok r hg=>?_⟩,λds P P' hp hg=>?_⟩
 .unfold kA at hg
  split at hg
  .obtain⟨v,rfl,rv⟩:=r.one
   obtain⟨p,us,rfl,h1,rr⟩:=rv.sqt ok;exact⟨p,us,rfl,.inr ⟨h1,hg.now ok rv⟩⟩
  .obtain⟨v,rfl,rv⟩:=r.one
   obtain⟨p,us,rfl,h1,rr⟩:=rv.sql ok;exact⟨p,us,rfl,.inl ⟨h1,λl hl=>hg.tup ok rr hl⟩⟩
  .exact hg.elim
 .unfold kA at hg ⊢
  split at hg
  .exact hp _ hg
  .exact hp _ hg
  .exact hg.elim
def gM:List D->(D->Prop)->Prop:=λds Q=>match ds with
 |[.int i]=>Q (.int (if i<0 then -i else i))
 |_=>False
theorem qt:bZ X (.builtin "abs") gM:=by
 refine⟨⟨_,jz,λW H vs ds Q ok r hg=>?_⟩,λds P P' hp hg=>?_⟩
 .unfold gM at hg
  split at hg
  .obtain⟨v,rfl,rv⟩:=r.one
   cases rv;exact⟨_,rfl,hg.now ok (.int _)⟩
  .exact hg.elim
 .unfold gM at hg ⊢
  split at hg
  .exact hp _ hg
  .exact hg.elim
def gO:List D->(D->Prop)->Prop:=λds Q=>match ds with
 |[.int i,.int j]=>Q (.int (if j>i then j else i))
 |_=>False
theorem qu(hc:X.calm=true):bZ X (.builtin "max") gO:=by
 refine⟨⟨_,ix hc,λW H vs ds Q ok r hg=>?_⟩,λds P P' hp hg=>?_⟩
 .unfold gO at hg
  split at hg
  .obtain⟨v,u,rfl,rv,ru⟩:=r.two
   cases rv;cases ru;exact⟨_,_,rfl,hg.now ok (.int _)⟩
  .exact hg.elim
 .unfold gO at hg ⊢
  split at hg
  .exact hp _ hg
  .exact hg.elim
def fX:List D->(D->Prop)->Prop:=λds Q=>match ds with
 |[.int i]=>Q (.int i)
 |[.bl b]=>Q (.int (if b then 1 else 0))
 |_=>False
theorem qv:bZ X (.type "int") fX:=by
 refine⟨⟨_,iy,λW H vs ds Q ok r hg=>?_⟩,λds P P' hp hg=>?_⟩
 .unfold fX at hg
  split at hg
  .obtain⟨v,rfl,rv⟩:=r.one
   cases rv;exact .inl ⟨_,rfl,hg.now ok (.int _)⟩
  .obtain⟨v,rfl,rv⟩:=r.one
   cases rv;exact .inr ⟨_,rfl,hg.now ok (.int _)⟩
  .exact hg.elim
 .unfold fX at hg ⊢
  split at hg
  .exact hp _ hg
  .exact hp _ hg
  .exact hg.elim
end
section
variable{a:Expr}
def sd:D->Option String
 |.non=>some "NoneType" |.bl _=>some "bool" |.int _=>some "int" |.str _=>some "str" |.tup _=>some "tuple" |.lst _=>some "list" |.dic=>some "dict"
 |.pen=>none|.cls _=>none|.exc _=>none|.ty _=>none|.scr _=>none|.pl _ _=>none
def lq(t T:String):Bool:=t==T||(t == "bool" && T == "int")
def se:List String:=["int", "bool", "str", "tuple", "list"]
theorem Bb(K:D9){t T:String}(ht:sd d=some t)(hT:T∈se):PySem.W.kitOne K (.type t) (.type T)=some (lq t T):=by
 simp only[se,Yan,gq,or_false] at hT;cases d<;>first
  |(cases ht;done)
  |(cases ht;rcases hT with rfl|rfl|rfl|rfl|rfl<;>rfl)
def gIs:List D->(D->Prop)->Prop:=λds Q=>match ds with
 |[x,.ty T]=>∃t,sd x=some t/\T∈se/\Q (.bl (lq t T))
 |_=>False
theorem gIs.mono:∀ds P P',(∀d,P d->P' d)->gIs ds P->gIs ds P':=λds P P' hp hg=>by
 unfold gIs at hg ⊢;split at hg
 .obtain⟨t,h1,h2,h3⟩:=hg;exact⟨t,h1,h2,hp _ h3⟩
 .exact hg.elim
theorem sf:bZ X (.builtin "isinstance") gIs:=by
 refine⟨⟨λvs H Q=>∃W ds,WOk W H/\Reps X.K W vs ds/\gIs ds (RQ X.K W H Q),?_,λW H vs ds Q ok r hg=>⟨W,ds,ok,r,hg⟩⟩,gIs.mono⟩;rintro pins s σ H vs us Q I rv ⟨W,ds,ok,rs,hg⟩;unfold gIs at hg;split at hg
 .rename_i x T
  obtain⟨t,h1,h2,q⟩:=hg;obtain⟨v,w',rfl,r1,r2⟩:=rs.two;cases r2;obtain⟨u,u2,rfl,ru,ru2⟩:=hW rv;obtain rfl:u2=Value.type T:=ru2;have e:=Bb X.K h1 h2;have fin:∀tk,EP X pins σ Q (.bool (lq t T)) { s with toks:=tk }:=λtk=>⟨.bl _,H,I.tok tk,rfl,q.now ok (.bl _)⟩;cases r1 with
  |non=>cases h1;cases ru;exact PySem.W.kia_one PySem.W.kitx_none I.kIn True.intro e (λz=>nomatch z) fin
  |bl b=>cases h1;cases ru;exact PySem.W.kia_one PySem.W.kitx_bool I.kIn True.intro e (λz=>nomatch z) fin
  |int i=>cases h1;obtain⟨t',rfl⟩:=ru;exact PySem.W.kia_one PySem.W.kitx_int I.kIn True.intro e (λz=>nomatch z) fin
  |str i=>cases h1;obtain⟨t',rfl⟩:=ru;exact PySem.W.kia_one PySem.W.kitx_str I.kIn True.intro e (λz=>nomatch z) fin
  |tup e0 rr=>
   cases h1;cases ru;obtain⟨its,_,⟨o,h1,h2,_⟩,_⟩:=I.tuple (SqT.of (ok.g _ _ e0));exact PySem.W.kia_one PySem.W.kitx_tuple I.kIn ⟨o,h1,h2⟩ e (λz=>nomatch z) fin
  |ktup e0 rr=>
   cases h1;cases ru;obtain⟨its,_,⟨o,h1,h2,_⟩,_⟩:=I.tuple (.inr e0);exact PySem.W.kia_one PySem.W.kitx_tuple I.kIn ⟨o,h1,h2⟩ e (λz=>nomatch z) fin
  |lst e0 rr=>
   cases h1;cases ru;obtain⟨its,_,⟨o,n,h1,h2,_⟩,_⟩:=I.list (SqL.of (ok.g _ _ e0));exact PySem.W.kia_one PySem.W.kitx_list I.kIn ⟨o,h1,h2⟩ e (λz=>nomatch z) fin
  | @dic a e0=>
   cases h1;cases ru;obtain⟨_,_,vs,_,p⟩:=(show ObjOk X.prog X.w H s.heap a (.dK []) from I.hok a _ (ok.g _ _ e0))
   obtain⟨o,es,ep,h1,h2,_⟩:=p;exact PySem.W.kia_one PySem.W.kitx_dict I.kIn ⟨o,h1,h2.1⟩ e (λz=>nomatch z) fin
  |pen _=>cases h1
  |cls _=>cases h1
  |exc _ _=>cases h1
  |ty _=>cases h1
  |pl _=>cases h1
  |scr _ _=>cases h1
 .exact hg.elim
theorem Bc(hc:X.calm=true):b7 X (.builtin "all") (λxs H Q=>∃(p:Addr) (bs:List Bool),xs=[.ref p]/\SqL X.K H p (bs.map V.bl)/\Q (.bl (bs.all id)) H):=by
 intro pins s σ H xs us Q I r h;obtain⟨p,bs,rfl,hq,q⟩:=h;obtain⟨u,rfl,ru⟩:=bT r;cases ru;obtain⟨its,rv,pl,hz⟩:=I.list hq;have hpl:p<s.heap.objs.size:=by obtain⟨o,n,e,_⟩:=pl;exact bY e
 have hits:its=bs.map Value.bool:=by
  clear hz pl hq q
  induction bs generalizing its with
  |nil=>cases rv;rfl
  |cons b bs ih=>
   cases rv with
   |cons r1 r2=>
    obtain rfl:_=Value.bool b:=r1;rw[dD,ih _ r2]
 subst hits;refine call_all_walk (wpAny_pyIter_list pl.isList ?_);have hh:X.A.in1.handled=none:=I.ok.hd hc;refine⟨s.heap.objs.size,_,_,_,_,_,λi=>(bs[i]?).getD true,rfl,Walks.list hh _ p (el hpl) (bs.map Value.bool).toArray,⟨⟨_,gc _ rfl,rfl,rfl⟩,pl.isList.at λo e=>cj _ e⟩,λi v s' Q' E' hP hQ=>?_,λh' tk hk=>?_⟩
 .have hP':(bs.map Value.bool)[i]? = some v:=by simpa using hP
  rw[e7] at hP';cases e:bs[i]? with
  |none=>rw[e] at hP';cases hP'
  |some b=>
   rw[e] at hP';have:v=Value.bool b:=(Ed hP').symm;subst this;refine Es ?_;have e2:(bs[i]?).getD true=b:=by rw[e];rfl
   dsimp only at hQ;rw[e2] at hQ;exact hQ
 .have e:((List.range (bs.map Value.bool).toArray.size).all λi=>(bs[i]?).getD true)=bs.all id:=by
   rw[cw,bJ,jg,Ybc,Ybc];constructor
   .intro h b hb
    obtain⟨i,hi,e⟩:=Ybs.mp hb;have:=h i (Yag.mpr hi);rw[jj hi] at this;rw[<-e];exact this
   .intro h i hi
    have hi':=Yag.mp hi;rw[jj hi'];exact h _ (List.getElem_mem hi')
  rw[e];refine⟨.bl (bs.all id),H,?_,rfl,q⟩;refine I.kept λb o e=>hk b o ?_ (cj _ e);intro z;have:b=s.heap.objs.size:=by simpa using z
  exact Eb (bY e) (by rw[this];exact gp _)
def iO:List D->(D->Prop)->Prop:=λds Q=>match ds with
 |[.lst xs]=>∃bs:List Bool,xs=bs.map D.bl/\Q (.bl (bs.all id))
 |_=>False
theorem xV{K:D9}{W:Wd}:∀{vs:List V} {bs:List Bool},Reps K W vs (bs.map D.bl)->vs=bs.map V.bl
 |_,[],.nil=>rfl
 |_,b::bs,.cons r t=>by cases r;rw[dD,xV t]
theorem xW(hc:X.calm=true):bZ X (.builtin "all") iO:=by
 refine⟨⟨_,Bc hc,λW H vs ds Q ok r hg=>?_⟩,λds P P' hp hg=>?_⟩
 .unfold iO at hg
  split at hg
  .obtain⟨bs,rfl,q⟩:=hg
   obtain⟨v,rfl,rv⟩:=r.one;obtain⟨p,us,rfl,h1,rr⟩:=rv.sql ok;rw[xV rr] at h1;exact⟨p,bs,rfl,h1,q.now ok (.bl _)⟩
  .exact hg.elim
 .unfold iO at hg ⊢
  split at hg
  .obtain⟨bs,e,q⟩:=hg;exact⟨bs,e,hp _ q⟩
  .exact hg.elim
end
section
variable{W:Wd}
theorem SOk.set(s:SOk K W0 H0 W σ H ρ){i:Nat}{v:V}{x:D}(r:Rep K W v x):SOk K W0 H0 W (σ.set i (some v)) H (ρ.set i (.d x)) where
 ext:=s.ext
 len:=by rw[cR,cR];exact s.len
 d:=λj y e=>by
  by_cases h:i=j
  .subst h
   by_cases hi:i<ρ.length
   .rw[cN hi] at e
    cases e;exact⟨v,cN (by rw[<-s.len];exact hi),r⟩
   .rw[e8 (by rw[cR];omega)] at e;cases e
  .rw[cm h] at e ⊢;exact s.d j y e
 o:=λj ys e=>by
  by_cases h:i=j
  .subst h
   by_cases hi:i<ρ.length
   .rw[cN hi] at e;cases e
   .rw[e8 (by rw[cR];omega)] at e;cases e
  .rw[cm h] at e ⊢;exact s.o j ys e
 ne:=λj k xs ys a hjk e1 e2 e3=>by
  have nj:i≠j:=λh=>by
   subst h
   by_cases hi:i<ρ.length
   .rw[cN hi] at e1;cases e1
   .rw[e8 (by rw[cR];omega)] at e1;cases e1
  have nk:i≠k:=λh=>by
   subst h
   by_cases hi:i<ρ.length
   .rw[cN hi] at e2;cases e2
   .rw[e8 (by rw[cR];omega)] at e2;cases e2
  rw[cm nj] at e1 e3;rw[cm nk] at e2 ⊢;exact s.ne j k xs ys a hjk e1 e2 e3
 oo:=s.oo.set (λ_ h=>by cases h) (λj h=>cm h) λ_ _ h=>by cases h
theorem SOk.own(s1:SOk K W0 H0 W1 σ H1 ρ)(x:Ext W1 H1 W H){i:Nat}(hz:H1 a=none)(h1:H a=some (.lst vs))(h2:W.G a=none)(h3:¬W.Pn a)(r:Reps K W vs xs):SOk K W0 H0 W (σ.set i (some (.ref a))) H (ρ.set i (.ow xs)):=by
 have s:=s1.step x;have h4:H0 a=none:=s1.ext.isN hz;have hn:∀(j:Nat) ys b,j≠i->ρ[j]? = some (SV.ow ys)->σ[j]? = some (some (V.ref b))->b≠a:=λj ys b _ ej eb q=>by
  obtain⟨b',us,q1,q2,_⟩:=s1.o j ys ej;rw[eb] at q1;cases q1;rw[q,hz] at q2;cases q2
 exact{
  ext:=s.ext
  len:=by rw[cR,cR];exact s.len
  d:=λj y e=>by
    by_cases h:i=j
    · subst h
      by_cases hi:i<ρ.length
      · rw[cN hi] at e;cases e
      · rw[e8 (by rw[cR];omega)] at e;cases e
    · rw[cm h] at e ⊢;exact s.d j y e
  o:=λj ys e=>by
    by_cases h:i=j
    · subst h
      by_cases hi:i<ρ.length
      · rw[cN hi] at e
        cases e;exact⟨a,vs,cN (by rw[<-s.len];exact hi),h1,h2,h3,h4,r⟩
      · rw[e8 (by rw[cR];omega)] at e;cases e
    · rw[cm h] at e ⊢;exact s.o j ys e
  ne:=λj k ys zs b hjk e1 e2 e3 e4=>by
    by_cases hj:i=j
    · subst hj
      by_cases hi:i<ρ.length
      · rw[cN (by rw[<-s.len];exact hi)] at e3
        cases e3;rw[cm hjk] at e2 e4;exact hn k zs _ (Em hjk) e2 e4 rfl
      · rw[e8 (by rw[cR];omega)] at e1;cases e1
    · by_cases hk:i=k
      · subst hk
        by_cases hi:i<ρ.length
        · rw[cN (by rw[<-s.len];exact hi)] at e4
          cases e4;rw[cm hj] at e1 e3;exact hn j ys _ (Em hj) e1 e3 rfl
        · rw[e8 (by rw[cR];omega)] at e2;cases e2
      · rw[cm hj] at e1 e3
        rw[cm hk] at e2 e4;exact s.ne j k ys zs b hjk e1 e2 e3 e4
  oo:=by
    refine⟨λj xss e=>?_,λj k xss yss e1 e2=>?_⟩
    · have h:i≠j:=λh=>by
        subst h
        by_cases hi:i<ρ.length
        · rw[cN hi] at e;cases e
        · rw[e8 (by rw[cR];omega)] at e;cases e
      rw[cm h] at e;obtain⟨a',bs,e1,q,n⟩:=s1.oo.t j xss e;refine⟨a',bs,by rw[cm h];exact e1,q.step x,λk ys c ek ec=>?_⟩
      by_cases hk:i=k
      · subst hk
        by_cases hi:i<ρ.length
        · rw[cN (by rw[<-s.len];exact hi)] at ec
          cases ec;exact q.here hz
        · rw[e8 (by rw[cR];omega)] at ek;cases ek
      · rw[cm hk] at ek ec
        exact n k ys c ek ec
    · have g:∀ {j:Nat} {xss:List (List D)},(ρ.set i (.ow xs))[j]? = some (SV.oo xss)->ρ[j]? = some (SV.oo xss):=fun {j xss} e=>by
        by_cases h:i=j
        · subst h
          by_cases hi:i<ρ.length
          · rw[cN hi] at e;cases e
          · rw[e8 (by rw[cR];omega)] at e;cases e
        · rw[cm h] at e;exact e
      exact s.oo.u j k xss yss (g e1) (g e2) }
def pub(i:Nat)(ρ:bV):bV:=match ρ[i]? with
 |some (.ow xs)=>ρ.set i (.d (.lst xs))
 |_=>ρ
theorem SOk.pub(s:SOk K W0 H0 W σ H ρ)(i:Nat):∃W',SOk K W0 H0 W' σ H (LP.pub i ρ)/\Wle W W':=by
 unfold LP.pub;split
 .rename_i xs e
  obtain⟨a,vs,e1,e2,e3,e4,e5,r⟩:=s.o i xs e;have hi:i<ρ.length:=(Yaq.mp e).1;refine⟨W.put a (.lst vs),⟨s.ext.pub e5 e2 e4 e3,by rw[cR];exact s.len,λj y ej=>?_,λj ys ej=>?_,λj k ys zs b hjk ej ek e6=>?_,?_⟩,⟨li e3,λ_ z=>z⟩⟩
  .by_cases h:i=j
   .subst h
    rw[cN hi] at ej;cases ej;exact⟨_,e1,.lst (by unfold Wd.put;dsimp only;rw[aF]) (r.mono (li e3) λ_ z=>z)⟩
   .rw[cm h] at ej
    obtain⟨v,q1,q2⟩:=s.d j y ej;exact⟨v,q1,q2.mono (li e3) λ_ z=>z⟩
  .have h:i≠j:=λh=>by subst h;rw[cN hi] at ej;cases ej
   rw[cm h] at ej;obtain⟨b,us,q1,q2,q3,q4,q5,rr⟩:=s.o j ys ej;have hba:b≠a:=λz=>s.ne i j xs ys a h e ej e1 (by rw[<-z];exact q1);refine⟨b,us,q1,q2,?_,q4,q5,rr.mono (li e3) λ_ z=>z⟩;unfold Wd.put;dsimp only;rw[aE hba];exact q3
  .have h:i≠j:=λh=>by subst h;rw[cN hi] at ej;cases ej
   have h':i≠k:=λh=>by subst h;rw[cN hi] at ek;cases ek
   rw[cm h] at ej;rw[cm h'] at ek;exact s.ne j k ys zs b hjk ej ek e6
  .exact OOs.set ⟨λj xss ej=>let⟨a',bs,q1,q,n⟩:=s.oo.t j xss ej;⟨a',bs,q1,q.put (n i xs a e e1) e3,n⟩,s.oo.u⟩ (λ_ h=>by cases h) (λ_ _=>rfl) λ_ _ h=>by cases h
 .exact⟨W,s,.refl W⟩
theorem SOk.chg(s:SOk K W0 H0 W σ H ρ){i:Nat}{a:Addr}{xs ys:List D}{us:List V}(e:ρ[i]? = some (.ow xs))(e1:σ[i]? = some (some (.ref a)))(r:Reps K W us ys):SOk K W0 H0 W σ (upd H a (.lst us)) (ρ.set i (.ow ys)):=by
 obtain⟨a',vs,q1,q2,q3,q4,q5,rr⟩:=s.o i xs e;rw[e1] at q1;cases q1;have hi:i<ρ.length:=(Yaq.mp e).1;refine⟨s.ext.chg q5 q2 q4 q3,by rw[cR];exact s.len,λj y ej=>?_,λj zs ej=>?_,λj k ys' zs b hjk ej ek e6=>?_,OOs.set ⟨λj xss ej=>let⟨a',bs,p1,q,n⟩:=s.oo.t j xss ej;⟨a',bs,p1,q.upd (n i xs a e e1),n⟩,s.oo.u⟩ (λ_ h=>by cases h) (λ_ _=>rfl) λys c _ ec j xss a' bs _ ej ea _ n=>n i xs c e ec⟩
 .have h:i≠j:=λh=>by subst h;rw[cN hi] at ej;cases ej
  rw[cm h] at ej;exact s.d j y ej
 .by_cases h:i=j
  .subst h
   rw[cN hi] at ej;cases ej;exact⟨a,us,e1,aF,q3,q4,q5,r⟩
  .rw[cm h] at ej
   obtain⟨b,ws,p1,p2,p3,p4,p5,pr⟩:=s.o j zs ej;have hba:b≠a:=λz=>s.ne i j xs zs a h e ej e1 (by rw[<-z];exact p1);exact⟨b,ws,p1,by rw[aE hba];exact p2,p3,p4,p5,pr⟩
 .by_cases h:i=j
  .subst h
   rw[cm hjk] at ek;exact s.ne i k xs zs b hjk e ek e6
  .rw[cm h] at ej
   by_cases h':i=k
   .subst h'
    intro z;exact s.ne i j xs ys' b h e ej z e6
   .rw[cm h'] at ek
    exact s.ne j k ys' zs b hjk ej ek e6
end
section
variable{st:Stmt}{rest:List Stmt}{a b c:Expr}{w:WE}{z':WS}
def bQ:WS:=λ_ N ρ=>N.nx ρ
def aV(z z':WS):WS:=λE N ρ=>z E { N with nx:=z' E N } ρ
theorem Nds.le_nx{N N':Nds}(h:N.le N'){n n':bV->Prop}(hn:∀ρ,n ρ->n' ρ):Nds.le { N with nx:=n } { N' with nx:=n' }:=⟨hn,h.rt,h.bk,h.ct⟩
theorem cZ:ia X EX [] bQ:=⟨⟨_,kR,λ_ _ _ W σ H ρ _ Dn N s fl _ no h=>no.nx W σ H ρ s fl h⟩,λ_ _ _ _ hl h=>hl.nx _ h⟩
theorem b9(h1:PZ X EX st z)(h2:ia X EX rest z'):ia X EX (st::rest) (aV z z'):=by
 obtain⟨t1,p1,k1⟩:=h1.t;obtain⟨t2,p2,k2⟩:=h2.t;refine⟨⟨_,dY p1 p2,λW0 H0 F W σ H ρ E Dn N s fl eo no h=>?_⟩,λE ρ N N' hl h=>h1.mono _ _ _ _ (Nds.le_nx hl λρ' h'=>h2.mono _ _ _ _ hl h') h⟩;exact k1 W0 H0 F W σ H ρ E _ { N with nx:=z' E N } s fl eo ⟨λW1 σ1 H1 ρ1 s1 f1 hn=>k2 W0 H0 F W1 σ1 H1 ρ1 E Dn N s1 f1 eo no hn,no.rt,no.bk,no.ct⟩ h
theorem bI(h1:PZ X EX st z):ia X EX [st] z:=by
 obtain⟨t1,p1,k1⟩:=h1.t;exact⟨⟨_,cU p1,k1⟩,h1.mono⟩
def eL(i:Nat)(z:WS):WS:=λE N ρ=>z E N (pub i ρ)
theorem sg(i:Nat)(h:ia X EX sts z):ia X EX sts (eL i z):=by
 obtain⟨t,p,k⟩:=h.t;refine⟨⟨t,p,λW0 H0 F W σ H ρ E Dn N s fl eo no h=>?_⟩,λE ρ N N' hl q=>h.mono _ _ _ _ hl q⟩;obtain⟨W',s',f'⟩:=s.pub i;exact k W0 H0 F W' σ H _ E Dn N s' (fl.trans f') eo no h
def kB(w:WE):WS:=λE N ρ=>w E ρ λ_=>N.nx ρ
theorem sh(he:PX X EX e w)(hs:swapsWith e none pos.line X.env=pure false:=by rfl):PZ X EX (.Expr e pos) (kB w):=by
 obtain⟨t,p,k⟩:=he.t;refine⟨⟨_,dR p hs,λW0 H0 F W σ H ρ E Dn N s fl eo no h=>?_⟩,λE ρ N N' hl q=>he.mono _ _ _ _ (λ_=>hl.nx ρ) q⟩;exact k W0 H0 W σ H ρ E _ s eo (he.mono _ _ _ _ (λd hd v W1 H1 x1 r1=>no.nx W1 σ H1 ρ (s.step x1) (fl.ext x1) hd) h)
def aJ(w:WE):WS:=λE N ρ=>w E ρ N.rt
theorem bR(he:PX X EX e w):PZ X EX (.Return (some e) pos) (aJ w):=by
 obtain⟨t,p,k⟩:=he.t;refine⟨⟨_,jp p,λW0 H0 F W σ H ρ E Dn N s fl eo no h=>?_⟩,λE ρ N N' hl q=>he.mono _ _ _ _ hl.rt q⟩;exact k W0 H0 W σ H ρ E _ s eo (he.mono _ _ _ _ (λd hd v W1 H1 x1 r1=>no.rt d v W1 H1 (s.ext.trans x1) r1 hd) h)
def dW(w:WT)(z z':WS):WS:=λE N ρ=>w E ρ λb=>if b=true then z E N ρ else z' E N ρ
theorem fG{w:WT}{bs:List Stmt}(hc:fD X EX c w)(ha:ia X EX as z)(hb:ia X EX bs z'):PZ X EX (.If c as bs pos) (dW w z z'):=by
 obtain⟨t,p,k⟩:=hc.t;obtain⟨ta,pa,ka⟩:=ha.t;obtain⟨tb,pb,kb⟩:=hb.t;refine⟨⟨_,lY p pa pb,λW0 H0 F W σ H ρ E Dn N s fl eo no h=>?_⟩,λE ρ N N' hl q=>hc.mono _ _ _ _ (λb hb'=>?_) q⟩
 .refine k W0 H0 W σ H ρ E _ s eo (hc.mono _ _ _ _ (λb hb' W1 H1 x1=>?_) h)
  cases b with
  |true=>rw[if_pos rfl] at hb' ⊢;exact ka W0 H0 F W1 σ H1 ρ E Dn N (s.step x1) (fl.ext x1) eo no hb'
  |false=>rw[if_neg (by decide)] at hb' ⊢;exact kb W0 H0 F W1 σ H1 ρ E Dn N (s.step x1) (fl.ext x1) eo no hb'
 .cases b with
  |true=>rw[if_pos rfl] at hb' ⊢;exact ha.mono _ _ _ _ hl hb'
  |false=>rw[if_neg (by decide)] at hb' ⊢;exact hb.mono _ _ _ _ hl hb'
def aZ(i:Nat)(w:WE):WS:=λE N ρ=>w E ρ λx=>N.nx (ρ.set i (.d x))
theorem c9(i:Nat)(he:PX X EX e w)(hN:X.N.Nodup)(hi:X.N[i]? = some x:=by rfl)(hx:i5 X.env.scope x:=by first|exact Or.inl rfl|exact Or.inr rfl)(hs:swapsWith e (some (.Name x pos')) pos.line X.env=pure false:=by rfl)
  (hf:X.fn x=true\/X.env.scope.names.lookup x=some .local:=by first|exact .inl rfl|exact .inr rfl|assumption):PZ X EX (.Assign [.Name x pos'] e pos) (aZ i w):=by
 obtain⟨t,p,k⟩:=he.t;refine⟨⟨_,df hN hi hx p hs hf,λW0 H0 F W σ H ρ E Dn N s fl eo no h=>?_⟩,λE ρ N N' hl q=>he.mono _ _ _ _ (λ_=>hl.nx _) q⟩;exact k W0 H0 W σ H ρ E _ s eo (he.mono _ _ _ _ (λd hd v W1 H1 x1 r1=>no.nx W1 _ H1 _ ((s.step x1).set r1) (fl.ext x1) hd) h)
def dJ(i:Nat)(t:WA):WS:=λE N ρ=>t E ρ λxs=>N.nx (ρ.set i (.ow xs))
theorem uB(i:Nat)(he:PXL X EX e t)(hN:X.N.Nodup)(hi:X.N[i]? = some x:=by rfl)(hx:i5 X.env.scope x:=by first|exact Or.inl rfl|exact Or.inr rfl)(hs:swapsWith e (some (.Name x pos')) pos.line X.env=pure false:=by rfl)
  (hf:X.fn x=true\/X.env.scope.names.lookup x=some .local:=by first|exact .inl rfl|exact .inr rfl|assumption):PZ X EX (.Assign [.Name x pos'] e pos) (dJ i t):=by
 obtain⟨t,p,k⟩:=he.t;refine⟨⟨_,df hN hi hx p hs hf,λW0 H0 F W σ H ρ E Dn N s fl eo no h=>?_⟩,λE ρ N N' hl q=>he.mono _ _ _ _ (λ_=>hl.nx _) q⟩;refine k W0 H0 W σ H ρ E _ s eo (he.mono _ _ _ _ (λxs hd a vs W1 H1 x1 e1 e2 e3 e4 r1=>no.nx W1 _ H1 _ (s.own x1 e4 e1 e2 e3 r1) (fl.ext x1) hd) h)
end
def lr(K:D9)(W:Wd)(J:It)(ds:List D):Prop:=
 ∀W2 H2 (i:Nat),(∀a o,W.G a=some o->W2.G a=some o)->(∀a,W.Pn a->W2.Pn a)->WOk W2 H2->
  (∀d,ds[i]? = some d->J.go i H2/\∀x H3,J.yld i H2 x H3->∃W3,Ext W2 H2 W3 H3/\Rep K W3 x d)/\(ds.length<=i->J.stop i H2)
structure ml(X:Cx)(EX:XK)(tg iter:Expr)(w:WA):Prop where
 t:∃t,PI X tg iter t/\∀W0 H0 W σ H ρ E R,SOk X.K W0 H0 W σ H ρ->gK X.K W0 H0 E EX->w E ρ (λds=>∀W' H' J,Ext W H W' H'->lr X.K W' J ds->R J H')->t σ H R
 mono:∀E ρ P P',(∀d,P d->P' d)->w E ρ P->w E ρ P'
section
variable{a b:Expr}{w:WE}
def isL(Q:List D->Prop):D->Prop
 |.lst xs=>Q xs
 |_=>False
theorem uC{Q:List D->Prop}(h:isL Q d):∃xs,d=.lst xs/\Q xs:=by
 cases d with
 |lst xs=>exact⟨xs,rfl,h⟩
 |_=>exact h.elim
theorem isL.mono{Q:List D->Prop}(h:∀b,Q b->Q' b):∀d,isL Q d->isL Q' d:=λd z=>by
 obtain⟨xs,rfl,q⟩:=uC z;exact h _ q
def si(Q:List D->Prop):D->Prop
 |.tup xs=>Q xs
 |_=>False
def iL(w:WE):WA:=λE ρ Q=>w E ρ (isL Q)
def iT(w:WE):WA:=λE ρ Q=>w E ρ (si Q)
def rng(lo:Int)(n:Nat):List D:=(List.range n).map λ(k:Nat)=>D.int (lo+k)
theorem Be{W:Wd}(lo:Int)(n:Nat):lr K W (rP lo n) (rng lo n):=by
 intro W2 H2 i g2 p2 ok2;refine⟨λd hd=>?_,λhi=>?_⟩
 .unfold rng at hd
  rw[e7] at hd
  by_cases hi:i<n
  .rw[List.getElem?_range hi] at hd
   cases hd;refine⟨hi,λx H3 y=>?_⟩;obtain⟨rfl,rfl⟩:=y;exact⟨W2,.refl ok2,.int _⟩
  .rw[e8 (by simpa using hi)] at hd;cases hd
 .have:(rng lo n).length=n:=by unfold rng;simp
  rw[this] at hi;exact hi
def i1(Q:List D->Prop):List D->Prop
 |[.int j]=>-10000<=j/\j<10000/\Q (rng 0 j.toNat)
 |_=>False
def i2(Q:List D->Prop):List D->Prop
 |[.int i,.int j]=>(-10000<=i/\i<10000/\-10000<=j/\j<10000)/\Q (rng i (j-i).toNat)
 |_=>False
theorem i1.mono{Q:List D->Prop}(h:∀b,Q b->Q' b):∀d,i1 Q d->i1 Q' d:=λd z=>by
 unfold i1 at z ⊢;split at z
 .exact⟨z.1,z.2.1,h _ z.2.2⟩
 .exact z.elim
def ls(t:WA):WA:=λE ρ Q=>t E ρ (i1 Q)
def qw(t:WA):WA:=λE ρ Q=>t E ρ (i2 Q)
theorem xX(hm:X.mg "range" = none)(ha:fE X EX [a] t)(hg:Gl X "range" :=by rfl)(hs:starEach [a] X.env=[(false,eval a X.env)]:=by rfl):ml X EX tg (.Call (.Name "range" p) [a] [] pos) (ls t):=by
 obtain⟨t,q,k⟩:=ha.t;refine⟨⟨_,ir hg hm q hs,λW0 H0 W σ H ρ E R s eo h=>?_⟩,λE ρ P P' hp h=>ha.mono _ _ _ _ (i1.mono hp) h⟩;refine k W0 H0 W σ H ρ E _ s eo (ha.mono _ _ _ _ (λds hd vs W1 H1 x1 r1=>?_) h);unfold i1 at hd;split at hd
 .obtain⟨v,rfl,rv⟩:=r1.one
  cases rv;exact⟨_,rfl,by omega,by omega,hd.2.2 W1 H1 _ x1 (Be _ _)⟩
 .exact hd.elim
end
abbrev WG:=D->bV->(bV->Prop)->Prop
def ZdN(ρ:bV):Prop:=∀(i:Nat),(∀xs,ρ[i]?≠some (SV.ow xs))/\∀xss,ρ[i]?≠some (SV.oo xss)
structure mm(X:Cx)(tg:Expr)(g:WG):Prop where
 t:∃t,PG X tg t/\∀W0 H0 W σ H ρ d v Q,SOk X.K W0 H0 W σ H ρ->Rep X.K W v d->g d ρ (λρ'=>∀σ',SOk X.K W0 H0 W σ' H ρ'->Q σ' H)->t v σ H Q
 mono:∀d ρ P P',(∀r,P r->P' r)->g d ρ P->g d ρ P'
 own:∀d ρ P,ZdN ρ->g d ρ P->g d ρ (λr=>ZdN r/\P r)
section
theorem ZdN.set{ρ:bV}(h:ZdN ρ)(i:Nat)(d:D):ZdN (ρ.set i (.d d)):=λj=>by
 by_cases hj:i=j
 .subst hj
  by_cases hi:i<ρ.length
  .rw[cN hi];exact⟨λ_ e=>(by cases e),λ_ e=>(by cases e)⟩
  .rw[e8 (by rw[cR];omega)];exact⟨λ_ e=>(by cases e),λ_ e=>(by cases e)⟩
 .rw[cm hj];exact h j
def gN(i:Nat):WG:=λd ρ k=>k (ρ.set i (.d d))
theorem er(i:Nat)(hN:X.N.Nodup)(hi:X.N[i]? = some x:=by rfl)(hx:i5 X.env.scope x:=by first|exact Or.inl rfl|exact Or.inr rfl)(hf:X.fn x=true\/X.env.scope.names.lookup x=some .local:=by first|exact .inl rfl|exact .inr rfl|assumption) :
  mm X (.Name x pos) (gN i):=
 ⟨⟨_,fe hN hi hx hf,λW0 H0 W σ H ρ d v Q s r h=>h _ (s.set r)⟩,λd ρ P P' hp h=>hp _ h,λd ρ P ho h=>⟨ho.set i d,h⟩⟩
end
def ZbT(nv:Nat)(sel:List Nat)(ρ:bV):bV:=List.replicate nv .un++sel.map λj=>match ρ[j]? with
 |some (.d x)=>.d x
 |_=>.un
theorem ZbT.own(nv:Nat)(sel:List Nat)(ρ:bV):ZdN (ZbT nv sel ρ):=λi=>by
 have key:∀sv,(ZbT nv sel ρ)[i]? = some sv->sv=.un\/∃x,sv=.d x:=λsv e=>by
  unfold ZbT at e;rcases kM i nv with h|h
  .rw[kq (by simpa using h),ji] at e
   rw[if_pos h] at e;cases e;exact .inl rfl
  .rw[jh (by simpa using h),e7] at e
   cases q:sel[i-(List.replicate nv SV.un).length]? with
   |none=>rw[q] at e;cases e
   |some j=>
    rw[q] at e;have e':=Ed e;dsimp only at e';split at e'
    .exact .inr ⟨_,e'.symm⟩
    .exact .inl e'.symm
 refine⟨λxs e=>?_,λxs e=>?_⟩
 .rcases key _ e with z|⟨x,z⟩<;>cases z
 .rcases key _ e with z|⟨x,z⟩<;>cases z
def No:Ex->Prop:=λ_=>False
def lcW(g:WG)(wf:WT)(we:WE):List D->bV->List D->(List D->Prop)->Prop
 |[],_,acc,Q=>Q acc
 |d::ds,ρ,acc,Q=>g d ρ λρ2=>wf No ρ2 λb=>if b=true then we No ρ2 λy=>acc.length<aM/\lcW g wf we ds ρ2 (acc++[y]) Q else lcW g wf we ds ρ2 acc Q
structure sj(X:Cx)(EX:XK)(ifs:List Expr)(w:WT):Prop where
 t:∃t,PF X ifs t/\∀W0 H0 W σ H ρ E Q,SOk X.K W0 H0 W σ H ρ->gK X.K W0 H0 E EX->w E ρ (λb=>∀W' H',Ext W H W' H'->Q b H')->t σ H Q
 mono:∀E ρ P P',(∀d,P d->P' d)->w E ρ P->w E ρ P'
def et:WT:=λ_ _ Q=>Q true
section
variable{vars:List Str}{sel:List Nat}{elt c:Expr}{g:WG}
theorem i8:sj X EX [] et:=⟨⟨_,Ae,λ_ _ W _ H _ _ _ s _ h=>h W H (.refl s.ok)⟩,λ_ _ _ _ hp h=>hp _ h⟩
theorem lcW.mono(hg:∀d ρ P P',(∀r,P r->P' r)->g d ρ P->g d ρ P')(hf:∀E ρ P P',(∀d,P d->P' d)->wf E ρ P->wf E ρ P')(he:∀E ρ P P',(∀d,P d->P' d)->we E ρ P->we E ρ P') :
  ∀ds ρ acc P P',(∀xs,P xs->P' xs)->lcW g wf we ds ρ acc P->lcW g wf we ds ρ acc P'
 |[],_,acc,P,P',hp,h=>hp _ h
 | d::ds,ρ,acc,P,P',hp,h=>hg _ _ _ _ (λr hr=>hf _ _ _ _ (λb hb=>by
   cases b with
   |true=>rw[if_pos rfl] at hb ⊢;exact he _ _ _ _ (λy hy=>⟨hy.1,lcW.mono hg hf he ds r _ P P' hp hy.2⟩) hb
   |false=>rw[if_neg (by decide)] at hb ⊢;exact lcW.mono hg hf he ds r _ P P' hp hb) hr) h
def aLC(wi:WA)(nv:Nat)(sel:List Nat)(g:WG)(wf:WT)(we:WE):WA:=λE ρ Q=>wi E ρ λds=>lcW g wf we ds (ZbT nv sel ρ) [] Q
theorem aLC.mono(hi:ml X EX target iter wi)(hg:∀d ρ P P',(∀r,P r->P' r)->g d ρ P->g d ρ P')(hf:∀E ρ P P',(∀d,P d->P' d)->wf E ρ P->wf E ρ P')(he:∀E ρ P P',(∀d,P d->P' d)->we E ρ P->we E ρ P') :
  ∀E ρ P P',(∀d,P d->P' d)->aLC wi vars.length sel g wf we E ρ P->aLC wi vars.length sel g wf we E ρ P':=λE ρ P P' hp h=>hi.mono _ _ _ _ (λds hds=>lcW.mono hg hf he ds _ _ _ _ hp hds) h
theorem SOk.lc{W:Wd}(s:SOk X.K W0 H0 W σ H ρ)(nv:Nat)(sel:List Nat):SOk X.K W0 H0 W (eF nv sel σ) H (ZbT nv sel ρ) where
 ext:=s.ext
 len:=by unfold ZbT eF;simp
 d:=λi x e=>by
  unfold ZbT at e;rcases kM i nv with h|h
  .rw[kq (by simpa using h),ji] at e
   split at e<;>cases e
  .rw[jh (by simpa using h),e7,mC] at e
   cases q:sel[i-nv]? with
   |none=>rw[q] at e;cases e
   |some j=>
    rw[q] at e;have e':=Ed e;dsimp only at e';split at e'
    .rename_i y ey
     cases e';obtain⟨v,ev,r⟩:=s.d j x ey;refine⟨v,?_,r⟩;unfold eF;rw[jh (by simpa using h),mC,e7,q];show some ((σ[j]?).getD none)=_;rw[ev];rfl
    .cases e'
 o:=λi xs e=>Eb e ((ZbT.own nv sel ρ i).1 xs)
 ne:=λi j xs ys a _ e=>Eb e ((ZbT.own nv sel ρ i).1 xs)
 oo:=.none λi=>(ZbT.own nv sel ρ i).2
theorem SOk.chgD{W:Wd}{o':HO}(s:SOk K W0 H0 W σ H ρ)(ho:ZdN ρ)(h0:H0 a=none)(h1:H a=some o)(h2:¬W.Pn a)(h3:W.G a=none):SOk K W0 H0 W σ (upd H a o') ρ:=
 ⟨s.ext.chg h0 h1 h2 h3,s.len,s.d,λi xs e=>Eb e ((ho i).1 xs),λi j xs ys a _ e=>Eb e ((ho i).1 xs),.none λi=>(ho i).2⟩
theorem xY(hi:ml X EX target iter wi)(hg:∀s H fp,mm (X.lc sc vars sel s H fp) target g)(hf:∀s H fp,sj (X.lc sc vars sel s H fp) E0 ifs wf)(he:∀s H fp,PX (X.lc sc vars sel s H fp) E0 elt we) :
  ∃(ti:TI) (tg:TG) (tf:TT) (te:TE),PI X target iter ti/\(∀s H fp,PG (X.lc sc vars sel s H fp) target tg)/\(∀s H fp,PF (X.lc sc vars sel s H fp) ifs tf)/\(∀s H fp,PE (X.lc sc vars sel s H fp) elt te)/\
   ∀W0 H0 W σ H ρ E Q,SOk X.K W0 H0 W σ H ρ->gK X.K W0 H0 E EX->
    aLC wi vars.length sel g wf we E ρ (λds=>∀a vs W' H',Ext W H W' H'->H' a=some (.lst vs)->W'.G a=none->¬W'.Pn a->H a=none->Reps X.K W' vs ds->Q (.ref a) H')->uf ti vars.length sel tg tf te σ H Q:=by
 obtain⟨ti,pi,ki⟩:=hi.t;refine ⟨ti,λv σ H Q=>∃ W0 H0 W ρ d,SOk X.K W0 H0 W σ H ρ/\Rep X.K W v d/\g d ρ (λρ'=>∀ σ',SOk X.K W0 H0 W σ' H ρ'->Q σ' H),
  λσ H Q=>∃W0 H0 W ρ,SOk X.K W0 H0 W σ H ρ/\wf No ρ (λb=>∀W' H',Ext W H W' H'->Q b H'),
  λσ H Q=>∃W0 H0 W ρ,SOk X.K W0 H0 W σ H ρ/\we No ρ (RQ X.K W H Q),pi,λs1 H1 fp=>?_,λs1 H1 fp=>?_,λs1 H1 fp=>?_,?_⟩
 .obtain⟨t,q,k⟩:=(hg s1 H1 fp).t
  rintro pins s σ H v u Q I r ⟨W0,H0,W,ρ,d,s',r',h⟩;exact q pins s σ H v u Q I r (k W0 H0 W σ H ρ d v Q s' r' h)
 .obtain⟨t,q,k⟩:=(hf s1 H1 fp).t
  rintro pins s σ H Q I ⟨W0,H0,W,ρ,s',h⟩;exact q pins s σ H Q I (k W0 H0 W σ H ρ No Q s' (λ_ _ _ _ _ z=>z.elim) h)
 .obtain⟨t,q,k⟩:=(he s1 H1 fp).t
  rintro pins s σ H Q I ⟨W0,H0,W,ρ,s',h⟩;exact q pins s σ H Q I (k W0 H0 W σ H ρ No Q s' (λ_ _ _ _ _ z=>z.elim) h)
 .have gm:=(hg {} (λ_=>none) []).mono
  have go:=(hg {} (λ_=>none) []).own;have fm:=(hf {} (λ_=>none) []).mono;have em:=(he {} (λ_=>none) []).mono;intro W0 H0 W σ H ρ E Q s eo h;refine ki W0 H0 W σ H ρ E _ s eo (hi.mono _ _ _ _ (λds hds W1 H1 J x1 it D hD=>?_) h);have hDf:=x1.ok.fresh hD;have hD0:H0 D=none:=s.ext.isN (x1.isN hD);refine ⟨λi m ys σ2 H2=>m=ds.length - i/\i<=ds.length/\∃ W2 ρ2 acc,Ext W1 H1 W2 H2/\SOk X.K W0 H0 W2 σ2 H2 ρ2/\ZdN ρ2/\H2 D=some (.lst ys)/\W2.G D=none/\¬ W2.Pn D/\Reps X.K W2 ys acc/\
   lcW g wf we (ds.drop i) ρ2 acc (λds=>∀a vs W' H',Ext W H W' H'->H' a=some (.lst vs)->W'.G a=none->¬W'.Pn a->H a=none->Reps X.K W' vs ds->Q (.ref a) H'),⟨_,rfl,im _,W1,_,[],.new x1.ok hD,?_,ZbT.own _ _ ρ,aF,hDf.1,hDf.2,.nil,by rw[rG];exact hds⟩,?_⟩
  .exact(((s.step x1).step (.new x1.ok hD)).lc vars.length sel)
  .rintro i m ys σ2 H2 ⟨rfl,hi',W2,ρ2,acc,x2,s2,no2,hD2,g2,p2,r2,q2⟩
   refine⟨hD2,?_⟩;obtain⟨itg,its⟩:=it W2 H2 i x2.g x2.p x2.ok;rcases kM i ds.length with hlt|hge
   .have hd:ds[i]? = some ds[i]:=jj hlt
    obtain⟨go',yl⟩:=itg _ hd;refine .inr ⟨go',λx H3 y=>?_⟩;obtain⟨W3,x3,r3⟩:=yl x H3 y;rw[List.drop_eq_getElem_cons hlt] at q2;have keepD:∀{W' H'},Ext W2 H2 W' H'->H' D=some (.lst ys)/\W'.G D=none/\¬W'.Pn D:=λ{W' H'} x'=>by
     refine⟨x'.h D _ hD2 p2,?_,λz=>?_⟩
     .cases q:W'.G D with
      |none=>rfl
      |some o=>have:=x'.gf D g2 (by rw[q];simp);rw[hD2] at this;cases this
     .have:=x'.pf D p2 z;rw[hD2] at this;cases this
    refine⟨W0,H0,W3,ρ2,ds[i],s2.step x3,r3,gm _ _ _ _ (λρ4 hr σ4 s4=>?_) (go _ _ _ no2 q2)⟩;obtain⟨no4,hr⟩:=hr;refine⟨W0,H0,W3,ρ4,s4,fm _ _ _ _ (λb hb W5 H5 x5=>?_) hr⟩;cases b with
    |false=>
     rw[if_neg (by decide)] at hb ⊢;have kD:=keepD (x3.trans x5);exact⟨ds.length-(i+1),by omega,rfl,hlt,W5,ρ4,acc,x2.trans (x3.trans x5),s4.step x5,no4,kD.1,kD.2.1,kD.2.2,(x3.trans x5).reps r2,hb⟩
    |true=>
     rw[if_pos rfl] at hb ⊢;refine⟨W0,H0,W5,ρ4,s4.step x5,em _ _ _ _ (λy hy v W6 H6 x6 r6=>?_) hb⟩;have xx:=x3.trans (x5.trans x6);have kD:=keepD xx;have hl:ys.length=acc.length:=r2.length;refine⟨kD.1,by rw[hl];exact cG hy.1 (gi (bO _)),ds.length-(i+1),by omega,rfl,hlt,W6,ρ4,acc++[y],(x2.trans xx).chg hD kD.1 kD.2.2 kD.2.1,?_,no4,aF,kD.2.1,kD.2.2,(xx.reps r2).append (.cons r6 .nil),hy.2⟩;exact((s4.step x5).step x6).chgD no4 hD0 kD.1 kD.2.2 kD.2.1
   .have e:i=ds.length:=by omega
    refine .inl ⟨its hge,?_⟩;rw[List.drop_of_length_le hge] at q2;exact q2 D ys W2 H2 (x1.trans x2) hD2 g2 p2 (x1.isN hD) r2
theorem jV(vars:List Str)(sel:List Nat)(hc:X.calm=true)(hi:ml X EX target iter wi)(hg:∀s H fp,mm (X.lc sc vars sel s H fp) target g)(hf:∀s H fp,sj (X.lc sc vars sel s H fp) E0 ifs wf)(he:∀s H fp,PX (X.lc sc vars sel s H fp) E0 elt we)
  (ok:jQ sc X.env.scope=true:=by rfl) (so:om X.N sc sel=true:=by rfl) (hs:∀x,foldedSetIterable iter X.env x=pure x:=by intro _;rfl):PXL X EX (.ListComp elt [⟨target,iter,ifs,0⟩] sc pos) (aLC wi vars.length sel g wf we):=by
 obtain⟨ti,tg,tf,te,pi,pg,pf,pe,k⟩:=xY hi hg hf he;exact⟨⟨_,p9 vars sel hc pi ok so pg pf pe hs,k⟩,aLC.mono hi (hg {} (λ_=>none) []).mono (hf {} (λ_=>none) []).mono (he {} (λ_=>none) []).mono⟩
theorem qx(i:Nat){spos:Pos}(vars:List Str)(sel:List Nat)(hc:X.calm=true)(hN:X.N.Nodup)(hi:ml X EX target iter wi)(hg:∀s H fp,mm (X.lc sc vars sel s H fp) target g)(hf:∀s H fp,sj (X.lc sc vars sel s H fp) E0 ifs wf)(he:∀s H fp,PX (X.lc sc vars sel s H fp) E0 elt we)
  (hix:X.N[i]? = some x:=by rfl) (hx:i5 X.env.scope x:=by first|exact Or.inl rfl|exact Or.inr rfl)
  (hsw:swapsWith (.ListComp elt [⟨target,iter,ifs,0⟩] sc pos) (some (.Name x pos')) spos.line X.env=pure true:=by rfl)
  (ok:jQ sc X.env.scope=true:=by rfl) (so:om X.N sc sel=true:=by rfl) (hs:∀x,foldedSetIterable iter X.env x=pure x:=by intro _;rfl) (hfn:X.fn x=true\/X.env.scope.names.lookup x=some .local:=by first|exact .inl rfl|exact .inr rfl|assumption) :
  PZ X EX (.Assign [.Name x pos'] (.ListComp elt [⟨target,iter,ifs,0⟩] sc pos) spos) (dJ i (aLC wi vars.length sel g wf we)):=by
 obtain⟨ti,tg,tf,te,pi,pg,pf,pe,k⟩:=xY hi hg hf he;have am:=aLC.mono (vars:=vars) (sel:=sel) hi (hg {} (λ_=>none) []).mono (hf {} (λ_=>none) []).mono (he {} (λ_=>none) []).mono;refine⟨⟨_,qa vars sel hc hN hix hx pi ok so pg pf pe hsw hs hfn,λW0 H0 F W σ H ρ E Dn N s fl eo no h=>?_⟩,λE ρ N N' hl q=>am _ _ _ _ (λ_=>hl.nx _) q⟩;refine k W0 H0 W σ H ρ E _ s eo (am _ _ _ _ (λxs hd a vs W1 H1 x1 e1 e2 e3 e4 r1=>no.nx W1 _ H1 _ (s.own x1 e4 e1 e2 e3 r1) (fl.ext x1) hd) h)
def uD(g:WG)(zb:WS)(E:Ex->Prop)(N:Nds):List D->bV->Prop
 |[],ρ=>N.nx ρ
 |d::ds,ρ=>g d ρ λρ1=>zb E { nx:=uD g zb E N ds,rt:=N.rt,bk:=N.nx,ct:=uD g zb E N ds } ρ1
def jW(wi:WA)(g:WG)(zb:WS):WS:=λE N ρ=>wi E ρ λds=>uD g zb E N ds ρ
end
def cO(N:List Str)(ds:List D):bV:=ds.map .d++List.replicate (N.length-ds.length) .un
abbrev Rd(S:List D->(Ex->Prop)->(D->Prop)->Prop)(z:WS)(N:List Str):Prop:=∀ds E Q,S ds E Q->z E { nx:=λ_=>Q .non,rt:=Q } (cO N ds)
theorem sk{W:Wd}(ok:WOk W H)(r:Reps K W vs ds):SOk K W H W (start N vs) H (cO N ds) where
 ext:=.refl ok
 len:=by unfold cO L2.start;simp[r.length]
 d:=λi x e=>by
  unfold cO at e;rcases kM i ds.length with h|h
  .rw[kq (by simpa using h),e7] at e
   cases q:ds[i]? with
   |none=>rw[q] at e;cases e
   |some y=>
    rw[q] at e;cases e;obtain⟨v,ev,rv⟩:=r.get q;refine⟨v,?_,rv⟩;unfold L2.start;rw[kq (by rw[bJ,r.length];exact h),e7,ev];rfl
  .rw[jh (by simpa using h),ji] at e
   split at e<;>cases e
 o:=λi xs e=>by
  unfold cO at e;rcases kM i ds.length with h|h
  .rw[kq (by simpa using h),e7] at e
   cases q:ds[i]? with
   |none=>rw[q] at e;cases e
   |some y=>rw[q] at e;cases e
  .rw[jh (by simpa using h),ji] at e
   split at e<;>cases e
 ne:=λi j xs ys a _ e=>by
  unfold cO at e;rcases kM i ds.length with h|h
  .rw[kq (by simpa using h),e7] at e
   cases q:ds[i]? with
   |none=>rw[q] at e;cases e
   |some y=>rw[q] at e;cases e
  .rw[jh (by simpa using h),ji] at e
   split at e<;>cases e
 oo:=.none λi xs e=>by
  unfold cO at e;rcases kM i ds.length with h|h
  .rw[kq (by simpa using h),e7] at e
   cases q:ds[i]? with
   |none=>rw[q] at e;cases e
   |some y=>rw[q] at e;cases e
  .rw[jh (by simpa using h),ji] at e
   split at e<;>cases e
section
variable{w:World}{base:Heap}
theorem uE{st:Stmt}{f:Addr}(F:Fun K x qual st f fd)(sc:aT N ps (aA st))(len:∀ds E Q,S ds E Q->ds.length=ps.length)
  (hbody:∀ (cdv:Value) (A:Around) (outer:List Env) (s:Shared) (H:Hp) (E:XK),Room k (A.deeper (envOfC qual (aA st) s.heap.objs.size f cdv))->
   aQ (bD P w) (bB (bD P w) P w K mg base N qual (aA st) f cdv A outer s H E) E->eG (bB (bD P w) P w K mg base N qual (aA st) f cdv A outer s H E) E->
   ia (bB (bD P w) P w K mg base N qual (aA st) f cdv A outer s H E) E (aH st) z)
  (h:∀ds E Q,S ds E Q->z E { nx:=λ_=>Q .non,rt:=Q } (cO N ds)):FnOk P w K mg base (bD P w) (k+1) f fd ps (dI K S):=by
 obtain⟨oc,od,kV,doc,pm,an,cdv,ct,osl,rfl,lk,hcd⟩:=F.ex;refine eS lk hcd sc (λvs H Q E hs=>?_) λA outer s H vs Q E hr hs=>?_
 .obtain⟨ds,W,_,r,hS⟩:=hs
  rw[r.length];exact len _ _ _ hS
 .obtain⟨ds,W,ok,r,hS⟩:=hs
  obtain⟨t,p,k⟩:=(hbody cdv A outer s H E hr ui uj).t;refine ⟨t,p,k W H W W (start N vs) H (cO N ds) (λex=>∀ W' H' cls dx,Ext W H W' H'->nw K W' H' cls dx ex->E cls dx H') _ { nx:=λ_=>RQ K W H Q .non,rt:=RQ K W H Q } (sk ok r) (.refl W) (λex W' H' cls dx he x r=>he W' H' cls dx x r)
   ⟨λW1 σ1 H1 ρ1 s1 _ q=>q _ W1 H1 s1.ext .non,λd v W1 H1 x1 r1 q=>q v W1 H1 x1 r1,λ_ _ _ _ _ _ q=>q.elim,λ_ _ _ _ _ _ q=>q.elim⟩ (h ds _ _ hS)⟩
end
structure Fp(P:Program)(w:World)(K:D9)(mg:Str->Option Value)(base:Heap)(k:Nat)(x:Str)(ps:List Str)(S:bW):Prop where
 ok:∃f fd,FnOk P w K mg base (bD P w) k f fd ps (dI K S)/\mg x=some (.ref f)/\PySem.W.keepIn K (.ref f)=true/\Binds K fd ps []
 mono:ln S
section
theorem cb(G:Fp X.prog X.w X.K X.mg X.base k x ps S)(hr:Room j X.A)(hx:aQ (bD X.prog X.w) X EX)(ha:fE X EX (e::es) t)(hk:k<=j:=by decide)(hg:Gl X x:=by rfl)(hdb:(x==("__debug__" : Str))=false:=by decide)(he:starEach (e::es) X.env=(false,eval e X.env)::starEach es X.env:=by rfl)(hpl:(backTo pos (starEach es X.env)).any (·.1)=false:=by rfl) :
  PX X EX (.Call (.Name x p) (e::es) [] pos) (wF S t):=by
 obtain⟨f,fd,F,hm,kp,hb⟩:=G.ok;exact A3 F G.mono (hr.mono hk) hm kp hb hx ha hg hdb he hpl
def jX(z:WS):WS:=λ_ N ρ=>z No N ρ
end
section
variable{a b:Expr}{w:WE}
def isS(Q:List D->Prop):D->Prop
 |.lst xs=>Q xs
 |.tup xs=>Q xs
 |_=>False
theorem isS.mono{Q:List D->Prop}(h:∀b,Q b->Q' b):∀d,isS Q d->isS Q' d:=λd z=>by
 cases d<;>first|exact h _ z|exact z
def iS(w:WE):WA:=λE ρ Q=>w E ρ (isS Q)
theorem i9(he:PX X EX e w):ml X EX tg e (iS w):=by
 obtain⟨t,q,k⟩:=he.t;refine⟨⟨_,Aq q,λW0 H0 W σ H ρ E R s eo h=>?_⟩,λE ρ P P' hp h=>he.mono _ _ _ _ (isS.mono hp) h⟩;refine k W0 H0 W σ H ρ E _ s eo (he.mono _ _ _ _ (λd hd v W1 H1 x1 r1=>?_) h);have keyT:∀{l:Addr} {vs:List V} {xs:List D},(∀W' H' J,Ext W H W' H'->lr X.K W' J xs->R J H')->(∀W2 H2,(∀a o,W1.G a=some o->W2.G a=some o)->WOk W2 H2->SqT X.K H2 l vs)->Reps X.K W1 vs xs->(∃ys,SqT X.K H1 l ys)/\R (tX X.K l) H1:=by
  intro l vs xs hq sq rr;refine⟨⟨vs,sq W1 H1 (λ_ _ z=>z) x1.ok⟩,hq W1 H1 _ x1 λW2 H2 i g2 p2 ok2=>⟨λd hd=>?_,λhi=>⟨vs,sq W2 H2 g2 ok2,by rw[rr.length];exact hi⟩⟩⟩;obtain⟨v,ev,rv⟩:=rr.get hd;refine⟨⟨vs,v,sq W2 H2 g2 ok2,ev⟩,λx H3 y=>?_⟩;obtain⟨rfl,y⟩:=y;have:=y vs (sq W2 _ g2 ok2);rw[ev] at this;cases this;exact⟨W2,.refl ok2,rv.mono g2 p2⟩
 cases r1 with
 | @lst l vs xs e1 rr=>
  have hq:∀W' H' J,Ext W H W' H'->lr X.K W' J xs->R J H':=hd;refine⟨l,rfl,.inl ⟨⟨vs,SqL.of (x1.ok.g _ _ e1)⟩,hq W1 H1 _ x1 λW2 H2 i g2 p2 ok2=>⟨λd hd=>?_,λhi=>⟨vs,SqL.of (ok2.g _ _ (g2 _ _ e1)),by rw[rr.length];exact hi⟩⟩⟩⟩;obtain⟨v,ev,rv⟩:=rr.get hd;have sq:SqL X.K H2 l vs:=SqL.of (ok2.g _ _ (g2 _ _ e1));refine⟨⟨vs,v,sq,ev⟩,λx H3 y=>?_⟩;obtain⟨rfl,y⟩:=y;have:=y vs sq;rw[ev] at this;cases this;exact⟨W2,.refl ok2,rv.mono g2 p2⟩
 |tup e1 rr=>exact⟨_,rfl,.inr (keyT hd (λW2 H2 g2 ok2=>SqT.of (ok2.g _ _ (g2 _ _ e1))) rr)⟩
 |ktup e1 rr=>exact⟨_,rfl,.inr (keyT hd (λW2 H2 g2 ok2=>.inr e1) rr)⟩
 |non=>exact hd.elim
 |bl _=>exact hd.elim
 |int _=>exact hd.elim
 |str _=>exact hd.elim
 |dic _=>exact hd.elim
 |pen _=>exact hd.elim
 |cls _=>exact hd.elim
 |exc _ _=>exact hd.elim
 |ty _=>exact hd.elim
 |pl _=>exact hd.elim
 |scr _ _=>exact hd.elim
theorem qy{T:String}(hm:X.mg x=none)(hv:bootBuiltins x=some (.type T))(hg:Gl X x:=by rfl)(hn:x≠ "__name__" :=by decide)(hd:(x==("__debug__" : Str))=false:=by decide):PX X EX (.Name x pos) (wC (.ty T)):=
 AZ (v:=.ty T) hm hv rfl (λ_=>.ty T) hg hn hd
theorem Bf{i:Int}{t:Tok}(hm:X.mg x=some (.int i t))(hg:Gl X x:=by rfl)(hd:(x==("__debug__" : Str))=false:=by decide):PX X EX (.Name x pos) (wC (.int i)):=
 ur (v:=.int i) hm ⟨t,rfl⟩ (λ_=>.int i) hg hd
end
theorem xZ{i j:Int}(h:Q (.bl (if neg then !(i==j) else i==j))):gEq neg (.int i) (.int j) Q:=by
 refine⟨.int i,.int j,rfl,rfl,rfl,rfl,?_⟩;exact h
theorem qz{i j:Int}:gEq neg (.int i) (.int j) Q↔Q (.bl (if neg then !(i==j) else i==j)):=
 ⟨λ⟨p,q,h1,h2,_,_,h⟩=>by cases h1;cases h2;exact h,xZ⟩
section
variable{a b c:Expr}{w:WE}{g:WG}
abbrev mn:=List D->bV->(bV->Prop)->Prop
structure lu(X:Cx)(ts:List Expr)(g:mn):Prop where
 t:∃t,oj X ts t/\∀W0 H0 W σ H ρ ds vs Q,SOk X.K W0 H0 W σ H ρ->Reps X.K W vs ds->g ds ρ (λρ'=>∀σ',SOk X.K W0 H0 W σ' H ρ'->Q σ' H)->t vs σ H Q
 mono:∀d ρ P P',(∀r,P r->P' r)->g d ρ P->g d ρ P'
 own:∀d ρ P,ZdN ρ->g d ρ P->g d ρ (λr=>ZdN r/\P r)
def ii:mn:=λds ρ k=>match ds with
 |[]=>k ρ
 |_=>False
def eA(g:WG)(gs:mn):mn:=λds ρ k=>match ds with
 |d::ds=>g d ρ λρ'=>gs ds ρ' k
 |_=>False
theorem sm:lu X [] ii:=by
 refine⟨⟨_,g7,λW0 H0 W σ H ρ ds vs Q s r h=>?_⟩,λd ρ P P' hp h=>?_,λd ρ P ho h=>?_⟩
 .cases r with
  |nil=>exact⟨rfl,h σ s⟩
  |cons _ _=>exact h.elim
 .cases d with
  |nil=>exact hp _ h
  |cons _ _=>exact h.elim
 .cases d with
  |nil=>exact⟨ho,h⟩
  |cons _ _=>exact h.elim
theorem mo{gs:mn}(h1:mm X e g)(h2:lu X es gs)(hs:(assignEach (e::es) X.env).map (·.2)=assign e X.env::(assignEach es X.env).map (·.2):=by rfl):lu X (e::es) (eA g gs):=by
 obtain⟨t1,p1,k1⟩:=h1.t;obtain⟨t2,p2,k2⟩:=h2.t;refine⟨⟨_,dZ p1 p2 hs,λW0 H0 W σ H ρ ds vs Q s r h=>?_⟩,λd ρ P P' hp h=>?_,λd ρ P ho h=>?_⟩
 .cases r with
  |nil=>exact h.elim
  |cons r rr=>exact⟨_,_,rfl,k1 W0 H0 W σ H ρ _ _ _ s r (h1.mono _ _ _ _ (λρ' h' σ' s'=>k2 W0 H0 W σ' H ρ' _ _ Q s' rr h') h)⟩
 .cases d with
  |nil=>exact h.elim
  |cons d ds=>exact h1.mono _ _ _ _ (λr hr=>h2.mono _ _ _ _ hp hr) h
 .cases d with
  |nil=>exact h.elim
  |cons d ds=>exact h1.mono _ _ _ _ (λr hr=>h2.own _ _ _ hr.1 hr.2) (h1.own _ _ _ ho h)
def fY(n:Nat)(gs:mn):WG:=λd ρ k=>match d with
 |.tup xs=>xs.length=n/\gs xs ρ k
 |_=>False
theorem sr{n:Nat}{gs:mn}(hc:X.calm=true)(h:lu X es gs)(hn:(assignEach es X.env).length=n:=by rfl)(hst:(assignEach es X.env).findIdx? (·.1)=none:=by rfl):mm X (.Tuple es k pos) (fY n gs):=by
 obtain⟨t,p,kk⟩:=h.t;refine⟨⟨_,mU hc p hn hst,λW0 H0 W σ H ρ d v Q s r q=>?_⟩,λd ρ P P' hp q=>?_,λd ρ P ho q=>?_⟩
 .unfold fY at q
  split at q
  .obtain⟨a,vs,rfl,h1,rr⟩:=r.sqt s.ok
   exact⟨a,vs,rfl,h1,rr.length.trans q.1,kk W0 H0 W σ H ρ _ _ Q s rr q.2⟩
  .exact q.elim
 .unfold fY at q ⊢
  split at q
  .exact⟨q.1,h.mono _ _ _ _ hp q.2⟩
  .exact q.elim
 .unfold fY at q ⊢
  split at q
  .exact⟨q.1,h.own _ _ _ ho q.2⟩
  .exact q.elim
def d9(w:WE)(g:WG):WS:=λE N ρ=>w E ρ λd=>g d ρ N.nx
theorem uF(he:PX X EX e w)(hg:mm X tg g)(hs:swapsWithSole [tg] e pos.line X.env=pure false:=by rfl)(hw:swappedStores [tg] e X.env=pure none:=by rfl)
  (h1:(assignEach [tg] X.env).map (·.2)=[assign tg X.env]:=by rfl):PZ X EX (.Assign [tg] e pos) (d9 w g):=by
 obtain⟨t,p,k⟩:=he.t;obtain⟨t2,p2,k2⟩:=hg.t;refine⟨⟨_,gv p p2 hs hw h1,λW0 H0 F W σ H ρ E Dn N s fl eo no h=>?_⟩,λE ρ N N' hl q=>he.mono _ _ _ _ (λd hd=>hg.mono _ _ _ _ hl.nx hd) q⟩;refine k W0 H0 W σ H ρ E _ s eo (he.mono _ _ _ _ (λd hd v W1 H1 x1 r1=>?_) h);exact k2 W0 H0 W1 σ H1 ρ d v _ (s.step x1) r1 (hg.mono _ _ _ _ (λρ' h' σ' s'=>no.nx W1 σ' H1 ρ' s' (fl.ext x1) h') hd)
def gP(i j:Nat)(t:WA):WS:=λE N ρ=>t E ρ λds=>match ds with
 |[x,y]=>N.nx ((ρ.set i (.d x)).set j (.d y))
 |_=>False
theorem Bg(i j:Nat){px pt:Pos}{kt k2 pt2}(hN:X.N.Nodup)(ha:fE X EX [a,b] t)(hc:X.calm=true:=by rfl)(hi:X.N[i]? = some x:=by rfl)(hj:X.N[j]? = some y:=by rfl)(hij:i≠j:=by decide)
  (hx:X.env.scope.names.lookup x=some .local:=by rfl) (hy:X.env.scope.names.lookup y=some .local:=by rfl)
  (hw:swappedStores [.Tuple [.Name x px,.Name y py] kt pt] (.Tuple [a,b] k2 pt2) X.env=pure (some [x,y]):=by rfl)
  (hs:swapsWithSole [.Tuple [.Name x px,.Name y py] kt pt] (.Tuple [a,b] k2 pt2) pos.line X.env=pure false:=by rfl) :
  PZ X EX (.Assign [.Tuple [.Name x px,.Name y py] kt pt] (.Tuple [a,b] k2 pt2) pos) (gP i j t):=by
 obtain⟨ta,p,k⟩:=ha.t;refine⟨⟨_,jq hc hN hi hj hij hx hy p hw hs,λW0 H0 F W σ H ρ E Dn N s fl eo no h=>?_⟩,λE ρ N N' hl q=>ha.mono _ _ _ _ (λds hd=>?_) q⟩
 .refine k W0 H0 W σ H ρ E _ s eo (ha.mono _ _ _ _ (λds hd vs W1 H1 x1 r1=>?_) h)
  split at hd
  .obtain⟨v,u,rfl,rv,ru⟩:=r1.two
   exact⟨v,u,rfl,no.nx W1 _ H1 _ (((s.step x1).set rv).set ru) (fl.ext x1) hd⟩
  .exact hd.elim
 .split at hd
  .exact hl.nx _ hd
  .exact hd.elim
def qA(c:WT):WS:=λE N ρ=>c E ρ λb=>b=true/\N.nx ρ
def dL(i:Nat)(w:WE):WS:=λE N ρ=>match ρ[i]? with
 |some (.ow xs)=>w E ρ λd=>xs.length<aM/\N.nx (ρ.set i (.ow (xs++[d])))
 |_=>False
theorem ya(i:Nat)(he:PX X EX e w)(hN:X.N[i]? = some x:=by rfl)(hv:g5 X.env.scope x:=by first|exact Or.inl rfl|exact Or.inr (Or.inl rfl)|exact Or.inr (Or.inr rfl))(hd:(x==("__debug__" : Str))=false:=by decide)
  (hcd:(x==("__classdict__" : Str))=false:=by decide) (hbase:attributeBase (.Name x p) "append" X.env (eval (.Name x p) X.env)=eval (.Name x p) X.env:=by rfl)
  (hfew:((backTo cpos (starEach [e] X.env)).all (λx=>!x.1)&&(backToKw cpos (keywordEach [] X.env)).all (λx=>x.1.isSome)&&decide ([e].length+([]:List Keyword).length+(if([]:List Keyword).isEmpty then 0 else 1)<30))=true:=by rfl)
  (hline:(apos.endLine==cpos.line)=true:=by rfl) (hs:starEach [e] X.env=(false,eval e X.env)::starEach [] X.env:=by rfl) (hplain:(backTo cpos (starEach [] X.env)).any (·.1)=false:=by rfl)
  (hsw:swapsWith (.Call (.Attribute (.Name x p) "append" apos) [e] [] cpos) none pos.line X.env=pure false:=by rfl):PZ X EX (.Expr (.Call (.Attribute (.Name x p) "append" apos) [e] [] cpos) pos) (dL i w):=by
 obtain⟨t,pe,k⟩:=he.t;refine⟨⟨_,dR (fW PySem.F.plainAttrs_list PySem.F.slot_list_append PySem.F.type_list_append eT (bN hN hv hd hcd) (bF pe cf hs) hbase hfew hline hs hplain) hsw,λW0 H0 F W σ H ρ E Dn N s fl eo no h=>?_⟩,λE ρ N N' hl q=>?_⟩
 .unfold dL at h
  split at h
  .rename_i xs ex
   obtain⟨a,vs,e1,e2,e3,e4,e5,r⟩:=s.o i xs ex;refine⟨_,e1,.inl ⟨rfl,vs,SqL.of e2⟩,?_⟩;refine k W0 H0 W σ H ρ E _ s eo (he.mono _ _ _ _ (λd hd v W1 H1 x1 r1=>?_) h);have e2':=x1.h a _ e2 e4;refine⟨a,vs,v,rfl,rfl,e2',by rw[r.length];exact cG hd.1 (gi (bO _)),?_⟩;exact no.nx W1 σ _ _ ((s.step x1).chg ex e1 ((x1.reps r).append (.cons r1 .nil))) (fl.ext x1) hd.2
  .exact h.elim
 .unfold dL at q ⊢
  split at q
  .exact he.mono _ _ _ _ (λd hd=>⟨hd.1,hl.nx _ hd.2⟩) q
  .exact q.elim
end
variable{gs:mn}
section
variable{ps:Pos}{a b:Expr}{w:WE}
def uG(xs ys:List D):List D:=List.zipWith (λx y=>.tup [x,y]) xs ys
def iZ(t:WA):WA:=λE ρ Q=>t E ρ λds=>match ds with
 |[x,y]=>isS (λxs=>isS (λys=>Q (uG xs ys)) y) x
 |_=>False
def qB(i:Nat)(wi wv:WE):WS:=λE N ρ=>match ρ[i]? with
 |some (.ow xs)=>wv E ρ λd=>wi E ρ (isI λk=>∃j,iF xs.length k=some j/\N.nx (ρ.set i (.ow (xs.set j d))))
 |_=>False
end
mutual
def fu:D->Bool
 |.lst _=>false
 |.scr _=>false
 |.dic=>false
 |.tup xs=>oA xs
 |.non=>true
 |.bl _=>true
 |.int _=>true
 |.str _=>true
 |.pen=>true
 |.cls _=>true
 |.exc _=>true
 |.ty _=>true
 |.pl _ _=>true
def oA:List D->Bool
 |[]=>true
 |x::r=>fu x&&oA r
end
def Wd.rem(W:Wd)(a:Addr):Wd:=⟨λb=>if b=a then none else W.G b,W.Pn⟩
section
variable{W:Wd}
theorem Wd.rem_ne(h:b≠a):(W.rem a).G b=W.G b:=by unfold Wd.rem;dsimp only;rw[if_neg h]
theorem Wd.rem_same:(W.rem a).G a=none:=by unfold Wd.rem;dsimp only;rw[if_pos rfl]
mutual
theorem Rep.rem(h:W.G a=some (.lst us)):∀{v:V} {d:D},Rep K W v d->fu d=true->Rep K (W.rem a) v d
 |_,_,.non,_=>.non
 |_,_,.bl b,_=>.bl b
 |_,_,.int i,_=>.int i
 |_,_,.str x,_=>.str x
 |_,_,.tup e r,f=>.tup (by rw[Wd.rem_ne (λz=>by rw[z,h] at e;cases e)];exact e) (Reps.rem h r (by rw[fu] at f;exact f))
 |_,_,.ktup e r,f=>.ktup e (Reps.rem h r (by rw[fu] at f;exact f))
 |_,_,.lst e r,f=>by rw[fu] at f;cases f
 |_,_,.scr e r,f=>by rw[fu] at f;cases f
 |_,_,.dic e,f=>by rw[fu] at f;cases f
 |_,_,.pen e,_=>.pen e
 |_,_,.cls e,_=>.cls e
 |_,_,.exc e n x,_=>.exc (by rw[Wd.rem_ne (λz=>by rw[z,h] at e;cases e)];exact e) n λc f k q=>let⟨d,e1,e2⟩:=x c f k q;⟨d,e1,by rw[Wd.rem_ne (λz=>by rw[z,h] at e2;cases e2)];exact e2⟩
 |_,_,.ty n,_=>.ty n
 |_,_,.pl q,_=>.pl (q.keep λc o e m=>by rw[Wd.rem_ne λz=>m us (by rw[z,h] at e;cases e;rfl)];exact e)
theorem Reps.rem(h:W.G a=some (.lst us)):∀{vs:List V} {ds:List D},Reps K W vs ds->oA ds=true->Reps K (W.rem a) vs ds
 |_,_,.nil,_=>.nil
 |_,_,.cons r t,f=>by
  rw[oA,cy] at f;exact .cons (Rep.rem h r f.1) (Reps.rem h t f.2)
end
theorem Ext.bor(x:Ext (W.put a (.lst us)) H W2 H2)(hg:W.G a=none):Ext W H (W2.rem a) H2 where
 ok:=⟨λb o e=>by
   by_cases hb:b=a
   .subst hb;rw[Wd.rem_same] at e;cases e
   .rw[Wd.rem_ne hb] at e;exact x.ok.g b o e,
  λb hb=>⟨(x.ok.p b hb).1,by
   by_cases hba:b=a
   .subst hba;exact Wd.rem_same
   .rw[Wd.rem_ne hba];exact(x.ok.p b hb).2⟩⟩
 g:=λb o e=>by
  have hb:b≠a:=λz=>by rw[z,hg] at e;cases e
  rw[Wd.rem_ne hb];exact x.g b o (by unfold Wd.put;dsimp only;rw[aE hb];exact e)
 p:=x.p
 gf:=λb e n=>by
  by_cases hb:b=a
  .subst hb;exact Eb Wd.rem_same n
  .rw[Wd.rem_ne hb] at n
   exact x.gf b (by unfold Wd.put;dsimp only;rw[aE hb];exact e) n
 pf:=x.pf
 h:=x.h
theorem SOk.pubAt(s:SOk K W0 H0 W σ H ρ){i:Nat}(e:ρ[i]? = some (.ow xs))(e1:σ[i]? = some (some (V.ref a)))(e2:H a=some (.lst us))(e3:W.G a=none)(e4:¬W.Pn a)(e5:H0 a=none)(r:Reps K W us xs) :
  SOk K W0 H0 (W.put a (.lst us)) σ H (LP.pub i ρ):=by
 have ep:LP.pub i ρ=ρ.set i (.d (.lst xs)):=by unfold LP.pub;rw[e]
 rw[ep];have hi:i<ρ.length:=(Yaq.mp e).1;refine⟨s.ext.pub e5 e2 e4 e3,by rw[cR];exact s.len,λj y ej=>?_,λj ys ej=>?_,λj k ys zs b hjk ej ek e6=>?_,OOs.set ⟨λj xss ej=>let⟨a',bs,q1,q,n⟩:=s.oo.t j xss ej;⟨a',bs,q1,q.put (n i xs a e e1) e3,n⟩,s.oo.u⟩ (λ_ h=>by cases h) (λ_ _=>rfl) λ_ _ h=>by cases h⟩
 .by_cases h:i=j
  .subst h
   rw[cN hi] at ej;cases ej;exact⟨_,e1,.lst (by unfold Wd.put;dsimp only;rw[aF]) (r.mono (li e3) λ_ z=>z)⟩
  .rw[cm h] at ej
   obtain⟨v,q1,q2⟩:=s.d j y ej;exact⟨v,q1,q2.mono (li e3) λ_ z=>z⟩
 .have h:i≠j:=λh=>by subst h;rw[cN hi] at ej;cases ej
  rw[cm h] at ej;obtain⟨b,us',q1,q2,q3,q4,q5,rr⟩:=s.o j ys ej;have hba:b≠a:=λz=>s.ne i j xs ys a h e ej e1 (by rw[<-z];exact q1);refine⟨b,us',q1,q2,?_,q4,q5,rr.mono (li e3) λ_ z=>z⟩;unfold Wd.put;dsimp only;rw[aE hba];exact q3
 .have h:i≠j:=λh=>by subst h;rw[cN hi] at ej;cases ej
  have h':i≠k:=λh=>by subst h;rw[cN hi] at ek;cases ek
  rw[cm h] at ej;rw[cm h'] at ek;exact s.ne j k ys zs b hjk ej ek e6
theorem SOk.lend(s:SOk K W0 H0 W σ H ρ)(i:Nat):(LP.pub i ρ=ρ)\/∃a us,SOk K W0 H0 (W.put a (.lst us)) σ H (LP.pub i ρ)/\W.G a=none/\H a=some (.lst us)/\(W.put a (.lst us)).G a=some (.lst us):=by
 cases e:ρ[i]? with
 |none=>exact .inl (by unfold LP.pub;rw[e])
 |some sv=>
  cases sv with
  |un=>exact .inl (by unfold LP.pub;rw[e])
  |d x=>exact .inl (by unfold LP.pub;rw[e])
  |oo xss=>exact .inl (by unfold LP.pub;rw[e])
  |ow xs=>
   obtain⟨a,us,e1,e2,e3,e4,e5,r⟩:=s.o i xs e;exact .inr ⟨a,us,s.pubAt e e1 e2 e3 e4 e5 r,e3,e2,by unfold Wd.put;dsimp only;rw[aF]⟩
end
section
variable{ps:Pos}{a b:Expr}{w:WE}
def jY(i:Nat)(w:WE):WE:=λE ρ Q=>w E (pub i ρ) λd=>fu d=true/\Q d
def ee(i:Nat)(w:WT):WT:=λE ρ Q=>w E (pub i ρ) Q
theorem yb(i:Nat){w:WT}(he:fD X EX e w):fD X EX e (ee i w):=by
 obtain⟨t,q,k⟩:=he.t;refine⟨⟨t,q,λW0 H0 W σ H ρ E Q s eo h=>?_⟩,λE ρ P P' hp h=>he.mono _ _ _ _ hp h⟩;unfold ee at h;rcases s.lend i with ep|⟨a,us,s',e3,e2,e6⟩
 .rw[ep] at h
  exact k W0 H0 W σ H ρ E Q s eo h
 .exact k W0 H0 _ σ H _ E Q s' eo (he.mono _ _ _ _ (λd hd W2 H2 x2=>hd _ H2 (x2.bor e3)) h)
def fZ(i:Nat)(t:WA):WA:=λE ρ Q=>t E (pub i ρ) λds=>oA ds=true/\Q ds
theorem Bh(i:Nat)(he:PXL X EX e t):PXL X EX e (fZ i t):=by
 obtain⟨t,q,k⟩:=he.t;refine⟨⟨t,q,λW0 H0 W σ H ρ E Q s eo h=>?_⟩,λE ρ P P' hp h=>he.mono _ _ _ _ (λd hd=>⟨hd.1,hp _ hd.2⟩) h⟩;unfold fZ at h;rcases s.lend i with ep|⟨a,us,s',e3,e2,e6⟩
 .rw[ep] at h
  exact k W0 H0 W σ H ρ E Q s eo (he.mono _ _ _ _ (λd hd=>hd.2) h)
 .refine k W0 H0 _ σ H _ E Q s' eo (he.mono _ _ _ _ (λd hd b vs W2 H2 x2 h1 h2 h3 h4 r2=>?_) h)
  have hb:b≠a:=λz=>by rw[z,e2] at h4;cases h4
  exact hd.2 b vs _ H2 (x2.bor e3) h1 (by rw[Wd.rem_ne hb];exact h2) h3 h4 (r2.rem (x2.g _ _ e6) hd.1)
def cD(i:Nat)(wb:WE):WE:=λE ρ Q=>match ρ[i]? with
 |some (.ow xs)=>wb E ρ (isI λk=>∃d,cA xs k=some d/\Q d)
 |_=>False
theorem uH(i:Nat)(hb:PX X EX b wb)(hN:X.N[i]? = some x:=by rfl)(hv:g5 X.env.scope x:=by first|exact Or.inl rfl|exact Or.inr (Or.inl rfl)|exact Or.inr (Or.inr rfl))(hd:(x==("__debug__" : Str))=false:=by decide)
  (hcd:(x==("__classdict__" : Str))=false:=by decide) (hs:cV b:=by exact λ_ _=>rfl):PX X EX (.Subscript (.Name x p) b pos) (cD i wb):=by
 obtain⟨tb,pb,kb⟩:=hb.t;refine⟨⟨_,h8 gH (bN hN hv hd hcd) pb hs,λW0 H0 W σ H ρ E Q s eo h=>?_⟩,λE ρ P P' hp h=>?_⟩
 .unfold cD at h
  split at h
  .rename_i xs ex
   obtain⟨a,vs,e1,e2,e3,e4,e5,r⟩:=s.o i xs ex;refine⟨_,e1,kb W0 H0 W σ H ρ E _ s eo (hb.mono _ _ _ _ (λd hd v W1 H1 x1 r1=>?_) h)⟩;obtain⟨kk,rfl,d,hat,hq⟩:=nE hd;cases r1;obtain⟨v,e6,rv⟩:=r8 (x1.reps r) hat;exact .inl ⟨a,vs,kk,v,rfl,rfl,SqL.of (x1.h a _ e2 e4),e6,hq v W1 H1 x1 rv⟩
  .exact h.elim
 .unfold cD at h ⊢
  split at h
  .exact hb.mono _ _ _ _ (isI.mono λk ⟨d,h1,h2⟩=>⟨d,h1,hp _ h2⟩) h
  .exact h.elim
def NL(K:D9)(W:Wd)(H:Hp)(Q:VK)(ds:List D):Prop:=∀a vs W' H',Ext W H W' H'->H' a=some (.lst vs)->W'.G a=none->¬W'.Pn a->H a=none->Reps K W' vs ds->Q (.ref a) H'
theorem NL.new{K:D9}{W W1:Wd}{H H1:Hp}{Q:VK}{ds:List D}{vs:List V}(h:NL K W H Q ds)(x1:Ext W H W1 H1)(r:Reps K W1 vs ds){q:Addr}(hq:H1 q=none):Q (.ref q) (upd H1 q (.lst vs)):=
 h q vs W1 _ (x1.trans (.new x1.ok hq)) aF (x1.ok.fresh hq).1 (x1.ok.fresh hq).2 (x1.isN hq) r
def gQ(wa wb:WE):WA:=λE ρ Q=>wa E ρ (isL λxs=>wb E ρ (isL λys=>xs.length+ys.length<=aM/\Q (xs++ys)))
theorem Bi(ha:PX X EX a wa)(hb:PX X EX b wb):PXL X EX (.BinOp a .Add b pos) (gQ wa wb):=by
 obtain⟨ta,pa,ka⟩:=ha.t;obtain⟨tb,pb,kb⟩:=hb.t;refine⟨⟨_,lZ Zhf pa pb,λW0 H0 W σ H ρ E Q s eo h=>?_⟩,λE ρ P P' hp h=>ha.mono _ _ _ _ (isL.mono λxs hx=>hb.mono _ _ _ _ (isL.mono λys hy=>⟨hy.1,hp _ hy.2⟩) hx) h⟩;refine ka W0 H0 W σ H ρ E _ s eo (ha.mono _ _ _ _ (λd hd v W1 H1 x1 r1=>?_) h);obtain⟨xs,rfl,hd⟩:=uC hd;refine kb W0 H0 W1 σ H1 ρ E _ (s.step x1) eo (hb.mono _ _ _ _ (λd hd u W2 H2 x2 r2=>?_) hd);obtain⟨ys,rfl,hd⟩:=uC hd;obtain⟨p,vs,rfl,h1,q1⟩:=(x2.rep r1).sql x2.ok;obtain⟨q,us,rfl,h2,q2⟩:=r2.sql x2.ok;exact⟨p,q,vs,us,rfl,rfl,h1,h2,by rw[q1.length,q2.length];exact gi hd.1,λa ha=>NL.new hd.2 (x1.trans x2) (q1.append q2) ha⟩
def jZ(wa wb:WE):WA:=λE ρ Q=>wa E ρ (isL λxs=>wb E ρ (isI λk=>k<1000/\-1000<k/\xs.length*k.toNat<=aM/\Q (List.replicate k.toNat xs).flatten))
def j0(wa:WE)(wl wh:(Ex->Prop)->bV->(Option Int->Prop)->Prop):WA:=λE ρ Q=>wa E ρ λx=>wl E ρ λl=>wh E ρ λh=>match x with
 |.lst xs=>Q (bE xs l h)
 |.scr xs=>Q (bE xs l h)
 |_=>False
end
section
variable{W:Wd}{i j k:Int}
def Wd.pen(W:Wd)(a:Addr):Wd:=⟨W.G,λb=>b=a\/W.Pn b⟩
theorem Ext.pen(x:Ext W H W1 H1)(h:H a=none)(e:H1 a=some (.lst [.int i,.int j,.int k]))(ng:W1.G a=none):Ext W H (W1.pen a) H1 where
 ok:=⟨x.ok.g,λb hb=>by
  rcases hb with rfl|hb
  .exact⟨⟨i,j,k,e⟩,ng⟩
  .exact x.ok.p b hb⟩
 g:=x.g
 p:=λb hb=>.inr (x.p b hb)
 gf:=x.gf
 pf:=λb n hb=>by
  rcases hb with rfl|hb
  .exact h
  .exact x.pf b n hb
 h:=x.h
theorem Ext.ink(x:Ext W H W1 H1)(hp:W1.Pn a):Ext W H W1 (upd H1 a (.lst [.int i,.int j,.int k])) where
 ok:=⟨λb o e=>by
   have hb:b≠a:=λz=>by rw[z,(x.ok.p a hp).2] at e;cases e
   rw[aE hb];exact x.ok.g b o e,
  λb hb=>by
   by_cases hba:b=a
   .subst hba;exact⟨⟨i,j,k,aF⟩,(x.ok.p b hb).2⟩
   .obtain⟨⟨i',j',k',e⟩,n⟩:=x.ok.p b hb
    exact⟨⟨i',j',k',by rw[aE hba];exact e⟩,n⟩⟩
 g:=x.g
 p:=x.p
 gf:=x.gf
 pf:=x.pf
 h:=λb o e n=>by
  have q:=x.h b o e n;have hb:b≠a:=λz=>by subst z;have:=x.pf b n hp;rw[e] at this;cases this
  rw[aE hb];exact q
theorem SOk.ink(s:SOk K W0 H0 W σ H ρ)(hp:W.Pn a):SOk K W0 H0 W σ (upd H a (.lst [.int i,.int j,.int k])) ρ where
 ext:=s.ext.ink hp
 len:=s.len
 d:=s.d
 o:=λn ys e=>by
  obtain⟨b,vs,e1,e2,e3,e4,e5,r⟩:=s.o n ys e;exact⟨b,vs,e1,by rw[aE (λz=>e4 (by rw[z];exact hp))];exact e2,e3,e4,e5,r⟩
 ne:=s.ne
 oo:=⟨λn xss e=>let⟨a',bs,e1,q,m⟩:=s.oo.t n xss e;⟨a',bs,e1,q.upd (q.noPen hp),m⟩,s.oo.u⟩
end
section
variable{ps:Pos}{a b:Expr}{w:WE}
def gR(t:WA):WE:=λE ρ Q=>t E ρ λds=>(∃i j k,ds=[.int i,.int j,.int k])/\Q .pen
theorem Bj(he:PXL X EX e t):PX X EX e (gR t):=by
 obtain⟨t,q,k⟩:=he.t;refine⟨⟨t,q,λW0 H0 W σ H ρ E Q s eo h=>?_⟩,λE ρ P P' hp h=>he.mono _ _ _ _ (λd hd=>⟨hd.1,hp _ hd.2⟩) h⟩;refine k W0 H0 W σ H ρ E Q s eo (he.mono _ _ _ _ (λds hd a vs W1 H1 x1 e1 e2 e3 e4 r1=>?_) h);obtain⟨⟨i,j,k,rfl⟩,hd⟩:=hd;have ev:vs=[.int i,.int j,.int k]:=by
  cases r1 with|cons r t=>cases r;cases t with|cons r t=>cases r;cases t with|cons r t=>cases r;cases t;rfl
 subst ev;exact hd _ _ _ (x1.pen e4 e1 e2) (.pen (.inl rfl))
def eh:G2:=λx y Q=>x=.pen/\(y=.int 0\/y=.int 1\/y=.int 2)/\∀n,Q (.int n)
theorem qC:rW X eh:=by
 refine⟨⟨_,gH,λW H x y dx dy Q ok rx ry hg=>?_⟩,λx y P P' hp h=>⟨h.1,h.2.1,λn=>hp _ (h.2.2 n)⟩⟩;obtain⟨rfl,hy,hq⟩:=hg;cases rx with
 | @pen a hp=>
  obtain⟨⟨i,j,k,e⟩,ng⟩:=ok.p a hp;have key:∀(m:Int) (v:V),cA [V.int i,.int j,.int k] m=some v->(∃n,v=.int n)->xD X.K (.ref a) (.int m) H Q:=λm v hv ⟨n,hn⟩=>by
   subst hn;exact .inl ⟨a,_,m,_,rfl,rfl,SqL.of e,hv,(hq n).now ok (.int n)⟩
  rcases hy with rfl|rfl|rfl
  .cases ry;exact key 0 (.int i) rfl ⟨i,rfl⟩
  .cases ry;exact key 1 (.int j) rfl ⟨j,rfl⟩
  .cases ry;exact key 2 (.int k) rfl ⟨k,rfl⟩
def f6(i:Nat)(wv:WE):WS:=λE N ρ=>ρ[i]? = some (.d .pen)/\wv E ρ (isI λ_=>N.nx ρ)
theorem yc(i:Nat)(m:Int){wv:WE}{j}{ipos spos:Pos}(he:PX X EX e wv)(hm:m=0\/m=1\/m=2:=by decide)(hN:X.N[i]? = some x:=by rfl)(hv:g5 X.env.scope x:=by first|exact Or.inl rfl|exact Or.inr (Or.inl rfl)|exact Or.inr (Or.inr rfl))(hd:(x==("__debug__" : Str))=false:=by decide)
  (hcd:(x==("__classdict__" : Str))=false:=by decide)
  (ha:∀ v,assign (.Subscript (.Name x p) (.Constant (.int m) j ipos) spos) X.env v=(do
   let ov <-holding [v] (eval (.Name x p) X.env)
   let iv <-holding [v,ov] (eval (.Constant (.int m) j ipos) X.env)
   standAt spos
   holding [v,ov,iv] (setItem ov iv v)
   release [v,ov,iv] []):=by intro _;rfl)
  (hs:swapsWithSole [.Subscript (.Name x p) (.Constant (.int m) j ipos) spos] e pos.line X.env=pure false:=by rfl) (hw:swappedStores [.Subscript (.Name x p) (.Constant (.int m) j ipos) spos] e X.env=pure none:=by rfl)
  (h1:(assignEach [.Subscript (.Name x p) (.Constant (.int m) j ipos) spos] X.env).map (·.2)=[assign (.Subscript (.Name x p) (.Constant (.int m) j ipos) spos) X.env]:=by rfl):PZ X EX (.Assign [.Subscript (.Name x p) (.Constant (.int m) j ipos) spos] e pos) (f6 i wv):=by
 obtain⟨t,pe,k⟩:=he.t;refine⟨⟨_,gv pe (mV (bN hN hv hd hcd) de jK ha) hs hw h1,λW0 H0 F W σ H ρ E Dn N s fl eo no h=>?_⟩,λE ρ N N' hl q=>⟨q.1,he.mono _ _ _ _ (isI.mono λ_ hn=>hl.nx _ hn) q.2⟩⟩;obtain⟨hpen,h⟩:=h;obtain⟨v0,e0,r0⟩:=s.d i .pen hpen;cases r0 with
 | @pen a hp=>
  refine k W0 H0 W σ H ρ E _ s eo (he.mono _ _ _ _ (λd hd v W1 H1 x1 r1=>⟨_,e0,?_⟩) h);obtain⟨n,rfl,hn⟩:=nE hd;cases r1;have hp1:=x1.p a hp;obtain⟨⟨i',j',k',e'⟩,ng⟩:=x1.ok.p a hp1;rcases hm with rfl|rfl|rfl
  .exact⟨a,_,0,0,rfl,rfl,e',rfl,no.nx W1 σ _ ρ ((s.step x1).ink hp1) (fl.ext x1) hn⟩
  .exact⟨a,_,1,1,rfl,rfl,e',rfl,no.nx W1 σ _ ρ ((s.step x1).ink hp1) (fl.ext x1) hn⟩
  .exact⟨a,_,2,2,rfl,rfl,e',rfl,no.nx W1 σ _ ρ ((s.step x1).ink hp1) (fl.ext x1) hn⟩
end
abbrev kC:G2:=gI2 (λ_ _=>True) λi j=>.int (i-j)
abbrev oB:G2:=gI2 (λ_ j=>j≠0) λi j=>.int (i.fmod j)
abbrev lv:G2:=gI2 uz λi j=>.int (i.fdiv j)
abbrev oC:G2:=gI2 kW λi j=>.int (i^j.toNat)
abbrev qD:G2:=gI2 (λ_ _=>True) λi j=>.bl (decide (i<j))
abbrev j3:G2:=gI2 (λ_ _=>True) λi j=>.bl (decide (i<=j))
abbrev j4:G2:=gI2 (λ_ _=>True) λi j=>.bl (decide (i>j))
abbrev uI:G2:=gI2 (λ_ _=>True) λi j=>.bl (decide (i ≥ j))
abbrev cL:D->(D->Prop)->Prop:=λx Q=>isI (λi=>Q (.int (-i))) x
abbrev qE:WS:=λ_ _ _=>False
def fnS{α:Type}(enc:α->List D)(dom:α->Prop)(val:α->D):bW:=λds _ Q=>∃a,ds=enc a/\dom a/\Q (val a)
theorem fnS.mono{α:Type}{enc:α->List D}{dom:α->Prop}{val:α->D}:ln (fnS enc dom val):=λds E E' Q Q' _ hQ ⟨a,h1,h2,h3⟩=>⟨a,h1,h2,hQ _ h3⟩
theorem fnS.len{α:Type}{enc:α->List D}{dom:α->Prop}{val:α->D}(hp:∀a,(enc a).length=ps.length):∀ds E Q,fnS enc dom val ds E Q->ds.length=ps.length:=λds E Q ⟨a,h1,_⟩=>by rw[h1];exact hp a
def exQ(E:Ex->Prop)(Q:D->Prop):Except Str D->Prop
 |.ok v=>Q v
 |.error e=>E e
theorem exQ.mono{E':Ex->Prop}{Q':D->Prop}(hE:∀e,E e->E' e)(hQ:∀d,Q d->Q' d):∀r,exQ E Q r->exQ E' Q' r
 |.ok v,h=>hQ v h
 |.error e,h=>hE e h
def xS{α:Type}(enc:α->List D)(dom:α->Prop)(res:α->Except Str D):bW:=λds E Q=>∃a,ds=enc a/\dom a/\exQ E Q (res a)
theorem xS.mono{α:Type}{enc:α->List D}{dom:α->Prop}{res:α->Except Str D}:ln (xS enc dom res):=λds E E' Q Q' hE hQ ⟨a,h1,h2,h3⟩=>⟨a,h1,h2,exQ.mono hE hQ _ h3⟩
theorem xS.ok{α:Type}{enc:α->List D}{dom:α->Prop}{res:α->Except Str D}{v:D}(a:α)(h:ds=enc a)(hd:dom a)(e:res a=.ok v)(q:Q v):xS enc dom res ds E Q:=⟨a,h,hd,by rw[e];exact q⟩
theorem xS.err{α:Type}{enc:α->List D}{dom:α->Prop}{res:α->Except Str D}{n:Str}(a:α)(h:ds=enc a)(hd:dom a)(e:res a=.error n)(q:E n):xS enc dom res ds E Q:=⟨a,h,hd,by rw[e];exact q⟩
theorem xS.len{α:Type}{enc:α->List D}{dom:α->Prop}{res:α->Except Str D}(hp:∀a,(enc a).length=ps.length):∀ds E Q,xS enc dom res ds E Q->ds.length=ps.length:=λds E Q ⟨a,h1,_⟩=>by rw[h1];exact hp a
def rlS{α:Type}(enc:α->List D)(dom:α->Prop)(rel:α->D->Prop):bW:=λds _ Q=>∃a,ds=enc a/\dom a/\∀d,rel a d->Q d
theorem rlS.mono{α:Type}{enc:α->List D}{dom:α->Prop}{rel:α->D->Prop}:ln (rlS enc dom rel):=λds E E' Q Q' _ hQ ⟨a,h1,h2,h3⟩=>⟨a,h1,h2,λd r=>hQ _ (h3 d r)⟩
theorem rlS.len{α:Type}{enc:α->List D}{dom:α->Prop}{rel:α->D->Prop}(hp:∀a,(enc a).length=ps.length):∀ds E Q,rlS enc dom rel ds E Q->ds.length=ps.length:=λds E Q ⟨a,h1,_⟩=>by rw[h1];exact hp a
theorem Fp.of{w:World}{base:Heap}{f:Addr}(h:FnOk P w K mg base (bD P w) k f fd ps (dI K S))(m:ln S)(hm:mg x=some (.ref f))(kp:PySem.W.keepIn K (.ref f)=true)(hb:Binds K fd ps []) :
  Fp P w K mg base k x ps S:=⟨⟨f,fd,h,hm,kp,hb⟩,m⟩
section
variable{tail:bV}{Q:List D->Prop}
theorem Bk{f:D->D}(h:∀d∈ds,∀Q:D->Prop,Q (f d)->we No (.d d::tail) Q):∀(sv:SV) (acc:List D),acc.length+ds.length<=aM->Q (acc++ds.map f)->lcW (gN 0) et we ds (sv::tail) acc Q:=by
 induction ds with
 |nil=>intro sv acc _ hq;simpa[lcW] using hq
 |cons d ds ih=>
  intro sv acc hl hq;rw[lcW];show we No (SV.d d::tail) _;refine h d (en ..) _ ⟨?_,?_⟩
  .rw[cn] at hl;omega
  .refine ih (λd hd=>h d (da _ hd)) (.d d) _ ?_ ?_
   .rw[dP,lV];rw[cn] at hl;omega
   .rw[lT];exact hq
theorem Bl{R:D->D->Prop}(h:∀d∈ds,∀Q:D->Prop,(∀y,R d y->Q y)->we No (.d d::tail) Q):∀(sv:SV) (acc:List D),acc.length+ds.length<=aM->(∀ys,ys.length=ds.length->(∀y∈ys,∃d,d∈ds/\R d y)->Q (acc++ys))->lcW (gN 0) et we ds (sv::tail) acc Q:=by
 induction ds with
 |nil=>intro sv acc _ hq;simpa[lcW] using hq [] rfl (by simp)
 |cons d ds ih=>
  intro sv acc hl hq;rw[lcW];show we No (SV.d d::tail) _;refine h d (en ..) _ λy hy=>⟨?_,?_⟩
  .rw[cn] at hl;omega
  .refine ih (λd hd=>h d (da _ hd)) (.d d) _ ?_ λys hl' hys=>?_
   .rw[dP,lV];rw[cn] at hl;omega
   .rw[lT]
    refine hq (y::ys) (by rw[cn,cn,hl']) λz hz=>?_;rcases Yan.mp hz with rfl|hz
    .exact⟨d,en ..,hy⟩
    .obtain⟨d',h1,h2⟩:=hys z hz;exact⟨d',da _ h1,h2⟩
end
mutual
def eV:D->Nat->Bool
 |.non,_=>true
 |.bl _,_=>true
 |.int _,_=>true
 |.str x,_=>PyData.canLay0 (.str x)
 |.tup xs,n=>decide (0<n)&&gS xs (n-1)
 |.lst xs,n=>decide (0<n)&&gS xs (n-1)
 |.dic,_=>false
 |.pen,_=>false
 |.cls _,_=>false
 |.exc _,_=>false
 |.ty _,_=>false
 |.pl _ _,_=>false
 |.scr _,_=>false
def gS:List D->Nat->Bool
 |[],_=>true
 |x::r,n=>eV x n&&gS r n
end
mutual
def pd:D->PyData
 |.non=>.none
 |.bl b=>.bool b
 |.int i=>.int i
 |.str x=>.str x
 |.tup xs=>.tuple (ja xs)
 |.lst xs=>.list (ja xs)
 |.dic=>.none
 |.pen=>.none
 |.cls _=>.none
 |.exc _=>.none
 |.ty _=>.none
 |.pl _ _=>.none
 |.scr _=>.none
def ja:List D->List PyData
 |[]=>[]
 |x::r=>pd x::ja r
end
mutual
theorem ss:∀(x:D) (n:Nat),eV x n=true->eK x=some (pd x)/\(pd x).canLay0=true/\(pd x).depth<=n
 |.non,n,_=>⟨rfl,rfl,by rw[pd,PyData.depth];exact im _⟩
 |.bl _,n,_=>⟨rfl,rfl,by rw[pd,PyData.depth];exact im _⟩
 |.int _,n,_=>⟨rfl,rfl,by rw[pd,PyData.depth];exact im _⟩
 |.str x,n,h=>⟨rfl,by rw[eV] at h;exact h,by rw[pd,PyData.depth];exact im _⟩
 |.tup xs,n,h=>by
  rw[eV,cy,Ee] at h;obtain⟨h1,h2,h3⟩:=uJ xs (n-1) h.2;refine⟨by rw[eK,h1,pd];rfl,by rw[pd,PyData.canLay0];exact h2,by rw[pd,PyData.depth];omega⟩
 |.lst xs,n,h=>by
  rw[eV,cy,Ee] at h;obtain⟨h1,h2,h3⟩:=uJ xs (n-1) h.2;refine⟨by rw[eK,h1,pd];rfl,by rw[pd,PyData.canLay0];exact h2,by rw[pd,PyData.depth];omega⟩
 |.dic,n,h=>by rw[eV] at h;cases h
 |.pen,n,h=>by rw[eV] at h;cases h
 |.cls _,n,h=>by rw[eV] at h;cases h
 |.exc _,n,h=>by rw[eV] at h;cases h
 |.ty _,n,h=>by rw[eV] at h;cases h
 |.pl _ _,n,h=>by rw[eV] at h;cases h
 |.scr _,n,h=>by rw[eV] at h;cases h
theorem uJ:∀(xs:List D) (n:Nat),gS xs n=true->dl xs=some (ja xs)/\PyData.canLayAll0 (ja xs)=true/\PyData.depthAll (ja xs)<=n
 |[],n,_=>⟨by rw[dl,ja],by rw[ja,PyData.canLayAll0],by rw[ja,PyData.depthAll];exact im _⟩
 |x::r,n,h=>by
  rw[gS,cy] at h;obtain⟨h1,h2,h3⟩:=ss x n h.1;obtain⟨q1,q2,q3⟩:=uJ r n h.2;exact⟨by rw[dl,h1,q1,ja],by rw[ja,PyData.canLayAll0,h2,q2];rfl,by rw[ja,PyData.depthAll];omega⟩
end
def uK(x y:D):Bool:=PyData.eqv (pd x) (pd y)
theorem Bm{x y:D}(hx:eV x 60=true)(hy:eV y 60=true)(h:Q (.bl (if neg then !uK x y else uK x y))):gEq neg x y Q:=by
 obtain⟨a1,a2,a3⟩:=ss x 60 hx;obtain⟨b1,b2,b3⟩:=ss y 60 hy;refine⟨pd x,pd y,a1,b1,?_,?_,h⟩
 .unfold PySem.SeqAt.shaped;rw[a2,Ec (by omega)];rfl
 .unfold PySem.SeqAt.shaped;rw[b2,Ec (by omega)];rfl
mutual
theorem yd:∀p:PyData,p.canLay0=true->PyData.eqv p p=true
 |.none,_=>by rw[PyData.eqv]
 |.bool b,_=>by rw[PyData.eqv];exact Er b
 |.int i,_=>by rw[PyData.eqv];exact Er i
 |.str x,_=>by rw[PyData.eqv];exact Er x
 |.list xs,h=>by rw[PyData.eqv];exact uL xs (by rw[PyData.canLay0] at h;exact h)
 |.tuple xs,h=>by rw[PyData.eqv];exact uL xs (by rw[PyData.canLay0] at h;exact h)
 |.dict _,h=>by rw[PyData.canLay0] at h;cases h
theorem uL:∀ps:List PyData,PyData.canLayAll0 ps=true->PyData.eqvAll ps ps=true
 |[],_=>by rw[PyData.eqvAll]
 |p::ps,h=>by
  rw[PyData.canLayAll0,cy] at h;rw[PyData.eqvAll,yd p h.1,uL ps h.2];rfl
end
theorem Bn{x:D}{n:Nat}(h:eV x n=true):uK x x=true:=yd _ (ss x n h).2.1
theorem lw{x:D}(hx:eV x 60=true)(h:Q (.bl (!neg))):gEq neg x x Q:=by
 refine Bm hx hx ?_;rw[Bn hx];cases neg<;>exact h
def oE(q:Rat):D:=.tup [.int q.num,.int (q.den:Int)]
def iP(r:List Rat):D:=.tup (r.map oE)
def aS(xs:List Int):D:=.tup (xs.map .int)
def cF(xs:List Int):D:=.lst (xs.map .int)
mutual
def kd:D->Bool
 |.tup xs=>decide (xs.length<=5000)&&mq xs
 |.lst xs=>decide (xs.length<=5000)&&mq xs
 |.non=>true
 |.bl _=>true
 |.int _=>true
 |.str _=>true
 |.dic=>true
 |.pen=>false
 |.cls _=>false
 |.exc _=>false
 |.ty _=>false
 |.pl _ _=>false
 |.scr _=>false
def mq:List D->Bool
 |[]=>true
 |x::r=>kd x&&mq r
end
theorem ye:∀{xs:List D},mq xs=true->∀x∈xs,kd x=true
 |x::r,h,y,hy=>by
  rw[mq,cy] at h;rcases Yan.mp hy with rfl|hy
  .exact h.1
  .exact ye h.2 y hy
theorem yf:∀{xs:List D},(∀x∈xs,kd x=true)->mq xs=true
 |[],_=>by rw[mq]
 |x::r,h=>by rw[mq,h x (en ..),yf λy hy=>h y (da _ hy)];rfl
theorem yg(h:kd (.tup xs)=true):xs.length<=5000/\∀x∈xs,kd x=true:=by
 rw[kd,cy,Ee] at h;exact⟨h.1,ye h.2⟩
theorem Bo(h1:xs.length<=5000)(h2:∀x∈xs,kd x=true):kd (.tup xs)=true:=by rw[kd,Ec h1,yf h2];rfl
theorem qF{x:D}(h:kd x=true):∃t,sd x=some t:=by
 cases x<;>first
  |exact⟨_,rfl⟩
  |(rw[kd] at h;cases h)
theorem uM{r:List Int}(h:r.length<=5000):kd (aS r)=true:=Bo (by simpa using h) λx hx=>by
 obtain⟨q,_,rfl⟩:=Ybu.mp hx;rw[kd]
def yh:D->Bool
 |.int _=>true
 |_=>false
def bH(l m:Int):D->Bool
 |.int i=>decide (l<=i)&&decide (i<=m)
 |_=>false
def iQ(l m:Int):D->Bool
 |.tup xs=>xs.all (bH l m)
 |_=>false
def uN:bW:=fnS (λx:D=>[x]) (λx=>kd x=true) λx=>.bl (yh x)
def mr:bW:=fnS (λx:D×Int×Int=>[x.1,.int x.2.1,.int x.2.2]) (λx=>kd x.1=true) λx=>.bl (bH x.2.1 x.2.2 x.1)
def su:bW:=fnS (λx:D×Int×Int=>[x.1,.int x.2.1,.int x.2.2]) (λx=>kd x.1=true) λx=>.bl (iQ x.2.1 x.2.2 x.1)
structure IsSl(s:List Int)(n:Nat):Prop where
 len:s.length+1=2*n
 n1:1<=n
 n5:n<=5
 b:∀x∈s,-50<=x/\x<=50
def tbl(s:List Int)(n:Nat):List (List Int):=(List.range n).map λi=>(s.drop (n-1-i)).take n
def j5(s:List Int)(n:Nat):D:=.lst ((tbl s n).map cF)
def dC:D->Bool
 |.tup xs=>xs.all (bH (-50) 50)&&decide (xs.length%2=1)&&decide (xs.length<=9)
 |_=>false
def oF:bW:=fnS (λx:List D=>[.tup x]) (λx=>x.length<=5000) λx=>.int (((x.length:Int)+1)/2)
def sw:bW:=fnS (λx:D=>[x]) (λx=>kd x=true) λx=>.bl (dC x)
def oG:D->Int
 |.int i=>i
 |_=>0
def sI:D->List Int
 |.tup xs=>xs.map oG
 |_=>[]
def sN(x:D):Nat:=((sI x).length+1)/2
def kE(x:D)(v:Except Str D):Except Str D:=if dC x=true then v else .error "NoSlants"
def ly:bW:=xS (λx:D=>[x]) (λx=>kd x=true) λx=>kE x (.ok .non)
def hd(r:List Int):Int:=r.headD 0
def sx:bW:=xS (λx:D=>[x]) (λx=>kd x=true) λx=>kE x (.ok (aS (sI x).reverse))
def sB(s:List Int)(n k:Nat):List Int:=(s.drop (n-k)).take (2*k-1)
def uO:bW:=xS (λx:D×D=>[x.1,x.2]) (λx=>kd x.1=true/\kd x.2=true) λx=>kE x.1 (if bH 1 (sN x.1) x.2=true then .ok (aS (sB (sI x.1) (sN x.1) (oG x.2).toNat)) else .error "NoNumber")
section
variable{x:D}{l m a b:Int}{p:Rat}{n:Nat}
theorem sC(h:kd x=true)(q:Q (.bl (bH l m x))):mr [x,.int l,.int m] E Q:=⟨(x,l,m),rfl,h,q⟩
theorem Bp(h:kd x=true)(q:Q (.bl (iQ l m x))):su [x,.int l,.int m] E Q:=⟨(x,l,m),rfl,h,q⟩
theorem IsSl.l9(h:IsSl s n):s.length<=9:=by have:=h.len;have:=h.n5;omega
theorem yi(h:xs.length<=5000)(q:Q (.int (((xs.length:Int)+1)/2))):oF [.tup xs] E Q:=⟨xs,rfl,h,q⟩
theorem Bq(h:IsSl s n)(q:Q (.int n)):oF [aS s] E Q:=by
 have:=h.l9;have:=h.len;refine yi (by simp;omega) ?_;have e:(((s.map D.int).length:Int)+1)/2=n:=by rw[bJ];omega
 rw[e];exact q
theorem Br(h:kd x=true)(q:Q (.bl (dC x))):sw [x] E Q:=⟨x,rfl,h,q⟩
theorem yj{n:Nat}(h:IsSl s n):dC (aS s)=true:=by
 unfold dC aS;simp only[bJ];have hl:=h.len;have h5:=h.n5;have h1:=h.n1;rw[Ec (by omega:s.length%2=1),Ec (by omega:s.length<=9),Bool.and_true,Bool.and_true,Ybc];intro x hx;obtain⟨i,hi,rfl⟩:=Ybu.mp hx;have:=h.b i hi;simp[bH,this.1,this.2]
theorem IsSl.kd{s:List Int}{n:Nat}(h:IsSl s n):kd (aS s)=true:=uM (by have:=h.l9;omega)
theorem qG(s:List Int):sI (aS s)=s:=by show(s.map D.int).map oG=s;rw[iY];exact(rH λ_ _=>rfl).trans (List.map_id _)
theorem IsSl.sN(h:IsSl s n):sN (aS s)=n:=by unfold LP.sN;rw[qG];have:=h.len;omega
theorem sD(h:IsSl s n):kE (aS s) v=v:=by unfold kE;rw[yj h,if_pos rfl]
theorem yk(h:dC x=false):kE x v=.error "NoSlants" :=by unfold kE;rw[h,if_neg (by decide)]
theorem uP(h:dC x=true):∃s n,x=aS s/\IsSl s n:=by
 cases x<;>try (cases h;done)
 rename_i xs;simp only[dC,cy,Ee,Ybc] at h;obtain⟨⟨h1,h2⟩,h3⟩:=h;have e:xs=(xs.map oG).map D.int:=by
  rw[iY];refine((rH λx hx=>?_).trans (List.map_id _)).symm;have:=h1 x hx;cases x<;>first|rfl|cases this
 refine⟨xs.map oG,(xs.length+1)/2,by unfold aS;rw[<-e],⟨by rw[bJ];omega,by omega,by omega,λi hi=>?_⟩⟩;obtain⟨x,hx,rfl⟩:=Ybu.mp hi;have:=h1 x hx;cases x<;>first|(cases this;done)|skip
 simp only[bH,cy,Ee] at this;exact this
theorem uQ(h:IsSl s n)(q:Q .non):ly [aS s] E Q:=xS.ok (aS s) rfl h.kd (sD h) q
theorem uR(h:kd x=true)(hb:dC x=false)(e:E "NoSlants"):ly [x] E Q:=xS.err x rfl h (yk hb) e
theorem Bt(h:IsSl s n)(q:Q (aS s.reverse)):sx [aS s] E Q:=xS.ok (aS s) rfl h.kd (by(try dsimp only);rw[sD h,qG]) q
end
theorem kF{C:Addr}(h:PySem.W.nsIn K mainGlobals x=some (some (.ref C))):dH K x=some C:=by unfold dH;rw[h]
section
variable{C:Addr}{newId initId:String}{bmB:List Value}
def ij(x:Str):WS:=λE _ _=>E x
structure XC(K:D9)(mg:Str->Option Value)(x:Str):Prop where
 h:∃(C:Addr) (newId initId:String) (bmB:List Value),dH K x=some C/\mg x=some (.ref C)/\PySem.W.excIn K C bmB newId=true/\ExcBaseFacts "ValueError" newId initId bmB
theorem ms(hr:eG X EX)(hx:XC X.K X.mg x)(hc:X.calm=true:=by rfl)(hxn:jR x=none:=by decide)(hg:Gl X x:=by rfl)(hd:(x==("__debug__" : Str))=false:=by decide) :
  PZ X EX (.Raise (some (.Call (.Name x np) [] [] cpos)) none pos) (ij x):=by
 obtain⟨C,newId,initId,bmB,h1,h2,h3,h4⟩:=hx.h;exact⟨⟨_,Ar hr hc h2 h3 h4 hg hd,λW0 H0 F W σ H ρ E Dn N s fl eo no q=>eo x W H (.ref C) none q s.ext ⟨C,by rw[AY hxn];exact h1,rfl,.none hxn⟩⟩,λE ρ N N' hl q=>q⟩
end
def nG(n i:Nat)(ex:Str):bV:=(List.replicate n SV.un).set i (.d (.exc ex))
structure XT(K:D9)(mg:Str->Option Value)(x:Str)(L:List Str):Prop where
 h:∃(C:Addr) (newId:String) (bmB:List Value),mg x=some (.ref C)/\PySem.W.excIn K C bmB newId=true/\bmB.contains (.type "BaseException")=true/\∀n∈L,∀D,dH K (gh n)=some D->PySem.W.mroIn K D (.ref C)=some true
section
def nI(L:List Str)(n i:Nat)(zb zh:WS):WS:=λ_ N ρ=>∃E':Ex->Prop,(∀ex,E' ex->ex∈L/\zh No { nx:=λ_=>False,rt:=N.rt } (nG n i ex))/\zb E' N ρ
end
section
variable{w:World}{base:Heap}
theorem uS{st:Stmt}{f:Addr}(F:Fun K x qual st f fd)(sc:aT N ps (aA st))(len:∀ds E Q,S ds E Q->ds.length=ps.length)
  (hbody:∀ (cdv:Value) (A:Around) (outer:List Env) (s:Shared) (H:Hp),RoomU k (A.deeper (envOfC qual (aA st) s.heap.objs.size f cdv))->
   ia (nu P w K mg base N qual (aA st) f cdv A outer s H) E0 (aH st) z)
  (h:∀ds E Q,S ds E Q->z No { nx:=λ_=>Q .non,rt:=Q } (cO N ds)):rV P w K mg base (k+1) f fd ps (dI K S):=by
 refine F.okU sc (λvs H Q E hs=>?_) λcdv A outer s H vs Q E hr hs=>?_
 .obtain⟨ds,W,_,r,hS⟩:=hs
  rw[r.length];exact len _ _ _ hS
 .obtain⟨ds,W,ok,r,hS⟩:=hs
  obtain⟨t,p,k⟩:=(hbody cdv A outer s H hr).t;exact ⟨t,p,k W H W W (start N vs) H (cO N ds) No _ { nx:=λ_=>RQ K W H Q .non,rt:=RQ K W H Q } (sk ok r) (.refl W) (λ_ _ _ _ _ z=>z.elim)
   ⟨λW1 σ1 H1 ρ1 s1 _ q=>q _ W1 H1 s1.ext .non,λd v W1 H1 x1 r1 q=>q v W1 H1 x1 r1,λ_ _ _ _ _ _ q=>q.elim,λ_ _ _ _ _ _ q=>q.elim⟩ (h ds _ _ hS)⟩
structure uT(P:Program)(w:World)(K:D9)(mg:Str->Option Value)(base:Heap)(k:Nat)(x:Str)(ps:List Str)(S:bW):Prop where
 ok:∃f fd,rV P w K mg base k f fd ps (dI K S)/\mg x=some (.ref f)/\PySem.W.keepIn K (.ref f)=true/\Binds K fd ps []
 mono:ln S
end
section
theorem Bu(G:uT X.prog X.w X.K X.mg X.base k x ps S)(hr:RoomU j X.A)(ha:fE X EX (e::es) t)(hk:k<=j:=by decide)(hg:Gl X x:=by rfl)(hdb:(x==("__debug__" : Str))=false:=by decide)(he:starEach (e::es) X.env=(false,eval e X.env)::starEach es X.env:=by rfl)(hpl:(backTo pos (starEach es X.env)).any (·.1)=false:=by rfl) :
  PX X EX (.Call (.Name x p) (e::es) [] pos) (wF S t):=by
 obtain⟨f,fd,F,hm,kp,hb⟩:=G.ok;obtain⟨ta,pa,ka⟩:=ha.t;have hS:=G.mono;refine⟨⟨_,Au (E:=EX) F (hr.mono hk) hg hm kp hb pa hdb he hpl,λW0 H0 W σ H ρ E Q s eo h=>?_⟩,λE ρ P P' hp z=>ha.mono _ _ _ _ (λds hds=>hS _ _ _ _ _ (λ_ q=>q) hp hds) z⟩;refine ka W0 H0 W σ H ρ E _ s eo (ha.mono _ _ _ _ (λds hds vs W1 H1 x1 r1=>?_) h);refine⟨ds,W1,x1.ok,by rw[kn];exact r1,hS _ _ _ _ _ (λex hex W' H' cls dx x' r'=>?_) (λd hd=>RQ.ext hd x1) hds⟩;exact eo ex W' H' cls dx hex (s.ext.trans (x1.trans x')) r'
end
structure XI(K:D9)(L M:List Str):Prop where
 c:∀n∈L,∃D,dH K (gh n)=some D/\eI K D/\PySem.W.kitOne K (.ref D) (.type "ValueError")=some true/\∀m∈M,∃C,dH K m=some C/\PySem.W.kitOne K (.ref D) (.ref C)=some (gh n==m)
section
variable{a:Expr}
def gIsX(L M:List Str):List D->(D->Prop)->Prop:=λds Q=>match ds with
 |[.exc n,.cls m]=>n∈L/\m∈M/\Q (.bl (gh n==m))
 |[.exc n,.ty T]=>n∈L/\T = "ValueError" /\Q (.bl true)
 |_=>False
theorem gIsX.mono:∀ds P P',(∀d,P d->P' d)->gIsX L M ds P->gIsX L M ds P':=λds P P' hp hg=>by
 unfold gIsX at hg ⊢;split at hg
 .exact⟨hg.1,hg.2.1,hp _ hg.2.2⟩
 .exact⟨hg.1,hg.2.1,hp _ hg.2.2⟩
 .exact hg.elim
theorem kG(hx:XI X.K L M):bZ X (.builtin "isinstance") (gIsX L M):=by
 refine⟨⟨λvs H Q=>∃W ds,WOk W H/\Reps X.K W vs ds/\gIsX L M ds (RQ X.K W H Q),?_,λW H vs ds Q ok r hg=>⟨W,ds,ok,r,hg⟩⟩,gIsX.mono⟩;rintro pins s σ H vs us Q I rv ⟨W,ds,ok,rs,hg⟩;have fin:∀{b:Bool},RQ X.K W H Q (.bl b)->∀tk,EP X pins σ Q (.bool b) { s with toks:=tk }:=λq tk=>⟨.bl _,H,I.tok tk,rfl,q.now ok (.bl _)⟩;have look:∀{x:V} {u:Value} {n:Str},n∈L->Rep X.K W x (.exc n)->RelV x u->∃a D,u=.ref a/\dH X.K (gh n)=some D/\XAt s.heap a D:=λ{x u n} hn r ru=>by
  cases r with
  | @exc a C n dx e0 e1 _=>
   cases ru;obtain⟨hx,_⟩:=(show ObjOk X.prog X.w H s.heap a (fB C a dx) from I.hok a _ (ok.g _ _ e0))
   exact⟨a,C,rfl,e1,let⟨oe,z1,z2,z3,_⟩:=hx;⟨oe,z1,z2,z3⟩⟩
 unfold gIsX at hg;split at hg
 .rename_i n m
  obtain⟨h1,h2,q⟩:=hg;obtain⟨v,w',rfl,r1,r2⟩:=rs.two;obtain⟨u,u2,rfl,ru,ru2⟩:=hW rv;obtain⟨a,D,rfl,hD,hat⟩:=look h1 r1 ru;obtain⟨D',e1,cx,_,hm⟩:=hx.c n h1;rw[hD] at e1;cases e1;obtain⟨C,e2,hk⟩:=hm m h2;cases r2 with
  |cls e3=>
   rw[e3] at e2;cases e2;cases ru2;exact PySem.W.kia_one (xK cx) I.kIn hat hk (λz=>nomatch z) (fin q)
 .rename_i n T
  obtain⟨h1,rfl,q⟩:=hg;obtain⟨v,w',rfl,r1,r2⟩:=rs.two;obtain⟨u,u2,rfl,ru,ru2⟩:=hW rv;obtain⟨a,D,rfl,hD,hat⟩:=look h1 r1 ru;obtain⟨D',e1,cx,hk,_⟩:=hx.c n h1;rw[hD] at e1;cases e1;cases r2;obtain rfl:u2=Value.type "ValueError" :=ru2;exact PySem.W.kia_one (xK cx) I.kIn hat hk (λz=>nomatch z) (fin q)
 .exact hg.elim
theorem Bv{a:Addr}(hm:X.mg x=some (.ref a))(hc:dH X.K x=some a)(hg:Gl X x:=by rfl)(hd:(x==("__debug__" : Str))=false:=by decide):PX X EX (.Name x pos) (wC (.cls x)):=
 ur (v:=.ref a) hm rfl (λW=>.cls hc) hg hd
end
structure uU(X:Cx)(id:String)(g:D->List D->(D->Prop)->Prop):Prop where
 t:∃r,l8 X id r/\∀W H x vs dx ds Q,WOk W H->Rep X.K W x dx->Reps X.K W vs ds->g dx ds (RQ X.K W H Q)->r x vs H Q
 ty:∀dx ds P,g dx ds P->∃xs,dx=.lst xs
 mono:∀x ds P P',(∀d,P d->P' d)->g x ds P->g x ds P'
def wM(g:D->List D->(D->Prop)->Prop)(wo:WE)(t:WA):WE:=λE ρ Q=>wo E ρ λx=>(∃xs,x=.lst xs)/\t E ρ λds=>g x ds Q
section
variable{o:Expr}{id:String}{g:D->List D->(D->Prop)->Prop}
theorem ym(slot:Slot "list" name id)(hty:typeOf (.builtin id)=pure (.type "method_descriptor"))(hm:uU X id g)(ho:PX X EX o wo)(ha:fE X EX (e::es) t)
  (hbase:attributeBase o name X.env (eval o X.env)=eval o X.env:=by rfl)
  (hfew:((backTo cpos (starEach (e::es) X.env)).all (λx=>!x.1) && (backToKw cpos (keywordEach [] X.env)).all (λx=>x.1.isSome)
   && decide ((e::es).length+([]:List Keyword).length+(if([]:List Keyword).isEmpty then 0 else 1)<30))=true:=by rfl)
  (hline:(apos.endLine==cpos.line)=true:=by rfl) (hs:starEach (e::es) X.env=(false,eval e X.env)::starEach es X.env:=by rfl) (hplain:(backTo cpos (starEach es X.env)).any (·.1)=false:=by rfl) :
  PX X EX (.Call (.Attribute o name apos) (e::es) [] cpos) (wM g wo t):=by
 obtain⟨to,po,ko⟩:=ho.t;obtain⟨ta,pa,ka⟩:=ha.t;obtain⟨r,pr,kr⟩:=hm.t;refine⟨⟨_,fW PySem.F.plainAttrs_list slot hty pr po pa hbase hfew hline hs hplain,λW0 H0 W σ H ρ E Q s eo h=>?_⟩,λE ρ P P' hp z=>ho.mono _ _ _ _ (λx ⟨h1,h2⟩=>⟨h1,ha.mono _ _ _ _ (λds hds=>hm.mono _ _ _ _ hp hds) h2⟩) z⟩;refine ko W0 H0 W σ H ρ E _ s eo (ho.mono _ _ _ _ (λd hd v W1 H1 x1 r1=>?_) h);obtain⟨⟨xs,rfl⟩,h2⟩:=hd;cases r1 with
 | @lst a vs ds e1 rr=>
  refine⟨.inl ⟨rfl,vs,SqL.of (x1.ok.g _ _ e1)⟩,?_⟩;refine ka W0 H0 W1 σ H1 ρ E _ (s.step x1) eo (ha.mono _ _ _ _ (λds hds us W2 H2 x2 r2=>?_) h2);exact kr W2 H2 _ us _ ds Q x2.ok (.lst (x2.g _ _ e1) (rr.mono x2.g x2.p)) r2 (hm.mono _ _ _ _ (λd hd=>RQ.ext hd (x1.trans x2)) hds)
end
def sE(bs:List Bool):List D:=bs.map .bl
def uV:D->List D->(D->Prop)->Prop:=λx ds Q=>∃bs b,x=.lst (sE bs)/\ds=[.bl b]/\Q (.int (bs.countP (· == b):Nat))
def uW:D->List D->(D->Prop)->Prop:=λx ds Q=>∃bs b j,x=.lst (sE bs)/\ds=[.bl b]/\bs[j]? = some b/\(∀i<j,bs[i]?≠some b)/\Q (.int (j:Nat))
theorem uX{K:D9}{W:Wd}:∀{bs:List Bool} {vs:List V} {its:List Value},Reps K W vs (sE bs)->Vals vs its->its=bs.map Value.bool
 |[],_,_,.nil,.nil=>rfl
 |b::bs,_,_,.cons r1 r2,.cons v1 v2=>by
  cases r1;obtain rfl:_=Value.bool b:=v1;rw[uX r2 v2];rfl
theorem yn(k:Bool):∀(bs:List Bool),(bs.map Value.bool).countP (isBoolOf k)=bs.countP (· == k)
 |[]=>rfl
 |b::bs=>by rw[dD,List.countP_cons,List.countP_cons,yn k bs];rfl
section
theorem Bw:uU X "list.count" uV:=by
 refine⟨⟨λx vs H Q=>∃W dx ds,WOk W H/\Rep X.K W x dx/\Reps X.K W vs ds/\uV dx ds (RQ X.K W H Q),?_,λW H x vs dx ds Q ok r rs hg=>⟨W,dx,ds,ok,r,rs,hg⟩⟩,λdx ds P ⟨bs,b,h,_⟩=>⟨_,h⟩,λx ds P P' hp ⟨bs,b,h1,h2,h3⟩=>⟨bs,b,h1,h2,hp _ h3⟩⟩;rintro pins s σ H x vs v us Q I rx rv ⟨W,dx,ds,ok,r,rs,bs,b,rfl,rfl,q⟩;obtain⟨y,rfl,ry⟩:=rs.one;cases ry;obtain⟨u,rfl,ru⟩:=bT rv;obtain rfl:u=Value.bool b:=ru;cases r with
 | @lst a xs ds e1 rr=>
  cases rx;obtain⟨its,rvs,pl,hz⟩:=I.list (SqL.of (ok.g _ _ e1));have hits:=uX rr rvs;subst hits;obtain⟨⟨cls,dd,data,sl⟩,ho,hc,n,hd⟩:=pl.isList;simp only at hc hd;subst hc hd;refine call_meets PySem.F.slot_list_count ⟨_,ho,rfl⟩ PySem.F.entry_list_count (PySem.F.args_list_count_2 _ _) (SeqAt.list_countAt a _ n dd sl (.bool b) (isBoolOf b)) ⟨ho,λy hy=>?_,?_⟩
  .have hy':y∈bs.map Value.bool:=by simpa using hy
   obtain⟨c,_,rfl⟩:=Ybu.mp hy';exact PySem.SeqAt.EqAt.bool_bool c b
  .rw[show((bs.map Value.bool).toArray.toList)=bs.map Value.bool from rfl,yn]
   exact⟨.int _,H,I.tok _,⟨_,rfl⟩,q.now ok (.int _)⟩
theorem Bx:uU X "list.index" uW:=by
 refine⟨⟨λx vs H Q=>∃W dx ds,WOk W H/\Rep X.K W x dx/\Reps X.K W vs ds/\uW dx ds (RQ X.K W H Q),?_,λW H x vs dx ds Q ok r rs hg=>⟨W,dx,ds,ok,r,rs,hg⟩⟩,λdx ds P ⟨bs,b,j,h,_⟩=>⟨_,h⟩,λx ds P P' hp ⟨bs,b,j,h1,h2,h3,h4,h5⟩=>⟨bs,b,j,h1,h2,h3,h4,hp _ h5⟩⟩;rintro pins s σ H x vs v us Q I rx rv ⟨W,dx,ds,ok,r,rs,bs,b,j,rfl,rfl,hj,hno,q⟩;obtain⟨y,rfl,ry⟩:=rs.one;cases ry;obtain⟨u,rfl,ru⟩:=bT rv;obtain rfl:u=Value.bool b:=ru;cases r with
 | @lst a xs ds e1 rr=>
  cases rx;obtain⟨its,rvs,pl,hz⟩:=I.list (SqL.of (ok.g _ _ e1));have hits:=uX rr rvs;subst hits;have hlen:xs.length=bs.length:=by rw[rr.length];unfold sE;rw[bJ]
  obtain⟨⟨cls,dd,data,sl⟩,ho,hc,n,hd⟩:=pl.isList;simp only at hc hd;subst hc hd;have hjl:j<bs.length:=(Yaq.mp hj).1;have hsz:((bs.map Value.bool).toArray).size=bs.length:=by simp
  refine call_meets PySem.F.slot_list_index ⟨_,ho,rfl⟩ PySem.F.entry_list_index (PySem.F.args_list_index_2 _ _) (SeqAt.list_indexAt a _ n dd sl (.bool b) (isBoolOf b) j (by rw[hsz];exact hjl) ?_ ?_ ?_) ⟨ho,λy hy=>?_,?_⟩
  .rw[sizeLine_eq] at hz
   have:bs.length<=2^62:=by first|(have:=hz;simp at this;omega)|omega
   have:=hjl;omega
  .have:=(Yaq.mp hj).2
   simp only[List.getElem_toArray,List.getElem_map,isBoolOf];rw[this];simp
  .intro m hm hlt
   have hm':m<bs.length:=by rw[hsz] at hm;exact hm
   have:=hno m hlt;rw[jj hm'] at this;simp only[List.getElem_toArray,List.getElem_map,isBoolOf];exact Bool.eq_false_iff.mpr λz=>this (by rw[beq_iff_eq.mp z])
  .have hy':y∈bs.map Value.bool:=by simpa using hy
   obtain⟨c,_,rfl⟩:=Ybu.mp hy';exact PySem.SeqAt.EqAt.bool_bool c b
  .exact⟨.int _,H,I.tok _,⟨_,rfl⟩,q.now ok (.int _)⟩
end
section
def Zdn:G2:=λx y Q=>match x,y with
 |.tup xs,.int k=>k<1000/\-1000<k/\xs.length*k.toNat<=aM/\Q (.tup (List.replicate k.toNat xs).flatten)
 |_,_=>False
theorem Zdn.mono:∀x y P P',(∀d,P d->P' d)->Zdn x y P->Zdn x y P':=λx y P P' hp hg=>by
 unfold Zdn at hg ⊢;split at hg
 .exact⟨hg.1,hg.2.1,hg.2.2.1,hp _ hg.2.2.2⟩
 .exact hg.elim
theorem By:cX X (binaryOp .Mult) Zdn:=by
 refine⟨⟨_,AF,λW H x y dx dy Q ok rx ry hg=>?_⟩,Zdn.mono⟩;unfold Zdn at hg;split at hg
 .obtain⟨p,vs,rfl,h1,r1⟩:=rx.sqt ok
  cases ry;rename_i xs k;refine⟨p,k,vs,rfl,rfl,h1,by omega,by omega,by rw[r1.length];exact gi hg.2.2.1,λe=>?_,λa ha=>hg.2.2.2.tup ok (xR r1 _) ha⟩;have e':(List.replicate k.toNat xs).flatten=xs:=by
   rcases e with e|e
   .subst e;cases r1;simp
   .subst e;simp
  have q:=hg.2.2.2;rw[e'] at q;exact q.now ok rx
 .exact hg.elim
end
section
def its(js:List Int):List D:=js.map .int
theorem yo{K:D9}{W:Wd}:∀{js:List Int} {vs:List V},Reps K W vs (its js)->vs=js.map V.int
 |[],_,.nil=>rfl
 |j::js,_,.cons r t=>by cases r;rw[yo t];rfl
end
abbrev Zd6:List Str:=["thing"]
def yp:WS:=(aJ (lm (wB gIs (aD (wN 0) (aD (wC (.ty "int")) aC))) (nA (wB gIs (aD (wN 0) (aD (wC (.ty "bool")) aC))))))
abbrev Zdt:List Str:=["thing", "least", "most"]
def yt:WS:=(aJ (lm (wF uN (aD (wN 0) aC)) (Zbm j3 j3 (wN 1) (wN 0) (wN 2))))
abbrev ZcQ:List Str:=["thing", "least", "most"]
def yu:WS:=(aJ (lm (wB gIs (aD (wN 0) (aD (wC (.ty "tuple")) aC))) (wB iO (aD (wL (aLC (iS (wN 0)) 1 [1,2] (gN 0) et (wF mr (aD (wN 0) (aD (wN 1) (aD (wN 2) aC)))))) aC))))
abbrev Zfa:List Str:=["slants"]
def yv:WS:=(aJ (w2 lv (w2 gAdd (wB bK (aD (wN 0) aC)) (wC (D.int (1)))) (wC (D.int (2)))))
abbrev Zcz:List Str:=["thing"]
def yw:WS:=(aV (dW (ie (cB (wT (wF su (aD (wN 0) (aD (wC (.int (-50))) (aD (wC (.int (50))) aC)))))) (wT (w2 (gEq false) (w2 oB (wB bK (aD (wN 0) aC)) (wC (D.int (2)))) (wC (D.int (0)))))) (aJ (wC (D.bl false))) bQ) (aJ (w2 j3 (wF oF (aD (wN 0) aC)) (wC (.int (5))))))
abbrev ZcA:List Str:=["thing"]
def yx:WS:=(dW (cB (wT (wF sw (aD (wN 0) aC)))) (ij (PySem.Str.ofString "NoSlants")) bQ)
abbrev ZbY:List Str:=["slants"]
def yy:WS:=(aV (kB (wF ly (aD (wN 0) aC))) (aJ (w1 gRev (wN 0))))
abbrev Zgq:List Str:=["slants", "size", "whole_size"]
def yz:WS:=(aV (kB (wF ly (aD (wN 0) aC))) (aV (aZ 2 (wF oF (aD (wN 0) aC))) (aV (dW (cB (wT (wF mr (aD (wN 1) (aD (wC (D.int (1))) (aD (wN 2) aC)))))) (ij (PySem.Str.ofString "NoNumber")) bQ) (aJ (cY (wN 0) (gl (w2 kC (wN 2) (wN 1))) (gl (w2 kC (w2 gAdd (wN 2) (wN 1)) (wC (D.int (1))))))))))
local macro_rules | `(tactic| walk_at "wp")=>`(tactic| simp only[aJ,aV,dW,aZ,bQ,kB,eL,dJ,jW,qA,gP,d9,dL,qB,f6,qE,jX,ij,lm,jS,nA,ft,ie,cB,wT,nD,w1,w2,wB,wF,wL,aP,cY,Zbm,aB,bP,aD,aC,aLC,ZbT,et,iS,iL,iT,ls,qw,iZ,i1,i2,isS,isL,si,isB,isI,i7,gl,wN,wC,gN,fY,eA,ii,gI2,gAdd,gMul,gIx,eh,gCut,gRev,bK,jU,kA,gM,gO,fX,qz,gR,jY,ee,fZ,cD,gQ,jZ,j0,cO,pub,dD,oh,cn,fM,pq,fL,List.replicate,pv,pw,pz,pA,Nat.reduceSub,Nat.reduceAdd,gZ,pB,true_and,cH,if_true,if_false,ite_true,ite_false])
local macro_rules | `(tactic| walk_at "go")=>`(tactic| ((try dsimp only at *);(try walk_at "wp");(try dsimp only)))
theorem uY{x:D}{T:String}(h:kd x=true)(hT:T∈se)(q:∀t,sd x=some t->Q (.bl (lq t T))):gIs [x,.ty T] Q:=by
 obtain⟨t,ht⟩:=qF h;exact⟨t,ht,hT,q t ht⟩
theorem Bz:Rd uN yp Zd6:=by
 rintro _ E Q ⟨x,rfl,hk,q⟩;unfold yp;walk_at "wp";refine uY hk (by decide) λt ht=>?_;cases x<;>cases ht<;>first
  |exact q
  |exact uY hk (by decide) λt ht=>by cases ht;exact q
theorem BA:Rd mr yt Zdt:=by
 rintro _ E Q ⟨⟨x,l,m⟩,rfl,hk,q⟩;unfold yt;walk_at "go";refine⟨x,rfl,hk,?_⟩;cases x<;>try exact q
 rename_i i;simp only[yh,isB,if_true,gI2,true_and]
 by_cases h:l<=i
 .simp only[h,decide_true,if_true]
  simpa[bH,h] using q
 .simp only[h,decide_false,if_false,cH]
  simpa[bH,h] using q
theorem BB:Rd su yu ZcQ:=by
 rintro _ E Q ⟨⟨x,l,m⟩,rfl,hk,q⟩;unfold yu;walk_at "go";refine uY hk (by decide) λt ht=>?_;cases x<;>cases ht<;>try exact q
 rename_i xs;obtain⟨hl,hx⟩:=yg hk;show lcW _ _ _ xs _ _ _;refine Bk (f:=λd=>.bl (bH l m d)) (λd hd Q hq=>?_) .un [] (by simp[aM];omega) ?_
 .walk_at "go"
  exact⟨(d,l,m),rfl,hx d hd,hq⟩
 .refine⟨xs.map (bH l m),by simp,?_⟩
  simpa[List.all_map,Function.comp_def,iQ] using q
theorem kH{α:Type}{we:WE}{tail:bV}{Q:List D->Prop}{g f:α->D}:∀(L:List α),(∀a∈L,∀Q:D->Prop,Q (f a)->we No (.d (g a)::tail) Q)->∀(sv:SV) (acc:List D),acc.length+L.length<=aM->Q (acc++L.map f)->lcW (gN 0) et we (L.map g) (sv::tail) acc Q
 |[],_,sv,acc,_,hq=>by simpa[lcW] using hq
 |a::L,h,sv,acc,hl,hq=>by
  rw[dD,lcW];show we No (SV.d (g a)::tail) _;rw[cn] at hl;refine h a (en ..) _ ⟨by omega,kH L (λd hd=>h d (da _ hd)) _ _ ?_ ?_⟩
  .rw[dP,lV];omega
  .rw[lT];exact hq
theorem at0{α:Type}{x:α}{xs:List α}:cA (x::xs) 0=some x:=cg (j:=0) rfl
theorem BC{α:Type}{xs:List α}{i:Int}{x:α}(hi:i=k)(h:xs[k]? = some x):cA xs i=some x:=by rw[hi];exact cg h
theorem yA{α:Type}{xs:List α}{a b:Nat}(h:a<=b)(hb:b<=xs.length):bE xs (some (a:Int)) (some (b:Int))=(xs.drop a).take (b-a):=by
 unfold bE;rw[HT.sIx_nat,HT.sIx_nat,tF hb,tF (fA h hb)]
theorem qH{α:Type}{xs:List α}{i j:Int}{a b:Nat}(hi:i=a)(hj:j=b)(h:a<=b)(hb:b<=xs.length):bE xs (some i) (some j)=(xs.drop a).take (b-a):=by
 rw[hi,hj];exact yA h hb
theorem uZ{α:Type}{xs:List α}{a:Nat}(h:a<=xs.length):bE xs (some (a:Int)) none=xs.drop a:=by
 unfold bE;rw[HT.sIx_nat,HT.sIx_none,tF h,<-lR,List.take_length]
theorem jb{i:Int}{n:Nat}(h:i.natAbs<2^n)(l:n<=8990):Bd i:=cG h (Nat.pow_le_pow_right (by decide) l)
theorem BD:Rd oF yv Zfa:=by
 rintro _ E Q ⟨x,rfl,hl,q⟩;unfold yv;walk_at "go";refine⟨⟨by decide,jb (n:=2) (by decide) (by omega)⟩,?_⟩;rw[xy _ (by decide)];exact q
theorem BE:Rd sw yw Zcz:=by
 rintro _ E Q ⟨x,rfl,hk,q⟩;unfold yw;walk_at "go";refine Bp hk ?_;walk_at "go";cases ha:iQ (-50) 50 x with
 |false=>
  have:dC x=false:=by
   cases x<;>try rfl
   simp only[iQ] at ha;simp only[dC,ha,o9]
  rw[this] at q;simpa using q
 |true=>
  cases x<;>try (cases ha;done)
  rename_i xs;obtain⟨hl,hx⟩:=yg hk;walk_at "go";simp only[dQ,cH,if_false];refine⟨by decide,?_⟩;simp only[iQ] at ha;simp only[dC,ha,Bool.true_and] at q;rw[Int.fmod_eq_emod_of_nonneg _ (by decide)]
  by_cases h:xs.length%2=1
  .rw[if_neg (by simp;omega)]
   walk_at "go";refine yi hl ?_;walk_at "go";rw[Ec h,Bool.true_and] at q;have e:decide (((xs.length:Int)+1)/2<=5)=decide (xs.length<=9):=by
    rw[decide_eq_decide];omega
   rw[e];exact q
  .rw[if_pos (by simp;omega)]
   rw[Ei h,o9] at q;exact q
theorem BF:Rd ly yx ZcA:=by
 rintro _ E Q ⟨x,rfl,h,q⟩;unfold yx;walk_at "go";refine Br h ?_;walk_at "go";unfold kE at q;cases e:dC x with
 |false=>rw[e] at q;exact q
 |true=>rw[e] at q;exact q
theorem yB{x:D}(h:kd x=true)(hb:dC x=false->E "NoSlants")(hg:∀s n,x=aS s->IsSl s n->Q .non):ly [x] E Q:=by
 cases e:dC x with
 |false=>exact uR h e (hb e)
 |true=>
  obtain⟨s,n,rfl,hs⟩:=uP e;exact uQ hs (hg s n rfl hs)
theorem yC{x:D}(e:dC x=false)(q:exQ E Q (kE x v)):E "NoSlants" :=by
 rw[yk e] at q;exact q
theorem yD{n:Nat}(h:IsSl s n)(q:exQ E Q (kE (aS s) v)):exQ E Q v:=by
 rw[sD h] at q;exact q
theorem BG(s:List Int)(n:Nat):(tbl s n).length=n:=by simp[tbl]
theorem BH:Rd sx yy ZbY:=by
 rintro _ E Q ⟨x,rfl,hk,q⟩;unfold yy;walk_at "go";refine yB hk (λe=>yC e q) λs n e h=>?_;subst e;replace q:Q (aS s.reverse):=by have:=yD h q;rw[qG] at this;exact this
 unfold aS;walk_at "go";rw[<-rJ];exact q
theorem BI:Rd uO yz Zgq:=by
 rintro _ E Q ⟨⟨x,k⟩,rfl,⟨hk,hk2⟩,q⟩;dsimp only at hk hk2 q;unfold yz;walk_at "go";refine yB hk (λe=>yC e q) λs n e h=>?_;subst e;replace q:=yD h q;rw[h.sN,qG] at q;have hl:=h.len;refine Bq h ?_;walk_at "go";refine sC hk2 ?_;walk_at "go";cases e:bH 1 (n:Int) k with
 |false=>
  rw[e] at q;exact q
 |true=>
  rw[e] at q;have q:Q (aS (sB s n (oG k).toNat)):=q;obtain⟨i,rfl⟩:∃i,k=.int i:=by cases k<;>first|exact⟨_,rfl⟩|cases e
  simp only[bH,cy,Ee] at e;obtain⟨k,rfl⟩:∃k:Nat,i=k:=⟨i.toNat,by omega⟩
  simp only[dQ,cH,if_false];unfold aS;walk_at "go";rw[qH (a:=n-k) (b:=n+k-1) (by omega) (by omega) (by omega) (by rw[bJ];omega),show n+k-1-(n-k)=2*k-1 by omega,<-pC,<-pD];exact q
def sF:bW:=fnS (λx:List Int×Nat=>[.scr (x.1.map .int),.int x.2]) (λ_=>True) λx=>.int (x.1.getD x.2 0)
def qI:bW:=rlS (λx:Int=>[.int x]) (λ_=>True) λ_ d=>∃j:Int,d=.int j
def qJ:bW:=fnS (λx:Int=>[.int x]) (λ_=>True) λ_=>.pen
def ik:bW:=rlS (λm:Nat=>[.pen,.int m]) (λm=>0<m/\m<2^30) λm d=>∃k:Nat,d=.int k/\k<m
section
variable{x:D}{l m a b:Int}{p:Rat}{n:Nat}
theorem BJ{xs:List Int}{i:Nat}(q:Q (.int (xs.getD i 0))):sF [.scr (xs.map .int),.int i] E Q:=⟨(xs,i),rfl,trivial,q⟩
theorem Zd(q:∀j:Int,Q (.int j)):qI [.int a] E Q:=⟨a,rfl,trivial,λd ⟨j,hd⟩=>by rw[hd];exact q j⟩
theorem BK(q:Q .pen):qJ [.int a] E Q:=⟨a,rfl,trivial,q⟩
theorem kI(h:0<n)(h':n<2^30)(q:∀k:Nat,k<n->Q (.int k)):ik [.pen,.int n] E Q:=⟨n,rfl,⟨h,h'⟩,λd ⟨k,hd,hk⟩=>by rw[hd];exact q k hk⟩
end
abbrev Zca:List Str:=["_law_script", "_law_k"]
def yE:WS:=(aV (dW (wT (w2 qD (wN 1) (wB bK (aD (wN 0) aC)))) (aJ (w2 gIx (wN 0) (wN 1))) bQ) (aJ (wC (D.int (0)))))
abbrev Zdw:List Str:=["_law_seed"]
def yF:WS:=(aV (aZ 0 (w2 oB (w2 gAdd (wN 0) (wC (D.int (7919)))) (wC (D.int (2147483647))))) (aJ (w2 oB (w2 gAdd (w2 gAdd (w2 gMul (wN 0) (wN 0)) (w2 gMul (wC (D.int (48271))) (wN 0))) (wC (D.int (12345)))) (wC (D.int (2147483629))))))
abbrev ZcB:List Str:=["_law_cell", "_law_left"]
def yG:WS:=(aV (aZ 1 (wB gO (aD (wN 0) (aD (w2 kC (wC (D.int (0))) (wN 0)) aC)))) (aJ (gR (bP (aD (wN 1) (aD (wB fX (aD (w2 uI (wN 1) (w2 oC (wC (D.int (10))) (wC (D.int (18))))) aC)) (aD (w2 oB (wN 1) (wC (D.int (1000003)))) aC)))))))
abbrev Zdx:List Str:=["_law_pen", "_law_many", "_law_found"]
def yH:WS:=(aV (dW (wT (w2 (gEq false) (w2 eh (wN 0) (wC (D.int (1)))) (wC (D.int (1))))) (aV (aZ 2 (w2 oB (w2 eh (wN 0) (wC (D.int (0)))) (wN 1))) (aV (f6 0 (w2 lv (w2 eh (wN 0) (wC (D.int (0)))) (wN 1))) (aJ (wN 2)))) bQ) (aV (f6 0 (wF qI (aD (w2 gAdd (wF qI (aD (w2 eh (wN 0) (wC (D.int (2)))) aC)) (wC (D.int (7)))) aC))) (aJ (w2 oB (w2 lv (w2 eh (wN 0) (wC (D.int (2)))) (wC (D.int (64)))) (wN 1)))))
theorem BL:Rd sF yE Zca:=by
 rintro _ E Q ⟨⟨xs,i⟩,rfl,_,q⟩;unfold yE;walk_at "go"
 by_cases h:i<xs.length
 .rw[if_pos (by simp[h])]
  refine⟨.int (xs.getD i 0),BC rfl ?_,q⟩;rw[e7,pj,jj h];rfl
 .rw[if_neg (by simp;omega)]
  rw[pj,e8 (by omega)] at q;exact q
theorem BM:Rd qI yF Zdw:=by
 rintro _ E Q ⟨x,rfl,_,q⟩;unfold yF;walk_at "go";have h1:=Int.fmod_nonneg_of_pos (x+7919) (show(0:Int)<2147483647 by decide);have h2:=Int.fmod_lt_of_pos (x+7919) (show(0:Int)<2147483647 by decide);have b:Bd ((x+7919).fmod 2147483647):=jb (n:=32) (by omega) (by omega);exact⟨by decide,⟨b,b⟩,⟨jb (n:=32) (by decide) (by omega),b⟩,by decide,q _ ⟨_,rfl⟩⟩
theorem BN:Rd qJ yG ZcB:=by
 rintro _ E Q ⟨x,rfl,_,q⟩;unfold yG;walk_at "go";exact⟨⟨by decide,by decide,by decide⟩,by decide,by decide,⟨_,_,_,rfl⟩,q⟩
theorem BO:Rd ik yH Zdx:=by
 rintro _ E Q ⟨m,rfl,⟨h0,h1⟩,q⟩;have hb:Bd (m:Int):=jb (n:=30) (by omega) (by omega);have fin:∀x:Int,Q (.int (x.fmod m)):=λx=>by
  have h1:=Int.fmod_nonneg_of_pos x (show(0:Int)<m by omega);have h2:=Int.fmod_lt_of_pos x (show(0:Int)<m by omega);exact q _ ⟨(x.fmod m).toNat,by rw[Int.toNat_of_nonneg h1],by omega⟩
 unfold yH;walk_at "go";refine⟨by simp,λj=>?_⟩;walk_at "go";split
 .refine⟨by simp,λi=>⟨by omega,?_⟩⟩
  walk_at "go";exact⟨by simp,λi'=>⟨⟨by omega,hb⟩,fin i⟩⟩
 .refine⟨by simp,λk=>Zd λk1=>?_⟩
  walk_at "go";refine Zd λk2=>?_;walk_at "go";exact⟨by simp,λk3=>⟨⟨by decide,jb (n:=7) (by decide) (by omega)⟩,by omega,fin _⟩⟩
local macro_rules | `(tactic| walk_at "w1")=>`(tactic| simp only[aJ,dW,aZ,bQ,kB,eL,dJ,jW,qA,gP,d9,dL,qB,f6,qE,jX,ij,lm,jS,nA,ft,ie,cB,wT,nD,w1,w2,wB,wF,wL,aP,cY,Zbm,aB,bP,aD,aC,aLC,ZbT,et,iS,iL,iT,ls,qw,iZ,i1,i2,isS,isL,si,isB,isI,i7,gl,wN,wC,gN,fY,eA,ii,gI2,gAdd,gMul,gIx,eh,gCut,gRev,bK,jU,kA,gM,gO,fX,qz,gR,jY,ee,fZ,cD,gQ,jZ,j0,cO,pub,dD,oh,cn,fM,pq,fL,List.replicate,pv,pw,pz,pA,Nat.reduceSub,Nat.reduceAdd,gZ,pB,true_and,cH,if_true,if_false,ite_true,ite_false])
local macro_rules | `(tactic| walk_at "st")=>`(tactic| ((try dsimp only at *);(try walk_at "w1");(try dsimp only)))
theorem yI{z':WS}{N:Nds}(h:z E { N with nx:=z' E N } ρ):aV z z' E N ρ:=h
abbrev LX:List Str:=["NoSlants", "NoRow", "NoNumber", "NoLine", "NotEven", "NotFull"]
abbrev MX:List Str:=["NoSlants", "NoRow", "NoNumber", "NoLine", "NotEven", "NotFull", "NotStrong", "NoText", "TooGreat"]
mutual
def yJ(m:Nat):D->Bool
 |.int i=>decide (i.natAbs<2^m)
 |.tup xs=>nJ m xs
 |.lst xs=>nJ m xs
 |_=>true
def nJ(m:Nat):List D->Bool
 |[]=>true
 |x::r=>yJ m x&&nJ m r
end
theorem IsSl.rev{n:Nat}(h:IsSl s n):IsSl s.reverse n:=⟨by rw[tD];exact h.len,h.n1,h.n5,λx hx=>h.b x (List.mem_reverse.mp hx)⟩
section
variable{QI:Int->Prop}{QB:Bool->Prop}{i j:Int}{b:Bool}{n:Nat}{o o':Option Int}
theorem u5:isB QB (.bl b)=QB b:=rfl
theorem u6:isI QI (.int i)=QI i:=rfl
theorem u7:isL QL (.lst xs)=QL xs:=rfl
theorem u8:isL QL (cF s)=QL (s.map .int):=rfl
theorem u9:isL QL (j5 s n)=QL ((tbl s n).map cF):=rfl
theorem va:si QL (.tup xs)=QL xs:=rfl
theorem vb:isS QL (.lst xs)=QL xs:=rfl
theorem vc:isS QL (.tup xs)=QL xs:=rfl
theorem vd:isS QL (iP r)=QL (r.map oE):=rfl
theorem ve:isS QL (aS s)=QL (s.map .int):=rfl
theorem vf:isS QL (cF s)=QL (s.map .int):=rfl
theorem vg:isS QL (j5 s n)=QL ((tbl s n).map cF):=rfl
theorem vh:bK [.tup xs] Q=Q (.int xs.length):=rfl
theorem vj:bK [.lst xs] Q=Q (.int xs.length):=rfl
theorem vk:bK [.scr xs] Q=Q (.int xs.length):=rfl
theorem vm:bK [iP r] Q=Q (.int r.length):=by show Q (.int ((r.map oE).length:Int))=_;rw[bJ]
theorem vn:bK [aS s] Q=Q (.int s.length):=by show Q (.int ((s.map D.int).length:Int))=_;rw[bJ]
theorem vo:bK [cF s] Q=Q (.int s.length):=by show Q (.int ((s.map D.int).length:Int))=_;rw[bJ]
theorem vp:bK [j5 s n] Q=Q (.int n):=by show Q (.int (((tbl s n).map cF).length:Int))=_;rw[bJ,BG]
theorem vq:gIx (.tup xs) (.int i) Q = ∃d,cA xs i=some d/\Q d:=rfl
theorem vt:gIx (.lst xs) (.int i) Q = ∃d,cA xs i=some d/\Q d:=rfl
theorem vv:gIx (.scr xs) (.int i) Q = ∃d,cA xs i=some d/\Q d:=rfl
theorem vw:gIx (iP r) (.int i) Q = ∃d,cA (r.map oE) i=some d/\Q d:=rfl
theorem vx:gIx (aS s) (.int i) Q = ∃d,cA (s.map .int) i=some d/\Q d:=rfl
theorem vy:gIx (cF s) (.int i) Q = ∃d,cA (s.map .int) i=some d/\Q d:=rfl
theorem vz:gIx (j5 s n) (.int i) Q = ∃d,cA ((tbl s n).map cF) i=some d/\Q d:=rfl
theorem vA:gCut (.tup xs) o o' Q=Q (.tup (bE xs o o')):=rfl
theorem vB:gCut (.lst xs) o o' Q=Q (.lst (bE xs o o')):=rfl
theorem vC:gCut (.scr xs) o o' Q=Q (.lst (bE xs o o')):=rfl
theorem vD:gCut (iP r) o o' Q=Q (.tup (bE (r.map oE) o o')):=rfl
theorem vE:gCut (aS s) o o' Q=Q (.tup (bE (s.map .int) o o')):=rfl
theorem vF:gCut (cF s) o o' Q=Q (.lst (bE (s.map .int) o o')):=rfl
theorem vG:gCut (j5 s n) o o' Q=Q (.lst (bE ((tbl s n).map cF) o o')):=rfl
theorem vH:gRev (.tup xs) Q=Q (.tup xs.reverse):=rfl
theorem vI:gRev (.lst xs) Q=Q (.lst xs.reverse):=rfl
theorem vJ:gRev (iP r) Q=Q (iP r.reverse):=by show Q (.tup (r.map oE).reverse)=_;rw[<-rJ];rfl
theorem vK:gRev (aS s) Q=Q (aS s.reverse):=by show Q (.tup (s.map D.int).reverse)=_;rw[<-rJ];rfl
theorem vL:gRev (cF s) Q=Q (cF s.reverse):=by show Q (.lst (s.map D.int).reverse)=_;rw[<-rJ];rfl
theorem vM{α:Type}:jU (α:=α) [.tup xs] QL=QL xs:=rfl
theorem vN{α:Type}:jU (α:=α) [.lst xs] QL=QL xs:=rfl
theorem vO{α:Type}:jU (α:=α) [aS s] QL=QL (s.map .int):=rfl
theorem vP:kA [.tup xs] Q=Q (.tup xs):=rfl
theorem vQ:kA [.lst xs] Q=Q (.tup xs):=rfl
theorem vR:kA [cF s] Q=Q (aS s):=rfl
theorem vS:gAdd (.int i) (.int j) Q=Q (.int (i+j)):=rfl
theorem vT:gAdd (.lst xs) (.lst ys) Q=(xs.length+ys.length<=aM/\Q (.lst (xs++ys))):=rfl
theorem vU:gAdd (.tup xs) (.tup ys) Q=(xs.length+ys.length<=aM/\Q (.tup (xs++ys))):=rfl
theorem vV:gMul (.int i) (.int j) Q=(uy i j/\Q (.int (i*j))):=rfl
theorem vW:gMul (.lst xs) (.int j) Q=(j<1000/\-1000<j/\xs.length*j.toNat<=aM/\Q (.lst (List.replicate j.toNat xs).flatten)):=rfl
theorem nK{C:Int->Int->Prop}{kd:Int->Int->D}:gI2 C kd (.int i) (.int j) Q=(C i j/\Q (kd i j)):=rfl
theorem vX:gM [.int i] Q=Q (.int (if i<0 then -i else i)):=rfl
theorem vY:gO [.int i,.int j] Q=Q (.int (if j>i then j else i)):=rfl
theorem vZ:fX [.bl b] Q=Q (.int (if b then 1 else 0)):=rfl
theorem v4:fX [.int i] Q=Q (.int i):=rfl
theorem v6:iO [.lst xs] Q = ∃bs:List Bool,xs=bs.map D.bl/\Q (.bl (bs.all id)):=rfl
theorem nM:i1 QL [.int j]=(-10000<=j/\j<10000/\QL (rng 0 j.toNat)):=rfl
theorem nN:i2 QL [.int i,.int j]=((-10000<=i/\i<10000/\-10000<=j/\j<10000)/\QL (rng i (j-i).toNat)):=rfl
end
local macro_rules | `(tactic| walk_at "w1")=>`(tactic| simp only [aJ,dW,aZ,bQ,kB,eL,dJ,jW,qA,gP,d9,dL,qB,f6,qE,jX,ij,nI,wM,Zdn,lm,jS,nA,ft,ie,cB,wT,nD,w1,w2,wB,wF,wL,aP,cY,Zbm,aB,bP,aD,aC,aLC,ZbT,et,iS,iL,iT,ls,qw,iZ,i7,gl,wN,wC,gN,fY,eA,ii,eh,qz,gR,jY,ee,fZ,cD,gQ,jZ,j0,cO,pub,dD,oh,cn,fM,pq,fL,List.replicate,pv,pw,pz,pA,Nat.reduceSub,Nat.reduceAdd,gZ,pB,true_and,cH,if_true,if_false,ite_true,ite_false,rC,dQ,i4,
 u5,u6,u7,u8,u9,va,vb,vc,vd,ve,vf,vg,vh,vj,vk,vm,vn,vo,vp,vq,vt,vv,vw,vx,vy,vz,vA,vB,vC,vD,vE,vF,vG,vH,vI,vJ,vK,vL,vM,vN,vO,vP,vQ,vR,vS,vT,vU,vV,vW,nK,vX,vY,vZ,v4,v6,nM,nN])
local macro_rules | `(tactic| walk_at "nx")=>`(tactic| ((try dsimp only);(refine yI ?_);walk_at "st"))
theorem cP{n:Nat}(h:n<=5000):n<=aM:=by unfold aM;omega
def gd(d:D):Prop:=kd d=true/\yJ 72 d=true
theorem BP:bootBuiltins "ValueError" = some (.type "ValueError"):=by decide +kernel
theorem clsX_of{D:Addr}(g:PySem.W.findIn K (.ref D) "__getattribute__" = some (some (.builtin "BaseException.__getattribute__")))(gn:PySem.W.findIn K (.ref D) "__getattr__" = some none)(be:PySem.W.mroIn K D (.type "BaseException")=some true)(h:PySem.W.hasDictIn K D=true)(a:PySem.W.findIn K (.ref D) "__class__" = some (some (.builtin "object.__class__")))(gt:PySem.W.specialIn K (.builtin "object.__class__") "__get__" = some (some (.builtin "getset_descriptor.__get__")))(tk:PySem.W.takesIn K (.builtin "object.__class__")=some true)(ob:PySem.W.mroIn K D (.type "object")=some true):eI K D:=
 ⟨g,gn,be,by obtain⟨cd,hc,_⟩:=PySem.W.any_some h;rw[hc];rfl,a,gt,tk,ob⟩
section
def gNeS:G2:=λx y Q=>∃a b,x=.str a/\y=.str b/\Q (.bl (!(a==b)))
theorem gNeS.mono:∀x y P P',(∀d,P d->P' d)->gNeS x y P->gNeS x y P':=λx y P P' hp ⟨a,b,h1,h2,h3⟩=>⟨a,b,h1,h2,hp _ h3⟩
theorem qK:cX X (compareOp .NotEq) gNeS:=by
 refine⟨⟨_,pP,λW H x y dx dy Q ok rx ry hg=>?_⟩,gNeS.mono⟩;obtain⟨a,b,rfl,rfl,q⟩:=hg;cases rx;cases ry;have e:decide (V.str a=V.str b)=(a==b):=by rw[jg];simp
 rw[<-e] at q;exact⟨rfl,q.now ok (.bl _)⟩
end
theorem BQ{i:Int}(hk:0<k)(h:i.natAbs<2^k):i.natAbs.log2<k:=by
 by_cases z:i.natAbs=0
 .rw[z];simpa using hk
 .exact(Nat.log2_lt z).mpr h
section
variable{elt:Expr}{g:WG}
def yK:D->Bool
 |.non=>true
 |.bl _=>true
 |_=>false
def v7:D->D->Bool
 |.non,.non=>true
 |.bl a,.bl b=>a==b
 |_,_=>false
def gIsC(neg:Bool):G2:=λx y Q=>yK y=true/\Q (.bl (if neg then !v7 x y else v7 x y))
theorem gIsC.mono:∀x y P P',(∀d,P d->P' d)->gIsC neg x y P->gIsC neg x y P':=λ_ _ _ _ hp h=>⟨h.1,hp _ h.2⟩
theorem yL{W:Wd}{x y:V}{v u:Value}{dx dy:D}(r1:Rep K W x dx)(r2:Rep K W y dy)(rx:RelV x v)(ry:RelV y u)(h:yK dy=true):plainIs v u=true/\(v==u)=v7 dx dy:=by
  cases r2<;>first
    |(cases h;done)
    | (cases ry;cases r1<;>first
        |(cases rx;first|exact⟨rfl,rfl⟩|(rename_i a b;cases a<;>cases b<;>exact⟨rfl,rfl⟩))
        |(obtain⟨t,rfl⟩:=rx;exact⟨rfl,rfl⟩))
theorem v8:cX X (compareOp .Is) (gIsC false):=by
 refine⟨⟨λx y H Q=>∃W dx dy,WOk W H/\Rep X.K W x dx/\Rep X.K W y dy/\gIsC false dx dy (RQ X.K W H Q),?_,λW H x y dx dy Q ok rx ry hg=>⟨W,dx,dy,ok,rx,ry,hg⟩⟩,gIsC.mono⟩;rintro pins s σ H x y v u Q I rx ry ⟨W,dx,dy,ok,r1,r2,h1,h2⟩;obtain⟨p,e⟩:=yL r1 r2 rx ry h1;exact wpAny_is_plain p (aK I (h2.now ok (.bl _)) (by rw[e];rfl))
theorem BR:cX X (compareOp .IsNot) (gIsC true):=by
 refine⟨⟨λx y H Q=>∃W dx dy,WOk W H/\Rep X.K W x dx/\Rep X.K W y dy/\gIsC true dx dy (RQ X.K W H Q),?_,λW H x y dx dy Q ok rx ry hg=>⟨W,dx,dy,ok,rx,ry,hg⟩⟩,gIsC.mono⟩;rintro pins s σ H x y v u Q I rx ry ⟨W,dx,dy,ok,r1,r2,h1,h2⟩;obtain⟨p,e⟩:=yL r1 r2 rx ry h1;exact wpAny_isNot_plain p (aK I (h2.now ok (.bl _)) (by rw[e];rfl))
end
mutual
def bx(b:Nat):D->Nat->Bool
 |.non,_=>true
 |.bl _,_=>true
 |.int i,_=>decide (i.natAbs<2^90)
 |.str x,_=>decide (x.cps.size<=4)&&x.cps.toList.all λc=>decide (c<16^8)
 |.dic,_=>true
 |.tup xs,n=>decide (0<n)&&decide (xs.length<=b)&&v9 b xs (n-1)
 |.lst xs,n=>decide (0<n)&&decide (xs.length<=b)&&v9 b xs (n-1)
 |.pen,_=>false
 |.cls _,_=>false
 |.exc _,_=>false
 |.ty _,_=>false
 |.pl _ _,_=>false
 |.scr _,_=>false
def v9(b:Nat):List D->Nat->Bool
 |[],_=>true
 |x::r,n=>bx b x n&&v9 b r n
end
section
variable{ps:Pos}{a b:Expr}{w:WE}
def qL:Nat->List D->List D
 |_,[]=>[]
 |i,x::xs=>.tup [.int i,x]::qL (i+1) xs
end
def yM(f l:List Rat)(i j k:Nat):Rat:=f.getD (i-k) 0*l.getD (f.length-1-j+k) 0
def BS(f l:List Rat)(i j k:Nat):Rat:=l.getD (i-k-1) 0*f.getD (f.length-j+k) 0
def sp(f l:List Rat)(i j:Nat):Nat->Rat
 |0=>0
 |k+1=>if k<min i j then sp f l i j k+yM f l i j k-BS f l i j k else sp f l i j k+yM f l i j k
section
variable{c:Expr}
def f7(Ss:List (Str×bW))(wc:WE)(t:WA):WE:=λE ρ Q=>wc E ρ λd=>∃x∈Ss,d=.cls x.1/\t E ρ λds=>x.2 ds E Q
def nO(X:Cx)(j:Nat)(x:Str×bW):Prop:=∃a k ps,X.mg x.1=some (.ref a)/\dH X.K x.1=some a/\k<=j/\Fp X.prog X.w X.K X.mg X.base k x.1 ps x.2
theorem yN(hr:Room j X.A)(hx:aQ (bD X.prog X.w) X EX)(hG:∀x∈Ss,nO X j x)(hc:PX X EX c wc)(ha:fE X EX (e::es) t)
  (hcall:eval (.Call c (e::es) [] pos) X.env=(do callWith pos (<-eval c X.env) [] (backTo pos (starEach (e::es) X.env)) (backToKw pos (keywordEach [] X.env))):=by rfl)
  (he:starEach (e::es) X.env=(false,eval e X.env)::starEach es X.env:=by rfl) (hpl:(backTo pos (starEach es X.env)).any (·.1)=false:=by rfl) :
  PX X EX (.Call c (e::es) [] pos) (f7 Ss wc t):=by
 obtain⟨tc,pc,kc⟩:=hc.t;obtain⟨ta,pa,ka⟩:=ha.t;refine⟨⟨_,AH hx pc pa hcall he hpl,λW0 H0 W σ H ρ E Q s eo h=>?_⟩,λE ρ P P' hp z=>hc.mono _ _ _ _ (λd ⟨x,hm,ed,q⟩=>⟨x,hm,ed,ha.mono _ _ _ _ (λds hds=>?_) q⟩) z⟩
 .refine kc W0 H0 W σ H ρ E _ s eo (hc.mono _ _ _ _ (λd ⟨x,hm,ed,q⟩ v W1 H1 x1 r1=>?_) h)
  subst ed;obtain⟨a,k,ps,hma,hca,hk,⟨f,fd,F,hmf,kp,hb⟩,mono⟩:=hG x hm;cases r1 with
  |cls ec=>
   rw[hca] at ec;cases ec;rw[hma] at hmf;cases hmf;refine⟨_,k,fd,ps,_,rfl,F,hr.mono hk,kp,hb,ka W0 H0 W1 σ H1 ρ E _ (s.step x1) eo (ha.mono _ _ _ _ (λds hds vs W2 H2 x2 r2=>?_) q)⟩;refine⟨ds,W2,x2.ok,r2,mono _ _ _ _ _ (λex hex W' H' cls dx x' r'=>?_) (λd hd=>RQ.ext hd (x1.trans x2)) hds⟩;exact eo ex W' H' cls dx hex (s.ext.trans ((x1.trans x2).trans x')) r'
 .obtain⟨a,k,ps,_,_,_,G⟩:=hG x hm
  exact G.mono _ _ _ _ _ (λ_ q=>q) hp hds
end
theorem yO:∀x∈([]:List (Str×bW)),nO X j x:=λ_ h=>nomatch h
theorem BT{a:Str×bW}{l:List (Str×bW)}(h:nO X j a)(t:∀x∈l,nO X j x):∀x∈a::l,nO X j x:=λx hx=>(Yan.mp hx).elim (λe=>e▸h) (t x)
section
def gEqS:G2:=λx y Q=>∃a b,x=.str a/\y=.str b/\Q (.bl (a==b))
theorem gEqS.mono:∀x y P P',(∀d,P d->P' d)->gEqS x y P->gEqS x y P':=λx y P P' hp ⟨a,b,h1,h2,h3⟩=>⟨a,b,h1,h2,hp _ h3⟩
theorem yP:cX X (compareOp .Eq) gEqS:=by
 refine⟨⟨_,pO,λW H x y dx dy Q ok rx ry hg=>?_⟩,gEqS.mono⟩;obtain⟨a,b,rfl,rfl,q⟩:=hg;cases rx;cases ry;have e:decide (V.str a=V.str b)=(a==b):=by rw[jg];simp
 rw[<-e] at q;exact⟨rfl,q.now ok (.bl _)⟩
end
def bC(K:D9)(mg:Str->Option Value)(x:Str)(st:Stmt):Prop:=∃f fd,Fun K x x st f fd/\mg x=some (.ref f)/\dH K x=some f
def CC(K:D9)(mg:Str->Option Value)(x:Str):Prop:=∃a,mg x=some (.ref a)/\dH K x=some a
def CI(mg:Str->Option Value)(x:Str)(i:Int):Prop:=∃t,mg x=some (.int i t)
def CT(K:D9)(mg:Str->Option Value)(x:Str)(ds:List D):Prop:=∃a vs,mg x=some (.ref a)/\KT K a vs/\∀W,Reps K W vs ds
section
theorem mkF(X:K.In h)(G:h.Ns mainGlobals mg){st:Stmt}{f:Addr}{oc:Value}{kV pm ct:Value}(a:PySem.W.nsIn K mainGlobals x=some (some (.ref f)))(l:K.lookup f=some ⟨oc,od,.func (PySem.W.fnOf x x (aO st) (aH st) (aA st) .none kV doc pm an cdv ct),osl⟩)
  (c:PySem.W.codeIn K cdv x=true) (k:PySem.W.keepIn K (.ref f)=true):bC K mg x st:=⟨f,_,dk l c k,PySem.W.mg_of X G a,kF a⟩
theorem mkC(X:K.In h)(G:h.Ns mainGlobals mg){f:Addr}(a:PySem.W.nsIn K mainGlobals x=some (some (.ref f))):CC K mg x:=⟨f,PySem.W.mg_of X G a,kF a⟩
theorem mkI(X:K.In h)(G:h.Ns mainGlobals mg){i:Int}{t:Tok}(a:PySem.W.nsIn K mainGlobals x=some (some (.int i t))):CI mg x i:=⟨t,PySem.W.mg_of X G a⟩
theorem mkT(X:K.In h)(G:h.Ns mainGlobals mg){f:Addr}{d:Option Addr}{n:Nat}{i j:Int}{t u:Tok}(a:PySem.W.nsIn K mainGlobals x=some (some (.ref f)))(l:K.lookup f=some ⟨.type "tuple",d,.seq #[.int i t,.int j u] n,sl⟩):CT K mg x [.int i,.int j]:=
 ⟨f,[.int i,.int j],PySem.W.mg_of X G a,⟨_,_,_,l,rfl,rfl,(by show 2<=sizeLine;decide),.cons ⟨_,rfl⟩ (.cons ⟨_,rfl⟩ .nil)⟩,λ_=>.cons (.int _) (.cons (.int _) .nil)⟩
theorem mkX(X:K.In h)(G:h.Ns mainGlobals mg){f:Addr}(a:PySem.W.nsIn K mainGlobals x=some (some (.ref f)))(e:PySem.W.excIn K f [.type "ValueError",.type "Exception",.type "BaseException",.type "object"] "ValueError.__new__" = true):XC K mg x:=
 ⟨f,_,_,_,kF a,PySem.W.mg_of X G a,e,PySem.F.excBase_ValueError⟩
theorem mkH(X:K.In h)(G:h.Ns mainGlobals mg){f:Addr}(a:PySem.W.nsIn K mainGlobals x=some (some (.ref f)))(e:PySem.W.excIn K f [.type "ValueError",.type "Exception",.type "BaseException",.type "object"] "ValueError.__new__" = true)
  (m:∀n∈L,∃D,PySem.W.nsIn K mainGlobals (gh n)=some (some (.ref D))/\PySem.W.mroIn K D (.ref f)=some true):XT K mg x L:=
 ⟨f,_,_,PySem.W.mg_of X G a,e,by decide +kernel,λn hn D hD=>by
  obtain⟨D',e1,e2⟩:=m n hn;rw[kF e1] at hD;cases hD;exact e2⟩
end
section
variable{w:World}{base:Heap}{st:Stmt}
universe u
theorem sG{α:Sort u}{F G:List Value->α}(h:∀a,F [a]=G [a]):∀us:List Value,us.length=1->F us=G us
 |[_],_=>h _
theorem sH{α:Sort u}{F G:List Value->α}(h:∀a b,F [a,b]=G [a,b]):∀us:List Value,us.length=2->F us=G us
 |[_,_],_=>h _ _
theorem sJ{α:Sort u}{F G:List Value->α}(h:∀a b c,F [a,b,c]=G [a,b,c]):∀us:List Value,us.length=3->F us=G us
 |[_,_,_],_=>h _ _ _
theorem sK{α:Sort u}{F G:List Value->α}(h:∀a b c d,F [a,b,c,d]=G [a,b,c,d]):∀us:List Value,us.length=4->F us=G us
 |[_,_,_,_],_=>h _ _ _ _
theorem dX(rd:Rd S z N)(h:bC K mg x st)
  (hbody:∀ {f:Addr} {cdv:Value} {A:Around} {outer:List Env} {s:Shared} {H:Hp} {E:XK} (sc:N.Nodup),Room k (A.deeper (envOfC x (aA st) s.heap.objs.size f cdv))->
   aQ (bD P w) (bB (bD P w) P w K mg base N x (aA st) f cdv A outer s H E) E->eG (bB (bD P w) P w K mg base N x (aA st) f cdv A outer s H E) E->
   ia (bB (bD P w) P w K mg base N x (aA st) f cdv A outer s H E) E (aH st) z)
  (sc:aT N ps (aA st):=by exact⟨rfl,rfl,rfl,by decide +kernel,rfl,by decide +kernel,by decide +kernel⟩)
  (len:∀ds E Q,S ds E Q->ds.length=ps.length:=by first|exact fnS.len λ_=>rfl|exact xS.len λ_=>rfl|exact rlS.len λ_=>rfl)
  (hb:∀ (kV doc pm:Value) (an:Option Addr) (cdv ct:Value) (us:List Value),us.length=ps.length->bindArgs (PySem.W.fnOf x x (aO st) (aH st) (aA st) .none kV doc pm an cdv ct) ⟨us,[]⟩=pure (ps.zip us):=by
   intro _ _ _ _ _ _;(first|refine sG ?_|refine sH ?_|refine sJ ?_|refine sK ?_);intros;rfl)
  (mono:ln S:=by first|exact fnS.mono|exact rlS.mono|exact xS.mono):Fp P w K mg base (k+1) x ps S:=by
 obtain⟨f,fd,F,m,q⟩:=h;exact Fp.of (uE (z:=z) F sc len (λcdv A outer s H E hr hx hw=>hbody sc.nd hr hx hw) rd) mono m F.kp (F.binds hb)
theorem wg(h:bC K mg x st)
  (hbody:∀ (sc:N.Nodup) (f:Addr) (cdv:Value) (A:Around) (outer:List Env) (s:Shared) (H:Hp),RoomU k (A.deeper (envOfC x (aA st) s.heap.objs.size f cdv))->
   ia (nu P w K mg base N x (aA st) f cdv A outer s H) E0 (aH st) z)
  (rd:∀ds E Q,S ds E Q->z No { nx:=λ_=>Q .non,rt:=Q } (cO N ds))
  (sc:aT N ps (aA st):=by exact⟨rfl,rfl,rfl,by decide +kernel,rfl,by decide +kernel,by decide +kernel⟩)
  (len:∀ds E Q,S ds E Q->ds.length=ps.length:=by first|exact fnS.len λ_=>rfl|exact xS.len λ_=>rfl|exact rlS.len λ_=>rfl)
  (hb:∀ (kV doc pm:Value) (an:Option Addr) (cdv ct:Value) (us:List Value),us.length=ps.length->bindArgs (PySem.W.fnOf x x (aO st) (aH st) (aA st) .none kV doc pm an cdv ct) ⟨us,[]⟩=pure (ps.zip us):=by
   intro _ _ _ _ _ _;(first|refine sG ?_|refine sH ?_|refine sJ ?_|refine sK ?_);intros;rfl)
  (mono:ln S:=by first|exact fnS.mono|exact rlS.mono|exact xS.mono):uT P w K mg base (k+1) x ps S:=by
 obtain⟨f,fd,F,m,q⟩:=h;exact⟨⟨f,fd,uS (z:=z) F sc len (λcdv A outer s H hr=>hbody sc.nd f cdv A outer s H hr) rd,m,F.kp,F.binds hb⟩,mono⟩
end
section
variable{l:List (Str×bW)}
theorem lz(h:CC X.K X.mg x)(hg:Gl X x:=by rfl)(hd:(x==("__debug__" : Str))=false:=by decide):PX X EX (.Name x pos) (wC (.cls x)):=let⟨_,m,q⟩:=h;Bv m q hg hd
theorem nQ{i:Int}(h:CI X.mg x i)(hg:Gl X x:=by rfl)(hd:(x==("__debug__" : Str))=false:=by decide):PX X EX (.Name x pos) (wC (.int i)):=let⟨_,m⟩:=h;Bf m hg hd
theorem nR{st:Stmt}(h:bC X.K X.mg x st)(G:Fp X.prog X.w X.K X.mg X.base k x ps S)(t:∀y∈l,nO X j y)(hk:k<=j:=by decide):∀y∈(x,S)::l,nO X j y:=let⟨_,_,_,m,q⟩:=h;BT ⟨_,_,_,m,q,hk,G⟩ t
end
section
variable{n m:Str}{D C f:Addr}
theorem exD(a:PySem.W.nsIn K mainGlobals n=some (some (.ref D)))(b:PySem.W.mroIn K D (.ref f)=some true):∃D,PySem.W.nsIn K mainGlobals n=some (some (.ref D))/\PySem.W.mroIn K D (.ref f)=some true:=⟨D,a,b⟩
theorem exX(a:PySem.W.nsIn K mainGlobals n=some (some (.ref D)))(c:eI K D)(k:PySem.W.kitOne K (.ref D) (.type "ValueError")=some true)(h:∀m∈M,∃C,dH K m=some C/\PySem.W.kitOne K (.ref D) (.ref C)=some (n==m)) :
  ∃D,dH K n=some D/\eI K D/\PySem.W.kitOne K (.ref D) (.type "ValueError")=some true/\∀m∈M,∃C,dH K m=some C/\PySem.W.kitOne K (.ref D) (.ref C)=some (n==m):=⟨D,kF a,c,k,h⟩
theorem exC(a:PySem.W.nsIn K mainGlobals m=some (some (.ref C)))(b:PySem.W.kitOne K (.ref D) (.ref C)=some (n==m)):∃C,dH K m=some C/\PySem.W.kitOne K (.ref D) (.ref C)=some (n==m):=⟨C,kF a,b⟩
end
def ZaV(Q:Str->Prop):D->Prop
 |.str x=>Q x
 |_=>False
theorem lA{Q:Str->Prop}(h:ZaV Q d):∃b,d=.str b/\Q b:=by
 cases d with
 |str b=>exact⟨b,rfl,h⟩
 |_=>exact h.elim
theorem ZaV.mono{Q Q':Str->Prop}(h:∀b,Q b->Q' b)(d:D)(z:ZaV Q d):ZaV Q' d:=by
 obtain⟨b,rfl,q⟩:=lA z;exact h b q
structure wj(X:Cx)(id:String)(g:Str->List D->(D->Prop)->Prop):Prop where
 t:∃r,l8 X id r/\∀W H x vs ds Q,WOk W H->Reps X.K W vs ds->g x ds (RQ X.K W H Q)->r (.str x) vs H Q
 mono:∀x ds P P',(∀d,P d->P' d)->g x ds P->g x ds P'
def wS(g:Str->List D->(D->Prop)->Prop)(wo:WE)(t:WA):WE:=λE ρ Q=>wo E ρ (ZaV λx=>t E ρ λds=>g x ds Q)
def lB(wo:WE)(t:WA):WA:=λE ρ Q=>wo E ρ (ZaV λx=>t E ρ λds=>∃y,ds=[.str y]/\(y.length==0)=false/\x.length<=aM/\(Txt.split x y).length<=aM/\Q ((Txt.split x y).map .str))
section
variable{o a b:Expr}{id:String}{g:Str->List D->(D->Prop)->Prop}
theorem wk(slot:Slot "str" name id)(hty:typeOf (.builtin id)=pure (.type "method_descriptor"))(hm:wj X id g)(ho:PX X EX o wo)(ha:fE X EX (e::es) t)
  (hbase:attributeBase o name X.env (eval o X.env)=eval o X.env:=by rfl)
  (hfew:((backTo cpos (starEach (e::es) X.env)).all (λx=>!x.1) && (backToKw cpos (keywordEach [] X.env)).all (λx=>x.1.isSome)
   && decide ((e::es).length+([]:List Keyword).length+(if([]:List Keyword).isEmpty then 0 else 1)<30))=true:=by rfl)
  (hline:(apos.endLine==cpos.line)=true:=by rfl) (hs:starEach (e::es) X.env=(false,eval e X.env)::starEach es X.env:=by rfl) (hplain:(backTo cpos (starEach es X.env)).any (·.1)=false:=by rfl) :
  PX X EX (.Call (.Attribute o name apos) (e::es) [] cpos) (wS g wo t):=by
 obtain⟨to,po,ko⟩:=ho.t;obtain⟨ta,pa,ka⟩:=ha.t;obtain⟨r,pr,kr⟩:=hm.t;refine⟨⟨_,fW PySem.F.plainAttrs_str slot hty pr po pa hbase hfew hline hs hplain,λW0 H0 W σ H ρ E Q s eo h=>?_⟩,λE ρ P P' hp z=>ho.mono _ _ _ _ (ZaV.mono λx h2=>ha.mono _ _ _ _ (λds hds=>hm.mono _ _ _ _ hp hds) h2) z⟩;refine ko W0 H0 W σ H ρ E _ s eo (ho.mono _ _ _ _ (λd hd v W1 H1 x1 r1=>?_) h);obtain⟨x,rfl,h2⟩:=lA hd;cases r1;refine⟨rfl,ka W0 H0 W1 σ H1 ρ E _ (s.step x1) eo (ha.mono _ _ _ _ (λds hds us W2 H2 x2 r2=>?_) h2)⟩;exact kr W2 H2 _ us ds Q x2.ok r2 (hm.mono _ _ _ _ (λd hd=>RQ.ext hd (x1.trans x2)) hds)
theorem yQ{K:D9}{W:Wd}:∀l:List Str,Reps K W (l.map V.str) (l.map D.str)
 |[]=>.nil
 |x::l=>.cons (.str x) (yQ l)
theorem yR{K:D9}{W:Wd}:∀{l:List Str} {vs:List V},Reps K W vs (l.map D.str)->vs=l.map V.str
 |[],_,.nil=>rfl
 |x::l,_,.cons r t=>by cases r;rw[yR t];rfl
theorem BU(ho:PX X EX o wo)(ha:fE X EX (e::es) t)
  (hbase:attributeBase o "split" X.env (eval o X.env)=eval o X.env:=by rfl)
  (hfew:((backTo cpos (starEach (e::es) X.env)).all (λx=>!x.1) && (backToKw cpos (keywordEach [] X.env)).all (λx=>x.1.isSome)
   && decide ((e::es).length+([]:List Keyword).length+(if([]:List Keyword).isEmpty then 0 else 1)<30))=true:=by rfl)
  (hline:(apos.endLine==cpos.line)=true:=by rfl) (hs:starEach (e::es) X.env=(false,eval e X.env)::starEach es X.env:=by rfl) (hplain:(backTo cpos (starEach es X.env)).any (·.1)=false:=by rfl) :
  PXL X EX (.Call (.Attribute o "split" apos) (e::es) [] cpos) (lB wo t):=by
 obtain⟨to,po,ko⟩:=ho.t;obtain⟨ta,pa,ka⟩:=ha.t;refine⟨⟨_,fW PySem.F.plainAttrs_str PySem.F.slot_str_split PySem.F.type_str_split AJ po pa hbase hfew hline hs hplain,λW0 H0 W σ H ρ E Q s eo h=>?_⟩,λE ρ P P' hp z=>ho.mono _ _ _ _ (ZaV.mono λx h2=>ha.mono _ _ _ _ (λds ⟨y,e1,e2,e3,e4,q⟩=>⟨y,e1,e2,e3,e4,hp _ q⟩) h2) z⟩;refine ko W0 H0 W σ H ρ E _ s eo (ho.mono _ _ _ _ (λd hd v W1 H1 x1 r1=>?_) h);obtain⟨x,rfl,h2⟩:=lA hd;cases r1;refine⟨rfl,ka W0 H0 W1 σ H1 ρ E _ (s.step x1) eo (ha.mono _ _ _ _ (λds hds us W2 H2 x2 r2=>?_) h2)⟩;obtain⟨y,rfl,e1,e2,e3,q⟩:=hds;obtain⟨v,rfl,rv⟩:=r2.one;cases rv;have hsl:aM+2<=sizeLine:=by rw[sizeLine_eq];decide
 refine⟨x,y,rfl,rfl,e1,by omega,gi e3,λp hp=>?_⟩;exact q p _ W2 _ ((x1.trans x2).trans (.new x2.ok hp)) aF (x2.ok.fresh hp).1 (x2.ok.fresh hp).2 ((x1.trans x2).isN hp) (yQ _)
def yS:Str->List D->(D->Prop)->Prop:=λx ds Q=>∃y,ds=[.str y]/\x.length<=aM/\Q (.str (Txt.removeprefix x y))
theorem BV:wj X "str.removeprefix" yS:=by
 refine⟨⟨_,AK,λW H x vs ds Q ok r ⟨y,e,hl,q⟩=>?_⟩,λx ds P P' hp ⟨y,e,hl,q⟩=>⟨y,e,hl,hp _ q⟩⟩;subst e;obtain⟨v,rfl,rv⟩:=r.one;cases rv;exact⟨x,y,rfl,rfl,gi hl,q.now ok (.str _)⟩
def qM:Str->List D->(D->Prop)->Prop:=λx ds Q=>∃ys:List Str,ds=[.lst (ys.map .str)]/\x.length<=16/\(ys.map (·.length)).sum+ys.length<=1048576/\Q (.str (Txt.join x ys))
theorem yT:wj X "str.join" qM:=by
 refine⟨⟨_,AL,λW H x vs ds Q ok r ⟨ys,e,hl,hs,q⟩=>?_⟩,λx ds P P' hp ⟨y,e,hl,hs,q⟩=>⟨y,e,hl,hs,hp _ q⟩⟩;subst e;obtain⟨v,rfl,rv⟩:=r.one;obtain⟨p,us,rfl,h1,rr⟩:=rv.sql ok;rw[yR rr] at h1;exact⟨x,p,ys,rfl,rfl,h1,hl,hs,q.now ok (.str _)⟩
def qN:G2:=λx y Q=>ZaV (λz=>isI (λi=>z.length<=aM/\∃c,cA z.cps.toList i=some c/\Q (.str ⟨#[c]⟩)) y) x
theorem qO:rW X qN:=by
 refine⟨⟨_,jJ,λW H x y dx dy Q ok rx ry hg=>?_⟩,λx y P P' hp hg=>ZaV.mono (λz h=>isI.mono (λi ⟨hl,c,h1,h2⟩=>⟨hl,c,h1,hp _ h2⟩) _ h) _ hg⟩;obtain⟨z,rfl,h⟩:=lA hg;obtain⟨i,rfl,hl,c,h1,q⟩:=nE h;cases rx;cases ry;exact⟨z,i,c,rfl,rfl,gi hl,h1,q.now ok (.str _)⟩
def qP:G2:=λx y Q=>ZaV (λa=>ZaV (λb=>Q (.bl (!(Builtin.Str.occurrences b a 0 b.length 1).isEmpty))) y) x
theorem qQ:cX X (compareOp .In) qP:=by
 refine⟨⟨_,iw,λW H x y dx dy Q ok rx ry hg=>?_⟩,λx y P P' hp hg=>ZaV.mono (λz h=>ZaV.mono (λi q=>hp _ q) _ h) _ hg⟩;obtain⟨z,rfl,h⟩:=lA hg;obtain⟨i,rfl,q⟩:=lA h;cases rx;cases ry;exact⟨z,i,rfl,rfl,q.now ok (.bl _)⟩
def eW:G2:=λx y Q=>ZaV (λa=>ZaV (λb=>a.length+b.length<=aM/\Q (.str (a++b))) y) x
theorem fH:cX X (binaryOp .Add) eW:=by
 refine⟨⟨_,gA,λW H x y dx dy Q ok rx ry hg=>?_⟩,λx y P P' hp hg=>ZaV.mono (λz h=>ZaV.mono (λi q=>⟨q.1,hp _ q.2⟩) _ h) _ hg⟩;obtain⟨z,rfl,h⟩:=lA hg;obtain⟨i,rfl,hl,q⟩:=lA h;cases rx;cases ry;exact⟨z,i,rfl,rfl,gi hl,q.now ok (.str _)⟩
def yU:List D->(D->Prop)->Prop:=λds Q=>∃x:Str,ds=[.str x]/\x.length<=aM/\Q (.int x.length)
theorem BW:bZ X (.builtin "len") yU:=by
 refine⟨⟨_,fo,λW H vs ds Q ok r ⟨x,e,hl,q⟩=>?_⟩,λds P P' hp ⟨x,e,hl,q⟩=>⟨x,e,hl,hp _ q⟩⟩;subst e;obtain⟨v,rfl,rv⟩:=r.one;cases rv;exact⟨x,rfl,gi hl,q.now ok (.int _)⟩
def wm:List D->(D->Prop)->Prop:=λds Q=>∃x n,ds=[.str x]/\PySem.intText? x=some n/\x.length<=640/\Q (.int n)
theorem BX:bZ X (.type "int") wm:=by
 refine⟨⟨_,AM,λW H vs ds Q ok r ⟨x,n,e,h1,hl,q⟩=>?_⟩,λds P P' hp ⟨x,n,e,h1,hl,q⟩=>⟨x,n,e,h1,hl,hp _ q⟩⟩;subst e;obtain⟨v,rfl,rv⟩:=r.one;cases rv;exact⟨x,n,rfl,h1,hl,q.now ok (.int _)⟩
def gT:List D->(D->Prop)->Prop:=λds Q=>∃i:Int,ds=[.int i]/\i.natAbs.log2<1920/\Q (.str (toString i))
theorem jc:bZ X (.type "str") gT:=by
 refine⟨⟨_,ff,λW H vs ds Q ok r ⟨x,e,hl,q⟩=>?_⟩,λds P P' hp ⟨x,e,hl,q⟩=>⟨x,e,hl,hp _ q⟩⟩;subst e;obtain⟨v,rfl,rv⟩:=r.one;cases rv;exact⟨x,rfl,hl,q.now ok (.str _)⟩
theorem jd:bootBuiltins "str" = some (.type "str"):=by decide +kernel
def CS(mg:Str->Option Value)(x y:Str):Prop:=∃t,mg x=some (.str y t)
theorem mkS(X:K.In h)(G:h.Ns mainGlobals mg){t:Tok}(a:PySem.W.nsIn K mainGlobals x=some (some (.str y t))):CS mg x y:=⟨t,PySem.W.mg_of X G a⟩
theorem BY(h:CS X.mg x y)(hg:Gl X x:=by rfl)(hd:(x==("__debug__" : Str))=false:=by decide):PX X EX (.Name x pos) (wC (.str y)):=let⟨t,m⟩:=h;ur (v:=.str y) m ⟨t,rfl⟩ (λ_=>.str y) hg hd
def sL(x:Str):List D:=x.cps.toList.map λc=>.str ⟨#[c]⟩
def iC(w:WE):WA:=λE ρ Q=>w E ρ (ZaV λx=>x.cps.all (· < 128)=true/\Q (sL x))
theorem BZ(he:PX X EX e wo):ml X EX tg e (iC wo):=by
 obtain⟨t,q,k⟩:=he.t;refine⟨⟨_,AO q,λW0 H0 W σ H ρ E R s eo h=>?_⟩,λE ρ P P' hp h=>he.mono _ _ _ _ (ZaV.mono λx h=>⟨h.1,hp _ h.2⟩) h⟩;refine k W0 H0 W σ H ρ E _ s eo (he.mono _ _ _ _ (λd hd v W1 H1 x1 r1=>?_) h);obtain⟨x,rfl,ha,hq⟩:=lA hd;cases r1;refine⟨x,rfl,ha,hq W1 H1 _ x1 λW2 H2 i g2 p2 ok2=>⟨λd hd=>?_,λhi=>?_⟩⟩
 .unfold sL at hd
  rw[e7] at hd;have e1:x.cps.toList[i]? = x.cps[i]?:=by simp
  rw[e1] at hd;cases ec:x.cps[i]? with
  |none=>rw[ec] at hd;cases hd
  |some c=>
   rw[ec] at hd;cases hd;refine⟨(Ybl.mp ec).1,λv H3 hy=>?_⟩;obtain⟨rfl,c',e2,rfl⟩:=hy;rw[ec] at e2;cases e2;exact⟨W2,.refl ok2,.str _⟩
 .show x.cps.size<=i
  unfold sL at hi;simpa using hi
def qR(w:WE):WE:=λE ρ Q=>w E ρ (isI λi=>i.natAbs.log2<1920/\Q (.str (toString i)))
def yV(wa wb:WE):WE:=λE ρ Q=>wa E ρ (ZaV λx=>x.length<=aM/\wb E ρ (ZaV λy=>x.length+y.length<=aM/\Q (.str (x++y))))
end
section
variable{o a b c:Expr}{id:String}
def yW(wa:WE)(wl wh:(Ex->Prop)->bV->(Option Int->Prop)->Prop):WE:=λE ρ Q=>wa E ρ λx=>wl E ρ λl=>wh E ρ λh=>ZaV (λz=>z.length<=aM/\Q (.str (um z l h))) x
def yX(S:bW):WE:=λE ρ Q=>S [] E Q
end
section
variable{a b c:Expr}
def yY(wa wb wc:WE):WE:=λE ρ Q=>wa E ρ (ZaV λx=>x.length<=aM/\wb E ρ (ZaV λy=>x.length+y.length<=aM/\wc E ρ (ZaV λz=>x.length+y.length+z.length<=aM/\Q (.str (x++y++z)))))
end
section
def sM:D->Bool
 |.non=>true
 |_=>false
def eM:Value->Bool
 |.none=>true
 |_=>false
end
section
def nS:G2:=λx y Q=>∃ds,x=.non/\(y=.lst ds\/y=.tup ds)/\(∀d∈ds,d=.non\/(∃i,d=.int i)\/∃xs,d=.tup xs)/\Q (.bl (ds.any sM))
theorem qS(hu:X.A.units+64<cLine):cX X (compareOp .In) nS:=by
 refine⟨⟨λx y H Q=>∃W dx dy,WOk W H/\Rep X.K W x dx/\Rep X.K W y dy/\nS dx dy (RQ X.K W H Q),?_,λW H x y dx dy Q ok rx ry hg=>⟨W,dx,dy,ok,rx,ry,hg⟩⟩,λx y P P' hp ⟨ds,h1,h2,h3,q⟩=>⟨ds,h1,h2,h3,hp _ q⟩⟩;rintro pins s σ H x y v u Q I rx ry ⟨W,dx,dy,ok,r1,r2,ds,rfl,hdy,hd,q⟩;cases r1;obtain rfl:v=Value.none:=rx;have key:∀{vs:List V} {us:List Value} {ds:List D},Reps X.K W vs ds->Vals vs us->(∀d∈ds,d=.non\/(∃i,d=.int i)\/∃xs,d=.tup xs)->
   (∀y∈us,SeqAt.EqAt X.A.in1 s y .none (eM y))/\us.any eM=ds.any sM:=by
  intro vs us ds rr rv
  induction rv generalizing ds with
  |nil=>cases rr;exact λ_=>⟨λy hy=>by simp at hy,rfl⟩
  | @cons v u vs us r t ih=>
   cases rr with
   | @cons _ d _ ds rd rt=>
    intro hd;obtain⟨i1,i2⟩:=ih rt λd h=>hd d (da _ h);have one:SeqAt.EqAt X.A.in1 s u .none (eM u)/\(eM u)=sM d:=by
     rcases hd d (en ..) with rfl|⟨i,rfl⟩|⟨xs,rfl⟩
     .cases rd
      obtain rfl:u=Value.none:=r;exact⟨SeqAt.EqAt.same _,rfl⟩
     .cases rd
      have:=nq (A:=X.A.in1) (s:=s) (y:=.int i) (x:=.non) (u:=u) (v:=.none) r rfl rfl rfl;obtain⟨t',rfl⟩:=r;exact⟨this,rfl⟩
     .obtain⟨q,ws,rfl,h2,_⟩:=rd.sqt ok
      cases r;obtain⟨its2,_,pl2,_⟩:=I.tuple h2;have e1:X.A.in1.units=X.A.units+1:=rfl;exact⟨SeqAt.EqAt.tuple_none pl2 (by rw[e1];omega),rfl⟩
    refine⟨λy hy=>?_,?_⟩
    .rcases Yan.mp hy with rfl|hy
     .exact one.1
     .exact i1 y hy
    .rw[oi,oi,one.2,i2]
 rcases hdy with rfl|rfl
 .obtain⟨p,vs,rfl,h1,rr⟩:=r2.sql ok
  cases ry;obtain⟨its,rv,pl,hz⟩:=I.list h1;obtain⟨k1,k2⟩:=key rr rv hd;refine SeqAt.in_listAt eM pl.isList (λy hy=>k1 y (by simpa using hy)) ⟨.bl _,H,I,rfl,?_⟩;rw[show its.toArray.any eM=its.any eM by simp,k2];exact q.now ok (.bl _)
 .obtain⟨p,vs,rfl,h1,rr⟩:=r2.sqt ok
  cases ry;obtain⟨its,rv,pl,hz⟩:=I.tuple h1;obtain⟨k1,k2⟩:=key rr rv hd;refine SeqAt.in_tupleAt eM pl (λy hy=>k1 y (by simpa using hy)) ⟨.bl _,H,I,rfl,?_⟩;rw[show its.toArray.any eM=its.any eM by simp,k2];exact q.now ok (.bl _)
end
section
variable{ps kp cp:Pos}{a:Expr}
def yZ(t:WA):WA:=λE ρ Q=>t E ρ λds=>∃xs,ds=[.lst xs]/\Q (qL 2 xs)
end
def aL(i:Int):Str:=(toString i:String)
theorem B0:∀{L M:List Str},L≠[]->M≠[]->(∀p∈L,c∉p.cps.toList)->(∀p∈M,c∉p.cps.toList)->Str.join ⟨#[c]⟩ L=Str.join ⟨#[c]⟩ M->L=M:=by
 have cut:∀{a b u v:List Nat},c∉a->c∉b->a++c::u=b++c::v->a=b/\u=v:=by
  intro a
  induction a with
  |nil=>
   intro b u v _ hb e;cases b with
   |nil=>exact⟨rfl,(List.cons.inj e).2⟩
   |cons k b=>exact Eb ((List.cons.inj e).1▸en ..) hb
  |cons k a ih=>
   intro b u v ha hb e;cases b with
   |nil=>exact Eb ((List.cons.inj e).1▸en ..) ha
   |cons k' b=>
    obtain⟨e1,e2⟩:=List.cons.inj e;obtain⟨e3,e4⟩:=ih (λh=>ha (da _ h)) (λh=>hb (da _ h)) e2;exact⟨by rw[e1,e3],e4⟩
 have lst:∀(p q:Str) (r:List Str),(Str.join ⟨#[c]⟩ (p::q::r)).cps.toList=p.cps.toList++c::(Str.join ⟨#[c]⟩ (q::r)).cps.toList:=λp q r=>by
  show(p++⟨#[c]⟩++Str.join ⟨#[c]⟩ (q::r)).cps.toList=_;simp only[Str.cps_append,rK];simp
 have ext:∀{p q:Str},p.cps.toList=q.cps.toList->p=q:=λh=>Str.ext' (Array.toList_inj.mp h);intro L
 induction L with
 |nil=>intro M h;exact Eb rfl h
 |cons p L ih=>
  intro M _ hM hL hM' e;cases M with
  |nil=>exact Eb rfl hM
  |cons q M=>
   have e':=congrArg (λz:Str=>z.cps.toList) e;have hp:=hL p (en ..);have hq:=hM' q (en ..);cases L with
   |nil=>
    cases M with
    |nil=>rw[show p=q from ext e']
    |cons q2 M=>
     rw[lst] at e';have:c∈p.cps.toList:=by
      have h1:(Str.join ⟨#[c]⟩ [p]).cps.toList=p.cps.toList:=rfl;rw[h1] at e';rw[e'];simp
     exact Eb this hp
   |cons p2 L=>
    cases M with
    |nil=>
     rw[lst] at e';have:c∈q.cps.toList:=by
      have h1:(Str.join ⟨#[c]⟩ [q]).cps.toList=q.cps.toList:=rfl;rw[h1] at e';rw[<-e'];simp
     exact Eb this hq
    |cons q2 M=>
     rw[lst,lst] at e';obtain⟨e1,e2⟩:=cut hp hq e';rw[ext e1,ih (by simp) (M:=q2::M) (by simp) (λx hx=>hL x (da _ hx)) (λx hx=>hM' x (da _ hx)) (ext e2)]
theorem B1(h0:L≠[])(h:∀p∈L,c∉p.cps.toList):Txt.split (Txt.join ⟨#[c]⟩ L) ⟨#[c]⟩=L:=by
 have e:Txt.join ⟨#[c]⟩ L=Str.join ⟨#[c]⟩ L:=StrLaws.glued_eq_join _ _;rw[e];refine B0 (c:=c) (λz=>?_) h0 (λp hp=>StrLaws.split_free _ c p hp) h (StrLaws.join_split _ _);have:=StrLaws.join_split (Str.join ⟨#[c]⟩ L) ⟨#[c]⟩;unfold Txt.split at z;split at z
 .cases z
 .split at z
  .cases z
  .have:=length_partsBetween (Str.join ⟨#[c]⟩ L) (Builtin.Str.occurrences (Str.join ⟨#[c]⟩ L) ⟨#[c]⟩ 0 (Str.join ⟨#[c]⟩ L).length ((Str.join ⟨#[c]⟩ L).length+1)) (⟨#[c]⟩:Str).length
   rw[z] at this;cases this
open PySem.NumText
def iR(c:Nat):Bool:=decide (48<=c)&&decide (c<=57)
def dN(w:Str):Bool:=w.cps.toList.head? == some 45
def aX(w:Str):List Nat:=if dN w then w.cps.toList.tail else w.cps.toList
def lC(w:Str):Bool:=decide (1<=(aX w).length)&&decide ((aX w).length<=20)&&(aX w).all iR && !((aX w).head? == some 48 && !(w == "0"))
def iV(w:Str):Int:=if dN w then -((digitsVal (aX w):Nat):Int) else((digitsVal (aX w):Nat):Int)
def bL(w:Str):Option Int:=if lC w then some (iV w) else none
def eN:Option Int->D
 |none=>.non
 |some i=>.int i
def j6(w:Str):Bool:=w.cps.all (· < 128)
theorem ZeA:iR c=true↔48<=c/\c<=57:=by unfold iR;simp
theorem y1{l:List Nat}(h:l.all iR=true):AllDigits l:=λc hc=>ZeA.mp (Ybc.mp h c hc)
theorem qT(m:Nat):(aL (m:Int)).cps.toList=(Nat.toDigits 10 m).map Char.toNat:=PySem.W.KIN.signs_num m
theorem wn(m:Nat):((Nat.toDigits 10 m).map Char.toNat).all iR=true:=by
 rw[Ybc];intro c hc;obtain⟨ch,hch,e⟩:=Ybu.mp hc;have r:=PyProof.Rows.digit_range (Nat.isDigit_of_mem_toDigits (by decide) (by decide) hch);rw[<-e];exact ZeA.mpr r
theorem wq(m:Nat):m=0\/∃c r,(Nat.toDigits 10 m).map Char.toNat=c::r/\49<=c/\c<=57:=by
 induction m using Nat.strongRecOn with
 |_ m ih=>
  by_cases h:m<10
  .rw[Nat.toDigits_of_lt_base h]
   rcases tG m with z|z
   .exact .inl z
   .refine .inr ⟨_,[],rfl,?_⟩
    have:∀d:Nat,d<10->0<d->49<=(Nat.digitChar d).toNat/\(Nat.digitChar d).toNat<=57:=by decide
    exact this m h z
  .have hm:m%10<10:=Nat.mod_lt m (by decide)
   have t:Nat.toDigits 10 (m/10)++Nat.toDigits 10 (m%10)=Nat.toDigits 10 (10*(m/10)+m%10):=Nat.toDigits_append_toDigits (by decide) (by omega) hm;rw[Nat.div_add_mod] at t;rcases ih (m/10) (by omega) with z|⟨c,r,e,h1⟩
   .omega
   .refine .inr ⟨c,r++(Nat.toDigits 10 (m%10)).map Char.toNat,?_,h1⟩
    rw[<-t,gu,e];rfl
theorem wr(m:Nat)(h:m≠0):(aL (-(m:Int))).cps.toList=45::(Nat.toDigits 10 m).map Char.toNat:=by
 obtain⟨k,rfl⟩:=Nat.exists_eq_succ_of_ne_zero h;have:aL (-((k+1:Nat):Int))=Str.ofString (toString (Int.negSucc k)):=rfl;rw[this,PyProof.Rows.signs_ofString];show(("-" ++Nat.repr (k+1)).toList).map Char.toNat=_;rw[String.toList_append,gu,Nat.toList_repr];rfl
theorem za(h:m<10^20):((Nat.toDigits 10 m).map Char.toNat).length<=20:=by
 rw[<-qT];have:=toString_length_le (v:=(m:Int)) (by omega) (k:=20) (by decide) (by exact_mod_cast h);simpa[Str.length,aL] using this
theorem zc(m:Nat):1<=((Nat.toDigits 10 m).map Char.toNat).length:=by
 rcases wq m with z|⟨c,r,e,_⟩
 .subst z;decide
 .rw[e];simp
theorem ze(h:((Nat.toDigits 10 m).map Char.toNat).head? = some 48):m=0:=by
 rcases wq m with z|⟨c,r,e,h1,_⟩
 .exact z
 .rw[e] at h;cases h;omega
theorem B2(m:Nat):((Nat.toDigits 10 m).map Char.toNat).head?≠some 45:=by
 rcases wq m with z|⟨c,r,e,h1,_⟩
 .subst z;decide
 .rw[e];intro h;cases h;omega
theorem B3{i:Int}(h:i.natAbs<10^20):bL (aL i)=some i:=by
 rcases Int.eq_nat_or_neg i with⟨m,rfl|rfl⟩
 .have hm:m<10^20:=by simpa using h
  have n0:dN (aL (m:Int))=false:=by unfold dN;rw[qT];simpa using B2 m
  have f0:aX (aL (m:Int))=(Nat.toDigits 10 m).map Char.toNat:=by unfold aX;rw[n0,qT];rfl
  unfold bL lC iV;rw[n0,f0,Ec (zc m),Ec (za hm),wn,PySem.W.KIN.val_back];have:(((Nat.toDigits 10 m).map Char.toNat).head? == some 48 && !(aL (m:Int) == "0"))=false:=by
   cases e:((Nat.toDigits 10 m).map Char.toNat).head? == some 48 with
   |false=>rfl
   |true=>
    obtain rfl:=ze (eq_of_beq e);decide +kernel
  rw[this];rfl
 .rcases tG m with rfl|z
  .decide +kernel
  have hm:m<10^20:=by simpa using h
  have n0:dN (aL (-(m:Int)))=true:=by unfold dN;rw[wr m (by omega)];rfl
  have f0:aX (aL (-(m:Int)))=(Nat.toDigits 10 m).map Char.toNat:=by unfold aX;rw[n0,wr m (by omega)];rfl
  unfold bL lC iV;rw[n0,f0,Ec (zc m),Ec (za hm),wn,PySem.W.KIN.val_back];have:(((Nat.toDigits 10 m).map Char.toNat).head? == some 48 && !(aL (-(m:Int)) == "0"))=false:=by
   cases e:((Nat.toDigits 10 m).map Char.toNat).head? == some 48 with
   |false=>rfl
   |true=>
    have:=ze (eq_of_beq e);omega
  rw[this];rfl
theorem B4(h:lC w=true):PySem.intText? w=some (iV w):=by
 unfold lC at h;simp only[cy,Ee] at h;obtain⟨⟨⟨h1,h2⟩,h3⟩,_⟩:=h;have hd:=y1 h3;have hl:w.cps.toList.length=w.length:=by simp[Str.length]
 unfold iV;cases n:dN w with
 |false=>
  have e:aX w=w.cps.toList:=by unfold aX;rw[n];rfl
  rw[e] at h1 h2 hd ⊢;exact intText_digits hd (λz=>by rw[z] at h1;simp at h1) (by omega)
 |true=>
  have e:aX w=w.cps.toList.tail:=by unfold aX;rw[n];rfl
  rw[e] at h1 h2 hd ⊢;unfold dN at n;cases ew:w.cps.toList with
  |nil=>rw[ew] at n;cases n
  |cons c r=>
   rw[ew] at n h1 h2 hd hl;have:c=45:=by simpa using n
   subst this;refine intText_neg ew hd (λz=>?_) (by rw[<-hl];simp at h2 ⊢;omega);simp only[List.tail_cons] at h1 z;rw[z] at h1;simp at h1
theorem sO{p q:Str}(h:p.cps.toList=q.cps.toList):p=q:=Str.ext' (Array.toList_inj.mp h)
theorem oH(w:Str):w.cps.toList.length=w.length:=by simp[Str.length]
theorem B5:("0123456789" : Str).cps.toList=[48,49,50,51,52,53,54,55,56,57]:=by decide +kernel
theorem B6(c:Nat):decide (c∈("0123456789" : Str).cps.toList)=iR c:=by
 rw[B5,jg,Ee,ZeA];simp only[Yan,gq,or_false];omega
theorem B7(c:Nat):(!(Builtin.Str.occurrences "0123456789" ⟨#[c]⟩ 0 ("0123456789" : Str).length 1).isEmpty)=iR c:=by rw[StrLaws.found_one,B6]
theorem B8:("-" : Str)=⟨#[45]⟩:=by decide +kernel
theorem Zhk:dN w=true↔w.cps.toList[0]? = some 45:=by unfold dN;rw[Et,List.head?_eq_getElem?]
theorem B9(w:Str):Txt.removeprefix w "-" = ⟨(aX w).toArray⟩:=by
 unfold Txt.removeprefix Txt.affix;rw[B8];have hs:Builtin.Str.subAt w ⟨#[45]⟩ 0=dN w:=by
  rw[jg,Zhk];constructor
  .intro h
   refine(StrLaws.subAt_one w 45 0).mp ⟨?_,h⟩;unfold Builtin.Str.subAt at h;have:=congrArg Array.size (eq_of_beq h);rw[Array.size_extract] at this;show 0+1<=w.cps.size;have e:(⟨#[45]⟩:Str).length=1:=rfl;rw[e] at this;simp at this;omega
  .intro h
   exact((StrLaws.subAt_one w 45 0).mpr h).2
 rw[hs];unfold aX;cases n:dN w with
 |false=>simp
 |true=>
  have h0:=Zhk.mp n;have hp:1<=w.cps.size:=by
   rw[<-o8];rcases tG w.cps.toList.length with z|z
   .rw[e8 (by omega)] at h0;cases h0
   .exact z
  simp only[if_true];have e1:(⟨#[45]⟩:Str).length=1:=rfl;have e2:w.length=w.cps.size:=rfl;rw[e1,if_neg (by rw[Et,e2];omega)];refine sO ?_;show(w.cps.extract 1 w.length).toList=(w.cps.toList.tail.toArray).toList;rw[e2,Array.toList_extract,List.extract_eq_take_drop];simp only[List.drop_one];rw[List.take_of_length_le (by simp)]
theorem zf(w:Str):(aX w).length<=w.length:=by
 unfold aX;have:=oH w;split
 .rw[List.length_tail];omega
 .omega
theorem Ca(h:c∈aX w):c∈w.cps.toList:=by
 unfold aX at h;split at h
 .exact List.mem_of_mem_tail h
 .exact h
theorem ZbX:j6 w=true↔∀c∈w.cps.toList,c<128:=by
 unfold j6;rw[xz];simp
theorem Cb(h:j6 w=true):(⟨(aX w).toArray⟩:Str).cps.all (· < 128)=true:=by
 show j6 ⟨(aX w).toArray⟩=true;rw[ZbX];intro c hc;exact ZbX.mp h c (Ca hc)
structure XF(P:Program)(w:World)(K:D9)(mg:Str->Option Value)(base:Heap)(x f:Str)(k:Nat):Prop where
 h:∃(C fI:Addr) (fd:FuncData) (ps:List Str),dH K x=some C/\mg x=some (.ref C)/\Fl.clsF K C Fl.bmV "ValueError.__new__" f fI=true/\FnOk P w K mg base (bD P w) k fI fd ps (Fl.spI C f)/\Binds K fd ps []/\∃od osl,K.lookup fI=some ⟨.type "function",od,.func fd,osl⟩
def nU(s:Stmt):Stmt:=match s with
 |.ClassDef _ _ _ (b::_) _ _ _ _ _ _ _=>b
 |s=>s
structure XK1(K:D9)(mg:Str->Option Value)(x qual f:Str)(st:Stmt):Prop where
 h:∃(C fI:Addr) (od:Option Addr) (osl:Array (Option Value)) (kV doc pm:Value) (an:Option Addr) (cdv ct:Value),dH K x=some C/\mg x=some (.ref C)/\Fl.clsF K C Fl.bmV "ValueError.__new__" f fI=true/\
  K.lookup fI=some ⟨.type "function",od,.func (PySem.W.fnOf "__init__" qual (aO st) (aH st) (aA st) .none kV doc pm an cdv ct),osl⟩/\PySem.W.codeIn K cdv qual=true/\PySem.W.keepIn K (.ref fI)=true
section
variable{w:World}{base:Heap}{f:Str}{st:Stmt}
theorem mkXF(X:K.In hp)(G:hp.Ns mainGlobals mg){C:Addr}{kV pm ct:Value}{dd:Option Addr}(a:PySem.W.nsIn K mainGlobals x=some (some (.ref C)))(lc:K.lookup C=some ⟨.type "type",dd,.cls cd,sl⟩)(ni:PySem.W.nsIn K cd.ns "__init__" = some (some (.ref fI)))(q:Fl.clsF K C Fl.bmV "ValueError.__new__" f fI=true)
  (l:K.lookup fI=some ⟨.type "function",od,.func (PySem.W.fnOf "__init__" qual (aO st) (aH st) (aA st) .none kV doc pm an cdv ct),osl⟩) (c:PySem.W.codeIn K cdv qual=true) (kp:PySem.W.keepIn K (.ref fI)=true):XK1 K mg x qual f st:=
 ⟨C,fI,od,osl,kV,doc,pm,an,cdv,ct,kF a,PySem.W.mg_of X G a,q,l,c,kp⟩
theorem XK1.xf(h:XK1 K mg x qual f st)(hB:typeLookup (.type "ValueError") f=pure none)(sc:aT [("self" : Str),f] [("self" : Str),f] (aA st):=by exact⟨rfl,rfl,rfl,by decide +kernel,rfl,by decide +kernel,by decide +kernel⟩)
  (hb:∃p0 p1 pos pos',aH st=[.Assign [.Attribute (.Name "self" p0) f pos'] (.Name f p1) pos]/\∀env,swapsWith (.Name f p1) (some (.Attribute (.Name "self" p0) f pos')) pos.line env=pure false:=by exact⟨_,_,_,_,rfl,λ_=>rfl⟩)
  (bi:∀ (kV doc pm:Value) (an:Option Addr) (cdv ct:Value) (us:List Value),us.length=[("self" : Str),f].length->bindArgs (PySem.W.fnOf "__init__" qual (aO st) (aH st) (aA st) .none kV doc pm an cdv ct) ⟨us,[]⟩=pure ([("self" : Str),f].zip us):=by
   intro _ _ _ _ _ _ us hl
   match us,hl with|[_,_],_=>rfl)
  (d1:(f==("__debug__" : Str))=false:=by decide) (c1:(f==("__classdict__" : Str))=false:=by decide):XF P w K mg base x f (k+1):=by
 obtain⟨C,fI,od,osl,kV,doc,pm,an,cdv,ct,h1,h2,h3,h4,h5,h6⟩:=h.h;obtain⟨p0,p1,pos,pos',e1,e2⟩:=hb;have F:=dk h4 h5 h6;exact⟨C,fI,_,_,h1,h2,h3,Fl.init_ok F sc h3 hB e1 e2 (by decide) d1 (by decide) c1,F.binds bi,od,osl,h4⟩
theorem zg:typeLookup (.type "ValueError") "size" = pure none:=by rw[typeLookup_type,builtinLookup_eq_fast];kernel_rfl
theorem zi:typeLookup (.type "ValueError") "row" = pure none:=by rw[typeLookup_type,builtinLookup_eq_fast];kernel_rfl
end
abbrev D6:List Str:=["NoRow", "NoText0", "NoText1"]
def eO(t:Str):Prop:=j6 t=true/\t.length<=2000
namespace B.T2
def S_number_read:bW:=fnS (λw:Str=>[.str w]) (λw=>eO w) λw=>eN (bL w)
section
variable{x:D}{n:Nat}{t:Str}{a b:Int}
theorem u_number_read(h:eO w)(q:Q (eN (bL w))):S_number_read [.str w] E Q:=⟨w,rfl,h,q⟩
end
abbrev wu:List Str:=["word", "figures"]
abbrev zj:List Str:=["word"]
def z_number_read:WS:=(aV (aZ 1 (wS yS (wN 0) (aD (wC (D.str (PySem.Str.ofString "-"))) aC))) (aV (dW (ie (cB (wT (Zbm j3 j3 (wC (D.int (1))) (wB yU (aD (wN 1) aC)) (wC (.int (20)))))) (cB (wT (wB iO (aD (wL (aLC (iC (wN 1)) 1 [] (gN 0) et (w2 qP (wN 0) (wC (D.str (PySem.Str.ofString "0123456789")))))) aC))))) (aJ (wC D.non)) bQ) (aV (dW (ft (wT (w2 gEqS (w2 qN (wN 1) (wC (D.int (0)))) (wC (D.str (PySem.Str.ofString "0"))))) (wT (w2 gNeS (wN 0) (wC (D.str (PySem.Str.ofString "0")))))) (aJ (wC D.non)) bQ) (aJ (wB wm (aD (wN 0) aC))))))
end B.T2
set_option exponentiation.threshold 2000
local macro_rules | `(tactic| walk_at "w1")=>`(tactic| simp only [aJ,dW,aZ,bQ,kB,eL,dJ,jW,qA,gP,d9,dL,qB,f6,qE,jX,ij,nI,wM,Zdn,lm,jS,nA,ft,ie,cB,wT,nD,w1,w2,wB,wF,wL,aP,cY,Zbm,aB,bP,aD,aC,aLC,ZbT,et,iS,iC,yZ,lB,wS,qR,yV,yY,yW,yX,f7,ZaV,isI,iL,iT,ls,qw,iZ,i7,gl,wN,wC,gN,fY,eA,ii,eh,qz,gR,jY,ee,fZ,cD,gQ,jZ,j0,cO,pub,dD,oh,cn,fM,pq,fL,List.replicate,pv,pw,pz,pA,Nat.reduceSub,Nat.reduceAdd,gZ,pB,true_and,cH,if_true,if_false,ite_true,ite_false,rC,dQ,i4,
 u5,u6,u7,u8,u9,va,vb,vc,vd,ve,vf,vg,vh,vj,vk,vm,vn,vo,vp,vq,vt,vv,vw,vx,vy,vz,vA,vB,vC,vD,vE,vF,vG,vH,vI,vJ,vK,vL,vM,vN,vO,vP,vQ,vR,vS,vT,vU,vV,vW,nK,vX,vY,vZ,v4,v6,nM,nN])
namespace B.T2
theorem rd_number_read:Rd S_number_read z_number_read wu:=by
 rintro _ E Q ⟨w,rfl,⟨ha,hl⟩,q⟩;dsimp only at q;unfold z_number_read;have hfl:=zf w;have hf0:(⟨(aX w).toArray⟩:Str).length=(aX w).length:=by simp[Str.length]
 have hf1:(⟨(aX w).toArray⟩:Str).cps.toList=aX w:=rfl;walk_at "nx";refine⟨_,rfl,cP (by omega),?_⟩;rw[show Txt.removeprefix w (Str.ofString "-")=_ from B9 w];walk_at "nx";refine⟨_,rfl,cP (by omega),?_⟩;rw[hf0];walk_at "st";have none':lC w=false->Q D.non:=λe=>by unfold bL at q;rw[e] at q;exact q
 have gd:lC w=(decide (1<=(aX w).length)&&decide ((aX w).length<=20)&&(aX w).all iR && !((aX w).head? == some 48 && !(w == "0"))):=rfl
 by_cases h1:1<=(aX w).length
 case neg=>
  rw[Ei (by omega),if_neg dv];exact none' (by rw[gd,Ei h1];rfl)
 rw[Ec (by omega),if_pos rfl]
 by_cases h2:(aX w).length<=20
 case neg=>
  rw[Ei (by omega),i4,if_pos rfl];exact none' (by rw[gd,Ei h2,rL];rfl)
 rw[Ec (by omega),dQ,if_neg dv];refine⟨Cb ha,?_⟩;unfold sL;refine kH (g:=λc:Nat=>D.str ⟨#[c]⟩) (f:=λc=>.bl (iR c)) (aX w) (λc hc Q hq=>?_) .un [] (cP (by rw[fM];omega)) ?_
 .walk_at "st"
  show Q (.bl (!(Builtin.Str.occurrences "0123456789" ⟨#[c]⟩ 0 ("0123456789" : Str).length 1).isEmpty));rw[B7];exact hq
 refine⟨(aX w).map iR,by simp,?_⟩;rw[show((aX w).map iR).all id=(aX w).all iR by simp];cases h3:(aX w).all iR with
 |false=>
  rw[i4,if_pos rfl];exact none' (by rw[gd,h3,rL];rfl)
 |true=>
 rw[dQ,if_neg dv];cases ef:aX w with
 |nil=>rw[ef] at h1;simp at h1
 |cons c r=>
 have e0:((⟨#[c]⟩:Str) == "0")=((aX w).head? == some 48):=by
  rw[ef,jg,Et,Et,show("0" : Str)=⟨#[48]⟩ by decide +kernel];simp
 walk_at "nx";refine⟨cP (by show(c::r).length<=_;rw[<-ef];omega),c,cg (j:=0) rfl,_,_,rfl,rfl,?_⟩;rw[show(Str.ofString "0")=("0" : Str) from rfl,e0];have fin:lC w=true->wm [.str w] Q:=λe=>⟨w,_,rfl,B4 e,by
  have:=zf w;have hw:w.length<=(aX w).length+1:=by
   unfold aX;have:=oH w;split
   .rw[List.length_tail];omega
   .omega
  omega,by unfold bL at q;rw[e] at q;exact q⟩
 cases h4:(aX w).head? == some 48 with
 |false=>
  simp only[isB,cH,if_false];exact fin (by rw[gd,h3,h4,Ec h1,Ec h2];rfl)
 |true=>
  simp only[isB,if_true];refine⟨_,_,rfl,rfl,?_⟩;cases h5:w == "0" with
  |true=>
   simp only[isB,dQ,cH,if_false];exact fin (by rw[gd,h3,h4,h5,Ec h1,Ec h2];rfl)
  |false=>
   simp only[isB,i4,if_true];exact none' (by rw[gd,h3,h4,h5,Ec h1,Ec h2];rfl)
end B.T2
theorem Cc{cs:List Nat}(h:AllDigits cs):digitsVal cs<10^cs.length:=by
 have key:∀(cs:List Nat) (acc:Nat),AllDigits cs->cs.foldl (λacc c=>acc*10+(c-48)) acc<(acc+1)*10^cs.length:=by
  intro cs
  induction cs with
  |nil=>intro acc _;simp
  |cons c cs ih=>
   intro acc h;have h1:=ih (acc*10+(c-48)) h.tail;have h2:=h.head;rw[List.foldl_cons,cn,Nat.pow_succ];refine cG h1 ?_;rw[<-Nat.mul_assoc,Nat.mul_right_comm];exact Nat.mul_le_mul_right _ (by omega)
 have:=key cs 0 h;simpa[digitsVal] using this
namespace B.T2
theorem istr_len{i:Int}(h:i.natAbs<2^72):(aL i).length<=23:=by
 have:=PySem.int_text_length_le10 (a:=i) (k:=22) (by decide) (cG h (by decide));have e:(aL i).length=(toString i:String).length:=by
  have h1:=oH (aL i);rw[<-h1];show((Str.ofString (toString i)).cps.toList).length=_;rw[PyProof.Rows.signs_ofString,bJ]
  first|rfl|exact String.length_toList|simp
 omega
end B.T2
theorem zk{c:Nat}:∀{L:List Str} {p:Str},p∈L->(∀d∈p.cps.toList,d∈(Str.join ⟨#[c]⟩ L).cps.toList)/\p.length<=(Str.join ⟨#[c]⟩ L).length
 |[a],p,h=>by
  rw[YbP] at h;subst h;exact⟨λd hd=>hd,bO _⟩
 |a::b::L,p,h=>by
  have len:∀{x y:Str},(x++y).length=x.length+y.length:=λ{x y}=>strLen_append ..;have e:Str.join ⟨#[c]⟩ (a::b::L)=a++⟨#[c]⟩++Str.join ⟨#[c]⟩ (b::L):=rfl;have hc:(a++⟨#[c]⟩++Str.join ⟨#[c]⟩ (b::L)).cps.toList=a.cps.toList++[c]++(Str.join ⟨#[c]⟩ (b::L)).cps.toList:=by
   simp only[Str.cps_append,rK]
  rw[e,hc,len,len];rcases Yan.mp h with rfl|h
  .exact⟨λd hd=>by simp[hd],by omega⟩
  .obtain⟨h1,h2⟩:=zk (c:=c) h
   exact⟨λd hd=>by simp[h1 d hd],by omega⟩
theorem Cd{p:Str}(h:eO w)(hp:p∈Txt.split w ⟨#[c]⟩):eO p:=by
 obtain⟨h1,h2⟩:=zk (c:=c) hp;rw[StrLaws.join_split] at h1 h2;exact⟨ZbX.mpr λd hd=>ZbX.mp h.1 d (h1 d hd),fA h2 h.2⟩
theorem zl(w:Str)(c:Nat):(Txt.split w ⟨#[c]⟩).length<=w.length+2:=split_le w ⟨#[c]⟩
abbrev zm:=List D->(Ex->Prop)->(List D->Prop)->Prop
abbrev Ce:=(Ex->Prop)->(List D->Prop)->bV->Prop
abbrev Dl:=Addr->Option (List D)
variable{Δ Δ1 Δ2:Dl}
def DOk(K:D9)(W0:Wd)(H0:Hp)(W:Wd)(Δ:Dl):Prop:=∀b xs,Δ b=some xs->∃us,H0 b=some (.lst us)/\W0.G b=none/\¬W0.Pn b/\Reps K W us xs
def Mv(Δ:Dl)(H0:Hp)(Δ':Dl)(H0':Hp):Prop:=∀c o,Δ c=none->H0 c=some o->H0' c=some o/\Δ' c=none
section
variable{W:Wd}{H':Hp}
theorem Mv.refl:Mv Δ H0 Δ H0:=λ_ _ h e=>⟨e,h⟩
theorem Mv.trans(a:Mv Δ H0 Δ1 H1)(b:Mv Δ1 H1 Δ2 H2):Mv Δ H0 Δ2 H2:=λc o h e=>let⟨e1,h1⟩:=a c o h e;b c o h1 e1
theorem DOk.step(d:DOk K W0 H0 W Δ)(g:Wle W W1):DOk K W0 H0 W1 Δ:=λb xs e=>let⟨us,h1,h2,h3,r⟩:=d b xs e;⟨us,h1,h2,h3,r.mono g.g g.p⟩
theorem Ext.wle(x:Ext W H W1 H1):Wle W W1:=⟨x.g,x.p⟩
theorem Ext.le(x:Ext W H0 W1 H1)(h:∀c o,H c=some o->H0 c=some o):Ext W H W1 H1:=by
 have key:∀a,H0 a=Option.none->H a=Option.none:=λa e=>by
  cases q:H a with
  |none=>rfl
  |some o=>rw[h a o q] at e;cases e
 exact⟨x.ok,x.g,x.p,λa e n=>key a (x.gf a e n),λa e n=>key a (x.pf a e n),λa o e n=>x.h a o (h a o e) n⟩
theorem SOk.base{W0':Wd}(s:SOk K W0 H0 W σ H ρ)(x:Ext W0' H0' W H)(hb:∀a,H0 a=none->W.G a=none->¬W.Pn a->H0' a=none):SOk K W0' H0' W σ H ρ where
 ext:=x
 len:=s.len
 d:=s.d
 o:=λi xs e=>let⟨a,vs,e1,e2,e3,e4,e5,r⟩:=s.o i xs e;⟨a,vs,e1,e2,e3,e4,hb a e5 e3 e4,r⟩
 ne:=s.ne
 oo:=⟨λi xss e=>let⟨a,bs,e1,q,n⟩:=s.oo.t i xss e;⟨a,bs,e1,⟨q.a1,q.a2,q.a3,hb a q.a4 q.a2 q.a3,q.nd,q.len,λj b e=>let⟨xs,e1,vs,p1,p2,p3,p4,p5⟩:=q.row j b e;⟨xs,e1,vs,p1,p2,p3,hb b p4 p2 p3,p5⟩⟩,n⟩,s.oo.u⟩
open Classical in
noncomputable def reb (W:Wd) (H0 H:Hp):Hp:=λa=>if H0 a≠none\/W.G a≠none\/W.Pn a then H a else none
theorem Cf(h:reb W H0 H a=some o):H a=some o:=by
 unfold reb at h;split at h
 .exact h
 .cases h
theorem ww(h:H0 a≠none):reb W H0 H a=H a:=by unfold reb;rw[if_pos (.inl h)]
theorem Cg(h:H0 a=none)(g:W.G a=none)(p:¬W.Pn a):reb W H0 H a=none:=by
 unfold reb;rw[if_neg];rintro(z|z|z)
 .exact z h
 .exact z g
 .exact p z
theorem Ext.nz(x:Ext W0 H0 W H)(h:H0 a≠Option.none):H a≠Option.none:=λz=>h (x.isN z)
theorem Ext.rebIn(ok:WOk W H):Ext W (reb W H0 H) W H:=⟨ok,λ_ _ e=>e,λ_ e=>e,λ_ e n=>Eb e n,λ_ n e=>Eb e n,λ_ _ e _=>Cf e⟩
theorem Ext.rebOut(x:Ext W0 H0 W H)(y:Ext W (reb W H0 H) W' H'):Ext W0 H0 W' H':=by
 have key:∀a,reb W H0 H a=Option.none->H0 a=Option.none:=λa e=>by
  cases q:H0 a with
  |none=>rfl
  |some o=>
   have hq:H0 a≠Option.none:=by rw[q];simp
   rw[ww hq] at e;exact Eb e (x.nz hq)
 refine⟨y.ok,λa o e=>y.g a o (x.g a o e),λa e=>y.p a (x.p a e),λa e n=>?_,λa e n=>?_,λa o e n=>?_⟩
 .by_cases q:W.G a=Option.none
  .exact key a (y.gf a q n)
  .exact x.gf a e q
 .by_cases q:W.Pn a
  .exact x.pf a e q
  .exact key a (y.pf a q n)
 .refine y.h a o (by rw[ww (by rw[e];simp)];exact x.h a o e n) λq=>?_
  have:=x.pf a n q;rw[e] at this;cases this
theorem SOk.rebIn(s:SOk K W0 H0 W σ H ρ):SOk K W (reb W H0 H) W σ H ρ:=s.base (.rebIn s.ok) λ_ h g p=>Cg h g p
theorem SOk.rebOut{σ':L2.St}{ρ':bV}(x:Ext W0 H0 W H)(s:SOk K W (reb W H0 H) W' σ' H' ρ'):SOk K W0 H0 W' σ' H' ρ':=s.base (x.rebOut s.ext) λa h _ _=>by
 cases q:H0 a with
 |none=>rfl
 |some o=>
  have hq:H0 a≠none:=by rw[q];simp
  rw[ww hq] at h;exact Eb h (x.nz hq)
theorem SOk.chgB{Hm:Hp}(s:SOk K W0 H0 W σ H ρ)(T:Addr->Prop)(hT:∀c,T c->(H0 c≠none\/H c=none)/\W.G c=none/\¬W.Pn c/\H0' c=Hm c)(hN:∀c,¬T c->H0' c=H0 c/\Hm c=H c):SOk K W0 H0' W σ Hm ρ:=by
 have own:∀{a:Addr} {o:HO},H0 a=none->H a=some o->¬T a:=λ{a o} h0 h t=>by
  rcases(hT a t).1 with z|z
  .exact z h0
  .rw[h] at z;cases z
 have own1:∀{b:Addr} {xs:List D},Own1 K H0 W H b xs->Own1 K H0' W Hm b xs:=λ{b xs} ⟨vs,e2,e3,e4,e5,r⟩=>by
  have n:=hN b (own e5 e2);exact⟨vs,by rw[n.2];exact e2,e3,e4,by rw[n.1];exact e5,r⟩
 refine⟨⟨⟨λa o e=>?_,λa e=>?_⟩,s.ext.g,s.ext.p,λa e n=>?_,λa e n=>?_,λa o e n=>?_⟩,s.len,s.d,λi xs e=>?_,s.ne,⟨λi xss e=>?_,s.oo.u⟩⟩
 .rw[(hN a λt=>by rw[(hT a t).2.1] at e;cases e).2];exact s.ok.g a o e
 .obtain⟨⟨i,j,k,q⟩,g⟩:=s.ok.p a e
  exact⟨⟨i,j,k,by rw[(hN a λt=>(hT a t).2.2.1 e).2];exact q⟩,g⟩
 .rw[(hN a λt=>n (hT a t).2.1).1];exact s.ext.gf a e n
 .rw[(hN a λt=>(hT a t).2.2.1 n).1];exact s.ext.pf a e n
 .by_cases t:T a
  .rw[<-(hT a t).2.2.2];exact e
  .rw[(hN a t).1] at e;rw[(hN a t).2];exact s.ext.h a o e n
 .obtain⟨a,vs,e1,e2⟩:=s.o i xs e
  obtain⟨vs',q⟩:=own1 ⟨vs,e2⟩;exact⟨a,vs',e1,q⟩
 .obtain⟨a,bs,e1,q,n⟩:=s.oo.t i xss e
  have na:=hN a (own q.a4 q.a1);exact⟨a,bs,e1,⟨by rw[na.2];exact q.a1,q.a2,q.a3,by rw[na.1];exact q.a4,q.nd,q.len,λj b e=>let⟨xs,e1,p⟩:=q.row j b e;⟨xs,e1,own1 p⟩⟩,n⟩
theorem DOk.now(d:DOk K W0 H0 W Δ)(x:Ext W0 H0 W H)(e:Δ b=some xs):∃us,H0 b=some (.lst us)/\H b=some (.lst us)/\W.G b=none/\¬W.Pn b/\Reps K W us xs:=by
 obtain⟨us,h1,h2,h3,r⟩:=d b xs e;refine⟨us,h1,x.h b _ h1 h3,?_,λz=>?_,r⟩
 .cases q:W.G b with
  |none=>rfl
  |some o=>have:=x.gf b h2 (by rw[q];simp);rw[h1] at this;cases this
 .have:=x.pf b h3 z;rw[h1] at this;cases this
theorem SOk.after(s:SOk K W0 H0 W σ H ρ)(d:DOk K W0 H0 W Δ)(m:Mv Δ H Δ1 H0')(y:Ext W H0' W1 H1)(d1:DOk K W H0' W1 Δ1):∃H0'',Mv Δ H0 Δ1 H0''/\SOk K W0 H0'' W1 σ H1 ρ/\DOk K W0 H0'' W1 Δ1:=by
 classical
 let T:Addr->Prop:=λc=>Δ c≠none\/Δ1 c≠none
 let H0'':Hp:=λc=>if T c then H0' c else H0 c
 let Hm:Hp:=λc=>if T c then H0' c else H c
 have tT:∀c,T c->(H0 c≠none\/H c=none)/\W.G c=none/\¬W.Pn c:=λc t=>by
  rcases t with t|t
  .cases q:Δ c with
   |none=>exact Eb q t
   |some xs=>obtain⟨us,h1,h2,h3,h4,r⟩:=d.now s.ext q;exact⟨.inl (by rw[h1];simp),h3,h4⟩
  .cases q:Δ1 c with
   |none=>exact Eb q t
   |some xs=>
    obtain⟨us,h1,h2,h3,r⟩:=d1 c xs q;refine⟨?_,h2,h3⟩;cases p:Δ c with
    |some ys=>obtain⟨us,h1,_⟩:=d.now s.ext p;exact .inl (by rw[h1];simp)
    |none=>
     cases e:H c with
     |none=>exact .inr rfl
     |some o=>have:=(m c o p e).2;rw[q] at this;cases this
 have at1:∀c,T c->H0'' c=H0' c/\Hm c=H0' c:=λc t=>⟨if_pos t,if_pos t⟩;have at0:∀c,¬T c->H0'' c=H0 c/\Hm c=H c:=λc t=>⟨if_neg t,if_neg t⟩;have s1:SOk K W0 H0'' W σ Hm ρ:=s.chgB T (λc t=>⟨(tT c t).1,(tT c t).2.1,(tT c t).2.2,(at1 c t).1.trans (at1 c t).2.symm⟩) at0;have x1:Ext W Hm W1 H1:=y.le λc o e=>by
  by_cases t:T c
  .rw[(at1 c t).2] at e;exact e
  .rw[(at0 c t).2] at e
   have:Δ c=none:=by cases q:Δ c with|none=>rfl|some xs=>exact Eb (.inl (by rw[q];simp)) t
   exact(m c o this e).1
 refine⟨H0'',λc o h e=>?_,s1.step x1,λb xs e=>?_⟩
 .have n1:Δ1 c=none:=by
   cases q:H c with
   |none=>exact Eb q (s.ext.nz (by rw[e];simp))
   |some o'=>exact(m c o' h q).2
  refine⟨?_,n1⟩;rw[(at0 c λt=>by rcases t with t|t;exact t h;exact t n1).1];exact e
 .obtain⟨us,h1,h2,h3,r⟩:=d1 b xs e
  refine⟨us,by rw[(at1 b (.inr (by rw[e];simp))).1];exact h1,?_,λz=>h3 (s.ext.p b z),r⟩;cases q:W0.G b with
  |none=>rfl
  |some o=>have:=s.ext.g b o q;rw[h2] at this;cases this
end
abbrev ED:=Ex->Dl->Prop
structure NdD where
 nx:bV->Dl->Prop
 rt:D->Dl->Prop
 bk:bV->Dl->Prop:=λ_ _=>False
 ct:bV->Dl->Prop:=λ_ _=>False
def NdD.to(N:NdD)(Δ:Dl):Nds:=⟨λρ=>N.nx ρ Δ,λd=>N.rt d Δ,λρ=>N.bk ρ Δ,λρ=>N.ct ρ Δ⟩
structure NdD.le(N N':NdD):Prop where
 nx:∀ρ Δ,N.nx ρ Δ->N'.nx ρ Δ
 rt:∀d Δ,N.rt d Δ->N'.rt d Δ
 bk:∀ρ Δ,N.bk ρ Δ->N'.bk ρ Δ
 ct:∀ρ Δ,N.ct ρ Δ->N'.ct ρ Δ
def NxD(K:D9)(W0:Wd)(H0:Hp)(Δ:Dl)(F:Wd)(n:L2.St->Hp->Prop)(N:bV->Dl->Prop):Prop:=∀H0' Δ' W σ H ρ,Mv Δ H0 Δ' H0'->SOk K W0 H0' W σ H ρ->DOk K W0 H0' W Δ'->Wle F W->N ρ Δ'->n σ H
def RtD(K:D9)(W0:Wd)(H0:Hp)(Δ:Dl)(n:V->Hp->Prop)(N:D->Dl->Prop):Prop:=∀H0' Δ' d v W H,Mv Δ H0 Δ' H0'->Ext W0 H0' W H->DOk K W0 H0' W Δ'->Rep K W v d->N d Δ'->n v H
structure NOkD(K:D9)(W0:Wd)(H0:Hp)(Δ:Dl)(F:Wd)(Dn:fO)(N:NdD):Prop where
 nx:NxD K W0 H0 Δ F Dn.nx N.nx
 rt:RtD K W0 H0 Δ Dn.rt N.rt
 bk:NxD K W0 H0 Δ F Dn.bk N.bk
 ct:NxD K W0 H0 Δ F Dn.ct N.ct
def EOkD(K:D9)(W0:Wd)(H0:Hp)(Δ:Dl)(E:ED)(EX:XK):Prop:=∀H0' Δ' ex W H cls dx,Mv Δ H0 Δ' H0'->E ex Δ'->Ext W0 H0' W H->DOk K W0 H0' W Δ'->nw K W H cls dx ex->EX cls dx H
section
variable{F:Wd}{N:NdD}{E:ED}
theorem NxD.mv{n:L2.St->Hp->Prop}{N:bV->Dl->Prop}(o:NxD K W0 H0 Δ F n N)(m:Mv Δ H0 Δ1 H1):NxD K W0 H1 Δ1 F n N:=λH0' Δ' W σ H ρ m'=>o H0' Δ' W σ H ρ (m.trans m')
theorem RtD.mv{n:V->Hp->Prop}{N:D->Dl->Prop}(o:RtD K W0 H0 Δ n N)(m:Mv Δ H0 Δ1 H1):RtD K W0 H1 Δ1 n N:=λH0' Δ' d v W H m'=>o H0' Δ' d v W H (m.trans m')
theorem NOkD.mv(o:NOkD K W0 H0 Δ F Dn N)(m:Mv Δ H0 Δ1 H1):NOkD K W0 H1 Δ1 F Dn N:=⟨o.nx.mv m,o.rt.mv m,o.bk.mv m,o.ct.mv m⟩
theorem EOkD.mv(o:EOkD K W0 H0 Δ E EX)(m:Mv Δ H0 Δ1 H1):EOkD K W0 H1 Δ1 E EX:=λH0' Δ' ex W H cls dx m'=>o H0' Δ' ex W H cls dx (m.trans m')
end
abbrev fv:=ED->bV->Dl->(D->Dl->Prop)->Prop
abbrev gU:=ED->bV->Dl->(Bool->Dl->Prop)->Prop
abbrev cQ:=ED->NdD->bV->Dl->Prop
variable{zb:cQ}
def RD(K:D9)(W0:Wd)(H0:Hp)(Δ:Dl)(W:Wd)(σ:L2.St)(ρ:bV)(Q:Hp->Prop)(R:Wd->Prop)(Δ':Dl):Prop:=∀W' H0' H',Mv Δ H0 Δ' H0'->SOk K W0 H0' W' σ H' ρ->DOk K W0 H0' W' Δ'->Wle W W'->R W'->Q H'
structure f8(X:Cx)(EX:XK)(e:Expr)(w:fv):Prop where
 t:∃t,PE X e t/\∀W0 H0 W σ H ρ Δ E Q,SOk X.K W0 H0 W σ H ρ->DOk X.K W0 H0 W Δ->EOkD X.K W0 H0 Δ E EX->w E ρ Δ (λd Δ'=>∀v,RD X.K W0 H0 Δ W σ ρ (Q v) (λW'=>Rep X.K W' v d) Δ')->t σ H Q
 mono:∀E ρ Δ P P',(∀d δ,P d δ->P' d δ)->w E ρ Δ P->w E ρ Δ P'
structure fw(X:Cx)(EX:XK)(e:Expr)(w:gU):Prop where
 t:∃t,PT X e t/\∀W0 H0 W σ H ρ Δ E Q,SOk X.K W0 H0 W σ H ρ->DOk X.K W0 H0 W Δ->EOkD X.K W0 H0 Δ E EX->w E ρ Δ (λb Δ'=>RD X.K W0 H0 Δ W σ ρ (Q b) (λ_=>True) Δ')->t σ H Q
 mono:∀E ρ Δ P P',(∀d δ,P d δ->P' d δ)->w E ρ Δ P->w E ρ Δ P'
structure j7(X:Cx)(EX:XK)(st:Stmt)(z:cQ):Prop where
 t:∃t,PS X st t/\∀W0 H0 F W σ H ρ Δ E Dn N,SOk X.K W0 H0 W σ H ρ->DOk X.K W0 H0 W Δ->Wle F W->EOkD X.K W0 H0 Δ E EX->NOkD X.K W0 H0 Δ F Dn N->z E N ρ Δ->t Dn σ H
 mono:∀E ρ Δ N N',N.le N'->z E N ρ Δ->z E N' ρ Δ
structure c8(X:Cx)(EX:XK)(sts:List Stmt)(z:cQ):Prop where
 t:∃t,i6 X sts t/\∀W0 H0 F W σ H ρ Δ E Dn N,SOk X.K W0 H0 W σ H ρ->DOk X.K W0 H0 W Δ->Wle F W->EOkD X.K W0 H0 Δ E EX->NOkD X.K W0 H0 Δ F Dn N->z E N ρ Δ->t Dn σ H
 mono:∀E ρ Δ N N',N.le N'->z E N ρ Δ->z E N' ρ Δ
section
variable{W F:Wd}{N:NdD}{E:ED}
theorem EOkD.one(o:EOkD K W0 H0 Δ E EX)(x:Ext W0 H0 W H)(d:DOk K W0 H0 W Δ):gK K W (reb W H0 H) (λex=>E ex Δ) EX:=λex W' H' cls dx he y r=>o H0 Δ ex W' H' cls dx .refl he (x.rebOut y) (d.step y.wle) r
theorem RD.of{Q:Hp->Prop}(h:RD K W0 H0 Δ W σ ρ Q R Δ)(s:SOk K W0 H0 W σ H ρ)(d:DOk K W0 H0 W Δ)(y:Ext W H W1 H1)(r:R W1):Q H1:=h W1 H0 H1 .refl (s.step y) (d.step y.wle) y.wle r
theorem RD.mv{Q:Hp->Prop}(h:RD K W0 H0 Δ W σ ρ Q R Δ2)(m:Mv Δ H0 Δ1 H1)(g:Wle W W1):RD K W0 H1 Δ1 W1 σ ρ Q R Δ2:=λW' H0' H' m' s' d' g' r'=>h W' H0' H' (m.trans m') s' d' (g.trans g') r'
end
section
variable{st:Stmt}{rest:List Stmt}{a b c:Expr}{w:WE}{wd wb:fv}{zd zd':cQ}
def dE(w:WE):fv:=λE ρ Δ Q=>w (λex=>E ex Δ) ρ λd=>Q d Δ
def dT(w:WT):gU:=λE ρ Δ Q=>w (λex=>E ex Δ) ρ λb=>Q b Δ
theorem zn{w:WT}(h:fD X EX e w):fw X EX e (dT w):=by
 obtain⟨t,p,k⟩:=h.t;refine⟨⟨t,p,λW0 H0 W σ H ρ Δ E Q s d eo q=>?_⟩,λE ρ Δ P P' hp q=>h.mono _ _ _ _ (λd hd=>hp d Δ hd) q⟩;exact k W _ W σ H ρ _ Q s.rebIn (eo.one s.ext d) (h.mono _ _ _ _ (λ_ hd W1 H1 y=>hd.of s d y trivial) q)
def dS(z:WS):cQ:=λE N ρ Δ=>z (λex=>E ex Δ) (N.to Δ) ρ
theorem dS.le{N N':NdD}(hl:N.le N')(Δ:Dl):(N.to Δ).le (N'.to Δ):=⟨λρ=>hl.nx ρ Δ,λd=>hl.rt d Δ,λρ=>hl.bk ρ Δ,λρ=>hl.ct ρ Δ⟩
theorem NOkD.one{W F:Wd}{N:NdD}(no:NOkD K W0 H0 Δ F Dn N)(s:SOk K W0 H0 W σ H ρ)(d:DOk K W0 H0 W Δ)(fl:Wle F W):uq K W (reb W H0 H) W Dn (N.to Δ):=
 ⟨λW1 σ1 H1 ρ1 s1 f1 q=>no.nx H0 Δ W1 σ1 H1 ρ1 .refl (s1.rebOut s.ext) (d.step f1) (fl.trans f1) q,λx v W1 H1 y r q=>no.rt H0 Δ x v W1 H1 .refl (s.ext.rebOut y) (d.step y.wle) r q,
  λW1 σ1 H1 ρ1 s1 f1 q=>no.bk H0 Δ W1 σ1 H1 ρ1 .refl (s1.rebOut s.ext) (d.step f1) (fl.trans f1) q,λW1 σ1 H1 ρ1 s1 f1 q=>no.ct H0 Δ W1 σ1 H1 ρ1 .refl (s1.rebOut s.ext) (d.step f1) (fl.trans f1) q⟩
theorem eX(h:PZ X EX st z):j7 X EX st (dS z):=by
 obtain⟨t,p,k⟩:=h.t;refine⟨⟨t,p,λW0 H0 F W σ H ρ Δ E Dn N s d fl eo no q=>?_⟩,λE ρ Δ N N' hl q=>h.mono _ _ _ _ (dS.le hl Δ) q⟩;exact k W _ W W σ H ρ _ Dn _ s.rebIn (.refl W) (eo.one s.ext d) (no.one s d fl) q
theorem dq(h:ia X EX sts z):c8 X EX sts (dS z):=by
 obtain⟨t,p,k⟩:=h.t;refine⟨⟨t,p,λW0 H0 F W σ H ρ Δ E Dn N s d fl eo no q=>?_⟩,λE ρ Δ N N' hl q=>h.mono _ _ _ _ (dS.le hl Δ) q⟩;exact k W _ W W σ H ρ _ Dn _ s.rebIn (.refl W) (eo.one s.ext d) (no.one s d fl) q
def aN(z z':cQ):cQ:=λE N ρ Δ=>z E { N with nx:=z' E N } ρ Δ
theorem ck(h1:j7 X EX st zd)(h2:c8 X EX rest zd'):c8 X EX (st::rest) (aN zd zd'):=by
 obtain⟨t1,p1,k1⟩:=h1.t;obtain⟨t2,p2,k2⟩:=h2.t;refine⟨⟨_,dY p1 p2,λW0 H0 F W σ H ρ Δ E Dn N s d fl eo no h=>?_⟩,λE ρ Δ N N' hl h=>h1.mono _ _ _ { N with nx:=zd' E N } { N' with nx:=zd' E N' } ⟨λρ' Δ' h'=>h2.mono _ _ _ _ _ hl h',hl.rt,hl.bk,hl.ct⟩ h⟩;exact k1 W0 H0 F W σ H ρ Δ E _ { N with nx:=zd' E N } s d fl eo ⟨λH0' Δ' W1 σ1 H1 ρ1 m s1 d1 f1 hn=>k2 W0 H0' F W1 σ1 H1 ρ1 Δ' E Dn N s1 d1 f1 (eo.mv m) (no.mv m) hn,no.rt,no.bk,no.ct⟩ h
theorem oJ(h:j7 X EX st zd):c8 X EX [st] zd:=let⟨t,p,k⟩:=h.t;⟨⟨_,cU p,k⟩,h.mono⟩
def dt(w:gU)(z z':cQ):cQ:=λE N ρ Δ=>w E ρ Δ λb δ=>if b=true then z E N ρ δ else z' E N ρ δ
theorem j8{w:gU}{bs:List Stmt}(hc:fw X EX c w)(ha:c8 X EX as zd)(hb:c8 X EX bs zd'):j7 X EX (.If c as bs pos) (dt w zd zd'):=by
 obtain⟨t,p,k⟩:=hc.t;obtain⟨ta,pa,ka⟩:=ha.t;obtain⟨tb,pb,kb⟩:=hb.t;refine⟨⟨_,lY p pa pb,λW0 H0 F W σ H ρ Δ E Dn N s d fl eo no h=>?_⟩,λE ρ Δ N N' hl q=>hc.mono _ _ _ _ _ (λb δ hb'=>?_) q⟩
 .refine k W0 H0 W σ H ρ Δ E _ s d eo (hc.mono _ _ _ _ _ (λb δ hb' W1 H0' H1 m s1 d1 g1 _=>?_) h)
  cases b with
  |true=>rw[if_pos rfl] at hb' ⊢;exact ka W0 H0' F W1 σ H1 ρ δ E Dn N s1 d1 (fl.trans g1) (eo.mv m) (no.mv m) hb'
  |false=>rw[if_neg (by decide)] at hb' ⊢;exact kb W0 H0' F W1 σ H1 ρ δ E Dn N s1 d1 (fl.trans g1) (eo.mv m) (no.mv m) hb'
 .cases b with
  |true=>rw[if_pos rfl] at hb' ⊢;exact ha.mono _ _ _ _ _ hl hb'
  |false=>rw[if_neg (by decide)] at hb' ⊢;exact hb.mono _ _ _ _ _ hl hb'
def nV(w:fv):cQ:=λE N ρ Δ=>w E ρ Δ N.rt
theorem Ch(he:f8 X EX e wd):j7 X EX (.Return (some e) pos) (nV wd):=by
 obtain⟨t,p,k⟩:=he.t;refine⟨⟨_,jp p,λW0 H0 F W σ H ρ Δ E Dn N s d fl eo no h=>?_⟩,λE ρ Δ N N' hl q=>he.mono _ _ _ _ _ hl.rt q⟩;exact k W0 H0 W σ H ρ Δ E _ s d eo (he.mono _ _ _ _ _ (λx δ hd v W1 H0' H1 m s1 d1 g1 r1=>no.rt H0' δ x v W1 H1 m s1.ext d1 r1 hd) h)
def oK(w:fv):cQ:=λE N ρ Δ=>w E ρ Δ λ_ δ=>N.nx ρ δ
theorem wx(he:f8 X EX e wd)(hs:swapsWith e none pos.line X.env=pure false:=by rfl):j7 X EX (.Expr e pos) (oK wd):=by
 obtain⟨t,p,k⟩:=he.t;refine⟨⟨_,dR p hs,λW0 H0 F W σ H ρ Δ E Dn N s d fl eo no h=>?_⟩,λE ρ Δ N N' hl q=>he.mono _ _ _ _ _ (λ_ δ=>hl.nx ρ δ) q⟩;exact k W0 H0 W σ H ρ Δ E _ s d eo (he.mono _ _ _ _ _ (λx δ hd v W1 H0' H1 m s1 d1 g1 r1=>no.nx H0' δ W1 σ H1 ρ m s1 d1 (fl.trans g1) hd) h)
def nW(i:Nat)(w:fv):cQ:=λE N ρ Δ=>w E ρ Δ λx δ=>N.nx (ρ.set i (.d x)) δ
theorem Ci(i:Nat)(he:f8 X EX e wd)(hN:X.N.Nodup)(hi:X.N[i]? = some x:=by rfl)(hx:i5 X.env.scope x:=by first|exact Or.inl rfl|exact Or.inr rfl)(hs:swapsWith e (some (.Name x pos')) pos.line X.env=pure false:=by rfl)
  (hf:X.fn x=true\/X.env.scope.names.lookup x=some .local:=by first|exact .inl rfl|exact .inr rfl|assumption):j7 X EX (.Assign [.Name x pos'] e pos) (nW i wd):=by
 obtain⟨t,p,k⟩:=he.t;refine⟨⟨_,df hN hi hx p hs hf,λW0 H0 F W σ H ρ Δ E Dn N s d fl eo no h=>?_⟩,λE ρ Δ N N' hl q=>he.mono _ _ _ _ _ (λ_ δ=>hl.nx _ δ) q⟩;exact k W0 H0 W σ H ρ Δ E _ s d eo (he.mono _ _ _ _ _ (λy δ hd v W1 H0' H1 m s1 d1 g1 r1=>no.nx H0' δ W1 _ H1 _ m (s1.set r1) d1 (fl.trans g1) hd) h)
def qU(w w':gU):gU:=λE ρ Δ Q=>w E ρ Δ λb δ=>if b=true then Q true δ else w' E ρ δ Q
structure PXWD(X:Cx)(EX:XK)(e:Expr)(w:gU):Prop where
 t:∃t,PW X e t/\∀W0 H0 W σ H ρ Δ E Q,SOk X.K W0 H0 W σ H ρ->DOk X.K W0 H0 W Δ->EOkD X.K W0 H0 Δ E EX->w E ρ Δ (λb Δ'=>RD X.K W0 H0 Δ W σ ρ (Q b) (λ_=>True) Δ')->t σ H Q
 mono:∀E ρ Δ P P',(∀d δ,P d δ->P' d δ)->w E ρ Δ P->w E ρ Δ P'
theorem PXWD.pxt{w:gU}(h:PXWD X EX a w):fw X EX a w:=let⟨t,p,k⟩:=h.t;⟨⟨t,p.pt,k⟩,h.mono⟩
theorem Cj{w:gU}(ha:fw X EX a w):PXWD X EX (.BoolOp .Or [a] pos) w:=let⟨t,p,k⟩:=ha.t;⟨⟨t,jm p,k⟩,ha.mono⟩
theorem Zj{w w':gU}(ha:fw X EX a w)(hb:PXWD X EX (.BoolOp .Or (b::es) pos) w'):PXWD X EX (.BoolOp .Or (a::b::es) pos) (qU w w'):=by
 obtain⟨ta,pa,ka⟩:=ha.t;obtain⟨tb,pb,kb⟩:=hb.t;refine⟨⟨_,lX pa pb,λW0 H0 W σ H ρ Δ E Q s d eo h=>?_⟩,λE ρ Δ P P' hp h=>ha.mono _ _ _ _ _ (λb δ hb'=>?_) h⟩
 .refine ka W0 H0 W σ H ρ Δ E _ s d eo (ha.mono _ _ _ _ _ (λb δ hb' W1 H0' H1 m s1 d1 g1 _=>?_) h)
  cases b with
  |true=>rw[if_pos rfl] at hb' ⊢;exact hb' W1 H0' H1 m s1 d1 g1 trivial
  |false=>
   rw[if_neg (by decide)] at hb' ⊢;exact kb W0 H0' W1 σ H1 ρ δ E _ s1 d1 (eo.mv m) (hb.mono _ _ _ _ _ (λb _ hq=>hq.mv m g1) hb')
 .cases b with
  |true=>rw[if_pos rfl] at hb' ⊢;exact hp _ _ hb'
  |false=>rw[if_neg (by decide)] at hb' ⊢;exact hb.mono _ _ _ _ _ hp hb'
def lD(w:gU):gU:=λE ρ Δ Q=>w E ρ Δ λb=>Q (!b)
theorem Ck{w:gU}(ha:fw X EX a w):fw X EX (.UnaryOp .Not a pos) (lD w):=by
 obtain⟨ta,pa,ka⟩:=ha.t;exact⟨⟨_,jn pa,λW0 H0 W σ H ρ Δ E Q s d eo h=>ka W0 H0 W σ H ρ Δ E _ s d eo h⟩,λE ρ Δ P P' hp h=>ha.mono _ _ _ _ _ (λb δ hb=>hp _ _ hb) h⟩
def sP(w:fv):gU:=λE ρ Δ Q=>w E ρ Δ λd δ=>isB (λb=>Q b δ) d
theorem Cl(ha:f8 X EX a wd)(he:∀whole,isTrue a X.env whole=(do let v <-whole;standAt a.pos;holding [v] (truthy v)):=by intro _;rfl):fw X EX a (sP wd):=by
 obtain⟨ta,pa,ka⟩:=ha.t;refine⟨⟨_,fP pa he,λW0 H0 W σ H ρ Δ E Q s d eo h=>?_⟩,λE ρ Δ P P' hp h=>ha.mono _ _ _ _ _ (λd δ hd=>isB.mono (λb=>hp b δ) d hd) h⟩;refine ka W0 H0 W σ H ρ Δ E _ s d eo (ha.mono _ _ _ _ _ (λx δ hd v W1 H0' H1 m s1 d1 g1 r1=>?_) h);obtain⟨b,rfl,q⟩:=lj hd;cases r1;exact⟨b,rfl,q W1 H0' H1 m s1 d1 g1 trivial⟩
def bM(g:G2)(wd:fv)(w:WE):gU:=λE ρ Δ Q=>wd E ρ Δ λx δ=>w (λex=>E ex δ) ρ λy=>g x y (isB λb=>Q b δ)
theorem Zb{g:G2}(ho:cX X (compareOp op) g)(ha:f8 X EX a wd)(hb:PX X EX b w)(hm:behindInMarks op b=false:=by first|exact gy _|with_unfolding_all rfl):fw X EX (.Compare a [op] [b] pos) (bM g wd w):=by
 obtain⟨ta,pa,ka⟩:=ha.t;obtain⟨tb,pb,kb⟩:=hb.t;obtain⟨r,pr,kr⟩:=ho.t;refine⟨⟨_,dU pr pa pb hm,λW0 H0 W σ H ρ Δ E Q s d eo h=>?_⟩,λE ρ Δ P P' hp h=>ha.mono _ _ _ _ _ (λx δ hx=>hb.mono _ _ _ _ (λy hy=>ho.mono _ _ _ _ (isB.mono λb=>hp b δ) hy) hx) h⟩;refine ka W0 H0 W σ H ρ Δ E _ s d eo (ha.mono _ _ _ _ _ (λx δ hx v W1 H0' H1 m s1 d1 g1 r1=>?_) h);refine kb W1 _ W1 σ H1 ρ _ _ s1.rebIn ((eo.mv m).one s1.ext d1) (hb.mono _ _ _ _ (λy hy u W2 H2 y2 r2=>?_) hx);refine kr W2 H2 v u x y _ y2.ok (y2.rep r1) r2 (ho.mono _ _ _ _ (λdd hd v3 W3 H3 y3 r3=>?_) hy);obtain⟨b,rfl,q⟩:=lj hd;cases r3;exact⟨b,rfl,(q.mv m g1).of s1 d1 (y2.trans y3) trivial⟩
end
def cE(Δ:Dl)(b:Addr)(xs:List D):Dl:=λc=>if c=b then some xs else Δ c
theorem lE:cE Δ b xs b=some xs:=if_pos rfl
theorem oM{c:Addr}(h:c≠b):cE Δ b xs c=Δ c:=if_neg h
theorem zo(h:Δ b=some xs):cE Δ b xs=Δ:=by
 funext c;unfold cE;split
 .rename_i e;rw[e,h]
 .rfl
abbrev gW:=List D->Dl->ED->(D->Dl->Prop)->Prop
def kJ(S:gW):Prop:=∀ds Δ E E' Q Q',(∀ex δ,E ex δ->E' ex δ)->(∀d δ,Q d δ->Q' d δ)->S ds Δ E Q->S ds Δ E' Q'
def sQ(K:D9)(S:gW):Sp:=λvs H Q EX=>∃ds W Δ,WOk W H/\Reps K W vs ds/\DOk K W H W Δ/\
 S ds Δ (λex δ=>∀H0' W' H' cls dx,Mv Δ H δ H0'->Ext W H0' W' H'->DOk K W H0' W' δ->nw K W' H' cls dx ex->EX cls dx H') (λd δ=>∀v H0' W' H',Mv Δ H δ H0'->Ext W H0' W' H'->DOk K W H0' W' δ->Rep K W' v d->Q v H')
section
variable{W:Wd}{E:ED}
theorem wy{S:gW}{Q:VK}(hS:kJ S)(s:SOk K W0 H0 W σ H ρ)(d:DOk K W0 H0 W Δ)(eo:EOkD K W0 H0 Δ E EX)(r:Reps K W vs ds)(hq:S ds Δ E (λx δ=>∀v,RD K W0 H0 Δ W σ ρ (Q v) (λW'=>Rep K W' v x) δ)):sQ K S vs H Q EX:=by
 refine⟨ds,W,Δ,s.ok,r,λb xs e=>let⟨us,_,h1,h2,h3,r⟩:=d.now s.ext e;⟨us,h1,h2,h3,r⟩,hS _ _ _ _ _ _ (λex δ he H0' W' H' cls dx m y d1 xr=>?_) (λx δ hx v H0' W' H' m y d1 r1=>?_) hq⟩
 .obtain⟨H2,m2,s2,d2⟩:=s.after d m y d1
  exact eo H2 δ ex W' H' cls dx m2 he s2.ext d2 xr
 .obtain⟨H2,m2,s2,d2⟩:=s.after d m y d1
  exact hx v W' H2 H' m2 s2 d2 y.wle r1
theorem SOk.putB(s:SOk K W0 H0 W σ H ρ)(d:DOk K W0 H0 W Δ)(e:Δ b=some xs)(r:Reps K W us ys):Mv Δ H0 (cE Δ b ys) (upd H0 b (.lst us))/\SOk K W0 (upd H0 b (.lst us)) W σ (upd H b (.lst us)) ρ/\DOk K W0 (upd H0 b (.lst us)) W (cE Δ b ys):=by
 obtain⟨vs,h1,h2,h3,h4,_⟩:=d.now s.ext e;refine⟨λc o hc ec=>?_,s.chgB (· = b) (λc hc=>?_) λc hc=>⟨aE hc,aE hc⟩,λc zs ec=>?_⟩
 .have ne:c≠b:=λz=>by rw[z,e] at hc;cases hc
  exact⟨by rw[aE ne];exact ec,by rw[oM ne];exact hc⟩
 .subst hc
  exact⟨.inl (by rw[h1];simp),h3,h4,by rw[aF,aF]⟩
 .by_cases ne:c=b
  .subst ne
   rw[lE] at ec;cases ec;obtain⟨_,_,g,p,_⟩:=d c xs e;exact⟨us,aF,g,p,r⟩
  .rw[oM ne] at ec
   obtain⟨ws,q1,q2⟩:=d c zs ec;exact⟨ws,by rw[aE ne];exact q1,q2⟩
theorem SOk.newB(s:SOk K W0 H0 W σ H ρ)(d:DOk K W0 H0 W Δ)(e:H b=none)(r:Reps K W us ys):Δ b=none/\Mv Δ H0 (cE Δ b ys) (upd H0 b (.lst us))/\SOk K W0 (upd H0 b (.lst us)) W σ (upd H b (.lst us)) ρ/\DOk K W0 (upd H0 b (.lst us)) W (cE Δ b ys):=by
 have hn:Δ b=none:=by
  cases q:Δ b with
  |none=>rfl
  |some xs=>obtain⟨_,_,h,_⟩:=d.now s.ext q;rw[e] at h;cases h
 have h0:H0 b=none:=s.ext.isN e;obtain⟨g,p⟩:=s.ok.fresh e;refine⟨hn,λc o hc ec=>?_,s.chgB (· = b) (λc hc=>?_) λc hc=>⟨aE hc,aE hc⟩,λc zs ec=>?_⟩
 .have ne:c≠b:=λz=>by rw[z,h0] at ec;cases ec
  exact⟨by rw[aE ne];exact ec,by rw[oM ne];exact hc⟩
 .subst hc
  exact⟨.inr e,g,p,by rw[aF,aF]⟩
 .by_cases ne:c=b
  .subst ne
   rw[lE] at ec;cases ec;refine⟨us,aF,?_,λz=>p (s.ext.p _ z),r⟩;cases q:W0.G c with
   |none=>rfl
   |some o=>have:=s.ext.g _ _ q;rw[g] at this;cases this
  .rw[oM ne] at ec
   obtain⟨ws,q1,q2⟩:=d c zs ec;exact⟨ws,by rw[aE ne];exact q1,q2⟩
end
structure sR(P:Program)(w:World)(K:D9)(mg:Str->Option Value)(base:Heap)(k:Nat)(x:Str)(ps:List Str)(S:gW):Prop where
 ok:∃f fd,FnOk P w K mg base (bD P w) k f fd ps (sQ K S)/\mg x=some (.ref f)/\PySem.W.keepIn K (.ref f)=true/\Binds K fd ps []
 mono:kJ S
structure DC(K:D9)(mg:Str->Option Value)(C:Addr):Prop where
 at_:dH K "Desk" = some C
 mg:mg "Desk" = some (.ref C)
 cls:Cls K C
 no:NoAttr K C "standing"
structure qV(P:Program)(w:World)(K:D9)(mg:Str->Option Value)(base:Heap)(k:Nat)(m:Str)(ps:List Str)(S:gW):Prop where
 ok:∃C f fd,DC K mg C/\fQ K C m f/\FnOk P w K mg base (bD P w) k f fd ps (sQ K S)/\Binds K fd ps []
 mono:kJ S
section
variable{o a b:Expr}{m:Str}{S:gW}{w:WE}{wd wd':fv}
def dF(S:gW)(t:WA):fv:=λE ρ Δ Q=>t (λex=>E ex Δ) ρ λds=>S ds Δ E Q
theorem lF(G:sR X.prog X.w X.K X.mg X.base k x ps S)(hr:Room j X.A)(hx:aQ (bD X.prog X.w) X EX)(ha:fE X EX (e::es) t)(hk:k<=j:=by decide)(hg:Gl X x:=by rfl)(hdb:(x==("__debug__" : Str))=false:=by decide)(he:starEach (e::es) X.env=(false,eval e X.env)::starEach es X.env:=by rfl)(hpl:(backTo pos (starEach es X.env)).any (·.1)=false:=by rfl) :
  f8 X EX (.Call (.Name x p) (e::es) [] pos) (dF S t):=by
 obtain⟨f,fd,F,hm,kp,hb⟩:=G.ok;obtain⟨ta,pa,ka⟩:=ha.t;refine⟨⟨_,hX F (hr.mono hk) hg hm kp hb .nil hx pa hdb he hpl,λW0 H0 W σ H ρ Δ E Q s d eo h=>?_⟩,λE ρ Δ P P' hp q=>ha.mono _ _ _ _ (λds hds=>G.mono _ _ _ _ _ _ (λ_ _ z=>z) hp hds) q⟩;refine ka W _ W σ H ρ _ _ s.rebIn (eo.one s.ext d) (ha.mono _ _ _ _ (λds hds vs W1 H1 x1 r1=>?_) h);rw[kn];exact wy G.mono (s.step x1) (d.step x1.wle) eo r1 (G.mono _ _ _ _ _ _ (λ_ _ z=>z) (λx δ hx v=>(hx v).mv .refl x1.wle) hds)
def dM(S:gW)(wo:WE)(t:WA):fv:=λE ρ Δ Q=>wo (λex=>E ex Δ) ρ λo=>∃b,o=.pl 1 b/\t (λex=>E ex Δ) ρ λds=>S (.pl 1 b::ds) Δ E Q
theorem Rep.desk{W:Wd}{v:V}{b C:Addr}(r:Rep K W v (.pl 1 b))(ok:WOk W H)(c:DC K mg C):∃q dx,v=.ref q/\H q=some (.ins C dx [("standing",.ref b)]):=by
 cases r with
 |pl q=>
  obtain⟨C',dx,h1,h2⟩:=q;rw[c.at_] at h2;cases h2;exact⟨_,dx,rfl,ok.g _ _ h1⟩
theorem dM.mono(hS:kJ S)(ho:PX X EX o wo)(ha:∀E ρ P P',(∀d,P d->P' d)->t E ρ P->t E ρ P'):∀E ρ Δ P P',(∀d δ,P d δ->P' d δ)->dM S wo t E ρ Δ P->dM S wo t E ρ Δ P':=
 λE ρ Δ P P' hp q=>ho.mono _ _ _ _ (λo ⟨b,eb,z⟩=>⟨b,eb,ha _ _ _ _ (λds hds=>hS _ _ _ _ _ _ (λ_ _ z=>z) hp hds) z⟩) q
theorem Cm(G:qV X.prog X.w X.K X.mg X.base k m ps S)(hr:Room j X.A)(hx:aQ (bD X.prog X.w) X EX)(ho:PX X EX o wo)(ha:fE X EX (e::es) t)(hk:k<=j:=by decide)(hm0:(m==("standing" : Str))=false:=by decide)
  (hst:starEach (e::es) X.env=(false,eval e X.env)::starEach es X.env:=by rfl) (hpl:(backTo pos (starEach es X.env)).any (·.1)=false:=by rfl)
  (ht:eval (.Call (.Attribute o m apos) (e::es) [] pos) X.env=(do
   let ov <-eval o X.env
   standAt apos.atName
   let(f,first) <-holding [ov] (getMethod ov m pl)
   callWith pos f first (backTo pos (starEach (e::es) X.env)) (backToKw pos (keywordEach [] X.env))):=by rfl):f8 X EX (.Call (.Attribute o m apos) (e::es) [] pos) (dM S wo t):=by
 obtain⟨C,f,fd,c,hm,F,hb⟩:=G.ok;obtain⟨to,po,ko⟩:=ho.t;obtain⟨ta,pa,ka⟩:=ha.t;refine⟨⟨_,k7 po c.cls hm F (hr.mono hk) hb .nil hx pa hst hpl ht,λW0 H0 W σ H ρ Δ E Q s d eo h=>?_⟩,dM.mono G.mono ho ha.mono⟩;refine ko W _ W σ H ρ _ _ s.rebIn (eo.one s.ext d) (ho.mono _ _ _ _ (λdd ⟨b,eb,q⟩ v W1 H1 x1 r1=>?_) h);subst eb;obtain⟨p,dx,rfl,hp⟩:=r1.desk x1.ok c;refine⟨p,dx,_,rfl,hp,by simp only[eC,hm0,pp],?_⟩;have s1:=s.step x1;have d1:=d.step x1.wle;refine ka W1 _ W1 σ H1 ρ _ _ s1.rebIn (eo.one s1.ext d1) (ha.mono _ _ _ _ (λds hds vs W2 H2 x2 r2=>?_) q);rw[kn];exact wy G.mono (s1.step x2) (d1.step x2.wle) eo (.cons (x2.rep r1) r2) (G.mono _ _ _ _ _ _ (λ_ _ z=>z) (λx δ hx v=>(hx v).mv .refl (x1.trans x2).wle) hds)
theorem Cn(G:qV X.prog X.w X.K X.mg X.base k m ps S)(hr:Room j X.A)(hx:aQ (bD X.prog X.w) X EX)(ho:PX X EX o wo)(hk:k<=j:=by decide)(hm0:(m==("standing" : Str))=false:=by decide)
  (ht:eval (.Call (.Attribute o m apos) [] [] pos) X.env=(do
   let ov <-eval o X.env
   standAt apos.atName
   let(f,first) <-holding [ov] (getMethod ov m pl)
   callWith pos f first (backTo pos (starEach [] X.env)) (backToKw pos (keywordEach [] X.env))):=by rfl):f8 X EX (.Call (.Attribute o m apos) [] [] pos) (dM S wo aC):=by
 obtain⟨C,f,fd,c,hm,F,hb⟩:=G.ok;obtain⟨to,po,ko⟩:=ho.t;refine⟨⟨_,jE po c.cls hm F (hr.mono hk) hb .nil hx ht,λW0 H0 W σ H ρ Δ E Q s d eo h=>?_⟩,dM.mono G.mono ho λ_ _ _ _ hp z=>hp _ z⟩;refine ko W _ W σ H ρ _ _ s.rebIn (eo.one s.ext d) (ho.mono _ _ _ _ (λdd ⟨b,eb,q⟩ v W1 H1 x1 r1=>?_) h);subst eb;obtain⟨p,dx,rfl,hp⟩:=r1.desk x1.ok c;refine⟨p,dx,_,rfl,hp,by simp only[eC,hm0,pp],?_⟩;exact wy G.mono (s.step x1) (d.step x1.wle) eo (.cons r1 .nil) (G.mono _ _ _ _ _ _ (λ_ _ z=>z) (λx δ hx v=>(hx v).mv .refl x1.wle) q)
def f9:D->(D->Prop)->Prop:=λd Q=>∃b,d=.pl 1 b/\Q (.pl 0 b)
theorem Co{C:Addr}(c:DC X.K X.mg C)(ha:PX X EX a wa)(hb:attributeBase a "standing" X.env (eval a X.env)=eval a X.env:=by rfl):PX X EX (.Attribute a "standing" pos) (w1 f9 wa):=by
 obtain⟨ta,pa,ka⟩:=ha.t;refine⟨⟨_,m9 pa hb,λW0 H0 W σ H ρ E Q s eo q=>ka W0 H0 W σ H ρ E _ s eo (ha.mono _ _ _ _ (λd ⟨b,eb,q⟩ v W1 H1 x1 r1=>?_) q)⟩,λE ρ P P' hp q=>ha.mono _ _ _ _ (λd ⟨b,eb,q⟩=>⟨b,eb,hp _ q⟩) q⟩;subst eb;obtain⟨p,dx,rfl,h⟩:=r1.desk x1.ok c;exact⟨p,C,dx,_,_,rfl,h,c.cls,c.no,rfl,q _ _ _ x1 (.pl rfl)⟩
theorem Rep.at0{W:Wd}{v:V}{b:Addr}(r:Rep K W v (.pl 0 b)):v=.ref b:=by
 cases r with
 |pl q=>exact congrArg V.ref q
def wz(wa wb:WE):fv:=λE ρ Δ Q=>wa (λex=>E ex Δ) ρ λo=>∃b,o=.pl 0 b/\wb (λex=>E ex Δ) ρ (isI λi=>∃xs d,Δ b=some xs/\cA xs i=some d/\Q d Δ)
theorem Cp(ha:PX X EX a wa)(hb:PX X EX b wb)(hs:cV b:=by exact λ_ _=>rfl):f8 X EX (.Subscript a b pos) (wz wa wb):=by
 obtain⟨ta,pa,ka⟩:=ha.t;obtain⟨tb,pb,kb⟩:=hb.t;refine⟨⟨_,h8 ix_list pa pb hs,λW0 H0 W σ H ρ Δ E Q s d eo h=>?_⟩,λE ρ Δ P P' hp q=>ha.mono _ _ _ _ (λo ⟨b,eb,z⟩=>⟨b,eb,hb.mono _ _ _ _ (isI.mono λi ⟨xs,d,h1,h2,h3⟩=>⟨xs,d,h1,h2,hp _ _ h3⟩) z⟩) q⟩;refine ka W _ W σ H ρ _ _ s.rebIn (eo.one s.ext d) (ha.mono _ _ _ _ (λdd ⟨b,eb,q⟩ v W1 H1 x1 r1=>?_) h);subst eb;obtain rfl:=r1.at0;have s1:=s.step x1;have d1:=d.step x1.wle;refine kb W1 _ W1 σ H1 ρ _ _ s1.rebIn (eo.one s1.ext d1) (hb.mono _ _ _ _ (λdi hdi vi W2 H2 x2 r2=>?_) q);obtain⟨i,rfl,xs,y,h1,h2,hq⟩:=nE hdi;cases r2;obtain⟨us,_,g1,_,_,rr⟩:=(d1.step x2.wle).now (s1.step x2).ext h1;obtain⟨j,e1,e2⟩:∃j,iF xs.length i=some j/\xs[j]? = some y:=by
  unfold cA at h2;cases z:iF xs.length i with
  |none=>rw[z] at h2;cases h2
  |some j=>rw[z] at h2;exact⟨j,rfl,h2⟩
 obtain⟨u,eu,ru⟩:=rr.get e2;refine⟨b,us,i,u,rfl,rfl,SqL.of g1,by unfold cA;rw[rr.length,e1];exact eu,?_⟩;exact hq u W2 H0 H2 .refl (s1.step x2) (d1.step x2.wle) (x1.trans x2).wle ru
def nX(wa:WE):fv:=λE ρ Δ Q=>wa (λex=>E ex Δ) ρ λo=>∃b xs,o=.pl 0 b/\Δ b=some xs/\Q (.int xs.length) Δ
theorem Cq(hm:X.mg "len" = none)(ha:PX X EX a wa)(hg:Gl X "len" :=by rfl)(he:starEach [a] X.env=(false,eval a X.env)::starEach [] X.env:=by rfl)(hpl:(backTo pos (starEach [] X.env)).any (·.1)=false:=by rfl):f8 X EX (.Call (.Name "len" p) [a] [] pos) (nX wa):=by
 obtain⟨ta,pa,ka⟩:=ha.t;refine⟨⟨_,fR cW hg hm PySem.boot_len (bF pa cf he) (by decide) (by decide) he hpl,λW0 H0 W σ H ρ Δ E Q s d eo h=>?_⟩,λE ρ Δ P P' hp q=>ha.mono _ _ _ _ (λo ⟨b,xs,eb,h1,z⟩=>⟨b,xs,eb,h1,hp _ _ z⟩) q⟩;refine ka W _ W σ H ρ _ _ s.rebIn (eo.one s.ext d) (ha.mono _ _ _ _ (λdd ⟨b,xs,eb,h1,q⟩ v W1 H1 x1 r1=>?_) h);subst eb;obtain rfl:=r1.at0;obtain⟨us,_,g1,_,_,rr⟩:=(d.step x1.wle).now (s.step x1).ext h1;refine⟨b,us,rfl,.inl (SqL.of g1),?_⟩;rw[rr.length];exact(q _).of s d x1 (.int _)
def lG(wa w:WE):fv:=λE ρ Δ Q=>wa (λex=>E ex Δ) ρ λo=>∃b xs,o=.pl 0 b/\Δ b=some xs/\w (λex=>E ex Δ) ρ λd=>xs.length<aM/\Q .non (cE Δ b (xs++[d]))
theorem Cr(ha:PX X EX a wa)(he:PX X EX e w)(hbase:attributeBase a "append" X.env (eval a X.env)=eval a X.env:=by rfl)
  (hfew:((backTo pos (starEach [e] X.env)).all (λx=>!x.1)&&(backToKw pos (keywordEach [] X.env)).all (λx=>x.1.isSome)&&decide ([e].length+([]:List Keyword).length+(if([]:List Keyword).isEmpty then 0 else 1)<30))=true:=by rfl)
  (hline:(apos.endLine==pos.line)=true:=by rfl) (hs:starEach [e] X.env=(false,eval e X.env)::starEach [] X.env:=by rfl) (hplain:(backTo pos (starEach [] X.env)).any (·.1)=false:=by rfl):f8 X EX (.Call (.Attribute a "append" apos) [e] [] pos) (lG wa w):=by
 obtain⟨ta,pa,ka⟩:=ha.t;obtain⟨te,pe,ke⟩:=he.t;refine⟨⟨_,fW PySem.F.plainAttrs_list PySem.F.slot_list_append PySem.F.type_list_append eT pa (bF pe cf hs) hbase hfew hline hs hplain,λW0 H0 W σ H ρ Δ E Q s d eo h=>?_⟩,λE ρ Δ P P' hp q=>ha.mono _ _ _ _ (λo ⟨b,xs,eb,h1,z⟩=>⟨b,xs,eb,h1,he.mono _ _ _ _ (λy h=>⟨h.1,hp _ _ h.2⟩) z⟩) q⟩;refine ka W _ W σ H ρ _ _ s.rebIn (eo.one s.ext d) (ha.mono _ _ _ _ (λdd ⟨b,xs,eb,hx,q⟩ v W1 H1 x1 r1=>?_) h);subst eb;obtain rfl:=r1.at0;have s1:=s.step x1;have d1:=d.step x1.wle;obtain⟨us,_,g1,_,_,rr⟩:=d1.now s1.ext hx;refine⟨.inl ⟨rfl,us,SqL.of g1⟩,ke W1 _ W1 σ H1 ρ _ _ s1.rebIn (eo.one s1.ext d1) (he.mono _ _ _ _ (λy hy u W2 H2 x2 r2=>?_) q)⟩;have s2:=s1.step x2;have d2:=d1.step x2.wle;obtain⟨us2,_,g2,_,_,rr2⟩:=d2.now s2.ext hx;obtain⟨m3,s3,d3⟩:=s2.putB d2 hx (rr2.append (.cons r2 .nil));exact⟨b,us2,u,rfl,rfl,g2,by rw[rr2.length];exact cG hy.1 (gi (bO _)),hy.2 .non W2 _ _ m3 s3 d3 (x1.trans x2).wle .non⟩
def nY(wa:WE):fv:=λE ρ Δ Q=>wa (λex=>E ex Δ) ρ λo=>∃b xs d,o=.pl 0 b/\Δ b=some xs/\xs[xs.length-1]? = some d/\Q d (cE Δ b xs.dropLast)
theorem Ct(ha:PX X EX a wa)(hbase:attributeBase a "pop" X.env (eval a X.env)=eval a X.env:=by rfl)(hline:(apos.endLine==pos.line)=true:=by rfl):f8 X EX (.Call (.Attribute a "pop" apos) [] [] pos) (nY wa):=by
 obtain⟨ta,pa,ka⟩:=ha.t;refine⟨⟨_,jM PySem.F.plainAttrs_list PySem.F.slot_list_pop PySem.F.type_list_pop jO pa hbase hline,λW0 H0 W σ H ρ Δ E Q s d eo h=>?_⟩,λE ρ Δ P P' hp q=>ha.mono _ _ _ _ (λo ⟨b,xs,y,eb,h1,h2,z⟩=>⟨b,xs,y,eb,h1,h2,hp _ _ z⟩) q⟩;refine ka W _ W σ H ρ _ _ s.rebIn (eo.one s.ext d) (ha.mono _ _ _ _ (λdd ⟨b,xs,y,eb,hx,hy,q⟩ v W1 H1 x1 r1=>?_) h);subst eb;obtain rfl:=r1.at0;have s1:=s.step x1;have d1:=d.step x1.wle;obtain⟨us,_,g1,_,_,rr⟩:=d1.now s1.ext hx;obtain⟨u,eu,ru⟩:=rr.get hy;have rd:Reps X.K W1 us.dropLast xs.dropLast:=by rw[rM,rM,rr.length];exact rr.take _
 obtain⟨m3,s3,d3⟩:=s1.putB d1 hx rd;exact⟨.inl ⟨rfl,us,SqL.of g1⟩,b,us,u,rfl,rfl,g1,by rw[rr.length];exact eu,q u W1 _ _ m3 s3 d3 x1.wle ru⟩
def wD(w:WE)(wd:fv):fv:=λE ρ Δ Q=>w (λex=>E ex Δ) ρ λx=>wd E ρ Δ λy δ=>Q (.tup [x,y]) δ
theorem Cu{x1}(ha:PX X EX a w)(hb:f8 X EX b wd)(h1:starEach [a,b] X.env=(false,eval a X.env)::starEach [b] X.env:=by rfl)(h2:starEach [b] X.env=(false,eval b X.env)::starEach [] X.env:=by rfl):f8 X EX (.Tuple [a,b] x1 pos) (wD w wd):=by
 obtain⟨ta,pa,ka⟩:=ha.t;obtain⟨tb,pb,kb⟩:=hb.t;refine⟨⟨_,jC (bF pa (bF pb cf h2) h1),λW0 H0 W σ H ρ Δ E Q s d eo h=>?_⟩,λE ρ Δ P P' hp q=>ha.mono _ _ _ _ (λx hx=>hb.mono _ _ _ _ _ (λy δ hy=>hp _ _ hy) hx) q⟩;refine ka W _ W σ H ρ _ _ s.rebIn (eo.one s.ext d) (ha.mono _ _ _ _ (λx hx v W1 H1 x1 r1=>?_) h);refine kb W0 H0 W1 σ H1 ρ Δ E _ (s.step x1) (d.step x1.wle) eo (hb.mono _ _ _ _ _ (λy δ hy u W2 H02 H2 m2 s2 d2 g2 r2=>?_) hx);refine⟨gi (by show 2<=aM;decide),λq hq=>?_⟩;have xp:=Ext.put (o:=.tup [v,u]) s2.ok hq;exact hy _ _ H02 _ m2 (s2.step xp) (d2.step xp.wle) (x1.wle.trans (g2.trans xp.wle)) (.tup (by unfold Wd.put;dsimp only;rw[aF]) (.cons (xp.rep (r1.mono g2.g g2.p)) (.cons (xp.rep r2) .nil)))
def wE(K:D9)(C:Addr)(v:V):Sp:=λvs H Q _=>∃x dx,vs=[.ref x]/\H x=some (.ins C dx [])/\∀l,H l=none->Q .non (upd (upd H l (.lst [v])) x (.ins C dx [("standing",.ref l)]))
structure sS(P:Program)(w:World)(K:D9)(mg:Str->Option Value)(base:Heap)(k:Nat)(ds:List D):Prop where
 ok:∃C f fd ps v,DC K mg C/\Mk K C f/\FnOk P w K mg base (bD P w) k f fd ps (wE K C v)/\Binds K fd ps []/\∀W,Rep K W v (.tup ds)
def oN(ds:List D):fv:=λ_ _ Δ Q=>∀b,Δ b=none->Q (.pl 1 b) (cE Δ b [.tup ds])
theorem zp(G:sS X.prog X.w X.K X.mg X.base k ds)(hr:Room (j+1) X.A)(hx:aQ (bD X.prog X.w) X EX)(hk:k<=j:=by decide)(hg:Gl X "Desk" :=by rfl):f8 X EX (.Call (.Name "Desk" p) [] [] pos) (oN ds):=by
 obtain⟨C,f,fd,ps,v0,c,M,F,hb,hv⟩:=G.ok;refine⟨⟨_,jG M (F.mono hk) hr hg c.mg hb .nil hx (by decide),λW0 H0 W σ H ρ Δ E Q s d eo h=>?_⟩,λE ρ Δ P P' hp q b hb=>hp _ _ (q b hb)⟩;intro x dx hx1 hdx ne;refine⟨x,dx,rfl,aF,λl hl=>⟨rfl,?_⟩⟩;have lx:l≠x:=λz=>by rw[z,aF] at hl;cases hl
 rw[aE lx] at hl;have ld:l≠dx:=λz=>by rw[z,aF] at hl;cases hl
 rw[aE ld] at hl;obtain⟨hn,m1,s1,d1⟩:=s.newB d hl (us:=[v0]) (ys:=[.tup ds]) (.cons (hv W) .nil);have x2:=Ext.put (o:=.own x) s1.ok (a:=dx) (by rw[aE (Em ld)];exact hdx);have x3:=Ext.put (o:=.ins C dx [("standing",.ref l)]) x2.ok (a:=x) (by rw[aE (Em ne),aE (Em lx)];exact hx1);have x23:=x2.trans x3;have eH:upd (upd (upd (upd H dx (.own x)) x (.ins C dx [])) l (.lst [v0])) x (.ins C dx [("standing",.ref l)])=upd (upd (upd H l (.lst [v0])) dx (.own x)) x (.ins C dx [("standing",.ref l)]):=by
  funext c;unfold upd
  by_cases c1:c=x
  .simp only[c1,if_true]
  .by_cases c2:c=l
   .simp only[c2,lx,ld,if_true,if_false]
   .simp only[c1,c2,if_false]
 rw[eH];exact h l hn _ _ _ _ m1 (s1.step x23) (d1.step x23.wle) x23.wle (.pl ⟨C,dx,by unfold Wd.put;dsimp only;rw[aF],c.at_⟩)
def lH(i j:Nat)(w1 w2:fv):cQ:=λE N ρ Δ=>w1 E ρ Δ λx δ=>w2 E ρ δ λy δ'=>N.nx ((ρ.set i (.d x)).set j (.d y)) δ'
theorem Cv(i j:Nat){px pt:Pos}{kt k2 pt2}(hN:X.N.Nodup)(ha:f8 X EX a wd)(hb:f8 X EX b wd')(hc:X.calm=true:=by rfl)(hi:X.N[i]? = some x:=by rfl)(hj:X.N[j]? = some y:=by rfl)(hij:i≠j:=by decide)
  (hx:X.env.scope.names.lookup x=some .local:=by rfl) (hy:X.env.scope.names.lookup y=some .local:=by rfl)
  (hw:swappedStores [.Tuple [.Name x px,.Name y py] kt pt] (.Tuple [a,b] k2 pt2) X.env=pure (some [x,y]):=by rfl)
  (hs:swapsWithSole [.Tuple [.Name x px,.Name y py] kt pt] (.Tuple [a,b] k2 pt2) pos.line X.env=pure false:=by rfl)
  (h1:starEach [a,b] X.env=(false,eval a X.env)::starEach [b] X.env:=by rfl) (h2:starEach [b] X.env=(false,eval b X.env)::starEach [] X.env:=by rfl) :
  j7 X EX (.Assign [.Tuple [.Name x px,.Name y py] kt pt] (.Tuple [a,b] k2 pt2) pos) (lH i j wd wd'):=by
 obtain⟨ta,pa,ka⟩:=ha.t;obtain⟨tb,pb,kb⟩:=hb.t;refine⟨⟨_,jq hc hN hi hj hij hx hy (bF pa (bF pb cf h2) h1) hw hs,λW0 H0 F W σ H ρ Δ E Dn N s d fl eo no h=>?_⟩,λE ρ Δ N N' hl q=>ha.mono _ _ _ _ _ (λx δ hx=>hb.mono _ _ _ _ _ (λy δ' hy=>hl.nx _ _ hy) hx) q⟩;refine ka W0 H0 W σ H ρ Δ E _ s d eo (ha.mono _ _ _ _ _ (λx δ hx v W1 H01 H1 m1 s1 d1 g1 r1=>?_) h);refine kb W0 H01 W1 σ H1 ρ δ E _ s1 d1 (eo.mv m1) (hb.mono _ _ _ _ _ (λy δ' hy u W2 H02 H2 m2 s2 d2 g2 r2=>?_) hx);exact⟨v,u,rfl,no.nx H02 δ' W2 _ H2 _ (m1.trans m2) ((s2.set (r1.mono g2.g g2.p)).set r2) d2 (fl.trans (g1.trans g2)) hy⟩
end
section
variable{c:Expr}{g:WG}
def Za8(g:WG)(zb:cQ)(E:ED)(N:NdD):List D->bV->Dl->Prop
 |[],ρ,Δ=>N.nx ρ Δ
 |d::ds,ρ,Δ=>g d ρ λρ1=>zb E { nx:=Za8 g zb E N ds,rt:=N.rt,bk:=N.nx,ct:=Za8 g zb E N ds } ρ1 Δ
def eP(wi:WA)(g:WG)(zb:cQ):cQ:=λE N ρ Δ=>wi (λex=>E ex Δ) ρ λds=>Za8 g zb E N ds ρ Δ
theorem Za8.mono(hg:∀d ρ P P',(∀r,P r->P' r)->g d ρ P->g d ρ P')(hb:∀E ρ Δ N N',N.le N'->zb E N ρ Δ->zb E N' ρ Δ){E:ED}{N N':NdD}(hl:N.le N'):∀ds ρ Δ,Za8 g zb E N ds ρ Δ->Za8 g zb E N' ds ρ Δ
 |[],ρ,Δ,h=>hl.nx _ _ h
 |d::ds,ρ,Δ,h=>hg _ _ _ _ (λr hr=>hb E r Δ { nx:=Za8 g zb E N ds,rt:=N.rt,bk:=N.nx,ct:=Za8 g zb E N ds } _ ⟨Za8.mono hg hb hl ds,hl.rt,hl.nx,Za8.mono hg hb hl ds⟩ hr) h
theorem wG(hp:PassesOwn (model X.prog X.w) X.A X.env X.xe)(hc:X.calm=true)(hi:ml X EX target iter wi)(hg:mm X target g)(hb:c8 X EX body zb)
  (hs:∀x,foldedSetIterable iter X.env x=pure x:=by intro _;rfl):j7 X EX (.For target iter body [] pos) (eP wi g zb):=by
 obtain⟨ti,pi,ki⟩:=hi.t;obtain⟨tg,pg,kg⟩:=hg.t;obtain⟨tb,pb,kb⟩:=hb.t;refine⟨⟨_,mY hp hc pi pg pb hs,λW0 H0 F W σ H ρ Δ E Dn N s d fl eo no h=>?_⟩,λE ρ Δ N N' hl q=>hi.mono _ _ _ _ (λds hds=>Za8.mono hg.mono hb.mono hl ds ρ Δ hds) q⟩;refine ki W _ W σ H ρ _ _ s.rebIn (eo.one s.ext d) (hi.mono _ _ _ _ (λds hds W1 H1 J x1 it=>?_) h);refine⟨λi m σ2 H2=>m=ds.length-i/\i<=ds.length/\∃W2 H02 Δ2 ρ2,Mv Δ H0 Δ2 H02/\SOk X.K W0 H02 W2 σ2 H2 ρ2/\DOk X.K W0 H02 W2 Δ2/\Wle W1 W2/\Za8 g zb E N (ds.drop i) ρ2 Δ2,⟨_,rfl,im _,W1,H0,Δ,ρ,.refl,s.step x1,d.step x1.wle,.refl W1,by rw[rG];exact hds⟩,?_⟩;rintro i m σ2 H2 ⟨rfl,hi',W2,H02,Δ2,ρ2,m2,s2,d2,f2,q2⟩;obtain⟨itg,its⟩:=it W2 H2 i f2.g f2.p s2.ok;have fF:∀{V:Wd},Wle W1 V->Wle F V:=λf=>(fl.ext x1).trans f;rcases kM i ds.length with hlt|hge
 .have hd:ds[i]? = some ds[i]:=jj hlt
  obtain⟨go',yl⟩:=itg _ hd;rw[List.drop_eq_getElem_cons hlt] at q2;refine .inr ⟨go',λσ3 H3=>∃W3 H03 Δ3 ρ3,Mv Δ H0 Δ3 H03/\SOk X.K W0 H03 W3 σ3 H3 ρ3/\DOk X.K W0 H03 W3 Δ3/\Wle W1 W3/\Za8 g zb E N (ds.drop (i+1)) ρ3 Δ3,λσ3 H3 q3=>⟨ds.length-(i+1),by omega,rfl,hlt,q3⟩,λx H3 y=>?_⟩;obtain⟨W3,x3,r3⟩:=yl x H3 y;refine kg W0 H02 W3 σ2 H3 ρ2 ds[i] x _ (s2.step x3) r3 (hg.mono _ _ _ _ (λρ4 hr σ4 s4=>?_) q2);exact kb W0 H02 W1 W3 σ4 H3 ρ4 Δ2 E _ { nx:=Za8 g zb E N (ds.drop (i+1)),rt:=N.rt,bk:=N.nx,ct:=Za8 g zb E N (ds.drop (i+1)) } s4 (d2.step x3.wle) (f2.ext x3) (eo.mv m2)
   ⟨λH0' Δ' W5 σ5 H5 ρ5 m5 s5 d5 f5 h5=>⟨W5,H0',Δ',ρ5,m2.trans m5,s5,d5,f5,h5⟩,no.rt.mv m2,λH0' Δ' W5 σ5 H5 ρ5 m5 s5 d5 f5 h5=>no.nx H0' Δ' W5 σ5 H5 ρ5 (m2.trans m5) s5 d5 (fF f5) h5,λH0' Δ' W5 σ5 H5 ρ5 m5 s5 d5 f5 h5=>⟨W5,H0',Δ',ρ5,m2.trans m5,s5,d5,f5,h5⟩⟩ hr
 .refine .inl ⟨its hge,?_⟩
  rw[List.drop_of_length_le hge] at q2;exact no.nx H02 Δ2 W2 σ2 H2 ρ2 m2 s2 d2 (fF f2) q2
def qW(c:WT)(zb:cQ):cQ:=λE N ρ Δ=>∃I:Nat->bV->Dl->Prop,(∃m,I m ρ Δ)/\∀m ρ Δ,I m ρ Δ->c (λex=>E ex Δ) ρ λb=>
 if b=true then zb E { nx:=λρ' δ=>∃m',m'<m/\I m' ρ' δ,rt:=N.rt,bk:=N.nx,ct:=λρ' δ=>∃m',m'<m/\I m' ρ' δ } ρ Δ else N.nx ρ Δ
theorem Cw(hp:PassesOwn (model X.prog X.w) X.A X.env X.xe)(hc:fD X EX c wt)(hb:c8 X EX body zb):j7 X EX (.While c body [] pos) (qW wt zb):=by
 obtain⟨tc,pc,kc⟩:=hc.t;obtain⟨tb,pb,kb⟩:=hb.t;refine⟨⟨_,jr hp pc pb,λW0 H0 F W σ H ρ Δ E Dn N s d fl eo no h=>?_⟩,λE ρ Δ N N' hl q=>?_⟩
 .obtain⟨I,⟨m0,i0⟩,turn⟩:=h
  refine⟨λm σ H=>∃W H02 Δ2 ρ,Mv Δ H0 Δ2 H02/\SOk X.K W0 H02 W σ H ρ/\DOk X.K W0 H02 W Δ2/\Wle F W/\I m ρ Δ2,⟨m0,W,H0,Δ,ρ,.refl,s,d,fl,i0⟩,?_⟩;rintro m σ2 H2 ⟨W2,H02,Δ2,ρ2,m2,s2,d2,f2,i2⟩;refine kc W2 _ W2 σ2 H2 ρ2 _ _ s2.rebIn ((eo.mv m2).one s2.ext d2) (hc.mono _ _ _ _ (λb hb' W3 H3 x3=>?_) (turn m ρ2 Δ2 i2));cases b with
  |true=>
   rw[if_pos rfl] at hb' ⊢;refine⟨λσ4 H4=>∃m',m'<m/\∃W H02 Δ2 ρ,Mv Δ H0 Δ2 H02/\SOk X.K W0 H02 W σ4 H4 ρ/\DOk X.K W0 H02 W Δ2/\Wle F W/\I m' ρ Δ2,λσ4 H4 ⟨m',hm,q⟩=>⟨m',hm,q⟩,?_⟩;exact kb W0 H02 F W3 σ2 H3 ρ2 Δ2 E _ { nx:=λρ' δ=>∃m',m'<m/\I m' ρ' δ,rt:=N.rt,bk:=N.nx,ct:=λρ' δ=>∃m',m'<m/\I m' ρ' δ } (s2.step x3) (d2.step x3.wle) (f2.ext x3) (eo.mv m2)
    ⟨λH0' Δ' W5 σ5 H5 ρ5 m5 s5 d5 f5 ⟨m',hm,q⟩=>⟨m',hm,W5,H0',Δ',ρ5,m2.trans m5,s5,d5,f5,q⟩,no.rt.mv m2,λH0' Δ' W5 σ5 H5 ρ5 m5 s5 d5 f5 q=>no.nx H0' Δ' W5 σ5 H5 ρ5 (m2.trans m5) s5 d5 f5 q,λH0' Δ' W5 σ5 H5 ρ5 m5 s5 d5 f5 ⟨m',hm,q⟩=>⟨m',hm,W5,H0',Δ',ρ5,m2.trans m5,s5,d5,f5,q⟩⟩ hb'
  |false=>rw[if_neg (by decide)] at hb' ⊢;exact no.nx H02 Δ2 W3 σ2 H3 ρ2 m2 (s2.step x3) (d2.step x3.wle) (f2.ext x3) hb'
 .obtain⟨I,i0,turn⟩:=q
  refine⟨I,i0,λm ρ Δ i=>hc.mono _ _ _ _ (λb hb'=>?_) (turn m ρ Δ i)⟩;cases b with
  |true=>rw[if_pos rfl] at hb' ⊢;exact hb.mono E ρ Δ { nx:=λρ' δ=>∃m',m'<m/\I m' ρ' δ,rt:=N.rt,bk:=N.nx,ct:=λρ' δ=>∃m',m'<m/\I m' ρ' δ } _ ⟨λ_ _ z=>z,hl.rt,hl.nx,λ_ _ z=>z⟩ hb'
  |false=>rw[if_neg (by decide)] at hb' ⊢;exact hl.nx _ _ hb'
end
section
variable{w:World}{base:Heap}{st:Stmt}{f:Addr}{z:cQ}
theorem qX{S:gW}(F:Fun K x qual st f fd)(sc:aT N ps (aA st))(len:∀ds Δ E Q,S ds Δ E Q->ds.length=ps.length)
  (hbody:∀ (cdv:Value) (A:Around) (outer:List Env) (s:Shared) (H:Hp) (E:XK),Room k (A.deeper (envOfC qual (aA st) s.heap.objs.size f cdv))->
   aQ (bD P w) (bB (bD P w) P w K mg base N qual (aA st) f cdv A outer s H E) E->eG (bB (bD P w) P w K mg base N qual (aA st) f cdv A outer s H E) E->
   c8 (bB (bD P w) P w K mg base N qual (aA st) f cdv A outer s H E) E (aH st) z)
  (h:∀ds Δ E Q,S ds Δ E Q->z E { nx:=λ_ δ=>Q .non δ,rt:=Q } (cO N ds) Δ):FnOk P w K mg base (bD P w) (k+1) f fd ps (sQ K S):=by
 obtain⟨oc,od,kV,doc,pm,an,cdv,ct,osl,rfl,lk,hcd⟩:=F.ex;refine eS lk hcd sc (λvs H Q E hs=>?_) λA outer s H vs Q E hr hs=>?_
 .obtain⟨ds,W,Δ,_,r,_,hS⟩:=hs
  rw[r.length];exact len _ _ _ _ hS
 .obtain⟨ds,W,Δ,ok,r,d,hS⟩:=hs
  obtain⟨t,p,kk⟩:=(hbody cdv A outer s H E hr ui uj).t;exact ⟨t,p,kk W H W W (start N vs) H (cO N ds) Δ _ _ { nx:=λ_ δ=>_,rt:=_ } (sk ok r) d (.refl W) (λH0' δ ex W' H' cls dx m he x d1 r=>he H0' W' H' cls dx m x d1 r)
   ⟨λH0' δ W1 σ1 H1 ρ1 m s1 d1 _ q=>q .non H0' W1 H1 m s1.ext d1 .non,λH0' δ x v W1 H1 m x1 d1 r1 q=>q v H0' W1 H1 m x1 d1 r1,λ_ _ _ _ _ _ _ _ _ _ q=>q.elim,λ_ _ _ _ _ _ _ _ _ _ q=>q.elim⟩ (h ds Δ _ _ hS)⟩
theorem qY(F:Fun K x qual st f fd)(sc:aT N ps (aA st))(len:∀ds E Q,S ds E Q->ds.length=ps.length)
  (hbody:∀ (cdv:Value) (A:Around) (outer:List Env) (s:Shared) (H:Hp) (E:XK),Room k (A.deeper (envOfC qual (aA st) s.heap.objs.size f cdv))->
   aQ (bD P w) (bB (bD P w) P w K mg base N qual (aA st) f cdv A outer s H E) E->eG (bB (bD P w) P w K mg base N qual (aA st) f cdv A outer s H E) E->
   c8 (bB (bD P w) P w K mg base N qual (aA st) f cdv A outer s H E) E (aH st) z)
  (h:∀ds E Q,S ds E Q->z (λex _=>E ex) { nx:=λ_ _=>Q .non,rt:=λd _=>Q d } (cO N ds) λ_=>none):FnOk P w K mg base (bD P w) (k+1) f fd ps (dI K S):=by
 obtain⟨oc,od,kV,doc,pm,an,cdv,ct,osl,rfl,lk,hcd⟩:=F.ex;refine eS lk hcd sc (λvs H Q E hs=>?_) λA outer s H vs Q E hr hs=>?_
 .obtain⟨ds,W,_,r,hS⟩:=hs
  rw[r.length];exact len _ _ _ hS
 .obtain⟨ds,W,ok,r,hS⟩:=hs
  obtain⟨t,p,kk⟩:=(hbody cdv A outer s H E hr ui uj).t;have le:∀{δ:Dl} {H0' H':Hp} {W':Wd},Mv (λ_=>none) H δ H0'->Ext W H0' W' H'->Ext W H W' H':=λm x=>x.le λc o e=>(m c o rfl e).1;exact ⟨t,p,kk W H W W (start N vs) H (cO N ds) (λ_=>none) (λex _=>∀ W' H' cls dx,Ext W H W' H'->nw K W' H' cls dx ex->E cls dx H') _ { nx:=λ_ _=>RQ K W H Q .non,rt:=λd _=>RQ K W H Q d } (sk ok r) (λ_ _ e=>by cases e) (.refl W) (λH0' δ ex W' H' cls dx m he x d1 r=>he W' H' cls dx (le m x) r)
   ⟨λH0' δ W1 σ1 H1 ρ1 m s1 d1 _ q=>q .non W1 H1 (le m s1.ext) .non,λH0' δ x v W1 H1 m x1 d1 r1 q=>q v W1 H1 (le m x1) r1,λ_ _ _ _ _ _ _ _ _ _ q=>q.elim,λ_ _ _ _ _ _ _ _ _ _ q=>q.elim⟩ (h ds _ _ hS)⟩
theorem qZ{S:gW}(h:bC K mg x st)
  (hbody:∀ (sc:N.Nodup) (f:Addr) (cdv:Value) (A:Around) (outer:List Env) (s:Shared) (H:Hp) (E:XK),Room k (A.deeper (envOfC x (aA st) s.heap.objs.size f cdv))->
   aQ (bD P w) (bB (bD P w) P w K mg base N x (aA st) f cdv A outer s H E) E->eG (bB (bD P w) P w K mg base N x (aA st) f cdv A outer s H E) E->
   c8 (bB (bD P w) P w K mg base N x (aA st) f cdv A outer s H E) E (aH st) z)
  (rd:∀ds Δ E Q,S ds Δ E Q->z E { nx:=λ_ δ=>Q .non δ,rt:=Q } (cO N ds) Δ) (len:∀ds Δ E Q,S ds Δ E Q->ds.length=ps.length) (mono:kJ S)
  (sc:aT N ps (aA st):=by exact⟨rfl,rfl,rfl,by decide +kernel,rfl,by decide +kernel,by decide +kernel⟩)
  (hb:∀ (kV doc pm:Value) (an:Option Addr) (cdv ct:Value) (us:List Value),us.length=ps.length->bindArgs (PySem.W.fnOf x x (aO st) (aH st) (aA st) .none kV doc pm an cdv ct) ⟨us,[]⟩=pure (ps.zip us):=by
   intro _ _ _ _ _ _;(first|refine sG ?_|refine sH ?_|refine sJ ?_|refine sK ?_);intros;rfl):sR P w K mg base (k+1) x ps S:=by
 obtain⟨f,fd,F,m,q⟩:=h;exact⟨⟨f,fd,qX (z:=z) F sc len (λcdv A outer s H E hr hx hw=>hbody sc.nd f cdv A outer s H E hr hx hw) rd,m,F.kp,F.binds hb⟩,mono⟩
theorem rc{S:gW}{C:Addr}(c:DC K mg C)(F:Fun K x qual st f fd)(hm:fQ K C x f)
  (hbody:∀ (sc:N.Nodup) (cdv:Value) (A:Around) (outer:List Env) (s:Shared) (H:Hp) (E:XK),Room k (A.deeper (envOfC qual (aA st) s.heap.objs.size f cdv))->
   aQ (bD P w) (bB (bD P w) P w K mg base N qual (aA st) f cdv A outer s H E) E->eG (bB (bD P w) P w K mg base N qual (aA st) f cdv A outer s H E) E->
   c8 (bB (bD P w) P w K mg base N qual (aA st) f cdv A outer s H E) E (aH st) z)
  (rd:∀ds Δ E Q,S ds Δ E Q->z E { nx:=λ_ δ=>Q .non δ,rt:=Q } (cO N ds) Δ) (len:∀ds Δ E Q,S ds Δ E Q->ds.length=ps.length) (mono:kJ S)
  (sc:aT N ps (aA st):=by exact⟨rfl,rfl,rfl,by decide +kernel,rfl,by decide +kernel,by decide +kernel⟩)
  (hb:∀ (kV doc pm:Value) (an:Option Addr) (cdv ct:Value) (us:List Value),us.length=ps.length->bindArgs (PySem.W.fnOf x qual (aO st) (aH st) (aA st) .none kV doc pm an cdv ct) ⟨us,[]⟩=pure (ps.zip us):=by
   intro _ _ _ _ _ _;(first|refine sG ?_|refine sH ?_|refine sJ ?_|refine sK ?_);intros;rfl):qV P w K mg base (k+1) x ps S:=
 ⟨⟨C,f,fd,c,hm,qX (z:=z) F sc len (λcdv A outer s H E hr hx hw=>hbody sc.nd cdv A outer s H E hr hx hw) rd,F.binds hb⟩,mono⟩
theorem wH(h:bC K mg x st)(hfa:mg x=some (.ref fa))
  (hbody:∀ (base:Heap) (sc:N.Nodup) (f:Addr) (cdv:Value) (A:Around) (outer:List Env) (s:Shared) (H:Hp) (E:XK),Room k (A.deeper (envOfC x (aA st) s.heap.objs.size f cdv))->
   aQ (bD l.prog w) (bB (bD l.prog w) l.prog w K mg base N x (aA st) f cdv A outer s H E) E->eG (bB (bD l.prog w) l.prog w K mg base N x (aA st) f cdv A outer s H E) E->
   c8 (bB (bD l.prog w) l.prog w K mg base N x (aA st) f cdv A outer s H E) E (aH st) z)
  (rd:∀ds E Q,S ds E Q->z (λex _=>E ex) { nx:=λ_ _=>Q .non,rt:=λd _=>Q d } (cO N ds) λ_=>none)
  (sc:aT N ["_law_script"] (aA st):=by exact⟨rfl,rfl,rfl,by decide +kernel,rfl,by decide +kernel,by decide +kernel⟩)
  (len:∀ds E Q,S ds E Q->ds.length=1:=by exact fnS.len (ps:=["_law_script"]) λ_=>rfl)
  (hb:∀(kV doc pm:Value) (an:Option Addr) (cdv ct:Value) (s:Shared) (v:Value),BindsTo s (PySem.W.fnOf x x (aO st) (aH st) (aA st) .none kV doc pm an cdv ct) ⟨[v],[]⟩ [("_law_script",v)]:=by exact λ_ _ _ _ _ _ _ _=>.of_eq rfl) :
  ∃fd:FuncData,(∀(s:Shared) (v:Value),BindsTo s fd ⟨[v],[]⟩ [("_law_script",v)])/\∀base:Heap,K.In base->base.Ns mainGlobals mg->FnOk l.prog w K mg base (bD l.prog w) (k+1) fa fd ["_law_script"] (dI K S):=by
 obtain⟨f,fd,F,m,q⟩:=h;rw[m] at hfa;cases hfa;refine⟨fd,?_,λbase _ _=>qY (z:=z) F sc len (λcdv A outer s H E hr hx hw=>hbody base sc.nd _ cdv A outer s H E hr hx hw) rd⟩;obtain⟨_,_,_,_,_,_,_,_,_,rfl,_⟩:=F.ex;exact hb _ _ _ _ _ _
end
section
def nZ(L:List Str)(n i:Nat)(zb:cQ)(zh:WS):cQ:=λ_ N ρ Δ=>∃E':ED,(∀ex δ,E' ex δ->ex∈L/\zh No { nx:=λ_=>False,rt:=λd=>N.rt d δ } (nG n i ex))/\zb E' N ρ Δ
theorem Cy(L:List Str)(i:Nat){n cx:Str}{suite:List Stmt}{b0:Stmt}{zh:WS}{hpos:Pos}(hcx:XT X.K X.mg cx L)(hN:X.N.Nodup)
  (hb:∀xe pins EX',aQ (bD X.prog X.w) (X.tr xe pins) EX'->c8 (X.tr xe pins) EX' body zb) (hh:∀e xe,ia (X.hnd e xe) E0 (b0::suite) zh)
  (hstk:X.stack=X.env::X.outer/\X.env.frame=some X.env.locals:=by exact⟨rfl,rfl⟩) (hi:X.N[i]? = some n:=by rfl) (hx:X.env.scope.names.lookup n=some .local:=by rfl)
  (hg:Gl X cx:=by rfl) (hd:(cx==("__debug__" : Str))=false:=by decide) (hkf:X.env.scope.kind=.function:=by rfl) (hex:X.ex=[]:=by rfl) :
  j7 X EX (.Try body [.ExceptHandler (some (.Name cx np)) (some n) (b0::suite) hpos] [] [] pos) (nZ L X.N.length i zb zh):=by
 have hbm:=(hb (λ_ _=>False) [] E0 qd).mono;refine⟨⟨λD σ H=>∃W0 H0 F W ρ Δ N,SOk X.K W0 H0 W σ H ρ/\DOk X.K W0 H0 W Δ/\Wle F W/\NOkD X.K W0 H0 Δ F D N/\nZ L X.N.length i zb zh (λ_ _=>False) N ρ Δ,?_,λW0 H0 F W σ H ρ Δ E Dn N s d fl eo no h=>⟨W0,H0,F,W,ρ,Δ,N,s,d,fl,no,h⟩⟩,λE ρ Δ N N' hl ⟨E',h1,h2⟩=>⟨E',λex δ he=>⟨(h1 ex δ he).1,(hh 0 λ_ _=>False).mono _ _ { nx:=λ_=>False,rt:=λd=>N.rt d δ } { nx:=λ_=>False,rt:=λd=>N'.rt d δ } ⟨λ_ z=>z,λd=>hl.rt d δ,λ_ z=>z,λ_ z=>z⟩ (h1 ex δ he).2⟩,hbm _ _ _ _ _ hl h2⟩⟩;rintro pins s σ H D I ⟨W0,H0,F,W,ρ,Δ,N,so,dd,fl,no,E',hE',hz⟩;obtain⟨Cs,newId,bmB,hm,hexc,hbase,hsub⟩:=hcx.h;have hcalm:=I.ok.hd
 let Eh:Value->Shared->Prop:=λe s1=>wpAny (model X.prog X.w) X.A (noteFrame e X.env) (λ_ s2=>wpAny (model X.prog X.w) X.A (setFlight e none) (λ_ s3=>wpAny (model X.prog X.w) X.A (handleBy e X.env [.ExceptHandler (some (.Name cx np)) (some n) (b0::suite) hpos]) (SP X pins D) X.xe s3) X.xe s2) X.xe s1
 have pass:aQ (bD X.prog X.w) (X.tr Eh pins) (λcls dx H'=>∃W' ex H0' δ,Mv Δ H0 δ H0'/\Ext W0 H0' W' H'/\DOk X.K W0 H0' W' δ/\nw X.K W' H' cls dx ex/\E' ex δ):=by
  rintro pins' σ1 H1 s1 _ s' I1 ⟨ea,cls,dx,H',B,rfl,fly,hos,hbare,un,hok,hB,hT,W',ex,H0',δ,mv,x',d',⟨C,hcl,rfl,hxd⟩,he⟩;have J:Inv X pins σ1 H1 s1:=I1.untr;obtain⟨hL,hw⟩:=hE' ex δ he;have fly':Fl.Up (Fl.Is (.ref C) dx) B (X.env::X.outer) ea .none s'.heap:=by rw[<-hstk.1];exact fly
  have frm:∀b∈bX X.stack,∃o,s'.heap.get? b=some o/\∀vs,o.data≠.fields vs:=λb hb=>(fly.fr.mem hb).2;show wpAny (model X.prog X.w) X.A (noteFrame (.ref ea) X.env) _ _ s';refine Fl.note Fl.Is.firm (by rw[J.ok.frames,hstk.1]) hstk.2 fly' λh4 held4 up4=>?_;refine Fl.lands (s:={ s' with heap:=h4 }) held4 λh5 fl5 up5=>?_;have up45:=up4.trans up5;have J5:Inv X pins σ1 H' { s' with heap:=h5 }:=J.fly hos hbare un hok hB hT fly.st fl5.st up45 frm;refine wpAny_handleBy_cons (codeAny_handlers_test ?_) (by intro q;cases q);refine cc (X:=X.hnd ea X.xe) J5.hnd hg hm ?_ hd;refine As J5.kIn hexc hbase (let⟨ob,z1,z2,_⟩:=fl5.there;⟨ob,z1,z2.1⟩) (hsub ex hL C hcl) ?_;refine codeAny_handlers_suite_as ?_;refine Fl.lands (s:={ s' with heap:=h5 }) fl5 λh6 fl6 up6=>?_;have J6:Inv X pins σ1 H' { s' with heap:=h6 }:=J.fly hos hbare un hok hB hT fly.st fl6.st (up45.trans up6) frm
  obtain⟨oe0,g1,g2,vs0,g3⟩:=fly.there;have nofr:ea∉bX X.stack:=λhm=>by
   obtain⟨o,e,nf⟩:=frm ea hm;rw[g1] at e;cases e;exact nf _ g3
  have nB:B.get? ea=none:=fly.new;have noS:s1.heap.get? ea=none:=by
   cases q:s1.heap.get? ea with
   |none=>rfl
   |some o=>obtain⟨o',e⟩:=hB ea o q nofr;rw[nB] at e;cases e
  have hn':H' ea=none:=by
   cases q:H' ea with
   |none=>rfl
   |some u=>obtain⟨o,e⟩:=hT ea u q;rw[nB] at e;cases e
  have no0:X.s₀.heap.get? ea=none:=by
   cases q:X.s₀.heap.get? ea with
   |none=>rfl
   |some o=>
    obtain⟨o',e⟩:=J.base.there ea o q (by rw[hex];simp);rw[noS] at e;cases e
  have nL:ea≠X.env.locals:=λz=>by
   obtain⟨m,⟨o,es,ep,ho,_⟩,_⟩:=J.loc;rw[<-z,noS] at ho;cases ho
  have nC:∀x c,X.env.cells.lookup x=some c->c≠ea:=λx c e z=>by
   obtain⟨v,o,ho,_⟩:=J.cell x c e;rw[z,noS] at ho;cases ho
  have nP:∀p∈X.pn++pins,p.1≠ea:=λp hp z=>by
   have:=(J.pin p hp).1;rw[z,noS] at this;cases this
  obtain⟨oe,q1,q2,vs,q3⟩:=fl6.there;refine db (X:=X.hnd ea X.xe) (v:=.ref ea) J6.hnd hN hi (Or.inl hx) rfl (λs7 J7 sb=>?_) (.inr hx);have hat:∃oe,s7.heap.get? ea=some oe/\oe.cls=.ref C/\PySem.W.notCls oe=true/\oe.dict=dx/\∃vs,oe.data=.fields vs:=by
   obtain⟨a,hs,ha⟩:=sb;have hne:ea≠a:=λz=>by
    rcases ha with ha|ha
    .exact nL (z.trans ha)
    .exact nC _ _ ha z.symm
   refine⟨oe,(hs.2 ea hne).trans q1,q2.1,?_,q2.2,vs,q3⟩;unfold PySem.W.notCls;rw[q3]
  have J8:Inv (X.hnd ea λ_ _=>False) pins (σ1.set i (some (.ref ea))) (upd H' ea (fB C ea dx)) s7:=by
   refine((J7.unhnd hcalm).hnd).track hn' no0 nL nC nP ⟨hat,?_,?_⟩ (λ_ z=>by first|cases z|(unfold fB at z;cases z))
   .obtain⟨o,e,_⟩:=hat;exact⟨o,e⟩
   .rintro g1 g2 ⟨o,e,r⟩ k
    exact⟨o,k o e,r⟩
  have xt:Ext W' H' (W'.put ea (fB C ea dx)) (upd H' ea (fB C ea dx)):=Ext.put x'.ok hn';have hil:i<X.N.length:=(Yaq.mp hi).1;have so2:SOk X.K W0 H0' (W'.put ea (fB C ea dx)) (σ1.set i (some (.ref ea))) (upd H' ea (fB C ea dx)) (nG X.N.length i ex):=by
   have hlen:σ1.length=X.N.length:=J.len;have slot:∀(j:Nat) sv,(nG X.N.length i ex)[j]? = some sv->sv=.un\/(j=i/\sv=.d (.exc ex)):=λj sv e=>by
    unfold nG at e
    by_cases h:i=j
    .subst h
     rw[cN (by simpa using hil)] at e;cases e;exact .inr ⟨rfl,rfl⟩
    .rw[cm h,ji] at e
     split at e
     .cases e;exact .inl rfl
     .cases e
   refine⟨x'.trans xt,by unfold nG;rw[cR,cR,mC,hlen],λj y e=>?_,λj ys e=>?_,λj k ys zs b _ e=>?_,.none λj xss e=>?_⟩
   .rcases slot j _ e with z|⟨rfl,z⟩
    .cases z
    .cases z
     exact⟨.ref ea,cN (by rw[hlen];exact hil),.exc (by unfold Wd.put;dsimp only;rw[aF]) hcl (hxd.mono xt.g)⟩
   .rcases slot j _ e with z|⟨_,z⟩<;>cases z
   .rcases slot j _ e with z|⟨_,z⟩<;>cases z
   .rcases slot j _ e with z|⟨_,z⟩<;>cases z
  obtain⟨th,ph,kh⟩:=(dq (hh ea λ_ _=>False)).t;refine Ep (ph pins s7 _ _ { nx:=λ_ _=>False,rt:=D.rt } J8 (kh W0 H0' _ _ _ _ _ δ (λ_ _=>False) _ { nx:=λ_ _=>False,rt:=N.rt } so2 (d'.step xt.wle) (.refl _) (λ_ _ _ _ _ _ _ _ z=>z.elim)
   ⟨λ_ _ _ _ _ _ _ _ _ _ z=>z.elim,no.rt.mv mv,λ_ _ _ _ _ _ _ _ _ _ z=>z.elim,λ_ _ _ _ _ _ _ _ _ _ z=>z.elim⟩ hw)) (λf s9 q=>?_) λ_ _ z=>z.elim
  cases f with
  |next=>obtain⟨_,_,_,z⟩:=q;exact z.elim
  |brk=>obtain⟨_,_,_,z⟩:=q;exact z.elim
  |cont=>obtain⟨_,_,_,z⟩:=q;exact z.elim
  |ret u=>
   obtain⟨v,σ9,H9,J9,r9,q9⟩:=q;have K9:=J9.unhnd hcalm;obtain⟨m,hns,_⟩:=K9.loc;exact wpAny_nameGoes hx hns (by rw[hkf];rfl) λh' m' hn2 hs2=>⟨v,_,H9,K9.names hn2 hs2,r9,q9⟩
 obtain⟨tb,pb,kb⟩:=(hb Eh pins _ pass).t;refine wpAny_Try_except (Ep (pb [] s σ H D I.tr (kb W0 H0 F W σ H ρ Δ E' D N so dd fl (λH0' δ ex W' H' cls dx m he x d r=>⟨W',ex,H0',δ,m,x,d,r,he⟩) no hz)) (λf s1 q=>?_) λe s1 q=>q);cases f with
 |next=>exact EB q.untr
 |brk=>exact q.untr
 |cont=>exact q.untr
 |ret u=>exact q.untr
end
section
variable{a b:Expr}{w:WE}
def wI(i j:Nat)(w:WE):WS:=λE N ρ=>w E ρ λd=>match d with
 |.lst (x::xs)=>N.nx ((ρ.set i (.d x)).set j (.d (.lst xs)))
 |_=>False
theorem Cz(i j:Nat){px sp tp:Pos}(he:PX X EX e w)(hN:X.N.Nodup)(hc:X.calm=true:=by rfl)(hi:X.N[i]? = some x:=by rfl)(hj:X.N[j]? = some y:=by rfl)(hx:i5 X.env.scope x:=by first|exact Or.inl rfl|exact Or.inr rfl)(hy:i5 X.env.scope y:=by first|exact Or.inl rfl|exact Or.inr rfl)
  (hfx:X.fn x=true\/X.env.scope.names.lookup x=some .local:=by first|exact .inl rfl|exact .inr rfl|assumption) (hfy:X.fn y=true\/X.env.scope.names.lookup y=some .local:=by first|exact .inl rfl|exact .inr rfl|assumption)
  (hn:(assignEach [.Name x px,.Starred (.Name y py) sp] X.env).length=2:=by rfl) (hst:(assignEach [.Name x px,.Starred (.Name y py) sp] X.env).findIdx? (·.1)=some 1:=by rfl)
  (hs2:(assignEach [.Name x px,.Starred (.Name y py) sp] X.env).map (·.2)=(assignEach [.Name x px,.Name y py] X.env).map (·.2):=by rfl)
  (h2:(assignEach [.Name x px,.Name y py] X.env).map (·.2)=assign (.Name x px) X.env::(assignEach [.Name y py] X.env).map (·.2):=by rfl) (h3:(assignEach [.Name y py] X.env).map (·.2)=assign (.Name y py) X.env::(assignEach [] X.env).map (·.2):=by rfl)
  (hs:swapsWithSole [.Tuple [.Name x px,.Starred (.Name y py) sp] k tp] e pos.line X.env=pure false:=by rfl) (hw:swappedStores [.Tuple [.Name x px,.Starred (.Name y py) sp] k tp] e X.env=pure none:=by rfl)
  (h1:(assignEach [.Tuple [.Name x px,.Starred (.Name y py) sp] k tp] X.env).map (·.2)=[assign (.Tuple [.Name x px,.Starred (.Name y py) sp] k tp) X.env]:=by rfl) :
  PZ X EX (.Assign [.Tuple [.Name x px,.Starred (.Name y py) sp] k tp] e pos) (wI i j w):=by
 obtain⟨t,p,kk⟩:=he.t;refine⟨⟨_,gv p (AQ hc (dZ (fe hN hi hx hfx) (dZ (fe hN hj hy hfy) g7 h3) h2) hn hst hs2) hs hw h1,λW0 H0 F W σ H ρ E Dn N s fl eo no h=>?_⟩,λE ρ N N' hl q=>he.mono _ _ _ _ (λd hd=>?_) q⟩
 .refine kk W0 H0 W σ H ρ E _ s eo (he.mono _ _ _ _ (λd hd v W1 H1 x1 r1=>?_) h)
  split at hd
  .obtain⟨l,vs,rfl,sq,rr⟩:=r1.sql x1.ok
   cases rr with
   | @cons y0 _ ys _ r0 rs=>
    refine⟨l,y0,ys,rfl,sq,λD hD=>⟨_,_,rfl,_,_,rfl,rfl,?_⟩⟩;have xp:=Ext.put (o:=.lst ys) x1.ok hD;have s2:=(s.step x1).step xp;exact no.nx _ _ _ _ ((s2.set (xp.rep r0)).set (.lst (by unfold Wd.put;dsimp only;rw[aF]) (xp.reps rs))) (fl.ext (x1.trans xp)) hd
  .exact hd.elim
 .split at hd
  .exact hl.nx _ hd
  .exact hd.elim
inductive Ent (K:D9):List DictEntry->List (Str×D)->Prop
 |nil:Ent K [] []
 |cons {e:DictEntry} {es:List DictEntry} {k:Str} {t:Tok} {v:V} {d:D} {r:List (Str×D)}:e.key=.str k t->RelV v e.val->(∀W,Rep K W v d)->Ent K es r->Ent K (e::es) ((k,d)::r)
def CD(K:D9)(P:Params)(mg:Str->Option Value)(x:Str)(kvs:List (Str×D)):Prop:=∃(a:Addr) (es:Array DictEntry) (n:Nat),mg x=some (.ref a)/\K.lookup a=some { cls:=.type "dict",data:=.dict es n }/\PySem.W.KeysLit P es.toList/\(a==sysModules)=false/\Ent K es.toList kvs
theorem Ent.find{K:D9}{k:Str}:∀{es:List DictEntry} {kvs:List (Str×D)},Ent K es kvs->match kvs.lookup k with
  |some d=>∃u v,(es.find? λe=>Value.isStrOf k e.key).map (·.val)=some u/\RelV v u/\∀W,Rep K W v d
  |none=>(es.find? λe=>Value.isStrOf k e.key).map (·.val)=none:=by
 intro es kvs h
 induction h with
 |nil=>rfl
 | @cons e es k' t v d r hk hv hr _ ih=>
  rw[eC,List.find?_cons];have:Value.isStrOf k e.key=(k==k'):=by rw[hk];show(k'==k)=(k==k');rw[jg];simp only[Et];exact⟨Eq.symm,Eq.symm⟩
  rw[this];cases q:k==k' with
  |true=>exact⟨_,v,rfl,hv,hr⟩
  |false=>exact ih
theorem CD.map(h:CD X.K X.w.params X.mg x kvs):∃a f,X.mg x=some (.ref a)/\lh X a f/\∀k,match kvs.lookup k with
  |some d=>∃u v,f k=some u/\RelV v u/\∀W,Rep X.K W v d
  |none=>f k=none:=by
 obtain⟨a,es,n,h1,h2,h3,h4,h5⟩:=h;refine⟨a,_,h1,⟨es,n,h2,h3,h4,rfl⟩,λk=>?_⟩;have:=h5.find (k:=k);unfold findBy;rw[<-tu];exact this
def n4(kvs:List (Str×D))(neg:Bool):D->(Bool->Prop)->Prop:=λd Q=>∃k,d=.str k/\Q (if neg then !(kvs.lookup k).isSome else(kvs.lookup k).isSome)
def iW(kvs:List (Str×D))(neg:Bool)(w:WE):WT:=λE ρ Q=>w E ρ λd=>n4 kvs neg d Q
theorem zq{x:Str}{a:Addr}{f:Str->Option Value}{k:Str}(h:match kvs.lookup k with
  |some d=>∃u v,f k=some u/\RelV v u/\∀W,Rep X.K W v d
  |none=>f k=none):(f k).isSome=(kvs.lookup k).isSome:=by
 cases e2:kvs.lookup k with
 |some d=>rw[e2] at h;obtain⟨u,v,e,_⟩:=h;rw[e];rfl
 |none=>rw[e2] at h;dsimp only at h;rw[h];rfl
theorem CA(h:CD X.K X.w.params X.mg x kvs)(ha:PX X EX a w)(hg:Gl X x:=by rfl)(hd:(x==("__debug__" : Str))=false:=by decide)(hm:behindInMarks .In (.Name x p)=false:=by with_unfolding_all rfl):fD X EX (.Compare a [.In] [.Name x p] pos) (iW kvs false w):=by
 obtain⟨d,f,h1,h2,h3⟩:=h.map;obtain⟨ta,pa,ka⟩:=ha.t;refine⟨⟨_,dU AR pa (cT (v:=.ref d) hg h1 rfl hd) hm,λW0 H0 W σ H ρ E Q s eo q=>ka W0 H0 W σ H ρ E _ s eo (ha.mono _ _ _ _ (λy ⟨k,ek,q⟩ v W1 H1 x1 r1=>?_) q)⟩,λE ρ P P' hp q=>ha.mono _ _ _ _ (λy ⟨k,ek,q⟩=>⟨k,ek,hp _ q⟩) q⟩;subst ek;cases r1;exact⟨k,d,f,rfl,rfl,h2,_,rfl,by rw[zq (X:=X) (x:=x) (a:=d) (h3 k)];exact q W1 H1 x1⟩
theorem CB(h:CD X.K X.w.params X.mg x kvs)(ha:PX X EX a w)(hg:Gl X x:=by rfl)(hd:(x==("__debug__" : Str))=false:=by decide)(hm:behindInMarks .NotIn (.Name x p)=false:=by with_unfolding_all rfl):fD X EX (.Compare a [.NotIn] [.Name x p] pos) (iW kvs true w):=by
 obtain⟨d,f,h1,h2,h3⟩:=h.map;obtain⟨ta,pa,ka⟩:=ha.t;refine⟨⟨_,dU AS pa (cT (v:=.ref d) hg h1 rfl hd) hm,λW0 H0 W σ H ρ E Q s eo q=>ka W0 H0 W σ H ρ E _ s eo (ha.mono _ _ _ _ (λy ⟨k,ek,q⟩ v W1 H1 x1 r1=>?_) q)⟩,λE ρ P P' hp q=>ha.mono _ _ _ _ (λy ⟨k,ek,q⟩=>⟨k,ek,hp _ q⟩) q⟩;subst ek;cases r1;exact⟨k,d,f,rfl,rfl,h2,_,rfl,by rw[zq (X:=X) (x:=x) (a:=d) (h3 k)];exact q W1 H1 x1⟩
def mt(kvs:List (Str×D)):D->(D->Prop)->Prop:=λd Q=>∃k y,d=.str k/\kvs.lookup k=some y/\Q y
theorem wJ(h:CD X.K X.w.params X.mg x kvs)(hb:PX X EX b w)(hg:Gl X x:=by rfl)(hd:(x==("__debug__" : Str))=false:=by decide)(hs:cV b:=by exact λ_ _=>rfl):PX X EX (.Subscript (.Name x p) b pos) (w1 (mt kvs) w):=by
 obtain⟨d,f,h1,h2,h3⟩:=h.map;obtain⟨tb,pb,kb⟩:=hb.t;refine⟨⟨_,h8 uo (cT (v:=.ref d) hg h1 rfl hd) pb hs,λW0 H0 W σ H ρ E Q s eo q=>kb W0 H0 W σ H ρ E _ s eo (hb.mono _ _ _ _ (λy ⟨k,z,ek,ez,q⟩ v W1 H1 x1 r1=>?_) q)⟩,λE ρ P P' hp q=>hb.mono _ _ _ _ (λy ⟨k,z,ek,ez,q⟩=>⟨k,z,ek,ez,hp _ q⟩) q⟩;subst ek;cases r1;have:=h3 k;rw[ez] at this;obtain⟨u,v,e1,e2,e3⟩:=this;exact⟨k,d,f,v,u,rfl,rfl,h2,e1,e2,q v W1 H1 x1 (e3 W1)⟩
end
namespace D7
def NUMD:List (Str×D):=[("size",.int 1),("row",.non),("set",.int 2),("turn",.int 0),("times",.int 1),("cut",.int 1),("back",.int 0),("slants",.int 0),("number",.int 0),("corners",.int 0),("weak",.int 0),("full",.int 0),("even",.int 0),("rank",.int 0),("inverse",.int 1),("solve",.non),("weights",.int 0),("signs",.int 0),("length",.int 0),("shown",.int 0)]
def DEEDD:List (Str×D):=[("size",.cls "new_size"),("row",.cls "new_row"),("set",.cls "one_set"),("turn",.cls "all_turned"),("times",.cls "all_times"),("cut",.cls "cut_to")]
def QUESD:List (Str×D):=[("slants",.cls "ask_slants"),("number",.cls "ask_number"),("corners",.cls "ask_corners"),("weak",.cls "ask_weak"),("full",.cls "ask_full"),("even",.cls "ask_even"),("rank",.cls "ask_rank"),("inverse",.cls "ask_inverse"),("solve",.cls "ask_solve"),("weights",.cls "ask_weights"),("signs",.cls "ask_signs"),("length",.cls "ask_length"),("shown",.cls "ask_shown")]
def gX(d:D)(n:Nat):Bool:=match d with
 |.int k=>(n:Int)==k
 |_=>decide (0<n)
def iX:List Str->Option (Str×List Int)
 |[]=>none
 |w::os=>match NUMD.lookup w with
  |none=>none
  |some d=>if(os.map bL).all Option.isSome&&gX d os.length then some (w,(os.map bL).filterMap id) else none
def oO(x:Str):Option (Str×List Int):=iX (Txt.split x " ")
def lJ:D->Option (Str×List Int)
 |.str x=>oO x
 |_=>none
def zr:D->Prop
 |.str x=>eO x
 |_=>True
def wK(d:D):Except Str D:=match lJ d with
 |some (w,ns)=>.ok (.tup [.str w,aS ns])
 |none=>.error "NoLine"
def lK(ns:List Int):Except Str (List Int):=if bH 1 5 (.int (ns.headD 0)) then .ok (List.replicate (2*ns.headD 0-1).toNat 0) else .error "NoNumber"
def il(ns:List Int):Except Str (List Int):=if dC (aS ns) then .ok ns else .error "NoSlants"
def je(s ns:List Int):Except Str (List Int):=if bH 0 (s.length-1) (.int (ns.headD 0))&&bH (-50) 50 (.int (ns.getD 1 0)) then .ok (s.set (ns.headD 0).toNat (ns.getD 1 0)) else .error "NoNumber"
def zt(s ns:List Int):Except Str (List Int):=il (s.map (· * ns.headD 0))
def lL(s ns:List Int):Except Str (List Int):=if bH 1 (sN (aS s)) (.int (ns.headD 0)) then .ok (sB s (sN (aS s)) (ns.headD 0).toNat) else .error "NoNumber"
def lM(w:Str)(s ns:List Int):Option (Except Str (List Int)):=
 if w = "size" then some (lK ns) else if w = "row" then some (il ns) else if w = "set" then some (je s ns) else if w = "turn" then some (.ok s.reverse) else if w = "times" then some (zt s ns) else if w = "cut" then some (lL s ns) else none
def eY(s:List Int):Str:=Txt.join " " (s.map aL)
structure StOk(st:List (List Int)):Prop where
 ne:st≠[]
 len:st.length<=100
 all:∀s∈st,∃n,IsSl s n
def lst(st:List (List Int)):List Int:=st.getLastD []
def ZbI(w:Str)(ns:List Int)(st:List (List Int))(E:Str->Prop)(Q:Str->List (List Int)->Prop):Prop:=
 if w = "back" then(if st.length=1 then E "NoLine" else Q "ok" st.dropLast)
 else match lM w (lst st) ns with
  |some (.ok s)=>Q "ok" (st++[s])
  |some (.error ex)=>E ex
  |none=>w = "slants" /\Q (eY (lst st)) st
def Zcc(r:D)(st:List (List Int))(E:Str->Prop)(Q:Str->List (List Int)->Prop):Prop:=match lJ r with
 |none=>E "NoLine"
 |some (w,ns)=>ZbI w ns st E Q
theorem ZbI.mono{E E':Str->Prop}{Q Q':Str->List (List Int)->Prop}(hE:∀ex,E ex->E' ex)(hQ:∀t s,Q t s->Q' t s)(h:ZbI w ns st E Q):ZbI w ns st E' Q':=by
 unfold ZbI at h ⊢;split
 .rename_i e
  rw[if_pos e] at h;split
  .rename_i e2;rw[if_pos e2] at h;exact hE _ h
  .rename_i e2;rw[if_neg e2] at h;exact hQ _ _ h
 .rename_i e
  rw[if_neg e] at h;split
  .rename_i e2;rw[e2] at h;exact hQ _ _ h
  .rename_i e2;rw[e2] at h;exact hE _ h
  .rename_i e2;rw[e2] at h;exact⟨h.1,hQ _ _ h.2⟩
theorem Zcc.mono{r:D}{st:List (List Int)}{E E':Str->Prop}{Q Q':Str->List (List Int)->Prop}(hE:∀ex,E ex->E' ex)(hQ:∀t s,Q t s->Q' t s)(h:Zcc r st E Q):Zcc r st E' Q':=by
 unfold Zcc at h ⊢;split
 .rename_i e;rw[e] at h;exact hE _ h
 .rename_i e;rw[e] at h;exact h.mono hE hQ
def mw(n:Str):Str:=if n = "NoSlants" then "slants" else if n = "NoNumber" then "number" else "line"
def S_number_read:bW:=B.T2.S_number_read
def dd(ok:List Int->Prop)(f:List Int->List Int->Except Str (List Int)):bW:=xS (λx:List Int×List Int=>[aS x.1,aS x.2]) (λx=>(∃n,IsSl x.1 n)/\ok x.2) λx=>(f x.1 x.2).map aS
def oP:bW:=dd (λns=>ns.length=1) λ_=>lK
def oQ:bW:=dd (λns=>ns.length<=5000) λ_=>il
def oR:bW:=dd (λns=>ns.length=2) je
def oV:bW:=dd (λns=>ns.length=0) λs _=>.ok s.reverse
def oW:bW:=dd (λns=>ns.length=1/\Bd (ns.headD 0)) zt
def oX:bW:=dd (λns=>ns.length=1) lL
def wO:bW:=fnS (λs:List Int=>[aS s]) (λs=>∃n,IsSl s n) λs=>.str (eY s)
def re:bW:=fnS (λs:List Int=>[aS s,aS []]) (λs=>∃n,IsSl s n) λs=>.str (eY s)
def wP:bW:=xS (λx:D=>[x]) (λx=>kd x=true/\zr x) wK
def j9:List Str:=["NoSlants", "NoNumber", "NoLine"]
def wQ:bW:=fnS (λn:Str=>[.exc n]) (λn=>n∈j9) λn=>.tup [.str (mw n)]
def gY:bW:=fnS (λs:List Int=>[cF s]) (λs=>s.length<=11/\∀i∈s,i.natAbs<10^20) λs=>.str (eY s)
def oY(s:List Int)(x:Str)(s':List Int):Prop:=eO x/\(∃n,IsSl s' n)/\∃w ns,oO x=some (w,ns)/\w≠ "back" /\lM w s ns=some (.ok s')
def rf:bW:=rlS (λs:List Int=>[.pen,cF s]) (λs=>∃n,IsSl s n) λs d=>∃x s',oY s x s'/\d=.tup [.str x,cF s']
def SD(b:Addr)(st:List (List Int))(r:D)(Δ:Dl):Prop:=Δ b=some (st.map aS)/\StOk st/\kd r=true/\zr r
def Zf:gW:=λds Δ E Q=>∃b st,ds=[.pl 1 b]/\Δ b=some (st.map aS)/\st≠[]/\if st.length=1 then E "NoLine" Δ else Q .non (cE Δ b (st.dropLast.map aS))
def rg:gW:=λds Δ E Q=>∃b st r,ds=[.pl 1 b,r]/\SD b st r Δ/\Zcc r st (λex=>E ex Δ) λt st'=>Q (.str t) (cE Δ b (st'.map aS))
def cM:gW:=λds Δ E Q=>∃b st r,ds=[.pl 1 b,r]/\SD b st r Δ/\Zcc r st (λex=>Q (.tup [.str (mw ex)]) Δ) λt st'=>Q (.tup [.str "told",.str t]) (cE Δ b (st'.map aS))
def oZ:gW:=λds Δ E Q=>∃b c st,ds=[.pen,.pl 1 b,.pl 1 c,cF (lst st)]/\Δ b=some (st.map aS)/\StOk st/\Δ c=some [aS [0]]/\Q (.bl true) Δ
def rh:bW:=fnS (λns:List Int=>[.scr (ns.map .int)]) (λns=>ns.length<=63) λ_=>.bl true
theorem CG:kJ Zf:=λds Δ E E' Q Q' hE hQ ⟨b,st,h1,h2,h3,h4⟩=>⟨b,st,h1,h2,h3,by
 split
 .rename_i e;rw[if_pos e] at h4;exact hE _ _ h4
 .rename_i e;rw[if_neg e] at h4;exact hQ _ _ h4⟩
theorem CH:kJ rg:=λds Δ E E' Q Q' hE hQ ⟨b,st,r,h1,h2,h3⟩=>⟨b,st,r,h1,h2,h3.mono (λex=>hE ex Δ) λt s=>hQ _ _⟩
theorem CJ:kJ cM:=λds Δ E E' Q Q' hE hQ ⟨b,st,r,h1,h2,h3⟩=>⟨b,st,r,h1,h2,h3.mono (λex=>hQ _ _) λt s=>hQ _ _⟩
theorem CK:kJ oZ:=λds Δ E E' Q Q' hE hQ ⟨b,c,st,h1,h2,h3,h4,h5⟩=>⟨b,c,st,h1,h2,h3,h4,hQ _ _ h5⟩
theorem CL:∀ds Δ E Q,Zf ds Δ E Q->ds.length=1:=λds Δ E Q ⟨b,st,h,_⟩=>by rw[h];rfl
theorem CM:∀ds Δ E Q,rg ds Δ E Q->ds.length=2:=λds Δ E Q ⟨b,st,r,h,_⟩=>by rw[h];rfl
theorem CN:∀ds Δ E Q,cM ds Δ E Q->ds.length=2:=λds Δ E Q ⟨b,st,r,h,_⟩=>by rw[h];rfl
theorem CO:∀ds Δ E Q,oZ ds Δ E Q->ds.length=4:=λds Δ E Q ⟨b,c,st,h,_⟩=>by rw[h];rfl
end D7
section
def gb(i:Nat):WS:=λ_ N ρ=>match ρ[i]? with
 |some (.ow xs)=>xs≠[]/\N.nx (ρ.set i (.ow xs.dropLast))
 |_=>False
theorem CP(i:Nat)(hN:X.N[i]? = some x:=by rfl)(hv:g5 X.env.scope x:=by first|exact Or.inl rfl|exact Or.inr (Or.inl rfl)|exact Or.inr (Or.inr rfl))(hd:(x==("__debug__" : Str))=false:=by decide)
  (hcd:(x==("__classdict__" : Str))=false:=by decide) (hbase:attributeBase (.Name x p) "pop" X.env (eval (.Name x p) X.env)=eval (.Name x p) X.env:=by rfl) (hline:(apos.endLine==cpos.line)=true:=by rfl)
  (hsw:swapsWith (.Call (.Attribute (.Name x p) "pop" apos) [] [] cpos) none pos.line X.env=pure false:=by rfl):PZ X EX (.Expr (.Call (.Attribute (.Name x p) "pop" apos) [] [] cpos) pos) (gb i):=by
 refine⟨⟨_,dR (jM PySem.F.plainAttrs_list PySem.F.slot_list_pop PySem.F.type_list_pop jO (bN hN hv hd hcd) hbase hline) hsw,λW0 H0 F W σ H ρ E Dn N s fl eo no h=>?_⟩,λE ρ N N' hl q=>?_⟩
 .unfold gb at h
  split at h
  .rename_i xs ex
   obtain⟨a,vs,e1,e2,e3,e4,e5,r⟩:=s.o i xs ex;have hl:vs.length=xs.length:=r.length;have h0:0<vs.length:=by rw[hl];exact YbR.mpr h.1
   refine⟨_,e1,.inl ⟨rfl,vs,SqL.of e2⟩,a,vs,vs[vs.length-1],rfl,rfl,e2,jj (by omega),?_⟩;refine no.nx W σ _ _ (s.chg ex e1 ?_) fl h.2;rw[rM,rM,hl];exact r.take _
  .exact h.elim
 .unfold gb at q ⊢
  split at q
  .exact⟨q.1,hl.nx _ q.2⟩
  .exact q.elim
end
section
def sT:List D->(D->Prop)->Prop:=λds Q=>match ds with
 |[.lst xs]=>∃ns:List Int,xs=its ns/\ns≠[]/\∀m∈ns,(∀x∈ns,x<=m)->Q (.int m)
 |_=>False
theorem CQ(hc:X.calm=true):bZ X (.builtin "max") sT:=by
 refine⟨⟨_,AT hc,λW H vs ds Q ok r hg=>?_⟩,λds P P' hp hg=>?_⟩
 .unfold sT at hg
  split at hg
  .obtain⟨ns,rfl,hne,q⟩:=hg
   obtain⟨v,rfl,rv⟩:=r.one;obtain⟨p,us,rfl,h1,rr⟩:=rv.sql ok;rw[yo rr] at h1;exact⟨p,ns,rfl,h1,hne,λm hm hl=>(q m hm hl).now ok (.int _)⟩
  .exact hg.elim
 .unfold sT at hg ⊢
  split at hg
  .obtain⟨bs,e,hne,q⟩:=hg;exact⟨bs,e,hne,λm hm hl=>hp _ (q m hm hl)⟩
  .exact hg.elim
end
namespace D7
abbrev Zfd:List Str:=["row", "word", "others", "numbers", "due"]
def zu:WS:=(aV (dW (cB (wT (wB gIs (aD (wN 0) (aD (wC (.ty "str")) aC))))) (ij (PySem.Str.ofString "NoLine")) bQ) (aV (wI 1 2 (wL (lB (wN 0) (aD (wC (D.str (PySem.Str.ofString " "))) aC)))) (aV (aZ 3 (wB kA (aD (wL (aLC (iS (wN 2)) 1 [] (gN 0) et (wF S_number_read (aD (wN 0) aC)))) aC))) (aV (dW (ie (iW NUMD true (wN 1)) (wT (w2 nS (wC D.non) (wN 3)))) (ij (PySem.Str.ofString "NoLine")) bQ) (aV (aZ 4 (w1 (mt NUMD) (wN 1))) (aV (dW (ie (ft (wT (w2 (gIsC false) (wN 4) (wC D.non))) (wT (w2 (gEq false) (wB bK (aD (wN 3) aC)) (wC (D.int (0)))))) (ft (wT (w2 (gIsC true) (wN 4) (wC D.non))) (wT (w2 (gEq true) (wB bK (aD (wN 3) aC)) (wN 4))))) (ij (PySem.Str.ofString "NoLine")) bQ) (aJ (aP (aD (wN 1) (aD (wN 3) aC))))))))))
abbrev Zd5:List Str:=["slants", "numbers", "size"]
def zv:WS:=(aV (aZ 2 (w2 gIx (wN 1) (wC (D.int (0))))) (aV (dW (cB (wT (wF mr (aD (wN 2) (aD (wC (D.int (1))) (aD (wC (.int (5))) aC)))))) (ij (PySem.Str.ofString "NoNumber")) bQ) (aJ (w2 Zdn (aP (aD (wC (D.int (0))) aC)) (w2 kC (w2 gMul (wC (D.int (2))) (wN 2)) (wC (D.int (1))))))))
abbrev Zfc:List Str:=["slants", "numbers"]
def zw:WS:=(aV (kB (wF ly (aD (wN 1) aC))) (aJ (wN 1)))
abbrev Zfb:List Str:=["slants", "numbers", "place", "number"]
def zx:WS:=(aV (d9 (wN 1) (fY 2 (eA (gN 2) (eA (gN 3) ii)))) (aV (dW (ie (cB (wT (wF mr (aD (wN 2) (aD (wC (D.int (0))) (aD (w2 kC (wB bK (aD (wN 0) aC)) (wC (D.int (1)))) aC)))))) (cB (wT (wF mr (aD (wN 3) (aD (wC (.int (-50))) (aD (wC (.int (50))) aC))))))) (ij (PySem.Str.ofString "NoNumber")) bQ) (aJ (w2 gAdd (w2 gAdd (cY (wN 0) i7 (gl (wN 2))) (aP (aD (wN 3) aC))) (cY (wN 0) (gl (w2 gAdd (wN 2) (wC (D.int (1))))) i7)))))
abbrev ZcR:List Str:=["slants", "numbers"]
def zy:WS:=(aJ (wF sx (aD (wN 0) aC)))
abbrev Zdu:List Str:=["slants", "numbers", "product"]
def zA:WS:=(aV (aZ 2 (wB kA (aD (wL (aLC (iS (wN 0)) 1 [1] (gN 0) et (w2 gMul (wN 0) (w2 gIx (wN 1) (wC (D.int (0))))))) aC))) (aV (kB (wF ly (aD (wN 2) aC))) (aJ (wN 2))))
abbrev Zgp:List Str:=["slants", "numbers"]
def zB:WS:=(aJ (wF uO (aD (wN 0) (aD (w2 gIx (wN 1) (wC (D.int (0)))) aC))))
abbrev Zc:List Str:=["things"]
def zC:WS:=(aJ (nD (wT (w2 j4 (wB bK (aD (wN 0) aC)) (wC (D.int (0))))) (wS qM (wC (D.str (PySem.Str.ofString " "))) (aD (wL (aLC (iS (wN 0)) 1 [] (gN 0) et (wB gT (aD (wN 0) aC)))) aC)) (wC (D.str (PySem.Str.ofString "none")))))
abbrev ZcP:List Str:=["slants", "numbers"]
def zD:WS:=(aJ (wF wO (aD (wN 0) aC)))
abbrev Zh5:List Str:=["self"]
def wR:cQ:=(aN (dt (bM (gEq false) (nX (w1 f9 (wN 0))) (wC (D.int (1)))) (dS (ij (PySem.Str.ofString "NoLine"))) (dS bQ)) (oK (nY (w1 f9 (wN 0)))))
abbrev ZjU:List Str:=["self", "row", "word", "numbers", "slants", "deed", "question"]
def wU:cQ:=(aN (dS (d9 (wF wP (aD (wN 1) aC)) (fY 2 (eA (gN 2) (eA (gN 3) ii))))) (aN (dt (dT (wT (w2 gEqS (wN 2) (wC (D.str (PySem.Str.ofString "back")))))) (aN (oK (dM Zf (wN 0) aC)) (dS (aJ (wC (D.str (PySem.Str.ofString "ok")))))) (dS bQ)) (aN (nW 4 (wz (w1 f9 (wN 0)) (w1 cL (wC (D.int (1)))))) (aN (dt (dT (iW DEEDD false (wN 2))) (aN (dS (aZ 5 (w1 (mt DEEDD) (wN 2)))) (aN (oK (lG (w1 f9 (wN 0)) (f7 [((PySem.Str.ofString "new_size"),oP),((PySem.Str.ofString "new_row"),oQ),((PySem.Str.ofString "one_set"),oR),((PySem.Str.ofString "all_turned"),oV),((PySem.Str.ofString "all_times"),oW),((PySem.Str.ofString "cut_to"),oX)] (wN 5) (aD (wN 4) (aD (wN 3) aC))))) (dS (aJ (wC (D.str (PySem.Str.ofString "ok"))))))) (dS bQ)) (dS (aV (aZ 6 (w1 (mt QUESD) (wN 2))) (aJ (f7 [((PySem.Str.ofString "ask_slants"),re)] (wN 6) (aD (wN 4) (aD (wN 3) aC))))))))))
abbrev Zbt:List Str:=["_law_e", "_law_marks"]
def wV:WS:=(aV (dJ 1 (bP (aD (wB (gIsX LX MX) (aD (wN 0) (aD (wC (.cls (PySem.Str.ofString "NoSlants"))) aC))) (aD (wB (gIsX LX MX) (aD (wN 0) (aD (wC (.cls (PySem.Str.ofString "NoRow"))) aC))) (aD (wB (gIsX LX MX) (aD (wN 0) (aD (wC (.cls (PySem.Str.ofString "NoNumber"))) aC))) (aD (wB (gIsX LX MX) (aD (wN 0) (aD (wC (.cls (PySem.Str.ofString "NoLine"))) aC))) aC)))))) (aV (dJ 1 (fZ 1 (gQ (wN 1) (wL (bP (aD (wB (gIsX LX MX) (aD (wN 0) (aD (wC (.cls (PySem.Str.ofString "NotEven"))) aC))) (aD (wB (gIsX LX MX) (aD (wN 0) (aD (wC (.cls (PySem.Str.ofString "NotFull"))) aC))) (aD (wB (gIsX LX MX) (aD (wN 0) (aD (wC (.cls (PySem.Str.ofString "NotStrong"))) aC))) (aD (wB (gIsX LX MX) (aD (wN 0) (aD (wC (.cls (PySem.Str.ofString "NoText"))) aC))) aC))))))))) (aV (dL 1 (wB (gIsX LX MX) (aD (wN 0) (aD (wC (.cls (PySem.Str.ofString "TooGreat"))) aC)))) (aV (dW (ee 1 (ie (cB (wT (wB (gIsX LX MX) (aD (wN 0) (aD (wC (.ty "ValueError")) aC))))) (wT (w2 (gEq true) (wM uV (wN 1) (aD (wC (D.bl true)) aC)) (wC (D.int (1))))))) (aJ (aP (aD (wC (D.str (PySem.Str.ofString "other"))) aC))) bQ) (eL 1 (aJ (aP (aD (w2 gIx (wL (bP (aD (wC (D.str (PySem.Str.ofString "slants"))) (aD (wC (D.str (PySem.Str.ofString "row"))) (aD (wC (D.str (PySem.Str.ofString "number"))) (aD (wC (D.str (PySem.Str.ofString "line"))) (aD (wC (D.str (PySem.Str.ofString "even"))) (aD (wC (D.str (PySem.Str.ofString "full"))) (aD (wC (D.str (PySem.Str.ofString "strong"))) (aD (wC (D.str (PySem.Str.ofString "text"))) (aD (wC (D.str (PySem.Str.ofString "great"))) aC))))))))))) (wM uW (wN 1) (aD (wC (D.bl true)) aC))) aC))))))))
abbrev Zdv:List Str:=["_law_numbers"]
def zE:WS:=(aJ (wS qM (wC (D.str (PySem.Str.ofString " "))) (aD (wL (aLC (iS (wN 0)) 1 [] (gN 0) et (wB gT (aD (wN 0) aC)))) aC)))
abbrev Zck:List Str:=["_law_desk", "_law_row", "_law_e"]
def wW:cQ:=(nZ LX 3 2 (nV (wD (wC (D.str (PySem.Str.ofString "told"))) (dM rg (wN 0) (aD (wN 1) aC)))) (aJ (wF wQ (aD (wN 2) aC))))
abbrev ZaU:List Str:=["_law_pen", "_law_desk", "_law_other", "_law_numbers", "_law_far", "_law_great", "_law_at", "_law_spot", "_law_size", "_law_bent", "_law_rows", "_law_row", "_law_due"]
def wX:cQ:=(aN (dS (aZ 4 (w2 gIx (wL (bP (aD (w1 cL (wC (D.int (1)))) (aD (wB bK (aD (wN 3) aC)) (aD (w2 gAdd (wB bK (aD (wN 3) aC)) (wC (D.int (1)))) (aD (w1 cL (wC (D.int (50)))) (aD (w2 oC (wC (D.int (10))) (wC (D.int (19)))) (aD (w2 kC (wC (D.int (0))) (w2 oC (wC (D.int (10))) (wC (D.int (19))))) aC)))))))) (wF ik (aD (wN 0) (aD (wC (D.int (6))) aC)))))) (aN (dS (aZ 5 (w2 gIx (wL (bP (aD (wC (D.int (51))) (aD (w1 cL (wC (D.int (51)))) (aD (wC (D.int (100))) (aD (w2 oC (wC (D.int (10))) (wC (D.int (19)))) (aD (w2 kC (wC (D.int (0))) (w2 oC (wC (D.int (10))) (wC (D.int (19))))) aC))))))) (wF ik (aD (wN 0) (aD (wC (D.int (5))) aC)))))) (aN (dS (aZ 6 (wF ik (aD (wN 0) (aD (wB bK (aD (wN 3) aC)) aC))))) (aN (dS (aZ 7 (wF ik (aD (wN 0) (aD (wB bK (aD (wN 3) aC)) aC))))) (aN (dS (aZ 8 (w2 lv (w2 gAdd (wB bK (aD (wN 3) aC)) (wC (D.int (1)))) (wC (D.int (2)))))) (aN (dS (aZ 9 (w2 gAdd (w2 gAdd (cY (wN 3) i7 (gl (wN 7))) (wL (bP (aD (wN 5) aC)))) (cY (wN 3) (gl (w2 gAdd (wN 7) (wC (D.int (1))))) i7)))) (aN (dS (aZ 10 (wL (bP (aD (aP (aD (w2 eW (w2 eW (wC (D.str (PySem.Str.ofString "set "))) (wB gT (aD (wN 4) aC))) (wC (D.str (PySem.Str.ofString " 5")))) (aD (wC (D.str (PySem.Str.ofString "number"))) aC))) (aD (aP (aD (w2 eW (w2 eW (w2 eW (wC (D.str (PySem.Str.ofString "set "))) (wB gT (aD (wN 6) aC))) (wC (D.str (PySem.Str.ofString " ")))) (wB gT (aD (wN 5) aC))) (aD (wC (D.str (PySem.Str.ofString "number"))) aC))) aC)))))) (aN (dS (aZ 10 (w2 gAdd (wN 10) (wL (bP (aD (aP (aD (w2 eW (w2 eW (w2 eW (wC (D.str (PySem.Str.ofString "set "))) (wB gT (aD (wN 4) aC))) (wC (D.str (PySem.Str.ofString " ")))) (wB gT (aD (wN 5) aC))) (aD (wC (D.str (PySem.Str.ofString "number"))) aC))) (aD (aP (aD (w2 eW (wC (D.str (PySem.Str.ofString "row "))) (wF gY (aD (wN 9) aC))) (aD (wC (D.str (PySem.Str.ofString "slants"))) aC))) aC))))))) (aN (dS (aZ 10 (w2 gAdd (wN 10) (wL (bP (aD (aP (aD (w2 eW (wC (D.str (PySem.Str.ofString "row "))) (wF gY (aD (w2 gAdd (wN 3) (wL (bP (aD (wC (D.int (0))) aC)))) aC))) (aD (wC (D.str (PySem.Str.ofString "slants"))) aC))) (aD (aP (aD (w2 eW (wC (D.str (PySem.Str.ofString "row "))) (wF gY (aD (w2 gMul (wL (bP (aD (wC (D.int (0))) aC))) (wC (D.int (11)))) aC))) (aD (wC (D.str (PySem.Str.ofString "slants"))) aC))) aC))))))) (aN (dS (aZ 10 (w2 gAdd (wN 10) (wL (aLC (iS (aP (aD (wC (D.int (0))) (aD (wC (D.int (6))) (aD (w1 cL (wC (D.int (1)))) (aD (wN 5) aC)))))) 1 [] (gN 0) et (aP (aD (w2 eW (wC (D.str (PySem.Str.ofString "size "))) (wB gT (aD (wN 0) aC))) (aD (wC (D.str (PySem.Str.ofString "number"))) aC)))))))) (aN (dS (aZ 10 (w2 gAdd (wN 10) (wL (aLC (iS (aP (aD (wC (D.int (0))) (aD (w2 gAdd (wN 8) (wC (D.int (1)))) (aD (w1 cL (wC (D.int (1)))) (aD (wN 5) aC)))))) 1 [] (gN 0) et (aP (aD (w2 eW (wC (D.str (PySem.Str.ofString "cut "))) (wB gT (aD (wN 0) aC))) (aD (wC (D.str (PySem.Str.ofString "number"))) aC)))))))) (aN (dS (dW (wT (w2 j4 (wB sT (aD (wL (aLC (iS (wN 3)) 1 [] (gN 0) et (wB gM (aD (wN 0) aC)))) aC)) (wC (D.int (0))))) (aZ 10 (w2 gAdd (wN 10) (wL (aLC (iS (aP (aD (wC (D.int (51))) (aD (w1 cL (wC (D.int (51)))) (aD (w2 oC (wC (D.int (10))) (wC (D.int (19)))) aC))))) 1 [] (gN 0) et (aP (aD (w2 eW (wC (D.str (PySem.Str.ofString "times "))) (wB gT (aD (wN 0) aC))) (aD (wC (D.str (PySem.Str.ofString "slants"))) aC))))))) bQ)) (aN (eP (iS (wN 10)) (fY 2 (eA (gN 11) (eA (gN 12) ii))) (aN (dt (qU (bM (gEq true) (dF cM (aD (wN 1) (aD (wN 11) aC))) (aP (aD (wN 12) aC))) (bM (gEq true) (dF cM (aD (wN 1) (aD (wC (D.str (PySem.Str.ofString "slants"))) aC))) (aP (aD (wC (D.str (PySem.Str.ofString "told"))) (aD (wF gY (aD (wN 3) aC)) aC))))) (dS (aJ (wC (D.bl false)))) (dS bQ)) (dt (bM (gEq true) (dF cM (aD (wN 2) (aD (wC (D.str (PySem.Str.ofString "slants"))) aC))) (aP (aD (wC (D.str (PySem.Str.ofString "told"))) (aD (wC (D.str (PySem.Str.ofString "0"))) aC)))) (dS (aJ (wC (D.bl false)))) (dS bQ)))) (dS (aJ (wC (D.bl true)))))))))))))))))
abbrev Zdy:List Str:=["_law_pen", "_law_numbers", "_law_way", "_law_at", "_law_number", "_law_later", "_law_many"]
def zF:WS:=(aV (aZ 2 (wF ik (aD (wN 0) (aD (wC (D.int (5))) aC)))) (eL 5 (aV (dW (wT (w2 qD (wN 2) (wC (D.int (2))))) (aV (gP 3 4 (aD (wF ik (aD (wN 0) (aD (wB bK (aD (wN 1) aC)) aC))) (aD (w2 kC (wF ik (aD (wN 0) (aD (wC (D.int (101))) aC))) (wC (D.int (50)))) aC))) (aV (aZ 5 (w2 gAdd (w2 gAdd (cY (wN 1) i7 (gl (wN 3))) (wL (bP (aD (wN 4) aC)))) (cY (wN 1) (gl (w2 gAdd (wN 3) (wC (D.int (1))))) i7))) (eL 5 (aJ (aP (aD (w2 eW (w2 eW (w2 eW (wC (D.str (PySem.Str.ofString "set "))) (wB gT (aD (wN 3) aC))) (wC (D.str (PySem.Str.ofString " ")))) (wB gT (aD (wN 4) aC))) (aD (wN 5) aC))))))) bQ) (aV (dW (wT (w2 (gEq false) (wN 2) (wC (D.int (2))))) (aJ (aP (aD (wC (D.str (PySem.Str.ofString "turn"))) (aD (w1 gRev (wN 1)) aC)))) bQ) (aV (dW (wT (w2 (gEq false) (wN 2) (wC (D.int (3))))) (aJ (aP (aD (wC (D.str (PySem.Str.ofString "times -1"))) (aD (wL (aLC (iS (wN 1)) 1 [] (gN 0) et (w2 kC (wC (D.int (0))) (wN 0)))) aC)))) bQ) (aV (aZ 6 (w2 gAdd (wC (D.int (1))) (w2 gMul (wC (D.int (2))) (wF ik (aD (wN 0) (aD (wC (D.int (5))) aC)))))) (aV (dJ 5 (aLC (ls (aD (wN 6) aC)) 1 [0] (gN 0) et (w2 kC (wF ik (aD (wN 1) (aD (wC (D.int (101))) aC))) (wC (D.int (50)))))) (eL 5 (aJ (aP (aD (w2 eW (wC (D.str (PySem.Str.ofString "row "))) (wF gY (aD (wN 5) aC))) (aD (wN 5) aC))))))))))))
end D7
theorem rj:(" " : Str)=⟨#[32]⟩:=by decide +kernel
theorem CU{t:Str}(q:Q (.bl true)):gIs [.str t,.ty "str"] Q:=⟨"str",rfl,by decide,q⟩
theorem CV{x:D}(h:kd x=true)(hn:∀t,x≠.str t)(q:Q (.bl false)):gIs [x,.ty "str"] Q:=by
 cases x with
 |str t=>exact Eb rfl (hn t)
 |non=>exact⟨_,rfl,by decide,q⟩
 |bl b=>exact⟨_,rfl,by decide,q⟩
 |int i=>exact⟨_,rfl,by decide,q⟩
 |tup xs=>exact⟨_,rfl,by decide,q⟩
 |lst xs=>exact⟨_,rfl,by decide,q⟩
 |dic=>exact⟨_,rfl,by decide,q⟩
 |_=>cases h
local macro_rules | `(tactic| walk_at "w1")=>`(tactic| simp only [aJ,dW,aZ,bQ,kB,eL,dJ,jW,qA,gP,d9,dL,qB,f6,qE,jX,ij,nI,wM,Zdn,lm,jS,nA,ft,ie,cB,wT,nD,w1,w2,wB,wF,wL,aP,cY,Zbm,aB,bP,aD,aC,aLC,ZbT,et,iS,iC,yZ,lB,wS,qR,yV,yY,yW,yX,f7,ZaV,isI,iW,gb,iL,iT,ls,qw,iZ,i7,gl,wN,wC,gN,fY,eA,ii,eh,qz,gR,jY,ee,fZ,cD,gQ,jZ,j0,cO,pub,dD,oh,cn,fM,pq,fL,List.replicate,pv,pw,pz,pA,Nat.reduceSub,Nat.reduceAdd,gZ,pB,true_and,cH,if_true,if_false,ite_true,ite_false,rC,dQ,i4,
 u5,u6,u7,u8,u9,va,vb,vc,vd,ve,vf,vg,vh,vj,vk,vm,vn,vo,vp,vq,vt,vv,vw,vx,vy,vz,vA,vB,vC,vD,vE,vF,vG,vH,vI,vJ,vK,vL,vM,vN,vO,vP,vQ,vR,vS,vT,vU,vV,vW,nK,vX,vY,vZ,v4,v6,nM,nN])
namespace D7
section
variable{n:Nat}
theorem o4{ok:List Int->Prop}{f:List Int->List Int->Except Str (List Int)}(h:IsSl s n)(ho:ok ns)(q:exQ E Q ((f s ns).map aS)):dd ok f [aS s,aS ns] E Q:=⟨(s,ns),rfl,⟨⟨n,h⟩,ho⟩,q⟩
end
theorem sU(h:ns.length=1):∃k,ns=[k]:=by
 match ns,h with
 |[k],_=>exact⟨k,rfl⟩
theorem CW(h:ns.length=2):∃k j,ns=[k,j]:=by
 match ns,h with
 |[k,j],_=>exact⟨k,j,rfl⟩
theorem CY(h:ns.length=0):ns=[]:=by
 match ns,h with
 |[],_=>rfl
theorem at0{r:List D}:cA (d::r) 0=some d:=cg (j:=0) rfl
theorem CZ:Rd oP zv Zd5:=by
 rintro _ E Q ⟨⟨s,ns⟩,rfl,⟨⟨n,h⟩,hn⟩,q⟩;obtain⟨k,rfl⟩:=sU hn;unfold zv;walk_at "nx";refine⟨_,at0,?_⟩;walk_at "nx";refine sC (by rw[kd]) ?_;change exQ E Q ((lK [k]).map aS) at q;cases e:bH 1 5 (.int k) with
 |false=>
  rw[show lK [k]=.error "NoNumber" from if_neg (by show¬bH 1 5 (.int k)=true;rw[e];decide)] at q;simp only[isB,i4,if_true];exact q
 |true=>
  rw[show lK [k]=.ok (List.replicate (2*k-1).toNat 0) from if_pos e] at q;have hk:1<=k/\k<=5:=by simpa[bH] using e
  simp only[isB,dQ,cH,if_false];refine⟨cP (by decide),⟨jb (n:=2) (by decide) (by decide),jb (n:=3) (by omega) (by decide)⟩,by omega,by omega,cP (by omega),?_⟩;have:(List.replicate (2*k-1).toNat [D.int 0]).flatten=(List.replicate (2*k-1).toNat (0:Int)).map D.int:=by
   generalize (2*k-1).toNat=m
   induction m with
   |zero=>rfl
   |succ m ih=>rw[gZ,gZ,mE,ih];rfl
  rw[this];exact q
theorem sV(e:dC (aS ns)=false):il ns=.error "NoSlants" :=if_neg (by rw[e];decide)
theorem wY(e:dC (aS ns)=true):il ns=.ok ns:=if_pos e
theorem C0:Rd oQ zw Zfc:=by
 rintro _ E Q ⟨⟨s,ns⟩,rfl,⟨⟨n,h⟩,hn⟩,q⟩;unfold zw;walk_at "nx";change exQ E Q ((il ns).map aS) at q;cases e:dC (aS ns) with
 |false=>
  rw[sV e] at q;exact uR (uM hn) e q
 |true=>
  rw[wY e] at q;obtain⟨s',n',e1,h'⟩:=uP e;rw[e1];refine uQ h' ?_;walk_at "st";rw[<-e1];exact q
theorem C2:Rd oV zy ZcR:=by
 rintro _ E Q ⟨⟨s,ns⟩,rfl,⟨⟨n,h⟩,hn⟩,q⟩;unfold zy;walk_at "st";exact Bt h q
theorem C3:Rd oX zB Zgp:=by
 rintro _ E Q ⟨⟨s,ns⟩,rfl,⟨⟨n,h⟩,hn⟩,q⟩;obtain⟨k,rfl⟩:=sU hn;unfold zB;walk_at "st";refine⟨_,at0,?_⟩;refine⟨(aS s,.int k),rfl,⟨h.kd,by rw[kd]⟩,?_⟩;dsimp only;rw[sD h,qG];change exQ E Q ((lL s [k]).map aS) at q;cases e:bH 1 (sN (aS s)) (.int k) with
 |false=>rw[show lL s [k]=.error "NoNumber" from if_neg (by show¬bH 1 (sN (aS s)) (.int k)=true;rw[e];decide)] at q;exact q
 |true=>rw[show lL s [k]=.ok (sB s (sN (aS s)) k.toNat) from if_pos e] at q;exact q
theorem wZ{α:Type}{xs:List α}{a:Nat}(h:a<=xs.length):bE xs none (some (a:Int))=xs.take a:=by
 have:=yA (xs:=xs) (im a) h;rw[rG,Nat.sub_zero] at this;exact this
theorem C4:Rd oR zx Zfb:=by
 rintro _ E Q ⟨⟨s,ns⟩,rfl,⟨⟨n,h⟩,hn⟩,q⟩;obtain⟨k,j,rfl⟩:=CW hn;have h9:=h.l9;have hl:=h.len;have hn1:=h.n1;unfold zx;walk_at "nx";refine⟨rfl,?_⟩;walk_at "nx";refine sC (by rw[kd]) ?_;change exQ E Q ((je s [k,j]).map aS) at q;cases e:bH 0 ((s.length:Int)-1) (.int k) with
 |false=>
  rw[show je s [k,j]=.error "NoNumber" from if_neg (by show¬(bH 0 ((s.length:Int)-1) (.int k)&&bH (-50) 50 (.int j))=true;rw[e,o9];decide)] at q;simp only[isB,i4,if_true];exact q
 |true=>
 simp only[isB,dQ,cH,if_false];refine sC (by rw[kd]) ?_;cases e2:bH (-50) 50 (.int j) with
 |false=>
  rw[show je s [k,j]=.error "NoNumber" from if_neg (by show¬(bH 0 ((s.length:Int)-1) (.int k)&&bH (-50) 50 (.int j))=true;rw[e,e2];decide)] at q;simp only[isB,i4,if_true];exact q
 |true=>
 rw[show je s [k,j]=.ok (s.set k.toNat j) from if_pos (show(bH 0 ((s.length:Int)-1) (.int k)&&bH (-50) 50 (.int j))=true by rw[e,e2];rfl)] at q;have hk:0<=k/\k<=(s.length:Int)-1:=by simpa[bH] using e
 simp only[isB,dQ,cH,if_false];walk_at "st";obtain⟨a,rfl⟩:∃a:Nat,k=a:=⟨k.toNat,by omega⟩
 have ha:a<s.length:=by omega
 have e3:bE (s.map D.int) none (some (a:Int))=(s.take a).map D.int:=by rw[wZ (by rw[bJ];omega),pD]
 have e4:bE (s.map D.int) (some ((a:Int)+1)) none=(s.drop (a+1)).map D.int:=by rw[show(a:Int)+1=((a+1:Nat):Int) by omega,uZ (by rw[bJ];omega),pC]
 rw[e3,e4];have e5:(s.take a).map D.int++[D.int j]++(s.drop (a+1)).map D.int=(s.set a j).map D.int:=by
  rw[tH,if_pos ha,gu,dD,lT];rfl
 rw[e5];have l1:(s.take a).length<=9:=by rw[kL];omega
 have l2:(s.drop (a+1)).length<=9:=by rw[lR];omega
 refine⟨cP (by decide),cP (by rw[bJ];omega),cP (by rw[dP,bJ,bJ];simp only[cn,fM];omega),q⟩
theorem C5:Rd oW zA Zdu:=by
 rintro _ E Q ⟨⟨s,ns⟩,rfl,⟨⟨n,h⟩,hn,hk⟩,q⟩;obtain⟨k,rfl⟩:=sU hn;have h9:=h.l9;unfold zA;walk_at "nx";refine kH (g:=λi:Int=>D.int i) (f:=λi:Int=>D.int (i*k)) s (λi hi Q hq=>?_) .un [] (cP (by rw[fM];omega)) ?_
 .walk_at "st"
  refine⟨_,at0,?_⟩;walk_at "st";have:=h.b i hi;exact⟨⟨jb (n:=6) (by omega) (by decide),hk⟩,hq⟩
 rw[fL];walk_at "nx";have ei:(D.tup (s.map λi=>D.int (i*k)))=aS (s.map (· * k)):=by show _=D.tup ((s.map (· * k)).map D.int);rw[iY];rfl
 rw[ei];change exQ E Q ((il (s.map (· * k))).map aS) at q;cases e:dC (aS (s.map (· * k))) with
 |false=>
  rw[sV e] at q;exact uR (uM (by rw[bJ];omega)) e q
 |true=>
  rw[wY e] at q;obtain⟨s',n',e1,h'⟩:=uP e;rw[e1];refine uQ h' ?_;rw[<-e1];exact q
theorem C6(h1:s.length<=11)(h2:∀i∈s,i.natAbs<10^20)(q:Q (.str (eY s))):qM " " [.lst (s.map λi=>D.str (aL i))] Q:=by
 refine⟨s.map aL,by rw[iY];rfl,by decide +kernel,?_,q⟩;rw[iY,bJ];have:∀(l:List Int),(∀i∈l,i.natAbs<10^20)->(l.map ((λx:Str=>x.length)∘aL)).sum<=l.length*23:=by
  intro l
  induction l with
  |nil=>intro _;exact im _
  |cons a r ih=>
   intro h;have h1:=B.T2.istr_len (i:=a) (lQ (h a (en ..)) (by decide));have h2:=ih λi hi=>h i (da _ hi);rw[dD,List.sum_cons,cn];show(aL a).length+_<=_;omega
 have:=this s h2;omega
theorem kf{i:Int}(h:i.natAbs<10^20)(q:Q (.str (aL i))):gT [.int i] Q:=⟨i,rfl,lQ (BQ (k:=67) (by decide) (lQ h (by decide))) (by decide),q⟩
theorem zG(h1:s.length<=11)(h2:∀i∈s,i.natAbs<10^20)(q:Q (.str (eY s))):lcW (gN 0) et (wB gT (aD (wN 0) aC)) (List.map D.int s) [SV.un] [] λds=>qM (Str.ofString " ") [D.lst ds] Q:=by
 refine kH (g:=λi:Int=>D.int i) (f:=λi:Int=>D.str (aL i)) s (λi hi Q hq=>?_) .un [] (cP (by rw[fM];omega)) ?_
 .walk_at "st"
  exact kf (h2 i hi) hq
 rw[fL];exact C6 h1 h2 q
theorem IsSl.abs{n:Nat}(h:IsSl s n):∀i∈s,i.natAbs<10^20:=λi hi=>by have:=h.b i hi;exact mG (by omega:i.natAbs<=50) (by decide)
theorem C7:Rd wO zC Zc:=by
 rintro _ E Q ⟨s,rfl,⟨n,h⟩,q⟩;have h9:=h.l9;have hl:=h.len;have hn1:=h.n1;unfold zC;walk_at "st";rw[Ec (by omega),if_pos rfl];exact zG (by omega) (IsSl.abs h) q
theorem C8:Rd re zD ZcP:=by
 rintro _ E Q ⟨s,rfl,h,q⟩;unfold zD;walk_at "st";exact⟨s,rfl,h,q⟩
theorem C9:Rd gY zE Zdv:=by
 rintro _ E Q ⟨s,rfl,⟨h1,h2⟩,q⟩;unfold zE;walk_at "st";exact zG h1 h2 q
theorem Da(l:List (Option Int)):(l.map eN).any sM=l.any Option.isNone:=by
 induction l with
 |nil=>rfl
 |cons a r ih=>rw[dD,oi,oi,ih];cases a<;>rfl
theorem Db(l:List (Option Int)):∀d∈l.map eN,d=.non\/(∃i,d=.int i)\/∃xs,d=.tup xs:=λd hd=>by
 obtain⟨o,_,rfl⟩:=Ybu.mp hd;cases o with
 |none=>exact .inl rfl
 |some i=>exact .inr (.inl ⟨i,rfl⟩)
theorem Zg:∀(l:List (Option Int)),l.any Option.isNone=false->l.map eN=(l.filterMap id).map D.int/\l.length=(l.filterMap id).length/\l.all Option.isSome=true
 |[],_=>⟨rfl,rfl,rfl⟩
 |none::r,h=>by simp at h
 |some i::r,h=>by
  rw[oi] at h;obtain⟨h1,h2,h3⟩:=Zg r (by simpa using h);exact⟨by rw[dD,h1];rfl,by rw[cn,h2];rfl,by rw[List.all_cons,h3];rfl⟩
theorem Dc(l:List (Option Int))(h:l.any Option.isNone=true):l.all Option.isSome=false:=by
 obtain⟨o,ho,hn⟩:=List.any_eq_true.mp h;cases e:l.all Option.isSome with
 |false=>rfl
 |true=>have h2:=Ybc.mp e o ho;cases o with|none=>cases h2|some i=>cases hn
theorem zH{α:Type}{k:Str}{v:α}:∀{l:List (Str×α)},l.lookup k=some v->(k,v)∈l
 |(a,b)::l,h=>by
  rw[eC] at h;cases e:k==a with
  |true=>rw[e] at h;cases h;rw[eq_of_beq e];exact en ..
  |false=>rw[e] at h;exact da _ (zH h)
theorem Dd(h:NUMD.lookup w=some d):d=.non\/∃k,d=.int k:=by
 have:=zH h;simp only[NUMD,Yan,gq,or_false,Prod.mk.injEq] at this;rcases this with⟨_,rfl⟩|⟨_,rfl⟩|⟨_,rfl⟩|⟨_,rfl⟩|⟨_,rfl⟩|⟨_,rfl⟩|⟨_,rfl⟩|⟨_,rfl⟩|⟨_,rfl⟩|⟨_,rfl⟩|⟨_,rfl⟩|⟨_,rfl⟩|⟨_,rfl⟩|⟨_,rfl⟩|⟨_,rfl⟩|⟨_,rfl⟩|⟨_,rfl⟩|⟨_,rfl⟩|⟨_,rfl⟩|⟨_,rfl⟩<;>first|exact .inl rfl|exact .inr ⟨_,rfl⟩
def w8:Option (Str×List Int)->Except Str D
 |some (w,ns)=>.ok (.tup [.str w,aS ns])
 |none=>.error "NoLine"
theorem xa{x:D}:wK x=w8 (lJ x):=by
 unfold wK w8;cases lJ x with
 |none=>rfl
 |some p=>rfl
theorem zI(e:NUMD.lookup w=none):iX (w::os)=none:=by
 show(match NUMD.lookup w with|none=>none|some d=>if(os.map bL).all Option.isSome&&gX d os.length then some (w,(os.map bL).filterMap id) else none)=none;rw[e]
theorem xb(e:NUMD.lookup w=some d):iX (w::os)=if(os.map bL).all Option.isSome&&gX d os.length then some (w,(os.map bL).filterMap id) else none:=by
 show(match NUMD.lookup w with|none=>none|some d=>if(os.map bL).all Option.isSome&&gX d os.length then some (w,(os.map bL).filterMap id) else none)=_;rw[e]
theorem De:Rd wP zu Zfd:=by
 rintro _ E Q ⟨x,rfl,⟨h1,h2⟩,q⟩;unfold zu
 by_cases hs:∃t,x=.str t
 .obtain⟨t,rfl⟩:=hs
  have ht:eO t:=h2;walk_at "nx";refine CU ?_;simp only[isB,dQ,cH,if_false];refine yI ?_;unfold wI;walk_at "st";rw[show(Str.ofString " ")=⟨#[32]⟩ from rj];have hm:=λp hp=>Cd (p:=p) ht hp (c:=32);have hk:=zl t 32;have hw:=ht.2;have hp:=split_pos t ⟨#[32]⟩;rw[xa] at q;change exQ E Q (w8 (iX (Txt.split t " "))) at q;rw[show(" " : Str)=⟨#[32]⟩ from rj] at q;refine⟨_,rfl,by decide +kernel,cP (by omega),?_⟩;generalize Txt.split t ⟨#[32]⟩=L at *;refine⟨cP (by omega),?_⟩;cases L with
  |nil=>simp at hp
  |cons w os=>
   walk_at "nx";refine kH (g:=D.str) (f:=λp=>eN (bL p)) os (λp hp Q hq=>?_) .un [] (cP (by rw[fM];simp only[cn] at hk;omega)) ?_
   .walk_at "st"
    exact B.T2.u_number_read (hm p (da _ hp)) hq
   rw[fL];walk_at "nx";rw[show(λp=>eN (bL p))=eN∘bL from rfl,<-iY];unfold n4;refine⟨w,rfl,?_⟩;cases e:NUMD.lookup w with
   |none=>
    rw[zI e] at q;simp only[Option.isSome_none,i4,if_true];exact q
   |some du=>
   rw[xb e] at q;simp only[Option.isSome_some,dQ,cH,if_false,if_true];refine⟨_,rfl,.inr rfl,Db _,?_⟩;rw[Da];cases e2:(os.map bL).any Option.isNone with
   |true=>
    simp only[isB,if_true];have:((os.map bL).all Option.isSome&&gX du os.length)=false:=by rw[Dc _ e2];rfl
    rw[this] at q;exact q
   |false=>
   simp only[isB,cH,if_false];obtain⟨o1,o2,o3⟩:=Zg _ e2;rw[bJ] at o2;have ol:((os.map bL).map eN).length=os.length:=by rw[bJ,bJ]
   walk_at "nx";refine⟨w,du,rfl,e,?_⟩;rw[o3,Bool.true_and] at q;walk_at "nx";rw[ol];have fin:gX du os.length=true->2<=aM/\Q (D.tup [D.str w,D.tup (List.map eN (List.map bL os))]):=λz=>by
    rw[z,if_pos rfl] at q;refine⟨by decide,?_⟩;rw[o1];exact q
   have fz:gX du os.length=false->E (Str.ofString "NoLine"):=λz=>by
    rw[z] at q;exact q
   rcases Dd e with rfl|⟨k,rfl⟩
   .refine⟨rfl,?_⟩
    show isB _ (.bl true);simp only[isB,if_true]
    by_cases z:os.length=0
    .rw[if_pos (by rw[z];rfl)]
     exact fz (by unfold gX;rw[z];rfl)
    .rw[if_neg (by rw[Et];omega)]
     refine⟨rfl,?_⟩;show isB _ (.bl false);simp only[isB,cH,if_false];exact fin (by unfold gX;exact Ec (by omega))
   .refine⟨rfl,?_⟩
    show isB _ (.bl false);simp only[isB,cH,if_false];refine⟨rfl,?_⟩;show isB _ (.bl true);simp only[isB,if_true];refine xZ ?_;simp only[if_true,isB];cases z:((os.length:Int)==k) with
    |true=>
     rw[dQ,if_neg dv];exact fin z
    |false=>
     rw[i4,if_pos rfl];exact fz z
 .walk_at "nx"
  refine CV h1 (λt z=>hs ⟨t,z⟩) ?_;simp only[isB,i4,if_true];rw[xa] at q;cases x with
  |str t=>exact Eb ⟨t,rfl⟩ hs
  |_=>exact q
theorem lN{n m:Str}(h:n∈LX)(hm:m∈MX)(q:Q (.bl (gh n==m))):gIsX LX MX [.exc n,.cls m] Q:=⟨h,hm,q⟩
theorem Df:∀ds E Q,wQ ds E Q->wV No { nx:=λ_=>Q .non,rt:=Q } (cO Zbt ds):=by
 rintro _ E Q ⟨n,rfl,hn0,q⟩;have hn:n∈LX:=by
  simp only[j9,Yan,gq,or_false] at hn0;rcases hn0 with rfl|rfl|rfl<;>decide +kernel
 unfold wV;walk_at "nx";refine lN hn (by simp) (lN hn (by simp) (lN hn (by simp) (lN hn (by simp) ⟨by decide,?_⟩)));walk_at "nx";refine lN hn (by simp) (lN hn (by simp) (lN hn (by simp) (lN hn (by simp) ⟨by decide,?_⟩)));walk_at "st";refine⟨by decide,?_⟩;refine⟨by simp[oA,fu],?_⟩;walk_at "nx";refine lN hn (by simp) ⟨by decide,?_⟩;have key:(MX.map (gh n == ·)).countP (· == true)=1/\∃j:Nat,(MX.map (gh n == ·))[j]? = some true/\(∀i<j,(MX.map (gh n == ·))[i]?≠some true)/\[D.str "slants",.str "row",.str "number",.str "line",.str "even",.str "full",.str "strong",.str "text",.str "great"][j]? = some (.str (mw n)):=by
  simp only[j9,Yan,gq,or_false] at hn0;rcases hn0 with rfl|rfl|rfl
  .exact⟨by decide +kernel,0,by decide +kernel,by decide +kernel,by first|rfl|decide +kernel⟩
  .exact⟨by decide +kernel,2,by decide +kernel,by decide +kernel,by first|rfl|decide +kernel⟩
  .exact⟨by decide +kernel,3,by decide +kernel,by decide +kernel,by first|rfl|decide +kernel⟩
 obtain⟨k1,j,k2,k3,k4⟩:=key;walk_at "nx";refine⟨hn,rfl,?_⟩;walk_at "st";refine⟨⟨_,rfl⟩,⟨MX.map (gh n == ·),true,rfl,rfl,?_⟩⟩;rw[k1];walk_at "st";refine⟨by decide,⟨_,rfl⟩,MX.map (gh n == ·),true,j,rfl,rfl,k2,k3,?_⟩;exact⟨_,cg k4,by decide,q⟩
end D7
local macro_rules | `(tactic| walk_at "dd")=>`(tactic| (simp only[dt,dT,dS,dE,nV,oK,nW,dM,wz,nX,lG,nY,bM,wD,sP,lD,qU,dF,oN,lH,NdD.to,w1,f9,iW,n4];walk_at "st"))
namespace D7
theorem bA{z z':cQ}{E:ED}{N:NdD}(h:z E { N with nx:=z' E N } ρ Δ):aN z z' E N ρ Δ:=h
theorem Dg(h:st≠[]):cA (st.map aS) (-1)=some (aS (lst st)):=by
 obtain⟨r,s,rfl⟩:∃r s,st=r++[s]:=⟨_,_,(tI h).symm⟩
 rw[gu];have:lst (r++[s])=s:=by unfold lst;simp
 rw[this];exact fV _ _
theorem Dh:∀ds Δ E Q,Zf ds Δ E Q->wR E { nx:=λ_ δ=>Q .non δ,rt:=Q } (cO Zh5 ds) Δ:=by
 rintro _ Δ E Q ⟨b,st,rfl,hΔ,hne,q⟩;unfold wR;refine bA ?_;walk_at "dd";refine⟨b,rfl,b,_,rfl,hΔ,?_⟩;rw[bJ]
 by_cases e:st.length=1
 .rw[if_pos e] at q
  rw[if_pos (by rw[e];rfl)];exact q
 .rw[if_neg e] at q
  rw[if_neg (by rw[Et];omega)];have h0:0<st.length:=YbR.mpr hne;refine⟨b,rfl,b,_,aS (st[st.length-1]'(by omega)),rfl,hΔ,?_,?_⟩
  .rw[bJ,e7,jj (by omega)];rfl
  .rw[<-List.map_dropLast]
   exact q
theorem Di{i:Int}(h:bL w=some i):i.natAbs<10^20:=by
 unfold bL at h;split at h
 .rename_i g
  cases h;unfold lC at g;simp only[cy,Ee] at g;obtain⟨⟨⟨h1,h2⟩,h3⟩,_⟩:=g;have:=Cc (y1 h3);have h4:(10:Nat)^(aX w).length<=10^20:=Nat.pow_le_pow_right (by decide) h2;unfold iV;split<;>omega
 .cases h
theorem Dj(h:iX L=some (w,ns)):∃d,NUMD.lookup w=some d/\gX d ns.length=true/\ns.length<=L.length/\∀i∈ns,i.natAbs<10^20:=by
 cases L with
 |nil=>cases h
 |cons v os=>
  cases e:NUMD.lookup v with
  |none=>rw[zI e] at h;cases h
  |some d=>
   rw[xb e] at h;split at h
   .rename_i g
    cases h;rw[cy] at g;have hl:((os.map bL).filterMap id).length=os.length:=by
     have:∀l:List (Option Int),l.all Option.isSome=true->(l.filterMap id).length=l.length:=by
      intro l
      induction l with
      |nil=>intro _;rfl
      |cons a r ih=>
       intro h;rw[List.all_cons,cy] at h;cases a with
       |none=>cases h.1
       |some i=>show(i::r.filterMap id).length=_;rw[cn,ih h.2,cn]
     rw[this _ g.1,bJ]
    refine⟨d,e,by rw[hl];exact g.2,by rw[hl];simp,λi hi=>?_⟩;obtain⟨o,ho,he⟩:=Yaz.mp hi;obtain⟨x,_,rfl⟩:=Ybu.mp ho;exact Di he
   .cases h
theorem o5(h:NUMD.lookup w=some (.int k))(hd:NUMD.lookup w=some d)(due:gX d ns.length=true):ns.length=k:=by
 rw[h] at hd;cases hd;have:=eq_of_beq (show((ns.length:Int)==(k:Int))=true from due);omega
theorem sW(h:st≠[]):lst st∈st:=by
 obtain⟨r,s,rfl⟩:∃r s,st=r++[s]:=⟨_,_,(tI h).symm⟩
 unfold lst;simp
theorem Dk:∀ds Δ E Q,rg ds Δ E Q->wU E { nx:=λ_ δ=>Q .non δ,rt:=Q } (cO ZjU ds) Δ:=by
 rintro _ Δ E Q ⟨b,st,r,rfl,⟨hΔ,hst,hk,hl⟩,q⟩;unfold wU;refine bA ?_;walk_at "dd";refine⟨r,rfl,⟨hk,hl⟩,?_⟩;rw[xa];unfold Zcc at q;cases e:lJ r with
 |none=>rw[e] at q;exact q
 |some p=>
 obtain⟨w,ns⟩:=p;rw[e] at q;change ZbI w ns st (λex=>E ex Δ) _ at q;obtain⟨x,rfl⟩:∃x,r=.str x:=by cases r with|str x=>exact⟨x,rfl⟩|_=>cases e
 have e':iX (Txt.split x " ")=some (w,ns):=e;obtain⟨d,hd,due,hln,hbd⟩:=Dj e';have hsp:=zl x 32;have hx2:x.length<=2000:=hl.2;have hln5:ns.length<=5000:=by rw[rj] at hln;omega
 show _/\_;refine⟨rfl,?_⟩;refine bA ?_;walk_at "dd";refine⟨w,_,rfl,rfl,?_⟩
 by_cases hb:w = "back"
 .rw[beq_iff_eq.mpr hb]
  unfold ZbI at q;rw[if_pos hb] at q;simp only[isB,if_true];refine bA ?_;walk_at "dd";refine⟨b,rfl,b,st,rfl,hΔ,hst.ne,?_⟩
  by_cases h1:st.length=1
  .rw[if_pos h1] at q ⊢;exact q
  .rw[if_neg h1] at q ⊢;exact q
 .rw[beq_eq_false_iff_ne.mpr hb]
  unfold ZbI at q;rw[if_neg hb] at q;simp only[isB,cH,if_false];refine bA ?_;walk_at "dd";refine⟨b,rfl,b,rfl,_,_,hΔ,Dg hst.ne,?_⟩;refine bA ?_;walk_at "dd";refine⟨w,rfl,?_⟩;obtain⟨n,hsl⟩:∃n,IsSl (lst st) n:=hst.all _ (sW hst.ne);have hlen:(st.map aS).length<aM:=by rw[bJ];have:=hst.len;exact mG this (by decide)
  have go:∀(f:Str) (S:bW) (r:Except Str (List Int)),lM w (lst st) ns=some r->DEEDD.lookup w=some (.cls f)->(f,S)∈[((Str.ofString "new_size"),oP),(Str.ofString "new_row",oQ),(Str.ofString "one_set",oR),(Str.ofString "all_turned",oV),(Str.ofString "all_times",oW),(Str.ofString "cut_to",oX)]->
    (∀E' Q',exQ E' Q' (r.map aS)->S [aS (lst st),aS ns] E' Q')->if(List.lookup w DEEDD).isSome=true then
    aN (dS (aZ 5 (w1 (mt DEEDD) (wN 2)))) (aN (oK (lG (w1 f9 (wN 0)) (f7 [(Str.ofString "new_size",oP),(Str.ofString "new_row",oQ),(Str.ofString "one_set",oR),(Str.ofString "all_turned",oV),(Str.ofString "all_times",oW),(Str.ofString "cut_to",oX)] (wN 5) (aD (wN 4) (aD (wN 3) aC))))) (dS (aJ (wC (D.str (Str.ofString "ok")))))) E
     { nx:=dS (aV (aZ 6 (w1 (mt QUESD) (wN 2))) (aJ (f7 [(Str.ofString "ask_slants",re)] (wN 6) (aD (wN 4) (aD (wN 3) aC))))) E { nx:=λx δ=>Q D.non δ,rt:=Q },rt:=Q }
     [SV.d (D.pl 1 b),SV.d (D.str x),SV.d (D.str w),SV.d (aS ns),SV.d (aS (lst st)),SV.un,SV.un] Δ
   else
    aV (aZ 6 (w1 (mt QUESD) (wN 2))) (aJ (f7 [(Str.ofString "ask_slants",re)] (wN 6) (aD (wN 4) (aD (wN 3) aC)))) (λex=>E ex Δ) { nx:=λρ=>Q D.non Δ,rt:=λd=>Q d Δ }
     [SV.d (D.pl 1 b),SV.d (D.str x),SV.d (D.str w),SV.d (aS ns),SV.d (aS (lst st)),SV.un,SV.un]:=by
   intro f S r hr hf hS hU;rw[hr] at q;rw[hf,if_pos (show(some (D.cls f)).isSome=true from rfl)];refine bA ?_;walk_at "dd";refine⟨w,.cls f,rfl,hf,?_⟩;refine bA ?_;walk_at "dd";refine⟨b,rfl,b,_,rfl,hΔ,(f,S),hS,rfl,hU _ _ ?_⟩;cases r with
   |error ex=>exact q
   |ok s=>
    refine⟨hlen,?_⟩;have:(st++[s]).map aS=st.map aS++[aS s]:=by rw[gu];rfl
    rw[<-this];exact q
  clear hx2 hsp
  by_cases w1:w = "size"
  .subst w1
   have hn:ns.length=1:=o5 (w:= "size") (k:=1) rfl hd due;exact go "new_size" oP _ rfl rfl (by simp) λE' Q' z=>o4 hsl hn z
  by_cases w2:w = "row"
  .subst w2
   exact go "new_row" oQ _ rfl rfl (by simp) λE' Q' z=>o4 hsl hln5 z
  by_cases w3:w = "set"
  .subst w3
   have hn:ns.length=2:=o5 (w:= "set") (k:=2) rfl hd due;exact go "one_set" oR _ rfl rfl (by simp) λE' Q' z=>o4 hsl hn z
  by_cases w4:w = "turn"
  .subst w4
   have hn:ns.length=0:=o5 (w:= "turn") (k:=0) rfl hd due;exact go "all_turned" oV _ rfl rfl (by simp) λE' Q' z=>o4 hsl hn z
  by_cases w5:w = "times"
  .subst w5
   have hn:ns.length=1:=o5 (w:= "times") (k:=1) rfl hd due;refine go "all_times" oW _ rfl rfl (by simp) λE' Q' z=>o4 hsl ⟨hn,?_⟩ z;obtain⟨k,rfl⟩:=sU hn;exact jb (n:=67) (lQ (hbd k (en ..)) (by decide)) (by decide)
  by_cases w6:w = "cut"
  .subst w6
   have hn:ns.length=1:=o5 (w:= "cut") (k:=1) rfl hd due;exact go "cut_to" oX _ rfl rfl (by simp) λE' Q' z=>o4 hsl hn z
  have hN:lM w (lst st) ns=none:=by unfold lM;rw[if_neg w1,if_neg w2,if_neg w3,if_neg w4,if_neg w5,if_neg w6]
  rw[hN] at q;obtain⟨rfl,q⟩:=q;have hn:ns.length=0:=o5 (w:= "slants") (k:=0) rfl hd due;obtain rfl:=CY hn;rw[show List.lookup (Str.ofString "slants") DEEDD=none from rfl];simp only[Option.isSome_none,cH,if_false];walk_at "nx";unfold mt;refine⟨_,_,rfl,(show QUESD.lookup (Str.ofString "slants")=some (.cls "ask_slants") from rfl),?_⟩;walk_at "st";refine⟨_,en ..,rfl,_,rfl,⟨n,hsl⟩,?_⟩;rw[zo hΔ] at q;exact q
theorem Dm(h:lM w s ns=some (.error ex)):ex∈j9:=by
 have sz:∀{ns:List Int} {ex:Str},lK ns=.error ex->ex∈j9:=λh=>by unfold lK at h;split at h<;>cases h;decide +kernel
 have rw':∀{ns:List Int} {ex:Str},il ns=.error ex->ex∈j9:=λh=>by unfold il at h;split at h<;>cases h;decide +kernel
 have st:∀{s ns:List Int} {ex:Str},je s ns=.error ex->ex∈j9:=λh=>by unfold je at h;split at h<;>cases h;decide +kernel
 have cu:∀{s ns:List Int} {ex:Str},lL s ns=.error ex->ex∈j9:=λh=>by unfold lL at h;split at h<;>cases h;decide +kernel
 unfold lM at h
 repeat' split at h
 .exact sz (Ed h)
 .exact rw' (Ed h)
 .exact st (Ed h)
 .cases h
 .exact rw' (Ed h)
 .exact cu (Ed h)
 .cases h
theorem Do{r:D}{E:Str->Prop}{Q:Str->List (List Int)->Prop}(h:Zcc r st E Q):Zcc r st (λex=>ex∈j9/\E ex) Q:=by
 unfold Zcc at h ⊢;split
 .rename_i e;rw[e] at h;exact⟨by decide +kernel,h⟩
 .rename_i w ns e
  rw[e] at h;change ZbI w ns st E Q at h;unfold ZbI at h ⊢;split
  .rename_i e1
   rw[if_pos e1] at h;split
   .rename_i e2;rw[if_pos e2] at h;exact⟨by decide +kernel,h⟩
   .rename_i e2;rw[if_neg e2] at h;exact h
  .rename_i e1
   rw[if_neg e1] at h;split
   .rename_i e2;rw[e2] at h;exact h
   .rename_i e2;rw[e2] at h;exact⟨Dm e2,h⟩
   .rename_i e2;rw[e2] at h;exact h
theorem Dp:∀ds Δ E Q,cM ds Δ E Q->wW E { nx:=λ_ δ=>Q .non δ,rt:=Q } (cO Zck ds) Δ:=by
 rintro _ Δ E Q ⟨b,st,r,rfl,hs,q⟩;unfold wW;refine⟨λex δ=>δ=Δ/\ex∈j9/\Q (.tup [.str (mw ex)]) Δ,λex δ h=>?_,?_⟩
 .obtain⟨rfl,hx,hq⟩:=h
  refine⟨by simp only[j9,Yan,gq,or_false] at hx;rcases hx with rfl|rfl|rfl<;>decide +kernel,?_⟩;unfold nG;walk_at "st";exact⟨ex,rfl,hx,hq⟩
 .walk_at "dd"
  exact⟨b,rfl,b,st,r,rfl,hs,(Do q).mono (λex h=>⟨rfl,h⟩) λt s h=>h⟩
theorem zJ{i:Int}(h:c∈(aL i).cps.toList):c=45\/(48<=c/\c<=57):=by
 have dig:∀{m c:Nat},c∈(Nat.toDigits 10 m).map Char.toNat->48<=c/\c<=57:=λ{m c} h=>ZeA.mp (Ybc.mp (wn m) c h);rcases Int.eq_nat_or_neg i with⟨m,rfl|rfl⟩
 .rw[qT] at h;exact .inr (dig h)
 .by_cases z:m=0
  .subst z
   have:aL (-((0:Nat):Int))=aL ((0:Nat):Int):=by decide +kernel
   rw[this,qT] at h;exact .inr (dig h)
  .rw[wr m z] at h
   rcases Yan.mp h with rfl|h
   .exact .inl rfl
   .exact .inr (dig h)
def dO(w:Str)(ns:List Int):Str:=Txt.join " " (w::ns.map aL)
theorem sX(L:List Str):Txt.join " " L=Str.join ⟨#[32]⟩ L:=by rw[rj];exact StrLaws.glued_eq_join _ _
theorem xc(p q:Str)(r:List Str):(Txt.join " " (p::q::r)).cps.toList=p.cps.toList++32::(Txt.join " " (q::r)).cps.toList:=by
 rw[sX,sX];show(p++⟨#[32]⟩++Str.join ⟨#[32]⟩ (q::r)).cps.toList=_;simp only[Str.cps_append,rK];simp
theorem sY(p:Str):Txt.join " " [p]=p:=by rw[sX];rfl
theorem lO(a b:Str):(a++b).cps.toList=a.cps.toList++b.cps.toList:=by simp only[Str.cps_append,rK]
theorem rk:(" " : Str).cps.toList=[32]:=by decide +kernel
theorem n6{v:Str}(h:ns≠[])(e:v=w++ " "):dO w ns=v++eY ns:=by
 subst e;cases ns with
 |nil=>exact Eb rfl h
 |cons i r=>
  refine sO ?_;unfold dO eY;rw[dD,xc,lO,lO,rk];simp
theorem rl(i:Int):eY [i]=aL i:=sY _
theorem zK(i j:Int):eY [i,j]=aL i++ " " ++aL j:=by
 refine sO ?_;show(Txt.join " " [aL i,aL j]).cps.toList=_;rw[xc,sY,lO,lO,rk];simp
theorem lP(a b c:Str):a++b++c=a++(b++c):=sO (by rw[lO,lO,lO,lO,lT])
theorem xg(w:Str):dO w []=w:=sY w
def mx(w:Str):Bool:=w.cps.toList.all (λc=>decide (32<c)&&decide (c<128))&&decide (w.length<=10)
theorem zL(h:mx w=true)(hc:c∈w.cps.toList):32<c/\c<128:=by
 unfold mx at h;rw[cy] at h;have:=Ybc.mp h.1 c hc;simpa using this
theorem o6(hd:NUMD.lookup w=some d)(hw:mx w=true)(hn:∀i∈ns,i.natAbs<10^20)(due:gX d ns.length=true):oO (dO w ns)=some (w,ns):=by
 unfold oO dO;rw[rj,B1 (by simp) (λp hp hc=>?_),xb hd]
 .have e:(ns.map aL).map bL=ns.map some:=by
   rw[iY];exact rH λi hi=>B3 (hn i hi)
  rw[e,bJ,due,Bool.and_true];have e2:(ns.map some).all Option.isSome=true:=by rw[List.all_map];simp
  have e3:(ns.map some).filterMap id=ns:=by rw[List.filterMap_map];simp
  rw[e2,if_pos rfl,e3]
 .rcases Yan.mp hp with rfl|hp
  .have:=zL hw hc;omega
  .obtain⟨i,_,rfl⟩:=Ybu.mp hp
   have:=zJ hc;omega
theorem my(hw:mx w=true)(hl:ns.length<=11)(hn:∀i∈ns,i.natAbs<10^20):eO (dO w ns):=by
 have key:∀(L:List Str),(∀p∈L,(∀c∈p.cps.toList,c<128)/\p.length<=23)->(∀c∈(Txt.join " " L).cps.toList,c<128)/\(Txt.join " " L).cps.toList.length<=24*L.length:=by
  intro L
  induction L with
  |nil=>intro _;refine⟨λc hc=>?_,by decide +kernel⟩;rw[sX] at hc;exact nomatch (show c∈([]:List Nat) from hc)
  |cons p r ih=>
   intro h;have hp:=h p (en ..);have hr:=ih λq hq=>h q (da _ hq);cases r with
   |nil=>rw[sY];exact⟨hp.1,by rw[oH];have:=hp.2;simp;omega⟩
   |cons q r=>
    rw[xc];refine⟨λc hc=>?_,?_⟩
    .rcases Yao.mp hc with hc|hc
     .exact hp.1 c hc
     .rcases Yan.mp hc with rfl|hc
      .decide
      .exact hr.1 c hc
    .have h1:=hr.2
     have h2:=hp.2;rw[dP,cn,oH];simp only[cn] at h1 ⊢;omega
 have hk:=key (w::ns.map aL) λp hp=>by
  rcases Yan.mp hp with rfl|hp
  .refine⟨λc hc=>(zL hw hc).2,?_⟩
   unfold mx at hw;rw[cy,Ee] at hw;omega
  .obtain⟨i,hi,rfl⟩:=Ybu.mp hp
   exact⟨λc hc=>by have:=zJ hc;omega,B.T2.istr_len (lQ (hn i hi) (by decide))⟩
 refine⟨ZbX.mpr hk.1,?_⟩;have:=hk.2;rw[oH] at this;simp only[cn,bJ] at this;unfold dO;omega
theorem fK{a b:Str}(h:a.length+b.length<=5000)(q:Q (.str (a++b))):eW (.str a) (.str b) Q:=⟨cP h,q⟩
theorem kj(a b:Str):(a++b).length=a.length+b.length:=strLen_append ..
theorem sZ(ne:s≠[])(h:s.length<=11)(hb:∀i∈s,i.natAbs<10^20):(eY s).length<=2000:=by
 have:=(my (w:= "row") (by decide +kernel) h hb).2;rw[n6 (w:= "row") (v:= "row ") ne (by decide +kernel),kj] at this;omega
theorem km{i:Int}(h:i.natAbs<=1000):i.natAbs<10^20:=mG h (by decide)
theorem mz{i:Int}(h:i.natAbs<10^20):(aL i).length<=23:=B.T2.istr_len (lQ h (by decide))
theorem Dq{n a:Nat}{j:Int}(h:IsSl s n)(ha:a<s.length)(hj:-50<=j/\j<=50):oY s ("set " ++aL (a:Int)++ " " ++aL j) (s.set a j):=by
 have h9:=h.l9;have e:dO "set" [(a:Int),j] = "set " ++aL (a:Int)++ " " ++aL j:=by
  rw[n6 (v:= "set ") (by simp) (by decide +kernel),zK,lP,lP,lP]
 have hb:∀i∈[(a:Int),j],i.natAbs<10^20:=λi hi=>by
  have:i.natAbs<=50:=by
   rcases Yan.mp hi with rfl|hi
   .omega
   .rw[YbP.mp hi];omega
  exact mG this (by decide)
 have hw:mx "set" = true:=by decide +kernel
 rw[<-e];refine⟨my hw (by simp) hb,⟨n,by rw[cR];exact h.len,h.n1,h.n5,λx hx=>?_⟩, "set",_,o6 (d:=.int 2) rfl hw hb rfl,by decide +kernel,?_⟩
 .rcases List.mem_or_eq_of_mem_set hx with hx|rfl
  .exact h.b x hx
  .exact hj
 .have e1:bH 0 ((s.length:Int)-1) (.int (a:Int))=true:=by simp[bH];omega
  have e2:bH (-50) 50 (.int j)=true:=by simp[bH];omega
  show some (je s [(a:Int),j])=_;rw[show je s [(a:Int),j]=.ok (s.set (a:Int).toNat j) from if_pos (show(bH 0 ((s.length:Int)-1) (.int (a:Int))&&bH (-50) 50 (.int j))=true by rw[e1,e2];rfl)];rfl
theorem Dr{n:Nat}(h:IsSl s n):oY s "turn" s.reverse:=by
 refine⟨by rw[<-xg "turn"];exact my (by decide +kernel) (by simp) (λ_ h=>nomatch h),⟨n,h.rev⟩, "turn",[],by rw[<-xg "turn"];exact o6 (d:=.int 0) rfl (by decide +kernel) (λ_ h=>nomatch h) rfl,by decide +kernel,rfl⟩
theorem zM{n:Nat}(h:IsSl s n):il s=.ok s:=wY (yj h)
theorem Ds{n:Nat}(h:IsSl s n):oY s "times -1" (s.map λi=>0-i):=by
 have e:dO "times" [-1] = "times -1" :=by decide +kernel
 have hb:∀i∈[(-1:Int)],i.natAbs<10^20:=λi hi=>by rw[YbP.mp hi];decide
 have hm:(s.map (· * (-1:Int)))=s.map λi=>0-i:=rH λi _=>by omega
 have hs:IsSl (s.map λi=>0-i) n:=⟨by rw[bJ];exact h.len,h.n1,h.n5,λx hx=>by obtain⟨i,hi,rfl⟩:=Ybu.mp hx;have:=h.b i hi;omega⟩
 rw[<-e];refine⟨my (by decide +kernel) (by simp) hb,⟨n,hs⟩, "times",_,o6 (d:=.int 1) rfl (by decide +kernel) hb rfl,by decide +kernel,?_⟩;show some (il (s.map (· * (-1:Int))))=_;rw[hm,zM hs]
theorem Dt{r:List Int}{n:Nat}(h:IsSl r n):oY s ("row " ++eY r) r:=by
 have hl:=h.len;have h1:=h.n1;have h9:=h.l9;have ne:r≠[]:=λz=>by subst z;simp at hl;omega
 have hb:=IsSl.abs h;rw[<-n6 (w:= "row") ne (by decide +kernel)];refine⟨my (by decide +kernel) (by omega) hb,⟨n,h⟩, "row",_,o6 (d:=.non) rfl (by decide +kernel) hb (by unfold gX;exact Ec (YbR.mpr ne)),by decide +kernel,?_⟩;show some (il r)=_;rw[zM h]
theorem Du:Rd rf zF Zdy:=by
 rintro _ E Q ⟨s,rfl,⟨n,h⟩,q⟩;have h9:=h.l9;have hl:=h.len;have h1:=h.n1;unfold zF;walk_at "nx";refine kI (n:=5) (by decide) (by decide) λk hk=>?_;walk_at "st";walk_at "nx"
 by_cases k2:k<2
 .rw[if_pos (Ec (by omega))]
  walk_at "nx";refine kI (n:=s.length) (by omega) (mG h9 (by decide)) λa ha=>?_;refine kI (n:=101) (by decide) (by decide) λm hm=>?_;walk_at "st";walk_at "nx";have e3:bE (s.map D.int) none (some (a:Int))=(s.take a).map D.int:=by rw[wZ (by rw[bJ];omega),pD]
  have e4:bE (s.map D.int) (some ((a:Int)+1)) none=(s.drop (a+1)).map D.int:=by rw[show(a:Int)+1=((a+1:Nat):Int) by omega,uZ (by rw[bJ];omega),pC]
  rw[e3,e4];have e5:(s.take a).map D.int++[D.int ((m:Int)-50)]++(s.drop (a+1)).map D.int=(s.set a ((m:Int)-50)).map D.int:=by
   rw[tH,if_pos ha,gu,dD,lT];rfl
  have l1:(s.take a).length<=9:=by rw[kL];omega
  have l2:(s.drop (a+1)).length<=9:=by rw[lR];omega
  have a1:=mz (km (i:=(a:Int)) (by omega));have a2:=mz (km (i:=(m:Int)-50) (by omega));have c1:("set " : Str).length=4:=by decide +kernel
  have c2:(" " : Str).length=1:=by decide +kernel
  refine⟨cP (by decide),cP (by rw[bJ];omega),cP (by rw[dP,bJ,bJ];simp only[cn,fM];omega),?_⟩;refine kf (km (by omega)) (fK (by omega) (fK (by rw[kj];omega) (kf (km (by omega)) (fK (by rw[kj,kj];omega) ⟨by decide,?_⟩))));rw[e5];exact q _ ⟨_,_,Dq h ha (by omega),rfl⟩
 .rw[if_neg (by rw[Ee];omega)]
  walk_at "nx"
  by_cases k3:k=2
  .rw[if_pos (by rw[k3];rfl)]
   exact⟨by decide,q _ ⟨_,_,Dr h,rfl⟩⟩
  .rw[if_neg (by rw[Et];omega)]
   walk_at "nx"
   by_cases k4:k=3
   .rw[if_pos (by rw[k4];rfl)]
    refine kH (g:=λi:Int=>D.int i) (f:=λi:Int=>D.int (0-i)) s (λi hi Q hq=>?_) .un [] (cP (by rw[fM];omega)) ?_
    .walk_at "st"
     exact hq
    rw[fL];walk_at "st";refine⟨by decide,q _ ⟨_,_,Ds h,?_⟩⟩;rw[show cF (s.map λi=>0-i)=.lst (s.map λi=>D.int (0-i)) by show D.lst ((s.map λi=>0-i).map D.int)=_;rw[iY];rfl]
   .rw[if_neg (by rw[Et];omega)]
    walk_at "nx";refine kI (n:=5) (by decide) (by decide) λm hm=>?_;walk_at "st";refine⟨⟨jb (n:=2) (by decide) (by decide),jb (n:=3) (by omega) (by decide)⟩,?_⟩;walk_at "nx";refine⟨by omega,by omega,?_⟩;refine Bl (R:=λ_ y=>∃i:Int,y=.int i/\-50<=i/\i<=50) (λd _ Q hq=>?_) .un [] (cP (by unfold rng;simp;omega)) λys hl hy=>?_
    .walk_at "st"
     refine kI (n:=101) (by decide) (by decide) λk hk=>?_;walk_at "st";exact hq _ ⟨_,rfl,by omega,by omega⟩
    rw[fL];have hyl:ys.length=2*m+1:=by rw[hl];unfold rng;simp;omega
    obtain⟨r,rfl,hr⟩:∃r:List Int,ys=r.map D.int/\∀x∈r,-50<=x/\x<=50:=by
     clear hl hyl
     induction ys with
     |nil=>exact⟨[],rfl,by simp⟩
     |cons y ys ih=>
      obtain⟨r,rfl,hr⟩:=ih λz hz=>hy z (by simp[hz]);obtain⟨_,_,i,rfl,hi⟩:=hy y (by simp);refine⟨i::r,rfl,λx hx=>?_⟩;rcases Yan.mp hx with rfl|hx
      .exact hi
      .exact hr x hx
    rw[bJ] at hyl;have hr':IsSl r (m+1):=⟨by omega,by omega,by omega,hr⟩
    walk_at "st";refine⟨r,rfl,⟨by omega,IsSl.abs hr'⟩,?_⟩;walk_at "st";have c1:("row " : Str).length=4:=by decide +kernel
    have:=sZ (s:=r) (λz=>by rw[z] at hyl;simp at hyl) (by omega) (IsSl.abs hr');exact fK (by omega) ⟨by decide,q _ ⟨_,_,Dt hr',rfl⟩⟩
def fz(s:List Int)(x k:Str):Prop:=eO x/\∃w ns ex,oO x=some (w,ns)/\w≠ "back" /\lM w s ns=some (.error ex)/\mw ex=k
def eZ(p:Str×Str):D:=.tup [.str p.1,.str p.2]
theorem rm{k:Str}(hd:NUMD.lookup w=some d)(hw:mx w=true)(hb:w≠ "back")(hl:ns.length<=11)(hn:∀i∈ns,i.natAbs<10^20)(due:gX d ns.length=true)(he:lM w s ns=some (.error ex))(hk:mw ex=k):fz s (dO w ns) k:=
 ⟨my hw hl hn,w,ns,ex,o6 hd hw hn due,hb,he,hk⟩
theorem xh(hd:NUMD.lookup w=some (.int 0))(hw:mx w=true):oO w=some (w,[])/\eO w:=by
 have hn:∀i∈([]:List Int),i.natAbs<10^20:=λ_ h=>nomatch h;have h1:=o6 hd hw hn rfl;have h2:=my (ns:=[]) hw (by simp) hn;rw[xg] at h1 h2;exact⟨h1,h2⟩
theorem Dv{E:Str->Prop}{Q:Str->List (List Int)->Prop}(q:Q (eY (lst st)) st):Zcc (.str "slants") st E Q:=by
 have e:lJ (.str "slants")=some (("slants" : Str),[]):=(xh (w:= "slants") rfl (by decide +kernel)).1;unfold Zcc;rw[e];show ZbI "slants" [] st E Q;unfold ZbI;rw[if_neg (by decide +kernel)];exact⟨rfl,q⟩
theorem ask_slants{E:ED}{Q:D->Dl->Prop}(hb:Δ b=some (st.map aS))(hst:StOk st)(q:Q (.tup [.str "told",.str (eY (lst st))]) Δ):cM [.pl 1 b,.str "slants"] Δ E Q:=by
 refine⟨b,st,_,rfl,⟨hb,hst,by rw[kd],(xh (w:= "slants") rfl (by decide +kernel)).2⟩,Dv ?_⟩;rw[zo hb];exact q
theorem Dw{k:Str}{E:ED}{Q:D->Dl->Prop}(hb:Δ b=some (st.map aS))(hst:StOk st)(h:fz (lst st) x k)(q:Q (.tup [.str k]) Δ):cM [.pl 1 b,.str x] Δ E Q:=by
 obtain⟨h1,w,ns,ex,e1,e2,e3,rfl⟩:=h;refine⟨b,st,_,rfl,⟨hb,hst,by rw[kd],h1⟩,?_⟩;have e:lJ (.str x)=some (w,ns):=e1;unfold Zcc;rw[e];show ZbI w ns st _ _;unfold ZbI;rw[if_neg e2,e3];exact q
theorem xj(h:j6 x=true):PyData.canLay0 (.str x)=true:=by
 unfold PyData.canLay0 PyData.strOk;rw[xz];intro c hc;have:=ZbX.mp h c (by simpa using hc);exact Ec (by omega)
theorem zN(h:j6 x=true):eV (.tup [.str x]) 60=true:=by simp[eV,gS,xj h]
theorem ok2(h:j6 x=true)(h':j6 y=true):eV (.tup [.str x,.str y]) 60=true:=by simp[eV,gS,xj h,xj h']
theorem xk(ne:s≠[])(h:s.length<=11)(hb:∀i∈s,i.natAbs<10^20):j6 (eY s)=true:=by
 have:=(my (w:= "row") (by decide +kernel) h hb).1;rw[n6 (w:= "row") (v:= "row ") ne (by decide +kernel)] at this;refine ZbX.mpr λc hc=>ZbX.mp this c ?_;rw[lO];exact jf _ hc
theorem Dx(ex:Str):j6 (mw ex)=true:=by
 unfold mw;split
 .decide +kernel
 .split<;>decide +kernel
theorem rn:eY [0] = "0" :=by decide +kernel
theorem zO{b c:Addr}{st:List (List Int)}{Δ:Dl}{E:ED}{x4 x5 x6 x7 x8 x9 x10:SV}{N:NdD}(hb:Δ b=some (st.map aS))(hst:StOk st)(hc:Δ c=some [aS [0]])(hab:(lst st).length<=11/\∀i∈lst st,i.natAbs<10^20)(hne:lst st≠[])(q:∀y z,N.nx [.d .pen,.d (.pl 1 b),.d (.pl 1 c),.d (cF (lst st)),x4,x5,x6,x7,x8,x9,x10,y,z] Δ) :
  ∀(L:List (Str×Str)),(∀p∈L,fz (lst st) p.1 p.2)->∀y z,Za8 (fY 2 (eA (gN 11) (eA (gN 12) ii))) (aN (dt (qU (bM (gEq true) (dF cM (aD (wN 1) (aD (wN 11) aC))) (aP (aD (wN 12) aC))) (bM (gEq true) (dF cM (aD (wN 1) (aD (wC (D.str (Str.ofString "slants"))) aC))) (aP (aD (wC (D.str (Str.ofString "told"))) (aD (wF gY (aD (wN 3) aC)) aC))))) (dS (aJ (wC (D.bl false)))) (dS bQ)) (dt (bM (gEq true) (dF cM (aD (wN 2) (aD (wC (D.str (Str.ofString "slants"))) aC))) (aP (aD (wC (D.str (Str.ofString "told"))) (aD (wC (D.str (Str.ofString "0"))) aC)))) (dS (aJ (wC (D.bl false)))) (dS bQ))) E N (L.map eZ) [.d .pen,.d (.pl 1 b),.d (.pl 1 c),.d (cF (lst st)),x4,x5,x6,x7,x8,x9,x10,y,z] Δ
 |[],_,y,z=>q y z
 |p::L,hL,y,z=>by
  rw[dD,Za8];refine⟨rfl,?_⟩;have ih:=zO (N:=N) (E:=E) hb hst hc hab hne q L λp hp=>hL p (da _ hp);have hp:=hL p (en ..);walk_at "st";refine bA ?_;walk_at "dd";refine Dw hb hst hp ?_;refine⟨by decide,lw (zN (by obtain⟨_,_,_,_,_,_,_,e⟩:=hp;rw[<-e];exact Dx _)) ?_⟩;simp only[isB,dQ,cH,if_false];refine ask_slants hb hst ?_;refine⟨_,rfl,hab,?_⟩;refine⟨by decide,lw (ok2 (by decide +kernel) (xk hne hab.1 hab.2)) ?_⟩;simp only[isB,dQ,cH,if_false];refine ask_slants (st:=[[0]]) hc ⟨by simp,by simp,λs hs=>⟨1,by rw[YbP.mp hs];exact⟨rfl,by decide,by decide,λx hx=>by rw[YbP.mp hx];decide⟩⟩⟩ ?_;rw[show lst [[0]]=[0] from rfl,rn];refine⟨by decide,lw (ok2 (by decide +kernel) (by decide +kernel)) ?_⟩;simp only[isB,dQ,cH,if_false];exact ih _ _
theorem Dy:∀ds Δ E Q,oZ ds Δ E Q->wX E { nx:=λ_ δ=>Q .non δ,rt:=Q } (cO ZaU ds) Δ:=by
 rintro _ Δ E Q ⟨b,c,st,rfl,hb,hst,hc,q⟩;obtain⟨n,h⟩:∃n,IsSl (lst st) n:=hst.all _ (sW hst.ne);have hlast:lst st=lst st:=rfl;generalize hs:lst st=s at *;have h9:=h.l9;have hl:=h.len;have h1:=h.n1;unfold wX;refine bA ?_;walk_at "dd";have p19:kW 10 19:=⟨by decide,by decide,by decide⟩
 refine⟨p19,p19,by decide,?_⟩;refine kI (n:=6) (by decide) (by decide) λk1 hk1=>?_;obtain⟨far,ef,hf1,hf2⟩:∃far:Int,[D.int (-1),D.int s.length,D.int (s.length+1),D.int (-50),D.int (10^Int.toNat 19),D.int (0-10^Int.toNat 19)][k1]? = some (.int far)/\far.natAbs<10^20/\bH 0 ((s.length:Int)-1) (.int far)=false:=by
  have:k1=0\/k1=1\/k1=2\/k1=3\/k1=4\/k1=5:=by omega
  have e19:(10:Int)^Int.toNat 19=10000000000000000000:=by decide
  have no:∀{j:Int},(j<0\/(s.length:Int)<=j)->bH 0 ((s.length:Int)-1) (.int j)=false:=λ{j} h=>by
   simp only[bH,mH,El];omega
  rcases this with rfl|rfl|rfl|rfl|rfl|rfl
  .exact⟨_,rfl,by decide,no (by omega)⟩
  .exact⟨_,rfl,km (by omega),no (by omega)⟩
  .exact⟨_,rfl,km (by omega),no (by omega)⟩
  .exact⟨_,rfl,by decide,no (by omega)⟩
  .exact⟨_,rfl,by decide,no (by rw[e19];omega)⟩
  .exact⟨_,rfl,by decide,no (by rw[e19];omega)⟩
 refine⟨_,cg ef,?_⟩;refine bA ?_;walk_at "dd";refine⟨p19,p19,by decide,?_⟩;refine kI (n:=5) (by decide) (by decide) λk2 hk2=>?_;obtain⟨gr,eg,hg1,hg2⟩:∃gr:Int,[D.int 51,D.int (-51),D.int 100,D.int (10^Int.toNat 19),D.int (0-10^Int.toNat 19)][k2]? = some (.int gr)/\gr.natAbs<10^20/\(gr < -50\/50<gr):=by
  have:k2=0\/k2=1\/k2=2\/k2=3\/k2=4:=by omega
  rcases this with rfl|rfl|rfl|rfl|rfl
  .exact⟨_,rfl,by decide,by decide⟩
  .exact⟨_,rfl,by decide,by decide⟩
  .exact⟨_,rfl,by decide,by decide⟩
  .exact⟨_,rfl,by decide,by decide⟩
  .exact⟨_,rfl,by decide,by decide⟩
 refine⟨_,cg eg,?_⟩;refine bA ?_;walk_at "dd";refine kI (n:=s.length) (by omega) (mG h9 (by decide)) λat' hat=>?_;refine bA ?_;walk_at "dd";refine kI (n:=s.length) (by omega) (mG h9 (by decide)) λsp hsp=>?_;refine bA ?_;walk_at "dd";refine⟨⟨by decide,jb (n:=2) (by decide) (by omega)⟩,?_⟩;rw[xy _ (by decide),show((s.length:Int)+1)/2=n by omega];refine bA ?_;walk_at "dd";have e3:bE (s.map D.int) none (some (sp:Int))=(s.take sp).map D.int:=by rw[wZ (by rw[bJ];omega),pD]
 have e4:bE (s.map D.int) (some ((sp:Int)+1)) none=(s.drop (sp+1)).map D.int:=by rw[show(sp:Int)+1=((sp+1:Nat):Int) by omega,uZ (by rw[bJ];omega),pC]
 rw[e3,e4];have e5:(s.take sp).map D.int++[D.int gr]++(s.drop (sp+1)).map D.int=(s.set sp gr).map D.int:=by
  rw[tH,if_pos hsp,gu,dD,lT];rfl
 have l1:(s.take sp).length<=9:=by rw[kL];omega
 have l2:(s.drop (sp+1)).length<=9:=by rw[lR];omega
 refine⟨cP (by decide),cP (by rw[bJ];omega),cP (by rw[dP,bJ,bJ];simp only[cn,fM];omega),?_⟩;rw[e5];clear e3 e4 l1 l2;have a1:=mz hf1;have a2:=mz hg1;have a3:=mz (km (i:=(at':Int)) (by omega));have c1:("set " : Str).length=4:=by decide +kernel
 have c2:(" " : Str).length=1:=by decide +kernel
 have c3:(" 5" : Str).length=2:=by decide +kernel
 have c4:("row " : Str).length=4:=by decide +kernel
 have c5:("size " : Str).length=5:=by decide +kernel
 have c6:("cut " : Str).length=4:=by decide +kernel
 have c7:("times " : Str).length=6:=by decide +kernel
 refine bA ?_;walk_at "dd";refine kf hf1 (fK (by omega) (fK (by rw[kj];omega) ⟨by decide,?_⟩));refine kf (km (by omega)) (fK (by omega) (fK (by rw[kj];omega) (kf hg1 (fK (by rw[kj,kj];omega) ⟨by decide,by decide,?_⟩))));have setT:∀i j:Int,dO "set" [i,j] = "set " ++aL i++ " " ++aL j:=λi j=>by rw[n6 (v:= "set ") (by simp) (by decide +kernel),zK,lP,lP,lP]
 have setB:∀i j:Int,i.natAbs<10^20->j.natAbs<10^20->(bH 0 ((s.length:Int)-1) (.int i)&&bH (-50) 50 (.int j))=false->fz s ("set " ++aL i++ " " ++aL j) "number" :=λi j hi hj hb=>by
  rw[<-setT];refine rm (ex:= "NoNumber") (d:=.int 2) rfl (by decide +kernel) (by decide +kernel) (by simp) (λx hx=>?_) rfl ?_ (by decide +kernel)
  .rcases Yan.mp hx with rfl|hx
   .exact hi
   .rw[YbP.mp hx];exact hj
  .show some (je s [i,j])=_
   rw[show je s [i,j]=.error "NoNumber" from if_neg (by show¬(bH 0 ((s.length:Int)-1) (.int i)&&bH (-50) 50 (.int j))=true;rw[hb];decide)]
 have grN:bH (-50) 50 (.int gr)=false:=by simp only[bH,mH,El];omega
 have qe:("set " ++aL far++ " 5" : Str) = "set " ++aL far++ " " ++aL 5:=by
  rw[show(" 5" : Str) = " " ++aL 5 by decide +kernel,lP,lP,lP]
 obtain⟨L1,el1,hL1,hl1⟩:∃L:List (Str×Str),[D.tup [D.str (Str.ofString "set " ++aL far++Str.ofString " 5"),D.str (Str.ofString "number")],D.tup [D.str (Str.ofString "set " ++aL at'++Str.ofString " " ++aL gr),D.str (Str.ofString "number")]]=L.map eZ/\(∀p∈L,fz s p.1 p.2)/\L.length=2:=by
  refine⟨[(_,_),(_,_)],rfl,λp hp=>?_,rfl⟩;rcases Yan.mp hp with rfl|hp
  .show fz s ("set " ++aL far++ " 5") "number"
   rw[qe];exact setB _ _ hf1 (by decide) (by rw[hf2];rfl)
  .rw[YbP.mp hp]
   exact setB _ _ (km (by omega)) hg1 (by rw[grN,rL])
 rw[el1];refine bA ?_;walk_at "dd";have rowB:∀r:List Int,r≠[]->r.length<=11->(∀i∈r,i.natAbs<10^20)->dC (aS r)=false->fz s ("row " ++eY r) "slants" :=λr ne hl hb hg=>by
  rw[<-n6 (w:= "row") ne (by decide +kernel)];refine rm (ex:= "NoSlants") (d:=.non) rfl (by decide +kernel) (by decide +kernel) hl hb (by unfold gX;exact Ec (YbR.mpr ne)) ?_ (by decide +kernel);show some (il r)=_;rw[sV hg]
 have ab:=IsSl.abs h;have sne:s≠[]:=λz=>by rw[z] at hl;simp at hl;omega
 have r1b:∀i∈s.set sp gr,i.natAbs<10^20:=λi hi=>by
  rcases List.mem_or_eq_of_mem_set hi with hi|rfl
  .exact ab i hi
  .exact hg1
 have r1n:s.set sp gr≠[]:=λz=>by have:=congrArg List.length z;rw[cR,fM] at this;omega
 have r1g:dC (aS (s.set sp gr))=false:=by
  have hm:D.int gr∈(s.set sp gr).map D.int:=tJ (List.mem_set hsp gr);cases e:dC (aS (s.set sp gr)) with
  |false=>rfl
  |true=>
   have:((s.set sp gr).map D.int).all (bH (-50) 50)=true:=by
    change (((s.set sp gr).map D.int).all (bH (-50) 50)&&_&&_)=true at e;rw[cy,cy] at e;exact e.1.1
   have:=Ybc.mp this _ hm;rw[grN] at this;cases this
 have sl1:=sZ r1n (by rw[cR];omega) r1b;refine kf hf1 (fK (by omega) (fK (by rw[kj];omega) (kf hg1 (fK (by rw[kj,kj];omega) ⟨by decide,?_⟩))));refine⟨s.set sp gr,rfl,⟨by rw[cR];omega,r1b⟩,fK (by omega) ⟨by decide,by decide,cP (by rw[bJ,hl1];decide),?_⟩⟩;obtain⟨L2,el2,hL2,hl2⟩:∃L:List (Str×Str),L1.map eZ++[D.tup [D.str (Str.ofString "set " ++aL far++Str.ofString " " ++aL gr),D.str (Str.ofString "number")],D.tup [D.str (Str.ofString "row " ++eY (s.set sp gr)),D.str (Str.ofString "slants")]]=L.map eZ/\(∀p∈L,fz s p.1 p.2)/\L.length=4:=by
  refine⟨L1++[(_,_),(_,_)],by rw[gu];rfl,λp hp=>?_,by rw[dP,hl1];rfl⟩;rcases Yao.mp hp with hp|hp
  .exact hL1 p hp
  .rcases Yan.mp hp with rfl|hp
   .exact setB _ _ hf1 hg1 (by rw[hf2];rfl)
   .rw[YbP.mp hp]
    exact rowB _ r1n (by rw[cR];omega) r1b r1g
 rw[el2];refine bA ?_;walk_at "dd";have r2b:∀i∈s++[0],i.natAbs<10^20:=λi hi=>by
  rcases Yao.mp hi with hi|hi
  .exact ab i hi
  .rw[YbP.mp hi];decide
 have r2g:dC (aS (s++[0]))=false:=by
  show(_&&decide (((s++[0]).map D.int).length%2=1)&&_)=false;rw[Ei (by rw[bJ,dP,lV];omega),rL,o9]
 have r3b:∀i∈List.replicate 11 (0:Int),i.natAbs<10^20:=λi hi=>by rw[(List.mem_replicate.mp hi).2];decide
 have sl2:=sZ (s:=s++[0]) (by simp) (by rw[dP];simp;omega) r2b;have sl3:=sZ (s:=List.replicate 11 (0:Int)) (by simp) (by simp) r3b;refine⟨by decide,cP (by rw[bJ];simp;omega),?_⟩;refine⟨s++[0],by show _=[D.lst ((s++[0]).map D.int)];rw[gu];rfl,⟨by rw[dP];simp;omega,r2b⟩,fK (by omega) ⟨by decide,by decide,by decide,by decide,by decide,?_⟩⟩;refine⟨List.replicate 11 0,rfl,⟨by simp,r3b⟩,fK (by omega) ⟨by decide,by decide,cP (by rw[bJ,hl2];decide),?_⟩⟩;obtain⟨L3,el3,hL3,hl3⟩:∃L:List (Str×Str),L2.map eZ++[D.tup [D.str (Str.ofString "row " ++eY (s++[0])),D.str (Str.ofString "slants")],D.tup [D.str (Str.ofString "row " ++eY (List.replicate 11 0)),D.str (Str.ofString "slants")]]=L.map eZ/\(∀p∈L,fz s p.1 p.2)/\L.length=6:=by
  refine⟨L2++[(_,_),(_,_)],by rw[gu];rfl,λp hp=>?_,by rw[dP,hl2];rfl⟩;rcases Yao.mp hp with hp|hp
  .exact hL2 p hp
  .rcases Yan.mp hp with rfl|hp
   .exact rowB _ (by simp) (by rw[dP];simp;omega) r2b r2g
   .rw[YbP.mp hp]
    exact rowB _ (by simp) (by simp) r3b (by decide +kernel)
 rw[el3];clear el1 el2 el3 hL1 hL2;have oneT:∀(w v:Str) (i:Int),v=w++ " " ->dO w [i]=v++aL i:=λw v i e=>by rw[n6 (v:=v) (by simp) e,rl]
 refine bA ?_;walk_at "dd";refine⟨by decide,?_⟩;refine kH (g:=λi:Int=>D.int i) (f:=λi:Int=>eZ ("size " ++aL i, "number")) [0,6,-1,gr] (λi hi Q hq=>?_) .un [] (show 4<=aM by decide) ?_
 .have hi20:i.natAbs<10^20:=by
   simp only[Yan,gq,or_false] at hi;rcases hi with rfl|rfl|rfl|rfl<;>first|decide|exact hg1
  have:=mz hi20;walk_at "st";exact kf hi20 (fK (by omega) ⟨by decide,hq⟩)
 rw[fL];generalize hM:List.map (λi:Int=>eZ ("size " ++aL i, "number")) [(0:Int),6,-1,gr]=M;have hMl:M.length=4:=by rw[<-hM];rfl
 walk_at "st";refine⟨cP (by rw[bJ,hl3,hMl];decide),?_⟩;obtain⟨L4,el4,hL4,hl4⟩:∃L:List (Str×Str),L3.map eZ++M=L.map eZ/\(∀p∈L,fz s p.1 p.2)/\L.length=10:=by
  refine⟨L3++[(0:Int),6,-1,gr].map (λi:Int=>((("size " ++aL i:Str),("number" : Str)):Str×Str)),by rw[gu,iY,<-hM];rfl,λp hp=>?_,by rw[dP,hl3];rfl⟩;rcases Yao.mp hp with hp|hp
  .exact hL3 p hp
  .obtain⟨i,hi,rfl⟩:=Ybu.mp hp
   have hi2:i.natAbs<10^20/\bH 1 5 (.int i)=false:=by
    simp only[Yan,gq,or_false] at hi;rcases hi with rfl|rfl|rfl|rfl
    .exact⟨by decide,by decide⟩
    .exact⟨by decide,by decide⟩
    .exact⟨by decide,by decide⟩
    .exact⟨hg1,by simp only[bH,mH,El];omega⟩
   show fz s ("size " ++aL i) "number";rw[<-oneT "size" "size " i (by decide +kernel)];refine rm (ex:= "NoNumber") (d:=.int 1) rfl (by decide +kernel) (by decide +kernel) (by simp) (λx hx=>by rw[YbP.mp hx];exact hi2.1) rfl ?_ (by decide +kernel);show some (lK [i])=_;rw[show lK [i]=.error "NoNumber" from if_neg (by show¬bH 1 5 (.int i)=true;rw[hi2.2];decide)]
 rw[el4];clear hM hMl;refine bA ?_;walk_at "dd";refine⟨by decide,?_⟩;refine kH (g:=λi:Int=>D.int i) (f:=λi:Int=>eZ ("cut " ++aL i, "number")) [0,(n:Int)+1,-1,gr] (λi hi Q hq=>?_) .un [] (show 4<=aM by decide) ?_
 .have hi20:i.natAbs<10^20:=by
   simp only[Yan,gq,or_false] at hi;rcases hi with rfl|rfl|rfl|rfl<;>first|decide|exact hg1|exact km (by have:=h.n5;omega)
  have:=mz hi20;walk_at "st";exact kf hi20 (fK (by omega) ⟨by decide,hq⟩)
 rw[fL];generalize hM:List.map (λi:Int=>eZ ("cut " ++aL i, "number")) [(0:Int),(n:Int)+1,-1,gr]=M;have hMl:M.length=4:=by rw[<-hM];rfl
 walk_at "st";refine⟨cP (by rw[bJ,hl4,hMl];decide),?_⟩;obtain⟨L5,el5,hL5,hl5⟩:∃L:List (Str×Str),L4.map eZ++M=L.map eZ/\(∀p∈L,fz s p.1 p.2)/\L.length=14:=by
  refine⟨L4++[(0:Int),(n:Int)+1,-1,gr].map (λi:Int=>((("cut " ++aL i:Str),("number" : Str)):Str×Str)),by rw[gu,iY,<-hM];rfl,λp hp=>?_,by rw[dP,hl4];rfl⟩;rcases Yao.mp hp with hp|hp
  .exact hL4 p hp
  .obtain⟨i,hi,rfl⟩:=Ybu.mp hp
   have hn5:=h.n5;have hi2:i.natAbs<10^20/\bH 1 (sN (aS s)) (.int i)=false:=by
    rw[h.sN];simp only[Yan,gq,or_false] at hi;rcases hi with rfl|rfl|rfl|rfl
    .exact⟨by decide,by simp only[bH,mH,El];omega⟩
    .exact⟨km (by omega),by simp only[bH,mH,El];omega⟩
    .exact⟨by decide,by simp only[bH,mH,El];omega⟩
    .exact⟨hg1,by simp only[bH,mH,El];omega⟩
   show fz s ("cut " ++aL i) "number";rw[<-oneT "cut" "cut " i (by decide +kernel)];refine rm (ex:= "NoNumber") (d:=.int 1) rfl (by decide +kernel) (by decide +kernel) (by simp) (λx hx=>by rw[YbP.mp hx];exact hi2.1) rfl ?_ (by decide +kernel);show some (lL s [i])=_;rw[show lL s [i]=.error "NoNumber" from if_neg (by show¬bH 1 (sN (aS s)) (.int i)=true;rw[hi2.2];decide)]
 rw[el5];clear hM hMl;clear hL3 hL4;refine bA ?_;walk_at "dd";refine kH (g:=λi:Int=>D.int i) (f:=λi:Int=>D.int i.natAbs) s (λi hi Q hq=>?_) .un [] (cP (by rw[fM];omega)) ?_
 .walk_at "st"
  rw[show((i.natAbs:Int))=if i<0 then -i else i by split<;>omega] at hq;exact hq
 rw[fL];walk_at "st";refine⟨s.map λi=>(i.natAbs:Int),by unfold its;rw[iY];rfl,by simpa using sne,λm hm hle=>?_⟩;walk_at "st";subst hs;have fin:∀(L:List (Str×Str)),(∀p∈L,fz (lst st) p.1 p.2)->aN (eP (iS (wN 10)) (fY 2 (eA (gN 11) (eA (gN 12) ii))) (aN (dt (qU (bM (gEq true) (dF cM (aD (wN 1) (aD (wN 11) aC))) (aP (aD (wN 12) aC))) (bM (gEq true) (dF cM (aD (wN 1) (aD (wC (D.str (Str.ofString "slants"))) aC))) (aP (aD (wC (D.str (Str.ofString "told"))) (aD (wF gY (aD (wN 3) aC)) aC))))) (dS (aJ (wC (D.bl false)))) (dS bQ)) (dt (bM (gEq true) (dF cM (aD (wN 2) (aD (wC (D.str (Str.ofString "slants"))) aC))) (aP (aD (wC (D.str (Str.ofString "told"))) (aD (wC (D.str (Str.ofString "0"))) aC)))) (dS (aJ (wC (D.bl false)))) (dS bQ)))) (dS (aJ (wC (D.bl true)))) E { nx:=λx δ=>Q D.non δ,rt:=Q } [.d .pen,.d (.pl 1 b),.d (.pl 1 c),.d (cF (lst st)),.d (.int far),.d (.int gr),.d (.int at'),.d (.int sp),.d (.int n),.d (.lst (((lst st).set sp gr).map D.int)),.d (.lst (L.map eZ)),.un,.un] Δ:=by
  intro L hL;refine bA ?_;show Za8 _ _ _ _ (L.map eZ) _ _;exact zO (N:={ nx:=dS (aJ (wC (D.bl true))) E { nx:=λx δ=>Q D.non δ,rt:=Q },rt:=Q }) hb hst hc ⟨by omega,ab⟩ sne (λ_ _=>q) L hL _ _
 by_cases hm0:m>0
 .rw[if_pos (Ec hm0)]
  refine⟨p19,by decide,?_⟩;refine kH (g:=λi:Int=>D.int i) (f:=λi:Int=>eZ ("times " ++aL i, "slants")) [51,-51,10^Int.toNat 19] (λi hi Q hq=>?_) .un [] (show 3<=aM by decide) ?_
  .have hi20:i.natAbs<10^20:=by
    simp only[Yan,gq,or_false] at hi;rcases hi with rfl|rfl|rfl<;>decide
   have:=mz hi20;walk_at "st";exact kf hi20 (fK (by omega) ⟨by decide,hq⟩)
  rw[fL];generalize hM:List.map (λi:Int=>eZ ("times " ++aL i, "slants")) [51,-51,10^Int.toNat 19]=M;have hMl:M.length=3:=by rw[<-hM];rfl
  refine⟨cP (by rw[bJ,hl5,hMl];decide),?_⟩;obtain⟨L6,el6,hL6⟩:∃L:List (Str×Str),L5.map eZ++M=L.map eZ/\(∀p∈L,fz (lst st) p.1 p.2):=by
   refine⟨L5++[(51:Int),-51,10^Int.toNat 19].map (λi:Int=>((("times " ++aL i:Str),("slants" : Str)):Str×Str)),by rw[gu,iY,<-hM];rfl,λp hp=>?_⟩;rcases Yao.mp hp with hp|hp
   .exact hL5 p hp
   .obtain⟨i,hi,rfl⟩:=Ybu.mp hp
    have hi2:i.natAbs<10^20/\51<=i.natAbs:=by
     simp only[Yan,gq,or_false] at hi;rcases hi with rfl|rfl|rfl<;>exact⟨by decide,by decide⟩
    show fz (lst st) ("times " ++aL i) "slants";rw[<-oneT "times" "times " i (by decide +kernel)];refine rm (ex:= "NoSlants") (d:=.int 1) rfl (by decide +kernel) (by decide +kernel) (by simp) (λx hx=>by rw[YbP.mp hx];exact hi2.1) rfl ?_ (by decide +kernel);show some (il ((lst st).map (· * i)))=_;obtain⟨j,hj,rfl⟩:=Ybu.mp hm;have hj1:1<=j.natAbs:=by omega
    have hbig:51<=(j*i).natAbs:=by rw[Int.natAbs_mul];exact fA hi2.2 (Nat.le_mul_of_pos_left _ hj1)
    rw[sV];cases e:dC (aS ((lst st).map (· * i))) with
    |false=>rfl
    |true=>
     have:(((lst st).map (· * i)).map D.int).all (bH (-50) 50)=true:=by
      change ((((lst st).map (· * i)).map D.int).all (bH (-50) 50)&&_&&_)=true at e;rw[cy,cy] at e;exact e.1.1
     have:=Ybc.mp this (.int (j*i)) (tJ (tJ hj));simp only[bH,cy,Ee] at this;omega
  rw[el6];exact fin L6 hL6
 .rw[if_neg (by rw[Ee];exact hm0)]
  exact fin L5 hL5
def xl:cQ:=(aN (dS (d9 (wF rf (aD (wN 3) (aD (cD 6 (w1 cL (wC (D.int (1))))) aC))) (fY 2 (eA (gN 8) (eA (gN 9) ii))))) (aN (dt (bM (gEq true) (dF cM (aD (wN 4) (aD (wN 8) aC))) (aP (aD (wC (D.str (PySem.Str.ofString "told"))) (aD (wC (D.str (PySem.Str.ofString "ok"))) aC)))) (dS (aJ (wC (D.bl false)))) (dS bQ)) (aN (dt (bM (gEq true) (dF cM (aD (wN 4) (aD (wC (D.str (PySem.Str.ofString "slants"))) aC))) (aP (aD (wC (D.str (PySem.Str.ofString "told"))) (aD (wF gY (aD (wN 9) aC)) aC)))) (dS (aJ (wC (D.bl false)))) (dS bQ)) (dS (dL 6 (wN 9))))))
def xm:cQ:=(aN (dS (gb 6)) (aN (dt (bM (gEq true) (dF cM (aD (wN 4) (aD (wC (D.str (PySem.Str.ofString "back"))) aC))) (aP (aD (wC (D.str (PySem.Str.ofString "told"))) (aD (wC (D.str (PySem.Str.ofString "ok"))) aC)))) (dS (aJ (wC (D.bl false)))) (dS bQ)) (dt (bM (gEq true) (dF cM (aD (wN 4) (aD (wC (D.str (PySem.Str.ofString "slants"))) aC))) (aP (aD (wC (D.str (PySem.Str.ofString "told"))) (aD (wF gY (aD (cD 6 (w1 cL (wC (D.int (1))))) aC)) aC)))) (dS (aJ (wC (D.bl false)))) (dS bQ))))
def n8:cQ:=(aN (dS (aZ 3 (wF qJ (aD (wN 2) aC)))) (aN (lH 4 5 (oN [.int 0]) (oN [.int 0])) (aN (dS (dJ 6 (bP (aD (wL (bP (aD (wC (D.int (0))) aC))) aC)))) (aN (eP (ls (aD (w2 gAdd (wC (D.int (1))) (wF ik (aD (wN 3) (aD (wC (D.int (30))) aC)))) aC)) (gN 7) (aN (dS (d9 (wF rf (aD (wN 3) (aD (cD 6 (w1 cL (wC (D.int (1))))) aC))) (fY 2 (eA (gN 8) (eA (gN 9) ii))))) (aN (dt (bM (gEq true) (dF cM (aD (wN 4) (aD (wN 8) aC))) (aP (aD (wC (D.str (PySem.Str.ofString "told"))) (aD (wC (D.str (PySem.Str.ofString "ok"))) aC)))) (dS (aJ (wC (D.bl false)))) (dS bQ)) (aN (dt (bM (gEq true) (dF cM (aD (wN 4) (aD (wC (D.str (PySem.Str.ofString "slants"))) aC))) (aP (aD (wC (D.str (PySem.Str.ofString "told"))) (aD (wF gY (aD (wN 9) aC)) aC)))) (dS (aJ (wC (D.bl false)))) (dS bQ)) (dS (dL 6 (wN 9))))))) (aN (dt (lD (sP (dF oZ (aD (wN 3) (aD (wN 4) (aD (wN 5) (aD (cD 6 (w1 cL (wC (D.int (1))))) aC))))))) (dS (aJ (wC (D.bl false)))) (dS bQ)) (aN (qW (ee 6 (wT (w2 j4 (wB bK (aD (wN 6) aC)) (wC (D.int (1)))))) (aN (dS (gb 6)) (aN (dt (bM (gEq true) (dF cM (aD (wN 4) (aD (wC (D.str (PySem.Str.ofString "back"))) aC))) (aP (aD (wC (D.str (PySem.Str.ofString "told"))) (aD (wC (D.str (PySem.Str.ofString "ok"))) aC)))) (dS (aJ (wC (D.bl false)))) (dS bQ)) (dt (bM (gEq true) (dF cM (aD (wN 4) (aD (wC (D.str (PySem.Str.ofString "slants"))) aC))) (aP (aD (wC (D.str (PySem.Str.ofString "told"))) (aD (wF gY (aD (cD 6 (w1 cL (wC (D.int (1))))) aC)) aC)))) (dS (aJ (wC (D.bl false)))) (dS bQ))))) (dt (bM (gEq true) (dF cM (aD (wN 4) (aD (wC (D.str (PySem.Str.ofString "back"))) aC))) (aP (aD (wC (D.str (PySem.Str.ofString "line"))) aC))) (dS (aJ (wC (D.bl false)))) (dS bQ))))))))
theorem xn(h:st≠[]):cA (st.map cF) (-1)=some (cF (lst st)):=by
 obtain⟨r,s,rfl⟩:∃r s,st=r++[s]:=⟨_,_,(tI h).symm⟩
 rw[gu];have:lst (r++[s])=s:=by unfold lst;simp
 rw[this];exact fV _ _
theorem Dz(st:List (List Int))(s:List Int):lst (st++[s])=s:=by unfold lst;simp
theorem StOk.hab(h:StOk st):((lst st).length<=11/\∀i∈lst st,i.natAbs<10^20)/\lst st≠[]:=by
 obtain⟨n,hs⟩:=h.all _ (sW h.ne);have:=hs.l9;have h2:=hs.len;have h3:=hs.n1;exact⟨⟨by omega,IsSl.abs hs⟩,λz=>by rw[z] at h2;simp at h2;omega⟩
theorem DA{s':List Int}{E:ED}{Q:D->Dl->Prop}(hb:Δ b=some (st.map aS))(hst:StOk st)(h:oY (lst st) x s')(q:Q (.tup [.str "told",.str "ok"]) (cE Δ b ((st++[s']).map aS))):cM [.pl 1 b,.str x] Δ E Q:=by
 obtain⟨h1,_,w,ns,e1,e2,e3⟩:=h;refine⟨b,st,_,rfl,⟨hb,hst,by rw[kd],h1⟩,?_⟩;have e:lJ (.str x)=some (w,ns):=e1;unfold Zcc;rw[e];show ZbI w ns st _ _;unfold ZbI;rw[if_neg e2,e3];exact q
theorem zP{b c:Addr}{E:ED}{x0 x1 x2:SV}{N:NdD}(hbc:b≠c)(q:∀st Δ y7 y8 y9,StOk st->Δ b=some (st.map aS)->Δ c=some [aS [0]]->N.nx [x0,x1,x2,.d .pen,.d (.pl 1 b),.d (.pl 1 c),.ow (st.map cF),y7,y8,y9] Δ) :
  ∀(ds:List D) (st:List (List Int)) (Δ:Dl) (y7 y8 y9:SV),StOk st->st.length+ds.length<=100->Δ b=some (st.map aS)->Δ c=some [aS [0]]->Za8 (gN 7) xl E N ds [x0,x1,x2,.d .pen,.d (.pl 1 b),.d (.pl 1 c),.ow (st.map cF),y7,y8,y9] Δ
 |[],st,Δ,y7,y8,y9,hst,_,hb,hc=>q st Δ y7 y8 y9 hst hb hc
 |d::ds,st,Δ,y7,y8,y9,hst,hl,hb,hc=>by
  have ih:=zP (N:=N) (E:=E) hbc q ds;obtain⟨n,hs⟩:=hst.all _ (sW hst.ne);rw[cn] at hl;rw[Za8];unfold xl;walk_at "st";refine bA ?_;walk_at "dd";refine⟨_,xn hst.ne,?_⟩;refine⟨lst st,rfl,⟨n,hs⟩,λd ⟨x,s',hd,e⟩=>?_⟩;subst e;refine⟨rfl,?_⟩;have hst':StOk (st++[s']):=⟨by simp,by rw [dP,lV];omega,λs hs=>by
   rcases Yao.mp hs with hs|hs
   .exact hst.all s hs
   .rw[YbP.mp hs];exact hd.2.1⟩
  walk_at "st";refine bA ?_;walk_at "dd";refine DA hb hst hd ?_;refine⟨by decide,lw (ok2 (by decide +kernel) (by decide +kernel)) ?_⟩;simp only[isB,dQ,cH,if_false];refine bA ?_;walk_at "dd";refine ask_slants (st:=st++[s']) lE hst' ?_;have hab:=hst'.hab;rw[Dz] at hab ⊢;refine⟨s',rfl,hab.1,by decide,lw (ok2 (by decide +kernel) (xk hab.2 hab.1.1 hab.1.2)) ?_⟩;simp only[isB,dQ,cH,if_false];refine⟨by rw[bJ];exact cG (by omega:st.length<1000) (by decide),?_⟩;rw[show st.map cF++[cF s']=(st++[s']).map cF by rw[gu];rfl];exact ih (st++[s']) _ _ _ _ hst' (by rw[dP,lV];omega) lE (by rw[oM (Em hbc)];exact hc)
theorem zQ{E:ED}{Q:D->Dl->Prop}(hb:Δ b=some (st.map aS))(hst:StOk st)(q:if st.length=1 then Q (.tup [.str "line"]) Δ else Q (.tup [.str "told",.str "ok"]) (cE Δ b (st.dropLast.map aS))):cM [.pl 1 b,.str "back"] Δ E Q:=by
 have e0:=xh (w:= "back") rfl (by decide +kernel);refine⟨b,st,_,rfl,⟨hb,hst,by rw[kd],e0.2⟩,?_⟩;have e:lJ (.str "back")=some (("back" : Str),[]):=e0.1;unfold Zcc;rw[e];show ZbI "back" [] st _ _;unfold ZbI;rw[if_pos rfl];split
 .rename_i h;rw[if_pos h] at q;exact q
 .rename_i h;rw[if_neg h] at q;exact q
theorem StOk.drop(h:StOk st)(h2:1<st.length):StOk st.dropLast:=⟨λz=>by have:=congrArg List.length z;rw[rE,fM] at this;omega,by rw[rE];have:=h.len;omega,λs hs=>h.all s (List.dropLast_subset _ hs)⟩
theorem DB{c:Addr}{E:ED}{x0 x1 x2 y7 y8 y9:SV}{N:NdD}(hst:StOk st)(hb:Δ b=some (st.map aS))
  (q:∀st Δ,StOk st->st.length=1->Δ b=some (st.map aS)->N.nx [x0,x1,x2,.d .pen,.d (.pl 1 b),.d (.pl 1 c),.ow (st.map cF),y7,y8,y9] Δ) :
  qW (ee 6 (wT (w2 j4 (wB bK (aD (wN 6) aC)) (wC (D.int (1)))))) xm E N [x0,x1,x2,.d .pen,.d (.pl 1 b),.d (.pl 1 c),.ow (st.map cF),y7,y8,y9] Δ:=by
 refine⟨λm ρ Δ=>∃st,ρ=[x0,x1,x2,.d .pen,.d (.pl 1 b),.d (.pl 1 c),.ow (st.map cF),y7,y8,y9]/\m=st.length/\StOk st/\Δ b=some (st.map aS),⟨_,st,rfl,rfl,hst,hb⟩,?_⟩;rintro m _ Δ ⟨st,rfl,rfl,hst,hb⟩;walk_at "st"
 by_cases h1:1<st.length
 .rw[Ec (by rw[bJ];omega),if_pos rfl]
  unfold xm;refine bA ?_;simp only[dS,NdD.to,gb];walk_at "st";refine⟨λz=>hst.ne (List.map_eq_nil_iff.mp z),?_⟩;rw[<-List.map_dropLast];have hst':=hst.drop h1;refine bA ?_;walk_at "dd";refine zQ hb hst ?_;rw[if_neg (by omega)];refine⟨by decide,lw (ok2 (by decide +kernel) (by decide +kernel)) ?_⟩;simp only[isB,dQ,cH,if_false];refine ask_slants (st:=st.dropLast) lE hst' ?_;refine⟨_,xn hst'.ne,?_⟩;have hab:=hst'.hab;refine⟨_,rfl,hab.1,by decide,lw (ok2 (by decide +kernel) (xk hab.2 hab.1.1 hab.1.2)) ?_⟩;simp only[isB,dQ,cH,if_false];exact⟨st.dropLast.length,by rw[rE];omega,st.dropLast,rfl,rfl,hst',lE⟩
 .rw[Ei (by rw[bJ];omega),if_neg dv]
  have:st.length≠0:=λz=>hst.ne (List.length_eq_zero_iff.mp z);exact q st Δ hst (by omega) hb
end D7
def xo(f:Str):D->(D->Prop)->Prop:=λd Q=>d=.pl 2 0/\Q (.int (if f = "many" then 7 else 5))
structure XK2(K:D9)(mg:Str->Option Value)(st:Stmt):Prop where
 h:∃(C fI:Addr) (od:Option Addr) (osl:Array (Option Value)) (kV doc pm:Value) (an:Option Addr) (cdv ct:Value),dH K "TooGreat" = some C/\mg "TooGreat" = some (.ref C)/\Fl.clsF K C Fl.bmV "ValueError.__new__" "many" fI=true/\Fl.clsF K C Fl.bmV "ValueError.__new__" "most" fI=true/\
  K.lookup fI=some ⟨.type "function",od,.func (PySem.W.fnOf "__init__" "TooGreat.__init__" (aO st) (aH st) (aA st) .none kV doc pm an cdv ct),osl⟩/\PySem.W.codeIn K cdv "TooGreat.__init__" = true/\PySem.W.keepIn K (.ref fI)=true
structure xq(P:Program)(w:World)(K:D9)(mg:Str->Option Value)(base:Heap)(k:Nat):Prop where
 h:∃(C fI:Addr) (fd:FuncData) (ps:List Str),dH K "TooGreat" = some C/\mg "TooGreat" = some (.ref C)/\Fl.clsF K C Fl.bmV "ValueError.__new__" "many" fI=true/\Fl.clsF K C Fl.bmV "ValueError.__new__" "most" fI=true/\FnOk P w K mg base (bD P w) k fI fd ps (Fl.spI2 C "many" "most")/\Binds K fd ps []/\∃od osl,K.lookup fI=some ⟨.type "function",od,.func fd,osl⟩
theorem zR:typeLookup (.type "ValueError") "many" = pure none:=by rw[typeLookup_type,builtinLookup_eq_fast];kernel_rfl
theorem zS:typeLookup (.type "ValueError") "most" = pure none:=by rw[typeLookup_type,builtinLookup_eq_fast];kernel_rfl
section
variable{w:World}{base:Heap}{st:Stmt}
theorem mkXF2(X:K.In hp)(G:hp.Ns mainGlobals mg){C:Addr}{kV pm ct:Value}{dd:Option Addr}(a:PySem.W.nsIn K mainGlobals "TooGreat" = some (some (.ref C)))(lc:K.lookup C=some ⟨.type "type",dd,.cls cd,sl⟩)(ni:PySem.W.nsIn K cd.ns "__init__" = some (some (.ref fI)))(q:Fl.clsF K C Fl.bmV "ValueError.__new__" "many" fI=true)(q2:Fl.clsF K C Fl.bmV "ValueError.__new__" "most" fI=true)
  (l:K.lookup fI=some ⟨.type "function",od,.func (PySem.W.fnOf "__init__" "TooGreat.__init__" (aO st) (aH st) (aA st) .none kV doc pm an cdv ct),osl⟩) (c:PySem.W.codeIn K cdv "TooGreat.__init__" = true) (kp:PySem.W.keepIn K (.ref fI)=true):XK2 K mg st:=
 ⟨C,fI,od,osl,kV,doc,pm,an,cdv,ct,kF a,PySem.W.mg_of X G a,q,q2,l,c,kp⟩
theorem XK2.xf(h:XK2 K mg st)(sc:aT [("self" : Str), "many", "most"] [("self" : Str), "many", "most"] (aA st):=by exact⟨rfl,rfl,rfl,by decide +kernel,rfl,by decide +kernel,by decide +kernel⟩)
  (hb:∃p0 p1 p2 p3 q0 q1 r0 r1,aH st=[.Assign [.Attribute (.Name "self" p0) "many" q0] (.Name "many" p1) r0,.Assign [.Attribute (.Name "self" p2) "most" q1] (.Name "most" p3) r1]/\(∀env,swapsWith (.Name "many" p1) (some (.Attribute (.Name "self" p0) "many" q0)) r0.line env=pure false)/\∀env,swapsWith (.Name "most" p3) (some (.Attribute (.Name "self" p2) "most" q1)) r1.line env=pure false:=by exact⟨_,_,_,_,_,_,_,_,rfl,λ_=>rfl,λ_=>rfl⟩)
  (bi:∀ (kV doc pm:Value) (an:Option Addr) (cdv ct:Value) (us:List Value),us.length=[("self" : Str), "many", "most"].length->bindArgs (PySem.W.fnOf "__init__" "TooGreat.__init__" (aO st) (aH st) (aA st) .none kV doc pm an cdv ct) ⟨us,[]⟩=pure ([("self" : Str), "many", "most"].zip us):=by
   intro _ _ _ _ _ _ us hl
   match us,hl with|[_,_,_],_=>rfl):xq P w K mg base (k+1):=by
 obtain⟨C,fI,od,osl,kV,doc,pm,an,cdv,ct,h1,h2,h3,h3',h4,h5,h6⟩:=h.h;obtain⟨p0,p1,p2,p3,q0,q1,r0,r1,e1,e2,e3⟩:=hb;have F:=dk h4 h5 h6;exact⟨C,fI,_,_,h1,h2,h3,h3',Fl.init2_ok F sc (by decide) h3 h3' zR zS e1 e2 e3 (by decide) (by decide) (by decide) (by decide) (by decide) (by decide),F.binds bi,od,osl,h4⟩
end
section
variable{f:Str}{a:Expr}{cp p7 p5:Pos}{ci c7 c5:Nat}
theorem zT{n:Int}(hx:XF X.prog X.w X.K X.mg X.base x f k)(hB:typeLookup (.type "ValueError") f=pure none)(hro:Room (k+1) X.A)(hg:Gl X x:=by rfl)(hd:(x==("__debug__" : Str))=false:=by decide)(he:starEach [.Constant (.int n) ci cp] X.env=(false,eval (.Constant (.int n) ci cp) X.env)::starEach [] X.env:=by rfl)(hp:(backTo cpos (starEach [.Constant (.int n) ci cp] X.env)).any (·.1)=false:=by rfl)(hex:X.ex=[]:=by rfl)
  (hb:attributeBase (.Call (.Name x np) [.Constant (.int n) ci cp] [] cpos) f X.env (eval (.Call (.Name x np) [.Constant (.int n) ci cp] [] cpos) X.env)=eval (.Call (.Name x np) [.Constant (.int n) ci cp] [] cpos) X.env:=by rfl) :
  PX X EX (.Attribute (.Call (.Name x np) [.Constant (.int n) ci cp] [] cpos) f pos) (wC (.int n)):=by
 obtain⟨C,fI,fd,ps,h1,h2,h3,h4,h5,h6⟩:=hx.h;refine⟨⟨λσ H Q=>∀e d t,H e=none->H d=none->d≠e->Q (.int n) (upd (upd H e (Fl.exX C t e (some d))) d (.xd [(f,.int n)])),?_,λW0 H0 W σ H ρ E Q s eo q e d t he hd ne=>?_⟩,wC.mono⟩
 .intro pins s σ H Q I h
  refine fh hb (aU (Fl.pe_mkx h3 h4 hro h5 h6 h2 (bF de cf he) hg hd he hp hex pins s σ H (λv H5=>∃e d t,v=.ref e/\H5 e=some (Fl.exX C t e (some d))/\H5 d=some (.xd [(f,.int n)])/\Q (.int n) H5) I ⟨by simp,λe t hn=>⟨e,t,n,rfl,aF,λd hdn ne=>⟨rfl,e,d,t,rfl,?_,aF,?_⟩⟩⟩) λu s1 ⟨v,H1,I1,rv,e,dx,t,ev,e1,e2,q⟩=>?_)
  .rw[aE (Em ne),aF]
  .rw[g0]
   rw[aE ne] at hdn;exact h e d t hn hdn ne
  subst ev;cases rv;have g1:s1.heap.get? e=some (Fl.exo C t (some dx)):=(I1.hok e _ e1).1;obtain⟨m,n1,n2⟩:=I1.hok dx _ e2;have nf:=n2 f;simp only[eC,Er] at nf;obtain⟨bm,N,nm,qn,bs,sn,sub,ab,col,dd,k0,k1,k2,k3,k5,mN,hC,hN,_,qm,T⟩:=(Fl.clsF_of I1.kIn h3).h;obtain⟨w,ew,rw'⟩:∃w,m f=some w/\RelV (.int n) w:=by
   cases z:m f with
   |none=>rw[z] at nf;exact nf.elim
   |some w=>rw[z] at nf;exact⟨w,rfl,nf⟩
  obtain⟨tk,rfl⟩:=rw';obtain⟨hp,g,dr,tk',os⟩:=s1;exact Fl.get_field PySem.F.attrBase_ValueError hC hN T (qm _ (by simp[Fl.quiet])) (qm _ (by simp[Fl.quiet])) (qm _ (by simp[Fl.quiet])) (by simp[Fl.quiet]) (by simp[Fl.quiet]) (by simp[Fl.quiet]) hB g1 rfl rfl rfl n1.ns ew rfl ⟨.int n,H1,I1.tok _,⟨_,rfl⟩,q⟩
 .have x1:=Ext.new (o:=Fl.exX C t e (some d)) s.ok he
  have x2:=Ext.new (o:=.xd [(f,.int n)]) x1.ok (a:=d) (by rw[aE ne];exact hd);exact q _ _ _ (x1.trans x2) (.int n)
theorem DD(hx:xq X.prog X.w X.K X.mg X.base k)(hro:Room (k+1) X.A)(hg:Gl X "TooGreat" :=by rfl)(he:starEach [.Constant (.int 7) c7 p7,.Constant (.int 5) c5 p5] X.env=(false,eval (.Constant (.int 7) c7 p7) X.env)::starEach [.Constant (.int 5) c5 p5] X.env:=by rfl)(he2:starEach [.Constant (.int 5) c5 p5] X.env=(false,eval (.Constant (.int 5) c5 p5) X.env)::starEach [] X.env:=by rfl)
  (hp:(backTo cpos (starEach [.Constant (.int 7) c7 p7,.Constant (.int 5) c5 p5] X.env)).any (·.1)=false:=by rfl) (hex:X.ex=[]:=by rfl):PX X EX (.Call (.Name "TooGreat" np) [.Constant (.int 7) c7 p7,.Constant (.int 5) c5 p5] [] cpos) (wC (.pl 2 0)):=by
 obtain⟨C,fI,fd,ps,h1,h2,h3,h3',h4,h5,h6⟩:=hx.h;refine⟨⟨λσ H Q=>∀e d,H e=none->H d=none->d≠e->Q (.ref e) (upd (upd H d (.xd [("many",.int 7),("most",.int 5)])) e (fB C e (some d))),?_,λW0 H0 W σ H ρ E Q s eo q e d he hd ne=>?_⟩,wC.mono⟩
 .intro pins s σ H Q I h
  refine aU (Fl.pe_mkx h3 h4 hro h5 h6 h2 (bF de (bF de cf he2) he) hg (by decide) he hp hex pins s σ H (λv H5=>∃e d t,v=.ref e/\H5 e=some (Fl.exX C t e (some d))/\Q (.ref e) (upd H5 e (fB C e (some d)))) I ⟨by simp,λe t hn=>⟨e,t,7,5,rfl,aF,λd hdn ne=>⟨rfl,e,d,t,rfl,?_,?_⟩⟩⟩) λu s1 ⟨v,H1,I1,rv,e,dx,t,ev,e1,q⟩=>?_
  .rw[aE (Em ne),aF]
  .rw[aE ne] at hdn
   have:=h e d hn hdn ne;have eq:upd (upd (upd (upd H e (Fl.exX C t e none)) e (Fl.exX C t e (some d))) d (.xd [("many",.int 7),("most",.int 5)])) e (fB C e (some d))=upd (upd H d (.xd [("many",.int 7),("most",.int 5)])) e (fB C e (some d)):=by
    funext c;unfold upd
    by_cases c1:c=e
    .simp only[c1,if_true]
    .simp only[c1,if_false]
   rw[eq];exact this
  subst ev;cases rv;have g1:s1.heap.get? e=some (Fl.exo C t (some dx)):=(I1.hok e _ e1).1;have hat:∃oe,s1.heap.get? e=some oe/\oe.cls=.ref C/\PySem.W.notCls oe=true/\oe.dict=some dx/\∃vs,oe.data=.fields vs:=⟨_,g1,rfl,rfl,rfl,_,rfl⟩
  have I2:=I1.write (x:=e) (e:=e) (o:=fB C e (some dx)) (h':=s1.heap) (t':=s1.toks) (by rw[e1];exact True.intro) (.inl rfl) (λ_ _ _ z=>z) ⟨_,g1⟩ ⟨hat,⟨_,g1⟩,λg1' g2' ⟨o,z,r⟩ kk=>⟨o,kk o z,r⟩⟩ (.inr λ_ z=>by unfold fB at z;cases z);exact⟨.ref e,_,I2,rfl,q⟩
 .have x1:=Ext.put (o:=.xd [("many",.int 7),("most",.int 5)]) s.ok hd
  have x2:=Ext.put (o:=fB C e (some d)) x1.ok (a:=e) (by rw[aE (Em ne)];exact he);refine q _ _ _ (x1.trans x2) (.pl ⟨C,d,?_,h1,?_⟩)
  .unfold Wd.put;dsimp only;rw[aF]
  .unfold Wd.put;dsimp only;rw[aE ne,aF]
theorem Zh(hx:xq X.prog X.w X.K X.mg X.base k)(hf:f = "many" \/f = "most")(hB:typeLookup (.type "ValueError") f=pure none)(ha:PX X EX a wa)(hb:attributeBase a f X.env (eval a X.env)=eval a X.env:=by rfl):PX X EX (.Attribute a f pos) (w1 (xo f) wa):=by
 obtain⟨C,fI,fd,ps,h1,h2,h3,h3',h4,h5,h6⟩:=hx.h;have hq:Fl.clsF X.K C Fl.bmV "ValueError.__new__" f fI=true:=by rcases hf with rfl|rfl;exact h3;exact h3'
 have hl:List.lookup f [(("many" : Str),V.int 7),("most",.int 5)]=some (.int (if f = "many" then 7 else 5)):=by rcases hf with rfl|rfl<;>rfl
 obtain⟨ta,pa,ka⟩:=ha.t;refine⟨⟨λσ H Q=>ta σ H λv H1=>∃e dx,v=.ref e/\H1 e=some (fB C e (some dx))/\H1 dx=some (.xd [("many",.int 7),("most",.int 5)])/\Q (.int (if f = "many" then 7 else 5)) H1,?_,λW0 H0 W σ H ρ E Q s eo q=>ka W0 H0 W σ H ρ E _ s eo (ha.mono _ _ _ _ (λd ⟨ed,q⟩ v W' H' x' r'=>?_) q)⟩,λE ρ P P' hp q=>ha.mono _ _ _ _ (λd q=>⟨q.1,hp _ q.2⟩) q⟩
 .intro pins s σ H Q I h
  refine fh hb (aU (pa pins s σ H _ I h) λu s1 ⟨v,H1,I1,rv,e,dx,ev,e1,e2,q⟩=>?_);subst ev;cases rv;obtain⟨oe,g1,g2,_,g3,vs,g4⟩:=(I1.hok e _ e1).1;obtain⟨m,n1,n2⟩:=I1.hok dx _ e2;have nf:=n2 f;rw[hl] at nf;obtain⟨bm,N,nm,qn,bs,sn,sub,ab,col,dd,k0,k1,k2,k3,k5,mN,hC,hN,_,qm,T⟩:=(Fl.clsF_of I1.kIn hq).h;obtain⟨w,ew,rw'⟩:∃w,m f=some w/\RelV (.int (if f = "many" then 7 else 5)) w:=by
   cases z:m f with
   |none=>rw[z] at nf;exact nf.elim
   |some w=>rw[z] at nf;exact⟨w,rfl,nf⟩
  obtain⟨tk,rfl⟩:=rw';obtain⟨hp,g,dr,tk',os⟩:=s1;exact Fl.get_field PySem.F.attrBase_ValueError hC hN T (qm _ (by simp[Fl.quiet])) (qm _ (by simp[Fl.quiet])) (qm _ (by simp[Fl.quiet])) (by simp[Fl.quiet]) (by simp[Fl.quiet]) (by simp[Fl.quiet]) hB g1 g2 g3 g4 n1.ns ew rfl ⟨.int (if f = "many" then 7 else 5),H1,I1.tok _,⟨_,rfl⟩,q⟩
 .subst ed
  cases r' with
  |pl z=>
   obtain⟨C',dx,z1,z2,z3⟩:=z;rw[h1] at z2;cases z2;exact⟨_,dx,rfl,x'.ok.g _ _ z1,x'.ok.g _ _ z3,q _ _ _ x' (.int _)⟩
end
namespace D7
abbrev zU:List Str:=["_law_script", "_law_great", "_law_cell", "_law_pen", "_law_desk", "_law_other", "_law_stood", "_law_turn", "_law_line", "_law_later"]
def xu:cQ:=(aN (dS (aZ 1 (wC (.pl 2 0)))) (aN (dS (dW (ie (wT (w2 (gEq true) (aP (aD (w1 (xo (PySem.Str.ofString "many")) (wN 1)) (aD (w1 (xo (PySem.Str.ofString "most")) (wN 1)) aC))) (aP (aD (wC (D.int (7))) (aD (wC (D.int (5))) aC))))) (ie (wT (w2 (gEq true) (wC (.int 3)) (wC (D.int (3))))) (wT (w2 (gEq true) (wC (.int 4)) (wC (D.int (4))))))) (aJ (wC (D.bl false))) bQ)) (aN (eP (iS (w2 gAdd (wL (bP (aD (wF sF (aD (wN 0) (aD (wC (D.int (0))) aC))) aC))) (cY (wN 0) (gl (wC (D.int (1)))) (gl (wC (D.int (4))))))) (gN 2) (aN (dS (aZ 3 (wF qJ (aD (wN 2) aC)))) (aN (lH 4 5 (oN [.int 0]) (oN [.int 0])) (aN (dS (dJ 6 (bP (aD (wL (bP (aD (wC (D.int (0))) aC))) aC)))) (aN (eP (ls (aD (w2 gAdd (wC (D.int (1))) (wF ik (aD (wN 3) (aD (wC (D.int (30))) aC)))) aC)) (gN 7) (aN (dS (d9 (wF rf (aD (wN 3) (aD (cD 6 (w1 cL (wC (D.int (1))))) aC))) (fY 2 (eA (gN 8) (eA (gN 9) ii))))) (aN (dt (bM (gEq true) (dF cM (aD (wN 4) (aD (wN 8) aC))) (aP (aD (wC (D.str (PySem.Str.ofString "told"))) (aD (wC (D.str (PySem.Str.ofString "ok"))) aC)))) (dS (aJ (wC (D.bl false)))) (dS bQ)) (aN (dt (bM (gEq true) (dF cM (aD (wN 4) (aD (wC (D.str (PySem.Str.ofString "slants"))) aC))) (aP (aD (wC (D.str (PySem.Str.ofString "told"))) (aD (wF gY (aD (wN 9) aC)) aC)))) (dS (aJ (wC (D.bl false)))) (dS bQ)) (dS (dL 6 (wN 9))))))) (aN (dt (lD (sP (dF oZ (aD (wN 3) (aD (wN 4) (aD (wN 5) (aD (cD 6 (w1 cL (wC (D.int (1))))) aC))))))) (dS (aJ (wC (D.bl false)))) (dS bQ)) (aN (qW (ee 6 (wT (w2 j4 (wB bK (aD (wN 6) aC)) (wC (D.int (1)))))) (aN (dS (gb 6)) (aN (dt (bM (gEq true) (dF cM (aD (wN 4) (aD (wC (D.str (PySem.Str.ofString "back"))) aC))) (aP (aD (wC (D.str (PySem.Str.ofString "told"))) (aD (wC (D.str (PySem.Str.ofString "ok"))) aC)))) (dS (aJ (wC (D.bl false)))) (dS bQ)) (dt (bM (gEq true) (dF cM (aD (wN 4) (aD (wC (D.str (PySem.Str.ofString "slants"))) aC))) (aP (aD (wC (D.str (PySem.Str.ofString "told"))) (aD (wF gY (aD (cD 6 (w1 cL (wC (D.int (1))))) aC)) aC)))) (dS (aJ (wC (D.bl false)))) (dS bQ))))) (dt (bM (gEq true) (dF cM (aD (wN 4) (aD (wC (D.str (PySem.Str.ofString "back"))) aC))) (aP (aD (wC (D.str (PySem.Str.ofString "line"))) aC))) (dS (aJ (wC (D.bl false)))) (dS bQ))))))))) (dS (aJ (wC (D.bl true)))))))
theorem DE{E:ED}{N:NdD}{x0 x1:SV}{i:Int}(q:∀ρ Δ,(∃y2 y3 y4 y5 y6 y7 y8 y9,ρ=[x0,x1,y2,y3,y4,y5,y6,y7,y8,y9])->N.nx ρ Δ)(Δ:Dl)(y3 y4 y5 y6 y7 y8 y9:SV):n8 E N [x0,x1,.d (.int i),y3,y4,y5,y6,y7,y8,y9] Δ:=by
 unfold n8;refine bA ?_;walk_at "dd";refine BK ?_;refine bA ?_;walk_at "dd";intro b hb c hc;have hbc:b≠c:=λz=>by rw[z,lE] at hc;cases hc
 refine bA ?_;walk_at "dd";refine⟨by decide,by decide,?_⟩;refine bA ?_;show eP _ _ xl _ _ _ _;unfold eP;walk_at "st";refine kI (n:=30) (by decide) (by decide) λk hk=>?_;walk_at "st";refine⟨by omega,by omega,?_⟩;refine zP (b:=b) (c:=c) hbc (λst Δ y7 y8 y9 hst hb hc=>?_) _ [[0]] _ _ _ _ ⟨by simp,by simp,λs hs=>⟨1,by rw[YbP.mp hs];exact⟨rfl,by decide,by decide,λx hx=>by rw[YbP.mp hx];decide⟩⟩⟩ (by unfold rng;simp;omega) (by rw[oM hbc,lE];rfl) (by rw[lE];rfl);dsimp only;refine bA ?_;walk_at "dd";refine⟨_,xn hst.ne,b,c,st,rfl,hb,hst,hc,?_⟩;simp only[isB,dQ,cH,if_false];refine bA ?_;show qW _ xm _ _ _ _;refine DB hst hb λst Δ hst h1 hb=>?_;walk_at "dd";refine zQ hb hst ?_;rw[if_pos h1];refine⟨by decide,lw (zN (by decide +kernel)) ?_⟩;simp only[isB,dQ,cH,if_false];exact q _ _ ⟨_,_,_,_,_,_,_,_,rfl⟩
theorem zV{E:ED}{N:NdD}{x0 x1:SV}(q:∀ρ Δ,(∃y2 y3 y4 y5 y6 y7 y8 y9,ρ=[x0,x1,y2,y3,y4,y5,y6,y7,y8,y9])->N.nx ρ Δ):∀(L:List Int) ρ Δ,(∃y2 y3 y4 y5 y6 y7 y8 y9,ρ=[x0,x1,y2,y3,y4,y5,y6,y7,y8,y9])->Za8 (gN 2) n8 E N (L.map D.int) ρ Δ
 |[],ρ,Δ,h=>q ρ Δ h
 |i::L,_,Δ,⟨y2,y3,y4,y5,y6,y7,y8,y9,rfl⟩=>by
  rw[dD,Za8];walk_at "st";exact DE (N:={ nx:=Za8 (gN 2) n8 E N (L.map D.int),rt:=N.rt,bk:=N.nx,ct:=Za8 (gN 2) n8 E N (L.map D.int) }) (λρ Δ h=>zV q L ρ Δ h) Δ _ _ _ _ _ _ _
theorem DF:∀ds E Q,rh ds E Q->xu (λex _=>E ex) { nx:=λ_ _=>Q .non,rt:=λd _=>Q d } (cO zU ds) λ_=>none:=by
 rintro _ E Q ⟨xs,rfl,hx,q⟩;dsimp only at hx q;unfold xu;refine bA ?_;walk_at "dd";refine bA ?_;walk_at "dd";refine⟨rfl,rfl,by decide,by decide,lw (by decide) ?_⟩;simp only[isB,dQ,cH,if_false];walk_at "st";rw[if_neg (by decide),if_neg (by decide)];obtain⟨cs,ec,hcs⟩:∃cs:List Int,bE (xs.map D.int) (some 1) (some 4)=cs.map D.int/\cs.length<=63:=by
  refine⟨bE xs (some 1) (some 4),?_,?_⟩
  .unfold bE
   rw[bJ,pD,pC]
  .unfold bE
   rw[kL,lR];omega
 refine bA ?_;show eP _ _ n8 _ _ _ _;unfold eP;walk_at "st";refine BJ (i:=0) ?_;walk_at "st";rw[ec];refine⟨by decide,by simp[aM];omega,?_⟩;show Za8 (gN 2) n8 _ _ ((xs.getD 0 0::cs).map D.int) _ _;exact zV (λρ Δ _=>q) _ _ _ ⟨_,_,_,_,_,_,_,_,rfl⟩
end D7
def xv(s:Stmt)(i:Nat):Stmt:=match s with
 |.ClassDef _ _ _ b _ _ _ _ _ _ _=>b.getD i s
 |s=>s
structure DK(K:D9)(mg:Str->Option Value)(stI stS stU:Stmt):Prop where
 h:∃(C fI fS fU:Addr) (fdI fdS fdU:FuncData),DC K mg C/\Mk K C fI/\Fun K "__init__" "Desk.__init__" stI fI fdI/\Fun K "say" "Desk.say" stS fS fdS/\fQ K C "say" fS/\Fun K "undo" "Desk.undo" stU fU fdU/\fQ K C "undo" fU
section
variable{w:World}{base:Heap}{stI stS stU:Stmt}
theorem mkDK(X:K.In hp)(G:hp.Ns mainGlobals mg){C fS fU:Addr}{oI oS oU iI iS iU:Option Addr}{lI lS lU:Array (Option Value)}{a1 a2 a3 a4 a5 a6 b1 b2 b3 b4 b5 b6 c1 c2 c3 c4 c5 c6:Value}
  (a:PySem.W.nsIn K mainGlobals "Desk" = some (some (.ref C))) (pg:PySem.W.plainGet K C Str.empty=true) (hd:PySem.W.hasDictIn K C=true) (po:PySem.W.plainOver K C=true) (sa:PySem.W.findIn K (.ref C) "__setattr__" = some (some (.builtin "object.__setattr__"))) (no:PySem.W.findIn K (.ref C) "standing" = some none)
  (mk:PySem.W.makesIn K C=true) (ni:PySem.W.findIn K (.ref C) "__init__" = some (some (.ref fI))) (ki:PySem.W.keepIn K (.ref C)=true)
  (e1:K.lookup fI=some ⟨a1,oI,.func (PySem.W.fnOf "__init__" "Desk.__init__" (aO stI) (aH stI) (aA stI) .none a2 a3 a4 iI a5 a6),lI⟩) (e2:PySem.W.codeIn K a5 "Desk.__init__" = true) (e3:PySem.W.keepIn K (.ref fI)=true) (e4:PySem.W.isFn K (.ref fI)=true)
  (s0:PySem.W.findIn K (.ref C) "say" = some (some (.ref fS))) (s1:K.lookup fS=some ⟨b1,oS,.func (PySem.W.fnOf "say" "Desk.say" (aO stS) (aH stS) (aA stS) .none b2 b3 b4 iS b5 b6),lS⟩) (s2:PySem.W.codeIn K b5 "Desk.say" = true) (s3:PySem.W.keepIn K (.ref fS)=true) (s4:PySem.W.isFn K (.ref fS)=true)
  (u0:PySem.W.findIn K (.ref C) "undo" = some (some (.ref fU))) (u1:K.lookup fU=some ⟨c1,oU,.func (PySem.W.fnOf "undo" "Desk.undo" (aO stU) (aH stU) (aA stU) .none c2 c3 c4 iU c5 c6),lU⟩) (u2:PySem.W.codeIn K c5 "Desk.undo" = true) (u3:PySem.W.keepIn K (.ref fU)=true) (u4:PySem.W.isFn K (.ref fU)=true):DK K mg stI stS stU:=
 ⟨C,fI,fS,fU,_,_,_,⟨kF a,PySem.W.mg_of X G a,⟨pg,hd,po,sa⟩,no⟩,⟨mk,ni,e4,ki⟩,dk e1 e2 e3,dk s1 s2 s3,⟨s0,s4,s3⟩,dk u1 u2 u3,⟨u0,u4,u3⟩⟩
theorem mkT1(X:K.In hp)(G:hp.Ns mainGlobals mg){f:Addr}{d:Option Addr}{n:Nat}{i:Int}{t:Tok}(a:PySem.W.nsIn K mainGlobals x=some (some (.ref f)))(l:K.lookup f=some ⟨.type "tuple",d,.seq #[.int i t] n,sl⟩):CT K mg x [.int i]:=
 ⟨f,[.int i],PySem.W.mg_of X G a,⟨_,_,_,l,rfl,rfl,(by show 1<=sizeLine;decide),.cons ⟨_,rfl⟩ .nil⟩,λ_=>.cons (.int _) .nil⟩
theorem Ent.i{e:DictEntry}{es:List DictEntry}{k:Str}{t u:Tok}{i:Int}{r:List (Str×D)}(h:e.key=.str k t)(hv:e.val=.int i u)(q:Ent K es r):Ent K (e::es) ((k,.int i)::r):=.cons (v:=.int i) h ⟨u,hv⟩ (λ_=>.int i) q
theorem Ent.n{e:DictEntry}{es:List DictEntry}{k:Str}{t:Tok}{r:List (Str×D)}(h:e.key=.str k t)(hv:e.val=.none)(q:Ent K es r):Ent K (e::es) ((k,.non)::r):=.cons (v:=.non) h hv (λ_=>.non) q
theorem Ent.f{e:DictEntry}{es:List DictEntry}{k m:Str}{t:Tok}{f:Addr}{r:List (Str×D)}(h:e.key=.str k t)(hv:e.val=.ref f)(a:PySem.W.nsIn K mainGlobals m=some (some (.ref f)))(q:Ent K es r):Ent K (e::es) ((k,.cls m)::r):=.cons (v:=.ref f) h hv (λ_=>.cls (kF a)) q
theorem mkD(X:K.In hp)(G:hp.Ns mainGlobals mg){p:Params}{es:Array DictEntry}{n:Nat}(h:PySem.W.nsIn K mainGlobals x=some (some (.ref a)))(l:K.lookup a=some { cls:=.type "dict",data:=.dict es n })(s:(a==sysModules)=false)(k:PySem.W.KeysLit p es.toList)(e:Ent K es.toList kvs):CD K p mg x kvs:=⟨a,es,n,PySem.W.mg_of X G h,l,k,s,e⟩
theorem xw{st:Stmt}{C:Addr}{p0 p1 q0 lp r0:Pos}(dc:DC K mg C)(M:Mk K C fI)(F:Fun K "__init__" "Desk.__init__" st fI fd)(ct:CT K mg "FIRST_SLANTS" [.int 0])
  (sc:aT [("self" : Str)] [("self" : Str)] (aA st)) (hb:aH st=[.Assign [.Attribute (.Name "self" p0) "standing" q0] (.List [.Name "FIRST_SLANTS" p1] lp) r0])
  (hg:∀(f:Addr) (cdv:Value) (A:Around) (outer:List Env) (s:Shared) (H:Hp) (E:XK),Gl (bB (bD P w) P w K mg base [("self" : Str)] "Desk.__init__" (aA st) f cdv A outer s H E) "FIRST_SLANTS")
  (hs:∀env,swapsWith (.List [.Name "FIRST_SLANTS" p1] lp) (some (.Attribute (.Name "self" p0) "standing" q0)) r0.line env=pure false) (he:∀env,starEach [.Name "FIRST_SLANTS" p1] env=(false,eval (.Name "FIRST_SLANTS" p1) env)::starEach [] env)
  (bi:∀(kV doc pm:Value) (an:Option Addr) (cdv ct:Value) (us:List Value),us.length=1->bindArgs (PySem.W.fnOf "__init__" "Desk.__init__" (aO st) (aH st) (aA st) .none kV doc pm an cdv ct) ⟨us,[]⟩=pure ([("self" : Str)].zip us)):sS P w K mg base (k+1) [.int 0]:=by
 obtain⟨a,vs,hm,hk,hr⟩:=ct;refine⟨C,fI,fd,[("self" : Str)],.ref a,dc,M,?_,F.binds bi,λW=>.ktup hk (hr W)⟩;obtain⟨oc,od,kV,doc,pm,an,cdv,ct,osl,rfl,lk,hcd⟩:=F.ex;have v0:g5 (aA st) "self" :=(sc.par "self" (by simp)).elim .inl λz=>.inr (.inl z);refine eS lk hcd sc (λvs H Q E ⟨x,dx,z,_⟩=>by rw[z];rfl) λA outer s H vs Q E hr hsp=>?_;obtain⟨x,dx,rfl,hx,q⟩:=hsp
 let X:=bB (bD P w) P w K mg base [("self" : Str)] "Desk.__init__" (aA st) fI cdv A outer s H E
 refine⟨_,by rw[hb];exact cU (nb (X:=X) (bN (i:=0) rfl v0 (by decide) (by decide)) (jD (bF (cT (v:=.ref a) (hg _ _ _ _ _ _ _) hm rfl (by decide)) cf (he _))) (hs _)),?_⟩;refine⟨by show 1<=sizeLine;decide,λl hl=>⟨_,rfl,x,C,dx,[],rfl,?_,dc.cls,dc.no,by decide,?_⟩⟩
 .rw[aE (λz=>by rw[<-z,hx] at hl;cases hl)];exact hx
 .exact q l hl
theorem DK.dc(h:DK K mg stI stS stU):∃C,DC K mg C:=by
 obtain⟨C,_,_,_,_,_,_,c,_⟩:=h.h;exact⟨C,c⟩
theorem td{a:Expr}(c:∃C,DC X.K X.mg C)(ha:PX X EX a wa)(hb:attributeBase a "standing" X.env (eval a X.env)=eval a X.env:=by rfl):PX X EX (.Attribute a "standing" pos) (w1 f9 wa):=by
 obtain⟨C,c⟩:=c;exact Co c ha hb
theorem DG(h:DK K mg stI stS stU)(ct:CT K mg "FIRST_SLANTS" [.int 0])(I:∃ p0 p1 q0 lp r0,aH stI=[.Assign [.Attribute (.Name "self" p0) "standing" q0] (.List [.Name "FIRST_SLANTS" p1] lp) r0]/\(∀ (f:Addr) (cdv:Value) (A:Around) (outer:List Env) (s:Shared) (H:Hp) (E:XK),Gl (bB (bD P w) P w K mg base [("self" : Str)] "Desk.__init__" (aA stI) f cdv A outer s H E) "FIRST_SLANTS")/\
   (∀env,swapsWith (.List [.Name "FIRST_SLANTS" p1] lp) (some (.Attribute (.Name "self" p0) "standing" q0)) r0.line env=pure false)/\∀env,starEach [.Name "FIRST_SLANTS" p1] env=(false,eval (.Name "FIRST_SLANTS" p1) env)::starEach [] env)
  (sc:aT [("self" : Str)] [("self" : Str)] (aA stI):=by exact⟨rfl,rfl,rfl,by decide +kernel,rfl,by decide +kernel,by decide +kernel⟩)
  (bi:∀ (kV doc pm:Value) (an:Option Addr) (cdv ct:Value) (us:List Value),us.length=1->bindArgs (PySem.W.fnOf "__init__" "Desk.__init__" (aO stI) (aH stI) (aA stI) .none kV doc pm an cdv ct) ⟨us,[]⟩=pure ([("self" : Str)].zip us):=by
   intro _ _ _ _ _ _ us hl
   match us,hl with|[_],_=>rfl):sS P w K mg base (k+1) [.int 0]:=by
 obtain⟨C,fI,fS,fU,_,_,_,dc,M,FI,_⟩:=h.h;obtain⟨_,_,_,_,_,hb,hg,hs,he⟩:=I;exact xw dc M FI ct sc hb hg hs he bi
end
namespace D7
abbrev wu:List Str:=["word", "figures"]
abbrev zj:List Str:=["word"]
abbrev z_number_read:=B.T2.z_number_read
theorem rd_number_read:Rd S_number_read z_number_read wu:=B.T2.rd_number_read
theorem DH(hl:ns.length<=63)(hO:lg H)(hS:SqL K H a (ns.map V.int)):dI K rh [.ref a] H (λv _=>v=.bl true) λ_ _ _=>False:=by
 have rv:∀W:Wd,Reps K W (ns.map V.int) (ns.map D.int):=λW=>by
  clear hl hS
  induction ns with
  |nil=>exact .nil
  |cons n ns ih=>exact .cons (.int n) ih
 have ok:WOk ⟨H,λ_=>False⟩ H:=⟨λ_ _ e=>e,λ_ e=>e.elim⟩
 refine⟨[.scr (ns.map .int)],⟨H,λ_=>False⟩,ok,.cons (.scr ?_ (rv _)) .nil,ns,rfl,hl,λv W' H' _ r=>?_⟩
 .rcases hS with(h|h)|h
  .rcases hO a with z|⟨o,xs,z⟩
   .rw[h] at z;cases z
   .rw[h] at z;cases z
  .exact .inl h
  .exact .inr h
 .cases r;rfl
def cv(i:Nat):Stmt:=PySem.Challenge.pw_slanttables_k77_a_desk_told_wrong_places.main.body.getD i (.Pass ⟨0,0,0,0⟩)
structure Bs(K:D9)(mg:Str->Option Value)(pr:Params):Prop where
 aa:bC K mg "is_whole" (cv 14)
 ab:bC K mg "is_within" (cv 15)
 ac:bC K mg "are_within" (cv 16)
 ad:bC K mg "size_of" (cv 42)
 ae:bC K mg "slants_good" (cv 43)
 af:bC K mg "need_slants" (cv 44)
 ag:bC K mg "turned_slants" (cv 46)
 ah:bC K mg "corner" (cv 47)
 ai:bC K mg "number_read" (cv 102)
 aj:bC K mg "new_size" (cv 109)
 ak:bC K mg "new_row" (cv 110)
 al:bC K mg "one_set" (cv 111)
 am:bC K mg "all_turned" (cv 112)
 an:bC K mg "all_times" (cv 113)
 ao:bC K mg "cut_to" (cv 114)
 ap:bC K mg "things_shown" (cv 116)
 aq:bC K mg "ask_slants" (cv 118)
 ar:bC K mg "line_of" (cv 132)
 as:bC K mg "_law_cell_at" (cv 135)
 au:bC K mg "_law_next" (cv 136)
 av:bC K mg "_law_pen_of" (cv 137)
 aw:bC K mg "_law_draw" (cv 138)
 ax:bC K mg "_law_refusal" (cv 139)
 ay:bC K mg "_law_said" (cv 140)
 az:bC K mg "_law_text" (cv 141)
 a0:bC K mg "_law_wrong_right" (cv 142)
 a1:bC K mg "_law_deed" (cv 143)
 a2:bC K mg "law" (cv 144)
 a3:DK K mg (xv (cv 133) 0) (xv (cv 133) 1) (xv (cv 133) 2)
 a4:CT K mg "FIRST_SLANTS" [.int 0]
 a5:mg "len" = none
 a6:mg "str" = none
 a7:mg "range" = none
 a8:mg "int" = none
 a9:mg "max" = none
 ba:mg "ValueError" = none
 bb:mg "isinstance" = none
 bc:CC K mg "NoLine"
 bd:CC K mg "NoNumber"
 be:CC K mg "NoRow"
 bf:CC K mg "NoSlants"
 bg:CC K mg "NoText"
 bh:CC K mg "NotEven"
 bi:CC K mg "NotFull"
 bj:CC K mg "NotStrong"
 bk:CC K mg "TooGreat"
 xi:XI K LX MX
 bl:mg "bool" = none
 bm:mg "all" = none
 bn:mg "tuple" = none
 bo:CI mg "GREATEST_SIZE" (5)
 bp:CI mg "LEAST" (-50)
 bq:CI mg "MOST" (50)
 br:XC K mg "NoSlants"
 bs:XC K mg "NoNumber"
 bt:CS mg "FIGURES" "0123456789"
 bu:CI mg "MOST_FIGURES" (20)
 bv:CD K pr mg "NUMBERS_DUE" NUMD
 bw:XC K mg "NoLine"
 bx:CD K pr mg "DEEDS" DEEDD
 bz:CD K pr mg "QUESTIONS" QUESD
 b0:XT K mg "SlantError" LX
 b1:mg "abs" = none
 b2:XK2 K mg (nU (cv 10))
 b3:XK1 K mg "NoText" "NoText.__init__" "row" (nU (cv 9))
 b4:XK1 K mg "NotStrong" "NotStrong.__init__" "size" (nU (cv 8))
section
variable{w:World}{base:Heap}(Z:Bs K mg w.params)
include Z
theorem zW:sS P w K mg base 1 [.int 0]:=DG Z.a3 Z.a4 ⟨_,_,_,_,_,rfl,λ_ _ _ _ _ _ _=>rfl,λ_=>rfl,λ_=>rfl⟩
theorem DI:Fp P w K mg base 1 "_law_cell_at" (Zca.take 2) sF:=dX BL Z.as λsc hr hx hw=>b9 (fG (eJ qq (aG 1) (cr ig Z.a5 Eu (Za (aG 0) aI))) (bI (bR (iM gL (aG 0) (aG 1)))) cZ) (bI (bR aR))
theorem zX:Fp P w K mg base 1 "_law_next" (Zdw.take 1) qI:=dX BM Z.au λsc hr hx hw=>b9 (c9 0 (aY ou (aY dn (aG 0) aR) aR) sc) (bI (bR (aY ou (aY dn (aY dn (aY oz (aG 0) (aG 0)) (aY oz aR (aG 0))) aR) aR)))
theorem kK:Fp P w K mg base 2 "_law_draw" (Zdx.take 2) ik:=dX BO Z.aw λsc hr hx hw=>b9 (fG (eJ (iN hr.units) (iM qC (aG 0) aR) aR) (b9 (c9 2 (aY ou (iM qC (aG 0) aR) (aG 1)) sc) (b9 (yc 0 0 (aY rY (iM qC (aG 0) aR) (aG 1))) (bI (bR (aG 2))))) cZ) (b9 (yc 0 2 (cb (zX Z) hr hx (Za (aY dn (cb (zX Z) hr hx (Za (iM qC (aG 0) aR) aI)) aR) aI))) (bI (bR (aY ou (aY rY (iM qC (aG 0) aR) aR) (aG 1)))))
theorem n9:Fp P w K mg base 1 "_law_text" (Zdv.take 1) gY:=dX C9 Z.az λsc hr hx hw=>bI (bR (wk PySem.F.slot_str_join PySem.F.type_str_join yT bG (Za (PXL.px (jV ["_law_number"] [] rfl (i9 (aG 0)) (λ_ _ _=>(er 0 (by decide +kernel:List.Nodup (["_law_number"]:List Str)))) (λ_ _ _=>i8) (λ_ _ _=>(gk jc Z.a6 jd (Za (aG 0) aI))))) aI)))
theorem DJ:Fp P w K mg base 3 "_law_deed" (Zdy.take 2) rf:=dX Du Z.a1 λsc hr hx hw=>b9 (c9 2 (cb (kK Z) hr hx (Za (aG 0) (Za aR aI))) sc) (sg 5 (b9 (fG (eJ qq (aG 2) aR) (b9 (Bg 3 4 sc (Za (cb (kK Z) hr hx (Za (aG 0) (Za (cr ig Z.a5 Eu (Za (aG 1) aI)) aI))) (Za (aY ky (cb (kK Z) hr hx (Za (aG 0) (Za aR aI))) aR) aI))) (b9 (c9 5 (aY dn (aY dn (mj (aG 1) oq (kx (aG 3))) (PXL.px (gj (Za (aG 4) aI)))) (mj (aG 1) (kx (aY dn (aG 3) aR)) oq)) sc) (sg 5 (bI (bR (cK (Za (aY fH (aY fH (aY fH bG (gk jc Z.a6 jd (Za (aG 3) aI))) bG) (gk jc Z.a6 jd (Za (aG 4) aI))) (Za (aG 5) aI)))))))) cZ) (b9 (fG (eJ (iN hr.units) (aG 2) aR) (bI (bR (cK (Za bG (Za (xT (aG 1)) aI))))) cZ) (b9 (fG (eJ (iN hr.units) (aG 2) aR) (bI (bR (cK (Za bG (Za (PXL.px (jV ["_law_number"] [] rfl (i9 (aG 1)) (λ_ _ _=>(er 0 (by decide +kernel:List.Nodup (["_law_number"]:List Str)))) (λ_ _ _=>i8) (λ_ _ _=>(aY ky aR (aG 0))))) aI))))) cZ) (b9 (c9 6 (aY dn aR (aY oz aR (cb (kK Z) hr hx (Za (aG 0) (Za aR aI))))) sc) (b9 (qx 5 ["_law_place"] [0] rfl sc (xX Z.a7 (Za (aG 6) aI)) (λ_ _ _=>(er 0 (by decide +kernel:List.Nodup (["_law_place", "_law_pen"]:List Str)))) (λ_ _ _=>i8) (λ_ _ _=>(aY ky (cb (kK Z) hr qd (Za (aG 1) (Za aR aI))) aR))) (sg 5 (bI (bR (cK (Za (aY fH bG (cb (n9 Z) hr hx (Za (aG 5) aI))) (Za (aG 5) aI))))))))))))
theorem DL:Fp P w K mg base 1 "_law_pen_of" (ZcB.take 1) qJ:=dX BN Z.av λsc hr hx hw=>b9 (c9 1 (cr (qu rfl) Z.a9 boot_max (Za (aG 0) (Za (aY ky aR (aG 0)) aI))) sc) (bI (bR (Bj (gj (Za (aG 1) (Za (gk qv Z.a8 boot_int (Za (ut uA (aG 1) (aY oy aR aR)) aI)) (Za (aY ou (aG 1) aR) aI)))))))
theorem DM:uT P w K mg base 1 "_law_refusal" (Zbt.take 1) wQ:=wg (z:=wV) (N:=Zbt) Z.ax (λsc _ _ _ _ _ _ hr=>(b9 (uB 1 (gj (Za (cr (kG Z.xi) Z.bb Ek (Za (aG 0) (Za (lz Z.bf) aI))) (Za (cr (kG Z.xi) Z.bb Ek (Za (aG 0) (Za (lz Z.be) aI))) (Za (cr (kG Z.xi) Z.bb Ek (Za (aG 0) (Za (lz Z.bd) aI))) (Za (cr (kG Z.xi) Z.bb Ek (Za (aG 0) (Za (lz Z.bc) aI))) aI))))) sc) (b9 (uB 1 (Bh 1 (Bi (aG 1) (PXL.px (gj (Za (cr (kG Z.xi) Z.bb Ek (Za (aG 0) (Za (lz Z.bh) aI))) (Za (cr (kG Z.xi) Z.bb Ek (Za (aG 0) (Za (lz Z.bi) aI))) (Za (cr (kG Z.xi) Z.bb Ek (Za (aG 0) (Za (lz Z.bj) aI))) (Za (cr (kG Z.xi) Z.bb Ek (Za (aG 0) (Za (lz Z.bg) aI))) aI)))))))) sc) (b9 (ya 1 (cr (kG Z.xi) Z.bb Ek (Za (aG 0) (Za (lz Z.bk) aI)))) (b9 (fG (yb 1 (PXW.pxt (mh (ku (ll (cr (kG Z.xi) Z.bb Ek (Za (aG 0) (Za (qy Z.ba BP) aI))))) (ny (eJ (dm hr.units) (ym PySem.F.slot_list_count PySem.F.type_list_count Bw (aG 1) (Za ic aI)) aR))))) (bI (bR (cK (Za bG aI)))) cZ) (sg 1 (bI (bR (cK (Za (iM gL (PXL.px (gj (Za bG (Za bG (Za bG (Za bG (Za bG (Za bG (Za bG (Za bG (Za bG aI))))))))))) (ym PySem.F.slot_list_index PySem.F.type_list_index Bx (aG 1) (Za ic aI))) aI)))))))))) Df
theorem DN:Fp P w K mg base 1 "is_whole" (Zd6.take 1) uN:=dX Bz Z.aa λsc hr hx hw=>bI (bR (ux (cr sf Z.bb Ek (Za (aG 0) (Za (qy Z.a8 boot_int) aI))) (uw (A0 (cr sf Z.bb Ek (Za (aG 0) (Za (qy Z.bl boot_bool) aI)))))))
theorem rp:Fp P w K mg base 2 "is_within" (Zdt.take 3) mr:=dX BA Z.ab λsc hr hx hw=>bI (bR (ux (cb (DN Z) hr hx (Za (aG 0) aI)) (uw (A1 jT jT (aG 1) (aG 0) (aG 2)))))
theorem DO:Fp P w K mg base 3 "are_within" (ZcQ.take 3) su:=dX BB Z.ac λsc hr hx hw=>bI (bR (ux (cr sf Z.bb Ek (Za (aG 0) (Za (qy Z.bn boot_tuple) aI))) (uw (cr (xW rfl) Z.bm boot_all (Za (PXL.px (jV ["number"] [1,2] rfl (i9 (aG 0)) (λ_ _ _=>(er 0 (by decide +kernel:List.Nodup (["number", "least", "most"]:List Str)))) (λ_ _ _=>i8) (λ_ _ _=>(cb (rp Z) hr qd (Za (aG 0) (Za (aG 1) (Za (aG 2) aI))))))) aI)))))
theorem zY:Fp P w K mg base 1 "size_of" (Zfa.take 1) oF:=dX BD Z.ad λsc hr hx hw=>bI (bR (aY rY (aY dn (cr ig Z.a5 Eu (Za (aG 0) aI)) aR) aR))
theorem DP:Fp P w K mg base 4 "slants_good" (Zcz.take 1) sw:=dX BE Z.ae λsc hr hx hw=>b9 (fG (PXW.pxt (mh (ku (ll (cb (DO Z) hr hx (Za (aG 0) (Za (nQ Z.bp) (Za (nQ Z.bq) aI)))))) (ny (eJ (iN hr.units) (aY ou (cr ig Z.a5 Eu (Za (aG 0) aI)) aR) aR)))) (bI (bR ic)) cZ) (bI (bR (ut jT (cb (zY Z) hr hx (Za (aG 0) aI)) (nQ Z.bo))))
theorem tj:Fp P w K mg base 5 "need_slants" (ZcA.take 1) ly:=dX BF Z.af λsc hr hx hw=>bI (fG (ku (ll (cb (DP Z) hr hx (Za (aG 0) aI)))) (bI (ms hw Z.br)) cZ)
theorem DQ:Fp P w K mg base 6 "all_times" (Zdu.take 2) oW:=dX C5 Z.an λsc hr hx hw=>b9 (c9 2 (gk xU Z.bn boot_tuple (Za (PXL.px (jV ["number"] [1] rfl (i9 (aG 0)) (λ_ _ _=>(er 0 (by decide +kernel:List.Nodup (["number", "numbers"]:List Str)))) (λ_ _ _=>i8) (λ_ _ _=>(aY oz (aG 0) (iM gL (aG 1) aR))))) aI)) sc) (b9 (sh (cb (tj Z) hr hx (Za (aG 2) aI))) (bI (bR (aG 2))))
theorem DR:Fp P w K mg base 6 "turned_slants" (ZbY.take 1) sx:=dX BH Z.ag λsc hr hx hw=>b9 (sh (cb (tj Z) hr hx (Za (aG 0) aI))) (bI (bR (xT (aG 0))))
theorem DS:Fp P w K mg base 7 "all_turned" (ZcR.take 2) oV:=dX C2 Z.am λsc hr hx hw=>bI (bR (cb (DR Z) hr hx (Za (aG 0) aI)))
theorem DT:Fp P w K mg base 1 "things_shown" (Zc.take 1) wO:=dX C7 Z.ap λsc hr hx hw=>bI (bR (qp (eJ nF (cr ig Z.a5 Eu (Za (aG 0) aI)) aR) (wk PySem.F.slot_str_join PySem.F.type_str_join yT bG (Za (PXL.px (jV ["thing"] [] rfl (i9 (aG 0)) (λ_ _ _=>(er 0 (by decide +kernel:List.Nodup (["thing"]:List Str)))) (λ_ _ _=>i8) (λ_ _ _=>(gk jc Z.a6 jd (Za (aG 0) aI))))) aI)) bG))
theorem DU:Fp P w K mg base 2 "ask_slants" (ZcP.take 2) re:=dX C8 Z.aq λsc hr hx hw=>bI (bR (cb (DT Z) hr hx (Za (aG 0) aI)))
theorem DV:Fp P w K mg base 6 "corner" (Zgq.take 2) uO:=dX BI Z.ah λsc hr hx hw=>b9 (sh (cb (tj Z) hr hx (Za (aG 0) aI))) (b9 (c9 2 (cb (zY Z) hr hx (Za (aG 0) aI)) sc) (b9 (fG (ku (ll (cb (rp Z) hr hx (Za (aG 1) (Za aR (Za (aG 2) aI)))))) (bI (ms hw Z.bs)) cZ) (bI (bR (mj (aG 0) (kx (aY ky (aG 2) (aG 1))) (kx (aY ky (aY dn (aG 2) (aG 1)) aR)))))))
theorem DW:Fp P w K mg base 7 "cut_to" (Zgp.take 2) oX:=dX C3 Z.ao λsc hr hx hw=>bI (bR (cb (DV Z) hr hx (Za (aG 0) (Za (iM gL (aG 1) aR) aI))))
theorem DX:Fp P w K mg base 1 "number_read" zj S_number_read:=dX rd_number_read Z.ai λsc hr hx hw=>b9 (c9 1 (wk PySem.F.slot_str_removeprefix PySem.F.type_str_removeprefix BV (aG 0) (Za bG aI)) sc) (b9 (fG (PXW.pxt (mh (ku (A2 jT jT aR (cr BW Z.a5 Eu (Za (aG 1) aI)) (nQ Z.bu))) (ny (ku (ll (cr (xW rfl) Z.bm boot_all (Za (PXL.px (jV ["sign"] [] rfl (BZ (aG 1)) (λ_ _ _=>(er 0 (by decide +kernel:List.Nodup (["sign"]:List Str)))) (λ_ _ _=>i8) (λ_ _ _=>(ut qQ (aG 0) (BY Z.bt))))) aI))))))) (bI (bR qo)) cZ) (b9 (fG (PXW.pxt (uv (eJ yP (iM qO (aG 1) aR) bG) (uu (eJ qK (aG 0) bG)))) (bI (bR qo)) cZ) (bI (bR (gk BX Z.a8 boot_int (Za (aG 0) aI))))))
theorem DY:Fp P w K mg base 2 "line_of" (Zfd.take 1) wP:=dX De Z.ar λsc hr hx hw=>b9 (fG (ku (ll (cr sf Z.bb Ek (Za (aG 0) (Za (qy Z.a6 boot_str) aI))))) (bI (ms hw Z.bw)) cZ) (b9 (Cz 1 2 (PXL.px (BU (aG 0) (Za bG aI))) sc) (b9 (c9 3 (gk xU Z.bn boot_tuple (Za (PXL.px (jV ["other"] [] rfl (i9 (aG 2)) (λ_ _ _=>(er 0 (by decide +kernel:List.Nodup (["other"]:List Str)))) (λ_ _ _=>i8) (λ_ _ _=>(cb (DX Z) hr qd (Za (aG 0) aI))))) aI)) sc) (b9 (fG (PXW.pxt (mh (CB Z.bv (aG 1)) (ny (eJ (qS hr.units) qo (aG 3))))) (bI (ms hw Z.bw)) cZ) (b9 (c9 4 (wJ Z.bv (aG 1)) sc) (b9 (fG (PXW.pxt (mh (PXW.pxt (uv (eJ v8 (aG 4) qo) (uu (eJ (iN hr.units) (cr ig Z.a5 Eu (Za (aG 3) aI)) aR)))) (ny (PXW.pxt (uv (eJ BR (aG 4) qo) (uu (eJ (dm hr.units) (cr ig Z.a5 Eu (Za (aG 3) aI)) (aG 4)))))))) (bI (ms hw Z.bw)) cZ) (bI (bR (cK (Za (aG 1) (Za (aG 3) aI))))))))))
theorem DZ:Fp P w K mg base 6 "new_row" (Zfc.take 2) oQ:=dX C0 Z.ak λsc hr hx hw=>b9 (sh (cb (tj Z) hr hx (Za (aG 1) aI))) (bI (bR (aG 1)))
theorem D0:Fp P w K mg base 3 "new_size" (Zd5.take 2) oP:=dX CZ Z.aj λsc hr hx hw=>b9 (c9 2 (iM gL (aG 1) aR) sc) (b9 (fG (ku (ll (cb (rp Z) hr hx (Za (aG 2) (Za aR (Za (nQ Z.bo) aI)))))) (bI (ms hw Z.bs)) cZ) (bI (bR (aY By (cK (Za aR aI)) (aY ky (aY oz aR (aG 2)) aR)))))
theorem D1:Fp P w K mg base 3 "one_set" (Zfb.take 2) oR:=dX C4 Z.al λsc hr hx hw=>b9 (uF (aG 1) (sr rfl (mo (er 2 sc) (mo (er 3 sc) sm)))) (b9 (fG (PXW.pxt (mh (ku (ll (cb (rp Z) hr hx (Za (aG 2) (Za aR (Za (aY ky (cr ig Z.a5 Eu (Za (aG 0) aI)) aR) aI)))))) (ny (ku (ll (cb (rp Z) hr hx (Za (aG 3) (Za (nQ Z.bp) (Za (nQ Z.bq) aI))))))))) (bI (ms hw Z.bs)) cZ) (bI (bR (aY dn (aY dn (mj (aG 0) oq (kx (aG 2))) (cK (Za (aG 3) aI))) (mj (aG 0) (kx (aY dn (aG 2) aR)) oq)))))
theorem D2:qV P w K mg base 1 "undo" (Zh5.take 1) Zf:=by
 obtain⟨C,fI,fS,fU,_,_,_,dc,M,FI,FS,hS,FU,hU⟩:=Z.a3.h;exact rc (z:=wR) (N:=Zh5) dc FU hU (λsc _ _ _ _ _ _ hr hx hw=>(ck (j8 (Zb (iN hr.units) (Cq Z.a5 (td Z.a3.dc (aG 0))) aR) (dq (bI (ms hw Z.bw))) (dq cZ)) (oJ (wx (Ct (td Z.a3.dc (aG 0))))))) Dh CL CG
theorem D3:qV P w K mg base 8 "say" (ZjU.take 2) rg:=by
 obtain⟨C,fI,fS,fU,_,_,_,dc,M,FI,FS,hS,FU,hU⟩:=Z.a3.h;exact rc (z:=wU) (N:=ZjU) dc FS hS (λsc _ _ _ _ _ _ hr hx hw=>(ck (eX (uF (cb (DY Z) hr hx (Za (aG 1) aI)) (sr rfl (mo (er 2 sc) (mo (er 3 sc) sm))))) (ck (j8 (zn (eJ yP (aG 2) bG)) (ck (wx (Cn (D2 Z) hr hx (aG 0))) (dq (bI (bR bG)))) (dq cZ)) (ck (Ci 4 (Cp (td Z.a3.dc (aG 0)) (kv kz aR)) sc) (ck (j8 (zn (CA Z.bx (aG 2))) (ck (eX (c9 5 (wJ Z.bx (aG 2)) sc)) (ck (wx (Cr (td Z.a3.dc (aG 0)) (yN hr hx (nR Z.aj (D0 Z) (nR Z.ak (DZ Z) (nR Z.al (D1 Z) (nR Z.am (DS Z) (nR Z.an (DQ Z) (nR Z.ao (DW Z) yO)))))) (aG 5) (Za (aG 4) (Za (aG 3) aI))))) (dq (bI (bR bG))))) (dq cZ)) (dq (b9 (c9 6 (wJ Z.bz (aG 2)) sc) (bI (bR (yN hr hx (nR Z.aq (DU Z) yO) (aG 6) (Za (aG 4) (Za (aG 3) aI)))))))))))) Dk CM CH
theorem mB:sR P w K mg base 9 "_law_said" (Zck.take 2) cM:=qZ (z:=wW) (N:=Zck) Z.ay (λsc _ _ _ _ _ _ _ hr hx hw=>(oJ (Cy LX 2 Z.b0 sc (λ_ _ _ hx1=>(oJ (Ch (Cu bG (Cm (D3 Z) hr hx1 (aG 0) (Za (aG 1) aI)))))) (λ_ _=>(bI (bR (Bu (DM Z) (hr.u.mark) (Za (aG 2) aI)))))))) Dp CN CJ
theorem D4:sR P w K mg base 10 "_law_wrong_right" (ZaU.take 4) oZ:=qZ (z:=wX) (N:=ZaU) Z.a0 (λsc _ _ _ _ _ _ _ hr hx hw=>(ck (eX (c9 4 (iM gL (PXL.px (gj (Za (kv kz aR) (Za (cr ig Z.a5 Eu (Za (aG 3) aI)) (Za (aY dn (cr ig Z.a5 Eu (Za (aG 3) aI)) aR) (Za (kv kz aR) (Za (aY oy aR aR) (Za (aY ky aR (aY oy aR aR)) aI)))))))) (cb (kK Z) hr hx (Za (aG 0) (Za aR aI)))) sc)) (ck (eX (c9 5 (iM gL (PXL.px (gj (Za aR (Za (kv kz aR) (Za aR (Za (aY oy aR aR) (Za (aY ky aR (aY oy aR aR)) aI))))))) (cb (kK Z) hr hx (Za (aG 0) (Za aR aI)))) sc)) (ck (eX (c9 6 (cb (kK Z) hr hx (Za (aG 0) (Za (cr ig Z.a5 Eu (Za (aG 3) aI)) aI))) sc)) (ck (eX (c9 7 (cb (kK Z) hr hx (Za (aG 0) (Za (cr ig Z.a5 Eu (Za (aG 3) aI)) aI))) sc)) (ck (eX (c9 8 (aY rY (aY dn (cr ig Z.a5 Eu (Za (aG 3) aI)) aR) aR) sc)) (ck (eX (c9 9 (aY dn (aY dn (mj (aG 3) oq (kx (aG 7))) (PXL.px (gj (Za (aG 5) aI)))) (mj (aG 3) (kx (aY dn (aG 7) aR)) oq)) sc)) (ck (eX (c9 10 (PXL.px (gj (Za (cK (Za (aY fH (aY fH bG (gk jc Z.a6 jd (Za (aG 4) aI))) bG) (Za bG aI))) (Za (cK (Za (aY fH (aY fH (aY fH bG (gk jc Z.a6 jd (Za (aG 6) aI))) bG) (gk jc Z.a6 jd (Za (aG 5) aI))) (Za bG aI))) aI)))) sc)) (ck (eX (c9 10 (aY dn (aG 10) (PXL.px (gj (Za (cK (Za (aY fH (aY fH (aY fH bG (gk jc Z.a6 jd (Za (aG 4) aI))) bG) (gk jc Z.a6 jd (Za (aG 5) aI))) (Za bG aI))) (Za (cK (Za (aY fH bG (cb (n9 Z) hr hx (Za (aG 9) aI))) (Za bG aI))) aI))))) sc)) (ck (eX (c9 10 (aY dn (aG 10) (PXL.px (gj (Za (cK (Za (aY fH bG (cb (n9 Z) hr hx (Za (aY dn (aG 3) (PXL.px (gj (Za aR aI)))) aI))) (Za bG aI))) (Za (cK (Za (aY fH bG (cb (n9 Z) hr hx (Za (aY oz (PXL.px (gj (Za aR aI))) aR) aI))) (Za bG aI))) aI))))) sc)) (ck (eX (c9 10 (aY dn (aG 10) (PXL.px (jV ["_law_one"] [] rfl (i9 (cK (Za aR (Za aR (Za (kv kz aR) (Za (aG 5) aI)))))) (λ_ _ _=>(er 0 (by decide +kernel:List.Nodup (["_law_one"]:List Str)))) (λ_ _ _=>i8) (λ_ _ _=>(cK (Za (aY fH bG (gk jc Z.a6 jd (Za (aG 0) aI))) (Za bG aI))))))) sc)) (ck (eX (c9 10 (aY dn (aG 10) (PXL.px (jV ["_law_one"] [] rfl (i9 (cK (Za aR (Za (aY dn (aG 8) aR) (Za (kv kz aR) (Za (aG 5) aI)))))) (λ_ _ _=>(er 0 (by decide +kernel:List.Nodup (["_law_one"]:List Str)))) (λ_ _ _=>i8) (λ_ _ _=>(cK (Za (aY fH bG (gk jc Z.a6 jd (Za (aG 0) aI))) (Za bG aI))))))) sc)) (ck (eX (fG (eJ nF (cr (CQ rfl) Z.a9 boot_max (Za (PXL.px (jV ["_law_number"] [] rfl (i9 (aG 3)) (λ_ _ _=>(er 0 (by decide +kernel:List.Nodup (["_law_number"]:List Str)))) (λ_ _ _=>i8) (λ_ _ _=>(cr qt Z.b1 boot_abs (Za (aG 0) aI))))) aI)) aR) (bI (c9 10 (aY dn (aG 10) (PXL.px (jV ["_law_one"] [] rfl (i9 (cK (Za aR (Za (kv kz aR) (Za (aY oy aR aR) aI))))) (λ_ _ _=>(er 0 (by decide +kernel:List.Nodup (["_law_one"]:List Str)))) (λ_ _ _=>i8) (λ_ _ _=>(cK (Za (aY fH bG (gk jc Z.a6 jd (Za (aG 0) aI))) (Za bG aI))))))) sc)) cZ)) (ck (wG PassesOwn.leaving rfl (i9 (aG 10)) (sr rfl (mo (er 11 sc) (mo (er 12 sc) sm))) (ck (j8 (PXWD.pxt (Zj (Zb (dm hr.units) (lF (mB Z) hr hx (Za (aG 1) (Za (aG 11) aI))) (cK (Za (aG 12) aI))) (Cj (Zb (dm hr.units) (lF (mB Z) hr hx (Za (aG 1) (Za bG aI))) (cK (Za bG (Za (cb (n9 Z) hr hx (Za (aG 3) aI)) aI))))))) (dq (bI (bR ic))) (dq cZ)) (oJ (j8 (Zb (dm hr.units) (lF (mB Z) hr hx (Za (aG 2) (Za bG aI))) (cK (Za bG (Za bG aI)))) (dq (bI (bR ic))) (dq cZ))))) (dq (bI (bR ic))))))))))))))))) Dy CO CK
theorem all_mk(hfa:mg "law" = some (.ref fa)):∃fd:FuncData,(∀(s:Shared) (v:Value),BindsTo s fd ⟨[v],[]⟩ [("_law_script",v)])/\∀base:Heap,K.In base->base.Ns mainGlobals mg->FnOk l.prog w K mg base (bD l.prog w) 11 fa fd ["_law_script"] (dI K rh):=
 wH (z:=xu) (N:=zU) Z.a2 hfa (λ_ sc _ _ _ _ _ _ _ hr hx hw=>(ck (eX (c9 1 (DD (XK2.xf (k:=0) Z.b2) (hr.mono (by decide))) sc)) (ck (eX (fG (PXW.pxt (mh (eJ (dm hr.units) (cK (Za (Zh (XK2.xf (k:=0) Z.b2) (.inl rfl) zR (aG 1)) (Za (Zh (XK2.xf (k:=0) Z.b2) (.inr rfl) zS (aG 1)) aI))) (cK (Za aR (Za aR aI)))) (mh (eJ (dm hr.units) (zT (XK1.xf (k:=0) Z.b4 zg) zg (hr.mono (by decide))) aR) (ny (eJ (dm hr.units) (zT (XK1.xf (k:=0) Z.b3 zi) zi (hr.mono (by decide))) aR))))) (bI (bR ic)) cZ)) (ck (wG PassesOwn.leaving rfl (i9 (aY dn (PXL.px (gj (Za (cb (DI Z) hr hx (Za (aG 0) (Za aR aI))) aI))) (mj (aG 0) (kx aR) (kx aR)))) (er 2 sc) (ck (eX (c9 3 (cb (DL Z) hr hx (Za (aG 2) aI)) sc)) (ck (Cv 4 5 sc (zp (zW Z) hr hx) (zp (zW Z) hr hx)) (ck (eX (uB 6 (gj (Za (PXL.px (gj (Za aR aI))) aI)) sc)) (ck (wG PassesOwn.leaving rfl (xX Z.a7 (Za (aY dn aR (cb (kK Z) hr hx (Za (aG 3) (Za aR aI)))) aI)) (er 7 sc) (ck (eX (uF (cb (DJ Z) hr hx (Za (aG 3) (Za (uH 6 (kv kz aR)) aI))) (sr rfl (mo (er 8 sc) (mo (er 9 sc) sm))))) (ck (j8 (Zb (dm hr.units) (lF (mB Z) hr hx (Za (aG 4) (Za (aG 8) aI))) (cK (Za bG (Za bG aI)))) (dq (bI (bR ic))) (dq cZ)) (ck (j8 (Zb (dm hr.units) (lF (mB Z) hr hx (Za (aG 4) (Za bG aI))) (cK (Za bG (Za (cb (n9 Z) hr hx (Za (aG 9) aI)) aI)))) (dq (bI (bR ic))) (dq cZ)) (dq (bI (ya 6 (aG 9)))))))) (ck (j8 (Ck (Cl (lF (D4 Z) hr hx (Za (aG 3) (Za (aG 4) (Za (aG 5) (Za (uH 6 (kv kz aR)) aI))))))) (dq (bI (bR ic))) (dq cZ)) (ck (Cw PassesOwn.leaving (yb 6 (eJ nF (cr ig Z.a5 Eu (Za (aG 6) aI)) aR)) (ck (eX (CP 6)) (ck (j8 (Zb (dm hr.units) (lF (mB Z) hr hx (Za (aG 4) (Za bG aI))) (cK (Za bG (Za bG aI)))) (dq (bI (bR ic))) (dq cZ)) (oJ (j8 (Zb (dm hr.units) (lF (mB Z) hr hx (Za (aG 4) (Za bG aI))) (cK (Za bG (Za (cb (n9 Z) hr hx (Za (uH 6 (kv kz aR)) aI)) aI)))) (dq (bI (bR ic))) (dq cZ)))))) (oJ (j8 (Zb (dm hr.units) (lF (mB Z) hr hx (Za (aG 4) (Za bG aI))) (cK (Za bG aI))) (dq (bI (bR ic))) (dq cZ)))))))))) (dq (bI (bR ic))))))) DF
end
theorem walk{q:Program}{loose:List Str}{d:DefRec}{K:Params->D9}(hn:l.most=some 63)(hdf:d.params.defaults=[])
  (hY:∀(w:World) (h:Heap),YP w h->(K w.params).In h)
  (F:∀ (w:World) (mg:Str->Option Value) (fa:Addr) (h:Heap),(K w.params).In h->h.Ns mainGlobals mg->mg d.name=some (.ref fa)->
   ∃fd:FuncData,(∀(s:Shared) (u:Value),BindsTo s fd ⟨[u],[]⟩ [("_law_script",u)])/\∀base:Heap,(K w.params).In base->base.Ns mainGlobals mg->FnOk l.prog w (K w.params) mg base (bD l.prog w) 11 fa fd ["_law_script"] (dI (K w.params) rh)) :
  PySem.W.WalkO q loose XP YP l.row.toRowW d [] (λf vs=>PySem.call f vs):=
 L2.walk_of (n:=63) (k:=11) (x:= "_law_script") (CX:=λw=>bD l.prog w) (sp:=λw=>dI (K w.params) rh) hn (by decide) hdf ⟨rfl,rfl,by decide,by decide⟩ hY F (λ_ _ a ns hl hO hS=>DH hl hO hS) λ_ _ _ _ _ ⟨_,_,_,_,_,_,_,_,_,_,_,_,_,z⟩=>z
end D7
end LP
namespace PySem.W.Fast
def tw1591074757420863489:=0
def tw3653500816958585988:=0
def tw14404000124973179772:=0
def tw13239495037665246954:=0
def tw12593883642377063554:=0
def tw4248350894330834965:=0
def tw15788242225030507345:=0
def tw13331978738936936537:=0
def tw7265621462498936664:=0
def tw8144171763573040257:=0
def tw4406800237517301834:=0
def tw7852168302193997389:=0
def tw2899725918174576029:=0
def tw15353009407475649728:=0
def tw17995229178164395179:=0
def tw11665164570843044303:=0
def tw8348080682187358285:=0
def tw8657559262530754570:=0
def tw1983136255477076684:=0
def tw15637399986332041063:=0
def tw12214160105718609297:=0
def tw3391448094193187594:=0
def tw17698571662560849708:=0
def tw14718204048350780641:=0
def tw13389330574611137045:=0
def tw10936103647192088095:=0
def tw3890153353302006343:=0
def tw709694344381219144:=0
def tw18428807557706828311:=0
def tw1187135476389209754:=0
def tw12414984048407531342:=0
def tw1732712007793618305:=0
def tw11164993906632878584:=0
def tw5020701758493910153:=0
def tw6574306993375266144:=0
def tw12257086214579586648:=0
def tw10209805645562611201:=0
def tw6554603324035472765:=0
def tw14585360376792996821:=0
def tw10268233493859713524:=0
def tw15166727397789439812:=0
def tw6170311911097348467:=0
def tw10429358890041784383:=0
def tw62771001796448394:=0
def tw10849778340914519947:=0
def tw6653225428183413444:=0
def tw16392627993264303814:=0
def tw6343056712795068590:=0
def tw7054777702196439547:=0
def tw13816841321124099768:=0
def tw4606455781313535683:=0
def tw980841740679518324:=0
def tw7940129052765063314:=0
def tw431057233126797505:=0
def tw11547730716333709253:=0
def tw11604390831599115864:=0
def tw318901492569979502:=0
def tw16413654797872155729:=0
def tw2448893978109129913:=0
def tw10236487402993077633:=0
def tw9556212786814570680:=0
def tw5825322917962619842:=0
def tw18377949547647888342:=0
def tw1458490592785229474:=0
def tw6602401223431222970:=0
def tw5416164098577412786:=0
def tw956665252233847990:=0
def tw12131578420285256477:=0
def tw13932188965999503009:=0
def tw11035286626755361371:=0
def tw7625263247022948774:=0
def tw14661696371337820561:=0
def tw5618569202312599944:=0
def tw284494667785310192:=0
def tw8475988199045051404:=0
def tw16232973011637672435:=0
def tw4243988035004017377:=0
def tw12009159003807999424:=0
def tw12730962064074113395:=0
def tw5307549669729119596:=0
def tw17397825100791947567:=0
def tw13088473173239158848:=0
def tw16272027568155722435:=0
def tw11543321857010931501:=0
def tw3448705959662187504:=0
def tw13646478279588269449:=0
def tw10391677304352436309:=0
def tw14242167178224641132:=0
def tw16770361530991407086:=0
def tw17687402808970590226:=0
def tw13889991395586491984:=0
def tw1208883928326215653:=0
def tw3984664600987273797:=0
def tw6734820498804300930:=0
def tw6111482450354030019:=0
def tw16768222836529687225:=0
def tw14978071641617612819:=0
def tw18076876417485976243:=0
def tw13269335888791989839:=0
def tw3220004746844994548:=0
def tw6112223791470966953:=0
def tw17269259123577215583:=0
def tw6967109839148899235:=0
def tw6089270234352861264:=0
def tw5802346285837149834:=0
def tw14131744307116108446:=0
def tw5837865246671102284:=0
def tw10647200271228837976:=0
def tw3481848567947701667:=0
def tw4342797037110324229:=0
def tw14281973981612904560:=0
def tw18306597241162560244:=0
def tw8158532497953509659:=0
def tw3197222062298461790:=0
def tw10914236213713686402:=0
def tw12254249342315794042:=0
def tw16887490232686084925:=0
def tw13852845108846847351:=0
def tw3691854658728527338:=0
def tw9482779296700598602:=0
def tw3391364614977155533:=0
def tw11726560755174763370:=0
def tw14820573418241577096:=0
def tw12140053758659663765:=0
def tw201292426783442733:=0
def tw8421594840920169875:=0
def tw9504787138174467813:=0
def tw5319732162109997563:=0
def tw12880369156499678708:=0
def tw886797818326278739:=0
def tw378890974734156842:=0
def tw5392429016711051175:=0
def tw13620842431011333873:=0
def tw2976750219465521132:=0
def tw2302634023769991175:=0
def tw17824183643479358904:=0
def tw5855095429168260389:=0
def tw10973604259008371672:=0
def tw2247877431625673406:=0
def tw16772939971145878249:=0
def tw14856413313155937313:=0
def tw9609762352336312521:=0
def tw9553011296639441876:=0
def tw15502058285803536167:=0
def tw11405680920523900689:=0
def tw8612354755378871245:=0
def tw16189032638367307696:=0
def tw12956768963151071980:=0
def tw609210547027483678:=0
def tw11989452080235113436:=0
def tw5579505437290547872:=0
def tw4162018278902655351:=0
def tw10994926121983212421:=0
def tw2244509530132453046:=0
def tw12875106989821320309:=0
def tw14814053175784120088:=0
def tw17789163037012571182:=0
def tw4423427132833738753:=0
def tw5162894815952018336:=0
def tw11271615437509086428:=0
def tw16886917659046062097:=0
def tw5347409811440411252:=0
def tw7397526461907231990:=0
def tw9502096011459427514:=0
def tw50182815491654858:=0
def tw15659088233625976050:=0
def tw11362302617689928953:=0
def tw12754689185932646481:=0
def tw10847533363755593429:=0
def tw1188906148038678913:=0
def tw15971318070469166424:=0
def tw3030980681424992004:=0
def tw17946096934687515541:=0
def tw1317346075504973446:=0
def tw3242211313269046058:=0
def tw7304068260587322046:=0
def tw16525784117782728019:=0
def tw9130847410222876899:=0
def tw16425975845066710594:=0
def tw11349317510284941576:=0
def tw15209804015186666112:=0
def tw15556653670505385783:=0
def tw10255589848421310182:=0
def tw11268445269255269366:=0
def tw13368293632720277324:=0
def tw7371408699889921804:=0
def tw12088032249221910780:=0
def tw18267706839531164867:=0
def tw5454297125136027707:=0
def tw11331197655178323445:=0
def tw6332330904707407405:=0
def tw3486183797495689274:=0
def tw8894910027323752828:=0
def tw4300846162126374387:=0
def tw7170389021421013283:=0
def tw3852517511825939460:=0
def tw16171989307180423143:=0
def tw13975344079841828774:=0
def tw8300793677939352944:=0
def tw10510003259187693219:=0
def tw2415331825803811209:=0
def tw17271308341321072514:=0
def tw6284046025740440264:=0
def tw5412959474053758310:=0
def tw10371525226577639229:=0
def tw10707699438930628980:=0
def tw14408262475058188169:=0
def tw5121348517093492315:=0
def tw14758317600272033758:=0
def tw7928918632907558569:=0
def tw13947057896905035926:=0
def tw10444187929156713726:=0
def tw4499714801198533659:=0
def tw373086128434693115:=0
def tw17548629356196349270:=0
def tw10455677016229436574:=0
def tw15864213955256476166:=0
def tw7781071753130956305:=0
def tw183736601981323489:=0
def tw3315804529176463801:=0
def tw8409697137741252184:=0
def tw13934004809331830908:=0
def tw14965078867670011881:=0
def tw15250254570941237154:=0
def tw10409293471964685892:=0
def tw17219206226340916360:=0
def tw10498821394635807446:=0
def tw4938707657462474751:=0
def tw5089138765881109125:=0
def tw4420529859570164858:=0
def tw2609533300786892587:=0
def tw1895217806249057500:=0
def tw15050741984926611253:=0
def tw5089208782423561977:=0
def tw9419976461186040147:=0
def tw8644127826378406730:=0
def tw8180315228171581678:=0
def tw792025832911165420:=0
def tw6536889505417714057:=0
def tw4600400493848170097:=0
def tw10889481793167591634:=0
def tw18038333806825422389:=0
def tw13440799486272457986:=0
def tw13364826709638216407:=0
def tw1541562858013256027:=0
def tw1308555828658926215:=0
def tw17011325709173789666:=0
def tw3452014847659647282:=0
def tw9719903954391689559:=0
def tw593592384306642239:=0
def tw211476400376621542:=0
def tw15221814922227063359:=0
def tw4503544273216325075:=0
def tw10576100239544581325:=0
def tw13834844423225888406:=0
def tw8630767057484309539:=0
def tw175993968942306650:=0
def tw13887137721732452030:=0
def tw8551698685655247736:=0
def tw8143998691434641435:=0
def tw6062336470134703975:=0
def tw5268291392956393316:=0
def tw16452543909742549663:=0
def tw11068185975583613107:=0
def tw10539772922104464074:=0
def tw5981255823970260302:=0
def tw4174258253650700081:=0
def tw3897537699929488097:=0
def tw14637680335989735119:=0
def tw10936139295820970874:=0
def tw9130149124284471407:=0
def tw7567493824491441090:=0
def tw3565428745016502194:=0
def tw13779606572231310240:=0
def tw17666522658817508455:=0
def tw14762674509940516651:=0
def tw11946935499335255666:=0
def tw8508301119559346686:=0
def tw5352664849757516242:=0
def tw2776083787302365897:=0
def tw2491681404650780215:=0
def tw7734887478365155655:=0
def tw10344656845021275504:=0
def tw10308003039538738853:=0
def tw18241485294150751453:=0
def tw15202245276167459430:=0
def tw3024755515983457146:=0
def tw15267222517945041063:=0
def tw2115103968881745654:=0
def tw10384653759401345171:=0
def tw13500938763504204762:=0
def tw611133274375781783:=0
def tw2031576653890885667:=0
def tw17852365033042020735:=0
def tw3421391506723081048:=0
def tw13152778888394409821:=0
def tw1490463728547061355:=0
def tw1591779430438598176:=0
def tw17311551637921549828:=0
def tw14010852141722419606:=0
def tw10202972968513880111:=0
def tw8885498448162175889:=0
def tw1700540191227681592:=0
def tw6525210125202138666:=0
def tw25786366025409879:=0
def tw775161919627937236:=0
def tw6029926893016499849:=0
def tw5717127385015955340:=0
def tw26956749493332247:=0
def tw1428294038329299437:=0
def tw10895417290436388638:=0
def tw9952366417848290838:=0
def tw9914737381587357891:=0
def tw9611881659084912630:=0
def tw9582763575189433977:=0
def tw9345756110889167883:=0
def tw9233234517246660623:=0
def tw9195521557319846493:=0
def tw8809774103203742845:=0
def tw8804844475903055426:=0
def tw8746434837451476397:=0
def tw8446761870722190354:=0
def tw7765027312872615377:=0
def tw7281081569619171936:=0
def tw7036300125803186390:=0
def tw7022930286345970468:=0
def tw6982320282105780230:=0
def tw685597097888523838:=0
def tw6625479314883067340:=0
def tw6541323227715959725:=0
def tw6174738524241240997:=0
def tw588820179577162369:=0
def tw5681784028925523347:=0
def tw5363515582234522626:=0
def tw4430850762322956857:=0
def tw4396881849548375003:=0
def tw432215533691072754:=0
def tw4165522598193686004:=0
def tw3713399465726928226:=0
def tw2478923453219997874:=0
def tw2178835275371430764:=0
def tw1970304345323528658:=0
def tw17972282283804016929:=0
def tw17813179021239735360:=0
def tw17388235782697892375:=0
def tw16943038982510453270:=0
def tw16845929502410681787:=0
def tw16758240057768623583:=0
def tw16623622092150174685:=0
def tw1642724628159065951:=0
def tw16002335130817368621:=0
def tw15637484307948838961:=0
def tw1561070896813639893:=0
def tw15507425970508984223:=0
def tw1515682502065516188:=0
def tw14995718910630834764:=0
def tw14914859600288310832:=0
def tw14334132520602166715:=0
def tw1420175572701117510:=0
def tw13584073720076771166:=0
def tw13409987718368958199:=0
def tw13305352753078061853:=0
def tw1321030595817268277:=0
def tw12979445745493744510:=0
def tw12944958181586139847:=0
def tw12821419454048607606:=0
def tw12735588157468339446:=0
def tw11751824599520896470:=0
def tw1159022090003344095:=0
def tw11562829018885836351:=0
def tw11481092670944174657:=0
def tw11286931665419969752:=0
def tw11275041199741796193:=0
def tw11265037050360162365:=0
def tw10994400011611474245:=0
def tw10783723959610187137:=0
def tw10709551813402936918:=0
def tw10482766968820849988:=0
def tw1038411942854810678:=0
def tw10277419186721436181:=0
def tw14402054943013776421:=0
def tw7218024889619073870:=0
def tw10510154438294804806:=0
def tw5240380815968596258:=0
def tw1459700591931993039:=0
def tw12750102592617033508:=0
def tw13885541734326634147:=0
def tw15212057751727774514:=0
def tw9366854248741664917:=0
def tw8735990294288536155:=0
def tw8470801275871702514:=0
def tw7383105068924550743:=0
def tw6157111904399262692:=0
def tw6102038599618300710:=0
def tw6099832017905395229:=0
def tw6074317725653251278:=0
def tw4756252990176942514:=0
def tw4460172005296020660:=0
def tw4076585948494498954:=0
def tw3933120597532700782:=0
def tw3342786041941283681:=0
def tw3037563872185371389:=0
def tw284373957518907537:=0
def tw2082460281809219948:=0
def tw18225594215774917987:=0
def tw17743702190310425866:=0
def tw17648933515192201009:=0
def tw16900200087263051033:=0
def tw16511804026177546945:=0
def tw16188160255361789313:=0
def tw15869712937555221408:=0
def tw1540604958145081031:=0
def tw14140253747015977280:=0
def tw1197740155717279468:=0
def tw11755710268323150642:=0
def tw11424302513822055468:=0
def tw10453596492336660967:=0
def tw8426435708663010102:=0
def tw8107058303189151636:=0
def tw14661516465185433711:=0
def tw16882353759078625719:=0
def tw18210344299206021426:=0
def tw17287168771746215367:=0
def tw15556928100114775063:=0
def tw11125212673847517452:=0
def tw9593957147874252164:=0
def tw15246129989424810593:=0
def tw15211752754940138475:=0
def tw1305002596353271599:=0
def tw5537237714616521814:=0
def tw11804073172889442072:=0
def tw9705701608541385968:=0
def tw15427833747353458665:=0
def tw7042052050558339777:=0
def tw94889546122956884:=0
def tw8558812350840160894:=0
def tw8246111677383939710:=0
def tw6936152237103030245:=0
def tw5529786071607445400:=0
def tw4476746891415493455:=0
def tw3801712642044036841:=0
def tw18149123228456198562:=0
def tw1707639480491054063:=0
def tw15386851872905335904:=0
def tw13989560275144340401:=0
def tw12673764227304004322:=0
def tw10564021800286086473:=0
def tw10551077724238971662:=0
def tw72691743719249982:=0
def tw6455556628125646743:=0
def tw17463823849225899089:=0
def tw14260266517039317273:=0
def tw13762833760621400109:=0
def tw13303236154565346237:=0
def tw7479676515170872095:=0
def tw8243376247028840901:=0
def tw7436247789811556220:=0
def tw4142354617459529228:=0
def tw2697889705119643802:=0
def tw18386612466936945948:=0
def tw18350651306899488712:=0
def tw12927505697088150988:=0
def tw12922575357890156874:=0
def tw11513194098650148390:=0
def tw10485247087733082929:=0
def tw8086229132673861388:=0
def tw4691630014305497221:=0
def tw17803671358697205298:=0
def tw16364379101342310161:=0
def tw16309109482705988549:=0
def tw12847798103271309426:=0
def tw12527150572236177909:=0
def tw16310526258700312962:=0
def tw6838352907738079192:=0
def tw6634572019372244035:=0
def tw578440950517612607:=0
def tw7603384125715160763:=0
def tw685420444052720114:=0
def tw6768672301777838625:=0
def tw5557578320727001108:=0
def tw7976598224408883546:=0
def tw16083164314987825707:=0
def tw13921025016556764596:=0
def tw1709643093836571443:=0
def tw7458285620448421266:=0
def tw2493603957879725536:=0
def tw17433638462566012369:=0
def tw14428745515144722989:=0
def tw1224062154805759173:=0
def tw2912101105383637153:=0
def tw10822136174192792573:=0
def tw891649786127961931:=0
def tw8700039556514153268:=0
def tw6851866709482737077:=0
def tw5356459739746855751:=0
def tw3482941560225460396:=0
def tw15829584151557554060:=0
def tw13886448038049062595:=0
def tw13372553972082698058:=0
def tw13343996582616935833:=0
def tw11628102547601271479:=0
def tw11339802304670794031:=0
def tw1092424380754440981:=0
def tw622990843271552180:=0
def tw3683105290520690776:=0
def tw4710683936792834272:=0
def tw16982045885542499841:=0
def tw928973256608793010:=0
def tw8421123570287643361:=0
def tw8285667205161230047:=0
def tw7659325495754183117:=0
def tw7500950255903248395:=0
def tw5226784766844926520:=0
def tw5107106506506823800:=0
def tw3981250685922738525:=0
def tw3715775145372063844:=0
def tw3458172396856834679:=0
def tw3052852686862310602:=0
def tw1382569635747146524:=0
def tw10595568281477356295:=0
def tw10401438827251048797:=0
def tw13681408895527614430:=0
def tw8199272205979314728:=0
def tw399383989698571973:=0
def tw16612882433392035959:=0
def tw3300501909396554823:=0
def tw17066717166568262705:=0
def tw9377340970140481985:=0
def tw7184522675529420043:=0
def tw665410104479217083:=0
def tw9852459752026479660:=0
def tw898665455628088031:=0
def tw8763404095142728394:=0
def tw7092642174574939419:=0
def tw6668448786792299969:=0
def tw661842417936291732:=0
def tw6539835975706256874:=0
def tw6538427124736796794:=0
def tw6515303265873390262:=0
def tw6449343195944149747:=0
def tw5250174766945620429:=0
def tw5077011087475247106:=0
def tw3287020102746185829:=0
def tw2744829298781404476:=0
def tw2553448384903076574:=0
def tw2381733008115769267:=0
def tw1975681278963296935:=0
def tw18307637037723676014:=0
def tw17942236161386100534:=0
def tw17346414462497728146:=0
def tw16131017788348420748:=0
def tw16030773291242498692:=0
def tw15505061357212101555:=0
def tw14880781696722867309:=0
def tw13352951645461604502:=0
def tw13299901329227326446:=0
def tw13247485985906067077:=0
def tw13209511503115892248:=0
def tw13007317851634010808:=0
def tw12810636580950693302:=0
def tw11998904347130571605:=0
def tw11732676810110164285:=0
def tw11067173377714640346:=0
def tw10958646795035998235:=0
def tw10618591266243176473:=0
def tw10580121854091200830:=0
def tw1811629049199276687:=0
def tw8650730404249288836:=0
def tw9344832159125992932:=0
def tw8137262179082838989:=0
def tw6709448485925401794:=0
def tw625748824040396060:=0
def tw5732635168094712436:=0
def tw5074674936414934375:=0
def tw4997042085565673875:=0
def tw4734512099473858011:=0
def tw3212703635227477467:=0
def tw302817098902037484:=0
def tw2621112529187128963:=0
def tw2376262169419970632:=0
def tw1901591076604912128:=0
def tw18147973872068496943:=0
def tw17718327561217475197:=0
def tw17471610172646135892:=0
def tw17175339300835162457:=0
def tw17057403477521925833:=0
def tw14016648556227515694:=0
def tw13328334129254042074:=0
def tw13100368102921003822:=0
def tw1180207519832605538:=0
def tw11453322326233516023:=0
def tw9573136361366859354:=0
def tw8945352215040473737:=0
def tw8901635590677235076:=0
def tw569882057256060420:=0
def tw5070669599228670796:=0
def tw4443443723166303856:=0
def tw3642428603156274765:=0
def tw3514982569178742178:=0
def tw3433678727657095041:=0
def tw18075317775575023540:=0
def tw16024088920802433113:=0
def tw15913622511439164059:=0
def tw14651980042115378381:=0
def tw1434391277843207618:=0
def tw13549039218965802770:=0
def tw13374362104633595000:=0
def tw13026979508024202978:=0
def tw11420275951475911369:=0
def tw10914797539240246388:=0
def tw10151892621980818707:=0
def tw7287510894554301863:=0
def tw7035513920467828247:=0
def tw6541985023056070947:=0
def tw6029865685419563511:=0
def tw233750318047569570:=0
def tw16974305940240346569:=0
def tw16538087445704159124:=0
def tw15861192950217691654:=0
def tw13634139487961087036:=0
def tw12216679153512747323:=0
def tw10851346628060053653:=0
def tw10668656745206467257:=0
def tw7187043231091971405:=0
def tw6896627358828044956:=0
def tw6620550046137584467:=0
def tw6124105083620028583:=0
def tw6103384070461743535:=0
def tw5586225362197102694:=0
def tw499658929867740728:=0
def tw2403821448550645677:=0
def tw16458665586193781620:=0
def tw13875299059845361159:=0
def tw12874668956883740707:=0
def tw9904315338254819147:=0
def tw9836295829319736095:=0
def tw9813662507314450949:=0
def tw9747703479453719180:=0
def tw9739359749701929195:=0
def tw9665900262225273788:=0
def tw9631643534223817723:=0
def tw9605534160182220563:=0
def tw9578753628312107725:=0
def tw957348688473874503:=0
def tw9510625961270866946:=0
def tw9479902704604618026:=0
def tw9466600713841532796:=0
def tw9437146333109712979:=0
def tw9349173068680390262:=0
def tw9346192944513430722:=0
def tw9299510711302967454:=0
def tw9299475986739118314:=0
def tw9221100568046639642:=0
def tw9119303469606400962:=0
def tw9118611380512054585:=0
def tw9116016070207501955:=0
def tw9043668387639908439:=0
def tw8855378465314691545:=0
def tw879600424258966237:=0
def tw8712437328087950914:=0
def tw8565436320736021246:=0
def tw8564549600064960759:=0
def tw8555703573016548856:=0
def tw8542639134629609065:=0
def tw8449315665308856217:=0
def tw8331810485020608885:=0
def tw8321788942080953999:=0
def tw8284887966672425169:=0
def tw8272157199149543970:=0
def tw8080631187110063596:=0
def tw8042098823224831777:=0
def tw7971426520783231615:=0
def tw7964360954674151061:=0
def tw796048156338226229:=0
def tw7832510589102065422:=0
def tw780530572780013275:=0
def tw779956918384161323:=0
def tw7773846394257938573:=0
def tw767770492608991864:=0
def tw7601902295812562594:=0
def tw7584758418258875250:=0
def tw7539384661682119774:=0
def tw751893244063877120:=0
def tw7419575875515491342:=0
def tw7409689723936408983:=0
def tw7298393033923277051:=0
def tw7185003579616843955:=0
def tw7159134336545521394:=0
def tw706640355103177604:=0
def tw7011168211693187594:=0
def tw6996620860726233279:=0
def tw6887936479571353371:=0
def tw682835732707190292:=0
def tw679783877572897290:=0
def tw6788506620042922128:=0
def tw6776849043981433469:=0
def tw6711773811476099880:=0
def tw6597347228644451939:=0
def tw6506554590211645727:=0
def tw6505582028142881872:=0
def tw649947839267472612:=0
def tw6400870367932606265:=0
def tw6398919345868190773:=0
def tw6338961129438366276:=0
def tw6337425603063648806:=0
def tw6256700637108836396:=0
def tw6244149117602535201:=0
def tw6068284676496153310:=0
def tw5889642421040547731:=0
def tw5774962604341792620:=0
def tw571754111367454350:=0
def tw5694923626088941395:=0
def tw5677591987506831779:=0
def tw563036817004690283:=0
def tw562305966079771407:=0
def tw5539672092678252689:=0
def tw5426766966814499102:=0
def tw504447658693040953:=0
def tw4959197420391972624:=0
def tw4878260432943568820:=0
def tw4698102309697884639:=0
def tw4672869637228627372:=0
def tw4662021804596034652:=0
def tw4501807414555910211:=0
def tw44468449007264627:=0
def tw4330715082020526794:=0
def tw4216450638013844203:=0
def tw3953209521522586975:=0
def tw3910142224989507007:=0
def tw3574831830054015872:=0
def tw3468194127254492064:=0
def tw3433051502154815648:=0
def tw3406766705478862802:=0
def tw3381288386123293837:=0
def tw3360077675365053422:=0
def tw3188357850588519616:=0
def tw2898195375100162195:=0
def tw2895177315095679749:=0
def tw2747651826285239089:=0
def tw2673954232828400221:=0
def tw2378105114929317448:=0
def tw2326157081356532082:=0
def tw2298442242775064279:=0
def tw2007565965448192821:=0
def tw1917632825171521496:=0
def tw1859129741068951076:=0
def tw18378068523638162362:=0
def tw18154337397245253348:=0
def tw18050651712510886241:=0
def tw18043845807486741905:=0
def tw1792251053790958649:=0
def tw1765418271311016851:=0
def tw17568272956452196829:=0
def tw17343577321412326132:=0
def tw17309430222020672946:=0
def tw17277647792676046205:=0
def tw17180094128268588270:=0
def tw17130397831167910825:=0
def tw17013593862641159692:=0
def tw16969042235834943004:=0
def tw1689839128844704524:=0
def tw16852309210482832740:=0
def tw16647933565999849080:=0
def tw16354203177043288263:=0
def tw16258626164019890019:=0
def tw16257084766002444692:=0
def tw16229770949769262883:=0
def tw16140152163115728313:=0
def tw16038817205273857637:=0
def tw16008934455574197722:=0
def tw15992513150154411745:=0
def tw15883247687495934820:=0
def tw15872753794451086314:=0
def tw15859101426847722204:=0
def tw1579834963119232872:=0
def tw15769633040245030289:=0
def tw15499413266345158058:=0
def tw15394654008721844378:=0
def tw15320604477775303826:=0
def tw15180606830963667130:=0
def tw15032764532959557408:=0
def tw15013510883762547446:=0
def tw14769944308211556664:=0
def tw14766190040547775548:=0
def tw14685855750827181887:=0
def tw14572046950659715010:=0
def tw14537585949506099850:=0
def tw14484911326855968578:=0
def tw14458269339251207570:=0
def tw14425562084265599100:=0
def tw14322890470328546433:=0
def tw14318822764664508939:=0
def tw14310824199027440035:=0
def tw14080519165622157530:=0
def tw14043782883977264175:=0
def tw14038165256665551647:=0
def tw14011987986536954235:=0
def tw13810105507530459790:=0
def tw13717674370342279841:=0
def tw13597107904914932976:=0
def tw13547325821465672181:=0
def tw13518835350696889278:=0
def tw1340185333037152025:=0
def tw13379172438014832336:=0
def tw13285437723871393813:=0
def tw13285275259751820465:=0
def tw13236894691454620145:=0
def tw13095685346842017551:=0
def tw13083080066846410599:=0
def tw13075719433534628528:=0
def tw12875786588629035244:=0
def tw12757063373256253555:=0
def tw12717119468021447876:=0
def tw12704567804665157140:=0
def tw12471968067356131536:=0
def tw12432299896334952167:=0
def tw12427938772625102485:=0
def tw12381676601708300044:=0
def tw12292949852320942759:=0
def tw12282340006406314427:=0
def tw12257802772062840718:=0
def tw12157178442932623768:=0
def tw12122285060908336176:=0
def tw12011264132100006814:=0
def tw11956360787856051869:=0
def tw11942001037636892360:=0
def tw11772784246417978829:=0
def tw11496447299590045338:=0
def tw11495292070293045193:=0
def tw11397568691111466417:=0
def tw11379406967564956653:=0
def tw11294225510802425123:=0
def tw11254966613536110119:=0
def tw11027524198365038729:=0
def tw10938154080346279499:=0
def tw10787178259810018284:=0
def tw1069053070351137756:=0
def tw10573526722413023393:=0
def tw1056908284438350144:=0
def tw10401403112282287496:=0
def tw10386756948832288205:=0
def tw10335604032088015072:=0
def tw10285146272514286782:=0
def tw10261736986585267400:=0
def tw9687162973619618119:=0
def tw960640147013734029:=0
def tw9557779551811853932:=0
def tw9404042974634094164:=0
def tw9367184955864839596:=0
def tw8997853350431974764:=0
def tw8959599974585210486:=0
def tw8797016287183221946:=0
def tw873243366861399891:=0
def tw8660903663166715149:=0
def tw8253319232330413165:=0
def tw7740786532105136958:=0
def tw7537177698653490202:=0
def tw7513158402925464519:=0
def tw7181985859663657998:=0
def tw6980270408800136930:=0
def tw693352649026892289:=0
def tw6529734378524555797:=0
def tw6507365020812978990:=0
def tw6455953664728741116:=0
def tw642987138980201927:=0
def tw6027545687044974491:=0
def tw5979512965781896507:=0
def tw5866229059503213377:=0
def tw560854447503098269:=0
def tw5418956313411488470:=0
def tw5173559746159929946:=0
def tw5101276483427040068:=0
def tw4928142541840774143:=0
def tw4928079269884777270:=0
def tw4909237731679004939:=0
def tw4563651618285920460:=0
def tw4548553624771870771:=0
def tw4331201093241506499:=0
def tw409561601904423750:=0
def tw3999146157830563482:=0
def tw3836489659591396197:=0
def tw3804591581054622905:=0
def tw3761493394605252543:=0
def tw3759391608013723872:=0
def tw3538841809707976203:=0
def tw3389149847792815512:=0
def tw3366048821744627470:=0
def tw3180868825688885561:=0
def tw3110827897663451880:=0
def tw3104120068802500716:=0
def tw3069650823569657711:=0
def tw2854221115467766016:=0
def tw2845031648200803235:=0
def tw268406424144108027:=0
def tw2527520137152756015:=0
def tw2420582324997950070:=0
def tw2385691756726832480:=0
def tw2318509889588115467:=0
def tw227829468554765856:=0
def tw2062745641172984284:=0
def tw1935835050440344395:=0
def tw1904922759139050133:=0
def tw18074382693670335276:=0
def tw18063717215850385541:=0
def tw17842284305693936807:=0
def tw17678998093620030835:=0
def tw17648109692066276141:=0
def tw17536989217026350237:=0
def tw17447977528276738980:=0
def tw17444553104591663148:=0
def tw17332234566660460759:=0
def tw17325786016345021630:=0
def tw17283087133286489462:=0
def tw17144083501531381725:=0
def tw17054043909587072773:=0
def tw17051286959051316006:=0
def tw17025191578332692611:=0
def tw16749934608805690524:=0
def tw16679672716798975121:=0
def tw16663967848160663924:=0
def tw16354319231681041480:=0
def tw16164119883399926983:=0
def tw1607768204287112589:=0
def tw16072412880426862941:=0
def tw16063052653198217468:=0
def tw15898189226122812645:=0
def tw15800108772492687626:=0
def tw15712067545304924561:=0
def tw15656422088366400932:=0
def tw15621820135600200812:=0
def tw15616249484191317635:=0
def tw15370861510946460254:=0
def tw15282073302018861164:=0
def tw15107461680711669714:=0
def tw13618774801677803943:=0
def tw13469014163961215590:=0
def tw1344300547899644525:=0
def tw13246367341477922333:=0
def tw13240540658560801522:=0
def tw13125762974527158235:=0
def tw12927501866337202423:=0
def tw12653127934089034178:=0
def tw12325421466214877666:=0
def tw12276686190642364403:=0
def tw11935659465135992641:=0
def tw11928255405606130277:=0
def tw11859853703994199659:=0
def tw11807584799372375250:=0
def tw11770801952636669233:=0
def tw11696725535811300784:=0
def tw11546959974372332744:=0
def tw11018463169369021096:=0
def tw10973389955542053819:=0
def tw10953210144676232334:=0
def tw10939217388385194584:=0
def tw10852734476873346545:=0
def tw10814301197289666764:=0
def tw10793983612301078595:=0
def tw1072185778621221785:=0
def tw10673297875643515135:=0
def tw10610964465774035069:=0
def tw10534026645015399992:=0
def tw10200619268104687856:=0
end PySem.W.Fast
open PySem PySem.W PyProof.Rows
set_option maxRecDepth 100000 in
set_option maxHeartbeats 0 in
theorem PySem.Challenge.cw_slanttables_k77_a_desk_told_wrong_places_holds : PySem.Challenge.rw_slanttables_k77_a_desk_told_wrong_places.Holds := by
  w_on;o_law;k_head;(case hw=>w_witness2)
  k_fill
  refine LP.D7.walk (l:=PySem.Challenge.rw_slanttables_k77_a_desk_told_wrong_places) rfl rfl (λw h Y=>PySem.W.kIn_of Y) ?F
  case F=>
    intro w mg fa h KX G hmg;refine LP.D7.all_mk ?_ hmg;constructor
    all_goals first
      |(refine' LP.mkF KX G ?a ?l ?c ?k;(case a=>k_is);(case l=>k_is);(case c=>k_is);(case k=>k_is))
      |(refine' mg_none_of KX G ?a;case a=>k_is)
      |(refine' LP.mkC KX G ?a;case a=>k_is)
      |(refine' LP.mkI KX G ?a;case a=>k_is)
      |(refine' LP.mkS KX G ?a;case a=>k_is)
      |(refine' LP.mkDK KX G ?a ?pg ?hd ?po ?sa ?no ?mk ?ni ?ki ?e1 ?e2 ?e3 ?e4 ?s0 ?s1 ?s2 ?s3 ?s4 ?u0 ?u1 ?u2 ?u3 ?u4;(case a=>k_is);(case pg=>k_is);(case hd=>k_is);(case po=>k_is);(case sa=>k_is);(case no=>k_is);(case mk=>k_is);(case ni=>k_is);(case ki=>k_is);(case e1=>k_is);(case e2=>k_is);(case e3=>k_is);(case e4=>k_is);(case s0=>k_is);(case s1=>k_is);(case s2=>k_is);(case s3=>k_is);(case s4=>k_is);(case u0=>k_is);(case u1=>k_is);(case u2=>k_is);(case u3=>k_is);(case u4=>k_is))
      |(refine' LP.mkT1 KX G ?a ?l;(case a=>k_is);(case l=>k_is))
      |(refine' LP.mkD KX G ?a ?l ?s ?k ?e;(case a=>k_is);(case l=>k_is);(case s=>decide);(case k=>(repeat (refine And.intro ⟨_,_,rfl,rfl⟩ ?_));exact trivial);(case e=>(first|unfold LP.D7.NUMD|unfold LP.D7.DEEDD|unfold LP.D7.QUESD);(repeat first|refine LP.Ent.i rfl rfl ?_|refine LP.Ent.n rfl rfl ?_|refine LP.Ent.f rfl rfl (by k_is) ?_);exact .nil))
      |(refine' LP.mkXF2 KX G ?a ?lc ?ni ?yq ?yr ?l ?c ?k;(case a=>k_is);(case lc=>k_is);(case ni=>k_is);(case l=>k_is);(case c=>k_is);(case k=>k_is);(case yq=>kernel_rfl);(case yr=>kernel_rfl))
      |(refine' LP.mkT KX G ?a ?l;(case a=>k_is);(case l=>k_is))
      |(refine' LP.mkXF KX G ?a ?lc ?ni ?yq ?l ?c ?k;(case a=>k_is);(case lc=>k_is);(case ni=>k_is);(case l=>k_is);(case c=>k_is);(case k=>k_is);(case yq=>kernel_rfl))
      |(refine' LP.mkX KX G ?a ?e;(case a=>k_is);(case e=>k_exc))
      |(refine' LP.mkH KX G ?a ?e ?_;(case a=>k_is);(case e=>k_exc);intro n hn;simp only[LP.LX,Yan,gq,or_false] at hn;first|(rcases hn with rfl|rfl|rfl|rfl|rfl|rfl|rfl|rfl|rfl|rfl|rfl<;>(refine' LP.exD ?a ?b;(case a=>k_is);(case b=>k_is)))|(rcases hn with rfl|rfl|rfl|rfl|rfl|rfl<;>(refine' LP.exD ?a ?b;(case a=>k_is);(case b=>k_is)))|(rcases hn with rfl|rfl|rfl<;>(refine' LP.exD ?a ?b;(case a=>k_is);(case b=>k_is)))|(subst hn;refine' LP.exD ?a ?b;(case a=>k_is);(case b=>k_is)))
      | (refine ⟨λn hn=>?_⟩;simp only [LP.LX,Yan,gq,or_false] at hn;rcases hn with rfl | rfl | rfl | rfl | rfl | rfl<;>
         (refine' LP.exX ?a (LP.clsX_of ?g ?n ?b ?h ?c ?d ?t ?o) ?k ?_;(case a=>k_is);(case g=>k_is);(case n=>k_is);(case b=>k_is);(case h=>k_is);(case c=>k_is);(case d=>k_is);(case t=>k_is);(case o=>k_is);(case k=>kit_is)
          intro m hm;simp only[LP.MX,LP.LX,Yan,gq,or_false] at hm;rcases hm with rfl|rfl|rfl|rfl|rfl|rfl|rfl|rfl|rfl<;>
           (refine' LP.exC ?a ?b;(case a=>k_is);(case b=>first|(refine Eq.trans (b:=some true) ?_ (by decide +kernel);kit_is)|(refine Eq.trans (b:=some false) ?_ (by decide +kernel);kit_is)))))
