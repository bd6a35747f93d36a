import PyProof.Rows.All
import Wide.All
import OpenK.AllK
import Wide.FinOn
import PySem.Challenge.RW_slanttables_k18_right_sides
set_option genSizeOf false
set_option genInjectivity false
set_option compiler.extract_closed false
set_option Elab.async false
set_option linter.all false
set_option maxRecDepth 100000
set_option exponentiation.threshold 400
set_option maxHeartbeats 8000000
noncomputable section
def c8:=@PySem.Heap.lt_size
def dG:=@Nat.lt_of_lt_of_le
def iR:=@Nat.lt_irrefl
def A4:=@Array.append_assoc
def gF:=@Nat.ne_of_lt
def u4:=@Nat.lt_trans
def Yag:=@List.mem_filter
def Yah:=@List.mem_range
def hX:=@Nat.le_trans
def pX:=@Nat.le_of_lt
def yM:=@List.filterMap_cons
def lw:=@List.mem_cons_self
def jr:=@List.mem_cons_of_mem
def yN:=@PySem.Heap.get?_none_of_le
def Yao:=@List.mem_cons
def Yap:=@List.mem_append
def A5:=@List.mem_append_left
def Yar:=@List.getElem?_eq_some_iff
def fb:=@List.getElem?_set_self
def eK:=@List.getElem?_set_ne
def yO:=@Array.length_toList
def dq:=@PySem.Heap.get?_push_of_some
def jy:=@Bool.false_ne_true
def yP:=@Nat.ne_of_gt
def rW:=@Bool.false_and
def g9:=@PySem.Heap.get?_push_size
def bS:=@Nat.le_refl
def YaB:=@List.mem_filterMap
def nY:=@List.mem_append_right
def j8:=@Bool.eq_iff_iff
def eX:=@List.size_toArray
def rX:=@List.append_nil
def YaG:=@List.nodup_cons
def u5:=@List.of_mem_zip
def gj:=@List.length_take
def jY:=@List.getElem?_append_right
def mI:=@List.getElem?_replicate
def j9:=@List.getElem?_append_left
def cE:=@List.getElem?_map
def A6:=@List.getElem?_take_of_lt
def jz:=@List.mem_of_getElem?
def d9:=@List.length_append
def bQ:=@List.length_map
def pY:=@List.length_replicate
theorem jA(n:Nat):(n:Int).toNat=n:=rfl
def iD:=@List.length_drop
def cV:=@Bool.and_eq_true
def u6:=@PySem.Heap.get?_update_self
def rY:=@PySem.Heap.get?_update_other
def dI:=@List.length_set
def ud:=@List.all_cons
def yQ:=@List.any_cons
theorem gJ{α}{a:α}{n}:List.replicate (n+1) a=a::List.replicate n a:=rfl
def qW:=@List.flatten_cons
def nZ:=@List.append_assoc
def mh:=@List.length_singleton
def qX:=@Nat.succ_mul
def yR:=@Nat.add_comm
theorem eY{α}(l:List α):[]++l=l:=rfl
def hZ:=@List.map_nil
def c6:=@List.map_cons
def lx:=@List.lookup_cons
def rZ:=@Bool.not_eq_true'
def A7:=@List.forIn_cons
def ee:=@Bool.false_eq_true
def u7:=@Option.map_some
def mJ:=@PySem.Heap.size_push
def Ybf:=@List.all_eq_true
def yS:=@Bool.or_eq_true
def A8:=@Nat.le_of_succ_le
def jB:=@Nat.lt_or_ge
def aZ:=@List.getD_eq_getElem?_getD
def kW:=@Nat.zero_le
def A9:=@List.ext_getElem?
def iU:=@List.getElem?_range
def eL:=@List.getElem?_eq_none
def yT:=@List.reverse_cons
def Ba:=@List.length_reverse
def Ybq:=@Array.getElem?_eq_some_iff
def ue:=@List.contains_cons
def Bb:=@PySem.Heap.get?_push_at
def iF:=@Nat.le_succ
theorem dX{α}{a:α}{l:List α}:(a::l).length=l.length+1:=rfl
theorem jZ{α}:([]:List α).length=0:=rfl
def da:=@List.not_mem_nil
def Bc:=@Int.toNat_of_nonneg
def n4:=@Int.mul_comm
def yU:=@Int.mul_zero
def YbA:=@List.mem_iff_getElem
def cA:=@List.getElem?_eq_getElem
def jC:=@List.getElem_mem
def pZ:=@List.drop_zero
def uf:=@List.drop_eq_getElem_cons
def mK:=@List.length_zipWith
def mL:=@Nat.pow_le_pow_right
def Be:=@Int.mul_ediv_cancel_left
def gK:=@Int.natAbs_mul
theorem n6(n:Nat):(n:Int).natAbs=n:=rfl
def r8:=@Nat.pow_add
def Bf:=@Nat.eq_zero_or_pos
def p6:=@Nat.mul_le_mul_right
def Bg:=@Nat.mul_ne_zero
def u8:=@Nat.pow_succ
def EI:=@Int.sign_eq_neg_one_of_neg
def yV:=@Rat.num_intCast
def yW:=@Rat.den_intCast
def yX:=@Nat.one_lt_two_pow
def YbT:=@List.mem_map
def Bh:=@Int.gcd_pos_of_ne_zero_right
def yY:=@Int.neg_mul_neg
def yZ:=@Int.mul_fdiv_cancel_left
def ug:=@Int.one_mul
def y0:=@Bool.and_true
def du:=@List.map_map
def hJ:=@List.map_congr_left
def y2:=@List.map_id
def uh:=@Rat.num_divInt_den
theorem iG{α}{a:α}{l k:List α}:(a::l)++k=a::(l++k):=rfl
theorem dv{α}{a:α}{l:List α}:(a::l)[0]? = some a:=rfl
theorem eZ{α}{a:α}{n:Nat}{l:List α}:(a::l)[n+1]? = l[n]? :=rfl
theorem h8{α}{a b:α}{l:List α}:(a::l).set 0 b=b::l:=rfl
theorem ia{α}{a b:α}{n}{l:List α}:(a::l).set (n+1) b=a::l.set n b:=rfl
def mi:=@List.replicate_zero
def u9:=@List.all_map
def Bj:=@Int.fmod_eq_emod_of_nonneg
def f6:=@Bool.not_true
def p7:=@Bool.true_and
def jD:=@Nat.lt_of_le_of_lt
def Bl:=@Rat.divInt_ofNat
def p8:=@Rat.add_zero
def mM:=@Nat.min_eq_left
def y3:=@List.take_of_length_le
def va:=@Int.fdiv_eq_ediv_of_nonneg
def p9:=@List.map_drop
def mj:=@List.map_take
def ly:=@List.mem_of_mem_drop
def mO:=@List.mem_of_mem_take
def Bm:=@Int.fmod_nonneg_of_pos
def n8:=@Nat.mul_le_mul
def Ycp:=@List.mem_singleton
def gL:=@List.map_append
def mm:=@List.length_range
def y4:=@List.map_reverse
def Yct:=@List.mem_replicate
def vb:=@List.map_set
def Bo:=@List.mem_or_eq_of_mem_set
def Bp:=@List.range_succ_eq_map
def ui:=@List.getElem?_drop
def vc:=@Nat.sub_self
def n9:=@Bool.not_false
def sd:=@Nat.zero_add
def YcB:=@Rat.num_eq_zero
def qa:=@Int.mul_ne_zero
def ic:=@Rat.div_def
def se:=@Rat.divInt_mul_divInt
def uj:=@Nat.mul_lt_mul''
def Bq:=@List.getElem?_set
def uk:=@Rat.divInt_mul_right
def iH:=@Rat.zero_mul
def sf:=@List.getElem_zipWith
def Bt:=@List.zipWith_map
def y6:=@List.map_zipWith
def y8:=@Nat.lt_succ_of_lt
def vd:=@List.getElem?_take
def qY:=@Rat.mul_one
def jE:=@Rat.mul_zero
def y9:=@Rat.mul_inv_cancel
def qZ:=@Rat.inv_mul_cancel
def YcS:=@List.pairwise_cons
def ve:=@List.getD_cons_zero
def um:=@List.getD_cons_succ
def uo:=@Rat.intCast_mul
def uq:=@Rat.mul_comm
def sh:=@Rat.one_mul
def Bu:=@Option.getD_some
def rc:=@List.range_succ
section
open PySem PySem.Spec PyProof.Rows PySem.W
def O2:=@wpAny_bind
abbrev O3:=PySem.W.Frag
def O4:=@wpAny_pure
def O5:=@absurd
def O6:=@decide_eq_true_eq
def O7:=@decide_eq_true
def O8:=@Option.some.inj
def O9:=@boot_isinstance
def Pa:=@Ne.symm
def Pb:=@PySem.mem_of_lookup
def Pc:=@wpAny_loadPart_at
def Pd:=@wpAny_field
def Pe:=@decide_eq_false
def Pf:=@boot_len
def Pg:=@wpAny_newObj_type
def Ph:=@wpAny_mono
def Pi:=@False.elim
def Pj:=@boot_tuple
def Pk:=@beq_self_eq_true
def Pl:=@wpAny_holding
def Pm:=@wpAny_truthy_bool
def Po:=@beq_iff_eq
def Pp:=@wpAny_standAt
def Pq:=@wpAny_call_entry
def Pr:=@wpAny_seqItems
def Ps:=@wpAny_setField_rec
def Pt:=@wpAny_passesOwn
def Pu:=@beq_eq_false_iff_ne
def Pv:=@wpAny_isSubtype_exc
def Pw:=@wpAny_Call_Name_kw
def Px:=@wpAny_execs_nil
def Py:=@wpAny_rule
def Pz:=@wpAny_setField
def PB:=@wpAny_pyIter_enum
def PC:=@wpAny_typeOf
def PD:=@wpAny_updateSeq_pair
def PH:=@wpAny_onRaise
end
namespace L2
open PySem PySem.Spec PyProof.Rows
variable{κ:Type}{a b it dx:Addr}{P prog:Program}{w:World}{h h' base:Heap}{x name qual:Str}{e c tg:Expr}{pins:List (Addr×Obj)}{s s':Shared}{g':Array GenState}{t' i j k n:Nat}{d':Drawn}{ch fp:List Addr}{N ps:List Str}{A:Around}{Q:Value->Shared->Prop}{f:Value->Value->Sem Value}{pos pos' p:Pos}{K:O3}{es:List Expr}{g:Int->Int->Int}{op:CmpOp}{body:List Stmt}{us:List Value}{mA mg:Str->Option Value}{kw:List (Str×Value)}{outer:List Env}{fd:FuncData}{scope:Scope}{osl:Array (Option Value)}
abbrev j0:=Sum Int Str
def re:j0->Value->Bool
 |.inl k,v=>Value.isInt k v|.inr x,v=>Value.isStrOf x v
def Bv(w:World):j0->Int
 |.inl k=>hashInt k|.inr x=>hashStr w x
theorem bJ:∀{k:j0} {v:Value},re k v=true->(∃i t,k=Sum.inl i/\v=Value.int i t)\/(∃x t,k=Sum.inr x/\v=Value.str x t)
 |.inl i,v,h=>by obtain⟨t,e⟩:=Value.isInt_shape (k:=i) (v:=v) h;exact .inl ⟨i,t,rfl,e⟩
 |.inr x,v,h=>by obtain⟨t,e⟩:=Value.isStrOf_shape (x:=x) (v:=v) h;exact .inr ⟨x,t,rfl,e⟩
theorem si(a b:Int):decide ((Sum.inl a:j0)=Sum.inl b)=(a==b):=by by_cases e:a=b;subst e;simp;have h:¬(Sum.inl a:j0)=Sum.inl b:=λq=>e (Sum.inl.inj q);rw[Pe h];exact(beq_eq_false_iff_ne.mpr e).symm
theorem sj(a b:Str):decide ((Sum.inr a:j0)=Sum.inr b)=decide (a=b):=by by_cases e:a=b;subst e;simp;have h:¬(Sum.inr a:j0)=Sum.inr b:=λq=>e (Sum.inr.inj q);rw[Pe h,Pe e]
theorem sr(a:Int)(b:Str):decide ((Sum.inl a:j0)=Sum.inr b)=false:=Pe<|λq=>nomatch q
theorem ss(a:Str)(b:Int):decide ((Sum.inr a:j0)=Sum.inl b)=false:=Pe<|λq=>nomatch q
def iV(prog:Program)(w:World):PySem.KeyKind prog w j0 where
 is:=re
 hash:=Bv w
 inj:=λv a b ha hb=>by
  rcases bJ ha with⟨i,t,rfl,rfl⟩|⟨x,t,rfl,rfl⟩
  rcases bJ hb with⟨j,u,rfl,e⟩|⟨y,u,rfl,e⟩
  injection e with e1 _;rw[e1]
  exact nomatch e;rcases bJ hb with⟨j,u,rfl,e⟩|⟨y,u,rfl,e⟩
  exact nomatch e;injection e with e1 _;rw[e1]
 byValue:=λk v h=>by rcases bJ h with⟨i,t,rfl,rfl⟩|⟨x,t,rfl,rfl⟩<;>rfl
 pyHash:=λhv h=>by
  rcases bJ hv with⟨i,t,rfl,rfl⟩|⟨x,t,rfl,rfl⟩
  exact wpAny_pyHash_int h;exact wpAny_pyHash_str h
 eqBool:=λhu hv h=>by
  rcases bJ hu with⟨i,t,rfl,rfl⟩|⟨x,t,rfl,rfl⟩
  rcases bJ hv with⟨j,u,rfl,rfl⟩|⟨y,u,rfl,rfl⟩
  rw[si]at h;exact wpAny_eqBool_int h;rw[sr]at h;exact SeqAt.EqAt.int_str i t y u _ _ _ _ h;rcases bJ hv with⟨j,u,rfl,rfl⟩|⟨y,u,rfl,rfl⟩
  rw[ss]at h;exact SeqAt.EqAt.str_int x t j u _ _ _ _ h;rw[sj]at h;exact wpAny_eqBool_str h
 «strs»:=λk x t v h=>by
  rcases bJ h with⟨i,u,rfl,e⟩|⟨y,u,rfl,e⟩
  exact nomatch e;injection e with e1 _
  subst e1;cases v<;>rfl
set_option genInjectivity true in
inductive V where
 |non|bl (b:Bool)|int (i:Int)|str (x:Str)|byt (b:Array UInt8)|flt (b:UInt64)|ref (a:Addr)|ty (n:String)
 deriving DecidableEq
variable{v:V}{xs vs:List V}{gV:List V->List V->List V}
def RelV:V->Value->Prop
 |.non,u=>u=Value.none|.bl b,u=>u=Value.bool b|.int i,u=>∃t,u=Value.int i t|.str x,u=>∃t,u=Value.str x t|.byt b,u=>∃t,u=Value.bytes b t|.flt b,u=>∃t,u=Value.float b t|.ref a,u=>u=Value.ref a|.ty n,u=>u=Value.type n
abbrev Vals:List V->List Value->Prop:=Paired RelV
theorem Vals.length{xs:List V}{us:List Value}(r:Vals xs us):xs.length=us.length:=Paired.length r
theorem Vals.get:∀{xs:List V} {us:List Value} {i:Nat} {x:V},Vals xs us->xs[i]? = some x->∃u,us[i]? = some u/\RelV x u
 |_,_,_,_,.nil,e=>by simp at e|_,_,0,_,.cons r _,e=>by simp at e;subst e;exact⟨_,rfl,r⟩|_,_,i+1,x,.cons _ t,e=>by obtain⟨u,h1,h2⟩:=Vals.get (i:=i) (x:=x) t (by simpa using e);exact⟨u,by simpa using h1,h2⟩
theorem Vals.set{x:V}{u:Value}(r:RelV x u):∀{xs:List V} {us:List Value} (i:Nat),Vals xs us->Vals (xs.set i x) (us.set i u)
 |_,_,_,.nil=>.nil|_,_,0,.cons _ t=>.cons r t|_,_,i+1,.cons q t=>.cons q<|Vals.set r i t
theorem Vals.append:∀{xs ys:List V} {us ws:List Value},Vals xs us->Vals ys ws->Vals (xs++ys) (us++ws)
 |_,_,_,_,.nil,s=>s|_,_,_,_,.cons r t,s=>.cons r<|Vals.append t s
theorem Vals.take:∀{xs:List V} {us:List Value} (n:Nat),Vals xs us->Vals (xs.take n) (us.take n)
 |_,_,0,_=>.nil|_,_,_+1,.nil=>.nil|_,_,n+1,.cons r t=>.cons r<|Vals.take n t
theorem Vals.drop:∀{xs:List V} {us:List Value} (n:Nat),Vals xs us->Vals (xs.drop n) (us.drop n)
 |_,_,0,r=>r|_,_,_+1,.nil=>.nil|_,_,n+1,.cons _ t=>Vals.drop n t
def vf:Option V->Option Value->Prop
 |some v,some u=>RelV v u|none,none=>True|_,_=>False
def KV:List (κ×V)->List (κ×Value)->Prop:=Paired λ(p:κ×V) (q:κ×Value)=>p.1=q.1/\RelV p.2 q.2
def kV:j0->V
 |.inl i=>.int i|.inr x=>.str x
inductive HO where
 |lst (xs:List V)
 |tup (xs:List V)
 |dK (kvs:List (j0×V))|dT (kvs:List (List j0×V))
 |set (S:Int->Bool) (n:Nat)
 |ins (C dx:Addr) (fs:List (Str×V))
 |own (x:Addr)
 |xd (fs:List (Str×V))
 |met (f x:Addr)
 |rng (lo hi:Int)
 |frz (o:Obj) (u:HO)
 |tbl (ps:Array Value)
 |ext (φ:Heap->Prop)
variable{o:HO}
abbrev Hp:=Addr->Option HO
variable{H H':Hp}
noncomputable def upd(H:Hp)(a:Addr)(o:HO):Hp:=λb=>if b=a then some o else H b
theorem aN:upd H a o a=some o:=by unfold upd;rw[if_pos rfl]
theorem aJ(h:b≠a):upd H a o b=H b:=by unfold upd;rw[if_neg h]
theorem qb{u:HO}:upd (upd H a o) a u=upd H a u:=by funext b;unfold upd;split<;>rfl
theorem de(h:H a=some o)(h':H b=none):a≠b:=by intro e;subst e;rw[h]at h';cases h'
section
variable(P:Program)(w:World)
def ObjOk(H:Hp)(h:Heap)(a:Addr):HO->Prop
 |.lst xs=>xs.length<=sizeLine/\∃(its:List Value) (n:Nat),Vals xs its/\h.get? a=some { cls:=.type "list",data:=.seq its.toArray n }|.tup xs=>xs.length<=sizeLine/\∃its:List Value,Vals xs its/\IsTup h a its.toArray|.dK kvs=>kvs.length<=sizeLine/\(a==sysModules)=false/\∃vs,KV kvs vs/\h.DictOf (iV P w) a vs
 |.dT kvs=>kvs.length<=sizeLine/\(a==sysModules)=false/\∃xs:List (List j0×Addr×Value),
   Paired (λ(p:List j0×V) (q:List j0×Addr×Value)=>p.1=q.1/\H q.2.1=some (.tup<|p.1.map kV)/\RelV p.2 q.2.2) kvs xs/\
   ∃o es ep,h.get? a=some o/\o.ExactDict/\o.data=.dict es ep/\es.toList=xs.map (entryOfKey<|tupleKind<|iV P w)/\(xs.map (·.1)).Nodup
 |.set S n=>h.SetOf (intKind P w) a S n
 |.ins C dx fs=>H dx=some (.own a)/\fs.length<=1000/\dx≠a/\h.get? a=some (PySem.W.instObj C dx)/\
   ∃mA,h.Ns1 dx mA/\(∀f,vf (fs.lookup f)<|mA f)/\PySem.Within mA (fs.map (·.1))
 |.own _=>∃o,h.get? a=some o|.xd fs=>∃mA,h.Ns1 a mA/\∀f,vf (fs.lookup f)<|mA f
 |.rng lo hi=>∃t u v,h.get? a=some { cls:=.type "range",data:=.fields #[.int lo t,.int hi u,.int 1 v] }|.frz o u=>h.get? a=some o/\ObjOk H h a u|.tbl ps=>h.get? a=some { cls:=.none,data:=.fields ps }|.met f x=>h.get? a=some (PySem.W.methodObj (.ref f)<|.ref x)|.ext φ=>φ h/\(∃o,h.get? a=some o)/\∀h1 h2:Heap,φ h1->(∀o,h1.get? a=some o->h2.get? a=some o)->φ h2
def HOk(H:Hp)(h:Heap):Prop:=∀a o,H a=some o->ObjOk P w H h a o
end
section
theorem ObjOk.lt(x:ObjOk P w H h a o):a<h.objs.size:=by
 cases o with
 |lst xs=>obtain⟨_,_,_,_,e⟩:=x;exact c8 e
 |tup xs=>obtain⟨_,_,_,p⟩:=x;exact p.lt
 |dK kvs=>obtain⟨_,_,_,_,o,_,_,e,_⟩:=x;exact c8 e
 |dT kvs=>obtain⟨_,_,_,_,o,_,_,e,_⟩:=x;exact c8 e
 |set S n=>obtain⟨o,_,_,_,e,_⟩:=x;exact c8 e
 |ins C dx fs=>obtain⟨_,_,_,e,_⟩:=x;exact c8 e
 |own y=>obtain⟨_,e⟩:=x;exact c8 e
 |xd fs=>obtain⟨_,⟨_,_,_,e,_⟩,_⟩:=x;exact c8 e
 |rng lo hi=>obtain⟨_,_,_,e⟩:=x;exact c8 e
 |frz ob u=>obtain⟨e,_⟩:=x;exact c8 e
 |tbl ps=>exact c8 (show h.get? a=some _ from x)|met f y=>exact c8 (show h.get? a=some _ from x)|ext φ=>obtain⟨_,⟨_,e⟩,_⟩:=x;exact c8 e
theorem Paired.mapP{α β:Type}{F G:α->β->Prop}:∀{l₁:List α} {l₂:List β},Paired F l₁ l₂->(∀a b,F a b->G a b)->Paired G l₁ l₂
 |_,_,.nil,_=>.nil|_,_,.cons r t,f=>.cons (f _ _ r)<|Paired.mapP t f
theorem ObjOk.stay(x:ObjOk P w H h a o)(k:∀b u,(b=a\/H b=some (.own a))->h.get? b=some u->h'.get? b=some u)
  (ho:∀b,H b=some (.own a)->H' b=some (.own a)) (ht:∀b xs,H b=some (.tup xs)->H' b=some (.tup xs)):ObjOk P w H' h' a o:=by
 induction o with
 |lst xs=>obtain⟨z,its,n,r,e⟩:=x;exact⟨z,its,n,r,k _ _ (.inl rfl) e⟩
 |tup xs=>obtain⟨z,its,r,ob,e,c⟩:=x;exact⟨z,its,r,ob,k _ _ (.inl rfl) e,c⟩
 |dK kvs=>obtain⟨z,y,vs,r,ob,es,ep,e,c⟩:=x;exact⟨z,y,vs,r,ob,es,ep,k _ _ (.inl rfl) e,c⟩
 |dT kvs=>
  obtain⟨z,y,xs,r,ob,es,ep,e,c⟩:=x;exact⟨z,y,xs,Paired.mapP r λp q z=>⟨z.1,ht _ _ z.2.1,z.2.2⟩,ob,es,ep,k _ _ (.inl rfl) e,c⟩
 |set S n=>obtain⟨ob,es,ep,t,e,c⟩:=x;exact⟨ob,es,ep,t,k _ _ (.inl rfl) e,c⟩
 |ins C dx fs=>
  obtain⟨d,z,ne,e,mA,⟨od,es,ep,e2,c⟩,r⟩:=x;exact⟨ho _ d,z,ne,k _ _ (.inl rfl) e,mA,⟨od,es,ep,k _ _ (.inr d) e2,c⟩,r⟩
 |own y=>obtain⟨ob,e⟩:=x;exact⟨ob,k _ _ (.inl rfl) e⟩
 |xd fs=>obtain⟨mA,⟨od,es,ep,e,c⟩,r⟩:=x;exact⟨mA,⟨od,es,ep,k _ _ (.inl rfl) e,c⟩,r⟩
 |rng lo hi=>obtain⟨t,u,v,e⟩:=x;exact⟨t,u,v,k _ _ (.inl rfl) e⟩
 |frz ob u ih=>obtain⟨e,q⟩:=x;exact⟨k _ _ (.inl rfl) e,ih q⟩
 |tbl ps=>
  have e:h.get? a=some { cls:=.none,data:=.fields ps }:=x;show h'.get? a=some { cls:=.none,data:=.fields ps };exact k a _ (.inl rfl) e
 |met f y=>
  have e:h.get? a=some (PySem.W.methodObj (.ref f)<|.ref y):=x;show h'.get? a=some (PySem.W.methodObj (.ref f)<|.ref y);exact k a _ (.inl rfl) e
 |ext φ=>obtain⟨p,⟨o,e⟩,st⟩:=x;exact⟨st _ _ p λo q=>k _ _ (.inl rfl) q,⟨o,k _ _ (.inl rfl) e⟩,st⟩
theorem HOk.lt(x:HOk P w H h)(e:H a=some o):a<h.objs.size:=(x a o e).lt
theorem HOk.fresh(x:HOk P w H h)(e:h.objs.size<=a):H a=none:=by
 cases q:H a with
 |none=>rfl|some u=>exact O5 (dG (x.lt q) e)<|iR _
theorem HOk.kept(x:HOk P w H h)(k:∀b u,h.get? b=some u->h'.get? b=some u):HOk P w H h':=λa o e=>(x a o e).stay (λb u _ q=>k b u q) (λ_ q=>q) λ_ _ q=>q
theorem HOk.laid(x:HOk P w H h)(k:∀b u,h.get? b=some u->h'.get? b=some u)(hp:h.objs.size<=a)(new:ObjOk P w (upd H a o) h' a o):HOk P w (upd H a o) h':=λb u e=>by have hn:=x.fresh hp;by_cases hb:b=a;subst hb;rw[aN]at e;cases e;exact new;rw[aJ hb]at e;exact(x b u e).stay (λc v _ q=>k c v q) (λc q=>by rw[aJ<|de q hn];exact q) λc xs q=>by rw[aJ<|de q hn];exact q
end
def Rd(H:Hp)(a:Addr)(u:HO):Prop:=H a=some u\/∃o,H a=some (.frz o u)
theorem Rd.ok{u:HO}(r:Rd H a u)(x:HOk P w H h):ObjOk P w H h a u:=by
 rcases r with r|⟨o,r⟩
 exact x a u r;obtain⟨_,q⟩:=x a _ r;exact q
def zc:Option HO->Prop
 |some (.lst _)=>True|some (.dK _)=>True|some (.dT _)=>True|some (.set _ _)=>True|some (.ins _ _ _)=>True|some (.ext _)=>True|_=>False
section
variable{x e:Addr}{o':HO}
theorem HOk.write(ok:HOk P w H h)(mu:zc (H x))(he:e=x\/H e=some (.own x))(k:∀b u,b≠e->h.get? b=some u->h'.get? b=some u)(heo:∃u,h'.get? e=some u)
  (new:ObjOk P w (upd H x o') h' x o'):HOk P w (upd H x o') h':=λb u q=>by
 have nown:∀c y,H c=some (.own y)->c≠x:=λc y r z=>by subst z;rw[r]at mu;exact mu
 have ntup:∀c xs,H c=some (.tup xs)->c≠x:=λc xs r z=>by subst z;rw[r]at mu;exact mu
 by_cases hb:b=x
 .subst hb;rw[aN]at q;cases q;exact new
 .rw[aJ hb]at q
  by_cases hbe:b=e
  .have q':H b=some (.own x):=by
    rcases he with z|z
    .exact O5 (hbe.trans z) hb
    .rw[hbe];exact z
   rw[q]at q';cases q';obtain⟨v,hv⟩:=heo;exact⟨v,by rw[hbe];exact hv⟩
  .refine(ok b u q).stay (λc v hc r=>k c v ?_ r) (λc r=>by rw[aJ<|nown c b r];exact r) λc xs r=>by rw[aJ<|ntup c xs r];exact r
   rcases hc with rfl|hc
   .exact hbe
   .rintro rfl
    rcases he with z|z
    .exact nown c b hc z
    .rw[hc]at z;cases z;exact hb rfl
end
structure Un(fs ex:List Addr)(H H':Hp)(h h':Heap):Prop where
 keep:∀b o,h.get? b=some o->H b=none->b∉fs->b∉ex->h'.get? b=some o
 slot:∀b o,h.get? b=some o->H b=none->b∈fs->b∉ex->∃sl,h'.get? b=some { o with slots:=sl }
 free:∀b o,h.get? b=some o->H b=none->b∉ex->H' b=none
 there:∀b o,h.get? b=some o->b∉ex->∃o',h'.get? b=some o'
 tups:∀b xs,H b=some (.tup xs)->H' b=some (.tup xs)
 frzs:∀b o u,H b=some (.frz o u)->H' b=some (.frz o u)
 tbls:∀b ps,H b=some (.tbl ps)->∃more,H' b=some (.tbl<|ps++more)
 sys:mainGlobals∉ex->(∃o,h.get? mainGlobals=some o)->(∀xs,H sysModules≠some (.lst xs))->∀xs,H' sysModules≠some (.lst xs)
section
variable{fs fs' ex ex':List Addr}{H1 H2:Hp}{h1 h2:Heap}{x e:Addr}
theorem Un.any(u:Un fs ex H H1 h h1){ob:Obj}(q:h.get? b=some ob)(n:H b=none)(hx:b∉ex):∃sl,h1.get? b=some { ob with slots:=sl }:=by by_cases hb:b∈fs;exact u.slot b ob q n hb hx;exact⟨ob.slots,u.keep b ob q n hb hx⟩
theorem Un.trans(a:Un fs ex H H1 h h1)(b:Un fs ex H1 H2 h1 h2):Un fs ex H H2 h h2 where
 keep:=λc ob q n hc hx=>b.keep c ob (a.keep c ob q n hc hx) (a.free c ob q n hx) hc hx
 slot:=λc ob q n hc hx=>by obtain⟨sl,e1⟩:=a.slot c ob q n hc hx;obtain⟨sl',e2⟩:=b.slot c _ e1 (a.free c ob q n hx) hc hx;exact⟨sl',e2⟩
 free:=λc ob q n hx=>by obtain⟨o',e1⟩:=a.there c ob q hx;exact b.free c o' e1 (a.free c ob q n hx) hx
 there:=λc ob q hx=>by obtain⟨o',e1⟩:=a.there c ob q hx;exact b.there c o' e1 hx
 tups:=λc xs q=>b.tups c xs<|a.tups c xs q
 frzs:=λc ob xs q=>b.frzs c ob xs<|a.frzs c ob xs q
 tbls:=λc ps q=>by obtain⟨m1,e1⟩:=a.tbls c ps q;obtain⟨m2,e2⟩:=b.tbls c _ e1;exact⟨m1++m2,by rw[e2,A4]⟩
 sys:=λhx ⟨o,e⟩ n=>b.sys hx (a.there _ o e hx)<|a.sys hx ⟨o,e⟩ n
theorem Un.kept(k:∀b u,h.get? b=some u->h'.get? b=some u):Un fs ex H H h h':=
 ⟨λb ob q _ _ _=>k b ob q,λb ob q _ _ _=>⟨ob.slots,k b ob q⟩,λ_ _ _ n _=>n,λb ob q _=>⟨ob,k b ob q⟩,λ_ _ q=>q,λ_ _ _ q=>q,λ_ ps q=>⟨#[],by rw[q];simp⟩,λ_ _ n=>n⟩
theorem Un.refl:Un fs ex H H h h:=Un.kept λ_ _ q=>q
theorem Un.laid(k:∀b u,h.get? b=some u->h'.get? b=some u)(hp:h.objs.size<=a)(hn:H a=none):Un fs ex H (upd H a o) h h' where
 keep:=λb u q _ _ _=>k b u q
 slot:=λb u q _ _ _=>⟨u.slots,k b u q⟩
 free:=λb u q n _=>by rw[aJ<|gF<|dG (c8 q) hp];exact n
 there:=λb u q _=>⟨u,k b u q⟩
 tups:=λb xs q=>by rw[aJ<|de q hn];exact q
 frzs:=λb u xs q=>by rw[aJ<|de q hn];exact q
 tbls:=λb ps q=>⟨#[],by rw[aJ<|de q hn,q];simp⟩
 sys:=λ_ ⟨_,q⟩ n=>by rw[aJ<|gF<|dG (u4 (by decide)<|c8 q) hp];exact n
theorem Un.write(mu:zc (H x))(he:e=x\/H e=some (.own x))(k:∀b u,b≠e->h.get? b=some u->h'.get? b=some u)(heo:∃u,h'.get? e=some u)(hk:(∃us,H x=some (.lst us))\/∀us,o≠.lst us):Un fs ex H (upd H x o) h h':=by
 have hx:∀b,H b=none->b≠x:=λb n z=>by subst z;rw[n]at mu;exact mu
 have hb:∀b,H b=none->b≠e:=λb n z=>by
  subst z;rcases he with r|r
  exact hx b n r;rw[n]at r;cases r
 have hm:∀b u,H b=some u->¬zc (some u)->b≠x:=λb u q nm z=>by subst z;rw[q]at mu;exact nm mu
 refine ⟨λb u q n _ _=>k b u (hb b n) q,λb u q n _ _=>⟨u.slots,k b u (hb b n) q⟩,λb u q n _=>by rw [aJ<|hx b n];exact n,λb u q _=>?_,
  λb xs q=>by rw[aJ<|hm b _ q λz=>z];exact q,λb u xs q=>by rw[aJ<|hm b _ q λz=>z];exact q,λb ps q=>⟨#[],by rw[aJ<|hm b _ q λz=>z,q];simp⟩,λ_ _ n ys=>by
   by_cases z:sysModules=x
   .rw[z,aN]
    rcases hk with⟨us,hk⟩|hk
    .exact O5 (z▸hk) (n us)
    .exact λy=>hk ys (O8 y)
   .rw[aJ z];exact n ys⟩
 by_cases hbe:b=e;subst hbe;exact heo;exact⟨u,k b u hbe q⟩
end
noncomputable def zd(h:Heap)(H:Hp):List Addr:=(List.range h.objs.size).filter λa=>(H a).isSome
def iW(h:Heap)(H:Hp):Heap:=PySem.W.hideAll h<|zd h H
theorem lA(h:Heap)(H:Hp):(iW h H).objs.size=h.objs.size:=PySem.W.hideAll_size _ _
theorem mP{o:Obj}(e:h.get? b=some o)(n:H b=none):(iW h H).get? b=some o:=
 PySem.W.hideAll_get _ e λhm=>by
  have q:(H b).isSome=true:=(Yag.mp hm).2;rw[n]at q;simp at q
theorem qc{o:Obj}(e:(iW h H).get? b=some o):h.get? b=some o/\H b=none:=by
 have e':h.get? b=some o:=PySem.W.of_hideAll (zd h H) e;refine⟨e',?_⟩;cases q:H b with
 |none=>rfl|some x=>have hm:b∈zd h H:=Yag.mpr ⟨Yah.mpr<|c8 e',by simp[q]⟩;have z:(iW h H).get? b=none:=PySem.W.hideAll_none (zd h H) hm;rw[z]at e;cases e
noncomputable def qd(g h:Heap)(L:Addr):List (Addr×Obj):=(List.range h.objs.size).filterMap λa=>if a=L\/(g.get? a).isSome=true then none else(h.get? a).map λo=>(a,o)
def rest(g h:Heap)(L d:Addr):List (Addr×Obj):=(qd g h L).filter λp=>decide (p.1≠d)
structure Mod(K:O3)(mg:Str->Option Value)(base:Heap):Prop where
 kin:K.In base
 glob:base.Ns mainGlobals mg
 blt:∃mb,base.Ns builtinsNs mb/\∀x:Str,x≠ "__name__" ->mb x=bootBuiltins x
 nolimit:base.NoLimit
structure Cx where
 prog:Program
 w:World
 K:O3
 mg:Str->Option Value
 base:Heap
 A:Around
 N:List Str
 s₀:Shared
 H₀:Hp
 env:Env
 outer:List Env
 stack:List Env
 ex:List Addr
 fn:Str->Bool
 calm:Bool
 pn:List (Addr×Obj)
 xe:Value->Shared->Prop
variable{X:Cx}
def cW(l:List Env):List Addr:=l.filterMap (·.frame)
abbrev Cx.fs(X:Cx):List Addr:=cW X.outer
def kX(sc:Scope)(x:Str):Prop:=sc.names.lookup x=some .local\/sc.names.lookup x=some .cell\/sc.names.lookup x=some .free
def mo(sc:Scope)(x:Str):Prop:=sc.names.lookup x=some .local\/sc.names.lookup x=some .cell
def Bw(env:Env)(h:Heap)(m:Str->Option Value)(x:Str)(u:Value):Prop:=
 (env.kindOf x=some .local/\m x=some u)\/((env.kindOf x=some .cell\/env.kindOf x=some .free)/\∃c,env.cells.lookup x=some c/\h.IsCell c (some u))
structure Cx.Ok(X:Cx):Prop where
 mod:Mod X.K X.mg X.base
 kind:X.env.scope.kind=.function
 glob:X.env.globals=mainGlobals
 blt:X.env.builtins=builtinsNs
 above:X.s₀.heap.objs.size<=X.env.locals
 inj:∀x y c,X.env.cells.lookup x=some c->X.env.cells.lookup y=some c->x=y
 has:∀x,(X.env.kindOf x=some .cell\/X.env.kindOf x=some .free)->∃c,X.env.cells.lookup x=some c
 cab:∀x c,X.fn x=true->X.env.cells.lookup x=some c->X.s₀.heap.objs.size<=c
 hd:X.calm=true->X.A.handled=none
 frames:X.A.frames=some X.stack
 stk:X.stack=X.outer\/(X.stack=X.env::X.outer/\X.env.frame=some X.env.locals)
 exf:∀b∈X.ex,b≠X.env.locals/\∀x c,X.env.cells.lookup x=some c->c≠b
 bs:∀b o,X.base.get? b=some o->X.s₀.heap.get? b=some o/\X.H₀ b=none
 bsz:X.base.objs.size<=X.s₀.heap.objs.size
 noex:∀b o,X.base.get? b=some o->b∉X.ex
 exfs:∀b∈X.ex,b∉X.fs
 funs:X.s₀.heap.FunFrames X.base X.outer
 frf:∀b∈X.fs,X.H₀ b=none
 sys0:∀xs,X.H₀ sysModules≠some (.lst xs)
structure Inv(X:Cx)(pins:List (Addr×Obj))(σ:List (Option V))(H:Hp)(s:Shared):Prop where
 ok:X.Ok
 os:s.os=X.s₀.os
 bare:AllBare s.gens
 base:Un X.fs X.ex X.H₀ H X.s₀.heap s.heap
 loc:∃m,s.heap.Ns X.env.locals m/\∀(i:Nat) (x:Str) (v:V),X.N[i]? = some x->σ[i]? = some (some v)->kX X.env.scope x->∃u,RelV v u/\Bw X.env s.heap m x u
 cell:∀x c,X.env.cells.lookup x=some c->∃v,s.heap.IsCell c v
 free:H X.env.locals=none
 freeC:∀x c,X.env.cells.lookup x=some c->H c=none
 pin:∀p∈X.pn++pins,s.heap.get? p.1=some p.2/\H p.1=none/\p.1≠X.env.locals/\p.1∉X.fs/\∀v,p.2.data≠.cell v
 hok:HOk X.prog X.w H s.heap
 len:σ.length=X.N.length
section
variable{σ:List (Option V)}
theorem Cx.Ok.nofr(ok:X.Ok){o:Obj}(e:X.base.get? b=some o):b∉X.fs:=λhb=>by have:=(ok.funs.mem hb).1;rw[e]at this;cases this
theorem Inv.bs(I:Inv X pins σ H s):∀b o,X.base.get? b=some o->s.heap.get? b=some o/\H b=none:=λb o e=>
 ⟨I.base.keep b o (I.ok.bs b o e).1 (I.ok.bs b o e).2 (I.ok.nofr e)<|I.ok.noex b o e,I.base.free b o (I.ok.bs b o e).1 (I.ok.bs b o e).2<|I.ok.noex b o e⟩
theorem Inv.bk(I:Inv X pins σ H s):∀b o,X.base.get? b=some o->s.heap.get? b=some o:=λb o e=>(I.bs b o e).1
theorem Inv.mod(I:Inv X pins σ H s):Mod X.K X.mg X.base:=I.ok.mod
theorem Inv.hasG(I:Inv X pins σ H s):∃o,s.heap.get? mainGlobals=some o:=by obtain⟨o,_,_,e,_⟩:=I.ok.mod.glob;exact⟨o,I.bk _ _ e⟩
theorem Inv.sysn(I:Inv X pins σ H s):∀xs,H sysModules≠some (.lst xs):=by obtain⟨o,_,_,e,_⟩:=I.ok.mod.glob;exact I.base.sys (I.ok.noex _ _ e) ⟨o,(I.ok.bs _ _ e).1⟩ I.ok.sys0
theorem Inv.kIn(I:Inv X pins σ H s):X.K.In s.heap:=I.ok.mod.kin.keeps I.bk
theorem Inv.lt(I:Inv X pins σ H s):X.env.locals<s.heap.objs.size:=let⟨_,hn,_⟩:=I.loc;hn.lt
theorem Inv.sz(I:Inv X pins σ H s):X.s₀.heap.objs.size<=s.heap.objs.size:=hX I.ok.above<|pX I.lt
theorem Inv.nofs(I:Inv X pins σ H s)(h:s.heap.objs.size<=a):a∉X.fs:=λhb=>by obtain⟨_,o,ho,_⟩:=I.ok.funs.mem hb;exact O5 (dG (c8 ho)<|hX I.sz h)<|iR _
theorem Inv.cne(I:Inv X pins σ H s):∀x c,X.env.cells.lookup x=some c->c≠X.env.locals:=λx c e z=>by obtain⟨v,o,ho,hd⟩:=I.cell x c e;obtain⟨m,⟨o',es,ep,ho',hd',_⟩,_⟩:=I.loc;rw[z,ho']at ho;cases ho;rw[hd']at hd;cases hd
theorem Inv.funs(I:Inv X pins σ H s):s.heap.FunFrames X.base X.outer:=by
 have all:∀(l:List Env),(∀b∈cW l,b∈X.fs)->X.s₀.heap.FunFrames X.base l->s.heap.FunFrames X.base l:=by
  intro l;induction l with
  |nil=>intro _ _;trivial|cons env r ih=>intro hs hl;obtain⟨hk,⟨L,o,hf,hn,ho,hd⟩,hr⟩:=hl;have hL:L∈X.fs:=hs L (by unfold cW;rw[yM,hf];exact lw);obtain⟨sl,e⟩:=I.base.slot L o ho (I.ok.frf L hL) hL λz=>I.ok.exfs L z hL;exact⟨hk,⟨L,_,hf,hn,e,hd⟩,ih (λb hb=>hs b (by unfold cW;rw[yM,hf];exact jr _ hb)) hr⟩
 exact all X.outer (λ_ hb=>hb) I.ok.funs
theorem Inv.stack(I:Inv X pins σ H s):s.heap.FunFrames X.base X.stack:=by
 rcases I.ok.stk with e|⟨e,hf⟩
 rw[e];exact I.funs;rw[e];obtain⟨m,hn,_⟩:=I.loc;refine .cons (by rw[I.ok.kind];decide) hf hn ?_ I.funs;exact yN<|hX I.ok.bsz I.ok.above
theorem Inv.stkSub(I:Inv X pins σ H s):∀b∈cW X.stack,b∈X.env.locals::X.fs:=λb hb=>by
 rcases I.ok.stk with e|⟨e,hf⟩
 rw[e]at hb;exact jr _ hb;rw[e]at hb;unfold cW at hb;rw[yM,hf]at hb;exact hb
theorem Inv.stkFree(I:Inv X pins σ H s):∀b∈cW X.stack,H b=none:=λb hb=>by
 rcases Yao.mp (I.stkSub b hb) with e|hb
 rw[e];exact I.free;obtain⟨_,o,ho,_⟩:=I.ok.funs.mem hb;exact I.base.free b o ho (I.ok.frf b hb) λz=>I.ok.exfs b z hb
theorem Inv.step(I:Inv X pins σ H s)
  (hch:∀b∈ch,(b∈X.ex\/X.s₀.heap.objs.size<=b)/\b≠X.env.locals/\(∀x c,X.env.cells.lookup x=some c->c≠b)/\∀p∈X.pn++pins,p.1≠b)
  (keep:∀b o,b≠X.env.locals->b∉X.fs->b∉ch->s.heap.get? b=some o->H b=none->h'.get? b=some o)
  (slot:∀b o,b≠X.env.locals->b∈X.fs->b∉ch->s.heap.get? b=some o->H b=none->∃sl,h'.get? b=some { o with slots:=sl }) (free:∀b o,b∉ch->s.heap.get? b=some o->H b=none->H' b=none)
  (there:∀b o,b∉ch->s.heap.get? b=some o->∃o',h'.get? b=some o')
  (tups:∀b xs,H b=some (.tup xs)->H' b=some (.tup xs)) (frzs:∀b o u,H b=some (.frz o u)->H' b=some (.frz o u)) (tbls:∀b ps,H b=some (.tbl ps)->∃more,H' b=some (.tbl<|ps++more))
  (ns:∀m,s.heap.Ns X.env.locals m->h'.Ns X.env.locals m) (hok:HOk X.prog X.w H' h') (hg:AllBare g') (sy:(∀xs,H sysModules≠some (.lst xs))->∀xs,H' sysModules≠some (.lst xs)) :
  Inv X pins σ H' { s with heap:=h',gens:=g',drawn:=d',toks:=t' }:=by
 have neL:∀b o,X.s₀.heap.get? b=some o->b≠X.env.locals:=λb o e=>gF<|dG (c8 e) I.ok.above;have neC:∀b o,X.s₀.heap.get? b=some o->b∉X.ex->b∉ch:=λb o e hx hb=>by
  rcases(hch b hb).1 with z|z
  .exact hx z
  .exact O5 (dG (c8 e) z)<|iR _
 have cellK:∀x c,X.env.cells.lookup x=some c->∀v,s.heap.IsCell c v->h'.IsCell c v:=λx c e v ⟨o,ho,hd⟩=>by
  have nch:c∉ch:=λz=>(hch c z).2.2.1 x c e rfl
  by_cases hc:c∈X.fs
  .obtain⟨sl,q⟩:=slot c o (I.cne x c e) hc nch ho (I.freeC x c e)
   exact⟨_,q,hd⟩
  .exact⟨o,keep c o (I.cne x c e) hc nch ho<|I.freeC x c e,hd⟩
 refine⟨I.ok,I.os,hg,⟨λb o e n hb hx=>?_,λb o e n hb hx=>?_,λb o e n hx=>?_,λb o e hx=>?_,λb xs e=>tups b xs<|I.base.tups b xs e,λb o xs e=>frzs b o xs<|I.base.frzs b o xs e,λb ps e=>?_,λx0 e0 n=>sy<|I.base.sys x0 e0 n⟩,?_,λx c e=>?_,?_,λx c e=>?_,λp hp=>?_,hok,I.len⟩
 .exact keep b o (neL b o e) hb (neC b o e hx) (I.base.keep b o e n hb hx)<|I.base.free b o e n hx
 .obtain⟨sl,e1⟩:=I.base.slot b o e n hb hx
  obtain⟨sl',e2⟩:=slot b _ (neL b o e) hb (neC b o e hx) e1<|I.base.free b o e n hx;exact⟨sl',e2⟩
 .obtain⟨o',e1⟩:=I.base.there b o e hx
  exact free b o' (neC b o e hx) e1<|I.base.free b o e n hx
 .obtain⟨o',e1⟩:=I.base.there b o e hx
  exact there b o' (neC b o e hx) e1
 .obtain⟨m1,e1⟩:=I.base.tbls b ps e
  obtain⟨m2,e2⟩:=tbls b _ e1;exact⟨m1++m2,by rw[e2,A4]⟩
 .obtain⟨m,hn,hl⟩:=I.loc
  refine⟨m,ns m hn,λi x v e1 e2 e3=>?_⟩;obtain⟨u,r,l⟩:=hl i x v e1 e2 e3;refine⟨u,r,?_⟩;rcases l with l|⟨k,c,e,z⟩
  .exact .inl l
  .exact .inr ⟨k,c,e,cellK x c e _ z⟩
 .obtain⟨v,z⟩:=I.cell x c e
  exact⟨v,cellK x c e v z⟩
 .obtain⟨m,⟨o,_,_,ho,_⟩,_⟩:=I.loc
  exact free _ o (λz=>(hch _ z).2.1 rfl) ho I.free
 .obtain⟨v,o,ho,hd⟩:=I.cell x c e
  exact free c o (λz=>(hch c z).2.2.1 x c e rfl) ho<|I.freeC x c e
 .obtain⟨e,n,ne,nf,d⟩:=I.pin p hp
  have nch:p.1∉ch:=λz=>(hch p.1 z).2.2.2 p hp rfl;exact⟨keep p.1 p.2 ne nf nch e n,free p.1 p.2 nch e n,ne,nf,d⟩
theorem Inv.un(I:Inv X pins σ H s)(u:Un X.fs [] H H' s.heap h')(hok:HOk X.prog X.w H' h'):Inv X pins σ H' { s with heap:=h',toks:=t' }:=by
 obtain⟨m,⟨o,es,ep,ho,r⟩,_⟩:=id I.loc;obtain⟨sl,hL⟩:=u.any ho I.free (by simp);exact I.step (g':=s.gens) (d':=s.drawn) (ch:=[]) (λ_ z=>nomatch z) (λb o _ hb _ e n=>u.keep b o e n hb<|by simp) (λb o _ hb _ e n=>u.slot b o e n hb<|by simp) (λb o _ e n=>u.free b o e n<|by simp) (λb o _ e=>u.there b o e<|by simp) u.tups u.frzs u.tbls (λm' hm=>by
  obtain⟨o',es',ep',ho',r'⟩:=hm;rw[ho]at ho';cases ho';exact⟨_,es',ep',hL,r'⟩) hok I.bare<|u.sys (by simp) I.hasG
theorem Inv.call(I:Inv X pins σ H s)(u:Un (cW X.stack) ch H H' s.heap h')(hok:HOk X.prog X.w H' h')(hg:AllBare g')
  (hch:∀b∈ch,(b∈X.ex\/X.s₀.heap.objs.size<=b)/\b≠X.env.locals/\(∀x c,X.env.cells.lookup x=some c->c≠b)/\∀p∈X.pn++pins,p.1≠b) :
  Inv X pins σ H' { s with heap:=h',gens:=g',drawn:=d',toks:=t' }:=by
 obtain⟨m,⟨o,es,ep,ho,r⟩,_⟩:=id I.loc;obtain⟨sl,hL⟩:=u.any ho I.free λz=>(hch _ z).2.1 rfl;exact I.step (ch:=ch) hch (λb o hL hb hc e n=>u.keep b o e n (λz=>(Yao.mp<|I.stkSub b z).elim hL hb) hc) (λb o _ _ hc e n=>u.any e n hc) (λb o hc e n=>u.free b o e n hc) (λb o hc e=>u.there b o e hc) u.tups u.frzs u.tbls (λm' hm=>by
  obtain⟨o',es',ep',ho',r'⟩:=hm;rw[ho]at ho';cases ho';exact ⟨_,es',ep',hL,r'⟩) hok hg<|u.sys (λz=>by
   obtain⟨o0,_,_,e0,_⟩:=I.ok.mod.glob;rcases(hch _ z).1 with y|y
   .exact I.ok.noex _ _ e0 y
   .exact O5 (dG (c8 (I.ok.bs _ _ e0).1) y)<|iR _) I.hasG
theorem Inv.turned(I:Inv X pins σ H s)(k:∀b o,b≠it->s.heap.get? b=some o->h'.get? b=some o)(hn:H it=none)(hL:it≠X.env.locals)
  (h1:it∈X.ex\/X.s₀.heap.objs.size<=it) (h2:∀x c,X.env.cells.lookup x=some c->c≠it) (h3:∀p∈X.pn++pins,p.1≠it):Inv X pins σ H { s with heap:=h',toks:=t' }:=by
 have nit:∀b u,H b=some u->b≠it:=λb u e z=>by rw[z,hn]at e;cases e
 refine I.step (g':=s.gens) (d':=s.drawn) (ch:=[it]) (λb hb=>?_) (λb o _ _ hc e _=>k b o (λz=>hc<|by simp[z]) e) (λb o _ _ hc e _=>⟨o.slots,k b o (λz=>hc<|by simp[z]) e⟩) (λ_ _ _ _ n=>n)
  (λb o hc e=>⟨o,k b o (λz=>hc<|by simp[z]) e⟩) (λ_ _ e=>e) (λ_ _ _ e=>e) (λb ps e=>⟨#[],by rw[e];simp⟩) (λm hm=>?_) (λb u e=>?_) I.bare (λn=>n)
 .have e:b=it:=by simpa using hb
  subst e;exact⟨h1,hL,h2,h3⟩
 .obtain⟨o,es,ep,ho,r⟩:=hm
  exact⟨o,es,ep,k _ o (Pa hL) ho,r⟩
 .refine(I.hok b u e).stay (λc v hc q=>k c v ?_ q) (λ_ q=>q) λ_ _ q=>q
  rcases hc with z|z
  .rw[z];exact nit b u e
  .exact nit c _ z
theorem Inv.tok(I:Inv X pins σ H s)(t:Nat):Inv X pins σ H { s with toks:=t }:=I.un (h':=s.heap) (t':=t) Un.refl I.hok
theorem Inv.kept{t':Nat}(I:Inv X pins σ H s)(k:∀b u,s.heap.get? b=some u->h'.get? b=some u):Inv X pins σ H { s with heap:=h',toks:=t' }:=I.un (Un.kept k)<|I.hok.kept k
theorem Inv.laid{a:Addr}{o:HO}{t':Nat}(I:Inv X pins σ H s)(k:∀b u,s.heap.get? b=some u->h'.get? b=some u)(hp:s.heap.objs.size<=a)(new:ObjOk X.prog X.w (upd H a o) h' a o) :
  Inv X pins σ (upd H a o) { s with heap:=h',toks:=t' }:=I.un (Un.laid k hp<|I.hok.fresh hp)<|I.hok.laid k hp new
theorem Inv.write{x e:Addr}{o:HO}{t':Nat}(I:Inv X pins σ H s)(mu:zc (H x))(he:e=x\/H e=some (.own x))(k:∀b u,b≠e->s.heap.get? b=some u->h'.get? b=some u)(heo:∃u,h'.get? e=some u)
  (new:ObjOk X.prog X.w (upd H x o) h' x o) (hk:(∃us,H x=some (.lst us))\/∀us,o≠.lst us):Inv X pins σ (upd H x o) { s with heap:=h',toks:=t' }:=I.un (Un.write mu he k heo hk)<|I.hok.write mu he k heo new
theorem Inv.pins_of{pins':List (Addr×Obj)}(I:Inv X pins σ H s)(h:∀p∈pins',s.heap.get? p.1=some p.2/\H p.1=none/\p.1≠X.env.locals/\p.1∉X.fs/\∀v,p.2.data≠.cell v):Inv X pins' σ H s:=
 ⟨I.ok,I.os,I.bare,I.base,I.loc,I.cell,I.free,I.freeC,λp hp=>(Yap.mp hp).elim (λz=>I.pin p<|A5 _ z)<|h p,I.hok,I.len⟩
theorem jF(hN:N.Nodup)(a:N[i]? = some x)(b:N[j]? = some x):i=j:=by obtain⟨h1,e1⟩:=Yar.mp a;obtain⟨h2,e2⟩:=Yar.mp b;exact(List.getElem_inj hN).mp<|e1.trans e2.symm
theorem fQ{M:Model}{E:Value->Shared->Prop}{u:Value}{Q:Unit->Shared->Prop}(I:Inv X pins σ H s)(hN:X.N.Nodup)(hi:X.N[i]? = some x)(hx:mo X.env.scope x)(r:RelV v u)
  (h:∀s',Inv X pins (σ.set i<|some v) H s'->(∃a,Heap.SameBut a s.heap s'.heap/\(a=X.env.locals\/X.env.cells.lookup x=some a))->Q () s') (hf:X.fn x=true\/X.env.scope.names.lookup x=some .local:=by first|exact .inl rfl|exact .inr rfl|assumption):wpAny M A (storeName X.env x u) Q E s:=by
 obtain⟨m,hn,hl⟩:=id I.loc;have hcls:(X.env.scope.kind==.class||(X.env.scope.kind==.module&&X.env.locals != X.env.globals))=false:=by rw[I.ok.kind];rfl
 have hiσ:i<σ.length:=by rw[I.len];exact(Yar.mp hi).1
 have cne:=I.cne;have tracked:∀{a:Addr} {h':Heap},(∃o,s.heap.get? a=some o/\H a=none)->Heap.SameBut a s.heap h'->HOk X.prog X.w H h':=λ{a h'} ha hs b ob e=>by
  obtain⟨_,_,hfree⟩:=ha;refine(I.hok b ob e).stay (λc w' hc q=>(hs.2 c ?_).trans q) (λ_ q=>q) λ_ _ q=>q;rintro rfl;rcases hc with rfl|hc
  .rw[hfree]at e;cases e
  .rw[hfree]at hc;cases hc
 rcases hx with hk|hk
 .refine wpAny_storeName_local hk hn (λh' hn' hs=>?_) hcls
  obtain⟨oL,_,_,hoL,_⟩:=id hn;refine h _ ⟨I.ok,I.os,I.bare,⟨λb o e n hb hx=>?_,λb o e n hb hx=>?_,I.base.free,λb o e hx=>?_,I.base.tups,I.base.frzs,I.base.tbls,I.base.sys⟩,⟨_,hn',λj y v' e1 e2 e3=>?_⟩,λy c e=>?_,I.free,I.freeC,λp hp=>?_,tracked ⟨oL,hoL,I.free⟩ hs,by simpa using I.len⟩ ⟨_,hs,.inl rfl⟩
  .exact(hs.2 b<|gF<|dG (c8 e) I.ok.above).trans (I.base.keep b o e n hb hx)
  .obtain⟨sl,e1⟩:=I.base.slot b o e n hb hx
   exact⟨sl,(hs.2 b<|gF<|dG (c8 e) I.ok.above).trans e1⟩
  .obtain⟨o',e1⟩:=I.base.there b o e hx
   exact⟨o',(hs.2 b<|gF<|dG (c8 e) I.ok.above).trans e1⟩
  .by_cases hj:j=i
   .subst hj
    rw[hi]at e1;cases e1;rw[fb hiσ]at e2;cases e2;exact⟨u,r,.inl ⟨hk,by simp⟩⟩
   .rw[eK<|Pa hj]at e2
    obtain⟨u',r',q⟩:=hl j y v' e1 e2 e3;refine⟨u',r',?_⟩;rcases q with⟨k,e⟩|⟨k,c,e,z⟩
    .refine .inl ⟨k,?_⟩
     have:y≠x:=λe=>hj<|jF hN e1 (e▸hi);simp[this,e]
    .exact .inr ⟨k,c,e,z.sameBut hs<|cne y c e⟩
  .obtain⟨w',z⟩:=I.cell y c e
   exact⟨w',z.sameBut hs<|cne y c e⟩
  .obtain⟨e,n,ne,nf,d⟩:=I.pin p hp
   exact⟨(hs.2 p.1 ne).trans e,n,ne,nf,d⟩
 .have hfn:X.fn x=true:=by
   rcases hf with z|z
   .exact z
   .rw[z]at hk;cases hk
  obtain⟨c,hc⟩:=I.ok.has x<|.inl hk;obtain⟨w',z⟩:=I.cell x c hc;refine wpAny_storeName_cell I.ok.kind hk hc z<|λh' hc' hs=>?_;obtain⟨oc,hoc,hocd⟩:=id z;refine h { s with heap:=h' } ⟨I.ok,I.os,I.bare,⟨λb o e n hb hx=>?_,λb o e n hb hx=>?_,I.base.free,λb o e hx=>?_,I.base.tups,I.base.frzs,I.base.tbls,I.base.sys⟩,⟨m,hn.sameBut hs<|Pa<|cne x c hc,λj y v' e1 e2 e3=>?_⟩,λy c' e=>?_,I.free,I.freeC,λp hp=>?_,tracked ⟨oc,hoc,I.freeC x c hc⟩ hs,by simpa using I.len⟩ ⟨c,hs,.inr hc⟩
  .exact(hs.2 b<|gF<|dG (c8 e)<|I.ok.cab x c hfn hc).trans (I.base.keep b o e n hb hx)
  .obtain⟨sl,e1⟩:=I.base.slot b o e n hb hx
   exact⟨sl,(hs.2 b<|gF<|dG (c8 e)<|I.ok.cab x c hfn hc).trans e1⟩
  .obtain⟨o',e1⟩:=I.base.there b o e hx
   exact⟨o',(hs.2 b<|gF<|dG (c8 e)<|I.ok.cab x c hfn hc).trans e1⟩
  .by_cases hj:j=i
   .subst hj
    rw[hi]at e1;cases e1;rw[fb hiσ]at e2;cases e2;exact⟨u,r,.inr ⟨.inl hk,c,hc,hc'⟩⟩
   .rw[eK<|Pa hj]at e2
    obtain⟨u',r',q⟩:=hl j y v' e1 e2 e3;refine⟨u',r',?_⟩;rcases q with q|⟨k,c',e,z'⟩
    .exact .inl q
    .refine .inr ⟨k,c',e,z'.sameBut hs ?_⟩
     rintro rfl;exact hj<|jF hN e1 (I.ok.inj _ _ _ e hc▸hi)
  .by_cases hcc:c'=c
   .subst hcc;exact⟨_,hc'⟩
   .obtain⟨w2,z2⟩:=I.cell y c' e
    exact⟨w2,z2.sameBut hs hcc⟩
  .obtain⟨e,n,ne,nf,d⟩:=I.pin p hp
   refine⟨(hs.2 p.1 ?_).trans e,n,ne,nf,d⟩;intro q;rw[q,hoc]at e;have q':oc=p.2:=O8 e;exact d w' (by rw[<-q'];exact hocd)
theorem et{M:Model}{E:Value->Shared->Prop}{u:Value}{Q:Unit->Shared->Prop}(I:Inv X pins σ H s)(hN:X.N.Nodup)(hi:X.N[i]? = some x)(hx:mo X.env.scope x)(r:RelV v u)
  (h:∀s',Inv X pins (σ.set i<|some v) H s'->Q () s') (hf:X.fn x=true\/X.env.scope.names.lookup x=some .local:=by first|exact .inl rfl|exact .inr rfl|assumption):wpAny M A (storeName X.env x u) Q E s:=
 fQ I hN hi hx r (λs' I' _=>h s' I') hf
theorem Inv.call'(I:Inv X pins σ H s)(ho:s'.os=s.os)(u:Un (cW X.stack) ch H H' s.heap s'.heap)(hok:HOk X.prog X.w H' s'.heap)(hg:AllBare s'.gens)
  (hch:∀b∈ch,(b∈X.ex\/X.s₀.heap.objs.size<=b)/\b≠X.env.locals/\(∀x c,X.env.cells.lookup x=some c->c≠b)/\∀p∈X.pn++pins,p.1≠b):Inv X pins σ H' s':=by
 obtain⟨h',g',d',t',o'⟩:=s';have e:o'=s.os:=ho;subst e;exact I.call (g':=g') (t':=t') (d':=d') u hok hg hch
end
abbrev XK:=Value->Option Addr->Hp->Prop
abbrev St:=List<|Option V
variable{σ:St}
abbrev VK:=V->Hp->Prop
abbrev TE:=St->Hp->VK->Prop
variable{ta tb te:TE}
abbrev TT:=St->Hp->(Bool->Hp->Prop)->Prop
variable{tc:TT}
abbrev TA:=St->Hp->(List V->Hp->Prop)->Prop
variable{t:TA}
structure ke where
 nx:St->Hp->Prop
 rt:VK
 bk:St->Hp->Prop:=λ_ _=>False
 ct:St->Hp->Prop:=λ_ _=>False
abbrev TS:=ke->St->Hp->Prop
def EP(X:Cx)(pins:List (Addr×Obj))(σ:St)(Q:VK)(u:Value)(s':Shared):Prop:=∃v H',Inv X pins σ H' s'/\RelV v u/\Q v H'
def TP(X:Cx)(pins:List (Addr×Obj))(σ:St)(Q:Bool->Hp->Prop)(b:Bool)(s':Shared):Prop:=∃H',Inv X pins σ H' s'/\Q b H'
def AP(X:Cx)(pins:List (Addr×Obj))(σ:St)(Q:List V->Hp->Prop)(us:List Value)(s':Shared):Prop:=∃vs H',Inv X pins σ H' s'/\Vals vs us/\Q vs H'
def SP(X:Cx)(pins:List (Addr×Obj))(D:ke)(f:Flow)(s':Shared):Prop:=
 match f with
 |.next=>∃σ' H',Inv X pins σ' H' s'/\D.nx σ' H'|.brk=>∃σ' H',Inv X pins σ' H' s'/\D.bk σ' H'|.cont=>∃σ' H',Inv X pins σ' H' s'/\D.ct σ' H'|.ret u=>∃v σ' H',Inv X pins σ' H' s'/\RelV v u/\D.rt v H'
def PE(X:Cx)(e:Expr)(t:TE):Prop:=
 ∀(pins:List (Addr×Obj)) (s:Shared) (σ:St) (H:Hp) (Q:VK),Inv X pins σ H s->t σ H Q->wpAny (model X.prog X.w) X.A (eval e X.env) (EP X pins σ Q) X.xe s
def PT(X:Cx)(e:Expr)(t:TT):Prop:=
 ∀(pins:List (Addr×Obj)) (s:Shared) (σ:St) (H:Hp) (Q:Bool->Hp->Prop),Inv X pins σ H s->t σ H Q->wpAny (model X.prog X.w) X.A (isTrue e X.env<|eval e X.env) (TP X pins σ Q) X.xe s
def PW(X:Cx)(e:Expr)(t:TT):Prop:=
 ∀(whole:Sem Value) (pins:List (Addr×Obj)) (s:Shared) (σ:St) (H:Hp) (Q:Bool->Hp->Prop),Inv X pins σ H s->t σ H Q->wpAny (model X.prog X.w) X.A (isTrue e X.env whole) (TP X pins σ Q) X.xe s
theorem PW.pt{t:TT}(h:PW X e t):PT X e t:=h _
def PA(X:Cx)(es:List Expr)(t:TA):Prop:=
 ∀(pos:Pos) (pins:List (Addr×Obj)) (s:Shared) (σ:St) (H:Hp) (Q:List V->Hp->Prop),Inv X pins σ H s->t σ H Q->wpAny (model X.prog X.w) X.A (spliced<|backTo pos<|starEach es X.env) (AP X pins σ Q) X.xe s
def PS(X:Cx)(st:Stmt)(t:TS):Prop:=
 ∀(pins:List (Addr×Obj)) (s:Shared) (σ:St) (H:Hp) (D:ke),Inv X pins σ H s->t D σ H->wpAny (model X.prog X.w) X.A (exec st X.env) (SP X pins D) X.xe s
def mq(X:Cx)(st:List Stmt)(t:TS):Prop:=
 ∀(pins:List (Addr×Obj)) (s:Shared) (σ:St) (H:Hp) (D:ke),Inv X pins σ H s->t D σ H->wpAny (model X.prog X.w) X.A (execs st X.env) (SP X pins D) X.xe s
theorem bL{α:Type}{t:Sem α}{Q Q':α->Shared->Prop}{M:Model}{E:Value->Shared->Prop}(h:wpAny M A t Q E s)(hQ:∀a s,Q a s->Q' a s):wpAny M A t Q' E s:=Ph h hQ λ_ _ x=>x
section
theorem OZ{a b:Expr}(ha:PE X a ta)(hb:PE X b tb){R:V->V->Hp->Prop}(I:Inv X pins σ H s)(h:ta σ H λx H1=>tb σ H1 λy H2=>R x y H2)
  {α:Type} {Q:α->Shared->Prop} {f:Value->Value->Sem α}
  (hf:∀v u s2 x y H2,Inv X pins σ H2 s2->RelV x v->RelV y u->R x y H2->wpAny (model X.prog X.w) X.A (f v u) Q X.xe s2) :
  wpAny (model X.prog X.w) X.A (eval a X.env) (λv s₁=>wpAny (model X.prog X.w) X.A (eval b X.env) (λu s₂=>wpAny (model X.prog X.w) X.A (f v u) Q X.xe s₂) X.xe s₁) X.xe s:=by
 refine bL (ha pins s σ H _ I h) λv s1 ⟨x,H1,I1,r1,q1⟩=>?_;refine bL (hb pins s1 σ H1 _ I1 q1) λu s2 ⟨y,H2,I2,r2,q2⟩=>?_;exact hf v u s2 x y H2 I2 r1 r2 q2
def qe(i:Nat):TE:=λσ H Q=>∃v,σ[i]? = some (some v)/\Q v H
def tC(v:V):TE:=λ_ H Q=>Q v H
theorem df(hN:X.N[i]? = some x)(hv:kX X.env.scope x)(hd:(x==("__debug__" : Str))=false:=by decide)(hcd:(x==("__classdict__" : Str))=false:=by decide):PE X (.Name x pos) (qe i):=by
 intro pins s σ H Q I h;obtain⟨v,e,h⟩:=h;obtain⟨m,hn,hl⟩:=I.loc;obtain⟨u,r,l⟩:=hl i x v hN e hv;have fin:EP X pins σ Q u s:=⟨v,H,I,r,h⟩;rcases l with⟨hk,hm⟩|⟨hk,c,hc,hcell⟩
 exact wpAny_Name (wpAny_loadName_local I.ok.kind hk hn hm fin) hd;rcases hk with hk|hk
 exact wpAny_Name (wpAny_loadName_cell I.ok.kind hk hc hcell fin) hd;exact wpAny_Name (wpAny_loadName_free I.ok.kind hk hc hcell fin hcd) hd
theorem kf{i j pos}:PE X (.Constant (.int i) j pos) (tC<|.int i):=λ_ _ _ H _ I h=>wpAny_Constant_int ⟨.int i,H,I.tok _,⟨_,rfl⟩,h⟩
theorem vg{b j pos}:PE X (.Constant (.bool b) j pos) (tC<|.bl b):=λ_ _ _ H _ I h=>Constant_bool ⟨.bl b,H,I,rfl,h⟩
theorem su{j pos}:PE X (.Constant .none j pos) (tC .non):=λ_ _ _ H _ I h=>Constant_none ⟨.non,H,I,rfl,h⟩
theorem sx{x j pos}:PE X (.Constant (.str x) j pos) (tC<|.str x):=λ_ _ _ H _ I h=>Calls.Constant_str ⟨.str x,H,I.tok _,⟨_,rfl⟩,h⟩
def Gl(X:Cx)(x:Str):Prop:=X.env.kindOf x=some .globalImplicit
theorem eM{E:Value->Shared->Prop}{u:Value}(I:Inv X pins σ H s)(hg:Gl X x)(hm:X.mg x=some u)(h:Q u s)
  (hd:(x==("__debug__" : Str))=false:=by decide):wpAny (model X.prog X.w) X.A (eval (.Name x pos) X.env) Q E s:=
 Calls.Name_function_global I.ok.kind hg (Calls.loadGlobal_global (by rw[I.ok.glob];exact I.mod.glob.keeps I.bk) hm h) hd
theorem eu{E:Value->Shared->Prop}{u:Value}(I:Inv X pins σ H s)(hg:Gl X x)(hm:X.mg x=none)(hv:bootBuiltins x=some u)(h:Q u s)
  (hn:x≠ "__name__" :=by decide) (hd:(x==("__debug__" : Str))=false:=by decide):wpAny (model X.prog X.w) X.A (eval (.Name x pos) X.env) Q E s:=by
 obtain⟨mb,h1,h2⟩:=I.mod.blt;exact Calls.Name_function_global I.ok.kind hg (Calls.loadGlobal_builtin (by rw[I.ok.glob];exact I.mod.glob.keeps I.bk) hm (by rw[I.ok.blt];exact h1.keeps I.bk) ((h2 x hn).trans hv) h) hd
theorem qf{u:Value}(hg:Gl X x)(hm:X.mg x=some u)(r:RelV v u)(hd:(x==("__debug__" : Str))=false:=by decide):PE X (.Name x pos) (tC v):=
 λ_ _ _ H _ I h=>eM I hg hm ⟨v,H,I,r,h⟩ hd
theorem qg{u:Value}(hg:Gl X x)(hm:X.mg x=none)(hv:bootBuiltins x=some u)(r:RelV v u)(hn:x≠ "__name__" :=by decide)(hd:(x==("__debug__" : Str))=false:=by decide):PE X (.Name x pos) (tC v):=
 λ_ _ _ H _ I h=>eu I hg hm hv ⟨v,H,I,r,h⟩ hn hd
variable{a b:Expr}
variable{tA tB':TT}{rest:List Expr}
def Bx(t u:TT):TT:=λσ H Q=>t σ H λc H1=>if c=true then u σ H1 Q else Q false H1
def IY(t u:TT):TT:=λσ H Q=>t σ H λc H1=>if c=true then Q true H1 else u σ H1 Q
def By(t:TT):TT:=λσ H Q=>t σ H λc H1=>Q (!c) H1
theorem qh(ha:PT X a tA):PW X (.BoolOp .And [a] pos) tA:=by
 intro wh pins s σ H Q I h;refine isTrue_and<|bL (ha pins s σ H Q I h) λc s1 e=>?_;cases c with
 |true=>exact isTrue_and_nil e|false=>exact e
theorem sB(ha:PT X a tA):PW X (.BoolOp .Or [a] pos) tA:=by
 intro wh pins s σ H Q I h;refine isTrue_or<|bL (ha pins s σ H Q I h) λc s1 e=>?_;cases c with
 |false=>exact isTrue_or_nil e|true=>exact e
theorem sC(ha:PT X a tA)(hb:PW X (.BoolOp .And (b::rest) pos) tB'):PW X (.BoolOp .And (a::b::rest) pos) (Bx tA tB'):=by
 intro wh pins s σ H Q I h;refine isTrue_and<|bL (ha pins s σ H _ I h) λc s1 ⟨H1,I1,q1⟩=>?_;cases c with
 |true=>exact hb wh pins s1 σ H1 Q I1 q1|false=>exact⟨H1,I1,q1⟩
theorem vh(ha:PT X a tA)(hb:PW X (.BoolOp .Or (b::rest) pos) tB'):PW X (.BoolOp .Or (a::b::rest) pos) (IY tA tB'):=by
 intro wh pins s σ H Q I h;refine isTrue_or<|bL (ha pins s σ H _ I h) λc s1 ⟨H1,I1,q1⟩=>?_;cases c with
 |true=>exact⟨H1,I1,q1⟩|false=>exact hb wh pins s1 σ H1 Q I1 q1
theorem sD(ha:PT X a tA):PT X (.UnaryOp .Not a pos) (By tA):=by intro pins s σ H Q I h;exact isTrue_not<|ha pins s σ H (λc H1=>Q (!c) H1) I h
def vj(ta tb:TE):TE:=λσ H Q=>ta σ H λx H1=>∃c,x=.bl c/\if c=true then tb σ H1 Q else Q (.bl false) H1
def vm(ta:TE):TE:=λσ H Q=>ta σ H λx H1=>∃c,x=.bl c/\Q (.bl (!c)) H1
theorem sE{op}{t:TE}(h:PE X a t):PE X (.BoolOp op [a] pos) t:=λpins s σ H Q I hw=>BoolOp_one<|h pins s σ H Q I hw
theorem sF(ha:PE X a ta)(hb:PE X (.BoolOp .And (b::rest) pos) tb):PE X (.BoolOp .And (a::b::rest) pos) (vj ta tb):=by
 intro pins s σ H Q I h;refine BoolOp_and<|bL (ha pins s σ H _ I h) λv s1 ⟨x,H1,I1,r1,q1⟩=>?_;obtain⟨c,rfl,q1⟩:=q1;cases r1;refine Pm ?_;cases c with
 |true=>exact hb pins s1 σ H1 Q I1 q1|false=>exact⟨.bl false,H1,I1,rfl,q1⟩
theorem sG(ha:PE X a ta):PE X (.UnaryOp .Not a pos) (vm ta):=by intro pins s σ H Q I h;refine UnaryOp_<|bL (ha pins s σ H _ I h) λv s1 ⟨x,H1,I1,r1,q1⟩=>?_;obtain⟨c,rfl,q1⟩:=q1;cases r1;exact not_of<|Pm ⟨.bl (!c),H1,I1,rfl,q1⟩
def IZ(t:TT)(ta tb:TE):TE:=λσ H Q=>t σ H λc H1=>if c=true then ta σ H1 Q else tb σ H1 Q
theorem mQ(hc:PT X c tA)(ha:PE X a ta)(hb:PE X b tb):PE X (.IfExp c a b pos) (IZ tA ta tb):=by
 intro pins s σ H Q I h;refine wpAny_IfExp<|bL (hc pins s σ H _ I h) λd s1 ⟨H1,I1,q1⟩=>?_;cases d with
 |true=>exact ha pins s1 σ H1 Q I1 q1|false=>exact hb pins s1 σ H1 Q I1 q1
end
def SqL(K:O3)(H:Hp)(a:Addr)(xs:List V):Prop:=
 Rd H a (.lst xs)\/
  ∃(o:Obj) (its:Array Value) (n:Nat),K.lookup a=some o/\o.cls=.type "list" /\o.dict=none/\o.data=.seq its n/\its.size<=sizeLine/\Vals xs its.toList
def SqT(K:O3)(H:Hp)(a:Addr)(xs:List V):Prop:=
 Rd H a (.tup xs)\/
  ∃(o:Obj) (its:Array Value) (n:Nat),K.lookup a=some o/\o.cls=.type "tuple" /\o.data=.seq its n/\its.size<=sizeLine/\Vals xs its.toList
noncomputable def Bz:Value->Option V
 |.none=>some .non|.bool b=>some<|.bl b
 |.int i _=>some<|.int i
 |.str x _=>some<|.str x
 |.bytes b _=>some<|.byt b
 |.float b _=>some<|.flt b
 |.ref a=>some<|.ref a
 |.type n=>some<|.ty n
 |_=>none
theorem RelV.abs{x:V}{u:Value}(r:RelV x u):Bz u=some x:=by
 cases x with
 |non=>cases r;rfl
 |bl _=>cases r;rfl
 |int _=>obtain⟨t,rfl⟩:=r;rfl
 |str _=>obtain⟨t,rfl⟩:=r;rfl
 |byt _=>obtain⟨t,rfl⟩:=r;rfl
 |flt _=>obtain⟨t,rfl⟩:=r;rfl
 |ref _=>cases r;rfl
 |ty _=>cases r;rfl
theorem RelV.inj{x y:V}{u:Value}(r:RelV x u)(q:RelV y u):x=y:=O8<|r.abs.symm.trans q.abs
theorem Vals.inj:∀{xs ys:List V} {us:List Value},Vals xs us->Vals ys us->xs=ys
 |_,_,_,.nil,.nil=>rfl|_,_,_,.cons r t,.cons r' t'=>by rw[r.inj r',Vals.inj t t']
section
variable{ys:List V}
theorem SqL.of(h:H a=some (.lst xs)):SqL K H a xs:=.inl<|.inl h
theorem SqT.of(h:H a=some (.tup xs)):SqT K H a xs:=.inl<|.inl h
theorem Inv.list(I:Inv X pins σ H s)(h:SqL X.K H a xs):∃its:List Value,Vals xs its/\PlainL s.heap a its.toArray/\xs.length<=sizeLine:=by
 rcases h with h|⟨o,its,n,hk,hc,hd,hs,hz,r⟩
 obtain⟨z,its,n,r,e⟩:=h.ok I.hok;exact⟨its,r,⟨_,n,e,rfl,rfl,rfl⟩,z⟩;refine⟨its.toList,r,⟨o,n,I.kIn a o hk,hc,hd,by simpa using hs⟩,?_⟩;have e:=r.length;simp only[yO]at e;omega
theorem Inv.tuple(I:Inv X pins σ H s)(h:SqT X.K H a xs):∃its:List Value,Vals xs its/\IsTup s.heap a its.toArray/\xs.length<=sizeLine:=by
 rcases h with h|⟨o,its,n,hk,hc,hs,hz,r⟩
 obtain⟨z,its,r,p⟩:=h.ok I.hok;exact⟨its,r,p,z⟩;refine⟨its.toList,r,⟨o,I.kIn a o hk,hc,n,by simpa using hs⟩,?_⟩;have e:=r.length;simp only[yO]at e;omega
theorem Inv.list_inj(I:Inv X pins σ H s)(h:SqL X.K H a xs)(h':SqL X.K H a ys):xs=ys:=by
 obtain⟨its,r,⟨o,n,e,_,_,d⟩,_⟩:=I.list h;obtain⟨its',r',⟨o',n',e',_,_,d'⟩,_⟩:=I.list h';rw[e]at e';cases e';rw[d]at d';injection d' with d1 _
 have:its=its':=by simpa using congrArg Array.toList d1
 subst this;exact r.inj r'
theorem Inv.tuple_inj(I:Inv X pins σ H s)(h:SqT X.K H a xs)(h':SqT X.K H a ys):xs=ys:=by
 obtain⟨its,r,⟨o,e,_,n,d⟩,_⟩:=I.tuple h;obtain⟨its',r',⟨o',e',_,n',d'⟩,_⟩:=I.tuple h';rw[e]at e';cases e';rw[d]at d';injection d' with d1 _
 have:its=its':=by simpa using congrArg Array.toList d1
 subst this;exact r.inj r'
end
noncomputable abbrev Cx.wish(X:Cx)(E:Value->Shared->Prop):Cx:={ X with xe:=E }
abbrev Cx.nox(X:Cx):Cx:=X.wish λ_ _=>False
theorem Cx.Ok.wish{X:Cx}(ok:X.Ok)(E:Value->Shared->Prop):(X.wish E).Ok:=
 ⟨ok.mod,ok.kind,ok.glob,ok.blt,ok.above,ok.inj,ok.has,ok.cab,ok.hd,ok.frames,ok.stk,ok.exf,ok.bs,ok.bsz,ok.noex,ok.exfs,ok.funs,ok.frf,ok.sys0⟩
theorem Cx.Ok.unwish{E:Value->Shared->Prop}(ok:(X.wish E).Ok):X.Ok:=
 ⟨ok.mod,ok.kind,ok.glob,ok.blt,ok.above,ok.inj,ok.has,ok.cab,ok.hd,ok.frames,ok.stk,ok.exf,ok.bs,ok.bsz,ok.noex,ok.exfs,ok.funs,ok.frf,ok.sys0⟩
section
variable{E:Value->Shared->Prop}
theorem Inv.wish(I:Inv X pins σ H s)(E:Value->Shared->Prop):Inv (X.wish E) pins σ H s:=⟨I.ok.wish E,I.os,I.bare,I.base,I.loc,I.cell,I.free,I.freeC,I.pin,I.hok,I.len⟩
theorem Inv.unwish(I:Inv (X.wish E) pins σ H s):Inv X pins σ H s:=⟨I.ok.unwish,I.os,I.bare,I.base,I.loc,I.cell,I.free,I.freeC,I.pin,I.hok,I.len⟩
theorem SP.unwish{D:ke}{f:Flow}{s':Shared}(h:SP (X.wish E) pins D f s'):SP X pins D f s':=by
 cases f with
 |next=>obtain⟨σ',H',I,q⟩:=h;exact⟨σ',H',I.unwish,q⟩
 |brk=>obtain⟨σ',H',I,q⟩:=h;exact⟨σ',H',I.unwish,q⟩
 |cont=>obtain⟨σ',H',I,q⟩:=h;exact⟨σ',H',I.unwish,q⟩
 |ret u=>obtain⟨v,σ',H',I,r,q⟩:=h;exact⟨v,σ',H',I.unwish,r,q⟩
end
section
variable{st:Stmt}{rest:List Stmt}{t u:TS}
def vn:TS:=λD σ H=>D.nx σ H
def BA(t u:TS):TS:=λD σ H=>t { D with nx:=u D } σ H
theorem qi:mq X [] vn:=λ_ _ σ H _ I h=>Px ⟨σ,H,I,h⟩
theorem jG(h1:PS X st t)(h2:mq X rest u):mq X (st::rest) (BA t u):=by
 intro pins s σ H D I h;refine wpAny_execs_cons<|bL (h1 pins s σ H { D with nx:=u D } I h) λf s1 q=>?_;cases f with
 |next=>obtain⟨σ',H',I',q⟩:=q;exact h2 pins s1 σ' H' D I' q
 |ret v=>exact q|brk=>exact q|cont=>exact q
theorem iX(h1:PS X st t):mq X [st] t:=by
 intro pins s σ H D I h;refine wpAny_execs_cons<|bL (h1 pins s σ H D I h) λf s1 q=>?_;cases f with
 |next=>exact Px q|ret v=>exact q|brk=>exact q|cont=>exact q
theorem Inv.quiet(I:Inv X pins σ H s):interactive X.env=false:=by simp[interactive,I.ok.kind]
def vo(te:TE):TS:=λD σ H=>te σ H λ_ H1=>D.nx σ H1
theorem kY(he:PE X e te)(hs:swapsWith e none pos.line X.env=pure false:=by rfl):PS X (.Expr e pos) (vo te):=by intro pins s σ H D I h;exact wpAny_Expr_any (bL (he pins s σ H _ I h) λv s1 ⟨x,H1,I1,r1,q1⟩=>⟨σ,H1,I1,q1⟩) I.quiet hs
def BB(te:TE):TS:=λD σ H=>te σ H D.rt
theorem mR(he:PE X e te):PS X (.Return (some e) pos) (BB te):=by intro pins s σ H D I h;exact wpAny_Return_some<|bL (he pins s σ H _ I h) λv s1 ⟨x,H1,I1,r1,q1⟩=>⟨x,σ,H1,I1,r1,q1⟩
def BC(c:TT)(t u:TS):TS:=λD σ H=>c σ H λb H1=>if b=true then t D σ H1 else u D σ H1
theorem vp{a b:List Stmt}(hc:PT X c tc)(ha:mq X a t)(hb:mq X b u):PS X (.If c a b pos) (BC tc t u):=by
 intro pins s σ H D I h;refine wpAny_If<|bL (hc pins s σ H _ I h) λd s1 ⟨H1,I1,q1⟩=>?_;cases d with
 |true=>exact ha pins s1 σ H1 D I1 q1|false=>exact hb pins s1 σ H1 D I1 q1
end
abbrev TG:=V->St->Hp->(St->Hp->Prop)->Prop
abbrev sH:=List V->St->Hp->(St->Hp->Prop)->Prop
def PG(X:Cx)(target:Expr)(t:TG):Prop:=
 ∀(pins:List (Addr×Obj)) (s:Shared) (σ:St) (H:Hp) (v:V) (u:Value) (Q:St->Hp->Prop),Inv X pins σ H s->RelV v u->t v σ H Q->
  wpAny (model X.prog X.w) X.A (assign target X.env u) (λ_ s'=>∃σ' H',Inv X pins σ' H' s'/\Q σ' H') X.xe s
def vq(X:Cx)(ts:List Expr)(t:sH):Prop:=
 ∀(pins:List (Addr×Obj)) (s:Shared) (σ:St) (H:Hp) (vs:List V) (us:List Value) (Q:St->Hp->Prop),Inv X pins σ H s->Vals vs us->t vs σ H Q->
  wpAny (model X.prog X.w) X.A (assignInOrder ((assignEach ts X.env).map (·.2)) us) (λ_ s'=>∃σ' H',Inv X pins σ' H' s'/\Q σ' H') X.xe s
abbrev sJ:=V->V->V->Hp->(Hp->Prop)->Prop
def vt(X:Cx)(t:sJ):Prop:=
 ∀(pins:List (Addr×Obj)) (s:Shared) (σ:St) (H:Hp) (o i v:V) (ov iv u:Value) (Q:Hp->Prop),Inv X pins σ H s->RelV o ov->RelV i iv->RelV v u->t o i v H Q->
  wpAny (model X.prog X.w) X.A (setItem ov iv u) (λ_ s'=>∃H',Inv X pins σ H' s'/\Q H') X.xe s
abbrev ze:=V->V->Hp->VK->Prop
def EJ(X:Cx)(op:Operator)(t:ze):Prop:=
 ∀(pins:List (Addr×Obj)) (s:Shared) (σ:St) (H:Hp) (x y:V) (v u:Value) (Q:VK),Inv X pins σ H s->RelV x v->RelV y u->t x y H Q->
  wpAny (model X.prog X.w) X.A (inplaceOp op v u) (EP X pins σ Q) X.xe s
section
def kZ(i:Nat):TG:=λv σ H Q=>Q (σ.set i<|some v) H
theorem qj(hN:X.N.Nodup)(hi:X.N[i]? = some x)(hx:mo X.env.scope x)(hf:X.fn x=true\/X.env.scope.names.lookup x=some .local:=by first|exact .inl rfl|exact .inr rfl|assumption):PG X (.Name x pos) (kZ i):=by intro pins s σ H v u Q I r h;exact wpAny_assign_Name<|et I hN hi hx r (λs' I'=>⟨_,H,I',h⟩) hf
def BD:sH:=λvs σ H Q=>vs=[]/\Q σ H
def vv(t:TG)(u:sH):sH:=λvs σ H Q=>∃v r,vs=v::r/\t v σ H λσ' H'=>u r σ' H' Q
theorem k6:vq X [] BD:=by intro pins s σ H vs us Q I r h;obtain⟨e,h⟩:=h;subst e;cases r;exact assignInOrder_nil ⟨σ,H,I,h⟩
theorem gM{t:TG}{u:sH}(h1:PG X e t)(h2:vq X es u)
  (hs:(assignEach (e::es) X.env).map (·.2)=assign e X.env::(assignEach es X.env).map (·.2):=by rfl):vq X (e::es) (vv t u):=by
 intro pins s σ H vs us Q I r h;obtain⟨v,vr,e1,h⟩:=h;subst e1;cases r with
 |cons r rr=>
  rw[hs];refine assignInOrder_cons<|bL (h1 pins s σ H _ _ _ I r h) λ_ s1 ⟨σ1,H1,I1,q1⟩=>?_;exact h2 pins s1 σ1 H1 _ _ Q I1 rr q1
def BE(K:O3)(n:Nat)(t:sH):TG:=λv σ H Q=>∃a xs,v=.ref a/\SqT K H a xs/\xs.length=n/\t xs σ H Q
theorem mS{t:sH}(hc:X.calm=true)(h:vq X es t)
  (hn:(assignEach es X.env).length=n:=by rfl) (hst:(assignEach es X.env).findIdx? (·.1)=none:=by rfl):PG X (.Tuple es k pos) (BE X.K n t):=by
 intro pins s σ H v u Q I r hw;obtain⟨a,xs,e1,hq,hl,hw⟩:=hw;subst e1;cases r;obtain⟨its,rv,ht,hz⟩:=I.tuple hq;refine assign_Tuple_tuple (I.ok.hd hc) ht (by simp[hn,<-hl,rv.length]) hst λh' hx=>?_;have I1:Inv X pins σ H { s with heap:=h' }:=I.kept (t':=s.toks) λb o e=>hx b o (gF<|c8 e) e;exact h pins _ σ H xs _ Q I1 (by simpa using rv) hw
def BF(to ti:TE)(t:sJ):TG:=λv σ H Q=>to σ H λo H1=>ti σ H1 λi H2=>t o i v H2 λH3=>Q σ H3
theorem iY{o i:Expr}{to ti:TE}{t:sJ}(ho:PE X o to)(hi:PE X i ti)(hs:vt X t)
  (ha:∀ v,assign (.Subscript o i pos) X.env v=(do
   let ov <-holding [v] (eval o X.env)
   let iv <-holding [v,ov] (eval i X.env)
   standAt pos
   holding [v,ov,iv] (setItem ov iv v)
   release [v,ov,iv] []):=by intro _;rfl):PG X (.Subscript o i pos) (BF to ti t):=by
 intro pins s σ H v u Q I r h;rw[ha];refine O2<|Pl (bL (ho pins s σ H _ I h) λov s1 ⟨x,H1,I1,r1,q1⟩=>?_);refine O2<|Pl (bL (hi pins s1 σ H1 _ I1 q1) λiv s2 ⟨y,H2,I2,r2,q2⟩=>?_);refine O2<|Pp (O2<|Pl<|bL (hs pins s2 σ H2 x y v ov iv u _ I2 r1 r2 r q2) λ_ s3 ⟨H3,I3,q3⟩=>?_);exact wpAny_release ⟨σ,H3,I3,q3⟩
def sK(te:TE)(g:TG):TS:=λD σ H=>te σ H λx H1=>g x σ H1 D.nx
theorem i4{g:TG}(he:PE X e te)(hg:PG X tg g)(hs:swapsWithSole [tg] e pos.line X.env=pure false:=by rfl)(hw:swappedStores [tg] e X.env=pure none:=by rfl)
  (h1:(assignEach [tg] X.env).map (·.2)=[assign tg X.env]:=by rfl):PS X (.Assign [tg] e pos) (sK te g):=by
 intro pins s σ H D I h;refine wpAny_Assign_stores (bL (he pins s σ H _ I h) λv s1 ⟨x,H1,I1,r1,q1⟩=>?_) hs hw;rw[h1];exact bL (hg pins s1 σ H1 x v _ I1 r1 q1) λ_ s2 q=>q
theorem i6(hN:X.N.Nodup)(hi:X.N[i]? = some x)(hx:mo X.env.scope x)(he:PE X e te)(hs:swapsWith e (some<|.Name x pos') pos.line X.env=pure false:=by rfl)(hf:X.fn x=true\/X.env.scope.names.lookup x=some .local:=by first|exact .inl rfl|exact .inr rfl|assumption) :
  PS X (.Assign [.Name x pos'] e pos) (sK te<|kZ i):=by
 intro pins s σ H D I h;refine wpAny_Assign_Name (bL (he pins s σ H _ I h) λv s1 ⟨y,H1,I1,r1,q1⟩=>?_) hs;exact et I1 hN hi hx r1 (λs2 I2=>⟨_,H1,I2,q1⟩) hf
def BG(i j:Nat)(ta:TA):TS:=λD σ H=>ta σ H λvs H1=>∃v w,vs=[v,w]/\D.nx ((σ.set i<|some v).set j<|some w) H1
theorem sL{y:Str}{a b:Expr}{ta:TA}{px py pt:Pos}{kt k2 pt2}(hc:X.calm=true)(hN:X.N.Nodup)(hi:X.N[i]? = some x)(hj:X.N[j]? = some y)(hij:i≠j)
  (hx:X.env.scope.names.lookup x=some .local) (hy:X.env.scope.names.lookup y=some .local) (ha:PA X [a,b] ta)
  (hw:swappedStores [.Tuple [.Name x px,.Name y py] kt pt] (.Tuple [a,b] k2 pt2) X.env=pure (some [x,y]))
  (hs:swapsWithSole [.Tuple [.Name x px,.Name y py] kt pt] (.Tuple [a,b] k2 pt2) pos.line X.env=pure false:=by rfl) :
  PS X (.Assign [.Tuple [.Name x px,.Name y py] kt pt] (.Tuple [a,b] k2 pt2) pos) (BG i j ta):=by
 intro pins s σ H D I h;rw[exec_Assign_arm];refine O2<|Pp ?_;rw[hs];refine O2<|O4 ?_;rw[if_neg<|by decide];refine O2<|Tuple_ (bL (ha _ pins s σ H _ I h) λus s1 ⟨vs,H1,I1,r1,q1⟩=>?_);obtain⟨v,w,e1,q1⟩:=q1;subst e1;obtain⟨u1,u2,rfl,rv,rw'⟩:∃u1 u2,us=[u1,u2]/\RelV v u1/\RelV w u2:=by
  cases r1 with
  |cons p q=>
   cases q with
   |cons p' q'=>
    cases q';exact⟨_,_,rfl,p,p'⟩
 refine Pg ?_ (by show 2<=sizeLine;decide);have I2:Inv X pins σ H1 { s1 with heap:=s1.heap.push { cls:=.type "tuple",data:=.seq [u1,u2].toArray } }:=I1.kept (t':=s1.toks) λb o e=>dq _ e;rw[hw];refine O2<|O4 ?_;show wpAny (model X.prog X.w) X.A (do rule "assign.swapped-stores";let items <-unpackItems (.ref s1.heap.objs.size) 2 none;assignInOrder [λv=>bindName X.env y v,λv=>bindName X.env x v] items.reverse;pure Flow.next) _ _ _;refine O2<|Py (O2<|unpackItems_tuple (items:=#[u1,u2]) (I.ok.hd hc) (IsTup.new s1.heap _) λh' hx'=>?_);have I3:=I2.kept (h':=h') (t':=s1.toks) λb o e=>hx' b o (gF<|c8 e) e;show wpAny _ _ (assignInOrder [λv=>bindName X.env y v,λv=>bindName X.env x v] [u2,u1] >>= λ_=>pure Flow.next) _ _ _;refine O2<|assignInOrder_cons (wpAny_bindName<|et I3 hN hj (.inl hy) rw' (λs2 I4=>?_)<|.inr hy);refine assignInOrder_cons<|wpAny_bindName (et I4 hN hi (.inl hx) rv (λs3 I5=>assignInOrder_nil<|O4 ?_)<|.inr hx);rw[List.set_comm _ _<|Pa hij]at I5;exact⟨_,H1,I5,q1⟩
def BH(i:Nat)(te:TE)(ti:ze):TS:=λD σ H=>∃x,σ[i]? = some (some x)/\te σ H λy H1=>ti x y H1 λz H2=>D.nx (σ.set i<|some z) H2
theorem sM{op:Operator}{ti:ze}(hN:X.N.Nodup)(hi:X.N[i]? = some x)(hx:mo X.env.scope x)(he:PE X e te)(ho:EJ X op ti)(hf:X.fn x=true\/X.env.scope.names.lookup x=some .local:=by first|exact .inl rfl|exact .inr rfl|assumption) :
  PS X (.AugAssign (.Name x pos') op e pos) (BH i te ti):=by
 intro pins s σ H D I h;obtain⟨v,e1,h⟩:=h;obtain⟨m,hn,hl⟩:=I.loc;have vis:kX X.env.scope x:=by rcases hx with k|k;exact .inl k;exact .inr<|.inl k
 obtain⟨u,r,l⟩:=hl i x v hi e1 vis;refine wpAny_AugAssign_Name ?_;have go:wpAny (model X.prog X.w) X.A (eval e X.env) (λw s₂=>wpAny (model X.prog X.w) X.A (inplaceOp op u w) (λr s₃=>wpAny (model X.prog X.w) X.A (storeName X.env x r) (λ_=>SP X pins D .next) X.xe s₃) X.xe s₂) X.xe s:=by
  refine bL (he pins s σ H _ I h) λw s1 ⟨y,H1,I1,r1,q1⟩=>?_;refine bL (ho pins s1 σ H1 v y u w _ I1 r r1 q1) λz s2 ⟨zv,H2,I2,r2,q2⟩=>?_;exact et I2 hN hi hx r2 (λs3 I3=>⟨_,H2,I3,q2⟩) hf
 rcases l with⟨hk,hm⟩|⟨hk,c,hc,hcell⟩
 .exact wpAny_loadName_local I.ok.kind hk hn hm go
 .rcases hk with hk|hk
  .exact wpAny_loadName_cell I.ok.kind hk hc hcell go
  .rcases hx with k|k
   .have:X.env.scope.names.lookup x=some .free:=hk
    rw[k]at this;cases this
   .have:X.env.scope.names.lookup x=some .free:=hk
    rw[k]at this;cases this
def I0(f:Int->Int->Int):ze:=λx y H Q=>∃i j,x=.int i/\y=.int j/\Q (.int<|f i j) H
theorem sO:EJ X .Add (I0 λi j=>i+j):=by intro pins s σ H x y v u Q I r1 r2 h;obtain⟨i,j,e1,e2,q⟩:=h;subst e1;subst e2;obtain⟨t,rfl⟩:=r1;obtain⟨t',rfl⟩:=r2;exact iadd_int ⟨.int _,H,I.tok _,⟨_,rfl⟩,q⟩
end
section
def sP(c:TT)(tb:TS):TS:=λD σ H=>∃W:Nat->St->Hp->Prop,(∃m,W m σ H)/\∀m σ H,W m σ H->
 c σ H λb H1=>if b=true then∃N:St->Hp->Prop,(∀σ' H',N σ' H'->∃m',m'<m/\W m' σ' H')/\tb { D with nx:=N,ct:=N,bk:=D.nx } σ H1 else D.nx σ H1
theorem mT{tb:TS}(hp:PassesOwn (model X.prog X.w) X.A X.env X.xe)(hc:PT X c tc)(hb:mq X body tb):PS X (.While c body [] pos) (sP tc tb):=by
 intro pins s σ H D I h;obtain⟨W,⟨m0,w0⟩,turn⟩:=h;refine wpAny_While<|codeAny_whileLoop (λn s'=>∃σ' H',Inv X pins σ' H' s'/\W n σ' H') ?_ m0 ⟨σ,H,I,w0⟩;rintro n s1 ⟨σ1,H1,I1,w1⟩;refine Pt hp<|bL (hc pins s1 σ1 H1 _ I1<|turn n σ1 H1 w1) λb s2 ⟨H2,I2,q2⟩=>?_;cases b with
 |true=>
  obtain⟨N,hN,q2⟩:=q2;rw[if_pos rfl];refine Pt hp<|bL (hb pins s2 σ1 H2 _ I2 q2) λf s3 q3=>?_;cases f with
  |next=>
   obtain⟨σ3,H3,I3,n3⟩:=q3;obtain⟨m',hm,w3⟩:=hN σ3 H3 n3;exact⟨m',hm,σ3,H3,I3,w3⟩
  |cont=>
   obtain⟨σ3,H3,I3,n3⟩:=q3;obtain⟨m',hm,w3⟩:=hN σ3 H3 n3;exact⟨m',hm,σ3,H3,I3,w3⟩
  |brk=>exact q3|ret v=>exact q3
 |false=>rw[if_neg jy];exact Px ⟨σ1,H2,I2,q2⟩
end
structure It where
 go:Nat->Hp->Prop
 yld:Nat->Hp->V->Hp->Prop
 stop:Nat->Hp->Prop
def fv(X:Cx)(pins:List (Addr×Obj))(H:Hp)(b:Addr):Prop:=
 H b=none/\b≠X.env.locals/\b∉X.fs/\(b∈X.ex\/X.s₀.heap.objs.size<=b)/\(∀x c,X.env.cells.lookup x=some c->c≠b)/\∀p∈X.pn++pins,p.1≠b
theorem Inv.fpOk(I:Inv X pins σ H s)(hb:s.heap.objs.size<=b)(hn:H' b=none):fv X pins H' b:=by
 refine⟨hn,yP<|dG I.lt hb,I.nofs hb,.inr<|hX I.sz hb,λx c e z=>?_,λp hp z=>?_⟩;obtain⟨v,q⟩:=I.cell x c e;exact O5 (dG q.lt (by rw[z];exact hb))<|iR _
 exact O5 (dG (c8 (I.pin p hp).1) (by rw[z];exact hb))<|iR _
structure jH(P:Program)(w:World)(K:O3)(tg:Expr)(J:It)(fp:List Addr)(it:Addr)(tn:Nat->Heap->Prop):Prop where
 mem:it∈fp
 obj:∀i h,tn i h->∀b∈fp,∃o,h.get? b=some o/\∀v,o.data≠.cell v
 keep:∀i h h',tn i h->(∀b∈fp,∀o,h.get? b=some o->h'.get? b=some o)->tn i h'
 item:∀(X:Cx),X.prog=P->X.w=w->X.K=K->X.calm=true->∀(i:Nat) (pins:List (Addr×Obj)) (s:Shared) (σ:St) (H:Hp) (E:Value->Shared->Prop),Inv X pins σ H s->(∀b∈fp,fv X pins H b)->tn i s.heap->J.go i H->
  wpAny (model P w) X.A (pyNext<|.ref it) (λr s1=>∃ u,r=some u/\
   wpAny (model P w) X.A (letOwnedTupleGo tg (.ref it) u) (λ_ s2=>∃x H',Inv X pins σ H' s2/\RelV x u/\J.yld i H x H'/\tn (i+1) s2.heap/\∀b∈fp,H' b=none) E s1) E s
 done:∀(X:Cx),X.prog=P->X.w=w->X.K=K->X.calm=true->∀(i:Nat) (pins:List (Addr×Obj)) (s:Shared) (σ:St) (H:Hp) (E:Value->Shared->Prop),Inv X pins σ H s->(∀b∈fp,fv X pins H b)->tn i s.heap->J.stop i H->
  wpAny (model P w) X.A (pyNext<|.ref it) (λr s1=>r=none/\Inv X pins σ H s1) E s
 self:∀(A:Around) (i:Nat) (s:Shared) (Q:Value->Shared->Prop) (E:Value->Shared->Prop),tn i s.heap->Q (.ref it) s->wpAny (model P w) A (pyIter<|.ref it) Q E s
abbrev TI:=St->Hp->(It->Hp->Prop)->Prop
def EK(X:Cx)(pins:List (Addr×Obj))(σ:St)(tg:Expr)(R:It->Hp->Prop)(itv:Value)(s2:Shared):Prop:=
 ∃(it:Addr) (fp:List Addr) (tn:Nat->Heap->Prop) (J:It) (H':Hp),itv=.ref it/\Inv X pins σ H' s2/\jH X.prog X.w X.K tg J fp it tn/\tn 0 s2.heap/\(∀b∈fp,fv X pins H' b)/\R J H'
def PI(X:Cx)(tg iter:Expr)(wi:TI):Prop:=
 ∀(pins:List (Addr×Obj)) (s:Shared) (σ:St) (H:Hp) (R:It->Hp->Prop),Inv X pins σ H s->wi σ H R->
  wpAny (model X.prog X.w) X.A (eval iter X.env) (λv s1=>wpAny (model X.prog X.w) X.A (pyIter v) (EK X pins σ tg R) X.xe s1) X.xe s
theorem mU{M:Model}{E:Value->Shared->Prop}{u:Value}{o:Obj}{n:String}{vs:Array Value}{Q:Unit->Shared->Prop}(ho:s.heap.get? it=some o)(hc:o.cls = .type n)(hd:o.data = .fields vs)
    (hn:["enumerate", "zip", "dict_itemiterator", "dict_reverseitemiterator", "odict_iterator", "itertools.zip_longest", "itertools.pairwise"].contains n=false) (hQ:Q () s):wpAny M A (letOwnedTupleGo tg (.ref it) u) Q E s:=by
  unfold letOwnedTupleGo;cases tg<;>first
    |exact O4 hQ
    | (cases u<;>first
        |exact O4 hQ
        | (refine O2 (wpAny_load ho ?_)
           rw[hc,hd];show wpAny M A (if(["enumerate", "zip", "dict_itemiterator", "dict_reverseitemiterator", "odict_iterator", "itertools.zip_longest", "itertools.pairwise"].contains n&&vs[0]? == some (rawInt _))=true then _ else _) Q E s;rw[if_neg (by intro h;rw[hn,rW]at h;cases h)];exact O4 hQ))
def EL(K:O3)(a:Addr):It:=
 ⟨λi H=>∃xs x,SqL K H a xs/\xs[i]? = some x,λi H x H'=>H'=H/\∀xs,SqL K H a xs->xs[i]? = some x,λi H=>∃xs,SqL K H a xs/\xs.length<=i⟩
def BI(K:O3)(a:Addr):It:=
 ⟨λi H=>∃xs x,SqT K H a xs/\xs[i]? = some x,λi H x H'=>H'=H/\∀xs,SqT K H a xs->xs[i]? = some x,λi H=>∃xs,SqT K H a xs/\xs.length<=i⟩
def vw(lo:Int)(n:Nat):It:=⟨λi _=>i<n,λi H x H'=>H'=H/\x=.int (lo+i),λi _=>n<=i⟩
theorem lB(a it:Addr):jH P w K tg (EL K a) [it] it (λi h=>h.IsListIter it a i) where
 mem:=by simp
 obj:=λi h st b hb=>by
  have e:b=it:=by simpa using hb
  subst e;obtain⟨o,e,c,d⟩:=st;exact⟨o,e,λv z=>by rw[d]at z;cases z⟩
 keep:=λi h h' st k=>st.at λo e=>k it (by simp) o e
 item:=by intro X hP hw hK hc i pins s σ H E I hf st hg;subst hP hw hK;obtain⟨xs,x,hq,hx⟩:=hg;obtain⟨its,rv,p,hz⟩:=I.list hq;obtain⟨u,hu,ru⟩:=rv.get hx;obtain⟨f0,f1,f2,f3,f4,f5⟩:=hf it (by simp);refine wpAny_pyNext_list_item st p.isList (x:=u) (by simpa using hu) λh' st' sb=>?_;have I1:Inv X pins σ H { s with heap:=h' }:=I.turned (t':=s.toks) (λb o hb e=>(sb.2 b hb).trans e) f0 f1 f3 f4 f5;obtain⟨o,e,c,d⟩:=id st';exact⟨u,rfl,mU (s:={ s with heap:=h' }) e c d (by decide) ⟨x,H,I1,ru,⟨rfl,λys hy=>by rw[I.list_inj hy hq];exact hx⟩,st',λb hb=>(hf b hb).1⟩⟩
 done:=by intro X hP hw hK hc i pins s σ H E I hf st hg;subst hP hw hK;obtain⟨xs,hq,hx⟩:=hg;obtain⟨its,rv,p,hz⟩:=I.list hq;obtain⟨f0,f1,f2,f3,f4,f5⟩:=hf it (by simp);have hl:=rv.length;exact wpAny_pyNext_list_end (I.ok.hd hc) st p.isList (by simp;omega) λh' eb=>⟨rfl,I.turned (t':=s.toks) (λb o hb e=>eb b o hb e) f0 f1 f3 f4 f5⟩
 self:=λ_ _ _ _ _ st h=>wpAny_pyIter_listiter st h
theorem kj(a it:Addr):jH P w K tg (BI K a) [it] it (λi h=>h.IsTupleIter it a i) where
 mem:=by simp
 obj:=λi h st b hb=>by
  have e:b=it:=by simpa using hb
  subst e;obtain⟨o,e,c,d⟩:=st;exact⟨o,e,λv z=>by rw[d]at z;cases z⟩
 keep:=λi h h' st k=>st.at λo e=>k it (by simp) o e
 item:=by intro X hP hw hK hc i pins s σ H E I hf st hg;subst hP hw hK;obtain⟨xs,x,hq,hx⟩:=hg;obtain⟨its,rv,p,hz⟩:=I.tuple hq;obtain⟨u,hu,ru⟩:=rv.get hx;obtain⟨f0,f1,f2,f3,f4,f5⟩:=hf it (by simp);refine wpAny_pyNext_tuple_item st (show s.heap.IsTuple a its.toArray from p) (x:=u) (by simpa using hu) λh' st' sb=>?_;have I1:Inv X pins σ H { s with heap:=h' }:=I.turned (t':=s.toks) (λb o hb e=>(sb.2 b hb).trans e) f0 f1 f3 f4 f5;obtain⟨o,e,c,d⟩:=id st';exact⟨u,rfl,mU (s:={ s with heap:=h' }) e c d (by decide) ⟨x,H,I1,ru,⟨rfl,λys hy=>by rw[I.tuple_inj hy hq];exact hx⟩,st',λb hb=>(hf b hb).1⟩⟩
 done:=by intro X hP hw hK hc i pins s σ H E I hf st hg;subst hP hw hK;obtain⟨xs,hq,hx⟩:=hg;obtain⟨its,rv,p,hz⟩:=I.tuple hq;obtain⟨f0,f1,f2,f3,f4,f5⟩:=hf it (by simp);have hl:=rv.length;exact wpAny_pyNext_tuple_end (I.ok.hd hc) st (show s.heap.IsTuple a its.toArray from p) (by simp;omega) λh' eb=>⟨rfl,I.turned (t':=s.toks) (λb o hb e=>eb b o hb e) f0 f1 f3 f4 f5⟩
 self:=λ_ _ _ _ _ st h=>wpAny_pyIter_tupleiter st h
theorem km(it:Addr)(lo:Int)(n:Nat):jH P w K tg (vw lo n) [it] it (λi h=>IsRangeIter h it (lo+(i:Nat)*1) ((n:Int)-(i:Nat)) 1) where
 mem:=by simp
 obj:=λi h st b hb=>by
  have e:b=it:=by simpa using hb
  subst e;exact ⟨_,st,λv z=>by
   have z':Data.fields _=Data.cell v:=z;cases z'⟩
 keep:=λi h h' st k=>k it (by simp) _ st
 item:=by intro X hP hw hK hc i pins s σ H E I hf st hg;subst hP hw hK;obtain⟨f0,f1,f2,f3,f4,f5⟩:=hf it (by simp);have W:=Walks.range (prog:=X.prog) (w:=X.w) (I.ok.hd hc) it lo 1 n;refine W.item i s _ _ hg st λv h' tk hv st' kk=>?_;obtain⟨t,rfl⟩:=hv;have I1:Inv X pins σ H { s with heap:=h',toks:=tk }:=I.turned (λb o hb e=>kk b o (by simpa using hb) e) f0 f1 f3 f4 f5;refine⟨_,rfl,mU (s:={ s with heap:=h',toks:=tk }) (n:= "range_iterator") st' rfl rfl (by decide) ⟨.int<|lo+i,H,I1,⟨t,?_⟩,⟨rfl,rfl⟩,st',λb hb=>(hf b hb).1⟩⟩;rw[Int.mul_one]
 done:=by intro X hP hw hK hc i pins s σ H E I hf st hg;subst hP hw hK;obtain⟨f0,f1,f2,f3,f4,f5⟩:=hf it (by simp);exact wpAny_pyNext_range_end (I.ok.hd hc) st (by have:n<=i:=hg;omega) λh' eb=>⟨rfl,I.turned (t':=s.toks) (λb o hb e=>eb b o hb e) f0 f1 f3 f4 f5⟩
 self:=λ_ _ _ _ _ st h=>wpAny_pyIter_rangeiter st h
section
theorem jI{R:It->Hp->Prop}{E:Value->Shared->Prop}{lo hi:Int}{t u v:Tok}{tk:Nat}(I:Inv X pins σ H s)(h1:-(2^62)<=lo)(h2:lo<2^62)(h3:-(2^62)<=hi)(h4:hi<2^62)
  (q:R (vw lo (hi-lo).toNat) H):wpAny (model X.prog X.w) X.A (pyIter<|.ref s.heap.objs.size) (EK X pins σ tg R) E { s with heap:=s.heap.push { cls:=.type "range",data:=.fields #[.int lo t,.int hi u,.int 1 v] },toks:=tk }:=by
 refine wpAny_pyIter_range (IsRange.new ..) (small_one h1 h2 h3 h4) ?_;have I1:Inv X pins σ H { s with heap:=s.heap.push { cls:=.type "range",data:=.fields #[.int lo t,.int hi u,.int 1 v] },toks:=tk }:=I.kept λb o e=>dq _ e;refine ⟨(s.heap.push { cls:=.type "range",data:=.fields #[.int lo t,.int hi u,.int 1 v] }).objs.size,[(s.heap.push { cls:=.type "range",data:=.fields #[.int lo t,.int hi u,.int 1 v] }).objs.size],_,_,H,rfl,
  I1.kept (t':=tk) λb o e=>dq _ e,km _ lo (hi-lo).toNat,?_,λb hb=>?_,q⟩
 .have e1:lo+((0:Nat):Int)*1=lo:=by simp
  have e2:(((hi-lo).toNat:Nat):Int)-((0:Nat):Int)=Builtin.Range.rangeSize lo hi 1:=by rw[rangeSize_one];split<;>omega
  show IsRangeIter _ _ (lo+((0:Nat):Int)*1) ((((hi-lo).toNat:Nat):Int)-((0:Nat):Int)) 1;rw[e1,e2];exact g9 _ rfl
 .have e:b=(s.heap.push { cls:=.type "range",data:=.fields #[.int lo t,.int hi u,.int 1 v] }).objs.size:=by simpa using hb
  subst e;exact I1.fpOk (bS _)<|I1.hok.fresh (bS _)
def vz(ta:TA):TI:=λσ H R=>ta σ H λvs H1=>∃j:Int,vs=[.int j]/\-(2^62)<=j/\j<2^62/\R (vw 0 j.toNat) H1
def vA(ta:TA):TI:=λσ H R=>ta σ H λvs H1=>∃i j:Int,vs=[.int i,.int j]/\(-(2^62)<=i/\i<2^62/\-(2^62)<=j/\j<2^62)/\R (vw i (j-i).toNat) H1
theorem lC{a:Expr}{ta:TA}(hg:Gl X "range")(hm:X.mg "range" = none)(ha:PA X [a] ta)(hs:starEach [a] X.env=[(false,eval a X.env)]:=by rfl):PI X tg (.Call (.Name "range" p) [a] [] pos) (vz ta):=by
 intro pins s σ H R I h;refine Call_<|eu I hg hm boot_range (PyProof.Rows.callWith_type1 (bL (ha pos pins s σ H _ I h) λus s1 ⟨vs,H1,I1,r1,q1⟩=>?_) hs rfl);obtain⟨j,e,q1,q2,q⟩:=q1;subst e;cases r1 with
 |cons r rr=>cases rr;obtain⟨t,rfl⟩:=r;exact call_range_1<|jI I1 (by omega) (by omega) q1 q2 (by simpa using q)
theorem lD{a b:Expr}{ta:TA}(hg:Gl X "range")(hm:X.mg "range" = none)(ha:PA X [a,b] ta)(hs:starEach [a,b] X.env=[(false,eval a X.env),(false,eval b X.env)]:=by rfl)(hs2:starEach [b] X.env=[(false,eval b X.env)]:=by rfl) :
  PI X tg (.Call (.Name "range" p) [a,b] [] pos) (vA ta):=by
 intro pins s σ H R I h;refine Call_<|eu I hg hm boot_range (PyProof.Rows.callWith_type1 (bL (ha pos pins s σ H _ I h) λus s1 ⟨vs,H1,I1,r1,q1⟩=>?_) (by rw[hs,hs2]) (by rw[hs2];rfl));obtain⟨i,j,e,⟨q1,q2,q3,q4⟩,q⟩:=q1;subst e;cases r1 with
 |cons r rr=>
  cases rr with
  |cons r' rr=>
   cases rr;obtain⟨t,rfl⟩:=r;obtain⟨t',rfl⟩:=r';exact call_range_2<|jI I1 q1 q2 q3 q4 q
def BJ(wi:TI)(g:TG)(tb:TS):TS:=λD σ H=>wi σ H λJ H1=>∃W:Nat->Nat->St->Hp->Prop,(∃m,W 0 m σ H1)/\∀i m σ H,W i m σ H->
 (J.stop i H/\D.nx σ H)\/(J.go i H/\∃N:St->Hp->Prop,(∀σ' H',N σ' H'->∃m',m'<m/\W (i+1) m' σ' H')/\∀x H',J.yld i H x H'->g x σ H' λσ2 H2=>tb { D with nx:=N,ct:=N,bk:=D.nx } σ2 H2)
def gO(fp:List Addr)(h:Heap):List (Addr×Obj):=fp.filterMap λb=>(h.get? b).map λo=>(b,o)
theorem dM{o:Obj}(hb:b∈fp)(e:h.get? b=some o):(b,o)∈gO fp h:=YaB.mpr ⟨b,hb,by rw[e];rfl⟩
theorem lE{p:Addr×Obj}(hp:p∈gO fp h):p.1∈fp/\h.get? p.1=some p.2:=by
 obtain⟨b,hb,e⟩:=YaB.mp hp;cases q:h.get? b with
 |none=>rw[q]at e;cases e
 |some o=>rw[q]at e;have e':(b,o)=p:=O8 e;subst e';exact⟨hb,q⟩
theorem Inv.pinned(I:Inv X pins σ H s)(hf:∀b∈fp,fv X pins H b)(ho:∀b∈fp,∃o,s.heap.get? b=some o/\∀v,o.data≠.cell v):Inv X (pins++gO fp s.heap) σ H s:=
 I.pins_of λp hp=>(Yap.mp hp).elim (λz=>I.pin p<|nY _ z) λz=>by
  obtain⟨hb,e⟩:=lE z;obtain⟨f0,f1,f2,_⟩:=hf p.1 hb;obtain⟨o,e',d⟩:=ho p.1 hb;rw[e]at e';cases e';exact⟨e,f0,f1,f2,d⟩
theorem Inv.unpinned{pl:List (Addr×Obj)}(I:Inv X (pins++pl) σ H s):Inv X pins σ H s:=I.pins_of λp hp=>I.pin p<|nY _ (A5 _ hp)
theorem sQ{iter:Expr}{wi:TI}{g:TG}{tb:TS}(hp:PassesOwn (model X.prog X.w) X.A X.env X.xe)(hc:X.calm=true)(hi:PI X tg iter wi)(hg:PG X tg g)(hb:mq X body tb)
  (hs:∀x,foldedSetIterable iter X.env x=pure x:=by intro _;rfl):PS X (.For tg iter body [] pos) (BJ wi g tb):=by
 intro pins s σ H D I h;refine wpAny_For (bL (hi pins s σ H _ I h) λv s1 h1=>bL h1 λitv s2 h2=>?_) hs;obtain⟨it,fp,tn,J,H2,e,I2,T,st2,f2,W,⟨m0,w0⟩,turn⟩:=h2;subst e
 have stat:∀{H':Hp},(∀b∈fp,H' b=none)->∀b∈fp,fv X pins H' b:=λhn b hb=>⟨hn b hb,(f2 b hb).2⟩;refine codeAny_forLoop_any (λn s'=>∃i σ' H',Inv X pins σ' H' s'/\tn i s'.heap/\(∀b∈fp,H' b=none)/\W i n σ' H') ?_ m0 ⟨0,σ,H2,I2,st2,λb hb=>(f2 b hb).1,w0⟩;rintro n s3 ⟨i,σ3,H3,I3,st3,fr3,w3⟩;rcases turn i n σ3 H3 w3 with⟨stop,qn⟩|⟨go,N,hN,step⟩
 .refine Pt hp (bL (T.done X rfl rfl rfl hc i pins s3 σ3 H3 X.xe I3 (stat fr3) st3 stop) λr s4 ⟨hr,I4⟩=>?_)
  subst hr;exact Px ⟨σ3,H3,I4,qn⟩
 .refine Pt hp (bL (T.item X rfl rfl rfl hc i pins s3 σ3 H3 X.xe I3 (stat fr3) st3 go) λr s4 ⟨u,hr,h4⟩=>?_)
  subst hr;refine Pt hp<|bL h4 λ_ s5 ⟨x,H5,I5,r5,y5,st5,fr5⟩=>?_;have I5':=I5.pinned (stat fr5)<|T.obj _ _ st5;refine Pt hp<|bL (hg _ s5 σ3 H5 x u _ I5' r5<|step x H5 y5) λ_ s6 ⟨σ6,H6,I6,q6⟩=>?_;refine Pt hp<|bL (hb _ s6 σ6 H6 _ I6 q6) λf s7 q7=>?_;have again:∀{σ7:St} {H7:Hp},Inv X (pins++gO fp s5.heap) σ7 H7 s7->N σ7 H7->∃m,m<n/\∃i σ' H',Inv X pins σ' H' s7/\tn i s7.heap/\(∀b∈fp,H' b=none)/\W i m σ' H':=λ{σ7 H7} I7 n7=>by
   obtain⟨m',hm,w7⟩:=hN σ7 H7 n7;refine⟨m',hm,i+1,σ7,H7,I7.unpinned,T.keep _ _ _ st5 λb hb o e=>(I7.pin (b,o)<|nY _<|nY _<|dM hb e).1,λb hb=>?_,w7⟩;obtain⟨o,e,d⟩:=T.obj _ _ st5 b hb;exact(I7.pin (b,o)<|nY _<|nY _<|dM hb e).2.1
  cases f with
  |next=>obtain⟨σ7,H7,I7,n7⟩:=q7;exact again I7 n7
  |cont=>obtain⟨σ7,H7,I7,n7⟩:=q7;exact again I7 n7
  |brk=>obtain⟨σ7,H7,I7,q7⟩:=q7;exact⟨σ7,H7,I7.unpinned,q7⟩
  |ret v=>obtain⟨x7,σ7,H7,I7,r7,q7⟩:=q7;exact⟨x7,σ7,H7,I7.unpinned,r7,q7⟩
end
abbrev R2:=V->V->Hp->VK->Prop
variable{r r':R2}
def OpR(X:Cx)(f:Value->Value->Sem Value)(r:R2):Prop:=
 ∀(pins:List (Addr×Obj)) (s:Shared) (σ:St) (H:Hp) (x y:V) (v u:Value) (Q:VK),Inv X pins σ H s->RelV x v->RelV y u->r x y H Q->
  wpAny (model X.prog X.w) X.A (f v u) (EP X pins σ Q) X.xe s
def zg(X:Cx)(f:Value->Sem Value)(r:V->Hp->VK->Prop):Prop:=
 ∀(pins:List (Addr×Obj)) (s:Shared) (σ:St) (H:Hp) (x:V) (v:Value) (Q:VK),Inv X pins σ H s->RelV x v->r x H Q->
  wpAny (model X.prog X.w) X.A (f v) (EP X pins σ Q) X.xe s
def eA(X:Cx)(f:Value)(r:List V->Hp->VK->Prop):Prop:=
 ∀(pins:List (Addr×Obj)) (s:Shared) (σ:St) (H:Hp) (xs:List V) (us:List Value) (Q:VK),Inv X pins σ H s->Vals xs us->r xs H Q->
  wpAny (model X.prog X.w) X.A (call f us) (EP X pins σ Q) X.xe s
def BK(X:Cx)(r:V->Hp->(Bool->Hp->Prop)->Prop):Prop:=
 ∀(pins:List (Addr×Obj)) (s:Shared) (σ:St) (H:Hp) (x:V) (v:Value) (Q:Bool->Hp->Prop),Inv X pins σ H s->RelV x v->r x H Q->
  wpAny (model X.prog X.w) X.A (truthy v) (TP X pins σ Q) X.xe s
def zj(r:R2)(ta tb:TE):TE:=λσ H Q=>ta σ H λx H1=>tb σ H1 λy H2=>r x y H2 Q
def Ja(r:V->Hp->VK->Prop)(ta:TE):TE:=λσ H Q=>ta σ H λx H1=>r x H1 Q
def rI(C:Int->Int->Prop)(g:Int->Int->V):R2:=λx y H Q=>∃i j,x=.int i/\y=.int j/\C i j/\Q (g i j) H
def qk(g:Int->Int->V):R2:=λx y H Q=>∃i j,x=.int i/\y=.int j/\Q (g i j) H
def rU(g:Int->V):V->Hp->VK->Prop:=λx H Q=>∃i,x=.int i/\Q (g i) H
section
variable{a b:Expr}{tc:TE}
theorem sR(ha:PE X a ta)(hb:PE X b tb){R:V->V->Hp->Prop}(I:Inv X pins σ H s)
  (h:ta σ H λx H1=>tb σ H1 λy H2=>R x y H2)
  (hf:∀v u s2 x y H2,Inv X pins σ H2 s2->RelV x v->RelV y u->R x y H2->wpAny (model X.prog X.w) X.A (f v u) Q X.xe s2) :
  wpAny (model X.prog X.w) X.A (eval a X.env) (λv s₁=>wpAny (model X.prog X.w) X.A (eval b X.env) (λu s₂=>wpAny (model X.prog X.w) X.A (f v u) Q X.xe s₂) X.xe s₁) X.xe s:=by
 refine bL (ha pins s σ H _ I h) λv s1 ⟨x,H1,I1,r1,q1⟩=>?_;refine bL (hb pins s1 σ H1 _ I1 q1) λu s2 ⟨y,H2,I2,r2,q2⟩=>?_;exact hf v u s2 x y H2 I2 r1 r2 q2
theorem mV{op:Operator}(ho:OpR X (binaryOp op) r)(ha:PE X a ta)(hb:PE X b tb):PE X (.BinOp a op b pos) (zj r ta tb):=by intro pins s σ H Q I h;exact wpAny_BinOp<|sR ha hb I h λv u s2 x y H2 I2 rx ry q=>ho pins s2 σ H2 x y v u Q I2 rx ry q
theorem rf{op:UnaryOp}{r:V->Hp->VK->Prop}(ho:zg X (unaryOp op) r)(ha:PE X a ta):PE X (.UnaryOp op a pos) (Ja r ta):=by intro pins s σ H Q I h;exact UnaryOp_<|bL (ha pins s σ H _ I h) λv s1 ⟨x,H1,I1,r1,q1⟩=>ho pins s1 σ H1 x v Q I1 r1 q1
theorem zk{C:Int->Int->Prop}
  (rule:∀(i j:Int) (t u:Tok) (s:Shared) (Q:Value->Shared->Prop) (E:Value->Shared->Prop),C i j->Q (.int (g i j) s.toks) { s with toks:=s.toks+1 }->wpAny (model X.prog X.w) X.A (f (.int i t)<|.int j u) Q E s) :
  OpR X f (rI C λi j=>.int<|g i j):=by
 intro pins s σ H x y v u Q I rx ry h;obtain⟨i,j,rfl,rfl,hc,q⟩:=h;obtain⟨t,rfl⟩:=rx;obtain⟨t',rfl⟩:=ry;exact rule i j t t' s _ _ hc ⟨.int<|g i j,H,I.tok _,⟨_,rfl⟩,q⟩
theorem vB
  (rule:∀(i j:Int) (t u:Tok) (s:Shared) (Q:Value->Shared->Prop) (E:Value->Shared->Prop),Q (.int (g i j) s.toks) { s with toks:=s.toks+1 }->wpAny (model X.prog X.w) X.A (f (.int i t)<|.int j u) Q E s) :
  OpR X f (qk λi j=>.int<|g i j):=by
 intro pins s σ H x y v u Q I rx ry h;obtain⟨i,j,rfl,rfl,q⟩:=h;obtain⟨t,rfl⟩:=rx;obtain⟨t',rfl⟩:=ry;exact rule i j t t' s _ _ ⟨.int<|g i j,H,I.tok _,⟨_,rfl⟩,q⟩
theorem ql{g:Int->Int->Bool}
  (rule:∀(i j:Int) (t u:Tok) (s:Shared) (Q:Value->Shared->Prop) (E:Value->Shared->Prop),Q (.bool<|g i j) s->wpAny (model X.prog X.w) X.A (f (.int i t)<|.int j u) Q E s) :
  OpR X f (qk λi j=>.bl<|g i j):=by
 intro pins s σ H x y v u Q I rx ry h;obtain⟨i,j,rfl,rfl,q⟩:=h;obtain⟨t,rfl⟩:=rx;obtain⟨t',rfl⟩:=ry;exact rule i j t t' s _ _ ⟨.bl<|g i j,H,I,rfl,q⟩
def sS(i j:Int):Prop:=0<=j/\j<=1000000/\i.natAbs<2^64
theorem sT:OpR X (binaryOp .Add) (qk λi j=>.int<|i+j):=vB λ_ _ _ _ _ _ _ q=>add_int q
theorem sU:OpR X (binaryOp .Sub) (qk λi j=>.int<|i-j):=vB λ_ _ _ _ _ _ _ q=>sub_int q
theorem qo:OpR X (binaryOp .Mod) (rI (λ_ j=>j≠0) λi j=>.int<|i.fmod j):=zk λ_ _ _ _ _ _ _ hc q=>mod_int' hc q
theorem sV:OpR X (binaryOp .Pow) (rI sS λi j=>.int<|i^j.toNat):=zk λ_ _ _ _ _ _ _ hc q=>pow_int_small hc.1 hc.2.1 hc.2.2 q
theorem Jb{f:Value->Sem Value}{g:Int->Int}
  (rule:∀(i:Int) (t:Tok) (s:Shared) (Q:Value->Shared->Prop) (E:Value->Shared->Prop),Q (.int (g i) s.toks) { s with toks:=s.toks+1 }->wpAny (model X.prog X.w) X.A (f<|.int i t) Q E s) :
  zg X f (rU λi=>.int<|g i):=by
 intro pins s σ H x v Q I rx h;obtain⟨i,rfl,q⟩:=h;obtain⟨t,rfl⟩:=rx;exact rule i t s _ _ ⟨.int<|g i,H,I.tok _,⟨_,rfl⟩,q⟩
theorem mW:zg X (unaryOp .USub) (rU λi=>.int (-i)):=Jb λ_ _ _ _ _ q=>neg_int q
end
noncomputable def BL:V->V->Bool
 |.non,.non=>true|.non,.int _=>true|.int _,.non=>true|.non,.bl _=>true|.bl _,.non=>true|.non,.str _=>true|.str _,.non=>true
 |.int _,.int _=>true|.bl _,.bl _=>true|.str _,.str _=>true|.byt _,.byt _=>true
 |.int _,.str _=>true|.str _,.int _=>true|.bl _,.str _=>true|.str _,.bl _=>true
 |_,_=>false
def Jc:R2:=λx y H Q=>BL x y=true/\Q (.bl (!decide (x=y))) H
theorem qp{i j:Int}:decide (V.int i=V.int j)=(i==j):=by rw[j8];simp
theorem sW{i j:Bool}:decide (V.bl i=V.bl j)=(i==j):=by rw[j8];simp
theorem qq{i j:Str}:decide (V.str i=V.str j)=(i==j):=by rw[j8];simp
theorem qr{i j:Array UInt8}:decide (V.byt i=V.byt j)=(i.toList==j.toList):=by rw[j8];cases i;cases j;simp
section
variable{a b:Expr}{tc:TE}
theorem bZ{Q:VK}{k k':Bool}(I:Inv X pins σ H s)(q:Q (.bl k) H)(e:k=k'):EP X pins σ Q (.bool k') s:=by subst e;exact⟨.bl k,H,I,rfl,q⟩
theorem vC:OpR X (compareOp .NotEq) Jc:=by
 intro pins s σ H x y v u Q I rx ry h;obtain⟨hs,q⟩:=h;cases x with
 |non=>
  cases rx;cases y with
  |non=>cases ry;exact PySem.EqNone.ne_none_none<|bZ I q (by simp)
  |bl j=>cases ry;exact PySem.EqNone.ne_none_bool<|bZ I q (by simp)
  |int j=>obtain⟨t',rfl⟩:=ry;exact PySem.EqNone.ne_none_int<|bZ I q (by simp)
  |str j=>obtain⟨t',rfl⟩:=ry;exact PySem.EqNone.ne_none_str<|bZ I q (by simp)
  |_=>exact O5 (show false=true from hs) jy
 |bl i=>
  cases rx;cases y with
  |non=>cases ry;exact PySem.EqNone.ne_bool_none<|bZ I q (by simp)
  |bl j=>cases ry;exact ne_bool<|bZ I q (congrArg not sW)
  |str j=>obtain⟨t',rfl⟩:=ry;exact PySem.EqMixed.ne_bool_str<|bZ I q (by simp)
  |_=>exact O5 (show false=true from hs) jy
 |int i=>
  obtain⟨t,rfl⟩:=rx;cases y with
  |non=>cases ry;exact PySem.EqNone.ne_int_none<|bZ I q (by simp)
  |int j=>obtain⟨t',rfl⟩:=ry;exact ne_int<|bZ I q (congrArg not qp)
  |str j=>obtain⟨t',rfl⟩:=ry;exact PySem.EqMixed.ne_int_str<|bZ I q (by simp)
  |_=>exact O5 (show false=true from hs) jy
 |str i=>
  obtain⟨t,rfl⟩:=rx;cases y with
  |non=>cases ry;exact PySem.EqNone.ne_str_none<|bZ I q (by simp)
  |bl j=>cases ry;exact PySem.EqMixed.ne_str_bool<|bZ I q (by simp)
  |int j=>obtain⟨t',rfl⟩:=ry;exact PySem.EqMixed.ne_str_int<|bZ I q (by simp)
  |str j=>obtain⟨t',rfl⟩:=ry;exact ne_str<|bZ I q (congrArg not qq)
  |_=>exact O5 (show false=true from hs) jy
 |byt i=>
  obtain⟨t,rfl⟩:=rx;cases y with
  |byt j=>obtain⟨t',rfl⟩:=ry;exact PySem.W.ne_bytes<|bZ I q (congrArg not qr)
  |_=>exact O5 (show false=true from hs) jy
 |_=>cases y<;>exact O5 (show false=true from hs) jy
theorem OpR.or(h:OpR X f r)(h':OpR X f r'):OpR X f (λx y H Q=>r x y H Q\/r' x y H Q):=by
 intro pins s σ H x y v u Q I rx ry q;rcases q with q|q
 exact h pins s σ H x y v u Q I rx ry q;exact h' pins s σ H x y v u Q I rx ry q
theorem mX(b:Expr)(h:op≠.In:=by decide)(h2:op≠.NotIn:=by decide):behindInMarks op b=false:=by
 have e1:(op==CmpOp.In)=false:=by cases op<;>first|rfl|exact O5 rfl h
 have e2:(op==CmpOp.NotIn)=false:=by cases op<;>first|rfl|exact O5 rfl h2
 cases b<;>simp[behindInMarks,e1,e2]
theorem qs(ho:OpR X (compareOp op) r)(ha:PE X a ta)(hb:PE X b tb)(hm:behindInMarks op b=false):PE X (.Compare a [op] [b] pos) (zj r ta tb):=by intro pins s σ H Q I h;exact wpAny_Compare1 (sR ha hb I h λv u s2 x y H2 I2 rx ry q=>ho pins s2 σ H2 x y v u Q I2 rx ry q) hm
def rg(t:TE):TT:=λσ H Q=>t σ H λx H'=>∃k,x=.bl k/\Q k H'
theorem qt(ho:OpR X (compareOp op) r)(ha:PE X a ta)(hb:PE X b tb)(hm:behindInMarks op b=false):PT X (.Compare a [op] [b] pos) (rg<|zj r ta tb):=by
 intro pins s σ H Q I h;refine wpAny_isTrue_Compare1 (bL (ha pins s σ H _ I h) λv s1 ⟨x,H1,I1,r1,q1⟩=>bL (hb pins s1 σ H1 _ I1 q1) λu s2 ⟨y,H2,I2,r2,q2⟩=>
  bL (ho pins s2 σ H2 x y v u _ I2 r1 r2 q2) λc s3 ⟨z,H3,I3,r3,k,e,q3⟩=>?_) hm
 subst e;cases r3;exact Pm ⟨H3,I3,q3⟩
def mY(r r':R2)(ta tb tc:TE):TE:=λσ H Q=>ta σ H λx H1=>tb σ H1 λy H2=>r x y H2 λz H3=>∃k,z=.bl k/\
 (if k=true then tc σ H3 λw' H4=>r' y w' H4 Q else Q (.bl false) H3)
theorem mZ{op':CmpOp}(ho:OpR X (compareOp op) r)(ho':OpR X (compareOp op') r')(ha:PE X a ta)(hb:PE X b tb)(hc:PE X c tc)
  (hm:lastMarks [op,op'] [b,c]=false:=by with_unfolding_all rfl):PE X (.Compare a [op,op'] [b,c] pos) (mY r r' ta tb tc):=by
 intro pins s σ H Q I h;refine Compare_chain (bL (ha pins s σ H _ I h) λv s1 ⟨x,H1,I1,r1,q1⟩=>chain_link (bL (hb pins s1 σ H1 _ I1 q1) λu s2 ⟨y,H2,I2,r2,q2⟩=>
  bL (ho pins s2 σ H2 x y v u _ I2 r1 r2 q2) λd s3 ⟨z,H3,I3,r3,k,e,q3⟩=>?_)) hm
 subst e;cases r3;refine Pm ?_;cases k with
 |false=>exact ite_ff ⟨.bl false,H3,I3,rfl,q3⟩|true=>exact ite_tt<|chain_last (bL (hc pins s3 σ H3 _ I3 q3) λw' s4 ⟨z',H4,I4,r4,q4⟩=>ho' pins s4 σ H4 y z' u w' Q I4 r2 r4 q4)
theorem m6{op':CmpOp}(ho:OpR X (compareOp op) r)(ho':OpR X (compareOp op') r')(ha:PE X a ta)(hb:PE X b tb)(hc:PE X c tc)
  (hm:lastMarks [op,op'] [b,c]=false:=by with_unfolding_all rfl):PT X (.Compare a [op,op'] [b,c] pos) (rg<|mY r r' ta tb tc):=by
 intro pins s σ H Q I h;refine isTrue_chain (bL (ha pins s σ H _ I h) λv s1 ⟨x,H1,I1,r1,q1⟩=>test_link (bL (hb pins s1 σ H1 _ I1 q1) λu s2 ⟨y,H2,I2,r2,q2⟩=>
  bL (ho pins s2 σ H2 x y v u _ I2 r1 r2 q2) λd s3 ⟨z,H3,I3,r3,k,e,q3⟩=>?_)) hm
 subst e;cases r3;refine Pm ?_;cases k with
 |false=>
  obtain⟨k',e',q'⟩:=q3;cases e';exact ite_ff ⟨H3,I3,q'⟩
 |true=>
  refine ite_tt<|test_last (bL (hc pins s3 σ H3 _ I3 q3) λw' s4 ⟨z',H4,I4,r4,q4⟩=>bL (ho' pins s4 σ H4 y z' u w' _ I4 r2 r4 q4) λd' s5 ⟨z2,H5,I5,r5,k2,e2,q5⟩=>?_);subst e2;cases r5;exact Pm ⟨H5,I5,q5⟩
def vD(K:O3)(x:V)(H:Hp)(k:Bool):Prop:=
 match x with
 |.non=>k=false|.bl b=>k=b|.int i=>k=(i != 0)|.str y=>y.length<=sizeLine/\k=((y.length:Int) != 0)|.byt y=>y.size<=sizeLine/\k=((y.size:Int) != 0)|.ref p=>(∃xs,SqL K H p xs/\k = !xs.isEmpty)\/(∃xs,SqT K H p xs/\k = !xs.isEmpty)\/∃kvs,H p=some (.dK kvs)/\k = !kvs.isEmpty|_=>False
theorem kq{kvs:List (κ×V)}{vs:List (κ×Value)}(r:KV kvs vs):(!vs.isEmpty) = !kvs.isEmpty:=by cases r<;>rfl
theorem gP{its:List Value}(r:Vals xs its):(!its.toArray.isEmpty) = !xs.isEmpty:=by cases r<;>simp
theorem fR:(sizeLine:Nat)<2^63:=by rw[sizeLine_eq];decide
theorem sX:BK X (λx H Q=>∃k,vD X.K x H k/\Q k H):=by
 intro pins s σ H x v Q I rx h;obtain⟨k,e,q⟩:=h;have hl:=fR;have hs:sizeLine=16777216:=sizeLine_eq;cases x with
 |non=>cases rx;have e':k=false:=e;subst e';exact truthy_none ⟨H,I,q⟩
 |bl b=>cases rx;have e':k=b:=e;subst e';exact Pm ⟨H,I,q⟩
 |int i=>obtain⟨t,rfl⟩:=rx;have e':k=(i != 0):=e;subst e';exact PySem.P.truthy_int ⟨H,I,q⟩
 |str y=>obtain⟨t,rfl⟩:=rx;obtain⟨hy,e'⟩:y.length<=sizeLine/\k=((y.length:Int) != 0):=e;subst e';exact PySem.P.truthy_str (by omega) ⟨H,I.tok _,q⟩
 |byt y=>obtain⟨t,rfl⟩:=rx;obtain⟨hy,e'⟩:y.size<=sizeLine/\k=((y.size:Int) != 0):=e;subst e';exact PySem.W.truthy_bytes (by omega) ⟨H,I.tok _,q⟩
 |ref p=>
  cases rx;have e':(∃xs,SqL X.K H p xs/\k = !xs.isEmpty)\/(∃xs,SqT X.K H p xs/\k = !xs.isEmpty)\/∃kvs,H p=some (.dK kvs)/\k = !kvs.isEmpty:=e;rcases e' with⟨xs,hx,e'⟩|⟨xs,hx,e'⟩|⟨kvs,hx,e'⟩
  subst e';obtain⟨its,r,pl,hz⟩:=I.list hx;have hlen:=r.length;exact wpAny_truthy_list pl.isList (by simp only[eX];omega) ⟨H,I.tok _,by rw[gP r];exact q⟩;subst e';obtain⟨its,r,pl,hz⟩:=I.tuple hx;have hlen:=r.length;exact truthy_tuple pl (by simp only[eX];omega) ⟨H,I.tok _,by rw[gP r];exact q⟩;subst e';obtain⟨hz,hS,vs,r,m⟩:kvs.length<=sizeLine/\(p==sysModules)=false/\∃vs,KV kvs vs/\s.heap.DictOf (iV X.prog X.w) p vs:=I.hok p _ hx;have hlen:kvs.length=vs.length:=Paired.length r;exact wpAny_truthy_dict hS m (by omega) ⟨H,I.tok _,by rw[kq r];exact q⟩
 |_=>exact(show False from e).elim
theorem m7(ha:PE X a ta)(he:∀whole,isTrue a X.env whole=(do let v <-whole;standAt a.pos;holding [v] (truthy v))) :
  PT X a (λσ H Q=>ta σ H λx H'=>∃k,vD X.K x H' k/\Q k H'):=by
 intro pins s σ H Q I h;exact isTrue_plain (bL (ha pins s σ H _ I h) λv s1 ⟨x,H1,I1,r1,q1⟩=>sX pins s1 σ H1 x v Q I1 r1 q1)<|he _
theorem e7{x:V}(r:Vals [x] us):∃u,us=[u]/\RelV x u:=by
 cases r with
 |cons r1 r2=>cases r2;exact⟨_,rfl,r1⟩
theorem la{x y:V}(r:Vals [x,y] us):∃u w',us=[u,w']/\RelV x u/\RelV y w':=by
 cases r with
 |cons r1 r2=>
  cases r2 with
  |cons r3 r4=>cases r4;exact⟨_,_,rfl,r1,r3⟩
theorem m8:eA X (.builtin "abs") (λxs H Q=>∃i,xs=[.int i]/\Q (.int (if i<0 then -i else i)) H):=by intro pins s σ H xs us Q I r h;obtain⟨i,rfl,q⟩:=h;obtain⟨u,rfl,t,rfl⟩:=e7 r;exact call_abs_int λu tk=>⟨.int (if i<0 then -i else i),H,I.tok _,⟨_,rfl⟩,q⟩
theorem lF(hc:X.calm=true):eA X (.builtin "max") (λxs H Q=>∃i j,xs=[.int i,.int j]/\Q (.int (if j>i then j else i)) H):=by intro pins s σ H xs us Q I r h;obtain⟨i,j,rfl,q⟩:=h;obtain⟨u,w',rfl,⟨t,rfl⟩,⟨t',rfl⟩⟩:=la r;refine max_two_ints (I.ok.hd hc) λh' tk k=>⟨_,H,I.kept k,?_,q⟩;by_cases hj:j>i;rw[if_pos hj,if_pos hj];exact⟨_,rfl⟩;rw[if_neg hj,if_neg hj];exact⟨_,rfl⟩
theorem lG:eA X (.type "int") (λxs H Q=>(∃i,xs=[.int i]/\Q (.int i) H)\/∃k,xs=[.bl k]/\Q (.int (if k then 1 else 0)) H):=by
 intro pins s σ H xs us Q I r h;rcases h with⟨i,rfl,q⟩|⟨k,rfl,q⟩
 obtain⟨u,rfl,t,rfl⟩:=e7 r;exact call_int_int ⟨.int i,H,I,⟨_,rfl⟩,q⟩;obtain⟨u,rfl,r1⟩:=e7 r;cases r1;exact call_int_bool ⟨.int (if k then 1 else 0),H,I.tok _,⟨_,rfl⟩,q⟩
end
section
variable{C:Addr}{fs:List (Str×V)}{f:Str}{E:Value->Shared->Prop}
theorem qu{env:Env}{f:Str}(hb:attributeBase e f env (eval e env)=eval e env)
  (h:wpAny (model prog w) A (eval e env) (λo s₁=>wpAny (model prog w) A (getAttr o f true) Q E s₁) E s):wpAny (model prog w) A (eval (.Attribute e f pos) env) Q E s:=
 Attribute_any_ h (by rw[arm_eval_Attribute,hb])
end
structure Room(k:Nat)(A:Around):Prop where
 hd:A.handled=none
 gd:A.guards=some []
 dp:A.depth+3*k+5<recursionLimit
 un:A.units+16*k+200<cLine
theorem Room.mono(r:Room k A)(h:j<=k):Room j A:=⟨r.hd,r.gd,by have:=r.dp;omega,by have:=r.un;omega⟩
theorem Room.deeper{k:Nat}{A:Around}(r:Room (k+1) A)(env:Env):Room k (A.deeper env):=
 ⟨r.hd,r.gd,by have:=r.dp;show A.depth+1+3*k+5<_;omega,by have:=r.un;show A.units+3+16*k+200<_;omega⟩
theorem ku{C:Addr}:(A.under<|.builtin "type.__call__" ⟨.ref C::us,kw⟩).depth=A.depth+1:=by first|rfl|simp[Around.under,Code.weight,Code.isCreation,Code.isGuard,Code.isCaller,Code.frames,Code.isFrame,guardIds]
theorem kx{C:Addr}:(A.under<|.builtin "type.__call__" ⟨.ref C::us,kw⟩).units=A.units+1:=by first|rfl|simp[Around.under,Code.cUnits,Code.frames,Code.isFrame]
theorem Room.make(r:Room (k+1) A)(C:Addr)(us:List Value)(kw:List (Str×Value)):Room k (A.under<|.builtin "type.__call__" ⟨.ref C::us,kw⟩):=
 ⟨r.hd,by first|exact r.gd|simp[Around.under,Code.weight,Code.isCreation,Code.isGuard,Code.isCaller,Code.frames,Code.isFrame,guardIds,r.gd],by have:=r.dp;rw[ku];omega,by have:=r.un;rw[kx];omega⟩
theorem Room.depth{k:Nat}{A:Around}(r:Room k A):A.depth<recursionLimit:=by have:=r.dp;omega
theorem Room.units{k:Nat}{A:Around}(r:Room k A):A.units+64<cLine:=by have:=r.un;omega
def vE:TA:=λ_ H Q=>Q [] H
def rh(ta:TE)(tr:TA):TA:=λσ H Q=>ta σ H λx H1=>tr σ H1 λxs H2=>Q (x::xs) H2
section
theorem ky:PA X [] vE:=λ_ _ _ _ H Q I h=>Calls.spliced_nil ⟨[],H,I,.nil,h⟩
theorem i7(ha:PE X e te)(hr:PA X es t)(hs:starEach (e::es) X.env=(false,eval e X.env)::starEach es X.env:=by rfl):PA X (e::es) (rh te t):=by intro pos pins s σ H Q I h;rw[hs];show wpAny _ _ (spliced ((false,eval e X.env)::backTo pos (starEach es X.env))) _ _ s;refine Calls.spliced_cons<|bL (ha pins s σ H _ I h) λu s1 ⟨x,H1,I1,r1,q1⟩=>?_;exact bL (hr pos pins s1 σ H1 _ I1 q1) λus s2 ⟨xs,H2,I2,r2,q2⟩=>⟨x::xs,H2,I2,.cons r1 r2,q2⟩
def BM(t:TA):TE:=λσ H Q=>t σ H λxs H1=>xs.length<=sizeLine/\∀p,H1 p=none->Q (.ref p) (upd H1 p<|.tup xs)
def BN(t:TA):TE:=λσ H Q=>t σ H λxs H1=>xs.length<=sizeLine/\∀p,H1 p=none->Q (.ref p) (upd H1 p<|.lst xs)
theorem sY{x1}(h:PA X es t):PE X (.Tuple es x1 pos) (BM t):=by intro pins s σ H Q I hq;refine wpAny_Tuple_spliced<|bL (h pos pins s σ H _ I hq) λus s1 ⟨xs,H1,I1,r,z,q⟩=>⟨by rw[<-r.length];exact z,?_⟩;have hf:H1 s1.heap.objs.size=none:=I1.hok.fresh<|bS _;refine⟨.ref s1.heap.objs.size,upd H1 s1.heap.objs.size<|.tup xs,I1.laid (t':=s1.toks) (λb u e=>dq _ e) (bS _) ?_,rfl,q _ hf⟩;exact⟨z,us,r,⟨_,g9 _ rfl,rfl,_,rfl⟩⟩
theorem sZ(h:PA X es t):PE X (.List es pos) (BN t):=by intro pins s σ H Q I hq;refine wpAny_List_spliced<|bL (h pos pins s σ H _ I hq) λus s1 ⟨xs,H1,I1,r,z,q⟩=>⟨by rw[<-r.length];exact z,?_⟩;have hf:H1 s1.heap.objs.size=none:=I1.hok.fresh<|bS _;refine⟨.ref s1.heap.objs.size,upd H1 s1.heap.objs.size<|.lst xs,I1.laid (t':=s1.toks) (λb u e=>dq _ e) (bS _) ?_,rfl,q _ hf⟩;exact⟨z,us,0,r,g9 _ rfl⟩
end
abbrev Sp:=List V->Hp->VK->XK->Prop
abbrev m9:=List Env->Hp->Shared->XK->Value->Shared->Prop
variable{CX:m9}
structure Env0(P:Program)(w:World)(K:O3)(mg:Str->Option Value)(base:Heap)(A:Around)(outer:List Env)(s:Shared)(H:Hp):Prop where
 frames:A.frames=some outer
 mod:Mod K mg base
 bs:∀b o,base.get? b=some o->s.heap.get? b=some o/\H b=none
 bsz:base.objs.size<=s.heap.objs.size
 funs:s.heap.FunFrames base outer
 frf:∀b∈cW outer,H b=none
 hok:HOk P w H s.heap
 bare:AllBare s.gens
 sysn:∀xs,H sysModules≠some (.lst xs)
def CE(outer:List Env)(P:Program)(w:World)(H:Hp)(s:Shared)(Q:VK)(u:Value)(s':Shared):Prop:=
 ∃v H',s'.os=s.os/\AllBare s'.gens/\Un (cW outer) [] H H' s.heap s'.heap/\HOk P w H' s'.heap/\RelV v u/\Q v H'
def CR(CX:m9)(outer:List Env)(P:Program)(w:World)(H:Hp)(s:Shared)(Q:VK)(E:XK)(r:Result)(s':Shared):Prop:=
 match r with
 |.ok (.ret u)=>CE outer P w H s Q u s'|.ok _=>False|.error e=>CX outer H s E e s'
structure eD(P:Program)(w:World)(K:O3)(mg:Str->Option Value)(base:Heap)(CX:m9)(k:Nat)(f:Addr)(fd:FuncData)(ps:List Str)(sp:Sp):Prop where
 len:∀vs H Q E,sp vs H Q E->vs.length=ps.length
 run:∀(A:Around) (outer:List Env) (s:Shared) (H:Hp) (args:Args) (us:List Value) (vs:List V) (Q:VK) (E:XK),Room k A->Env0 P w K mg base A outer s H->BindsTo s fd args (ps.zip us)->Vals vs us->sp vs H Q E->
  codeAny (model P w) A (.call (.ref f) args) (CR CX outer P w H s Q E) s
theorem Env0.make(e:Env0 P w K mg base A outer s H)(C:Addr)(us:List Value)(kw:List (Str×Value)) :
  Env0 P w K mg base (A.under<|.builtin "type.__call__" ⟨.ref C::us,kw⟩) outer s H:=⟨by first|exact e.frames|(simpa[Around.under,Code.envs,Code.isFrame,pushEnvs] using e.frames),e.mod,e.bs,e.bsz,e.funs,e.frf,e.hok,e.bare,e.sysn⟩
section
theorem Inv.env0(I:Inv X pins σ H s):Env0 X.prog X.w X.K X.mg X.base X.A X.stack s H:=
 ⟨I.ok.frames,I.ok.mod,I.bs,hX I.ok.bsz I.sz,I.stack,I.stkFree,I.hok,I.bare,I.sysn⟩
theorem Inv.after{Q:VK}{u:Value}(I:Inv X pins σ H s)(h:CE X.stack X.prog X.w H s Q u s'):EP X pins σ Q u s':=by obtain⟨v,H',os,bare,un,hok,r,q⟩:=h;obtain⟨hh,g,d,t,os'⟩:=s';obtain rfl:os'=s.os:=os;exact⟨v,H',I.call (h':=hh) (g':=g) (d':=d) (t':=t) (ch:=[]) un hok bare<|λb z=>O5 z<|by simp,r,q⟩
end
def rj(sp:Sp)(dvs:List V)(E:XK)(t:TA):TE:=λσ H Q=>t σ H λvs H1=>sp (vs++dvs) H1 Q E
def Binds(K:O3)(fd:FuncData)(ps:List Str)(ds:List Value):Prop:=
 ∀(s:Shared) (us:List Value),K.In s.heap->(us++ds).length=ps.length->BindsTo s fd ⟨us,[]⟩ (ps.zip<|us++ds)
theorem Binds.all(h:∀us:List Value,us.length=ps.length->bindArgs fd ⟨us,[]⟩=pure (ps.zip us)):Binds K fd ps []:=λs us _ hl=>by rw[rX]at hl ⊢;exact .of_eq<|h us hl
def cF(CX:m9)(X:Cx)(E:XK):Prop:=∀(pins:List (Addr×Obj)) (σ:St) (H:Hp) (s:Shared) (e:Value) (s':Shared),Inv X pins σ H s->CX X.stack H s E e s'->X.xe e s'
section
variable{f C:Addr}{sp:Sp}{dvs:List V}{ds:List Value}{E:XK}{m:Str}{apos:Pos}{o:Expr}
theorem td{Q:VK}(F:eD X.prog X.w X.K X.mg X.base CX k f fd ps sp)(hr:Room k X.A)(hb:Binds X.K fd ps ds)(hd:Vals dvs ds)(hx:cF CX X E)
  (I:Inv X pins σ H s) (r:Vals vs us) (h:sp (vs++dvs) H Q E):wpAny (model X.prog X.w) X.A (call (.ref f) us) (EP X pins σ Q) X.xe s:=by
 have r2:Vals (vs++dvs) (us++ds):=r.append hd;have hl:(us++ds).length=ps.length:=by rw[<-r2.length];exact F.len _ _ _ _ h
 refine wpAny_call<|codeAny_mono (F.run X.A X.stack s H ⟨us,[]⟩ (us++ds) (vs++dvs) Q E hr I.env0 (hb s us I.kIn hl) r2 h) λr s' hq=>?_;cases r with
 |error e=>exact hx pins σ H s e s' I hq
 |ok fl=>
  cases fl with
  |ret u=>exact I.after hq|next=>exact Pi hq|brk=>exact Pi hq|cont=>exact Pi hq
theorem lb(F:eD X.prog X.w X.K X.mg X.base CX k f fd ps sp)(hr:Room k X.A)(hg:Gl X x)(hm:X.mg x=some (.ref f))(hk:PySem.W.keepIn X.K (.ref f)=true)(hb:Binds X.K fd ps ds)(hd:Vals dvs ds)(hx:cF CX X E)
  (ha:PA X (e::es) t) (hdb:(x==("__debug__" : Str))=false:=by decide) (he:starEach (e::es) X.env=(false,eval e X.env)::starEach es X.env:=by rfl) (hpl:(backTo pos<|starEach es X.env).any (·.1)=false:=by rfl) :
  PE X (.Call (.Name x p) (e::es) [] pos) (rj sp dvs E t):=by
 intro pins s σ H Q I h;refine Pw<|eM I hg hm ?_ hdb;refine PySem.W.callWith_K (h₀:=X.base) I.ok.mod.kin hk (bL (ha pos pins s σ H _ I h) λus s1 ⟨vs,H1,I1,r,q⟩=>⟨I1.kIn,?_⟩) he hpl;exact td F hr hb hd hx I1 r q
end
structure bT(N P:List Str)(sc:Scope):Prop where
 kind:sc.kind=.function
 co:sc.isCoroutine=false
 gen:sc.isGenerator=false
 nd:N.Nodup
 pre:N.take P.length=P
 par:∀x∈P,sc.names.lookup x=some .local\/sc.names.lookup x=some .cell
 nofree:∀y∈sc.names,y.2≠.free
theorem iI{kindOf:Str->Option NameKind}{x:Str}:∀{binds:List (Str×Value)} {m:Str->Option Value},(∀v,(x,v)∉binds)->bindL kindOf binds m x=m x
 |[],_,_=>rfl
 |(n,v)::r,m,h=>by
  unfold bindL;rw[iI λw hw=>h w<|jr _ hw];split;have:x≠n:=by rintro rfl;exact h v lw
  simp[this];rfl
theorem iJ{kindOf:Str->Option NameKind}{x:Str}:∀{binds:List (Str×Value)} {m:Str->Option Value},(∀v,(x,v)∉binds)->bindC kindOf binds m x=m x
 |[],_,_=>rfl
 |(n,v)::r,m,h=>by
  unfold bindC;rw[iJ λw hw=>h w<|jr _ hw];split;rfl;have:x≠n:=by rintro rfl;exact h v lw
  simp[this]
theorem fS{kindOf:Str->Option NameKind}{x:Str}{v:Value}:∀{P:List Str} {vs:List Value} {i:Nat} {m:Str->Option Value},P.Nodup->P[i]? = some x->vs[i]? = some v->kindOf x=some .local->
  bindL kindOf (P.zip vs) m x=some v
 |[],_,_,_,_,h,_,_=>by simp at h|_::_,[],_,_,_,_,h,_=>by simp at h
 |p::P,w::vs,0,m,nd,h1,h2,hk=>by
  simp at h1 h2;subst h1;subst h2;show bindL kindOf ((p,w)::P.zip vs) m p=_;unfold bindL;rw[iI λv hv=>(YaG.mp nd).1 (u5 hv).1,if_pos hk];simp
 |p::P,w::vs,i+1,m,nd,h1,h2,hk=>by
  show bindL kindOf ((p,w)::P.zip vs) m x=_;unfold bindL;exact fS (i:=i) (YaG.mp nd).2 (by simpa using h1) (by simpa using h2) hk
theorem fT{kindOf:Str->Option NameKind}{x:Str}{v:Value}:∀{P:List Str} {vs:List Value} {i:Nat} {m:Str->Option Value},P.Nodup->P[i]? = some x->vs[i]? = some v->kindOf x≠some .local->
  bindC kindOf (P.zip vs) m x=some v
 |[],_,_,_,_,h,_,_=>by simp at h|_::_,[],_,_,_,_,h,_=>by simp at h
 |p::P,w::vs,0,m,nd,h1,h2,hk=>by
  simp at h1 h2;subst h1;subst h2;show bindC kindOf ((p,w)::P.zip vs) m p=_;unfold bindC;rw[iJ λv hv=>(YaG.mp nd).1 (u5 hv).1,if_neg hk];simp
 |p::P,w::vs,i+1,m,nd,h1,h2,hk=>by
  show bindC kindOf ((p,w)::P.zip vs) m x=_;unfold bindC;exact fT (i:=i) (YaG.mp nd).2 (by simpa using h1) (by simpa using h2) hk
noncomputable def start(N:List Str)(vs:List V):St:=vs.map some++List.replicate (N.length-vs.length) none
noncomputable def cR(CX:m9)(P:Program)(w:World)(K:O3)(mg:Str->Option Value)(base:Heap)(N:List Str)(qual:Str)(scope:Scope)(f:Addr)(cd:Value)(A:Around)(outer:List Env)(s:Shared)(H:Hp)(E:XK):Cx where
 prog:=P
 w:=w
 K:=K
 mg:=mg
 base:=base
 A:=A.deeper<|envOfC qual scope s.heap.objs.size f cd
 N:=N
 s₀:=s
 H₀:=H
 env:=envOfC qual scope s.heap.objs.size f cd
 outer:=outer
 stack:=envOfC qual scope s.heap.objs.size f cd::outer
 ex:=[]
 calm:=true
 fn:=λ_=>true
 pn:=[]
 xe:=λe s'=>wpAny (model P w) (A.deeper<|envOfC qual scope s.heap.objs.size f cd) (leaving (envOfC qual scope s.heap.objs.size f cd) e) (λ_ s''=>CX outer H s E e s'') (λe' s''=>CX outer H s E e' s'') s'
theorem eE{sc:Scope}(h:sc.names.lookup x=some .cell):∃c,(cellsFrom n sc.names []).lookup x=some c:=by have q:=PySem.W.cellsFrom_some sc.names n []<|.inl h;exact Option.isSome_iff_exists.mp q
theorem lH{f:Addr}{cd:Value}{s1:Shared}{E:XK}
  (S:bT N ps scope) (hd:A.handled=none) (e0:Env0 P w K mg base A outer s H) (hl:vs.length=ps.length) (r:Vals vs us)
  (x:InCallC s s.heap.objs.size (bindL (envOfC qual scope s.heap.objs.size f cd).kindOf (ps.zip us) λ_=>none) (cellsFrom (s.heap.objs.size+1) scope.names []) (bindC (envOfC qual scope s.heap.objs.size f cd).kindOf (ps.zip us) λ_=>none) s1) :
  Inv (cR CX P w K mg base N qual scope f cd A outer s H E) [] (start N vs) H s1:=by
 have hpl:ps.length<=N.length:=by have:=congrArg List.length S.pre;rw[gj]at this;omega
 obtain⟨h1,tk,rfl,hk⟩:=x.done;have noA:∀b:Addr,b∉(cR CX P w K mg base N qual scope f cd A outer s H E).ex:=λb z=>O5 (show b∈([]:List Addr) from z) (by simp);refine ⟨⟨e0.mod,S.kind,rfl,rfl,bS _,λy z c h1 h2=>?_,λy hy=>?_,λy c _ h=>?_,λ_=>hd,Around.frames_deeper e0.frames,.inr ⟨rfl,rfl⟩,λb z=>O5 z<|noA b,e0.bs,e0.bsz,λb _ _=>noA b,λb z=>O5 z<|noA b,e0.funs,e0.frf,e0.sysn⟩,
  rfl,e0.bare,Un.kept hk,⟨_,x.toInCall.ns,λi y v h1 h2 h3=>?_⟩,λy c h=>⟨_,x.cell y c h⟩,e0.hok.fresh<|bS _,λy c h=>?_,λp hp=>O5 (show p∈([]:List (Addr×Obj)) from hp)<|by simp,e0.hok.kept hk,?_⟩
 .exact name_of_addr x.apart (Pb h1)<|Pb h2
 .have hy:scope.names.lookup y=some .cell\/scope.names.lookup y=some .free:=hy
  rcases hy with hy|hy
  .exact eE hy
  .exact O5 rfl<|S.nofree _ (Pb hy)
 .exact pX<|x.above y c (Pb h)
 .have hi:i<vs.length:=by
   unfold start at h2
   by_cases hi:i<vs.length
   .exact hi
   .rw[jY<|by simpa using hi]at h2
    rw[mI]at h2;split at h2<;>cases h2
  have ha:vs[i]? = some v:=by
   unfold start at h2;rw[j9<|by simpa using hi,cE]at h2;cases e:vs[i]? with
   |none=>rw[e]at h2;cases h2
   |some a=>rw[e]at h2;cases h2;rfl
  obtain⟨u,hu,rv⟩:=r.get ha;have hp:ps[i]? = some y:=by
   rw[<-S.pre,A6<|by omega];exact h1
  have ndP:ps.Nodup:=by rw[<-S.pre];exact S.nd.sublist<|List.take_sublist _ _
  refine⟨u,rv,?_⟩;rcases S.par y (jz hp) with k|k
  .exact .inl ⟨k,fS ndP hp hu k⟩
  .obtain⟨c,e⟩:=eE (n:=s.heap.objs.size+1) k
   refine .inr ⟨.inl k,c,e,?_⟩;have q:=x.cell y c e;rw[fT ndP hp hu (by show scope.names.lookup y≠_;rw[k];decide)]at q;exact q
 .exact e0.hok.fresh<|pX (x.above y c<|Pb h)
 .unfold start
  show _=N.length;rw[d9,bQ,pY];omega
theorem na{f:Addr}{params:Arguments}{dV kV doc pm cdv ct oc:Value}{an od:Option Addr}
 {sp:Sp} (lk:K.lookup f=some ⟨oc,od,.func<|PySem.W.fnOf name qual params body scope dV kV doc pm an cdv ct,osl⟩) (hcd:PySem.W.codeIn K cdv qual=true) (S:bT N ps scope)
  (len:∀vs H Q E,sp vs H Q E->vs.length=ps.length)
  (hbody:∀ (A:Around) (outer:List Env) (s:Shared) (H:Hp) (vs:List V) (Q:VK) (E:XK),Room k (A.deeper<|envOfC qual scope s.heap.objs.size f cdv)->sp vs H Q E->
   ∃t,mq (cR CX P w K mg base N qual scope f cdv A outer s H E) body t/\t { nx:=λ_ H'=>Q .non H',rt:=Q } (start N vs) H) :
  eD P w K mg base CX (k+1) f (PySem.W.fnOf name qual params body scope dV kV doc pm an cdv ct) ps sp:=by
 refine⟨len,λA outer s H args us vs Q E hr e0 hb r hsp=>?_⟩;have hl:=len _ _ _ _ hsp;have KX:K.In s.heap:=e0.mod.kin.keeps λb o e=>(e0.bs b o e).1;have lim:s.heap.NoLimit:=e0.mod.nolimit.keeps λb o e=>(e0.bs b o e).1;have hkind:∀y∈ps.zip us,scope.names.lookup y.1=some .local\/(scope.names.lookup y.1=some .cell/\((cellsFrom (s.heap.objs.size+1) scope.names []).lookup y.1).isSome=true):=λ⟨n,v⟩ hy=>by
  rcases S.par n (u5 hy).1 with q|q
  .exact .inl q
  .exact .inr ⟨q,PySem.W.cellsFrom_some _ _ _<|.inl q⟩
 refine codeAny_call_function hr.depth (KX _ _ lk) rfl S.co S.gen rfl (PySem.W.codeRec_of KX hcd)<|hb _ _ _ _ ?_;refine wpAny_newFunctionEnv_cells S.kind hkind λenv he s1 x=>?_;subst he;refine⟨lim.keeps x.toInCall.keep,codeAny_func ?_⟩;obtain⟨t,ht,hq⟩:=hbody A outer s H vs Q E (hr.deeper _) hsp;have I:Inv (cR CX P w K mg base N qual scope f cdv A outer s H E) [] (start N vs) H s1:=lH S hr.hd e0 hl r x;refine Ph (ht [] s1 (start N vs) H _ I hq) (λfl s' hs=>?_) λe s' hs=>hs;have fin:∀{σ':St} {H':Hp} {v:V} {u:Value},Inv (cR CX P w K mg base N qual scope f cdv A outer s H E) [] σ' H' s'->RelV v u->Q v H'->CE outer P w H s Q u s':=
  λ{σ' H' v u} J rv q=>⟨v,H',J.os,J.bare,J.base,J.hok,rv,q⟩
 cases fl with
 |ret u=>
  obtain⟨v,σ',H',J,rv,q⟩:=hs;exact fin J rv q
 |next=>
  obtain⟨σ',H',J,q⟩:=hs;exact fin (v:=V.non) (u:=Value.none) J rfl q
 |brk=>
  obtain⟨_,_,_,q⟩:=hs;exact Pi q
 |cont=>
  obtain⟨_,_,_,q⟩:=hs;exact Pi q
section
variable{id T:String}{r:List V->Hp->VK->Prop}
def EM(r:List V->Hp->VK->Prop)(t:TA):TE:=λσ H Q=>t σ H λvs H1=>r vs H1 Q
theorem nb(hc:eA X (.builtin id) r)(hg:Gl X x)(hm:X.mg x=none)(hv:bootBuiltins x=some (.builtin id))(ha:PA X (e::es) t)(hn:x≠ "__name__" :=by decide)(hdb:(x==("__debug__" : Str))=false:=by decide)
  (he:starEach (e::es) X.env=(false,eval e X.env)::starEach es X.env:=by rfl) (hpl:(backTo pos<|starEach es X.env).any (·.1)=false:=by rfl):PE X (.Call (.Name x p) (e::es) [] pos) (EM r t):=by
 intro pins s σ H Q I h;refine Pw<|eu I hg hm hv ?_ hn hdb;exact PyProof.Rows.callWith_builtin1 (bL (ha pos pins s σ H _ I h) λus s1 ⟨vs,H1,I1,r1,q1⟩=>hc pins s1 σ H1 vs us Q I1 r1 q1) he hpl
theorem iK(hc:eA X (.type T) r)(hg:Gl X x)(hm:X.mg x=none)(hv:bootBuiltins x=some (.type T))(ha:PA X (e::es) t)(hn:x≠ "__name__" :=by decide)(hdb:(x==("__debug__" : Str))=false:=by decide)
  (he:starEach (e::es) X.env=(false,eval e X.env)::starEach es X.env:=by rfl) (hpl:(backTo pos<|starEach es X.env).any (·.1)=false:=by rfl):PE X (.Call (.Name x p) (e::es) [] pos) (EM r t):=by
 intro pins s σ H Q I h;refine Pw<|eu I hg hm hv ?_ hn hdb;exact PyProof.Rows.callWith_type1 (bL (ha pos pins s σ H _ I h) λus s1 ⟨vs,H1,I1,r1,q1⟩=>hc pins s1 σ H1 vs us Q I1 r1 q1) he hpl
end
end L2
namespace HT
open PySem PyProof.Rows
section
variable{prog:Program}{w:World}{A:Around}{E:Value->Shared->Prop}{s:Shared}
theorem cat_tup{t b:Addr}{vs ws:List Value}{Q:Value->Shared->Prop}(ht:IsTup s.heap t vs.toArray)(hb:IsTup s.heap b ws.toArray)(hv:vs≠[])
  (h1:ws=[]->Q (.ref t) s) (h2:ws≠[]->Q (.ref s.heap.objs.size) { s with heap:=s.heap.push { cls:=.type "tuple",data:=.seq (vs++ws).toArray } })
  (hsz:vs.length+ws.length<=sizeLine):wpAny (model prog w) A (binaryOp .Add (.ref t)<|.ref b) Q E s:=by
 obtain⟨⟨cls,dd,data,sl⟩,ho,hc,n,hd⟩:=id ht;obtain⟨⟨cls2,dd2,data2,sl2⟩,ho2,hc2,n2,hd2⟩:=id hb;simp only at hc hd hc2 hd2;subst hc hd hc2 hd2;have e:vs.toArray++ws.toArray=(vs++ws).toArray:=by simp
 by_cases hw:ws=[]
 .exact concat_meets ⟨_,ho,rfl⟩ ⟨_,ho2,rfl⟩ noFill_tuple_add seq_tuple_add PySem.F.slot_tuple_add PySem.F.entry_tuple_add (PySem.F.args_tuple_add_2 _ _)
   (tuple_addW1 t b vs.toArray ws.toArray n n2 dd dd2 sl sl2 (by simpa using hv)<|by simp[hw]) ⟨ho,ho2,h1 hw⟩
 .refine concat_meets ⟨_,ho,rfl⟩ ⟨_,ho2,rfl⟩ noFill_tuple_add seq_tuple_add PySem.F.slot_tuple_add PySem.F.entry_tuple_add (PySem.F.args_tuple_add_2 _ _)
   (tuple_addW2 t b vs.toArray ws.toArray n n2 dd dd2 sl sl2 (by simpa using hv) (by simpa using hw) (by rw[eX,eX];exact hsz)) ⟨ho,ho2,?_⟩
  rw[e];exact h2 hw
noncomputable def sIx(n d:Nat):Option Int->Nat
 |none=>d|some v=>if v<0 then(v+(n:Int)).toNat else min v.toNat n
theorem sIx_none(n d:Nat):sIx n d none=d:=rfl
theorem sIx_nat(n d k:Nat):sIx n d (some (k:Int))=min k n:=by show(if(k:Int)<0 then((k:Int)+(n:Int)).toNat else min (k:Int).toNat n)=min k n;rw[if_neg<|by omega,jA]
theorem tj(n d:Nat)(hd:d<=n)(o:Option Int):sIx n d o<=n:=by
 cases o with
 |none=>exact hd|some v=>show(if v<0 then(v+(n:Int)).toNat else min v.toNat n)<=n;by_cases hv:v<0;rw[if_pos hv];omega;rw[if_neg hv];exact Nat.min_le_right _ _
theorem lg(v:Int)(n d:Nat):(if v<0 then max (v+(n:Int)) 0 else min v (n:Int))=((sIx n d (some v):Nat):Int):=by show(if v<0 then max (v+(n:Int)) 0 else min v (n:Int))=(((if v<0 then(v+(n:Int)).toNat else min v.toNat n):Nat):Int);by_cases hv:v<0;simp only[if_pos hv];omega;simp only[if_neg hv];omega
theorem kz(lo hi:Option Int)(n:Nat):Builtin.Slice.sliceAdjust lo hi 1 (n:Int)=(((sIx n 0 lo:Nat):Int),((sIx n n hi:Nat):Int)):=by
 have h1:¬((1:Int)<0):=by omega
 unfold Builtin.Slice.sliceAdjust;simp only[h1,if_false];refine Prod.ext ?_ ?_;cases lo with
 |none=>rfl|some v=>exact lg v n 0
 cases hi with
 |none=>rfl|some v=>exact lg v n n
theorem kA(i j:Nat):Builtin.Slice.slicePlaces (i:Int) (j:Int) 1=j-i:=by
 unfold Builtin.Slice.slicePlaces;have h1:(1:Int)>0:=by omega
 simp only[h1,if_true,Int.ediv_one];split<;>omega
theorem gQ{v:Value}{o:Option Int}{Q:Option Int->Shared->Prop}(p:IsPart v o)(h:Q o s):wpAny (model prog w) A (Builtin.Slice.slicePartIndex v) Q E s:=by
 cases p with
 |none=>exact slicePart_none h|int i t=>exact slicePart_int h
theorem dJ{sl:Addr}{vl vu:Value}{lo hi:Option Int}{n:Nat}{Q:Int×Int×Nat->Shared->Prop}(hs:s.heap.IsSliceOf sl vl vu .none)(pl:IsPart vl lo)(pu:IsPart vu hi)
  (h:Q (((sIx n 0 lo:Nat):Int),1,sIx n n hi-sIx n 0 lo) s):wpAny (model prog w) A (Builtin.Slice.sliceApplied (.ref sl)<|pure (n:Int)) Q E s:=by
 obtain⟨os,hos,hcs,hds⟩:=id hs;unfold Builtin.Slice.sliceApplied Builtin.Slice.sliceFields;refine O2<|O2 (Pd hos hds (x:=vl) rfl<|O2<|Pd hos hds (x:=vu) rfl<|O2<|Pd hos hds (x:=.none) rfl<|O4 ?_);refine O2<|slicePart_none ?_;show wpAny _ _ (if((1:Int)==0)=true then _ else _) _ _ s;rw[if_neg<|by decide];refine O2<|gQ pl (O2<|gQ pu<|O2<|O4 ?_);show wpAny _ _ (match Builtin.Slice.sliceAdjust lo hi 1 (n:Int) with|(lo,hi)=>pure (lo,(1:Int),Builtin.Slice.slicePlaces lo hi 1)) _ _ s;rw[kz lo hi n];show wpAny _ _ (pure (((sIx n 0 lo:Nat):Int),(1:Int),Builtin.Slice.slicePlaces ((sIx n 0 lo:Nat):Int) ((sIx n n hi:Nat):Int) 1)) _ _ s;rw[kA];exact O4 h
theorem nc(xs:Array Value)(i k:Nat):((List.range k).filterMap λ(m:Nat)=>xs[((i:Int)+(m:Int)*1).toNat]?).toArray=((xs.toList.drop i).take k).toArray:=by
 have e:(λ(m:Nat)=>xs[((i:Int)+(m:Int)*1).toNat]?)=λm=>xs[i+m]?:=by
  funext m;have:((i:Int)+(m:Int)*1).toNat=i+m:=by omega
  rw[this]
 rw[e];have:=pick_run xs i k;rw[List.filterMap_map]at this;have e2:((λx=>xs[x]?)∘λx=>i+x)=λm=>xs[i+m]?:=rfl;rw[e2]at this;rw[this]
theorem getItem_tuple_cut{t sl:Addr}{items:Array Value}{vl vu:Value}{lo hi:Option Int}{Q:Value->Shared->Prop}(ht:IsTup s.heap t items)(hs:s.heap.IsSliceOf sl vl vu .none)(pl:IsPart vl lo)(pu:IsPart vu hi)
  (hw:¬(sIx items.size 0 lo=0/\sIx items.size items.size hi=items.size))
  (h:Q (.ref s.heap.objs.size) { s with heap:=s.heap.push { cls:=.type "tuple",data:=.seq ((items.toList.drop<|sIx items.size 0 lo).take<|sIx items.size items.size hi-sIx items.size 0 lo).toArray } })
  (hsz:items.size<=sizeLine):wpAny (model prog w) A (getItem (.ref t)<|.ref sl) Q E s:=by
 have htake:sizeOk (.seq ((items.toList.drop<|sIx items.size 0 lo).take<|sIx items.size items.size hi-sIx items.size 0 lo).toArray):=by
  show((items.toList.drop<|sIx items.size 0 lo).take<|sIx items.size items.size hi-sIx items.size 0 lo).toArray.size<=sizeLine;rw[eX,gj,iD,yO];omega
 have hj:sIx items.size items.size hi<=items.size:=tj _ _ (bS _) hi;obtain⟨os,hos,hcs,hds⟩:=id hs;have hTs:s.TypeIs (.ref sl) "slice" :=⟨os,hos,hcs⟩
 unfold getItem
 try with_reducible refine Pl ?_
 first|refine O2 (O4 ?_)|skip
 refine O2<|wpAny_sequenceKey ht.typeIs (by decide) ?_;refine O2 (wpAny_callSpecial?_slot (name:=Str.ofString "__getitem__") ht.typeIs PyProof.Rows.slot_tuple_getitem
  (Pq PyProof.Rows.slot_tuple_getitem ht.typeIs entry_tuple_getitem ?_<|args_tuple_getitem _ _))
 show wpAny _ _ (Builtin.Tuple.tupleItemsOf (.ref t) >>= _) _ _ s;refine O2<|tupleItemsOf_ ht ?_;refine O2<|PC hTs ?_;rw[if_pos<|by decide];refine O2<|dJ hs pl pu ?_;have hno:¬((((sIx items.size 0 lo:Nat):Int)==0&&(1:Int)==1&&(sIx items.size items.size hi-sIx items.size 0 lo)==items.size)=true):=by
  intro q;rw[cV,cV]at q;have q1:((sIx items.size 0 lo:Nat):Int)=0:=eq_of_beq q.1.1;have q2:sIx items.size items.size hi-sIx items.size 0 lo=items.size:=eq_of_beq q.2;exact hw ⟨by omega,by omega⟩
 show wpAny _ _ (if(((sIx items.size 0 lo:Nat):Int)==0&&(1:Int)==1&&(sIx items.size items.size hi-sIx items.size 0 lo)==items.size)=true then _ else _) _ _ s;rw[if_neg hno,nc]
 first
  |exact O2 (m:=Builtin.Tuple.tupleExact _)<|Pg (O4 ⟨_,rfl,O4 h⟩) htake
  |exact O2 (m:=Builtin.Tuple.tupleExact _)<|Pg (O2<|O4<|O4 ⟨_,rfl,O4 h⟩) htake
  |exact O2<|O2 (m:=Builtin.Tuple.tupleExact _) (Pg (O4<|O4 ⟨_,rfl,O4 h⟩) htake)
  |exact O2<|O2 (m:=Builtin.Tuple.tupleExact _) (Pg (O4 ⟨_,rfl,O4 h⟩) htake)
end
end HT
namespace L2
open PySem PySem.Spec PyProof.Rows
variable{X:Cx}{e:Expr}{pos:Pos}{r:V->Option Int->Option Int->Hp->VK->Prop}{xs:List V}{n j t':Nat}{i:Int}{v:Value}{pins:List (Addr×Obj)}{σ:St}{H:Hp}{s:Shared}{its':List Value}{f:Array Value->Array Value}{A:Around}{x:V}{T:String}
abbrev TO:=St->Hp->(Option Int->Hp->Prop)->Prop
def PO(X:Cx)(e:Option Expr)(t:TO):Prop:=
 ∀(pins:List (Addr×Obj)) (s:Shared) (σ:St) (H:Hp) (Q:Option Int->Hp->Prop),Inv X pins σ H s->t σ H Q->
  wpAny (model X.prog X.w) X.A (evalPart e X.env) (λu s'=>∃o H',Inv X pins σ H' s'/\IsPart u o/\Q o H') X.xe s
def qv:TO:=λ_ H Q=>Q none H
def vF(t:TE):TO:=λσ H Q=>t σ H λx H1=>∃i,x=.int i/\Q (some i) H1
section
variable{te:TE}{lo hi:Option Expr}{tl th:TO}{p2:Pos}
theorem qw:PO X none qv:=by intro pins s σ H Q I h;rw[evalPart_none];exact O4 ⟨none,H,I,.none,h⟩
theorem qx(h:PE X e te):PO X (some e) (vF te):=by intro pins s σ H Q I hw;rw[evalPart_some];refine bL (h pins s σ H _ I hw) λu s1 ⟨x,H1,I1,r1,q1⟩=>?_;obtain⟨i,rfl,q⟩:=q1;obtain⟨t,rfl⟩:=r1;exact⟨some i,H1,I1,.int i t,q⟩
def SlR(X:Cx)(r:V->Option Int->Option Int->Hp->VK->Prop):Prop:=
 ∀(pins:List (Addr×Obj)) (s:Shared) (σ:St) (H:Hp) (x:V) (v vl vu:Value) (lo hi:Option Int) (sl:Addr) (Q:VK),Inv X pins σ H s->RelV x v->s.heap.IsSliceOf sl vl vu .none->IsPart vl lo->IsPart vu hi->r x lo hi H Q->
  ∃T id,typeLookup (.type T) "__getitem__" = pure (some<|.builtin id)/\s.TypeIs v T/\wpAny (model X.prog X.w) X.A (getItem v<|.ref sl) (EP X pins σ Q) X.xe s
theorem SlR.or{r':V->Option Int->Option Int->Hp->VK->Prop}(h:SlR X r)(h':SlR X r'):SlR X (λx lo hi H Q=>r x lo hi H Q\/r' x lo hi H Q):=by
 intro pins s σ H x v vl vu lo hi sl Q I rx hs pl pu q;rcases q with q|q
 exact h pins s σ H x v vl vu lo hi sl Q I rx hs pl pu q;exact h' pins s σ H x v vl vu lo hi sl Q I rx hs pl pu q
def Jd(r:V->Option Int->Option Int->Hp->VK->Prop)(te:TE)(tl th:TO):TE:=λσ H Q=>te σ H λx H1=>tl σ H1 λl H2=>th σ H2 λu H3=>r x l u H3 Q
theorem nh(hr:SlR X r)(he:PE X e te)(hl:PO X lo tl)(hu:PO X hi th):PE X (.Subscript e (.Slice lo hi none p2) pos) (Jd r te tl th):=by intro pins s σ H Q I h;refine Subscript_<|bL (he pins s σ H _ I h) λv s1 ⟨x,H1,I1,r1,q1⟩=>?_;refine wpAny_Slice<|bL (hl pins s1 σ H1 _ I1 q1) λvl s2 ⟨l,H2,I2,pl,q2⟩=>bL (hu pins s2 σ H2 _ I2 q2) λvu s3 ⟨u,H3,I3,pu,q3⟩=>?_;rw[evalPart_none];refine O4 ?_;have I4:Inv X pins σ H3 { s3 with heap:=s3.heap.push { cls:=.type "slice",data:=.fields #[vl,vu,.none] } }:=I3.kept (t':=s3.toks) λb ob q=>dq _ q;obtain⟨T,id,hT,ht,hg⟩:=hr pins { s3 with heap:=s3.heap.push { cls:=.type "slice",data:=.fields #[vl,vu,.none] } } σ H3 x v vl vu l u s3.heap.objs.size Q I4 r1 (Heap.IsSliceOf.new ..) pl pu q3;show wpAny (model X.prog X.w) X.A (subscriptTail e (.Slice lo hi none p2) v<|.ref s3.heap.objs.size) (EP X pins σ Q) X.xe { s3 with heap:=s3.heap.push { cls:=.type "slice",data:=.fields #[vl,vu,.none] } };exact tail_any (ops:=[.ref s3.heap.objs.size,v]) ht hT hg (by with_unfolding_all rfl)
def jJ(xs:List V)(lo hi:Option Int):List V:=(xs.drop<|HT.sIx xs.length 0 lo).take<|HT.sIx xs.length xs.length hi-HT.sIx xs.length 0 lo
theorem f7(xs:List V)(lo hi:Option Int):(jJ xs lo hi).length<=xs.length:=by unfold jJ;rw[gj,iD];omega
def BO(K:O3):V->Option Int->Option Int->Hp->VK->Prop:=λx lo hi H Q=>∃a xs,x=.ref a/\SqT K H a xs/\
 ¬(HT.sIx xs.length 0 lo=0/\HT.sIx xs.length xs.length hi=xs.length)/\∀p,H p=none->Q (.ref p) (upd H p<|.tup<|jJ xs lo hi)
theorem sl_tup:SlR X (BO X.K):=by
 intro pins s σ H x v vl vu lo hi sl Q I rx hs pl pu h;obtain⟨a,xs,rfl,hx,hw,q⟩:=h;cases rx;obtain⟨its,r,ht,hz⟩:=I.tuple hx;have hlen:its.toArray.size=xs.length:=by rw[eX];exact r.length.symm
 refine⟨"tuple",_,PyProof.Rows.slot_tuple_getitem.lookup,ht.typeIs,?_⟩;refine HT.getItem_tuple_cut ht hs pl pu (by rw[hlen];exact hw) ?_ (by rw[hlen];exact hz);rw[hlen];refine⟨.ref s.heap.objs.size,_,I.laid (t':=s.toks) (o:=.tup<|jJ xs lo hi) (λb ob q=>dq _ q) (bS _) ?_,rfl,q _<|I.hok.fresh<|bS _⟩;exact⟨hX (f7 xs lo hi) hz,_,(r.drop<|HT.sIx xs.length 0 lo).take<|HT.sIx xs.length xs.length hi-HT.sIx xs.length 0 lo,IsTup.new _ _⟩
def vG(K:O3):R2:=λx y H Q=>∃a b xs ys,x=.ref a/\y=.ref b/\SqT K H a xs/\SqT K H b ys/\xs≠[]/\xs.length+ys.length<=sizeLine/\
 (ys=[]->Q (.ref a) H)/\(ys≠[]->∀p,H p=none->Q (.ref p) (upd H p<|.tup<|xs++ys))
theorem Vals.nil_iff{us:List Value}(r:Vals xs us):us=[]↔xs=[]:=by
 cases r with
 |nil=>simp|cons _ _=>simp
theorem qy:OpR X (binaryOp .Add) (vG X.K):=by intro pins s σ H x y v u Q I rx ry h;obtain⟨a,b,xs,ys,rfl,rfl,ha,hb,hx,hz,q1,q2⟩:=h;cases rx;cases ry;obtain⟨its,r1,p1,_⟩:=I.tuple ha;obtain⟨its2,r2,p2,_⟩:=I.tuple hb;refine HT.cat_tup p1 p2 (λz=>hx<|r1.nil_iff.mp z) (λz=>⟨.ref a,H,I,rfl,q1<|r2.nil_iff.mp z⟩) (λz=>?_) (by rw[<-r1.length,<-r2.length];exact hz);refine⟨.ref s.heap.objs.size,_,I.laid (t':=s.toks) (o:=.tup<|xs++ys) (λb ob q=>dq _ q) (bS _) ?_,rfl,q2 (λw=>z<|r2.nil_iff.mpr w) _<|I.hok.fresh<|bS _⟩;exact⟨by rw[d9];exact hz,_,r1.append r2,IsTup.new _ _⟩
end
noncomputable def jK(n:Nat)(i:Int):Option Nat:=if 0<=i then(if i<n then some i.toNat else none) else if -(n:Int)<=i then some (i+n).toNat else none
def dN{α:Type}(xs:List α)(i:Int):Option α:=(jK xs.length i).bind λj=>xs[j]?
theorem lh(h:jK n i=some j):seqIndex? i n=some j/\j<n/\-(n:Int)<=i/\i<n:=by unfold jK at h;by_cases h0:0<=i;rw[if_pos h0]at h;by_cases h1:i<n;rw[if_pos h1]at h;have e:i.toNat=j:=O8 h;exact⟨by rw[seqIndex_of h0 h1,e],by omega,by omega,h1⟩;rw[if_neg h1]at h;cases h;rw[if_neg h0]at h;by_cases h1:-(n:Int)<=i;rw[if_pos h1]at h;have e:(i+n).toNat=j:=O8 h;exact⟨by rw[seqIndex_neg (by omega) h1,e],by omega,h1,by omega⟩;rw[if_neg h1]at h;cases h
theorem i8{α:Type}{xs:List α}{v:α}(h:dN xs i=some v):∃j,seqIndex? i xs.length=some j/\xs[j]? = some v/\j<xs.length/\-(xs.length:Int)<=i/\i<xs.length:=by
 unfold dN at h;cases e:jK xs.length i with
 |none=>rw[e]at h;cases h
 |some j=>rw[e]at h;obtain⟨h1,h2,h3,h4⟩:=lh e;exact⟨j,h1,h,h2,h3,h4⟩
theorem bE{α:Type}{xs:List α}{v:α}(h:xs[j]? = some v):dN xs (j:Int)=some v:=by
 have hj:j<xs.length:=(Yar.mp h).1;have e:jK xs.length (j:Int)=some j:=by unfold jK;rw[if_pos<|by omega,if_pos<|by omega];simp
 unfold dN;rw[e];exact h
theorem nq{α:Type}(xs:List α)(v:α):dN (xs++[v]) (-1)=some v:=by
 have hl:(xs++[v]).length=xs.length+1:=by simp
 have e:jK (xs++[v]).length (-1)=some xs.length:=by unfold jK;rw[hl,if_neg<|by decide,if_pos<|by omega];congr 1;omega
 unfold dN;rw[e];show(xs++[v])[xs.length]? = some v;simp
def i9(b:Expr):Prop:=∀o i,subscripted b false o i=operate [o,i] (getItem o i)
def IxR(X:Cx)(r:R2):Prop:=
 ∀(value slice:Expr) (pins:List (Addr×Obj)) (s:Shared) (σ:St) (H:Hp) (x y:V) (v u:Value) (Q:VK),Inv X pins σ H s->RelV x v->RelV y u->r x y H Q->
  subscripted slice false v u=operate [v,u] (getItem v u)->wpAny (model X.prog X.w) X.A (subscriptTail value slice v u) (EP X pins σ Q) X.xe s
def BP(X:Cx)(id:String)(r:V->List V->Hp->VK->Prop):Prop:=
 ∀(pins:List (Addr×Obj)) (s:Shared) (σ:St) (H:Hp) (x:V) (xs:List V) (v:Value) (us:List Value) (Q:VK),Inv X pins σ H s->RelV x v->Vals xs us->r x xs H Q->
  wpAny (model X.prog X.w) X.A (call (.builtin id) (v::us)) (EP X pins σ Q) X.xe s
section
variable{a b:Expr}{ta tb:TE}
theorem IxR.or{r r':R2}(h:IxR X r)(h':IxR X r'):IxR X (λx y H Q=>r x y H Q\/r' x y H Q):=by
 intro value slice pins s σ H x y v u Q I rx ry q hs;rcases q with q|q
 exact h value slice pins s σ H x y v u Q I rx ry q hs;exact h' value slice pins s σ H x y v u Q I rx ry q hs
theorem rm{r:R2}(hr:IxR X r)(ha:PE X a ta)(hb:PE X b tb)(hs:i9 b):PE X (.Subscript a b pos) (zj r ta tb):=by intro pins s σ H Q I h;exact Subscript_<|sR ha hb I h λv u s2 x y H2 I2 rx ry q=>hr a b pins s2 σ H2 x y v u Q I2 rx ry q (hs _ _)
def vH(K:O3):R2:=λx y H Q=>∃p xs i v,x=.ref p/\y=.int i/\SqL K H p xs/\dN xs i=some v/\Q v H
def vI(K:O3):R2:=λx y H Q=>∃p xs i v,x=.ref p/\y=.int i/\SqT K H p xs/\dN xs i=some v/\Q v H
def vJ:R2:=λx y H Q=>∃z i c,x=.str z/\y=.int i/\z.length<=sizeLine/\dN z.cps.toList i=some c/\Q (.str ⟨#[c]⟩) H
theorem ix_list:IxR X (vH X.K):=by
 intro value slice pins s σ H x y v u Q I rx ry h hs;obtain⟨p,xs,i,z,rfl,rfl,hq,he,q⟩:=h;cases rx;obtain⟨t,rfl⟩:=ry;obtain⟨its,r,pl,hz⟩:=I.list hq;obtain⟨j,h1,h2,h3,h4,h5⟩:=i8 he;obtain⟨w,ew,rw'⟩:=r.get h2;have hl:=r.length;have hn:=fR;have fin:EP X pins σ Q w s:=⟨z,H,I,rw',q⟩;by_cases h0:0<=i;have hj:i.toNat=j:=by rw[seqIndex_of h0 h5]at h1;exact O8 h1
 exact item_listR pl.isList h0 (by omega) (by rw[hj];simpa using ew) fin hs;have hj:(i+(its.toArray.size:Int)).toNat=j:=by rw[seqIndex_neg (by omega) h4]at h1;rw[eX,<-hl];exact O8 h1
 exact subscriptTail_builtinR (x:=w) pl.isList.typeIs slot_list_getitem.lookup
  (wpAny_getItem_list_neg (Q:=λr s'=>r=w/\EP X pins σ Q r s') pl.isList (by omega) (by rw[eX]<;>omega) (by omega) (by rw[hj];simpa using ew) ⟨rfl,fin⟩) hs
theorem ix_tup:IxR X (vI X.K):=by
 intro value slice pins s σ H x y v u Q I rx ry h hs;obtain⟨p,xs,i,z,rfl,rfl,hq,he,q⟩:=h;cases rx;obtain⟨t,rfl⟩:=ry;obtain⟨its,r,pl,hz⟩:=I.tuple hq;obtain⟨j,h1,h2,h3,h4,h5⟩:=i8 he;obtain⟨w,ew,rw'⟩:=r.get h2;have hl:=r.length;have hn:=fR;have fin:EP X pins σ Q w s:=⟨z,H,I,rw',q⟩;exact subscriptTail_builtinR (x:=w) pl.typeIs slot_tuple_getitem.lookup
  (getItem_tuple (j:=j) (Q:=λr s'=>r=w/\EP X pins σ Q r s') pl (by omega) (by omega) (by rw[eX,<-hl];exact h1) (by simpa using ew) ⟨rfl,fin⟩) hs
theorem tm:IxR X vJ:=by
 intro value slice pins s σ H x y v u Q I rx ry h hs;obtain⟨z,i,c,rfl,rfl,hz,he,q⟩:=h;obtain⟨t,rfl⟩:=rx;obtain⟨t',rfl⟩:=ry;obtain⟨j,h1,h2,h3,h4,h5⟩:=i8 he;have hl:z.cps.toList.length=z.length:=by simp[Str.length]
 rw[hl]at h1 h4 h5;have hn:=fR;exact tail_any (typeIs_str s z t) slot_str_getitem.lookup (getItem_str (c:=c) (by
  have e1:decide (i < -(2^63:Int))=false:=Pe (by omega);have e2:decide (i ≥ 2^63)=false:=Pe (by omega);rw[e1,e2,Bool.or_false]) (by rw[h1];simpa using h2) ⟨.str ⟨#[c]⟩,H,I.tok _,⟨_,rfl⟩,q⟩) hs
def EN(K:O3):R2:=λx y H Q=>vH K x y H Q\/vI K x y H Q\/vJ x y H Q
theorem kB:IxR X (EN X.K):=ix_list.or<|ix_tup.or tm
theorem kC(its:List Value)(n j:Nat)(u:Value):Obj.mapSeq (·.setIfInBounds j u) { cls:=.type "list",data:=.seq its.toArray n }={ cls:=.type "list",data:=.seq (its.set j u).toArray n }:=by simp[Obj.mapSeq]
theorem Inv.lst{pins:List (Addr×Obj)}{σ:St}{H:Hp}{s:Shared}{p:Addr}{xs:List V}(I:Inv X pins σ H s)(h:H p=some (.lst xs)) :
  ∃(its:List Value) (n:Nat),Vals xs its/\s.heap.get? p=some { cls:=.type "list",data:=.seq its.toArray n }/\xs.length<=sizeLine:=by
 obtain⟨z,its,n,r,e⟩:=I.hok p _ h;exact⟨its,n,r,e,z⟩
theorem Inv.lstUpd{p:Addr}{ys:List V}{its:List Value}{n':Nat}{f:Obj->Obj}(I:Inv X pins σ H s)(h:H p=some (.lst xs))
  (ho:s.heap.get? p=some { cls:=.type "list",data:=.seq its.toArray n }) (hf:f { cls:=.type "list",data:=.seq its.toArray n }={ cls:=.type "list",data:=.seq its'.toArray n' }) (r:Vals ys its') (hz:ys.length<=sizeLine) (t:Nat) :
  Inv X pins σ (upd H p<|.lst ys) { s with heap:=s.heap.update p f,toks:=t }:=by
 have e:(s.heap.update p f).get? p=some { cls:=.type "list",data:=.seq its'.toArray n' }:=by
  rw[u6 f ho (by rw[hf]<;>rfl),hf]
 refine I.write (x:=p) (e:=p) (by rw[h];trivial) (.inl rfl) (λb u hb q=>(rY _ _<|Pa hb).trans q) ⟨_,e⟩ ?_<|.inl ⟨_,h⟩;exact⟨hz,its',n',r,e⟩
def vK:V->V->V->Hp->(Hp->Prop)->Prop:=λo i v H Q=>∃p xs k j,o=.ref p/\i=.int k/\H p=some (.lst xs)/\jK xs.length k=some j/\Q (upd H p<|.lst<|xs.set j v)
theorem fw:vt X vK:=by
 intro pins s σ H o i v ov iv u Q I ro ri rv h;obtain⟨p,xs,k,j,rfl,rfl,hp,hj,q⟩:=h;cases ro;obtain⟨t,rfl⟩:=ri;obtain⟨its,n,r,ho,hz⟩:=I.lst hp;obtain⟨h1,h2,h3,h4⟩:=lh hj;have hl:=r.length;have hn:=fR;have I':Inv X pins σ (upd H p<|.lst<|xs.set j v) { s with heap:=s.heap.update p (Obj.mapSeq (·.setIfInBounds j u)) }:=
  I.lstUpd hp ho (kC its n j u) (r.set rv j) (by rw[dI];exact hz) s.toks
 by_cases h0:0<=k;have hk:k.toNat=j:=by rw[seqIndex_of h0 h4]at h1;exact O8 h1
 exact PySem.W.ki_setAt ho h0 (by omega) (by rw[eX,<-hl];exact h4) (by rw[hk];exact⟨_,I',q⟩);have hk:(k+(its.toArray.size:Int)).toNat=j:=by rw[seqIndex_neg (by omega) h3]at h1;rw[eX,<-hl];exact O8 h1
 exact PySem.W.ki_setBack ho (by omega) (by rw[eX,<-hl];exact h3) (by omega) (by rw[hk];exact⟨_,I',q⟩)
theorem ja(lo hi:Option Int)(n:Nat):(sliceBounds lo hi none n).1=((HT.sIx n 0 lo:Nat):Int)/\(sliceBounds lo hi none n).2.1=((HT.sIx n n hi:Nat):Int)/\(sliceBounds lo hi none n).2.2=1:=by
 refine⟨?_,?_,rfl⟩;cases lo with
 |none=>simp[sliceBounds,HT.sIx]|some i=>simp only[sliceBounds,HT.sIx,Option.getD_none,show(1:Int)>0 by decide,if_true];by_cases h:i<0;simp only[h,if_true]<;>omega;simp only[h,if_false]<;>omega
 cases hi with
 |none=>simp[sliceBounds,HT.sIx]|some i=>simp only[sliceBounds,HT.sIx,Option.getD_none,show(1:Int)>0 by decide,if_true];by_cases h:i<0;simp only[h,if_true]<;>omega;simp only[h,if_false]<;>omega
theorem ie(its:List Value)(lo hi:Option Int):slicePick its.toArray lo hi none=((its.drop<|HT.sIx its.length 0 lo).take<|HT.sIx its.length its.length hi-HT.sIx its.length 0 lo).toArray:=by obtain⟨h1,h2,h3⟩:=ja lo hi its.toArray.size;unfold slicePick;rw[h1,h2,h3];simp only[sliceRange_one,pick_run,eX]<;>rfl
def BQ(K:O3):V->Option Int->Option Int->Hp->VK->Prop:=λx lo hi H Q=>∃a xs,x=.ref a/\SqL K H a xs/\∀p,H p=none->Q (.ref p) (upd H p<|.lst<|jJ xs lo hi)
theorem sl_list:SlR X (BQ X.K):=by intro pins s σ H x v vl vu lo hi sl Q I rx hs pl pu h;obtain⟨a,xs,rfl,hx,q⟩:=h;cases rx;obtain⟨its,r,ht,hz⟩:=I.list hx;have hlen:=r.length;refine⟨"list",_,slot_list_getitem.lookup,ht.isList.typeIs,?_⟩;refine wpAny_getItem_list_slice ht.isList hs pl pu .none (by simp) ?_ (by rw[eX]<;>omega);rw[ie,<-hlen];refine⟨.ref s.heap.objs.size,_,I.laid (t':=s.toks) (o:=.lst<|jJ xs lo hi) (λb ob q=>dq _ q) (bS _) ?_,rfl,q _<|I.hok.fresh<|bS _⟩;exact⟨hX (f7 xs lo hi) hz,_,0,(r.drop<|HT.sIx xs.length 0 lo).take<|HT.sIx xs.length xs.length hi-HT.sIx xs.length 0 lo,g9 _ rfl⟩
def fz:V->Bool
 |.non=>true|.bl _=>true|.int _=>true|.str _=>true|_=>false
noncomputable def rn:V->V->Bool
 |.non,.non=>true|.bl a,.bl b=>a==b|.bl a,.int b=>(if a then 1 else 0)==b|.int a,.bl b=>a==(if b then 1 else 0)|.int a,.int b=>a==b|.str a,.str b=>a==b|_,_=>false
theorem tu{y:V}{u:Value}(ry:RelV y u)(rx:RelV x v)(fy:fz y=true)(fx:fz x=true):SeqAt.EqAt A s u v (rn y x):=by
 cases y with
 |non=>
  cases ry;cases x with
  |non=>cases rx;exact SeqAt.EqAt.same _
  |bl b=>cases rx;exact SeqAt.EqAt.none_bool b
  |int b=>obtain⟨t,rfl⟩:=rx;exact SeqAt.EqAt.none_int b t
  |str b=>obtain⟨t,rfl⟩:=rx;exact SeqAt.EqAt.none_str b t
  |_=>exact O5 (show false=true from fx) jy
 |bl a=>
  cases ry;cases x with
  |non=>cases rx;exact SeqAt.EqAt.bool_none a
  |bl b=>cases rx;exact SeqAt.EqAt.bool_bool a b
  |int b=>obtain⟨t,rfl⟩:=rx;exact SeqAt.EqAt.bool_int a b t
  |str b=>obtain⟨t,rfl⟩:=rx;exact SeqAt.EqAt.bool_str a b t
  |_=>exact O5 (show false=true from fx) jy
 |int a=>
  obtain⟨t',rfl⟩:=ry;cases x with
  |non=>cases rx;exact SeqAt.EqAt.int_none a t'
  |bl b=>cases rx;exact SeqAt.EqAt.int_bool a t' b
  |int b=>obtain⟨t,rfl⟩:=rx;exact SeqAt.EqAt.int_int a t' b t
  |str b=>obtain⟨t,rfl⟩:=rx;exact SeqAt.EqAt.int_str a t' b t
  |_=>exact O5 (show false=true from fx) jy
 |str a=>
  obtain⟨t',rfl⟩:=ry;cases x with
  |non=>cases rx;exact SeqAt.EqAt.str_none a t'
  |bl b=>cases rx;exact SeqAt.EqAt.str_bool a t' b
  |int b=>obtain⟨t,rfl⟩:=rx;exact SeqAt.EqAt.str_int a t' b t
  |str b=>obtain⟨t,rfl⟩:=rx;exact SeqAt.EqAt.str_str a t' b t
  |_=>exact O5 (show false=true from fx) jy
 |_=>exact O5 (show false=true from fy) jy
def qz(x:V)(u:Value):Bool:=match u with|.none=>rn .non x|.bool b=>rn (.bl b) x|.int i _=>rn (.int i) x|.str z _=>rn (.str z) x|_=>false
theorem nr{y:V}{u:Value}(r:RelV y u)(f:fz y=true):qz x u=rn y x:=by
 cases y with
 |non=>cases r;rfl
 |bl b=>cases r;rfl
 |int i=>obtain⟨t,rfl⟩:=r;rfl
 |str z=>obtain⟨t,rfl⟩:=r;rfl
 |_=>exact O5 (show false=true from f) jy
theorem jb{x:V}:∀{xs:List V} {us:List Value},Vals xs us->xs.all fz=true->us.any (qz x)=xs.any λy=>rn y x
 |_,_,.nil,_=>rfl|y::xs,u::us,.cons r t,f=>by rw[ud,cV]at f;rw[yQ,yQ,nr r f.1,jb t f.2]
theorem gR{A:Around}{s:Shared}{x:V}{v:Value}(rx:RelV x v)(fx:fz x=true):∀{xs:List V} {us:List Value},Vals xs us->xs.all fz=true->∀u∈us,SeqAt.EqAt A s u v (qz x u)
 |_,_,.nil,_=>λu hu=>by cases hu
 |y::xs,u::us,.cons r t,f=>λu' hu=>by
  rw[ud,cV]at f;rcases Yao.mp hu with rfl|hu
  rw[nr r f.1];exact tu r rx f.1 fx;exact gR rx fx t f.2 u' hu
def zn(x:V)(xs:List V):Bool:=xs.any λy=>rn y x
def EO(K:O3)(neg:Bool):R2:=λx y H Q=>∃p xs,y=.ref p/\(SqL K H p xs\/SqT K H p xs)/\fz x=true/\xs.all fz=true/\Q (.bl (if neg then !zn x xs else zn x xs)) H
theorem jc:OpR X (compareOp .NotIn) (EO X.K true):=by
 intro pins s σ H x y v u Q I rx ry h;obtain⟨p,xs,rfl,hq,fx,fs,q⟩:=h;cases ry;rcases hq with hq|hq
 obtain⟨its,r,pl,hz⟩:=I.list hq;refine SeqAt.notIn_listAt (qz x) pl.isList (λw hw=>gR rx fx r fs w<|by simpa using hw) ⟨.bl _,H,I,rfl,?_⟩;rw[show its.toArray.any (qz x)=its.any (qz x) by simp,jb r fs];exact q;obtain⟨its,r,pl,hz⟩:=I.tuple hq;refine SeqAt.notIn_tupleAt (qz x) pl (λw hw=>gR rx fx r fs w<|by simpa using hw) ⟨.bl _,H,I,rfl,?_⟩;rw[show its.toArray.any (qz x)=its.any (qz x) by simp,jb r fs];exact q
theorem jd:eA X (.builtin "len") (λxs H Q=>∃p ys,xs=[.ref p]/\(SqL X.K H p ys\/SqT X.K H p ys)/\Q (.int ys.length) H):=by
 intro pins s σ H xs us Q I r h;obtain⟨p,ys,rfl,hq,q⟩:=h;obtain⟨u,rfl,rx⟩:=e7 r;cases rx;have hn:=fR;rcases hq with hq|hq
 obtain⟨its,r',pl,hz⟩:=I.list hq;have hlen:=r'.length;exact Calls.call_len_list pl.isList (by simp only[eX]<;>omega) ⟨.int ys.length,H,I.tok _,⟨s.toks+1,by rw[eX,hlen]⟩,q⟩;obtain⟨its,r',pl,hz⟩:=I.tuple hq;have hlen:=r'.length;exact len_tuple pl (by simp only[eX]<;>omega) ⟨.int ys.length,H,I.tok _,⟨s.toks+1,by rw[eX,hlen]⟩,q⟩
theorem je:eA X (.type "list") (λxs H Q=>∃p ys,xs=[.ref p]/\(SqL X.K H p ys\/SqT X.K H p ys)/\∀l,H l=none->Q (.ref l) (upd H l<|.lst ys)):=by
 intro pins s σ H xs us Q I r h;obtain⟨p,ys,rfl,hq,q⟩:=h;obtain⟨u,rfl,rx⟩:=e7 r;cases rx;have fin:∀(its:List Value),Vals ys its->ys.length<=sizeLine->∀(h':Heap) (c':Nat),(∀b o',s.heap.get? b=some o'->h'.get? b=some o')->
   h'.get? s.heap.objs.size=some { cls:=.type "list",dict:=none,data:=.seq its.toArray c',slots:=#[] }->EP X pins σ Q (.ref s.heap.objs.size) { s with heap:=h' }:=λits r' hz h' c' kp e=>
  ⟨.ref s.heap.objs.size,_,I.laid (t':=s.toks) kp (bS _) (show ObjOk X.prog X.w _ h' _ (.lst ys) from⟨hz,its,c',r',e⟩),rfl,q _<|I.hok.fresh<|bS _⟩
 rcases hq with hq|hq
 obtain⟨its,r',pl,hz⟩:=I.list hq;have hlen:=r'.length;obtain⟨o,ho,hc,n,hd⟩:=pl.isList;exact call_list_seq p (.inl rfl) ho hc hd (λh' c' kp e=>fin its r' hz h' c' kp e) (by simp only[eX]<;>omega);obtain⟨its,r',pl,hz⟩:=I.tuple hq;have hlen:=r'.length;obtain⟨o,ho,hc,n,hd⟩:=pl;exact call_list_seq p (.inr rfl) ho hc hd (λh' c' kp e=>fin its r' hz h' c' kp e) (by simp only[eX]<;>omega)
theorem ig:eA X (.type "tuple") (λxs H Q=>∃p ys,xs=[.ref p]/\((SqL X.K H p ys/\∀l,H l=none->Q (.ref l) (upd H l<|.tup ys))\/(SqT X.K H p ys/\Q (.ref p) H))):=by
 intro pins s σ H xs us Q I r h;obtain⟨p,ys,rfl,h⟩:=h;obtain⟨u,rfl,rx⟩:=e7 r;cases rx;rcases h with⟨hq,q⟩|⟨hq,q⟩
 obtain⟨its,r',pl,hz⟩:=I.list hq;have hlen:=r'.length;refine call_tuple_list pl.isList (λh' kp=>?_) (by simp only[eX]<;>omega);have I1:Inv X pins σ H { s with heap:=h' }:=I.kept (t':=s.toks) kp;have I2:Inv X pins σ (upd H h'.objs.size<|.tup ys) { s with heap:=h'.push { cls:=.type "tuple",data:=.seq its.toArray } }:=
  I1.laid (t':=s.toks) (λb o e=>dq _ e) (bS _) (show ObjOk X.prog X.w _ _ _ (.tup ys) from⟨hz,its,r',IsTup.new _ _⟩)
 exact⟨.ref h'.objs.size,_,I2,rfl,q _<|I1.hok.fresh<|bS _⟩;obtain⟨its,r',pl,hz⟩:=I.tuple hq;exact call_tuple_same pl ⟨.ref p,H,I,rfl,q⟩
def EQ(K:O3)(T:String)(x:V)(H:Hp):Prop:=match x with
 |.str _=>T = "str"|.int _=>T = "int"
 |.ref p=>(T = "list" /\∃xs,SqL K H p xs)\/(T = "tuple" /\∃o,K.lookup p=some o/\o.cls=.type "tuple" /\o.dict=none)\/
   (T = "dict" /\((∃kvs,H p=some (.dK kvs))\/∃kvs,H p=some (.dT kvs)))\/(T = "set" /\∃S n,H p=some (.set S n))
 |_=>False
theorem tw(I:Inv X pins σ H s)(r:RelV x v)(ty:EQ X.K T x H) :
  s.TypeIs v T/\∀a,v=.ref a->∃ob,s.heap.get? a=some ob/\ob.dict=none:=by
 cases x with
 |str z=>
  obtain⟨t,rfl⟩:=r;cases(show T = "str" from ty);exact⟨typeIs_str s z t,λ_ e=>nomatch e⟩
 |int i=>
  obtain⟨t,rfl⟩:=r;cases(show T = "int" from ty);exact⟨typeIs_int s i t,λ_ e=>nomatch e⟩
 |ref p=>
  cases r;rcases ty with⟨rfl,xs,hq⟩|⟨rfl,o,hk,hc,hd⟩|⟨rfl,hk⟩|⟨rfl,S,n,hk⟩
  .obtain⟨its,_,pl,_⟩:=I.list hq
   refine⟨pl.isList.typeIs,λa e=>?_⟩;cases e;obtain⟨o,n,e,c,hd,_⟩:=pl;exact⟨o,e,hd⟩
  .refine⟨⟨o,I.kIn p o hk,hc⟩,λa e=>?_⟩
   cases e;exact⟨o,I.kIn _ o hk,hd⟩
  .have z:∃o,s.heap.get? p=some o/\o.ExactDict:=by
    rcases hk with⟨kvs,hk⟩|⟨kvs,hk⟩
    .obtain⟨_,_,_,_,o,_,_,e,ex,_⟩:=I.hok p _ hk
     exact⟨o,e,ex⟩
    .obtain⟨_,_,_,_,o,_,_,e,ex,_⟩:=I.hok p _ hk
     exact⟨o,e,ex⟩
   obtain⟨o,e,ex⟩:=z;refine⟨⟨o,e,ex.1⟩,λa e2=>?_⟩;cases e2;exact⟨o,e,ex.2.1⟩
  .obtain⟨o,_,_,_,e,ex,_⟩:=I.hok p _ hk
   refine⟨⟨o,e,ex.1⟩,λa e2=>?_⟩;cases e2;exact⟨o,e,ex.2.1⟩
 |_=>exact Pi ty
def Je(K:O3)(T:String)(r:V->List V->Hp->VK->Prop)(to:TE)(t:TA):TE:=λσ H Q=>to σ H λx H1=>EQ K T x H1/\t σ H1 λxs H2=>r x xs H2 Q
variable{o:Expr}{es:List Expr}{to:TE}{t:TA}{name:Str}{apos cpos:Pos}{id:String}{r:V->List V->Hp->VK->Prop}
theorem rp(pa:PlainAttrs T)(slot:Slot T name id)(hty:typeOf (.builtin id)=pure (.type "method_descriptor"))(hm:BP X id r)(ho:PE X o to)(ha:PA X (e::es) t)
  (hbase:attributeBase o name X.env (eval o X.env)=eval o X.env:=by rfl)
  (hfew:((backTo cpos<|starEach (e::es) X.env).all (λx=>!x.1) && (backToKw cpos<|keywordEach [] X.env).all (λx=>x.1.isSome)
   && decide ((e::es).length+([]:List Keyword).length+(if([]:List Keyword).isEmpty then 0 else 1)<30))=true:=by rfl)
  (hline:(apos.endLine==cpos.line)=true:=by rfl) (hs:starEach (e::es) X.env=(false,eval e X.env)::starEach es X.env:=by rfl) (hplain:(backTo cpos<|starEach es X.env).any (·.1)=false:=by rfl) :
  PE X (.Call (.Attribute o name apos) (e::es) [] cpos) (Je X.K T r to t):=by
 intro pins s σ H Q I h;refine wpAny_Call_method_late hbase hfew hline rfl<|bL (ho pins s σ H _ I h) λv s1 ⟨x,H1,I1,r1,ty,q1⟩=>?_;obtain⟨h1,h2⟩:=tw I1 r1 ty;refine⟨T,id,pa,slot,hty,h1,h2,?_⟩;have hA:=ha cpos pins s1 σ H1 _ I1 q1;rw[hs]at hA ⊢;refine Calls.callWith_builtin (by show(false||(backTo cpos<|starEach es X.env).any (·.1))=false;rw[hplain]<;>rfl)<|Calls.evalArgs_plain ?_;exact bL hA λus s2 ⟨vs,H2,I2,r2,q2⟩=>hm pins s2 σ H2 x vs v us Q I2 r1 r2 q2
/- xs.append(e),list.index on a module's tuple .. are BP facts of 06m -/
end
def Jf(X:Cx)(id:String)(r:V->List V->Hp->VK->Prop):Prop:=
 ∀(pins:List (Addr×Obj)) (s:Shared) (σ:St) (H:Hp) (x:V) (xs:List V) (v:Value) (us:List Value) (Q:VK),Inv X pins σ H s->RelV x v->Vals xs us->r x xs H Q->
  wpAny (model X.prog X.w) X.A (call (.builtin id) (v::us)) (EP X pins σ Q) X.xe s
theorem Vals.one:∀{x:V} {us:List Value},Vals [x] us->∃u,us=[u]/\RelV x u
 |_,_,.cons r .nil=>⟨_,rfl,r⟩
theorem Vals.rep{xs:List V}{us:List Value}(h:Vals xs us):∀k:Nat,Vals (List.replicate k xs).flatten (List.replicate k us).flatten
 |0=>.nil|k+1=>by rw[gJ,gJ,qW,qW];exact Vals.append h<|Vals.rep h k
theorem eN(its:List Value):∀(k:Nat) (acc:List Value),
  List.foldl (λx1 x2=>x1++x2) acc.toArray (List.replicate k its.toArray)=(acc++(List.replicate k its).flatten).toArray
 |0,acc=>by simp
 |k+1,acc=>by
  have e:acc.toArray++its.toArray=(acc++its).toArray:=by simp
  have e2:(acc++its)++(List.replicate k its).flatten=acc++(List.replicate (k+1) its).flatten:=by
   rw[gJ,qW,nZ]
  rw[<-e2,<-eN its k (acc++its),<-e,gJ,List.foldl_cons]
section
variable{l b:Addr}{ys zs:List V}
theorem Inv.lset{its:List Value}(I:Inv X pins σ H s)(hH:H l=some (.lst xs))
  (e:s.heap.get? l=some { cls:=.type "list",data:=.seq its.toArray n }) (hf:f its.toArray=its'.toArray) (hv:Vals ys its') (hz:ys.length<=sizeLine) :
  Inv X pins σ (upd H l<|.lst ys) { s with heap:=s.heap.update l<|Obj.mapSeq f,toks:=t' }:=by
 have q:=PySem.IsL.update e f;rw[hf]at q;refine I.write (x:=l) (e:=l) (by rw[hH];exact trivial) (.inl rfl) (λb' u hb hu=>(rY s.heap (Obj.mapSeq f)<|Pa hb).trans hu) ⟨_,q⟩ ?_<|.inl ⟨_,hH⟩;exact⟨hz,its',_,hv,q⟩
theorem Inv.lnew{its:List Value}(I:Inv X pins σ H s)(hv:Vals ys its)(hz:ys.length<=sizeLine) :
  Inv X pins σ (upd H s.heap.objs.size<|.lst ys) { s with heap:=s.heap.push { cls:=.type "list",data:=.seq its.toArray },toks:=t' }:=
 I.laid (λ_ _ q=>dq _ q) (bS _) ⟨hz,its,0,hv,g9 _ rfl⟩
theorem Inv.fresh(I:Inv X pins σ H s):H s.heap.objs.size=none:=I.hok.fresh<|bS _
theorem Inv.lstM(I:Inv X pins σ H s)(hH:H l=some (.lst xs)):xs.length<=sizeLine/\∃(its:List Value) (n:Nat),Vals xs its/\xs.length=its.length/\s.heap.get? l=some { cls:=.type "list",data:=.seq its.toArray n }:=by obtain⟨z,its,n,r,e⟩:=I.hok l _ hH;exact⟨z,its,n,r,r.length,e⟩
theorem nu(h:n<=sizeLine):Builtin.List.listTooLong n=false:=by unfold Builtin.List.listTooLong;exact Pe (by omega)
end
section
def qA:V->List V->Hp->VK->Prop:=λx vs H Q=>∃l xs y,x=.ref l/\vs=[y]/\H l=some (.lst xs)/\xs.length<sizeLine/\Q .non (upd H l<|.lst<|xs++[y])
theorem lJ:Jf X "list.append" qA:=by intro pins s σ H x vs v us Q I rx rv h;obtain⟨l,xs,y,rfl,rfl,hH,hz,q⟩:=h;cases rx;obtain⟨u,rfl,ru⟩:=rv.one;obtain⟨z,its,n,r,hl,e⟩:=I.lstM hH;refine call_meets F.slot_list_append ⟨_,e,rfl⟩ F.entry_list_append (F.args_list_append_2 _ _) (PySem.list_append l its.toArray n u (by rw[eX];omega)) ⟨e,?_⟩;refine⟨.non,_,I.lset (its':=its++[u]) hH e (by simp) (r.append<|.cons ru .nil) ?_,rfl,q⟩;rw[d9,mh];omega
def BT:R2:=λx y H Q=>∃l k xs,x=.ref l/\y=.int k/\H l=some (.lst xs)/\-(2^63)<=k/\k<2^63/\xs.length*k.toNat<=sizeLine/\
 ∀p,H p=none->Q (.ref p) (upd H p<|.lst (List.replicate k.toNat xs).flatten)
theorem jf{α:Type}(xs:List α)(k:Nat):(List.replicate k xs).flatten.length=k*xs.length:=by
 induction k with
 |zero=>simp|succ k ih=>rw[gJ,qW,d9,ih,qX,yR]
theorem ny:OpR X (binaryOp .Mult) BT:=by
 intro pins s σ H x y v u Q I rx ry h;obtain⟨l,k,xs,rfl,rfl,hH,h1,h2,hz,q⟩:=h;cases rx;obtain⟨t,rfl⟩:=ry;obtain⟨z,its,n,r,hl,e⟩:=I.lstM hH;have hlen:its.toArray.size*k.toNat<=sizeLine:=by rw[eX,<-hl];exact hz
 have hcap:¬its.toArray.size*k.toNat>(2^63-1)/8:=by
  have:(sizeLine:Nat)<=(2^63-1)/8:=by decide
  omega
 have hfit:¬(!Builtin.List.listFitsIndex k)=true:=by rw[fitsIndex_both h1 h2];exact jy
 have hlong:¬Builtin.List.listTooLong (its.toArray.size*k.toNat)=true:=by rw[nu hlen];exact jy
 have hnew:List.foldl (λx1 x2=>x1++x2) #[] (List.replicate (if its.toArray.isEmpty=true then 0 else k.toNat) its.toArray)=(List.replicate k.toNat its).flatten.toArray:=by
  have f0:∀m:Nat,List.foldl (λx1 x2=>x1++x2) #[] (List.replicate m its.toArray)=(List.replicate m its).flatten.toArray:=λm=>by have:=eN its m [];rw[eY]at this;exact this
  rw[f0];cases its with
  |nil=>simp|cons a r'=>rw[if_neg<|by simp]
 refine wpAny_binaryOp_repeat_ref (T:= "list") (U:= "int") (by decide) ⟨_,e,rfl⟩ (λs'=>typeIs_int s' k t) noFill_list_mul F.fills_int_mul F.slot_int_rmul repeat_list F.slot_int_index.lookup
  (call_meets F.slot_int_rmul (typeIs_int s k t) F.entry_int_rmul (F.args_int_rmul_2 _ _) (int___rmul___int_list k t l its.toArray n)
   ⟨e,rfl,⟨_,e,rfl⟩,call_meets F.slot_list_mul ⟨_,e,rfl⟩ F.entry_list_mul (F.args_list_mul_2 _ _) (AutoListH.list___mul___list_int_3 l its.toArray n k t hfit hcap hlong) ⟨e,?_⟩⟩)
 rw[hnew];exact⟨.ref _,_,I.lnew (t':=s.toks) (r.rep k.toNat) (by rw[jf,Nat.mul_comm];exact hz),rfl,q _ I.fresh⟩
end
end L2
namespace Att
open PySem PySem.W PySem.Calls PyProof.Rows
theorem gl{P:Params}{h:Heap}:∀(ns:List Int) (vs:List Value),WellAll P h vs (ns.map WData.int)->IntsAre vs ns:=by
 intro ns;induction ns with
 |nil=>intro vs w;rw[hZ]at w;cases w;exact .nil
 |cons n ns ih=>
  intro vs w;rw[c6]at w;cases w with
  |cons a b=>
   cases a;exact .cons _ _<|ih _ b
theorem lK{l:OpenLaw}{n:Nat}(hn:l.most=some n){P:Params}{h:Heap}{args:List WData}{vals:List Value}
  (hpre:l.row.toRowW.claim.pre args=true) (hwl:WellAll P h vals args) :
  ∃a vs ns,vals=[Value.ref a]/\args=[WData.list<|ns.map WData.int]/\h.get? a=some { cls:=.type "list",data:=.seq vs.toArray }/\IntsAre vs ns/\ns.length<=n:=by
 have hsh:WShape.hasAll [] args [.list .int]=true:=(pre_splitW hpre).1;have hc:l.pre.holds [] { args:=args }=true:=(pre_splitW hpre).2;obtain⟨d,r,rfl,h1,h2⟩:=hasAllW_cons hsh;obtain rfl:=hasAllW_nil h2;obtain⟨xs,rfl,h3⟩:=hasW_list h1;obtain⟨ns,rfl⟩:=items_int h3;have hlen:ns.length<=n:=by
  unfold OpenLaw.pre at hc;have h4:(WTm.not<|.lt (.lit<|.int (n:Int))<|.len<|.arg 0).holds [] { args:=[.list<|ns.map .int] }=true:=by
   have h4:=(holds_andW hc).1;rw[hn]at h4;exact h4
  have h5:=condW_of h4<|w_not (w_lt w_lit<|w_len_list<|w_arg rfl);rw[bQ]at h5;refine Nat.le_of_not_lt λq=>?_;have q':(n:Int)<((ns.length:Nat):Int):=by omega
  first
   |(rw[O7 q']at h5;exact O5 h5<|by decide)
   |(simp at h5;omega)
 cases hwl with
 |cons w1 w2=>
  cases w2;cases w1 with
  |list ho hall=>exact⟨_,_,ns,rfl,rfl,ho,gl ns _ hall,hlen⟩
theorem lL(l:OpenLaw)(args:List WData):l.row.toRowW.claim.post args (.bool true) args=true:=
 postW_of (r:=l.row.toRowW) (X:=(true==true))
  (show WShape.has [] (.bool true) .bool=true by first|rfl|decide|simp[WShape.has,WShape.arms,WShape.armsAll])
  (show(WTm.eq .res<|.lit<|.bool true).value [] { args:=args,res:=some<|.bool true,after:=args }=some (.bool<|true==true) from w_eq_bool (w_res rfl) w_lit) rfl
theorem attach_call{l:OpenLaw}{n:Nat}{q:Program}{loose:List Str}{XP:(Str->Option Value)->Heap->Prop}{YP:World->Heap->Prop}{d:DefRec}
  (hn:l.most=some n) (hdf:d.params.defaults=[])
  (call:∀ (w:World) (s₀ s₁:Shared) (mg mb:Str->Option Value) (fa:Addr) (o:Obj) (pm cd doc:Value) (a:Addr) (vs:List Value) (ns:List Int),
   Ground q loose [] XP w s₀ mg mb s₁.heap->YP w s₁.heap->
   s₁.heap.get? fa=some o->o.data=.func (docDef d.name d.params d.body d.scope pm cd doc)->s₁.heap.CodeRec cd d.name->mg d.name=some (.ref fa)->
   s₁.heap.get? a=some { cls:=.type "list",data:=.seq vs.toArray }->IntsAre vs ns->ns.length<=n->(a==sysModules)=false->s₁.gens = #[]->
   codeAny (model l.prog w) callerA (.call (.ref fa) ⟨[.ref a],[]⟩) (λr s'=>r=.ok (.ret<|.bool true)/\OldK s₁.heap s'.heap/\s'.os=s₁.os/\AllBare s'.gens) s₁) :
  WalkO q loose XP YP l.row.toRowW d [] (λf vs=>PySem.call f vs):=by
 intro w s₀ s₁ mg mb G Y fa o pm cd doc dV kV ho hd hcd hD hmg hg args vals as hpre hlay hrd hwl hlo;obtain rfl:dV=.none:=Dflts.none hD hdf;obtain rfl:kV=.none:=Dflts.noKw hD;obtain⟨a,vs,ns,rfl,rfl,hobj,hints,hlen⟩:=lK hn hpre hwl;have hsy:(a == sysModules)=false:=hlo a (by
  cases hrd with
  |cons h1 h2=>cases h1;simp)
 refine enter_call<|codeAny_mono (call w s₀ s₁ mg mb fa o pm cd doc a vs ns G Y ho (fd_plain hd) hcd hmg hobj hints hlen hsy hg) λr s' hq=>?_;obtain⟨rfl,h2,h3,h4⟩:=hq;exact⟨.inl ⟨.bool true,.bool true,[],rfl,λ_=>rfl,.bool true,lL l _,λ_=>⟨List.Pairwise.nil,λ_ hm=>(nomatch hm)⟩⟩,h2,h3,h4⟩
end Att
namespace L2
open PySem PySem.Spec PyProof.Rows
variable{P:Program}{w:World}{K:O3}{mg:Str->Option Value}{k:Nat}{fd:FuncData}{x:Str}{l:PySem.W.OpenLaw}{XP:(Str->Option Value)->Heap->Prop}{YP:World->Heap->Prop}{st:Stmt}{f:Addr}{osl:Array (Option Value)}{X:Cx}{pos:Pos}{scope sc:Scope}{env:Env}{A:Around}{s:Shared}{Q:Env->Shared->Prop}{pins:List (Addr×Obj)}{σ:St}{vars:List Str}{sel:List Nat}{fp:List Addr}{tn:Nat->Heap->Prop}{wi:TI}
theorem iM:∀{vs:List Value} {ns:List Int},IntsAre vs ns->Vals (ns.map V.int) vs
 |_,_,.nil=>.nil|_,_,.cons n t h=>.cons ⟨t,rfl⟩<|iM h
def qB(H:Hp):Prop:=∀b,H b=none\/∃o xs,H b=some (.frz o<|.lst xs)
theorem nz{mb:Str->Option Value}{CX:m9}{fa a:Addr}{sp:Sp}{s₁:Shared}{vs:List Value}{ns:List Int}
  (KX:K.In s₁.heap) (hns:s₁.heap.Ns mainGlobals mg) (hb:s₁.heap.Ns builtinsNs mb) (hbb:∀x:Str,x≠ "__name__" ->mb x=bootBuiltins x) (hlim:s₁.heap.NoLimit) (hg:s₁.gens = #[])
  (ha:s₁.heap.get? a=some { cls:=.type "list",data:=.seq vs.toArray }) (hi:IntsAre vs ns) (hl:ns.length<=sizeLine) (hsy:(a==sysModules)=false) (hr:Room k callerA)
  (F:∀base:Heap,K.In base->base.Ns mainGlobals mg->eD P w K mg base CX k fa fd [x] sp) (hbind:∀(s:Shared) (u:Value),BindsTo s fd ⟨[u],[]⟩ [(x,u)])
  (hsp:∀H:Hp,qB H->SqL K H a (ns.map V.int)->sp [.ref a] H (λv _=>v=.bl true) λ_ _ _=>False)
  (hCX:∀H e s',CX [] H s₁ (λ_ _ _=>False) e s'->False) :
  codeAny (model P w) callerA (.call (.ref fa) ⟨[.ref a],[]⟩) (λr s'=>r=.ok (.ret<|.bool true)/\OldK s₁.heap s'.heap/\s'.os=s₁.os/\AllBare s'.gens) s₁:=by
 have rv:=iM hi;have lenV:=hi.length
 have core:∀H:Hp,qB H->SqL K H a (ns.map V.int)->HOk P w H s₁.heap->(∀b,H b≠none->b=a)->(H a≠none->K.lookup a=none)->
   codeAny (model P w) callerA (.call (.ref fa) ⟨[.ref a],[]⟩) (λr s'=>r=.ok (.ret<|.bool true)/\OldK s₁.heap s'.heap/\s'.os=s₁.os/\AllBare s'.gens) s₁:=by
  intro H hO hS hok hA hK;have base_of:∀{b:Addr} {o:Obj},s₁.heap.get? b=some o->H b=none->(iW s₁.heap H).get? b=some o:=λe n=>mP e n;have noA:∀{b:Addr} {o:Obj} {es:Array DictEntry} {ep:Nat},s₁.heap.get? b=some o->o.data=.dict es ep->H b=none:=λ{b o es ep} e d=>by
   cases q:H b with
   |none=>rfl
   |some u=>
    have e':b=a:=hA b (by rw[q];simp);subst e';rw[ha]at e;cases e;have d':Data.seq vs.toArray _=Data.dict es ep:=d;cases d'
  have nsK:∀{b:Addr} {m:Str->Option Value},s₁.heap.Ns b m->(iW s₁.heap H).Ns b m:=λ{b m} ⟨o,es,ep,e,d,r⟩=>⟨o,es,ep,base_of e<|noA e d,d,r⟩;have hKb:K.In (iW s₁.heap H):=λb o e=>base_of (KX b o e) (by
   cases q:H b with
   |none=>rfl
   |some u=>
    have e':b=a:=hA b (by rw[q];simp);subst e';rw[hK (by rw[q];simp)]at e;cases e)
  have hM:Mod K mg (iW s₁.heap H):=⟨hKb,nsK hns,⟨mb,nsK hb,hbb⟩,let⟨mc,h1,h2⟩:=hlim;⟨mc,nsK h1,h2⟩⟩
  have e0:Env0 P w K mg (iW s₁.heap H) callerA [] s₁ H:=⟨rfl,hM,λb o e=>qc e,Nat.le_of_eq<|lA _ _,trivial,λb hb=>O5 (show b∈([]:List Addr) from hb)<|by simp,hok,.of_eq hg,λxs q=>O5 (hA sysModules (by rw[q];simp)).symm (beq_eq_false_iff_ne.mp hsy)⟩
  refine codeAny_mono ((F _ hKb<|nsK hns).run callerA [] s₁ H ⟨[.ref a],[]⟩ [.ref a] [.ref a] _ _ hr e0 (hbind s₁<|.ref a) (.cons rfl .nil)<|hsp H hO hS) λr s' h=>?_;cases r with
  |error e=>exact(hCX H e s' h).elim
  |ok fl=>
   cases fl with
   |next=>exact Pi h|brk=>exact Pi h|cont=>exact Pi h
   |ret u=>
    obtain⟨v,H',os,bare,un,hok',r',q⟩:=h;have q':v=.bl true:=q;subst q';obtain rfl:u=Value.bool true:=r';refine⟨rfl,OldK.of_keep λb o e=>?_,os,bare⟩;cases q:H b with
    |none=>exact un.keep b o e q (by intro z;exact O5 (show b∈([]:List Addr) from z)<|by simp) (by simp)
    |some u=>
     rcases hO b with z|⟨ob,xs,z⟩
     .rw[q]at z;cases z
     .have z2:=un.frzs b ob _ z
      obtain⟨e1,_⟩:=hok b _ z;obtain⟨e2,_⟩:=hok' b _ z2;rw[e]at e1;cases e1;exact e2
 cases hk:K.lookup a with
 |some o=>
  have e:=KX a o hk;rw[ha]at e;cases e;refine core (λ_=>none) (λ_=>.inl rfl) (.inr ⟨_,vs.toArray,_,hk,rfl,rfl,rfl,by rw[eX,lenV];exact hl,by simpa using rv⟩) (λb u z=>by have z':(none:Option HO)=some u:=z;cases z') (λb z=>O5 rfl z) λz=>O5 rfl z
 |none=>
  refine core (λb=>if b=a then some (.frz { cls:=.type "list",data:=.seq vs.toArray }<|.lst<|ns.map V.int) else none) (λb=>?_) (.inl<|.inr ⟨{ cls:=.type "list",data:=.seq vs.toArray },if_pos rfl⟩) (λb u z=>?_) (λb z=>?_) λ_=>hk
  .by_cases hb:b=a
   .exact .inr ⟨_,_,if_pos hb⟩
   .exact .inl<|if_neg hb
  .by_cases hb:b=a
   .have z':=(if_pos hb).symm.trans z
    cases z';subst hb;exact⟨ha,by rw[bQ];exact hl,vs,_,rv,ha⟩
   .have z':=(if_neg hb).symm.trans z
    cases z'
  .by_cases hb:b=a
   .exact hb
   .exact O5 (if_neg hb) z
theorem walk_of{n:Nat}{q:Program}{loose:List Str}{d:DefRec}{K:Params->O3}{CX:World->m9}{sp:World->Sp}
  (hn:l.most=some n) (hn2:n<=sizeLine) (hdf:d.params.defaults=[]) (hr:Room k callerA)
  (hY:∀(w:World) (h:Heap),YP w h->(K w.params).In h)
  (F:∀ (w:World) (mg:Str->Option Value) (fa:Addr) (h:Heap),(K w.params).In h->h.Ns mainGlobals mg->mg d.name=some (.ref fa)->
   ∃fd:FuncData,(∀(s:Shared) (u:Value),BindsTo s fd ⟨[u],[]⟩ [(x,u)])/\
    ∀base:Heap,(K w.params).In base->base.Ns mainGlobals mg->eD l.prog w (K w.params) mg base (CX w) k fa fd [x] (sp w))
  (hsp:∀(w:World) (H:Hp) (a:Addr) (ns:List Int),ns.length<=n->qB H->SqL (K w.params) H a (ns.map V.int)->sp w [.ref a] H (λv _=>v=.bl true) λ_ _ _=>False)
  (hCX:∀(w:World) (H:Hp) (s:Shared) (e:Value) (s':Shared),CX w [] H s (λ_ _ _=>False) e s'->False) :
  PySem.W.WalkO q loose XP YP l.row.toRowW d [] (λf vs=>PySem.call f vs):=by
 refine Att.attach_call hn hdf λw s₀ s₁ mg mb fa o pm cd doc a vs ns G Y ho hd hcd hmg hobj hints hlen hsy hg=>?_;have KX:=hY w _ Y;obtain⟨fd,hb,hF⟩:=F w mg fa _ KX G.T.g hmg;exact nz KX G.T.g G.T.b G.T.builtins G.T.nolimit hg hobj hints (hX hlen hn2) hsy hr hF hb (λH hO hS=>hsp w H a ns hlen hO hS) λH e s'=>hCX w H s₁ e s'
def cc(s:Stmt):Arguments:=match s with|.FunctionDef _ a _ _ _ _ _ _ _ _=>a|_=>{ posonlyargs:=[],args:=[],vararg:=none,kwonlyargs:=[],kw_defaults:=[],kwarg:=none,defaults:=[] }
def bB(s:Stmt):List Stmt:=match s with|.FunctionDef _ _ b _ _ _ _ _ _ _=>b|_=>[]
def aE(s:Stmt):Scope:=match s with|.FunctionDef _ _ _ _ _ _ sc _ _ _=>sc|_=>{ kind:=.function,names:=[],isGenerator:=false,isCoroutine:=false }
abbrev ER:m9:=λ_ _ _ _ _ _=>False
abbrev E0:XK:=λ_ _ _=>False
structure Fun(K:O3)(x qual:Str)(st:Stmt)(f:Addr)(fd:FuncData):Prop where
 ex:∃(oc:Value) (od:Option Addr) (kV doc pm:Value) (an:Option Addr) (cdv ct:Value) (osl:Array (Option Value)),
  fd=PySem.W.fnOf x qual (cc st) (bB st) (aE st) .none kV doc pm an cdv ct/\K.lookup f=some ⟨oc,od,.func fd,osl⟩/\PySem.W.codeIn K cdv qual=true
 kp:PySem.W.keepIn K (.ref f)=true
section
variable{base:Heap}
theorem Fun.binds{qual:Str}{ps:List Str}(F:Fun K x qual st f fd)
  (h:∀(kV doc pm:Value) (an:Option Addr) (cdv ct:Value) (us:List Value),us.length=ps.length->bindArgs (PySem.W.fnOf x qual (cc st) (bB st) (aE st) .none kV doc pm an cdv ct) ⟨us,[]⟩=pure (ps.zip us)):Binds K fd ps []:=by
 obtain⟨oc,od,kV,doc,pm,an,cdv,ct,osl,rfl,lk,hcd⟩:=F.ex;exact .all<|h kV doc pm an cdv ct
theorem nA{qual:Str}{oc:Value}{od an:Option Addr}{kV doc pm cdv ct:Value}(l:K.lookup f=some ⟨oc,od,.func<|PySem.W.fnOf x qual (cc st) (bB st) (aE st) .none kV doc pm an cdv ct,osl⟩)
  (c:PySem.W.codeIn K cdv qual=true) (k:PySem.W.keepIn K (.ref f)=true):Fun K x qual st f (PySem.W.fnOf x qual (cc st) (bB st) (aE st) .none kV doc pm an cdv ct):=⟨⟨oc,od,kV,doc,pm,an,cdv,ct,osl,rfl,l,c⟩,k⟩
end
section
theorem pv(i:Nat)(hN:X.N[i]? = some x:=by rfl)(hv:kX X.env.scope x:=by first|exact Or.inl rfl|exact Or.inr (Or.inl rfl)|exact Or.inr<|Or.inr rfl)(hd:(x==("__debug__" : Str))=false:=by decide)
  (hcd:(x==("__classdict__" : Str))=false:=by decide):PE X (.Name x pos) (qe i):=df hN hv hd hcd
end
noncomputable def rq:List (Str×NameKind)->Bool
 |[]=>true|(n,_)::r=>!(r.any λy=>y.1==n)&&rq r
def mr(sc outer:Scope):Bool:=
 decide (sc.kind=.function)&&rq sc.names&&sc.names.all λy=>!decide (y.2=.free)||(decide (outer.names.lookup y.1=some .cell)||decide (outer.names.lookup y.1=some .free))
theorem Zi{α:Type}:∀{l:List (Str×α)} {n:Str},(l.any λy=>y.1==n)=false->l.lookup n=none
 |[],_,_=>rfl
 |(k,v)::r,n,h=>by
  simp only[yQ,Bool.or_eq_false_iff]at h;have e:(n==k)=false:=by have:=h.1;simp only[Pu]at this ⊢;exact λz=>this z.symm
  rw[lx,e];exact Zi h.2
theorem BU:∀{l:List (Str×NameKind)} {n:Str} {k:NameKind},rq l=true->(n,k)∈l->l.lookup n=some k
 |(m,j)::r,n,k,nd,h=>by
  simp only[rq,cV,rZ]at nd;rcases Yao.mp h with e|h2
  cases e;simp;have hm:n≠m:=by rintro rfl;have:(r.any λy=>y.1==n)=true:=List.any_eq_true.mpr ⟨_,h2,by simp⟩;rw[nd.1]at this;cases this
  rw[lx,beq_eq_false_iff_ne.mpr hm];exact BU nd.2 h2
noncomputable def dg(cells:List (Str×Addr)):List (Str×NameKind)->List (Str×Addr)->List (Str×Addr)
 |[],acc=>acc|(n,k)::r,acc=>if k==.free then dg cells r ((n,(cells.lookup n).getD 0)::acc) else dg cells r acc
theorem vL{cells:List (Str×Addr)}{x:Str}:∀{names:List (Str×NameKind)} {acc:List (Str×Addr)},rq names=true->
  ((names.lookup x=some .free->∃c,(dg cells names acc).lookup x=some c/\(cells.lookup x).getD 0=c)/\(names.lookup x≠some .free->(dg cells names acc).lookup x=acc.lookup x))
 |[],acc,_=>⟨λh=>by simp at h,λ_=>rfl⟩
 |(m,k)::r,acc,nd=>by
  simp only[rq,cV,rZ]at nd
  by_cases hm:x=m
  .subst hm
   have hr:r.lookup x=none:=Zi nd.1;rw[show List.lookup x ((x,k)::r)=some k by simp];have ih:=@vL cells x r
   by_cases hk:k=.free
   .subst hk
    refine⟨λ_=>⟨_,?_,rfl⟩,λh=>O5 rfl h⟩;show(dg cells r ((x,_)::acc)).lookup x=_;rw[(ih nd.2).2 (by rw[hr];simp)];simp
   .refine⟨λh=>O5 (O8 h) hk,λ_=>?_⟩
    have:dg cells ((x,k)::r) acc=dg cells r acc:=by
     show(if k==.free then _ else _)=_;rw[if_neg<|by simpa using hk]
    rw[this,(ih nd.2).2 (by rw[hr];simp)]
  .have e:List.lookup x ((m,k)::r)=r.lookup x:=by rw[lx,beq_eq_false_iff_ne.mpr hm]
   rw[e]
   by_cases hk:k=.free
   .subst hk
    have ih:=@vL cells x r ((m,(cells.lookup m).getD 0)::acc) nd.2;have e2:List.lookup x ((m,(cells.lookup m).getD 0)::acc)=acc.lookup x:=by rw[lx,beq_eq_false_iff_ne.mpr hm]
    rw[e2]at ih;exact ih
   .have:dg cells ((m,k)::r) acc=dg cells r acc:=by
     show(if k==.free then _ else _)=_;rw[if_neg<|by simpa using hk]
    rw[this];exact @vL cells x r acc nd.2
theorem ES(h:∀y∈scope.names,y.2=.free->∃c,env.cells.lookup y.1=some c):closureFor scope env=pure (dg env.cells scope.names []):=by
 have gen:∀ (names:List (Str×NameKind)) (acc:List (Str×Addr)),(∀ y∈names,y.2 = .free->∃ c,env.cells.lookup y.1=some c)->
     (forIn names acc (fun (x:Str×NameKind) (r:List (Str×Addr))=>(if (x.2 == NameKind.free)=true then (do
       let c <-cellOf env x.1
       pure (ForInStep.yield ((x.1,c)::r))) else pure (ForInStep.yield r):Sem (ForInStep<|List<|Str×Addr))))=(pure (dg env.cells names acc):Sem (List<|Str×Addr)):=by
   intro names
   induction names with
   |nil=>intro acc _;rfl
   |cons y r ih=>
     intro acc hh;obtain⟨n,k⟩:=y;rw[A7]
     by_cases hk:k=.free
     · subst hk
       obtain⟨c,hc⟩:=hh (n,.free) lw rfl;have hc':env.cells.lookup n=some c:=hc;have e:cellOf env n=pure c:=by unfold cellOf;rw[hc']
       simp only[Pk,if_true,e];have:=ih ((n,c)::acc) λy hy=>hh y<|jr _ hy;have e3:dg env.cells ((n,.free)::r) acc=dg env.cells r ((n,c)::acc):=by
         show(if _ then _ else _)=_;rw[hc'];rfl
       rw[e3,<-this];rfl
     · have hb:(k==NameKind.free)=false:=by simpa using hk
       simp only[hb,ee,if_false];have:=ih acc λy hy=>hh y<|jr _ hy;have e3:dg env.cells ((n,k)::r) acc=dg env.cells r acc:=by
         show(if _ then _ else _)=_;rw[if_neg<|by simpa using hk]
       rw[e3,<-this];rfl
 unfold closureFor;have:=gen scope.names [] h;first
  |exact this
  | (show (forIn scope.names [] _ >>= λcs=>pure cs)=_
     refine Eq.trans (congrArg (· >>= λcs=>pure cs) this) rfl)
theorem rz{x:Str}:∀(names:List (Str×NameKind)) (n:Nat) (acc acc':List (Str×Addr)),rq names=true->
  ((names.lookup x=some .cell->(cellsFrom n names acc).lookup x=(cellsFrom n names acc').lookup x)/\(names.lookup x≠some .cell->(cellsFrom n names acc).lookup x=acc.lookup x))
 |[],_,_,_,_=>⟨λh=>by simp at h,λ_=>rfl⟩
 |(m,k)::r,n,acc,acc',nd=>by
  simp only[rq,cV,rZ]at nd
  by_cases hm:x=m
  .subst hm
   have hr:r.lookup x=none:=Zi nd.1;rw[show List.lookup x ((x,k)::r)=some k by simp]
   by_cases hk:k=.cell
   .subst hk
    refine⟨λ_=>?_,λh=>O5 rfl h⟩;have a:=(@rz x r (n+1) ((x,n)::acc) acc' nd.2).2 (by rw[hr];simp);have b:=(@rz x r (n+1) ((x,n)::acc') acc' nd.2).2 (by rw[hr];simp);show(cellsFrom (n+1) r ((x,n)::acc)).lookup x=(cellsFrom (n+1) r ((x,n)::acc')).lookup x;rw[a,b];simp
   .refine⟨λh=>O5 (O8 h) hk,λ_=>?_⟩
    have e:cellsFrom n ((x,k)::r) acc=cellsFrom n r acc:=by
     show(if k==.cell then _ else _)=_;rw[if_neg<|by simpa using hk]
    rw[e,(@rz x r n acc acc' nd.2).2 (by rw[hr];simp)]
  .have e:List.lookup x ((m,k)::r)=r.lookup x:=by rw[lx,beq_eq_false_iff_ne.mpr hm]
   rw[e]
   by_cases hk:k=.cell
   .subst hk
    have ih:=@rz x r (n+1) ((m,n)::acc) ((m,n)::acc') nd.2;have e2:List.lookup x ((m,n)::acc)=acc.lookup x:=by rw[lx,beq_eq_false_iff_ne.mpr hm]
    rw[e2]at ih;exact ih
   .have e3:∀a:List (Str×Addr),cellsFrom n ((m,k)::r) a=cellsFrom n r a:=λa=>by
     show(if k==.cell then _ else _)=_;rw[if_neg<|by simpa using hk]
    rw[e3,e3];exact @rz x r n acc acc' nd.2
theorem ET:(relabel sc env).names.lookup x=(sc.names.lookup x).map λk=>if(k==NameKind.free&&env.scope.kind==.function&&env.kindOf x==some .cell)=true then .cell else k:=by
 show List.lookup x (sc.names.map _)=_;generalize sc.names=l;induction l with
 |nil=>rfl|cons y r ih=>obtain⟨m,k⟩:=y;by_cases hx:x=m;subst hx;simp only[c6];by_cases hc:(k==NameKind.free&&env.scope.kind==.function&&env.kindOf x==some .cell)=true;rw[if_pos hc];simp only[lx,Pk,u7];rw[if_pos hc];rw[if_neg hc];simp only[lx,Pk,u7];rw[if_neg hc];have hb:(x==m)=false:=beq_eq_false_iff_ne.mpr hx;simp only[c6];by_cases hc:(k==NameKind.free&&env.scope.kind==.function&&env.kindOf m==some .cell)=true;rw[if_pos hc];simp only[lx,hb];exact ih;rw[if_neg hc];simp only[lx,hb];exact ih
def Zf(sc:Scope)(env:Env)(C:Addr):Env:=
 { scope:=relabel sc env,locals:=C,globals:=env.globals,cells:=cellsFrom (C+1) sc.names<|dg env.cells sc.names [],qual:=env.qual,func:=none,code:=env.code,frame:=env.frame,builtins:=env.builtins }
theorem Jg{M:Model}{E:Value->Shared->Prop}
  (h:Q { scope:=sc,locals:=s.heap.objs.size,globals:=env.globals,cells:=cellsFrom (s.heap.objs.size+1) sc.names<|dg env.cells sc.names [],qual:=env.qual,func:=none,code:=env.code,frame:=env.frame,builtins:=env.builtins }
   { s with heap:=pushCells (s.heap.push { cls:=.type "dict",data:=.dict #[] }) sc.names }) :
  wpAny M A (newFunctionEnv sc env.globals (dg env.cells sc.names []) [] env.qual none .none<|some env) Q E s:=by
 simp only[newFunctionEnv,Option.isSome_some,if_true];refine O2<|wpAny_alloc ?_;refine O2<|wpAny_layCells _ (λname kind cells=>by cases hkc:kind==NameKind.cell<;>simp[hkc]) _ _ _ _ ?_;rw[show({ s with heap:=s.heap.push { cls:=.type "dict",data:=.dict #[] } }:Shared).heap.objs.size=s.heap.objs.size+1 from mJ ..];exact O2<|O4 (O4 h)
def Cx.lc(X:Cx)(sc:Scope)(vars:List Str)(sel:List Nat)(s:Shared)(H:Hp)(fp:List Addr):Cx where
 prog:=X.prog
 w:=X.w
 K:=X.K
 mg:=X.mg
 base:=X.base
 A:=X.A
 N:=vars++sel.map λj=>X.N.getD j ""
 s₀:=s
 H₀:=H
 env:=Zf sc X.env s.heap.objs.size
 outer:=X.stack
 stack:=X.stack
 ex:=fp
 fn:=λx=>decide (sc.names.lookup x=some .cell)
 calm:=X.calm
 pn:=[]
 xe:=λ_ _=>False
noncomputable def tx(N:List Str)(sc:Scope)(sel:List Nat):Bool:=sel.all λj=>match N[j]? with|some x=>decide (sc.names.lookup x=some .free)|none=>false
noncomputable def ii(nv:Nat)(sel:List Nat)(σ:St):St:=List.replicate nv none++sel.map λj=>(σ[j]?).getD none
section
variable{H:Hp}
theorem BV(I:Inv X pins σ H s)(ok:mr sc X.env.scope=true):∀y∈sc.names,y.2=.free->∃c,X.env.cells.lookup y.1=some c:=λy hy hk=>by
 simp only[mr,cV,Ybf,yS,rZ,O6,decide_eq_false_iff_not]at ok;rcases ok.2 y hy with z|z
 exact O5 hk z;exact I.ok.has y.1 z
theorem Jh(I:Inv X pins σ H s)(ok:mr sc X.env.scope=true)(so:tx X.N sc sel=true)(hf:∀b∈fp,fv X pins H b)(ho:∀b∈fp,∃o,s.heap.get? b=some o)(ha:X.env.scope.kind=.function:=by rfl) :
  Inv (X.lc sc vars sel s H fp) [] (ii vars.length sel σ) H { s with heap:=pushCells (s.heap.push { cls:=.type "dict",data:=.dict #[] }) sc.names }:=by
 have hcl:=BV I ok;have ok':=ok;simp only[mr,cV,Ybf,yS,rZ,O6,decide_eq_false_iff_not]at ok';obtain⟨⟨hk,nd⟩,hfree⟩:=ok';have szp:(s.heap.push { cls:=.type "dict",data:=.dict #[] }).objs.size=s.heap.objs.size+1:=mJ ..;have keep:∀b o,s.heap.get? b=some o->(pushCells (s.heap.push { cls:=.type "dict",data:=.dict #[] }) sc.names).get? b=some o:=λb o e=>pushCells_keeps _ _ _ _<|dq _ e;have okc:=cellsFrom_ok sc.names (s.heap.push { cls:=.type "dict",data:=.dict #[] }) (s.heap.objs.size+1) [] ⟨λ_ _ hm=>(nomatch hm),List.Pairwise.nil⟩ (by rw[szp];exact bS _);rw[szp]at okc
 have own:∀x,sc.names.lookup x=some .cell->∃c,(Zf sc X.env s.heap.objs.size).cells.lookup x=some c/\(x,c)∈cellsFrom (s.heap.objs.size+1) sc.names []:=λx hx=>by
  have e:=(rz sc.names (s.heap.objs.size+1) (dg X.env.cells sc.names []) [] nd).1 hx;obtain⟨c,hc⟩:=eE (sc:=sc) (n:=s.heap.objs.size+1) hx;exact⟨c,by show(cellsFrom _ _ _).lookup x=_;rw[e];exact hc,Pb hc⟩
 have clo:∀x,sc.names.lookup x=some .free->∃c,(Zf sc X.env s.heap.objs.size).cells.lookup x=some c/\X.env.cells.lookup x=some c:=λx hx=>by
  have e:=(rz sc.names (s.heap.objs.size+1) (dg X.env.cells sc.names []) [] nd).2 (by rw[hx];decide);obtain⟨c,h1,h2⟩:=(@vL X.env.cells x sc.names [] nd).1 hx;obtain⟨c',h3⟩:=hcl (x,.free) (Pb hx) rfl;have h3':X.env.cells.lookup x=some c':=h3;rw[h3']at h2;have h4:c'=c:=h2;subst h4;exact⟨c',by show(cellsFrom _ _ _).lookup x=_;rw[e];exact h1,h3'⟩
 have oth:∀x c,(Zf sc X.env s.heap.objs.size).cells.lookup x=some c->sc.names.lookup x=some .cell\/sc.names.lookup x=some .free:=λx c hc=>by
  by_cases h1:sc.names.lookup x=some .cell
  .exact .inl h1
  .by_cases h2:sc.names.lookup x=some .free
   .exact .inr h2
   .have e:=(rz sc.names (s.heap.objs.size+1) (dg X.env.cells sc.names []) [] nd).2 h1
    have e2:=(@vL X.env.cells x sc.names [] nd).2 h2;have hc':(cellsFrom (s.heap.objs.size+1) sc.names<|dg X.env.cells sc.names []).lookup x=some c:=hc;rw[e,e2]at hc';simp at hc'
 have ownC:∀x c,(x,c)∈cellsFrom (s.heap.objs.size+1) sc.names []->(pushCells (s.heap.push { cls:=.type "dict",data:=.dict #[] }) sc.names).IsCell c none/\s.heap.objs.size+1<=c:=λx c h=>okc.empty x c h;have cloLt:∀x c,X.env.cells.lookup x=some c->c<s.heap.objs.size:=λx c h=>by
  obtain⟨v,q⟩:=I.cell x c h;exact q.lt
 have noA:∀b∈fp,b<s.heap.objs.size:=λb hb=>by obtain⟨o,e⟩:=ho b hb;exact c8 e
 refine ⟨⟨I.ok.mod,hk,I.ok.glob,I.ok.blt,bS _,λx y c h1 h2=>?_,λx hx=>?_,λx c hx h=>?_,I.ok.hd,I.ok.frames,.inl rfl,λb hb=>⟨gF<|noA b hb,λx c h=>?_⟩,I.bs,hX I.ok.bsz I.sz,λb o e hb=>?_,λb hb hq=>?_,I.stack,I.stkFree,I.sysn⟩,
  rfl,I.bare,Un.kept keep,⟨λ_=>none,?_,λi x v h1 h2 h3=>?_⟩,λx c h=>?_,I.hok.fresh<|bS _,λx c h=>?_,λp hp=>O5 (show p∈([]:List (Addr×Obj)) from hp)<|by simp,I.hok.kept keep,?_⟩
 ·-- inj
  replace h1:(Zf sc X.env s.heap.objs.size).cells.lookup x=some c:=h1;replace h2:(Zf sc X.env s.heap.objs.size).cells.lookup y=some c:=h2;rcases oth x c h1 with k1|k1<;>rcases oth y c h2 with k2|k2
  .obtain⟨c1,e1,m1⟩:=own x k1
   obtain⟨c2,e2,m2⟩:=own y k2;rw[h1]at e1;rw[h2]at e2;cases e1;cases e2;exact name_of_addr okc.apart m1 m2
  .obtain⟨c1,e1,m1⟩:=own x k1
   obtain⟨c2,e2,m2⟩:=clo y k2;rw[h1]at e1;rw[h2]at e2;cases e1;cases e2;exact O5 (dG (cloLt y c m2)<|A8 (ownC x c m1).2)<|iR _
  .obtain⟨c1,e1,m1⟩:=clo x k1
   obtain⟨c2,e2,m2⟩:=own y k2;rw[h1]at e1;rw[h2]at e2;cases e1;cases e2;exact O5 (dG (cloLt x c m1)<|A8 (ownC y c m2).2)<|iR _
  .obtain⟨c1,e1,m1⟩:=clo x k1
   obtain⟨c2,e2,m2⟩:=clo y k2;rw[h1]at e1;rw[h2]at e2;cases e1;cases e2;exact I.ok.inj x y c m1 m2
 ·-- has
  have hx':(relabel sc X.env).names.lookup x=some .cell\/(relabel sc X.env).names.lookup x=some .free:=hx;rw[ET]at hx';cases q:sc.names.lookup x with
  |none=>rw[q]at hx';simp at hx'
  |some k=>
   cases k with
   |cell=>obtain⟨c,e,_⟩:=own x q;exact⟨c,e⟩
   |free=>obtain⟨c,e,_⟩:=clo x q;exact⟨c,e⟩
   | «local»=>rw[q]at hx';simp at hx'|globalExplicit=>rw[q]at hx';simp at hx'|globalImplicit=>rw[q]at hx';simp at hx'
 .have hx':sc.names.lookup x=some .cell:=of_decide_eq_true hx
  obtain⟨c1,e1,m1⟩:=own x hx';have h':(Zf sc X.env s.heap.objs.size).cells.lookup x=some c:=h;rw[h']at e1;cases e1;have:=(ownC x c m1).2;show s.heap.objs.size<=c;omega
 .rcases oth x c h with k|k
  .obtain⟨c1,e1,m1⟩:=own x k
   rw[show(Zf sc X.env s.heap.objs.size).cells.lookup x=some c from h]at e1;cases e1;exact λz=>O5 (dG (noA b hb)<|A8 (ownC x c m1).2) (by rw[z];exact iR _)
  .obtain⟨c1,e1,m1⟩:=clo x k
   rw[show(Zf sc X.env s.heap.objs.size).cells.lookup x=some c from h]at e1;cases e1;exact(hf b hb).2.2.2.2.1 x c m1
 .have q:=(hf b hb).2.2.2.1
  rcases q with q|q
  .exact I.ok.noex b o e q
  .exact O5 (dG (c8 (I.ok.bs b o e).1) q)<|iR _
 .rcases Yao.mp (I.stkSub b hq) with z|z
  .exact(hf b hb).2.1 z
  .exact(hf b hb).2.2.1 z
 ·-- the names' dict
  refine Heap.Ns.keeps (h:=s.heap.push { cls:=.type "dict",data:=.dict #[] }) ?_<|λb o e=>pushCells_keeps _ _ _ _ e;exact⟨_,#[],_,g9 _ rfl,rfl,λe he=>O5 he<|by simp,λ_=>rfl⟩
 ·-- what is seen
  have hi:vars.length<=i:=by
   rcases jB i vars.length with z|z
   .exfalso
    unfold ii at h2;rw[j9<|by simpa using z,mI]at h2;split at h2<;>cases h2
   .exact z
  unfold ii at h2;rw[jY<|by simpa using hi,pY,cE]at h2;have h1':(vars++sel.map λj=>X.N.getD j "")[i]? = some x:=h1;rw[jY hi,cE]at h1';cases q:sel[i-vars.length]? with
  |none=>rw[q]at h2;cases h2
  |some j=>
   rw[q]at h1' h2;have e1:X.N.getD j "" = x:=O8 h1';have e2:(σ[j]?).getD none=some v:=O8 h2;have hj:∃y,X.N[j]? = some y/\sc.names.lookup y=some .free:=by
    have:=Ybf.mp so j<|jz q;cases z:X.N[j]? with
    |none=>rw[z]at this;cases this
    |some y=>rw[z]at this;exact⟨y,rfl,of_decide_eq_true this⟩
   obtain⟨y,hy,hyf⟩:=hj;have:y=x:=by
    rw[<-e1,aZ,hy];rfl
   subst this;have e3:σ[j]? = some (some v):=by
    cases z:σ[j]? with
    |none=>rw[z]at e2;cases e2
    |some w=>rw[z]at e2;exact congrArg some e2
   obtain⟨c,k1,k2⟩:=clo y hyf;have vis:kX X.env.scope y:=by
    rcases hfree (y,.free) (Pb hyf) with z|z|z
    .exact O5 rfl z
    .exact .inr<|.inl z
    .exact .inr<|.inr z
   obtain⟨m,hn,hl⟩:=I.loc;obtain⟨u,r,l⟩:=hl j y v hy e3 vis;refine⟨u,r,?_⟩;have notloc:X.env.kindOf y≠some .local:=by
    rcases hfree (y,.free) (Pb hyf) with z|z|z
    .exact O5 rfl z
    .show X.env.scope.names.lookup y≠_;rw[z];decide
    .show X.env.scope.names.lookup y≠_;rw[z];decide
   rcases l with⟨z,_⟩|⟨_,c',e',q'⟩
   .exact O5 z notloc
   .rw[k2]at e';cases e'
    have kk:(Zf sc X.env s.heap.objs.size).kindOf y=some .cell\/(Zf sc X.env s.heap.objs.size).kindOf y=some .free:=by
     show(relabel sc X.env).names.lookup y=_\/(relabel sc X.env).names.lookup y=_;rw[ET,hyf];simp only[u7];split
     .exact .inl rfl
     .exact .inr rfl
    exact .inr ⟨kk,c,k1,q'.keeps keep⟩
 .rcases oth x c h with k|k
  .obtain⟨c1,e1,m1⟩:=own x k
   rw[show(Zf sc X.env s.heap.objs.size).cells.lookup x=some c from h]at e1;cases e1;exact⟨none,(ownC x c m1).1⟩
  .obtain⟨c1,e1,m1⟩:=clo x k
   rw[show(Zf sc X.env s.heap.objs.size).cells.lookup x=some c from h]at e1;cases e1;obtain⟨v,q⟩:=I.cell x c m1;exact⟨v,q.keeps keep⟩
 .rcases oth x c h with k|k
  .obtain⟨c1,e1,m1⟩:=own x k
   rw[show(Zf sc X.env s.heap.objs.size).cells.lookup x=some c from h]at e1;cases e1;exact I.hok.fresh (by have:=(ownC x c m1).2;omega)
  .obtain⟨c1,e1,m1⟩:=clo x k
   rw[show(Zf sc X.env s.heap.objs.size).cells.lookup x=some c from h]at e1;cases e1;exact I.freeC x c m1
 .show(ii vars.length sel σ).length=(vars++sel.map _).length
  unfold ii;simp
end
def PF(X:Cx)(ifs:List Expr)(t:TT):Prop:=
 ∀(pins:List (Addr×Obj)) (s:Shared) (σ:St) (H:Hp) (Q:Bool->Hp->Prop),Inv X pins σ H s->t σ H Q->
  wpAny (model X.prog X.w) X.A (forIn ifs true λc r=>if r=true then do let ok <-isTrue c X.env (eval c X.env);pure (ForInStep.yield ok) else pure (ForInStep.yield r)) (TP X pins σ Q) X.xe s
def vM:TT:=λ_ H Q=>Q true H
theorem Ji:PF X [] vM:=λ_ _ _ H _ I h=>wpAny_tests_nil ⟨H,I,h⟩
theorem Jj{c:Expr}{t:TT}(h:PT X c t):PF X [c] t:=λpins s σ H Q I q=>wpAny_tests_one<|h pins s σ H Q I q
def vN(g:TG)(tf:TT)(te:TE)(J:It)(D:Addr)(Q:Hp->Prop)(W:Nat->Nat->List V->St->Hp->Prop):Prop:=
 ∀ i m ys σ2 H2,W i m ys σ2 H2->H2 D=some (.lst ys)/\((J.stop i H2/\Q H2)\/(J.go i H2/\∀ x H3,J.yld i H2 x H3->g x σ2 H3 λσ4 H4=>tf σ4 H4 λb H5=>
  if b=true then te σ4 H5 λv H6=>H6 D=some (.lst ys)/\ys.length<sizeLine/\∃m',m'<m/\W (i+1) m' (ys++[v]) σ4 (upd H6 D<|.lst<|ys++[v]) else∃m',m'<m/\W (i+1) m' ys σ4 H5))
def BW(wi:TI)(nv:Nat)(sel:List Nat)(g:TG)(tf:TT)(te:TE):TE:=λσ H Q=>wi σ H λJ H1=>∀D,H1 D=none->
 ∃W:Nat->Nat->List V->St->Hp->Prop,(∃m,W 0 m [] (ii nv sel σ)<|upd H1 D<|.lst [])/\vN g tf te J D (Q<|.ref D) W
section
variable{H1:Hp}{s2:Shared}{elt target iter:Expr}{ifs:List Expr}{g:TG}{tf:TT}{te:TE}
theorem Jk{prog:Program}{R:Result->Shared->Prop}{it acc:Value}(I:Nat->Shared->Prop)
  (turn:∀ n s,I n s->wpAny (model prog w) A (pyNext it) (λr s₁=>match r with
   |none=>R (.ok .next) s₁
   | some v=>wpAny (model prog w) A (letOwnedTupleGo target it v) (λ_ s₁'=>wpAny (model prog w) A (assign target env v) (λ_ s₂=>
     wpAny (model prog w) A (forIn ifs true λc r=>if r=true then do let ok <- isTrue c env (eval c env);pure (ForInStep.yield ok) else pure (ForInStep.yield r)) (λok s₃=>
      if ok=true then wpAny (model prog w) A (eval elt env) (λx s₄=>
       wpAny (model prog w) A (call (.builtin "list.append") [acc,x]) (λ_ s₅=>∃m,m<n/\I m s₅) (λ_ _=>False) s₄) (λ_ _=>False) s₃
      else∃m,m<n/\I m s₃) (λ_ _=>False) s₂) (λ_ _=>False) s₁') (λ_ _=>False) s₁) (λ_ _=>False) s)
  (n:Nat) (h:I n s) :
  codeAny (model prog w) A (.compLoop (.ListComp elt [⟨target,iter,ifs,0⟩] scope pos) 0 it acc env) R s:=by
 refine codeAny_loop rfl I (λn s hI=>?_) n h;show wpAny _ A ((compTurn (.ListComp elt [⟨target,iter,ifs,0⟩] scope pos) 0 it acc env).onRaise (λx=>do noteFrame x env;theTreesLotGoes x)) _ _ s;refine wpAny_noted ?_;rw[compTurn_list];refine O2<|Pp (O2<|Ph (turn n s hI) (λr s₁ h₁=>?_) λ_ _ h'=>h'.elim);cases r with
 |none=>exact O4 h₁
 |some v=>
  refine O2<|Ph h₁ (λ_ s₁' h₁'=>?_) λ_ _ h'=>h'.elim;refine O2<|Ph h₁' (λ_ s₂ h₂=>O2<|Ph h₂ (λok s₃ h₃=>?_) λ_ _ h'=>h'.elim) λ_ _ h'=>h'.elim;cases ok with
  |false=>exact O4 ⟨rfl,h₃⟩
  |true=>
   exact O2<|O2 (Ph h₃ (λx s₄ h₄=>O2<|Ph h₄ (λ_ s₅ h₅=>O4<|O4 ⟨rfl,h₅⟩) λ_ _ h'=>h'.elim) λ_ _ h'=>h'.elim)
theorem EU{J:It}{it:Addr}{Q:VK}{E:Value->Shared->Prop}{R:Value->Addr->Result->Shared->Prop}(hc:X.calm=true)
  (hg:∀s H fp,PG (X.lc sc vars sel s H fp) target g) (hf:∀s H fp,PF (X.lc sc vars sel s H fp) ifs tf) (he:∀s H fp,PE (X.lc sc vars sel s H fp) elt te)
  (ok:mr sc X.env.scope=true) (so:tx X.N sc sel=true)
  (I2:Inv X pins σ H1 s2) (T:jH X.prog X.w X.K target J fp it tn) (st2:tn 0 s2.heap) (f2:∀b∈fp,fv X pins H1 b)
  (q:∀D,H1 D=none->∃W:Nat->Nat->List V->St->Hp->Prop,(∃m,W 0 m [] (ii vars.length sel σ)<|upd H1 D<|.lst [])/\vN g tf te J D (Q<|.ref D) W)
  (hR:∀D C H' s',Inv X pins σ H' s'->Q (.ref D) H'->(∃m,s'.heap.Ns C m)->fv X pins H' C->R (.ref D) C (.ok .next) s') :
  wpAny (model X.prog X.w) X.A (newList []) (λacc s₃=>wpAny (model X.prog X.w) X.A (newFunctionEnv sc X.env.globals (dg X.env.cells sc.names []) [] X.env.qual none .none<|some X.env) (λcenv s₄=>
   codeAny (model X.prog X.w) X.A (.compStart (.ListComp elt [⟨target,iter,ifs,0⟩] sc pos) 0 (.ref it) acc { cenv with scope:=relabel sc X.env }) (R acc cenv.locals) s₄) E s₃) E s2:=by
 refine Pg ?_;have hD0:H1 s2.heap.objs.size=none:=I2.hok.fresh<|bS _;obtain⟨W,⟨m0,w0⟩,turn⟩:=q _ hD0;have I3:Inv X pins σ (upd H1 s2.heap.objs.size<|.lst []) { s2 with heap:=s2.heap.push { cls:=.type "list",data:=.seq ([]:List Value).toArray },toks:=s2.toks }:=I2.lnew (ys:=[]) .nil<|kW _;have ho2:∀b∈fp,∃o,s2.heap.get? b=some o/\∀v,o.data≠.cell v:=T.obj _ _ st2;have lt2:∀b∈fp,b<s2.heap.objs.size:=λb hb=>by obtain⟨o,e,_⟩:=ho2 b hb;exact c8 e
 have f3:∀b∈fp,fv X pins (upd H1 s2.heap.objs.size<|.lst []) b:=λb hb=>⟨by rw[aJ<|gF<|lt2 b hb];exact(f2 b hb).1,(f2 b hb).2⟩;have ho3:∀b∈fp,∃o,(s2.heap.push { cls:=.type "list",data:=.seq ([]:List Value).toArray }).get? b=some o:=λb hb=>by obtain⟨o,e,_⟩:=ho2 b hb;exact⟨o,dq _ e⟩
 refine Jg (s:={ s2 with heap:=s2.heap.push { cls:=.type "list",data:=.seq ([]:List Value).toArray },toks:=s2.toks }) ?_;generalize hs3:({ s2 with heap:=s2.heap.push { cls:=.type "list",data:=.seq ([]:List Value).toArray },toks:=s2.toks }:Shared)=s3 at I3 ⊢;have kp23:∀b o,s2.heap.get? b=some o->s3.heap.get? b=some o:=λb o e=>by rw[<-hs3];exact dq _ e
 have sz3:s3.heap.objs.size=s2.heap.objs.size+1:=by rw[<-hs3];exact mJ ..
 have os3:s3.os=s2.os:=by rw[<-hs3]
 have ho3':∀b∈fp,∃o,s3.heap.get? b=some o:=λb hb=>by rw[<-hs3];exact ho3 b hb
 have I4:=Jh (vars:=vars) I3 ok so f3 ho3' I2.ok.kind;have kp4:∀b o,s3.heap.get? b=some o->(pushCells (s3.heap.push { cls:=.type "dict",data:=.dict #[] }) sc.names).get? b=some o:=λb o e=>pushCells_keeps _ _ _ _<|dq _ e;have st4:tn 0 (pushCells (s3.heap.push { cls:=.type "dict",data:=.dict #[] }) sc.names):=T.keep _ _ _ st2 λb hb o e=>kp4 b o<|kp23 b o e
 have stat:∀{H':Hp},(∀b∈fp,H' b=none)->∀b∈fp,fv (X.lc sc vars sel s3 (upd H1 s2.heap.objs.size<|.lst []) fp) [] H' b:=λ{H'} hn b hb=>by
  refine⟨hn b hb,(I4.ok.exf b hb).1,I4.ok.exfs b hb,.inl hb,λx c e z=>(I4.ok.exf b hb).2 x c e z,λp hp=>O5 (show p∈([]:List (Addr×Obj)) from hp)<|by simp⟩
 have loop:codeAny (model X.prog X.w) X.A (.compLoop (.ListComp elt [⟨target,iter,ifs,0⟩] sc pos) 0 (.ref it) (.ref s2.heap.objs.size)<|Zf sc X.env s3.heap.objs.size)
   (R (.ref s2.heap.objs.size) s3.heap.objs.size) { s3 with heap:=pushCells (s3.heap.push { cls:=.type "dict",data:=.dict #[] }) sc.names }:=by
  refine Jk (λn s'=>∃i ys σ' H',Inv (X.lc sc vars sel s3 (upd H1 s2.heap.objs.size<|.lst []) fp) [] σ' H' s'/\tn i s'.heap/\(∀b∈fp,H' b=none)/\W i n ys σ' H') ?_ m0
   ⟨0,[],_,_,I4,st4,λb hb=>(f3 b hb).1,w0⟩
  rintro n s5 ⟨i,ys,σ5,H5,I5,st5,fr5,w5⟩;obtain⟨hD,⟨stop,qn⟩|⟨go,step⟩⟩:=turn i n ys σ5 H5 w5
  .refine bL (T.done (X.lc sc vars sel s3 (upd H1 s2.heap.objs.size<|.lst []) fp) rfl rfl rfl hc i [] s5 σ5 H5 _ I5 (stat fr5) st5 stop) λr s6 ⟨hr,I6⟩=>?_
   subst hr;have un:Un (cW X.stack) fp H1 H5 s2.heap s6.heap:=by
    have a:Un (cW X.stack) fp H1 (upd H1 s2.heap.objs.size<|.lst []) s2.heap s3.heap:=Un.laid kp23 (bS _) hD0;exact a.trans I6.base
   have I7:Inv X pins σ H5 s6:=I2.call' (ch:=fp) (I6.os.trans os3) un I6.hok I6.bare λb hb=>⟨(f2 b hb).2.2.2.1,(f2 b hb).2.1,(f2 b hb).2.2.2.2.1,(f2 b hb).2.2.2.2.2⟩;refine hR _ _ H5 s6 I7 qn ?_ ?_
   .obtain⟨m,hn,_⟩:=I6.loc
    exact⟨m,hn⟩
   .exact I3.fpOk (bS _) I6.free
  .refine bL (T.item (X.lc sc vars sel s3 (upd H1 s2.heap.objs.size<|.lst []) fp) rfl rfl rfl hc i [] s5 σ5 H5 _ I5 (stat fr5) st5 go) λr s6 ⟨u,hr,h6⟩=>?_
   subst hr;refine bL h6 λ_ s7 ⟨x,H7,I7,r7,y7,st7,fr7⟩=>?_;have I7':=I7.pinned (stat fr7)<|T.obj _ _ st7;refine bL (hg _ _ _ _ s7 σ5 H7 x u _ I7' r7<|step x H7 y7) λ_ s8 ⟨σ8,H8,I8,q8⟩=>?_;refine bL (hf _ _ _ _ s8 σ8 H8 _ I8 q8) λb s9 ⟨H9,I9,q9⟩=>?_;have back:∀{σ':St} {H':Hp} {s':Shared},Inv (X.lc sc vars sel s3 (upd H1 s2.heap.objs.size<|.lst []) fp) ([]++gO fp s7.heap) σ' H' s'->tn (i+1) s'.heap/\∀b∈fp,H' b=none:=λ{σ' H' s'} I'=>by
    refine⟨T.keep _ _ _ st7 λb hb o e=>(I'.pin (b,o)<|nY _<|nY _<|dM hb e).1,λb hb=>?_⟩;obtain⟨o,e,d⟩:=T.obj _ _ st7 b hb;exact(I'.pin (b,o)<|nY _<|nY _<|dM hb e).2.1
   cases b with
   |false=>
    rw[if_neg<|by decide]at q9 ⊢;obtain⟨m',hm,w9⟩:=q9;exact⟨m',hm,i+1,ys,σ8,H9,I9.unpinned,(back I9).1,(back I9).2,w9⟩
   |true=>
    rw[if_pos rfl]at q9 ⊢;refine bL (he _ _ _ _ s9 σ8 H9 _ I9 q9) λv sA ⟨y,HA,IA,rA,hDA,hz,m',hm,wA⟩=>?_;obtain⟨z,its,nn,rr,hl,e⟩:=IA.lstM hDA;refine call_meets F.slot_list_append ⟨_,e,rfl⟩ F.entry_list_append (F.args_list_append_2 _ _) (PySem.list_append _ its.toArray nn v (by rw[eX];omega)) ⟨e,?_⟩;have IB:=IA.lset (its':=its++[v]) (f:=(·.push v)) (t':=sA.toks) hDA e (by simp) (rr.append<|.cons rA .nil) (by rw[d9,mh];omega);exact⟨m',hm,i+1,ys++[y],σ8,_,IB.unpinned,(back IB).1,(back IB).2,wA⟩
 exact codeAny_compStart_list loop<|T.self _ 0 _ _ _ st4 loop
theorem vO(vars:List Str)(sel:List Nat)(hc:X.calm=true)(hi:PI X target iter wi)
  (ok:mr sc X.env.scope=true) (so:tx X.N sc sel=true)
  (hg:∀s H fp,PG (X.lc sc vars sel s H fp) target g) (hf:∀s H fp,PF (X.lc sc vars sel s H fp) ifs tf) (he:∀s H fp,PE (X.lc sc vars sel s H fp) elt te)
  (hs:∀x,foldedSetIterable iter X.env x=pure x:=by intro _;rfl):PE X (.ListComp elt [⟨target,iter,ifs,0⟩] sc pos) (BW wi vars.length sel g tf te):=by
 intro pins s σ H Q I h;rw[eval_ListComp];have ok':=ok;simp only[mr,cV,O6]at ok';refine wpAny_comprehension_free (use:=none) rfl hs (ES<|BV I ok) ok'.1.1 (λx hx hl=>?_) ?_
 .obtain⟨n,k⟩:=x
  have hl':k=.local:=hl;subst hl';exact BU ok'.1.2 hx
 .refine bL (hi pins s σ H _ I h) λv s1 h1=>bL h1 λitv s2 h2=>?_
  obtain⟨it,fp,tn,J,H2,e,I2,T,st2,f2,q⟩:=h2;subst e;refine EU (Q:=Q) hc hg hf he ok so I2 T st2 f2 q λD C H' s' I' q' hn fC=>?_;obtain⟨m,hn⟩:=hn;refine⟨m,hn,λh' hs'=>?_⟩;obtain⟨f0,f1,f2,f3,f4,f5⟩:=fC;exact⟨.ref D,H',I'.turned (t':=s'.toks) (λb o hb e=>(hs'.2 b hb).trans e) f0 f1 f3 f4 f5,rfl,q'⟩
theorem EV{i:Nat}{pos' spos:Pos}(vars:List Str)(sel:List Nat)(hc:X.calm=true)(hN:X.N.Nodup)(hix:X.N[i]? = some x)(hx:mo X.env.scope x)(hi:PI X target iter wi)
  (ok:mr sc X.env.scope=true) (so:tx X.N sc sel=true)
  (hg:∀s H fp,PG (X.lc sc vars sel s H fp) target g) (hf:∀s H fp,PF (X.lc sc vars sel s H fp) ifs tf) (he:∀s H fp,PE (X.lc sc vars sel s H fp) elt te)
  (hsw:swapsWith (.ListComp elt [⟨target,iter,ifs,0⟩] sc pos) (some<|.Name x pos') spos.line X.env=pure true)
  (hs:∀x,foldedSetIterable iter X.env x=pure x:=by intro _;rfl) (hfn:X.fn x=true\/X.env.scope.names.lookup x=some .local:=by first|exact .inl rfl|exact .inr rfl|assumption) :
  PS X (.Assign [.Name x pos'] (.ListComp elt [⟨target,iter,ifs,0⟩] sc pos) spos) (sK (BW wi vars.length sel g tf te)<|kZ i):=by
 intro pins s σ H D I h;rw[exec_Assign_Name_used _ _ _ _ hsw];refine O2<|Pp (O2 ?_);show wpAny _ X.A (do let _ <-comprehension (.ListComp elt [⟨target,iter,ifs,0⟩] sc pos) sc X.env _ (newList []) false (eval iter X.env) (some<|assign (.Name x pos') X.env)) _ _ s;have ok':=ok;simp only[mr,cV,O6]at ok';refine O2<|Ph (wpAny_comprehension_free (use:=some<|assign (.Name x pos') X.env) (Q:=λ_ s'=>SP X pins D .next s') rfl hs (ES<|BV I ok) ok'.1.1 (λx hx hl=>?_) ?_) (λ_ s' q=>O4<|O4 q) λ_ _ e=>e
 .obtain⟨n,k⟩:=x
  have hl':k=.local:=hl;subst hl';exact BU ok'.1.2 hx
 .refine bL (hi pins s σ H _ I h) λv s1 h1=>bL h1 λitv s2 h2=>?_
  obtain⟨it,fp,tn,J,H2,e,I2,T,st2,f2,q⟩:=h2;subst e;refine EU (Q:=λv H'=>kZ i v σ H' D.nx) hc hg hf he ok so I2 T st2 f2 q λD' C H' s' I' q' hn fC=>?_;obtain⟨m,hn⟩:=hn;obtain⟨f0,f1,f2,f3,f4,f5⟩:=id fC;refine wpAny_assign_Name<|fQ I' hN hix hx (v:=.ref D') rfl (λs'' I'' ⟨a,sb,ha⟩=>?_) hfn;have hCa:C≠a:=by
   rcases ha with z|z
   .rw[z];exact f1
   .exact Pa<|f4 x a z
  refine⟨m,hn.sameBut sb hCa,λh' hs'=>?_⟩;exact⟨_,H',I''.turned (t':=s''.toks) (λb o hb e=>(hs'.2 b hb).trans e) f0 f1 f3 f4 f5,q'⟩
end
end L2
namespace HT
open PySem PySem.Spec PyProof.Rows
section
variable{prog:Program}{w:World}{A:Around}{E:Value->Shared->Prop}{s:Shared}
theorem getItem_tuple_whole{t sl:Addr}{items:Array Value}{vl vu:Value}{lo hi:Option Int}{Q:Value->Shared->Prop}(ht:IsTup s.heap t items)(hs:s.heap.IsSliceOf sl vl vu .none)(pl:IsPart vl lo)(pu:IsPart vu hi)
  (hw:sIx items.size 0 lo=0/\sIx items.size items.size hi=items.size) (h:Q (.ref t) s):wpAny (model prog w) A (getItem (.ref t)<|.ref sl) Q E s:=by
 obtain⟨os,hos,hcs,hds⟩:=id hs;have hTs:s.TypeIs (.ref sl) "slice" :=⟨os,hos,hcs⟩
 unfold getItem
 try with_reducible refine Pl ?_
 first|refine O2 (O4 ?_)|skip
 refine O2<|wpAny_sequenceKey ht.typeIs (by decide) ?_;refine O2 (wpAny_callSpecial?_slot (name:=Str.ofString "__getitem__") ht.typeIs PyProof.Rows.slot_tuple_getitem
  (Pq PyProof.Rows.slot_tuple_getitem ht.typeIs entry_tuple_getitem ?_<|args_tuple_getitem _ _))
 show wpAny _ _ (Builtin.Tuple.tupleItemsOf (.ref t) >>= _) _ _ s;refine O2<|tupleItemsOf_ ht ?_;refine O2<|PC hTs ?_;rw[if_pos<|by decide];refine O2<|dJ hs pl pu ?_;have hyes:(((sIx items.size 0 lo:Nat):Int)==0&&(1:Int)==1&&(sIx items.size items.size hi-sIx items.size 0 lo)==items.size)=true:=by
  rw[hw.1,hw.2];simp
 show wpAny _ _ (if(((sIx items.size 0 lo:Nat):Int)==0&&(1:Int)==1&&(sIx items.size items.size hi-sIx items.size 0 lo)==items.size)=true then _ else _) _ _ s;rw[if_pos hyes];have ex:Builtin.Tuple.tupleIsExact (.ref t)=(do return(<-typeOf (.ref t))==.type "tuple"):=rfl;rw[ex];refine O2<|O2 (PC ht.typeIs<|O4 ?_);rw[if_pos<|by decide]
 first
  |exact O2<|Py (O2<|O4<|O4 ⟨_,rfl,O4 h⟩)
  |exact O2<|Py (O4 ⟨_,rfl,O4 h⟩)
  |exact O2<|Py (O2<|O4 ⟨_,rfl,O4 h⟩)
theorem Jl{sl:Addr}{tk:Tok}{n:Nat}{Q:Int×Int×Nat->Shared->Prop}(hs:s.heap.IsSliceOf sl .none .none (.int (-1) tk))
  (h:Q ((n:Int)-1,-1,n) s):wpAny (model prog w) A (Builtin.Slice.sliceApplied (.ref sl)<|pure (n:Int)) Q E s:=by
 obtain⟨os,hos,hcs,hds⟩:=id hs;unfold Builtin.Slice.sliceApplied Builtin.Slice.sliceFields;refine O2<|O2 (Pd hos hds (x:=.none) rfl<|O2<|Pd hos hds (x:=.none) rfl<|O2<|Pd hos hds (x:=.int (-1) tk) rfl<|O4 ?_);refine O2<|slicePart_int ?_;show wpAny _ _ (if((-1:Int)==0)=true then _ else _) _ _ s;rw[if_neg<|by decide];refine O2<|slicePart_none (O2<|slicePart_none<|O2<|O4 ?_);show wpAny _ _ (match Builtin.Slice.sliceAdjust none none (-1) (n:Int) with|(lo,hi)=>pure (lo,(-1:Int),Builtin.Slice.slicePlaces lo hi (-1))) _ _ s;have e:Builtin.Slice.sliceAdjust none none (-1) (n:Int)=((n:Int)-1,-1):=by
  unfold Builtin.Slice.sliceAdjust;simp
 rw[e];have e2:Builtin.Slice.slicePlaces ((n:Int)-1) (-1) (-1)=n:=by
  unfold Builtin.Slice.slicePlaces;simp
  try omega
 show wpAny _ _ (pure ((n:Int)-1,(-1:Int),Builtin.Slice.slicePlaces ((n:Int)-1) (-1) (-1))) _ _ s;rw[e2];exact O4 h
theorem pick_rev(xs:Array Value):((List.range xs.size).filterMap λ(m:Nat)=>xs[((xs.size:Int)-1+(m:Int)*(-1)).toNat]?)=xs.toList.reverse:=by
 refine A9 λi=>?_;have gen:∀(l:List Nat),(∀m∈l,m<xs.size)->(l.filterMap λ(m:Nat)=>xs[((xs.size:Int)-1+(m:Int)*(-1)).toNat]?)=l.map λm=>xs.toList.getD (xs.size-1-m) .none:=by
  intro l;induction l with
  |nil=>intro _;rfl
  |cons m r ih=>
   intro hm;have h1:m<xs.size:=hm m lw;have h2:((xs.size:Int)-1+(m:Int)*(-1)).toNat=xs.size-1-m:=by omega
   have h3:xs.size-1-m<xs.size:=by omega
   rw[yM,h2,Array.getElem?_eq_getElem h3,c6,ih λk hk=>hm k<|jr _ hk];simp[aZ,h3]
 rw[gen _ λm hm=>Yah.mp hm];by_cases hi:i<xs.size;rw[cE,iU hi,List.getElem?_reverse<|by simpa using hi];simp[aZ];rw[Array.getElem?_eq_getElem<|by omega];simp;rw[eL (by simp;omega),eL (by simp;omega)]
theorem getItem_tuple_rev{t sl:Addr}{items:Array Value}{tk:Tok}{Q:Value->Shared->Prop}(ht:IsTup s.heap t items)(hs:s.heap.IsSliceOf sl .none .none (.int (-1) tk))(hsz:items.size<=sizeLine)
  (h:Q (.ref s.heap.objs.size) { s with heap:=s.heap.push { cls:=.type "tuple",data:=.seq items.toList.reverse.toArray } }):wpAny (model prog w) A (getItem (.ref t)<|.ref sl) Q E s:=by
 have htake:sizeOk (.seq items.toList.reverse.toArray):=by
  show items.toList.reverse.toArray.size<=sizeLine;simpa using hsz
 obtain⟨os,hos,hcs,hds⟩:=id hs;have hTs:s.TypeIs (.ref sl) "slice" :=⟨os,hos,hcs⟩
 unfold getItem
 try with_reducible refine Pl ?_
 first|refine O2 (O4 ?_)|skip
 refine O2<|wpAny_sequenceKey ht.typeIs (by decide) ?_;refine O2 (wpAny_callSpecial?_slot (name:=Str.ofString "__getitem__") ht.typeIs PyProof.Rows.slot_tuple_getitem
  (Pq PyProof.Rows.slot_tuple_getitem ht.typeIs entry_tuple_getitem ?_<|args_tuple_getitem _ _))
 show wpAny _ _ (Builtin.Tuple.tupleItemsOf (.ref t) >>= _) _ _ s;refine O2<|tupleItemsOf_ ht ?_;refine O2<|PC hTs ?_;rw[if_pos<|by decide];refine O2<|Jl hs ?_;show wpAny _ _ (if((((items.size:Int)-1)==0&&(-1:Int)==1&&items.size==items.size)=true) then _ else _) _ _ s;rw[if_neg<|by simp,pick_rev]
 first
  |exact O2 (m:=Builtin.Tuple.tupleExact _)<|Pg (O4 ⟨_,rfl,O4 h⟩) htake
  |exact O2 (m:=Builtin.Tuple.tupleExact _)<|Pg (O2<|O4<|O4 ⟨_,rfl,O4 h⟩) htake
  |exact O2<|O2 (m:=Builtin.Tuple.tupleExact _) (Pg (O4<|O4 ⟨_,rfl,O4 h⟩) htake)
  |exact O2<|O2 (m:=Builtin.Tuple.tupleExact _) (Pg (O4 ⟨_,rfl,O4 h⟩) htake)
end
end HT
namespace L2
open PySem PySem.Spec PyProof.Rows
variable{X:Cx}{e tg:Expr}{pos p:Pos}{xs vs ys:Array Value}{us bm bmB:List Value}{A:Around}{s:Shared}{P prog:Program}{base h h':Heap}{env:Env}{outer:List Env}{l b a f:Addr}{Q:Value->Shared->Prop}{oe o:Obj}{w:World}{g:Array GenState}{d:Drawn}{t t' i n1 k:Nat}{os:OsState}{nm q x n name qual:Str}{N sn ns ps:List Str}{hdct ab κ κ':Bool}{col:Option Bool}{dd:Option Addr}{newId:String}{mN m mg:Str->Option Value}{y:Option Value}{v cd:Value}{tk:Tok}{H:Hp}{K:O3}{scope:Scope}{pins:List (Addr×Obj)}{σ:St}{es:List Expr}{ta:TA}{fd:FuncData}
section
variable{te:TE}{p2:Pos}
def vP(K:O3):V->Option Int->Option Int->Hp->VK->Prop:=λx lo hi H Q=>∃a xs,x=.ref a/\SqT K H a xs/\
 (HT.sIx xs.length 0 lo=0/\HT.sIx xs.length xs.length hi=xs.length)/\Q (.ref a) H
theorem Jm:SlR X (vP X.K):=by
 intro pins s σ H x v vl vu lo hi sl Q I rx hs pl pu h;obtain⟨a,xs,rfl,hx,hw,q⟩:=h;cases rx;obtain⟨its,r,ht,hz⟩:=I.tuple hx;have hlen:its.toArray.size=xs.length:=by rw[eX];exact r.length.symm
 refine⟨"tuple",_,PyProof.Rows.slot_tuple_getitem.lookup,ht.typeIs,?_⟩;exact HT.getItem_tuple_whole ht hs pl pu (by rw[hlen];exact hw) ⟨.ref a,H,I,rfl,q⟩
def BX(r:V->Hp->VK->Prop)(te:TE):TE:=λσ H Q=>te σ H λx H1=>r x H1 Q
def BY(K:O3):V->Hp->VK->Prop:=λx H Q=>∃a xs,x=.ref a/\((SqT K H a xs/\∀p,H p=none->Q (.ref p) (upd H p<|.tup xs.reverse))\/(SqL K H a xs/\∀p,H p=none->Q (.ref p) (upd H p<|.lst xs.reverse)))
theorem Vals.rev{xs:List V}(r:Vals xs us):Vals xs.reverse us.reverse:=by
 induction xs generalizing us with
 |nil=>cases r;exact .nil
 |cons x xs ih=>cases r with|cons r t=>rw[yT,yT];exact(ih t).append<|.cons r .nil
theorem Jn(its:List Value):slicePick its.toArray none none (some (-1))=its.reverse.toArray:=by
 have e:slicePick its.toArray none none (some (-1))=((sliceRange ((its.length:Int)-1) (-1) (-1)).filterMap (its.toArray[·]?)).toArray:=by unfold slicePick sliceBounds;simp
 rw[e];congr 1;have h:=HT.pick_rev its.toArray;rw[eX]at h;have h':its.toArray.toList.reverse=its.reverse:=by simp
 rw[h']at h;rw[<-h];unfold sliceRange;simp only[show¬((-1:Int)>0) by decide,if_false];have hn:(if(-1:Int)<(its.length:Int)-1 then(its.length:Int) else 0).toNat=its.length:=by split<;>omega
 simp;rw[hn];rfl
theorem Jo{j pos3 pos4}(he:PE X e te):PE X (.Subscript e (.Slice none none (some<|.UnaryOp .USub (.Constant (.int 1) j pos3) pos4) p2) pos) (BX (BY X.K) te):=by
 intro pins s σ H Q I h;refine Subscript_<|bL (he pins s σ H _ I h) λv s1 ⟨x,H1,I1,r1,a,xs,ex,q1⟩=>?_;subst ex;cases r1;refine wpAny_Slice ?_;rw[evalPart_none];refine O4<|O4 ?_;rw[evalPart_some];refine bL (rf (mW (X:=X)) kf pins s1 σ H1 (λx H'=>x=.int (-1)/\H'=H1) I1 ⟨1,rfl,rfl,rfl⟩) λu s3 ⟨y,H3,I3,r3,e3,e4⟩=>?_;subst e3;obtain rfl:=e4.symm;obtain⟨tk,rfl⟩:=r3;have I4:Inv X pins σ H1 { s3 with heap:=s3.heap.push { cls:=.type "slice",data:=.fields #[.none,.none,.int (-1) tk] } }:=I3.kept (t':=s3.toks) λb ob q=>dq _ q;show wpAny (model X.prog X.w) X.A (subscriptTail e (.Slice none none (some<|.UnaryOp .USub (.Constant (.int 1) j pos3) pos4) p2) (.ref a)<|.ref s3.heap.objs.size) (EP X pins σ Q) X.xe { s3 with heap:=s3.heap.push { cls:=.type "slice",data:=.fields #[.none,.none,.int (-1) tk] } };rcases q1 with⟨hx,q1⟩|⟨hx,q1⟩
 obtain⟨its,r,ht,hz⟩:=I4.tuple hx;have hlen:=r.length;refine tail_any (ops:=[.ref a,.ref s3.heap.objs.size]) ht.typeIs PyProof.Rows.slot_tuple_getitem.lookup (HT.getItem_tuple_rev ht (Heap.IsSliceOf.new ..) (by rw[eX];omega) ?_) (by with_unfolding_all rfl);refine⟨.ref _,_,I4.laid (t':=s3.toks) (o:=.tup xs.reverse) (λb ob q=>dq _ q) (bS _) ?_,rfl,q1 _<|I4.hok.fresh<|bS _⟩;exact⟨by rw[Ba];exact hz,_,r.rev,IsTup.new _ _⟩;obtain⟨its,r,ht,hz⟩:=I4.list hx;have hlen:=r.length;refine tail_any (ops:=[.ref a,.ref s3.heap.objs.size]) ht.isList.typeIs slot_list_getitem.lookup (wpAny_getItem_list_slice ht.isList (Heap.IsSliceOf.new ..) .none .none (.int (-1) tk) (by simp) ?_ (by rw[eX];omega)) (by with_unfolding_all rfl);rw[Jn];refine⟨.ref _,_,I4.laid (t':=s3.toks) (o:=.lst xs.reverse) (λb ob q=>dq _ q) (bS _) ?_,rfl,q1 _<|I4.hok.fresh<|bS _⟩;exact⟨by rw[Ba];exact hz,_,0,r.rev,g9 _ rfl⟩
end
namespace Fl
def lM(P:Obj->Prop):Prop:=∀(o:Obj) f,P o->P (o.mapFields f)
theorem Jp(o:Obj)(f:Array Value->Array Value):(o.mapFields f).dict=o.dict:=by unfold Obj.mapFields;split<;>rfl
def Is(cls:Value)(dx:Option Addr)(o:Obj):Prop:=o.cls=cls/\o.dict=dx
theorem Is.firm{cls:Value}{dx:Option Addr}:lM (Is cls dx):=λo f h=>⟨(Obj.cls_mapFields o f).trans h.1,(Jp o f).trans h.2⟩
def Tr(P:Obj->Prop)(base:Heap)(e:Addr)(fl:Value)(h:Heap):Prop:=
 ∃(oe:Obj) (vs:Array Value) (T:Addr) (oT:Obj) (ts:Array Value),h.get? e=some oe/\P oe/\oe.data=.fields vs/\vs[1]? = some (.ref T)/\base.get? T=none/\T≠e/\h.get? T=some oT/\oT.data=.fields ts/\ts[3]? = some fl
structure Up(P:Obj->Prop)(base:Heap)(l:List Env)(e:Addr)(fl:Value)(h:Heap):Prop where
 st:base.StaysIn h
 new:base.get? e=none
 fr:h.FunFrames base l
 tr:Tr P base e fl h
section
variable{M:Model}{E:Value->Shared->Prop}{P:Obj->Prop}{l:List Env}{L e:Addr}{fl:Value}{Q:Unit->Shared->Prop}
theorem entry(hP:lM P){head:Value}{b:Bool}(hA:A.frames=some (env::outer))(hl:s.heap.FunFrames base (env::outer))(hf:env.frame=some L)(he:s.heap.get? e=some oe)(hp:P oe)
  (st:base.StaysIn s.heap) (new:base.get? e=none) (hd:oe.data=.fields vs) (hz:1<vs.size) (k:∀h',Up P base (env::outer) e (rawInt L) h'->s.heap.UpToSlots h'->Q () { s with heap:=h' }) :
  wpAny M A (do let a <-frameOf env;let pl <-entryPlaceOf L b;let c <-EntryCells.newEntry head a .none (rawInt L) .none pl;setField (.ref e) 1 c) Q E s:=by
 have out:e∉(env::outer).filterMap (·.frame):=λz=>by
  obtain⟨_,o,ho,nf⟩:=hl.mem z;cases he.symm.trans ho;exact nf vs hd
 refine O2<|wpAny_frameOf_fun hA hl hf λh1 so=>?_;refine O2<|wpAny_entryPlaceOf λpl place=>?_;unfold EntryCells.newEntry newFields;refine O2<|Pg ?_ (place.sizeOk5 _ _ _ _ _);generalize ho:({ cls:=.type "traceback",dict:=none,data:=.fields ([head,.ref L,.none,rawInt L,.none]++(if pl.isEmpty then List.replicate 6 Value.none else pl)).toArray }:Obj)=ob;have e1:h1.get? e=some oe:=(so.2.1 e out).trans he;have ne:h1.objs.size≠e:=yP<|c8 e1;have e2:(h1.push ob).get? e=some oe:=dq ob e1;have fr0:ob.isFreed=false:=by rw[<-ho];exact Obj.isFreed_of_fields rfl
 refine Pz e2 hd hz<|k _ ?_ ?_
 .have e3:=u6 (Obj.mapFields (·.setIfInBounds 1 (Value.ref h1.objs.size))) e2 (Obj.isFreed_of_fields<|Obj.data_mapFields hd _)
  have oth:∀{c o},c≠e->h1.get? c=some o->((h1.push ob).update e (Obj.mapFields (·.setIfInBounds 1 (Value.ref h1.objs.size)))).get? c=some o:=λne hc=>(rY _ _<|Pa ne).trans (dq ob hc);refine⟨λc o hc=>?_,new,hl.of_keeps λc o hc nf=>?_,_,_,h1.objs.size,ob,_,e3,hP _ _ hp,Obj.data_mapFields hd _,by simp[hz],?_,ne,(rY _ _<|Pa ne).trans (g9 h1 fr0),by rw[<-ho],?_⟩
  .exact oth (λz=>by rw[z,new]at hc;cases hc)<|(so.2.1 c λz=>by rw[(hl.mem z).1]at hc;cases hc).trans (st c o hc)
  .obtain⟨sl,hs⟩:=so.2.2 c o hc
   exact⟨_,oth (λz=>by rw[z,he]at hc;cases hc;exact nf vs hd) hs,rfl⟩
  .cases q:base.get? h1.objs.size with
   |none=>rfl
   |some o=>
    have:h1.get? h1.objs.size=some o:=(so.2.1 _ λz=>by rw[(hl.mem z).1]at q;cases q).trans (st _ o q);exact O5 (c8 this)<|iR _
  .rcases place with rfl|⟨_,_,_,_,_,_,_,rfl⟩<;>simp
 .intro c o hc nf
  obtain⟨sl,hs⟩:=so.2.2 c o hc;exact⟨sl,(rY _ _ (Pa λz=>by rw[z,he]at hc;cases hc;exact nf vs hd)).trans (dq ob hs)⟩
theorem Jq(hP:lM P)(hA:A.frames=some (env::outer))(hl:s.heap.FunFrames base (env::outer))(hf:env.frame=some L)(he:s.heap.get? e=some oe)(hp:P oe)
  (st:base.StaysIn s.heap) (new:base.get? e=none) (hd:oe.data=.fields vs) (h1:vs[1]? = some .none) (k:∀h',Up P base (env::outer) e (rawInt L) h'->s.heap.UpToSlots h'->Q () { s with heap:=h' }) :
  wpAny M A (noteFrame (.ref e) env) Q E s:=by
 unfold noteFrame;simp only[hf];refine O2<|Pd he hd h1 ?_;rw[if_neg<|by decide];exact entry hP hA hl hf he hp st new hd (Ybq.mp h1).1 k
theorem note(hP:lM P)(hA:A.frames=some (env::outer))(hf:env.frame=some L)(u:Up P base (env::outer) e .none s.heap)
  (k:∀h',Up P base (env::outer) e (rawInt L) h'->s.heap.UpToSlots h'->Q () { s with heap:=h' }):wpAny M A (noteFrame (.ref e) env) Q E s:=by
 obtain⟨st,new,fr,oe,vs,T,oT,ts,he,hp,hd,h1,nT,Te,hT,dT,h3⟩:=u;unfold noteFrame;simp only[hf];refine O2<|Pd he hd h1 ?_;rw[if_pos (show(Value.ref T != Value.none)=true from by simp)];refine O2<|Pd hT dT h3 ?_;rw[if_neg<|by simp[rawInt]];refine O2<|Pz hT dT (Ybq.mp h3).1 ?_;have oth:∀{c o},c≠T->s.heap.get? c=some o->(s.heap.update T (Obj.mapFields (·.setIfInBounds 3 Value.none))).get? c=some o:=λne hc=>(rY _ _<|Pa ne).trans hc;have notT:∀{c o},s.heap.get? c=some o->(∀vs,o.data≠.fields vs)->c≠T:=λhc nf z=>by
  rw[z,hT]at hc;cases hc;exact nf ts dT
 refine entry hP hA (fr.of_keeps λc o hc nf=>⟨o,oth (notT hc nf) hc,rfl⟩) hf (oth (Pa Te) he) hp (λc o hc=>oth (λz=>by rw[z,nT]at hc;cases hc)<|st c o hc) new hd (Ybq.mp h1).1 λh' u' up=>k h' u' λc o hc nf=>up c o (oth (notT hc nf) hc) nf
theorem lands(u:Up P base l e fl s.heap)(k:∀h',Up P base l e .none h'->s.heap.UpToSlots h'->Q () { s with heap:=h' }):wpAny M A (setFlight (.ref e) none) Q E s:=by
 obtain⟨st,new,fr,oe,vs,T,oT,ts,he,hp,hd,h1,nT,Te,hT,dT,h3⟩:=u;have oth:∀{c o},c≠T->s.heap.get? c=some o->(s.heap.update T (Obj.mapFields (·.setIfInBounds 3 ((none:Option Addr).elim Value.none λf=>rawInt f)))).get? c=some o:=λne hc=>(rY _ _<|Pa ne).trans hc;have notT:∀{c o},s.heap.get? c=some o->(∀vs,o.data≠.fields vs)->c≠T:=λhc nf z=>by rw[z,hT]at hc;cases hc;exact nf ts dT
 have z3:=(Ybq.mp h3).1;unfold setFlight;refine O2<|Pd he hd h1 ?_;rw[if_pos (show(Value.ref T != Value.none)=true from by simp)];refine Pz hT dT z3<|k _ ⟨λc o hc=>oth (λz=>by rw[z,nT]at hc;cases hc)<|st c o hc,new,fr.of_keeps λc o hc nf=>⟨o,oth (notT hc nf) hc,rfl⟩,oe,vs,T,_,_,oth (Pa Te) he,hp,hd,h1,nT,Te,u6 _ hT<|Obj.isFreed_of_fields<|Obj.data_mapFields dT _,Obj.data_mapFields dT _,by simp[z3]⟩ λc o hc nf=>⟨o.slots,oth (notT hc nf) hc⟩
theorem Up.there(u:Up P base l e fl h):∃ob,h.get? e=some ob/\P ob/\∃vs,ob.data=.fields vs:=by obtain⟨oe,vs,_,_,_,he,hp,hd,_⟩:=u.tr;exact⟨oe,he,hp,vs,hd⟩
theorem leaves(hP:lM P)(hA:A.frames=some (env::outer))(hf:env.frame=some L)(u:Up P base (env::outer) e .none s.heap)(k:∀h',Up P base outer e .none h'->s.heap.UpToSlots h'->Q () { s with heap:=h' }) :
  wpAny M A (leaving env<|.ref e) Q E s:=by
 unfold leaving;exact O2<|note hP hA hf u λh1 u1 up1=>lands (s:={ s with heap:=h1 }) u1 λh2 u2 up2=>k h2 ⟨u2.st,u2.new,u2.fr.2.2,u2.tr⟩ (up1.trans up2)
theorem leaves_new(hP:lM P)(hA:A.frames=some (env::outer))(hl:s.heap.FunFrames base (env::outer))(hf:env.frame=some L)(he:s.heap.get? e=some oe)(hp:P oe)
  (st:base.StaysIn s.heap) (new:base.get? e=none) (hd:oe.data=.fields vs) (h1:vs[1]? = some .none) (k:∀h',Up P base outer e .none h'->s.heap.UpToSlots h'->Q () { s with heap:=h' }):wpAny M A (leaving env<|.ref e) Q E s:=by
 unfold leaving;exact O2<|Jq hP hA hl hf he hp st new hd h1 λh1 u1 up1=>lands (s:={ s with heap:=h1 }) u1 λh2 u2 up2=>k h2 ⟨u2.st,u2.new,u2.fr.2.2,u2.tr⟩ (up1.trans up2)
end
abbrev tz(C t:Addr)(dx:Option Addr):Obj:={ cls:=.ref C,dict:=dx,data:=.fields #[.ref t,.none,.none,.none,.bool false,.none] }
section
variable{M:Model}{E:Value->Shared->Prop}
variable{C N fI:Addr}{bs:List Value}{sub:List Value}{k0 k1 k2 k3 k5:Option Value}{B initId:String}{rest:List Value}{oI:Obj}
theorem Jr{x:Sem Value}{Q:Flow->Shared->Prop}(hb:bm.contains (.type "BaseException")=true)(hh:A.handled=none)
  (hx:wpAny M A x (λv s1=>∃e t dx,v=.ref e/\s1.heap.get? C=some (excClassObj nm q C N bs bm hdct sn sub ab col dd k0 k1 k2 k3 k5 newId)/\s1.heap.get? e=some (tz C t dx)/\E (.ref e) s1) E s) :
  wpAny M A (raiseStmt env (some x) none) Q E s:=by
 have isB:(Value.ref C::bm).contains (.type "BaseException")=true:=by
  rw[ue,hb,Bool.or_true]
 unfold raiseStmt;refine O2<|Ph hx (λv s1 y=>?_) λ_ _ z=>z;obtain⟨e,t,dx,rfl,cC,ce,k⟩:=y;obtain⟨hp,g,d,tk,os⟩:=s1
 repeat (first|with_reducible refine Pc ce ?_|with_reducible refine Pc cC ?_|(with_reducible refine Pv cC ?_;rw[isB])|wp_step)
 exact wpAny_raiseNew_none hh k
theorem Js(F:ExcBaseFacts B newId initId bmB)(T:OwnTail h bmB bm){Q:Fin->Shared->Prop}(hC:h.get? C=some (excClassObj nm q C N bs bm hdct sn sub ab col dd k0 k1 k2 k3 k5 newId))(hn:h.Ns N mN)(hi:mN "__init__" = some (.ref fI))
  (hf:h.get? fI=some oI) (hc:oI.cls=.type "function") (k:∀h' e,Heap.MadeExcOf h h' e (.ref C) rest->wpAny (model prog w) A (call (.ref fI) (.ref e::rest)) (λr s'=>r=.none/\Q (.done<|.ret<|.ref e) s') E ⟨h',g,d,t,os⟩)
  (hr:rest.length<=sizeLine:=by size_fits):wpAny (model prog w) A (Builtin.«type.__call__» ⟨.ref C::rest,[]⟩) Q E ⟨h,g,d,t,os⟩:=by
 repeat (first|with_reducible refine Pc hC ?_|with_reducible refine wpAny_madeBy_exc hC ?_|wp_step)
 refine codeAny_call_builtin_code (Code.quiet_builtin _ F.quiet)<|wpAny_check_new_subT F T hC (codeAny_exc_new_subT F T hC ?_ hr);show wpAny _ _ _ _ _ _;generalize e0:h.push { cls:=.type "tuple",data:=.seq rest.toArray }=h0;generalize e1:h0.push (tz C h.objs.size none)=h1;have sz0:h0.objs.size=h.objs.size+1:=by rw[<-e0,mJ]
 have up:∀b o,h.get? b=some o->h1.get? b=some o:=λb o z=>by
  rw[<-e1,<-e0];exact dq _<|dq _ z
 have at1:h1.get? (h.objs.size+1)=some (tz C h.objs.size none):=by
  rw[<-e1];exact Bb sz0.symm rfl
 have att:h1.get? h.objs.size=some { cls:=.type "tuple",data:=.seq rest.toArray }:=by
  rw[<-e1,<-e0];exact dq _<|Bb rfl rfl
 have C1:=up _ _ hC;have N1:h1.Ns N mN:=by
  obtain⟨o,es,ep,z,r⟩:=hn;exact⟨o,es,ep,up _ _ z,r⟩
 have T1:OwnTail h1 bmB bm:=T.keeps up;have me:(Value.ref C::bm).contains (.ref C)=true:=by simp
 unfold isInstance
 repeat (first|with_reducible refine Pc at1 ?_|(with_reducible refine Pv C1 ?_;rw[me])|wp_step)
 show wpAny _ _ (typeLookup (.ref C) _) _ _ _;refine wpAny_typeLookup_tail C1 N1 T1 F.mroIs F.init.lookup ?_;rw[hi];refine Pl<|O2 ?_;unfold bindSpecial;refine O2<|PC (T:= "function") ⟨_,up _ _ hf,hc⟩ ?_;rw[if_pos<|by decide];have new1:h.get? (h.objs.size+1)=none:=yN<|iF _;have new0:h.get? h.objs.size=none:=yN<|bS _;refine O4<|O2 (Ph (k h1 (h.objs.size+1) ⟨up,new1,h.objs.size,at1,new0,att⟩) (λr s' z=>?_) λ_ _ z=>z);obtain⟨rfl,z⟩:=z
 wp_walk
 exact z
theorem Jt(F:ExcBaseFacts B newId initId bmB)(T:OwnTail h bmB bm)(hC:h.get? C=some (excClassObj nm q C N bs bm hdct sn sub ab col dd k0 k1 k2 k3 k5 newId))(hn:h.Ns N mN)(hi:mN "__init__" = some (.ref fI))
  (hf:h.get? fI=some oI) (hc:oI.cls=.type "function") (k:∀h' e,Heap.MadeExcOf h h' e (.ref C) rest->wpAny (model prog w) (A.under<|.builtin "type.__call__" ⟨.ref C::rest,[]⟩) (call (.ref fI) (.ref e::rest)) (λr s'=>r=.none/\Q (.ref e) s') E ⟨h',g,d,t,os⟩)
  (hr:rest.length<=sizeLine:=by size_fits):wpAny (model prog w) A (call (.ref C) rest) Q E ⟨h,g,d,t,os⟩:=by
 have q1:=tc_lookup;have q2:=tc_bind<|.ref C;have q3:(⟨h,g,d,t,os⟩:Shared).TypeIs (.ref C) "type" :=⟨_,hC,rfl⟩
 refine wpAny_call<|codeAny_of_tree ?_;show wpAny _ _ (callAny (.ref C) _) _ _ _
 repeat (any_goals (first|assumption|with_reducible refine Pc hC ?_|wp_step))
 refine⟨rfl,codeAny_call_builtin_at (Code.quiet_builtin _<|by decide +kernel) entry_typeCall<|wpAny_check_type_call_sub hC<|Js (hr:=hr) F T hC hn hi hf hc k⟩
theorem Ju(F:ExcBaseFacts B newId initId bmB){np cpos:Pos}{args:List Expr}{Q:Flow->Shared->Prop}(hb:bm.contains (.type "BaseException")=true)(hh:A.handled=none)(hp:(backTo cpos<|starEach args env).any (·.1)=false)(hi:mN "__init__" = some (.ref fI))(hc:oI.cls=.type "function")
  (k:wpAny (model prog w) A (eval (.Name x np) env) (λf s1=>f = .ref C/\wpAny (model prog w) A (evalArgs (.ref C) true (backTo cpos<|starEach args env) [])
   (λa s2=>a.kw=[]/\a.pos.length<=sizeLine/\s2.heap.get? C=some (excClassObj nm q C N bs bm hdct sn sub ab col dd k0 k1 k2 k3 k5 newId)/\s2.heap.Ns N mN/\OwnTail s2.heap bmB bm/\s2.heap.get? fI=some oI/\
    ∀h' e,Heap.MadeExcOf s2.heap h' e (.ref C) a.pos->wpAny (model prog w) (A.under<|.builtin "type.__call__" ⟨.ref C::a.pos,[]⟩) (call (.ref fI) (.ref e::a.pos))
     (λr s3=>r=.none/\∃t dx,s3.heap.get? C=some (excClassObj nm q C N bs bm hdct sn sub ab col dd k0 k1 k2 k3 k5 newId)/\s3.heap.get? e=some (tz C t dx)/\E (.ref e) s3) E { s2 with heap:=h' }) E s1) E s) :
  wpAny (model prog w) A (exec (.Raise (some<|.Call (.Name x np) args [] cpos) none pos) env) Q E s:=by
 rw[arm_exec_Raise];refine O2<|Pp (Jr (C:=C) (nm:=nm) (q:=q) (N:=N) (bs:=bs) (bm:=bm) (hdct:=hdct) (sn:=sn) (sub:=sub) (ab:=ab) (col:=col) (dd:=dd) (k0:=k0) (k1:=k1) (k2:=k2) (k3:=k3) (k5:=k5) (newId:=newId) hb hh ?_);refine O2<|Ph (wpAny_Call_ofName<|Ph k (λf s1 y=>?_) λ_ _ z=>z) (λv s3 y=>O2<|Pp<|O4 y) λ_ _ z=>z;obtain⟨rfl,y⟩:=y;unfold callWith;refine O2<|Pl (Ph y (λa s2 y=>O2<|Pp ?_) λ_ _ z=>z);obtain⟨ap,ak⟩:=a;obtain⟨rfl,hl,cC,cN,T,cI,y⟩:=y;obtain⟨hp',g,d,tk,os⟩:=s2;simp only[hp];refine O2<|wpAny_keeperOf_exc cC (O2<|Jt (hr:=hl) F T cC cN hi cI hc λh' e m=>Ph (y h' e m) (λr s3 z=>?_) λ_ _ z=>z);obtain⟨rfl,t,dx,z1,z2,z3⟩:=z;exact⟨rfl,O2<|Pl<|wpAny_point<|O4 ⟨e,t,dx,rfl,z1,z2,z3⟩⟩
end
end Fl
namespace Fl
open PySem.Builtin PySem.Builtin.ObjectAttr
inductive Tl (h:Heap) (ns:List Str) (bmB:List Value):List Value->Prop
 |last:Tl h ns bmB bmB
 |more {a:Addr} {c:Value} {dd:Option Addr} {cd:ClassData} {sl:Array (Option Value)} {m:Str->Option Value} {l:List Value}:h.get? a=some ⟨c,dd,.cls cd,sl⟩->h.Ns cd.ns m->(∀n∈ns,m n=none)->Tl h ns bmB l->Tl h ns bmB (.ref a::l)
section
variable{l:List Value}
theorem Tl.has(T:Tl h ns bmB l){X:String}{b:Bool}(q:bmB.contains (.type X)=b):l.contains (.type X)=b:=by
 induction T with
 |last=>exact q|more _ _ _ _ ih=>rw[ue,ih];rfl
theorem Tl.keeps(T:Tl h ns bmB l)(k:∀b o,h.get? b=some o->h'.get? b=some o):Tl h' ns bmB l:=by
 induction T with
 |last=>exact .last|more a b c _ ih=>exact .more (k _ _ a) (b.keeps k) c ih
theorem Tl.own(T:Tl h ns bmB l)(i:("__init__" : Str)∈ns):OwnTail h bmB l:=by
 induction T with
 |last=>exact .base|more a b c _ ih=>exact .own a b (c _ i) ih
theorem Tl.passes(T:Tl h ns bmB l)(self:Value)(what:Str):refuseLoop self what l=refuseLoop self what bmB:=by
 induction T with
 |last=>rfl|more _ _ _ _ ih=>rw[refuseLoop_ref,ih]
end
section
variable{M:Model}{E:Value->Shared->Prop}
variable{C N x:Addr}{bs:List Value}{sub:List Value}{k0 k1 k2 k3 k5:Option Value}{B sa owner:String}
theorem vQ{l:List Value}{Q:Option Value->Shared->Prop}(T:Tl h ns bmB l)(i:n∈ns)(r:lookupAlong bmB n=pure y)(k:Q y ⟨h,g,d,t,os⟩):wpAny M A (lookupAlong l n) Q E ⟨h,g,d,t,os⟩:=by
 induction T with
 |last=>rw[r];exact O4 k|more a b c _ ih=>rw[lookupAlong_cons];refine O2<|wpAny_classOwn_cls a b ?_;rw[c n i];exact ih
theorem jL{Q:Option Value->Shared->Prop}(hC:h.get? C=some (excClassObj nm q C N bs bm hdct sn sub ab col dd k0 k1 k2 k3 k5 newId))(hN:h.Ns N mN)(hm:mN n=none)(T:Tl h ns bmB bm)(i:n∈ns)
  (b:mroOf (.type B)=pure bmB) (hB:typeLookup (.type B) n=pure y) (k:Q y ⟨h,g,d,t,os⟩):wpAny M A (typeLookup (.ref C) n) Q E ⟨h,g,d,t,os⟩:=by
 have r:lookupAlong bmB n=pure y:=by
  rw[typeLookup_eq,b]at hB;exact hB
 rw[typeLookup_eq];refine O2<|wpAny_mroOf_exc hC ?_;rw[lookupAlong_cons];refine O2<|wpAny_classOwn_exc hC hN ?_;rw[hm];exact vQ T i r k
theorem Jv{Q:Unit->Shared->Prop}(SF:StoreFacts B bmB sa owner)(hC:h.get? C=some (excClassObj nm q C N bs bm true sn sub ab col dd k0 k1 k2 k3 k5 newId))(hN:h.Ns N mN)(T:Tl h ns bmB bm)
  (m1:mN "__setattr__" = none) (m2:mN name=none) (i1:("__setattr__" : Str)∈ns) (i2:name∈ns) (hB:typeLookup (.type B) name=pure none) (hx:h.get? x=some o) (hc:o.cls=.ref C) (hd:o.dict=none) (hv:o.data=.fields vs)
  (k:∀h' tk dx m,h.get? dx=none->dx≠x->h'.get? x=some { o with dict:=some dx }->h'.Ns1 dx m->m name=some v->(∀n,n≠name->m n=none)->(∀b u,b≠x->h.get? b=some u->h'.get? b=some u)->Q () ⟨h',g,d,tk,os⟩) :
  wpAny (model prog w) A (setAttr (.ref x) name v) Q E ⟨h,g,d,t,os⟩:=by
 have bi:=SF.slot.bind<|.ref x;have own:(Value.ref C::bm).contains (.type owner)=true:=by rw[ue,T.has SF.hasOwner,Bool.or_true]
 have pass:=SF.passes<|.ref x;unfold setAttr callSpecial? specialOf
 repeat (any_goals (first|assumption|(with_reducible refine Pc hx ?_;rw[hc])|with_reducible refine jL hC hN m1 T i1 SF.mro SF.slot.lookup ?_|wp_step))
 refine codeAny_call_builtin SF.slot.plain SF.entry ?_;simp only[checkBuiltinCall,SF.kind,SF.split];refine O2 ?_;unfold isInstance
 repeat (first|(with_reducible refine Pc hx ?_;rw[hc])|(with_reducible refine Pv hC ?_;rw[own])|wp_step)
 have chk:∀{R:Unit->Shared->Prop} {z:Shared},R () z->wpAny (model prog w) A.in1 (match Manifest.signature? sa with|some sig=>Bind.checkArgs sa sig ⟨[.ref x]++[.str name t,v],[]⟩|_=>pure ()) R (λe s'=>E e s') z:=by
  intro R z r;cases e:Manifest.signature? sa with
  |none=>exact O4 r
  |some sig=>
   have ar:=SF.args (.ref x) (.str name t) v;simp only[argsOk,e]at ar;have ar':Bind.checkArgs sa sig ⟨[.ref x]++[.str name t,v],[]⟩=pure ():=ar;show wpAny _ _ (Bind.checkArgs sa sig ⟨[.ref x]++[.str name t,v],[]⟩) _ _ _;rw[ar'];exact O4 r
 refine chk ?_;clear chk;unfold Builtin.«object.__setattr__»
 repeat (first|rw[refuse_eq]|(rw[refuseLoop_ref,T.passes,pass])|(with_reducible refine Pc hx ?_;rw[hc])|with_reducible refine wpAny_mroOf_exc hC ?_|with_reducible refine jL hC hN m2 T i2 SF.mro hB ?_|wp_step)
 rw[hd,if_neg<|by simp[typeHasDict],hv];generalize e1:h.push { cls:=.type "dict",data:=.dict #[] }=h1;have in1:∀b u,h.get? b=some u->h1.get? b=some u:=λb u z=>by rw[<-e1];exact dq _ z
 have nx:x≠h.objs.size:=gF<|c8 hx;refine O2<|wpAny_alloc' ?_;rw[e1];refine O2<|wpAny_update' (in1 _ _ hx) (O4 ?_);have fr:({ o with dict:=some h.objs.size }:Obj).isFreed=false:=Obj.isFreed_of_fields hv;generalize e2:(h1.update x λo=>{ cls:=o.cls,dict:=some h.objs.size,data:=o.data,slots:=o.slots })=h2;have at2:h2.get? x=some { o with dict:=some h.objs.size }:=by rw[<-e2];exact u6 _ (in1 _ _ hx) fr
 have oth:∀b,b≠x->h2.get? b=h1.get? b:=λb ne=>by rw[<-e2];exact Heap.get?_update_ne _ _ _ _ ne
 have new2:h2.get? h.objs.size=some { cls:=.type "dict",data:=.dict #[] }:=by
  rw[oth _<|Pa nx,<-e1];exact Bb rfl rfl
 have emp:h2.Ns h.objs.size (λ_=>none):=⟨_,#[],_,new2,rfl,λe z=>O5 z<|by simp,λ_=>rfl⟩
 show wpAny _ _ (storeInDict h.objs.size (.str name t) name v) _ _ _;unfold storeInDict newKeyGuard;refine O2<|O4 (O2<|wpAny_nsSet1 (Heap.Ns1.of_empty emp) λh3 n3 same=>?_);obtain⟨oD,es,ep,g1,g2,g3⟩:=n3.count<|Within.cons name v Within.nil;refine O2<|wpAny_lookBehind g1 (by rw[g2];exact pastItsLine_dict<|hX g3 (by rw[dX,jZ,sizeLine_eq];omega)) ?_
 wp_walk
 refine k h3 _ h.objs.size _ (yN<|bS _) (Pa nx) ((same.2 x nx).trans at2) n3 (by simp) (λn ne=>by simp[ne]) λb u ne z=>?_;exact(same.2 b<|gF<|c8 z).trans ((oth b ne).trans (in1 b u z))
end
section
variable{M:Model}{E:Value->Shared->Prop}
variable{C N dx:Addr}{bs:List Value}{sub:List Value}{k0 k1 k2 k3 k5:Option Value}{B:String}
theorem Jw{Q:PySem.Fin->Shared->Prop}(FB:ExcAttrBase B bmB)(hC:h.get? C=some (excClassObj nm q C N bs bm true sn sub ab col dd k0 k1 k2 k3 k5 newId))(hN:h.Ns N mN)(T:Tl h ns bmB bm)
  (m3:mN name=none) (i3:name∈ns) (hB:typeLookup (.type B) name=pure none)
  (hx:h.get? a=some o) (hc:o.cls=.ref C) (hd:o.dict=some dx) (hv:o.data=.fields vs) (hm:h.Ns dx m) (hn:m name=some v) (k:Q (.done<|.ret v) ⟨h,g,d,t,os⟩):wpAny (model prog w) A (Builtin.«object.__getattribute__» ⟨[.ref a,.str name tk],[]⟩) Q E ⟨h,g,d,t,os⟩:=by
 repeat (any_goals (first|assumption|(with_reducible refine Pc hx ?_;rw[hc])|with_reducible refine jL hC hN m3 T i3 FB.mro hB ?_|wp_step))
 rw[hv];dsimp only;unfold instanceDict
 repeat (any_goals (first|assumption|with_reducible refine Pc hx ?_|wp_step))
 rw[hd,hc];dsimp only
 repeat (any_goals (first|assumption|(with_reducible refine wpAny_nsGet hm ?_;rw[hn])|with_reducible refine Pc hC ?_|wp_step))
theorem get_field{ex:Bool}(FB:ExcAttrBase B bmB)(hC:h.get? C=some (excClassObj nm q C N bs bm true sn sub ab col dd k0 k1 k2 k3 k5 newId))(hN:h.Ns N mN)(T:Tl h ns bmB bm)
  (m1:mN "__getattribute__" = none) (m2:mN "__getattr__" = none) (m3:mN name=none) (i1:("__getattribute__" : Str)∈ns) (i2:("__getattr__" : Str)∈ns) (i3:name∈ns) (hB:typeLookup (.type B) name=pure none)
  (hx:h.get? a=some o) (hc:o.cls=.ref C) (hd:o.dict=some dx) (hv:o.data=.fields vs) (hm:h.Ns dx m) (hn:m name=some v) (ho:handedOut v=pure v) (k:Q v ⟨h,g,d,t+1,os⟩):wpAny (model prog w) A (getAttr (.ref a) name ex) Q E ⟨h,g,d,t,os⟩:=by
 have bi:=FB.ga.bind<|.ref a;have x0:(ex&&onTheHeap (Value.builtin "BaseException.__getattribute__"))=false:=by cases ex<;>rfl
 have x2:(Value.builtin "BaseException.__getattribute__" == Value.builtin "object.__getattribute__")=false:=by decide +kernel
 have x1:(onTheHeap (Value.ref C)&&Value.builtin "BaseException.__getattribute__" == Value.builtin "object.__getattribute__")=false:=by rw[x2];rfl
 have kd:builtinKind "BaseException.__getattribute__" = some .slot:=by decide +kernel
 have sp:splitId "BaseException.__getattribute__" = some ("BaseException", "__getattribute__"):=by decide +kernel
 have isB:(Value.ref C::bm).contains (.type "BaseException")=true:=by rw[ue,T.has FB.hasBase];rfl
 have ar:=F.args_bexc_ga (.ref a)<|.str name t;have chk:∀{M:Model} {A:Around} {E:Value->Shared->Prop} {R:Unit->Shared->Prop} {u:Nat},R () ⟨h,g,d,u,os⟩->wpAny M A (checkBuiltinCall "BaseException.__getattribute__" ⟨[.ref a]++[.str name t],[]⟩) R E ⟨h,g,d,u,os⟩:=by
  intro M A E R u r;simp only[checkBuiltinCall,kd,sp];refine O2 ?_;unfold isInstance
  repeat (first|(with_reducible refine Pc hx ?_;rw[hc])|(with_reducible refine Pv hC ?_;rw[isB])|wp_step)
  exact r
 unfold getAttr
 repeat (any_goals (first|assumption|(with_reducible refine Pc hx ?_;rw[hc])|with_reducible refine jL hC hN m1 T i1 FB.mro FB.ga.lookup ?_|with_reducible refine jL hC hN m2 T i2 FB.mro FB.noGetattr ?_|wp_step))
 refine codeAny_call_builtin FB.ga.plain F.entry_bexc_ga<|chk (Jw FB hC hN T m3 i3 hB hx hc hd hv hm hn ?_);show wpAny _ _ (handedOut v) _ _ _;rw[ho];exact O4 k
end
end Fl
def c9(P:Program)(w:World):m9:=λouter H s E e s'=>∃(ea:Addr) (cls:Value) (dx:Option Addr) (H':Hp) (B:Heap),e=.ref ea/\Fl.Up (Fl.Is cls dx) B outer ea .none s'.heap/\s'.os=s.os/\AllBare s'.gens/\Un (cW outer) [] H H' s.heap s'.heap/\HOk P w H' s'.heap/\
 (∀b o,s.heap.get? b=some o->b∉cW outer->∃o',B.get? b=some o')/\(∀b u,H' b=some u->∃o,B.get? b=some o)/\E cls dx H'
theorem bU:cF (c9 P w) X E0:=λ_ _ _ _ _ _ _ ⟨_,_,_,_,_,_,_,_,_,_,_,_,_,z⟩=>z.elim
theorem HOk.through{B h2:Heap}(hok:HOk P w H h)(hT:∀ b u,H b=some u->∃ o,B.get? b=some o)(s1:B.StaysIn h)(s2:B.StaysIn h2):HOk P w H h2:=λa o e=>(hok a o e).stay (λb u hb q=>by
  have hb':∃v,H b=some v:=by
   rcases hb with rfl|hb
   .exact⟨_,e⟩
   .exact⟨_,hb⟩
  obtain⟨v,hv⟩:=hb';obtain⟨o',eB⟩:=hT b v hv;have:=s1 b o' eB;rw[q]at this;cases this;exact s2 b _ eB) (λ_ z=>z) λ_ _ z=>z
section
variable{E:XK}
theorem vR{l:List Env}(h:b∈cW l):b∈cW (env::l):=by unfold cW at h ⊢;obtain⟨e,h1,h2⟩:=YaB.mp h;exact YaB.mpr ⟨e,jr _ h1,h2⟩
theorem EW:cF (c9 P w) (cR (c9 P w) P w K mg base N qual scope f cd A outer s H E) E:=by
 rintro pins σ H1 s1 _ s' I ⟨ea,cls,dx,H',B,rfl,fl,hos,hbare,un,hok,hB,hT,hE⟩;have nostk:∀b o,s.heap.get? b=some o->b∉cW outer->b∉cW (envOfC qual scope s.heap.objs.size f cd::outer):=λb o e hb hm=>by
  rcases Yao.mp (I.stkSub b hm) with z|z
  have l1:=c8 e;have l2:s.heap.objs.size<=(envOfC qual scope s.heap.objs.size f cd).locals:=I.ok.above;have z':b=(envOfC qual scope s.heap.objs.size f cd).locals:=z;rw[<-z']at l2;exact O5 (dG l1 l2)<|iR _
  exact hb z
 have ib:Un (cW outer) [] H H1 s.heap s1.heap:=I.base;show wpAny (model P w) (A.deeper<|envOfC qual scope s.heap.objs.size f cd) (leaving (envOfC qual scope s.heap.objs.size f cd)<|.ref ea) (λ_ s''=>c9 P w outer H s E (.ref ea) s'') _ s';refine Fl.leaves Fl.Is.firm I.ok.frames rfl fl λh2 fl2 up=>?_;have frm:∀b,b∈cW (envOfC qual scope s.heap.objs.size f cd::outer)->∃o,s'.heap.get? b=some o/\∀vs,o.data≠.fields vs:=λb hb=>(fl.fr.mem hb).2;refine⟨ea,cls,dx,H',B,rfl,fl2,hos.trans I.os,hbare,⟨λb o e n hb _=>?_,λb o e n hb _=>?_,λb o e n _=>?_,λb o e _=>?_,λb xs e=>un.tups b xs<|ib.tups b xs e,λb o xs e=>un.frzs b o xs<|ib.frzs b o xs e,λb ps e=>?_,λ_ ⟨o,e⟩ n=>un.sys (by simp) (ib.there _ o e<|by simp)<|ib.sys (by simp) ⟨o,e⟩ n⟩,hok.through hT fl.st fl2.st,λb o e hb=>?_,hT,hE⟩;have e1:=ib.keep b o e n hb (by simp);have n1:=ib.free b o e n (by simp);have e2:=un.keep b o e1 n1 (nostk b o e hb) (by simp);obtain⟨o',eB⟩:=hB b o e1<|nostk b o e hb;have:=fl.st b o' eB;rw[e2]at this;cases this;exact fl2.st b _ eB
 obtain⟨sl,e1⟩:=ib.slot b o e n hb (by simp);have n1:=ib.free b o e n (by simp);obtain⟨sl',e2⟩:=un.slot b _ e1 n1 (vR hb) (by simp);obtain⟨o3,e3,nf⟩:=frm b<|vR hb;rw[e2]at e3;cases e3;obtain⟨sl3,e4⟩:=up b _ e2 nf;exact⟨sl3,e4⟩
 obtain⟨o',e1⟩:=ib.there b o e (by simp);exact un.free b o' e1 (ib.free b o e n<|by simp) (by simp);obtain⟨o',e1⟩:=ib.there b o e (by simp);by_cases hb:b∈cW (envOfC qual scope s.heap.objs.size f cd::outer);obtain⟨o3,e3,nf⟩:=frm b hb;obtain⟨sl3,e4⟩:=up b _ e3 nf;exact⟨_,e4⟩;obtain⟨o2,eB⟩:=hB b o' e1 hb;exact⟨o2,fl2.st b _ eB⟩;obtain⟨m1,e1⟩:=ib.tbls b ps e;obtain⟨m2,e2⟩:=un.tbls b _ e1;exact⟨m1++m2,by rw[e2,A4]⟩;obtain⟨o',e1⟩:=ib.there b o e (by simp);exact hB b o' e1<|nostk b o e hb
def jg(X:Cx)(E:XK):Prop:=∀(pins:List (Addr×Obj)) (σ:St) (H:Hp) (s:Shared) (h':Heap) (e:Addr) (cls:Value) (args:List Value),Inv X pins σ H s->Heap.MadeExcOf s.heap h' e cls args->E cls none H->X.xe (.ref e) { s with heap:=h' }
theorem EY:jg (cR (c9 P w) P w K mg base N qual scope f cd A outer s H E) E:=by
 intro pins σ H1 s1 h2 e cls args I hx hE;have ib:Un (cW outer) [] H H1 s.heap s1.heap:=I.base;have neL:∀b o,s.heap.get? b=some o->b∉cW outer->b∉cW (envOfC qual scope s.heap.objs.size f cd::outer):=λb o e hb hm=>by
  rcases Yao.mp (I.stkSub b hm) with z|z
  have l1:=c8 e;have l2:s.heap.objs.size<=(envOfC qual scope s.heap.objs.size f cd).locals:=I.ok.above;have z':b=(envOfC qual scope s.heap.objs.size f cd).locals:=z;rw[<-z']at l2;exact O5 (dG l1 l2)<|iR _
  exact hb z
 have stk:s1.heap.FunFrames base (envOfC qual scope s.heap.objs.size f cd::outer):=I.stack;have frm:∀b,b∈cW (envOfC qual scope s.heap.objs.size f cd::outer)->∃o,s1.heap.get? b=some o/\∀vs,o.data≠.fields vs:=λb hb=>(stk.mem hb).2;have inB:∀{b o},s1.heap.get? b=some o->b∉cW (envOfC qual scope s.heap.objs.size f cd::outer)->(PySem.W.hideAll s1.heap<|cW (envOfC qual scope s.heap.objs.size f cd::outer)).get? b=some o:=λe hb=>PySem.W.hideAll_get _ e hb;have hT:∀b u,H1 b=some u->∃o,(PySem.W.hideAll s1.heap<|cW (envOfC qual scope s.heap.objs.size f cd::outer)).get? b=some o:=λb u hu=>by
  have hb:b∉cW (envOfC qual scope s.heap.objs.size f cd::outer):=λhm=>by have:=I.stkFree b hm;rw[hu]at this;cases this
  have l:=I.hok.lt hu;have:∃o,s1.heap.get? b=some o:=by
   have q:=I.hok b u hu;cases u with
   |lst xs=>obtain⟨_,_,_,_,e⟩:=q;exact⟨_,e⟩
   |tup xs=>obtain⟨_,_,_,o,e,_⟩:=q;exact⟨_,e⟩
   |dK kvs=>obtain⟨_,_,_,_,o,_,_,e,_⟩:=q;exact⟨_,e⟩
   |dT kvs=>obtain⟨_,_,_,_,o,_,_,e,_⟩:=q;exact⟨_,e⟩
   |set S n=>obtain⟨o,_,_,_,e,_⟩:=q;exact⟨_,e⟩
   |ins C dx fs=>obtain⟨_,_,_,e,_⟩:=q;exact⟨_,e⟩
   |own y=>obtain⟨o,e⟩:=q;exact⟨_,e⟩
   |xd fs=>obtain⟨_,⟨o,_,_,e,_⟩,_⟩:=q;exact⟨_,e⟩
   |rng lo hi=>obtain⟨_,_,_,e⟩:=q;exact⟨_,e⟩
   |frz ob u=>obtain⟨e,_⟩:=q;exact⟨_,e⟩
   |tbl ps=>exact⟨_,(show s1.heap.get? b=some _ from q)⟩|met f y=>exact⟨_,(show s1.heap.get? b=some _ from q)⟩|ext φ=>obtain⟨_,⟨o,e⟩,_⟩:=q;exact⟨_,e⟩
  obtain⟨o,e⟩:=this;exact⟨o,inB e hb⟩
 show wpAny (model P w) (A.deeper<|envOfC qual scope s.heap.objs.size f cd) (leaving (envOfC qual scope s.heap.objs.size f cd)<|.ref e) (λ_ s''=>c9 P w outer H s E (.ref e) s'') _ _;obtain⟨tt,he,_,_⟩:=hx.there;have newB:(PySem.W.hideAll s1.heap<|cW (envOfC qual scope s.heap.objs.size f cd::outer)).get? e=none:=by
  cases q:(PySem.W.hideAll s1.heap<|cW (envOfC qual scope s.heap.objs.size f cd::outer)).get? e with
  |none=>rfl|some o=>have:=PySem.W.of_hideAll _ q;rw[hx.new]at this;cases this
 refine Fl.leaves_new (P:=Fl.Is cls none) (base:=PySem.W.hideAll s1.heap<|cW (envOfC qual scope s.heap.objs.size f cd::outer)) Fl.Is.firm I.ok.frames ((PySem.W.funFrames_hide stk λenv he b hb=>YaB.mpr ⟨env,he,hb⟩).of_keeps λb o hb _=>⟨o,hx.keeps b o hb,rfl⟩) rfl he ⟨rfl,rfl⟩
  (λb o q=>hx.keeps b o<|PySem.W.of_hideAll _ q) newB rfl rfl λh3 fl up=>?_
 have st1:(PySem.W.hideAll s1.heap<|cW (envOfC qual scope s.heap.objs.size f cd::outer)).StaysIn s1.heap:=λb o q=>PySem.W.of_hideAll _ q;refine⟨e,cls,none,H1,_,rfl,fl,I.os,I.bare,⟨λb o e n hb _=>?_,λb o e n hb _=>?_,λb o e n _=>ib.free b o e n<|by simp,λb o e _=>?_,λb xs e=>ib.tups b xs e,λb o xs e=>ib.frzs b o xs e,λb ps e=>ib.tbls b ps e,λ_ eg n=>ib.sys (by simp) eg n⟩,I.hok.through hT st1 fl.st,λb o e hb=>?_,hT,hE⟩;exact fl.st b o<|inB (ib.keep b o e n hb<|by simp) (neL b o e hb)
 obtain⟨sl,e1⟩:=ib.slot b o e n hb (by simp);obtain⟨o3,e3,nf⟩:=frm b<|vR hb;rw[e1]at e3;cases e3;obtain⟨sl3,e4⟩:=up b _ (hx.keeps b _ e1) nf;exact⟨sl3,e4⟩
 obtain⟨o',e1⟩:=ib.there b o e (by simp);by_cases hb:b∈cW (envOfC qual scope s.heap.objs.size f cd::outer);obtain⟨o3,e3,nf⟩:=frm b hb;obtain⟨sl3,e4⟩:=up b _ (hx.keeps b _ e3) nf;exact⟨_,e4⟩;exact⟨o',fl.st b o'<|inB e1 hb⟩;obtain⟨o',e1⟩:=ib.there b o e (by simp);exact⟨o',inB e1<|neL b o e hb⟩
end
section
def BZ(K:O3)(tl:TE):TI:=λσ H R=>tl σ H λx H1=>∃a,x=.ref a/\(((∃xs,SqL K H1 a xs)/\R (EL K a) H1)\/((∃xs,SqT K H1 a xs)/\R (BI K a) H1))
theorem Jx{l:Expr}{tl:TE}(hl:PE X l tl):PI X tg l (BZ X.K tl):=by
 intro pins s σ H R I h;refine bL (hl pins s σ H _ I h) λv s1 ⟨x,H1,I1,r1,q1⟩=>?_;obtain⟨a,e,⟨⟨xs,hq⟩,q⟩|⟨⟨xs,hq⟩,q⟩⟩:=q1;subst e;cases r1;obtain⟨its,rv,p,hz⟩:=I1.list hq;refine wpAny_pyIter_list p.isList ?_;refine⟨s1.heap.objs.size,[s1.heap.objs.size],_,_,H1,rfl,I1.kept (t':=s1.toks) λb o e=>dq _ e,lB a _,⟨_,g9 _ rfl,rfl,rfl⟩,λb hb=>?_,q⟩;have e:b=s1.heap.objs.size:=by simpa using hb
 subst e;exact I1.fpOk (bS _)<|I1.hok.fresh (bS _)
 subst e;cases r1;obtain⟨its,rv,p,hz⟩:=I1.tuple hq;refine wpAny_pyIter_tuple (show s1.heap.IsTuple a its.toArray from p) ?_;refine⟨s1.heap.objs.size,[s1.heap.objs.size],_,_,H1,rfl,I1.kept (t':=s1.toks) λb o e=>dq _ e,kj a _,⟨_,g9 _ rfl,rfl,rfl⟩,λb hb=>?_,q⟩;have e:b=s1.heap.objs.size:=by simpa using hb
 subst e;exact I1.fpOk (bS _)<|I1.hok.fresh (bS _)
end
theorem Inv.turnedL(ts:List Addr)(I:Inv X pins σ H s)(k:∀b o,b∉ts->s.heap.get? b=some o->h'.get? b=some o)
  (hf:∀b∈ts,fv X pins H b):Inv X pins σ H { s with heap:=h',toks:=t' }:=by
 refine I.step (g':=s.gens) (d':=s.drawn) (ch:=ts) (λb hb=>?_) (λb o _ _ hc e _=>k b o hc e) (λb o _ _ hc e _=>⟨o.slots,k b o hc e⟩) (λ_ _ _ _ n=>n)
  (λb o hc e=>⟨o,k b o hc e⟩) (λ_ _ e=>e) (λ_ _ _ e=>e) (λb ps e=>⟨#[],by rw[e];simp⟩) (λm hm=>?_) (λb u e=>?_) I.bare (λn=>n)
 .obtain⟨_,f1,_,f3,f4,f5⟩:=hf b hb
  exact⟨f3,f1,f4,f5⟩
 .obtain⟨o,es,ep,ho,r⟩:=hm
  exact⟨o,es,ep,k _ o (λz=>(hf _ z).2.1 rfl) ho,r⟩
 .have nt:∀c v,H c=some v->c∉ts:=λc v q z=>by rw[(hf c z).1]at q;cases q
  refine(I.hok b u e).stay (λc v hc q=>k c v ?_ q) (λ_ q=>q) λ_ _ q=>q;rcases hc with z|z
  .rw[z];exact nt b u e
  .exact nt c _ z
def SIt(κ:Bool)(h:Heap)(it l:Addr)(i:Nat):Prop:=match κ with|true=>h.IsTupleIter it l i|false=>h.IsListIter it l i
def SSq(κ:Bool)(h:Heap)(l:Addr)(xs:Array Value):Prop:=match κ with|true=>h.IsTuple l xs|false=>h.IsList l xs
section
variable{it:Addr}
theorem SIt.keep(x:SIt κ h it l i)(k:∀o,h.get? it=some o->h'.get? it=some o):SIt κ h' it l i:=by cases κ;exact Heap.IsListIter.at x k;exact Heap.IsTupleIter.at x k
theorem SIt.obj(x:SIt κ h it l i):∃o,h.get? it=some o/\(∀v,o.data≠.cell v):=by
 cases κ;all_goals
  obtain⟨o,e,_,d⟩:=x;exact⟨o,e,λv z=>by rw[d]at z;cases z⟩
theorem SSq.keep(x:SSq κ h l xs)(k:∀o,h.get? l=some o->h'.get? l=some o):SSq κ h' l xs:=by
 cases κ;all_goals
  obtain⟨o,e,r⟩:=x;exact⟨o,k o e,r⟩
end
section
variable{E:Value->Shared->Prop}{it:Addr}{x:Value}
theorem vS(hi:SIt κ s.heap it l i)(hl:SSq κ s.heap l xs)(hx:xs[i]? = some x)(q:∀h',SIt κ h' it l (i+1)->Heap.SameBut it s.heap h'->Q x { s with heap:=h' }) :
  wpAny (model prog w) A (Builtin.SmallTypes.nextOf<|.ref it) Q E s:=by
 cases κ with
 |false=>exact wpAny_nextOf_list_item hi hl hx q
 |true=>
  have ht:s.heap.IsTupleIter it l i:=hi;obtain⟨ob,hob,hcl,hda⟩:=id ht;obtain⟨sq,hsq,_,nn,hds⟩:=(show s.heap.IsTuple l xs from hl)
  unfold Builtin.SmallTypes.nextOf;refine O2<|wpAny_callSpecial?_slot (name:=Str.ofString "__next__") ht.typeIs F.slot_tuple_iterator_next (Pq F.slot_tuple_iterator_next ht.typeIs F.entry_tuple_iterator_next ?_<|F.args_tuple_iterator_next_1 _);show wpAny _ _ (field (.ref it) 0 >>= _) _ E s;refine O2<|Pd hob hda (x:=.ref l) rfl ?_;show wpAny _ _ (if(Value.ref l==Value.none)=true then _ else _) _ E s;rw[if_neg (show¬((Value.ref l==Value.none)=true) by exact jy)];show wpAny _ _ (field (.ref it) 1 >>= _) _ E s;refine O2<|Pd hob hda (x:=.int i 0) rfl ?_;show wpAny _ _ (seqItems? (.ref l) >>= _) _ E s;refine O2<|Pr hsq hds ?_;simp only[jA,hx];refine O2<|Pz hob hda (by simp) (O4 ⟨x,rfl,O4<|q _ ?_<|Heap.SameBut.update ..⟩);exact⟨_,u6 _ hob<|Obj.isFreed_of_fields<|Obj.data_mapFields hda _,(Obj.cls_mapFields ..).trans hcl,by rw[Obj.data_mapFields hda];simp[rawInt]⟩
theorem ur(hh:A.handled=none)(hi:SIt κ s.heap it l i)(hl:SSq κ s.heap l xs)(hx:xs[i]? = none)
  (q:∀h' e,Heap.ExtBut it s.heap h'->(∃o,h'.get? e=some o/\o.cls=.type "StopIteration")->E (.ref e) { s with heap:=h' }) :
  wpAny (model prog w) A (Builtin.SmallTypes.nextOf<|.ref it) Q E s:=by
 cases κ with
 |false=>exact wpAny_nextOf_list_end hh hi hl hx q
 |true=>
  have ht:s.heap.IsTupleIter it l i:=hi;obtain⟨ob,hob,hcl,hda⟩:=id ht;obtain⟨sq,hsq,_,nn,hds⟩:=(show s.heap.IsTuple l xs from hl)
  unfold Builtin.SmallTypes.nextOf;refine O2<|wpAny_callSpecial?_slot (name:=Str.ofString "__next__") ht.typeIs F.slot_tuple_iterator_next (Pq F.slot_tuple_iterator_next ht.typeIs F.entry_tuple_iterator_next ?_<|F.args_tuple_iterator_next_1 _);show wpAny _ _ (field (.ref it) 0 >>= _) _ E s;refine O2<|Pd hob hda (x:=.ref l) rfl ?_;show wpAny _ _ (if(Value.ref l==Value.none)=true then _ else _) _ E s;rw[if_neg (show¬((Value.ref l==Value.none)=true) by exact jy)];show wpAny _ _ (field (.ref it) 1 >>= _) _ E s;refine O2<|Pd hob hda (x:=.int i 0) rfl ?_;show wpAny _ _ (seqItems? (.ref l) >>= _) _ E s;refine O2<|Pr hsq hds ?_;simp only[jA,hx];refine O2<|Py (O2<|Pz hob hda (by simp) ?_);show wpAny _ _ (newExc (.type "StopIteration") [] >>= _) _ E _;refine O2 ?_;simp only[newExc,newTuple];refine O2<|Pg ?_ (by size_fits);refine O2 (m:=firstArgMember _ _)<|wpAny_of_eq (a:=Value.none) (by first|rfl|(rw[firstArgMember];rfl)) (Pg ?_<|by size_fits);simp only[raiseNew];refine O2<|wpAny_handled ?_;rw[show A.in1.handled=none from hh];exact O2<|O4 (wpAny_throw<|q _ _ (((Heap.SameBut.update ..).extBut.push _).push _) ⟨_,g9 _ rfl,rfl⟩)
end
structure vT(z TI TO j1 j2:Addr):Prop where
 a:TI≠z
 b:TO≠z
 c:j1≠z
 d:j2≠z
 e:TI≠TO
 f:TI≠j1
 g:TI≠j2
 h:TO≠j1
 i:TO≠j2
 j:j1≠j2
def ut(z TI TO j1 j2 l:Addr):Prop:=l≠z/\l≠TI/\l≠TO/\l≠j1/\l≠j2
section
variable{E:Value->Shared->Prop}{z TI TO j1 j2 l1 l2:Addr}{x y a b:Value}
theorem Jy(D:vT z TI TO j1 j2)(d1:ut z TI TO j1 j2 l1)(d2:ut z TI TO j1 j2 l2)
  (zz:IsZip s.heap z TI TO .none) (zi:IsPair s.heap TI (.ref j1) (.ref j2)) (zo:IsPair s.heap TO a b) (u1:SIt κ s.heap j1 l1 i) (u2:SIt κ' s.heap j2 l2 i) (v1:SSq κ s.heap l1 xs) (v2:SSq κ' s.heap l2 ys) (ex:xs[i]? = some x) (ey:ys[i]? = some y)
  (q:∀ h',IsZip h' z TI TO (rawInt s.heap.objs.size)->IsPair h' TO x y->SIt κ h' j1 l1 (i+1)->SIt κ' h' j2 l2 (i+1)->IsPair h' s.heap.objs.size x y->h'.objs.size=s.heap.objs.size+1->
   (∀c o,c≠z->c≠TO->c≠j1->c≠j2->s.heap.get? c=some o->h'.get? c=some o)->Q (.ref s.heap.objs.size) { s with heap:=h' }) :
  wpAny (model prog w) A (Builtin.«zip.__next__» ⟨[.ref z],[]⟩) (λfin s'=>∃v,fin=.done (.ret v)/\Q v s') E s:=by
 obtain⟨o1z,_,o1O,o11,o12⟩:=d1;obtain⟨o2z,_,o2O,o21,o22⟩:=d2;show wpAny _ _ (field (.ref z) 2 >>= _) _ E _;refine O2<|Pd zz rfl (x:=.bool false) rfl ?_;show wpAny _ _ (field (.ref z) 3 >>= _) _ E _;refine O2<|Pd zz rfl (x:=.ref TI) rfl (O2<|Pr zi rfl ?_);show wpAny _ _ (Builtin.SmallTypes.ownedTupleIsFree (.ref z) >>= _) _ E _;refine O2 ?_;unfold Builtin.SmallTypes.ownedTupleIsFree;refine O2<|Pd zz rfl (x:=.none) rfl (O4 ?_);simp only[if_true];refine O2<|Py (O2<|Pd zz rfl (x:=.ref TO) rfl<|O2<|Ps zz (by simp) λg1 zz1 k1=>?_);replace zz1:IsZip g1 z TI TO .ellipsis:=zz1;refine O2 ?_;simp only[List.zipIdx_cons,List.zipIdx_nil,A7,List.forIn_nil];refine O2<|O2 (PH ?_);show wpAny _ _ (Builtin.SmallTypes.nextOf (.ref j1) >>= _) _ _ _;refine O2<|vS (u1.keep λo e=>k1.extBut _ o D.c e) (v1.keep λo e=>k1.extBut _ o o1z e) ex λg2 u1' k2=>O4 ?_;have zo2:IsPair g2 TO a b:=k2.extBut _ _ D.h<|k1.extBut _ _ D.b zo;refine O2<|Pr zo2 rfl (O2<|PD zo2 λg3 zo3 k3=>?_);replace zo3:IsPair g3 TO x b:=zo3;refine O2<|wpAny_letGo (O4 ?_);refine O2<|O2 (PH ?_);show wpAny _ _ (Builtin.SmallTypes.nextOf (.ref j2) >>= _) _ _ _;refine O2<|vS (u2.keep λo e=>k3.extBut _ o D.i.symm<|k2.extBut _ o D.j.symm<|k1.extBut _ o D.d e) (v2.keep λo e=>k3.extBut _ o o2O<|k2.extBut _ o o21<|k1.extBut _ o o2z e) ey λg4 u2' k4=>O4 ?_;have zo4:IsPair g4 TO x b:=k4.extBut _ _ D.i zo3;refine O2<|Pr zo4 rfl (O2<|PD zo4 λg5 zo5 k5=>?_);replace zo5:IsPair g5 TO x y:=zo5;refine O2<|wpAny_letGo (O4<|O4<|O2<|Pr zo5 rfl<|O2<|wpAny_newTuple ?_);have sz:g5.objs.size=s.heap.objs.size:=by rw[k5.1,k4.1,k3.1,k2.1,k1.1]
 have zz5:IsZip g5 z TI TO .ellipsis:=k5.extBut _ _ D.b.symm<|k4.extBut _ _ D.d.symm (k3.extBut _ _ D.b.symm<|k2.extBut _ _ D.c.symm zz1);have kk:∀c o,c≠z->c≠TO->c≠j1->c≠j2->s.heap.get? c=some o->g5.get? c=some o:=λc o c1 c2 c3 c4 e=>k5.extBut _ _ c2<|k4.extBut _ _ c4 (k3.extBut _ _ c2<|k2.extBut _ _ c3<|k1.extBut _ _ c1 e);have r1:SIt κ g5 j1 l1 (i+1):=u1'.keep λo e=>k5.extBut _ o D.h.symm<|k4.extBut _ o D.j (k3.extBut _ o D.h.symm e);have r2:SIt κ' g5 j2 l2 (i+1):=u2'.keep λo e=>k5.extBut _ o D.i.symm e;have zlt:z<g5.objs.size:=c8 zz5;show wpAny _ _ (Builtin.SmallTypes.ownedTupleHandOut (.ref z) (.ref g5.objs.size) >>= _) _ E _;refine O2 ?_;unfold Builtin.SmallTypes.ownedTupleHandOut;have zz6:IsZip (g5.push { cls:=.type "tuple",data:=.seq #[x,y] }) z TI TO .ellipsis:=dq _ zz5;refine O2<|Ps zz6 (by simp) λg7 zz7 k7=>?_;replace zz7:IsZip g7 z TI TO (rawInt g5.objs.size):=zz7;refine Ps zz7 (by simp) λg8 zz8 k8=>?_;replace zz8:IsZip g8 z TI TO (rawInt g5.objs.size):=zz8;have up:∀c o,c≠z->g5.get? c=some o->g8.get? c=some o:=λc o c1 e=>k8.extBut _ _ c1<|k7.extBut _ _ c1 (dq _ e);have tt8:IsPair g8 g5.objs.size x y:=k8.extBut _ _ (yP zlt)<|k7.extBut _ _ (yP zlt) (g9 _ rfl);have sz8:g8.objs.size=g5.objs.size+1:=by rw[k8.1,k7.1,mJ]
 rw[sz]at zz8 tt8 sz8;refine O4 ⟨_,rfl,?_⟩;show Q (.ref g5.objs.size) _;rw[sz];exact q g8 zz8 (up _ _ D.b zo5) (r1.keep λo e=>up _ o D.c e) (r2.keep λo e=>up _ o D.d e) tt8 sz8 λc o c1 c2 c3 c4 e=>up c o c1<|kk c o c1 c2 c3 c4 e
theorem Jz{Q:Fin->Shared->Prop}(hh:A.handled=none)(D:vT z TI TO j1 j2)(d1:ut z TI TO j1 j2 l1)(d2:ut z TI TO j1 j2 l2)
  (zz:IsZip s.heap z TI TO .none) (zi:IsPair s.heap TI (.ref j1) (.ref j2)) (zo:IsPair s.heap TO a b) (u1:SIt κ s.heap j1 l1 i) (u2:SIt κ' s.heap j2 l2 i) (v1:SSq κ s.heap l1 xs) (v2:SSq κ' s.heap l2 ys) (en:xs[i]? = none\/ys[i]? = none)
  (q:∀h' e,(∀c o,c≠z->c≠TO->c≠j1->c≠j2->s.heap.get? c=some o->h'.get? c=some o)->(∃o,h'.get? e=some o/\o.cls=.type "StopIteration")->E (.ref e) { s with heap:=h' }) :
  wpAny (model prog w) A (Builtin.«zip.__next__» ⟨[.ref z],[]⟩) Q E s:=by
 obtain⟨o1z,_,o1O,o11,o12⟩:=d1;obtain⟨o2z,_,o2O,o21,o22⟩:=d2;show wpAny _ _ (field (.ref z) 2 >>= _) _ E _;refine O2<|Pd zz rfl (x:=.bool false) rfl ?_;show wpAny _ _ (field (.ref z) 3 >>= _) _ E _;refine O2<|Pd zz rfl (x:=.ref TI) rfl (O2<|Pr zi rfl ?_);show wpAny _ _ (Builtin.SmallTypes.ownedTupleIsFree (.ref z) >>= _) _ E _;refine O2 ?_;unfold Builtin.SmallTypes.ownedTupleIsFree;refine O2<|Pd zz rfl (x:=.none) rfl (O4 ?_);simp only[if_true];refine O2<|Py (O2<|Pd zz rfl (x:=.ref TO) rfl<|O2<|Ps zz (by simp) λg1 zz1 k1=>?_);replace zz1:IsZip g1 z TI TO .ellipsis:=zz1;refine O2 ?_;simp only[List.zipIdx_cons,List.zipIdx_nil,A7,List.forIn_nil];refine O2<|O2 (PH ?_);show wpAny _ _ (Builtin.SmallTypes.nextOf (.ref j1) >>= _) _ _ _;cases ex:xs[i]? with
 |none=>
  refine O2<|ur hh (u1.keep λo e=>k1.extBut _ o D.c e) (v1.keep λo e=>k1.extBut _ o o1z e) ex λg2 e k2 ⟨oe,e1,e2⟩=>?_;have zz2:IsZip g2 z TI TO .ellipsis:=k2 _ _ D.c.symm zz1;have ne:e≠z:=λr=>by subst r;rw[zz2]at e1;cases e1;simp at e2
  exact Ps zz2 (by simp) λg3 _ k3=>q g3 e (λc o c1 _ c3 _ r=>k3.extBut _ _ c1<|k2 _ _ c3<|k1.extBut _ _ c1 r) ⟨oe,k3.extBut _ _ ne e1,e2⟩
 |some x=>
  have ey:ys[i]? = none:=en.elim (λh=>by rw[ex]at h;cases h) id;refine O2<|vS (u1.keep λo e=>k1.extBut _ o D.c e) (v1.keep λo e=>k1.extBut _ o o1z e) ex λg2 u1' k2=>O4 ?_;have zo2:IsPair g2 TO a b:=k2.extBut _ _ D.h<|k1.extBut _ _ D.b zo;refine O2<|Pr zo2 rfl (O2<|PD zo2 λg3 zo3 k3=>?_);refine O2<|wpAny_letGo (O4 ?_);refine O2<|O2 (PH ?_);show wpAny _ _ (Builtin.SmallTypes.nextOf (.ref j2) >>= _) _ _ _;refine O2<|ur hh (u2.keep λo e=>k3.extBut _ o D.i.symm<|k2.extBut _ o D.j.symm<|k1.extBut _ o D.d e) (v2.keep λo e=>k3.extBut _ o o2O<|k2.extBut _ o o21<|k1.extBut _ o o2z e) ey λg4 e k4 ⟨oe,e1,e2⟩=>?_;have zz4:IsZip g4 z TI TO .ellipsis:=k4 _ _ D.d.symm<|k3.extBut _ _ D.b.symm (k2.extBut _ _ D.c.symm zz1);have ne:e≠z:=λr=>by subst r;rw[zz4]at e1;cases e1;simp at e2
  exact Ps zz4 (by simp) λg5 _ k5=>q g5 e (λc o c1 c2 c3 c4 r=>k5.extBut _ _ c1<|k4 _ _ c4<|k3.extBut _ _ c2<|k2.extBut _ _ c3<|k1.extBut _ _ c1 r) ⟨oe,k5.extBut _ _ ne e1,e2⟩
end
section
theorem Inv.turnedN{o:HO}(ts:List Addr)(I:Inv X pins σ H s)(k:∀b o,b∉ts->s.heap.get? b=some o->h'.get? b=some o)
  (hf:∀b∈ts,fv X pins H b) (hp:s.heap.objs.size<=a) (new:ObjOk X.prog X.w (upd H a o) h' a o):Inv X pins σ (upd H a o) { s with heap:=h',toks:=t' }:=by
 have hn:H a=none:=I.hok.fresh hp;have nea:∀b u,H b=some u->b≠a:=λb u e z=>by rw[z,hn]at e;cases e
 have neb:∀b u,s.heap.get? b=some u->b≠a:=λb u e z=>by subst z;exact O5 (dG (c8 e) hp)<|iR _
 refine I.step (g':=s.gens) (d':=s.drawn) (ch:=ts) (λb hb=>?_) (λb o _ _ hc e _=>k b o hc e) (λb o _ _ hc e _=>⟨o.slots,k b o hc e⟩) (λb u _ e n=>by rw[aJ<|neb b u e];exact n)
  (λb o hc e=>⟨o,k b o hc e⟩) (λb xs e=>by rw [aJ<|nea _ _ e];exact e) (λb _ _ e=>by rw [aJ<|nea _ _ e];exact e) (λb ps e=>⟨#[],by rw [aJ<|nea _ _ e,e];simp⟩) (λm hm=>?_) (λb u e=>?_) I.bare (λn ys=>by
   obtain⟨og,eg⟩:=I.hasG;rw[aJ<|gF<|dG (u4 (by decide)<|c8 eg) hp];exact n ys)
 .obtain⟨_,f1,_,f3,f4,f5⟩:=hf b hb
  exact⟨f3,f1,f4,f5⟩
 .obtain⟨o,es,ep,ho,r⟩:=hm
  exact⟨o,es,ep,k _ o (λz=>(hf _ z).2.1 rfl) ho,r⟩
 .by_cases hb:b=a
  .subst hb;rw[aN]at e;cases e;exact new
  .rw[aJ hb]at e
   have nt:∀c v,H c=some v->c∉ts:=λc v q z=>by rw[(hf c z).1]at q;cases q
   refine(I.hok b u e).stay (λc v hc q=>k c v ?_ q) (λc q=>by rw[aJ<|nea _ _ q];exact q) λc _ q=>by rw[aJ<|nea _ _ q];exact q
   rcases hc with z|z
   .rw[z];exact nt b u e
   .exact nt c _ z
def Sq(K:O3)(κ:Bool)(H:Hp)(a:Addr)(xs:List V):Prop:=match κ with|true=>SqT K H a xs|false=>SqL K H a xs
theorem Inv.sq{xs:List V}(I:Inv X pins σ H s)(h:Sq X.K κ H a xs):∃its:List Value,Vals xs its/\SSq κ s.heap a its.toArray/\xs.length<=sizeLine:=by
 cases κ with
 |false=>obtain⟨its,r,p,hz⟩:=I.list h;exact⟨its,r,p.isList,hz⟩
 |true=>obtain⟨its,r,p,hz⟩:=I.tuple h;exact⟨its,r,(show s.heap.IsTuple a its.toArray from p),hz⟩
theorem Inv.sq_inj{xs ys:List V}(I:Inv X pins σ H s)(h:Sq X.K κ H a xs)(h':Sq X.K κ H a ys):xs=ys:=by
 cases κ with
 |false=>exact I.list_inj h h'|true=>exact I.tuple_inj h h'
theorem Inv.sq_out{xs:List V}(I:Inv X pins σ H s)(h:Sq X.K κ H a xs)(f:fv X pins H b):a≠b:=by
 rintro rfl;have hk:∀o,X.K.lookup a=some o->False:=λo e=>by
  have e1:=I.ok.mod.kin a o e;rcases f.2.2.2.1 with z|z
  exact I.ok.noex a o e1 z;exact O5 (dG (c8 (I.ok.bs a o e1).1) z)<|iR _
 have hr:∀u,Rd H a u->False:=λu r=>by
  rcases r with r|⟨o,r⟩
  rw[f.1]at r;cases r;rw[f.1]at r;cases r
 cases κ with
 |false=>
  rcases h with h|⟨o,_,_,e,_⟩
  exact hr _ h;exact hk o e
 |true=>
  rcases h with h|⟨o,_,_,e,_⟩
  exact hr _ h;exact hk o e
end
def EZ(K:O3)(κ κ':Bool)(a b:Addr):It:=
  ⟨λi H=>∃ xs ys x y,Sq K κ H a xs/\Sq K κ' H b ys/\xs[i]? = some x/\ys[i]? = some y,
   λi H v H'=>∃p x y,v=.ref p/\H p=none/\H'=upd H p (.tup [x,y])/\(∀xs,Sq K κ H a xs->xs[i]? = some x)/\(∀ys,Sq K κ' H b ys->ys[i]? = some y),
   λi H=>∃xs ys,Sq K κ H a xs/\Sq K κ' H b ys/\(xs.length<=i\/ys.length<=i)⟩
theorem JA{ps:Pos}(a b z TI TO j1 j2:Addr)(D:vT z TI TO j1 j2) :
  jH P w K (.Tuple es n1 ps) (EZ K κ κ' a b) [z,TI,TO,j1,j2] z (λi h=>IsZip h z TI TO .none/\IsPair h TI (.ref j1) (.ref j2)/\(∃u v,IsPair h TO u v)/\SIt κ h j1 a i/\SIt κ' h j2 b i) where
 mem:=by simp
 obj:=λi h ⟨q1,q2,⟨u,v,q3⟩,q4,q5⟩ c hc=>by
  simp only[Yao,da,or_false]at hc;rcases hc with rfl|rfl|rfl|rfl|rfl
  .exact⟨_,q1,λv e=>by cases e⟩
  .exact⟨_,q2,λv e=>by cases e⟩
  .exact⟨_,q3,λv e=>by cases e⟩
  .exact q4.obj
  .exact q5.obj
 keep:=λi h h' ⟨q1,q2,⟨u,v,q3⟩,q4,q5⟩ k=>
  ⟨k z (by simp) _ q1,k TI (by simp) _ q2,⟨u,v,k TO (by simp) _ q3⟩,q4.keep λo e=>k j1 (by simp) o e,q5.keep λo e=>k j2 (by simp) o e⟩
 item:=by
  intro X hP hw hK hc i pins s σ H E I hf ⟨q1,q2,⟨u,v,q3⟩,q4,q5⟩ hg;subst hP hw hK;obtain⟨xs,ys,x,y,hx,hy,ex,ey⟩:=hg;obtain⟨its,rv,p,hz⟩:=I.sq hx;obtain⟨its',rv',p',hz'⟩:=I.sq hy;obtain⟨ux,hux,rux⟩:=rv.get ex;obtain⟨uy,huy,ruy⟩:=rv'.get ey;have out:∀{κ:Bool} {c:Addr} {xs:List V},Sq X.K κ H c xs->ut z TI TO j1 j2 c:=λhq=>
   ⟨I.sq_out hq<|hf z<|by simp,I.sq_out hq<|hf TI<|by simp,I.sq_out hq<|hf TO<|by simp,I.sq_out hq<|hf j1<|by simp,I.sq_out hq<|hf j2<|by simp⟩
  have hT:s.TypeIs (.ref z) "zip" :=⟨_,q1,rfl⟩
  unfold pyNext;refine O2<|wpAny_attempt (wpAny_callSpecial?_slot (name:=Str.ofString "__next__") hT F.slot_zip_next (Pq F.slot_zip_next hT F.entry_zip_next
   (Jy D (out hx) (out hy) q1 q2 q3 q4 q5 p p' (x:=ux) (y:=uy) (by simpa using hux) (by simpa using huy) λh' a1 a2 a3 a4 a5 a6 a7=>O4 ⟨_,rfl,?_⟩) (F.args_zip_next_1 _)))
  refine wpAny_letOwnedTupleGo_zip (s:={ s with heap:=h' }) a1 λh2 b1 b2=>?_;have lt:∀{c o},s.heap.get? c=some o->c≠s.heap.objs.size:=λe=>gF<|c8 e;have zl:=lt q1;have up:∀c o,c∉[z,TI,TO,j1,j2]->s.heap.get? c=some o->h2.get? c=some o:=λc o hc e=>by
   simp only[Yao,da,or_false,not_or]at hc;exact b2.extBut _ _ hc.1<|a7 c o hc.1 hc.2.2.1 hc.2.2.2.1 hc.2.2.2.2 e
  refine⟨.ref s.heap.objs.size,upd H s.heap.objs.size<|.tup [x,y],Inv.turnedN (s:=s) (t':=s.toks) [z,TI,TO,j1,j2] I up hf (bS _) ?_,rfl,⟨s.heap.objs.size,x,y,rfl,I.fresh,rfl,λxs' h'=>by rw[I.sq_inj h' hx];exact ex,λys' h'=>by rw[I.sq_inj h' hy];exact ey⟩,?_,λc hc=>?_⟩
  .refine⟨by rw[sizeLine_eq];simp,[ux,uy],.cons rux<|.cons ruy .nil,?_⟩
   exact⟨_,b2.extBut _ _ (Pa zl) a5,rfl,_,rfl⟩
  .exact⟨b1,b2.extBut _ _ D.a<|a7 _ _ D.a D.e D.f D.g q2,⟨_,_,b2.extBut _ _ D.b a2⟩,a3.keep λo e=>b2.extBut _ o D.c e,a4.keep λo e=>b2.extBut _ o D.d e⟩
  .have he:∃o,s.heap.get? c=some o:=by
    simp only[Yao,da,or_false]at hc;rcases hc with rfl|rfl|rfl|rfl|rfl
    .exact⟨_,q1⟩
    .exact⟨_,q2⟩
    .exact⟨_,q3⟩
    .obtain⟨o,e,_⟩:=q4.obj;exact⟨o,e⟩
    .obtain⟨o,e,_⟩:=q5.obj;exact⟨o,e⟩
   obtain⟨o,e⟩:=he;rw[aJ<|lt e];exact(hf c hc).1
 done:=by
  intro X hP hw hK hc i pins s σ H E I hf ⟨q1,q2,⟨u,v,q3⟩,q4,q5⟩ hg;subst hP hw hK;obtain⟨xs,ys,hx,hy,en⟩:=hg;obtain⟨its,rv,p,hz⟩:=I.sq hx;obtain⟨its',rv',p',hz'⟩:=I.sq hy;have l1:=rv.length;have l2:=rv'.length;have out:∀{κ:Bool} {c:Addr} {xs:List V},Sq X.K κ H c xs->ut z TI TO j1 j2 c:=λhq=>
   ⟨I.sq_out hq<|hf z<|by simp,I.sq_out hq<|hf TI<|by simp,I.sq_out hq<|hf TO<|by simp,I.sq_out hq<|hf j1<|by simp,I.sq_out hq<|hf j2<|by simp⟩
  have hT:s.TypeIs (.ref z) "zip" :=⟨_,q1,rfl⟩
  unfold pyNext;refine O2<|wpAny_attempt (wpAny_callSpecial?_slot (name:=Str.ofString "__next__") hT F.slot_zip_next (Pq F.slot_zip_next hT F.entry_zip_next
   (Jz (I.ok.hd hc) D (out hx) (out hy) q1 q2 q3 q4 q5 p p' (by rcases en with z|z;exact .inl (by simp;omega);exact .inr (by simp;omega)) λh' e k ⟨o,e1,e2⟩=>?_) (F.args_zip_next_1 _)))
  refine O2<|wpAny_isInstance (s:={ s with heap:=h' }) (T:= "StopIteration") (b:=true) ⟨o,e1,e2⟩ isSubtype_stop (O4 ⟨rfl,?_⟩);refine I.turnedL (t':=s.toks) [z,TI,TO,j1,j2] (λc o hc e=>?_) hf;simp only[Yao,da,or_false,not_or]at hc;exact k c o hc.1 hc.2.2.1 hc.2.2.2.1 hc.2.2.2.2 e
 self:=λ_ _ _ _ _ st h=>wpAny_pyIter_zip st.1 h
noncomputable def io(κ:Bool)(l:Addr):Obj:={ cls:=.type (match κ with|true=> "tuple_iterator" |false=> "list_iterator"),data:=.fields #[.ref l,.int 0 0] }
theorem zq{j:Addr}(e:h.get? j=some (io κ l)):SIt κ h j l 0:=by cases κ;all_goals exact⟨_,e,rfl,rfl⟩
theorem tB{E:Value->Shared->Prop}(hl:SSq κ s.heap l xs)(q:Q (.ref s.heap.objs.size) { s with heap:=s.heap.push (io κ l) }) :
  wpAny (model prog w) A (pyIter<|.ref l) Q E s:=by
 cases κ with
 |false=>exact wpAny_pyIter_list hl q|true=>exact wpAny_pyIter_tuple hl q
abbrev vU(κ:Bool)(h:Heap)(l1:Addr):Heap:=h.push<|io κ l1
abbrev vV(κ κ':Bool)(h:Heap)(l1 l2:Addr):Heap:=(vU κ h l1).push<|io κ' l2
abbrev vW(κ κ':Bool)(h:Heap)(l1 l2:Addr):Heap:=(vV κ κ' h l1 l2).push { cls:=.type "tuple",data:=.seq #[.ref h.objs.size,.ref (vU κ h l1).objs.size] }
abbrev vX(κ κ':Bool)(h:Heap)(l1 l2:Addr):Heap:=(vW κ κ' h l1 l2).push { cls:=.type "tuple",data:=.seq #[.none,.none] }
abbrev oa(κ κ':Bool)(h:Heap)(l1 l2:Addr):Heap:=(vX κ κ' h l1 l2).push { cls:=.type "zip",data:=.fields #[.none,.bool false,.bool false,.ref (vV κ κ' h l1 l2).objs.size,.ref (vW κ κ' h l1 l2).objs.size] }
theorem JB(κ κ':Bool)(l1 l2:Addr)(xs ys:Array Value) :
  Meets (Builtin.«zip.__new__» ⟨[.type "zip",.ref l1,.ref l2],[]⟩) (λ_ R s=>SSq κ s.heap l1 xs/\SSq κ' s.heap l2 ys/\R (.ok<|.ret<|.ref (vX κ κ' s.heap l1 l2).objs.size) { s with heap:=oa κ κ' s.heap l1 l2 }):=
 .of_wp λprog w A R s h=>by
  obtain⟨hp,g,d,tk,os⟩:=s;obtain⟨hl1,hl2,h⟩:=h;have hsub:=sub_zip;have L1:SSq κ (Shared.heap ⟨hp,g,d,tk,os⟩) l1 xs:=hl1;have L2':SSq κ' (Shared.heap ⟨hp.push<|io κ l1,g,d,tk,os⟩) l2 ys:=hl2.keep λo e=>dq _ e
  wp_walk using tB L1,tB L2'
  exact⟨_,rfl,h⟩
theorem JC{E:Value->Shared->Prop}{l1 l2:Addr}(hl1:SSq κ s.heap l1 xs)(hl2:SSq κ' s.heap l2 ys)
  (h:∀ h',IsZip h' (s.heap.objs.size+4) (s.heap.objs.size+2) (s.heap.objs.size+3) .none->IsPair h' (s.heap.objs.size+2) (.ref s.heap.objs.size) (.ref<|s.heap.objs.size+1)->
   IsPair h' (s.heap.objs.size+3) .none .none->SIt κ h' s.heap.objs.size l1 0->SIt κ' h' (s.heap.objs.size+1) l2 0->
   (∀c o,s.heap.get? c=some o->h'.get? c=some o)->Q (.ref<|s.heap.objs.size+4) { s with heap:=h' }) :
  wpAny (model prog w) A (call (.type "zip") [.ref l1,.ref l2]) Q E s:=by
 refine callType_new F.called_zip (by decide) (F.typeCall_zip_2 _ _) (F.newCall_zip_2 _ _) (λobj=>F.args_object_init_3 obj _ _) F.entry_zip_new (JB κ κ' l1 l2 xs ys) ⟨hl1,hl2,?_⟩;have z1:(vU κ s.heap l1).objs.size=s.heap.objs.size+1:=mJ ..;have z2:(vV κ κ' s.heap l1 l2).objs.size=s.heap.objs.size+2:=by rw[mJ,z1]
 have z3:(vW κ κ' s.heap l1 l2).objs.size=s.heap.objs.size+3:=by rw[mJ,z2]
 have z4:(vX κ κ' s.heap l1 l2).objs.size=s.heap.objs.size+4:=by rw[mJ,z3]
 have up5:∀{c o},(vX κ κ' s.heap l1 l2).get? c=some o->(oa κ κ' s.heap l1 l2).get? c=some o:=λe=>dq _ e;have up4:∀{c o},(vW κ κ' s.heap l1 l2).get? c=some o->(oa κ κ' s.heap l1 l2).get? c=some o:=λe=>up5<|dq _ e;have up3:∀{c o},(vV κ κ' s.heap l1 l2).get? c=some o->(oa κ κ' s.heap l1 l2).get? c=some o:=λe=>up4<|dq _ e;have up2:∀{c o},(vU κ s.heap l1).get? c=some o->(oa κ κ' s.heap l1 l2).get? c=some o:=λe=>up3<|dq _ e;have ob:∀κ l,(io κ l).isFreed=false:=λκ l=>rfl;have g5:(oa κ κ' s.heap l1 l2).get? (vX κ κ' s.heap l1 l2).objs.size=some _:=g9 _ rfl;have g4:(oa κ κ' s.heap l1 l2).get? (vW κ κ' s.heap l1 l2).objs.size=some _:=up5<|g9 _ rfl;have g3:(oa κ κ' s.heap l1 l2).get? (vV κ κ' s.heap l1 l2).objs.size=some _:=up4<|g9 _ rfl;have g2:(oa κ κ' s.heap l1 l2).get? (vU κ s.heap l1).objs.size=some _:=up3<|g9 _ (ob κ' l2);have g1:(oa κ κ' s.heap l1 l2).get? s.heap.objs.size=some _:=up2<|g9 _ (ob κ l1);show _/\_;rw[z2,z3,z4]at g5;rw[z1,z2]at g3;rw[z3]at g4;rw[z1]at g2;rw[z4];exact⟨⟨_,g5,rfl⟩,h _ g5 g3 g4 (zq g1) (zq g2) λc o x=>up2<|dq _ x⟩
theorem JD(n:Nat):vT (n+4) (n+2) (n+3) n (n+1):=
 ⟨(by omega:n+2≠n+4),(by omega:n+3≠n+4),(by omega:n≠n+4),(by omega:n+1≠n+4),(by omega:n+2≠n+3),(by omega:n+2≠n),(by omega:n+2≠n+1),(by omega:n+3≠n),(by omega:n+3≠n+1),(by omega:n≠n+1)⟩
theorem B0(n b:Nat)(h:b=n+4\/b=n+2\/b=n+3\/b=n\/b=n+1):n<=b:=by omega
section
def B1(K:O3)(ta:TA):TI:=λσ H R=>ta σ H λvs H1=>∃κ κ' a b,vs=[.ref a,.ref b]/\(∃xs,Sq K κ H1 a xs)/\(∃ys,Sq K κ' H1 b ys)/\R (EZ K κ κ' a b) H1
theorem JE{a b:Expr}{ps:Pos}(hg:Gl X "zip")(hm:X.mg "zip" = none)(ha:PA X [a,b] ta)(hs:starEach [a,b] X.env=[(false,eval a X.env),(false,eval b X.env)]:=by rfl)(hs2:starEach [b] X.env=[(false,eval b X.env)]:=by rfl) :
  PI X (.Tuple es n1 ps) (.Call (.Name "zip" p) [a,b] [] pos) (B1 X.K ta):=by
 intro pins s σ H R I h;refine Call_<|eu I hg hm boot_zip (PyProof.Rows.callWith_type1 (bL (ha pos pins s σ H _ I h) λus s1 ⟨vs,H1,I1,r1,q1⟩=>?_) (by rw[hs,hs2]) (by rw[hs2];rfl));obtain⟨κ,κ',l1,l2,e,⟨xs,hx⟩,⟨ys,hy⟩,q⟩:=q1;subst e;cases r1 with
 |cons r rr=>
  cases rr with
  |cons r' rr=>
   cases rr;cases r;cases r';obtain⟨its,rv,p1,hz⟩:=I1.sq hx;obtain⟨its',rv',p2,hz'⟩:=I1.sq hy;refine JC p1 p2 λh' a1 a2 a3 a4 a5 k=>wpAny_pyIter_zip (s:={ s1 with heap:=h' }) a1 ?_;have D:vT (s1.heap.objs.size+4) (s1.heap.objs.size+2) (s1.heap.objs.size+3) s1.heap.objs.size (s1.heap.objs.size+1):=JD _;refine⟨_,[s1.heap.objs.size+4,s1.heap.objs.size+2,s1.heap.objs.size+3,s1.heap.objs.size,s1.heap.objs.size+1],_,_,H1,rfl,I1.kept (t':=s1.toks) k,JA (κ:=κ) (κ':=κ') l1 l2 _ _ _ _ _ D,⟨a1,a2,⟨_,_,a3⟩,a4,a5⟩,λb hb=>?_,q⟩;have hb':s1.heap.objs.size<=b:=by
    simp only[Yao,da,or_false]at hb;exact B0 _ _ hb
   exact I1.fpOk hb'<|I1.hok.fresh hb'
end
theorem E1{C:Addr}(X:K.In h)(q:PySem.W.excIn K C bmB newId=true) :
  ∃(bm:List Value) (N:Addr) (nm qn:Str) (bs:List Value) (hd:Bool) (sn:List Str) (sub:List Value) (ab:Bool) (col:Option Bool) (dd:Option Addr) (k0 k1 k2 k3 k5:Option Value) (mN:Str->Option Value),
   h.get? C=some (excClassObj nm qn C N bs bm hd sn sub ab col dd k0 k1 k2 k3 k5 newId)/\h.Ns N mN/\mN "__init__" = none/\OwnTail h bmB bm:=by
 unfold PySem.W.excIn at q;split at q
 .rename_i dd cd sl ho
  split at q
  .rename_i C' bm k0 k1 k2 k3 n k5 hm hs
   simp only[cV,Po,rZ]at q;obtain⟨⟨⟨⟨⟨rfl,rfl⟩,hdel⟩,ht⟩,hok⟩,hni⟩:=q;obtain⟨nm,bs,mro,ns,qn,hd,sn,sub,ab,col,del⟩:=cd;dsimp only at hm hdel hok hni;subst hm hdel;have hsl:sl = #[k0,k1,k2,k3,some<|.builtin n,k5]:=by
    cases sl with
    |mk l=>exact congrArg Array.mk hs
   subst hsl;exact⟨bm,ns,nm,qn,bs,hd,sn,sub,ab,col,dd,k0,k1,k2,k3,k5,_,X _ _ ho,.of_isNs<|PySem.W.isNs_of_in X hok,PySem.W.nsMap_none_of_in X hok hni,PySem.W.tail_of_in X ht⟩
  .cases q
 .cases q
section
variable{EX:XK}{C:Addr}{np cpos:Pos}{B initId:String}
theorem JF(hr:jg X EX)(hc:X.calm=true)(hm:X.mg x=some (.ref C))(hq:PySem.W.excIn X.K C bmB newId=true)(FB:ExcBaseFacts B newId initId bmB)(hg:Gl X x:=by rfl)(hd:(x==("__debug__" : Str))=false:=by decide) :
  PS X (.Raise (some<|.Call (.Name x np) [] [] cpos) none pos) (λ_ _ H=>EX (.ref C) none H):=by
 intro pins s σ H D I h;obtain⟨bm,N,nm,qn,bs,hdc,sn,sub,ab,col,dd,k0,k1,k2,k3,k5,mN,hC,hN,hni,T⟩:=E1 I.kIn hq;refine wpAny_Raise_call_subT (C:=C) (nm:=nm) (q:=qn) (N:=N) (bs:=bs) (bm:=bm) (hdct:=hdc) (sn:=sn) (sub:=sub) (ab:=ab) (col:=col) (dd:=dd) (k0:=k0) (k1:=k1) (k2:=k2) (k3:=k3) (k5:=k5)
  FB (mN:=mN) (T.hasType FB.hasBase) (I.ok.hd hc) rfl hni (eM I hg hm ⟨rfl,?_⟩ hd)
 exact evalArgs_empty ⟨rfl,kW _,hC,hN,T,λh' e hx=>hr pins σ H s h' e (.ref C) [] I hx h⟩
end
section
variable{H':Hp}{s':Shared}{B h2:Heap}
theorem Inv.fsStk(I:Inv X pins σ H s)(hb:b∈X.fs):b∈cW X.stack:=by
 rcases I.ok.stk with z|⟨z,_⟩
 rw[z];exact hb;rw[z];exact vR hb
theorem Inv.fly(I:Inv X pins σ H s)(hos:s'.os=s.os)(hbare:AllBare s'.gens)(un:Un (cW X.stack) [] H H' s.heap s'.heap)(hok:HOk X.prog X.w H' s'.heap)
  (hB:∀b o,s.heap.get? b=some o->b∉cW X.stack->∃o',B.get? b=some o') (hT:∀b u,H' b=some u->∃o,B.get? b=some o) (st1:B.StaysIn s'.heap) (st2:B.StaysIn h2) (up:s'.heap.UpToSlots h2)
  (frm:∀b∈cW X.stack,∃o,s'.heap.get? b=some o/\∀vs,o.data≠.fields vs):Inv X pins σ H' { s' with heap:=h2 }:=by
 have I':Inv X pins σ H' s':=I.call' hos un hok hbare (ch:=[])<|λb z=>O5 z (by simp);have nostk:∀b o,X.s₀.heap.get? b=some o->b∉X.fs->b∉cW X.stack:=λb o e hb hm=>by
  rcases Yao.mp (I.stkSub b hm) with z|z
  .have l1:=c8 e
   have l2:=I.ok.above;rw[<-z]at l2;exact O5 (dG l1 l2)<|iR _
  .exact hb z
 have inB:∀{b o},s.heap.get? b=some o->b∉cW X.stack->∀{u},s'.heap.get? b=some u->h2.get? b=some u:=λ{b o} e hb {u} q=>by
  obtain⟨o',eB⟩:=hB b o e hb;have:=st1 b o' eB;rw[q]at this;cases this;exact st2 b _ eB
 have cellK:∀c v,s'.heap.IsCell c v->h2.IsCell c v:=λc v ⟨o,ho,hd⟩=>by
  obtain⟨sl,e⟩:=up c o ho λvs z=>by rw[hd]at z;cases z
  exact⟨_,e,hd⟩
 refine⟨I'.ok,I'.os,I'.bare,⟨λb o e n hb hx=>?_,λb o e n hb hx=>?_,I'.base.free,λb o e hx=>?_,I'.base.tups,I'.base.frzs,I'.base.tbls,I'.base.sys⟩,?_,λx c e=>?_,I'.free,I'.freeC,λp hp=>?_,hok.through hT st1 st2,I'.len⟩
 .exact inB (I.base.keep b o e n hb hx) (nostk b o e hb)<|I'.base.keep b o e n hb hx
 .obtain⟨sl,e1⟩:=I'.base.slot b o e n hb hx
  obtain⟨o3,e3,nf⟩:=frm b<|I.fsStk hb;rw[e1]at e3;cases e3;obtain⟨sl2,e4⟩:=up b _ e1 nf;exact⟨sl2,e4⟩
 .obtain⟨o',e1⟩:=I'.base.there b o e hx
  by_cases hb:b∈cW X.stack
  .obtain⟨o3,e3,nf⟩:=frm b hb
   obtain⟨sl,e4⟩:=up b _ e3 nf;exact⟨_,e4⟩
  .obtain⟨o2,e2⟩:=I.base.there b o e hx
   exact⟨o',inB e2 hb e1⟩
 .obtain⟨m,hn,hl⟩:=I'.loc
  refine⟨m,up.ns hn,λi x v e1 e2 e3=>?_⟩;obtain⟨u,r,l⟩:=hl i x v e1 e2 e3;refine⟨u,r,?_⟩;rcases l with l|⟨k,c,e,z⟩
  .exact .inl l
  .exact .inr ⟨k,c,e,cellK c _ z⟩
 .obtain⟨v,z⟩:=I'.cell x c e
  exact⟨v,cellK c v z⟩
 .obtain⟨e,n,ne,nf,d⟩:=I'.pin p hp
  obtain⟨e0,n0,_⟩:=I.pin p hp;have hb:p.1∉cW X.stack:=λhm=>by
   rcases Yao.mp (I.stkSub _ hm) with z|z
   .exact ne z
   .exact nf z
  exact⟨inB e0 hb e,n,ne,nf,d⟩
theorem Inv.track{u:HO}(I:Inv X pins σ H s)(hn:H a=none)(h0:X.s₀.heap.get? a=none)(hL:a≠X.env.locals)(hC:∀x c,X.env.cells.lookup x=some c->c≠a)(hP:∀p∈X.pn++pins,p.1≠a)
  (new:ObjOk X.prog X.w (upd H a u) s.heap a u) (hu:∀us,u≠.lst us):Inv X pins σ (upd H a u) s:=by
 have nea:∀b v,H b=some v->b≠a:=λb v e z=>by rw[z,hn]at e;cases e
 refine ⟨I.ok,I.os,I.bare,⟨I.base.keep,I.base.slot,λb o e n hx=>?_,I.base.there,λb xs e=>?_,λb o xs e=>?_,λb ps e=>?_,λx0 e0 n ys=>by
   by_cases z:sysModules=a
   .rw[z,aN];exact λy=>hu ys (O8 y)
   .rw[aJ z];exact I.base.sys x0 e0 n ys⟩,I.loc,I.cell,?_,λx c e=>?_,λp hp=>?_,λb v e=>?_,I.len⟩
 .rw[aJ (λz=>by rw[z,h0]at e;cases e)]
  exact I.base.free b o e n hx
 .have:=I.base.tups b xs e
  rw[aJ<|nea _ _ this];exact this
 .have:=I.base.frzs b o xs e
  rw[aJ<|nea _ _ this];exact this
 .obtain⟨m,e1⟩:=I.base.tbls b ps e
  exact⟨m,by rw[aJ<|nea _ _ e1];exact e1⟩
 .rw[aJ<|Pa hL];exact I.free
 .rw[aJ<|hC x c e];exact I.freeC x c e
 .obtain⟨e,n,r⟩:=I.pin p hp
  exact⟨e,by rw[aJ<|hP p hp];exact n,r⟩
 .by_cases hb:b=a
  .subst hb;rw[aN]at e;cases e;exact new
  .rw[aJ hb]at e
   exact(I.hok b v e).stay (λ_ _ _ q=>q) (λc q=>by rw[aJ<|nea _ _ q];exact q) λc _ q=>by rw[aJ<|nea _ _ q];exact q
end
noncomputable abbrev Cx.tr(X:Cx)(E:Value->Shared->Prop)(pins:List (Addr×Obj)):Cx:={ X with xe:=E,pn:=X.pn++pins }
noncomputable abbrev Cx.hnd(X:Cx)(e:Addr)(E:Value->Shared->Prop):Cx:={ X with A:=X.A.mark<|some<|.ref e,calm:=false,xe:=E }
section
variable{pins':List (Addr×Obj)}{E:Value->Shared->Prop}{e:Addr}
theorem Inv.tr(I:Inv X pins σ H s):Inv (X.tr E pins) [] σ H s:=⟨⟨I.ok.mod,I.ok.kind,I.ok.glob,I.ok.blt,I.ok.above,I.ok.inj,I.ok.has,I.ok.cab,I.ok.hd,I.ok.frames,I.ok.stk,I.ok.exf,I.ok.bs,I.ok.bsz,I.ok.noex,I.ok.exfs,I.ok.funs,I.ok.frf,I.ok.sys0⟩,I.os,I.bare,I.base,I.loc,I.cell,I.free,I.freeC,λp hp=>I.pin p<|by simpa using hp,I.hok,I.len⟩
theorem Inv.untr(I:Inv (X.tr E pins) pins' σ H s):Inv X pins σ H s:=⟨⟨I.ok.mod,I.ok.kind,I.ok.glob,I.ok.blt,I.ok.above,I.ok.inj,I.ok.has,I.ok.cab,I.ok.hd,I.ok.frames,I.ok.stk,I.ok.exf,I.ok.bs,I.ok.bsz,I.ok.noex,I.ok.exfs,I.ok.funs,I.ok.frf,I.ok.sys0⟩,I.os,I.bare,I.base,I.loc,I.cell,I.free,I.freeC,λp hp=>I.pin p<|A5 _ hp,I.hok,I.len⟩
theorem SP.untr{D:ke}{f:Flow}{s':Shared}(h:SP (X.tr E pins) pins' D f s'):SP X pins D f s':=by
 cases f with
 |next=>obtain⟨σ',H',I,q⟩:=h;exact⟨σ',H',I.untr,q⟩
 |brk=>obtain⟨σ',H',I,q⟩:=h;exact⟨σ',H',I.untr,q⟩
 |cont=>obtain⟨σ',H',I,q⟩:=h;exact⟨σ',H',I.untr,q⟩
 |ret u=>obtain⟨v,σ',H',I,r,q⟩:=h;exact⟨v,σ',H',I.untr,r,q⟩
theorem Inv.hnd(I:Inv X pins σ H s):Inv (X.hnd e E) pins σ H s:=⟨⟨I.ok.mod,I.ok.kind,I.ok.glob,I.ok.blt,I.ok.above,I.ok.inj,I.ok.has,I.ok.cab,(λz=>by cases z),I.ok.frames,I.ok.stk,I.ok.exf,I.ok.bs,I.ok.bsz,I.ok.noex,I.ok.exfs,I.ok.funs,I.ok.frf,I.ok.sys0⟩,I.os,I.bare,I.base,I.loc,I.cell,I.free,I.freeC,I.pin,I.hok,I.len⟩
theorem Inv.unhnd(hd:X.calm=true->X.A.handled=none)(I:Inv (X.hnd e E) pins σ H s):Inv X pins σ H s:=⟨⟨I.ok.mod,I.ok.kind,I.ok.glob,I.ok.blt,I.ok.above,I.ok.inj,I.ok.has,I.ok.cab,hd,I.ok.frames,I.ok.stk,I.ok.exf,I.ok.bs,I.ok.bsz,I.ok.noex,I.ok.exfs,I.ok.funs,I.ok.frf,I.ok.sys0⟩,I.os,I.bare,I.base,I.loc,I.cell,I.free,I.freeC,I.pin,I.hok,I.len⟩
end
theorem JG{M:Model}{E:Value->Shared->Prop}{ea C Cs:Addr}{Q:Bool->Shared->Prop}(X:K.In s.heap)(hs:PySem.W.excIn K Cs bmB newId=true)(hbase:bmB.contains (.type "BaseException")=true)
  (he:∃oe,s.heap.get? ea=some oe/\oe.cls=.ref C) (hsub:PySem.W.mroIn K C (.ref Cs)=some true) (q:Q true s):wpAny M A (excMatches (.ref ea)<|.ref Cs) Q E s:=by
 obtain⟨bm,N,nm,qn,bs,hd,sn,sub,ab,col,dd,k0,k1,k2,k3,k5,mN,hC,hN,hni,T⟩:=E1 X hs;obtain⟨oe,he,hcls⟩:=he;have hcB:(Value.ref Cs::bm).contains (.type "BaseException")=true:=by rw[ue,T.hasType hbase,Bool.or_true]
 have f:=tc_notTuple;have LS:PySem.W.Looks M s.heap (isSubtype (.ref C)<|.ref Cs) true:=PySem.W.looks_mroIn X hsub;obtain⟨hh,g,d,tk,os⟩:=s;unfold excMatches
 repeat (first|(with_reducible refine Pc he ?_;rw[hcls])|with_reducible refine Pc hC ?_|(with_reducible refine Pv hC ?_;rw[hcB])|with_reducible refine LS.at ?_|wp_step)
 exact q
section
theorem Inv.names(I:Inv X pins σ H s)(hn:h'.Ns X.env.locals m)(hs:Heap.SameBut X.env.locals s.heap h'):Inv X pins (List.replicate σ.length none) H { s with heap:=h',toks:=t' }:=by
 have ne:∀b o,X.s₀.heap.get? b=some o->b≠X.env.locals:=λb o e=>gF<|dG (c8 e) I.ok.above;have same:∀b,b≠X.env.locals->h'.get? b=s.heap.get? b:=λb hb=>hs.2 b hb;have nH:∀b u,H b=some u->b≠X.env.locals:=λb u e z=>by rw[z,I.free]at e;cases e
 refine⟨I.ok,I.os,I.bare,⟨λb o e n hb hx=>?_,λb o e n hb hx=>?_,I.base.free,λb o e hx=>?_,I.base.tups,I.base.frzs,I.base.tbls,I.base.sys⟩,⟨m,hn,λi x v _ e2 _=>?_⟩,λx c e=>?_,I.free,I.freeC,λp hp=>?_,λb u e=>?_,by rw[pY];exact I.len⟩;show h'.get? b=_;rw[same b<|ne b o e];exact I.base.keep b o e n hb hx;obtain⟨sl,e1⟩:=I.base.slot b o e n hb hx;refine⟨sl,?_⟩;show h'.get? b=_;rw[same b<|ne b o e];exact e1;obtain⟨o',e1⟩:=I.base.there b o e hx;refine⟨o',?_⟩;show h'.get? b=_;rw[same b<|ne b o e];exact e1;rw[mI]at e2;split at e2<;>cases e2;obtain⟨v,o,ho,hd⟩:=I.cell x c e;refine⟨v,o,?_,hd⟩;show h'.get? c=_;rw[same c<|I.cne x c e];exact ho;obtain⟨e,n,nl,r⟩:=I.pin p hp;refine⟨?_,n,nl,r⟩;show h'.get? p.1=_;rw[same _ nl];exact e;refine(I.hok b u e).stay (λc v hc q=>?_) (λ_ q=>q) λ_ _ q=>q;show h'.get? c=_;rw[same c ?_];exact q;rcases hc with rfl|hc
 exact nH _ _ e;exact nH _ _ hc
end
structure RoomU(k:Nat)(A:Around):Prop where
 dp:A.depth+3*k+5<recursionLimit
 un:A.units+16*k+200<cLine
theorem RoomU.mono{j:Nat}(r:RoomU k A)(h:j<=k):RoomU j A:=⟨by have:=r.dp;omega,by have:=r.un;omega⟩
theorem RoomU.deeper{k:Nat}{A:Around}(r:RoomU (k+1) A)(env:Env):RoomU k (A.deeper env):=
 ⟨by have:=r.dp;show A.depth+1+3*k+5<_;omega,by have:=r.un;show A.units+3+16*k+200<_;omega⟩
theorem RoomU.depth{k:Nat}{A:Around}(r:RoomU k A):A.depth<recursionLimit:=by have:=r.dp;omega
theorem RoomU.units{k:Nat}{A:Around}(r:RoomU k A):A.units+64<cLine:=by have:=r.un;omega
theorem Room.u(r:Room k A):RoomU k A:=⟨r.dp,r.un⟩
theorem RoomU.mark{k:Nat}{A:Around}{v:Option Value}(r:RoomU k A):RoomU k (A.mark v):=⟨r.dp,r.un⟩
structure zu(P:Program)(w:World)(K:O3)(mg:Str->Option Value)(base:Heap)(k:Nat)(f:Addr)(fd:FuncData)(ps:List Str)(sp:Sp):Prop where
 len:∀vs H Q E,sp vs H Q E->vs.length=ps.length
 run:∀(A:Around) (outer:List Env) (s:Shared) (H:Hp) (args:Args) (us:List Value) (vs:List V) (Q:VK) (E:XK),RoomU k A->Env0 P w K mg base A outer s H->BindsTo s fd args (ps.zip us)->Vals vs us->sp vs H Q E->
  codeAny (model P w) A (.call (.ref f) args) (CR ER outer P w H s Q E) s
def tD(P:Program)(w:World)(K:O3)(mg:Str->Option Value)(base:Heap)(N:List Str)(qual:Str)(scope:Scope)(f:Addr)(cd:Value)(A:Around)(outer:List Env)(s:Shared)(H:Hp):Cx:=
 { cR ER P w K mg base N qual scope f cd A outer s H E0 with calm:=false,xe:=λ_ _=>False }
theorem JH{s1:Shared}{vs:List V}
  (S:bT N ps scope) (e0:Env0 P w K mg base A outer s H) (hl:vs.length=ps.length) (r:Vals vs us)
  (x:InCallC s s.heap.objs.size (bindL (envOfC qual scope s.heap.objs.size f cd).kindOf (ps.zip us) λ_=>none) (cellsFrom (s.heap.objs.size+1) scope.names []) (bindC (envOfC qual scope s.heap.objs.size f cd).kindOf (ps.zip us) λ_=>none) s1) :
  Inv (tD P w K mg base N qual scope f cd A outer s H) [] (start N vs) H s1:=by
 have hpl:ps.length<=N.length:=by have:=congrArg List.length S.pre;rw[gj]at this;omega
 obtain⟨h1,tk,rfl,hk⟩:=x.done;have noA:∀b:Addr,b∉(tD P w K mg base N qual scope f cd A outer s H).ex:=λb z=>O5 (show b∈([]:List Addr) from z) (by simp);refine ⟨⟨e0.mod,S.kind,rfl,rfl,bS _,λy z c h1 h2=>?_,λy hy=>?_,λy c _ h=>?_,(λz=>by cases z),Around.frames_deeper e0.frames,.inr ⟨rfl,rfl⟩,λb z=>O5 z<|noA b,e0.bs,e0.bsz,λb _ _=>noA b,λb z=>O5 z<|noA b,e0.funs,e0.frf,e0.sysn⟩,
  rfl,e0.bare,Un.kept hk,⟨_,x.toInCall.ns,λi y v h1 h2 h3=>?_⟩,λy c h=>⟨_,x.cell y c h⟩,e0.hok.fresh<|bS _,λy c h=>?_,λp hp=>O5 (show p∈([]:List (Addr×Obj)) from hp)<|by simp,e0.hok.kept hk,?_⟩
 .exact name_of_addr x.apart (Pb h1)<|Pb h2
 .have hy:scope.names.lookup y=some .cell\/scope.names.lookup y=some .free:=hy
  rcases hy with hy|hy
  .exact eE hy
  .exact O5 rfl<|S.nofree _ (Pb hy)
 .exact pX<|x.above y c (Pb h)
 .have hi:i<vs.length:=by
   unfold start at h2
   by_cases hi:i<vs.length
   .exact hi
   .rw[jY<|by simpa using hi]at h2
    rw[mI]at h2;split at h2<;>cases h2
  have ha:vs[i]? = some v:=by
   unfold start at h2;rw[j9<|by simpa using hi,cE]at h2;cases e:vs[i]? with
   |none=>rw[e]at h2;cases h2
   |some a=>rw[e]at h2;cases h2;rfl
  obtain⟨u,hu,rv⟩:=r.get ha;have hp:ps[i]? = some y:=by
   rw[<-S.pre,A6<|by omega];exact h1
  have ndP:ps.Nodup:=by rw[<-S.pre];exact S.nd.sublist<|List.take_sublist _ _
  refine⟨u,rv,?_⟩;rcases S.par y (jz hp) with k|k
  .exact .inl ⟨k,fS ndP hp hu k⟩
  .obtain⟨c,e⟩:=eE (n:=s.heap.objs.size+1) k
   refine .inr ⟨.inl k,c,e,?_⟩;have q:=x.cell y c e;rw[fT ndP hp hu (by show scope.names.lookup y≠_;rw[k];decide)]at q;exact q
 .exact e0.hok.fresh<|pX (x.above y c<|Pb h)
 .unfold start
  show _=N.length;rw[d9,bQ,pY];omega
theorem Fun.okU{st:Stmt}{sp:Sp}(F:Fun K x qual st f fd)(S:bT N ps (aE st))(len:∀vs H Q E,sp vs H Q E->vs.length=ps.length)
  (hbody:∀ (cdv:Value) (A:Around) (outer:List Env) (s:Shared) (H:Hp) (vs:List V) (Q:VK) (E:XK),RoomU k (A.deeper<|envOfC qual (aE st) s.heap.objs.size f cdv)->sp vs H Q E->
   ∃t,mq (tD P w K mg base N qual (aE st) f cdv A outer s H) (bB st) t/\t { nx:=λ_ H'=>Q .non H',rt:=Q } (start N vs) H):zu P w K mg base (k+1) f fd ps sp:=by
 obtain⟨oc,od,kV,doc,pm,an,cdv,ct,osl,rfl,lk,hcd⟩:=F.ex;refine⟨len,λA outer s H args us vs Q E hr e0 hb r hsp=>?_⟩;have hl:=len _ _ _ _ hsp;have KX:K.In s.heap:=e0.mod.kin.keeps λb o e=>(e0.bs b o e).1;have lim:s.heap.NoLimit:=e0.mod.nolimit.keeps λb o e=>(e0.bs b o e).1;have hkind:∀y∈ps.zip us,(aE st).names.lookup y.1=some .local\/((aE st).names.lookup y.1=some .cell/\((cellsFrom (s.heap.objs.size+1) (aE st).names []).lookup y.1).isSome=true):=λ⟨n,v⟩ hy=>by
  rcases S.par n (u5 hy).1 with q|q
  .exact .inl q
  .exact .inr ⟨q,PySem.W.cellsFrom_some _ _ _<|.inl q⟩
 refine codeAny_call_function hr.depth (KX _ _ lk) rfl S.co S.gen rfl (PySem.W.codeRec_of KX hcd)<|hb _ _ _ _ ?_;refine wpAny_newFunctionEnv_cells S.kind hkind λenv he s1 x=>?_;subst he;refine⟨lim.keeps x.toInCall.keep,codeAny_func ?_⟩;obtain⟨t,ht,hq⟩:=hbody cdv A outer s H vs Q E (hr.deeper _) hsp;have I:Inv (tD P w K mg base N qual (aE st) f cdv A outer s H) [] (start N vs) H s1:=JH S e0 hl r x;refine Ph (ht [] s1 (start N vs) H _ I hq) (λfl s' hs=>?_) λe s' hs=>hs.elim;have fin:∀{σ':St} {H':Hp} {v:V} {u:Value},Inv (tD P w K mg base N qual (aE st) f cdv A outer s H) [] σ' H' s'->RelV v u->Q v H'->CE outer P w H s Q u s':=
  λ{σ' H' v u} J rv q=>⟨v,H',J.os,J.bare,J.base,J.hok,rv,q⟩
 cases fl with
 |ret u=>
  obtain⟨v,σ',H',J,rv,q⟩:=hs;exact fin J rv q
 |next=>
  obtain⟨σ',H',J,q⟩:=hs;exact fin (v:=V.non) (u:=Value.none) J rfl q
 |brk=>
  obtain⟨_,_,_,q⟩:=hs;exact Pi q
 |cont=>
  obtain⟨_,_,_,q⟩:=hs;exact Pi q
section
variable{sp:Sp}{E:XK}{t:TA}
theorem JI(F:zu X.prog X.w X.K X.mg X.base k f fd ps sp)(hr:RoomU k X.A)(hg:Gl X x)(hm:X.mg x=some (.ref f))(hk:PySem.W.keepIn X.K (.ref f)=true)(hb:Binds X.K fd ps [])
  (ha:PA X (e::es) t) (hdb:(x==("__debug__" : Str))=false:=by decide) (he:starEach (e::es) X.env=(false,eval e X.env)::starEach es X.env:=by rfl) (hpl:(backTo pos<|starEach es X.env).any (·.1)=false:=by rfl) :
  PE X (.Call (.Name x p) (e::es) [] pos) (rj sp [] E t):=by
 have F':∀(pins:List (Addr×Obj)) (σ:St) (H:Hp) (s:Shared) (Q:VK) (us:List Value) (vs:List V),Inv X pins σ H s->Vals vs us->sp (vs++[]) H Q E->wpAny (model X.prog X.w) X.A (call (.ref f) us) (EP X pins σ Q) X.xe s:=by
  intro pins σ H s Q us vs I r h;have r2:Vals (vs++[]) (us++[]):=by simpa using r
  have hl:(us++[]).length=ps.length:=by rw[<-r2.length];exact F.len _ _ _ _ h
  refine wpAny_call<|codeAny_mono (F.run X.A X.stack s H ⟨us,[]⟩ (us++[]) (vs++[]) Q E hr I.env0 (hb s us I.kIn hl) r2 h) λr s' hq=>?_;cases r with
  |error e=>exact Pi hq
  |ok fl=>
   cases fl with
   |ret u=>exact I.after hq|next=>exact Pi hq|brk=>exact Pi hq|cont=>exact Pi hq
 intro pins s σ H Q I h;refine Pw<|eM I hg hm ?_ hdb;refine PySem.W.callWith_K (h₀:=X.base) I.ok.mod.kin hk (bL (ha pos pins s σ H _ I h) λus s1 ⟨vs,H1,I1,r,q⟩=>⟨I1.kIn,?_⟩) he hpl;exact F' pins σ H1 s1 Q us vs I1 r q
end
section
open PySem PySem.Spec PySem.Calls PyProof.Rows PySem.W Builtin Builtin.ObjectAttr Builtin.Getset_descriptor
def XAt(h:Heap)(x C:Addr):Prop:=∃ox,h.get? x=some ox/\ox.cls=.ref C/\notCls ox=true
structure ij(K:Frag)(D:Addr):Prop where
 ga:findIn K (.ref D) "__getattribute__" = some (some<|.builtin "BaseException.__getattribute__")
 gn:findIn K (.ref D) "__getattr__" = some none
 be:mroIn K D (.type "BaseException")=some true
 is:(clsIn K D).isSome=true
 at':findIn K (.ref D) "__class__" = some (some<|.builtin "object.__class__")
 gt:specialIn K (.builtin "object.__class__") "__get__" = some (some<|.builtin "getset_descriptor.__get__")
 tk:takesIn K (.builtin "object.__class__")=some true
 ob:mroIn K D (.type "object")=some true
section
variable{E:Value->Shared->Prop}{K:Frag}{x D:Addr}
theorem XAt.type{M:Model}(I:XAt h x D):Looks M h (typeOf<|.ref x) (.ref D):=by obtain⟨ox,h1,h2,_⟩:=I;exact h2▸(Looks.ld h1).andThen .now
theorem JJ{M:Model}(X:K.In h)(c:ij K D):Looks M h (find (.ref x) (.ref D) "__class__") (.bind (.builtin "getset_descriptor.__get__")<|.builtin "object.__class__"):=by have L1:=looks_findIn (M:=M) X c.at';have L2:Looks M h (getOf<|some<|.builtin "object.__class__") (some<|.builtin "getset_descriptor.__get__"):=looks_specialIn X c.gt;have L3:=looks_takesIn (M:=M) X c.tk;refine L1.andThen<|L2.andThen ?_;exact(show Looks M h (dataDescriptor? (some<|.builtin "object.__class__")<|some<|.builtin "getset_descriptor.__get__") (some (.builtin "getset_descriptor.__get__",.builtin "object.__class__")) from L3.andThen .now).andThen<|Looks.tag .now
theorem JK{tp:Value}{R:Result->Shared->Prop}(X:K.In s.heap)(I:XAt s.heap x D)(hm:mroIn K D (.type "object")=some true)
  (h:R (.ok<|.ret<|.ref D) s):codeAny (model prog w) A (.call (.builtin "getset_descriptor.__get__") ⟨[.builtin "object.__class__",.ref x,tp],[]⟩) R s:=by
 obtain⟨hh,g,dr,t,os⟩:=s;have L0:=I.type (M:=model prog w);have L1:=looks_mroIn (M:=model prog w) X hm;refine codeAny_call_builtin KF.slot_gs.plain KF.entry_gs<|KF.slot_gs.check _ _ _ _ _ _ _ _ KF.type_class (KF.args_gs _ _ _) ?_;unfold Builtin.«getset_descriptor.__get__» descrGet;rw[dga_obj];refine O2<|O4 ?_;unfold descrGetter descrCheckInstance descrNameAndClass isInstance;simp only[KF.owner_class]
 repeat lk
 refine⟨Code.quiet_builtin _<|by decide +kernel,codeAny_builtin KF.entry_class ?_⟩;unfold Builtin.«object.__class__» shownTypeOf
 repeat lk
 exact h
theorem JL{M:Model}{nameV:Value}{Q:Unit->Shared->Prop}(X:K.In s.heap)(I:XAt s.heap x D)(c:ij K D)(hq:Q () s):wpAny M A (checkBuiltinCall "BaseException.__getattribute__" ⟨[.ref x,nameV],[]⟩) Q E s:=by
 have hk:builtinKind "BaseException.__getattribute__" = some .slot:=by decide +kernel
 have hsplit:splitId "BaseException.__getattribute__" = some ("BaseException", "__getattribute__"):=by decide +kernel
 have ha:=PySem.F.args_bexc_ga (.ref x) nameV;have L0:=I.type (M:=M);have L1:=looks_mroIn (M:=M) X c.be;simp only[checkBuiltinCall,hk,hsplit];refine O2 ?_;unfold isInstance;refine O2<|L0.at (L1.at ?_)
 repeat (first|assumption|wp_step)
theorem JM{Q:Fin->Shared->Prop}(X:K.In s.heap)(I:XAt s.heap x D)(c:ij K D)(hq:Q (.done<|.ret<|.ref D) s) :
  wpAny (model prog w) A (Builtin.«object.__getattribute__» ⟨[.ref x,.str "__class__" tk],[]⟩) Q E s:=by
 obtain⟨hh,g,d,t,os⟩:=s;have L0:=I.type (M:=model prog w);have L2:=JJ (x:=x) (M:=model prog w) X c
 repeat (any_goals (first|assumption|(with_reducible refine L0.at ?_)|(with_reducible refine L2.at ?_)|wp_step))
 exact JK (K:=K) (s:=⟨hh,g,d,t,os⟩) X I c.ob<|O4 hq
theorem vY{R:Result->Shared->Prop}(X:K.In s.heap)(I:XAt s.heap x D)(c:ij K D)(hq:R (.ok<|.ret<|.ref D) s) :
  codeAny (model prog w) A (.call (.builtin "BaseException.__getattribute__") ⟨[.ref x,.str "__class__" tk],[]⟩) R s:=
 codeAny_call_builtin PySem.F.attr_ValueError.ga.plain PySem.F.entry_bexc_ga (JL X I c<|JM X I c hq)
theorem JN{Q:Option Value->Shared->Prop}(X:K.In s.heap)(I:XAt s.heap x D)(c:ij K D)(h:Q (some<|.ref D) { s with toks:=s.toks+1 }):wpAny (model prog w) A (getAttr? (.ref x) "__class__") Q E s:=by
 obtain⟨hh,g,d,t,os⟩:=s;have L0:=I.type (M:=model prog w);have L1:=looks_findIn (M:=model prog w) X c.ga;have L3:=looks_findIn (M:=model prog w) X c.gn;have f3:=PySem.F.attr_ValueError.ga.bind<|.ref x;have hx2:(Value.builtin "BaseException.__getattribute__" == Value.builtin "object.__getattribute__")=false:=by decide +kernel
 have hx1:(onTheHeap (Value.ref D)&&Value.builtin "BaseException.__getattribute__" == Value.builtin "object.__getattribute__")=false:=by rw[hx2];rfl
 unfold getAttr? getAttrBy?;repeat (any_goals (first|assumption|(with_reducible refine L0.at ?_)|(with_reducible refine L1.at ?_)|(with_reducible refine L3.at ?_)|wp_step))
 exact vY (K:=K) (s:=⟨hh,g,d,t+1,os⟩) X I c<|handed_on rfl (O4 h)
theorem E2(c:ij K D):KitX K (.ref x) (.ref D) (λh=>XAt h x D) where
 ty:=λ_ _ _ I=>I.type
 it:=λ_ _ X _=>by
  have hcD:=c.is;unfold clsIn at hcD;split at hcD;rename_i c' d' cd' sl' ho;intro A' Q' E' s' k q;unfold isType loadHead;exact O2<|wpAny_loadPart (k _ _<|X _ _ ho) (O4 q)
  cases hcD
 ne:=λh tp dd its n sl X htp=>by
  have hcD:=c.is;refine Bool.eq_false_iff.mpr λq=>?_;have e:D=tp:=Value.ref.inj<|beq_iff_eq.mp q;subst e;unfold clsIn at hcD;split at hcD
  rename_i c' d' cd' sl' ho;have z:=(X _ _ ho).symm.trans htp;cases z;cases hcD
 ca:=λX I k=>JN X I c k
end
end
theorem JO:fillsNumberSlot (.type "tuple") "mul" = pure false:=
 PySem.fillsNumberSlot_seq (id:= "tuple.__mul__") (r:=some<|.builtin "tuple.__rmul__") PySem.F.slot_tuple_mul.lookup (by decide +kernel) PySem.F.slot_tuple_rmul.lookup (by decide +kernel)
theorem JP:seqRepeat? (.type "tuple")=pure (some<|.builtin "tuple.__mul__"):=by unfold seqRepeat?;rw[PySem.seqSlot_of (T:= "tuple") (name:= "__mul__") (id:= "tuple.__mul__") PySem.F.slot_tuple_mul.lookup<|by decide +kernel,PySem.seqSlot_of (T:= "tuple") (name:= "__rmul__") (id:= "tuple.__rmul__") PySem.F.slot_tuple_rmul.lookup<|by decide +kernel];rfl
theorem JQ(a:Int)(t:Tok)(l:Addr)(items:Array Value)(n:Nat)(dd:Option Addr)(sl:Array (Option Value)) :
  Meets (Builtin.«int.__rmul__» ⟨[.int a t,.ref l],[]⟩) (λ_ R s=>s.heap.get? l=some { cls:=.type "tuple",dict:=dd,data:=.seq items n,slots:=sl }/\R (.ok<|.ret Value.notImplemented) s):=
 .of_wp λprog w A R s h=>by obtain⟨hp,g,d,tk,os⟩:=s;obtain⟨hl,h⟩:=h;wp_walk;exact⟨_,rfl,h⟩
theorem JR(l:Addr)(items:Array Value)(n:Nat)(dd:Option Addr)(sl:Array (Option Value))(k:Int)(t:Tok)(h1:-(2^63)<=k)(h1':k<2^63)(h2:(items.isEmpty||k==1)=true) :
  Meets (Builtin.«tuple.__mul__» ⟨[.ref l,.int k t],[]⟩) (λ_ R s=>s.heap.get? l=some { cls:=.type "tuple",dict:=dd,data:=.seq items n,slots:=sl }/\R (.ok<|.ret<|Value.ref l) s):=by
 intro prog w A R s h;obtain⟨hp,g,d,tk,os⟩:=s;obtain⟨hl,h⟩:=h;have f1:=AutoSeq1.idx_int;have c1:¬(decide (k < -2^63)||decide (k ≥ 2^63))=true:=by simp;omega
 unfold Builtin.«tuple.__mul__»
 wp_walk using wpAny_loadPart' hl
 rw[if_neg c1]
 wp_walk using wpAny_loadPart' hl
 exact h
theorem JS(l:Addr)(items:Array Value)(n:Nat)(dd:Option Addr)(sl:Array (Option Value))(k:Int)(t:Tok)(h1:-(2^63)<=k)(h1':k<2^63)(h2:¬(items.isEmpty||k==1)=true)(h3:k<=0) :
  Meets (Builtin.«tuple.__mul__» ⟨[.ref l,.int k t],[]⟩) (λ_ R s=>s.heap.get? l=some { cls:=.type "tuple",dict:=dd,data:=.seq items n,slots:=sl }/\R (.ok<|.ret<|Value.ref s.heap.objs.size) { s with heap:=s.heap.push { cls:=Value.type "tuple",data:=Data.seq #[] } }):=by
 intro prog w A R s h;obtain⟨hp,g,d,tk,os⟩:=s;obtain⟨hl,h⟩:=h;have f1:=AutoSeq1.idx_int;have c1:¬(decide (k < -2^63)||decide (k ≥ 2^63))=true:=by simp;omega
 have c2:(decide (k<=0)||items.isEmpty)=true:=by simp[h3]
 unfold Builtin.«tuple.__mul__»
 wp_walk using wpAny_loadPart' hl
 rw[if_neg c1]
 wp_walk using wpAny_loadPart' hl
 exact h
theorem JT(l:Addr)(items:Array Value)(n:Nat)(dd:Option Addr)(sl:Array (Option Value))(k:Int)(t:Tok)(h1:-(2^63)<=k)(h1':k<2^63)(h2:¬(items.isEmpty||k==1)=true)(h3:0<k)(h4:items.size*k.toNat<=sizeLine) :
  Meets (Builtin.«tuple.__mul__» ⟨[.ref l,.int k t],[]⟩) (λ_ R s=>s.heap.get? l=some { cls:=.type "tuple",dict:=dd,data:=.seq items n,slots:=sl }/\R (.ok<|.ret<|Value.ref s.heap.objs.size) { s with heap:=s.heap.push { cls:=Value.type "tuple",data:=Data.seq (List.foldl (λx1 x2=>x1++x2) #[] (List.replicate k.toNat items)) } }):=by
 intro prog w A R s h;obtain⟨hp,g,d,tk,os⟩:=s;obtain⟨hl,h⟩:=h;have f1:=AutoSeq1.idx_int;have c1:¬(decide (k < -2^63)||decide (k ≥ 2^63))=true:=by simp;omega
 have c2:¬(decide (k<=0)||items.isEmpty)=true:=by
  have:items.isEmpty=false:=by cases q:items.isEmpty<;>simp_all
  simp[this];omega
 have hk:(items.size:Int)*k=((items.size*k.toNat:Nat):Int):=by rw[Int.natCast_mul,Bc<|by omega]
 have hsl:(sizeLine:Nat)=2^24:=rfl;have c3:¬((items.size:Int)*k>(2^63-1)/8):=by rw[hk];omega
 have c4:¬Builtin.Tuple.tupleTooMany ((items.size:Int)*k)=true:=λz=>by have z':=of_decide_eq_true z;rw[hk]at z';omega
 unfold Builtin.«tuple.__mul__»
 wp_walk using wpAny_loadPart' hl
 rw[if_neg c1]
 wp_walk using wpAny_loadPart' hl
 rw[if_neg c3]
 wp_walk using wpAny_loadPart' hl
 rw[if_neg c4]
 wp_walk using wpAny_loadPart' hl
 have hnew:List.foldl (λx1 x2=>x1++x2) #[] (List.replicate k.toNat items)=(List.replicate k.toNat items.toList).flatten.toArray:=by
  have:=eN items.toList k.toNat [];rw[eY]at this;simpa using this
 have c5:¬((List.foldl (λx1 x2=>x1++x2) #[] (List.replicate k.toNat items)).size>sizeLine):=by
  rw[hnew,eX,jf,yO,Nat.mul_comm];omega
 rw[if_neg c5]
 wp_walk using wpAny_loadPart' hl
 exact h
section
theorem Inv.tnew{ys:List V}{its:List Value}(I:Inv X pins σ H s)(hv:Vals ys its)(hz:ys.length<=sizeLine) :
  Inv X pins σ (upd H s.heap.objs.size<|.tup ys) { s with heap:=s.heap.push { cls:=.type "tuple",data:=.seq its.toArray },toks:=t' }:=
 I.laid (λ_ _ q=>dq _ q) (bS _) ⟨hz,its,hv,IsTup.new _ _⟩
def vZ(K:O3):R2:=λx y H Q=>∃l k xs,x=.ref l/\y=.int k/\SqT K H l xs/\-(2^63)<=k/\k<2^63/\xs.length*k.toNat<=sizeLine/\
 ((xs=[]\/k=1)->Q (.ref l) H)/\∀p,H p=none->Q (.ref p) (upd H p<|.tup (List.replicate k.toNat xs).flatten)
theorem JU:OpR X (binaryOp .Mult) (vZ X.K):=by
 intro pins s σ H x y v u Q I rx ry h;obtain⟨l,k,xs,rfl,rfl,hq,h1,h2,hz,q1,q2⟩:=h;cases rx;obtain⟨t,rfl⟩:=ry;obtain⟨its,r,pl,_⟩:=I.tuple hq;have hl:xs.length=its.length:=r.length;obtain⟨⟨cls,dd,data,sl⟩,ho,hc,n,hd⟩:=id pl;simp only at hc hd;subst hc hd;refine wpAny_binaryOp_repeat_ref (T:= "tuple") (U:= "int") (by decide) ⟨_,ho,rfl⟩ (λs'=>typeIs_int s' k t) JO PySem.F.fills_int_mul PySem.F.slot_int_rmul JP PySem.F.slot_int_index.lookup
  (call_meets PySem.F.slot_int_rmul (typeIs_int s k t) PySem.F.entry_int_rmul (PySem.F.args_int_rmul_2 _ _) (JQ k t l its.toArray n dd sl) ⟨ho,rfl,⟨_,ho,rfl⟩,?_⟩)
 by_cases hs:(its.toArray.isEmpty||k==1)=true;refine call_meets PySem.F.slot_tuple_mul ⟨_,ho,rfl⟩ PySem.F.entry_tuple_mul (PySem.F.args_tuple_mul_2 _ _) (JR l its.toArray n dd sl k t h1 h2 hs) ⟨ho,⟨.ref l,H,I,rfl,q1 ?_⟩⟩;rw[yS]at hs;rcases hs with hs|hs
 exact .inl<|r.nil_iff.mp (by simpa using hs)
 exact .inr<|beq_iff_eq.mp hs
 by_cases h3:k<=0;refine call_meets PySem.F.slot_tuple_mul ⟨_,ho,rfl⟩ PySem.F.entry_tuple_mul (PySem.F.args_tuple_mul_2 _ _) (JS l its.toArray n dd sl k t h1 h2 hs h3) ⟨ho,⟨.ref _,_,I.tnew (its:=[]) (ys:=(List.replicate k.toNat xs).flatten) (t':=s.toks) ?_ ?_,rfl,q2 _ I.fresh⟩⟩;rw[show k.toNat=0 by omega];exact .nil;rw[show k.toNat=0 by omega];exact kW _;have hnew:List.foldl (λx1 x2=>x1++x2) #[] (List.replicate k.toNat its.toArray)=(List.replicate k.toNat its).flatten.toArray:=by have:=eN its k.toNat [];rw[eY]at this;exact this
 refine call_meets PySem.F.slot_tuple_mul ⟨_,ho,rfl⟩ PySem.F.entry_tuple_mul (PySem.F.args_tuple_mul_2 _ _) (JT l its.toArray n dd sl k t h1 h2 hs (by omega) (by rw[eX,<-hl];exact hz)) ⟨ho,?_⟩;rw[hnew];exact⟨.ref _,_,I.tnew (t':=s.toks) (r.rep k.toNat) (by rw[jf,Nat.mul_comm];exact hz),rfl,q2 _ I.fresh⟩
end
theorem JV(h:Heap)(hb:sysModules<h.objs.size):ObjOk P w H (h.push { cls:=.type "dict",data:=.dict #[] }) h.objs.size (.dK []):=
 ⟨kW _,beq_eq_false_iff_ne.mpr<|Pa<|gF hb,[],.nil,Heap.DictOf.new h⟩
theorem JW:PE X (.Dict [] [] pos) (λ_ H Q=>∀p,H p=none->Q (.ref p) (upd H p<|.dK [])):=λpins s σ H Q I h=>
 wpAny_Dict_empty ⟨.ref s.heap.objs.size,_,I.laid (a:=s.heap.objs.size) (o:=.dK []) (t':=s.toks) (λ_ _ q=>dq _ q) (bS _)<|JV s.heap<|u4 (by decide) (I.mod.glob.keeps I.bk).lt,rfl,h _<|I.hok.fresh<|bS _⟩
theorem JX(hh:A.handled=none)(it l:Addr)(hne:l≠it)(xs:Array Value):Draws prog w A it [it,l] xs.size (λi v=>xs[i]? = some v) (λi h=>SIt κ h it l i/\SSq κ h l xs) where
 live:=λ_ _ st=>let⟨o,ho,_⟩:=st.1.obj;⟨o,ho⟩
 frame:=λ_ _ _ st hk=>⟨st.1.keep λo e=>hk it (by simp) o e,st.2.keep λo e=>hk l (by simp) o e⟩
 item:=λi s Q E hi st hQ=>vS st.1 st.2 (x:=xs[i]) (by simp[hi]) λh' hit' hs'=>hQ _ h' s.toks (by simp[hi]) ⟨hit',st.2.keep λo e=>hs'.extBut l o hne e⟩ hs'
 done:=λs Q E st hE=>ur hh st.1 st.2 (by simp) hE
theorem JY(hh:A.handled=none)(it l:Addr)(xs:Array Value)(n:Nat)(hn:xs[n]? = none):Draws prog w A it [it,l] n (λ_ _=>False) (λj h=>j=n/\SIt κ h it l n/\SSq κ h l xs) where
 live:=λ_ _ st=>let⟨o,ho,_⟩:=st.2.1.obj;⟨o,ho⟩
 frame:=λ_ _ _ st hk=>⟨st.1,st.2.1.keep λo e=>hk it (by simp) o e,st.2.2.keep λo e=>hk l (by simp) o e⟩
 item:=λi s Q E hi st hQ=>O5 st.1<|gF hi
 done:=λs Q E st hE=>ur hh st.2.1 st.2.2 hn hE
abbrev oh(κ:Bool)(h:Heap)(l:Addr):Heap:=h.push<|io κ l
abbrev B3(κ:Bool)(h:Heap)(l:Addr):Heap:=(oh κ h l).push { cls:=.type "enumerate",data:=.fields #[.none,.bool false,.ref h.objs.size,rawInt 0,.none,.none] }
theorem JZ(l:Addr)(xs:Array Value)(n:Nat)(dct:Option Addr)(sl:Array (Option Value)) :
  Meets (Builtin.«enumerate.__new__» ⟨[.type "enumerate",.ref l],[]⟩) (λ_ R s=>s.heap.get? l=some { cls:=.type "tuple",dict:=dct,data:=.seq xs n,slots:=sl }/\R (.ok<|.ret<|.ref (oh true s.heap l).objs.size) { s with heap:=B3 true s.heap l }):=
 .of_wp λprog w A R s h=>by
  obtain⟨hp,g,d,tk,os⟩:=s;obtain⟨hl,h⟩:=h;have hsub:=sub_enumerate;have hT:SSq true (Shared.heap ⟨hp,g,d,tk,os⟩) l xs:=(show Heap.IsTuple _ l xs from⟨_,hl,rfl,n,rfl⟩)
  wp_walk using AutoSeq1.wpAny_loadPart' hl
  refine wpAny_stack_any λst=>(O4 ?_);split
  .rename_i c _ _ _ _ _
   cases(c==Value.type "enumerate")<;>(wp_walk using AutoSeq1.wpAny_loadPart' hl,tB hT;exact⟨_,rfl,h⟩)
  .wp_walk using AutoSeq1.wpAny_loadPart' hl,tB hT
   exact⟨_,rfl,h⟩
theorem J0{E:Value->Shared->Prop}(hL:SSq κ s.heap l xs)
  (h:∀h',IsEnum h' (s.heap.objs.size+1) s.heap.objs.size 0 .none->SIt κ h' s.heap.objs.size l 0->(∀b o,s.heap.get? b=some o->h'.get? b=some o)->Q (.ref<|s.heap.objs.size+1) { s with heap:=h' }) :
  wpAny (model prog w) A (call (.type "enumerate") [.ref l]) Q E s:=by
 cases κ with
 |false=>exact call_enumerate_list hL λh' he hi _ hk=>h h' he hi hk
 |true=>
  obtain⟨⟨c,dct,dt,sl⟩,hl,hc,n,hd⟩:=(show s.heap.IsTuple l xs from hL)
  replace hc:c=.type "tuple" :=hc;replace hd:dt=.seq xs n:=hd;subst hc hd;refine callType_new F.called_enumerate (by decide) (F.typeCall_enumerate_1 _) (F.newCall_enumerate_1 _) (λobj=>F.args_object_init_2 obj _) F.entry_enumerate_new (JZ l xs n dct sl) ⟨hl,?_⟩;have hz:(oh true s.heap l).objs.size=s.heap.objs.size+1:=mJ ..;have g2:(B3 true s.heap l).get? (oh true s.heap l).objs.size=some _:=g9 _ rfl;have g1:(B3 true s.heap l).get? s.heap.objs.size=some _:=dq _<|g9 _ rfl;show _/\_;rw[hz]at g2 ⊢;exact⟨⟨_,g2,rfl⟩,h _ g2 (zq g1) λb o x=>dq _<|dq _ x⟩
def E3(K:O3)(κ:Bool)(a:Addr):It:=
  ⟨λi H=>∃ xs x,Sq K κ H a xs/\xs[i]? = some x,
   λi H v H'=>∃p x,v=.ref p/\H p=none/\H'=upd H p (.tup [.int i,x])/\∀xs,Sq K κ H a xs->xs[i]? = some x,
   λi H=>∃xs,Sq K κ H a xs/\xs.length<=i⟩
theorem J1{ps:Pos}(a e it:Addr)(hne:e≠it) :
  jH P w K (.Tuple es n1 ps) (E3 K κ a) [e,it] e (λi h=>(∃old,IsEnum h e it i old)/\SIt κ h it a i) where
 mem:=by simp
 obj:=λi h ⟨⟨old,q1⟩,q2⟩ c hc=>by
  simp only[Yao,da,or_false]at hc;rcases hc with rfl|rfl
  .exact⟨_,q1,λv e=>by cases e⟩
  .exact q2.obj
 keep:=λi h h' ⟨⟨old,q1⟩,q2⟩ k=>⟨⟨old,k e (by simp) _ q1⟩,q2.keep λo x=>k it (by simp) o x⟩
 item:=by
  intro X hP hw hK hc i pins s σ H E I hf ⟨⟨old,q1⟩,q2⟩ hg;subst hP hw hK;obtain⟨xs,x,hx,ex⟩:=hg;obtain⟨its,rv,p,hz⟩:=I.sq hx;obtain⟨ux,hux,rux⟩:=rv.get ex;have oe:=I.sq_out hx<|hf e (by simp);have oi:=I.sq_out hx<|hf it (by simp);have hi:i<its.toArray.size:=by have:=(Yar.mp hux).1;simpa using this
  refine wpAny_pyNext_enum_itemD (JX (κ:=κ) (A:=X.A.in1) (I.ok.hd hc) it a oi its.toArray) q1 ⟨q2,p⟩ hi hne (by simp[hne,Pa oe]) λy h' tk b1 b2 b3 b4 b5 b6=>⟨_,rfl,?_⟩;have ey:y=ux:=by
   have:its[i]? = some y:=by simpa using b1
   rw[hux]at this;exact(O8 this).symm
  subst ey;refine wpAny_letOwnedTupleGo_enum (s:={ s with heap:=h',toks:=tk+1 }) b2 λh2 c1 c2=>?_;have lt:∀{c o},s.heap.get? c=some o->c≠s.heap.objs.size:=λz=>gF<|c8 z;have el:=lt q1;have up:∀c o,c∉[e,it]->s.heap.get? c=some o->h2.get? c=some o:=λc o hc z=>by
   simp only[Yao,da,or_false,not_or]at hc;exact c2.extBut _ _ hc.1<|b6 c o hc.1 hc.2 z
  refine⟨.ref s.heap.objs.size,upd H s.heap.objs.size<|.tup [.int i,x],Inv.turnedN (s:=s) (t':=tk+1) [e,it] I up hf (bS _) ?_,rfl,⟨s.heap.objs.size,x,rfl,I.fresh,rfl,λxs' h'=>by rw[I.sq_inj h' hx];exact ex⟩,?_,λc hc=>?_⟩
  .refine⟨by rw[sizeLine_eq];simp,[.int i tk,y],.cons ⟨_,rfl⟩<|.cons rux .nil,?_⟩
   exact⟨_,c2.extBut _ _ (Pa el) b4,rfl,_,rfl⟩
  .exact⟨⟨_,by simpa using c1⟩,b3.1.keep λo z=>c2.extBut _ o (Pa hne) z⟩
  .have he:∃o,s.heap.get? c=some o:=by
    simp only[Yao,da,or_false]at hc;rcases hc with rfl|rfl
    .exact⟨_,q1⟩
    .obtain⟨o,z,_⟩:=q2.obj;exact⟨o,z⟩
   obtain⟨o,z⟩:=he;rw[aJ<|lt z];exact(hf c hc).1
 done:=by
  intro X hP hw hK hc i pins s σ H E I hf ⟨⟨old,q1⟩,q2⟩ hg;subst hP hw hK;obtain⟨xs,hx,en⟩:=hg;obtain⟨its,rv,p,hz⟩:=I.sq hx;have l1:=rv.length;have oi:=I.sq_out hx<|hf it (by simp);refine wpAny_pyNext_enum_endD (JY (κ:=κ) (A:=X.A.in1) (I.ok.hd hc) it a its.toArray i (by simp;omega)) q1 ⟨rfl,q2,p⟩ λh' k=>⟨rfl,?_⟩;refine I.turnedL (t':=s.toks) [e,it] (λc o hc z=>?_) hf;simp only[Yao,da,or_false,not_or]at hc;exact k c o hc.2 z
 self:=λ_ _ _ _ _ st h=>let⟨⟨_,q⟩,_⟩:=st;PB q h
theorem E4(n b:Nat)(h:b=n+1\/b=n):n<=b:=by omega
section
def v3(K:O3)(ta:TA):TI:=λσ H R=>ta σ H λvs H1=>∃κ a,vs=[.ref a]/\(∃xs,Sq K κ H1 a xs)/\R (E3 K κ a) H1
theorem J2{a:Expr}{ps:Pos}(hg:Gl X "enumerate")(hm:X.mg "enumerate" = none)(ha:PA X [a] ta)(hs:starEach [a] X.env=[(false,eval a X.env)]:=by rfl) :
  PI X (.Tuple es n1 ps) (.Call (.Name "enumerate" p) [a] [] pos) (v3 X.K ta):=by
 intro pins s σ H R I h;refine Call_<|eu I hg hm boot_enumerate (PyProof.Rows.callWith_type1 (bL (ha pos pins s σ H _ I h) λus s1 ⟨vs,H1,I1,r1,q1⟩=>?_) hs rfl);obtain⟨κ,l,rfl,⟨xs,hx⟩,q⟩:=q1;cases r1 with
 |cons r rr=>
  cases rr;cases r;obtain⟨its,rv,p1,hz⟩:=I1.sq hx;refine J0 p1 λh' a1 a2 k=>PB (s:={ s1 with heap:=h' }) a1 ?_;refine⟨_,[s1.heap.objs.size+1,s1.heap.objs.size],_,_,H1,rfl,I1.kept (t':=s1.toks) k,J1 (κ:=κ) l _ _<|Nat.succ_ne_self _,⟨⟨_,a1⟩,a2⟩,λb hb=>?_,q⟩;have hb':s1.heap.objs.size<=b:=by
   simp only[Yao,da,or_false]at hb;exact E4 _ _ hb
  exact I1.fpOk hb'<|I1.hok.fresh hb'
end
end L2
namespace PySem
theorem J3{prog:Program}{w:World}{A:Around}{E:Value->Shared->Prop}{s:Shared}{T newId initId:String}{Bn Bi:Builtin}{args:List Value}{kw:List (Str×Value)}{S:Spec}{Q Q₁:Value->Shared->Prop}(ft:TypeCalled T newId initId)
  (hct:checkTypeCall T ⟨args,kw⟩=pure ()) (hcn:checkBuiltinCall newId ⟨.type T::args,kw⟩=pure ())
  (entryN:entryFor table newId=some Bn) (entryI:entryFor table initId=some Bi) (g:Meets (Bn ⟨.type T::args,kw⟩) S)
  (h:S A.in1 (wants Q₁ E) s)
  (hnext:∀obj s₁,Q₁ obj s₁->s₁.TypeIs obj T/\argsOk initId ⟨obj::args,kw⟩/\∃Si,Meets (Bi ⟨obj::args,kw⟩) Si/\Si A.in1 (wants (λr s₂=>r=.none/\Q obj s₂) E) s₁) :
  wpAny (model prog w) A (call (.type T) args kw) Q E s:=by
 obtain⟨c,tl,hmro⟩:=ft.mro;have hmade:=ft.made;have hsub:=ft.sub;refine wpAny_call<|codeAny_of_tree ?_;show wpAny _ _ (callAny (.type T) _) _ _ _;refine O4 ⟨Code.quiet_builtin _<|by decide +kernel,codeAny_builtin F.entry_type_call ?_⟩;rw[Around.under_plain (weight_type_call_type T args kw)<|units_type_call_type T args kw];have h1:=ft.notType;have h2:=ft.canCreate
 repeat (any_goals (first|assumption|wp_step))
 refine codeAny_mono (codeAny_call_builtin ft.plain entryN<|wpAny_of_eq hcn<|g prog w A.in1 _ s h) λr s₁ hr=>?_;cases r with
 |error e=>exact hr
 |ok fl=>
  cases fl with
  |ret obj=>
   obtain⟨hT,hok,Si,gi,hsi⟩:=hnext _ _ hr;have hli:=ft.init.lookup;have hbi:=ft.init.bind obj
   repeat (any_goals (first|assumption|wp_step))
   refine codeAny_mono (codeAny_call_builtin ft.init.plain entryI<|ft.init.check _ _ _ _ _ _ _ _ hT hok<|gi prog w A.in1 _ s₁ hsi) λr₂ s₂ hr₂=>?_;cases r₂ with
   |error e=>exact hr₂
   |ok fl₂=>
    cases fl₂ with
    |ret r=>
     obtain⟨rfl,hq⟩:=hr₂
     repeat (any_goals (first|assumption|wp_step))
    |_=>exact hr₂.elim
  |_=>exact hr.elim
theorem J4{T newId:String}{self:Value}{rest:List Value}{kw:List (Str×Value)}(hl:typeLookup (.type T) "__init__" = pure (some<|.builtin "object.__init__"))
  (hm:Bind.madeBy (.type T)=pure (some newId)) (hne:(some newId != some "object.__new__")=true) :
  Meets (Builtin.«object.__init__» ⟨self::rest,kw⟩) (λ_ R s=>s.TypeIs self T/\R (.ok<|.ret .none) s):=by
 refine Meets.of_wp λprog w A R s hs=>?_;obtain⟨hT,hq⟩:=hs;cases rest with
 |nil=>
  cases kw with
  |nil=>exact O4 ⟨_,rfl,hq⟩
  |cons k kw=>
   repeat (any_goals (first|assumption|wp_step))
   exact⟨_,rfl,hq⟩
 |cons a rest=>
  repeat (any_goals (first|assumption|wp_step))
  exact⟨_,rfl,hq⟩
theorem Ka{M:Model}{A:Around}{E:Value->Shared->Prop}{s:Shared}{env:Env}{pos:Pos}{T:String}{e:Expr}{rest:List Expr}{kws:List Keyword}{Q:Value->Shared->Prop}
  (h:wpAny M A (spliced<|backTo pos<|starEach (e::rest) env) (λvs s₁=>wpAny M A (evalAll ((backToKw pos<|keywordEach kws env).map (·.2)))
   (λkvs s₂=>wpAny M A (call (.type T) vs (((backToKw pos<|keywordEach kws env).filterMap (·.1)).zip kvs)) Q E s₂) E s₁) E s)
  (he:backTo pos (starEach (e::rest) env)=(false,eval e env)::backTo pos (starEach rest env):=by rfl)
  (hplain:(backTo pos<|starEach (e::rest) env).any (·.1)=false:=by rfl)
  (hall:(backToKw pos<|keywordEach kws env).all (·.1.isSome)=true:=by rfl)
  (hkw:(backToKw pos<|keywordEach kws env).any (·.1.isNone)=false:=by rfl) :
  wpAny M A (callWith pos (.type T) [] (backTo pos<|starEach (e::rest) env)<|backToKw pos<|keywordEach kws env) Q E s:=by
 rw[he]at h hplain ⊢;unfold callWith;refine O2<|Pl (Ph (PyProof.Rows.evalArgs_kwB (Q:=λa s₁=>wpAny M A (call (.type T) ([]++a.pos) a.kw) Q E s₁) hall h) (λa s₁ h₁=>O2<|Pp ?_) λ_ _ x=>x);simp only[hplain,hkw,Bool.or_false];refine O2<|O4 ?_;exact O2<|Ph h₁ (λr s₂ hr=>O2<|Pl<|wpAny_point<|O4 hr) λ_ _ x=>x
end PySem
namespace L2
open PySem PySem.Spec PyProof.Rows
variable{prog P:Program}{w:World}{A:Around}{s:Shared}{Q:Value->Shared->Prop}{K:O3}{es:List Expr}{n1 k:Nat}{ps pos:Pos}{X:Cx}{a:Expr}{h base:Heap}{m mg:Str->Option Value}{fI e b:Addr}{newId:String}{f qual:Str}{H:Hp}{fd:FuncData}
theorem Kb(a b:Value):checkTypeCall "enumerate" ⟨[a],[("start",b)]⟩=pure ():=by kernel_rfl
theorem Kc(a b:Value):checkBuiltinCall "enumerate.__new__" ⟨[.type "enumerate",a],[("start",b)]⟩=pure ():=by kernel_rfl
theorem Kd(o a b:Value):argsOk "object.__init__" ⟨[o,a],[("start",b)]⟩:=by unfold argsOk;kernel_rfl
theorem Ke(l:Addr)(xs:Array Value)(n:Nat)(t:Tok)(dct:Option Addr)(sl:Array (Option Value)) :
  Meets (Builtin.«enumerate.__new__» ⟨[.type "enumerate",.ref l],[("start",.int 1 t)]⟩) (λ_ R s=>s.heap.get? l=some { cls:=.type "list",dict:=dct,data:=.seq xs n,slots:=sl }/\
   R (.ok<|.ret<|.ref (oh false s.heap l).objs.size) { s with heap:=(oh false s.heap l).push { cls:=.type "enumerate",data:=.fields #[.none,.bool false,.ref s.heap.objs.size,rawInt 1,.none,.none] } }):=
 .of_wp λprog w A R s h=>by
  obtain⟨hp,g,d,tk,os⟩:=s;obtain⟨hl,h⟩:=h;have hsub:=sub_enumerate;have hT:SSq false (Shared.heap ⟨hp,g,d,tk,os⟩) l xs:=(show Heap.IsList _ l xs from⟨_,hl,rfl,n,rfl⟩)
  wp_walk using AutoSeq1.wpAny_loadPart' hl
  refine wpAny_stack_any λst=>(O4 ?_);split
  .rename_i c _ _ _ _ _
   cases(c==Value.type "enumerate")
   .wp_walk using AutoSeq1.wpAny_loadPart' hl,tB hT
    exact⟨_,rfl,h⟩
   .wp_walk using AutoSeq1.wpAny_loadPart' hl,tB hT
    exact⟨_,rfl,h⟩
  .wp_walk using AutoSeq1.wpAny_loadPart' hl,tB hT
   exact⟨_,rfl,h⟩
theorem Kf{E:Value->Shared->Prop}{l:Addr}{t:Tok}{xs:Array Value}(hL:SSq false s.heap l xs)
  (h:∀h',IsEnum h' (s.heap.objs.size+1) s.heap.objs.size 1 .none->SIt false h' s.heap.objs.size l 0->(∀b o,s.heap.get? b=some o->h'.get? b=some o)->Q (.ref<|s.heap.objs.size+1) { s with heap:=h' }) :
  wpAny (model prog w) A (call (.type "enumerate") [.ref l] [("start",.int 1 t)]) Q E s:=by
 obtain⟨⟨c,dct,dt,sl⟩,hl,hc,n,hd⟩:=(show s.heap.IsList l xs from hL)
 replace hc:c=.type "list" :=hc;replace hd:dt=.seq xs n:=hd;subst hc hd;refine J3 (Q₁:=λobj s₁=>s₁.TypeIs obj "enumerate" /\Q obj s₁) F.called_enumerate (Kb _ _) (Kc _ _) F.entry_enumerate_new F.entry_object_init (Ke l xs n t dct sl) ⟨hl,?_⟩ λobj _ hq=>⟨hq.1,Kd obj _ _,_,J4 F.called_enumerate.init.lookup F.called_enumerate.made<|by decide,hq.1,rfl,hq.2⟩;have hz:(oh false s.heap l).objs.size=s.heap.objs.size+1:=mJ ..;have g2:((oh false s.heap l).push { cls:=.type "enumerate",data:=.fields #[.none,.bool false,.ref s.heap.objs.size,rawInt 1,.none,.none] }).get? (oh false s.heap l).objs.size=some _:=g9 _ rfl;have g1:((oh false s.heap l).push { cls:=.type "enumerate",data:=.fields #[.none,.bool false,.ref s.heap.objs.size,rawInt 1,.none,.none] }).get? s.heap.objs.size=some _:=dq _<|g9 _ rfl;show _/\_;rw[hz]at g2 ⊢;exact⟨⟨_,g2,rfl⟩,h _ g2 (zq g1) λb o x=>dq _<|dq _ x⟩
theorem Kg(hh:A.handled=none)(it l:Addr)(hne:l≠it)(xs:Array Value):Draws prog w A it [it,l] (xs.size+1) (λi v=>xs[i-1]? = some v) (λi h=>1<=i/\SIt false h it l (i-1)/\SSq false h l xs) where
 live:=λ_ _ st=>let⟨o,ho,_⟩:=st.2.1.obj;⟨o,ho⟩
 frame:=λ_ _ _ st hk=>⟨st.1,st.2.1.keep λo e=>hk it (by simp) o e,st.2.2.keep λo e=>hk l (by simp) o e⟩
 item:=λi s Q E hi st hQ=>by
  have h2:=st.1;have hi':i-1<xs.size:=by omega
  exact vS st.2.1 st.2.2 (x:=xs[i-1]) (by simp[hi']) λh' hit' hs'=>hQ _ h' s.toks (by simp[hi']) ⟨by omega,by rw[show i+1-1=i-1+1 by omega];exact hit',st.2.2.keep λo e=>hs'.extBut l o hne e⟩ hs'
 done:=λs Q E st hE=>ur hh st.2.1 st.2.2 (by simp) hE
theorem Kh(hh:A.handled=none)(it l:Addr)(xs:Array Value)(n:Nat)(hn:xs[n]? = none):Draws prog w A it [it,l] (n+1) (λ_ _=>False) (λj h=>j=n+1/\SIt false h it l n/\SSq false h l xs) where
 live:=λ_ _ st=>let⟨o,ho,_⟩:=st.2.1.obj;⟨o,ho⟩
 frame:=λ_ _ _ st hk=>⟨st.1,st.2.1.keep λo e=>hk it (by simp) o e,st.2.2.keep λo e=>hk l (by simp) o e⟩
 item:=λi s Q E hi st hQ=>O5 st.1<|gF hi
 done:=λs Q E st hE=>ur hh st.2.1 st.2.2 hn hE
def v4(K:O3)(a:Addr):It:=
  ⟨λi H=>∃ xs x,Sq K false H a xs/\xs[i]? = some x,
   λi H v H'=>∃p x,v=.ref p/\H p=none/\H'=upd H p (.tup [.int ((i+1:Nat):Int),x])/\∀xs,Sq K false H a xs->xs[i]? = some x,
   λi H=>∃xs,Sq K false H a xs/\xs.length<=i⟩
theorem Ki(a e it:Addr)(hne:e≠it) :
  jH P w K (.Tuple es n1 ps) (v4 K a) [e,it] e (λi h=>(∃old,IsEnum h e it ((i+1:Nat):Int) old)/\SIt false h it a i) where
 mem:=by simp
 obj:=λi h ⟨⟨old,q1⟩,q2⟩ c hc=>by
  simp only[Yao,da,or_false]at hc;rcases hc with rfl|rfl
  .exact⟨_,q1,λv e=>by cases e⟩
  .exact q2.obj
 keep:=λi h h' ⟨⟨old,q1⟩,q2⟩ k=>⟨⟨old,k e (by simp) _ q1⟩,q2.keep λo x=>k it (by simp) o x⟩
 item:=by
  intro X hP hw hK hc i pins s σ H E I hf ⟨⟨old,q1⟩,q2⟩ hg;subst hP hw hK;obtain⟨xs,x,hx,ex⟩:=hg;obtain⟨its,rv,p,hz⟩:=I.sq hx;obtain⟨ux,hux,rux⟩:=rv.get ex;have oe:=I.sq_out hx<|hf e (by simp);have oi:=I.sq_out hx<|hf it (by simp);have hi:i<its.toArray.size:=by have:=(Yar.mp hux).1;simpa using this
  refine wpAny_pyNext_enum_itemD (i:=i+1) (Kg (A:=X.A.in1) (I.ok.hd hc) it a oi its.toArray) q1 ⟨by omega,by rw[Nat.add_sub_cancel];exact q2,p⟩ (by omega) hne (by simp[hne,Pa oe]) λy h' tk b1 b2 b3 b4 b5 b6=>⟨_,rfl,?_⟩;have ey:y=ux:=by
   have:its[i]? = some y:=by simpa using b1
   rw[hux]at this;exact(O8 this).symm
  subst ey;refine wpAny_letOwnedTupleGo_enum (s:={ s with heap:=h',toks:=tk+1 }) b2 λh2 c1 c2=>?_;have lt:∀{c o},s.heap.get? c=some o->c≠s.heap.objs.size:=λz=>gF<|c8 z;have el:=lt q1;have up:∀c o,c∉[e,it]->s.heap.get? c=some o->h2.get? c=some o:=λc o hc z=>by
   simp only[Yao,da,or_false,not_or]at hc;exact c2.extBut _ _ hc.1<|b6 c o hc.1 hc.2 z
  refine⟨.ref s.heap.objs.size,upd H s.heap.objs.size<|.tup [.int ((i+1:Nat):Int),x],Inv.turnedN (s:=s) (t':=tk+1) [e,it] I up hf (bS _) ?_,rfl,⟨s.heap.objs.size,x,rfl,I.fresh,rfl,λxs' h'=>by rw[I.sq_inj h' hx];exact ex⟩,?_,λc hc=>?_⟩
  .refine⟨by rw[sizeLine_eq];simp,[.int ((i+1:Nat):Int) tk,y],.cons ⟨_,rfl⟩<|.cons rux .nil,?_⟩
   exact⟨_,c2.extBut _ _ (Pa el) b4,rfl,_,rfl⟩
  .refine⟨⟨y,?_⟩,?_⟩
   .have e1:(((i+1+1:Nat)):Int)=((i+1:Nat):Int)+1:=by omega
    rw[e1];exact c1
   .have:=b3.2.1.keep (h':=h2) λo z=>c2.extBut _ o (Pa hne) z
    rwa [show i+1+1-1=i+1 by omega]at this
  .have he:∃o,s.heap.get? c=some o:=by
    simp only[Yao,da,or_false]at hc;rcases hc with rfl|rfl
    .exact⟨_,q1⟩
    .obtain⟨o,z,_⟩:=q2.obj;exact⟨o,z⟩
   obtain⟨o,z⟩:=he;rw[aJ<|lt z];exact(hf c hc).1
 done:=by
  intro X hP hw hK hc i pins s σ H E I hf ⟨⟨old,q1⟩,q2⟩ hg;subst hP hw hK;obtain⟨xs,hx,en⟩:=hg;obtain⟨its,rv,p,hz⟩:=I.sq hx;have l1:=rv.length;have oi:=I.sq_out hx<|hf it (by simp);refine wpAny_pyNext_enum_endD (Kh (A:=X.A.in1) (I.ok.hd hc) it a its.toArray i (by simp;omega)) q1 ⟨rfl,q2,p⟩ λh' k=>⟨rfl,?_⟩;refine I.turnedL (t':=s.toks) [e,it] (λc o hc z=>?_) hf;simp only[Yao,da,or_false,not_or]at hc;exact k c o hc.2 z
 self:=λ_ _ _ _ _ st h=>let⟨⟨_,q⟩,_⟩:=st;PB q h
section
def Kj(K:O3)(ta:TA):TI:=λσ H R=>ta σ H λvs H1=>∃a,vs=[.ref a]/\(∃xs,Sq K false H1 a xs)/\R (v4 K a) H1
theorem Kk{ta:TA}{p kp cp:Pos}{j:Nat}(hg:Gl X "enumerate")(hm:X.mg "enumerate" = none)(ha:PA X [a] ta)(hs:starEach [a] X.env=[(false,eval a X.env)]:=by rfl) :
  PI X (.Tuple es n1 ps) (.Call (.Name "enumerate" p) [a] [⟨some "start",.Constant (.int 1) j cp,kp⟩] pos) (Kj X.K ta):=by
 intro pins s σ H R I h;refine Pw<|eu I hg hm boot_enumerate ?_;refine Ka (bL (ha pos pins s σ H _ I h) λus s1 ⟨vs,H1,I1,r1,q1⟩=>?_) (by rw[hs];rfl) (by rw[hs];rfl);obtain⟨l,rfl,⟨xs,hx⟩,q⟩:=q1;cases r1 with
 |cons r rr=>
  cases rr;cases r;refine PyProof.Rows.kws_cons<|wpAny_Constant_int (PyProof.Rows.kws_nil ?_);obtain⟨its,rv,p1,hz⟩:=I1.sq hx;refine Kf (s:={ s1 with toks:=s1.toks+1 }) p1 λh' a1 a2 k=>PB (s:={ s1 with heap:=h',toks:=s1.toks+1 }) a1 ?_;refine⟨_,[s1.heap.objs.size+1,s1.heap.objs.size],_,_,H1,rfl,I1.kept (t':=s1.toks+1) k,Ki l _ _<|Nat.succ_ne_self _,⟨⟨_,a1⟩,a2⟩,λb hb=>?_,q⟩;have hb':s1.heap.objs.size<=b:=by
   simp only[Yao,da,or_false]at hb;exact E4 _ _ hb
  exact I1.fpOk hb'<|I1.hok.fresh hb'
end
namespace Fl
def quiet(f:Str):List Str:=["__setattr__", "__getattribute__", "__getattr__",f]
noncomputable def zw(K:O3)(ns:List Str)(bmB:List Value):List Value->Bool
 |[]=>bmB==[]
 |v::r=>(v::r)==bmB||match v with
  | .ref a=>(match K.lookup a with
   |some ⟨_,_,.cls cd,_⟩=>PySem.W.nsOkIn K cd.ns&&ns.all (λn=>PySem.W.nsIn K cd.ns n==some none)&&zw K ns bmB r
   |_=>false)
  |_=>false
theorem E5{K:O3}{h:Heap}{ns:List Str}{bmB:List Value}(X:K.In h):∀{l:List Value},zw K ns bmB l=true->Tl h ns bmB l
 |[],e=>by rw[<-beq_iff_eq.mp e];exact .last
 |v::r,e=>by
  unfold zw at e;rcases Bool.or_eq_true_iff.mp e with q|q
  rw[<-beq_iff_eq.mp q];exact .last;split at q;split at q;rename_i ho;simp only[cV,Ybf,Po]at q;exact .more (X _ _ ho) (.of_isNs<|PySem.W.isNs_of_in X q.1.1) (λn hn=>PySem.W.nsMap_none_of_in X q.1.1<|q.1.2 n hn)<|E5 X q.2
  cases q;cases q
theorem v6{N:Addr}{n:Str}{v:Value}(X:K.In h)(G:h.Ns N m)(e:PySem.W.nsIn K N n=some (some v)):m n=some v:=by obtain⟨ob,es,ep,at1,at2,_,fnd⟩:=G;unfold PySem.W.nsIn at e;split at e;rename_i z;have y:=X _ _ z;rw[at1]at y;cases y;cases at2;split at e;rename_i found;cases e;rw[<-fnd];unfold nsFind findBy;rw[<-Array.find?_toList,found];rfl;split at e<;>cases e;cases e
def clsF(K:O3)(C:Addr)(bmB:List Value)(newId:String)(f:Str)(fI:Addr):Bool:=match K.lookup C with
 | some ⟨.type "type",_,.cls cd,sl⟩=>(match cd.mro,sl.toList with
  |.ref C'::bm,[_,_,_,_,some<|.builtin n,_]=>C'==C&&n==newId && !cd.hasDel&&cd.hasDict&&zw K ("__init__" ::quiet f) bmB bm&&PySem.W.nsOkIn K cd.ns&&PySem.W.nsIn K cd.ns "__init__" == some (some<|.ref fI)&&(quiet f).all (λn=>PySem.W.nsIn K cd.ns n==some none)
  |_,_=>false)
 |_=>false
structure CF(h:Heap)(C:Addr)(bmB:List Value)(newId:String)(f:Str)(fI:Addr):Prop where
 h:∃(bm:List Value) (N:Addr) (nm qn:Str) (bs:List Value) (sn:List Str) (sub:List Value) (ab:Bool) (col:Option Bool) (dd:Option Addr) (k0 k1 k2 k3 k5:Option Value) (mN:Str->Option Value),
  h.get? C=some (excClassObj nm qn C N bs bm true sn sub ab col dd k0 k1 k2 k3 k5 newId)/\h.Ns N mN/\mN "__init__" = some (.ref fI)/\(∀n∈quiet f,mN n=none)/\Tl h ("__init__" ::quiet f) bmB bm
theorem clsF_of{C:Addr}{bmB:List Value}(X:K.In h)(q:clsF K C bmB newId f fI=true):CF h C bmB newId f fI:=by
 unfold clsF at q;split at q;rename_i dd cd sl ho;split at q;rename_i C' bm k0 k1 k2 k3 n k5 hm hs;simp only[cV,Po,rZ,Ybf]at q;obtain⟨⟨⟨⟨⟨⟨⟨rfl,rfl⟩,hdel⟩,hdc⟩,ht⟩,hok⟩,hi⟩,hq⟩:=q;obtain⟨nm,bs,mro,ns,qn,hd,sn,sub,ab,col,del⟩:=cd;dsimp only at hm hdel hok hi hq hdc;subst hm hdel hdc;have hsl:sl = #[k0,k1,k2,k3,some<|.builtin n,k5]:=by
  cases sl with
  |mk l=>exact congrArg Array.mk hs
 subst hsl;have kU:h.Ns ns (h.nsMap ns):=.of_isNs<|PySem.W.isNs_of_in X hok;exact⟨bm,ns,nm,qn,bs,sn,sub,ab,col,dd,k0,k1,k2,k3,k5,_,X _ _ ho,kU,v6 X kU hi,λm hm=>PySem.W.nsMap_none_of_in X hok<|hq m hm,E5 X ht⟩
 cases q;cases q
def exX(C t e:Addr)(dx:Option Addr):HO:=.ext λh=>h.get? e=some (tz C t dx)
def rem(H:Hp)(e:Addr):Hp:=λb=>if b=e then none else H b
theorem rem_ne(h:b≠e):rem H e b=H b:=if_neg h
theorem Kl:rem H e e=none:=if_pos rfl
theorem E6{u:HO}(h:rem H e b=some u):b≠e/\H b=some u:=by unfold rem at h;split at h;cases h;rename_i ne;exact⟨ne,h⟩
theorem HOk.obj(k:HOk P w H h){u:HO}(e:H b=some u):∃o,h.get? b=some o:=by
 have q:=k b u e;cases u with
 |lst xs=>obtain⟨_,_,_,_,e⟩:=q;exact⟨_,e⟩
 |tup xs=>obtain⟨_,_,_,o,e,_⟩:=q;exact⟨_,e⟩
 |dK kvs=>obtain⟨_,_,_,_,o,_,_,e,_⟩:=q;exact⟨_,e⟩
 |dT kvs=>obtain⟨_,_,_,_,o,_,_,e,_⟩:=q;exact⟨_,e⟩
 |set S n=>obtain⟨o,_,_,_,e,_⟩:=q;exact⟨_,e⟩
 |ins C dx fs=>obtain⟨_,_,_,e,_⟩:=q;exact⟨_,e⟩
 |own y=>obtain⟨o,e⟩:=q;exact⟨_,e⟩
 |xd fs=>obtain⟨_,⟨o,_,_,e,_⟩,_⟩:=q;exact⟨_,e⟩
 |rng lo hi=>obtain⟨_,_,_,e⟩:=q;exact⟨_,e⟩
 |frz ob u=>obtain⟨e,_⟩:=q;exact⟨_,e⟩
 |tbl ps=>exact⟨_,(show h.get? b=some _ from q)⟩|met f y=>exact⟨_,(show h.get? b=some _ from q)⟩|ext φ=>obtain⟨_,⟨o,e⟩,_⟩:=q;exact⟨_,e⟩
def RaisD(X:Cx)(E:XK):Prop:=∀(pins:List (Addr×Obj)) (σ:St) (H:Hp) (s:Shared) (e C t:Addr) (dx:Option Addr),Inv X pins σ H s->H e=some (exX C t e dx)->X.s₀.heap.get? e=none->E (.ref C) dx (rem H e)->X.xe (.ref e) s
section
variable{N:List Str}{scope:Scope}{f:Addr}{cd:Value}{outer:List Env}{E:XK}
theorem raisd_cx:RaisD (cR (c9 P w) P w K mg base N qual scope f cd A outer s H E) E:=by
 intro pins σ H1 s1 e C t dx I he new hE;have ib:Un (cW outer) [] H H1 s.heap s1.heap:=I.base;have obj:s1.heap.get? e=some (tz C t dx):=(I.hok e _ he).1;generalize hS:envOfC qual scope s.heap.objs.size f cd::outer=S;have neL:∀b o,s.heap.get? b=some o->b∉cW outer->b∉cW S:=λb o q hb hm=>by
  rw[<-hS]at hm;rcases Yao.mp (I.stkSub b hm) with z|z
  have l2:s.heap.objs.size<=(envOfC qual scope s.heap.objs.size f cd).locals:=I.ok.above;have z':b=(envOfC qual scope s.heap.objs.size f cd).locals:=z;rw[<-z']at l2;exact O5 (dG (c8 q) l2)<|iR _
  exact hb z
 have stk:s1.heap.FunFrames base S:=by rw[<-hS];exact I.stack
 have frm:∀b,b∈cW S->∃o,s1.heap.get? b=some o/\∀vs,o.data≠.fields vs:=λb hb=>(stk.mem hb).2;have noE:∀b o,s.heap.get? b=some o->b≠e:=λb o q z=>by rw[z]at q;have new':s.heap.get? e=none:=new;rw[new']at q;cases q
 have eF:e∉cW S:=λz=>by obtain⟨o,q,nf⟩:=frm e z;rw[obj]at q;cases q;exact nf _ rfl
 let B:=PySem.W.hideAll s1.heap (e::cW S);have inB:∀{b o},s1.heap.get? b=some o->b≠e->b∉cW S->B.get? b=some o:=λq ne hb=>PySem.W.hideAll_get _ q λz=>(Yao.mp z).elim ne hb;have st:B.StaysIn s1.heap:=λb o q=>PySem.W.of_hideAll _ q;have newB:B.get? e=none:=PySem.W.hideAll_none _<|lw ..;have hT:∀b u,rem H1 e b=some u->∃o,B.get? b=some o:=λb u q=>by obtain⟨ne,q⟩:=E6 q;obtain⟨o,z⟩:=HOk.obj I.hok q;refine⟨o,inB z ne λhm=>?_⟩;rw[<-hS]at hm;have:=I.stkFree b hm;rw[q]at this;cases this
 have hok1:HOk P w (rem H1 e) s1.heap:=λb u q=>by obtain⟨ne,q⟩:=E6 q;refine(I.hok b u q).stay (λ_ _ _ z=>z) (λc z=>?_) λc xs z=>?_;rw[rem_ne (λy=>by rw[y,he]at z;cases z)];exact z;rw[rem_ne (λy=>by rw[y,he]at z;cases z)];exact z
 show wpAny (model P w) (A.deeper<|envOfC qual scope s.heap.objs.size f cd) (leaving (envOfC qual scope s.heap.objs.size f cd)<|.ref e) (λ_ s''=>c9 P w outer H s E (.ref e) s'') _ _;have fB:s1.heap.FunFrames B (envOfC qual scope s.heap.objs.size f cd::outer):=by rw[hS];exact PySem.W.funFrames_hide stk λenv hv b hb=>jr _<|YaB.mpr ⟨env,hv,hb⟩
 refine leaves_new (P:=Is (.ref C) dx) Is.firm I.ok.frames fB rfl obj ⟨rfl,rfl⟩ st newB rfl rfl λh3 fl up=>?_;refine ⟨e,.ref C,dx,rem H1 e,B,rfl,fl,I.os,I.bare,⟨λb o q n hb _=>?_,λb o q n hb _=>?_,λb o q n _=>?_,λb o q _=>?_,λb xs q=>?_,λb o xs q=>?_,λb ps q=>?_,λ_ eg n ys=>by
   by_cases y:sysModules=e
   .rw[y,Kl];exact λz=>by cases z
   .rw[rem_ne y];exact ib.sys (by simp) eg n ys⟩,HOk.through hok1 hT st fl.st,λb o q hb=>?_,hT,hE⟩
 exact fl.st b o<|inB (ib.keep b o q n hb<|by simp) (noE b o q) (neL b o q hb)
 obtain⟨sl,e1⟩:=ib.slot b o q n hb (by simp);obtain⟨o3,e3,nf⟩:=frm b (by rw[<-hS];exact vR hb);rw[e1]at e3;cases e3;obtain⟨sl3,e4⟩:=up b _ e1 nf;exact⟨sl3,e4⟩;rw[rem_ne<|noE b o q];exact ib.free b o q n (by simp);obtain⟨o',e1⟩:=ib.there b o q (by simp);by_cases hb:b∈cW S;obtain⟨o3,e3,nf⟩:=frm b hb;obtain⟨sl3,e4⟩:=up b _ e3 nf;exact⟨_,e4⟩;exact⟨o',fl.st b o'<|inB e1 (noE b o q) hb⟩;have:=ib.tups b xs q;rw[rem_ne (λy=>by rw[y,he]at this;cases this)];exact this;have:=ib.frzs b o xs q;rw[rem_ne (λy=>by rw[y,he]at this;cases this)];exact this;obtain⟨m,e1⟩:=ib.tbls b ps q;exact⟨m,by rw[rem_ne (λy=>by rw[y,he]at e1;cases e1)];exact e1⟩;obtain⟨o',e1⟩:=ib.there b o q (by simp);exact⟨o',inB e1 (noE b o q)<|neL b o q hb⟩
end
abbrev bmV:List Value:=[.type "ValueError",.type "Exception",.type "BaseException",.type "object"]
section
variable{C:Addr}{o value:Expr}{pos':Pos}
def v7(C:Addr)(f:Str):TS:=λD σ H=>∃e t k,σ[0]? = some (some<|.ref e)/\σ[1]? = some (some<|.int k)/\H e=some (exX C t e none)/\∀d,H d=none->d≠e->D.nx σ (upd (upd H e<|exX C t e<|some d) d<|.xd [(f,.int k)])
theorem i6(hq:clsF X.K C bmV newId f fI=true)(hB:typeLookup (.type "ValueError") f=pure none)(ho:PE X o (qe 0))(hv:PE X value (qe 1))(hs:swapsWith value (some<|.Attribute o f pos') pos.line X.env=pure false) :
  PS X (.Assign [.Attribute o f pos'] value pos) (v7 C f):=by
 rintro pins s σ H D I ⟨e,t,k,h0,h1,he,q⟩;refine plainObj_wpAny_Assign_Attribute (bL (hv pins s σ H (λv H'=>v=.int k/\H'=H) I ⟨_,h1,rfl,rfl⟩) λu s1 ⟨y,H1,I1,ry,ey,eH⟩=>?_) hs;subst ey eH;refine bL (ho pins s1 σ H1 (λv H'=>v=.ref e/\H'=H1) I1 ⟨_,h0,rfl,rfl⟩) λov s2 ⟨x,H2,I2,rx,ex,eH⟩=>?_;subst ex eH;cases rx;have obj:s2.heap.get? e=some (tz C t none):=(I2.hok e _ he).1;obtain⟨bm,N,nm,qn,bs,sn,sub,ab,col,dd,k0,k1,k2,k3,k5,mN,hC,hN,_,qm,T⟩:=(clsF_of I2.kIn hq).h;obtain⟨hp,g,dr,tk,os⟩:=s2;dsimp only at obj hC hN T I2;refine Jv (B:= "ValueError") PySem.F.store_ValueError hC hN T (qm _<|by simp[quiet]) (qm _<|by simp[quiet]) (by simp[quiet]) (by simp[quiet]) hB obj rfl rfl rfl λh' tk' d m nd ne x1 x2 x3 x4 x5=>?_;have Hd:H2 d=none:=by
  cases z:H2 d with
  |none=>rfl
  |some w=>
   obtain⟨o,y⟩:=HOk.obj I2.hok z;have y':hp.get? d=some o:=y;rw[nd]at y';cases y'
 have ned:∀{b o},hp.get? b=some o->b≠d:=λz y=>by rw[y,nd]at z;cases z
 have nee:∀{b},H2 b=none->b≠e:=λz y=>by rw[y,he]at z;cases z
 have at1:∀{b},b≠d->b≠e->upd (upd H2 e<|exX C t e<|some d) d (.xd [(f,.int k)]) b=H2 b:=λy z=>by rw[aJ y,aJ z]
 have un:Un X.fs [] H2 (upd (upd H2 e<|exX C t e<|some d) d<|.xd [(f,.int k)]) hp h':=by
  refine ⟨λb o z n _ _=>x5 b o (nee n) z,λb o z n _ _=>⟨o.slots,x5 b o (nee n) z⟩,λb o z n _=>?_,λb o z _=>?_,λb xs z=>?_,λb o xs z=>?_,λb ps z=>⟨#[],?_⟩,λ_ _ n ys=>by
   by_cases y:sysModules=d
   .rw[y,aN];exact λz=>by cases z
   by_cases v:sysModules=e
   .rw[aJ y,v,aN];exact λz=>by first|cases z|(unfold exX at z;cases z)
   .rw[at1 y v];exact n ys⟩
  .rw[at1 (ned z)<|nee n];exact n
  .by_cases y:b=e
   .rw[y];exact⟨_,x1⟩
   .exact⟨o,x5 b o y z⟩
  .rw[at1 (λy=>by rw[y,Hd]at z;cases z) (λy=>by rw[y,he]at z;cases z)];exact z
  .rw[at1 (λy=>by rw[y,Hd]at z;cases z) (λy=>by rw[y,he]at z;cases z)];exact z
  .rw[at1 (λy=>by rw[y,Hd]at z;cases z) (λy=>by rw[y,he]at z;cases z),z];simp
 have hok:HOk X.prog X.w (upd (upd H2 e<|exX C t e<|some d) d<|.xd [(f,.int k)]) h':=λb u z=>by
  by_cases y:b=d
  .subst y
   rw[aN]at z;cases z;refine⟨m,x2,λn=>?_⟩
   by_cases w:n=f
   .subst w
    rw[x3];simp only[lx,Pk];exact ry
   .rw[x4 n w]
    have:(n==f)=false:=beq_eq_false_iff_ne.mpr w;simp only[lx,this,List.lookup_nil];trivial
  .rw[aJ y]at z
   by_cases w:b=e
   .subst w
    rw[aN]at z;cases z;exact⟨x1,⟨_,x1⟩,λ_ _ p r=>r _ p⟩
   .rw[aJ w]at z
    refine(I2.hok b u z).stay (λc v hc r=>?_) (λc r=>?_) λc xs r=>?_
    .refine x5 c v (λp=>?_) r
     rcases hc with hc|hc
     .exact w<|hc.symm.trans p
     .rw[p,he]at hc;cases hc
    .rw[at1 (λp=>by rw[p,Hd]at r;cases r) (λp=>by rw[p,he]at r;cases r)];exact r
    .rw[at1 (λp=>by rw[p,Hd]at r;cases r) (λp=>by rw[p,he]at r;cases r)];exact r
 exact⟨σ,_,I2.un (t':=tk') un hok,q d Hd ne⟩
end
def spI(C:Addr)(f:Str):Sp:=λvs H Q _=>∃e t k,vs=[.ref e,.int k]/\H e=some (exX C t e none)/\∀d,H d=none->d≠e->Q .non (upd (upd H e<|exX C t e<|some d) d<|.xd [(f,.int k)])
theorem init_ok{x a0 a1:Str}{st:Stmt}{C fJ:Addr}{p0 p1 pos':Pos}(F:Fun K x qual st fI fd)(sc:bT [a0,a1] [a0,a1] (aE st))
  (hq:clsF K C bmV newId f fJ=true) (hB:typeLookup (.type "ValueError") f=pure none) (hb:bB st=[.Assign [.Attribute (.Name a0 p0) f pos'] (.Name a1 p1) pos])
  (hs:∀env,swapsWith (.Name a1 p1) (some<|.Attribute (.Name a0 p0) f pos') pos.line env=pure false) (d0:(a0==("__debug__" : Str))=false) (d1:(a1==("__debug__" : Str))=false) (c0:(a0==("__classdict__" : Str))=false) (c1:(a1==("__classdict__" : Str))=false) :
  eD P w K mg base (c9 P w) (k+1) fI fd [a0,a1] (spI C f):=by
 obtain⟨oc,od,kV,doc,pm,an,cdv,ct,osl,rfl,lk,hcd⟩:=F.ex;have v0:kX (aE st) a0:=(sc.par a0<|by simp).elim .inl λz=>.inr<|.inl z;have v1:kX (aE st) a1:=(sc.par a1<|by simp).elim .inl λz=>.inr<|.inl z;refine na lk hcd sc (λvs H Q E ⟨e,t,k,z,_⟩=>by rw[z];rfl) λA outer s H vs Q E hr hsp=>?_;obtain⟨e,t,k,rfl,he,q⟩:=hsp;refine⟨v7 C f,?_,e,t,k,rfl,rfl,he,q⟩;rw[hb];exact iX<|i6 (X:=cR (c9 P w) P w K mg base [a0,a1] qual (aE st) fI cdv A outer s H E) hq hB (df rfl v0 d0 c0) (df rfl v1 d1 c1) (hs _)
section
variable{EX:XK}{C:Addr}{x:Str}{ps:List Str}{ta:TE}{np cpos:Pos}
theorem ps_raisef(hr:RaisD X EX)(hc:X.calm=true)(hm:X.mg x=some (.ref C))(hq:clsF X.K C bmV "ValueError.__new__" f fI=true)(Fi:eD X.prog X.w X.K X.mg X.base (c9 X.prog X.w) k fI fd ps (spI C f))(hro:Room (k+1) X.A)(hb:Binds X.K fd ps [])(hl:∃od osl,X.K.lookup fI=some ⟨.type "function",od,.func fd,osl⟩)
  (ha:PE X a ta) (hg:Gl X x:=by rfl) (hd:(x==("__debug__" : Str))=false:=by decide) (he:starEach [a] X.env=[(false,eval a X.env)]:=by rfl) (hex:X.ex=[]:=by rfl) :
  PS X (.Raise (some<|.Call (.Name x np) [a] [] cpos) none pos) (λ_ σ H=>ta σ H λv H1=>∃n,v=.int n/\∀d,H1 d=none->EX (.ref C) (some d) (upd H1 d<|.xd [(f,.int n)])):=by
 intro pins s σ H D I h;obtain⟨bm,N,nm,qn,bs,sn,sub,ab,col,dd,k0,k1,k2,k3,k5,mN,hC,hN,hi,qm,T⟩:=(clsF_of I.mod.kin hq).h;have isB:bm.contains (.type "BaseException")=true:=T.has (by decide +kernel);obtain⟨od,osl,lI⟩:=hl;have hoI:=I.mod.kin _ _ lI;refine Ju (C:=C) (nm:=nm) (q:=qn) (N:=N) (bs:=bs) (bm:=bm) (hdct:=true) (sn:=sn) (sub:=sub) (ab:=ab) (col:=col) (dd:=dd) (k0:=k0) (k1:=k1) (k2:=k2) (k3:=k3) (k5:=k5) (mN:=mN) (fI:=fI) (oI:=⟨.type "function",od,.func fd,osl⟩) PySem.F.excBase_ValueError isB (I.ok.hd hc) (by rw[he];rfl) hi rfl<|eM I hg hm ⟨rfl,?_⟩ hd;have hp:=i7 (X:=X) (e:=a) (es:=[]) ha ky (by rw[he];rfl);have go:=hp cpos pins s σ H (λvs H1=>match vs with|[v]=>∃n,v=.int n/\∀d,H1 d=none->EX (.ref C) (some d) (upd H1 d<|.xd [(f,.int n)])|_=>False) I;rw[he]at go ⊢;refine Calls.evalArgs_plain<|bL (go (by
  unfold rh vE;exact h)) λus s2 ⟨vs,H2,I2,rv,q⟩=>?_
 obtain⟨v,rfl⟩:∃v,vs=[v]:=by
  match vs,q with
  |[v],_=>exact⟨v,rfl⟩
 obtain⟨n,rfl,q⟩:=q;have ul:us.length=1:=rv.length.symm;refine⟨rfl,by rw[ul];decide,I2.bk _ _ hC,hN.keeps I2.bk,(T.keeps I2.bk).own<|by simp,I2.bk _ _ hoI,λh' e m=>?_⟩;obtain⟨t,at1,_,_⟩:=m.there;have I3:Inv X pins σ H2 { s2 with heap:=h' }:=I2.kept (t':=s2.toks) m.keeps;have noE:∀{b o},s2.heap.get? b=some o->b≠e:=λz y=>by rw[y,m.new]at z;cases z
 have He:H2 e=none:=by
  cases z:H2 e with
  |none=>rfl|some u=>obtain⟨o,y⟩:=HOk.obj I2.hok z;exact O5 rfl<|noE y
 have h0:X.s₀.heap.get? e=none:=by
  cases z:X.s₀.heap.get? e with
  |none=>rfl|some o=>obtain⟨o',y⟩:=I2.base.there e o z (by rw[hex];simp);exact O5 rfl<|noE y
 have hL:e≠X.env.locals:=λz=>by
  obtain⟨_,⟨o,_,_,y,_⟩,_⟩:=I2.loc;exact noE y z.symm
 have I4:Inv X pins σ (upd H2 e<|exX C t e none) { s2 with heap:=h' }:=I3.track He h0 hL (λy c z w=>by
  obtain⟨v,o,ho,_⟩:=I2.cell y c z;exact noE ho w) (λp hp w=>noE (I2.pin p hp).1 w) ⟨at1,⟨_,at1⟩,λ_ _ p r=>r _ p⟩ (λ_ z=>by first|cases z|(unfold exX at z;cases z))
 have hlen:(Value.ref e::us++[]).length=ps.length:=by
  have:=Fi.len [.ref e,.int n] (upd H2 e<|exX C t e none) (λ_ _=>True) E0 ⟨e,t,n,rfl,aN,λ_ _ _=>trivial⟩;rw[<-this,rX,dX,ul];rfl
 have bi:=hb { s2 with heap:=h' } (.ref e::us) I4.kIn hlen;rw[rX]at bi;refine wpAny_call<|codeAny_mono (Fi.run _ X.stack _ _ ⟨.ref e::us,[]⟩ (.ref e::us) [.ref e,.int n] (λv H5=>v = .non/\∃ d,H2 d=none/\d≠e/\H5=upd (upd H2 e<|exX C t e<|some d) d (.xd [(f,.int n)])) E0 (hro.make C us []) (I4.env0.make C us []) bi (.cons rfl rv)
  ⟨e,t,n,rfl,aN,λd hd ne=>⟨rfl,d,by rw[aJ ne]at hd;exact hd,ne,by rw[qb]⟩⟩) λr s3 z=>?_
 cases r with
 |error e'=>exact(bU pins σ _ _ e' s3 I4 z:_)
 |ok fl=>
  cases fl with
  |ret u=>
   obtain⟨v,H',I5,r5,rfl,d,hd,ne,rfl⟩:=I4.after z;have e5:upd (upd H2 e<|exX C t e<|some d) d (.xd [(f,.int n)]) e=some (exX C t e<|some d):=by rw[aJ<|Pa ne,aN]
   refine⟨r5,t,some d,I5.bk _ _ hC,(I5.hok e _ e5).1,hr pins σ _ s3 e C t (some d) I5 e5 h0 ?_⟩;have:rem (upd (upd H2 e<|exX C t e<|some d) d<|.xd [(f,.int n)]) e=upd H2 d (.xd [(f,.int n)]):=by
    funext b;unfold rem upd
    by_cases y:b=e
    .rw[if_pos y,if_neg<|λw=>ne<|w.symm.trans y,y,He]
    .rw[if_neg y,if_neg y]
   rw[this];exact q d hd
  |next=>exact Pi z|brk=>exact Pi z|cont=>exact Pi z
end
end Fl
end L2
namespace LP
namespace Dt
abbrev R:=Nat->Int
noncomputable def m2(a b:R)(p q:Nat):Int:=a p*b q-a q*b p
def m3(a b c:R)(p q r:Nat):Int:=c r*m2 a b p q-c q*m2 a b p r+c p*m2 a b q r
def m4(a b c d:R)(p q r s:Nat):Int:=d s*m3 a b c p q r-d r*m3 a b c p q s+d q*m3 a b c p r s-d p*m3 a b c q r s
def m5(a b c d e:R)(p q r s t:Nat):Int:=e t*m4 a b c d p q r s-e s*m4 a b c d p q r t+e r*m4 a b c d p q s t-e q*m4 a b c d p r s t+e p*m4 a b c d q r s t
section
variable(a b c d e:R)(p q r s t j:Nat)
theorem s0:m2 a b p j*1=b j*a p-b p*a j:=by unfold m2;grind
theorem s1:m3 a b c p q j*a p=m2 a c p j*m2 a b p q-m2 a c p q*m2 a b p j:=by unfold m3 m2;grind
theorem s2:m4 a b c d p q r j*m2 a b p q=m3 a b d p q j*m3 a b c p q r-m3 a b d p q r*m3 a b c p q j:=by unfold m4 m3 m2;grind
theorem pl:m3 a b c p q r*m3 a b c p s j=m3 a b c p q s*m3 a b c p r j-m3 a b c p q j*m3 a b c p r s:=by unfold m3 m2;grind
theorem B4:m3 a b c p q r*m3 a b c q s j=m3 a b c p q s*m3 a b c q r j-m3 a b c p q j*m3 a b c q r s:=by unfold m3 m2;grind
theorem Km:m3 a b c p q r*m3 a b c r s j=m3 a b c p r s*m3 a b c q r j-m3 a b c p r j*m3 a b c q r s:=by unfold m3 m2;grind
theorem s3:m5 a b c d e p q r s j*m3 a b c p q r=m4 a b c e p q r j*m4 a b c d p q r s-m4 a b c e p q r s*m4 a b c d p q r j:=by have h1:=pl a b c p q r s j;have h2:=B4 a b c p q r s j;have h3:=Km a b c p q r s j;unfold m5 m4;generalize m3 a b c p q r=x1 at *;generalize m3 a b c p q s=x2 at *;generalize m3 a b c p q j=x3 at *;generalize m3 a b c p r s=x4 at *;generalize m3 a b c p r j=x5 at *;generalize m3 a b c p s j=x6 at *;generalize m3 a b c q r s=x7 at *;generalize m3 a b c q r j=x8 at *;generalize m3 a b c q s j=x9 at *;generalize m3 a b c r s j=y1 at *;generalize d p=d1;generalize d q=d2;generalize d r=d3;generalize d s=d4;generalize d j=d5;generalize e p=e1;generalize e q=e2;generalize e r=e3;generalize e s=e4;generalize e j=e5;grind
theorem kE:m3 a b c p q r=a p*m2 b c q r-a q*m2 b c p r+a r*m2 b c p q:=by unfold m3 m2;grind
theorem kF:m3 a b c p q r=b q*m2 a c p r-b p*m2 a c q r-b r*m2 a c p q:=by unfold m3 m2;grind
theorem ik:m4 a b c d p q r s=a p*m3 b c d q r s-a q*m3 b c d p r s+a r*m3 b c d p q s-a s*m3 b c d p q r:=by unfold m4;rw[kE a b c,kE a b c,kE a b c,kE a b c];unfold m3;grind
theorem jM:m4 a b c d p q r s=b q*m3 a c d p r s-b p*m3 a c d q r s-b r*m3 a c d p q s+b s*m3 a c d p q r:=by unfold m4;rw[kF a b c,kF a b c,kF a b c,kF a b c];unfold m3;grind
theorem lN:m4 a b c d p q r s=c p*m3 a b d q r s-c q*m3 a b d p r s+c r*m3 a b d p q s-c s*m3 a b d p q r:=by unfold m4 m3;grind
theorem kG:m5 a b c d e p q r s t=a p*m4 b c d e q r s t-a q*m4 b c d e p r s t+a r*m4 b c d e p q s t-a s*m4 b c d e p q r t+a t*m4 b c d e p q r s:=by unfold m5;rw[ik a b c d,ik a b c d,ik a b c d,ik a b c d,ik a b c d];unfold m4;grind
theorem tE:m5 a b c d e p q r s t=b q*m4 a c d e p r s t-b p*m4 a c d e q r s t-b r*m4 a c d e p q s t+b s*m4 a c d e p q r t-b t*m4 a c d e p q r s:=by unfold m5;rw[jM a b c d,jM a b c d,jM a b c d,jM a b c d,jM a b c d];unfold m4;grind
theorem B5:m5 a b c d e p q r s t=c p*m4 a b d e q r s t-c q*m4 a b d e p r s t+c r*m4 a b d e p q s t-c s*m4 a b d e p q r t+c t*m4 a b d e p q r s:=by unfold m5;rw[lN a b c d,lN a b c d,lN a b c d,lN a b c d,lN a b c d];unfold m4;grind
theorem B6:m5 a b c d e p q r s t=d q*m4 a b c e p r s t-d p*m4 a b c e q r s t-d r*m4 a b c e p q s t+d s*m4 a b c e p q r t-d t*m4 a b c e p q r s:=by unfold m5 m4;grind
theorem v8:m2 b a p q = - m2 a b p q:=by unfold m2;grind
theorem E7:m3 b a c p q r = - m3 a b c p q r:=by unfold m3;simp only[v8 a b];grind
theorem zx:m3 a c b p q r = - m3 a b c p q r:=by rw[kE,kE a b c];simp only[v8 b c];grind
theorem v9:m3 c b a p q r = - m3 a b c p q r:=by rw[kF c b a,kF a b c];simp only[v8 a c];grind
theorem E9:m4 b a c d p q r s = - m4 a b c d p q r s:=by unfold m4;simp only[E7 a b];grind
theorem Fa:m4 a c b d p q r s = - m4 a b c d p q r s:=by unfold m4;simp only[zx a b];grind
theorem Fb:m4 c b a d p q r s = - m4 a b c d p q r s:=by unfold m4;simp only[v9 a b];grind
theorem zy:m4 a b d c p q r s = - m4 a b c d p q r s:=by rw[ik,ik a b c d];simp only[zx b c];grind
theorem zA:m4 a d c b p q r s = - m4 a b c d p q r s:=by rw[ik,ik a b c d];simp only[v9 b c];grind
theorem wd:m4 d b c a p q r s = - m4 a b c d p q r s:=by rw[jM d b c a,jM a b c d];simp only[v9 a c];grind
theorem wg:m5 b a c d e p q r s t = - m5 a b c d e p q r s t:=by unfold m5;simp only[E9 a b c d];grind
theorem wj:m5 a c b d e p q r s t = - m5 a b c d e p q r s t:=by unfold m5;simp only[Fa a b c d];grind
theorem wk:m5 c b a d e p q r s t = - m5 a b c d e p q r s t:=by unfold m5;simp only[Fb a b c d];grind
theorem wm:m5 a b d c e p q r s t = - m5 a b c d e p q r s t:=by unfold m5;simp only[zy a b c d];grind
theorem wn:m5 a d c b e p q r s t = - m5 a b c d e p q r s t:=by unfold m5;simp only[zA a b c d];grind
theorem wq:m5 d b c a e p q r s t = - m5 a b c d e p q r s t:=by unfold m5;simp only[wd a b c d];grind
theorem Fc:m5 a b c e d p q r s t = - m5 a b c d e p q r s t:=by rw[kG,kG a b c d e];simp only[zy b c d e];grind
theorem Fd:m5 a b e d c p q r s t = - m5 a b c d e p q r s t:=by rw[kG,kG a b c d e];simp only[zA b c d e];grind
theorem Fe:m5 a e c d b p q r s t = - m5 a b c d e p q r s t:=by rw[kG,kG a b c d e];simp only[wd b c d e];grind
theorem Zr:m5 e b c d a p q r s t = - m5 a b c d e p q r s t:=by rw[tE e b c d a,tE a b c d e];simp only[wd a c d e];grind
end
def M(A:Nat->R):Nat->Nat->R
 |0,i,j=>A i j|1,i,j=>m2 (A 0) (A i) 0 j|2,i,j=>m3 (A 0) (A 1) (A i) 0 1 j|3,i,j=>m4 (A 0) (A 1) (A 2) (A i) 0 1 2 j|4,i,j=>m5 (A 0) (A 1) (A 2) (A 3) (A i) 0 1 2 3 j|_,_,_=>0
def dt(A:Nat->R):Nat->Int
 |0=>1|k+1=>M A k k k
theorem Kn(A:Nat->R){k:Nat}(hk:k<4)(i j:Nat):M A (k+1) i j*dt A k=M A k i j*M A k k k-M A k i k*M A k k j:=by
 match k,hk with
 |0,_=>exact s0 _ _ _ _|1,_=>exact s1 _ _ _ _ _ _|2,_=>exact s2 _ _ _ _ _ _ _ _|3,_=>exact s3 _ _ _ _ _ _ _ _ _ _
theorem Ff{A B:Nat->R}{k i j:Nat}(h:∀l,l<k->A l=B l)(hi:A i=B i):M A k i j=M B k i j:=by
 match k with
 |0=>show A i j=B i j;rw[hi]|1=>show m2 _ _ _ _=m2 _ _ _ _;rw[hi,h 0<|by omega]|2=>show m3 _ _ _ _ _ _=m3 _ _ _ _ _ _;rw[hi,h 0<|by omega,h 1<|by omega]|3=>show m4 _ _ _ _ _ _ _ _=m4 _ _ _ _ _ _ _ _;rw[hi,h 0<|by omega,h 1<|by omega,h 2<|by omega]|4=>show m5 _ _ _ _ _ _ _ _ _ _=m5 _ _ _ _ _ _ _ _ _ _;rw[hi,h 0<|by omega,h 1<|by omega,h 2<|by omega,h 3<|by omega]|_+5=>rfl
def sw(A:Nat->R)(x y:Nat):Nat->R:=λi=>if i=x then A y else if i=y then A x else A i
theorem B7(A:Nat->R){n x y:Nat}(hn:n<=5)(hxy:x<y)(hy:y<n):dt (sw A x y) n = - dt A n:=by
 match n,hn,y,hy,x,hxy with
 |1,_,0,_,x,h=>exact O5 h<|Nat.not_lt_zero x
 |2,_,1,_,0,_=>exact v8 _ _ _ _|3,_,1,_,0,_=>exact E7 _ _ _ _ _ _|3,_,2,_,0,_=>exact v9 _ _ _ _ _ _|3,_,2,_,1,_=>exact zx _ _ _ _ _ _|4,_,1,_,0,_=>exact E9 _ _ _ _ _ _ _ _|4,_,2,_,0,_=>exact Fb _ _ _ _ _ _ _ _|4,_,2,_,1,_=>exact Fa _ _ _ _ _ _ _ _|4,_,3,_,0,_=>exact wd _ _ _ _ _ _ _ _|4,_,3,_,1,_=>exact zA _ _ _ _ _ _ _ _|4,_,3,_,2,_=>exact zy _ _ _ _ _ _ _ _|5,_,1,_,0,_=>exact wg _ _ _ _ _ _ _ _ _ _|5,_,2,_,0,_=>exact wk _ _ _ _ _ _ _ _ _ _|5,_,2,_,1,_=>exact wj _ _ _ _ _ _ _ _ _ _|5,_,3,_,0,_=>exact wq _ _ _ _ _ _ _ _ _ _|5,_,3,_,1,_=>exact wn _ _ _ _ _ _ _ _ _ _|5,_,3,_,2,_=>exact wm _ _ _ _ _ _ _ _ _ _|5,_,4,_,0,_=>exact Zr _ _ _ _ _ _ _ _ _ _|5,_,4,_,1,_=>exact Fe _ _ _ _ _ _ _ _ _ _|5,_,4,_,2,_=>exact Fd _ _ _ _ _ _ _ _ _ _|5,_,4,_,3,_=>exact Fc _ _ _ _ _ _ _ _ _ _
def bD(f:Nat->Int):Nat->Int
 |0=>0|n+1=>bD f n+f n
theorem uu{f g:Nat->Int}:∀{n:Nat},(∀i,i<n->f i=g i)->bD f n=bD g n
 |0,_=>rfl|n+1,h=>by rw[bD,bD,uu<|λi hi=>h i<|by omega,h n<|by omega]
theorem zB{f:Nat->Int}:∀{n:Nat},(∀i,i<n->f i=0)->bD f n=0
 |0,_=>rfl|n+1,h=>by rw[bD,zB<|λi hi=>h i<|by omega,h n<|by omega];rfl
theorem B8(f g:Nat->Int):∀n:Nat,bD (λi=>f i+g i) n=bD f n+bD g n
 |0=>rfl|n+1=>by rw[bD,bD,bD,B8 f g n];omega
theorem B9(f:Nat->Int)(c:Int):∀n:Nat,bD (λi=>c*f i) n=c*bD f n
 |0=>by simp[bD]|n+1=>by rw[bD,bD,B9 f c n,Int.mul_add]
theorem Fg(f:Nat->Nat->Int)(m:Nat):∀n:Nat,bD (λi=>bD (λj=>f i j) m) n=bD (λj=>bD (λi=>f i j) n) m
 |0=>by rw[bD];exact(zB λ_ _=>rfl).symm|n+1=>by rw[bD,Fg f m n,<-B8];rfl
theorem Ca{f:Nat->Int}{k:Nat}:∀{n:Nat},k<n->(∀i,i<n->i≠k->f i=0)->bD f n=f k
 |0,h,_=>by omega|n+1,h,h0=>by rw[bD];by_cases e:k=n;subst e;rw[zB<|λi hi=>h0 i (by omega)<|by omega,Int.zero_add];rw[Ca (k:=k) (by omega)<|λi hi hk=>h0 i (by omega) hk,h0 n (by omega)<|Pa e,Int.add_zero]
def sk(k i:Nat):Nat:=if i<k then i else i+1
def cut(A:Nat->R)(k j:Nat):Nat->R:=λi l=>A (sk k i)<|sk j l
def sg(n:Nat):Int:=if n%2=0 then 1 else -1
def gp(A:Nat->R)(n k j:Nat):Int:=sg (k+j)*dt (cut A k j) (n-1)
def rep(A:Nat->R)(k:Nat)(x:R):Nat->R:=λi=>if i=k then x else A i
def dc(A:Nat->R)(c:Nat->Nat):Nat->Int
 |0=>1|1=>A 0<|c 0
 |2=>m2 (A 0) (A 1) (c 0)<|c 1
 |3=>m3 (A 0) (A 1) (A 2) (c 0) (c 1)<|c 2
 |4=>m4 (A 0) (A 1) (A 2) (A 3) (c 0) (c 1) (c 2)<|c 3
 |5=>m5 (A 0) (A 1) (A 2) (A 3) (A 4) (c 0) (c 1) (c 2) (c 3)<|c 4
 |_=>0
section
variable(a b c d e:R)(p q r s t j:Nat)
theorem Cb:m2 a b p q=a p*b q-b p*a q:=by unfold m2;grind
theorem Cc:m2 a b p q = - (a q*b p)+b q*a p:=by unfold m2;grind
theorem nD:m3 a b c p q r=a p*m2 b c q r-b p*m2 a c q r+c p*m2 a b q r:=by unfold m3 m2;grind
theorem nE:m3 a b c p q r = - (a q*m2 b c p r)+b q*m2 a c p r-c q*m2 a b p r:=by unfold m3 m2;grind
theorem nF:m3 a b c p q r=a r*m2 b c p q-b r*m2 a c p q+c r*m2 a b p q:=by unfold m3 m2;grind
theorem lO:m4 a b c d p q r s=a p*m3 b c d q r s-b p*m3 a c d q r s+c p*m3 a b d q r s-d p*m3 a b c q r s:=by unfold m4;rw[nD a b c p r s,nD a b c p q s,nD a b c p q r];unfold m3;grind
theorem lP:m4 a b c d p q r s = - (a q*m3 b c d p r s)+b q*m3 a c d p r s-c q*m3 a b d p r s+d q*m3 a b c p r s:=by unfold m4;rw[nD a b c q r s,nE a b c p q s,nE a b c p q r];unfold m3;grind
theorem lQ:m4 a b c d p q r s=a r*m3 b c d p q s-b r*m3 a c d p q s+c r*m3 a b d p q s-d r*m3 a b c p q s:=by unfold m4;rw[nE a b c q r s,nE a b c p r s,nF a b c p q r];unfold m3;grind
theorem lR:m4 a b c d p q r s = - (a s*m3 b c d p q r)+b s*m3 a c d p q r-c s*m3 a b d p q r+d s*m3 a b c p q r:=by unfold m4;rw[nF a b c q r s,nF a b c p r s,nF a b c p q s];unfold m3;grind
theorem Cd:m5 a b c d e p q r s t=a p*m4 b c d e q r s t-b p*m4 a c d e q r s t+c p*m4 a b d e q r s t-d p*m4 a b c e q r s t+e p*m4 a b c d q r s t:=by unfold m5;rw[lO a b c d p r s t,lO a b c d p q s t,lO a b c d p q r t,lO a b c d p q r s];unfold m4;grind
theorem Ce:m5 a b c d e p q r s t = - (a q*m4 b c d e p r s t)+b q*m4 a c d e p r s t-c q*m4 a b d e p r s t+d q*m4 a b c e p r s t-e q*m4 a b c d p r s t:=by unfold m5;rw[lO a b c d q r s t,lP a b c d p q s t,lP a b c d p q r t,lP a b c d p q r s];unfold m4;grind
theorem Cf:m5 a b c d e p q r s t=a r*m4 b c d e p q s t-b r*m4 a c d e p q s t+c r*m4 a b d e p q s t-d r*m4 a b c e p q s t+e r*m4 a b c d p q s t:=by unfold m5;rw[lP a b c d q r s t,lP a b c d p r s t,lQ a b c d p q r t,lQ a b c d p q r s];unfold m4;grind
theorem Cg:m5 a b c d e p q r s t = - (a s*m4 b c d e p q r t)+b s*m4 a c d e p q r t-c s*m4 a b d e p q r t+d s*m4 a b c e p q r t-e s*m4 a b c d p q r t:=by unfold m5;rw[lQ a b c d q r s t,lQ a b c d p r s t,lQ a b c d p q s t,lR a b c d p q r s];unfold m4;grind
theorem Ch:m5 a b c d e p q r s t=a t*m4 b c d e p q r s-b t*m4 a c d e p q r s+c t*m4 a b d e p q r s-d t*m4 a b c e p q r s+e t*m4 a b c d p q r s:=by unfold m5;rw[lR a b c d q r s t,lR a b c d p r s t,lR a b c d p q s t,lR a b c d p q r t];unfold m4;grind
theorem Fh:m2 a b p p=0:=by unfold m2;grind
theorem wr:m3 a b c p p r=0:=by unfold m3 m2;grind
theorem wu:m3 a b c p q p=0:=by unfold m3 m2;grind
theorem ww:m3 a b c p q q=0:=by unfold m3 m2;grind
theorem wx:m4 a b c d p p r s=0:=by unfold m4;simp only[wr];unfold m3 m2;grind
theorem wy:m4 a b c d p q p s=0:=by unfold m4;simp only[wr,wu];unfold m3 m2;grind
theorem wz:m4 a b c d p q r p=0:=by unfold m4;simp only[wu];unfold m3 m2;grind
theorem wD:m4 a b c d p q q s=0:=by unfold m4;simp only[wr,ww];unfold m3 m2;grind
theorem wE:m4 a b c d p q r q=0:=by unfold m4;simp only[wu,ww];unfold m3 m2;grind
theorem wG:m4 a b c d p q r r=0:=by unfold m4;simp only[ww];unfold m3 m2;grind
theorem Fj:m5 a b c d e p p r s t=0:=by unfold m5;simp only[wx];unfold m4 m3 m2;grind
theorem Fk:m5 a b c d e p q p s t=0:=by unfold m5;simp only[wx,wy];unfold m4 m3 m2;grind
theorem Fm:m5 a b c d e p q r p t=0:=by unfold m5;simp only[wy,wz];unfold m4 m3 m2;grind
theorem Fn:m5 a b c d e p q r s p=0:=by unfold m5;simp only[wz];unfold m4 m3 m2;grind
theorem Fo:m5 a b c d e p q q s t=0:=by unfold m5;simp only[wx,wD];unfold m4 m3 m2;grind
theorem Fq:m5 a b c d e p q r q t=0:=by unfold m5;simp only[wy,wD,wE];unfold m4 m3 m2;grind
theorem Fr:m5 a b c d e p q r s q=0:=by unfold m5;simp only[wz,wE];unfold m4 m3 m2;grind
theorem Fs:m5 a b c d e p q r r t=0:=by unfold m5;simp only[wD,wG];unfold m4 m3 m2;grind
theorem Ft:m5 a b c d e p q r s r=0:=by unfold m5;simp only[wE,wG];unfold m4 m3 m2;grind
theorem Fu:m5 a b c d e p q r s s=0:=by unfold m5;simp only[wG];unfold m4 m3 m2;grind
end
theorem wH(A:Nat->R)(x:R){n k:Nat}(hn:n<=5)(hk:k<n):bD (λj=>x j*gp A n k j) n=dt (rep A k x) n:=by
 match n,hn,k,hk with
 |1,_,0,_=>show 0+x 0*(1*1)=x 0;grind|2,_,0,_=>show 0+x 0*(1*(A 1) 1)+x 1*(-1*(A 1) 0)=m2 x (A 1) 0 1;unfold m2;grind|2,_,1,_=>show 0+x 0*(-1*(A 0) 1)+x 1*(1*(A 0) 0)=m2 (A 0) x 0 1;unfold m2;grind|3,_,0,_=>show 0+x 0*(1*m2 (A 1) (A 2) 1 2)+x 1*(-1*m2 (A 1) (A 2) 0 2)+x 2*(1*m2 (A 1) (A 2) 0 1)=m3 x (A 1) (A 2) 0 1 2;rw[kE];grind|3,_,1,_=>show 0+x 0*(-1*m2 (A 0) (A 2) 1 2)+x 1*(1*m2 (A 0) (A 2) 0 2)+x 2*(-1*m2 (A 0) (A 2) 0 1)=m3 (A 0) x (A 2) 0 1 2;rw[kF];grind|3,_,2,_=>show 0+x 0*(1*m2 (A 0) (A 1) 1 2)+x 1*(-1*m2 (A 0) (A 1) 0 2)+x 2*(1*m2 (A 0) (A 1) 0 1)=m3 (A 0) (A 1) x 0 1 2;unfold m3;grind|4,_,0,_=>show 0+x 0*(1*m3 (A 1) (A 2) (A 3) 1 2 3)+x 1*(-1*m3 (A 1) (A 2) (A 3) 0 2 3)+x 2*(1*m3 (A 1) (A 2) (A 3) 0 1 3)+x 3*(-1*m3 (A 1) (A 2) (A 3) 0 1 2)=m4 x (A 1) (A 2) (A 3) 0 1 2 3;rw[ik];grind|4,_,1,_=>show 0+x 0*(-1*m3 (A 0) (A 2) (A 3) 1 2 3)+x 1*(1*m3 (A 0) (A 2) (A 3) 0 2 3)+x 2*(-1*m3 (A 0) (A 2) (A 3) 0 1 3)+x 3*(1*m3 (A 0) (A 2) (A 3) 0 1 2)=m4 (A 0) x (A 2) (A 3) 0 1 2 3;rw[jM];grind|4,_,2,_=>show 0+x 0*(1*m3 (A 0) (A 1) (A 3) 1 2 3)+x 1*(-1*m3 (A 0) (A 1) (A 3) 0 2 3)+x 2*(1*m3 (A 0) (A 1) (A 3) 0 1 3)+x 3*(-1*m3 (A 0) (A 1) (A 3) 0 1 2)=m4 (A 0) (A 1) x (A 3) 0 1 2 3;rw[lN];grind|4,_,3,_=>show 0+x 0*(-1*m3 (A 0) (A 1) (A 2) 1 2 3)+x 1*(1*m3 (A 0) (A 1) (A 2) 0 2 3)+x 2*(-1*m3 (A 0) (A 1) (A 2) 0 1 3)+x 3*(1*m3 (A 0) (A 1) (A 2) 0 1 2)=m4 (A 0) (A 1) (A 2) x 0 1 2 3;unfold m4;grind|5,_,0,_=>show 0+x 0*(1*m4 (A 1) (A 2) (A 3) (A 4) 1 2 3 4)+x 1*(-1*m4 (A 1) (A 2) (A 3) (A 4) 0 2 3 4)+x 2*(1*m4 (A 1) (A 2) (A 3) (A 4) 0 1 3 4)+x 3*(-1*m4 (A 1) (A 2) (A 3) (A 4) 0 1 2 4)+x 4*(1*m4 (A 1) (A 2) (A 3) (A 4) 0 1 2 3)=m5 x (A 1) (A 2) (A 3) (A 4) 0 1 2 3 4;rw[kG];grind|5,_,1,_=>show 0+x 0*(-1*m4 (A 0) (A 2) (A 3) (A 4) 1 2 3 4)+x 1*(1*m4 (A 0) (A 2) (A 3) (A 4) 0 2 3 4)+x 2*(-1*m4 (A 0) (A 2) (A 3) (A 4) 0 1 3 4)+x 3*(1*m4 (A 0) (A 2) (A 3) (A 4) 0 1 2 4)+x 4*(-1*m4 (A 0) (A 2) (A 3) (A 4) 0 1 2 3)=m5 (A 0) x (A 2) (A 3) (A 4) 0 1 2 3 4;rw[tE];grind|5,_,2,_=>show 0+x 0*(1*m4 (A 0) (A 1) (A 3) (A 4) 1 2 3 4)+x 1*(-1*m4 (A 0) (A 1) (A 3) (A 4) 0 2 3 4)+x 2*(1*m4 (A 0) (A 1) (A 3) (A 4) 0 1 3 4)+x 3*(-1*m4 (A 0) (A 1) (A 3) (A 4) 0 1 2 4)+x 4*(1*m4 (A 0) (A 1) (A 3) (A 4) 0 1 2 3)=m5 (A 0) (A 1) x (A 3) (A 4) 0 1 2 3 4;rw[B5];grind|5,_,3,_=>show 0+x 0*(-1*m4 (A 0) (A 1) (A 2) (A 4) 1 2 3 4)+x 1*(1*m4 (A 0) (A 1) (A 2) (A 4) 0 2 3 4)+x 2*(-1*m4 (A 0) (A 1) (A 2) (A 4) 0 1 3 4)+x 3*(1*m4 (A 0) (A 1) (A 2) (A 4) 0 1 2 4)+x 4*(-1*m4 (A 0) (A 1) (A 2) (A 4) 0 1 2 3)=m5 (A 0) (A 1) (A 2) x (A 4) 0 1 2 3 4;rw[B6];grind|5,_,4,_=>show 0+x 0*(1*m4 (A 0) (A 1) (A 2) (A 3) 1 2 3 4)+x 1*(-1*m4 (A 0) (A 1) (A 2) (A 3) 0 2 3 4)+x 2*(1*m4 (A 0) (A 1) (A 2) (A 3) 0 1 3 4)+x 3*(-1*m4 (A 0) (A 1) (A 2) (A 3) 0 1 2 4)+x 4*(1*m4 (A 0) (A 1) (A 2) (A 3) 0 1 2 3)=m5 (A 0) (A 1) (A 2) (A 3) x 0 1 2 3 4;unfold m5;grind
theorem wI(A:Nat->R)(i:Nat){n j:Nat}(hn:n<=5)(hj:j<n):bD (λk=>A k i*gp A n k j) n=dc A (λl=>if l=j then i else l) n:=by
 match n,hn,j,hj with
 |1,_,0,_=>show 0+A 0 i*(1*1)=(A 0) i;grind|2,_,0,_=>show 0+A 0 i*(1*(A 1) 1)+A 1 i*(-1*(A 0) 1)=m2 (A 0) (A 1) i 1;rw[Cb (A 0)<|A 1];grind|2,_,1,_=>show 0+A 0 i*(-1*(A 1) 0)+A 1 i*(1*(A 0) 0)=m2 (A 0) (A 1) 0 i;rw[Cc (A 0)<|A 1];grind|3,_,0,_=>show 0+A 0 i*(1*m2 (A 1) (A 2) 1 2)+A 1 i*(-1*m2 (A 0) (A 2) 1 2)+A 2 i*(1*m2 (A 0) (A 1) 1 2)=m3 (A 0) (A 1) (A 2) i 1 2;rw[nD (A 0) (A 1)<|A 2];grind|3,_,1,_=>show 0+A 0 i*(-1*m2 (A 1) (A 2) 0 2)+A 1 i*(1*m2 (A 0) (A 2) 0 2)+A 2 i*(-1*m2 (A 0) (A 1) 0 2)=m3 (A 0) (A 1) (A 2) 0 i 2;rw[nE (A 0) (A 1)<|A 2];grind|3,_,2,_=>show 0+A 0 i*(1*m2 (A 1) (A 2) 0 1)+A 1 i*(-1*m2 (A 0) (A 2) 0 1)+A 2 i*(1*m2 (A 0) (A 1) 0 1)=m3 (A 0) (A 1) (A 2) 0 1 i;rw[nF (A 0) (A 1)<|A 2];grind|4,_,0,_=>show 0+A 0 i*(1*m3 (A 1) (A 2) (A 3) 1 2 3)+A 1 i*(-1*m3 (A 0) (A 2) (A 3) 1 2 3)+A 2 i*(1*m3 (A 0) (A 1) (A 3) 1 2 3)+A 3 i*(-1*m3 (A 0) (A 1) (A 2) 1 2 3)=m4 (A 0) (A 1) (A 2) (A 3) i 1 2 3;rw[lO (A 0) (A 1) (A 2)<|A 3];grind|4,_,1,_=>show 0+A 0 i*(-1*m3 (A 1) (A 2) (A 3) 0 2 3)+A 1 i*(1*m3 (A 0) (A 2) (A 3) 0 2 3)+A 2 i*(-1*m3 (A 0) (A 1) (A 3) 0 2 3)+A 3 i*(1*m3 (A 0) (A 1) (A 2) 0 2 3)=m4 (A 0) (A 1) (A 2) (A 3) 0 i 2 3;rw[lP (A 0) (A 1) (A 2)<|A 3];grind|4,_,2,_=>show 0+A 0 i*(1*m3 (A 1) (A 2) (A 3) 0 1 3)+A 1 i*(-1*m3 (A 0) (A 2) (A 3) 0 1 3)+A 2 i*(1*m3 (A 0) (A 1) (A 3) 0 1 3)+A 3 i*(-1*m3 (A 0) (A 1) (A 2) 0 1 3)=m4 (A 0) (A 1) (A 2) (A 3) 0 1 i 3;rw[lQ (A 0) (A 1) (A 2)<|A 3];grind|4,_,3,_=>show 0+A 0 i*(-1*m3 (A 1) (A 2) (A 3) 0 1 2)+A 1 i*(1*m3 (A 0) (A 2) (A 3) 0 1 2)+A 2 i*(-1*m3 (A 0) (A 1) (A 3) 0 1 2)+A 3 i*(1*m3 (A 0) (A 1) (A 2) 0 1 2)=m4 (A 0) (A 1) (A 2) (A 3) 0 1 2 i;rw[lR (A 0) (A 1) (A 2)<|A 3];grind|5,_,0,_=>show 0+A 0 i*(1*m4 (A 1) (A 2) (A 3) (A 4) 1 2 3 4)+A 1 i*(-1*m4 (A 0) (A 2) (A 3) (A 4) 1 2 3 4)+A 2 i*(1*m4 (A 0) (A 1) (A 3) (A 4) 1 2 3 4)+A 3 i*(-1*m4 (A 0) (A 1) (A 2) (A 4) 1 2 3 4)+A 4 i*(1*m4 (A 0) (A 1) (A 2) (A 3) 1 2 3 4)=m5 (A 0) (A 1) (A 2) (A 3) (A 4) i 1 2 3 4;rw[Cd (A 0) (A 1) (A 2) (A 3)<|A 4];grind|5,_,1,_=>show 0+A 0 i*(-1*m4 (A 1) (A 2) (A 3) (A 4) 0 2 3 4)+A 1 i*(1*m4 (A 0) (A 2) (A 3) (A 4) 0 2 3 4)+A 2 i*(-1*m4 (A 0) (A 1) (A 3) (A 4) 0 2 3 4)+A 3 i*(1*m4 (A 0) (A 1) (A 2) (A 4) 0 2 3 4)+A 4 i*(-1*m4 (A 0) (A 1) (A 2) (A 3) 0 2 3 4)=m5 (A 0) (A 1) (A 2) (A 3) (A 4) 0 i 2 3 4;rw[Ce (A 0) (A 1) (A 2) (A 3)<|A 4];grind|5,_,2,_=>show 0+A 0 i*(1*m4 (A 1) (A 2) (A 3) (A 4) 0 1 3 4)+A 1 i*(-1*m4 (A 0) (A 2) (A 3) (A 4) 0 1 3 4)+A 2 i*(1*m4 (A 0) (A 1) (A 3) (A 4) 0 1 3 4)+A 3 i*(-1*m4 (A 0) (A 1) (A 2) (A 4) 0 1 3 4)+A 4 i*(1*m4 (A 0) (A 1) (A 2) (A 3) 0 1 3 4)=m5 (A 0) (A 1) (A 2) (A 3) (A 4) 0 1 i 3 4;rw[Cf (A 0) (A 1) (A 2) (A 3)<|A 4];grind|5,_,3,_=>show 0+A 0 i*(-1*m4 (A 1) (A 2) (A 3) (A 4) 0 1 2 4)+A 1 i*(1*m4 (A 0) (A 2) (A 3) (A 4) 0 1 2 4)+A 2 i*(-1*m4 (A 0) (A 1) (A 3) (A 4) 0 1 2 4)+A 3 i*(1*m4 (A 0) (A 1) (A 2) (A 4) 0 1 2 4)+A 4 i*(-1*m4 (A 0) (A 1) (A 2) (A 3) 0 1 2 4)=m5 (A 0) (A 1) (A 2) (A 3) (A 4) 0 1 2 i 4;rw[Cg (A 0) (A 1) (A 2) (A 3)<|A 4];grind|5,_,4,_=>show 0+A 0 i*(1*m4 (A 1) (A 2) (A 3) (A 4) 0 1 2 3)+A 1 i*(-1*m4 (A 0) (A 2) (A 3) (A 4) 0 1 2 3)+A 2 i*(1*m4 (A 0) (A 1) (A 3) (A 4) 0 1 2 3)+A 3 i*(-1*m4 (A 0) (A 1) (A 2) (A 4) 0 1 2 3)+A 4 i*(1*m4 (A 0) (A 1) (A 2) (A 3) 0 1 2 3)=m5 (A 0) (A 1) (A 2) (A 3) (A 4) 0 1 2 3 i;rw[Ch (A 0) (A 1) (A 2) (A 3)<|A 4];grind
theorem Ci(A:Nat->R){n i j:Nat}(hn:n<=5)(hi:i<n)(hj:j<n)(ne:i≠j):dc A (λl=>if l=j then i else l) n=0:=by
 match n,hn,i,hi,j,hj,ne with
 |1,_,0,_,0,_,ne=>exact O5 rfl ne|2,_,0,_,0,_,ne=>exact O5 rfl ne|2,_,0,_,1,_,_=>show m2 (A 0) (A 1) 0 0=0;exact Fh _ _ _|2,_,1,_,0,_,_=>show m2 (A 0) (A 1) 1 1=0;exact Fh _ _ _|2,_,1,_,1,_,ne=>exact O5 rfl ne|3,_,0,_,0,_,ne=>exact O5 rfl ne|3,_,0,_,1,_,_=>show m3 (A 0) (A 1) (A 2) 0 0 2=0;exact wr _ _ _ _ _|3,_,0,_,2,_,_=>show m3 (A 0) (A 1) (A 2) 0 1 0=0;exact wu _ _ _ _ _|3,_,1,_,0,_,_=>show m3 (A 0) (A 1) (A 2) 1 1 2=0;exact wr _ _ _ _ _|3,_,1,_,1,_,ne=>exact O5 rfl ne|3,_,1,_,2,_,_=>show m3 (A 0) (A 1) (A 2) 0 1 1=0;exact ww _ _ _ _ _|3,_,2,_,0,_,_=>show m3 (A 0) (A 1) (A 2) 2 1 2=0;exact wu _ _ _ _ _|3,_,2,_,1,_,_=>show m3 (A 0) (A 1) (A 2) 0 2 2=0;exact ww _ _ _ _ _|3,_,2,_,2,_,ne=>exact O5 rfl ne|4,_,0,_,0,_,ne=>exact O5 rfl ne|4,_,0,_,1,_,_=>show m4 (A 0) (A 1) (A 2) (A 3) 0 0 2 3=0;exact wx _ _ _ _ _ _ _|4,_,0,_,2,_,_=>show m4 (A 0) (A 1) (A 2) (A 3) 0 1 0 3=0;exact wy _ _ _ _ _ _ _|4,_,0,_,3,_,_=>show m4 (A 0) (A 1) (A 2) (A 3) 0 1 2 0=0;exact wz _ _ _ _ _ _ _|4,_,1,_,0,_,_=>show m4 (A 0) (A 1) (A 2) (A 3) 1 1 2 3=0;exact wx _ _ _ _ _ _ _|4,_,1,_,1,_,ne=>exact O5 rfl ne|4,_,1,_,2,_,_=>show m4 (A 0) (A 1) (A 2) (A 3) 0 1 1 3=0;exact wD _ _ _ _ _ _ _|4,_,1,_,3,_,_=>show m4 (A 0) (A 1) (A 2) (A 3) 0 1 2 1=0;exact wE _ _ _ _ _ _ _|4,_,2,_,0,_,_=>show m4 (A 0) (A 1) (A 2) (A 3) 2 1 2 3=0;exact wy _ _ _ _ _ _ _|4,_,2,_,1,_,_=>show m4 (A 0) (A 1) (A 2) (A 3) 0 2 2 3=0;exact wD _ _ _ _ _ _ _|4,_,2,_,2,_,ne=>exact O5 rfl ne|4,_,2,_,3,_,_=>show m4 (A 0) (A 1) (A 2) (A 3) 0 1 2 2=0;exact wG _ _ _ _ _ _ _|4,_,3,_,0,_,_=>show m4 (A 0) (A 1) (A 2) (A 3) 3 1 2 3=0;exact wz _ _ _ _ _ _ _|4,_,3,_,1,_,_=>show m4 (A 0) (A 1) (A 2) (A 3) 0 3 2 3=0;exact wE _ _ _ _ _ _ _|4,_,3,_,2,_,_=>show m4 (A 0) (A 1) (A 2) (A 3) 0 1 3 3=0;exact wG _ _ _ _ _ _ _|4,_,3,_,3,_,ne=>exact O5 rfl ne|5,_,0,_,0,_,ne=>exact O5 rfl ne|5,_,0,_,1,_,_=>show m5 (A 0) (A 1) (A 2) (A 3) (A 4) 0 0 2 3 4=0;exact Fj _ _ _ _ _ _ _ _ _|5,_,0,_,2,_,_=>show m5 (A 0) (A 1) (A 2) (A 3) (A 4) 0 1 0 3 4=0;exact Fk _ _ _ _ _ _ _ _ _|5,_,0,_,3,_,_=>show m5 (A 0) (A 1) (A 2) (A 3) (A 4) 0 1 2 0 4=0;exact Fm _ _ _ _ _ _ _ _ _|5,_,0,_,4,_,_=>show m5 (A 0) (A 1) (A 2) (A 3) (A 4) 0 1 2 3 0=0;exact Fn _ _ _ _ _ _ _ _ _|5,_,1,_,0,_,_=>show m5 (A 0) (A 1) (A 2) (A 3) (A 4) 1 1 2 3 4=0;exact Fj _ _ _ _ _ _ _ _ _|5,_,1,_,1,_,ne=>exact O5 rfl ne|5,_,1,_,2,_,_=>show m5 (A 0) (A 1) (A 2) (A 3) (A 4) 0 1 1 3 4=0;exact Fo _ _ _ _ _ _ _ _ _|5,_,1,_,3,_,_=>show m5 (A 0) (A 1) (A 2) (A 3) (A 4) 0 1 2 1 4=0;exact Fq _ _ _ _ _ _ _ _ _|5,_,1,_,4,_,_=>show m5 (A 0) (A 1) (A 2) (A 3) (A 4) 0 1 2 3 1=0;exact Fr _ _ _ _ _ _ _ _ _|5,_,2,_,0,_,_=>show m5 (A 0) (A 1) (A 2) (A 3) (A 4) 2 1 2 3 4=0;exact Fk _ _ _ _ _ _ _ _ _|5,_,2,_,1,_,_=>show m5 (A 0) (A 1) (A 2) (A 3) (A 4) 0 2 2 3 4=0;exact Fo _ _ _ _ _ _ _ _ _|5,_,2,_,2,_,ne=>exact O5 rfl ne|5,_,2,_,3,_,_=>show m5 (A 0) (A 1) (A 2) (A 3) (A 4) 0 1 2 2 4=0;exact Fs _ _ _ _ _ _ _ _ _|5,_,2,_,4,_,_=>show m5 (A 0) (A 1) (A 2) (A 3) (A 4) 0 1 2 3 2=0;exact Ft _ _ _ _ _ _ _ _ _|5,_,3,_,0,_,_=>show m5 (A 0) (A 1) (A 2) (A 3) (A 4) 3 1 2 3 4=0;exact Fm _ _ _ _ _ _ _ _ _|5,_,3,_,1,_,_=>show m5 (A 0) (A 1) (A 2) (A 3) (A 4) 0 3 2 3 4=0;exact Fq _ _ _ _ _ _ _ _ _|5,_,3,_,2,_,_=>show m5 (A 0) (A 1) (A 2) (A 3) (A 4) 0 1 3 3 4=0;exact Fs _ _ _ _ _ _ _ _ _|5,_,3,_,3,_,ne=>exact O5 rfl ne|5,_,3,_,4,_,_=>show m5 (A 0) (A 1) (A 2) (A 3) (A 4) 0 1 2 3 3=0;exact Fu _ _ _ _ _ _ _ _ _|5,_,4,_,0,_,_=>show m5 (A 0) (A 1) (A 2) (A 3) (A 4) 4 1 2 3 4=0;exact Fn _ _ _ _ _ _ _ _ _|5,_,4,_,1,_,_=>show m5 (A 0) (A 1) (A 2) (A 3) (A 4) 0 4 2 3 4=0;exact Fr _ _ _ _ _ _ _ _ _|5,_,4,_,2,_,_=>show m5 (A 0) (A 1) (A 2) (A 3) (A 4) 0 1 4 3 4=0;exact Ft _ _ _ _ _ _ _ _ _|5,_,4,_,3,_,_=>show m5 (A 0) (A 1) (A 2) (A 3) (A 4) 0 1 2 4 4=0;exact Fu _ _ _ _ _ _ _ _ _|5,_,4,_,4,_,ne=>exact O5 rfl ne
theorem Ko(A:Nat->R)(k:Nat):rep A k (A k)=A:=by funext i;unfold rep;split;rename_i h;rw[h];rfl
theorem wJ(A:Nat->R){n i k:Nat}(hn:n<=5)(hi:i<n)(hk:k<n)(ne:i≠k):dt (rep A k<|A i) n=0:=by
 have e:∀x y,(x=i/\y=k)\/(x=k/\y=i)->sw (rep A k<|A i) x y=rep A k (A i):=λx y h=>by
  funext l;unfold sw rep;rcases h with⟨rfl,rfl⟩|⟨rfl,rfl⟩
  by_cases h1:l=x;subst h1;simp[ne];by_cases h2:l=y;subst h2;simp[h1,ne];simp[h1,h2];by_cases h1:l=x;subst h1;simp[ne];by_cases h2:l=y;subst h2;simp[h1];simp[h1,h2]
 rcases Nat.lt_or_gt_of_ne ne with h|h
 have:=B7 (rep A k<|A i) hn h hk;rw[e _ _<|.inl ⟨rfl,rfl⟩]at this;omega;have:=B7 (rep A k<|A i) hn h hi;rw[e _ _<|.inr ⟨rfl,rfl⟩]at this;omega
theorem wK(A:Nat->R){n:Nat}(hn:n<=5):dc A (λl=>l) n=dt A n:=by
 match n,hn with
 |0,_=>rfl|1,_=>rfl|2,_=>rfl|3,_=>rfl|4,_=>rfl|5,_=>rfl
theorem Cj(A:Nat->R){n i k:Nat}(hn:n<=5)(hi:i<n)(hk:k<n):bD (λj=>A i j*gp A n k j) n=if i=k then dt A n else 0:=by rw[wH A (A i) hn hk];split;rename_i h;rw[h,Ko];rename_i h;exact wJ A hn hi hk h
theorem wO(A:Nat->R){n i j:Nat}(hn:n<=5)(hi:i<n)(hj:j<n):bD (λk=>A k i*gp A n k j) n=if i=j then dt A n else 0:=by rw[wI A i hn hj];split;rename_i h;subst h;rw[show(λl=>if l=i then i else l)=(λl=>l) from by funext l;split<;>omega];exact wK A hn;rename_i h;exact Ci A hn hi hj h
theorem Kp(A:Nat->R){n:Nat}(hn:n<=5){w:Nat->Int}(h:∀i,i<n->bD (λj=>A i j*w j) n=0){j:Nat}(hj:j<n):dt A n*w j=0:=by
 have e:bD (λk=>gp A n k j*bD (λl=>A k l*w l) n) n=dt A n*w j:=by
  rw[uu (g:=λk=>bD (λl=>gp A n k j*(A k l*w l)) n)<|λk _=>(B9 _ _ n).symm,Fg];rw [uu (g:=λl=>w l*bD (λk=>A k l*gp A n k j) n) (λl _=>by
   rw[<-B9];exact uu λk _=>by rw[n4<|w l,<-Int.mul_assoc,n4<|gp A n k j])]
  rw[Ca (k:=j) hj<|λi hi ne=>by rw[wO A hn hi hj,if_neg ne,yU],wO A hn hj hj,if_pos rfl,n4]
 rw[<-e];exact zB λk hk=>by rw[h k hk,yU]
end Dt
end LP
namespace LP
open PySem PySem.Spec PyProof.Rows L2
variable{n b p k i j n1 m:Nat}{dx od an:Option Addr}{K:O3}{vs us:List V}{e c tg elt target iter:Expr}{H H1 H2 H0:Hp}{a f fa:Addr}{o:HO}{σ:L2.St}{X:Cx}{EX:XK}{pos p2 pos' spos apos cpos np:Pos}{x qual name:Str}{op:CmpOp}{es ifs:List Expr}{t:List (List Int)}{T:String}{fd:FuncData}{ps L:List Str}{pins:List (Addr×Obj)}{s:List Int}{lo hi:Option Int}{st:Stmt}{sc:Scope}{body:List Stmt}{P:Program}{mg:Str->Option Value}{base h:Heap}{q:Rat}{r row piv:List Rat}{l:PySem.W.OpenLaw}{A:Nat->R}{ld rs:List (List Rat)}{osl sl:Array (Option Value)}{XP:(Str->Option Value)->Heap->Prop}{YP:World->Heap->Prop}
set_option genInjectivity true in
inductive D where
 |non|bl (b:Bool)|int (i:Int)|str (x:Str)|tup (xs:List D)|lst (xs:List D)|dic|pen|cls (n:Str)|exc (n:Str)|ty (n:String)|scr (xs:List D)
variable{ds xs ys:List D}{d y:D}{v:Except Str D}{xss:List (List D)}{Q:D->Prop}{g:List D->(D->Prop)->Prop}{Q' QL:List D->Prop}
structure Wd where
 G:Hp
 Pn:Addr->Prop
variable{W1 W2 W0:Wd}
def KT(K:O3)(a:Addr)(vs:List V):Prop:=
 ∃(o:Obj) (its:Array Value) (n:Nat),K.lookup a=some o/\o.cls=.type "tuple" /\o.data=.seq its n/\its.size<=sizeLine/\Vals vs its.toList
def iN(K:O3)(n:Str):Option Addr:=match PySem.W.nsIn K mainGlobals n with|some (some<|.ref a)=>some a|_=>none
def xtab:List (Str×Str×Str×Int):=[("NotStrong1", "NotStrong", "size",1),("NotStrong2", "NotStrong", "size",2),("NotStrong3", "NotStrong", "size",3),("NotStrong4", "NotStrong", "size",4),("NotStrong5", "NotStrong", "size",5),("NoText0", "NoText", "row",0),("NoText1", "NoText", "row",1),("NoText2", "NoText", "row",2),("NoText3", "NoText", "row",3),("NoText4", "NoText", "row",4),("NoText5", "NoText", "row",5),("NoText6", "NoText", "row",6),("NoText7", "NoText", "row",7),("NoText8", "NoText", "row",8),("NoText9", "NoText", "row",9),("NoText10", "NoText", "row",10),("NoText11", "NoText", "row",11),("NoText12", "NoText", "row",12),("NoText13", "NoText", "row",13),("NoText14", "NoText", "row",14),("NoText15", "NoText", "row",15)]
def eG(n:Str):Option (Str×Str×Int):=(xtab.find? λr=>r.1==n).map (·.2)
def gG(n:Str):Str:=match eG n with|some r=>r.1|none=>n
def qC(C a:Addr)(dx:Option Addr):HO:=.ext λh=>∃oe,h.get? a=some oe/\oe.cls=.ref C/\PySem.W.notCls oe=true/\oe.dict=dx/\∃vs,oe.data=.fields vs
def XD(W:Wd)(n:Str)(dx:Option Addr):Prop:=∀c f k,eG n=some (c,f,k)->∃d,dx=some d/\W.G d=some (.xd [(f,.int k)])
theorem XD.none{W:Wd}{n:Str}(h:eG n=none):XD W n dx:=λc f k e=>by rw[h]at e;cases e
theorem XD.mono{W W':Wd}{n:Str}(g:∀a o,W.G a=some o->W'.G a=some o)(h:XD W n dx):XD W' n dx:=λc f k e=>let⟨d,e1,e2⟩:=h c f k e;⟨d,e1,g _ _ e2⟩
theorem Kq{n:Str}(h:eG n=none):gG n=n:=by unfold gG;rw[h]
def KL(K:O3)(a:Addr)(vs:List V):Prop:=
 ∃(o:Obj) (its:Array Value) (n:Nat),K.lookup a=some o/\o.cls=.type "list" /\o.dict=none/\o.data=.seq its n/\its.size<=sizeLine/\Vals vs its.toList
mutual
inductive Rep (K:O3) (W:Wd):V->D->Prop
 |non:Rep K W .non .non
 |bl (b:Bool):Rep K W (.bl b) (.bl b)
 |int (i:Int):Rep K W (.int i) (.int i)
 |str (x:Str):Rep K W (.str x) (.str x)
 |tup {a:Addr} {vs:List V} {ds:List D}:W.G a=some (.tup vs)->Reps K W vs ds->Rep K W (.ref a) (.tup ds)
 |ktup {a:Addr} {vs:List V} {ds:List D}:KT K a vs->Reps K W vs ds->Rep K W (.ref a) (.tup ds)
 |lst {a:Addr} {vs:List V} {ds:List D}:W.G a=some (.lst vs)->Reps K W vs ds->Rep K W (.ref a) (.lst ds)
 |scr {a:Addr} {vs:List V} {ds:List D}:((∃o,W.G a=some (.frz o<|.lst vs))\/KL K a vs)->Reps K W vs ds->Rep K W (.ref a) (.scr ds)
 |dic {a:Addr}:W.G a=some (.dK [])->Rep K W (.ref a) .dic
 |pen {a:Addr}:W.Pn a->Rep K W (.ref a) .pen
 |cls {a:Addr} {n:Str}:iN K n=some a->Rep K W (.ref a) (.cls n)
 |exc {a C:Addr} {n:Str} {dx:Option Addr}:W.G a=some (qC C a dx)->iN K (gG n)=some C->XD W n dx->Rep K W (.ref a) (.exc n)
 |ty (n:String):Rep K W (.ty n) (.ty n)
inductive Reps (K:O3) (W:Wd):List V->List D->Prop
 |nil:Reps K W [] []
 |cons {v:V} {d:D} {vs:List V} {ds:List D}:Rep K W v d->Reps K W vs ds->Reps K W (v::vs) (d::ds)
end
section
variable{W W':Wd}
mutual
theorem Rep.mono(g:∀a o,W.G a=some o->W'.G a=some o)(p:∀a,W.Pn a->W'.Pn a):∀{v:V} {d:D},Rep K W v d->Rep K W' v d
 |_,_,.non=>.non|_,_,.bl b=>.bl b|_,_,.int i=>.int i|_,_,.str x=>.str x|_,_,.tup e r=>.tup (g _ _ e)<|Reps.mono g p r
 |_,_,.ktup e r=>.ktup e<|Reps.mono g p r
 |_,_,.lst e r=>.lst (g _ _ e)<|Reps.mono g p r
 |_,_,.scr e r=>.scr (e.elim (λ⟨o,z⟩=>.inl ⟨o,g _ _ z⟩) .inr)<|Reps.mono g p r
 |_,_,.dic e=>.dic<|g _ _ e
 |_,_,.pen e=>.pen<|p _ e
 |_,_,.cls e=>.cls e|_,_,.exc e h x=>.exc (g _ _ e) h<|x.mono g
 |_,_,.ty n=>.ty n
theorem Reps.mono(g:∀a o,W.G a=some o->W'.G a=some o)(p:∀a,W.Pn a->W'.Pn a):∀{vs:List V} {ds:List D},Reps K W vs ds->Reps K W' vs ds
 |_,_,.nil=>.nil|_,_,.cons r t=>.cons (Rep.mono g p r)<|Reps.mono g p t
end
theorem Reps.length:∀{vs:List V} {ds:List D},Reps K W vs ds->vs.length=ds.length
 |_,_,.nil=>rfl|_,_,.cons _ t=>by simp[Reps.length t]
theorem Reps.get:∀{vs:List V} {ds:List D} {i:Nat} {d:D},Reps K W vs ds->ds[i]? = some d->∃v,vs[i]? = some v/\Rep K W v d
 |_,_,_,_,.nil,e=>by simp at e|_,_,0,_,.cons r _,e=>by simp at e;subst e;exact⟨_,rfl,r⟩|_,_,i+1,d,.cons _ t,e=>by obtain⟨u,h1,h2⟩:=Reps.get (i:=i) (d:=d) t (by simpa using e);exact⟨u,by simpa using h1,h2⟩
theorem Reps.append:∀{vs us:List V} {ds es:List D},Reps K W vs ds->Reps K W us es->Reps K W (vs++us) (ds++es)
 |_,_,_,_,.nil,s=>s|_,_,_,_,.cons r t,s=>.cons r<|Reps.append t s
theorem Reps.take:∀{vs:List V} {ds:List D} (n:Nat),Reps K W vs ds->Reps K W (vs.take n) (ds.take n)
 |_,_,0,_=>.nil|_,_,_+1,.nil=>.nil|_,_,n+1,.cons r t=>.cons r<|Reps.take n t
theorem Reps.drop:∀{vs:List V} {ds:List D} (n:Nat),Reps K W vs ds->Reps K W (vs.drop n) (ds.drop n)
 |_,_,0,r=>r|_,_,_+1,.nil=>.nil|_,_,n+1,.cons _ t=>Reps.drop n t
theorem Reps.set{v:V}{d:D}(r:Rep K W v d):∀{vs:List V} {ds:List D} (i:Nat),Reps K W vs ds->Reps K W (vs.set i v) (ds.set i d)
 |_,_,_,.nil=>.nil|_,_,0,.cons _ t=>.cons r t|_,_,i+1,.cons q t=>.cons q<|Reps.set r i t
theorem Reps.rev(r:Reps K W vs ds):Reps K W vs.reverse ds.reverse:=by
 induction vs generalizing ds with
 |nil=>cases r;exact .nil
 |cons v vs ih=>cases r with|cons r t=>rw[yT,yT];exact(ih t).append<|.cons r .nil
theorem Reps.one(r:Reps K W us [d]):∃v,us=[v]/\Rep K W v d:=by cases r with|cons r t=>cases t;exact⟨_,rfl,r⟩
theorem Reps.two{e:D}(r:Reps K W us [d,e]):∃v u,us=[v,u]/\Rep K W v d/\Rep K W u e:=by cases r with|cons r t=>cases t with|cons r' t=>cases t;exact⟨_,_,rfl,r,r'⟩
end
def Zpe(H:Hp)(a:Addr):Prop:=∃i j k:Int,H a=some (.lst [.int i,.int j,.int k])
structure WOk(W:Wd)(H:Hp):Prop where
 g:∀a o,W.G a=some o->H a=some o
 p:∀a,W.Pn a->Zpe H a/\W.G a=none
structure Ext(W:Wd)(H:Hp)(W':Wd)(H':Hp):Prop where
 ok:WOk W' H'
 g:∀a o,W.G a=some o->W'.G a=some o
 p:∀a,W.Pn a->W'.Pn a
 gf:∀a,W.G a=none->W'.G a≠none->H a=none
 pf:∀a,¬W.Pn a->W'.Pn a->H a=none
 h:∀a o,H a=some o->¬W.Pn a->H' a=some o
section
variable{W:Wd}
theorem Ext.refl(ok:WOk W H):Ext W H W H:=⟨ok,λ_ _ e=>e,λ_ e=>e,λ_ e n=>O5 e n,λ_ n e=>O5 e n,λ_ _ e _=>e⟩
theorem Zpe.ne(p:Zpe H a):H a≠none:=by obtain⟨_,_,_,e⟩:=p;rw[e];simp
theorem Ext.isN(x:Ext W H W1 H1)(h:H1 a=none):H a=none:=by
 cases q:H a with
 |none=>rfl
 |some o=>
  by_cases hp:W.Pn a;exact O5 h<|(x.ok.p a<|x.p a hp).1.ne
  rw[x.h a o q hp]at h;cases h
theorem Ext.trans(x:Ext W H W1 H1)(y:Ext W1 H1 W2 H2):Ext W H W2 H2 where
 ok:=y.ok
 g:=λa o e=>y.g a o<|x.g a o e
 p:=λa e=>y.p a<|x.p a e
 gf:=λa e n=>by
  cases q:W1.G a with
  |none=>exact x.isN<|y.gf a q n
  |some o=>exact x.gf a e (by rw[q];simp)
 pf:=λa e n=>by by_cases q:W1.Pn a;exact x.pf a e q;exact x.isN<|y.pf a q n
 h:=λa o e n=>y.h a o (x.h a o e n) λq=>by have:=x.pf a n q;rw[e]at this;cases this
theorem Ext.rep(x:Ext W H W1 H1){v:V}(r:Rep K W v d):Rep K W1 v d:=r.mono x.g x.p
theorem Ext.reps(x:Ext W H W1 H1){v:List V}{d:List D}(r:Reps K W v d):Reps K W1 v d:=r.mono x.g x.p
def Wd.put(W:Wd)(a:Addr)(o:HO):Wd:=⟨upd W.G a o,W.Pn⟩
theorem Ext.put{a:Addr}{o:HO}(ok:WOk W H)(h:H a=none):Ext W H (W.put a o) (upd H a o) where
 ok:=⟨λb u e=>by
   unfold Wd.put at e;dsimp only at e
   by_cases hb:b=a
   .subst hb;rw[aN]at e ⊢;exact e
   .rw[aJ hb]at e ⊢;exact ok.g b u e,
  λb hb=>by
   have⟨p1,p2⟩:=ok.p b hb;have hne:b≠a:=λz=>p1.ne (by rw[z];exact h);refine⟨?_,by unfold Wd.put;dsimp only;rw[aJ hne];exact p2⟩;obtain⟨i,j,k,e⟩:=p1;exact⟨i,j,k,by rw[aJ hne];exact e⟩⟩
 g:=λb u e=>by
  have:b≠a:=λz=>by have:=ok.g b u e;rw[z,h]at this;cases this
  unfold Wd.put;dsimp only;rw[aJ this];exact e
 p:=λb e=>e
 gf:=λb e n=>by by_cases hb:b=a;rw[hb];exact h;unfold Wd.put at n;dsimp only at n;rw[aJ hb]at n;exact O5 e n
 pf:=λb n e=>O5 e n
 h:=λb u e _=>by
  have:b≠a:=λz=>by rw[z,h]at e;cases e
  rw[aJ this];exact e
theorem Ext.new(ok:WOk W H)(h:H a=none):Ext W H W (upd H a o) where
 ok:=⟨λb u e=>by
   have q:=ok.g b u e;have:b≠a:=λz=>by rw[z,h]at q;cases q
   rw[aJ this];exact q,
  λb hb=>by
   have⟨p1,p2⟩:=ok.p b hb;have hne:b≠a:=λz=>p1.ne (by rw[z];exact h);obtain⟨i,j,k,e⟩:=p1;exact⟨⟨i,j,k,by rw[aJ hne];exact e⟩,p2⟩⟩
 g:=λ_ _ e=>e
 p:=λ_ e=>e
 gf:=λ_ e n=>O5 e n
 pf:=λ_ n e=>O5 e n
 h:=λb u e _=>by
  have:b≠a:=λz=>by rw[z,h]at e;cases e
  rw[aJ this];exact e
theorem WOk.fresh(ok:WOk W H)(h:H a=none):W.G a=none/\¬W.Pn a:=by
 refine⟨?_,λp=>(ok.p a p).1.ne h⟩;cases q:W.G a with
 |none=>rfl|some o=>have:=ok.g a o q;rw[h]at this;cases this
theorem Ext.pub(x:Ext W H W1 H1)(h:H a=none)(e:H1 a=some o)(n:¬W1.Pn a)(ng:W1.G a=none):Ext W H (W1.put a o) H1 where
 ok:=⟨λb u q=>by
   unfold Wd.put at q
   by_cases hb:b=a
   .subst hb;dsimp only at q;rw[aN]at q;cases q;exact e
   .dsimp only at q;rw[aJ hb]at q;exact x.ok.g b u q,
  λb hb=>by
   have⟨p1,p2⟩:=x.ok.p b hb;have hne:b≠a:=λz=>n (by rw[<-z];exact hb);exact⟨p1,by unfold Wd.put;dsimp only;rw[aJ hne];exact p2⟩⟩
 g:=λb u q=>by
  have q1:=x.g b u q;have:b≠a:=λz=>by rw[z,ng]at q1;cases q1
  unfold Wd.put;dsimp only;rw[aJ this];exact q1
 p:=x.p
 gf:=λb q m=>by by_cases hb:b=a;rw[hb];exact h;unfold Wd.put at m;dsimp only at m;rw[aJ hb]at m;exact x.gf b q m
 pf:=x.pf
 h:=x.h
theorem qD(ng:W.G a=none):∀b u,W.G b=some u->(W.put a o).G b=some u:=λb u q=>by
 have:b≠a:=λz=>by rw[z,ng]at q;cases q
 unfold Wd.put;dsimp only;rw[aJ this];exact q
theorem Ext.chg{o':HO}(x:Ext W H W1 H1)(h:H a=none)(e:H1 a=some o)(n:¬W1.Pn a)(ng:W1.G a=none):Ext W H W1 (upd H1 a o') where
 ok:=⟨λb u q=>by
   have:b≠a:=λz=>by rw[z,ng]at q;cases q
   rw[aJ this];exact x.ok.g b u q,
  λb hb=>by
   have⟨p1,p2⟩:=x.ok.p b hb;have hne:b≠a:=λz=>n (by rw[<-z];exact hb);obtain⟨i,j,k,e⟩:=p1;exact⟨⟨i,j,k,by rw[aJ hne];exact e⟩,p2⟩⟩
 g:=x.g
 p:=x.p
 gf:=x.gf
 pf:=x.pf
 h:=λb u q m=>by
  have:b≠a:=λz=>by rw[z,h]at q;cases q
  rw[aJ this];exact x.h b u q m
end
inductive SV where
 |un|d (x:D)|ow (xs:List D)|oo (xss:List (List D))
abbrev cX:=List SV
variable{ρ ρ':cX}
def Own1(K:O3)(H0:Hp)(W:Wd)(H:Hp)(b:Addr)(xs:List D):Prop:=∃vs,H b=some (HO.lst vs)/\W.G b=none/\¬W.Pn b/\H0 b=none/\Reps K W vs xs
structure OwnT(K:O3)(H0:Hp)(W:Wd)(H:Hp)(a:Addr)(bs:List Addr)(xss:List (List D)):Prop where
 a1:H a=some (HO.lst<|bs.map V.ref)
 a2:W.G a=none
 a3:¬W.Pn a
 a4:H0 a=none
 nd:(a::bs).Nodup
 len:bs.length=xss.length
 row:∀(i:Nat) b,bs[i]? = some b->∃xs,xss[i]? = some xs/\Own1 K H0 W H b xs
structure OOs(K:O3)(H0:Hp)(W:Wd)(σ:L2.St)(H:Hp)(ρ:cX):Prop where
 t:∀(i:Nat) xss,ρ[i]? = some (SV.oo xss)->∃a bs,σ[i]? = some (some<|V.ref a)/\OwnT K H0 W H a bs xss/\∀(j:Nat) ys c,ρ[j]? = some (SV.ow ys)->σ[j]? = some (some<|V.ref c)->c∉a::bs
 u:∀(i j:Nat) xss yss,ρ[i]? = some (SV.oo xss)->ρ[j]? = some (SV.oo yss)->i=j
structure SOk(K:O3)(W0:Wd)(H0:Hp)(W:Wd)(σ:L2.St)(H:Hp)(ρ:cX):Prop where
 ext:Ext W0 H0 W H
 len:ρ.length=σ.length
 d:∀(i:Nat) x,ρ[i]? = some (SV.d x)->∃v:V,σ[i]? = some (some v)/\Rep K W v x
 o:∀(i:Nat) xs,ρ[i]? = some (SV.ow xs)->∃a vs,σ[i]? = some (some<|V.ref a)/\H a=some (HO.lst vs)/\W.G a=none/\¬W.Pn a/\H0 a=none/\Reps K W vs xs
 ne:∀(i j:Nat) xs ys a,i≠j->ρ[i]? = some (SV.ow xs)->ρ[j]? = some (SV.ow ys)->σ[i]? = some (some<|V.ref a)->σ[j]?≠some (some<|V.ref a)
 oo:OOs K H0 W σ H ρ
section
variable{W:Wd}
theorem SOk.ok(s:SOk K W0 H0 W σ H ρ):WOk W H:=s.ext.ok
theorem Own1.step{b:Addr}(o:Own1 K H0 W H b xs)(x:Ext W H W1 H1):Own1 K H0 W1 H1 b xs:=by
 obtain⟨vs,e2,e3,e4,e5,r⟩:=o;refine⟨vs,x.h b _ e2 e4,?_,λq=>?_,e5,x.reps r⟩;cases q:W1.G b with
 |none=>rfl|some o=>have:=x.gf b e3 (by rw[q];simp);rw[e2]at this;cases this
 have:=x.pf b e4 q;rw[e2]at this;cases this
theorem OwnT.step{a:Addr}{bs:List Addr}{xss:List (List D)}(o:OwnT K H0 W H a bs xss)(x:Ext W H W1 H1):OwnT K H0 W1 H1 a bs xss:=by
 refine⟨x.h a _ o.a1 o.a3,?_,λq=>?_,o.a4,o.nd,o.len,λi b e=>let⟨xs,e1,q⟩:=o.row i b e;⟨xs,e1,q.step x⟩⟩;cases q:W1.G a with
 |none=>rfl|some u=>have:=x.gf a o.a2 (by rw[q];simp);rw[o.a1]at this;cases this
 have:=x.pf a o.a3 q;rw[o.a1]at this;cases this
theorem OwnT.here{c:Addr}{bs:List Addr}(o:OwnT K H0 W H a bs xss)(h:H c=none):c∉a::bs:=λq=>by
 rcases Yao.mp q with rfl|q
 rw[o.a1]at h;cases h;obtain⟨i,hi,rfl⟩:=YbA.mp q;obtain⟨xs,_,vs,e,_⟩:=o.row i _<|cA hi;rw[e]at h;cases h
theorem OwnT.noPen{c:Addr}{bs:List Addr}(o:OwnT K H0 W H a bs xss)(h:W.Pn c):c∉a::bs:=λq=>by
 rcases Yao.mp q with rfl|q
 exact o.a3 h;obtain⟨i,hi,rfl⟩:=YbA.mp q;obtain⟨xs,_,vs,_,_,e,_⟩:=o.row i _<|cA hi;exact e h
theorem OwnT.upd{a c:Addr}{o':HO}{bs:List Addr}{xss:List (List D)}(o:OwnT K H0 W H a bs xss)(h:c∉a::bs):OwnT K H0 W (upd H c o') a bs xss:=by have ha:a≠c:=λz=>h (by rw[z];simp);refine⟨by rw[aJ ha];exact o.a1,o.a2,o.a3,o.a4,o.nd,o.len,λi b e=>?_⟩;obtain⟨xs,e1,vs,q⟩:=o.row i b e;have hb:b≠c:=λz=>h (by rw[<-z];exact jr _<|jz e);exact⟨xs,e1,vs,by rw[aJ hb];exact q⟩
theorem OwnT.put{a c:Addr}{o':HO}{bs:List Addr}{xss:List (List D)}(o:OwnT K H0 W H a bs xss)(h:c∉a::bs)(hc:W.G c=none):OwnT K H0 (W.put c o') H a bs xss:=by have ha:a≠c:=λz=>h (by rw[z];simp);refine⟨o.a1,by unfold Wd.put;dsimp only;rw[aJ ha];exact o.a2,o.a3,o.a4,o.nd,o.len,λi b e=>?_⟩;obtain⟨xs,e1,vs,q1,q2,q3,q4,q5⟩:=o.row i b e;have hb:b≠c:=λz=>h (by rw[<-z];exact jr _<|jz e);exact⟨xs,e1,vs,q1,by unfold Wd.put;dsimp only;rw[aJ hb];exact q2,q3,q4,q5.mono (qD hc) λ_ z=>z⟩
theorem OOs.none(h:∀(i:Nat) xss,ρ[i]?≠some (SV.oo xss)):OOs K H0 W σ H ρ:=⟨λi xss e=>O5 e<|h i xss,λi j xss yss e=>O5 e<|h i xss⟩
theorem OOs.step(o:OOs K H0 W σ H ρ)(x:Ext W H W1 H1):OOs K H0 W1 σ H1 ρ:=⟨λi xss e=>let⟨a,bs,e1,q,n⟩:=o.t i xss e;⟨a,bs,e1,q.step x,n⟩,o.u⟩
theorem OOs.set{σ':L2.St}(o:OOs K H0 W σ H ρ){i:Nat}{y:SV}(hy:∀xss,y≠.oo xss)(hσ:∀j,i≠j->σ'[j]? = σ[j]?)(hw:∀ys c,y=.ow ys->σ'[i]? = some (some<|V.ref c)->∀(j:Nat) xss a bs,i≠j->ρ[j]? = some (SV.oo xss)->σ[j]? = some (some<|V.ref a)->OwnT K H0 W H a bs xss->(∀(j:Nat) ys c,ρ[j]? = some (SV.ow ys)->σ[j]? = some (some<|V.ref c)->c∉a::bs)->c∉a::bs):OOs K H0 W σ' H (ρ.set i y):=by
 have nt:∀{j:Nat} {xss:List (List D)},(ρ.set i y)[j]? = some (SV.oo xss)->i≠j/\ρ[j]? = some (SV.oo xss):=λ{j xss} e=>by
  by_cases h:i=j;subst h;by_cases hi:i<ρ.length;rw[fb hi]at e;cases e;exact O5 rfl<|hy xss
  rw[eL (by rw[dI];omega)]at e;cases e;rw[eK h]at e;exact⟨h,e⟩
 refine⟨λj xss e=>?_,λj k xss yss e1 e2=>o.u j k xss yss (nt e1).2 (nt e2).2⟩;obtain⟨h,e'⟩:=nt e;clear e;obtain⟨a,bs,e1,q,n⟩:=o.t j xss e';refine⟨a,bs,by rw[hσ j h];exact e1,q,λk ys c ek ec=>?_⟩;by_cases hk:i=k;subst hk;by_cases hi:i<ρ.length;rw[fb hi]at ek;cases ek;exact hw ys c rfl ec j xss a bs h e' e1 q n;rw[eL (by rw[dI];omega)]at ek;cases ek;rw[eK hk]at ek;rw[hσ k hk]at ec;exact n k ys c ek ec
theorem SOk.step(s:SOk K W0 H0 W σ H ρ)(x:Ext W H W1 H1):SOk K W0 H0 W1 σ H1 ρ where
 ext:=s.ext.trans x
 len:=s.len
 d:=λi y e=>let⟨v,e1,r⟩:=s.d i y e;⟨v,e1,x.rep r⟩
 o:=λi ys e=>by
  obtain⟨a,vs,e1,e2,e3,e4,e5,r⟩:=s.o i ys e;refine⟨a,vs,e1,x.h a _ e2 e4,?_,λq=>?_,e5,x.reps r⟩;cases q:W1.G a with
  |none=>rfl|some o=>have:=x.gf a e3 (by rw[q];simp);rw[e2]at this;cases this
  have:=x.pf a e4 q;rw[e2]at this;cases this
 ne:=s.ne
 oo:=s.oo.step x
end
abbrev Ex:=Str
def uv(K:O3)(W:Wd)(_:Hp)(cls:Value)(dx:Option Addr)(ex:Ex):Prop:=∃C,iN K (gG ex)=some C/\cls=.ref C/\XD W ex dx
def jN(K:O3)(W0:Wd)(H0:Hp)(E:Ex->Prop)(EX:XK):Prop:=∀ex W' H' cls dx,E ex->Ext W0 H0 W' H'->uv K W' H' cls dx ex->EX cls dx H'
abbrev WE:=(Ex->Prop)->cX->(D->Prop)->Prop
variable{wa wb wc w we wv wo:WE}
abbrev WT:=(Ex->Prop)->cX->(Bool->Prop)->Prop
variable{w' wt wf:WT}
abbrev WA:=(Ex->Prop)->cX->(List D->Prop)->Prop
variable{wi:WA}
def RQ(K:O3)(W:Wd)(H:Hp)(Q:VK)(d:D):Prop:=∀v W' H',Ext W H W' H'->Rep K W' v d->Q v H'
structure PX(X:Cx)(EX:XK)(e:Expr)(w:WE):Prop where
 t:∃t,PE X e t/\∀W0 H0 W σ H ρ E Q,SOk X.K W0 H0 W σ H ρ->jN X.K W0 H0 E EX->w E ρ (RQ X.K W H Q)->t σ H Q
 mono:∀E ρ P P',(∀d,P d->P' d)->w E ρ P->w E ρ P'
structure jO(X:Cx)(EX:XK)(e:Expr)(w:WT):Prop where
 t:∃t,PT X e t/\∀W0 H0 W σ H ρ E Q,SOk X.K W0 H0 W σ H ρ->jN X.K W0 H0 E EX->w E ρ (λb=>∀W' H',Ext W H W' H'->Q b H')->t σ H Q
 mono:∀E ρ P P',(∀d,P d->P' d)->w E ρ P->w E ρ P'
structure jh(X:Cx)(EX:XK)(es:List Expr)(w:WA):Prop where
 t:∃t,PA X es t/\∀W0 H0 W σ H ρ E Q,SOk X.K W0 H0 W σ H ρ->jN X.K W0 H0 E EX->w E ρ (λds=>∀vs W' H',Ext W H W' H'->Reps X.K W' vs ds->Q vs H')->t σ H Q
 mono:∀E ρ P P',(∀d,P d->P' d)->w E ρ P->w E ρ P'
structure PXL(X:Cx)(EX:XK)(e:Expr)(w:WA):Prop where
 t:∃t,PE X e t/\∀W0 H0 W σ H ρ E Q,SOk X.K W0 H0 W σ H ρ->jN X.K W0 H0 E EX->
  w E ρ (λds=>∀a vs W' H',Ext W H W' H'->H' a=some (.lst vs)->W'.G a=none->¬W'.Pn a->H a=none->Reps X.K W' vs ds->Q (.ref a) H')->t σ H Q
 mono:∀E ρ P P',(∀d,P d->P' d)->w E ρ P->w E ρ P'
structure Nds where
 nx:cX->Prop
 rt:D->Prop
 bk:cX->Prop:=λ_=>False
 ct:cX->Prop:=λ_=>False
variable{N:Nds}
structure Wle(F W:Wd):Prop where
 g:∀a o,F.G a=some o->W.G a=some o
 p:∀a,F.Pn a->W.Pn a
theorem Wle.refl(F:Wd):Wle F F:=⟨λ_ _ e=>e,λ_ e=>e⟩
theorem Wle.trans{F W V:Wd}(a:Wle F W)(b:Wle W V):Wle F V:=⟨λx o e=>b.g x o<|a.g x o e,λx e=>b.p x<|a.p x e⟩
theorem Wle.ext{F W:Wd}(a:Wle F W)(x:Ext W H W1 H1):Wle F W1:=a.trans ⟨x.g,x.p⟩
structure Ck(K:O3)(W0:Wd)(H0:Hp)(F:Wd)(Dn:ke)(N:Nds):Prop where
 nx:∀W σ H ρ,SOk K W0 H0 W σ H ρ->Wle F W->N.nx ρ->Dn.nx σ H
 rt:∀d v W H,Ext W0 H0 W H->Rep K W v d->N.rt d->Dn.rt v H
 bk:∀W σ H ρ,SOk K W0 H0 W σ H ρ->Wle F W->N.bk ρ->Dn.bk σ H
 ct:∀W σ H ρ,SOk K W0 H0 W σ H ρ->Wle F W->N.ct ρ->Dn.ct σ H
structure Nds.le(N N':Nds):Prop where
 nx:∀ρ,N.nx ρ->N'.nx ρ
 rt:∀d,N.rt d->N'.rt d
 bk:∀ρ,N.bk ρ->N'.bk ρ
 ct:∀ρ,N.ct ρ->N'.ct ρ
abbrev WS:=(Ex->Prop)->Nds->cX->Prop
variable{z z' zb:WS}
structure PZ(X:Cx)(EX:XK)(st:Stmt)(z:WS):Prop where
 t:∃t,PS X st t/\∀W0 H0 F W σ H ρ E Dn N,SOk X.K W0 H0 W σ H ρ->Wle F W->jN X.K W0 H0 E EX->Ck X.K W0 H0 F Dn N->z E N ρ->t Dn σ H
 mono:∀E ρ N N',N.le N'->z E N ρ->z E N' ρ
structure jt(X:Cx)(EX:XK)(st:List Stmt)(z:WS):Prop where
 t:∃t,mq X st t/\∀W0 H0 F W σ H ρ E Dn N,SOk X.K W0 H0 W σ H ρ->Wle F W->jN X.K W0 H0 E EX->Ck X.K W0 H0 F Dn N->z E N ρ->t Dn σ H
 mono:∀E ρ N N',N.le N'->z E N ρ->z E N' ρ
section
variable{W:Wd}{Q:VK}
theorem RQ.ext(h:RQ K W H Q d)(x:Ext W H W1 H1):RQ K W1 H1 Q d:=λv W' H' y r=>h v W' H' (x.trans y) r
theorem RQ.now(h:RQ K W H Q d)(ok:WOk W H){v:V}(r:Rep K W v d):Q v H:=h v W H (.refl ok) r
theorem RQ.tup{vs:List V}{ds:List D}(h:RQ K W H Q (.tup ds))(ok:WOk W H)(r:Reps K W vs ds){p:Addr}(hp:H p=none):Q (.ref p) (upd H p<|.tup vs):=by have x:=Ext.put (o:=.tup vs) ok hp;exact h _ _ _ x<|.tup (by unfold Wd.put;dsimp only;rw[aN]) (x.reps r)
theorem RQ.lst{vs:List V}{ds:List D}(h:RQ K W H Q (.lst ds))(ok:WOk W H)(r:Reps K W vs ds){p:Addr}(hp:H p=none):Q (.ref p) (upd H p<|.lst vs):=by have x:=Ext.put (o:=.lst vs) ok hp;exact h _ _ _ x<|.lst (by unfold Wd.put;dsimp only;rw[aN]) (x.reps r)
theorem Rep.sqt{a:V}(r:Rep K W a (.tup ds))(ok:WOk W H):∃p vs,a=.ref p/\SqT K H p vs/\Reps K W vs ds:=by
 cases r with
 |tup e r=>exact⟨_,_,rfl,.inl<|.inl<|ok.g _ _ e,r⟩|ktup e r=>exact⟨_,_,rfl,.inr e,r⟩
theorem Rep.sql{a:V}(r:Rep K W a (.lst ds))(ok:WOk W H):∃p vs,a=.ref p/\SqL K H p vs/\Reps K W vs ds:=by
 cases r with
 |lst e r=>exact⟨_,_,rfl,.inl<|.inl<|ok.g _ _ e,r⟩
theorem Rep.sqs{a:V}(r:Rep K W a (.scr ds))(ok:WOk W H):∃p vs,a=.ref p/\SqL K H p vs/\Reps K W vs ds:=by
 cases r with
 |scr e r=>exact⟨_,_,rfl,e.elim (λ⟨o,e⟩=>.inl<|.inr ⟨o,ok.g _ _ e⟩) .inr,r⟩
end
section
def wN(i:Nat):WE:=λ_ ρ Q=>match ρ[i]? with|some (.d x)=>Q x|_=>False
theorem aD(i:Nat)(hN:X.N[i]? = some x:=by rfl)(hv:kX X.env.scope x:=by first|exact Or.inl rfl|exact Or.inr (Or.inl rfl)|exact Or.inr<|Or.inr rfl)(hd:(x==("__debug__" : Str))=false:=by decide)
  (hcd:(x==("__classdict__" : Str))=false:=by decide):PX X EX (.Name x pos) (wN i):=by
 refine⟨⟨_,df hN hv hd hcd,λW0 H0 W σ H ρ E Q s _ h=>?_⟩,λE ρ P P' hp h=>?_⟩
 .unfold wN at h
  split at h
  .rename_i x e
   obtain⟨v,e1,r⟩:=s.d i x e;exact⟨v,e1,h.now s.ok r⟩
  .exact h.elim
 .unfold wN at h ⊢
  split at h
  .exact hp _ h
  .exact h.elim
def wC(d:D):WE:=λ_ _ Q=>Q d
theorem wC.mono:∀(E:Ex->Prop) ρ P P',(∀d,P d->P' d)->wC d E ρ P->wC d E ρ P':=λ_ _ _ _ hp h=>hp _ h
theorem aK{i j}:PX X EX (.Constant (.int i) j pos) (wC<|.int i):=⟨⟨_,kf,λ_ _ _ _ _ _ _ _ s _ h=>RQ.now h s.ok<|.int i⟩,wC.mono⟩
theorem f8{b j}:PX X EX (.Constant (.bool b) j pos) (wC<|.bl b):=⟨⟨_,vg,λ_ _ _ _ _ _ _ _ s _ h=>RQ.now h s.ok<|.bl b⟩,wC.mono⟩
theorem j3{j}:PX X EX (.Constant .none j pos) (wC .non):=⟨⟨_,su,λ_ _ _ _ _ _ _ _ s _ h=>RQ.now h s.ok .non⟩,wC.mono⟩
theorem Zc{x j}:PX X EX (.Constant (.str x) j pos) (wC<|.str x):=⟨⟨_,sx,λ_ _ _ _ _ _ _ _ s _ h=>RQ.now h s.ok<|.str x⟩,wC.mono⟩
theorem Cm{v:V}{u:Value}(hm:X.mg x=some u)(r:RelV v u)(rd:∀W,Rep X.K W v d)(hg:Gl X x:=by rfl)(hd:(x==("__debug__" : Str))=false:=by decide):PX X EX (.Name x pos) (wC d):=
 ⟨⟨_,qf hg hm r hd,λ_ _ _ _ _ _ _ _ s _ h=>RQ.now h s.ok<|rd _⟩,wC.mono⟩
theorem Zq{v:V}{u:Value}(hm:X.mg x=none)(hv:bootBuiltins x=some u)(r:RelV v u)(rd:∀W,Rep X.K W v d)(hg:Gl X x:=by rfl)(hn:x≠ "__name__" :=by decide)(hd:(x==("__debug__" : Str))=false:=by decide):PX X EX (.Name x pos) (wC d):=
 ⟨⟨_,qg hg hm hv r hn hd,λ_ _ _ _ _ _ _ _ s _ h=>RQ.now h s.ok<|rd _⟩,wC.mono⟩
end
abbrev G2:=D->D->(D->Prop)->Prop
structure gq(X:Cx)(f:Value->Value->Sem Value)(g:G2):Prop where
 t:∃r,OpR X f r/\∀W H x y dx dy Q,WOk W H->Rep X.K W x dx->Rep X.K W y dy->g dx dy (RQ X.K W H Q)->r x y H Q
 mono:∀x y P P',(∀d,P d->P' d)->g x y P->g x y P'
section
variable{a b:Expr}
def w2(g:G2)(wa wb:WE):WE:=λE ρ Q=>wa E ρ λx=>wb E ρ λy=>g x y Q
theorem w2.mono{g:G2}(ha:PX X EX a wa)(hb:PX X EX b wb)(hg:∀x y P P',(∀d,P d->P' d)->g x y P->g x y P'):∀E ρ P P',(∀d,P d->P' d)->w2 g wa wb E ρ P->w2 g wa wb E ρ P':=
 λE ρ P P' hp h=>ha.mono E ρ _ _ (λx hx=>hb.mono E ρ _ _ (λy hy=>hg x y _ _ hp hy) hx) h
theorem lS{ta tb:TE}{R:V->V->Hp->Prop}{G:D->D->Prop}{W:Wd}{E:Ex->Prop}(hma:∀E ρ P P',(∀d,P d->P' d)->wa E ρ P->wa E ρ P')(hmb:∀E ρ P P',(∀d,P d->P' d)->wb E ρ P->wb E ρ P')
  (ka:∀W0 H0 W σ H ρ E Q,SOk X.K W0 H0 W σ H ρ->jN X.K W0 H0 E EX->wa E ρ (RQ X.K W H Q)->ta σ H Q) (kb:∀W0 H0 W σ H ρ E Q,SOk X.K W0 H0 W σ H ρ->jN X.K W0 H0 E EX->wb E ρ (RQ X.K W H Q)->tb σ H Q)
  (s:SOk X.K W0 H0 W σ H ρ) (eo:jN X.K W0 H0 E EX) (h:wa E ρ λx=>wb E ρ λy=>G x y)
  (k:∀W2 H2 x y dx dy,Ext W H W2 H2->Rep X.K W2 x dx->Rep X.K W2 y dy->G dx dy->R x y H2):ta σ H λx H1=>tb σ H1 λy H2=>R x y H2:=
 ka W0 H0 W σ H ρ E _ s eo (hma E ρ _ _ (λdx hx v W1 H1 x1 r1=>kb W0 H0 W1 σ H1 ρ E _ (s.step x1) eo<|hmb E ρ _ _ (λdy hy u W2 H2 x2 r2=>k W2 H2 v u dx dy (x1.trans x2) (x2.rep r1) r2 hy) hx) h)
theorem aW{op:Operator}{g:G2}(ho:gq X (binaryOp op) g)(ha:PX X EX a wa)(hb:PX X EX b wb):PX X EX (.BinOp a op b pos) (w2 g wa wb):=by obtain⟨ta,pa,ka⟩:=ha.t;obtain⟨tb,pb,kb⟩:=hb.t;obtain⟨r,pr,kr⟩:=ho.t;refine⟨⟨_,mV pr pa pb,λW0 H0 W σ H ρ E Q s eo h=>?_⟩,w2.mono ha hb ho.mono⟩;exact lS ha.mono hb.mono ka kb s eo h λW2 H2 x y dx dy x2 rx ry hg=>kr W2 H2 x y dx dy Q x2.ok rx ry<|ho.mono _ _ _ _ (λd hd=>RQ.ext hd x2) hg
theorem lT{g:G2}(ho:gq X (compareOp op) g)(ha:PX X EX a wa)(hb:PX X EX b wb)(hm:behindInMarks op b=false:=by first|exact mX _|with_unfolding_all rfl):PX X EX (.Compare a [op] [b] pos) (w2 g wa wb):=by obtain⟨ta,pa,ka⟩:=ha.t;obtain⟨tb,pb,kb⟩:=hb.t;obtain⟨r,pr,kr⟩:=ho.t;refine⟨⟨_,qs pr pa pb hm,λW0 H0 W σ H ρ E Q s eo h=>?_⟩,w2.mono ha hb ho.mono⟩;exact lS ha.mono hb.mono ka kb s eo h λW2 H2 x y dx dy x2 rx ry hg=>kr W2 H2 x y dx dy Q x2.ok rx ry<|ho.mono _ _ _ _ (λd hd=>RQ.ext hd x2) hg
def isB(Q:Bool->Prop):D->Prop
 |.bl b=>Q b|_=>False
theorem isB.mono{Q Q':Bool->Prop}(h:∀b,Q b->Q' b):∀d,isB Q d->isB Q' d
 |.bl b,z=>h b z|.non,z=>z|.int _,z=>z|.str _,z=>z|.tup _,z=>z|.lst _,z=>z|.dic,z=>z|.pen,z=>z|.cls _,z=>z|.exc _,z=>z|.ty _,z=>z|.scr _,z=>z
def wT(w:WE):WT:=λE ρ Q=>w E ρ<|isB Q
theorem tF{Q:Bool->Prop}(h:isB Q d):∃b,d=.bl b/\Q b:=by
 cases d with
 |bl b=>exact⟨b,rfl,h⟩|_=>exact h.elim
theorem wT.mono{w:WE}(h:∀E ρ P P',(∀d,P d->P' d)->w E ρ P->w E ρ P'):∀E ρ P P',(∀d,P d->P' d)->wT w E ρ P->wT w E ρ P':=λE ρ _ _ hp z=>h E ρ _ _ (isB.mono hp) z
theorem dw{g:G2}(ho:gq X (compareOp op) g)(ha:PX X EX a wa)(hb:PX X EX b wb)(hm:behindInMarks op b=false:=by first|exact mX _|with_unfolding_all rfl):jO X EX (.Compare a [op] [b] pos) (wT<|w2 g wa wb):=by obtain⟨ta,pa,ka⟩:=ha.t;obtain⟨tb,pb,kb⟩:=hb.t;obtain⟨r,pr,kr⟩:=ho.t;refine⟨⟨_,qt pr pa pb hm,λW0 H0 W σ H ρ E Q s eo h=>?_⟩,wT.mono<|w2.mono ha hb ho.mono⟩;refine lS ha.mono hb.mono ka kb s eo h λW2 H2 x y dx dy x2 rx ry hg=>kr W2 H2 x y dx dy _ x2.ok rx ry<|ho.mono _ _ _ _ (λd hd v W' H' x' r'=>?_) hg;obtain⟨b,rfl,q⟩:=tF hd;cases r';exact⟨b,rfl,q W' H'<|x2.trans x'⟩
theorem hU(ha:PX X EX a wa)(he:∀whole,isTrue a X.env whole=(do let v <-whole;standAt a.pos;holding [v] (truthy v)):=by intro _;rfl):jO X EX a (wT wa):=by obtain⟨ta,pa,ka⟩:=ha.t;refine⟨⟨_,m7 pa he,λW0 H0 W σ H ρ E Q s eo h=>?_⟩,wT.mono ha.mono⟩;refine ka W0 H0 W σ H ρ E _ s eo<|ha.mono _ _ _ _ (λd hd v W' H' x' r'=>?_) h;obtain⟨b,rfl,q⟩:=tF hd;cases r';exact⟨b,rfl,q W' H' x'⟩
def bV(w:WT):WT:=λE ρ Q=>w E ρ λb=>Q (!b)
theorem im{w:WT}(ha:jO X EX a w):jO X EX (.UnaryOp .Not a pos) (bV w):=by obtain⟨ta,pa,ka⟩:=ha.t;refine⟨⟨_,sD pa,λW0 H0 W σ H ρ E Q s eo h=>?_⟩,λE ρ P P' hp h=>ha.mono _ _ _ _ (λb hb=>hp _ hb) h⟩;exact ka W0 H0 W σ H ρ E _ s eo h
structure PXW(X:Cx)(EX:XK)(e:Expr)(w:WT):Prop where
 t:∃t,PW X e t/\∀W0 H0 W σ H ρ E Q,SOk X.K W0 H0 W σ H ρ->jN X.K W0 H0 E EX->w E ρ (λb=>∀W' H',Ext W H W' H'->Q b H')->t σ H Q
 mono:∀E ρ P P',(∀d,P d->P' d)->w E ρ P->w E ρ P'
theorem PXW.pxt{w:WT}(h:PXW X EX a w):jO X EX a w:=let⟨t,p,k⟩:=h.t;⟨⟨t,p.pt,k⟩,h.mono⟩
variable{rest:List Expr}
def fc(w w':WT):WT:=λE ρ Q=>w E ρ λb=>if b=true then w' E ρ Q else Q false
def fA(w w':WT):WT:=λE ρ Q=>w E ρ λb=>if b=true then Q true else w' E ρ Q
theorem Fv{w:WT}(ha:jO X EX a w):PXW X EX (.BoolOp .And [a] pos) w:=let⟨t,p,k⟩:=ha.t;⟨⟨t,qh p,k⟩,ha.mono⟩
theorem ms{w:WT}(ha:jO X EX a w):PXW X EX (.BoolOp .Or [a] pos) w:=let⟨t,p,k⟩:=ha.t;⟨⟨t,sB p,k⟩,ha.mono⟩
theorem Fw{w:WT}(ha:jO X EX a w)(hb:PXW X EX (.BoolOp .And (b::rest) pos) w'):PXW X EX (.BoolOp .And (a::b::rest) pos) (fc w w'):=by
 obtain⟨ta,pa,ka⟩:=ha.t;obtain⟨tb,pb,kb⟩:=hb.t;refine⟨⟨_,sC pa pb,λW0 H0 W σ H ρ E Q s eo h=>?_⟩,λE ρ P P' hp h=>ha.mono _ _ _ _ (λb hb'=>?_) h⟩;refine ka W0 H0 W σ H ρ E _ s eo (ha.mono _ _ _ _ (λb hb' W1 H1 x1=>?_) h);cases b with
 |true=>rw[if_pos rfl]at hb' ⊢;exact kb W0 H0 W1 σ H1 ρ E _ (s.step x1) eo<|hb.mono _ _ _ _ (λb hq W' H' x'=>hq W' H'<|x1.trans x') hb'
 |false=>rw[if_neg<|by decide]at hb' ⊢;exact hb' W1 H1 x1
 cases b with
 |true=>rw[if_pos rfl]at hb' ⊢;exact hb.mono _ _ _ _ hp hb'|false=>rw[if_neg<|by decide]at hb' ⊢;exact hp _ hb'
theorem li{w:WT}(ha:jO X EX a w)(hb:PXW X EX (.BoolOp .Or (b::rest) pos) w'):PXW X EX (.BoolOp .Or (a::b::rest) pos) (fA w w'):=by
 obtain⟨ta,pa,ka⟩:=ha.t;obtain⟨tb,pb,kb⟩:=hb.t;refine⟨⟨_,vh pa pb,λW0 H0 W σ H ρ E Q s eo h=>?_⟩,λE ρ P P' hp h=>ha.mono _ _ _ _ (λb hb'=>?_) h⟩;refine ka W0 H0 W σ H ρ E _ s eo (ha.mono _ _ _ _ (λb hb' W1 H1 x1=>?_) h);cases b with
 |true=>rw[if_pos rfl]at hb' ⊢;exact hb' W1 H1 x1|false=>rw[if_neg<|by decide]at hb' ⊢;exact kb W0 H0 W1 σ H1 ρ E _ (s.step x1) eo<|hb.mono _ _ _ _ (λb hq W' H' x'=>hq W' H'<|x1.trans x') hb'
 cases b with
 |true=>rw[if_pos rfl]at hb' ⊢;exact hp _ hb'|false=>rw[if_neg<|by decide]at hb' ⊢;exact hb.mono _ _ _ _ hp hb'
end
section
variable{p:Pos}{a b:Expr}{rest:List Expr}
def gS(wa wb:WE):WE:=λE ρ Q=>wa E ρ (isB λb=>if b=true then wb E ρ Q else Q (.bl false))
def gu(wa wb:WE):WE:=λE ρ Q=>wa E ρ (isB λb=>if b=true then Q (.bl true) else wb E ρ Q)
def kH(wa:WE):WE:=λE ρ Q=>wa E ρ<|isB λb=>Q (.bl (!b))
theorem qE{op}(h:PX X EX a wa):PX X EX (.BoolOp op [a] pos) wa:=let⟨t,q,k⟩:=h.t;⟨⟨t,sE q,k⟩,h.mono⟩
theorem qF(ha:PX X EX a wa)(hb:PX X EX (.BoolOp .And (b::rest) pos) wb):PX X EX (.BoolOp .And (a::b::rest) pos) (gS wa wb):=by
 obtain⟨ta,pa,ka⟩:=ha.t;obtain⟨tb,pb,kb⟩:=hb.t;refine⟨⟨_,sF pa pb,λW0 H0 W σ H ρ E Q s eo h=>?_⟩,λE ρ P P' hp h=>ha.mono _ _ _ _ (isB.mono λb hb'=>?_) h⟩;refine ka W0 H0 W σ H ρ E _ s eo (ha.mono _ _ _ _ (λd hd v W1 H1 x1 r1=>?_) h);obtain⟨b,rfl,q⟩:=tF hd;cases r1;refine⟨b,rfl,?_⟩;cases b with
 |true=>rw[if_pos rfl]at q ⊢;exact kb W0 H0 W1 σ H1 ρ E _ (s.step x1) eo<|hb.mono _ _ _ _ (λd hd=>RQ.ext hd x1) q
 |false=>rw[if_neg<|by decide]at q ⊢;exact q _ W1 H1 x1<|.bl false
 cases b with
 |true=>rw[if_pos rfl]at hb' ⊢;exact hb.mono _ _ _ _ hp hb'|false=>rw[if_neg<|by decide]at hb' ⊢;exact hp _ hb'
theorem Fx(ha:PX X EX a wa):PX X EX (.UnaryOp .Not a pos) (kH wa):=by obtain⟨ta,pa,ka⟩:=ha.t;refine⟨⟨_,sG pa,λW0 H0 W σ H ρ E Q s eo h=>?_⟩,λE ρ P P' hp h=>ha.mono _ _ _ _ (isB.mono λb hb'=>hp _ hb') h⟩;refine ka W0 H0 W σ H ρ E _ s eo<|ha.mono _ _ _ _ (λd hd v W1 H1 x1 r1=>?_) h;obtain⟨b,rfl,q⟩:=tF hd;cases r1;exact⟨b,rfl,q _ W1 H1 x1<|.bl _⟩
def kI(wt:WT)(wa wb:WE):WE:=λE ρ Q=>wt E ρ λb=>if b=true then wa E ρ Q else wb E ρ Q
theorem Fy(hc:jO X EX c wt)(ha:PX X EX a wa)(hb:PX X EX b wb):PX X EX (.IfExp c a b pos) (kI wt wa wb):=by
 obtain⟨ta,pa,ka⟩:=ha.t;obtain⟨tb,pb,kb⟩:=hb.t;obtain⟨tc,pc,kc⟩:=hc.t;refine⟨⟨_,mQ pc pa pb,λW0 H0 W σ H ρ E Q s eo h=>?_⟩,λE ρ P P' hp h=>hc.mono _ _ _ _ (λb hb'=>?_) h⟩;refine kc W0 H0 W σ H ρ E _ s eo (hc.mono _ _ _ _ (λb q W1 H1 x1=>?_) h);cases b with
 |true=>rw[if_pos rfl]at q ⊢;exact ka W0 H0 W1 σ H1 ρ E _ (s.step x1) eo<|ha.mono _ _ _ _ (λd hd=>RQ.ext hd x1) q
 |false=>rw[if_neg<|by decide]at q ⊢;exact kb W0 H0 W1 σ H1 ρ E _ (s.step x1) eo<|hb.mono _ _ _ _ (λd hd=>RQ.ext hd x1) q
 cases b with
 |true=>rw[if_pos rfl]at hb' ⊢;exact ha.mono _ _ _ _ hp hb'|false=>rw[if_neg<|by decide]at hb' ⊢;exact hb.mono _ _ _ _ hp hb'
def Zbw(g g':G2)(wa wb wc:WE):WE:=λE ρ Q=>wa E ρ λx=>wb E ρ λy=>g x y (isB λk=>if k=true then wc E ρ λz=>g' y z Q else Q (.bl false))
theorem Zbw.mono{g g':G2}(ha:PX X EX a wa)(hb:PX X EX b wb)(hc:PX X EX c wc)(hg:∀x y P P',(∀d,P d->P' d)->g x y P->g x y P')(hg':∀x y P P',(∀d,P d->P' d)->g' x y P->g' x y P') :
  ∀E ρ P P',(∀d,P d->P' d)->Zbw g g' wa wb wc E ρ P->Zbw g g' wa wb wc E ρ P':=λE ρ P P' hp h=>
 ha.mono _ _ _ _ (λx hx=>hb.mono _ _ _ _ (λy hy=>hg x y _ _ (isB.mono λk hk=>by
  cases k with
  |true=>rw[if_pos rfl]at hk ⊢;exact hc.mono _ _ _ _ (λz hz=>hg' y z _ _ hp hz) hk
  |false=>rw[if_neg<|by decide]at hk ⊢;exact hp _ hk) hy) hx) h
theorem Fz{op':CmpOp}{g g':G2}(ho:gq X (compareOp op) g)(ho':gq X (compareOp op') g')(ha:PX X EX a wa)(hb:PX X EX b wb)(hc:PX X EX c wc)
  (hm:lastMarks [op,op'] [b,c]=false:=by with_unfolding_all rfl):PX X EX (.Compare a [op,op'] [b,c] pos) (Zbw g g' wa wb wc):=by
 obtain⟨ta,pa,ka⟩:=ha.t;obtain⟨tb,pb,kb⟩:=hb.t;obtain⟨tc,pc,kc⟩:=hc.t;obtain⟨r,pr,kr⟩:=ho.t;obtain⟨r',pr',kr'⟩:=ho'.t;refine⟨⟨_,mZ pr pr' pa pb pc hm,λW0 H0 W σ H ρ E Q s eo h=>?_⟩,Zbw.mono ha hb hc ho.mono ho'.mono⟩;refine lS ha.mono hb.mono ka kb s eo h λW2 H2 x y dx dy x2 rx ry hg=>kr W2 H2 x y dx dy _ x2.ok rx ry<|ho.mono _ _ _ _ (λd hd v W3 H3 x3 r3=>?_) hg;obtain⟨k,rfl,q⟩:=tF hd;cases r3;refine⟨k,rfl,?_⟩;cases k with
 |true=>
  rw[if_pos rfl]at q ⊢;refine kc W0 H0 W3 σ H3 ρ E _ (s.step<|x2.trans x3) eo<|hc.mono _ _ _ _ (λdz hz w W4 H4 x4 r4=>?_) q;exact kr' W4 H4 y w dy dz Q x4.ok (x4.rep<|x3.rep ry) r4<|ho'.mono _ _ _ _ (λd hd=>RQ.ext hd<|x2.trans<|x3.trans x4) hz
 |false=>rw[if_neg<|by decide]at q ⊢;exact q _ W3 H3 (x2.trans x3)<|.bl false
theorem Kr{op':CmpOp}{g g':G2}(ho:gq X (compareOp op) g)(ho':gq X (compareOp op') g')(ha:PX X EX a wa)(hb:PX X EX b wb)(hc:PX X EX c wc)
  (hm:lastMarks [op,op'] [b,c]=false:=by with_unfolding_all rfl):jO X EX (.Compare a [op,op'] [b,c] pos) (wT<|Zbw g g' wa wb wc):=by
 obtain⟨ta,pa,ka⟩:=ha.t;obtain⟨tb,pb,kb⟩:=hb.t;obtain⟨tc,pc,kc⟩:=hc.t;obtain⟨r,pr,kr⟩:=ho.t;obtain⟨r',pr',kr'⟩:=ho'.t;refine⟨⟨_,m6 pr pr' pa pb pc hm,λW0 H0 W σ H ρ E Q s eo h=>?_⟩,wT.mono<|Zbw.mono ha hb hc ho.mono ho'.mono⟩;refine lS ha.mono hb.mono ka kb s eo h λW2 H2 x y dx dy x2 rx ry hg=>kr W2 H2 x y dx dy _ x2.ok rx ry<|ho.mono _ _ _ _ (λd hd v W3 H3 x3 r3=>?_) hg;obtain⟨k,rfl,q⟩:=tF hd;cases r3;refine⟨k,rfl,?_⟩;cases k with
 |true=>
  rw[if_pos rfl]at q ⊢;refine kc W0 H0 W3 σ H3 ρ E _ (s.step<|x2.trans x3) eo<|hc.mono _ _ _ _ (λdz hz w W4 H4 x4 r4=>?_) q;refine kr' W4 H4 y w dy dz _ x4.ok (x4.rep<|x3.rep ry) r4<|ho'.mono _ _ _ _ (λd hd v5 W5 H5 x5 r5=>?_) hz;obtain⟨b,rfl,q'⟩:=tF hd;cases r5;exact⟨b,rfl,q' W5 H5<|x2.trans<|x3.trans<|x4.trans x5⟩
 |false=>rw[if_neg<|by decide]at q ⊢;exact⟨false,rfl,q W3 H3<|x2.trans x3⟩
def aA:WA:=λ_ _ Q=>Q []
def aC(w:WE)(t:WA):WA:=λE ρ Q=>w E ρ λx=>t E ρ λxs=>Q (x::xs)
theorem aH:jh X EX [] aA:=⟨⟨_,ky,λ_ _ W _ H _ _ _ s _ h=>h [] W H (.refl s.ok) .nil⟩,λ_ _ _ _ hp h=>hp _ h⟩
theorem Za{t:WA}(ha:PX X EX e w)(hr:jh X EX es t)(hs:starEach (e::es) X.env=(false,eval e X.env)::starEach es X.env:=by rfl):jh X EX (e::es) (aC w t):=by obtain⟨ta,pa,ka⟩:=ha.t;obtain⟨tr,pr,kr⟩:=hr.t;refine⟨⟨_,i7 pa pr hs,λW0 H0 W σ H ρ E Q s eo h=>?_⟩,λE ρ P P' hp h=>ha.mono _ _ _ _ (λd hd=>hr.mono _ _ _ _ (λds hds=>hp _ hds) hd) h⟩;refine ka W0 H0 W σ H ρ E _ s eo<|ha.mono _ _ _ _ (λd hd v W1 H1 x1 r1=>?_) h;exact kr W0 H0 W1 σ H1 ρ E _ (s.step x1) eo<|hr.mono _ _ _ _ (λds hds vs W2 H2 x2 r2=>hds _ W2 H2 (x1.trans x2)<|.cons (x2.rep r1) r2) hd
def aO:Nat:=10000
theorem oj(h:n<=aO):n<=sizeLine:=hX h (by rw[sizeLine_eq];decide)
def bA(t:WA):WE:=λE ρ Q=>t E ρ λxs=>xs.length<=aO/\Q (.tup xs)
def bG(t:WA):WA:=λE ρ Q=>t E ρ λxs=>xs.length<=aO/\Q xs
theorem db{t:WA}{x1}(h:jh X EX es t):PX X EX (.Tuple es x1 pos) (bA t):=by obtain⟨ta,pa,ka⟩:=h.t;refine⟨⟨_,sY pa,λW0 H0 W σ H ρ E Q s eo hw=>?_⟩,λE ρ P P' hp z=>h.mono _ _ _ _ (λds hds=>⟨hds.1,hp _ hds.2⟩) z⟩;refine ka W0 H0 W σ H ρ E _ s eo<|h.mono _ _ _ _ (λds hds vs W1 H1 x1 r1=>?_) hw;refine⟨by rw[r1.length];exact oj hds.1,λq hq=>?_⟩;exact(RQ.ext hds.2 x1).tup x1.ok r1 hq
theorem fe{t:WA}(h:jh X EX es t):PXL X EX (.List es pos) (bG t):=by obtain⟨ta,pa,ka⟩:=h.t;refine⟨⟨_,sZ pa,λW0 H0 W σ H ρ E Q s eo hw=>?_⟩,λE ρ P P' hp z=>h.mono _ _ _ _ (λds hds=>⟨hds.1,hp _ hds.2⟩) z⟩;refine ka W0 H0 W σ H ρ E _ s eo<|h.mono _ _ _ _ (λds hds vs W1 H1 x1 r1=>?_) hw;refine⟨by rw[r1.length];exact oj hds.1,λq hq=>?_⟩;exact hds.2 q vs W1 _ (x1.trans<|.new x1.ok hq) aN (x1.ok.fresh hq).1 (x1.ok.fresh hq).2 (x1.isN hq) r1
def wL(t:WA):WE:=λE ρ Q=>t E ρ λds=>Q<|.lst ds
theorem PXL.px{t:WA}(h:PXL X EX e t):PX X EX e (wL t):=by obtain⟨ta,pa,ka⟩:=h.t;refine⟨⟨_,pa,λW0 H0 W σ H ρ E Q s eo hw=>?_⟩,λE ρ P P' hp z=>h.mono _ _ _ _ (λds hds=>hp _ hds) z⟩;refine ka W0 H0 W σ H ρ E _ s eo<|h.mono _ _ _ _ (λds hds a vs W1 H1 x1 e1 e2 e3 e4 r1=>?_) hw;refine hds _ _ _ (x1.pub e4 e1 e3 e2)<|.lst (by unfold Wd.put;dsimp only;rw[aN]) (r1.mono (qD e2) λ_ z=>z)
structure eI(X:Cx)(f:Value)(g:List D->(D->Prop)->Prop):Prop where
 t:∃r,eA X f r/\∀W H vs ds Q,WOk W H->Reps X.K W vs ds->g ds (RQ X.K W H Q)->r vs H Q
 mono:∀ds P P',(∀d,P d->P' d)->g ds P->g ds P'
structure rB(X:Cx)(f:Value)(g:List D->(List D->Prop)->Prop):Prop where
 t:∃r,eA X f r/\∀W H vs ds Q,WOk W H->Reps X.K W vs ds->g ds (λes=>∀a us,H a=none->Reps X.K W us es->Q (.ref a) (upd H a<|.lst us))->r vs H Q
 mono:∀ds P P',(∀d,P d->P' d)->g ds P->g ds P'
def wB(g:List D->(D->Prop)->Prop)(t:WA):WE:=λE ρ Q=>t E ρ λds=>g ds Q
def aB(g:List D->(List D->Prop)->Prop)(t:WA):WA:=λE ρ Q=>t E ρ λds=>g ds Q
variable{id:String}{t:WA}
theorem cG(hc:eI X (.builtin id) g)(hm:X.mg x=none)(hv:bootBuiltins x=some (.builtin id))(ha:jh X EX (e::es) t)(hg:Gl X x:=by rfl)(hn:x≠ "__name__" :=by decide)(hdb:(x==("__debug__" : Str))=false:=by decide)
  (he:starEach (e::es) X.env=(false,eval e X.env)::starEach es X.env:=by rfl) (hpl:(backTo pos<|starEach es X.env).any (·.1)=false:=by rfl):PX X EX (.Call (.Name x p) (e::es) [] pos) (wB g t):=by
 obtain⟨ta,pa,ka⟩:=ha.t;obtain⟨r,pr,kr⟩:=hc.t;refine⟨⟨_,nb pr hg hm hv pa hn hdb he hpl,λW0 H0 W σ H ρ E Q s eo h=>?_⟩,λE ρ P P' hp z=>ha.mono _ _ _ _ (λds hds=>hc.mono _ _ _ hp hds) z⟩;exact ka W0 H0 W σ H ρ E _ s eo<|ha.mono _ _ _ _ (λds hds vs W1 H1 x1 r1=>kr W1 H1 vs ds Q x1.ok r1<|hc.mono _ _ _ (λd hd=>RQ.ext hd x1) hds) h
theorem j4(hc:eI X (.type T) g)(hm:X.mg x=none)(hv:bootBuiltins x=some (.type T))(ha:jh X EX (e::es) t)(hg:Gl X x:=by rfl)(hn:x≠ "__name__" :=by decide)(hdb:(x==("__debug__" : Str))=false:=by decide)
  (he:starEach (e::es) X.env=(false,eval e X.env)::starEach es X.env:=by rfl) (hpl:(backTo pos<|starEach es X.env).any (·.1)=false:=by rfl):PX X EX (.Call (.Name x p) (e::es) [] pos) (wB g t):=by
 obtain⟨ta,pa,ka⟩:=ha.t;obtain⟨r,pr,kr⟩:=hc.t;refine⟨⟨_,iK pr hg hm hv pa hn hdb he hpl,λW0 H0 W σ H ρ E Q s eo h=>?_⟩,λE ρ P P' hp z=>ha.mono _ _ _ _ (λds hds=>hc.mono _ _ _ hp hds) z⟩;exact ka W0 H0 W σ H ρ E _ s eo<|ha.mono _ _ _ _ (λds hds vs W1 H1 x1 r1=>kr W1 H1 vs ds Q x1.ok r1<|hc.mono _ _ _ (λd hd=>RQ.ext hd x1) hds) h
theorem zC{g:List D->(List D->Prop)->Prop}(hc:rB X (.type T) g)(hm:X.mg x=none)(hv:bootBuiltins x=some (.type T))(ha:jh X EX (e::es) t)(hg:Gl X x:=by rfl)(hn:x≠ "__name__" :=by decide)(hdb:(x==("__debug__" : Str))=false:=by decide)
  (he:starEach (e::es) X.env=(false,eval e X.env)::starEach es X.env:=by rfl) (hpl:(backTo pos<|starEach es X.env).any (·.1)=false:=by rfl):PXL X EX (.Call (.Name x p) (e::es) [] pos) (aB g t):=by
 obtain⟨ta,pa,ka⟩:=ha.t;obtain⟨r,pr,kr⟩:=hc.t;refine⟨⟨_,iK pr hg hm hv pa hn hdb he hpl,λW0 H0 W σ H ρ E Q s eo h=>?_⟩,λE ρ P P' hp z=>ha.mono _ _ _ _ (λds hds=>hc.mono _ _ _ hp hds) z⟩;refine ka W0 H0 W σ H ρ E _ s eo<|ha.mono _ _ _ _ (λds hds vs W1 H1 x1 r1=>kr W1 H1 vs ds Q x1.ok r1<|hc.mono _ _ _ (λes' hd a us hn' r2=>?_) hds) h;exact hd a us W1 _ (x1.trans<|.new x1.ok hn') aN (x1.ok.fresh hn').1 (x1.ok.fresh hn').2 (x1.isN hn') r2
abbrev bO:=List D->(Ex->Prop)->(D->Prop)->Prop
def ol(S:bO):Prop:=∀ds E E' Q Q',(∀ex,E ex->E' ex)->(∀d,Q d->Q' d)->S ds E Q->S ds E' Q'
def gT(K:O3)(S:bO):Sp:=λvs H Q EX=>∃ds W,WOk W H/\Reps K W vs ds/\S ds (λex=>∀W' H' cls dx,Ext W H W' H'->uv K W' H' cls dx ex->EX cls dx H') (RQ K W H Q)
def wF(S:bO)(t:WA):WE:=λE ρ Q=>t E ρ λds=>S ds E Q
theorem Ks{CX:m9}{S:bO}(F:eD X.prog X.w X.K X.mg X.base CX k f fd ps (gT X.K S))(hS:ol S)(hr:Room k X.A)(hm:X.mg x=some (.ref f))(hk:PySem.W.keepIn X.K (.ref f)=true)(hb:Binds X.K fd ps [])
  (hx:cF CX X EX) (ha:jh X EX (e::es) t) (hg:Gl X x:=by rfl) (hdb:(x==("__debug__" : Str))=false:=by decide) (he:starEach (e::es) X.env=(false,eval e X.env)::starEach es X.env:=by rfl) (hpl:(backTo pos<|starEach es X.env).any (·.1)=false:=by rfl) :
  PX X EX (.Call (.Name x p) (e::es) [] pos) (wF S t):=by
 obtain⟨ta,pa,ka⟩:=ha.t;refine⟨⟨_,lb F hr hg hm hk hb .nil hx pa hdb he hpl,λW0 H0 W σ H ρ E Q s eo h=>?_⟩,λE ρ P P' hp z=>ha.mono _ _ _ _ (λds hds=>hS _ _ _ _ _ (λ_ q=>q) hp hds) z⟩;refine ka W0 H0 W σ H ρ E _ s eo<|ha.mono _ _ _ _ (λds hds vs W1 H1 x1 r1=>?_) h;refine⟨ds,W1,x1.ok,by rw[rX];exact r1,hS _ _ _ _ _ (λex hex W' H' cls dx x' r'=>?_) (λd hd=>RQ.ext hd x1) hds⟩;exact eo ex W' H' cls dx hex (s.ext.trans<|x1.trans x') r'
structure Cn(X:Cx)(g:G2):Prop where
 t:∃r,IxR X r/\∀W H x y dx dy Q,WOk W H->Rep X.K W x dx->Rep X.K W y dy->g dx dy (RQ X.K W H Q)->r x y H Q
 mono:∀x y P P',(∀d,P d->P' d)->g x y P->g x y P'
theorem bI{g:G2}(ho:Cn X g)(ha:PX X EX a wa)(hb:PX X EX b wb)(hs:i9 b:=by exact λ_ _=>rfl):PX X EX (.Subscript a b pos) (w2 g wa wb):=by obtain⟨ta,pa,ka⟩:=ha.t;obtain⟨tb,pb,kb⟩:=hb.t;obtain⟨r,pr,kr⟩:=ho.t;refine⟨⟨_,rm pr pa pb hs,λW0 H0 W σ H ρ E Q s eo h=>?_⟩,w2.mono ha hb ho.mono⟩;exact lS ha.mono hb.mono ka kb s eo h λW2 H2 x y dx dy x2 rx ry hg=>kr W2 H2 x y dx dy Q x2.ok rx ry<|ho.mono _ _ _ _ (λd hd=>RQ.ext hd x2) hg
structure FA(X:Cx)(f:Value->Sem Value)(g:D->(D->Prop)->Prop):Prop where
 t:∃r,zg X f r/\∀W H x dx Q,WOk W H->Rep X.K W x dx->g dx (RQ X.K W H Q)->r x H Q
 mono:∀x P P',(∀d,P d->P' d)->g x P->g x P'
def w1(g:D->(D->Prop)->Prop)(wa:WE):WE:=λE ρ Q=>wa E ρ λx=>g x Q
theorem ji{op:UnaryOp}{g:D->(D->Prop)->Prop}(ho:FA X (unaryOp op) g)(ha:PX X EX a wa):PX X EX (.UnaryOp op a pos) (w1 g wa):=by obtain⟨ta,pa,ka⟩:=ha.t;obtain⟨r,pr,kr⟩:=ho.t;refine⟨⟨_,rf pr pa,λW0 H0 W σ H ρ E Q s eo h=>?_⟩,λE ρ P P' hp z=>ha.mono _ _ _ _ (λd hd=>ho.mono _ _ _ hp hd) z⟩;exact ka W0 H0 W σ H ρ E _ s eo<|ha.mono _ _ _ _ (λd hd v W1 H1 x1 r1=>kr W1 H1 v d Q x1.ok r1<|ho.mono _ _ _ (λd hd=>RQ.ext hd x1) hd) h
structure zE(X:Cx)(EX:XK)(e:Option Expr)(w:(Ex->Prop)->cX->(Option Int->Prop)->Prop):Prop where
 t:∃t,PO X e t/\∀W0 H0 W σ H ρ E Q,SOk X.K W0 H0 W σ H ρ->jN X.K W0 H0 E EX->w E ρ (λo=>∀W' H',Ext W H W' H'->Q o H')->t σ H Q
 mono:∀E ρ P P',(∀d,P d->P' d)->w E ρ P->w E ρ P'
def isI(Q:Int->Prop):D->Prop
 |.int i=>Q i|_=>False
theorem isI.mono{Q Q':Int->Prop}(h:∀b,Q b->Q' b):∀d,isI Q d->isI Q' d
 |.int b,z=>h b z|.non,z=>z|.bl _,z=>z|.str _,z=>z|.tup _,z=>z|.lst _,z=>z|.dic,z=>z|.pen,z=>z|.cls _,z=>z|.exc _,z=>z|.ty _,z=>z|.scr _,z=>z
theorem om{Q:Int->Prop}(h:isI Q d):∃b,d=.int b/\Q b:=by
 cases d with
 |int b=>exact⟨b,rfl,h⟩|_=>exact h.elim
def eO:(Ex->Prop)->cX->(Option Int->Prop)->Prop:=λ_ _ Q=>Q none
def dF(w:WE):(Ex->Prop)->cX->(Option Int->Prop)->Prop:=λE ρ Q=>w E ρ<|isI λi=>Q (some i)
theorem iq:zE X EX none eO:=⟨⟨_,qw,λ_ _ W _ H _ _ _ s _ h=>h W H<|.refl s.ok⟩,λ_ _ _ _ hp h=>hp _ h⟩
theorem ff(ha:PX X EX a wa):zE X EX (some a) (dF wa):=by obtain⟨ta,pa,ka⟩:=ha.t;refine⟨⟨_,qx pa,λW0 H0 W σ H ρ E Q s eo h=>?_⟩,λE ρ P P' hp z=>ha.mono _ _ _ _ (isI.mono λi hi=>hp _ hi) z⟩;refine ka W0 H0 W σ H ρ E _ s eo<|ha.mono _ _ _ _ (λd hd v W1 H1 x1 r1=>?_) h;obtain⟨i,rfl,q⟩:=om hd;cases r1;exact⟨i,rfl,q W1 H1 x1⟩
def aV{α:Type}(xs:List α)(lo hi:Option Int):List α:=(xs.drop<|HT.sIx xs.length 0 lo).take<|HT.sIx xs.length xs.length hi-HT.sIx xs.length 0 lo
def gCut(x:D)(lo hi:Option Int)(Q:D->Prop):Prop:=match x with
 |.tup xs=>Q<|.tup (aV xs lo hi)
 |.lst xs=>Q<|.lst (aV xs lo hi)
 |.scr xs=>Q<|.lst (aV xs lo hi)
 |_=>False
end
variable{S:bO}
def Bd(i:Int):Prop:=i.natAbs<2^8990
theorem Bd.log{i:Int}(h:Bd i):i.natAbs.log2<8990:=by by_cases h0:i.natAbs=0;rw[h0];decide;exact(Nat.log2_lt h0).mpr h
theorem Bd.bits{i:Int}(h:Bd i):Builtin.Int.intBits i<=2^20:=by
 unfold Builtin.Int.intBits;have:=h.log;have e:(2:Nat)^20=1048576:=by decide
 split<;>omega
def rC(i j:Int):Prop:=Bd i/\Bd j
def Co(_ j:Int):Prop:=j≠0/\Bd j
section
theorem Zqc:OpR X (binaryOp .Mult) (rI rC λi j=>.int<|i*j):=zk λ_ _ _ _ _ _ _ hc q=>mul_int q<|IntMulOk.of_bits hc.1.bits hc.2.bits
theorem Kt:OpR X (binaryOp .FloorDiv) (rI Co λi j=>.int<|i.fdiv j):=zk λ_ _ _ _ _ _ _ hc q=>floordiv_int hc.1 q<|.inl (PyProof.noPylong_of_log2 (by have:=hc.2.log;omega))
def gI2(C:Int->Int->Prop)(kd:Int->Int->D):G2:=λx y Q=>match x,y with|.int i,.int j=>C i j/\Q (kd i j)|_,_=>False
theorem gI2.mono{C:Int->Int->Prop}{kd:Int->Int->D}:∀x y P P',(∀d,P d->P' d)->gI2 C kd x y P->gI2 C kd x y P':=λx y P P' hp hg=>by unfold gI2 at hg ⊢;split at hg;exact⟨hg.1,hp _ hg.2⟩;exact hg.elim
theorem gI2.get{C:Int->Int->Prop}{kd:Int->Int->D}{x:D}(h:gI2 C kd x y Q):∃i j,x=.int i/\y=.int j/\C i j/\Q (kd i j):=by unfold gI2 at h;split at h;exact⟨_,_,rfl,rfl,h.1,h.2⟩;exact h.elim
theorem rD{f:Value->Value->Sem Value}{C:Int->Int->Prop}{k:Int->Int->V}{kd:Int->Int->D}(h:OpR X f (rI C k))(hk:∀W i j,Rep X.K W (k i j)<|kd i j):gq X f (gI2 C kd):=
 ⟨⟨_,h,λW H x y dx dy Q ok rx ry hg=>by
  obtain⟨i,j,rfl,rfl,hc,q⟩:=hg.get;cases rx;cases ry;exact⟨_,_,rfl,rfl,hc,q.now ok<|hk _ _ _⟩⟩,gI2.mono⟩
theorem uw{f:Value->Value->Sem Value}{k:Int->Int->V}(h:OpR X f (qk k)):OpR X f (rI (λ_ _=>True) k):=λpins s σ H x y v u Q I rx ry ⟨i,j,e1,e2,_,q⟩=>h pins s σ H x y v u Q I rx ry ⟨i,j,e1,e2,q⟩
theorem fU:gq X (binaryOp .Sub) (gI2 (λ_ _=>True) λi j=>.int<|i-j):=rD (uw sU) λ_ _ _=>.int _
theorem qG:gq X (binaryOp .Mod) (gI2 (λ_ j=>j≠0) λi j=>.int<|i.fmod j):=rD qo λ_ _ _=>.int _
theorem lU:gq X (binaryOp .FloorDiv) (gI2 Co λi j=>.int<|i.fdiv j):=rD Kt λ_ _ _=>.int _
theorem zF:gq X (binaryOp .Pow) (gI2 sS λi j=>.int<|i^j.toNat):=rD sV λ_ _ _=>.int _
theorem Ku:OpR X (compareOp .Lt) (qk λi j=>.bl<|decide (i<j)):=ql λ_ _ _ _ _ _ _ q=>lt_int q
theorem Kv:OpR X (compareOp .LtE) (qk λi j=>.bl<|decide (i<=j)):=ql λ_ _ _ _ _ _ _ q=>le_int q
theorem Kw:OpR X (compareOp .Gt) (qk λi j=>.bl<|decide (i>j)):=ql λ_ _ _ _ _ _ _ q=>gt_int q
theorem Kx:OpR X (compareOp .GtE) (qk λi j=>.bl<|decide (i ≥ j)):=ql λ_ _ _ _ _ _ _ q=>ge_int q
theorem nG:gq X (compareOp .Lt) (gI2 (λ_ _=>True) λi j=>.bl<|decide (i<j)):=rD (uw Ku) λ_ _ _=>.bl _
theorem kJ:gq X (compareOp .LtE) (gI2 (λ_ _=>True) λi j=>.bl<|decide (i<=j)):=rD (uw Kv) λ_ _ _=>.bl _
theorem wP:gq X (compareOp .Gt) (gI2 (λ_ _=>True) λi j=>.bl<|decide (i>j)):=rD (uw Kw) λ_ _ _=>.bl _
theorem Cp:gq X (compareOp .GtE) (gI2 (λ_ _=>True) λi j=>.bl<|decide (i ≥ j)):=rD (uw Kx) λ_ _ _=>.bl _
theorem jj:FA X (unaryOp .USub) (λx Q=>isI (λi=>Q<|.int (-i)) x):=
 ⟨⟨_,mW,λW H x dx Q ok rx hg=>by
  obtain⟨i,rfl,q⟩:=om hg;cases rx;exact⟨i,rfl,q.now ok<|.int _⟩⟩,λx P P' hp h=>isI.mono (λi hi=>hp _ hi) x h⟩
mutual
noncomputable def iO:D->Option PyData
 |.non=>some .none|.bl b=>some<|.bool b
 |.int i=>some<|.int i
 |.str x=>some<|.str x
 |.tup xs=>(fV xs).map .tuple|.lst xs=>(fV xs).map .list|.dic=>none|.pen=>none|.cls _=>none|.exc _=>none|.ty _=>none|.scr _=>none
noncomputable def fV:List D->Option (List PyData)
 |[]=>some []
 |x::r=>match iO x,fV r with
  |some a,some b=>some (a::b)|_,_=>none
end
variable{s:Shared}{W:Wd}
mutual
theorem wQ(I:Inv X pins σ H s)(ok:WOk W H):∀{v:V} {d:D} {u:Value} {p:PyData},Rep X.K W v d->RelV v u->iO d=some p->∃as,Reads s.heap u p as
 |_,_,u,p,.non,r,e=>by cases e;cases r;exact⟨_,.none⟩
 |_,_,u,p,.bl b,r,e=>by cases e;cases r;exact⟨_,.bool b⟩
 |_,_,u,p,.int i,r,e=>by cases e;obtain⟨t,rfl⟩:=r;exact⟨_,.int i t⟩
 |_,_,u,p,.str x,r,e=>by cases e;obtain⟨t,rfl⟩:=r;exact⟨_,.str x t⟩
 |.ref a,.tup ds,u,p,.tup e0 rs,r,e=>by
  cases r;cases q:fV ds with
  |none=>rw[iO,q]at e;cases e
  |some ps=>rw[iO,q]at e;cases e;obtain⟨its,rv,⟨o,h1,h2,n,h3⟩,_⟩:=I.tuple (xs:=_)<|SqT.of (ok.g _ _ e0);obtain⟨as,ra⟩:=zG I ok rs rv q;exact⟨_,.tuple h1 h2 h3<|by simpa using ra⟩
 |.ref a,.tup ds,u,p,.ktup e0 rs,r,e=>by
  cases r;cases q:fV ds with
  |none=>rw[iO,q]at e;cases e
  |some ps=>rw[iO,q]at e;cases e;obtain⟨its,rv,⟨o,h1,h2,n,h3⟩,_⟩:=I.tuple (xs:=_)<|.inr e0;obtain⟨as,ra⟩:=zG I ok rs rv q;exact⟨_,.tuple h1 h2 h3<|by simpa using ra⟩
 |.ref a,.lst ds,u,p,.lst e0 rs,r,e=>by
  cases r;cases q:fV ds with
  |none=>rw[iO,q]at e;cases e
  |some ps=>rw[iO,q]at e;cases e;obtain⟨its,rv,⟨o,n,h1,h2,h3,h4⟩,_⟩:=I.list (xs:=_)<|SqL.of (ok.g _ _ e0);obtain⟨as,ra⟩:=zG I ok rs rv q;exact⟨_,.list h1 h2 h4<|by simpa using ra⟩
 |_,_,u,p,.dic _,r,e=>by rw[iO]at e;cases e
 |_,_,u,p,.pen _,r,e=>by rw[iO]at e;cases e
 |_,_,u,p,.cls _,r,e=>by rw[iO]at e;cases e
 |_,_,u,p,.exc _ _ _,r,e=>by rw[iO]at e;cases e
 |_,_,u,p,.ty _,r,e=>by rw[iO]at e;cases e
 |_,_,u,p,.scr _ _,r,e=>by rw[iO]at e;cases e
theorem zG(I:Inv X pins σ H s)(ok:WOk W H):∀{vs:List V} {ds:List D} {us:List Value} {ps:List PyData},Reps X.K W vs ds->Vals vs us->fV ds=some ps->∃as,ReadsAll s.heap us ps as
 |_,_,us,ps,.nil,r,e=>by rw[fV]at e;cases e;cases r;exact⟨_,.nil⟩
 |_,d::ds,us,ps,.cons rd rs,r,e=>by
  rw[fV]at e;cases q1:iO d with
  |none=>rw[q1]at e;cases e
  |some a=>
   cases q2:fV ds with
   |none=>rw[q1,q2]at e;cases e
   |some b=>
    rw[q1,q2]at e;cases e;cases r with
    |cons r1 r2=>
     obtain⟨as,ra⟩:=wQ I ok rd r1 q1;obtain⟨bs,rb⟩:=zG I ok rs r2 q2;exact⟨_,.cons ra rb⟩
end
def gEq(neg:Bool):G2:=λx y Q=>∃p q,iO x=some p/\iO y=some q/\PySem.SeqAt.shaped p=true/\PySem.SeqAt.shaped q=true/\Q (.bl (if neg then !PyData.eqv p q else PyData.eqv p q))
theorem gEq.mono{neg:Bool}:∀x y P P',(∀d,P d->P' d)->gEq neg x y P->gEq neg x y P':=λx y P P' hp ⟨p,q,h1,h2,h3,h4,h5⟩=>⟨p,q,h1,h2,h3,h4,hp _ h5⟩
theorem cZ(hu:X.A.units+64<cLine):gq X (compareOp .Eq) (gEq false):=by refine⟨⟨λx y H Q=>∃W dx dy,WOk W H/\Rep X.K W x dx/\Rep X.K W y dy/\gEq false dx dy (RQ X.K W H Q),?_,λW H x y dx dy Q ok rx ry hg=>⟨W,dx,dy,ok,rx,ry,hg⟩⟩,gEq.mono⟩;rintro pins s σ H x y v u Q I rx ry ⟨W,dx,dy,ok,r1,r2,p,q,h1,h2,h3,h4,h5⟩;obtain⟨as,ra⟩:=wQ I ok r1 rx h1;obtain⟨bs,rb⟩:=wQ I ok r2 ry h2;exact eq_dataH ra rb h3 h4 hu ⟨.bl _,H,I,rfl,h5.now ok<|.bl _⟩
theorem fD(hu:X.A.units+64<cLine):gq X (compareOp .NotEq) (gEq true):=by refine⟨⟨λx y H Q=>∃W dx dy,WOk W H/\Rep X.K W x dx/\Rep X.K W y dy/\gEq true dx dy (RQ X.K W H Q),?_,λW H x y dx dy Q ok rx ry hg=>⟨W,dx,dy,ok,rx,ry,hg⟩⟩,gEq.mono⟩;rintro pins s σ H x y v u Q I rx ry ⟨W,dx,dy,ok,r1,r2,p,q,h1,h2,h3,h4,h5⟩;obtain⟨as,ra⟩:=wQ I ok r1 rx h1;obtain⟨bs,rb⟩:=wQ I ok r2 ry h2;exact ne_dataH ra rb h3 h4 hu ⟨.bl _,H,I,rfl,h5.now ok<|.bl _⟩
end
section
variable{a:Expr}
def gAdd:G2:=λx y Q=>match x,y with
 |.int i,.int j=>Q<|.int (i+j)
 |.lst xs,.lst ys=>xs.length+ys.length<=aO/\Q (.lst<|xs++ys)|.tup xs,.tup ys=>xs.length+ys.length<=aO/\Q (.tup<|xs++ys)|_,_=>False
theorem gAdd.mono:∀x y P P',(∀d,P d->P' d)->gAdd x y P->gAdd x y P':=λx y P P' hp hg=>by unfold gAdd at hg ⊢;split at hg;exact hp _ hg;exact⟨hg.1,hp _ hg.2⟩;exact⟨hg.1,hp _ hg.2⟩;exact hg.elim
def wR(K:O3):R2:=λx y H Q=>∃l b xs zs,x=.ref l/\y=.ref b/\SqL K H l xs/\SqL K H b zs/\xs.length+zs.length<=sizeLine/\∀p,H p=none->Q (.ref p) (upd H p<|.lst<|xs++zs)
theorem Znx:OpR X (binaryOp .Add) (wR X.K):=by
 intro pins s σ H x y v u Q I rx ry h;obtain⟨l,b,xs,zs,rfl,rfl,hH,hB,hz,q⟩:=h;cases rx;cases ry;obtain⟨its,r,pl,z⟩:=I.list hH;obtain⟨its2,r2,B4,z2⟩:=I.list hB;have hl:=r.length;have hl2:=r2.length;obtain⟨⟨cls,dd,data,sl⟩,n,ho,hc,_,hd⟩:=pl;obtain⟨⟨cls2,dd2,data2,sl2⟩,n2,ho2,hc2,_,hd2⟩:=B4;simp only at hc hd hc2 hd2;subst hc hd hc2 hd2;have e:its.toArray++its2.toArray=(its++its2).toArray:=by simp
 refine concat_meets ⟨_,ho,rfl⟩ ⟨_,ho2,rfl⟩ noFill_list_add seq_list_add PySem.F.slot_list_add PySem.F.entry_list_add (PySem.F.args_list_add_2 _ _) (list_addW l b its.toArray its2.toArray n n2 dd dd2 sl sl2 (by simp;omega)) ⟨ho,ho2,?_⟩;rw[e];exact⟨.ref _,_,I.lnew (t':=s.toks) (r.append r2) (by rw[d9];omega),rfl,q _ I.fresh⟩
def Ky(K:O3):R2:=λx y H Q=>∃a b xs ys,x=.ref a/\y=.ref b/\SqT K H a xs/\SqT K H b ys/\xs.length+ys.length<=sizeLine/\
 (xs=[]->Q (.ref b) H)/\(ys=[]->Q (.ref a) H)/\∀p,H p=none->Q (.ref p) (upd H p<|.tup<|xs++ys)
theorem Kz:OpR X (binaryOp .Add) (Ky X.K):=by
 intro pins s σ H x y v u Q I rx ry h;obtain⟨a,b,xs,ys,rfl,rfl,ha,hb,hz,q1,q2,q3⟩:=h;by_cases hx:xs=[];cases rx;cases ry;obtain⟨its,r1,p1,_⟩:=I.tuple ha;obtain⟨its2,r2,p2,_⟩:=I.tuple hb;have hi:its=[]:=r1.nil_iff.mpr hx;obtain⟨⟨cls,dd,data,sl⟩,ho,hc,n,hd⟩:=id p1;obtain⟨⟨cls2,dd2,data2,sl2⟩,ho2,hc2,n2,hd2⟩:=id p2;simp only at hc hd hc2 hd2;subst hc hd hc2 hd2;exact concat_meets ⟨_,ho,rfl⟩ ⟨_,ho2,rfl⟩ noFill_tuple_add seq_tuple_add PySem.F.slot_tuple_add PySem.F.entry_tuple_add (PySem.F.args_tuple_add_2 _ _)
  (tuple_addW0 a b its.toArray its2.toArray n n2 dd dd2 sl sl2<|by simp[hi]) ⟨ho,ho2,⟨.ref b,H,I,rfl,q1 hx⟩⟩
 exact qy pins s σ H _ _ v u Q I rx ry ⟨a,b,xs,ys,rfl,rfl,ha,hb,hx,hz,q2,λ_=>q3⟩
theorem cY:gq X (binaryOp .Add) gAdd:=by
 refine⟨⟨_,(uw sT).or<|Znx.or Kz,λW H x y dx dy Q ok rx ry hg=>?_⟩,gAdd.mono⟩;unfold gAdd at hg;split at hg;cases rx;cases ry;exact .inl ⟨_,_,rfl,rfl,trivial,hg.now ok<|.int _⟩;obtain⟨p,vs,rfl,h1,r1⟩:=rx.sql ok;obtain⟨q,us,rfl,h2,r2⟩:=ry.sql ok;refine .inr<|.inl ⟨p,q,vs,us,rfl,rfl,h1,h2,by rw[r1.length,r2.length];exact oj hg.1,λa ha=>hg.2.lst ok (r1.append r2) ha⟩
 obtain⟨p,vs,rfl,h1,r1⟩:=rx.sqt ok;obtain⟨q,us,rfl,h2,r2⟩:=ry.sqt ok;rename_i xs ys;refine .inr<|.inr ⟨p,q,vs,us,rfl,rfl,h1,h2,by rw[r1.length,r2.length];exact oj hg.1,λe=>?_,λe=>?_,λa ha=>hg.2.tup ok (r1.append r2) ha⟩
 subst e;cases r1;exact hg.2.now ok ry;subst e;cases r2;rw[rX]at hg;exact hg.2.now ok rx;exact hg.elim
def gMul:G2:=λx y Q=>match x,y with|.int i,.int j=>rC i j/\Q (.int<|i*j)|.lst xs,.int k=>k<1000/\-1000<k/\xs.length*k.toNat<=aO/\Q (.lst (List.replicate k.toNat xs).flatten)|_,_=>False
theorem gMul.mono:∀x y P P',(∀d,P d->P' d)->gMul x y P->gMul x y P':=λx y P P' hp hg=>by unfold gMul at hg ⊢;split at hg;exact⟨hg.1,hp _ hg.2⟩;exact⟨hg.1,hg.2.1,hg.2.2.1,hp _ hg.2.2.2⟩;exact hg.elim
theorem Cq{W:Wd}(r:Reps K W vs ds)(n:Nat):Reps K W (List.replicate n vs).flatten (List.replicate n ds).flatten:=by
 induction n with
 |zero=>exact .nil|succ n ih=>rw[gJ,gJ,qW,qW];exact r.append ih
theorem dO:gq X (binaryOp .Mult) gMul:=by
 refine⟨⟨_,Zqc.or ny,λW H x y dx dy Q ok rx ry hg=>?_⟩,gMul.mono⟩;unfold gMul at hg;split at hg;cases rx;cases ry;exact .inl ⟨_,_,rfl,rfl,hg.1,hg.2.now ok<|.int _⟩;cases ry;cases rx with
 | @lst l vs _ e r=>refine .inr ⟨l,_,vs,rfl,rfl,ok.g _ _ e,by omega,by omega,?_,λp hp=>hg.2.2.2.lst ok (Cq r _) hp⟩;rw[r.length];exact oj hg.2.2.1
 exact hg.elim
theorem zH{W:Wd}(r:Reps K W vs xs){i:Int}(h:dN xs i=some d):∃v,dN vs i=some v/\Rep K W v d:=by
 unfold dN at h ⊢;rw[r.length];cases q:jK xs.length i with
 |none=>rw[q]at h;cases h
 |some k=>rw[q]at h;obtain⟨v,e,rv⟩:=r.get (show xs[k]? = some d from h);exact⟨v,e,rv⟩
def gIx:G2:=λx y Q=>isI (λi=>match x with
 |.tup xs=>∃d,dN xs i=some d/\Q d|.lst xs=>∃d,dN xs i=some d/\Q d|.scr xs=>∃d,dN xs i=some d/\Q d
 |_=>False) y
theorem gIx.mono:∀ x y P P',(∀ d,P d->P' d)->gIx x y P->gIx x y P':=λx y P P' hp hg=>isI.mono (λi h=>by
 split at h
 .obtain⟨d,e,q⟩:=h;exact⟨d,e,hp _ q⟩
 .obtain⟨d,e,q⟩:=h;exact⟨d,e,hp _ q⟩
 .obtain⟨d,e,q⟩:=h;exact⟨d,e,hp _ q⟩
 .exact h.elim) y hg
theorem aQ:Cn X gIx:=by
 refine⟨⟨_,kB,λW H x y dx dy Q ok rx ry hg=>?_⟩,gIx.mono⟩;obtain⟨i,rfl,h⟩:=om hg;cases ry;split at h;obtain⟨d,e,q⟩:=h;obtain⟨p,vs,rfl,h1,r1⟩:=rx.sqt ok;obtain⟨v,e1,rv⟩:=zH r1 e;exact .inr<|.inl ⟨p,vs,i,v,rfl,rfl,h1,e1,q.now ok rv⟩
 obtain⟨d,e,q⟩:=h;obtain⟨p,vs,rfl,h1,r1⟩:=rx.sql ok;obtain⟨v,e1,rv⟩:=zH r1 e;exact .inl ⟨p,vs,i,v,rfl,rfl,h1,e1,q.now ok rv⟩;obtain⟨d,e,q⟩:=h;obtain⟨p,vs,rfl,h1,r1⟩:=rx.sqs ok;obtain⟨v,e1,rv⟩:=zH r1 e;exact .inl ⟨p,vs,i,v,rfl,rfl,h1,e1,q.now ok rv⟩;exact h.elim
theorem Reps.cut{W:Wd}(r:Reps K W vs ds)(lo hi:Option Int):Reps K W (jJ vs lo hi) (aV ds lo hi):=by unfold jJ aV;rw[r.length];exact(r.drop _).take _
theorem KA(h:HT.sIx xs.length 0 lo=0/\HT.sIx xs.length xs.length hi=xs.length):aV xs lo hi=xs:=by unfold aV;rw[h.1,h.2];simp
theorem gCut.mono:∀x P P',(∀d,P d->P' d)->gCut x lo hi P->gCut x lo hi P':=λx P P' hp hg=>by unfold gCut at hg ⊢;split at hg;exact hp _ hg;exact hp _ hg;exact hp _ hg;exact hg.elim
def bP(wa:WE)(wl wh:(Ex->Prop)->cX->(Option Int->Prop)->Prop):WE:=λE ρ Q=>wa E ρ λx=>wl E ρ λl=>wh E ρ λh=>gCut x l h Q
theorem f9{lo hi:Option Expr}{wl wh}(ha:PX X EX a wa)(hl:zE X EX lo wl)(hh:zE X EX hi wh):PX X EX (.Subscript a (.Slice lo hi none p2) pos) (bP wa wl wh):=by
 obtain⟨ta,pa,ka⟩:=ha.t;obtain⟨tl,pl,kl⟩:=hl.t;obtain⟨th,ph,kh⟩:=hh.t;refine⟨⟨_,nh (sl_list.or<|sl_tup.or Jm) pa pl ph,λW0 H0 W σ H ρ E Q s eo h=>?_⟩,λE ρ P P' hp h=>ha.mono _ _ _ _ (λx hx=>hl.mono _ _ _ _ (λl hl'=>hh.mono _ _ _ _ (λu hu=>gCut.mono x _ _ hp hu) hl') hx) h⟩;refine ka W0 H0 W σ H ρ E _ s eo<|ha.mono _ _ _ _ (λdx hx v W1 H1 x1 r1=>?_) h;refine kl W0 H0 W1 σ H1 ρ E _ (s.step x1) eo<|hl.mono _ _ _ _ (λl hl' W2 H2 x2=>?_) hx;refine kh W0 H0 W2 σ H2 ρ E _ ((s.step x1).step x2) eo<|hh.mono _ _ _ _ (λu hu W3 H3 x3=>?_) hl';have r3:=(x2.trans x3).rep r1;have hu':=gCut.mono dx _ _ (λd hd=>RQ.ext hd<|x1.trans<|x2.trans x3) hu;unfold gCut at hu';split at hu'
 obtain⟨p,vs,rfl,h1,rr⟩:=r3.sqt x3.ok;rename_i xs;by_cases hw:HT.sIx vs.length 0 l=0/\HT.sIx vs.length vs.length u=vs.length;refine .inr (.inr ⟨p,vs,rfl,h1,hw,?_⟩);rw[rr.length]at hw;rw[KA hw]at hu';exact hu'.now x3.ok r3;exact .inr<|.inl ⟨p,vs,rfl,h1,hw,λq hq=>hu'.tup x3.ok (rr.cut l u) hq⟩
 obtain⟨p,vs,rfl,h1,rr⟩:=r3.sql x3.ok;exact .inl ⟨p,vs,rfl,h1,λq hq=>hu'.lst x3.ok (rr.cut l u) hq⟩;obtain⟨p,vs,rfl,h1,rr⟩:=r3.sqs x3.ok;exact .inl ⟨p,vs,rfl,h1,λq hq=>hu'.lst x3.ok (rr.cut l u) hq⟩;exact hu'.elim
def gRev:D->(D->Prop)->Prop:=λx Q=>match x with
 |.tup xs=>Q<|.tup xs.reverse
 |.lst xs=>Q<|.lst xs.reverse
 |_=>False
theorem gRev.mono:∀x P P',(∀d,P d->P' d)->gRev x P->gRev x P':=λx P P' hp hg=>by unfold gRev at hg ⊢;split at hg;exact hp _ hg;exact hp _ hg;exact hg.elim
theorem KB{j pos3 pos4}(ha:PX X EX a wa):PX X EX (.Subscript a (.Slice none none (some<|.UnaryOp .USub (.Constant (.int 1) j pos3) pos4) p2) pos) (w1 gRev wa):=by
 obtain⟨ta,pa,ka⟩:=ha.t;refine⟨⟨_,Jo pa,λW0 H0 W σ H ρ E Q s eo h=>?_⟩,λE ρ P P' hp h=>ha.mono _ _ _ _ (λx hx=>gRev.mono x _ _ hp hx) h⟩;refine ka W0 H0 W σ H ρ E _ s eo<|ha.mono _ _ _ _ (λdx hx v W1 H1 x1 r1=>?_) h;have hu':=gRev.mono dx _ _ (λd hd=>RQ.ext hd x1) hx;unfold gRev at hu';split at hu'
 obtain⟨p,vs,rfl,h1,rr⟩:=r1.sqt x1.ok;exact⟨p,vs,rfl,.inl ⟨h1,λq hq=>hu'.tup x1.ok rr.rev hq⟩⟩;obtain⟨p,vs,rfl,h1,rr⟩:=r1.sql x1.ok;exact⟨p,vs,rfl,.inr ⟨h1,λq hq=>hu'.lst x1.ok rr.rev hq⟩⟩;exact hu'.elim
def bR:List D->(D->Prop)->Prop:=λds Q=>match ds with
 |[.tup xs]=>Q<|.int xs.length
 |[.lst xs]=>Q<|.int xs.length
 |[.scr xs]=>Q<|.int xs.length
 |_=>False
theorem fN:eI X (.builtin "len") bR:=by refine⟨⟨_,jd,λW H vs ds Q ok r hg=>?_⟩,λds P P' hp hg=>?_⟩;unfold bR at hg;split at hg;obtain⟨v,rfl,rv⟩:=r.one;obtain⟨p,us,rfl,h1,rr⟩:=rv.sqt ok;exact⟨p,us,rfl,.inr h1,by rw[rr.length];exact hg.now ok<|.int _⟩;obtain⟨v,rfl,rv⟩:=r.one;obtain⟨p,us,rfl,h1,rr⟩:=rv.sql ok;exact⟨p,us,rfl,.inl h1,by rw[rr.length];exact hg.now ok<|.int _⟩;obtain⟨v,rfl,rv⟩:=r.one;obtain⟨p,us,rfl,h1,rr⟩:=rv.sqs ok;exact⟨p,us,rfl,.inl h1,by rw[rr.length];exact hg.now ok<|.int _⟩;exact hg.elim;unfold bR at hg ⊢;split at hg;exact hp _ hg;exact hp _ hg;exact hp _ hg;exact hg.elim
def gv{α:Type}:List D->(List D->Prop)->Prop:=λds Q=>match ds with|[.tup xs]=>Q xs|[.lst xs]=>Q xs|[.scr xs]=>Q xs|_=>False
theorem zI:rB X (.type "list") (gv (α:=Unit)):=by refine⟨⟨_,je,λW H vs ds Q ok r hg=>?_⟩,λds P P' hp hg=>?_⟩;unfold gv at hg;split at hg;obtain⟨v,rfl,rv⟩:=r.one;obtain⟨p,us,rfl,h1,rr⟩:=rv.sqt ok;exact⟨p,us,rfl,.inr h1,λl hl=>hg l us hl rr⟩;obtain⟨v,rfl,rv⟩:=r.one;obtain⟨p,us,rfl,h1,rr⟩:=rv.sql ok;exact⟨p,us,rfl,.inl h1,λl hl=>hg l us hl rr⟩;obtain⟨v,rfl,rv⟩:=r.one;obtain⟨p,us,rfl,h1,rr⟩:=rv.sqs ok;exact⟨p,us,rfl,.inl h1,λl hl=>hg l us hl rr⟩;exact hg.elim;unfold gv at hg ⊢;split at hg;exact hp _ hg;exact hp _ hg;exact hp _ hg;exact hg.elim
def hV:List D->(D->Prop)->Prop:=λds Q=>match ds with
 |[.tup xs]=>Q<|.tup xs
 |[.lst xs]=>Q<|.tup xs
 |_=>False
theorem lV:eI X (.type "tuple") hV:=by refine⟨⟨_,ig,λW H vs ds Q ok r hg=>?_⟩,λds P P' hp hg=>?_⟩;unfold hV at hg;split at hg;obtain⟨v,rfl,rv⟩:=r.one;obtain⟨p,us,rfl,h1,rr⟩:=rv.sqt ok;exact⟨p,us,rfl,.inr ⟨h1,hg.now ok rv⟩⟩;obtain⟨v,rfl,rv⟩:=r.one;obtain⟨p,us,rfl,h1,rr⟩:=rv.sql ok;exact⟨p,us,rfl,.inl ⟨h1,λl hl=>hg.tup ok rr hl⟩⟩;exact hg.elim;unfold hV at hg ⊢;split at hg;exact hp _ hg;exact hp _ hg;exact hg.elim
def ir:List D->(D->Prop)->Prop:=λds Q=>match ds with
 |[.int i]=>Q<|.int (if i<0 then -i else i)
 |_=>False
theorem Zp:eI X (.builtin "abs") ir:=by refine⟨⟨_,m8,λW H vs ds Q ok r hg=>?_⟩,λds P P' hp hg=>?_⟩;unfold ir at hg;split at hg;obtain⟨v,rfl,rv⟩:=r.one;cases rv;exact⟨_,rfl,hg.now ok<|.int _⟩;exact hg.elim;unfold ir at hg ⊢;split at hg;exact hp _ hg;exact hg.elim
def kK:List D->(D->Prop)->Prop:=λds Q=>match ds with
 |[.int i,.int j]=>Q<|.int (if j>i then j else i)
 |_=>False
theorem wS(hc:X.calm=true):eI X (.builtin "max") kK:=by refine⟨⟨_,lF hc,λW H vs ds Q ok r hg=>?_⟩,λds P P' hp hg=>?_⟩;unfold kK at hg;split at hg;obtain⟨v,u,rfl,rv,ru⟩:=r.two;cases rv;cases ru;exact⟨_,_,rfl,hg.now ok<|.int _⟩;exact hg.elim;unfold kK at hg ⊢;split at hg;exact hp _ hg;exact hg.elim
def iu:List D->(D->Prop)->Prop:=λds Q=>match ds with
 |[.int i]=>Q<|.int i
 |[.bl b]=>Q<|.int (if b then 1 else 0)
 |_=>False
theorem Cr:eI X (.type "int") iu:=by refine⟨⟨_,lG,λW H vs ds Q ok r hg=>?_⟩,λds P P' hp hg=>?_⟩;unfold iu at hg;split at hg;obtain⟨v,rfl,rv⟩:=r.one;cases rv;exact .inl ⟨_,rfl,hg.now ok<|.int _⟩;obtain⟨v,rfl,rv⟩:=r.one;cases rv;exact .inr ⟨_,rfl,hg.now ok<|.int _⟩;exact hg.elim;unfold iu at hg ⊢;split at hg;exact hp _ hg;exact hp _ hg;exact hg.elim
end
section
variable{a:Expr}
noncomputable def zJ:D->Option String
 |.non=>some "NoneType" |.bl _=>some "bool" |.int _=>some "int" |.str _=>some "str" |.tup _=>some "tuple" |.lst _=>some "list" |.dic=>some "dict"
 |.pen=>none|.cls _=>none|.exc _=>none|.ty _=>none|.scr _=>none
def jl(t T:String):Bool:=t==T||(t == "bool" && T == "int")
def zK:List String:=["int", "bool", "str", "tuple", "list"]
theorem KC(K:O3){t:String}(ht:zJ d=some t)(hT:T∈zK):PySem.W.kitOne K (.type t) (.type T)=some (jl t T):=by
 simp only[zK,Yao,da,or_false]at hT;cases d<;>first
  |(cases ht;done)
  |(cases ht;rcases hT with rfl|rfl|rfl|rfl|rfl<;>rfl)
def gIs:List D->(D->Prop)->Prop:=λds Q=>match ds with|[x,.ty T]=>∃t,zJ x=some t/\T∈zK/\Q (.bl<|jl t T)|_=>False
theorem gIs.mono:∀ds P P',(∀d,P d->P' d)->gIs ds P->gIs ds P':=λds P P' hp hg=>by unfold gIs at hg ⊢;split at hg;obtain⟨t,h1,h2,h3⟩:=hg;exact⟨t,h1,h2,hp _ h3⟩;exact hg.elim
theorem nI:eI X (.builtin "isinstance") gIs:=by
 refine⟨⟨λvs H Q=>∃W ds,WOk W H/\Reps X.K W vs ds/\gIs ds (RQ X.K W H Q),?_,λW H vs ds Q ok r hg=>⟨W,ds,ok,r,hg⟩⟩,gIs.mono⟩;rintro pins s σ H vs us Q I rv ⟨W,ds,ok,rs,hg⟩;unfold gIs at hg;split at hg;rename_i x T;obtain⟨t,h1,h2,q⟩:=hg;obtain⟨v,w',rfl,r1,r2⟩:=rs.two;cases r2;obtain⟨u,u2,rfl,ru,ru2⟩:=la rv;obtain rfl:u2=Value.type T:=ru2;have e:=KC X.K h1 h2;have fin:∀tk,EP X pins σ Q (.bool<|jl t T) { s with toks:=tk }:=λtk=>⟨.bl _,H,I.tok tk,rfl,q.now ok<|.bl _⟩;cases r1 with
 |non=>cases h1;cases ru;exact PySem.W.kia_one PySem.W.kitx_none I.kIn True.intro e (λz=>nomatch z) fin
 |bl b=>cases h1;cases ru;exact PySem.W.kia_one PySem.W.kitx_bool I.kIn True.intro e (λz=>nomatch z) fin
 |int i=>cases h1;obtain⟨t',rfl⟩:=ru;exact PySem.W.kia_one PySem.W.kitx_int I.kIn True.intro e (λz=>nomatch z) fin
 |str i=>cases h1;obtain⟨t',rfl⟩:=ru;exact PySem.W.kia_one PySem.W.kitx_str I.kIn True.intro e (λz=>nomatch z) fin
 |tup e0 rr=>cases h1;cases ru;obtain⟨its,_,⟨o,h1,h2,_⟩,_⟩:=I.tuple<|SqT.of (ok.g _ _ e0);exact PySem.W.kia_one PySem.W.kitx_tuple I.kIn ⟨o,h1,h2⟩ e (λz=>nomatch z) fin
 |ktup e0 rr=>cases h1;cases ru;obtain⟨its,_,⟨o,h1,h2,_⟩,_⟩:=I.tuple<|.inr e0;exact PySem.W.kia_one PySem.W.kitx_tuple I.kIn ⟨o,h1,h2⟩ e (λz=>nomatch z) fin
 |lst e0 rr=>cases h1;cases ru;obtain⟨its,_,⟨o,n,h1,h2,_⟩,_⟩:=I.list<|SqL.of (ok.g _ _ e0);exact PySem.W.kia_one PySem.W.kitx_list I.kIn ⟨o,h1,h2⟩ e (λz=>nomatch z) fin
 | @dic a e0=>cases h1;cases ru;obtain⟨_,_,vs,_,p⟩:=(show ObjOk X.prog X.w H s.heap a (.dK []) from I.hok a _ (ok.g _ _ e0));obtain⟨o,es,ep,h1,h2,_⟩:=p;exact PySem.W.kia_one PySem.W.kitx_dict I.kIn ⟨o,h1,h2.1⟩ e (λz=>nomatch z) fin
 |pen _=>cases h1
 |cls _=>cases h1
 |exc _ _=>cases h1
 |ty _=>cases h1
 |scr _ _=>cases h1
 exact hg.elim
theorem KD(hc:X.calm=true):eA X (.builtin "all") (λxs H Q=>∃(p:Addr) (bs:List Bool),xs=[.ref p]/\SqL X.K H p (bs.map V.bl)/\Q (.bl<|bs.all id) H):=by
 intro pins s σ H xs us Q I r h;obtain⟨p,bs,rfl,hq,q⟩:=h;obtain⟨u,rfl,ru⟩:=e7 r;cases ru;obtain⟨its,rv,pl,hz⟩:=I.list hq;have hpl:p<s.heap.objs.size:=by obtain⟨o,n,e,_⟩:=pl;exact c8 e
 have hits:its=bs.map Value.bool:=by
  clear hz pl hq q;induction bs generalizing its with
  |nil=>cases rv;rfl
  |cons b bs ih=>
   cases rv with
   |cons r1 r2=>
    obtain rfl:_=Value.bool b:=r1;rw[c6,ih _ r2]
 subst hits;refine call_all_walk<|wpAny_pyIter_list pl.isList ?_;have hh:X.A.in1.handled=none:=I.ok.hd hc;refine⟨s.heap.objs.size,_,_,_,_,_,λi=>(bs[i]?).getD true,rfl,Walks.list hh _ p (gF hpl) (bs.map Value.bool).toArray,⟨⟨_,g9 _ rfl,rfl,rfl⟩,pl.isList.at λo e=>dq _ e⟩,λi v s' Q' E' hP hQ=>?_,λh' tk hk=>?_⟩
 have hP':(bs.map Value.bool)[i]? = some v:=by simpa using hP
 rw[cE]at hP';cases e:bs[i]? with
 |none=>rw[e]at hP';cases hP'
 |some b=>
  rw[e]at hP';have:v=Value.bool b:=(O8 hP').symm;subst this;refine Pm ?_;have e2:(bs[i]?).getD true=b:=by rw[e];rfl
  dsimp only at hQ;rw[e2]at hQ;exact hQ
 have e:((List.range (bs.map Value.bool).toArray.size).all λi=>(bs[i]?).getD true)=bs.all id:=by
  rw[eX,bQ,j8,Ybf,Ybf];constructor;intro h b hb;obtain⟨i,hi,e⟩:=YbA.mp hb;have:=h i<|Yah.mpr hi;rw[cA hi]at this;rw[<-e];exact this
  intro h i hi;have hi':=Yah.mp hi;rw[cA hi'];exact h _<|jC hi'
 rw[e];refine⟨.bl<|bs.all id,H,?_,rfl,q⟩;refine I.kept λb o e=>hk b o ?_<|dq _ e;intro z;have:b=s.heap.objs.size:=by simpa using z
 exact O5 (c8 e) (by rw[this];exact iR _)
def jP:List D->(D->Prop)->Prop:=λds Q=>match ds with|[.lst xs]=>∃bs:List Bool,xs=bs.map D.bl/\Q (.bl<|bs.all id)|_=>False
theorem FC{K:O3}{W:Wd}:∀{vs:List V} {bs:List Bool},Reps K W vs (bs.map D.bl)->vs=bs.map V.bl
 |_,[],.nil=>rfl|_,b::bs,.cons r t=>by cases r;rw[c6,FC t]
theorem zL(hc:X.calm=true):eI X (.builtin "all") jP:=by refine⟨⟨_,KD hc,λW H vs ds Q ok r hg=>?_⟩,λds P P' hp hg=>?_⟩;unfold jP at hg;split at hg;obtain⟨bs,rfl,q⟩:=hg;obtain⟨v,rfl,rv⟩:=r.one;obtain⟨p,us,rfl,h1,rr⟩:=rv.sql ok;rw[FC rr]at h1;exact⟨p,bs,rfl,h1,q.now ok<|.bl _⟩;exact hg.elim;unfold jP at hg ⊢;split at hg;obtain⟨bs,e,q⟩:=hg;exact⟨bs,e,hp _ q⟩;exact hg.elim
end
section
variable{W:Wd}
theorem SOk.set(s:SOk K W0 H0 W σ H ρ){i:Nat}{v:V}{x:D}(r:Rep K W v x):SOk K W0 H0 W (σ.set i<|some v) H (ρ.set i<|.d x) where
 ext:=s.ext
 len:=by rw[dI,dI];exact s.len
 d:=λj y e=>by by_cases h:i=j;subst h;by_cases hi:i<ρ.length;rw[fb hi]at e;cases e;exact⟨v,fb (by rw[<-s.len];exact hi),r⟩;rw[eL (by rw[dI];omega)]at e;cases e;rw[eK h]at e ⊢;exact s.d j y e
 o:=λj ys e=>by by_cases h:i=j;subst h;by_cases hi:i<ρ.length;rw[fb hi]at e;cases e;rw[eL (by rw[dI];omega)]at e;cases e;rw[eK h]at e ⊢;exact s.o j ys e
 ne:=λj k xs ys a hjk e1 e2 e3=>by
  have nj:i≠j:=λh=>by subst h;by_cases hi:i<ρ.length;rw[fb hi]at e1;cases e1;rw[eL (by rw[dI];omega)]at e1;cases e1
  have nk:i≠k:=λh=>by subst h;by_cases hi:i<ρ.length;rw[fb hi]at e2;cases e2;rw[eL (by rw[dI];omega)]at e2;cases e2
  rw[eK nj]at e1 e3;rw[eK nk]at e2 ⊢;exact s.ne j k xs ys a hjk e1 e2 e3
 oo:=s.oo.set (λ_ h=>by cases h) (λj h=>eK h) λ_ _ h=>by cases h
theorem SOk.own(s1:SOk K W0 H0 W1 σ H1 ρ)(x:Ext W1 H1 W H)(hz:H1 a=none)(h1:H a=some (.lst vs))(h2:W.G a=none)(h3:¬W.Pn a)(r:Reps K W vs xs):SOk K W0 H0 W (σ.set i<|some<|.ref a) H (ρ.set i<|.ow xs):=by
 have s:=s1.step x;have h4:H0 a=none:=s1.ext.isN hz;have hn:∀(j:Nat) ys b,j≠i->ρ[j]? = some (SV.ow ys)->σ[j]? = some (some<|V.ref b)->b≠a:=λj ys b _ ej eb q=>by obtain⟨b',us,q1,q2,_⟩:=s1.o j ys ej;rw[eb]at q1;cases q1;rw[q,hz]at q2;cases q2
 exact{
  ext:=s.ext
  len:=by rw[dI,dI];exact s.len
  d:=λj y e=>by
    by_cases h:i=j
    · subst h
      by_cases hi:i<ρ.length
      · rw[fb hi]at e;cases e
      · rw[eL (by rw[dI];omega)]at e;cases e
    · rw[eK h]at e ⊢;exact s.d j y e
  o:=λj ys e=>by
    by_cases h:i=j
    · subst h
      by_cases hi:i<ρ.length
      · rw[fb hi]at e
        cases e;exact⟨a,vs,fb (by rw[<-s.len];exact hi),h1,h2,h3,h4,r⟩
      · rw[eL (by rw[dI];omega)]at e;cases e
    · rw[eK h]at e ⊢;exact s.o j ys e
  ne:=λj k ys zs b hjk e1 e2 e3 e4=>by
    by_cases hj:i=j
    · subst hj
      by_cases hi:i<ρ.length
      · rw[fb (by rw[<-s.len];exact hi)]at e3
        cases e3;rw[eK hjk]at e2 e4;exact hn k zs _ (Pa hjk) e2 e4 rfl
      · rw[eL (by rw[dI];omega)]at e1;cases e1
    · by_cases hk:i=k
      · subst hk
        by_cases hi:i<ρ.length
        · rw[fb (by rw[<-s.len];exact hi)]at e4
          cases e4;rw[eK hj]at e1 e3;exact hn j ys _ (Pa hj) e1 e3 rfl
        · rw[eL (by rw[dI];omega)]at e2;cases e2
      · rw[eK hj]at e1 e3
        rw[eK hk]at e2 e4;exact s.ne j k ys zs b hjk e1 e2 e3 e4
  oo:=by
    refine⟨λj xss e=>?_,λj k xss yss e1 e2=>?_⟩
    · have h:i≠j:=λh=>by
        subst h
        by_cases hi:i<ρ.length
        · rw[fb hi]at e;cases e
        · rw[eL (by rw[dI];omega)]at e;cases e
      rw[eK h]at e;obtain⟨a',bs,e1,q,n⟩:=s1.oo.t j xss e;refine⟨a',bs,by rw[eK h];exact e1,q.step x,λk ys c ek ec=>?_⟩
      by_cases hk:i=k
      · subst hk
        by_cases hi:i<ρ.length
        · rw[fb (by rw[<-s.len];exact hi)]at ec
          cases ec;exact q.here hz
        · rw[eL (by rw[dI];omega)]at ek;cases ek
      · rw[eK hk]at ek ec
        exact n k ys c ek ec
    · have g:∀ {j:Nat} {xss:List (List D)},(ρ.set i<|.ow xs)[j]? = some (SV.oo xss)->ρ[j]? = some (SV.oo xss):=fun {j xss} e=>by
        by_cases h:i=j
        · subst h
          by_cases hi:i<ρ.length
          · rw[fb hi]at e;cases e
          · rw[eL (by rw[dI];omega)]at e;cases e
        · rw[eK h]at e;exact e
      exact s.oo.u j k xss yss (g e1) (g e2) }
noncomputable def pub(i:Nat)(ρ:cX):cX:=match ρ[i]? with
 |some (.ow xs)=>ρ.set i<|.d (.lst xs)
 |_=>ρ
theorem SOk.pub(s:SOk K W0 H0 W σ H ρ)(i:Nat):∃W',SOk K W0 H0 W' σ H (LP.pub i ρ)/\Wle W W':=by
 unfold LP.pub;split;rename_i xs e;obtain⟨a,vs,e1,e2,e3,e4,e5,r⟩:=s.o i xs e;have hi:i<ρ.length:=(Yar.mp e).1;refine⟨W.put a<|.lst vs,⟨s.ext.pub e5 e2 e4 e3,by rw[dI];exact s.len,λj y ej=>?_,λj ys ej=>?_,λj k ys zs b hjk ej ek e6=>?_,?_⟩,⟨qD e3,λ_ z=>z⟩⟩;by_cases h:i=j;subst h;rw[fb hi]at ej;cases ej;exact⟨_,e1,.lst (by unfold Wd.put;dsimp only;rw[aN])<|r.mono (qD e3) λ_ z=>z⟩;rw[eK h]at ej;obtain⟨v,q1,q2⟩:=s.d j y ej;exact⟨v,q1,q2.mono (qD e3) λ_ z=>z⟩;have h:i≠j:=λh=>by subst h;rw[fb hi]at ej;cases ej
 rw[eK h]at ej;obtain⟨b,us,q1,q2,q3,q4,q5,rr⟩:=s.o j ys ej;have hba:b≠a:=λz=>s.ne i j xs ys a h e ej e1 (by rw[<-z];exact q1);refine⟨b,us,q1,q2,?_,q4,q5,rr.mono (qD e3) λ_ z=>z⟩;unfold Wd.put;dsimp only;rw[aJ hba];exact q3;have h:i≠j:=λh=>by subst h;rw[fb hi]at ej;cases ej
 have h':i≠k:=λh=>by subst h;rw[fb hi]at ek;cases ek
 rw[eK h]at ej;rw[eK h']at ek;exact s.ne j k ys zs b hjk ej ek e6;exact OOs.set ⟨λj xss ej=>let⟨a',bs,q1,q,n⟩:=s.oo.t j xss ej;⟨a',bs,q1,q.put (n i xs a e e1) e3,n⟩,s.oo.u⟩ (λ_ h=>by cases h) (λ_ _=>rfl) λ_ _ h=>by cases h
 exact⟨W,s,.refl W⟩
theorem SOk.chg(s:SOk K W0 H0 W σ H ρ){i:Nat}{a:Addr}{xs ys:List D}{us:List V}(e:ρ[i]? = some (.ow xs))(e1:σ[i]? = some (some<|.ref a))(r:Reps K W us ys):SOk K W0 H0 W σ (upd H a<|.lst us) (ρ.set i<|.ow ys):=by
 obtain⟨a',vs,q1,q2,q3,q4,q5,rr⟩:=s.o i xs e;rw[e1]at q1;cases q1;have hi:i<ρ.length:=(Yar.mp e).1;refine⟨s.ext.chg q5 q2 q4 q3,by rw[dI];exact s.len,λj y ej=>?_,λj zs ej=>?_,λj k ys' zs b hjk ej ek e6=>?_,OOs.set ⟨λj xss ej=>let⟨a',bs,p1,q,n⟩:=s.oo.t j xss ej;⟨a',bs,p1,q.upd<|n i xs a e e1,n⟩,s.oo.u⟩ (λ_ h=>by cases h) (λ_ _=>rfl) λys c _ ec j xss a' bs _ ej ea _ n=>n i xs c e ec⟩;have h:i≠j:=λh=>by subst h;rw[fb hi]at ej;cases ej
 rw[eK h]at ej;exact s.d j y ej;by_cases h:i=j;subst h;rw[fb hi]at ej;cases ej;exact⟨a,us,e1,aN,q3,q4,q5,r⟩;rw[eK h]at ej;obtain⟨b,ws,p1,p2,p3,p4,p5,pr⟩:=s.o j zs ej;have hba:b≠a:=λz=>s.ne i j xs zs a h e ej e1 (by rw[<-z];exact p1);exact⟨b,ws,p1,by rw[aJ hba];exact p2,p3,p4,p5,pr⟩;by_cases h:i=j;subst h;rw[eK hjk]at ek;exact s.ne i k xs zs b hjk e ek e6;rw[eK h]at ej;by_cases h':i=k;subst h';intro z;exact s.ne i j xs ys' b h e ej z e6;rw[eK h']at ek;exact s.ne j k ys' zs b hjk ej ek e6
end
section
variable{rest:List Stmt}{a b:Expr}
def cT:WS:=λ_ N ρ=>N.nx ρ
def aI(z z':WS):WS:=λE N ρ=>z E { N with nx:=z' E N } ρ
theorem Nds.le_nx{N':Nds}(h:N.le N'){n n':cX->Prop}(hn:∀ρ,n ρ->n' ρ):Nds.le { N with nx:=n } { N' with nx:=n' }:=⟨hn,h.rt,h.bk,h.ct⟩
theorem dA:jt X EX [] cT:=⟨⟨_,qi,λ_ _ _ W σ H ρ _ Dn N s fl _ no h=>no.nx W σ H ρ s fl h⟩,λ_ _ _ _ hl h=>hl.nx _ h⟩
theorem aT(h1:PZ X EX st z)(h2:jt X EX rest z'):jt X EX (st::rest) (aI z z'):=by obtain⟨t1,p1,k1⟩:=h1.t;obtain⟨t2,p2,k2⟩:=h2.t;refine⟨⟨_,jG p1 p2,λW0 H0 F W σ H ρ E Dn N s fl eo no h=>?_⟩,λE ρ N N' hl h=>h1.mono _ _ _ _ (Nds.le_nx hl λρ' h'=>h2.mono _ _ _ _ hl h') h⟩;exact k1 W0 H0 F W σ H ρ E _ { N with nx:=z' E N } s fl eo ⟨λW1 σ1 H1 ρ1 s1 f1 hn=>k2 W0 H0 F W1 σ1 H1 ρ1 E Dn N s1 f1 eo no hn,no.rt,no.bk,no.ct⟩ h
theorem aY(h1:PZ X EX st z):jt X EX [st] z:=by obtain⟨t1,p1,k1⟩:=h1.t;exact⟨⟨_,iX p1,k1⟩,h1.mono⟩
def cM(i:Nat)(z:WS):WS:=λE N ρ=>z E N<|pub i ρ
theorem lW(i:Nat){sts:List Stmt}(h:jt X EX sts z):jt X EX sts (cM i z):=by obtain⟨t,p,k⟩:=h.t;refine⟨⟨t,p,λW0 H0 F W σ H ρ E Dn N s fl eo no h=>?_⟩,λE ρ N N' hl q=>h.mono _ _ _ _ hl q⟩;obtain⟨W',s',f'⟩:=s.pub i;exact k W0 H0 F W' σ H _ E Dn N s' (fl.trans f') eo no h
def eP(w:WE):WS:=λE N ρ=>w E ρ λ_=>N.nx ρ
theorem nJ(he:PX X EX e w)(hs:swapsWith e none pos.line X.env=pure false:=by rfl):PZ X EX (.Expr e pos) (eP w):=by obtain⟨t,p,k⟩:=he.t;refine⟨⟨_,kY p hs,λW0 H0 F W σ H ρ E Dn N s fl eo no h=>?_⟩,λE ρ N N' hl q=>he.mono _ _ _ _ (λ_=>hl.nx ρ) q⟩;exact k W0 H0 W σ H ρ E _ s eo<|he.mono _ _ _ _ (λd hd v W1 H1 x1 r1=>no.nx W1 σ H1 ρ (s.step x1) (fl.ext x1) hd) h
def aM(w:WE):WS:=λE N ρ=>w E ρ N.rt
theorem bF(he:PX X EX e w):PZ X EX (.Return (some e) pos) (aM w):=by obtain⟨t,p,k⟩:=he.t;refine⟨⟨_,mR p,λW0 H0 F W σ H ρ E Dn N s fl eo no h=>?_⟩,λE ρ N N' hl q=>he.mono _ _ _ _ hl.rt q⟩;exact k W0 H0 W σ H ρ E _ s eo<|he.mono _ _ _ _ (λd hd v W1 H1 x1 r1=>no.rt d v W1 H1 (s.ext.trans x1) r1 hd) h
def cQ(w:WT)(z z':WS):WS:=λE N ρ=>w E ρ λb=>if b=true then z E N ρ else z' E N ρ
theorem dB{w:WT}{as bs:List Stmt}(hc:jO X EX c w)(ha:jt X EX as z)(hb:jt X EX bs z'):PZ X EX (.If c as bs pos) (cQ w z z'):=by
 obtain⟨t,p,k⟩:=hc.t;obtain⟨ta,pa,ka⟩:=ha.t;obtain⟨tb,pb,kb⟩:=hb.t;refine⟨⟨_,vp p pa pb,λW0 H0 F W σ H ρ E Dn N s fl eo no h=>?_⟩,λE ρ N N' hl q=>hc.mono _ _ _ _ (λb hb'=>?_) q⟩;refine k W0 H0 W σ H ρ E _ s eo (hc.mono _ _ _ _ (λb hb' W1 H1 x1=>?_) h);cases b with
 |true=>rw[if_pos rfl]at hb' ⊢;exact ka W0 H0 F W1 σ H1 ρ E Dn N (s.step x1) (fl.ext x1) eo no hb'|false=>rw[if_neg<|by decide]at hb' ⊢;exact kb W0 H0 F W1 σ H1 ρ E Dn N (s.step x1) (fl.ext x1) eo no hb'
 cases b with
 |true=>rw[if_pos rfl]at hb' ⊢;exact ha.mono _ _ _ _ hl hb'|false=>rw[if_neg<|by decide]at hb' ⊢;exact hb.mono _ _ _ _ hl hb'
def aP(i:Nat)(w:WE):WS:=λE N ρ=>w E ρ λx=>N.nx<|ρ.set i (.d x)
theorem bM(i:Nat)(he:PX X EX e w)(hN:X.N.Nodup)(hi:X.N[i]? = some x:=by rfl)(hx:mo X.env.scope x:=by first|exact Or.inl rfl|exact Or.inr rfl)(hs:swapsWith e (some<|.Name x pos') pos.line X.env=pure false:=by rfl)
  (hf:X.fn x=true\/X.env.scope.names.lookup x=some .local:=by first|exact .inl rfl|exact .inr rfl|assumption):PZ X EX (.Assign [.Name x pos'] e pos) (aP i w):=by
 obtain⟨t,p,k⟩:=he.t;refine⟨⟨_,i6 hN hi hx p hs hf,λW0 H0 F W σ H ρ E Dn N s fl eo no h=>?_⟩,λE ρ N N' hl q=>he.mono _ _ _ _ (λ_=>hl.nx _) q⟩;exact k W0 H0 W σ H ρ E _ s eo<|he.mono _ _ _ _ (λd hd v W1 H1 x1 r1=>no.nx W1 _ H1 _ ((s.step x1).set r1) (fl.ext x1) hd) h
def cH(i:Nat)(t:WA):WS:=λE N ρ=>t E ρ λxs=>N.nx<|ρ.set i (.ow xs)
theorem nK(i:Nat){t:WA}(he:PXL X EX e t)(hN:X.N.Nodup)(hi:X.N[i]? = some x:=by rfl)(hx:mo X.env.scope x:=by first|exact Or.inl rfl|exact Or.inr rfl)(hs:swapsWith e (some<|.Name x pos') pos.line X.env=pure false:=by rfl)
  (hf:X.fn x=true\/X.env.scope.names.lookup x=some .local:=by first|exact .inl rfl|exact .inr rfl|assumption):PZ X EX (.Assign [.Name x pos'] e pos) (cH i t):=by
 obtain⟨t,p,k⟩:=he.t;refine⟨⟨_,i6 hN hi hx p hs hf,λW0 H0 F W σ H ρ E Dn N s fl eo no h=>?_⟩,λE ρ N N' hl q=>he.mono _ _ _ _ (λ_=>hl.nx _) q⟩;refine k W0 H0 W σ H ρ E _ s eo<|he.mono _ _ _ _ (λxs hd a vs W1 H1 x1 e1 e2 e3 e4 r1=>no.nx W1 _ H1 _ (s.own x1 e4 e1 e2 e3 r1) (fl.ext x1) hd) h
end
def qH(K:O3)(W:Wd)(J:It)(ds:List D):Prop:=
 ∀W2 H2 (i:Nat),(∀a o,W.G a=some o->W2.G a=some o)->(∀a,W.Pn a->W2.Pn a)->WOk W2 H2->
  (∀d,ds[i]? = some d->J.go i H2/\∀x H3,J.yld i H2 x H3->∃W3,Ext W2 H2 W3 H3/\Rep K W3 x d)/\(ds.length<=i->J.stop i H2)
structure mw(X:Cx)(EX:XK)(tg iter:Expr)(w:WA):Prop where
 t:∃t,PI X tg iter t/\∀W0 H0 W σ H ρ E R,SOk X.K W0 H0 W σ H ρ->jN X.K W0 H0 E EX->w E ρ (λds=>∀W' H' J,Ext W H W' H'->qH X.K W' J ds->R J H')->t σ H R
 mono:∀E ρ P P',(∀d,P d->P' d)->w E ρ P->w E ρ P'
section
variable{p:Pos}{a b:Expr}
def isL(Q:List D->Prop):D->Prop
 |.lst xs=>Q xs|_=>False
theorem zM{Q:List D->Prop}(h:isL Q d):∃xs,d=.lst xs/\Q xs:=by
 cases d with
 |lst xs=>exact⟨xs,rfl,h⟩|_=>exact h.elim
theorem isL.mono{Q:List D->Prop}(h:∀b,Q b->Q' b):∀d,isL Q d->isL Q' d:=λd z=>by obtain⟨xs,rfl,q⟩:=zM z;exact h _ q
def zN(Q:List D->Prop):D->Prop
 |.tup xs=>Q xs|_=>False
def iL(w:WE):WA:=λE ρ Q=>w E ρ<|isL Q
def iT(w:WE):WA:=λE ρ Q=>w E ρ<|zN Q
noncomputable def rng(lo:Int)(n:Nat):List D:=(List.range n).map λ(k:Nat)=>D.int<|lo+k
theorem FD{W:Wd}(lo:Int)(n:Nat):qH K W (vw lo n) (rng lo n):=by
 intro W2 H2 i g2 p2 ok2;refine⟨λd hd=>?_,λhi=>?_⟩;unfold rng at hd;rw[cE]at hd;by_cases hi:i<n;rw[iU hi]at hd;cases hd;refine⟨hi,λx H3 y=>?_⟩;obtain⟨rfl,rfl⟩:=y;exact⟨W2,.refl ok2,.int _⟩;rw[eL<|by simpa using hi]at hd;cases hd;have:(rng lo n).length=n:=by unfold rng;simp
 rw[this]at hi;exact hi
def i1(Q:List D->Prop):List D->Prop
 |[.int j]=>-10000<=j/\j<10000/\Q (rng 0 j.toNat)|_=>False
def i2(Q:List D->Prop):List D->Prop
 |[.int i,.int j]=>(-10000<=i/\i<10000/\-10000<=j/\j<10000)/\Q (rng i (j-i).toNat)|_=>False
theorem i1.mono{Q:List D->Prop}(h:∀b,Q b->Q' b):∀d,i1 Q d->i1 Q' d:=λd z=>by unfold i1 at z ⊢;split at z;exact⟨z.1,z.2.1,h _ z.2.2⟩;exact z.elim
theorem i2.mono{Q:List D->Prop}(h:∀b,Q b->Q' b):∀d,i2 Q d->i2 Q' d:=λd z=>by unfold i2 at z ⊢;split at z;exact⟨z.1,h _ z.2⟩;exact z.elim
def fO(t:WA):WA:=λE ρ Q=>t E ρ<|i1 Q
def iP(t:WA):WA:=λE ρ Q=>t E ρ<|i2 Q
theorem kL{t:WA}(hm:X.mg "range" = none)(ha:jh X EX [a] t)(hg:Gl X "range" :=by rfl)(hs:starEach [a] X.env=[(false,eval a X.env)]:=by rfl):mw X EX tg (.Call (.Name "range" p) [a] [] pos) (fO t):=by
 obtain⟨t,q,k⟩:=ha.t;refine⟨⟨_,lC hg hm q hs,λW0 H0 W σ H ρ E R s eo h=>?_⟩,λE ρ P P' hp h=>ha.mono _ _ _ _ (i1.mono hp) h⟩;refine k W0 H0 W σ H ρ E _ s eo<|ha.mono _ _ _ _ (λds hd vs W1 H1 x1 r1=>?_) h;unfold i1 at hd;split at hd
 obtain⟨v,rfl,rv⟩:=r1.one;cases rv;exact⟨_,rfl,by omega,by omega,hd.2.2 W1 H1 _ x1<|FD _ _⟩;exact hd.elim
theorem wU{t:WA}(hm:X.mg "range" = none)(ha:jh X EX [a,b] t)(hg:Gl X "range" :=by rfl)(hs:starEach [a,b] X.env=[(false,eval a X.env),(false,eval b X.env)]:=by rfl)(hs2:starEach [b] X.env=[(false,eval b X.env)]:=by rfl) :
  mw X EX tg (.Call (.Name "range" p) [a,b] [] pos) (iP t):=by
 obtain⟨t,q,k⟩:=ha.t;refine⟨⟨_,lD hg hm q hs hs2,λW0 H0 W σ H ρ E R s eo h=>?_⟩,λE ρ P P' hp h=>ha.mono _ _ _ _ (i2.mono hp) h⟩;refine k W0 H0 W σ H ρ E _ s eo<|ha.mono _ _ _ _ (λds hd vs W1 H1 x1 r1=>?_) h;unfold i2 at hd;split at hd
 .obtain⟨v,u,rfl,rv,ru⟩:=r1.two
  cases rv;cases ru;exact⟨_,_,rfl,⟨by omega,by omega,by omega,by omega⟩,hd.2 W1 H1 _ x1<|FD _ _⟩
 .exact hd.elim
end
abbrev WG:=D->cX->(cX->Prop)->Prop
def ZiQ(ρ:cX):Prop:=∀(i:Nat),(∀xs,ρ[i]?≠some (SV.ow xs))/\∀xss,ρ[i]?≠some (SV.oo xss)
structure qI(X:Cx)(tg:Expr)(g:WG):Prop where
 t:∃t,PG X tg t/\∀W0 H0 W σ H ρ d v Q,SOk X.K W0 H0 W σ H ρ->Rep X.K W v d->g d ρ (λρ'=>∀σ',SOk X.K W0 H0 W σ' H ρ'->Q σ' H)->t v σ H Q
 mono:∀d ρ P P',(∀r,P r->P' r)->g d ρ P->g d ρ P'
 own:∀d ρ P,ZiQ ρ->g d ρ P->g d ρ (λr=>ZiQ r/\P r)
section
theorem ZiQ.set{ρ:cX}(h:ZiQ ρ)(i:Nat)(d:D):ZiQ (ρ.set i<|.d d):=λj=>by by_cases hj:i=j;subst hj;by_cases hi:i<ρ.length;rw[fb hi];exact⟨λ_ e=>(by cases e),λ_ e=>(by cases e)⟩;rw[eL (by rw[dI];omega)];exact⟨λ_ e=>(by cases e),λ_ e=>(by cases e)⟩;rw[eK hj];exact h j
def gN(i:Nat):WG:=λd ρ k=>k<|ρ.set i (.d d)
theorem cD(i:Nat)(hN:X.N.Nodup)(hi:X.N[i]? = some x:=by rfl)(hx:mo X.env.scope x:=by first|exact Or.inl rfl|exact Or.inr rfl)(hf:X.fn x=true\/X.env.scope.names.lookup x=some .local:=by first|exact .inl rfl|exact .inr rfl|assumption) :
  qI X (.Name x pos) (gN i):=
 ⟨⟨_,qj hN hi hx hf,λW0 H0 W σ H ρ d v Q s r h=>h _<|s.set r⟩,λd ρ P P' hp h=>hp _ h,λd ρ P ho h=>⟨ho.set i d,h⟩⟩
end
noncomputable def Zcf(nv:Nat)(sel:List Nat)(ρ:cX):cX:=List.replicate nv .un++sel.map λj=>match ρ[j]? with|some (.d x)=>.d x|_=>.un
theorem Zcf.own(nv:Nat)(sel:List Nat)(ρ:cX):ZiQ (Zcf nv sel ρ):=λi=>by
 have key:∀sv,(Zcf nv sel ρ)[i]? = some sv->sv=.un\/∃x,sv=.d x:=λsv e=>by
  unfold Zcf at e;rcases jB i nv with h|h
  rw[j9<|by simpa using h,mI]at e;rw[if_pos h]at e;cases e;exact .inl rfl;rw[jY<|by simpa using h,cE]at e;cases q:sel[i-(List.replicate nv SV.un).length]? with
  |none=>rw[q]at e;cases e
  |some j=>rw[q]at e;have e':=O8 e;dsimp only at e';split at e';exact .inr ⟨_,e'.symm⟩;exact .inl e'.symm
 refine⟨λxs e=>?_,λxs e=>?_⟩;rcases key _ e with z|⟨x,z⟩<;>cases z
 rcases key _ e with z|⟨x,z⟩<;>cases z
def No:Ex->Prop:=λ_=>False
def lcW(g:WG)(wf:WT)(we:WE):List D->cX->List D->(List D->Prop)->Prop
 |[],_,acc,Q=>Q acc|d::ds,ρ,acc,Q=>g d ρ λρ2=>wf No ρ2 λb=>if b=true then we No ρ2 λy=>acc.length<aO/\lcW g wf we ds ρ2 (acc++[y]) Q else lcW g wf we ds ρ2 acc Q
structure uz(X:Cx)(EX:XK)(ifs:List Expr)(w:WT):Prop where
 t:∃t,PF X ifs t/\∀W0 H0 W σ H ρ E Q,SOk X.K W0 H0 W σ H ρ->jN X.K W0 H0 E EX->w E ρ (λb=>∀W' H',Ext W H W' H'->Q b H')->t σ H Q
 mono:∀E ρ P P',(∀d,P d->P' d)->w E ρ P->w E ρ P'
def dC:WT:=λ_ _ Q=>Q true
section
variable{vars:List Str}{sel:List Nat}{g:WG}
theorem gb:uz X EX [] dC:=⟨⟨_,Ji,λ_ _ W _ H _ _ _ s _ h=>h W H<|.refl s.ok⟩,λ_ _ _ _ hp h=>hp _ h⟩
theorem FE(h:jO X EX c wf):uz X EX [c] wf:=let⟨t,q,k⟩:=h.t;⟨⟨t,Jj q,k⟩,h.mono⟩
theorem lcW.mono(hg:∀d ρ P P',(∀r,P r->P' r)->g d ρ P->g d ρ P')(hf:∀E ρ P P',(∀d,P d->P' d)->wf E ρ P->wf E ρ P')(he:∀E ρ P P',(∀d,P d->P' d)->we E ρ P->we E ρ P') :
  ∀ds ρ acc P P',(∀xs,P xs->P' xs)->lcW g wf we ds ρ acc P->lcW g wf we ds ρ acc P'
 |[],_,acc,P,P',hp,h=>hp _ h
 | d::ds,ρ,acc,P,P',hp,h=>hg _ _ _ _ (λr hr=>hf _ _ _ _ (λb hb=>by
   cases b with
   |true=>rw[if_pos rfl]at hb ⊢;exact he _ _ _ _ (λy hy=>⟨hy.1,lcW.mono hg hf he ds r _ P P' hp hy.2⟩) hb
   |false=>rw[if_neg<|by decide]at hb ⊢;exact lcW.mono hg hf he ds r _ P P' hp hb) hr) h
def aLC(wi:WA)(nv:Nat)(sel:List Nat)(g:WG)(wf:WT)(we:WE):WA:=λE ρ Q=>wi E ρ λds=>lcW g wf we ds (Zcf nv sel ρ) [] Q
theorem aLC.mono(hi:mw X EX target iter wi)(hg:∀d ρ P P',(∀r,P r->P' r)->g d ρ P->g d ρ P')(hf:∀E ρ P P',(∀d,P d->P' d)->wf E ρ P->wf E ρ P')(he:∀E ρ P P',(∀d,P d->P' d)->we E ρ P->we E ρ P') :
  ∀E ρ P P',(∀d,P d->P' d)->aLC wi vars.length sel g wf we E ρ P->aLC wi vars.length sel g wf we E ρ P':=λE ρ P P' hp h=>hi.mono _ _ _ _ (λds hds=>lcW.mono hg hf he ds _ _ _ _ hp hds) h
theorem SOk.lc{W:Wd}(s:SOk X.K W0 H0 W σ H ρ)(nv:Nat)(sel:List Nat):SOk X.K W0 H0 W (ii nv sel σ) H (Zcf nv sel ρ) where
 ext:=s.ext
 len:=by unfold Zcf ii;simp
 d:=λi x e=>by
  unfold Zcf at e;rcases jB i nv with h|h
  rw[j9<|by simpa using h,mI]at e;split at e<;>cases e;rw[jY<|by simpa using h,cE,pY]at e;cases q:sel[i-nv]? with
  |none=>rw[q]at e;cases e
  |some j=>rw[q]at e;have e':=O8 e;dsimp only at e';split at e';rename_i y ey;cases e';obtain⟨v,ev,r⟩:=s.d j x ey;refine⟨v,?_,r⟩;unfold ii;rw[jY<|by simpa using h,pY,cE,q];show some ((σ[j]?).getD none)=_;rw[ev];rfl;cases e'
 o:=λi xs e=>O5 e<|(Zcf.own nv sel ρ i).1 xs
 ne:=λi j xs ys a _ e=>O5 e<|(Zcf.own nv sel ρ i).1 xs
 oo:=.none λi=>(Zcf.own nv sel ρ i).2
theorem SOk.chgD{W:Wd}{o':HO}(s:SOk K W0 H0 W σ H ρ)(ho:ZiQ ρ)(h0:H0 a=none)(h1:H a=some o)(h2:¬W.Pn a)(h3:W.G a=none):SOk K W0 H0 W σ (upd H a o') ρ:=
 ⟨s.ext.chg h0 h1 h2 h3,s.len,s.d,λi xs e=>O5 e<|(ho i).1 xs,λi j xs ys a _ e=>O5 e<|(ho i).1 xs,.none λi=>(ho i).2⟩
theorem Ct(hi:mw X EX target iter wi)(hg:∀s H fp,qI (X.lc sc vars sel s H fp) target g)(hf:∀s H fp,uz (X.lc sc vars sel s H fp) E0 ifs wf)(he:∀s H fp,PX (X.lc sc vars sel s H fp) E0 elt we) :
  ∃(ti:TI) (tg:TG) (tf:TT) (te:TE),PI X target iter ti/\(∀s H fp,PG (X.lc sc vars sel s H fp) target tg)/\(∀s H fp,PF (X.lc sc vars sel s H fp) ifs tf)/\(∀s H fp,PE (X.lc sc vars sel s H fp) elt te)/\
   ∀W0 H0 W σ H ρ E Q,SOk X.K W0 H0 W σ H ρ->jN X.K W0 H0 E EX->
    aLC wi vars.length sel g wf we E ρ (λds=>∀a vs W' H',Ext W H W' H'->H' a=some (.lst vs)->W'.G a=none->¬W'.Pn a->H a=none->Reps X.K W' vs ds->Q (.ref a) H')->BW ti vars.length sel tg tf te σ H Q:=by
 obtain⟨ti,pi,ki⟩:=hi.t;refine ⟨ti,λv σ H Q=>∃ W0 H0 W ρ d,SOk X.K W0 H0 W σ H ρ/\Rep X.K W v d/\g d ρ (λρ'=>∀ σ',SOk X.K W0 H0 W σ' H ρ'->Q σ' H),
  λσ H Q=>∃W0 H0 W ρ,SOk X.K W0 H0 W σ H ρ/\wf No ρ (λb=>∀W' H',Ext W H W' H'->Q b H'),
  λσ H Q=>∃W0 H0 W ρ,SOk X.K W0 H0 W σ H ρ/\we No ρ (RQ X.K W H Q),pi,λs1 H1 fp=>?_,λs1 H1 fp=>?_,λs1 H1 fp=>?_,?_⟩
 .obtain⟨t,q,k⟩:=(hg s1 H1 fp).t
  rintro pins s σ H v u Q I r ⟨W0,H0,W,ρ,d,s',r',h⟩;exact q pins s σ H v u Q I r<|k W0 H0 W σ H ρ d v Q s' r' h
 .obtain⟨t,q,k⟩:=(hf s1 H1 fp).t
  rintro pins s σ H Q I ⟨W0,H0,W,ρ,s',h⟩;exact q pins s σ H Q I<|k W0 H0 W σ H ρ No Q s' (λ_ _ _ _ _ z=>z.elim) h
 .obtain⟨t,q,k⟩:=(he s1 H1 fp).t
  rintro pins s σ H Q I ⟨W0,H0,W,ρ,s',h⟩;exact q pins s σ H Q I<|k W0 H0 W σ H ρ No Q s' (λ_ _ _ _ _ z=>z.elim) h
 .have gm:=(hg {} (λ_=>none) []).mono
  have go:=(hg {} (λ_=>none) []).own;have fm:=(hf {} (λ_=>none) []).mono;have em:=(he {} (λ_=>none) []).mono;intro W0 H0 W σ H ρ E Q s eo h;refine ki W0 H0 W σ H ρ E _ s eo<|hi.mono _ _ _ _ (λds hds W1 H1 J x1 it D hD=>?_) h;have hDf:=x1.ok.fresh hD;have hD0:H0 D=none:=s.ext.isN<|x1.isN hD;refine ⟨λi m ys σ2 H2=>m=ds.length - i/\i<=ds.length/\∃ W2 ρ2 acc,Ext W1 H1 W2 H2/\SOk X.K W0 H0 W2 σ2 H2 ρ2/\ZiQ ρ2/\H2 D=some (.lst ys)/\W2.G D=none/\¬ W2.Pn D/\Reps X.K W2 ys acc/\
   lcW g wf we (ds.drop i) ρ2 acc (λds=>∀a vs W' H',Ext W H W' H'->H' a=some (.lst vs)->W'.G a=none->¬W'.Pn a->H a=none->Reps X.K W' vs ds->Q (.ref a) H'),⟨_,rfl,kW _,W1,_,[],.new x1.ok hD,?_,Zcf.own _ _ ρ,aN,hDf.1,hDf.2,.nil,by rw[pZ];exact hds⟩,?_⟩
  .exact(((s.step x1).step<|.new x1.ok hD).lc vars.length sel)
  .rintro i m ys σ2 H2 ⟨rfl,hi',W2,ρ2,acc,x2,s2,no2,hD2,g2,p2,r2,q2⟩
   refine⟨hD2,?_⟩;obtain⟨itg,its⟩:=it W2 H2 i x2.g x2.p x2.ok;rcases jB i ds.length with hlt|hge
   .have hd:ds[i]? = some ds[i]:=cA hlt
    obtain⟨go',yl⟩:=itg _ hd;refine .inr ⟨go',λx H3 y=>?_⟩;obtain⟨W3,x3,r3⟩:=yl x H3 y;rw[uf hlt]at q2;have keepD:∀{W' H'},Ext W2 H2 W' H'->H' D=some (.lst ys)/\W'.G D=none/\¬W'.Pn D:=λ{W' H'} x'=>by
     refine⟨x'.h D _ hD2 p2,?_,λz=>?_⟩
     .cases q:W'.G D with|none=>rfl|some o=>have:=x'.gf D g2 (by rw[q];simp);rw[hD2]at this;cases this
     .have:=x'.pf D p2 z;rw[hD2]at this;cases this
    refine⟨W0,H0,W3,ρ2,ds[i],s2.step x3,r3,gm _ _ _ _ (λρ4 hr σ4 s4=>?_)<|go _ _ _ no2 q2⟩;obtain⟨no4,hr⟩:=hr;refine⟨W0,H0,W3,ρ4,s4,fm _ _ _ _ (λb hb W5 H5 x5=>?_) hr⟩;cases b with
    |false=>
     rw[if_neg<|by decide]at hb ⊢;have kD:=keepD<|x3.trans x5;exact⟨ds.length-(i+1),by omega,rfl,hlt,W5,ρ4,acc,x2.trans<|x3.trans x5,s4.step x5,no4,kD.1,kD.2.1,kD.2.2,(x3.trans x5).reps r2,hb⟩
    |true=>
     rw[if_pos rfl]at hb ⊢;refine⟨W0,H0,W5,ρ4,s4.step x5,em _ _ _ _ (λy hy v W6 H6 x6 r6=>?_) hb⟩;have xx:=x3.trans<|x5.trans x6;have kD:=keepD xx;have hl:ys.length=acc.length:=r2.length;refine⟨kD.1,by rw[hl];exact dG hy.1<|oj<|bS _,ds.length-(i+1),by omega,rfl,hlt,W6,ρ4,acc++[y],(x2.trans xx).chg hD kD.1 kD.2.2 kD.2.1,?_,no4,aN,kD.2.1,kD.2.2,(xx.reps r2).append<|.cons r6 .nil,hy.2⟩;exact((s4.step x5).step x6).chgD no4 hD0 kD.1 kD.2.2 kD.2.1
   .have e:i=ds.length:=by omega
    refine .inl ⟨its hge,?_⟩;rw[List.drop_of_length_le hge]at q2;exact q2 D ys W2 H2 (x1.trans x2) hD2 g2 p2 (x1.isN hD) r2
theorem gw(vars:List Str)(sel:List Nat)(hc:X.calm=true)(hi:mw X EX target iter wi)(hg:∀s H fp,qI (X.lc sc vars sel s H fp) target g)(hf:∀s H fp,uz (X.lc sc vars sel s H fp) E0 ifs wf)(he:∀s H fp,PX (X.lc sc vars sel s H fp) E0 elt we)
  (ok:mr sc X.env.scope=true:=by rfl) (so:tx X.N sc sel=true:=by rfl) (hs:∀x,foldedSetIterable iter X.env x=pure x:=by intro _;rfl):PXL X EX (.ListComp elt [⟨target,iter,ifs,0⟩] sc pos) (aLC wi vars.length sel g wf we):=by
 obtain⟨ti,tg,tf,te,pi,pg,pf,pe,k⟩:=Ct hi hg hf he;exact⟨⟨_,vO vars sel hc pi ok so pg pf pe hs,k⟩,aLC.mono hi (hg {} (λ_=>none) []).mono (hf {} (λ_=>none) []).mono (he {} (λ_=>none) []).mono⟩
theorem FF(i:Nat)(vars:List Str)(sel:List Nat)(hc:X.calm=true)(hN:X.N.Nodup)(hi:mw X EX target iter wi)(hg:∀s H fp,qI (X.lc sc vars sel s H fp) target g)(hf:∀s H fp,uz (X.lc sc vars sel s H fp) E0 ifs wf)(he:∀s H fp,PX (X.lc sc vars sel s H fp) E0 elt we)
  (hix:X.N[i]? = some x:=by rfl) (hx:mo X.env.scope x:=by first|exact Or.inl rfl|exact Or.inr rfl)
  (hsw:swapsWith (.ListComp elt [⟨target,iter,ifs,0⟩] sc pos) (some<|.Name x pos') spos.line X.env=pure true:=by rfl)
  (ok:mr sc X.env.scope=true:=by rfl) (so:tx X.N sc sel=true:=by rfl) (hs:∀x,foldedSetIterable iter X.env x=pure x:=by intro _;rfl) (hfn:X.fn x=true\/X.env.scope.names.lookup x=some .local:=by first|exact .inl rfl|exact .inr rfl|assumption) :
  PZ X EX (.Assign [.Name x pos'] (.ListComp elt [⟨target,iter,ifs,0⟩] sc pos) spos) (cH i<|aLC wi vars.length sel g wf we):=by
 obtain⟨ti,tg,tf,te,pi,pg,pf,pe,k⟩:=Ct hi hg hf he;have am:=aLC.mono (vars:=vars) (sel:=sel) hi (hg {} (λ_=>none) []).mono (hf {} (λ_=>none) []).mono (he {} (λ_=>none) []).mono;refine⟨⟨_,EV vars sel hc hN hix hx pi ok so pg pf pe hsw hs hfn,λW0 H0 F W σ H ρ E Dn N s fl eo no h=>?_⟩,λE ρ N N' hl q=>am _ _ _ _ (λ_=>hl.nx _) q⟩;refine k W0 H0 W σ H ρ E _ s eo<|am _ _ _ _ (λxs hd a vs W1 H1 x1 e1 e2 e3 e4 r1=>no.nx W1 _ H1 _ (s.own x1 e4 e1 e2 e3 r1) (fl.ext x1) hd) h
def ZbV(g:WG)(zb:WS)(E:Ex->Prop)(N:Nds):List D->cX->Prop
 |[],ρ=>N.nx ρ|d::ds,ρ=>g d ρ λρ1=>zb E { nx:=ZbV g zb E N ds,rt:=N.rt,bk:=N.nx,ct:=ZbV g zb E N ds } ρ1
def bN(wi:WA)(g:WG)(zb:WS):WS:=λE N ρ=>wi E ρ λds=>ZbV g zb E N ds ρ
theorem ZbV.mono{zb:WS}(hg:∀d ρ P P',(∀r,P r->P' r)->g d ρ P->g d ρ P')(hb:∀E ρ N N',N.le N'->zb E N ρ->zb E N' ρ){E:Ex->Prop}{N N':Nds}(hl:N.le N'):∀ds ρ,ZbV g zb E N ds ρ->ZbV g zb E N' ds ρ
 |[],ρ,h=>hl.nx _ h|d::ds,ρ,h=>hg _ _ _ _ (λr hr=>hb E r { nx:=ZbV g zb E N ds,rt:=N.rt,bk:=N.nx,ct:=ZbV g zb E N ds } _ ⟨ZbV.mono hg hb hl ds,hl.rt,hl.nx,ZbV.mono hg hb hl ds⟩ hr) h
theorem iw(hp:PassesOwn (model X.prog X.w) X.A X.env X.xe)(hc:X.calm=true)(hi:mw X EX target iter wi)(hg:qI X target g)(hb:jt X EX body zb)
  (hs:∀x,foldedSetIterable iter X.env x=pure x:=by intro _;rfl):PZ X EX (.For target iter body [] pos) (bN wi g zb):=by
 obtain⟨ti,pi,ki⟩:=hi.t;obtain⟨tg,pg,kg⟩:=hg.t;obtain⟨tb,pb,kb⟩:=hb.t;refine⟨⟨_,sQ hp hc pi pg pb hs,λW0 H0 F W σ H ρ E Dn N s fl eo no h=>?_⟩,λE ρ N N' hl q=>hi.mono _ _ _ _ (λds hds=>ZbV.mono hg.mono hb.mono hl ds ρ hds) q⟩;refine ki W0 H0 W σ H ρ E _ s eo<|hi.mono _ _ _ _ (λds hds W1 H1 J x1 it=>?_) h;refine⟨λi m σ2 H2=>m=ds.length-i/\i<=ds.length/\∃W2 ρ2,SOk X.K W0 H0 W2 σ2 H2 ρ2/\Wle W1 W2/\ZbV g zb E N (ds.drop i) ρ2,⟨_,rfl,kW _,W1,ρ,s.step x1,.refl W1,by rw[pZ];exact hds⟩,?_⟩;rintro i m σ2 H2 ⟨rfl,hi',W2,ρ2,s2,f2,q2⟩;obtain⟨itg,its⟩:=it W2 H2 i f2.g f2.p s2.ok;have fF:∀{V:Wd},Wle W1 V->Wle F V:=λf=>(fl.ext x1).trans f;rcases jB i ds.length with hlt|hge
 .have hd:ds[i]? = some ds[i]:=cA hlt
  obtain⟨go',yl⟩:=itg _ hd;rw[uf hlt]at q2;refine .inr ⟨go',λσ3 H3=>∃W3 ρ3,SOk X.K W0 H0 W3 σ3 H3 ρ3/\Wle W1 W3/\ZbV g zb E N (ds.drop<|i+1) ρ3,λσ3 H3 ⟨W3,ρ3,s3,f3,q3⟩=>⟨ds.length-(i+1),by omega,rfl,hlt,W3,ρ3,s3,f3,q3⟩,λx H3 y=>?_⟩;obtain⟨W3,x3,r3⟩:=yl x H3 y;refine kg W0 H0 W3 σ2 H3 ρ2 ds[i] x _ (s2.step x3) r3<|hg.mono _ _ _ _ (λρ4 hr σ4 s4=>?_) q2;refine kb W0 H0 W1 W3 σ4 H3 ρ4 E _ { nx:=ZbV g zb E N<|ds.drop<|i+1,rt:=N.rt,bk:=N.nx,ct:=ZbV g zb E N (ds.drop<|i+1) } s4 (f2.ext x3) eo ⟨λW5 σ5 H5 ρ5 s5 f5 h5=>⟨W5,ρ5,s5,f5,h5⟩,no.rt,λW5 σ5 H5 ρ5 s5 f5 h5=>no.nx W5 σ5 H5 ρ5 s5 (fF f5) h5,λW5 σ5 H5 ρ5 s5 f5 h5=>⟨W5,ρ5,s5,f5,h5⟩⟩ hr
 .have e:i=ds.length:=by omega
  refine .inl ⟨its hge,?_⟩;rw[List.drop_of_length_le hge]at q2;exact no.nx W2 σ2 H2 ρ2 s2 (fF f2) q2
end
def dY(N:List Str)(ds:List D):cX:=ds.map .d++List.replicate (N.length-ds.length) .un
abbrev Rd(S:List D->(Ex->Prop)->(D->Prop)->Prop)(z:WS)(N:List Str):Prop:=∀ds E Q,S ds E Q->z E { nx:=λ_=>Q .non,rt:=Q } (dY N ds)
theorem Cu{W:Wd}{N:List Str}(ok:WOk W H)(r:Reps K W vs ds):SOk K W H W (start N vs) H (dY N ds) where
 ext:=.refl ok
 len:=by unfold dY L2.start;simp[r.length]
 d:=λi x e=>by
  unfold dY at e;rcases jB i ds.length with h|h
  rw[j9<|by simpa using h,cE]at e;cases q:ds[i]? with
  |none=>rw[q]at e;cases e
  |some y=>rw[q]at e;cases e;obtain⟨v,ev,rv⟩:=r.get q;refine⟨v,?_,rv⟩;unfold L2.start;rw[j9 (by rw[bQ,r.length];exact h),cE,ev];rfl
  rw[jY<|by simpa using h,mI]at e;split at e<;>cases e
 o:=λi xs e=>by
  unfold dY at e;rcases jB i ds.length with h|h
  rw[j9<|by simpa using h,cE]at e;cases q:ds[i]? with
  |none=>rw[q]at e;cases e
  |some y=>rw[q]at e;cases e
  rw[jY<|by simpa using h,mI]at e;split at e<;>cases e
 ne:=λi j xs ys a _ e=>by
  unfold dY at e;rcases jB i ds.length with h|h
  rw[j9<|by simpa using h,cE]at e;cases q:ds[i]? with
  |none=>rw[q]at e;cases e
  |some y=>rw[q]at e;cases e
  rw[jY<|by simpa using h,mI]at e;split at e<;>cases e
 oo:=.none λi xs e=>by
  unfold dY at e;rcases jB i ds.length with h|h
  rw[j9<|by simpa using h,cE]at e;cases q:ds[i]? with
  |none=>rw[q]at e;cases e
  |some y=>rw[q]at e;cases e
  rw[jY<|by simpa using h,mI]at e;split at e<;>cases e
section
variable{w:World}
theorem tG{N:List Str}(F:Fun K x qual st f fd)(sc:bT N ps (aE st))(len:∀ds E Q,S ds E Q->ds.length=ps.length)
  (hbody:∀ (cdv:Value) (A:Around) (outer:List Env) (s:Shared) (H:Hp) (E:XK),Room k (A.deeper<|envOfC qual (aE st) s.heap.objs.size f cdv)->
   cF (c9 P w) (cR (c9 P w) P w K mg base N qual (aE st) f cdv A outer s H E) E->jg (cR (c9 P w) P w K mg base N qual (aE st) f cdv A outer s H E) E->
   jt (cR (c9 P w) P w K mg base N qual (aE st) f cdv A outer s H E) E (bB st) z)
  (h:∀ds E Q,S ds E Q->z E { nx:=λ_=>Q .non,rt:=Q } (dY N ds)):eD P w K mg base (c9 P w) (k+1) f fd ps (gT K S):=by
 obtain⟨oc,od,kV,doc,pm,an,cdv,ct,osl,rfl,lk,hcd⟩:=F.ex;refine na lk hcd sc (λvs H Q E hs=>?_) λA outer s H vs Q E hr hs=>?_
 .obtain⟨ds,W,_,r,hS⟩:=hs
  rw[r.length];exact len _ _ _ hS
 .obtain⟨ds,W,ok,r,hS⟩:=hs
  obtain⟨t,p,k⟩:=(hbody cdv A outer s H E hr EW EY).t;refine ⟨t,p,k W H W W (start N vs) H (dY N ds) (λex=>∀ W' H' cls dx,Ext W H W' H'->uv K W' H' cls dx ex->E cls dx H') _ { nx:=λ_=>RQ K W H Q .non,rt:=RQ K W H Q } (Cu ok r) (.refl W) (λex W' H' cls dx he x r=>he W' H' cls dx x r)
   ⟨λW1 σ1 H1 ρ1 s1 _ q=>q _ W1 H1 s1.ext .non,λd v W1 H1 x1 r1 q=>q v W1 H1 x1 r1,λ_ _ _ _ _ _ q=>q.elim,λ_ _ _ _ _ _ q=>q.elim⟩ (h ds _ _ hS)⟩
end
structure Fp(P:Program)(w:World)(K:O3)(mg:Str->Option Value)(base:Heap)(k:Nat)(x:Str)(ps:List Str)(S:bO):Prop where
 ok:∃f fd,eD P w K mg base (c9 P w) k f fd ps (gT K S)/\mg x=some (.ref f)/\PySem.W.keepIn K (.ref f)=true/\Binds K fd ps []
 mono:ol S
section
variable{p:Pos}{t:WA}
theorem aU(G:Fp X.prog X.w X.K X.mg X.base k x ps S)(hr:Room j X.A)(hx:cF (c9 X.prog X.w) X EX)(ha:jh X EX (e::es) t)(hk:k<=j:=by decide)(hg:Gl X x:=by rfl)(hdb:(x==("__debug__" : Str))=false:=by decide)(he:starEach (e::es) X.env=(false,eval e X.env)::starEach es X.env:=by rfl)(hpl:(backTo pos<|starEach es X.env).any (·.1)=false:=by rfl) :
  PX X EX (.Call (.Name x p) (e::es) [] pos) (wF S t):=by
 obtain⟨f,fd,F,hm,kp,hb⟩:=G.ok;exact Ks F G.mono (hr.mono hk) hm kp hb hx ha hg hdb he hpl
def bK(z:WS):WS:=λ_ N ρ=>z No N ρ
theorem gU(h:PZ X.nox E0 st z):PZ X EX st (bK z):=by obtain⟨t,p,k⟩:=h.t;refine⟨⟨t,λpins s σ H D I hw=>Ph (p pins s σ H D (I.wish _) hw) (λ_ _ q=>q.unwish) λ_ _ z=>Pi z,λW0 H0 F W σ H ρ E Dn N s fl eo no q=>k W0 H0 F W σ H ρ No Dn N s fl (λ_ _ _ _ _ z=>z.elim) no q⟩,λE ρ N N' hl q=>h.mono _ _ _ _ hl q⟩
end
section
variable{p:Pos}{a b:Expr}
def isS(Q:List D->Prop):D->Prop
 |.lst xs=>Q xs|.tup xs=>Q xs|_=>False
theorem isS.mono{Q:List D->Prop}(h:∀b,Q b->Q' b):∀d,isS Q d->isS Q' d:=λd z=>by cases d<;>first|exact h _ z|exact z
def iS(w:WE):WA:=λE ρ Q=>w E ρ<|isS Q
theorem jQ(he:PX X EX e w):mw X EX tg e (iS w):=by
 obtain⟨t,q,k⟩:=he.t;refine⟨⟨_,Jx q,λW0 H0 W σ H ρ E R s eo h=>?_⟩,λE ρ P P' hp h=>he.mono _ _ _ _ (isS.mono hp) h⟩;refine k W0 H0 W σ H ρ E _ s eo<|he.mono _ _ _ _ (λd hd v W1 H1 x1 r1=>?_) h;have keyT:∀{l:Addr} {vs:List V} {xs:List D},(∀W' H' J,Ext W H W' H'->qH X.K W' J xs->R J H')->(∀W2 H2,(∀a o,W1.G a=some o->W2.G a=some o)->WOk W2 H2->SqT X.K H2 l vs)->Reps X.K W1 vs xs->(∃ys,SqT X.K H1 l ys)/\R (BI X.K l) H1:=by intro l vs xs hq sq rr;refine⟨⟨vs,sq W1 H1 (λ_ _ z=>z) x1.ok⟩,hq W1 H1 _ x1 λW2 H2 i g2 p2 ok2=>⟨λd hd=>?_,λhi=>⟨vs,sq W2 H2 g2 ok2,by rw[rr.length];exact hi⟩⟩⟩;obtain⟨v,ev,rv⟩:=rr.get hd;refine⟨⟨vs,v,sq W2 H2 g2 ok2,ev⟩,λx H3 y=>?_⟩;obtain⟨rfl,y⟩:=y;have:=y vs<|sq W2 _ g2 ok2;rw[ev]at this;cases this;exact⟨W2,.refl ok2,rv.mono g2 p2⟩
 cases r1 with
 | @lst l vs xs e1 rr=>have hq:∀W' H' J,Ext W H W' H'->qH X.K W' J xs->R J H':=hd;refine⟨l,rfl,.inl ⟨⟨vs,SqL.of<|x1.ok.g _ _ e1⟩,hq W1 H1 _ x1 λW2 H2 i g2 p2 ok2=>⟨λd hd=>?_,λhi=>⟨vs,SqL.of<|ok2.g _ _<|g2 _ _ e1,by rw[rr.length];exact hi⟩⟩⟩⟩;obtain⟨v,ev,rv⟩:=rr.get hd;have sq:SqL X.K H2 l vs:=SqL.of<|ok2.g _ _ (g2 _ _ e1);refine⟨⟨vs,v,sq,ev⟩,λx H3 y=>?_⟩;obtain⟨rfl,y⟩:=y;have:=y vs sq;rw[ev]at this;cases this;exact⟨W2,.refl ok2,rv.mono g2 p2⟩
 |tup e1 rr=>exact⟨_,rfl,.inr<|keyT hd (λW2 H2 g2 ok2=>SqT.of<|ok2.g _ _<|g2 _ _ e1) rr⟩|ktup e1 rr=>exact⟨_,rfl,.inr<|keyT hd (λW2 H2 g2 ok2=>.inr e1) rr⟩|non=>exact hd.elim|bl _=>exact hd.elim|int _=>exact hd.elim|str _=>exact hd.elim|dic _=>exact hd.elim|pen _=>exact hd.elim|cls _=>exact hd.elim|exc _ _=>exact hd.elim|ty _=>exact hd.elim|scr _ _=>exact hd.elim
theorem mx(hm:X.mg x=none)(hv:bootBuiltins x=some (.type T))(hg:Gl X x:=by rfl)(hn:x≠ "__name__" :=by decide)(hd:(x==("__debug__" : Str))=false:=by decide):PX X EX (.Name x pos) (wC<|.ty T):=
 Zq (v:=.ty T) hm hv rfl (λ_=>.ty T) hg hn hd
theorem KG{i:Int}{t:Tok}(hm:X.mg x=some (.int i t))(hg:Gl X x:=by rfl)(hd:(x==("__debug__" : Str))=false:=by decide):PX X EX (.Name x pos) (wC<|.int i):=
 Cm (v:=.int i) hm ⟨t,rfl⟩ (λ_=>.int i) hg hd
theorem KH{a:Addr}(hm:X.mg x=some (.ref a))(hk:KT X.K a vs)(hr:∀W,Reps X.K W vs ds)(hg:Gl X x:=by rfl)(hd:(x==("__debug__" : Str))=false:=by decide):PX X EX (.Name x pos) (wC<|.tup ds):=
 Cm (v:=.ref a) hm rfl (λW=>.ktup hk<|hr W) hg hd
end
theorem KI{neg:Bool}{i j:Int}(h:Q (.bl (if neg then !(i==j) else i==j))):gEq neg (.int i) (.int j) Q:=by refine⟨.int i,.int j,rfl,rfl,rfl,rfl,?_⟩;exact h
theorem kM{neg:Bool}{i j:Int}:gEq neg (.int i) (.int j) Q↔Q (.bl (if neg then !(i==j) else i==j)):=
 ⟨λ⟨p,q,h1,h2,_,_,h⟩=>by cases h1;cases h2;exact h,KI⟩
section
variable{a b:Expr}{g:WG}
abbrev rE:=List D->cX->(cX->Prop)->Prop
structure qJ(X:Cx)(ts:List Expr)(g:rE):Prop where
 t:∃t,vq X ts t/\∀W0 H0 W σ H ρ ds vs Q,SOk X.K W0 H0 W σ H ρ->Reps X.K W vs ds->g ds ρ (λρ'=>∀σ',SOk X.K W0 H0 W σ' H ρ'->Q σ' H)->t vs σ H Q
 mono:∀d ρ P P',(∀r,P r->P' r)->g d ρ P->g d ρ P'
 own:∀d ρ P,ZiQ ρ->g d ρ P->g d ρ (λr=>ZiQ r/\P r)
def e8:rE:=λds ρ k=>match ds with|[]=>k ρ|_=>False
def dh(g:WG)(gs:rE):rE:=λds ρ k=>match ds with
 |d::ds=>g d ρ λρ'=>gs ds ρ' k
 |_=>False
theorem lj:qJ X [] e8:=by
 refine⟨⟨_,k6,λW0 H0 W σ H ρ ds vs Q s r h=>?_⟩,λd ρ P P' hp h=>?_,λd ρ P ho h=>?_⟩;cases r with
 |nil=>exact⟨rfl,h σ s⟩|cons _ _=>exact h.elim
 cases d with
 |nil=>exact hp _ h|cons _ _=>exact h.elim
 cases d with
 |nil=>exact⟨ho,h⟩|cons _ _=>exact h.elim
theorem fP{gs:rE}(h1:qI X e g)(h2:qJ X es gs)(hs:(assignEach (e::es) X.env).map (·.2)=assign e X.env::(assignEach es X.env).map (·.2):=by rfl):qJ X (e::es) (dh g gs):=by
 obtain⟨t1,p1,k1⟩:=h1.t;obtain⟨t2,p2,k2⟩:=h2.t;refine⟨⟨_,gM p1 p2 hs,λW0 H0 W σ H ρ ds vs Q s r h=>?_⟩,λd ρ P P' hp h=>?_,λd ρ P ho h=>?_⟩;cases r with
 |nil=>exact h.elim|cons r rr=>exact⟨_,_,rfl,k1 W0 H0 W σ H ρ _ _ _ s r<|h1.mono _ _ _ _ (λρ' h' σ' s'=>k2 W0 H0 W σ' H ρ' _ _ Q s' rr h') h⟩
 cases d with
 |nil=>exact h.elim|cons d ds=>exact h1.mono _ _ _ _ (λr hr=>h2.mono _ _ _ _ hp hr) h
 cases d with
 |nil=>exact h.elim|cons d ds=>exact h1.mono _ _ _ _ (λr hr=>h2.own _ _ _ hr.1 hr.2)<|h1.own _ _ _ ho h
def fg(n:Nat)(gs:rE):WG:=λd ρ k=>match d with|.tup xs=>xs.length=n/\gs xs ρ k|_=>False
theorem lr{gs:rE}(hc:X.calm=true)(h:qJ X es gs)(hn:(assignEach es X.env).length=n:=by rfl)(hst:(assignEach es X.env).findIdx? (·.1)=none:=by rfl):qI X (.Tuple es k pos) (fg n gs):=by obtain⟨t,p,kk⟩:=h.t;refine⟨⟨_,mS hc p hn hst,λW0 H0 W σ H ρ d v Q s r q=>?_⟩,λd ρ P P' hp q=>?_,λd ρ P ho q=>?_⟩;unfold fg at q;split at q;obtain⟨a,vs,rfl,h1,rr⟩:=r.sqt s.ok;exact⟨a,vs,rfl,h1,rr.length.trans q.1,kk W0 H0 W σ H ρ _ _ Q s rr q.2⟩;exact q.elim;unfold fg at q ⊢;split at q;exact⟨q.1,h.mono _ _ _ _ hp q.2⟩;exact q.elim;unfold fg at q ⊢;split at q;exact⟨q.1,h.own _ _ _ ho q.2⟩;exact q.elim
def eQ(w:WE)(g:WG):WS:=λE N ρ=>w E ρ λd=>g d ρ N.nx
theorem FG(he:PX X EX e w)(hg:qI X tg g)(hs:swapsWithSole [tg] e pos.line X.env=pure false:=by rfl)(hw:swappedStores [tg] e X.env=pure none:=by rfl)
  (h1:(assignEach [tg] X.env).map (·.2)=[assign tg X.env]:=by rfl):PZ X EX (.Assign [tg] e pos) (eQ w g):=by
 obtain⟨t,p,k⟩:=he.t;obtain⟨t2,p2,k2⟩:=hg.t;refine⟨⟨_,i4 p p2 hs hw h1,λW0 H0 F W σ H ρ E Dn N s fl eo no h=>?_⟩,λE ρ N N' hl q=>he.mono _ _ _ _ (λd hd=>hg.mono _ _ _ _ hl.nx hd) q⟩;refine k W0 H0 W σ H ρ E _ s eo<|he.mono _ _ _ _ (λd hd v W1 H1 x1 r1=>?_) h;exact k2 W0 H0 W1 σ H1 ρ d v _ (s.step x1) r1<|hg.mono _ _ _ _ (λρ' h' σ' s'=>no.nx W1 σ' H1 ρ' s' (fl.ext x1) h') hd
def eR(i j:Nat)(t:WA):WS:=λE N ρ=>t E ρ λds=>match ds with
 |[x,y]=>N.nx<|(ρ.set i<|.d x).set j (.d y)
 |_=>False
theorem Cv(i j:Nat){y:Str}{t:WA}{px py pt:Pos}{kt k2 pt2}(hN:X.N.Nodup)(ha:jh X EX [a,b] t)(hc:X.calm=true:=by rfl)(hi:X.N[i]? = some x:=by rfl)(hj:X.N[j]? = some y:=by rfl)(hij:i≠j:=by decide)
  (hx:X.env.scope.names.lookup x=some .local:=by rfl) (hy:X.env.scope.names.lookup y=some .local:=by rfl)
  (hw:swappedStores [.Tuple [.Name x px,.Name y py] kt pt] (.Tuple [a,b] k2 pt2) X.env=pure (some [x,y]):=by rfl)
  (hs:swapsWithSole [.Tuple [.Name x px,.Name y py] kt pt] (.Tuple [a,b] k2 pt2) pos.line X.env=pure false:=by rfl) :
  PZ X EX (.Assign [.Tuple [.Name x px,.Name y py] kt pt] (.Tuple [a,b] k2 pt2) pos) (eR i j t):=by
 obtain⟨ta,p,k⟩:=ha.t;refine⟨⟨_,sL hc hN hi hj hij hx hy p hw hs,λW0 H0 F W σ H ρ E Dn N s fl eo no h=>?_⟩,λE ρ N N' hl q=>ha.mono _ _ _ _ (λds hd=>?_) q⟩
 .refine k W0 H0 W σ H ρ E _ s eo (ha.mono _ _ _ _ (λds hd vs W1 H1 x1 r1=>?_) h)
  split at hd
  .obtain⟨v,u,rfl,rv,ru⟩:=r1.two
   exact⟨v,u,rfl,no.nx W1 _ H1 _ (((s.step x1).set rv).set ru) (fl.ext x1) hd⟩
  .exact hd.elim
 .split at hd
  .exact hl.nx _ hd
  .exact hd.elim
def Cw(c:WT)(zb:WS):WS:=λE N ρ=>∃I:Nat->cX->Prop,(∃m,I m ρ)/\∀m ρ,I m ρ->c E ρ λb=>
 if b=true then zb E { nx:=λρ'=>∃m',m'<m/\I m' ρ',rt:=N.rt,bk:=N.nx,ct:=λρ'=>∃m',m'<m/\I m' ρ' } ρ else N.nx ρ
theorem FH(hp:PassesOwn (model X.prog X.w) X.A X.env X.xe)(hc:jO X EX c wt)(hb:jt X EX body zb):PZ X EX (.While c body [] pos) (Cw wt zb):=by
 obtain⟨tc,pc,kc⟩:=hc.t;obtain⟨tb,pb,kb⟩:=hb.t;refine⟨⟨_,mT hp pc pb,λW0 H0 F W σ H ρ E Dn N s fl eo no h=>?_⟩,λE ρ N N' hl q=>?_⟩;obtain⟨I,⟨m0,i0⟩,turn⟩:=h;refine⟨λm σ H=>∃W ρ,SOk X.K W0 H0 W σ H ρ/\Wle F W/\I m ρ,⟨m0,W,ρ,s,fl,i0⟩,?_⟩;rintro m σ2 H2 ⟨W2,ρ2,s2,f2,i2⟩;refine kc W0 H0 W2 σ2 H2 ρ2 E _ s2 eo<|hc.mono _ _ _ _ (λb hb' W3 H3 x3=>?_) (turn m ρ2 i2);cases b with
 |true=>
  rw[if_pos rfl]at hb' ⊢;refine⟨λσ4 H4=>∃m',m'<m/\∃W ρ,SOk X.K W0 H0 W σ4 H4 ρ/\Wle F W/\I m' ρ,λσ4 H4 ⟨m',hm,q⟩=>⟨m',hm,q⟩,?_⟩;exact kb W0 H0 F W3 σ2 H3 ρ2 E _ { nx:=λρ'=>∃m',m'<m/\I m' ρ',rt:=N.rt,bk:=N.nx,ct:=λρ'=>∃m',m'<m/\I m' ρ' } (s2.step x3) (f2.ext x3) eo
   ⟨λW5 σ5 H5 ρ5 s5 f5 ⟨m',hm,q⟩=>⟨m',hm,W5,ρ5,s5,f5,q⟩,no.rt,λW5 σ5 H5 ρ5 s5 f5 q=>no.nx W5 σ5 H5 ρ5 s5 f5 q,λW5 σ5 H5 ρ5 s5 f5 ⟨m',hm,q⟩=>⟨m',hm,W5,ρ5,s5,f5,q⟩⟩ hb'
 |false=>rw[if_neg<|by decide]at hb' ⊢;exact no.nx W3 σ2 H3 ρ2 (s2.step x3) (f2.ext x3) hb'
 obtain⟨I,i0,turn⟩:=q;refine⟨I,i0,λm ρ i=>hc.mono _ _ _ _ (λb hb'=>?_)<|turn m ρ i⟩;cases b with
 |true=>rw[if_pos rfl]at hb' ⊢;exact hb.mono E ρ { nx:=λρ'=>∃m',m'<m/\I m' ρ',rt:=N.rt,bk:=N.nx,ct:=λρ'=>∃m',m'<m/\I m' ρ' } _ ⟨λ_ z=>z,hl.rt,hl.nx,λ_ z=>z⟩ hb'|false=>rw[if_neg<|by decide]at hb' ⊢;exact hl.nx _ hb'
theorem KJ{tc:TT}(hc:PT X c tc)(hs:exec (.Assert c none pos) X.env=(do standAt pos;if<-isTrue c X.env (eval c X.env) then pure .next else assertFails c.pos (evalOpt none X.env)):=by rfl):PS X (.Assert c none pos) (λD σ H=>tc σ H λb H1=>b=true/\D.nx σ H1):=by intro pins s σ H D I h;rw[hs];refine O2<|Pp (O2<|bL (hc pins s σ H _ I h) λb s1 ⟨H1,I1,e,q⟩=>?_);subst e;rw[if_pos rfl];exact O4 ⟨σ,H1,I1,q⟩
def lu(c:WT):WS:=λE N ρ=>c E ρ λb=>b=true/\N.nx ρ
theorem KK(hc:jO X EX c wt)(hs:exec (.Assert c none pos) X.env=(do standAt pos;if<-isTrue c X.env (eval c X.env) then pure .next else assertFails c.pos (evalOpt none X.env)):=by rfl):PZ X EX (.Assert c none pos) (lu wt):=by obtain⟨tc,pc,kc⟩:=hc.t;refine⟨⟨_,KJ pc hs,λW0 H0 F W σ H ρ E Dn N s fl eo no h=>?_⟩,λE ρ N N' hl q=>hc.mono _ _ _ _ (λb hb=>⟨hb.1,hl.nx _ hb.2⟩) q⟩;exact kc W0 H0 W σ H ρ E _ s eo<|hc.mono _ _ _ _ (λb hb W1 H1 x1=>⟨hb.1,no.nx W1 σ H1 ρ (s.step x1) (fl.ext x1) hb.2⟩) h
def cO(i:Nat)(w:WE):WS:=λE N ρ=>match ρ[i]? with
 |some (.ow xs)=>w E ρ λd=>xs.length<aO/\N.nx (ρ.set i<|.ow<|xs++[d])
 |_=>False
theorem tH(i:Nat){p:Pos}(he:PX X EX e w)(hN:X.N[i]? = some x:=by rfl)(hv:kX X.env.scope x:=by first|exact Or.inl rfl|exact Or.inr (Or.inl rfl)|exact Or.inr<|Or.inr rfl)(hd:(x==("__debug__" : Str))=false:=by decide)
  (hcd:(x==("__classdict__" : Str))=false:=by decide) (hbase:attributeBase (.Name x p) "append" X.env (eval (.Name x p) X.env)=eval (.Name x p) X.env:=by rfl)
  (hfew:((backTo cpos<|starEach [e] X.env).all (λx=>!x.1)&&(backToKw cpos<|keywordEach [] X.env).all (λx=>x.1.isSome)&&decide ([e].length+([]:List Keyword).length+(if([]:List Keyword).isEmpty then 0 else 1)<30))=true:=by rfl)
  (hline:(apos.endLine==cpos.line)=true:=by rfl) (hs:starEach [e] X.env=(false,eval e X.env)::starEach [] X.env:=by rfl) (hplain:(backTo cpos<|starEach [] X.env).any (·.1)=false:=by rfl)
  (hsw:swapsWith (.Call (.Attribute (.Name x p) "append" apos) [e] [] cpos) none pos.line X.env=pure false:=by rfl):PZ X EX (.Expr (.Call (.Attribute (.Name x p) "append" apos) [e] [] cpos) pos) (cO i w):=by
 obtain⟨t,pe,k⟩:=he.t;refine⟨⟨_,kY (rp PySem.F.plainAttrs_list PySem.F.slot_list_append PySem.F.type_list_append lJ (df hN hv hd hcd) (i7 pe ky hs) hbase hfew hline hs hplain) hsw,λW0 H0 F W σ H ρ E Dn N s fl eo no h=>?_⟩,λE ρ N N' hl q=>?_⟩
 .unfold cO at h
  split at h
  .rename_i xs ex
   obtain⟨a,vs,e1,e2,e3,e4,e5,r⟩:=s.o i xs ex;refine⟨_,e1,.inl ⟨rfl,vs,SqL.of e2⟩,?_⟩;refine k W0 H0 W σ H ρ E _ s eo<|he.mono _ _ _ _ (λd hd v W1 H1 x1 r1=>?_) h;have e2':=x1.h a _ e2 e4;refine⟨a,vs,v,rfl,rfl,e2',by rw[r.length];exact dG hd.1<|oj<|bS _,?_⟩;exact no.nx W1 σ _ _ ((s.step x1).chg ex e1<|(x1.reps r).append<|.cons r1 .nil) (fl.ext x1) hd.2
  .exact h.elim
 .unfold cO at q ⊢
  split at q
  .exact he.mono _ _ _ _ (λd hd=>⟨hd.1,hl.nx _ hd.2⟩) q
  .exact q.elim
end
variable{gs:rE}
section
variable{p ps:Pos}{a b:Expr}
theorem Rep.sq{W:Wd}{v:V}{Q:List D->Prop}(r:Rep K W v d)(h:isS Q d):∃κ l vs xs,v=.ref l/\Reps K W vs xs/\Q xs/\∀W2 H2,(∀a o,W.G a=some o->W2.G a=some o)->WOk W2 H2->Sq K κ H2 l vs:=by
 cases r with
 |lst e1 rr=>exact⟨false,_,_,_,rfl,rr,h,λW2 H2 g ok=>SqL.of<|ok.g _ _<|g _ _ e1⟩|tup e1 rr=>exact⟨true,_,_,_,rfl,rr,h,λW2 H2 g ok=>SqT.of<|ok.g _ _<|g _ _ e1⟩|ktup e1 rr=>exact⟨true,_,_,_,rfl,rr,h,λW2 H2 g ok=>.inr e1⟩|_=>exact h.elim
def dH(xs ys:List D):List D:=List.zipWith (λx y=>.tup [x,y]) xs ys
def iZ(t:WA):WA:=λE ρ Q=>t E ρ λds=>match ds with|[x,y]=>isS (λxs=>isS (λys=>Q<|dH xs ys) y) x|_=>False
theorem Cy{t:WA}(hm:X.mg "zip" = none)(ha:jh X EX [a,b] t)(hg:Gl X "zip" :=by rfl)(hs:starEach [a,b] X.env=[(false,eval a X.env),(false,eval b X.env)]:=by rfl)(hs2:starEach [b] X.env=[(false,eval b X.env)]:=by rfl) :
  mw X EX (.Tuple es n1 ps) (.Call (.Name "zip" p) [a,b] [] pos) (iZ t):=by
 obtain⟨t,q,k⟩:=ha.t;refine⟨⟨_,JE hg hm q hs hs2,λW0 H0 W σ H ρ E R s eo h=>?_⟩,λE ρ P P' hp h=>ha.mono _ _ _ _ (λds hd=>?_) h⟩
 .refine k W0 H0 W σ H ρ E _ s eo (ha.mono _ _ _ _ (λds hd vs W1 H1 x1 r1=>?_) h)
  split at hd
  .obtain⟨v,u,rfl,rv,ru⟩:=r1.two
   obtain⟨κ,l,vs,xs,rfl,rr,hd,sq⟩:=rv.sq hd;obtain⟨κ',l',us,ys,rfl,rr',hd,sq'⟩:=ru.sq hd;refine⟨κ,κ',l,l',rfl,⟨vs,sq W1 H1 (λ_ _ z=>z) x1.ok⟩,⟨us,sq' W1 H1 (λ_ _ z=>z) x1.ok⟩,hd W1 H1 _ x1 λW2 H2 i g2 p2 ok2=>⟨λd hd=>?_,λhi=>?_⟩⟩
   .have s1:=sq W2 H2 g2 ok2
    have s2:=sq' W2 H2 g2 ok2;unfold dH at hd;rw[List.getElem?_zipWith]at hd;cases ex:xs[i]? with
    |none=>rw[ex]at hd;cases hd
    |some x=>
     cases ey:ys[i]? with
     |none=>rw[ex,ey]at hd;cases hd
     |some y=>
      rw[ex,ey]at hd;cases hd;obtain⟨vx,evx,rvx⟩:=rr.get ex;obtain⟨vy,evy,rvy⟩:=rr'.get ey;refine⟨⟨vs,us,vx,vy,s1,s2,evx,evy⟩,λz H3 hy=>?_⟩;obtain⟨q,x',y',rfl,hq,rfl,e1,e2⟩:=hy;have e1:=e1 _ s1;have e2:=e2 _ s2;rw[evx]at e1;rw[evy]at e2;cases e1;cases e2;have xt:=Ext.put (o:=.tup [vx,vy]) ok2 hq;exact⟨_,xt,.tup (by unfold Wd.put;dsimp only;rw[aN])<|.cons (xt.rep<|rvx.mono g2 p2)<|.cons (xt.rep<|rvy.mono g2 p2) .nil⟩
   .refine⟨vs,us,sq W2 H2 g2 ok2,sq' W2 H2 g2 ok2,?_⟩
    rw[rr.length,rr'.length];unfold dH at hi;rw[mK]at hi;omega
  .exact hd.elim
 .split at hd
  .exact isS.mono (λxs h1=>isS.mono (λys h2=>hp _ h2) _ h1) _ hd
  .exact hd.elim
def iQ(i:Nat)(wi wv:WE):WS:=λE N ρ=>match ρ[i]? with
 |some (.ow xs)=>wv E ρ λd=>wi E ρ (isI λk=>∃j,jK xs.length k=some j/\N.nx (ρ.set i<|.ow<|xs.set j d))
 |_=>False
theorem Zl(i:Nat){wi:WE}{ix:Expr}(hix:PX X EX ix wi)(he:PX X EX e wv)(hN:X.N[i]? = some x:=by rfl)(hv:kX X.env.scope x:=by first|exact Or.inl rfl|exact Or.inr (Or.inl rfl)|exact Or.inr<|Or.inr rfl)(hd:(x==("__debug__" : Str))=false:=by decide)
  (hcd:(x==("__classdict__" : Str))=false:=by decide)
  (ha:∀ v,assign (.Subscript (.Name x p) ix spos) X.env v=(do
   let ov <-holding [v] (eval (.Name x p) X.env)
   let iv <-holding [v,ov] (eval ix X.env)
   standAt spos
   holding [v,ov,iv] (setItem ov iv v)
   release [v,ov,iv] []):=by intro _;rfl)
  (hs:swapsWithSole [.Subscript (.Name x p) ix spos] e pos.line X.env=pure false:=by rfl) (hw:swappedStores [.Subscript (.Name x p) ix spos] e X.env=pure none:=by rfl)
  (h1:(assignEach [.Subscript (.Name x p) ix spos] X.env).map (·.2)=[assign (.Subscript (.Name x p) ix spos) X.env]:=by rfl):PZ X EX (.Assign [.Subscript (.Name x p) ix spos] e pos) (iQ i wi wv):=by
 obtain⟨t,pe,k⟩:=he.t;obtain⟨ti,pi,ki⟩:=hix.t;refine⟨⟨_,i4 pe (iY (df hN hv hd hcd) pi fw ha) hs hw h1,λW0 H0 F W σ H ρ E Dn N s fl eo no h=>?_⟩,λE ρ N N' hl q=>?_⟩
 .unfold iQ at h
  split at h
  .rename_i xs ex
   obtain⟨a,vs,e1,e2,e3,e4,e5,r⟩:=s.o i xs ex;refine k W0 H0 W σ H ρ E _ s eo<|he.mono _ _ _ _ (λd hd v W1 H1 x1 r1=>⟨_,e1,?_⟩) h;refine ki W0 H0 W1 σ H1 ρ E _ (s.step x1) eo<|hix.mono _ _ _ _ (λdi hdi vi W2 H2 x2 r2=>?_) hd;obtain⟨kk,rfl,j,hj,hn⟩:=om hdi;cases r2;have xx:=x1.trans x2;have e2':=xx.h a _ e2 e4;refine⟨a,vs,kk,j,rfl,rfl,e2',by rw[r.length];exact hj,?_⟩;exact no.nx W2 σ _ _ ((s.step xx).chg ex e1<|Reps.set (x2.rep r1) j<|xx.reps r) (fl.ext xx) hn
  .exact h.elim
 .unfold iQ at q ⊢
  split at q
  .exact he.mono _ _ _ _ (λd hd=>hix.mono _ _ _ _ (isI.mono λkk ⟨j,hj,hn⟩=>⟨j,hj,hl.nx _ hn⟩) hd) q
  .exact q.elim
end
mutual
def fW:D->Bool
 |.lst _=>false|.scr _=>false|.dic=>false|.tup xs=>lX xs|.non=>true|.bl _=>true|.int _=>true|.str _=>true|.pen=>true|.cls _=>true|.exc _=>true|.ty _=>true
def lX:List D->Bool
 |[]=>true|x::r=>fW x&&lX r
end
def Wd.rem(W:Wd)(a:Addr):Wd:=⟨λb=>if b=a then none else W.G b,W.Pn⟩
section
variable{W:Wd}
theorem Wd.rem_ne{b:Addr}(h:b≠a):(W.rem a).G b=W.G b:=by unfold Wd.rem;dsimp only;rw[if_neg h]
theorem Wd.rem_same:(W.rem a).G a=none:=by unfold Wd.rem;dsimp only;rw[if_pos rfl]
mutual
theorem Rep.rem(h:W.G a=some (.lst us)):∀{v:V} {d:D},Rep K W v d->fW d=true->Rep K (W.rem a) v d
 |_,_,.non,_=>.non|_,_,.bl b,_=>.bl b|_,_,.int i,_=>.int i|_,_,.str x,_=>.str x|_,_,.tup e r,f=>.tup (by rw[Wd.rem_ne (λz=>by rw[z,h]at e;cases e)];exact e)<|Reps.rem h r (by rw[fW]at f;exact f)
 |_,_,.ktup e r,f=>.ktup e<|Reps.rem h r (by rw[fW]at f;exact f)
 |_,_,.lst e r,f=>by rw[fW]at f;cases f
 |_,_,.scr e r,f=>by rw[fW]at f;cases f
 |_,_,.dic e,f=>by rw[fW]at f;cases f
 |_,_,.pen e,_=>.pen e|_,_,.cls e,_=>.cls e|_,_,.exc e n x,_=>.exc (by rw[Wd.rem_ne (λz=>by rw[z,h]at e;cases e)];exact e) n λc f k q=>let⟨d,e1,e2⟩:=x c f k q;⟨d,e1,by rw[Wd.rem_ne (λz=>by rw[z,h]at e2;cases e2)];exact e2⟩
 |_,_,.ty n,_=>.ty n
theorem Reps.rem(h:W.G a=some (.lst us)):∀{vs:List V} {ds:List D},Reps K W vs ds->lX ds=true->Reps K (W.rem a) vs ds
 |_,_,.nil,_=>.nil|_,_,.cons r t,f=>by rw[lX,cV]at f;exact .cons (Rep.rem h r f.1)<|Reps.rem h t f.2
end
theorem Ext.bor(x:Ext (W.put a<|.lst us) H W2 H2)(hg:W.G a=none):Ext W H (W2.rem a) H2 where
 ok:=⟨λb o e=>by
   by_cases hb:b=a
   .subst hb;rw[Wd.rem_same]at e;cases e
   .rw[Wd.rem_ne hb]at e;exact x.ok.g b o e,
  λb hb=>⟨(x.ok.p b hb).1,by
   by_cases hba:b=a
   .subst hba;exact Wd.rem_same
   .rw[Wd.rem_ne hba];exact(x.ok.p b hb).2⟩⟩
 g:=λb o e=>by
  have hb:b≠a:=λz=>by rw[z,hg]at e;cases e
  rw[Wd.rem_ne hb];exact x.g b o (by unfold Wd.put;dsimp only;rw[aJ hb];exact e)
 p:=x.p
 gf:=λb e n=>by by_cases hb:b=a;subst hb;exact O5 Wd.rem_same n;rw[Wd.rem_ne hb]at n;exact x.gf b (by unfold Wd.put;dsimp only;rw[aJ hb];exact e) n
 pf:=x.pf
 h:=x.h
theorem SOk.pubAt(s:SOk K W0 H0 W σ H ρ)(e:ρ[i]? = some (.ow xs))(e1:σ[i]? = some (some<|V.ref a))(e2:H a=some (.lst us))(e3:W.G a=none)(e4:¬W.Pn a)(e5:H0 a=none)(r:Reps K W us xs) :
  SOk K W0 H0 (W.put a<|.lst us) σ H (LP.pub i ρ):=by
 have ep:LP.pub i ρ=ρ.set i (.d<|.lst xs):=by unfold LP.pub;rw[e]
 rw[ep];have hi:i<ρ.length:=(Yar.mp e).1;refine⟨s.ext.pub e5 e2 e4 e3,by rw[dI];exact s.len,λj y ej=>?_,λj ys ej=>?_,λj k ys zs b hjk ej ek e6=>?_,OOs.set ⟨λj xss ej=>let⟨a',bs,q1,q,n⟩:=s.oo.t j xss ej;⟨a',bs,q1,q.put (n i xs a e e1) e3,n⟩,s.oo.u⟩ (λ_ h=>by cases h) (λ_ _=>rfl) λ_ _ h=>by cases h⟩
 .by_cases h:i=j
  .subst h
   rw[fb hi]at ej;cases ej;exact⟨_,e1,.lst (by unfold Wd.put;dsimp only;rw[aN])<|r.mono (qD e3) λ_ z=>z⟩
  .rw[eK h]at ej
   obtain⟨v,q1,q2⟩:=s.d j y ej;exact⟨v,q1,q2.mono (qD e3) λ_ z=>z⟩
 .have h:i≠j:=λh=>by subst h;rw[fb hi]at ej;cases ej
  rw[eK h]at ej;obtain⟨b,us',q1,q2,q3,q4,q5,rr⟩:=s.o j ys ej;have hba:b≠a:=λz=>s.ne i j xs ys a h e ej e1 (by rw[<-z];exact q1);refine⟨b,us',q1,q2,?_,q4,q5,rr.mono (qD e3) λ_ z=>z⟩;unfold Wd.put;dsimp only;rw[aJ hba];exact q3
 .have h:i≠j:=λh=>by subst h;rw[fb hi]at ej;cases ej
  have h':i≠k:=λh=>by subst h;rw[fb hi]at ek;cases ek
  rw[eK h]at ej;rw[eK h']at ek;exact s.ne j k ys zs b hjk ej ek e6
theorem SOk.lend(s:SOk K W0 H0 W σ H ρ)(i:Nat):(LP.pub i ρ=ρ)\/∃a us,SOk K W0 H0 (W.put a<|.lst us) σ H (LP.pub i ρ)/\W.G a=none/\H a=some (.lst us)/\(W.put a<|.lst us).G a=some (.lst us):=by
 cases e:ρ[i]? with
 |none=>exact .inl (by unfold LP.pub;rw[e])
 |some sv=>
  cases sv with
  |un=>exact .inl (by unfold LP.pub;rw[e])|d x=>exact .inl (by unfold LP.pub;rw[e])|oo xss=>exact .inl (by unfold LP.pub;rw[e])
  |ow xs=>
   obtain⟨a,us,e1,e2,e3,e4,e5,r⟩:=s.o i xs e;exact .inr ⟨a,us,s.pubAt e e1 e2 e3 e4 e5 r,e3,e2,by unfold Wd.put;dsimp only;rw[aN]⟩
end
section
variable{p ps:Pos}{a b:Expr}
def dZ(i:Nat)(w:WE):WE:=λE ρ Q=>w E (pub i ρ) λd=>fW d=true/\Q d
theorem Cz(i:Nat)(he:PX X EX e w):PX X EX e (dZ i w):=by
 obtain⟨t,q,k⟩:=he.t;refine⟨⟨t,q,λW0 H0 W σ H ρ E Q s eo h=>?_⟩,λE ρ P P' hp h=>he.mono _ _ _ _ (λd hd=>⟨hd.1,hp _ hd.2⟩) h⟩;unfold dZ at h;rcases s.lend i with ep|⟨a,us,s',e3,e2,e6⟩
 rw[ep]at h;exact k W0 H0 W σ H ρ E Q s eo<|he.mono _ _ _ _ (λd hd=>hd.2) h
 exact k W0 H0 _ σ H _ E Q s' eo<|he.mono _ _ _ _ (λd hd v W2 H2 x2 r2=>hd.2 v _ H2 (x2.bor e3)<|r2.rem (x2.g _ _ e6) hd.1) h
def fh(i:Nat)(w:WT):WT:=λE ρ Q=>w E (pub i ρ) Q
theorem KM(i:Nat){w:WT}(he:jO X EX e w):jO X EX e (fh i w):=by
 obtain⟨t,q,k⟩:=he.t;refine⟨⟨t,q,λW0 H0 W σ H ρ E Q s eo h=>?_⟩,λE ρ P P' hp h=>he.mono _ _ _ _ hp h⟩;unfold fh at h;rcases s.lend i with ep|⟨a,us,s',e3,e2,e6⟩
 rw[ep]at h;exact k W0 H0 W σ H ρ E Q s eo h;exact k W0 H0 _ σ H _ E Q s' eo<|he.mono _ _ _ _ (λd hd W2 H2 x2=>hd _ H2<|x2.bor e3) h
def dD(i:Nat)(t:WA):WA:=λE ρ Q=>t E (pub i ρ) λds=>lX ds=true/\Q ds
theorem zP(i:Nat){t:WA}(he:PXL X EX e t):PXL X EX e (dD i t):=by
 obtain⟨t,q,k⟩:=he.t;refine⟨⟨t,q,λW0 H0 W σ H ρ E Q s eo h=>?_⟩,λE ρ P P' hp h=>he.mono _ _ _ _ (λd hd=>⟨hd.1,hp _ hd.2⟩) h⟩;unfold dD at h;rcases s.lend i with ep|⟨a,us,s',e3,e2,e6⟩
 rw[ep]at h;exact k W0 H0 W σ H ρ E Q s eo<|he.mono _ _ _ _ (λd hd=>hd.2) h
 refine k W0 H0 _ σ H _ E Q s' eo (he.mono _ _ _ _ (λd hd b vs W2 H2 x2 h1 h2 h3 h4 r2=>?_) h);have hb:b≠a:=λz=>by rw[z,e2]at h4;cases h4
 exact hd.2 b vs _ H2 (x2.bor e3) h1 (by rw[Wd.rem_ne hb];exact h2) h3 h4<|r2.rem (x2.g _ _ e6) hd.1
def dL(i:Nat)(wb:WE):WE:=λE ρ Q=>match ρ[i]? with|some (.ow xs)=>wb E ρ (isI λk=>∃d,dN xs k=some d/\Q d)|_=>False
theorem wV(i:Nat)(hb:PX X EX b wb)(hN:X.N[i]? = some x:=by rfl)(hv:kX X.env.scope x:=by first|exact Or.inl rfl|exact Or.inr (Or.inl rfl)|exact Or.inr<|Or.inr rfl)(hd:(x==("__debug__" : Str))=false:=by decide)
  (hcd:(x==("__classdict__" : Str))=false:=by decide) (hs:i9 b:=by exact λ_ _=>rfl):PX X EX (.Subscript (.Name x p) b pos) (dL i wb):=by
 obtain⟨tb,pb,kb⟩:=hb.t;refine⟨⟨_,rm kB (df hN hv hd hcd) pb hs,λW0 H0 W σ H ρ E Q s eo h=>?_⟩,λE ρ P P' hp h=>?_⟩
 .unfold dL at h
  split at h
  .rename_i xs ex
   obtain⟨a,vs,e1,e2,e3,e4,e5,r⟩:=s.o i xs ex;refine⟨_,e1,kb W0 H0 W σ H ρ E _ s eo<|hb.mono _ _ _ _ (λd hd v W1 H1 x1 r1=>?_) h⟩;obtain⟨kk,rfl,d,hat,hq⟩:=om hd;cases r1;obtain⟨v,e6,rv⟩:=zH (x1.reps r) hat;exact .inl ⟨a,vs,kk,v,rfl,rfl,SqL.of<|x1.h a _ e2 e4,e6,hq v W1 H1 x1 rv⟩
  .exact h.elim
 .unfold dL at h ⊢
  split at h
  .exact hb.mono _ _ _ _ (isI.mono λk ⟨d,h1,h2⟩=>⟨d,h1,hp _ h2⟩) h
  .exact h.elim
def NL(K:O3)(W:Wd)(H:Hp)(Q:VK)(ds:List D):Prop:=∀a vs W' H',Ext W H W' H'->H' a=some (.lst vs)->W'.G a=none->¬W'.Pn a->H a=none->Reps K W' vs ds->Q (.ref a) H'
theorem NL.new{K:O3}{W W1:Wd}{H H1:Hp}{Q:VK}{ds:List D}{vs:List V}(h:NL K W H Q ds)(x1:Ext W H W1 H1)(r:Reps K W1 vs ds){q:Addr}(hq:H1 q=none):Q (.ref q) (upd H1 q<|.lst vs):=
 h q vs W1 _ (x1.trans<|.new x1.ok hq) aN (x1.ok.fresh hq).1 (x1.ok.fresh hq).2 (x1.isN hq) r
def eT(wa wb:WE):WA:=λE ρ Q=>wa E ρ<|isL λxs=>wb E ρ (isL λys=>xs.length+ys.length<=aO/\Q (xs++ys))
theorem CA(ha:PX X EX a wa)(hb:PX X EX b wb):PXL X EX (.BinOp a .Add b pos) (eT wa wb):=by obtain⟨ta,pa,ka⟩:=ha.t;obtain⟨tb,pb,kb⟩:=hb.t;refine⟨⟨_,mV Znx pa pb,λW0 H0 W σ H ρ E Q s eo h=>?_⟩,λE ρ P P' hp h=>ha.mono _ _ _ _ (isL.mono λxs hx=>hb.mono _ _ _ _ (isL.mono λys hy=>⟨hy.1,hp _ hy.2⟩) hx) h⟩;refine ka W0 H0 W σ H ρ E _ s eo<|ha.mono _ _ _ _ (λd hd v W1 H1 x1 r1=>?_) h;obtain⟨xs,rfl,hd⟩:=zM hd;refine kb W0 H0 W1 σ H1 ρ E _ (s.step x1) eo<|hb.mono _ _ _ _ (λd hd u W2 H2 x2 r2=>?_) hd;obtain⟨ys,rfl,hd⟩:=zM hd;obtain⟨p,vs,rfl,h1,q1⟩:=(x2.rep r1).sql x2.ok;obtain⟨q,us,rfl,h2,q2⟩:=r2.sql x2.ok;exact⟨p,q,vs,us,rfl,rfl,h1,h2,by rw[q1.length,q2.length];exact oj hd.1,λa ha=>NL.new hd.2 (x1.trans x2) (q1.append q2) ha⟩
def fE(wa wb:WE):WA:=λE ρ Q=>wa E ρ<|isL λxs=>wb E ρ (isI λk=>k<1000/\-1000<k/\xs.length*k.toNat<=aO/\Q (List.replicate k.toNat xs).flatten)
theorem KN(ha:PX X EX a wa)(hb:PX X EX b wb):PXL X EX (.BinOp a .Mult b pos) (fE wa wb):=by
 obtain⟨ta,pa,ka⟩:=ha.t;obtain⟨tb,pb,kb⟩:=hb.t;refine⟨⟨_,mV ny pa pb,λW0 H0 W σ H ρ E Q s eo h=>?_⟩,λE ρ P P' hp h=>ha.mono _ _ _ _ (isL.mono λxs hx=>hb.mono _ _ _ _ (isI.mono λys hy=>⟨hy.1,hy.2.1,hy.2.2.1,hp _ hy.2.2.2⟩) hx) h⟩;refine ka W0 H0 W σ H ρ E _ s eo<|ha.mono _ _ _ _ (λd hd v W1 H1 x1 r1=>?_) h;obtain⟨xs,rfl,hd⟩:=zM hd;refine kb W0 H0 W1 σ H1 ρ E _ (s.step x1) eo<|hb.mono _ _ _ _ (λd hd u W2 H2 x2 r2=>?_) hd;obtain⟨kk,rfl,hd⟩:=om hd;cases r2;cases x2.rep r1 with
 | @lst l vs _ e r=>refine⟨l,kk,vs,rfl,rfl,x2.ok.g _ _ e,by omega,by omega,?_,λq hq=>NL.new hd.2.2.2 (x1.trans x2) (Cq r _) hq⟩;rw[r.length];exact oj hd.2.2.1
def gx(wa:WE)(wl wh:(Ex->Prop)->cX->(Option Int->Prop)->Prop):WA:=λE ρ Q=>wa E ρ λx=>wl E ρ λl=>wh E ρ λh=>match x with
 |.lst xs=>Q<|aV xs l h
 |.scr xs=>Q<|aV xs l h
 |_=>False
end
section
variable{W:Wd}{i j k:Int}
def Wd.pen(W:Wd)(a:Addr):Wd:=⟨W.G,λb=>b=a\/W.Pn b⟩
theorem Ext.pen(x:Ext W H W1 H1)(h:H a=none)(e:H1 a=some (.lst [.int i,.int j,.int k]))(ng:W1.G a=none):Ext W H (W1.pen a) H1 where
 ok:=⟨x.ok.g,λb hb=>by
  rcases hb with rfl|hb
  .exact⟨⟨i,j,k,e⟩,ng⟩
  .exact x.ok.p b hb⟩
 g:=x.g
 p:=λb hb=>.inr<|x.p b hb
 gf:=x.gf
 pf:=λb n hb=>by
  rcases hb with rfl|hb
  exact h;exact x.pf b n hb
 h:=x.h
theorem Ext.ink(x:Ext W H W1 H1)(hp:W1.Pn a):Ext W H W1 (upd H1 a<|.lst [.int i,.int j,.int k]) where
 ok:=⟨λb o e=>by
   have hb:b≠a:=λz=>by rw[z,(x.ok.p a hp).2]at e;cases e
   rw[aJ hb];exact x.ok.g b o e,
  λb hb=>by
   by_cases hba:b=a
   .subst hba;exact⟨⟨i,j,k,aN⟩,(x.ok.p b hb).2⟩
   .obtain⟨⟨i',j',k',e⟩,n⟩:=x.ok.p b hb
    exact⟨⟨i',j',k',by rw[aJ hba];exact e⟩,n⟩⟩
 g:=x.g
 p:=x.p
 gf:=x.gf
 pf:=x.pf
 h:=λb o e n=>by
  have q:=x.h b o e n;have hb:b≠a:=λz=>by subst z;have:=x.pf b n hp;rw[e]at this;cases this
  rw[aJ hb];exact q
theorem SOk.ink(s:SOk K W0 H0 W σ H ρ)(hp:W.Pn a):SOk K W0 H0 W σ (upd H a<|.lst [.int i,.int j,.int k]) ρ where
 ext:=s.ext.ink hp
 len:=s.len
 d:=s.d
 o:=λn ys e=>by obtain⟨b,vs,e1,e2,e3,e4,e5,r⟩:=s.o n ys e;exact⟨b,vs,e1,by rw[aJ<|λz=>e4 (by rw[z];exact hp)];exact e2,e3,e4,e5,r⟩
 ne:=s.ne
 oo:=⟨λn xss e=>let⟨a',bs,e1,q,m⟩:=s.oo.t n xss e;⟨a',bs,e1,q.upd<|q.noPen hp,m⟩,s.oo.u⟩
end
section
variable{p ps:Pos}{a b:Expr}
def fG(t:WA):WE:=λE ρ Q=>t E ρ λds=>(∃i j k,ds=[.int i,.int j,.int k])/\Q .pen
theorem KO{t:WA}(he:PXL X EX e t):PX X EX e (fG t):=by
 obtain⟨t,q,k⟩:=he.t;refine⟨⟨t,q,λW0 H0 W σ H ρ E Q s eo h=>?_⟩,λE ρ P P' hp h=>he.mono _ _ _ _ (λd hd=>⟨hd.1,hp _ hd.2⟩) h⟩;refine k W0 H0 W σ H ρ E Q s eo<|he.mono _ _ _ _ (λds hd a vs W1 H1 x1 e1 e2 e3 e4 r1=>?_) h;obtain⟨⟨i,j,k,rfl⟩,hd⟩:=hd;have ev:vs=[.int i,.int j,.int k]:=by cases r1 with|cons r t=>cases r;cases t with|cons r t=>cases r;cases t with|cons r t=>cases r;cases t;rfl
 subst ev;exact hd _ _ _ (x1.pen e4 e1 e2)<|.pen (.inl rfl)
def d6:G2:=λx y Q=>x=.pen/\(y=.int 0\/y=.int 1\/y=.int 2)/\∀n,Q<|.int n
theorem wW:Cn X d6:=by
 refine⟨⟨_,kB,λW H x y dx dy Q ok rx ry hg=>?_⟩,λx y P P' hp h=>⟨h.1,h.2.1,λn=>hp _<|h.2.2 n⟩⟩;obtain⟨rfl,hy,hq⟩:=hg;cases rx with
 | @pen a hp=>
  obtain⟨⟨i,j,k,e⟩,ng⟩:=ok.p a hp;have key:∀(m:Int) (v:V),dN [V.int i,.int j,.int k] m=some v->(∃n,v=.int n)->EN X.K (.ref a) (.int m) H Q:=λm v hv ⟨n,hn⟩=>by subst hn;exact .inl ⟨a,_,m,_,rfl,rfl,SqL.of e,hv,(hq n).now ok<|.int n⟩
  rcases hy with rfl|rfl|rfl
  cases ry;exact key 0 (.int i) rfl ⟨i,rfl⟩;cases ry;exact key 1 (.int j) rfl ⟨j,rfl⟩;cases ry;exact key 2 (.int k) rfl ⟨k,rfl⟩
def fi(i:Nat)(wv:WE):WS:=λE N ρ=>ρ[i]? = some (.d .pen)/\wv E ρ (isI λ_=>N.nx ρ)
theorem FI(i:Nat)(m:Int){j}{ipos:Pos}(he:PX X EX e wv)(hm:m=0\/m=1\/m=2:=by decide)(hN:X.N[i]? = some x:=by rfl)(hv:kX X.env.scope x:=by first|exact Or.inl rfl|exact Or.inr (Or.inl rfl)|exact Or.inr<|Or.inr rfl)(hd:(x==("__debug__" : Str))=false:=by decide)
  (hcd:(x==("__classdict__" : Str))=false:=by decide)
  (ha:∀ v,assign (.Subscript (.Name x p) (.Constant (.int m) j ipos) spos) X.env v=(do
   let ov <-holding [v] (eval (.Name x p) X.env)
   let iv <-holding [v,ov] (eval (.Constant (.int m) j ipos) X.env)
   standAt spos
   holding [v,ov,iv] (setItem ov iv v)
   release [v,ov,iv] []):=by intro _;rfl)
  (hs:swapsWithSole [.Subscript (.Name x p) (.Constant (.int m) j ipos) spos] e pos.line X.env=pure false:=by rfl) (hw:swappedStores [.Subscript (.Name x p) (.Constant (.int m) j ipos) spos] e X.env=pure none:=by rfl)
  (h1:(assignEach [.Subscript (.Name x p) (.Constant (.int m) j ipos) spos] X.env).map (·.2)=[assign (.Subscript (.Name x p) (.Constant (.int m) j ipos) spos) X.env]:=by rfl):PZ X EX (.Assign [.Subscript (.Name x p) (.Constant (.int m) j ipos) spos] e pos) (fi i wv):=by
 obtain⟨t,pe,k⟩:=he.t;refine⟨⟨_,i4 pe (iY (df hN hv hd hcd) kf fw ha) hs hw h1,λW0 H0 F W σ H ρ E Dn N s fl eo no h=>?_⟩,λE ρ N N' hl q=>⟨q.1,he.mono _ _ _ _ (isI.mono λ_ hn=>hl.nx _ hn) q.2⟩⟩;obtain⟨hpen,h⟩:=h;obtain⟨v0,e0,r0⟩:=s.d i .pen hpen;cases r0 with
 | @pen a hp=>
  refine k W0 H0 W σ H ρ E _ s eo<|he.mono _ _ _ _ (λd hd v W1 H1 x1 r1=>⟨_,e0,?_⟩) h;obtain⟨n,rfl,hn⟩:=om hd;cases r1;have hp1:=x1.p a hp;obtain⟨⟨i',j',k',e'⟩,ng⟩:=x1.ok.p a hp1;rcases hm with rfl|rfl|rfl
  .exact⟨a,_,0,0,rfl,rfl,e',rfl,no.nx W1 σ _ ρ ((s.step x1).ink hp1) (fl.ext x1) hn⟩
  .exact⟨a,_,1,1,rfl,rfl,e',rfl,no.nx W1 σ _ ρ ((s.step x1).ink hp1) (fl.ext x1) hn⟩
  .exact⟨a,_,2,2,rfl,rfl,e',rfl,no.nx W1 σ _ ρ ((s.step x1).ink hp1) (fl.ext x1) hn⟩
end
abbrev fu:G2:=gI2 (λ_ _=>True) λi j=>.int<|i-j
abbrev qK:G2:=gI2 (λ_ j=>j≠0) λi j=>.int<|i.fmod j
abbrev fj:G2:=gI2 Co λi j=>.int<|i.fdiv j
abbrev zQ:G2:=gI2 sS λi j=>.int<|i^j.toNat
abbrev nM:G2:=gI2 (λ_ _=>True) λi j=>.bl<|decide (i<j)
abbrev kN:G2:=gI2 (λ_ _=>True) λi j=>.bl<|decide (i<=j)
abbrev wX:G2:=gI2 (λ_ _=>True) λi j=>.bl<|decide (i>j)
abbrev CB:G2:=gI2 (λ_ _=>True) λi j=>.bl<|decide (i ≥ j)
abbrev fk:D->(D->Prop)->Prop:=λx Q=>isI (λi=>Q<|.int (-i)) x
abbrev my:WS:=λ_ _ _=>False
def fnS{α:Type}(enc:α->List D)(dom:α->Prop)(val:α->D):bO:=λds _ Q=>∃a,ds=enc a/\dom a/\Q (val a)
theorem fnS.mono{α:Type}{enc:α->List D}{dom:α->Prop}{val:α->D}:ol (fnS enc dom val):=λds E E' Q Q' _ hQ ⟨a,h1,h2,h3⟩=>⟨a,h1,h2,hQ _ h3⟩
theorem fnS.len{α:Type}{enc:α->List D}{dom:α->Prop}{val:α->D}(hp:∀a,(enc a).length=ps.length):∀ds E Q,fnS enc dom val ds E Q->ds.length=ps.length:=λds E Q ⟨a,h1,_⟩=>by rw[h1];exact hp a
def exQ(E:Ex->Prop)(Q:D->Prop):Except Str D->Prop
 |.ok v=>Q v|.error e=>E e
theorem exQ.mono{E E':Ex->Prop}{Q':D->Prop}(hE:∀e,E e->E' e)(hQ:∀d,Q d->Q' d):∀r,exQ E Q r->exQ E' Q' r
 |.ok v,h=>hQ v h|.error e,h=>hE e h
def xS{α:Type}(enc:α->List D)(dom:α->Prop)(res:α->Except Str D):bO:=λds E Q=>∃a,ds=enc a/\dom a/\exQ E Q (res a)
theorem xS.mono{α:Type}{enc:α->List D}{dom:α->Prop}{res:α->Except Str D}:ol (xS enc dom res):=λds E E' Q Q' hE hQ ⟨a,h1,h2,h3⟩=>⟨a,h1,h2,exQ.mono hE hQ _ h3⟩
theorem xS.ok{α:Type}{enc:α->List D}{dom:α->Prop}{res:α->Except Str D}{E:Ex->Prop}{v:D}(a:α)(h:ds=enc a)(hd:dom a)(e:res a=.ok v)(q:Q v):xS enc dom res ds E Q:=⟨a,h,hd,by rw[e];exact q⟩
theorem xS.err{α:Type}{enc:α->List D}{dom:α->Prop}{res:α->Except Str D}{E:Ex->Prop}{n:Str}(a:α)(h:ds=enc a)(hd:dom a)(e:res a=.error n)(q:E n):xS enc dom res ds E Q:=⟨a,h,hd,by rw[e];exact q⟩
theorem xS.len{α:Type}{enc:α->List D}{dom:α->Prop}{res:α->Except Str D}(hp:∀a,(enc a).length=ps.length):∀ds E Q,xS enc dom res ds E Q->ds.length=ps.length:=λds E Q ⟨a,h1,_⟩=>by rw[h1];exact hp a
def rlS{α:Type}(enc:α->List D)(dom:α->Prop)(rel:α->D->Prop):bO:=λds _ Q=>∃a,ds=enc a/\dom a/\∀d,rel a d->Q d
theorem rlS.mono{α:Type}{enc:α->List D}{dom:α->Prop}{rel:α->D->Prop}:ol (rlS enc dom rel):=λds E E' Q Q' _ hQ ⟨a,h1,h2,h3⟩=>⟨a,h1,h2,λd r=>hQ _<|h3 d r⟩
theorem rlS.len{α:Type}{enc:α->List D}{dom:α->Prop}{rel:α->D->Prop}(hp:∀a,(enc a).length=ps.length):∀ds E Q,rlS enc dom rel ds E Q->ds.length=ps.length:=λds E Q ⟨a,h1,_⟩=>by rw[h1];exact hp a
theorem Fp.of{w:World}(h:eD P w K mg base (c9 P w) k f fd ps (gT K S))(m:ol S)(hm:mg x=some (.ref f))(kp:PySem.W.keepIn K (.ref f)=true)(hb:Binds K fd ps []) :
  Fp P w K mg base k x ps S:=⟨⟨f,fd,h,hm,kp,hb⟩,m⟩
section
variable{tail:cX}{Q:List D->Prop}
theorem Zj{f:D->D}(h:∀d∈ds,∀Q:D->Prop,Q (f d)->we No (.d d::tail) Q):∀(sv:SV) (acc:List D),acc.length+ds.length<=aO->Q (acc++ds.map f)->lcW (gN 0) dC we ds (sv::tail) acc Q:=by
 induction ds with
 |nil=>intro sv acc _ hq;simpa[lcW] using hq|cons d ds ih=>intro sv acc hl hq;rw[lcW];show we No (SV.d d::tail) _;refine h d (lw ..) _ ⟨?_,?_⟩;rw[dX]at hl;omega;refine ih (λd hd=>h d<|jr _ hd) (.d d) _ ?_ ?_;rw[d9,mh];rw[dX]at hl;omega;rw[nZ];exact hq
theorem FJ{R:D->D->Prop}(h:∀d∈ds,∀Q:D->Prop,(∀y,R d y->Q y)->we No (.d d::tail) Q):∀(sv:SV) (acc:List D),acc.length+ds.length<=aO->(∀ys,ys.length=ds.length->(∀y∈ys,∃d,d∈ds/\R d y)->Q (acc++ys))->lcW (gN 0) dC we ds (sv::tail) acc Q:=by
 induction ds with
 |nil=>intro sv acc _ hq;simpa[lcW] using hq [] rfl (by simp)
 |cons d ds ih=>
  intro sv acc hl hq;rw[lcW];show we No (SV.d d::tail) _;refine h d (lw ..) _ λy hy=>⟨?_,?_⟩;rw[dX]at hl;omega;refine ih (λd hd=>h d<|jr _ hd) (.d d) _ ?_ λys hl' hys=>?_;rw[d9,mh];rw[dX]at hl;omega;rw[nZ];refine hq (y::ys) (by rw[dX,dX,hl']) λz hz=>?_;rcases Yao.mp hz with rfl|hz
  exact⟨d,lw ..,hy⟩;obtain⟨d',h1,h2⟩:=hys z hz;exact⟨d',jr _ h1,h2⟩
theorem FK{f:D->D->D}:∀(xs ys:List D),(∀p∈xs.zip ys,∀Q:D->Prop,Q (f p.1 p.2)->we No (.d p.1::.d p.2::tail) Q)->∀(sv sv':SV) (acc:List D),acc.length+(xs.zip ys).length<=aO->Q (acc++List.zipWith f xs ys)->
  lcW (fg 2<|dh (gN 0)<|dh (gN 1) e8) dC we (dH xs ys) (sv::sv'::tail) acc Q
 |[],ys,_,sv,sv',acc,_,hq=>by
  have e:dH [] ys=[]:=by simp[dH]
  rw[e,lcW];simpa using hq
 |x::xs,[],_,sv,sv',acc,_,hq=>by
  have e:dH (x::xs) []=[]:=by simp[dH]
  rw[e,lcW];simpa using hq
 |x::xs,y::ys,h,sv,sv',acc,hl,hq=>by
  have e:dH (x::xs) (y::ys)=.tup [x,y]::dH xs ys:=by simp[dH]
  rw[e,lcW];refine⟨rfl,?_⟩;show we No (SV.d x::SV.d y::tail) _;refine h (x,y) (by simp) _ ⟨?_,?_⟩
  .simp at hl;omega
  .refine FK xs ys (λp hp=>h p<|by simp[hp]) _ _ _ ?_ ?_
   .simp at hl ⊢;omega
   .rw[nZ];simpa using hq
end
mutual
noncomputable def dm:D->Nat->Bool
 |.non,_=>true|.bl _,_=>true|.int _,_=>true|.str x,_=>PyData.canLay0<|.str x
 |.tup xs,n=>decide (0<n)&&gy xs (n-1)|.lst xs,n=>decide (0<n)&&gy xs (n-1)|.dic,_=>false|.pen,_=>false|.cls _,_=>false|.exc _,_=>false|.ty _,_=>false|.scr _,_=>false
noncomputable def gy:List D->Nat->Bool
 |[],_=>true|x::r,n=>dm x n&&gy r n
end
mutual
noncomputable def pd:D->PyData
 |.non=>.none|.bl b=>.bool b|.int i=>.int i|.str x=>.str x|.tup xs=>.tuple<|hW xs
 |.lst xs=>.list<|hW xs
 |.dic=>.none|.pen=>.none|.cls _=>.none|.exc _=>.none|.ty _=>.none|.scr _=>.none
noncomputable def hW:List D->List PyData
 |[]=>[]|x::r=>pd x::hW r
end
mutual
theorem zR:∀(x:D) (n:Nat),dm x n=true->iO x=some (pd x)/\(pd x).canLay0=true/\(pd x).depth<=n
 |.non,n,_=>⟨rfl,rfl,by rw[pd,PyData.depth];exact kW _⟩|.bl _,n,_=>⟨rfl,rfl,by rw[pd,PyData.depth];exact kW _⟩|.int _,n,_=>⟨rfl,rfl,by rw[pd,PyData.depth];exact kW _⟩|.str x,n,h=>⟨rfl,by rw[dm]at h;exact h,by rw[pd,PyData.depth];exact kW _⟩|.tup xs,n,h=>by rw[dm,cV,O6]at h;obtain⟨h1,h2,h3⟩:=CD xs (n-1) h.2;refine⟨by rw[iO,h1,pd];rfl,by rw[pd,PyData.canLay0];exact h2,by rw[pd,PyData.depth];omega⟩
 |.lst xs,n,h=>by rw[dm,cV,O6]at h;obtain⟨h1,h2,h3⟩:=CD xs (n-1) h.2;refine⟨by rw[iO,h1,pd];rfl,by rw[pd,PyData.canLay0];exact h2,by rw[pd,PyData.depth];omega⟩
 |.dic,n,h=>by rw[dm]at h;cases h
 |.pen,n,h=>by rw[dm]at h;cases h
 |.cls _,n,h=>by rw[dm]at h;cases h
 |.exc _,n,h=>by rw[dm]at h;cases h
 |.ty _,n,h=>by rw[dm]at h;cases h
 |.scr _,n,h=>by rw[dm]at h;cases h
theorem CD:∀(xs:List D) (n:Nat),gy xs n=true->fV xs=some (hW xs)/\PyData.canLayAll0 (hW xs)=true/\PyData.depthAll (hW xs)<=n
 |[],n,_=>⟨by rw[fV,hW],by rw[hW,PyData.canLayAll0],by rw[hW,PyData.depthAll];exact kW _⟩|x::r,n,h=>by rw[gy,cV]at h;obtain⟨h1,h2,h3⟩:=zR x n h.1;obtain⟨q1,q2,q3⟩:=CD r n h.2;exact⟨by rw[fV,h1,q1,hW],by rw[hW,PyData.canLayAll0,h2,q2];rfl,by rw[hW,PyData.depthAll];omega⟩
end
def j5(x y:D):Bool:=PyData.eqv (pd x)<|pd y
theorem wY{x:D}{neg:Bool}(hx:dm x 60=true)(hy:dm y 60=true)(h:Q (.bl (if neg then !j5 x y else j5 x y))):gEq neg x y Q:=by obtain⟨a1,a2,a3⟩:=zR x 60 hx;obtain⟨b1,b2,b3⟩:=zR y 60 hy;refine⟨pd x,pd y,a1,b1,?_,?_,h⟩;unfold PySem.SeqAt.shaped;rw[a2,O7<|by omega];rfl;unfold PySem.SeqAt.shaped;rw[b2,O7<|by omega];rfl
mutual
theorem FM:∀p:PyData,p.canLay0=true->PyData.eqv p p=true
 |.none,_=>by rw[PyData.eqv]|.bool b,_=>by rw[PyData.eqv];exact Pk b|.int i,_=>by rw[PyData.eqv];exact Pk i|.str x,_=>by rw[PyData.eqv];exact Pk x|.list xs,h=>by rw[PyData.eqv];exact CG xs (by rw[PyData.canLay0]at h;exact h)|.tuple xs,h=>by rw[PyData.eqv];exact CG xs (by rw[PyData.canLay0]at h;exact h)|.dict _,h=>by rw[PyData.canLay0]at h;cases h
theorem CG:∀ps:List PyData,PyData.canLayAll0 ps=true->PyData.eqvAll ps ps=true
 |[],_=>by rw[PyData.eqvAll]|p::ps,h=>by rw[PyData.canLayAll0,cV]at h;rw[PyData.eqvAll,FM p h.1,CG ps h.2];rfl
end
theorem FN{x:D}(h:dm x n=true):j5 x x=true:=FM _ (zR x n h).2.1
theorem uA{x:D}{neg:Bool}(hx:dm x 60=true)(h:Q (.bl (!neg))):gEq neg x x Q:=by refine wY hx hx ?_;rw[FN hx];cases neg<;>exact h
theorem zS(i:Int)(n:Nat):dm (.int i) n=true:=by rw[dm]
theorem KP(i:Bool)(n:Nat):dm (.bl i) n=true:=by rw[dm]
theorem FO(h:∀x∈xs,dm x n=true):gy xs n=true:=by
 induction xs with
 |nil=>rw[gy]|cons x xs ih=>rw[gy,h x<|lw ..,ih λy hy=>h y<|jr _ hy];rfl
theorem wZ(h:∀x∈xs,dm x n=true):dm (.tup xs) (n+1)=true:=by rw[dm,FO (n:=n+1-1) h];simp
theorem FP(h:∀x∈xs,dm x n=true):dm (.lst xs) (n+1)=true:=by rw[dm,FO (n:=n+1-1) h];simp
mutual
theorem CH:∀(x:D) {n m:Nat},n<=m->dm x n=true->dm x m=true
 |.non,_,_,_,_=>by rw[dm]|.bl _,_,_,_,_=>by rw[dm]|.int _,_,_,_,_=>by rw[dm]|.str x,_,_,_,h=>by rw[dm]at h ⊢;exact h|.tup xs,n,m,l,h=>by rw[dm,cV,O6]at h ⊢;exact⟨by omega,CJ xs (by omega) h.2⟩|.lst xs,n,m,l,h=>by rw[dm,cV,O6]at h ⊢;exact⟨by omega,CJ xs (by omega) h.2⟩|.dic,_,_,_,h=>by rw[dm]at h;cases h
 |.pen,_,_,_,h=>by rw[dm]at h;cases h
 |.cls _,_,_,_,h=>by rw[dm]at h;cases h
 |.exc _,_,_,_,h=>by rw[dm]at h;cases h
 |.ty _,_,_,_,h=>by rw[dm]at h;cases h
 |.scr _,_,_,_,h=>by rw[dm]at h;cases h
theorem CJ:∀(xs:List D) {n m:Nat},n<=m->gy xs n=true->gy xs m=true
 |[],_,_,_,_=>by rw[gy]|x::r,n,m,l,h=>by rw[gy,cV]at h ⊢;exact⟨CH x l h.1,CJ r l h.2⟩
end
noncomputable def aR(q:Rat):D:=.tup [.int q.num,.int (q.den:Int)]
def aG(r:List Rat):D:=.tup<|r.map aR
def Sz(n:Nat)(q:Rat):Prop:=q.num.natAbs<2^n/\q.den<2^n
theorem Sz.mono(l:n<=m)(h:Sz n q):Sz m q:=
 have:=mL (n:=2) (by decide) l
 ⟨dG h.1 this,dG h.2 this⟩
theorem FQ{a:Int}{g:Nat}(hg:g≠0)(h:(g:Int)∣a):(a/(g:Int)).natAbs<=a.natAbs:=by
 obtain⟨c,rfl⟩:=h;have hg':(g:Int)≠0:=by exact_mod_cast hg
 rw[Be _ hg',gK,n6];exact Nat.le_mul_of_pos_left _ (by omega)
theorem FR(a:Int)(hb:b≠0):(mkRat a b).num.natAbs<=a.natAbs/\(mkRat a b).den<=b:=by rw[Rat.num_mkRat,Rat.den_mkRat,if_neg hb,if_neg hb];refine⟨FQ (λz=>?_)<|Int.ofNat_dvd_left.mpr<|Nat.gcd_dvd_right ..,Nat.div_le_self _ _⟩;rw[Nat.gcd_eq_zero_iff]at z;exact hb z.1
theorem tI{a:Nat}(h:a<2^n)(h':b<2^m):a*b<2^(n+m):=by
 rw[r8];rcases Bf a with rfl|ha
 rw[Nat.zero_mul];exact Nat.mul_pos (Nat.pow_pos<|by decide)<|Nat.pow_pos (by decide)
 exact dG (Nat.mul_lt_mul_of_pos_left h' ha)<|p6 _ (pX h)
theorem Sz.add{p:Rat}(h:Sz n p)(h':Sz m q):Sz (n+m+1) (p+q):=by
 rw[Rat.add_def'];have z:p.den*q.den≠0:=Bg p.den_nz q.den_nz;have:=FR (p.num*q.den+q.num*p.den) z;have a1:=tI h.1 h'.2;have a2:=tI h'.1 h.2;have a3:=tI h.2 h'.2;rw[yR m n]at a2;have e:2^(n+m+1)=2^(n+m)+2^(n+m):=by rw[u8];omega
 have t:=Int.natAbs_add_le (p.num*q.den)<|q.num*p.den;rw[gK,gK,n6,n6]at t;exact⟨by omega,by omega⟩
theorem Sz.neg{p:Rat}(h:Sz n p):Sz n (-p):=⟨by rw[Rat.neg_num,Int.natAbs_neg];exact h.1,h.2⟩
theorem Sz.sub{p:Rat}(h:Sz n p)(h':Sz m q):Sz (n+m+1) (p-q):=by rw[Rat.sub_eq_add_neg];exact h.add h'.neg
theorem Sz.mul{p:Rat}(h:Sz n p)(h':Sz m q):Sz (n+m) (p*q):=by rw[Rat.mul_def'];have z:p.den*q.den≠0:=Bg p.den_nz q.den_nz;have:=FR (p.num*q.num) z;have a1:=tI h.1 h'.1;have a3:=tI h.2 h'.2;rw[gK]at this;exact⟨by omega,by omega⟩
theorem Sz.inv{p:Rat}(h:Sz n p):Sz n p⁻¹:=by
 unfold Sz;rw[Rat.num_inv,Rat.den_inv,gK,n6];have:=p.den_pos;have h1:=h.1;have h2:=h.2;constructor;rcases Int.lt_trichotomy p.num 0 with z|z|z
 rw[EI z];simpa using h2;rw[z];simp;omega;rw[Int.sign_eq_one_of_pos z];simpa using h2;split;omega;exact h1
theorem Sz.int(i:Int)(hn:0<n)(h:i.natAbs<2^n):Sz n (i:Rat):=⟨by rw[yV];exact h,by rw[yW];exact yX<|by omega⟩
theorem Sz.zero(hn:0<n):Sz n (0:Rat):=⟨by rw[Rat.zero_num];exact Nat.two_pow_pos n,by rw[Rat.zero_den];exact yX<|by omega⟩
theorem Sz.bd(h:Sz n q)(l:n<=8990):Bd q.num/\Bd (q.den:Int):=by have:=h.mono l;exact⟨this.1,by unfold Bd;rw[n6];exact this.2⟩
def B2(p q:Rat):Prop:=∃n m,Sz n p/\Sz m q/\n+m<8990
theorem B2.of{p:Rat}(h:Sz n p)(h':Sz m q)(l:n+m<8990):B2 p q:=⟨n,m,h,h',l⟩
theorem B2.mul{p:Rat}(h:B2 p q):rC p.num q.den/\rC q.num p.den/\rC p.den q.den/\rC p.num q.num/\Bd ((p.den:Int)*q.den)/\(p.den:Int)*q.den≠0/\rC p.den q.num/\(Bd<|(p.den:Int)*q.num):=by
 obtain⟨n,m,h1,h2,l⟩:=h;have b1:=h1.bd (by omega);have b2:=h2.bd (by omega);refine⟨⟨b1.1,b2.2⟩,⟨b2.1,b1.2⟩,⟨b1.2,b2.2⟩,⟨b1.1,b2.1⟩,?_,?_,⟨b1.2,b2.1⟩,?_⟩;have:=tI h1.2 h2.2;unfold Bd;rw[gK,n6,n6];exact dG this<|mL (by decide) (by omega)
 have:=Bg p.den_nz q.den_nz;exact_mod_cast this;have:=tI h1.2 h2.1;unfold Bd;rw[gK,n6];exact dG this<|mL (by decide) (by omega)
def c7:List Rat->List Rat->Rat
 |[],_=>0|_::_,[]=>0|x::xs,y::ys=>x*y+c7 xs ys
theorem KQ(q:Rat)(n:Nat):dm (aR q) (n+1)=true:=wZ (by simp[dm])
theorem zT(r:List Rat)(n:Nat):dm (aG r) (n+2)=true:=wZ λx hx=>by obtain⟨q,_,rfl⟩:=YbT.mp hx;exact KQ q n
def aL(xs:List Int):D:=.tup<|xs.map .int
def d7(xs:List Int):D:=.lst<|xs.map .int
theorem FS{t b:Int}(hb:b≠0):(t.fdiv (if b<0 then -(Int.gcd t b:Int) else(Int.gcd t b:Int))=(Rat.divInt t b).num)/\(b.fdiv (if b<0 then -(Int.gcd t b:Int) else(Int.gcd t b:Int))=((Rat.divInt t b).den:Int)):=by
 have hg:0<Int.gcd t b:=Bh _ hb;have hg':(0:Int)<(Int.gcd t b:Int):=by exact_mod_cast hg
 obtain⟨c,hc⟩:=Int.gcd_dvd_left (a:=t) (b:=b);obtain⟨d,hd⟩:=Int.gcd_dvd_right (a:=t) (b:=b);rw[Rat.num_divInt,Rat.den_divInt,if_neg hb,Int.gcd_comm b t];generalize Int.gcd t b=g at *;subst hc hd;have gne:(g:Int)≠0:=by omega
 split;rename_i h;have hd:d<0:=by
  rcases Int.lt_or_le d 0 with z|z
  exact z;have:=Int.mul_nonneg (Int.le_of_lt hg') z;omega
 rw[EI h];constructor;rw[show(g:Int)*c=(-(g:Int))*(-c) by rw[yY],yZ _<|by omega,yY,show(-1:Int)*((g:Int)*c)=(g:Int)*(-c) by rw[Int.neg_mul,ug,Int.mul_neg],Be _ gne];rw[show(g:Int)*d=(-(g:Int))*(-d) by rw[yY],yZ _<|by omega,yY,gK,n6,Nat.mul_div_cancel_left _ hg];omega;rename_i h;have hd:0<d:=by
  rcases Int.lt_or_le 0 d with z|z
  exact z;exfalso;have h1:(g:Int)*d<=0:=by
   have:=Int.mul_le_mul_of_nonneg_left z<|Int.le_of_lt hg'
   rwa [yU]at this
  omega
 have hp:0<(g:Int)*d:=Int.mul_pos hg' hd;rw[Int.sign_eq_one_of_pos hp,ug];constructor;rw[yZ _ gne,Be _ gne];rw[yZ _ gne,gK,n6,Nat.mul_div_cancel_left _ hg];omega
mutual
def kd:D->Bool
 |.tup xs=>decide (xs.length<=5000)&&rF xs|.lst xs=>decide (xs.length<=5000)&&rF xs|.non=>true|.bl _=>true|.int _=>true|.str _=>true|.dic=>true|.pen=>false|.cls _=>false|.exc _=>false|.ty _=>false|.scr _=>false
def rF:List D->Bool
 |[]=>true|x::r=>kd x&&rF r
end
theorem FT:∀{xs:List D},rF xs=true->∀x∈xs,kd x=true
 |x::r,h,y,hy=>by
  rw[rF,cV]at h;rcases Yao.mp hy with rfl|hy
  exact h.1;exact FT h.2 y hy
theorem CK:∀{xs:List D},(∀x∈xs,kd x=true)->rF xs=true
 |[],_=>by rw[rF]|x::r,h=>by rw[rF,h x<|lw ..,CK λy hy=>h y<|jr _ hy];rfl
theorem tJ(h:kd (.tup xs)=true):xs.length<=5000/\∀x∈xs,kd x=true:=by rw[kd,cV,O6]at h;exact⟨h.1,FT h.2⟩
theorem ju(h1:xs.length<=5000)(h2:∀x∈xs,kd x=true):kd (.tup xs)=true:=by rw[kd,O7 h1,CK h2];rfl
theorem CL(h1:xs.length<=5000)(h2:∀x∈xs,kd x=true):kd (.lst xs)=true:=by rw[kd,O7 h1,CK h2];rfl
theorem w4{x:D}(h:kd x=true):∃t,zJ x=some t:=by
 cases x<;>first
  |exact⟨_,rfl⟩
  |(rw[kd]at h;cases h)
theorem FU(q:Rat):kd (aR q)=true:=ju (by simp) (by simp[kd])
theorem w6(h:r.length<=5000):kd (aG r)=true:=ju (by simpa using h) λx hx=>by obtain⟨q,_,rfl⟩:=YbT.mp hx;exact FU q
theorem FV{r:List Int}(h:r.length<=5000):kd (aL r)=true:=ju (by simpa using h) λx hx=>by obtain⟨q,_,rfl⟩:=YbT.mp hx;rw[kd]
noncomputable def mz:D->Bool
 |.int _=>true|_=>false
noncomputable def eh(l m:Int):D->Bool
 |.int i=>decide (l<=i)&&decide (i<=m)|_=>false
def kO(l m:Int):D->Bool
 |.tup xs=>xs.all<|eh l m
 |_=>false
noncomputable def cU:D->Bool
 |.tup [.int t,.int b]=>decide (0<b)&&(Int.gcd t b==1)|_=>false
def iy(n:Int):D->Bool
 |.tup xs=>((xs.length:Int)==n)&&xs.all cU|_=>false
def w8(l m:Int):D->Bool
 |.tup xs=>decide (l<=(xs.length:Int))&&decide ((xs.length:Int)<=m)&&xs.all cU|_=>false
def uB:bO:=fnS (λx:D=>[x]) (λx=>kd x=true) λx=>.bl<|mz x
def xa:bO:=fnS (λx:D×Int×Int=>[x.1,.int x.2.1,.int x.2.2]) (λx=>kd x.1=true) λx=>.bl<|eh x.2.1 x.2.2 x.1
def uC:bO:=fnS (λx:D×Int×Int=>[x.1,.int x.2.1,.int x.2.2]) (λx=>kd x.1=true) λx=>.bl<|kO x.2.1 x.2.2 x.1
def zU:bO:=fnS (λx:Int×Int=>[.int x.1,.int x.2]) (λ_=>True) λx=>.int<|Int.gcd x.1 x.2
def CM:bO:=fnS (λx:D=>[x]) (λx=>kd x=true) λx=>.bl<|cU x
def zV:bO:=fnS (λx:D×Int×Int=>[x.1,.int x.2.1,.int x.2.2]) (λx=>kd x.1=true) λx=>.bl<|w8 x.2.1 x.2.2 x.1
def zW:bO:=fnS (λx:D×Int=>[x.1,.int x.2]) (λx=>kd x.1=true) λx=>.bl<|iy x.2 x.1
def tK:bO:=fnS (λx:Int×Int=>[.int x.1,.int x.2]) (λx=>x.2≠0/\Bd x.2) λx=>aR<|Rat.divInt x.1 x.2
def xb:bO:=fnS (λx:Rat×Rat=>[aR x.1,aR x.2]) (λx=>B2 x.1 x.2) λx=>aR<|x.1+x.2
def tL:bO:=fnS (λx:Rat×Rat=>[aR x.1,aR x.2]) (λx=>B2 x.1 x.2) λx=>aR<|x.1-x.2
def rG:bO:=fnS (λx:Rat×Rat=>[aR x.1,aR x.2]) (λx=>B2 x.1 x.2) λx=>aR<|x.1*x.2
def qL:bO:=fnS (λx:Rat×Rat=>[aR x.1,aR x.2]) (λx=>B2 x.1 x.2/\x.2≠0) λx=>aR<|x.1/x.2
def lY(b:Bool)(xs:List D):D:=if b then .tup xs else .lst xs
def tM:bO:=fnS (λx:Bool×List Int=>[lY x.1<|x.2.map .int]) (λx=>x.2.length<=5000) λx=>aG<|x.2.map λ(i:Int)=>(i:Rat)
def BR(p q:List Rat):Prop:=∃n m,(∀x∈p,Sz n x)/\(∀x∈q,Sz m x)/\p.length*(n+m+1)+(n+m)+1<8990
def zX:bO:=fnS (λx:(Bool×Bool)×List Rat×List Rat=>[lY x.1.1<|x.2.1.map aR,lY x.1.2<|x.2.2.map aR]) (λx=>BR x.2.1 x.2.2) λx=>aR<|c7 x.2.1 x.2.2
structure IsSl(s:List Int)(n:Nat):Prop where
 len:s.length+1=2*n
 n1:1<=n
 n5:n<=5
 b:∀x∈s,-50<=x/\x<=50
noncomputable def tbl(s:List Int)(n:Nat):List (List Int):=(List.range n).map λi=>(s.drop<|n-1-i).take n
def jm(s:List Int)(n:Nat):D:=.lst<|(tbl s n).map d7
def fo:D->Bool
 |.tup xs=>xs.all (eh (-50) 50)&&decide (xs.length%2=1)&&decide (xs.length<=9)|_=>false
abbrev SL:=List Int×Nat
def lZ:bO:=fnS (λx:List D=>[.tup x]) (λx=>x.length<=5000) λx=>.int<|((x.length:Int)+1)/2
def xc:bO:=fnS (λx:D=>[x]) (λx=>kd x=true) λx=>.bl<|fo x
noncomputable def uD:D->Int
 |.int i=>i|_=>0
def sI:D->List Int
 |.tup xs=>xs.map uD|_=>[]
def sN(x:D):Nat:=((sI x).length+1)/2
def ge(x:D)(v:Except Str D):Except Str D:=if fo x=true then v else .error "NoSlants"
def oq:bO:=xS (λx:D=>[x]) (λx=>kd x=true) λx=>ge x<|.ok .non
def xg:bO:=xS (λx:D=>[x]) (λx=>kd x=true) λx=>ge x<|.ok (jm (sI x)<|sN x)
def CN(n:Int):D->Bool
 |.lst xs=>((xs.length:Int)==n)&&xs.all mz|_=>false
def tN:D->Bool
 |.lst xs=>!(xs.length==0)&&xs.all (CN xs.length)|_=>false
def hd(r:List Int):Int:=r.headD 0
def cor(s:List Int)(n k:Nat):List Int:=(s.drop<|n-k).take<|2*k-1
def ot:bO:=xS (λx:D×D=>[x.1,x.2]) (λx=>kd x.1=true/\kd x.2=true) λx=>ge x.1 (if eh 1 (sN x.1) x.2=true then .ok (aL<|cor (sI x.1) (sN x.1) (uD x.2).toNat) else .error "NoNumber")
def uE:bO:=xS (λx:D×D=>[x.1,x.2]) (λx=>kd x.1=true/\kd x.2=true) λx=>ge x.1<|.ok (.bl<|iy (sN x.1) x.2)
noncomputable def bW(r:List Int):List Rat:=r.map λ(i:Int)=>(i:Rat)
def Zd:bO:=fnS (λx:SL=>[aL x.1]) (λx=>IsSl x.1 x.2) λx=>.lst<|(tbl x.1 x.2).map λr=>aG (bW r)
def bC(s:List Int)(n:Nat)(r:List Rat):List Rat:=(tbl s n).map λline=>c7 (bW line) r
def BS(r:List Rat):Prop:=∃m,(∀x∈r,Sz m x)/\m<=1400
noncomputable def rH:D->Rat
 |.tup [.int t,.int b]=>Rat.divInt t b|_=>0
def rQ:D->List Rat
 |.tup xs=>xs.map rH|_=>[]
def rJ:bO:=xS (λx:D×D=>[x.1,x.2]) (λx=>kd x.1=true/\kd x.2=true/\∀r,x.2=aG r->BS r) λx=>ge x.1 (if iy (sN x.1) x.2=true then .ok (aG<|bC (sI x.1) (sN x.1)<|rQ x.2) else .error "NoRow")
section
variable{E:Ex->Prop}{x:D}{l m a b:Int}{p:Rat}
theorem KR(h:kd x=true)(q:Q (.bl<|eh l m x)):xa [x,.int l,.int m] E Q:=⟨(x,l,m),rfl,h,q⟩
theorem CO(h:kd x=true)(q:Q (.bl<|kO l m x)):uC [x,.int l,.int m] E Q:=⟨(x,l,m),rfl,h,q⟩
theorem KS(h:kd x=true)(q:Q (.bl<|w8 l m x)):zV [x,.int l,.int m] E Q:=⟨(x,l,m),rfl,h,q⟩
theorem KU(h:kd x=true)(q:Q (.bl<|iy a x)):zW [x,.int a] E Q:=⟨(x,a),rfl,h,q⟩
theorem zY(h:B2 p q)(z:Q (aR<|p-q)):tL [aR p,aR q] E Q:=⟨(p,q),rfl,h,z⟩
theorem FW(h:B2 p q)(z:Q (aR<|p*q)):rG [aR p,aR q] E Q:=⟨(p,q),rfl,h,z⟩
theorem CP(h:B2 p q)(h':q≠0)(z:Q (aR<|p/q)):qL [aR p,aR q] E Q:=⟨(p,q),rfl,⟨h,h'⟩,z⟩
theorem KW{xs:List Int}(h:xs.length<=5000)(q:Q (aG<|bW xs)):tM [d7 xs] E Q:=⟨(false,xs),rfl,h,q⟩
theorem FX{xs:List Int}(h:xs.length<=5000)(q:Q (aG<|bW xs)):tM [aL xs] E Q:=⟨(true,xs),rfl,h,q⟩
theorem KY{p q:List Rat}(h:BR p q)(z:Q (aR<|c7 p q)):zX [aG p,aG q] E Q:=⟨((true,true),p,q),rfl,h,z⟩
theorem IsSl.l9(h:IsSl s n):s.length<=9:=by have:=h.len;have:=h.n5;omega
theorem FY(h:xs.length<=5000)(q:Q (.int<|((xs.length:Int)+1)/2)):lZ [.tup xs] E Q:=⟨xs,rfl,h,q⟩
theorem tO(h:IsSl s n)(q:Q (.int n)):lZ [aL s] E Q:=by
 have:=h.l9;have:=h.len;refine FY (by simp;omega) ?_;have e:(((s.map D.int).length:Int)+1)/2=n:=by rw[bQ];omega
 rw[e];exact q
theorem KZ(h:kd x=true)(q:Q (.bl<|fo x)):xc [x] E Q:=⟨x,rfl,h,q⟩
theorem K0(h:IsSl s n):fo (aL s)=true:=by unfold fo aL;simp only[bQ];have hl:=h.len;have h5:=h.n5;have h1:=h.n1;rw[O7 (by omega:s.length%2=1),O7 (by omega:s.length<=9),y0,y0,Ybf];intro x hx;obtain⟨i,hi,rfl⟩:=YbT.mp hx;have:=h.b i hi;simp[eh,this.1,this.2]
theorem IsSl.kd{s:List Int}{n:Nat}(h:IsSl s n):kd (aL s)=true:=FV (by have:=h.l9;omega)
theorem FZ(q:Rat):cU (aR q)=true:=by
 unfold cU aR;have h1:(0:Int)<(q.den:Int):=by exact_mod_cast q.den_pos
 have h2:Int.gcd q.num (q.den:Int)=1:=q.reduced;simp[h2,q.den_pos]
theorem zZ(r:List Rat):iy r.length (aG r)=true:=by unfold iy aG;simp[FZ]
theorem dP(s:List Int):sI (aL s)=s:=by show(s.map D.int).map uD=s;rw[du];exact(hJ λ_ _=>rfl).trans (y2 _)
theorem IsSl.sN(h:IsSl s n):sN (aL s)=n:=by unfold LP.sN;rw[dP];have:=h.len;omega
theorem gH(h:IsSl s n):ge (aL s) v=v:=by unfold ge;rw[K0 h,if_pos rfl]
theorem lv(h:fo x=false):ge x v=.error "NoSlants" :=by unfold ge;rw[h,if_neg<|by decide]
theorem mB(h:fo x=true):∃s n,x=aL s/\IsSl s n:=by
 cases x<;>try (cases h;done)
 rename_i xs;simp only[fo,cV,O6,Ybf]at h;obtain⟨⟨h1,h2⟩,h3⟩:=h;have e:xs=(xs.map uD).map D.int:=by rw[du];refine((hJ λx hx=>?_).trans (y2 _)).symm;have:=h1 x hx;cases x<;>first|rfl|cases this
 refine⟨xs.map uD,(xs.length+1)/2,by unfold aL;rw[<-e],⟨by rw[bQ];omega,by omega,by omega,λi hi=>?_⟩⟩;obtain⟨x,hx,rfl⟩:=YbT.mp hi;have:=h1 x hx;cases x<;>first|(cases this;done)|skip
 simp only[eh,cV,O6]at this;exact this
theorem xh(q:Rat):rH (aR q)=q:=by unfold rH aR;exact uh q
theorem qM(r:List Rat):rQ (aG r)=r:=by show(r.map aR).map rH=r;rw[du];exact(hJ λq _=>xh q).trans (y2 _)
theorem K1{r':List Rat}(h:aG r=aG r'):r=r':=by rw[<-qM r,h,qM]
theorem F0(h:cU d=true):∃q,d=aR q:=by
 unfold cU at h;split at h;rename_i t b;simp only[cV,O6,Po]at h;have hb:((b.toNat:Nat):Int)=b:=Bc (by omega);refine⟨⟨t,b.toNat,by omega,?_⟩,?_⟩;have:b.natAbs=b.toNat:=by omega
 have h2:=h.2;unfold Int.gcd at h2;rw[this]at h2;exact h2;unfold aR;rw[hb];cases h
theorem F1:∀{xs:List D},xs.all cU=true->∃r:List Rat,xs=r.map aR
 |[],_=>⟨[],rfl⟩|x::xs,h=>by rw[ud,cV]at h;obtain⟨q,rfl⟩:=F0 h.1;obtain⟨r,rfl⟩:=F1 h.2;exact⟨q::r,rfl⟩
theorem CQ{a:Int}(h:iy a x=true):∃r,x=aG r/\(r.length:Int)=a:=by
 cases x<;>try (cases h;done)
 rename_i xs;simp only[iy,cV,Po]at h;obtain⟨r,rfl⟩:=F1 h.2;exact⟨r,rfl,by simpa using h.1⟩
theorem CU(h:IsSl s n)(q:Q .non):oq [aL s] E Q:=xS.ok (aL s) rfl h.kd (gH h) q
theorem F2(h:kd x=true)(hb:fo x=false)(e:E "NoSlants"):oq [x] E Q:=xS.err x rfl h (lv hb) e
theorem F3(h:IsSl s n)(q:Q (jm s n)):xg [aL s] E Q:=xS.ok (aL s) rfl h.kd (by(try dsimp only);rw[gH h,dP,h.sN]) q
theorem uF(h:IsSl s n)(h1:1<=k)(h2:k<=n)(q:Q (aL<|cor s n k)):ot [aL s,.int k] E Q:=xS.ok (aL s,.int k) rfl ⟨h.kd,by rw [kd]⟩ (by
 have e:eh 1 (n:Int) (.int k)=true:=by simp[eh];omega
 dsimp only;rw[gH h,h.sN,dP,e,if_pos rfl];rfl) q
theorem F5(h:IsSl s n)(hk:kd x=true)(q:Q (.bl<|iy n x)):uE [aL s,x] E Q:=xS.ok (aL s,x) rfl ⟨h.kd,hk⟩ (by(try dsimp only);rw[gH h,h.sN]) q
theorem K2(h:kd x=true)(hk:kd y=true)(hb:fo x=false)(e:E "NoSlants"):uE [x,y] E Q:=xS.err (x,y) rfl ⟨h,hk⟩ (lv hb) e
theorem K3(h:IsSl s n)(q:Q (.lst<|(tbl s n).map λr=>aG<|bW r)):Zd [aL s] E Q:=⟨(s,n),rfl,h,q⟩
theorem xj(h:IsSl s n)(hl:r.length=n)(hb:BS r)(q:Q (aG<|bC s n r)):rJ [aL s,aG r] E Q:=xS.ok (aL s,aG r) rfl ⟨h.kd,w6 (by have:=h.n5;omega),λr' e=>by rw [<- K1 e];exact hb⟩ (by
 have er:iy n (aG r)=true:=by rw[<-hl];exact zZ r
 dsimp only;rw[gH h,h.sN,dP,er,if_pos rfl,qM]) q
end
theorem tP{C:Addr}(h:PySem.W.nsIn K mainGlobals x=some (some<|.ref C)):iN K x=some C:=by unfold iN;rw[h]
section
variable{C:Addr}{newId initId:String}{bmB:List Value}
def jn(x:Str):WS:=λE _ _=>E x
structure XC(K:O3)(mg:Str->Option Value)(x:Str):Prop where
 h:∃(C:Addr) (newId initId:String) (bmB:List Value),iN K x=some C/\mg x=some (.ref C)/\PySem.W.excIn K C bmB newId=true/\ExcBaseFacts "ValueError" newId initId bmB
theorem z5(hr:jg X EX)(hx:XC X.K X.mg x)(hc:X.calm=true:=by rfl)(hxn:eG x=none:=by decide)(hg:Gl X x:=by rfl)(hd:(x==("__debug__" : Str))=false:=by decide) :
  PZ X EX (.Raise (some<|.Call (.Name x np) [] [] cpos) none pos) (jn x):=by
 obtain⟨C,newId,initId,bmB,h1,h2,h3,h4⟩:=hx.h;exact⟨⟨_,JF hr hc h2 h3 h4 hg hd,λW0 H0 F W σ H ρ E Dn N s fl eo no q=>eo x W H (.ref C) none q s.ext ⟨C,by rw[Kq hxn];exact h1,rfl,.none hxn⟩⟩,λE ρ N N' hl q=>q⟩
end
def uG(n i:Nat)(ex:Str):cX:=(List.replicate n SV.un).set i<|.d (.exc ex)
structure XT(K:O3)(mg:Str->Option Value)(x:Str)(L:List Str):Prop where
 h:∃(C:Addr) (newId:String) (bmB:List Value),mg x=some (.ref C)/\PySem.W.excIn K C bmB newId=true/\bmB.contains (.type "BaseException")=true/\∀n∈L,∀D,iN K (gG n)=some D->PySem.W.mroIn K D (.ref C)=some true
section
def fX(L:List Str)(n i:Nat)(zb zh:WS):WS:=λ_ N ρ=>∃E':Ex->Prop,(∀ex,E' ex->ex∈L/\zh No { nx:=λ_=>False,rt:=N.rt } (uG n i ex))/\zb E' N ρ
theorem K4(L:List Str)(i:Nat){n cx:Str}{suite:List Stmt}{b0:Stmt}{zh:WS}{hpos:Pos}(hcx:XT X.K X.mg cx L)(hN:X.N.Nodup)
  (hb:∀xe pins EX',cF (c9 X.prog X.w) (X.tr xe pins) EX'->jt (X.tr xe pins) EX' body zb) (hh:∀e xe,jt (X.hnd e xe) E0 (b0::suite) zh)
  (hstk:X.stack=X.env::X.outer/\X.env.frame=some X.env.locals:=by exact⟨rfl,rfl⟩) (hi:X.N[i]? = some n:=by rfl) (hx:X.env.scope.names.lookup n=some .local:=by rfl)
  (hg:Gl X cx:=by rfl) (hd:(cx==("__debug__" : Str))=false:=by decide) (hkf:X.env.scope.kind=.function:=by rfl) (hex:X.ex=[]:=by rfl) :
  PZ X EX (.Try body [.ExceptHandler (some<|.Name cx np) (some n) (b0::suite) hpos] [] [] pos) (fX L X.N.length i zb zh):=by
 have hbm:=(hb (λ_ _=>False) [] E0 bU).mono;refine⟨⟨λD σ H=>∃W0 H0 F W ρ N,SOk X.K W0 H0 W σ H ρ/\Wle F W/\Ck X.K W0 H0 F D N/\fX L X.N.length i zb zh No N ρ,?_,λW0 H0 F W σ H ρ E Dn N s fl eo no h=>⟨W0,H0,F,W,ρ,N,s,fl,no,h⟩⟩,λE ρ N N' hl ⟨E',h1,h2⟩=>⟨E',λex he=>⟨(h1 ex he).1,(hh 0 λ_ _=>False).mono _ _ { nx:=λ_=>False,rt:=N.rt } { nx:=λ_=>False,rt:=N'.rt } ⟨λ_ z=>z,hl.rt,λ_ z=>z,λ_ z=>z⟩ (h1 ex he).2⟩,hbm _ _ _ _ hl h2⟩⟩;rintro pins s σ H D I ⟨W0,H0,F,W,ρ,N,so,fl,no,E',hE',hz⟩;obtain⟨Cs,newId,bmB,hm,hexc,hbase,hsub⟩:=hcx.h;have hcalm:=I.ok.hd
 let Eh:Value->Shared->Prop:=λe s1=>wpAny (model X.prog X.w) X.A (noteFrame e X.env) (λ_ s2=>wpAny (model X.prog X.w) X.A (setFlight e none) (λ_ s3=>wpAny (model X.prog X.w) X.A (handleBy e X.env [.ExceptHandler (some<|.Name cx np) (some n) (b0::suite) hpos]) (SP X pins D) X.xe s3) X.xe s2) X.xe s1
 have pass:cF (c9 X.prog X.w) (X.tr Eh pins) (λcls dx H'=>∃W' ex,Ext W0 H0 W' H'/\uv X.K W' H' cls dx ex/\E' ex):=by
  rintro pins' σ1 H1 s1 _ s' I1 ⟨ea,cls,dx,H',B,rfl,fly,hos,hbare,un,hok,hB,hT,W',ex,x',⟨C,hcl,rfl,hxd⟩,he⟩;have J:Inv X pins σ1 H1 s1:=I1.untr;obtain⟨hL,hw⟩:=hE' ex he;have fly':Fl.Up (Fl.Is (.ref C) dx) B (X.env::X.outer) ea .none s'.heap:=by rw[<-hstk.1];exact fly
  have frm:∀b∈cW X.stack,∃o,s'.heap.get? b=some o/\∀vs,o.data≠.fields vs:=λb hb=>(fly.fr.mem hb).2;show wpAny (model X.prog X.w) X.A (noteFrame (.ref ea) X.env) _ _ s';refine Fl.note Fl.Is.firm (by rw[J.ok.frames,hstk.1]) hstk.2 fly' λh4 held4 up4=>?_;refine Fl.lands (s:={ s' with heap:=h4 }) held4 λh5 fl5 up5=>?_;have up45:=up4.trans up5;have J5:Inv X pins σ1 H' { s' with heap:=h5 }:=J.fly hos hbare un hok hB hT fly.st fl5.st up45 frm;refine wpAny_handleBy_cons (codeAny_handlers_test ?_) (by intro q;cases q);refine eM (X:=X.hnd ea X.xe) J5.hnd hg hm ?_ hd;refine JG J5.kIn hexc hbase (let⟨ob,z1,z2,_⟩:=fl5.there;⟨ob,z1,z2.1⟩) (hsub ex hL C hcl) ?_;refine codeAny_handlers_suite_as ?_;refine Fl.lands (s:={ s' with heap:=h5 }) fl5 λh6 fl6 up6=>?_;have J6:Inv X pins σ1 H' { s' with heap:=h6 }:=J.fly hos hbare un hok hB hT fly.st fl6.st (up45.trans up6) frm
  obtain⟨oe0,g1,g2,vs0,g3⟩:=fly.there;have nofr:ea∉cW X.stack:=λhm=>by
   obtain⟨o,e,nf⟩:=frm ea hm;rw[g1]at e;cases e;exact nf _ g3
  have nB:B.get? ea=none:=fly.new;have noS:s1.heap.get? ea=none:=by
   cases q:s1.heap.get? ea with
   |none=>rfl|some o=>obtain⟨o',e⟩:=hB ea o q nofr;rw[nB]at e;cases e
  have hn':H' ea=none:=by
   cases q:H' ea with
   |none=>rfl|some u=>obtain⟨o,e⟩:=hT ea u q;rw[nB]at e;cases e
  have no0:X.s₀.heap.get? ea=none:=by
   cases q:X.s₀.heap.get? ea with
   |none=>rfl
   |some o=>
    obtain⟨o',e⟩:=J.base.there ea o q (by rw[hex];simp);rw[noS]at e;cases e
  have nL:ea≠X.env.locals:=λz=>by
   obtain⟨m,⟨o,es,ep,ho,_⟩,_⟩:=J.loc;rw[<-z,noS]at ho;cases ho
  have nC:∀x c,X.env.cells.lookup x=some c->c≠ea:=λx c e z=>by
   obtain⟨v,o,ho,_⟩:=J.cell x c e;rw[z,noS]at ho;cases ho
  have nP:∀p∈X.pn++pins,p.1≠ea:=λp hp z=>by
   have:=(J.pin p hp).1;rw[z,noS]at this;cases this
  obtain⟨oe,q1,q2,vs,q3⟩:=fl6.there;refine fQ (X:=X.hnd ea X.xe) (v:=.ref ea) J6.hnd hN hi (Or.inl hx) rfl (λs7 J7 sb=>?_)<|.inr hx;have hat:∃oe,s7.heap.get? ea=some oe/\oe.cls=.ref C/\PySem.W.notCls oe=true/\oe.dict=dx/\∃vs,oe.data=.fields vs:=by
   obtain⟨a,hs,ha⟩:=sb;have hne:ea≠a:=λz=>by
    rcases ha with ha|ha
    .exact nL<|z.trans ha
    .exact nC _ _ ha z.symm
   refine⟨oe,(hs.2 ea hne).trans q1,q2.1,?_,q2.2,vs,q3⟩;unfold PySem.W.notCls;rw[q3]
  have J8:Inv (X.hnd ea λ_ _=>False) pins (σ1.set i<|some<|.ref ea) (upd H' ea<|qC C ea dx) s7:=by
   refine((J7.unhnd hcalm).hnd).track hn' no0 nL nC nP ⟨hat,?_,?_⟩ (λ_ z=>by first|cases z|(unfold qC at z;cases z))
   .obtain⟨o,e,_⟩:=hat;exact⟨o,e⟩
   .rintro g1 g2 ⟨o,e,r⟩ k
    exact⟨o,k o e,r⟩
  have xt:Ext W' H' (W'.put ea<|qC C ea dx) (upd H' ea<|qC C ea dx):=Ext.put x'.ok hn';have hil:i<X.N.length:=(Yar.mp hi).1;have so2:SOk X.K W0 H0 (W'.put ea<|qC C ea dx) (σ1.set i<|some<|.ref ea) (upd H' ea<|qC C ea dx) (uG X.N.length i ex):=by
   have hlen:σ1.length=X.N.length:=J.len;have slot:∀(j:Nat) sv,(uG X.N.length i ex)[j]? = some sv->sv=.un\/(j=i/\sv=.d (.exc ex)):=λj sv e=>by
    unfold uG at e
    by_cases h:i=j
    .subst h
     rw[fb<|by simpa using hil]at e;cases e;exact .inr ⟨rfl,rfl⟩
    .rw[eK h,mI]at e
     split at e
     .cases e;exact .inl rfl
     .cases e
   refine⟨x'.trans xt,by unfold uG;rw[dI,dI,pY,hlen],λj y e=>?_,λj ys e=>?_,λj k ys zs b _ e=>?_,.none λj xss e=>?_⟩
   .rcases slot j _ e with z|⟨rfl,z⟩
    .cases z
    .cases z
     exact⟨.ref ea,fb (by rw[hlen];exact hil),.exc (by unfold Wd.put;dsimp only;rw[aN]) hcl<|hxd.mono xt.g⟩
   .rcases slot j _ e with z|⟨_,z⟩<;>cases z
   .rcases slot j _ e with z|⟨_,z⟩<;>cases z
   .rcases slot j _ e with z|⟨_,z⟩<;>cases z
  obtain⟨th,ph,kh⟩:=(hh ea λ_ _=>False).t;refine Ph (ph pins s7 _ _ { nx:=λ_ _=>False,rt:=D.rt } J8 (kh W0 H0 _ _ _ _ _ No _ { nx:=λ_=>False,rt:=N.rt } so2 (.refl _) (λ_ _ _ _ _ z=>z.elim)
   ⟨λ_ _ _ _ _ _ z=>z.elim,no.rt,λ_ _ _ _ _ _ z=>z.elim,λ_ _ _ _ _ _ z=>z.elim⟩ hw)) (λf s9 q=>?_) λ_ _ z=>z.elim
  cases f with
  |next=>obtain⟨_,_,_,z⟩:=q;exact z.elim
  |brk=>obtain⟨_,_,_,z⟩:=q;exact z.elim
  |cont=>obtain⟨_,_,_,z⟩:=q;exact z.elim
  |ret u=>
   obtain⟨v,σ9,H9,J9,r9,q9⟩:=q;have K9:=J9.unhnd hcalm;obtain⟨m,hns,_⟩:=K9.loc;exact wpAny_nameGoes hx hns (by rw[hkf];rfl) λh' m' hn2 hs2=>⟨v,_,H9,K9.names hn2 hs2,r9,q9⟩
 obtain⟨tb,pb,kb⟩:=(hb Eh pins _ pass).t;refine wpAny_Try_except<|Ph (pb [] s σ H D I.tr<|kb W0 H0 F W σ H ρ E' D N so fl (λex W' H' cls dx he x r=>⟨W',ex,x,r,he⟩) no hz) (λf s1 q=>?_) λe s1 q=>q;cases f with
 |next=>exact Px q.untr|brk=>exact q.untr|cont=>exact q.untr|ret u=>exact q.untr
end
section
variable{w:World}
theorem CV{N:List Str}(F:Fun K x qual st f fd)(sc:bT N ps (aE st))(len:∀ds E Q,S ds E Q->ds.length=ps.length)
  (hbody:∀ (cdv:Value) (A:Around) (outer:List Env) (s:Shared) (H:Hp),RoomU k (A.deeper<|envOfC qual (aE st) s.heap.objs.size f cdv)->
   jt (tD P w K mg base N qual (aE st) f cdv A outer s H) E0 (bB st) z)
  (h:∀ds E Q,S ds E Q->z No { nx:=λ_=>Q .non,rt:=Q } (dY N ds)):zu P w K mg base (k+1) f fd ps (gT K S):=by
 refine F.okU sc (λvs H Q E hs=>?_) λcdv A outer s H vs Q E hr hs=>?_
 .obtain⟨ds,W,_,r,hS⟩:=hs
  rw[r.length];exact len _ _ _ hS
 .obtain⟨ds,W,ok,r,hS⟩:=hs
  obtain⟨t,p,k⟩:=(hbody cdv A outer s H hr).t;exact ⟨t,p,k W H W W (start N vs) H (dY N ds) No _ { nx:=λ_=>RQ K W H Q .non,rt:=RQ K W H Q } (Cu ok r) (.refl W) (λ_ _ _ _ _ z=>z.elim)
   ⟨λW1 σ1 H1 ρ1 s1 _ q=>q _ W1 H1 s1.ext .non,λd v W1 H1 x1 r1 q=>q v W1 H1 x1 r1,λ_ _ _ _ _ _ q=>q.elim,λ_ _ _ _ _ _ q=>q.elim⟩ (h ds _ _ hS)⟩
structure CW(P:Program)(w:World)(K:O3)(mg:Str->Option Value)(base:Heap)(k:Nat)(x:Str)(ps:List Str)(S:bO):Prop where
 ok:∃f fd,zu P w K mg base k f fd ps (gT K S)/\mg x=some (.ref f)/\PySem.W.keepIn K (.ref f)=true/\Binds K fd ps []
 mono:ol S
end
section
variable{p:Pos}{t:WA}
theorem F6(G:CW X.prog X.w X.K X.mg X.base k x ps S)(hr:RoomU j X.A)(ha:jh X EX (e::es) t)(hk:k<=j:=by decide)(hg:Gl X x:=by rfl)(hdb:(x==("__debug__" : Str))=false:=by decide)(he:starEach (e::es) X.env=(false,eval e X.env)::starEach es X.env:=by rfl)(hpl:(backTo pos<|starEach es X.env).any (·.1)=false:=by rfl) :
  PX X EX (.Call (.Name x p) (e::es) [] pos) (wF S t):=by
 obtain⟨f,fd,F,hm,kp,hb⟩:=G.ok;obtain⟨ta,pa,ka⟩:=ha.t;have hS:=G.mono;refine⟨⟨_,JI (E:=EX) F (hr.mono hk) hg hm kp hb pa hdb he hpl,λW0 H0 W σ H ρ E Q s eo h=>?_⟩,λE ρ P P' hp z=>ha.mono _ _ _ _ (λds hds=>hS _ _ _ _ _ (λ_ q=>q) hp hds) z⟩;refine ka W0 H0 W σ H ρ E _ s eo<|ha.mono _ _ _ _ (λds hds vs W1 H1 x1 r1=>?_) h;refine⟨ds,W1,x1.ok,by rw[rX];exact r1,hS _ _ _ _ _ (λex hex W' H' cls dx x' r'=>?_) (λd hd=>RQ.ext hd x1) hds⟩;exact eo ex W' H' cls dx hex (s.ext.trans<|x1.trans x') r'
end
structure XI(K:O3)(L M:List Str):Prop where
 c:∀n∈L,∃D,iN K (gG n)=some D/\ij K D/\PySem.W.kitOne K (.ref D) (.type "ValueError")=some true/\∀m∈M,∃C,iN K m=some C/\PySem.W.kitOne K (.ref D) (.ref C)=some (gG n==m)
section
variable{a:Expr}{M:List Str}
def gIsX(L M:List Str):List D->(D->Prop)->Prop:=λds Q=>match ds with|[.exc n,.cls m]=>n∈L/\m∈M/\Q (.bl<|gG n==m)|[.exc n,.ty T]=>n∈L/\T = "ValueError" /\Q (.bl true)|_=>False
theorem gIsX.mono:∀ds P P',(∀d,P d->P' d)->gIsX L M ds P->gIsX L M ds P':=λds P P' hp hg=>by unfold gIsX at hg ⊢;split at hg;exact⟨hg.1,hg.2.1,hp _ hg.2.2⟩;exact⟨hg.1,hg.2.1,hp _ hg.2.2⟩;exact hg.elim
theorem nN(hx:XI X.K L M):eI X (.builtin "isinstance") (gIsX L M):=by
 refine⟨⟨λvs H Q=>∃W ds,WOk W H/\Reps X.K W vs ds/\gIsX L M ds (RQ X.K W H Q),?_,λW H vs ds Q ok r hg=>⟨W,ds,ok,r,hg⟩⟩,gIsX.mono⟩;rintro pins s σ H vs us Q I rv ⟨W,ds,ok,rs,hg⟩;have fin:∀{b:Bool},RQ X.K W H Q (.bl b)->∀tk,EP X pins σ Q (.bool b) { s with toks:=tk }:=λq tk=>⟨.bl _,H,I.tok tk,rfl,q.now ok<|.bl _⟩;have jL:∀{x:V} {u:Value} {n:Str},n∈L->Rep X.K W x (.exc n)->RelV x u->∃a D,u=.ref a/\iN X.K (gG n)=some D/\XAt s.heap a D:=λ{x u n} hn r ru=>by
  cases r with
  | @exc a C n dx e0 e1 _=>cases ru;obtain⟨hx,_⟩:=(show ObjOk X.prog X.w H s.heap a (qC C a dx) from I.hok a _ (ok.g _ _ e0));exact⟨a,C,rfl,e1,let⟨oe,z1,z2,z3,_⟩:=hx;⟨oe,z1,z2,z3⟩⟩
 unfold gIsX at hg;split at hg;rename_i n m;obtain⟨h1,h2,q⟩:=hg;obtain⟨v,w',rfl,r1,r2⟩:=rs.two;obtain⟨u,u2,rfl,ru,ru2⟩:=la rv;obtain⟨a,D,rfl,hD,hat⟩:=jL h1 r1 ru;obtain⟨D',e1,cx,_,hm⟩:=hx.c n h1;rw[hD]at e1;cases e1;obtain⟨C,e2,hk⟩:=hm m h2;cases r2 with
 |cls e3=>rw[e3]at e2;cases e2;cases ru2;exact PySem.W.kia_one (E2 cx) I.kIn hat hk (λz=>nomatch z)<|fin q
 rename_i n T;obtain⟨h1,rfl,q⟩:=hg;obtain⟨v,w',rfl,r1,r2⟩:=rs.two;obtain⟨u,u2,rfl,ru,ru2⟩:=la rv;obtain⟨a,D,rfl,hD,hat⟩:=jL h1 r1 ru;obtain⟨D',e1,cx,hk,_⟩:=hx.c n h1;rw[hD]at e1;cases e1;cases r2;obtain rfl:u2=Value.type "ValueError" :=ru2;exact PySem.W.kia_one (E2 cx) I.kIn hat hk (λz=>nomatch z)<|fin q
 exact hg.elim
theorem K6{a:Addr}(hm:X.mg x=some (.ref a))(hc:iN X.K x=some a)(hg:Gl X x:=by rfl)(hd:(x==("__debug__" : Str))=false:=by decide):PX X EX (.Name x pos) (wC<|.cls x):=
 Cm (v:=.ref a) hm rfl (λW=>.cls hc) hg hd
end
structure CY(X:Cx)(id:String)(g:D->List D->(D->Prop)->Prop):Prop where
 t:∃r,BP X id r/\∀W H x vs dx ds Q,WOk W H->Rep X.K W x dx->Reps X.K W vs ds->g dx ds (RQ X.K W H Q)->r x vs H Q
 ty:∀dx ds P,g dx ds P->∃xs,dx=.lst xs
 mono:∀x ds P P',(∀d,P d->P' d)->g x ds P->g x ds P'
def wM(g:D->List D->(D->Prop)->Prop)(wo:WE)(t:WA):WE:=λE ρ Q=>wo E ρ λx=>(∃xs,x=.lst xs)/\t E ρ λds=>g x ds Q
section
variable{o:Expr}{t:WA}{id:String}{g:D->List D->(D->Prop)->Prop}
theorem F7(slot:Slot "list" name id)(hty:typeOf (.builtin id)=pure (.type "method_descriptor"))(hm:CY X id g)(ho:PX X EX o wo)(ha:jh X EX (e::es) t)
  (hbase:attributeBase o name X.env (eval o X.env)=eval o X.env:=by rfl)
  (hfew:((backTo cpos<|starEach (e::es) X.env).all (λx=>!x.1) && (backToKw cpos<|keywordEach [] X.env).all (λx=>x.1.isSome)
   && decide ((e::es).length+([]:List Keyword).length+(if([]:List Keyword).isEmpty then 0 else 1)<30))=true:=by rfl)
  (hline:(apos.endLine==cpos.line)=true:=by rfl) (hs:starEach (e::es) X.env=(false,eval e X.env)::starEach es X.env:=by rfl) (hplain:(backTo cpos<|starEach es X.env).any (·.1)=false:=by rfl) :
  PX X EX (.Call (.Attribute o name apos) (e::es) [] cpos) (wM g wo t):=by
 obtain⟨to,po,ko⟩:=ho.t;obtain⟨ta,pa,ka⟩:=ha.t;obtain⟨r,pr,kr⟩:=hm.t;refine⟨⟨_,rp PySem.F.plainAttrs_list slot hty pr po pa hbase hfew hline hs hplain,λW0 H0 W σ H ρ E Q s eo h=>?_⟩,λE ρ P P' hp z=>ho.mono _ _ _ _ (λx ⟨h1,h2⟩=>⟨h1,ha.mono _ _ _ _ (λds hds=>hm.mono _ _ _ _ hp hds) h2⟩) z⟩;refine ko W0 H0 W σ H ρ E _ s eo<|ho.mono _ _ _ _ (λd hd v W1 H1 x1 r1=>?_) h;obtain⟨⟨xs,rfl⟩,h2⟩:=hd;cases r1 with
 | @lst a vs ds e1 rr=>
  refine⟨.inl ⟨rfl,vs,SqL.of<|x1.ok.g _ _ e1⟩,?_⟩;refine ka W0 H0 W1 σ H1 ρ E _ (s.step x1) eo<|ha.mono _ _ _ _ (λds hds us W2 H2 x2 r2=>?_) h2;exact kr W2 H2 _ us _ ds Q x2.ok (.lst (x2.g _ _ e1)<|rr.mono x2.g x2.p) r2<|hm.mono _ _ _ _ (λd hd=>RQ.ext hd<|x1.trans x2) hds
end
def z6(bs:List Bool):List D:=bs.map .bl
def CZ:D->List D->(D->Prop)->Prop:=λx ds Q=>∃bs b,x=.lst (z6 bs)/\ds=[.bl b]/\Q (.int (bs.countP (· == b):Nat))
def C0:D->List D->(D->Prop)->Prop:=λx ds Q=>∃bs b j,x=.lst (z6 bs)/\ds=[.bl b]/\bs[j]? = some b/\(∀i<j,bs[i]?≠some b)/\Q (.int (j:Nat))
theorem C2{K:O3}{W:Wd}:∀{bs:List Bool} {vs:List V} {its:List Value},Reps K W vs (z6 bs)->Vals vs its->its=bs.map Value.bool
 |[],_,_,.nil,.nil=>rfl|b::bs,_,_,.cons r1 r2,.cons v1 v2=>by cases r1;obtain rfl:_=Value.bool b:=v1;rw[C2 r2 v2];rfl
theorem F8(k:Bool):∀(bs:List Bool),(bs.map Value.bool).countP (isBoolOf k)=bs.countP (· == k)
 |[]=>rfl|b::bs=>by rw[c6,List.countP_cons,List.countP_cons,F8 k bs];rfl
section
theorem K7:CY X "list.count" CZ:=by
 refine⟨⟨λx vs H Q=>∃W dx ds,WOk W H/\Rep X.K W x dx/\Reps X.K W vs ds/\CZ dx ds (RQ X.K W H Q),?_,λW H x vs dx ds Q ok r rs hg=>⟨W,dx,ds,ok,r,rs,hg⟩⟩,λdx ds P ⟨bs,b,h,_⟩=>⟨_,h⟩,λx ds P P' hp ⟨bs,b,h1,h2,h3⟩=>⟨bs,b,h1,h2,hp _ h3⟩⟩;rintro pins s σ H x vs v us Q I rx rv ⟨W,dx,ds,ok,r,rs,bs,b,rfl,rfl,q⟩;obtain⟨y,rfl,ry⟩:=rs.one;cases ry;obtain⟨u,rfl,ru⟩:=e7 rv;obtain rfl:u=Value.bool b:=ru;cases r with
 | @lst a xs ds e1 rr=>
  cases rx;obtain⟨its,rvs,pl,hz⟩:=I.list<|SqL.of (ok.g _ _ e1);have hits:=C2 rr rvs;subst hits;obtain⟨⟨cls,dd,data,sl⟩,ho,hc,n,hd⟩:=pl.isList;simp only at hc hd;subst hc hd;refine call_meets PySem.F.slot_list_count ⟨_,ho,rfl⟩ PySem.F.entry_list_count (PySem.F.args_list_count_2 _ _) (SeqAt.list_countAt a _ n dd sl (.bool b)<|isBoolOf b) ⟨ho,λy hy=>?_,?_⟩
  have hy':y∈bs.map Value.bool:=by simpa using hy
  obtain⟨c,_,rfl⟩:=YbT.mp hy';exact PySem.SeqAt.EqAt.bool_bool c b;rw[show((bs.map Value.bool).toArray.toList)=bs.map Value.bool from rfl,F8];exact⟨.int _,H,I.tok _,⟨_,rfl⟩,q.now ok<|.int _⟩
theorem La:CY X "list.index" C0:=by
 refine⟨⟨λx vs H Q=>∃W dx ds,WOk W H/\Rep X.K W x dx/\Reps X.K W vs ds/\C0 dx ds (RQ X.K W H Q),?_,λW H x vs dx ds Q ok r rs hg=>⟨W,dx,ds,ok,r,rs,hg⟩⟩,λdx ds P ⟨bs,b,j,h,_⟩=>⟨_,h⟩,λx ds P P' hp ⟨bs,b,j,h1,h2,h3,h4,h5⟩=>⟨bs,b,j,h1,h2,h3,h4,hp _ h5⟩⟩;rintro pins s σ H x vs v us Q I rx rv ⟨W,dx,ds,ok,r,rs,bs,b,j,rfl,rfl,hj,hno,q⟩;obtain⟨y,rfl,ry⟩:=rs.one;cases ry;obtain⟨u,rfl,ru⟩:=e7 rv;obtain rfl:u=Value.bool b:=ru;cases r with
 | @lst a xs ds e1 rr=>
  cases rx;obtain⟨its,rvs,pl,hz⟩:=I.list<|SqL.of (ok.g _ _ e1);have hits:=C2 rr rvs;subst hits;have hlen:xs.length=bs.length:=by rw[rr.length];unfold z6;rw[bQ]
  obtain⟨⟨cls,dd,data,sl⟩,ho,hc,n,hd⟩:=pl.isList;simp only at hc hd;subst hc hd;have hjl:j<bs.length:=(Yar.mp hj).1;have hsz:((bs.map Value.bool).toArray).size=bs.length:=by simp
  refine call_meets PySem.F.slot_list_index ⟨_,ho,rfl⟩ PySem.F.entry_list_index (PySem.F.args_list_index_2 _ _) (SeqAt.list_indexAt a _ n dd sl (.bool b) (isBoolOf b) j (by rw[hsz];exact hjl) ?_ ?_ ?_) ⟨ho,λy hy=>?_,?_⟩;rw[sizeLine_eq]at hz;have:bs.length<=2^62:=by first|(have:=hz;simp at this;omega)|omega
  have:=hjl;omega;have:=(Yar.mp hj).2;simp only[List.getElem_toArray,List.getElem_map,isBoolOf];rw[this];simp;intro m hm hlt;have hm':m<bs.length:=by rw[hsz]at hm;exact hm
  have:=hno m hlt;rw[cA hm']at this;simp only[List.getElem_toArray,List.getElem_map,isBoolOf];exact Bool.eq_false_iff.mpr λz=>this (by rw[beq_iff_eq.mp z]);have hy':y∈bs.map Value.bool:=by simpa using hy
  obtain⟨c,_,rfl⟩:=YbT.mp hy';exact PySem.SeqAt.EqAt.bool_bool c b;exact⟨.int _,H,I.tok _,⟨_,rfl⟩,q.now ok<|.int _⟩
end
section
def ZdV:G2:=λx y Q=>match x,y with|.tup xs,.int k=>k<1000/\-1000<k/\xs.length*k.toNat<=aO/\Q (.tup (List.replicate k.toNat xs).flatten)|_,_=>False
theorem ZdV.mono:∀x y P P',(∀d,P d->P' d)->ZdV x y P->ZdV x y P':=λx y P P' hp hg=>by unfold ZdV at hg ⊢;split at hg;exact⟨hg.1,hg.2.1,hg.2.2.1,hp _ hg.2.2.2⟩;exact hg.elim
theorem C3:gq X (binaryOp .Mult) ZdV:=by
 refine⟨⟨_,JU,λW H x y dx dy Q ok rx ry hg=>?_⟩,ZdV.mono⟩;unfold ZdV at hg;split at hg;obtain⟨p,vs,rfl,h1,r1⟩:=rx.sqt ok;cases ry;rename_i xs k;refine⟨p,k,vs,rfl,rfl,h1,by omega,by omega,by rw[r1.length];exact oj hg.2.2.1,λe=>?_,λa ha=>hg.2.2.2.tup ok (Cq r1 _) ha⟩;have e':(List.replicate k.toNat xs).flatten=xs:=by
  rcases e with e|e
  subst e;cases r1;simp;subst e;simp
 have q:=hg.2.2.2;rw[e']at q;exact q.now ok rx;exact hg.elim
end
section
theorem C4:PX X EX (.Dict [] [] pos) (wC .dic):=by refine⟨⟨_,JW,λW0 H0 W σ H ρ E Q s eo h p hp=>?_⟩,λE ρ P P' hp h=>hp _ h⟩;exact h (.ref p) (W.put p<|.dK []) _ (Ext.put s.ok hp)<|.dic (by unfold Wd.put;dsimp only;rw[aN])
def its(js:List Int):List D:=js.map .int
def gIn(neg:Bool):G2:=λx y Q=>∃i js,x=.int i/\(y=.lst (its js)\/y=.tup (its js))/\Q (.bl (if neg then !js.contains i else js.contains i))
theorem gIn.mono{neg:Bool}:∀x y P P',(∀d,P d->P' d)->gIn neg x y P->gIn neg x y P':=λx y P P' hp ⟨i,js,h1,h2,h3⟩=>⟨i,js,h1,h2,hp _ h3⟩
theorem C5{K:O3}{W:Wd}:∀{js:List Int} {vs:List V},Reps K W vs (its js)->vs=js.map V.int
 |[],_,.nil=>rfl|j::js,_,.cons r t=>by cases r;rw[C5 t];rfl
theorem C6(i:Int):∀js:List Int,zn (.int i) (js.map V.int)=js.contains i
 |[]=>rfl|j::js=>by have ih:=C6 i js;unfold zn at ih ⊢;rw[c6,yQ,ih,ue];congr 1;show(j==i)=(i==j);rw[j8,Po,Po];exact⟨Eq.symm,Eq.symm⟩
theorem C7:∀js:List Int,(js.map V.int).all fz=true
 |[]=>rfl|j::js=>by rw[c6,ud,C7 js];rfl
theorem xk{neg:Bool}{W:Wd}{x y:V}{dx dy:D}{Q:VK}(ok:WOk W H)(rx:Rep X.K W x dx)(ry:Rep X.K W y dy)(hg:gIn neg dx dy (RQ X.K W H Q)):EO X.K neg x y H Q:=by
 obtain⟨i,js,rfl,h,q⟩:=hg;cases rx;rcases h with rfl|rfl
 obtain⟨p,vs,rfl,h1,r1⟩:=ry.sql ok;obtain rfl:=C5 r1;exact⟨p,_,rfl,.inl h1,rfl,C7 js,by rw[C6];exact q.now ok<|.bl _⟩;obtain⟨p,vs,rfl,h1,r1⟩:=ry.sqt ok;obtain rfl:=C5 r1;exact⟨p,_,rfl,.inr h1,rfl,C7 js,by rw[C6];exact q.now ok<|.bl _⟩
theorem xn:gq X (compareOp .NotIn) (gIn true):=⟨⟨_,jc,λW H x y dx dy Q ok rx ry hg=>xk ok rx ry hg⟩,gIn.mono⟩
end
abbrev Zji:List Str:=["thing"]
def F9:WS:=(aM<|gS (wB gIs<|aC (wN 0)<|aC (wC<|.ty "int") aA)<|kH<|wB gIs<|aC (wN 0)<|aC (wC<|.ty "bool") aA)
abbrev Ziq:List Str:=["thing", "least", "most"]
def Ga:WS:=(aM<|gS (wF uB<|aC (wN 0) aA)<|Zbw kN kN (wN 1) (wN 0)<|wN 2)
abbrev Zg9:List Str:=["thing", "least", "most"]
def Gb:WS:=(aM<|gS (wB gIs<|aC (wN 0)<|aC (wC<|.ty "tuple") aA)<|wB jP<|aC (wL<|aLC (iS<|wN 0) 1 [1,2] (gN 0) dC<|wF xa<|aC (wN 0)<|aC (wN 1)<|aC (wN 2) aA) aA)
abbrev Zer:List Str:=["one", "other"]
def Gc:WS:=(aI (bK<|Cw (wT<|w2 (gEq true) (wN 1)<|wC<|D.int<|0)<|eR 0 1<|aC (wN 1)<|aC (w2 qK (wN 0)<|wN 1) aA)<|aM<|wB ir<|aC (wN 0) aA)
abbrev Zjj:List Str:=["thing", "top", "bottom"]
def Gd:WS:=(aI (cQ (fA (bV<|wT<|wB gIs<|aC (wN 0)<|aC (wC<|.ty "tuple") aA)<|wT<|w2 (gEq true) (wB bR<|aC (wN 0) aA)<|wC<|D.int<|2) (aM<|wC<|D.bl false) cT)<|aI (eQ (wN 0)<|fg 2<|dh (gN 1)<|dh (gN 2) e8)<|aI (cQ (fA (bV<|wT<|wF uB<|aC (wN 1) aA)<|bV<|wT<|wF uB<|aC (wN 2) aA) (aM<|wC<|D.bl false) cT)<|aM<|gS (w2 wX (wN 2)<|wC<|D.int<|0)<|w2 (gEq false) (wF zU<|aC (wN 1)<|aC (wN 2) aA)<|wC<|D.int<|1)
abbrev ZeU:List Str:=["thing", "least", "most"]
def Ge:WS:=(aI (cQ (fA (bV<|wT<|wB gIs<|aC (wN 0)<|aC (wC<|.ty "tuple") aA)<|bV<|wT<|Zbw kN kN (wN 1) (wB bR<|aC (wN 0) aA)<|wN 2) (aM<|wC<|D.bl false) cT)<|aM<|wB jP<|aC (wL<|aLC (iS<|wN 0) 1 [] (gN 0) dC<|wF CM<|aC (wN 0) aA) aA)
abbrev Zms:List Str:=["thing", "many"]
def Gf:WS:=(aM<|wF zV<|aC (wN 0)<|aC (wN 1)<|aC (wN 1) aA)
abbrev Zjf:List Str:=["top", "bottom", "divisor"]
def Gg:WS:=(aI (lu<|wT<|w2 (gEq true) (wN 1)<|wC<|D.int<|0)<|aI (aP 2<|wF zU<|aC (wN 0)<|aC (wN 1) aA)<|aI (cQ (wT<|w2 nM (wN 1)<|wC<|D.int<|0) (aP 2<|w1 fk<|wN 2) cT)<|aM<|bA<|aC (w2 fj (wN 0)<|wN 2)<|aC (w2 fj (wN 1)<|wN 2) aA)
abbrev ZpJ:List Str:=["one", "other"]
def Gh:WS:=(aM<|wF tK<|aC (w2 gAdd (w2 gMul (w2 gIx (wN 0)<|wC<|D.int<|0)<|w2 gIx (wN 1)<|wC<|D.int<|1)<|w2 gMul (w2 gIx (wN 1)<|wC<|D.int<|0)<|w2 gIx (wN 0)<|wC<|D.int<|1)<|aC (w2 gMul (w2 gIx (wN 0)<|wC<|D.int<|1)<|w2 gIx (wN 1)<|wC<|D.int<|1) aA)
abbrev Zol:List Str:=["one", "other"]
def Gi:WS:=(aM<|wF tK<|aC (w2 gMul (w2 gIx (wN 0)<|wC<|D.int<|0)<|w2 gIx (wN 1)<|wC<|D.int<|0)<|aC (w2 gMul (w2 gIx (wN 0)<|wC<|D.int<|1)<|w2 gIx (wN 1)<|wC<|D.int<|1) aA)
abbrev Zmq:List Str:=["numbers"]
def Gj:WS:=(aM<|wB hV<|aC (wL<|aLC (iS<|wN 0) 1 [] (gN 0) dC<|bA<|aC (wN 0)<|aC (wC<|D.int<|1) aA) aA)
abbrev Zd0:List Str:=["one", "other", "total", "left", "right"]
def Gk:WS:=(aI (aP 2<|wC<|D.tup [(D.int<|0),(D.int<|1)])<|aI (bK<|bN (iZ<|aC (wN 0)<|aC (wN 1) aA) (fg 2<|dh (gN 3)<|dh (gN 4) e8)<|aP 2<|wF xb<|aC (wN 2)<|aC (wF rG<|aC (wN 3)<|aC (wN 4) aA) aA)<|aM<|wN 2)
abbrev ZkP:List Str:=["slants"]
def Gm:WS:=(aM<|w2 fj (w2 gAdd (wB bR<|aC (wN 0) aA)<|wC<|D.int<|1)<|wC<|D.int<|2)
abbrev Zgj:List Str:=["thing"]
def Gn:WS:=(aI (cQ (fA (bV<|wT<|wF uC<|aC (wN 0)<|aC (wC<|.int (-50))<|aC (wC<|.int<|50) aA)<|wT<|w2 (gEq false) (w2 qK (wB bR<|aC (wN 0) aA)<|wC<|D.int<|2)<|wC<|D.int<|0) (aM<|wC<|D.bl false) cT)<|aM<|w2 kN (wF lZ<|aC (wN 0) aA)<|wC<|.int<|5)
abbrev Zgl:List Str:=["thing"]
def Go:WS:=(cQ (bV<|wT<|wF xc<|aC (wN 0) aA) (jn<|PySem.Str.ofString "NoSlants") cT)
abbrev Zjd:List Str:=["slants", "size"]
def Gp:WS:=(aI (eP<|wF oq<|aC (wN 0) aA)<|aI (aP 1<|wF lZ<|aC (wN 0) aA)<|aM<|wL<|aLC (fO<|aC (wN 1) aA) 1 [0,1] (gN 0) dC<|wL<|aB (gv (α:=Unit))<|aC (bP (wN 1) (dF<|w2 fu (w2 fu (wN 2)<|wC<|D.int<|1)<|wN 0)<|dF<|w2 fu (w2 fu (w2 gMul (wC<|D.int<|2)<|wN 2)<|wC<|D.int<|1)<|wN 0) aA)
abbrev Zmt:List Str:=["slants", "size", "whole_size"]
def Gq:WS:=(aI (eP<|wF oq<|aC (wN 0) aA)<|aI (aP 2<|wF lZ<|aC (wN 0) aA)<|aI (cQ (bV<|wT<|wF xa<|aC (wN 1)<|aC (wC<|D.int<|1)<|aC (wN 2) aA) (jn<|PySem.Str.ofString "NoNumber") cT)<|aM<|bP (wN 0) (dF<|w2 fu (wN 2)<|wN 1)<|dF<|w2 fu (w2 gAdd (wN 2)<|wN 1)<|wC<|D.int<|1)
abbrev Zjh:List Str:=["slants", "thing"]
def Gr:WS:=(aI (eP<|wF oq<|aC (wN 0) aA)<|aM<|wF zW<|aC (wN 1)<|aC (wF lZ<|aC (wN 0) aA) aA)
abbrev Zg6:List Str:=["slants"]
def Gu:WS:=(aM<|wL<|aLC (iS<|wF xg<|aC (wN 0) aA) 1 [] (gN 0) dC<|wF tM<|aC (wN 0) aA)
abbrev Zio:List Str:=["slants", "row"]
def Gv:WS:=(aI (cQ (bV<|wT<|wF uE<|aC (wN 0)<|aC (wN 1) aA) (jn<|PySem.Str.ofString "NoRow") cT)<|aM<|wB hV<|aC (wL<|aLC (iS<|wF Zd<|aC (wN 0) aA) 1 [1] (gN 0) dC<|wF zX<|aC (wN 0)<|aC (wN 1) aA) aA)
local macro_rules | `(tactic| walk_at "wp")=>`(tactic| simp only[aM,aI,cQ,aP,cT,eP,cM,cH,bN,lu,eR,eQ,cO,iQ,fi,my,bK,jn,gS,gu,kH,fc,fA,bV,wT,kI,w1,w2,wB,wF,wL,bA,bP,Zbw,aB,bG,aC,aA,aLC,Zcf,dC,iS,iL,iT,fO,iP,iZ,i1,i2,isS,isL,zN,isB,isI,eO,dF,wN,wC,gN,fg,dh,e8,gI2,gAdd,gMul,gIx,d6,gCut,gRev,bR,gv,hV,ir,kK,iu,kM,fG,dZ,fh,dD,dL,eT,fE,gx,dY,pub,c6,hZ,dX,jZ,iG,eY,List.replicate,dv,eZ,h8,ia,Nat.reduceSub,Nat.reduceAdd,gJ,mi,true_and,ee,if_true,if_false,ite_true,ite_false])
local macro_rules | `(tactic| walk_at "go")=>`(tactic| ((try dsimp only at *);(try walk_at "wp");(try dsimp only)))
theorem qN{x:D}(h:kd x=true)(hT:T∈zK)(q:∀t,zJ x=some t->Q (.bl<|jl t T)):gIs [x,.ty T] Q:=by obtain⟨t,ht⟩:=w4 h;exact⟨t,ht,hT,q t ht⟩
theorem Gw:Rd uB F9 Zji:=by
 rintro _ E Q ⟨x,rfl,hk,q⟩;unfold F9;walk_at "wp";refine qN hk (by decide) λt ht=>?_;cases x<;>cases ht<;>first
  |exact q
  |exact qN hk (by decide) λt ht=>by cases ht;exact q
theorem Lb:Rd xa Ga Ziq:=by
 rintro _ E Q ⟨⟨x,l,m⟩,rfl,hk,q⟩;unfold Ga;walk_at "go";refine⟨x,rfl,hk,?_⟩;cases x<;>try exact q
 rename_i i;simp only[mz,isB,if_true,gI2,true_and];by_cases h:l<=i;simp only[h,decide_true,if_true];simpa[eh,h] using q;simp only[h,decide_false,if_false,ee];simpa[eh,h] using q
theorem Lc:Rd uC Gb Zg9:=by
 rintro _ E Q ⟨⟨x,l,m⟩,rfl,hk,q⟩;unfold Gb;walk_at "go";refine qN hk (by decide) λt ht=>?_;cases x<;>cases ht<;>try exact q
 rename_i xs;obtain⟨hl,hx⟩:=tJ hk;show lcW _ _ _ xs _ _ _;refine Zj (f:=λd=>.bl<|eh l m d) (λd hd Q hq=>?_) .un [] (by simp[aO];omega) ?_;walk_at "go";exact⟨(d,l,m),rfl,hx d hd,hq⟩;refine⟨xs.map<|eh l m,by simp,?_⟩;simpa[u9,Function.comp_def,kO] using q
theorem Zm(a b:Int):Int.gcd b (a.fmod b)=Int.gcd a b:=by
 have e:a.fmod b=a-b*a.fdiv b:=by have:=Int.mul_fdiv_add_fmod a b;omega
 rw[e,Int.gcd_sub_mul_left_right,Int.gcd_comm]
theorem Gx(a:Int){b:Int}(h:b≠0):(a.fmod b).natAbs<b.natAbs:=by
 have key:∀a b:Int,0<b->0<=a.fmod b/\a.fmod b<b:=λa b z=>by rw[Bj _<|Int.le_of_lt z];exact⟨Int.emod_nonneg _<|by omega,Int.emod_lt_of_pos _ z⟩
 rcases Int.lt_or_lt_of_ne h with z|z
 have h1:=key (-a) (-b) (by omega);rw[Int.neg_fmod_neg]at h1;omega;have h1:=key a b z;omega
theorem Ld:Rd zU Gc Zer:=by
 rintro _ E Q ⟨⟨a,b⟩,rfl,_,q⟩;unfold Gc;walk_at "go";refine⟨λm ρ=>∃x y:Int,m=y.natAbs/\ρ=[.d<|.int x,.d<|.int y]/\Int.gcd x y=Int.gcd a b,⟨_,a,b,rfl,rfl,rfl⟩,?_⟩;rintro m _ ⟨x,y,rfl,rfl,hg⟩;walk_at "go";by_cases hy:y=0;subst hy;simp only[Pk,f6,ee,if_false];rw[Int.gcd_zero_right]at hg;rw[<-hg]at q;have:(if x<0 then -x else x)=((x.natAbs:Nat):Int):=by split<;>omega
 rw[this];exact q;rw[if_pos<|by simpa using hy];exact⟨hy,_,Gx x hy,_,_,rfl,rfl,by rw[Zm];exact hg⟩
theorem Gy(h:xs.length≠2):cU (.tup xs)=false:=by unfold cU;split;rename_i e;cases e;exact O5 rfl h;rfl
theorem Gz{a b:D}(h:mz a=false):cU (.tup [a,b])=false:=by unfold cU;split;rename_i e;cases e;cases h;rfl
theorem GA{a b:D}(h:mz b=false):cU (.tup [a,b])=false:=by unfold cU;split;rename_i e;cases e;cases h;rfl
theorem xo{a:D}(h:mz a=true):∃i,a=.int i:=by
 cases a<;>first
  |exact⟨_,rfl⟩
  |cases h
theorem Le:Rd CM Gd Zjj:=by
 rintro _ E Q ⟨x,rfl,hk,q⟩;unfold Gd;walk_at "go";refine qN hk (by decide) λt ht=>?_;cases x<;>cases ht<;>try exact q
 rename_i xs;obtain⟨hl,hx⟩:=tJ hk;walk_at "go";simp only[show jl "tuple" "tuple" = true from rfl,f6,ee,if_false]
 by_cases h2:xs.length=2
 .match xs,h2,hx,q with
  |[a,b],_,hx,q=>
  rw[if_neg<|by simp];walk_at "go";refine⟨a,rfl,hx a<|by simp,?_⟩;walk_at "go";cases ha:mz a with
  |false=>rw[Gz ha]at q;exact q
  |true=>
   obtain⟨i,rfl⟩:=xo ha;simp only[f6,ee,if_false];refine⟨b,rfl,hx b<|by simp,?_⟩;walk_at "go";cases hb:mz b with
   |false=>rw[GA hb]at q;exact q
   |true=>
    obtain⟨j,rfl⟩:=xo hb;simp only[f6,ee,if_false];walk_at "go"
    by_cases h:0<j
    .simp only[show j>0 from h,decide_true,if_true]
     refine⟨(i,j),rfl,trivial,?_⟩;walk_at "go";have:cU (.tup [.int i,.int j])=(((Int.gcd i j:Nat):Int)==1):=by
      simp only[cU,h,decide_true,p7];rw[j8];simp;omega
     rw[this]at q;simpa using q
    .have h':¬j>0:=h
     simp only[h',decide_false,if_false,ee];simpa[cU,h] using q
 .rw[Gy h2]at q
  rw[if_pos<|by simpa using λz=>h2<|by exact_mod_cast z];exact q
theorem Lg:Rd zV Ge ZeU:=by
 rintro _ E Q ⟨⟨x,l,m⟩,rfl,hk,q⟩;unfold Ge;walk_at "go";refine qN hk (by decide) λt ht=>?_;cases x<;>cases ht<;>try exact q
 rename_i xs;obtain⟨hl,hx⟩:=tJ hk;walk_at "go";simp only[show jl "tuple" "tuple" = true from rfl,f6,ee,if_false];simp only[w8]at q;cases h1:decide (l<=(xs.length:Int)) with
 |false=>rw[h1]at q;simpa using q
 |true=>
  cases h2:decide ((xs.length:Int)<=m) with
  |false=>rw[h1,h2]at q;simpa using q
  |true=>
   simp only[if_true,f6,ee,if_false];walk_at "go";refine Zj (f:=λd=>.bl<|cU d) (λd hd Q hq=>?_) .un [] (by simp[aO];omega) ?_
   .walk_at "go"
    exact⟨d,rfl,hx d hd,hq⟩
   .refine⟨xs.map cU,by simp,?_⟩
    rw[h1,h2]at q;simpa[u9,Function.comp_def] using q
theorem Lh(n:Int)(x:D):w8 n n x=iy n x:=by
 cases x<;>try rfl
 rename_i xs;simp only[w8,iy];congr 1;rw[j8];simp;omega
theorem Li:Rd zW Gf Zms:=by rintro _ E Q ⟨⟨x,n⟩,rfl,hk,q⟩;unfold Gf;walk_at "go";refine KS hk ?_;rw[Lh];exact q
theorem Bd.le{i j:Int}(h:i.natAbs<=j.natAbs)(b:Bd j):Bd i:=jD h b
theorem Lj:Rd tK Gg Zjf:=by
 rintro _ E Q ⟨⟨t,b⟩,rfl,⟨hb,hd⟩,q⟩;unfold Gg;walk_at "go";refine⟨by simpa using hb,(t,b),rfl,trivial,?_⟩;walk_at "go";have hg:0<Int.gcd t b:=Bh _ hb;have hle:Int.gcd t b<=b.natAbs:=Nat.le_of_dvd (by omega)<|Int.gcd_dvd_natAbs_right ..;obtain⟨e1,e2⟩:=FS (t:=t) hb;unfold aR at q;rw[<-e1,<-e2]at q
 by_cases h:b<0;simp only[h,decide_true,if_true]at q ⊢;refine⟨⟨by omega,Bd.le (by omega) hd⟩,⟨by omega,Bd.le (by omega) hd⟩,by simp[aO],q⟩;simp only[h,decide_false,if_false,ee]at q ⊢;refine⟨⟨by omega,Bd.le (by omega) hd⟩,⟨by omega,Bd.le (by omega) hd⟩,by simp[aO],q⟩
theorem rK(h:Q (.int q.num)):gIx (aR q) (.int 0) Q:=⟨_,rfl,h⟩
theorem gz(h:Q (.int q.den)):gIx (aR q) (.int 1) Q:=⟨_,rfl,h⟩
theorem GB:Rd xb Gh ZpJ:=by
 rintro _ E Q ⟨⟨p,q⟩,rfl,hb,h⟩;obtain⟨b1,b2,b3,b4,b5,b6,b7,b8⟩:=hb.mul;unfold Gh;simp only[aM,wF,aC,w2,wN,wC,dY,c6,iG,dv,eZ];refine rK<|gz ⟨b1,rK<|gz ⟨b2,gz<|gz ⟨b3,?_⟩⟩⟩;refine⟨(_,_),rfl,⟨b6,b5⟩,?_⟩;dsimp only at h ⊢;have e:Rat.divInt (p.num*q.den+q.num*p.den) ((p.den:Int)*q.den)=p+q:=by rw[Rat.add_def',<-Bl];rfl
 rw[e];exact h
theorem GC:Rd rG Gi Zol:=by
 rintro _ E Q ⟨⟨p,q⟩,rfl,hb,h⟩;obtain⟨b1,b2,b3,b4,b5,b6,b7,b8⟩:=hb.mul;unfold Gi;simp only[aM,wF,aC,w2,wN,wC,dY,c6,iG,dv,eZ];refine rK<|rK ⟨b4,gz<|gz ⟨b3,?_⟩⟩;refine⟨(_,_),rfl,⟨b6,b5⟩,?_⟩;dsimp only at h ⊢;have e:Rat.divInt (p.num*q.num) ((p.den:Int)*q.den)=p*q:=by rw[Rat.mul_def',<-Bl];rfl
 rw[e];exact h
theorem Lk{b:Bool}{Q:List D->Prop}(h:Q xs):isS Q (lY b xs):=by cases b<;>exact h
theorem tQ(i:Int):aR (i:Rat)=.tup [.int i,.int 1]:=by unfold aR;rw[yV,yW];rfl
theorem Ll:Rd tM Gj Zmq:=by
 rintro _ E Q ⟨⟨b,xs⟩,rfl,hl,q⟩;dsimp only at hl q;unfold Gj;simp only[aM,wB,aC,aA,wL,aLC,iS,wN,dY,Zcf,List.replicate,c6,hZ,iG,eY,dv];refine Lk<|Zj (f:=λd=>.tup [d,.int 1]) (λd hd Q hq=>?_) .un [] (by simp[aO];omega) ?_
 walk_at "go";exact⟨by simp[aO],hq⟩;have e:(xs.map D.int).map (λd=>D.tup [d,.int 1])=(xs.map λ(i:Int)=>(i:Rat)).map aR:=by rw[du,du];exact hJ λi _=>(tQ i).symm
 rw[eY,e];exact q
theorem Lm:Rd zX Gk Zd0:=by
 rintro _ E Q ⟨⟨⟨b1,b2⟩,p,q⟩,rfl,⟨n,m,hp,hq,hb⟩,h⟩;dsimp only at hp hq hb h;unfold Gk;simp only[aI,aP,wC,dY,c6,hZ,dX,jZ,iG,eY,List.replicate,ia,h8,bK,bN,iZ,aC,aA,wN,dv,eZ,Nat.reduceSub,Nat.reduceAdd];have key:∀(p' q':List Rat) (s:Rat) (sv sv':SV) (j:Nat),(∀x∈p',Sz n x)->(∀x∈q',Sz m x)->Sz (j*(n+m+1)+1) s->j+p'.length<=p.length->s+c7 p' q'=c7 p q->
   ZbV (fg 2<|dh (gN 3)<|dh (gN 4) e8) (aP 2<|wF xb<|aC (wN 2)<|aC (wF rG<|aC (wN 3)<|aC (wN 4) aA) aA) No { nx:=aM (wN 2) E { nx:=λ_=>Q .non,rt:=Q },rt:=Q,bk:=λ_=>False,ct:=λ_=>False }
    (dH (p'.map aR)<|q'.map aR) [.d<|lY b1<|p.map aR,.d<|lY b2<|q.map aR,.d<|aR s,sv,sv']:=by
  intro p'
  induction p' with
  |nil=>
   intro q' s sv sv' j _ _ _ _ he;rw[c7,p8]at he;simp only[dH,hZ,List.zipWith_nil_left,ZbV];show Q (aR s);rw[he];exact h
  |cons x p' ih=>
   intro q' s sv sv' j h1 h2 h3 h4 he;cases q' with
   |nil=>
    rw[c7,p8]at he;simp only[dH,hZ,List.zipWith_nil_right,ZbV];show Q (aR s);rw[he];exact h
   |cons y q'=>
    have hx:=h1 x (by simp);have hy:=h2 y (by simp);rw[dX]at h4;have hj:j*(n+m+1)<=p.length*(n+m+1):=p6 _ (by omega);have hj':(j+1)*(n+m+1)<=p.length*(n+m+1):=p6 _ (by omega);rw[qX]at hj';simp only[dH,c6,List.zipWith_cons_cons,ZbV];refine⟨rfl,?_⟩;simp only[dh,e8,gN,aP,wF,aC,aA,wN,dv,eZ,ia,h8];refine⟨(x,y),rfl,B2.of hx hy<|by omega,?_⟩;refine⟨(s,x*y),rfl,B2.of h3 (hx.mul hy)<|by omega,?_⟩;refine ih q' (s+x*y) _ _ (j+1) (λz hz=>h1 z<|by simp[hz]) (λz hz=>h2 z<|by simp[hz]) ?_ (by omega) ?_
    .refine(h3.add<|hx.mul hy).mono ?_
     rw[qX];omega
    .rw[c7]at he
     rw[Rat.add_assoc];exact he
 have e0:D.tup [D.int 0,D.int 1]=aR 0:=rfl;rw[e0];have k:=key p q 0 .un .un 0 hp hq (Sz.zero<|by omega) (by omega)<|Rat.zero_add _;cases b1<;>cases b2<;>exact k
theorem jR{α:Type}{we:WE}{tail:cX}{Q:List D->Prop}{g f:α->D}:∀(L:List α),(∀a∈L,∀Q:D->Prop,Q (f a)->we No (.d (g a)::tail) Q)->∀(sv:SV) (acc:List D),acc.length+L.length<=aO->Q (acc++L.map f)->lcW (gN 0) dC we (L.map g) (sv::tail) acc Q
 |[],_,sv,acc,_,hq=>by simpa[lcW] using hq|a::L,h,sv,acc,hl,hq=>by rw[c6,lcW];show we No (SV.d (g a)::tail) _;rw[dX]at hl;refine h a (lw ..) _ ⟨by omega,jR L (λd hd=>h d<|jr _ hd) _ _ ?_ ?_⟩;rw[d9,mh];omega;rw[nZ];exact hq
theorem xp{α:Type}{xs:List α}{i:Int}{x:α}(hi:i=k)(h:xs[k]? = some x):dN xs i=some x:=by rw[hi];exact bE h
theorem Ln{α:Type}{xs:List α}{a:Nat}(h:a<=b)(hb:b<=xs.length):aV xs (some (a:Int)) (some (b:Int))=(xs.drop a).take (b-a):=by unfold aV;rw[HT.sIx_nat,HT.sIx_nat,mM hb,mM<|hX h hb]
theorem C8{α:Type}{xs:List α}{i j:Int}{a:Nat}(hi:i=a)(hj:j=b)(h:a<=b)(hb:b<=xs.length):aV xs (some i) (some j)=(xs.drop a).take (b-a):=by rw[hi,hj];exact Ln h hb
theorem GD{α:Type}{xs:List α}{a:Nat}(h:a<=xs.length):aV xs (some (a:Int)) none=xs.drop a:=by unfold aV;rw[HT.sIx_nat,HT.sIx_none,mM h,<-iD,List.take_length]
theorem z7{α:Type}{xs:List α}{i:Int}(hi:i=b):aV xs none (some i)=xs.take b:=by
 unfold aV;rw[hi,HT.sIx_nat,HT.sIx_none,pZ,Nat.sub_zero];rcases Nat.le_total b xs.length with h|h
 rw[mM h];rw[Nat.min_eq_right h,List.take_length,y3 h]
theorem jo{i:Int}(h:i.natAbs<2^n)(l:n<=8990):Bd i:=dG h<|mL (by decide) l
theorem Lo:Rd lZ Gm ZkP:=by rintro _ E Q ⟨x,rfl,hl,q⟩;unfold Gm;walk_at "go";refine⟨⟨by decide,jo (n:=2) (by decide)<|by omega⟩,?_⟩;rw[va _<|by decide];exact q
theorem Lp:Rd xc Gn Zgj:=by
 rintro _ E Q ⟨x,rfl,hk,q⟩;unfold Gn;walk_at "go";refine CO hk ?_;walk_at "go";cases ha:kO (-50) 50 x with
 |false=>
  have:fo x=false:=by
   cases x<;>try rfl
   simp only[kO]at ha;simp only[fo,ha,rW]
  rw[this]at q;simpa using q
 |true=>
  cases x<;>try (cases ha;done)
  rename_i xs;obtain⟨hl,hx⟩:=tJ hk;walk_at "go";simp only[f6,ee,if_false];refine⟨by decide,?_⟩;simp only[kO]at ha;simp only[fo,ha,p7]at q;rw[Bj _<|by decide];by_cases h:xs.length%2=1;rw[if_neg (by simp;omega)];walk_at "go";refine FY hl ?_;walk_at "go";rw[O7 h,p7]at q;have e:decide (((xs.length:Int)+1)/2<=5)=decide (xs.length<=9):=by rw[decide_eq_decide];omega
  rw[e];exact q;rw[if_pos (by simp;omega)];rw[Pe h,rW]at q;exact q
theorem Lq:Rd oq Go Zgl:=by
 rintro _ E Q ⟨x,rfl,h,q⟩;unfold Go;walk_at "go";refine KZ h ?_;walk_at "go";unfold ge at q;cases e:fo x with
 |false=>rw[e]at q;exact q|true=>rw[e]at q;exact q
theorem C9{x:D}{E:Ex->Prop}(h:kd x=true)(hb:fo x=false->E "NoSlants")(hg:∀s n,x=aL s->IsSl s n->Q .non):oq [x] E Q:=by
 cases e:fo x with
 |false=>exact F2 h e<|hb e
 |true=>obtain⟨s,n,rfl,hs⟩:=mB e;exact CU hs<|hg s n rfl hs
theorem l5{x:D}{E:Ex->Prop}(e:fo x=false)(q:exQ E Q (ge x v)):E "NoSlants" :=by rw[lv e]at q;exact q
theorem l6{E:Ex->Prop}(h:IsSl s n)(q:exQ E Q (ge (aL s) v)):exQ E Q v:=by rw[gH h]at q;exact q
theorem Lr:Rd xg Gp Zjd:=by
 rintro _ E Q ⟨x,rfl,hk,q⟩;unfold Gp;walk_at "go";refine C9 hk (λe=>l5 e q) λs n e h=>?_;subst e;replace q:Q (jm s n):=by have:=l6 h q;rw[dP,h.sN]at this;exact this
 refine tO h ?_;walk_at "go";have h5:=h.n5;have hl:=h.len;refine⟨by omega,by omega,?_⟩;rw[jA];refine Zj (f:=λd=>match d with|.int i=>d7 ((s.drop<|n-1-i.toNat).take n)|_=>.non) (λd hd Q hq=>?_) .un [] (by simp[rng,aO];omega) ?_;obtain⟨i,hi,rfl⟩:=YbT.mp hd;rw[Yah]at hi;walk_at "go";refine⟨⟨jo (n:=2) (by decide)<|by omega,jo (n:=10) (by omega)<|by omega⟩,?_⟩;have e:aV (s.map D.int) (some<|(n:Int)-1-(0+(i:Int))) (some<|2*(n:Int)-1-(0+(i:Int)))=((s.drop<|n-1-i).take n).map D.int:=by rw[C8 (a:=n-1-i) (b:=2*n-1-i) (by omega) (by omega) (by omega) (by rw[bQ];omega),show 2*n-1-i-(n-1-i)=n by omega,<-p9,<-mj]
 show Q (D.lst<|aV (s.map D.int) _ _);rw[e];have e2:(0+(i:Int)).toNat=i:=by omega
 rw[e2]at hq;exact hq;have e:(rng 0 n).map (λd=>match d with|.int i=>d7 ((s.drop<|n-1-i.toNat).take n)|_=>.non)=(tbl s n).map d7:=by unfold rng tbl;rw[du,du];refine hJ λi _=>?_;simp
 rw[eY,e];exact q
theorem j6(s:List Int)(n:Nat):(tbl s n).length=n:=by simp[tbl]
theorem nO(h:IsSl s n):∀r∈tbl s n,r.length=n/\∀x∈r,-50<=x/\x<=50:=by intro r hr;unfold tbl at hr;obtain⟨i,hi,rfl⟩:=YbT.mp hr;rw[Yah]at hi;have hl:=h.len;refine⟨by rw[gj,iD];omega,λx hx=>h.b x<|ly<|mO hx⟩
theorem Ls:Rd ot Gq Zmt:=by
 rintro _ E Q ⟨⟨x,k⟩,rfl,⟨hk,hk2⟩,q⟩;dsimp only at hk hk2 q;unfold Gq;walk_at "go";refine C9 hk (λe=>l5 e q) λs n e h=>?_;subst e;replace q:=l6 h q;rw[h.sN,dP]at q;have hl:=h.len;refine tO h ?_;walk_at "go";refine KR hk2 ?_;walk_at "go";cases e:eh 1 (n:Int) k with
 |false=>rw[e]at q;exact q
 |true=>
  rw[e]at q;have q:Q (aL<|cor s n (uD k).toNat):=q;obtain⟨i,rfl⟩:∃i,k=.int i:=by cases k<;>first|exact⟨_,rfl⟩|cases e
  simp only[eh,cV,O6]at e;obtain⟨k,rfl⟩:∃k:Nat,i=k:=⟨i.toNat,by omega⟩;simp only[f6,ee,if_false];unfold aL;walk_at "go";rw[C8 (a:=n-k) (b:=n+k-1) (by omega) (by omega) (by omega) (by rw[bQ];omega),show n+k-1-(n-k)=2*k-1 by omega,<-p9,<-mj];exact q
theorem Lu:Rd uE Gr Zjh:=by rintro _ E Q ⟨⟨x,y⟩,rfl,⟨hk,hk2⟩,q⟩;dsimp only at hk hk2 q;unfold Gr;walk_at "go";refine C9 hk (λe=>l5 e q) λs n e h=>?_;subst e;replace q:=l6 h q;rw[h.sN]at q;exact tO h<|KU hk2 q
theorem Lv:Rd Zd Gu Zg6:=by
 rintro _ E Q ⟨⟨s,n⟩,rfl,h,q⟩;have h5:=h.n5;unfold Gu;walk_at "go";refine F3 h ?_;unfold jm;walk_at "go";refine Zj (f:=λd=>match d with|.lst xs=>.tup (xs.map λx=>.tup [x,.int 1])|_=>.non) (λd hd Q hq=>?_) .un [] (by simp[j6,aO];omega) ?_;obtain⟨r,hr,rfl⟩:=YbT.mp hd;walk_at "go";have:=(nO h r hr).1;refine KW (by omega) ?_;have e:aG (bW r)=.tup ((r.map D.int).map λx=>.tup [x,.int 1]):=by unfold aG bW;rw[du,du];exact congrArg D.tup<|hJ λi _=>tQ i
 rw[e];exact hq;have e:((tbl s n).map d7).map (λd=>match d with|.lst xs=>.tup (xs.map λx=>.tup [x,.int 1])|_=>.non)=(tbl s n).map λr=>aG (bW r):=by rw[du];refine hJ λr _=>?_;unfold aG bW;simp only[Function.comp_apply,d7];rw[du,du];exact congrArg D.tup<|hJ λi _=>(tQ i).symm
 rw[eY,e];exact q
theorem xq{x:Int}(h:-50<=x/\x<=50):Sz 6 (x:Rat):=Sz.int x (by omega) (by omega)
theorem Lw:Rd rJ Gv Zio:=by
 rintro _ E Q ⟨⟨x,y⟩,rfl,⟨hk,hk2,hbs⟩,q⟩;dsimp only at hk hk2 hbs q;unfold Gv;walk_at "go";cases e:fo x with
 |false=>exact K2 hk hk2 e<|l5 e q
 |true=>
 obtain⟨s,n,rfl,h⟩:=mB e;have h5:=h.n5;refine F5 h hk2 ?_;replace q:=l6 h q;rw[h.sN,dP]at q;walk_at "go";cases er:iy n y with
 |false=>rw[er]at q;exact q
 |true=>
 rw[er]at q;obtain⟨r,rfl,hl'⟩:=CQ er;have hl:r.length=n:=by omega
 have q:Q (aG<|bC s n<|rQ<|aG r):=q;rw[qM]at q;obtain⟨m,hm,hb⟩:=hbs r rfl;simp only[f6,ee,if_false];refine K3 h ?_;walk_at "go";have key:∀line∈tbl s n,BR (bW line) r:=λline hline=>by
  obtain⟨h1,h2⟩:=nO h line hline;refine⟨6,m,λx hx=>?_,hm,?_⟩
  .obtain⟨i,hi,rfl⟩:=YbT.mp hx
   exact xq<|h2 i hi
  .have:(bW line).length=n:=by unfold bW;rw[bQ];exact h1
   rw[this];have:n*(6+m+1)<=5*(6+m+1):=p6 _ h5;omega
 refine jR (g:=λline=>aG<|bW line) (f:=λline=>aR<|c7 (bW line) r) (tbl s n) (λline hl' Q hq=>?_) .un [] (by simp[j6,aO];omega) ?_
 .walk_at "go"
  exact KY (key line hl') hq
 .have e:(tbl s n).map (λline=>aR<|c7 (bW line) r)=(bC s n r).map aR:=by
   unfold bC;rw[du];rfl
  rw[eY,e];exact q
def z8:bO:=fnS (λx:List Int×Nat=>[.scr<|x.1.map .int,.int x.2]) (λ_=>True) λx=>.int<|x.1.getD x.2 0
def xr:bO:=rlS (λx:Int=>[.int x]) (λ_=>True) λ_ d=>∃j:Int,d=.int j
def z9:bO:=fnS (λx:Int=>[.int x]) (λ_=>True) λ_=>.pen
def gW:bO:=rlS (λm:Nat=>[.pen,.int m]) (λm=>0<m/\m<2^30) λm d=>∃k:Nat,d=.int k/\k<m
def qO:bO:=tK
def xu:bO:=xb
def tR:bO:=rG
def xv:bO:=rlS (λ_:Unit=>[.pen]) (λ_=>True) λ_ d=>∃s n,IsSl s n/\d=aL s
def Aa:bO:=rlS (λn:Nat=>[.pen,.int n]) (λn=>n<=5) λn d=>∃r:List Rat,r.length=n/\(∀x∈r,Sz 72 x)/\d=aG r
section
variable{E:Ex->Prop}{x:D}{l m a b:Int}{p:Rat}
theorem Lx{xs:List Int}(q:Q (.int<|xs.getD i 0)):z8 [.scr<|xs.map .int,.int i] E Q:=⟨(xs,i),rfl,trivial,q⟩
theorem GE(q:∀j:Int,Q<|.int j):xr [.int a] E Q:=⟨a,rfl,trivial,λd ⟨j,hd⟩=>by rw[hd];exact q j⟩
theorem Ly(q:Q .pen):z9 [.int a] E Q:=⟨a,rfl,trivial,q⟩
theorem jv(h:0<n)(h':n<2^30)(q:∀k:Nat,k<n->Q (.int k)):gW [.pen,.int n] E Q:=⟨n,rfl,⟨h,h'⟩,λd ⟨k,hd,hk⟩=>by rw[hd];exact q k hk⟩
theorem GF(h:b≠0)(h':Bd b)(q:Q (aR<|Rat.divInt a b)):qO [.int a,.int b] E Q:=⟨(a,b),rfl,⟨h,h'⟩,q⟩
theorem GG(h:B2 p q)(z:Q (aR<|p+q)):xu [aR p,aR q] E Q:=⟨(p,q),rfl,h,z⟩
theorem Ab(h:B2 p q)(z:Q (aR<|p*q)):tR [aR p,aR q] E Q:=⟨(p,q),rfl,h,z⟩
theorem GH(q:∀s n,IsSl s n->Q (aL s)):xv [.pen] E Q:=⟨(),rfl,trivial,λd ⟨s,n,h,hd⟩=>by rw[hd];exact q s n h⟩
theorem Lz(h:n<=5)(q:∀r:List Rat,r.length=n->(∀x∈r,Sz 72 x)->Q (aG r)):Aa [.pen,.int n] E Q:=⟨n,rfl,h,λd ⟨r,h1,h2,hd⟩=>by rw[hd];exact q r h1 h2⟩
end
abbrev Zfv:List Str:=["_law_script", "_law_k"]
def GI:WS:=(aI (cQ (wT<|w2 nM (wN 1)<|wB bR<|aC (wN 0) aA) (aM<|w2 gIx (wN 0)<|wN 1) cT)<|aM<|wC<|D.int<|0)
abbrev Ziu:List Str:=["_law_seed"]
def GJ:WS:=(aI (aP 0<|w2 qK (w2 gAdd (wN 0)<|wC<|D.int<|7919)<|wC<|D.int<|2147483647)<|aM<|w2 qK (w2 gAdd (w2 gAdd (w2 gMul (wN 0)<|wN 0)<|w2 gMul (wC<|D.int<|48271)<|wN 0)<|wC<|D.int<|12345)<|wC<|D.int<|2147483629)
abbrev Zgo:List Str:=["_law_cell", "_law_left"]
def GK:WS:=(aI (aP 1<|wB kK<|aC (wN 0)<|aC (w2 fu (wC<|D.int<|0)<|wN 0) aA)<|aM<|fG<|bG<|aC (wN 1)<|aC (wB iu<|aC (w2 CB (wN 1)<|w2 zQ (wC<|D.int<|10)<|wC<|D.int<|18) aA)<|aC (w2 qK (wN 1)<|wC<|D.int<|1000003) aA)
abbrev Ziw:List Str:=["_law_pen", "_law_many", "_law_found"]
def GL:WS:=(aI (cQ (wT<|w2 (gEq false) (w2 d6 (wN 0)<|wC<|D.int<|1)<|wC<|D.int<|1) (aI (aP 2<|w2 qK (w2 d6 (wN 0)<|wC<|D.int<|0)<|wN 1)<|aI (fi 0<|w2 fj (w2 d6 (wN 0)<|wC<|D.int<|0)<|wN 1)<|aM<|wN 2) cT)<|aI (fi 0<|wF xr<|aC (w2 gAdd (wF xr<|aC (w2 d6 (wN 0)<|wC<|D.int<|2) aA)<|wC<|D.int<|7) aA)<|aM<|w2 qK (w2 fj (w2 d6 (wN 0)<|wC<|D.int<|2)<|wC<|D.int<|64)<|wN 1)
abbrev Zhb:List Str:=["_law_top", "_law_bottom", "_law_one", "_law_other"]
def GM:WS:=(aI (eR 2 3<|aC (wB ir<|aC (wN 0) aA)<|aC (wB ir<|aC (wN 1) aA) aA)<|aI (bK<|Cw (wT<|w2 (gEq true) (wN 3)<|wC<|D.int<|0)<|eR 2 3<|aC (wN 3)<|aC (w2 qK (wN 2)<|wN 3) aA)<|aI (cQ (wT<|w2 nM (wN 1)<|wC<|D.int<|0) (aP 2<|w2 fu (wC<|D.int<|0)<|wN 2) cT)<|aM<|bA<|aC (w2 fj (wN 0)<|wN 2)<|aC (w2 fj (wN 1)<|wN 2) aA)
abbrev Zjk:List Str:=["_law_one", "_law_other"]
def LA:WS:=(aM<|wF qO<|aC (w2 gAdd (w2 gMul (w2 gIx (wN 0)<|wC<|D.int<|0)<|w2 gIx (wN 1)<|wC<|D.int<|1)<|w2 gMul (w2 gIx (wN 1)<|wC<|D.int<|0)<|w2 gIx (wN 0)<|wC<|D.int<|1)<|aC (w2 gMul (w2 gIx (wN 0)<|wC<|D.int<|1)<|w2 gIx (wN 1)<|wC<|D.int<|1) aA)
abbrev Zha:List Str:=["_law_one", "_law_other"]
def LB:WS:=(aM<|wF qO<|aC (w2 gMul (w2 gIx (wN 0)<|wC<|D.int<|0)<|w2 gIx (wN 1)<|wC<|D.int<|0)<|aC (w2 gMul (w2 gIx (wN 0)<|wC<|D.int<|1)<|w2 gIx (wN 1)<|wC<|D.int<|1) aA)
abbrev Zet:List Str:=["_law_pen", "_law_size", "_law_way", "_law_span", "_law_some"]
def GN:WS:=(aI (aP 1<|w2 gAdd (wC<|D.int<|1)<|wF gW<|aC (wN 0)<|aC (wC<|D.int<|5) aA)<|aI (aP 2<|wF gW<|aC (wN 0)<|aC (wC<|D.int<|7) aA)<|aI (aP 3<|w2 gIx (wL<|bG<|aC (wC<|D.int<|1)<|aC (wC<|D.int<|2)<|aC (wC<|D.int<|3)<|aC (wC<|D.int<|50) aA)<|wF gW<|aC (wN 0)<|aC (wC<|D.int<|4) aA)<|aI (cH 4<|aLC (fO<|aC (w2 fu (w2 gMul (wC<|D.int<|2)<|wN 1)<|wC<|D.int<|1) aA) 1 [0,3] (gN 0) dC<|w2 fu (wF gW<|aC (wN 1)<|aC (w2 gAdd (w2 gMul (wC<|D.int<|2)<|wN 2)<|wC<|D.int<|1) aA)<|wN 2)<|aI (cQ (wT<|w2 (gEq false) (wN 2)<|wC<|D.int<|0) (cH 4<|dD 4<|eT (bP (wN 4) eO<|dF<|wN 1)<|w1 gRev<|bP (wN 4) eO<|dF<|w2 fu (wN 1)<|wC<|D.int<|1) cT)<|aI (cQ (wT<|w2 (gEq false) (wN 2)<|wC<|D.int<|1) (cH 4<|dD 4<|eT (bP (wN 4) (dF<|wC<|D.int<|1)<|dF<|wN 1)<|bP (wN 4) eO<|dF<|wN 1) cT)<|aI (cQ (wT<|w2 (gEq false) (wN 2)<|wC<|D.int<|2) (cH 4<|dD 4<|eT (bP (wN 4) eO<|dF<|wN 1)<|w2 gMul (wL<|bG<|aC (wC<|D.int<|0) aA)<|w2 fu (wN 1)<|wC<|D.int<|1) cT)<|aI (cQ (wT<|w2 (gEq false) (wN 2)<|wC<|D.int<|3) (iQ 4 (w2 fu (wN 1)<|wC<|D.int<|1)<|wC<|D.int<|0) cT)<|aI (cQ (wT<|w2 (gEq false) (wN 2)<|wC<|D.int<|4) (cH 4<|dD 4<|fE (bP (wN 4) eO<|dF<|wC<|D.int<|1)<|w2 fu (w2 gMul (wC<|D.int<|2)<|wN 1)<|wC<|D.int<|1) cT)<|cM 4<|aM<|wB hV<|aC (wN 4) aA)
abbrev Zgn:List Str:=["_law_pen", "_law_size", "_law_great", "_law_found", "_law_place"]
def GO:WS:=(aI (aP 2<|w2 gIx (wL<|bG<|aC (wC<|D.int<|1)<|aC (wC<|D.int<|1)<|aC (wC<|D.int<|1)<|aC (wC<|D.int<|1)<|aC (wC<|D.int<|1)<|aC (wC<|D.int<|1)<|aC (wC<|D.int<|1)<|aC (w2 zQ (wC<|D.int<|10)<|wC<|D.int<|20) aA)<|wF gW<|aC (wN 0)<|aC (wC<|D.int<|8) aA)<|aI (cH 3<|bG aA)<|aI (bK<|bN (fO<|aC (wN 1) aA) (gN 4)<|cO 3<|wF qO<|aC (w2 gMul (w2 fu (wF gW<|aC (wN 0)<|aC (wC<|D.int<|11) aA)<|wC<|D.int<|5)<|wN 2)<|aC (w2 gAdd (wC<|D.int<|1)<|wF gW<|aC (wN 0)<|aC (wC<|D.int<|4) aA) aA)<|cM 3<|aM<|wB hV<|aC (wN 3) aA)
theorem LC:Rd z8 GI Zfv:=by rintro _ E Q ⟨⟨xs,i⟩,rfl,_,q⟩;unfold GI;walk_at "go";by_cases h:i<xs.length;rw[if_pos<|by simp[h]];refine⟨.int<|xs.getD i 0,xp rfl ?_,q⟩;rw[cE,aZ,cA h];rfl;rw[if_neg (by simp;omega)];rw[aZ,eL<|by omega]at q;exact q
theorem LD:Rd xr GJ Ziu:=by rintro _ E Q ⟨x,rfl,_,q⟩;unfold GJ;walk_at "go";have h1:=Bm (x+7919) (show(0:Int)<2147483647 by decide);have h2:=Int.fmod_lt_of_pos (x+7919) (show(0:Int)<2147483647 by decide);have b:Bd ((x+7919).fmod 2147483647):=jo (n:=32) (by omega) (by omega);exact⟨by decide,⟨b,b⟩,⟨jo (n:=32) (by decide)<|by omega,b⟩,by decide,q _ ⟨_,rfl⟩⟩
theorem LE:Rd z9 GK Zgo:=by rintro _ E Q ⟨x,rfl,_,q⟩;unfold GK;walk_at "go";exact⟨⟨by decide,by decide,by decide⟩,by decide,by decide,⟨_,_,_,rfl⟩,q⟩
theorem LF:Rd gW GL Ziw:=by
 rintro _ E Q ⟨m,rfl,⟨h0,h1⟩,q⟩;have hb:Bd (m:Int):=jo (n:=30) (by omega) (by omega);have fin:∀x:Int,Q (.int<|x.fmod m):=λx=>by have h1:=Bm x (show(0:Int)<m by omega);have h2:=Int.fmod_lt_of_pos x (show(0:Int)<m by omega);exact q _ ⟨(x.fmod m).toNat,by rw[Bc h1],by omega⟩
 unfold GL;walk_at "go";refine⟨by simp,λj=>?_⟩;walk_at "go";split;refine⟨by simp,λi=>⟨by omega,?_⟩⟩;walk_at "go";exact⟨by simp,λi'=>⟨⟨by omega,hb⟩,fin i⟩⟩;refine⟨by simp,λk=>GE λk1=>?_⟩;walk_at "go";refine GE λk2=>?_;walk_at "go";exact⟨by simp,λk3=>⟨⟨by decide,jo (n:=7) (by decide)<|by omega⟩,by omega,fin _⟩⟩
theorem GP(x:Int):(if x<0 then -x else x)=((x.natAbs:Nat):Int):=by split<;>omega
theorem LG:Rd qO GM Zhb:=by
 rintro _ E Q ⟨⟨t,b⟩,rfl,⟨hb,hd⟩,q⟩;have hg:0<Int.gcd t b:=Bh _ hb;have hle:Int.gcd t b<=b.natAbs:=Nat.le_of_dvd (by omega)<|Int.gcd_dvd_natAbs_right ..;obtain⟨e1,e2⟩:=FS (t:=t) hb;unfold aR at q;dsimp only at q e1 e2;rw[<-e1,<-e2]at q;unfold GM;walk_at "go";refine⟨λm ρ=>∃x y:Int,m=y.natAbs/\ρ=[.d<|.int t,.d<|.int b,.d<|.int x,.d<|.int y]/\0<=x/\0<=y/\Int.gcd x y=Int.gcd t b,⟨_,_,_,rfl,rfl,by omega,by omega,?_⟩,?_⟩
 rw[GP,GP];simp[Int.gcd];rintro m _ ⟨x,y,rfl,rfl,hx,hy,hg'⟩;walk_at "go";by_cases hy0:y=0;subst hy0;simp only[Pk,f6,ee,if_false];rw[Int.gcd_zero_right]at hg';have hx':x=((Int.gcd t b:Nat):Int):=by omega
 by_cases h:b<0;simp only[h,decide_true,if_true]at q ⊢;have ez:0-x = -((Int.gcd t b:Nat):Int):=by omega
 rw[ez];refine⟨⟨by omega,Bd.le (by omega) hd⟩,⟨by omega,Bd.le (by omega) hd⟩,by simp[aO],q⟩;simp only[h,decide_false,if_false,ee]at q ⊢;rw[hx'];refine⟨⟨by omega,Bd.le (by omega) hd⟩,⟨by omega,Bd.le (by omega) hd⟩,by simp[aO],q⟩;rw[if_pos<|by simpa using hy0];refine⟨hy0,_,Gx x hy0,_,_,rfl,rfl,hy,Bm _<|by omega,by rw[Zm];exact hg'⟩
theorem LH:Rd xu LA Zjk:=GB
theorem LI:Rd tR LB Zha:=GC
theorem xw{t b:Int}(hb:b≠0)(h1:t.natAbs<2^n)(h2:b.natAbs<2^n):Sz n (Rat.divInt t b):=by
 unfold Sz;rw[Rat.num_divInt,Rat.den_divInt,if_neg hb];have hg:Int.gcd b t≠0:=by have:=Int.gcd_pos_of_ne_zero_left t hb;omega
 refine⟨jD (FQ hg ?_) ?_,jD (Nat.div_le_self _ _) h2⟩;exact Int.dvd_mul_of_dvd_right<|Int.gcd_dvd_right ..
 rw[gK,Int.natAbs_sign_of_ne_zero hb,Nat.one_mul];exact h1
theorem LJ:Rd Aa GO Zgn:=by
 rintro _ E Q ⟨n,rfl,hn,q⟩;unfold GO;walk_at "go";refine⟨⟨by decide,by decide,by decide⟩,by decide,?_⟩;refine jv (n:=8) (by decide) (by decide) λk hk=>?_;walk_at "go";have hgr:∃g:Int,(0<=g/\g<=10^20)/\dN [D.int 1,D.int 1,D.int 1,D.int 1,D.int 1,D.int 1,D.int 1,D.int<|10^Int.toNat 20] (k:Int)=some (.int g):=by
  have:k=0\/k=1\/k=2\/k=3\/k=4\/k=5\/k=6\/k=7:=by omega
  rcases this with rfl|rfl|rfl|rfl|rfl|rfl|rfl|rfl
  exact⟨1,by decide,rfl⟩;exact⟨1,by decide,rfl⟩;exact⟨1,by decide,rfl⟩;exact⟨1,by decide,rfl⟩;exact⟨1,by decide,rfl⟩;exact⟨1,by decide,rfl⟩;exact⟨1,by decide,rfl⟩;exact⟨10^20,by decide,rfl⟩
 obtain⟨g,hg,hat⟩:=hgr;refine⟨_,hat,by decide,?_⟩;refine⟨by omega,by omega,?_⟩;rw[jA];have key:∀(ds:List D) (r:List Rat) (sv:SV),r.length+ds.length=n->(∀x∈r,Sz 72 x)->
   ZbV (gN 4) (cO 3<|wF qO<|aC (w2 gMul (w2 fu (wF gW<|aC (wN 0)<|aC (wC<|D.int<|11) aA)<|wC<|D.int<|5)<|wN 2)<|aC (w2 gAdd (wC<|D.int<|1)<|wF gW<|aC (wN 0)<|aC (wC<|D.int<|4) aA) aA)
    No { nx:=cM 3 (aM<|wB hV<|aC (wN 3) aA) No { nx:=λ_=>Q .non,rt:=Q },rt:=Q,bk:=λ_=>False,ct:=λ_=>False } ds [.d .pen,.d<|.int n,.d<|.int g,.ow<|r.map aR,sv]:=by
  intro ds
  induction ds with
  |nil=>
   intro r sv hl hr;unfold ZbV;walk_at "go";exact q _ ⟨r,by simpa using hl,hr,rfl⟩
  |cons d ds ih=>
   intro r sv hl hr;unfold ZbV;walk_at "go";refine jv (n:=11) (by decide) (by decide) λk1 hk1=>?_;walk_at "go";have hg1:((k1:Int)-5).natAbs<=5:=by omega
   have hg2:g.natAbs<=10^20:=by omega
   have hm:(((k1:Int)-5)*g).natAbs<2^72:=by
    rw[gK];exact jD (n8 hg1 hg2) (by decide)
   refine⟨⟨jo (n:=10) (by omega)<|by omega,jo (n:=72) (jD hg2<|by decide)<|by omega⟩,?_⟩;refine jv (n:=4) (by decide) (by decide) λk2 hk2=>?_;walk_at "go";refine GF (by omega) (jo (n:=10) (by omega)<|by omega) ⟨?_,?_⟩
   .rw[bQ];rw[dX]at hl;unfold aO;omega
   .have:=ih (r++[Rat.divInt (((k1:Int) - 5)*g)<|1+(k2:Int)]) (.d d) (by simp at hl ⊢;omega) (λx hx=>by
     rcases Yap.mp hx with hx|hx
     .exact hr x hx
     .rw[Ycp.mp hx]
      exact xw (by omega) hm<|jD (show(1+(k2:Int)).natAbs<=4 by omega)<|by decide)
    rw[gL]at this;exact this
 exact key (rng 0 n) [] .un (by simp[rng]) (by simp)
local macro_rules | `(tactic| walk_at "w1")=>`(tactic| simp only[aM,cQ,aP,cT,eP,cM,cH,bN,lu,eR,eQ,cO,iQ,fi,my,bK,jn,gS,gu,kH,fc,fA,bV,wT,kI,w1,w2,wB,wF,wL,bA,bP,Zbw,aB,bG,aC,aA,aLC,Zcf,dC,iS,iL,iT,fO,iP,iZ,i1,i2,isS,isL,zN,isB,isI,eO,dF,wN,wC,gN,fg,dh,e8,gI2,gAdd,gMul,gIx,d6,gCut,gRev,bR,gv,hV,ir,kK,iu,kM,fG,dZ,fh,dD,dL,eT,fE,gx,dY,pub,c6,hZ,dX,jZ,iG,eY,List.replicate,dv,eZ,h8,ia,Nat.reduceSub,Nat.reduceAdd,gJ,mi,true_and,ee,if_true,if_false,ite_true,ite_false])
local macro_rules | `(tactic| walk_at "st")=>`(tactic| ((try dsimp only at *);(try walk_at "w1");(try dsimp only)))
theorem bH{E:Ex->Prop}(h:z E { N with nx:=z' E N } ρ):aI z z' E N ρ:=h
theorem xy{E:Ex->Prop}(I:cX->Prop)(hz:∀nx:cX->Prop,(∀ρ,I ρ->nx ρ)->z E { N with nx:=nx } ρ)(hr:∀ρ,I ρ->z' E N ρ):aI z z' E N ρ:=hz _ hr
theorem eU{c:WT}{E:Ex->Prop}{b:Bool}(hc:∀Q:Bool->Prop,Q b->c E ρ Q)(h1:b=true->zb E N ρ)(h2:b=false->N.nx ρ):cQ c zb cT E N ρ:=by
 refine hc _ ?_;cases b with
 |true=>rw[if_pos rfl];exact h1 rfl|false=>rw[if_neg<|by decide];exact h2 rfl
theorem Ac(xs:List Int):lX (xs.map D.int)=true:=by
 induction xs with
 |nil=>rfl|cons x xs ih=>rw[c6,lX,ih];rfl
theorem LK(h:∀y∈ys,∃i:Int,y=.int i/\-50<=i/\i<=50):∃s:List Int,ys=s.map D.int/\∀x∈s,-50<=x/\x<=50:=by
 induction ys with
 |nil=>exact⟨[],rfl,by simp⟩
 |cons y ys ih=>
  obtain⟨s,rfl,hs⟩:=ih λz hz=>h z (by simp[hz]);obtain⟨i,rfl,h1,h2⟩:=h y (by simp);exact ⟨i::s,rfl,λx hx=>by
   rcases Yao.mp hx with rfl|hx
   .exact⟨h1,h2⟩
   .exact hs x hx⟩
theorem LL:Rd xv GN Zet:=by
 rintro _ E Q ⟨_,rfl,_,q⟩;have fin:∀(s:List Int) (n:Nat),s.length+1=2*n->1<=n->n<=5->(∀x∈s,-50<=x/\x<=50)->Q (D.tup<|s.map D.int):=λs n h1 h2 h3 h4=>q _ ⟨s,n,⟨h1,h2,h3,h4⟩,rfl⟩;unfold GN;refine bH ?_;walk_at "st";refine jv (n:=5) (by decide) (by decide) λk hk=>?_;walk_at "st";refine bH ?_;walk_at "st";refine jv (n:=7) (by decide) (by decide) λway hw=>?_;walk_at "st";refine bH ?_;walk_at "st";refine⟨by decide,jv (n:=4) (by decide) (by decide) λsp hsp=>?_⟩;have hgr:∃g:Nat,(1<=g/\g<=50)/\dN [D.int 1,D.int 2,D.int 3,D.int 50] (sp:Int)=some (.int g):=by
  have:sp=0\/sp=1\/sp=2\/sp=3:=by omega
  rcases this with rfl|rfl|rfl|rfl
  exact⟨1,by decide,rfl⟩;exact⟨2,by decide,rfl⟩;exact⟨3,by decide,rfl⟩;exact⟨50,by decide,rfl⟩
 obtain⟨g,hg,hat⟩:=hgr;walk_at "st";refine⟨_,hat,bH ?_⟩;walk_at "st";refine⟨⟨jo (n:=2) (by decide)<|by omega,jo (n:=10) (by omega)<|by omega⟩,by omega,by omega,?_⟩;refine FJ (R:=λ_ y=>∃i:Int,y=.int i/\-50<=i/\i<=50) (λd hd Q hq=>?_) .un [] (by simp[rng,aO];omega) λys hl hys=>?_;walk_at "go";refine⟨⟨jo (n:=2) (by decide)<|by omega,jo (n:=10) (by omega)<|by omega⟩,?_⟩;have e:(2:Int)*(g:Int)+1=((2*g+1:Nat):Int):=by omega
 rw[e];refine jv (by omega) (by omega) λj hj=>?_;walk_at "go";exact hq _ ⟨_,rfl,by omega,by omega⟩;obtain⟨s,rfl,hs⟩:=LK λy hy=>let⟨_,_,h⟩:=hys y hy;h;simp only[rng,bQ,mm]at hl;rw[eY];have hm:∀x∈s,-50<=x/\x<=50:=hs;have hsl:s.length+1=2*(1+k):=by omega
 have hn:(1:Int)+(k:Int)=((1+k:Nat):Int):=by omega
 generalize 1+k=n at hn hsl;have n1:1<=n:=by omega
 have n5:n<=5:=by omega
 rw[hn];clear hl hys hat hsp hk q hn;have c1:∀{s:List Int},s.length+1=2*n->aV (s.map D.int) none (some (n:Int))=(s.take n).map D.int:=λ_=>by rw[z7 rfl,mj]
 have c2:∀{s:List Int},s.length+1=2*n->aV (s.map D.int) none (some<|(n:Int)-1)=(s.take<|n-1).map D.int:=λ_=>by rw[z7 (b:=n-1)<|by omega,mj]
 have c3:∀{s:List Int},s.length+1=2*n->aV (s.map D.int) (some 1) (some (n:Int))=((s.drop 1).take<|n-1).map D.int:=λh=>by rw[C8 (i:=1) (a:=1) (b:=n) (by decide) rfl n1 (by rw[bQ];omega),mj,p9]
 have mt:∀{s:List Int} {j:Nat},(∀x∈s,-50<=x/\x<=50)->∀x∈s.take j,-50<=x/\x<=50:=λh x hx=>h x<|mO hx;refine xy (λρ=>∃s:List Int,ρ=[.d .pen,.d<|.int n,.d<|.int way,.d<|.int g,.ow<|s.map .int]/\s.length+1=2*n/\∀x∈s,-50<=x/\x<=50) (λnx hnx=>?_) ?_
 walk_at "st";split;rw[c1 hsl,c2 hsl,<-y4,<-gL];refine⟨?_,Ac _,hnx _ ⟨_,rfl,?_,λx hx=>?_⟩⟩;simp[aO];omega;simp only[d9,Ba,gj];omega;rcases Yap.mp hx with hx|hx
 exact mt hm x hx;exact mt hm x<|List.mem_reverse.mp hx
 exact hnx _ ⟨s,rfl,hsl,hm⟩;clear hs hm hsl s;rintro _ ⟨s,rfl,hsl,hm⟩;refine xy (λρ=>∃s:List Int,ρ=[.d .pen,.d<|.int n,.d<|.int way,.d<|.int g,.ow<|s.map .int]/\s.length+1=2*n/\∀x∈s,-50<=x/\x<=50) (λnx hnx=>?_) ?_;walk_at "st";split;rw[c1 hsl,c3 hsl,<-gL];refine⟨?_,Ac _,hnx _ ⟨_,rfl,?_,λx hx=>?_⟩⟩;simp[aO];omega;simp only[d9,iD,gj];omega;rcases Yap.mp hx with hx|hx
 exact hm x<|ly (mO hx)
 exact mt hm x hx;exact hnx _ ⟨s,rfl,hsl,hm⟩;clear hm hsl s;rintro _ ⟨s,rfl,hsl,hm⟩;refine xy (λρ=>∃s:List Int,ρ=[.d .pen,.d<|.int n,.d<|.int way,.d<|.int g,.ow<|s.map .int]/\s.length+1=2*n/\∀x∈s,-50<=x/\x<=50) (λnx hnx=>?_) ?_;walk_at "st";split;have e:(List.replicate ((n:Int)-1).toNat [D.int 0]).flatten=(List.replicate (n-1) (0:Int)).map D.int:=by
  rw[show((n:Int)-1).toNat=n-1 by omega,List.map_replicate];generalize n-1=j;induction j with
  |zero=>rfl|succ j ih=>rw[gJ,qW,ih,gJ];rfl
 rw[c1 hsl,e,<-gL];refine⟨by decide,by omega,by omega,by unfold aO;omega,?_,Ac _,hnx _ ⟨_,rfl,?_,λx hx=>?_⟩⟩;simp[aO];omega;simp only[d9,pY,gj];omega;rcases Yap.mp hx with hx|hx
 exact mt hm x hx;rw[(Yct.mp hx).2];omega;exact hnx _ ⟨s,rfl,hsl,hm⟩;clear hm hsl s;rintro _ ⟨s,rfl,hsl,hm⟩;refine xy (λρ=>∃s:List Int,ρ=[.d .pen,.d<|.int n,.d<|.int way,.d<|.int g,.ow<|s.map .int]/\s.length+1=2*n/\∀x∈s,-50<=x/\x<=50) (λnx hnx=>?_) ?_;walk_at "st";split;refine⟨n-1,?_,hnx _ ⟨s.set (n-1) 0,by rw[vb],by rw[dI];exact hsl,λx hx=>?_⟩⟩;unfold jK;rw[if_pos<|by omega,if_pos (by rw[bQ];omega),show((n:Int)-1).toNat=n-1 by omega];rcases Bo hx with hx|rfl
 exact hm x hx;omega;exact hnx _ ⟨s,rfl,hsl,hm⟩;clear hm hsl s;rintro _ ⟨s,rfl,hsl,hm⟩;refine xy (λρ=>∃s:List Int,ρ=[.d .pen,.d<|.int n,.d<|.int way,.d<|.int g,.ow<|s.map .int]/\s.length+1=2*n/\∀x∈s,-50<=x/\x<=50) (λnx hnx=>?_) ?_;walk_at "st";split;obtain⟨x0,s',rfl⟩:∃x0 s',s=x0::s':=by
  cases s with
  |nil=>simp at hsl;omega|cons x0 s'=>exact⟨x0,s',rfl⟩
 have e1:aV ((x0::s').map D.int) none (some 1)=[D.int x0]:=by rw[z7 (i:=1) (b:=1)<|by decide];simp
 have e2:(List.replicate (2*(n:Int)-1).toNat [D.int x0]).flatten=(List.replicate (2*n-1) x0).map D.int:=by
  rw[show(2*(n:Int)-1).toNat=2*n-1 by omega,List.map_replicate];generalize 2*n-1=j;induction j with
  |zero=>rfl|succ j ih=>rw[gJ,qW,ih,gJ];rfl
 rw[e1,e2];refine⟨⟨jo (n:=2) (by decide)<|by omega,jo (n:=10) (by omega)<|by omega⟩,by omega,by omega,?_,Ac _,hnx _ ⟨_,rfl,?_,λx hx=>?_⟩⟩;simp[aO];omega;rw[pY];omega;rw[(Yct.mp hx).2];exact hm x0 (by simp);exact hnx _ ⟨s,rfl,hsl,hm⟩;clear hm hsl s;rintro _ ⟨s,rfl,hsl,hm⟩;walk_at "st";exact fin s n hsl n1 n5 hm
abbrev LX:List Str:=["NoSlants", "NoRow", "NoNumber", "NoLine", "NotEven", "NotFull"]
abbrev MX:List Str:=["NoSlants", "NoRow", "NoNumber", "NoLine", "NotEven", "NotFull", "NotStrong", "NoText", "TooGreat"]
noncomputable def Da(n:Str):Str:=if n == "NoSlants" then "slants" else if n == "NoRow" then "row" else if n == "NoNumber" then "number" else if n == "NoLine" then "line" else if n == "NotEven" then "even" else "full"
mutual
def cJ(m:Nat):D->Bool
 |.int i=>decide (i.natAbs<2^m)|.tup xs=>dQ m xs|.lst xs=>dQ m xs|_=>true
def dQ(m:Nat):List D->Bool
 |[]=>true|x::r=>cJ m x&&dQ m r
end
theorem uH{m:Nat}:∀{xs:List D},dQ m xs=true↔∀x∈xs,cJ m x=true
 |[]=>by simp[dQ]|x::r=>by rw[dQ,cV,uH];simp
theorem Zk0:cJ m (aR q)=true↔Sz m q:=by unfold aR Sz;rw[cJ,dQ,dQ,dQ,cJ,cJ];simp
theorem ZeZ:cJ m (aG r)=true↔∀x∈r,Sz m x:=by
 unfold aG;rw[cJ,uH];constructor;intro h x hx;exact Zk0.mp<|h _ (List.mem_map_of_mem hx)
 intro h x hx;obtain⟨q,hq,rfl⟩:=YbT.mp hx;exact Zk0.mpr<|h q hq
def uI:bO:=uB
def Ad:bO:=rlS (λx:SL=>[.pen,aL x.1]) (λx=>IsSl x.1 x.2) λ_ d=>kd d=true/\tN d=false
def Ae:bO:=xc
section
variable{E:Ex->Prop}{x:D}
theorem Db(h:kd x=true)(q:Q (.bl<|mz x)):uI [x] E Q:=⟨x,rfl,h,q⟩
theorem LM(h:IsSl s n)(q:∀d,kd d=true->Q d):Ad [.pen,aL s] E Q:=⟨(s,n),rfl,h,λd h1=>q d h1.1⟩
theorem GQ(h:kd x=true)(q:Q (.bl<|fo x)):Ae [x] E Q:=⟨x,rfl,h,q⟩
end
abbrev Zh:List Str:=["_law_found"]
def LN:WS:=(aM<|gS (wB gIs<|aC (wN 0)<|aC (wC<|.ty "int") aA)<|kH<|wB gIs<|aC (wN 0)<|aC (wC<|.ty "bool") aA)
abbrev Ziv:List Str:=["_law_slants", "_law_row", "_law_size", "_law_found", "_law_i", "_law_amount", "_law_j"]
def GR:WS:=(aI (aP 2<|w2 fj (w2 gAdd (wB bR<|aC (wN 0) aA)<|wC<|D.int<|1)<|wC<|D.int<|2)<|aI (cH 3<|bG aA)<|aI (bK<|bN (fO<|aC (wN 2) aA) (gN 4)<|aI (aP 5<|bA<|aC (wC<|D.int<|0)<|aC (wC<|D.int<|1) aA)<|aI (bK<|bN (fO<|aC (wN 2) aA) (gN 6)<|aP 5<|wF xu<|aC (wN 5)<|aC (wF tR<|aC (bA<|aC (w2 gIx (wN 0)<|w2 fu (w2 gAdd (w2 fu (wN 6)<|wN 4)<|wN 2)<|wC<|D.int<|1)<|aC (wC<|D.int<|1) aA)<|aC (w2 gIx (wN 1)<|wN 6) aA) aA)<|cO 3<|wN 5)<|cM 3<|aM<|wB hV<|aC (wN 3) aA)
abbrev Zeu:List Str:=["_law_pen", "_law_slants", "_law_spot", "_law_odd", "_law_some"]
def GS:WS:=(aI (aP 2<|wF gW<|aC (wN 0)<|aC (w2 gAdd (wB bR<|aC (wN 1) aA)<|wC<|D.int<|1) aA)<|aI (aP 3<|w2 gIx (wL<|bG<|aC (wC<|D.int<|51)<|aC (w1 fk<|wC<|D.int<|51)<|aC (wC<|D.bl true)<|aC (wC D.non)<|aC (wC<|D.str<|PySem.Str.ofString "0")<|aC (bA<|aC (wC<|D.int<|0) aA)<|aC (w2 zQ (wC<|D.int<|10)<|wC<|D.int<|30) aA)<|wF gW<|aC (wN 0)<|aC (wC<|D.int<|7) aA)<|aI (aP 4<|wL<|bG<|aC (w2 gAdd (w2 gAdd (w2 gAdd (bP (wN 1) eO<|dF<|wN 2)<|bA<|aC (wN 3) aA)<|bP (wN 1) (dF<|w2 gAdd (wN 2)<|wC<|D.int<|1) eO)<|w2 ZdV (bA<|aC (wN 3) aA)<|wB iu<|aC (w2 (gEq false) (wN 2)<|wB bR<|aC (wN 1) aA) aA)<|aC (w2 gAdd (wN 1)<|bA<|aC (wC<|D.int<|0) aA)<|aC (wL<|aB (gv (α:=Unit))<|aC (wN 1) aA) aA)<|aI (aP 4<|w2 gAdd (wN 4)<|wL<|bG<|aC (bA aA)<|aC (w2 ZdV (bA<|aC (wC<|D.int<|1) aA)<|wC<|D.int<|11)<|aC (w2 ZdV (bA<|aC (wC<|D.int<|0) aA)<|wC<|D.int<|2)<|aC (wC D.non)<|aC (wC<|D.int<|5)<|aC (wC .dic)<|aC (wC<|D.str<|PySem.Str.ofString "0")<|aC (bA<|aC (wN 1) aA)<|aC (bP (wN 1) (dF<|wC<|D.int<|1) eO) aA)<|aM<|w2 gIx (wN 4)<|wF gW<|aC (wN 0)<|aC (wC<|D.int<|12) aA)
abbrev Zdc:List Str:=["_law_thing"]
def GT:WS:=(aI (cQ (fA (bV<|wT<|wB gIs<|aC (wN 0)<|aC (wC<|.ty "tuple") aA)<|wT<|w2 (gIn true) (wB bR<|aC (wN 0) aA)<|bA<|aC (wC<|D.int<|1)<|aC (wC<|D.int<|3)<|aC (wC<|D.int<|5)<|aC (wC<|D.int<|7)<|aC (wC<|D.int<|9) aA) (aM<|wC<|D.bl false) cT)<|aM<|wB jP<|aC (wL<|aLC (iS<|wN 0) 1 [] (gN 0) dC<|gS (wF uI<|aC (wN 0) aA)<|Zbw kN kN (w1 fk<|wC<|D.int<|50) (wN 0)<|wC<|D.int<|50) aA)
abbrev Zgp:List Str:=["_law_pen", "_law_row", "_law_spot", "_law_odd", "_law_some"]
def GU:WS:=(aI (aP 2<|wF gW<|aC (wN 0)<|aC (wB bR<|aC (wN 1) aA) aA)<|aI (aP 3<|wL<|bG<|aC (bA<|aC (wC<|D.int<|2)<|aC (wC<|D.int<|4) aA)<|aC (bA<|aC (wC<|D.int<|1)<|aC (wC<|D.int<|0) aA)<|aC (bA<|aC (wC<|D.int<|1)<|aC (w1 fk<|wC<|D.int<|2) aA)<|aC (bA<|aC (wC<|D.int<|0)<|aC (wC<|D.int<|2) aA)<|aC (bA<|aC (wC<|D.bl true)<|aC (wC<|D.int<|1) aA)<|aC (bA<|aC (wC<|D.int<|1)<|aC (wC<|D.bl true) aA)<|aC (wC<|D.int<|1)<|aC (wC D.non)<|aC (wL<|bG<|aC (wC<|D.int<|1)<|aC (wC<|D.int<|2) aA)<|aC (wC<|D.str<|PySem.Str.ofString "1")<|aC (bA<|aC (wC<|D.int<|1) aA)<|aC (bA<|aC (wC<|D.int<|1)<|aC (wC<|D.int<|2)<|aC (wC<|D.int<|3) aA) aA)<|aI (aP 3<|w2 gIx (wN 3)<|wF gW<|aC (wN 0)<|aC (wC<|D.int<|12) aA)<|aI (aP 4<|wL<|bG<|aC (w2 gAdd (w2 gAdd (bP (wN 1) eO<|dF<|wN 2)<|bA<|aC (wN 3) aA)<|bP (wN 1) (dF<|w2 gAdd (wN 2)<|wC<|D.int<|1) eO)<|aC (w2 gAdd (wN 1)<|bA<|aC (wN 3) aA)<|aC (bP (wN 1) (dF<|wC<|D.int<|1) eO)<|aC (w2 gAdd (wN 1)<|bP (wN 1) eO<|dF<|wC<|D.int<|1)<|aC (wL<|aB (gv (α:=Unit))<|aC (wN 1) aA)<|aC (wC D.non)<|aC (wC<|D.int<|0)<|aC (wC .dic)<|aC (bA<|aC (wN 1) aA) aA)<|aM<|w2 gIx (wN 4)<|wF gW<|aC (wN 0)<|aC (wC<|D.int<|9) aA)
abbrev ZeV:List Str:=["_law_size", "_law_thing", "_law_one"]
def GV:WS:=(aI (cQ (fA (bV<|wT<|wB gIs<|aC (wN 1)<|aC (wC<|.ty "tuple") aA)<|wT<|w2 (gEq true) (wB bR<|aC (wN 1) aA)<|wN 0) (aM<|wC<|D.bl false) cT)<|aI (bK<|bN (iS<|wN 1) (gN 2)<|aI (cQ (fA (bV<|wT<|wB gIs<|aC (wN 2)<|aC (wC<|.ty "tuple") aA)<|fA (wT<|w2 (gEq true) (wB bR<|aC (wN 2) aA)<|wC<|D.int<|2)<|fA (bV<|wT<|wF uI<|aC (w2 gIx (wN 2)<|wC<|D.int<|0) aA)<|bV<|wT<|wF uI<|aC (w2 gIx (wN 2)<|wC<|D.int<|1) aA) (aM<|wC<|D.bl false) cT)<|cQ (fA (wT<|w2 nM (w2 gIx (wN 2)<|wC<|D.int<|1)<|wC<|D.int<|1)<|wT<|w2 (gEq true) (wF qO<|aC (w2 gIx (wN 2)<|wC<|D.int<|0)<|aC (w2 gIx (wN 2)<|wC<|D.int<|1) aA)<|wN 2) (aM<|wC<|D.bl false) cT)<|aM<|wC<|D.bl true)
def sm:Nat->(Nat->Rat)->Rat
 |0,_=>0|n+1,f=>f 0+sm n λi=>f<|i+1
theorem LO:∀(n:Nat) (f g:Nat->Rat),sm n (λi=>f i+g i)=sm n f+sm n g
 |0,_,_=>by rw[sm,sm,sm,p8]|n+1,f,g=>by rw[sm,sm,sm,LO n (λi=>f<|i+1) λi=>g<|i+1];grind
theorem GW:∀(n:Nat) (f g:Nat->Rat),c7 ((List.range n).map f) ((List.range n).map g)=sm n λi=>f i*g i
 |0,_,_=>rfl|n+1,f,g=>by rw[Bp,c6,c6,du,du,c7,sm,<-GW n (λi=>f<|i+1) λi=>g<|i+1];rfl
theorem GX{α:Type}(r:List α)(d:α):r=(List.range r.length).map λi=>r.getD i d:=by
 refine A9 λi=>?_;rcases jB i r.length with h|h
 rw[cE,iU h,u7,aZ,cA h];rfl;rw[eL h,eL<|by simpa using h]
theorem Dc{α:Type}{f g:Nat->α}(h:∀i,i<n->f i=g i):(List.range n).map f=(List.range n).map g:=
 hJ λi hi=>h i<|Yah.mp hi
noncomputable def ent(s:List Int)(n i j:Nat):Int:=s.getD (n-1-i+j) 0
theorem GY(h:IsSl s n):tbl s n=(List.range n).map λi=>(List.range n).map λj=>ent s n i j:=by
 unfold tbl;refine Dc λi hi=>A9 λj=>?_;have hl:=h.len;rcases jB j n with hj|hj
 rw[A6 hj,ui,cE,iU hj,cA<|by omega];unfold ent;rw[u7,aZ,cA<|by omega];rfl;rw[eL (by rw[gj];omega),eL<|by simpa using hj]
theorem gA(h:IsSl s n)(h1:1<=k)(h2:k<=n):IsSl (cor s n k) k:=by have hl:=h.len;have h5:=h.n5;refine⟨?_,h1,by omega,λx hx=>h.b x<|ly<|mO hx⟩;unfold cor;rw[gj,iD];omega
theorem Af(h:IsSl s n):cor s n n=s:=by have hl:=h.len;unfold cor;rw[vc,pZ,y3<|by omega]
theorem LQ(h:IsSl s n)(hr:r.length=n):bC s n r=(List.range n).map λi=>sm n λj=>(ent s n i j:Rat)*r.getD j 0:=by
 unfold bC;rw[GY h,du];refine Dc λi hi=>?_;show c7 (bW<|(List.range n).map λj=>ent s n i j) r=_;unfold bW;rw[du];conv=>lhs;rw[GX r 0,hr]
 exact GW n _ _
noncomputable def cS(n p:Nat):List Rat:=(List.range n).map λj=>if j=p then 1 else 0
theorem Dd{g:WG}{zb:WS}{E:Ex->Prop}{N:Nds}(I:cX->Prop):∀(ds:List D),(∀d∈ds,∀ρ,I ρ->∀nx:cX->Prop,(∀ρ,I ρ->nx ρ)->g d ρ λρ1=>zb E { nx:=nx,rt:=N.rt,bk:=N.nx,ct:=nx } ρ1)->(∀ρ,I ρ->N.nx ρ)->∀ρ,I ρ->ZbV g zb E N ds ρ
 |[],_,hn,ρ,i=>hn ρ i|d::ds,h,hn,ρ,i=>h d (lw ..) ρ i _<|Dd I ds (λd hd=>h d<|jr _ hd) hn
theorem Ag{g:WG}{zb:WS}{E:Ex->Prop}{N:Nds}(I:List D->cX->Prop)(h:∀d ds ρ,I (d::ds) ρ->∀nx:cX->Prop,(∀ρ,I ds ρ->nx ρ)->g d ρ λρ1=>zb E { nx:=nx,rt:=N.rt,bk:=N.nx,ct:=nx } ρ1)(hn:∀ρ,I [] ρ->N.nx ρ):∀(ds:List D) ρ,I ds ρ->ZbV g zb E N ds ρ
 |[],ρ,i=>hn ρ i|d::ds,ρ,i=>h d ds ρ i _<|Ag I h hn ds
theorem nQ(n:Nat):rng 0 n=(List.range n).map λ(k:Nat)=>D.int (k:Int):=by unfold rng;exact hJ λk _=>by rw[Int.zero_add]
section
variable{QI:Int->Prop}{QB:Bool->Prop}{i j:Int}{b:Bool}{o o':Option Int}
theorem mC:isB QB (.bl b)=QB b:=rfl
theorem ou:isI QI (.int i)=QI i:=rfl
theorem oy:isL QL (.lst xs)=QL xs:=rfl
theorem oz:isL QL (d7 s)=QL (s.map .int):=rfl
theorem oA:isL QL (jm s n)=QL ((tbl s n).map d7):=rfl
theorem oB:zN QL (.tup xs)=QL xs:=rfl
theorem oC:isS QL (.lst xs)=QL xs:=rfl
theorem oE:isS QL (.tup xs)=QL xs:=rfl
theorem oF:isS QL (aG r)=QL (r.map aR):=rfl
theorem oG:isS QL (aL s)=QL (s.map .int):=rfl
theorem oH:isS QL (d7 s)=QL (s.map .int):=rfl
theorem oJ:isS QL (jm s n)=QL ((tbl s n).map d7):=rfl
theorem oK:bR [.tup xs] Q=Q (.int xs.length):=rfl
theorem oM:bR [.lst xs] Q=Q (.int xs.length):=rfl
theorem oN:bR [.scr xs] Q=Q (.int xs.length):=rfl
theorem oO:bR [aG r] Q=Q (.int r.length):=by show Q (.int ((r.map aR).length:Int))=_;rw[bQ]
theorem oP:bR [aL s] Q=Q (.int s.length):=by show Q (.int ((s.map D.int).length:Int))=_;rw[bQ]
theorem oQ:bR [d7 s] Q=Q (.int s.length):=by show Q (.int ((s.map D.int).length:Int))=_;rw[bQ]
theorem oR:bR [jm s n] Q=Q (.int n):=by show Q (.int (((tbl s n).map d7).length:Int))=_;rw[bQ,j6]
theorem oS:gIx (.tup xs) (.int i) Q = ∃d,dN xs i=some d/\Q d:=rfl
theorem oU:gIx (.lst xs) (.int i) Q = ∃d,dN xs i=some d/\Q d:=rfl
theorem oV:gIx (.scr xs) (.int i) Q = ∃d,dN xs i=some d/\Q d:=rfl
theorem oW:gIx (aG r) (.int i) Q = ∃d,dN (r.map aR) i=some d/\Q d:=rfl
theorem oX:gIx (aL s) (.int i) Q = ∃d,dN (s.map .int) i=some d/\Q d:=rfl
theorem oY:gIx (d7 s) (.int i) Q = ∃d,dN (s.map .int) i=some d/\Q d:=rfl
theorem oZ:gIx (jm s n) (.int i) Q = ∃d,dN ((tbl s n).map d7) i=some d/\Q d:=rfl
theorem o1:gCut (.tup xs) o o' Q=Q (.tup<|aV xs o o'):=rfl
theorem o4:gCut (.lst xs) o o' Q=Q (.lst<|aV xs o o'):=rfl
theorem o5:gCut (.scr xs) o o' Q=Q (.lst<|aV xs o o'):=rfl
theorem o6:gCut (aG r) o o' Q=Q (.tup<|aV (r.map aR) o o'):=rfl
theorem o7:gCut (aL s) o o' Q=Q (.tup<|aV (s.map .int) o o'):=rfl
theorem o8:gCut (d7 s) o o' Q=Q (.lst<|aV (s.map .int) o o'):=rfl
theorem o9:gCut (jm s n) o o' Q=Q (.lst<|aV ((tbl s n).map d7) o o'):=rfl
theorem pj:gRev (.tup xs) Q=Q (.tup xs.reverse):=rfl
theorem pk:gRev (.lst xs) Q=Q (.lst xs.reverse):=rfl
theorem pp:gRev (aG r) Q=Q (aG r.reverse):=by show Q (.tup (r.map aR).reverse)=_;rw[<-y4];rfl
theorem pq:gRev (aL s) Q=Q (aL s.reverse):=by show Q (.tup (s.map D.int).reverse)=_;rw[<-y4];rfl
theorem pA:gRev (d7 s) Q=Q (d7 s.reverse):=by show Q (.lst (s.map D.int).reverse)=_;rw[<-y4];rfl
theorem pB{α:Type}:gv (α:=α) [.tup xs] QL=QL xs:=rfl
theorem pC{α:Type}:gv (α:=α) [.lst xs] QL=QL xs:=rfl
theorem pD{α:Type}:gv (α:=α) [aL s] QL=QL (s.map .int):=rfl
theorem pE:hV [.tup xs] Q=Q (.tup xs):=rfl
theorem pF:hV [.lst xs] Q=Q (.tup xs):=rfl
theorem pG:hV [d7 s] Q=Q (aL s):=rfl
theorem pH:gAdd (.int i) (.int j) Q=Q (.int<|i+j):=rfl
theorem pI:gAdd (.lst xs) (.lst ys) Q=(xs.length+ys.length<=aO/\Q (.lst<|xs++ys)):=rfl
theorem pJ:gAdd (.tup xs) (.tup ys) Q=(xs.length+ys.length<=aO/\Q (.tup<|xs++ys)):=rfl
theorem pK:gMul (.int i) (.int j) Q=(rC i j/\Q (.int<|i*j)):=rfl
theorem pL:gMul (.lst xs) (.int j) Q=(j<1000/\-1000<j/\xs.length*j.toNat<=aO/\Q (.lst (List.replicate j.toNat xs).flatten)):=rfl
theorem gX{C:Int->Int->Prop}{kd:Int->Int->D}:gI2 C kd (.int i) (.int j) Q=(C i j/\Q (kd i j)):=rfl
theorem pM:ir [.int i] Q=Q (.int (if i<0 then -i else i)):=rfl
theorem pN:kK [.int i,.int j] Q=Q (.int (if j>i then j else i)):=rfl
theorem pO:iu [.bl b] Q=Q (.int (if b then 1 else 0)):=rfl
theorem pP:iu [.int i] Q=Q (.int i):=rfl
theorem pQ:jP [.lst xs] Q = ∃bs:List Bool,xs=bs.map D.bl/\Q (.bl<|bs.all id):=rfl
theorem iz:i1 QL [.int j]=(-10000<=j/\j<10000/\QL (rng 0 j.toNat)):=rfl
theorem iA:i2 QL [.int i,.int j]=((-10000<=i/\i<10000/\-10000<=j/\j<10000)/\QL (rng i (j-i).toNat)):=rfl
end
def fH:Nat->List D->List D
 |_,[]=>[]|i,x::xs=>.tup [.int i,x]::fH (i+1) xs
def iE(t:WA):WA:=λE ρ Q=>t E ρ λds=>match ds with|[x]=>isS (λxs=>Q<|fH 0 xs) x|_=>False
local macro_rules | `(tactic| walk_at "w1")=>`(tactic| simp only [iE,aM,cQ,aP,cT,eP,cM,cH,bN,lu,eR,eQ,cO,iQ,fi,my,bK,jn,fX,wM,ZdV,gS,gu,kH,fc,fA,bV,wT,kI,w1,w2,wB,wF,wL,bA,bP,Zbw,aB,bG,aC,aA,aLC,Zcf,dC,iS,iL,iT,fO,iP,iZ,eO,dF,wN,wC,gN,fg,dh,e8,d6,kM,fG,dZ,fh,dD,dL,eT,fE,gx,dY,pub,c6,hZ,dX,jZ,iG,eY,List.replicate,dv,eZ,h8,ia,Nat.reduceSub,Nat.reduceAdd,gJ,mi,true_and,ee,if_true,if_false,ite_true,ite_false,jA,f6,n9,
 mC,ou,oy,oz,oA,oB,oC,oE,oF,oG,oH,oJ,oK,oM,oN,oO,oP,oQ,oR,oS,oU,oV,oW,oX,oY,oZ,o1,o4,o5,o6,o7,o8,o9,pj,pk,pp,pq,pA,pB,pC,pD,pE,pF,pG,pH,pI,pJ,pK,pL,gX,pM,pN,pO,pP,pQ,iz,iA])
local macro_rules | `(tactic| walk_at "nx")=>`(tactic| ((try dsimp only);(refine bH ?_);walk_at "st"))
theorem LR:Rd uI LN Zh:=Gw
theorem LT:Rd Ae GT Zdc:=by
 rintro _ E Q ⟨x,rfl,hk,q⟩;unfold GT;walk_at "nx";refine qN hk (by decide) λt ht=>?_;cases x<;>cases ht<;>try exact q
 rename_i xs;obtain⟨hl,hx⟩:=tJ hk;walk_at "st";simp only[show jl "tuple" "tuple" = true from rfl,f6,ee,if_false];refine⟨by decide,xs.length,[1,3,5,7,9],rfl,.inr rfl,?_⟩;walk_at "st";have e1:([1,3,5,7,9]:List Int).contains (xs.length:Int)=(decide (xs.length%2=1)&&decide (xs.length<=9)):=by rw[j8,cV,O6,O6,List.contains_iff_mem];simp only[Yao,da,or_false];omega
 rw[e1];replace q:Q (.bl (xs.all (eh (-50) 50)&&decide (xs.length%2=1)&&decide (xs.length<=9))):=q;rw[Bool.and_assoc]at q;cases e2:(decide (xs.length%2=1)&&decide (xs.length<=9)) with
 |false=>rw[e2,Bool.and_false]at q;exact q
 |true=>
  rw[e2,y0]at q;simp only[f6,ee,if_false];walk_at "st";refine Zj (f:=λd=>.bl<|eh (-50) 50 d) (λd hd Q hq=>?_) .un [] (by simp[aO];omega) ?_;walk_at "st";refine Db (hx d hd) ?_;cases hw:mz d with
  |false=>
   have:eh (-50) 50 d=false:=by cases d<;>first|rfl|cases hw
   rw[this]at hq;exact hq
  |true=>obtain⟨i,rfl⟩:=xo hw;simp only[isB,if_true,gI2,true_and];by_cases h:-50<=i;simp only[h,decide_true,if_true];simpa[eh,h] using hq;simp only[h,decide_false,if_false,ee];simpa[eh,h] using hq
  refine⟨xs.map<|eh (-50) 50,by simp,?_⟩;simpa[u9,Function.comp_def] using q
theorem GZ(a b c d:Int):j5 (.tup [.int a,.int b]) (.tup [.int c,.int d])=(a==c&&b==d):=by simp[j5,pd,hW,PyData.eqv,PyData.eqvAll]
theorem LU{i j:Int}(h:0<j):j5 (aR<|Rat.divInt i j) (.tup [.int i,.int j])=cU (.tup [.int i,.int j]):=by
 cases e:cU (.tup [.int i,.int j]) with
 |true=>
  obtain⟨q,hq⟩:=F0 e;have hq':=hq;unfold aR at hq';injection hq' with h1
  injection h1 with h2 h3
  injection h3 with h4 _
  injection h2 with h2
  injection h4 with h4
  have:Rat.divInt i j=q:=by rw[h2,h4];exact uh q
  rw[this,hq];exact FN (n:=60)<|CH _ (by decide) (wZ (n:=1) λx hx=>by
   simp only[Yao,da,or_false]at hx;rcases hx with rfl|rfl<;>exact zS _ _)
 |false=>
  cases e2:j5 (aR<|Rat.divInt i j) (.tup [.int i,.int j]) with
  |false=>rfl
  |true=>
   unfold aR at e2;rw[GZ,cV,Po,Po]at e2;have:=FZ<|Rat.divInt i j;unfold aR at this;rw[e2.1,e2.2,e]at this;cases this
theorem G0(a b:Int):dm (.tup [.int a,.int b]) 60=true:=CH _ (by decide) (wZ (n:=1) λx hx=>by
 simp only[Yao,da,or_false]at hx;rcases hx with rfl|rfl<;>exact zS _ _)
theorem xA{P:D->Prop}(h:k<xs.length)(hp:∀x∈xs,P x):∃d,dN xs (k:Int)=some d/\P d:=⟨xs[k],bE<|cA h,hp _<|jC h⟩
theorem De{a b:Option Int}(h:∀x∈xs,kd x=true):∀x∈aV xs a b,kd x=true:=λx hx=>h x (by unfold aV at hx;exact ly<|mO hx)
theorem Ah{a b:Option Int}:(aV xs a b).length<=xs.length:=by unfold aV;rw[gj,iD];omega
theorem Df(h:xs.length+ys.length<=aO)(q:Q (.tup<|xs++ys)):gAdd (.tup xs) (.tup ys) Q:=⟨h,q⟩
theorem eV(h:n<=5000):n<=aO:=by unfold aO;omega
theorem LV:Rd Ad GS Zeu:=by
 rintro _ E Q ⟨⟨s,n⟩,rfl,h,q⟩;dsimp only at h q;have h9:=h.l9;unfold GS;walk_at "nx";refine jv (n:=s.length+1) (by omega) (by omega) λk hk=>?_;walk_at "st";walk_at "nx";refine⟨by decide,⟨by decide,by decide,by decide⟩,by decide,jv (n:=7) (by decide) (by decide) λk7 hk7=>?_⟩;obtain ⟨odd,hat,hodd⟩:=xA (P:=λd=>kd d=true) (xs:=[D.int 51,D.int (-51),D.bl true,D.non,D.str "0",D.tup [D.int 0],D.int<|10 ^ Int.toNat 30]) (k:=k7) (by simpa using hk7) (by
  intro x hx;simp only[Yao,da,or_false]at hx;rcases hx with rfl|rfl|rfl|rfl|rfl|rfl|rfl<;>first|(rw[kd];done)|exact ju (by decide)<|by simp[kd])
 refine⟨_,hat,?_⟩;walk_at "nx";have hc1:(aV (s.map D.int) none<|some (k:Int)).length<=9:=by have:=Ah (xs:=s.map D.int) (a:=none) (b:=some (k:Int));rw[bQ]at this;omega
 have hc2:(aV (s.map D.int) (some<|(k:Int)+1) none).length<=9:=by have:=Ah (xs:=s.map D.int) (a:=some<|(k:Int)+1) (b:=none);rw[bQ]at this;omega
 have hks:∀x∈s.map D.int,kd x=true:=λx hx=>by obtain⟨i,_,rfl⟩:=YbT.mp hx;rw[kd]
 have hk1:=De (a:=none) (b:=some (k:Int)) hks;have hk2:=De (a:=some<|(k:Int)+1) (b:=none) hks;generalize aV (s.map D.int) none (some (k:Int))=c1 at hc1 hk1 ⊢;generalize aV (s.map D.int) (some<|(k:Int)+1) none=c2 at hc2 hk2 ⊢;obtain⟨m,hm,hm1⟩:∃m:Nat,(if((k:Int)==(s.length:Int))=true then(1:Int) else 0)=m/\m<=1:=by
  split
  .exact⟨1,rfl,by omega⟩
  .exact⟨0,rfl,by omega⟩
 rw[hm,jA];have hrep:(List.replicate m [odd]).flatten=List.replicate m odd:=by rcases(show m=0\/m=1 by omega) with rfl|rfl<;>rfl
 rw[hrep];refine⟨by decide,eV<|by omega,eV (by simp;omega),by decide,by omega,by omega,eV<|by omega,eV (by simp;omega),by decide,Df (eV (by simp;omega)) ⟨by decide,?_⟩⟩;walk_at "nx";refine⟨by decide,by decide,by decide,by decide,by decide,by decide,by decide,by decide,by decide,by decide,by decide,by decide,jv (n:=12) (by decide) (by decide) λk12 hk12=>?_⟩;obtain ⟨d,hd,hkd⟩:=xA (P:=λd=>kd d=true/\tN d=false) (xs:=[D.tup<|c1++[odd]++c2++List.replicate m odd,D.tup<|List.map D.int s++[D.int 0],D.lst<|List.map D.int s,D.tup [],D.tup (List.replicate (Int.toNat 11) [D.int 1]).flatten,
   D.tup (List.replicate (Int.toNat 2) [D.int 0]).flatten,D.non,D.int 5,D.dic,D.str "0",D.tup [aL s],D.tup<|aV (List.map D.int s) (some 1) none]) (k:=k12) (by simpa using hk12) (by
  intro x hx;simp only[Yao,da,or_false]at hx;have nt:∀ys,tN (.tup ys)=false:=λ_=>rfl;rcases hx with rfl|rfl|rfl|rfl|rfl|rfl|rfl|rfl|rfl|rfl|rfl|rfl
  all_goals refine⟨?_,by first|rfl|exact nt _|(cases s<;>rfl)⟩
  .refine ju (by simp;omega) λx hx=>?_
   simp only[Yap,Yao,da,or_false,Yct]at hx;rcases hx with((hx|rfl)|hx)|⟨_,rfl⟩
   .exact hk1 x hx
   .exact hodd
   .exact hk2 x hx
   .exact hodd
  .refine ju (by simp;omega) λx hx=>?_
   simp only[Yap,Yao,da,or_false]at hx;rcases hx with hx|rfl
   .exact hks x hx
   .rw[kd]
  .exact CL (by simp;omega) hks
  .exact ju (by simp) (by simp)
  .exact ju (by decide) (by simp[List.replicate,kd])
  .exact ju (by decide) (by simp[List.replicate,kd])
  .rw[kd]
  .rw[kd]
  .rw[kd]
  .rw[kd]
  .exact ju (by simp) λx hx=>by rw[Ycp.mp hx];exact FV (by omega)
  .exact ju (by have:=Ah (xs:=s.map D.int) (a:=some 1) (b:=none);rw[bQ]at this;omega)<|De hks)
 exact⟨d,hd,q d hkd⟩
theorem Dg:∀(n:Nat) (f:Nat->Rat),sm (n+1) f=sm n f+f n
 |0,f=>by rw[sm,sm,sm];grind|n+1,f=>by rw[sm,Dg n λi=>f<|i+1,sm];grind
theorem G1{m:Nat}:∀{n:Nat} {f:Nat->Rat},(∀i,i<n->Sz m (f i))->Sz (n*(m+1)+1) (sm n f)
 |0,f,_=>by rw[sm];exact Sz.zero (by omega)|n+1,f,h=>by rw[Dg];refine((G1 λi hi=>h i<|by omega).add<|h n<|by omega).mono ?_;rw[qX];omega
theorem uJ{g:WG}{E:Ex->Prop}(I:Nat->cX->Prop)(n:Nat)(h:∀k,k<n->∀ρ,I k ρ->∀nx:cX->Prop,(∀ρ,I (k+1) ρ->nx ρ)->g (.int k) ρ λρ1=>zb E { nx:=nx,rt:=N.rt,bk:=N.nx,ct:=nx } ρ1)(hn:∀ρ,I n ρ->N.nx ρ)(ρ:cX)(h0:I 0 ρ):ZbV g zb E N (rng 0 n) ρ:=by
 refine Ag (λds ρ=>∃k,k<=n/\ds=(rng 0 n).drop k/\I k ρ) ?_ ?_ _ ρ ⟨0,kW _,by rw[pZ],h0⟩;rintro d ds ρ ⟨k,hk,e,i⟩ nx hnx;have hlen:(rng 0 n).length=n:=by unfold rng;simp
 have hkn:k<n:=by
  rcases jB k n with z|z
  exact z;rw[List.drop_eq_nil_of_le<|by omega]at e;cases e
 rw[uf<|by omega]at e;injection e with e1 e2
 have e3:(rng 0 n)[k]'(by omega)=.int k:=by unfold rng;simp
 rw[e1,e3];exact h k hkn ρ i nx λρ' i'=>hnx ρ' ⟨k+1,hkn,e2,i'⟩;rintro ρ ⟨k,hk,e,i⟩;have hlen:(rng 0 n).length=n:=by unfold rng;simp
 have hkn:k=n:=by
  rcases jB k n with z|z
  rw[uf<|by omega]at e;cases e;omega
 subst hkn;exact hn ρ i
theorem Ai:bootBuiltins "repr" = some (.builtin "repr"):=by decide +kernel
theorem LW:bootBuiltins "ValueError" = some (.type "ValueError"):=by decide +kernel
theorem clsX_of{D:Addr}(g:PySem.W.findIn K (.ref D) "__getattribute__" = some (some<|.builtin "BaseException.__getattribute__"))(gn:PySem.W.findIn K (.ref D) "__getattr__" = some none)(be:PySem.W.mroIn K D (.type "BaseException")=some true)(h:PySem.W.hasDictIn K D=true)(a:PySem.W.findIn K (.ref D) "__class__" = some (some<|.builtin "object.__class__"))(gt:PySem.W.specialIn K (.builtin "object.__class__") "__get__" = some (some<|.builtin "getset_descriptor.__get__"))(tk:PySem.W.takesIn K (.builtin "object.__class__")=some true)(ob:PySem.W.mroIn K D (.type "object")=some true):ij K D:=
 ⟨g,gn,be,by obtain⟨cd,hc,_⟩:=PySem.W.any_some h;rw[hc];rfl,a,gt,tk,ob⟩
section
def gNeS:G2:=λx y Q=>∃a b,x=.str a/\y=.str b/\Q (.bl (!(a==b)))
theorem gNeS.mono:∀x y P P',(∀d,P d->P' d)->gNeS x y P->gNeS x y P':=λx y P P' hp ⟨a,b,h1,h2,h3⟩=>⟨a,b,h1,h2,hp _ h3⟩
theorem G3:gq X (compareOp .NotEq) gNeS:=by
 refine⟨⟨_,vC,λW H x y dx dy Q ok rx ry hg=>?_⟩,gNeS.mono⟩;obtain⟨a,b,rfl,rfl,q⟩:=hg;cases rx;cases ry;have e:decide (V.str a=V.str b)=(a==b):=by rw[j8];simp
 rw[<-e]at q;exact⟨rfl,q.now ok<|.bl _⟩
end
theorem G4(q:Q (.bl false)):gNeS (.str x) (.str x) Q:=⟨x,x,rfl,rfl,by rw[Pk];exact q⟩
section
variable{p:Pos}{g:WG}
def Dh:WE:=λ_ _ _=>False
theorem LY:PX X EX e Dh:=⟨⟨λ_ _ _=>False,λ_ _ _ _ _ _ h=>h.elim,λ_ _ _ _ _ _ _ _ _ _ h=>h.elim⟩,λ_ _ _ _ _ h=>h⟩
theorem LZ{t:WA}{T:TE}(k:∀W0 H0 W σ H ρ E Q,SOk X.K W0 H0 W σ H ρ->jN X.K W0 H0 E EX->t E ρ (λds=>∀a vs W' H',Ext W H W' H'->H' a=some (.lst vs)->W'.G a=none->¬W'.Pn a->H a=none->Reps X.K W' vs ds->Q (.ref a) H')->T σ H Q)
  (m:∀E ρ P P',(∀d,P d->P' d)->t E ρ P->t E ρ P') (i:Nat):∀W0 H0 W σ H ρ E Q,SOk X.K W0 H0 W σ H ρ->jN X.K W0 H0 E EX->dD i t E ρ (λds=>∀a vs W' H',Ext W H W' H'->H' a=some (.lst vs)->W'.G a=none->¬W'.Pn a->H a=none->Reps X.K W' vs ds->Q (.ref a) H')->T σ H Q:=by
 intro W0 H0 W σ H ρ E Q s eo h;unfold dD at h;rcases s.lend i with ep|⟨a,us,s',e3,e2,e6⟩
 .rw[ep]at h
  exact k W0 H0 W σ H ρ E Q s eo<|m _ _ _ _ (λd hd=>hd.2) h
 .refine k W0 H0 _ σ H _ E Q s' eo (m _ _ _ _ (λd hd b vs W2 H2 x2 h1 h2 h3 h4 r2=>?_) h)
  have hb:b≠a:=λz=>by rw[z,e2]at h4;cases h4
  exact hd.2 b vs _ H2 (x2.bor e3) h1 (by rw[Wd.rem_ne hb];exact h2) h3 h4<|r2.rem (x2.g _ _ e6) hd.1
theorem L4(i j:Nat)(vars:List Str)(sel:List Nat)(hc:X.calm=true)(hN:X.N.Nodup)(hi:mw X EX target iter wi)(hg:∀s H fp,qI (X.lc sc vars sel s H fp) target g)(hf:∀s H fp,uz (X.lc sc vars sel s H fp) E0 ifs wf)(he:∀s H fp,PX (X.lc sc vars sel s H fp) E0 elt we)
  (hix:X.N[i]? = some x:=by rfl) (hx:mo X.env.scope x:=by first|exact Or.inl rfl|exact Or.inr rfl)
  (hsw:swapsWith (.ListComp elt [⟨target,iter,ifs,0⟩] sc pos) (some<|.Name x pos') spos.line X.env=pure true:=by rfl)
  (ok:mr sc X.env.scope=true:=by rfl) (so:tx X.N sc sel=true:=by rfl) (hs:∀x,foldedSetIterable iter X.env x=pure x:=by intro _;rfl) (hfn:X.fn x=true\/X.env.scope.names.lookup x=some .local:=by first|exact .inl rfl|exact .inr rfl|assumption) :
  PZ X EX (.Assign [.Name x pos'] (.ListComp elt [⟨target,iter,ifs,0⟩] sc pos) spos) (cH i<|dD j<|aLC wi vars.length sel g wf we):=by
 obtain⟨ti,tg,tf,te,pi,pg,pf,pe,k⟩:=Ct hi hg hf he;have am:=aLC.mono (vars:=vars) (sel:=sel) hi (hg {} (λ_=>none) []).mono (hf {} (λ_=>none) []).mono (he {} (λ_=>none) []).mono;refine⟨⟨_,EV vars sel hc hN hix hx pi ok so pg pf pe hsw hs hfn,λW0 H0 F W σ H ρ E Dn N s fl eo no h=>?_⟩,λE ρ N N' hl q=>am _ _ _ _ (λ_ hq=>⟨hq.1,hl.nx _ hq.2⟩) q⟩;refine LZ k am j W0 H0 W σ H ρ E _ s eo<|am _ _ _ _ (λxs hd=>⟨hd.1,λa vs W1 H1 x1 e1 e2 e3 e4 r1=>no.nx W1 _ H1 _ (s.own x1 e4 e1 e2 e3 r1) (fl.ext x1) hd.2⟩) h
def G5:D->Bool
 |.non=>true|.bl _=>true|_=>false
def Di:D->D->Bool
 |.non,.non=>true|.bl a,.bl b=>a==b|_,_=>false
def gIsC(neg:Bool):G2:=λx y Q=>G5 y=true/\Q (.bl (if neg then !Di x y else Di x y))
theorem gIsC.mono{neg:Bool}:∀x y P P',(∀d,P d->P' d)->gIsC neg x y P->gIsC neg x y P':=λ_ _ _ _ hp h=>⟨h.1,hp _ h.2⟩
theorem G6{W:Wd}{x y:V}{v u:Value}{dx dy:D}(r1:Rep K W x dx)(r2:Rep K W y dy)(rx:RelV x v)(ry:RelV y u)(h:G5 dy=true):plainIs v u=true/\(v==u)=Di dx dy:=by
 cases r2<;>first
  |(cases h;done)
  | (cases ry;cases r1<;>first
      |(cases rx;first|exact⟨rfl,rfl⟩|(rename_i a b;cases a<;>cases b<;>exact⟨rfl,rfl⟩))
      |(obtain⟨t,rfl⟩:=rx;exact⟨rfl,rfl⟩))
theorem tS:gq X (compareOp .Is) (gIsC false):=by refine⟨⟨λx y H Q=>∃W dx dy,WOk W H/\Rep X.K W x dx/\Rep X.K W y dy/\gIsC false dx dy (RQ X.K W H Q),?_,λW H x y dx dy Q ok rx ry hg=>⟨W,dx,dy,ok,rx,ry,hg⟩⟩,gIsC.mono⟩;rintro pins s σ H x y v u Q I rx ry ⟨W,dx,dy,ok,r1,r2,h1,h2⟩;obtain⟨p,e⟩:=G6 r1 r2 rx ry h1;exact wpAny_is_plain p<|bZ I (h2.now ok<|.bl _) (by rw[e];rfl)
theorem Aj:gq X (compareOp .IsNot) (gIsC true):=by refine⟨⟨λx y H Q=>∃W dx dy,WOk W H/\Rep X.K W x dx/\Rep X.K W y dy/\gIsC true dx dy (RQ X.K W H Q),?_,λW H x y dx dy Q ok rx ry hg=>⟨W,dx,dy,ok,rx,ry,hg⟩⟩,gIsC.mono⟩;rintro pins s σ H x y v u Q I rx ry ⟨W,dx,dy,ok,r1,r2,h1,h2⟩;obtain⟨p,e⟩:=G6 r1 r2 rx ry h1;exact wpAny_isNot_plain p<|bZ I (h2.now ok<|.bl _) (by rw[e];rfl)
end
mutual
noncomputable def jp:D->Option PyData
 |.non=>some .none|.bl b=>some<|.bool b
 |.int i=>some<|.int i
 |.str x=>some<|.str x
 |.tup xs=>(gB xs).map .tuple|.lst xs=>(gB xs).map .list|.dic=>some<|.dict []
 |_=>none
noncomputable def gB:List D->Option (List PyData)
 |[]=>some []
 |x::r=>match jp x,gB r with
  |some a,some b=>some (a::b)|_,_=>none
end
mutual
def mD:D->Bool
 |.lst _=>false|.tup xs=>kP xs|_=>true
def kP:List D->Bool
 |[]=>true|x::r=>mD x&&kP r
end
section
variable{s:Shared}{W:Wd}
mutual
theorem G7(I:Inv X pins σ H s)(ok:WOk W H):∀{v:V} {d:D} {u:Value} {p:PyData},Rep X.K W v d->RelV v u->jp d=some p->∃as,Reads s.heap u p as/\(mD d=true->sysModules∉as)
 |_,_,u,p,.non,r,e=>by cases e;cases r;exact⟨_,.none,λ_=>by simp⟩
 |_,_,u,p,.bl b,r,e=>by cases e;cases r;exact⟨_,.bool b,λ_=>by simp⟩
 |_,_,u,p,.int i,r,e=>by cases e;obtain⟨t,rfl⟩:=r;exact⟨_,.int i t,λ_=>by simp⟩
 |_,_,u,p,.str x,r,e=>by cases e;obtain⟨t,rfl⟩:=r;exact⟨_,.str x t,λ_=>by simp⟩
 |.ref a,.tup ds,u,p,.tup e0 rs,r,e=>by
  cases r;cases q:gB ds with
  |none=>rw[jp,q]at e;cases e
  |some ps=>rw[jp,q]at e;cases e;obtain⟨its,rv,⟨o,h1,h2,n,h3⟩,_⟩:=I.tuple (xs:=_)<|SqT.of (ok.g _ _ e0);obtain⟨as,ra,hs⟩:=Ak I ok rs rv q;exact⟨_,.tuple h1 h2 h3<|by simpa using ra,λz=>hs (by rw[mD]at z;exact z)⟩
 |.ref a,.tup ds,u,p,.ktup e0 rs,r,e=>by
  cases r;cases q:gB ds with
  |none=>rw[jp,q]at e;cases e
  |some ps=>rw[jp,q]at e;cases e;obtain⟨its,rv,⟨o,h1,h2,n,h3⟩,_⟩:=I.tuple (xs:=_)<|.inr e0;obtain⟨as,ra,hs⟩:=Ak I ok rs rv q;exact⟨_,.tuple h1 h2 h3<|by simpa using ra,λz=>hs (by rw[mD]at z;exact z)⟩
 |.ref a,.lst ds,u,p,.lst e0 rs,r,e=>by
  cases r;cases q:gB ds with
  |none=>rw[jp,q]at e;cases e
  |some ps=>rw[jp,q]at e;cases e;obtain⟨its,rv,⟨o,n,h1,h2,h3,h4⟩,_⟩:=I.list (xs:=_)<|SqL.of (ok.g _ _ e0);obtain⟨as,ra,hs⟩:=Ak I ok rs rv q;exact⟨_,.list h1 h2 h4<|by simpa using ra,λz=>by rw[mD]at z;cases z⟩
 |.ref a,.dic,u,p,.dic e0,r,e=>by
  cases r;cases e;have ho:=I.hok _ _<|ok.g _ _ e0;obtain⟨_,hn,vs,kv,o,es,n,h1,h2,h3,_,h4,_⟩:=ho;cases kv;have e:es.toList=[]:=by generalize es.toList=l at h4;cases h4;rfl
  refine⟨_,.dict h1 h2.1 h3 (as:=[]) (bs:=[]) ?_ ?_,λ_=>?_⟩;rw[e];exact .nil;rw[e];exact .nil;have:=beq_eq_false_iff_ne.mp hn;simpa using λz=>this z.symm
 |_,_,u,p,.pen _,r,e=>by rw[jp]at e<;>first|cases e|(intros;rename_i z;cases z)
 |_,_,u,p,.cls _,r,e=>by rw[jp]at e<;>first|cases e|(intros;rename_i z;cases z)
 |_,_,u,p,.exc _ _ _,r,e=>by rw[jp]at e<;>first|cases e|(intros;rename_i z;cases z)
 |_,_,u,p,.ty _,r,e=>by rw[jp]at e<;>first|cases e|(intros;rename_i z;cases z)
 |_,_,u,p,.scr _ _,r,e=>by rw[jp]at e<;>first|cases e|(intros;rename_i z;cases z)
theorem Ak(I:Inv X pins σ H s)(ok:WOk W H):∀{vs:List V} {ds:List D} {us:List Value} {ps:List PyData},Reps X.K W vs ds->Vals vs us->gB ds=some ps->∃as,ReadsAll s.heap us ps as/\(kP ds=true->sysModules∉as)
 |_,_,us,ps,.nil,r,e=>by rw[gB]at e;cases e;cases r;exact⟨_,.nil,λ_=>by simp⟩
 |_,d::ds,us,ps,.cons rd rs,r,e=>by
  rw[gB]at e;cases q1:jp d with
  |none=>rw[q1]at e;cases e
  |some a=>
   cases q2:gB ds with
   |none=>rw[q1,q2]at e;cases e
   |some b=>
    rw[q1,q2]at e;cases e;cases r with
    |cons r1 r2=>
     obtain⟨as,ha,h1⟩:=G7 I ok rd r1 q1;obtain⟨bs,hb,h2⟩:=Ak I ok rs r2 q2;exact ⟨_,.cons ha hb,λq z=>by
      rw[kP,cV]at q;exact(Yap.mp z).elim (h1 q.1)<|h2 q.2⟩
end
def Zie:List D->(D->Prop)->Prop:=λds Q=>∃x p,ds=[x]/\jp x=some p/\p.showable=true/\(p.hasDict=true->mD x=true)/\p.depth<=32/\p.shown.length<=sizeLine/\Q (.str p.shown)
theorem Zie.mono:∀ds P P',(∀d,P d->P' d)->Zie ds P->Zie ds P':=λds P P' hp ⟨x,p,h1,h2,h3,h4,h5,h6,h7⟩=>⟨x,p,h1,h2,h3,h4,h5,h6,hp _ h7⟩
theorem Al(hg:X.A.guards=some [])(hu:X.A.units+64<cLine):eI X (.builtin "repr") Zie:=by
 refine⟨⟨λvs H Q=>∃W ds,WOk W H/\Reps X.K W vs ds/\Zie ds (RQ X.K W H Q),?_,λW H vs ds Q ok r hg=>⟨W,ds,ok,r,hg⟩⟩,Zie.mono⟩;rintro pins s σ H vs us Q I rv ⟨W,ds,ok,rs,x,p,rfl,h1,h2,h3,h4,h5,q⟩;obtain⟨v,rfl,r⟩:=rs.one;obtain⟨u,rfl,ru⟩:=e7 rv;obtain⟨as,ra,hs⟩:=G7 I ok r ru h1;have fin:∀{s':Shared} {tk:Tok},Inv X pins σ H s'->EP X pins σ Q (.str p.shown tk) s':=λI'=>⟨.str _,H,I',⟨_,rfl⟩,q.now ok<|.str _⟩;cases u with
 |ref a=>exact repr_of_reads' ra h2 (λz=>hs<|h3 z) hg (by omega) (λ_ _ e=>e) (λh' u tk hk=>fin<|I.kept hk) h5|none=>cases ra;exact PySem.P.repr_of_none<|fin (I.tok _)
 |bool b=>cases ra;exact PySem.P.repr_of_bool<|fin (I.tok _)
 |int i t=>cases ra;exact PySem.P.repr_of_int (by simpa[PyData.showable] using h2)<|fin (I.tok _)
 |str y t=>cases ra;exact PySem.P.repr_of_str (fin<|I.tok _) h5
 |_=>cases ra
end
mutual
noncomputable def bx(b:Nat):D->Nat->Bool
 |.non,_=>true|.bl _,_=>true|.int i,_=>decide (i.natAbs<2^90)|.str x,_=>decide (x.cps.size<=4)&&x.cps.toList.all λc=>decide (c<16^8)
 |.dic,_=>true|.tup xs,n=>decide (0<n)&&decide (xs.length<=b)&&j7 b xs (n-1)|.lst xs,n=>decide (0<n)&&decide (xs.length<=b)&&j7 b xs (n-1)|.pen,_=>false|.cls _,_=>false|.exc _,_=>false|.ty _,_=>false|.scr _,_=>false
noncomputable def j7(b:Nat):List D->Nat->Bool
 |[],_=>true|x::r,n=>bx b x n&&j7 b r n
end
mutual
def mE:D->Bool
 |.dic=>false|.tup xs=>jS xs|.lst xs=>jS xs|_=>true
def jS:List D->Bool
 |[]=>true|x::r=>mE x&&jS r
end
def Bk(b:Nat):Nat->Nat
 |0=>4|n+1=>b*(Bk b n+1)
theorem xB{b:Nat}(h:1<=b):∀n,4<=Bk b n
 |0=>bS _|n+1=>by have:=xB h n;have:1*(Bk b n+1)<=b*(Bk b n+1):=p6 _ h;rw[Bk];omega
theorem G8:∀{xs:List D},kP xs=true↔∀x∈xs,mD x=true
 |[]=>by simp[kP]|x::r=>by rw[kP,cV,G8];simp
theorem Dj:∀{xs:List D},jS xs=true↔∀x∈xs,mE x=true
 |[]=>by simp[jS]|x::r=>by rw[jS,cV,Dj];simp
def G9(x:D):Str:=((jp x).getD .none).shown
def dl(x:D):Bool:=mD x||mE x
theorem L5(q:Rat):mD (aR q)=true:=rfl
theorem L6(q:Rat):mE (aR q)=true:=rfl
theorem L7(r:List Rat):mD (aG r)=true:=by unfold aG;rw[mD,G8];intro x hx;obtain⟨q,_,rfl⟩:=YbT.mp hx;exact L5 q
theorem L8(r:List Rat):mE (aG r)=true:=by unfold aG;rw[mE,Dj];intro x hx;obtain⟨q,_,rfl⟩:=YbT.mp hx;exact L6 q
def gC(B:List (List Rat))(j:Nat):List Rat:=B.map λl=>l.getD j 0
structure L9(T:List (List Rat))(n:Nat):Prop where
 len:T.length=n
 row:∀r∈T,r.length=n
 n1:1<=n
 n5:n<=5
def Ma(m:Nat)(T:List (List Rat)):Prop:=∀r∈T,∀x∈r,Sz m x
section
variable{E:Ex->Prop}{x:D}
theorem Am(B:List (List Rat))(j:Nat):(gC B j).length=B.length:=by unfold gC;rw[bQ]
end
namespace B
theorem mem_cut{α:Type}{xs:List α}{a b:Option Int}{x:α}(h:x∈aV xs a b):x∈xs:=by unfold aV at h;exact ly<|mO h
theorem dl_lst(h:∀x∈xs,mE x=true):dl (.lst xs)=true:=by unfold dl;rw[mD,mE,yS,Dj];exact .inr h
theorem nm_at{E:Ex->Prop}(h:ρ[i]? = some (.d d)):∀P:D->Prop,P d->wN i E ρ P:=λP q=>by unfold wN;rw[h];exact q
end B
section
variable{p ps:Pos}{a b:Expr}
theorem Dk:∀(i:Nat) (xs:List D),(fH i xs).length=xs.length
 |_,[]=>rfl|i,x::xs=>by rw[fH,dX,dX,Dk]
theorem Dl:∀(i j:Nat) (xs:List D) (d:D),(fH i xs)[j]? = some d->∃x,xs[j]? = some x/\d=.tup [.int ((i+j:Nat):Int),x]
 |_,_,[],_,h=>by simp[fH]at h|i,0,x::xs,d,h=>by rw[fH,dv]at h;exact⟨x,rfl,(O8 h).symm⟩|i,j+1,x::xs,d,h=>by rw[fH,eZ]at h;obtain⟨y,e1,e2⟩:=Dl (i+1) j xs d h;exact⟨y,by rw[eZ];exact e1,by rw[e2,show i+1+j=i+(j+1) by omega]⟩
theorem uK{t:WA}(hm:X.mg "enumerate" = none)(ha:jh X EX [a] t)(hg:Gl X "enumerate" :=by rfl)(hs:starEach [a] X.env=[(false,eval a X.env)]:=by rfl) :
  mw X EX (.Tuple es n1 ps) (.Call (.Name "enumerate" p) [a] [] pos) (iE t):=by
 obtain⟨t,q,k⟩:=ha.t;refine⟨⟨_,J2 hg hm q hs,λW0 H0 W σ H ρ E R s eo h=>?_⟩,λE ρ P P' hp h=>ha.mono _ _ _ _ (λds hd=>?_) h⟩
 .refine k W0 H0 W σ H ρ E _ s eo (ha.mono _ _ _ _ (λds hd vs W1 H1 x1 r1=>?_) h)
  split at hd
  .obtain⟨v,rfl,rv⟩:=r1.one
   obtain⟨κ,l,vs,xs,rfl,rr,hd,sq⟩:=rv.sq hd;refine⟨κ,l,rfl,⟨vs,sq W1 H1 (λ_ _ z=>z) x1.ok⟩,hd W1 H1 _ x1 λW2 H2 i g2 p2 ok2=>⟨λd hd=>?_,λhi=>?_⟩⟩
   .have s1:=sq W2 H2 g2 ok2
    obtain⟨x,ex,rfl⟩:=Dl 0 i xs d hd;obtain⟨vx,evx,rvx⟩:=rr.get ex;refine⟨⟨vs,vx,s1,evx⟩,λz H3 hy=>?_⟩;obtain⟨q,x',rfl,hq,rfl,e1⟩:=hy;have e1:=e1 _ s1;rw[evx]at e1;cases e1;have xt:=Ext.put (o:=.tup [.int i,vx]) ok2 hq;rw[sd];exact⟨_,xt,.tup (by unfold Wd.put;dsimp only;rw[aN])<|.cons (.int _)<|.cons (xt.rep<|rvx.mono g2 p2) .nil⟩
   .refine⟨vs,sq W2 H2 g2 ok2,?_⟩
    rw[rr.length];rw[Dk]at hi;omega
  .exact hd.elim
 .split at hd
  .exact isS.mono (λxs h1=>hp _ h1) _ hd
  .exact hd.elim
end
section
variable{p p1 ps sp1 sp2:Pos}{a b:Expr}
def is2(Q:D->D->Prop):D->Prop
 |.tup [x,y]=>Q x y|_=>False
theorem is2.mono{Q Q':D->D->Prop}(h:∀x y,Q x y->Q' x y):∀d,is2 Q d->is2 Q' d:=λd z=>by unfold is2 at z ⊢;split at z;exact h _ _ z;exact z.elim
theorem Mb{Q:D->D->Prop}(h:is2 Q d):∃x y,d=.tup [x,y]/\Q x y:=by unfold is2 at h;split at h;exact⟨_,_,rfl,h⟩;exact h.elim
def uL(i:Nat)(wv w1 w2:WE):WS:=λE N ρ=>match ρ[i]? with
 |some (.ow xs)=>wv E ρ<|is2 λx y=>w1 E ρ (isI λk1=>∃j1,jK xs.length k1=some j1/\w2 E (ρ.set i<|.ow<|xs.set j1 x) (isI λk2=>∃j2,jK xs.length k2=some j2/\N.nx (ρ.set i<|.ow<|(xs.set j1 x).set j2 y)))
 |_=>False
theorem Mc(i:Nat){w1 w2:WE}{gz ix2:Expr}{kt:Nat}{pt:Pos}(he:PX X EX e wv)(h1:PX X EX gz w1)(h2:PX X EX ix2 w2)(hc:X.calm=true:=by rfl)(hN:X.N[i]? = some x:=by rfl)(hv:kX X.env.scope x:=by first|exact Or.inl rfl|exact Or.inr (Or.inl rfl)|exact Or.inr<|Or.inr rfl)(hd:(x==("__debug__" : Str))=false:=by decide)
  (hcd:(x==("__classdict__" : Str))=false:=by decide)
  (ha1:∀ v,assign (.Subscript (.Name x p1) gz sp1) X.env v=(do
   let ov <-holding [v] (eval (.Name x p1) X.env)
   let iv <-holding [v,ov] (eval gz X.env)
   standAt sp1
   holding [v,ov,iv] (setItem ov iv v)
   release [v,ov,iv] []):=by intro _;rfl)
  (ha2:∀ v,assign (.Subscript (.Name x p2) ix2 sp2) X.env v=(do
   let ov <-holding [v] (eval (.Name x p2) X.env)
   let iv <-holding [v,ov] (eval ix2 X.env)
   standAt sp2
   holding [v,ov,iv] (setItem ov iv v)
   release [v,ov,iv] []):=by intro _;rfl)
  (hs1:(assignEach [.Subscript (.Name x p1) gz sp1,.Subscript (.Name x p2) ix2 sp2] X.env).map (·.2)=assign (.Subscript (.Name x p1) gz sp1) X.env::(assignEach [.Subscript (.Name x p2) ix2 sp2] X.env).map (·.2):=by rfl)
  (hs2:(assignEach [.Subscript (.Name x p2) ix2 sp2] X.env).map (·.2)=assign (.Subscript (.Name x p2) ix2 sp2) X.env::(assignEach [] X.env).map (·.2):=by rfl)
  (hn:(assignEach [.Subscript (.Name x p1) gz sp1,.Subscript (.Name x p2) ix2 sp2] X.env).length=2:=by rfl) (hst:(assignEach [.Subscript (.Name x p1) gz sp1,.Subscript (.Name x p2) ix2 sp2] X.env).findIdx? (·.1)=none:=by rfl)
  (hs:swapsWithSole [.Tuple [.Subscript (.Name x p1) gz sp1,.Subscript (.Name x p2) ix2 sp2] kt pt] e pos.line X.env=pure false:=by rfl) (hw:swappedStores [.Tuple [.Subscript (.Name x p1) gz sp1,.Subscript (.Name x p2) ix2 sp2] kt pt] e X.env=pure none:=by rfl)
  (h3:(assignEach [.Tuple [.Subscript (.Name x p1) gz sp1,.Subscript (.Name x p2) ix2 sp2] kt pt] X.env).map (·.2)=[assign (.Tuple [.Subscript (.Name x p1) gz sp1,.Subscript (.Name x p2) ix2 sp2] kt pt) X.env]:=by rfl) :
  PZ X EX (.Assign [.Tuple [.Subscript (.Name x p1) gz sp1,.Subscript (.Name x p2) ix2 sp2] kt pt] e pos) (uL i wv w1 w2):=by
 obtain⟨t,pe,k⟩:=he.t;obtain⟨t1,pi1,k1⟩:=h1.t;obtain⟨t2,pi2,k2⟩:=h2.t;refine⟨⟨_,i4 pe (mS hc (gM (iY (df hN hv hd hcd) pi1 fw ha1) (gM (iY (df hN hv hd hcd) pi2 fw ha2) k6 hs2) hs1) hn hst) hs hw h3,λW0 H0 F W σ H ρ E Dn N s fl eo no h=>?_⟩,λE ρ N N' hl q=>?_⟩
 .unfold uL at h
  split at h
  .rename_i xs ex
   obtain⟨a,vs,e1,e2,e3,e4,e5,r⟩:=s.o i xs ex;have hi:i<ρ.length:=(Yar.mp ex).1;refine k W0 H0 W σ H ρ E _ s eo<|he.mono _ _ _ _ (λd hd v W1 H1 x1 r1=>?_) h;obtain⟨dx,dy,rfl,hd⟩:=Mb hd;obtain⟨q,us,rfl,sq,ru⟩:=r1.sqt x1.ok;obtain⟨vx,vy,rfl,rx,ry⟩:=ru.two;refine⟨q,[vx,vy],rfl,sq,rfl,vx,[vy],rfl,⟨_,e1,?_⟩⟩;refine k1 W0 H0 W1 σ H1 ρ E _ (s.step x1) eo<|h1.mono _ _ _ _ (λdi hdi vi W2 H2 x2 r2=>?_) hd;obtain⟨kk,rfl,j,hj,hn2⟩:=om hdi;cases r2;have xx:=x1.trans x2;have e2':=xx.h a _ e2 e4;refine⟨a,vs,kk,j,rfl,rfl,e2',by rw[r.length];exact hj,?_⟩;have s2:=(s.step xx).chg ex e1<|Reps.set (x2.rep rx) j (xx.reps r);refine⟨vy,[],rfl,⟨_,e1,?_⟩⟩;have ex2:(ρ.set i<|.ow<|xs.set j dx)[i]? = some (.ow<|xs.set j dx):=fb hi;obtain⟨a',vs',f1,f2,f3,f4,f5,fr⟩:=s2.o i _ ex2;refine k2 W0 H0 W2 σ _ _ E _ s2 eo<|h2.mono _ _ _ _ (λdk hdk vk W3 H3 x3 r3=>?_) hn2;obtain⟨k',rfl,j',hj',hn3⟩:=om hdk;cases r3;have ea:a'=a:=by rw[e1]at f1;cases f1;rfl
   subst ea;have e2'':=x3.h _ _ f2 f4;refine⟨_,vs',k',j',rfl,rfl,e2'',by rw[fr.length,dI];exact hj',rfl,?_⟩;have s3:=(s2.step x3).chg ex2 e1<|Reps.set (x3.rep<|x2.rep ry) j' (x3.reps fr);rw[List.set_set]at s3;exact no.nx W3 σ _ _ s3 ((fl.ext xx).ext x3 |> λz=>z) hn3
  .exact h.elim
 .unfold uL at q ⊢
  split at q
  .exact he.mono _ _ _ _ (is2.mono λx y hxy=>h1.mono _ _ _ _ (isI.mono λk1 ⟨j1,a1,b1⟩=>⟨j1,a1,h2.mono _ _ _ _ (isI.mono λk2 ⟨j2,a2,b2⟩=>⟨j2,a2,hl.nx _ b2⟩) b1⟩) hxy) q
  .exact q.elim
end
def Ha(f l:List Rat)(i j k:Nat):Rat:=f.getD (i-k) 0*l.getD (f.length-1-j+k) 0
def Md(f l:List Rat)(i j k:Nat):Rat:=l.getD (i-k-1) 0*f.getD (f.length-j+k) 0
def sp(f l:List Rat)(i j:Nat):Nat->Rat
 |0=>0|k+1=>if k<min i j then sp f l i j k+Ha f l i j k-Md f l i j k else sp f l i j k+Ha f l i j k
abbrev Zom:List Str:=["one", "other"]
def Hb:WS:=(aM<|wF tK<|aC (w2 fu (w2 gMul (w2 gIx (wN 0)<|wC<|D.int<|0)<|w2 gIx (wN 1)<|wC<|D.int<|1)<|w2 gMul (w2 gIx (wN 1)<|wC<|D.int<|0)<|w2 gIx (wN 0)<|wC<|D.int<|1)<|aC (w2 gMul (w2 gIx (wN 0)<|wC<|D.int<|1)<|w2 gIx (wN 1)<|wC<|D.int<|1) aA)
abbrev N_by:List Str:=["one", "other"]
def xC:WS:=(aM<|wF tK<|aC (w2 gMul (w2 gIx (wN 0)<|wC<|D.int<|0)<|w2 gIx (wN 1)<|wC<|D.int<|1)<|aC (w2 gMul (w2 gIx (wN 0)<|wC<|D.int<|1)<|w2 gIx (wN 1)<|wC<|D.int<|0) aA)
theorem Me:Rd tL Hb Zom:=by
 rintro _ E Q ⟨⟨p,q⟩,rfl,hb,h⟩;obtain⟨b1,b2,b3,b4,b5,b6,b7,b8⟩:=hb.mul;unfold Hb;simp only[aM,wF,aC,w2,wN,wC,dY,c6,iG,dv,eZ];refine rK<|gz ⟨b1,rK<|gz ⟨b2,?_⟩⟩;dsimp only;simp only[gX,true_and];refine gz<|gz ⟨b3,?_⟩;refine⟨(_,_),rfl,⟨b6,b5⟩,?_⟩;dsimp only at h ⊢;have e:Rat.divInt (p.num*q.den-q.num*p.den) ((p.den:Int)*q.den)=p-q:=by rw[Rat.sub_def',<-Bl];rfl
 rw[e];exact h
theorem xD:Rd qL xC N_by:=by
 rintro _ E Q ⟨⟨p,q⟩,rfl,⟨hb,h0⟩,h⟩;dsimp only at hb h0 h;obtain⟨b1,b2,b3,b4,b5,b6,b7,b8⟩:=hb.mul;unfold xC;simp only[aM,wF,aC,w2,wN,wC,dY,c6,iG,dv,eZ];refine rK<|gz ⟨b1,gz<|rK ⟨b7,?_⟩⟩;have hq:q.num≠0:=λz=>h0<|YcB.mp z;refine⟨(_,_),rfl,⟨qa (by exact_mod_cast p.den_nz) hq,b8⟩,?_⟩;dsimp only at h ⊢;have e:Rat.divInt (p.num*q.den) ((p.den:Int)*q.num)=p/q:=by
  rw[ic,Rat.inv_def];have:p*Rat.divInt (q.den:Int) q.num=Rat.divInt p.num p.den*Rat.divInt (q.den:Int) q.num:=by rw[uh]
  rw[this,se]
 rw[e];exact h
theorem Mf(p q:Rat):j5 (aR p) (aR q)=decide (p=q):=by unfold aR;rw[GZ,j8];simp only[cV,Po,O6];constructor;rintro⟨h1,h2⟩;exact Rat.ext h1 (by exact_mod_cast h2);rintro rfl;exact⟨rfl,rfl⟩
namespace B.C
noncomputable def ga(r:List Int)(k:Nat):Int:=r.getD k 0
def gr(t:List (List Int))(k:Nat):List Int:=t.getD k []
def jT(row here:List Int)(a:Nat)(last:Int):List Int:=(List.range row.length).map λj=>(ga row j*ga here a-ga row a*ga here j).fdiv last
def l7(t:List (List Int))(a:Nat):List Nat:=((List.range<|t.length-a).map (a + ·)).filter λk=>ga (gr t k) a != 0
def eJ(t:List (List Int))(a g:Nat):List (List Int):=(t.set a<|gr t g).set g<|gr t a
def gY(t:List (List Int))(a k:Nat)(last:Int):List (List Int):=(List.range t.length).map λi=>if a<i/\i<k then jT (gr t i) (gr t a) a last else gr t i
structure tT where
 t:List (List Int)
 s:Int
 l:Int
def kQ(a:Nat)(x:tT):Option tT:=match l7 x.t a with
 |[]=>none
 |g::_=>let t1:=eJ x.t a g
  let t2:=gY t1 a t1.length x.l
  some ⟨t2,x.s*(1-2*(if g=a then 0 else 1)),ga (gr t2 a) a⟩
noncomputable def fK(t:List (List Int)):Nat->Option tT
 |0=>some ⟨t,1,1⟩|a+1=>(fK t a).bind<|kQ a
def jU(t:List (List Int)):Int:=match fK t t.length with|none=>0|some x=>x.s*x.l
structure Sm(b n:Nat)(t:List (List Int)):Prop where
 len:t.length=n
 row:∀r∈t,r.length=n
 sm:∀r∈t,∀x∈r,x.natAbs<2^b
theorem Mg{a b:Int}(h:b≠0):(a.fdiv b).natAbs<=a.natAbs:=Int.natAbs_fdiv_le_natAbs a b
theorem Sm.gr{b n k:Nat}{t:List (List Int)}(h:Sm b n t)(hk:k<n):t[k]? = some (gr t k)/\(C.gr t k).length=n/\∀x∈C.gr t k,x.natAbs<2^b:=by
 have e:=h.len;have:t[k]? = some (C.gr t k):=by unfold C.gr;rw[aZ,cA<|by omega];rfl
 have hm:=jz this;exact⟨this,h.row _ hm,h.sm _ hm⟩
theorem ga_lt{r:List Int}(h:∀x∈r,x.natAbs<2^b):(ga r k).natAbs<2^b:=by
 unfold ga;rw[aZ];cases e:r[k]? with
 |none=>exact Nat.two_pow_pos b|some v=>exact h _<|jz e
theorem ga_get{r:List Int}(h:r.length=n)(hk:k<n):r[k]? = some (ga r k):=by unfold ga;rw[aZ,cA<|by omega];rfl
theorem tak_num{w x y z:Int}(h1:w.natAbs<2^b)(h2:x.natAbs<2^b)(h3:y.natAbs<2^b)(h4:z.natAbs<2^b):(w*x-y*z).natAbs<2^(2*b+1):=by
 have m1:(w*x).natAbs<2^b*2^b:=by rw[gK];exact uj h1 h2
 have m2:(y*z).natAbs<2^b*2^b:=by rw[gK];exact uj h3 h4
 have:=Int.natAbs_sub_le (w*x)<|y*z;rw[u8,show 2*b=b+b by omega,r8];omega
theorem Mh{a:Nat}{row here:List Int}{last:Int}(h1:row.length=n)(h2:∀x∈row,x.natAbs<2^b)(h3:∀x∈here,x.natAbs<2^b)(hl:last≠0):(jT row here a last).length=n/\∀x∈jT row here a last,x.natAbs<2^(2*b+1):=by refine⟨by unfold jT;rw[bQ,mm];exact h1,λx hx=>?_⟩;obtain⟨j,_,rfl⟩:=YbT.mp hx;exact jD (Mg hl)<|tak_num (ga_lt h2) (ga_lt h3) (ga_lt h2) (ga_lt h3)
theorem An{r:List Int}(h:i<t.length):gr (t.set i r) k=if k=i then r else gr t k:=by unfold gr;rw[aZ,Bq,aZ];by_cases e:i=k;subst e;rw[if_pos rfl,if_pos rfl,if_pos h];rfl;rw[if_neg e,if_neg<|Pa e]
theorem Mi{a g:Nat}(h:Sm b n t)(ha:a<n)(hg:g<n):Sm b n (eJ t a g):=by
 have e:=h.len;have m:∀r∈eJ t a g,r∈t:=λr hr=>by
  unfold eJ at hr;rcases Bo hr with hr|rfl
  rcases Bo hr with hr|rfl
  exact hr;exact jz (h.gr hg).1;exact jz (h.gr ha).1
 exact⟨by unfold eJ;rw[dI,dI];exact e,λr hr=>h.row r<|m r hr,λr hr=>h.sm r<|m r hr⟩
theorem Hc{a g:Nat}(h:Sm b n t)(ha:a<n)(hg:g<n):gr (eJ t a g) a=gr t g:=by have e:=h.len;unfold eJ;rw[An (by rw[dI];omega)];by_cases z:a=g;subst z;rw[if_pos rfl];rw[if_neg z,An<|by omega,if_pos rfl]
theorem Mj{a g:Nat}(h:Sm b n t)(hg:g∈l7 t a):a<=g/\g<n/\ga (gr t g) a≠0:=by have e:=h.len;unfold l7 at hg;obtain⟨h1,h2⟩:=Yag.mp hg;obtain⟨k,hk,rfl⟩:=YbT.mp h1;rw[Yah]at hk;exact⟨by omega,by omega,by simpa using h2⟩
theorem Dm{a:Nat}{l:Int}(hi:i<t.length):gr (gY t a k l) i=if a<i/\i<k then jT (gr t i) (gr t a) a l else gr t i:=by show(gY t a k l).getD i []=_;unfold gY;rw[aZ,cE,iU hi];rfl
theorem Mk{a:Nat}{l:Int}(h:Sm b n t)(ha:a<n)(hl:l≠0):Sm (2*b+1) n (gY t a k l):=by
 have e:=h.len;have key:∀r∈gY t a k l,r.length=n/\∀x∈r,x.natAbs<2^(2*b+1):=λr hr=>by
  unfold gY at hr;obtain⟨i,hi,rfl⟩:=YbT.mp hr;have hi':i<n:=by rw[<-e];simpa using hi
  split;exact Mh (h.gr hi').2.1 (h.gr hi').2.2 (h.gr ha).2.2 hl;exact⟨(h.gr hi').2.1,λx hx=>dG ((h.gr hi').2.2 x hx)<|mL (by decide)<|by omega⟩
 exact⟨by unfold gY;rw[bQ,mm];exact e,λr hr=>(key r hr).1,λr hr=>(key r hr).2⟩
def tabD(t:List (List Int)):D:=.lst<|t.map d7
end B.C
namespace Dt
open B.C
def tA(t:List (List Int)):Nat->R:=λi j=>ga (gr t i) j
theorem xE(P:Nat->R){a:Nat}(ha:a<=4)(hk:k<a)(j:Nat):M P a k j=0:=by
 match a,ha,k,hk with
 |1,_,0,_=>have:=v8 (P 0) (P 0) 0 j;show m2 _ _ _ _=0;omega|2,_,0,_=>have:=v9 (P 0) (P 1) (P 0) 0 1 j;show m3 _ _ _ _ _ _=0;omega|2,_,1,_=>have:=zx (P 0) (P 1) (P 1) 0 1 j;show m3 _ _ _ _ _ _=0;omega|3,_,0,_=>have:=wd (P 0) (P 1) (P 2) (P 0) 0 1 2 j;show m4 _ _ _ _ _ _ _ _=0;omega|3,_,1,_=>have:=zA (P 0) (P 1) (P 2) (P 1) 0 1 2 j;show m4 _ _ _ _ _ _ _ _=0;omega|3,_,2,_=>have:=zy (P 0) (P 1) (P 2) (P 2) 0 1 2 j;show m4 _ _ _ _ _ _ _ _=0;omega|4,_,0,_=>have:=Zr (P 0) (P 1) (P 2) (P 3) (P 0) 0 1 2 3 j;show m5 _ _ _ _ _ _ _ _ _ _=0;omega|4,_,1,_=>have:=Fe (P 0) (P 1) (P 2) (P 3) (P 1) 0 1 2 3 j;show m5 _ _ _ _ _ _ _ _ _ _=0;omega|4,_,2,_=>have:=Fd (P 0) (P 1) (P 2) (P 3) (P 2) 0 1 2 3 j;show m5 _ _ _ _ _ _ _ _ _ _=0;omega|4,_,3,_=>have:=Fc (P 0) (P 1) (P 2) (P 3) (P 3) 0 1 2 3 j;show m5 _ _ _ _ _ _ _ _ _ _=0;omega
def nv(P:Nat->R)(a:Nat):Nat->Int:=λj=>match a,j with|0,0=>1|1,0=>- P 0 1|1,1=>P 0 0|2,0=>m2 (P 0) (P 1) 1 2|2,1=>- m2 (P 0) (P 1) 0 2|2,2=>m2 (P 0) (P 1) 0 1|3,0=>- m3 (P 0) (P 1) (P 2) 1 2 3|3,1=>m3 (P 0) (P 1) (P 2) 0 2 3|3,2=>- m3 (P 0) (P 1) (P 2) 0 1 3|3,3=>m3 (P 0) (P 1) (P 2) 0 1 2|4,0=>m4 (P 0) (P 1) (P 2) (P 3) 1 2 3 4|4,1=>- m4 (P 0) (P 1) (P 2) (P 3) 0 2 3 4|4,2=>m4 (P 0) (P 1) (P 2) (P 3) 0 1 3 4|4,3=>- m4 (P 0) (P 1) (P 2) (P 3) 0 1 2 4|4,4=>m4 (P 0) (P 1) (P 2) (P 3) 0 1 2 3|_,_=>0
theorem Ml(P:Nat->R){a:Nat}(ha:a<=4)(h:a<j):nv P a j=0:=by
 match a,ha,j,h with
 |0,_,_+1,_=>rfl|1,_,_+2,_=>rfl|2,_,_+3,_=>rfl|3,_,_+4,_=>rfl|4,_,_+5,_=>rfl
theorem xF(P:Nat->R){a:Nat}(ha:a<=4):nv P a a=dt P a:=by
 match a,ha with
 |0,_=>rfl|1,_=>rfl|2,_=>rfl|3,_=>rfl|4,_=>rfl
theorem Hf{f:Nat->Int}{m:Nat}:∀{n:Nat},m<=n->(∀j,m<=j->f j=0)->bD f n=bD f m
 |0,h,_=>by rw[Nat.le_zero.mp h]|n+1,h,h0=>by by_cases e:m=n+1;rw[e];rw[bD,h0 n<|by omega,Int.add_zero];exact Hf (by omega) h0
theorem Mm(P:Nat->R){a:Nat}(ha:a<=4)(hn:a<n):bD (λj=>P k j*nv P a j) n=M P a k a:=by
 rw[Hf (m:=a+1) (by omega)<|λj hj=>by rw[Ml P ha<|by omega,yU]]
 match a,ha with
 |0,_=>show 0+P k 0*1=P k 0;omega|1,_=>show 0+P k 0*(- P 0 1)+P k 1*P 0 0=m2 (P 0) (P k) 0 1;unfold m2;grind|2,_=>show 0+P k 0*m2 (P 0) (P 1) 1 2+P k 1*(- m2 (P 0) (P 1) 0 2)+P k 2*m2 (P 0) (P 1) 0 1=m3 (P 0) (P 1) (P k) 0 1 2;unfold m3;grind|3,_=>show 0+P k 0*(- m3 (P 0) (P 1) (P 2) 1 2 3)+P k 1*m3 (P 0) (P 1) (P 2) 0 2 3+P k 2*(- m3 (P 0) (P 1) (P 2) 0 1 3)+P k 3*m3 (P 0) (P 1) (P 2) 0 1 2=m4 (P 0) (P 1) (P 2) (P k) 0 1 2 3;unfold m4;grind|4,_=>show 0+P k 0*m4 (P 0) (P 1) (P 2) (P 3) 1 2 3 4+P k 1*(- m4 (P 0) (P 1) (P 2) (P 3) 0 2 3 4)+P k 2*m4 (P 0) (P 1) (P 2) (P 3) 0 1 3 4+P k 3*(- m4 (P 0) (P 1) (P 2) (P 3) 0 1 2 4)+P k 4*m4 (P 0) (P 1) (P 2) (P 3) 0 1 2 3=m5 (P 0) (P 1) (P 2) (P 3) (P k) 0 1 2 3 4;unfold m5;grind
structure Br(A:Nat->R)(n a:Nat)(x:tT)(P:Nat->R):Prop where
 sm:∃b,Sm b n x.t
 l0:x.l≠0
 sgn:dt A n=x.s*dt P n
 last:x.l=dt P a
 ent:∀i,a<=i->i<n->∀j,j<n->ga (gr x.t i) j=M P a i j
 row:∀i,i<n->∃i',i'<n/\A i=P i'
theorem Mn{B:Nat->R}(h:∀l,l<k->A l=B l):dt A k=dt B k:=by
 cases k with
 |zero=>rfl|succ k=>exact Ff (λl hl=>h l<|by omega)<|h k (by omega)
theorem Mo{row here:List Int}{a:Nat}{l:Int}(hj:j<row.length):ga (jT row here a l) j=(ga row j*ga here a-ga row a*ga here j).fdiv l:=by show(jT row here a l).getD j 0=_;unfold jT;rw[aZ,cE,iU hj];rfl
theorem Br.step{a:Nat}{x y:tT}{P:Nat->R}(h:Br A n a x P)(hn:n<=5)(ha:a<n)(e:kQ a x=some y):∃P',Br A n (a+1) y P':=by
 obtain⟨b,sm⟩:=h.sm;have xl:=sm.len;unfold kQ at e;split at e;cases e;rename_i g gs eg;cases e;obtain⟨g1,g2,g3⟩:=Mj sm (g:=g) (by rw[eg];simp);have w:=Mi sm ha g2;have wl:=w.len;have swr:∀k,k<n->gr (eJ x.t a g) k=if k=g then gr x.t a else if k=a then gr x.t g else gr x.t k:=λk hk=>by unfold eJ;rw[An (by rw[dI];omega),An<|by omega]
 refine⟨sw P a g,⟨_,Mk (k:=(eJ x.t a g).length) w ha h.l0⟩,?_,?_,?_,λi hi hin j hj=>?_,λi hi=>?_⟩;show ga (gr (gY (eJ x.t a g) a (eJ x.t a g).length x.l) a) a≠0;rw[Dm<|by omega,if_neg<|by omega,Hc sm ha g2];exact g3;show dt A n=x.s*(1-2*(if g=a then 0 else 1))*dt (sw P a g) n;rw[h.sgn];by_cases e:g=a;subst e;rw[if_pos rfl,show sw P g g=P from by funext i;unfold sw;split<;>simp_all];grind;rw[if_neg e,B7 P hn (by omega:a<g) g2];grind;show ga (gr (gY (eJ x.t a g) a (eJ x.t a g).length x.l) a) a=M (sw P a g) a a a;rw[Dm<|by omega,if_neg<|by omega,Hc sm ha g2,h.ent g g1 g2 a ha];have:M (sw P a g) a a a=M (λl=>if l=g then sw P a g a else sw P a g l) a g a:=by
  have h1:∀(B:Nat->R) (k:Nat),M B k k k=M (λl=>if l=g then B k else B l) k g k->True:=λ_ _ _=>trivial
  match a,ha,g1 with
  |0,_,_=>simp[M]|1,_,_=>simp only[M];rw[if_neg<|by omega];simp|2,_,_=>simp only[M];rw[if_neg<|by omega,if_neg<|by omega];simp|3,_,_=>simp only[M];rw[if_neg<|by omega,if_neg<|by omega,if_neg<|by omega];simp|4,_,_=>simp only[M];rw[if_neg<|by omega,if_neg<|by omega,if_neg<|by omega,if_neg<|by omega];simp|_+5,h,_=>omega
 rw[this];refine Ff (λl hl=>?_) ?_;show P l=if l=g then _ else sw P a g l;unfold sw;rw[if_neg<|by omega,if_neg<|by omega,if_neg<|by omega];show P g=if g=g then sw P a g a else _;unfold sw;rw[if_pos rfl,if_pos rfl];have hai:a<i:=by omega
 have hA:∀k,a<=k->k<n->∀j,j<n->ga (gr (eJ x.t a g) k) j=M (sw P a g) a k j:=λk hk hkn j hj=>by
  have low:∀l,l<a->P l=sw P a g l:=λl hl=>by unfold sw;rw[if_neg<|by omega,if_neg<|by omega]
  have mv:∀k',a<=k'->k'<n->P k'=sw P a g k->M P a k' j=M (sw P a g) a k j:=λk' h1 h2 h3=>by
   have hh:∀(B C:Nat->R) (i i':Nat),(∀l,l<a->B l=C l)->B i=C i'->M B a i j=M C a i' j:=λB C i i' q1 q2=>by
    match a,q1 with
    |0,_=>show B i j=C i' j;rw[q2]|1,q1=>simp only[M];rw[q2,q1 0<|by omega]|2,q1=>simp only[M];rw[q2,q1 0<|by omega,q1 1<|by omega]|3,q1=>simp only[M];rw[q2,q1 0<|by omega,q1 1<|by omega,q1 2<|by omega]|4,q1=>simp only[M];rw[q2,q1 0<|by omega,q1 1<|by omega,q1 2<|by omega,q1 3<|by omega]|_+5,_=>simp only[M]
   exact hh _ _ _ _ low h3
  rw[swr k hkn];by_cases e1:k=g;subst e1;rw[if_pos rfl,h.ent a (bS _) ha j hj];refine mv a (bS _) ha ?_;unfold sw;by_cases e2:k=a;subst e2;rw[if_pos rfl];rw[if_neg e2,if_pos rfl];rw[if_neg e1];by_cases e2:k=a;subst e2;rw[if_pos rfl,h.ent g g1 g2 j hj];refine mv g g1 g2 ?_;unfold sw;rw[if_pos rfl];rw[if_neg e2,h.ent k hk hkn j hj];refine mv k hk hkn ?_;unfold sw;rw[if_neg e2,if_neg e1]
 show ga (gr (gY (eJ x.t a g) a (eJ x.t a g).length x.l) i) j=M (sw P a g) (a+1) i j;rw[Dm<|by omega,if_pos ⟨hai,by omega⟩,Mo (by rw[(w.gr hin).2.1];exact hj),hA i (by omega) hin j hj,hA a (bS _) ha a ha,hA i (by omega) hin a ha,hA a (bS _) ha j hj,<-Kn (sw P a g) (k:=a) (by omega) i j];have el:dt (sw P a g) a=x.l:=by rw[h.last];exact Mn λl hl=>by unfold sw;rw[if_neg<|by omega,if_neg<|by omega]
 rw[el];exact Int.mul_fdiv_cancel _ h.l0;obtain⟨i',h1,h2⟩:=h.row i hi;by_cases e1:i'=a;subst e1;refine⟨g,g2,?_⟩;rw[h2];unfold sw;by_cases e2:g=i';subst e2;rw[if_pos rfl];rw[if_neg e2,if_pos rfl];by_cases e2:i'=g;subst e2;refine⟨a,ha,?_⟩;rw[h2];unfold sw;rw[if_pos rfl];refine⟨i',h1,?_⟩;rw[h2];unfold sw;rw[if_neg e1,if_neg e2]
theorem Br.run{b n:Nat}{t:List (List Int)}(h:Sm b n t)(hn:n<=5):∀{a:Nat},a<=n->∀{x:tT},fK t a=some x->∃P,Br (tA t) n a x P
 |0,_,x,e=>by cases e;exact⟨tA t,⟨b,h⟩,show(1:Int)≠0 by decide,by show _=1*_;rw[ug],rfl,λi _ _ j _=>rfl,λi hi=>⟨i,hi,rfl⟩⟩
 |a+1,ha,x,e=>by
  rw[fK]at e;cases e1:fK t a with
  |none=>rw[e1]at e;cases e
  |some y=>rw[e1]at e;obtain⟨P,hP⟩:=Br.run h hn (by omega) e1;exact hP.step hn (by omega) e
theorem Hg{t:List (List Int)}:∀{n:Nat},fK t n=none->∃a x,a<n/\fK t a=some x/\l7 x.t a=[]
 |0,e=>by cases e
 |n+1,e=>by
  rw[fK]at e;cases e1:fK t n with
  |none=>obtain⟨a,x,h1,h2,h3⟩:=Hg e1;exact⟨a,x,by omega,h2,h3⟩
  |some x=>rw[e1]at e;refine⟨n,x,by omega,e1,?_⟩;have e:kQ n x=none:=e;unfold kQ at e;split at e;assumption;cases e
theorem Hh(h:Sm b n t)(hn:n<=5):(jU t=dt (tA t) n/\jU t≠0/\∃x,fK t n=some x)\/(jU t=0/\∃w:Nat->Int,(∃a,a<n/\w a≠0)/\∀i,i<n->bD (λj=>tA t i j*w j) n=0):=by
 unfold jU;rw[h.len];cases e:fK t n with
 |some x=>
  obtain⟨P,hP⟩:=Br.run h hn (bS _) e;refine .inl ⟨?_,?_,x,rfl⟩;show x.s*x.l=_;rw[hP.last,hP.sgn];show x.s*x.l≠0;refine qa ?_ hP.l0;have:∀{a:Nat} {x:tT},fK t a=some x->x.s≠0:=λ{a}=>by
   induction a with
   |zero=>intro x e;cases e;exact show(1:Int)≠0 by decide
   |succ a ih=>
    intro x e;rw[fK]at e;cases e1:fK t a with
    |none=>rw[e1]at e;cases e
    |some y=>
     rw[e1]at e;have e:kQ a y=some x:=e;unfold kQ at e;split at e
     .cases e
     .cases e
      exact qa (ih e1) (by split<;>decide)
  exact this e
 |none=>
  obtain⟨a,x,ha,ea,eg⟩:=Hg e;obtain⟨P,hP⟩:=Br.run h hn (pX ha) ea;obtain⟨b',sm⟩:=hP.sm;have xl:=sm.len;have z:∀k,k<n->M P a k a=0:=λk hk=>by
   by_cases hka:k<a;exact xE P (by omega) hka a;rw[<-hP.ent k (by omega) hk a ha];refine Classical.byContradiction λc=>?_;have:k∈l7 x.t a:=by unfold l7;refine Yag.mpr ⟨YbT.mpr ⟨k-a,Yah.mpr<|by omega,by omega⟩,by simpa using c⟩
   rw[eg]at this;cases this
  refine .inr ⟨rfl,nv P a,⟨a,ha,?_⟩,λi hi=>?_⟩;rw[xF P<|by omega,<-hP.last];exact hP.l0;obtain⟨i',h1,h2⟩:=hP.row i hi;rw[h2,Mm P (by omega) ha];exact z i' h1
theorem Ao(h:Sm b n t)(hn:n<=5):jU t=dt (tA t) n:=by
 rcases Hh h hn with⟨e,_⟩|⟨e,w,⟨a,ha,wa⟩,hw⟩
 exact e;rw[e];rcases Int.mul_eq_zero.mp (Kp (tA t) hn hw ha) with z|z
 exact z.symm;exact O5 z wa
theorem Hi(h:Sm b n t)(hn:n<=5)(e:jU t=0):∃w:Nat->Int,(∃a,a<n/\w a≠0)/\∀i,i<n->bD (λj=>tA t i j*w j) n=0:=by
 rcases Hh h hn with⟨_,z,_⟩|⟨_,hw⟩
 exact O5 e z;exact hw
end Dt
namespace B.C
theorem bd_of{x:Int}(h:x.natAbs<2^b)(hb:b<=8990):Bd x:=dG h<|mL (by decide) hb
end B.C
theorem Hj{g:WG}{E:Ex->Prop}(lo:Int)(I:Nat->cX->Prop)(n:Nat)(h:∀k,k<n->∀ρ,I k ρ->∀nx:cX->Prop,(∀ρ,I (k+1) ρ->nx ρ)->g (.int<|lo+k) ρ λρ1=>zb E { nx:=nx,rt:=N.rt,bk:=N.nx,ct:=nx } ρ1)(hn:∀ρ,I n ρ->N.nx ρ)(ρ:cX)(h0:I 0 ρ):ZbV g zb E N (rng lo n) ρ:=by
 refine Ag (λds ρ=>∃k,k<=n/\ds=(rng lo n).drop k/\I k ρ) ?_ ?_ _ ρ ⟨0,kW _,by rw[pZ],h0⟩;rintro d ds ρ ⟨k,hk,e,i⟩ nx hnx;have hlen:(rng lo n).length=n:=by unfold rng;simp
 rcases jB k n with hkn|hkn
 rw[uf<|by omega]at e;injection e with e1 e2
 have e3:d=.int (lo+k):=by rw[e1];unfold rng;simp
 rw[e3];exact h k hkn ρ i nx λρ' i'=>hnx ρ' ⟨k+1,by omega,e2,i'⟩;rw[List.drop_eq_nil_of_le<|by omega]at e;cases e;rintro ρ ⟨k,hk,e,i⟩;have hlen:(rng lo n).length=n:=by unfold rng;simp
 have:k=n:=by have:=congrArg List.length e;rw[iD,hlen]at this;simp at this;omega
 subst this;exact hn ρ i
theorem Do{α:Type}{wf:WT}{tail:cX}{Q:List D->Prop}{g:α->D}{p:α->Bool}:∀(L:List α),(∀a∈L,∀P:Bool->Prop,P (p a)->wf No (.d (g a)::tail) P)->∀(sv:SV) (acc:List D),acc.length+L.length<=aO->Q (acc++(L.filter p).map g)->lcW (gN 0) wf (wN 0) (L.map g) (sv::tail) acc Q
 |[],_,sv,acc,_,hq=>by simpa[lcW] using hq
 |a::L,h,sv,acc,hl,hq=>by
  rw[c6,lcW];show wf No (SV.d (g a)::tail) _;rw[dX]at hl;refine h a (by simp) _ ?_;cases e:p a with
  |true=>rw[if_pos rfl];refine⟨by omega,Do L (λb hb=>h b<|by simp[hb]) _ _ (by rw[d9,mh];omega) ?_⟩;rw[List.filter_cons_of_pos e,c6]at hq;rw[nZ];exact hq|false=>rw[if_neg<|by decide];refine Do L (λb hb=>h b<|by simp[hb]) _ _ (by omega) ?_;rw[List.filter_cons_of_neg (by rw[e];decide)]at hq;exact hq
namespace B.C
theorem own_by{t:WA}{E:Ex->Prop}(e:ρ.set i (.ow xs)=ρ')(ht:∀P:List D->Prop,P xs->t E ρ P)(h:N.nx ρ'):cH i t E N ρ:=ht _ (by rw[e];exact h)
theorem pub_by{E:Ex->Prop}(e:pub i ρ=ρ')(h:z E N ρ'):cM i z E N ρ:=by unfold cM;rw[e];exact h
theorem ixN_nat(h:k<n):jK n (k:Int)=some k:=by unfold jK;rw[if_pos<|by omega,if_pos<|by omega,jA]
theorem gr_map{a:Int}(hk:k<t.length)(ea:a=k):dN (t.map d7) a=some (d7<|gr t k):=by subst ea;refine bE ?_;rw[cE];unfold gr;rw[aZ,cA hk];rfl
theorem flats_nats(L:List Nat):lX (L.map λ(k:Nat)=>D.int (k:Int))=true:=by
 induction L with
 |nil=>rfl|cons a L ih=>rw[c6,lX,ih];rfl
theorem swap_by{w1 w2:WE}{E:Ex->Prop}{x:D}{k1 k2:Nat}(e:ρ[i]? = some (.ow xs))(hv:∀P:D->Prop,P (.tup [x,y])->wv E ρ P)(h1:∀P:D->Prop,P (.int k1)->w1 E ρ P)(h2:∀P:D->Prop,P (.int k2)->w2 E (ρ.set i<|.ow<|xs.set k1 x) P)
  (l1:k1<xs.length) (l2:k2<xs.length) (h:N.nx (ρ.set i<|.ow<|(xs.set k1 x).set k2 y)):uL i wv w1 w2 E N ρ:=by
 unfold uL;rw[e];exact hv _<|h1 _ ⟨k1,ixN_nat l1,h2 _ ⟨k2,ixN_nat l2,h⟩⟩
noncomputable def cutL(r:List Int)(i:Nat):List Int:=r.take i++r.drop (i+1)
def tU(t:List (List Int))(i j:Nat):List (List Int):=(t.take j++t.drop (j+1)).map λr=>cutL r i
def sgn(i j:Nat):Int:=1-2*(((i:Int)+j)%2)
theorem cut_mem{α:Type}{r:List α}{x:α}(h:x∈r.take i++r.drop (i+1)):x∈r:=by
 rcases Yap.mp h with h|h
 exact mO h;exact ly h
theorem prt_sm(h:Sm 6 n t)(hi:i<n)(hj:j<n):Sm 6 (n-1) (tU t i j):=by
 have e:=h.len;refine⟨?_,λr hr=>?_,λr hr x hx=>?_⟩;unfold tU;simp only[bQ,d9,gj,iD];omega;obtain⟨r',hr',rfl⟩:=YbT.mp hr;have:=h.row r'<|cut_mem hr';unfold cutL;simp only[d9,gj,iD];omega
 obtain⟨r',hr',rfl⟩:=YbT.mp hr;exact h.sm r' (cut_mem hr') x<|cut_mem hx
theorem sgn_one(i j:Nat):sgn i j=1\/sgn i j = -1:=by unfold sgn;omega
mutual
noncomputable def bx(b:Nat):D->Nat->Bool
 |.non,_=>true|.bl _,_=>true|.int i,_=>decide (i.natAbs<2^300)|.str x,_=>decide (x.cps.size<=4)&&x.cps.toList.all λc=>decide (c<16^8)
 |.dic,_=>true|.tup xs,n=>decide (0<n)&&decide (xs.length<=b)&&j7 b xs (n-1)|.lst xs,n=>decide (0<n)&&decide (xs.length<=b)&&j7 b xs (n-1)|.pen,_=>false|.cls _,_=>false|.exc _,_=>false|.ty _,_=>false|.scr _,_=>false
noncomputable def j7(b:Nat):List D->Nat->Bool
 |[],_=>true|x::r,n=>bx b x n&&j7 b r n
end
theorem Zlx{b:Nat}:∀{xs:List D} {n:Nat},j7 b xs n=true↔∀x∈xs,bx b x n=true
 |[],_=>by simp[j7]|x::r,n=>by rw[j7,cV,Zlx];simp
theorem Mp{i:Int}(h:i.natAbs<2^300):i.natAbs.log2<1920/\(PyData.shown<|.int i).length<=310:=by
 have hl:i.natAbs.log2<300:=by by_cases z:i.natAbs=0;rw[z];decide;exact(Nat.log2_lt z).mpr h
 refine⟨by omega,?_⟩;have a1:=int_text_length_le (k:=300) (by decide) hl;have f:(PyData.shown<|.int i).length=(toString i).length:=by rw[PyData.shown];exact PySem.ofString_length _
 rw[f];omega
mutual
theorem xG{b:Nat}(hb:1<=b):∀(x:D) (n:Nat),bx b x n=true->∃p,jp x=some p/\p.showable=true/\p.depth<=n+1/\p.leavesShort 310=true/\p.bulk<=Bk b n/\(mE x=true->p.hasDict=false)
 |.non,n,_=>⟨_,rfl,rfl,by simp[PyData.depth],rfl,by simp[PyData.bulk],λ_=>rfl⟩|.bl _,n,_=>⟨_,rfl,rfl,by simp[PyData.depth],rfl,by simp[PyData.bulk],λ_=>rfl⟩|.int i,n,h=>by rw[bx,O6]at h;obtain⟨h1,h2⟩:=Mp h;exact⟨_,rfl,by simp[PyData.showable,h1],by simp[PyData.depth],by simp[PyData.leavesShort,h2],by simp[PyData.bulk],λ_=>by simp[PyData.hasDict]⟩
 |.str x,n,h=>by rw[bx,cV,O6]at h;have:=xB hb n;exact⟨_,rfl,by simp[PyData.showable],by simp[PyData.depth],by rw[PyData.leavesShort];exact h.2,by rw[PyData.bulk];omega,λ_=>by simp[PyData.hasDict]⟩|.dic,n,h=>⟨.dict [],rfl,by simp[PyData.showable,PyData.showableKv],by simp[PyData.depth,PyData.depthKv],by simp[PyData.leavesShort,PyData.leavesShortKv],by simp[PyData.bulk,PyData.bulkKv],λz=>by rw[mE]at z;cases z⟩|.tup xs,n,h=>by rw[bx,cV,cV,O6,O6]at h;obtain⟨⟨h0,hl⟩,h⟩:=h;obtain⟨ps,e1,e2,e3,e4,e5,e6⟩:=Dp hb xs (n-1) h;refine⟨.tuple ps,by rw[jp,e1];rfl,by rw[PyData.showable];exact e2,by rw[PyData.depth];omega,by rw[PyData.leavesShort];exact e4,?_,λz=>by rw[mE]at z;rw[PyData.hasDict];exact e6 z⟩;rw[PyData.bulk];obtain⟨m,rfl⟩:∃m,n=m+1:=⟨n-1,by omega⟩;rw[Bk];exact hX e5<|p6 _ hl
 |.lst xs,n,h=>by rw[bx,cV,cV,O6,O6]at h;obtain⟨⟨h0,hl⟩,h⟩:=h;obtain⟨ps,e1,e2,e3,e4,e5,e6⟩:=Dp hb xs (n-1) h;refine⟨.list ps,by rw[jp,e1];rfl,by rw[PyData.showable];exact e2,by rw[PyData.depth];omega,by rw[PyData.leavesShort];exact e4,?_,λz=>by rw[mE]at z;rw[PyData.hasDict];exact e6 z⟩;rw[PyData.bulk];obtain⟨m,rfl⟩:∃m,n=m+1:=⟨n-1,by omega⟩;rw[Bk];exact hX e5<|p6 _ hl
 |.pen,n,h=>by rw[bx]at h;cases h
 |.cls _,n,h=>by rw[bx]at h;cases h
 |.exc _,n,h=>by rw[bx]at h;cases h
 |.ty _,n,h=>by rw[bx]at h;cases h
 |.scr _,n,h=>by rw[bx]at h;cases h
theorem Dp{b:Nat}(hb:1<=b):∀(xs:List D) (n:Nat),j7 b xs n=true->∃ps,gB xs=some ps/\PyData.showableAll ps=true/\PyData.depthAll ps<=n+1/\PyData.leavesShortAll 310 ps=true/\PyData.bulkAll ps<=xs.length*(Bk b n+1)/\(jS xs=true->PyData.hasDictAll ps=false)
 |[],n,_=>⟨[],rfl,rfl,by simp[PyData.depthAll],rfl,by simp[PyData.bulkAll],λ_=>rfl⟩|x::r,n,h=>by rw[j7,cV]at h;obtain⟨p,a1,a2,a3,a4,a5,a6⟩:=xG hb x n h.1;obtain⟨ps,b1,b2,b3,b4,b5,b6⟩:=Dp hb r n h.2;refine⟨p::ps,by rw[gB,a1,b1],by rw[PyData.showableAll,a2,b2];rfl,by rw[PyData.depthAll];omega,by rw[PyData.leavesShortAll,a4,b4];rfl,?_,λz=>?_⟩;rw[PyData.bulkAll,dX,qX];omega;rw[jS,cV]at z;rw[PyData.hasDictAll,a6 z.1,b6 z.2];rfl
end
theorem repr_bx{x:D}(h:bx b x n=true)(hd:dl x=true)(q:Q (.str<|G9 x))(hb:1<=b:=by decide)(hn:n<=20:=by decide)(hs:312*Bk b n+310<=sizeLine:=by decide):Zie [x] Q:=by
 obtain⟨p,h1,h2,h3,h4,h5,h6⟩:=xG hb x n h;unfold G9 at q;rw[h1]at q;refine⟨x,p,rfl,h1,h2,λz=>?_,by omega,?_,q⟩;unfold dl at hd;rcases Bool.or_eq_true_iff.mp hd with e|e
 exact e;rw[h6 e]at z;cases z;have:=PyData.shown_le_bulk 310 (by decide) p h4;have:(310+2)*p.bulk<=312*Bk b n:=Nat.mul_le_mul_left _ h5;omega
mutual
theorem Hk{b:Nat}:∀(x:D) {n m:Nat},n<=m->bx b x n=true->bx b x m=true
 |.non,_,_,_,h=>h|.bl _,_,_,_,h=>h|.int _,_,_,_,h=>h|.str _,_,_,_,h=>h|.dic,_,_,_,h=>h|.tup xs,n,m,l,h=>by rw[bx,cV,cV,O6,O6]at h ⊢;exact⟨⟨by omega,h.1.2⟩,Zk xs (by omega) h.2⟩|.lst xs,n,m,l,h=>by rw[bx,cV,cV,O6,O6]at h ⊢;exact⟨⟨by omega,h.1.2⟩,Zk xs (by omega) h.2⟩|.pen,n,_,_,h=>by rw[bx]at h;cases h
 |.cls _,n,_,_,h=>by rw[bx]at h;cases h
 |.exc _,n,_,_,h=>by rw[bx]at h;cases h
 |.ty _,n,_,_,h=>by rw[bx]at h;cases h
 |.scr _,n,_,_,h=>by rw[bx]at h;cases h
theorem Zk{b:Nat}:∀(xs:List D) {n m:Nat},n<=m->j7 b xs n=true->j7 b xs m=true
 |[],_,_,_,_=>by rw[j7]|x::r,n,m,l,h=>by rw[j7,cV]at h ⊢;exact⟨Hk x l h.1,Zk r l h.2⟩
end
theorem Hl(hl:xs.length<=b)(h:∀x∈xs,bx b x n=true):bx b (.tup xs) (n+1)=true:=by rw[bx,O7 hl,O7<|Nat.succ_pos n,Zlx.mpr<|by simpa using h];rfl
theorem bx_lst(hl:xs.length<=b)(h:∀x∈xs,bx b x n=true):bx b (.lst xs) (n+1)=true:=by rw[bx,O7 hl,O7<|Nat.succ_pos n,Zlx.mpr<|by simpa using h];rfl
theorem Mq(hb:2<=b)(h:Sz 223 q):bx b (aR q) (n+1)=true:=by
 unfold aR;refine Hl hb λx hx=>?_;simp only[Yao,da,or_false]at hx;have h1:q.num.natAbs<2^300:=u4 h.1 (by decide);have h2:(q.den:Int).natAbs<2^300:=u4 (by simpa using h.2) (by decide:2^223<2^300);rcases hx with rfl|rfl
 rw[bx,O7 h1];rw[bx,O7 h2]
theorem bx_rowq(hb:2<=b)(hl:r.length<=b)(h:∀x∈r,Sz 223 x):bx b (aG r) (n+2)=true:=by unfold aG;refine Hl (by simpa using hl) λx hx=>?_;obtain⟨q,hq,rfl⟩:=YbT.mp hx;exact Mq hb<|h q hq
end B.C
namespace B.C
theorem and_by{w':WE}{E:Ex->Prop}{b:Bool}(hw:∀P:D->Prop,P (.bl b)->w E ρ P){P:D->Prop}(h1:b=true->w' E ρ P)(h2:b=false->P (.bl false)):gS w w' E ρ P:=by
 refine hw _ ?_;show if b=true then _ else _;cases b with
 |true=>rw[if_pos rfl];exact h1 rfl|false=>rw[if_neg<|by decide];exact h2 rfl
theorem or_by{w:WT}{E:Ex->Prop}{b c:Bool}(hw:∀ P:Bool->Prop,P b->w E ρ P)(hw':∀ P:Bool->Prop,P c->w' E ρ P):∀ P:Bool->Prop,P (b || c)->fA w w' E ρ P:=λP h=>hw _ (by
 cases b with
 |true=>rw[if_pos rfl];exact h
 |false=>rw[if_neg<|by decide];exact hw' _ h)
theorem dl_rowq(r:List Rat):dl (aG r)=true:=by unfold dl;rw[L7];rfl
theorem bx_row(h:r.length<=7)(hs:∀x∈r,Sz 223 x):bx 7 (aG r) 3=true:=Hk _ (n:=2) (by decide)<|bx_rowq (by decide) h hs
theorem tbl_Sm(h:IsSl s n):Sm 6 n (tbl s n):=⟨j6 s n,λr hr=>(nO h r hr).1,λr hr x hx=>by
 have:=(nO h r hr).2 x hx;show x.natAbs<64;omega⟩
end B.C
def gh(s:List Int)(n:Nat)(x:D)(u:List Rat):Bool:=iy n x&&decide (bC s n (rQ x)=u)
def Dq(s:List Int)(n:Nat):D->Bool
 |.tup [a,b]=>gh s n a (cS n 0)&&gh s n b (cS n<|n-1)|_=>false
def Ap:bO:=fnS (λx:SL×D×List Rat=>[aL x.1.1,x.2.1,aG x.2.2]) (λx=>IsSl x.1.1 x.1.2/\kd x.2.1=true/\cJ 300 x.2.1=true) λx=>.bl<|gh x.1.1 x.1.2 x.2.1 x.2.2
def Hm:bO:=fnS (λx:SL×D=>[aL x.1.1,x.2]) (λx=>IsSl x.1.1 x.1.2/\kd x.2=true/\cJ 300 x.2=true) λx=>.bl<|Dq x.1.1 x.1.2 x.2
section
variable{E:Ex->Prop}{x:D}
theorem Mr(h:IsSl s n)(h1:kd x=true)(h2:cJ 300 x=true)(q:Q (.bl<|gh s n x r)):Ap [aL s,x,aG r] E Q:=⟨((s,n),x,r),rfl,⟨h,h1,h2⟩,q⟩
theorem Ms(h:IsSl s n)(h1:kd x=true)(h2:cJ 300 x=true)(q:Q (.bl<|Dq s n x)):Hm [aL s,x] E Q:=⟨((s,n),x),rfl,⟨h,h1,h2⟩,q⟩
end
theorem Hn{α:Type}[DecidableEq α]{f:α->D}(h:∀a b,j5 (f a) (f b)=decide (a=b)):∀xs ys:List α,PyData.eqvAll (hW<|xs.map f) (hW<|ys.map f)=decide (xs=ys)
 |[],[]=>by simp[hW,PyData.eqvAll]|[],_::_=>by simp[hW,PyData.eqvAll]|_::_,[]=>by simp[hW,PyData.eqvAll]|x::xs,y::ys=>by have:=h x y;unfold j5 at this;rw[c6,c6,hW,hW,PyData.eqvAll,this,Hn h xs ys,j8];simp
theorem Mt{α:Type}[DecidableEq α]{f:α->D}(h:∀a b,j5 (f a) (f b)=decide (a=b))(xs ys:List α):j5 (.tup<|xs.map f) (.tup<|ys.map f)=decide (xs=ys):=by unfold j5;rw[pd,pd,PyData.eqv,Hn h]
theorem Ho(a b:List Rat):j5 (aG a) (aG b)=decide (a=b):=Mt Mf a b
abbrev Zon:List Str:=["slants", "thing", "row"]
def Hq:WS:=(aM<|gS (wF uE<|aC (wN 0)<|aC (wN 1) aA)<|w2 (gEq false) (wF rJ<|aC (wN 0)<|aC (wN 1) aA)<|wN 2)
theorem xH(n k:Nat):(cS n k).length=n:=by unfold cS;rw[bQ,mm]
theorem Mu(n k:Nat):bW ((List.range n).map λi:Nat=>if(i:Int)=(k:Int) then(1:Int) else 0)=cS n k:=by unfold bW cS;rw[du];refine hJ λi _=>?_;show(((if(i:Int)=(k:Int) then(1:Int) else 0):Int):Rat)=_;by_cases e:i=k;rw[if_pos<|by omega,if_pos e];rfl;rw[if_neg<|by omega,if_neg e];rfl
theorem Mv:Rd Ap Hq Zon:=by
 rintro _ E Q ⟨⟨⟨s,n⟩,x,u⟩,rfl,⟨h,hk,hs⟩,q⟩;dsimp only at h hk hs q;unfold Hq;walk_at "st";refine F5 h hk ?_;walk_at "st";unfold gh at q;cases e:iy n x with
 |false=>rw[e]at q;simpa using q|true=>rw[e]at q;obtain⟨r,rfl,hr⟩:=CQ e;simp only[if_true];refine xj h (by omega) ⟨300,ZeZ.mp hs,by decide⟩<|wY (zT _ 58) (zT _ 58) ?_;simp only[ee,if_false];rw[Ho];rw[qM,p7]at q;exact q
noncomputable def bX(a:List Rat)(s:Rat)(c:List Rat):List Rat:=List.zipWith (λl r=>l-s*r) a c
noncomputable def iB(a:List Rat)(s:Rat):List Rat:=a.map λx=>x/s
noncomputable def fq:List (List Rat)->Nat->Option Nat
 |[],_=>none|r::R,p=>if r.getD p 0=0 then(fq R p).map (· + 1) else some 0
def dE(R:List (List Rat))(lead:List Rat)(p:Nat):List (List Rat):=R.map λr=>bX r (r.getD p 0) lead
structure Cl where
 ld:List (List Rat)
 pl:List Nat
 rs:List (List Rat)
def tV(R:List (List Rat))(a p:Nat):List Rat:=iB (R.getD a [])<|(R.getD a []).getD p 0
def xI(p:Nat)(x:Cl):Cl:=match fq x.rs p with|none=>x|some a=>⟨dE x.ld (tV x.rs a p) p++[tV x.rs a p],x.pl++[p],dE (x.rs.take a++x.rs.drop (a+1)) (tV x.rs a p) p⟩
def gI(R:List (List Rat)):Nat->Cl
 |0=>⟨[],[],R⟩|p+1=>xI p<|gI R p
structure Lf(b m:Nat)(row:List Rat):Prop where
 ex:∃(c:List Int) (e:Int),c.length=m/\e≠0/\e.natAbs<2^b/\(∀x∈c,x.natAbs<2^b)/\row=c.map λx=>Rat.divInt x e
theorem Lf.len(h:Lf b m row):row.length=m:=by obtain⟨c,e,h1,_,_,_,rfl⟩:=h.ex;rw[bQ];exact h1
theorem Lf.mono{b':Nat}(l:b<=b')(h:Lf b m row):Lf b' m row:=by obtain⟨c,e,h1,h2,h3,h4,h5⟩:=h.ex;have p:2^b<=2^b':=mL (by decide) l;exact⟨c,e,h1,h2,dG h3 p,λx hx=>dG (h4 x hx) p,h5⟩
theorem Lf.sz(h:Lf b m row):∀x∈row,Sz b x:=by obtain⟨c,e,h1,h2,h3,h4,rfl⟩:=h.ex;intro x hx;obtain⟨y,hy,rfl⟩:=YbT.mp hx;exact xw h2 (h4 y hy) h3
theorem Lf.int{c:List Int}(hb:0<b)(h:∀x∈c,x.natAbs<2^b):Lf b c.length (bW c):=by refine⟨c,1,rfl,by decide,?_,h,?_⟩;show 1<2^b;exact yX (by omega);unfold bW;exact hJ λx _=>by have:=uh (x:Rat);rw[yV,yW]at this;exact this.symm
theorem Dr{c e:Int}(he:e≠0):Rat.divInt c e≠0↔c≠0:=by
 constructor;rintro h rfl;exact h<|Rat.zero_divInt e
 intro h z;have e1:Rat.divInt c e*Rat.divInt e c=1:=by rw[se,n4 e c];have:=uk (n:=1) (d:=1)<|qa h he;rw[ug]at this;rw[this];rfl
 rw[z,iH]at e1;exact O5 e1 (by decide)
theorem Lf.norm(h:Lf b m row)(hp:p<m)(h0:row.getD p 0≠0):Lf b m (iB row<|row.getD p 0):=by
 obtain⟨c,e,h1,h2,h3,h4,rfl⟩:=h.ex;have hc:c[p]? = some (c.getD p 0):=by rw[aZ,cA<|by omega];rfl
 have eg:(c.map λx=>Rat.divInt x e).getD p 0=Rat.divInt (c.getD p 0) e:=by rw[aZ,cE,hc];rfl
 rw[eg]at h0 ⊢;have hc0:c.getD p 0≠0:=(Dr h2).mp h0;refine⟨c,c.getD p 0,h1,hc0,h4 _<|jz hc,h4,?_⟩;unfold iB;rw[du];refine hJ λx _=>?_;show Rat.divInt x e/(Rat.divInt (c.getD p 0) e)=Rat.divInt x (c.getD p 0);rw[ic,Rat.inv_divInt,se _ _ ,n4 e];exact uk h2
theorem Mw{w x y z:Int}(h1:w.natAbs<2^b)(h2:x.natAbs<2^b)(h3:y.natAbs<2^b)(h4:z.natAbs<2^b):(w*x-y*z).natAbs<2^(2*b+1):=by
 have m1:(w*x).natAbs<2^b*2^b:=by rw[gK];exact uj h1 h2
 have m2:(y*z).natAbs<2^b*2^b:=by rw[gK];exact uj h3 h4
 have:=Int.natAbs_sub_le (w*x)<|y*z;rw[u8,show 2*b=b+b by omega,r8];omega
theorem Lf.less(h:Lf b m row)(hq:Lf b m piv)(hp:p<m):Lf (2*b+1) m (bX row (row.getD p 0) piv):=by
 obtain⟨c,e,h1,h2,h3,h4,rfl⟩:=h.ex;obtain⟨d,f,g1,g2,g3,g4,rfl⟩:=hq.ex;have hc:c[p]? = some (c.getD p 0):=by rw[aZ,cA<|by omega];rfl
 have eg:(c.map λx=>Rat.divInt x e).getD p 0=Rat.divInt (c.getD p 0) e:=by rw[aZ,cE,hc];rfl
 rw[eg];have bc:(c.getD p 0).natAbs<2^b:=h4 _<|jz hc;refine⟨List.zipWith (λx y=>x*f-c.getD p 0*y) c d,e*f,by rw[mK];omega,qa h2 g2,?_,λz hz=>?_,?_⟩
 rw[gK,u8,show 2*b=b+b by omega,r8];have:=uj h3 g3;omega;obtain⟨i,hi,e1⟩:=YbA.mp hz;rw[sf]at e1;rw[<-e1];exact Mw (h4 _<|jC _) g3 bc<|g4 _ (jC _)
 unfold bX;rw[Bt,y6];refine congrArg (λg=>List.zipWith g c d) ?_;funext x y;rw[se,Rat.divInt_sub_divInt _ _ h2<|qa h2 g2];rw[show x*(e*f)-c.getD p 0*y*e=(x*f-c.getD p 0*y)*e by grind,n4 e<|e*f];exact(uk h2)
def bq(b:Nat):Nat->Nat
 |0=>b|k+1=>2*bq b k+1
theorem Aq{b:Nat}:∀{k k':Nat},k<=k'->bq b k<=bq b k'
 |k,0,h=>by rw[Nat.le_zero.mp h];exact bS _|k,k'+1,h=>by by_cases e:k=k'+1;rw[e];exact bS _;have:=Aq (b:=b) (k:=k) (k':=k') (by omega);rw[bq];omega
theorem Ar:∀{R:List (List Rat)} {p a:Nat},fq R p=some a->a<R.length/\(R.getD a []).getD p 0≠0
 |[],_,_,h=>nomatch h
 |r::R,p,a,h=>by
  rw[fq]at h;split at h;cases e:fq R p with
  |none=>rw[e]at h;cases h
  |some b=>
   rw[e]at h;have h':b+1=a:=by simpa using h
   subst h';obtain⟨h1,h2⟩:=Ar e;exact⟨by simpa using h1,by simpa using h2⟩
  rename_i h0;have h':0=a:=by simpa using h
  subst h';exact⟨by simp,by simpa using h0⟩
structure qP(b w p m:Nat)(x:Cl):Prop where
 ld:∀r∈x.ld,Lf (bq b p) w r
 rs:∀r∈x.rs,Lf (bq b p) w r
 ln:x.ld.length+x.rs.length=m
 pl:x.pl.length=x.ld.length
 lt:∀a∈x.pl,a<p
theorem nR{R:List (List Rat)}{a:Nat}(h:a<R.length):R.getD a []∈R:=by rw[aZ,cA h];exact jC _
theorem mem_cut{α:Type}{R:List α}{a:Nat}{r:α}(h:r∈R.take a++R.drop (a+1)):r∈R:=by
 rcases Yap.mp h with h|h
 exact mO h;exact ly h
theorem Mx{w a:Nat}{x:Cl}(h:qP b w p m x)(hp:p<w)(e:fq x.rs p=some a):Lf (bq b p) w (tV x.rs a p):=by obtain⟨h1,h2⟩:=Ar e;exact(h.rs _<|nR h1).norm hp h2
theorem My{w:Nat}{x:Cl}(h:qP b w p m x)(hp:p<w):qP b w (p+1) m (xI p x):=by
 have up:bq b p<=bq b (p+1):=Aq (by omega);unfold xI;split;exact⟨λr hr=>(h.ld r hr).mono up,λr hr=>(h.rs r hr).mono up,h.ln,h.pl,λa ha=>y8<|h.lt a ha⟩;rename_i a e;have hl:=Mx h hp e;obtain⟨h1,h2⟩:=Ar e;have ln:=h.ln;refine⟨λr hr=>?_,λr hr=>?_,?_,?_,λc hc=>?_⟩;rcases Yap.mp hr with hr|hr
 unfold dE at hr;obtain⟨r0,hr0,rfl⟩:=YbT.mp hr;exact(h.ld r0 hr0).less hl hp;rw[Ycp.mp hr];exact hl.mono up;unfold dE at hr;obtain⟨r0,hr0,rfl⟩:=YbT.mp hr;exact(h.rs r0<|mem_cut hr0).less hl hp;show(dE _ _ _++[_]).length+(dE _ _ _).length=m;unfold dE;simp only[d9,bQ,mh,gj,iD];omega;show(x.pl++[p]).length=(dE _ _ _++[_]).length;unfold dE;rw[d9,d9,bQ,h.pl];rfl;rcases Yap.mp hc with hc|hc
 exact y8<|h.lt c hc
 rw[Ycp.mp hc];exact Nat.lt_succ_self p
theorem Ds{b w:Nat}{R:List (List Rat)}(h:∀r∈R,Lf b w r):∀{p:Nat},p<=w->qP b w p R.length (gI R p)
 |0,_=>⟨(λr hr=>by cases hr),h,(by simp[gI]),rfl,(λa ha=>by cases ha)⟩|p+1,hp=>My (Ds h<|by omega) (by omega)
noncomputable def xJ(xs:List Nat):D:=.lst<|xs.map λ(k:Nat)=>D.int (k:Int)
def uM:bO:=fnS (λx:Nat×List Rat×Rat=>[aG x.2.1,aR x.2.2]) (λx=>2*x.1<8990/\x.2.1.length<=1000/\(∀y∈x.2.1,Sz x.1 y)/\Sz x.1 x.2.2/\x.2.2≠0) λx=>aG<|iB x.2.1 x.2.2
def rL:bO:=fnS (λx:(Nat×Nat×Nat)×List Rat×Rat×List Rat=>[aG x.2.1,aR x.2.2.1,aG x.2.2.2]) (λx=>x.1.1+x.1.2.1+x.1.2.2<8990/\x.2.1.length<=1000/\(∀y∈x.2.1,Sz x.1.1 y)/\Sz x.1.2.1 x.2.2.1/\∀y∈x.2.2.2,Sz x.1.2.2 y) λx=>aG<|bX x.2.1 x.2.2.1 x.2.2.2
def xK(place n:Nat)(L:List (List Rat))(pl:List Nat):List Rat:=(L.zip pl).foldl (λrow x=>row.set x.2<|0-x.1.getD place 0)<|cS n place
def e9(s:List Int)(n:Nat):List (List Rat):=(tbl s n).map bW
def dR(s:List Int)(n:Nat):Cl:=gI (e9 s n) n
def cK(s:List Int)(n:Nat):List (List Rat):=((List.range n).filter λp=>!(dR s n).pl.contains p).map λp=>xK p n (dR s n).ld (dR s n).pl
def iC(n:Nat):Nat->List (List Rat)->List (List Rat)
 |_,[]=>[]|k,r::R=>(r++cS n k)::iC n (k+1) R
def fL(s:List Int)(n:Nat):List (List Rat):=iC n 0<|e9 s n
def jq(s:List Int)(n:Nat):List (List Rat):=(gI (fL s n) n).ld.map λr=>r.drop n
section
variable{E:Ex->Prop}{x:D}{w:Nat}{t lead:List Rat}{R L:List (List Rat)}{q0:Rat}{pl:List Nat}
theorem Du(h1:2*b<8990)(h2:r.length<=1000)(h3:∀y∈r,Sz b y)(h4:Sz b q0)(h5:q0≠0)(q:Q (aG<|iB r q0)):uM [aG r,aR q0] E Q:=⟨(b,r,q0),rfl,⟨h1,h2,h3,h4,h5⟩,q⟩
theorem Mz{a c:Nat}(h0:a+b+c<8990)(h1:r.length<=1000)(h2:∀y∈r,Sz a y)(h3:Sz b q0)(h4:∀y∈t,Sz c y)(q:Q (aG<|bX r q0 t)):rL [aG r,aR q0,aG t] E Q:=⟨((a,b,c),r,q0,t),rfl,⟨h0,h1,h2,h3,h4⟩,q⟩
theorem As(h1:3*b<8990)(h2:r.length<=1000)(h3:∀y∈r,Sz b y)(h4:Sz b q0)(h5:∀y∈t,Sz b y)(q:Q (aG<|bX r q0 t)):rL [aG r,aR q0,aG t] E Q:=Mz (a:=b) (b:=b) (c:=b) (by omega) h2 h3 h4 h5 q
end
abbrev Zmr:List Str:=["row", "share"]
def Dv:WS:=(aM<|wB hV<|aC (wL<|aLC (iS<|wN 0) 1 [1] (gN 0) dC<|wF qL<|aC (wN 0)<|aC (wN 1) aA) aA)
abbrev Zjg:List Str:=["one", "share", "other"]
def Dw:WS:=(aM<|wB hV<|aC (wL<|aLC (iZ<|aC (wN 0)<|aC (wN 2) aA) 2 [1] (fg 2<|dh (gN 0)<|dh (gN 1) e8) dC<|wF tL<|aC (wN 0)<|aC (wF rG<|aC (wN 2)<|aC (wN 1) aA) aA) aA)
theorem MA:Rd uM Dv Zmr:=by rintro _ E Q ⟨⟨b,r,q0⟩,rfl,⟨h1,h2,h3,h4,h5⟩,q⟩;dsimp only at h1 h2 h3 h4 h5 q;show Dv E _ [.d<|aG r,.d<|aR q0];unfold Dv aG;walk_at "st";refine jR (g:=aR) (f:=λx:Rat=>aR<|x/q0) r (λx hx Q hq=>?_) .un [] (by simp[aO];omega) ?_;walk_at "st";exact CP (B2.of (h3 x hx) h4<|by omega) h5 hq;walk_at "st";unfold aG iB at q;rw[du]at q;exact q
theorem Hr{we:WE}{tail:cX}{Q:List D->Prop}{f:Rat->Rat->D}:∀(A C:List Rat),(∀x∈A,∀y∈C,∀Q:D->Prop,Q (f x y)->we No (.d (aR x)::.d (aR y)::tail) Q)->∀(sv sv':SV) (acc:List D),acc.length+A.length<=aO->Q (acc++List.zipWith f A C)->lcW (fg 2<|dh (gN 0)<|dh (gN 1) e8) dC we (dH (A.map aR)<|C.map aR) (sv::sv'::tail) acc Q
 |[],C,_,sv,sv',acc,_,hq=>by simpa[lcW,dH] using hq|x::A,[],_,sv,sv',acc,_,hq=>by simpa[lcW,dH] using hq
 |x::A,y::C,h,sv,sv',acc,hl,hq=>by
  have e:dH ((x::A).map aR) ((y::C).map aR)=.tup [aR x,aR y]::dH (A.map aR) (C.map aR):=by simp[dH]
  rw[e,lcW];refine⟨rfl,?_⟩;rw[dX]at hl;refine h x (by simp) y (by simp) _ ⟨by omega,Hr A C (λa ha c hc=>h a (by simp[ha]) c<|by simp[hc]) _ _ _ (by simp;omega) ?_⟩;rw[nZ];simpa using hq
theorem MB:Rd rL Dw Zjg:=by
 rintro _ E Q ⟨⟨⟨a,b,c⟩,r,q0,t⟩,rfl,⟨h1,h2,h3,h4,h5⟩,q⟩;dsimp only at h1 h2 h3 h4 h5 q;show Dw E _ [.d<|aG r,.d<|aR q0,.d<|aG t];unfold Dw aG;walk_at "st";refine Hr (f:=λx y=>aR<|x-q0*y) r t (λx hx y hy Q hq=>?_) .un .un [] (by simp[aO];omega) ?_;walk_at "st";exact FW (B2.of h4 (h5 y hy)<|by omega)<|zY (B2.of (h3 x hx) (h4.mul<|h5 y hy)<|by omega) hq
 walk_at "st";unfold aG bX at q;rw[y6]at q;exact q
theorem Hs(h:k<r.length):dN (r.map aR) (k:Int)=some (aR<|r.getD k 0):=by refine bE ?_;rw[cE,aZ,cA h];rfl
theorem uN(h:IsSl s n):∀r∈e9 s n,Lf 6 n r:=λr hr=>by
 unfold e9 at hr;obtain⟨t,ht,rfl⟩:=YbT.mp hr;obtain⟨h1,h2⟩:=nO h t ht;have:=Lf.int (b:=6) (c:=t) (by decide) λx hx=>by have:=h2 x hx;show _<64;omega
 rw[h1]at this;exact this
theorem pR:(e9 s n).length=n:=by unfold e9;rw[bQ,j6]
theorem MC(h:n<=5):bq 6 n<=223:=by
 have:=Aq (b:=6) h;have e:bq 6 5=223:=by decide
 omega
def dj(place:Nat):List (List Rat)->List Nat->List Rat->List Rat
 |l::L,a::pl,row=>dj place L pl<|row.set a (0-l.getD place 0)
 |_,_,row=>row
theorem Ht(place:Nat):∀(L:List (List Rat)) (pl:List Nat) (row:List Rat),(L.zip pl).foldl (λrow x=>row.set x.2<|0-x.1.getD place 0) row=dj place L pl row
 |[],_,_=>by simp[dj]|_::_,[],_=>by simp[dj]|l::L,a::pl,row=>by rw[List.zip_cons_cons,List.foldl_cons,dj];exact Ht place L pl _
theorem Hu(n:Nat):∀(R:List (List Rat)) (k:Nat),(iC n k R).length=R.length
 |[],_=>rfl|r::R,k=>by rw[iC,dX,Hu n R<|k+1];rfl
theorem MD(n k:Nat):∃c:List Int,cS n k=bW c/\c.length=n/\∀x∈c,x.natAbs<2^6:=by refine⟨(List.range n).map λi:Nat=>if(i:Int)=(k:Int) then(1:Int) else 0,(Mu n k).symm,by simp,λx hx=>?_⟩;obtain⟨i,_,rfl⟩:=YbT.mp hx;split<;>decide
theorem Hv{n m:Nat}:∀(T:List (List Int)) (k:Nat),(∀r∈T,r.length=m/\∀x∈r,x.natAbs<2^6)->∀r∈iC n k (T.map bW),Lf 6 (m+n) r
 |[],_,_,r,hr=>nomatch hr
 |t::T,k,h,r,hr=>by
  rw[c6,iC]at hr;rcases Yao.mp hr with rfl|hr
  obtain⟨c,e,cl,cb⟩:=MD n k;obtain⟨t1,t2⟩:=h t (by simp);have:=Lf.int (b:=6) (c:=t++c) (by decide) λx hx=>by
   rcases Yap.mp hx with hx|hx
   exact t2 x hx;exact cb x hx
  rw[d9,t1,cl]at this;rw[e];unfold bW at this ⊢;rw[gL]at this;exact this;exact Hv T (k+1) (λr hr=>h r<|by simp[hr]) r hr
theorem Hw(h:IsSl s n):∀r∈fL s n,Lf 6 (n+n) r:=by unfold fL e9;refine Hv _ _ λr hr=>?_;obtain⟨h1,h2⟩:=nO h r hr;exact⟨h1,λx hx=>by have:=h2 x hx;show _<64;omega⟩
theorem At(s:List Int)(n:Nat):(fL s n).length=n:=by unfold fL;rw[Hu,pR]
theorem ME(h:IsSl s n):(∀r∈jq s n,r.length=n/\∀y∈r,Sz 223 y)/\(jq s n).length<=n:=by have ok:=Ds (Hw h) (p:=n) (by omega);have l:=ok.ln;rw[At]at l;have n5:=h.n5;unfold jq;refine⟨λr hr=>?_,by rw[bQ];omega⟩;obtain⟨t,ht,rfl⟩:=YbT.mp hr;refine⟨by rw[iD,(ok.ld t ht).len];omega,λy hy=>((ok.ld t ht).sz y<|ly hy).mono<|MC n5⟩
theorem Dx(h:p<n):(r.take n).getD p 0=r.getD p 0:=by rw[aZ,aZ,vd,if_pos h]
theorem Hx{n p:Nat}(h:p<n):∀R:List (List Rat),fq (R.map<|List.take n) p=fq R p
 |[]=>rfl|r::R=>by rw[c6,fq,fq,Dx h,Hx h R]
theorem MF(a c:List Rat)(q:Rat)(n:Nat):bX (a.take n) q (c.take n)=(bX a q c).take n:=by unfold bX;rw[List.take_zipWith]
theorem Hy(h:p<n)(R:List (List Rat))(c:List Rat):dE (R.map<|List.take n) (c.take n) p=(dE R c p).map (List.take n):=by unfold dE;rw[du,du];refine hJ λr _=>?_;show bX (r.take n) ((r.take n).getD p 0) (c.take n)=(bX r (r.getD p 0) c).take n;rw[Dx h,MF]
theorem MG(R:List (List Rat))(a n:Nat):(R.map<|List.take n).getD a []=(R.getD a []).take n:=by
 rw[aZ,aZ,cE];cases R[a]? with
 |none=>simp|some r=>rfl
theorem MH(h:p<n)(R:List (List Rat))(a:Nat):tV (R.map<|List.take n) a p=(tV R a p).take n:=by unfold tV;rw[MG,Dx h];unfold iB;rw[mj]
theorem Hz{n:Nat}(A:List (List Rat)):∀p:Nat,p<=n->(gI (A.map<|List.take n) p).ld=(gI A p).ld.map (List.take n)/\(gI (A.map<|List.take n) p).pl=(gI A p).pl/\(gI (A.map<|List.take n) p).rs=(gI A p).rs.map (List.take n)
 |0,_=>⟨rfl,rfl,rfl⟩
 |p+1,h=>by
  obtain⟨h1,h2,h3⟩:=Hz (n:=n) A p (by omega);rw[gI,gI];generalize gI (A.map<|List.take n) p=y at h1 h2 h3;generalize gI A p=x at h1 h2 h3;obtain⟨yl,yp,yr⟩:=y;try dsimp only at h1 h2 h3
  subst h1 h2 h3;unfold xI;dsimp only;have hp:p<n:=by omega
  rw[Hx hp];cases e:fq x.rs p with
  |none=>exact⟨rfl,rfl,rfl⟩|some a=>dsimp only;rw[MH hp,Hy hp,<-mj,<-p9,<-gL,Hy hp,gL];exact⟨rfl,rfl,rfl⟩
theorem HB{n:Nat}:∀(R:List (List Rat)) (k:Nat),(∀r∈R,r.length=n)->(iC n k R).map (List.take n)=R
 |[],_,_=>rfl|r::R,k,h=>by rw[iC,c6,HB R (k+1)<|λx hx=>h x<|by simp[hx],<-h r (by simp),List.take_left'];rfl
theorem MI(h:IsSl s n):(fL s n).map (List.take n)=e9 s n:=HB _ _ λr hr=>(uN h r hr).len
def aS(f:Nat->Rat):Nat->Rat
 |0=>0|n+1=>aS f n+f n
theorem dS{f g:Nat->Rat}:∀{n:Nat},(∀i,i<n->f i=g i)->aS f n=aS g n
 |0,_=>rfl|n+1,h=>by rw[aS,aS,dS<|λi hi=>h i<|by omega,h n<|by omega]
theorem qQ{f:Nat->Rat}:∀{n:Nat},(∀i,i<n->f i=0)->aS f n=0
 |0,_=>rfl|n+1,h=>by rw[aS,qQ<|λi hi=>h i<|by omega,h n<|by omega,p8]
theorem mF{f:Nat->Rat}{k:Nat}:∀{n:Nat},k<n->(∀i,i<n->i≠k->f i=0)->aS f n=f k
 |0,h,_=>by omega|n+1,h,h0=>by rw[aS];by_cases e:k=n;subst e;rw[qQ<|λi hi=>h0 i (by omega)<|by omega,Rat.zero_add];rw[mF (k:=k) (by omega)<|λi hi hk=>h0 i (by omega) hk,h0 n (by omega)<|Pa e,p8]
theorem rM(f g:Nat->Rat):∀n:Nat,aS (λi=>f i-g i) n=aS f n-aS g n
 |0=>by simp only[aS];grind|n+1=>by rw[aS,aS,aS,rM f g n];grind
theorem Dy(f:Nat->Rat):∀n:Nat,aS f (n+1)=f 0+aS (λi=>f<|i+1) n
 |0=>by simp only[aS];grind|n+1=>by rw[aS,Dy f n,aS];grind
theorem qR:∀(r x:List Rat) (n:Nat),r.length=n->x.length=n->c7 r x=aS (λj=>r.getD j 0*x.getD j 0) n
 |[],[],_,h,_=>by subst h;rfl|[],_::_,n,h,h'=>by simp at h h';omega|_::_,[],n,h,h'=>by simp at h h';omega|a::r,y::x,n,h,h'=>by subst h;rw[c7,qR r x r.length rfl<|by simpa using h',dX,Dy];rfl
theorem MJ{x:List Rat}(hr:r.length=n)(hx:x.length=n):c7 (iB r q) x=c7 r x/q:=by
 clear hr hx;unfold iB;induction r generalizing x with
 |nil=>show(0:Rat)=0/q;rw[ic,iH]
 |cons a r ih=>
  cases x with
  |nil=>show(0:Rat)=0/q;rw[ic,iH]
  |cons y x=>
   rw[c6,c7,c7,ih,ic,ic,ic];grind
theorem Au{c x:List Rat}(h:r.length=c.length):c7 (bX r q c) x=c7 r x-q*c7 c x:=by
 unfold bX;induction r generalizing c x with
 |nil=>
  cases c with
  |nil=>show(0:Rat)=0-q*0;grind|cons _ _=>simp at h
 |cons a r ih=>
  cases c with
  |nil=>simp at h
  |cons b c=>
   cases x with
   |nil=>show(0:Rat)=0-q*0;grind
   |cons y x=>
    rw[List.zipWith_cons_cons,c7,c7,c7,ih<|by simpa using h];grind
theorem MK(hr:r.length=n)(hk:k<n):c7 r (cS n k)=r.getD k 0:=by rw[qR r (cS n k) n hr<|xH n k,mF hk];rw[unit_at' hk,if_pos rfl,qY];intro i hi e;rw[unit_at' hi,if_neg e,jE]
where
 unit_at' {n k i:Nat} (hi:i<n):(cS n k).getD i 0=if i=k then 1 else 0:=by unfold cS;rw[aZ,cE,iU hi];rfl
theorem Av(hi:i<n):(cS n k).getD i 0=if i=k then 1 else 0:=by unfold cS;rw[aZ,cE,iU hi];rfl
theorem Aw{x:List Rat}{a:Nat}{v:Rat}(ha:a<x.length):(x.set a v).getD i 0=if i=a then v else x.getD i 0:=by rw[aZ,Bq,aZ];by_cases e:a=i;subst e;rw[if_pos rfl,if_pos rfl,if_pos ha];rfl;rw[if_neg e,if_neg<|Pa e]
theorem ML{x:List Rat}{a:Nat}{v:Rat}(hr:r.length=n)(hx:x.length=n)(ha:a<n)(h0:x.getD a 0=0):c7 r (x.set a v)=c7 r x+r.getD a 0*v:=by
 rw[qR r _ n hr (by rw[dI];exact hx),qR r x n hr hx];have:aS (λj=>r.getD j 0*(x.set a v).getD j 0-r.getD j 0*x.getD j 0) n=r.getD a 0*v:=by rw[mF ha];rw[Aw<|by omega,if_pos rfl,h0,jE];grind;intro i hi e;rw[Aw<|by omega,if_neg e];grind
 rw[rM]at this;grind
structure Ec(n:Nat)(R:List (List Rat))(p:Nat)(ld:List (List Rat))(pl:List Nat)(rs:List (List Rat)):Prop where
 wl:∀r∈ld,r.length=n
 ws:∀r∈rs,r.length=n
 ll:ld.length=pl.length
 nul:∀x:List Rat,x.length=n->((∀r∈R,c7 r x=0)↔(∀r∈ld,c7 r x=0)/\∀r∈rs,c7 r x=0)
 lt:∀a∈pl,a<p
 asc:pl.Pairwise (· < ·)
 one:∀i j,i<ld.length->j<pl.length->(ld.getD i []).getD (pl.getD j 0) 0=if i=j then 1 else 0
 low:∀i,i<ld.length->∀q,q<pl.getD i 0->(ld.getD i []).getD q 0=0
 zer:∀r∈rs,∀q,q<p->r.getD q 0=0
theorem Ec.start{R:List (List Rat)}(h:∀r∈R,r.length=n):Ec n R 0 [] [] R:=⟨by simp,h,rfl,λx _=>by simp,by simp,.nil,λi j hi=>by simp at hi,λi hi=>by simp at hi,λr _ q hq=>by omega⟩
theorem Ec.skip{R:List (List Rat)}{pl:List Nat}(h:Ec n R p ld pl rs)(h0:∀r∈rs,r.getD p 0=0):Ec n R (p+1) ld pl rs:=
 ⟨h.wl,h.ws,h.ll,h.nul,λa ha=>y8<|h.lt a ha,h.asc,h.one,h.low,λr hr q hq=>by
  by_cases e:q=p
  .rw[e];exact h0 r hr
  .exact h.zer r hr q<|by omega⟩
theorem Ec.pivot{R rs1 rs2:List (List Rat)}{pl:List Nat}{lead:List Rat}(h:Ec n R p ld pl rs)(hp:p<n)(hr0:r.getD p 0≠0)(hrs:∀t,t∈rs↔t=r\/t∈rs1)(hld:lead=iB r (r.getD p 0))(h2:∀t,t∈rs2↔∃u∈rs1,t=bX u (u.getD p 0) lead):Ec n R (p+1) (dE ld lead p++[lead]) (pl++[p]) rs2:=by
 have rr:r∈rs:=(hrs r).mpr<|.inl rfl;have rl:=h.ws r rr;have ll:lead.length=n:=by rw[hld];unfold iB;rw[bQ];exact rl
 have lat:∀j,lead.getD j 0=r.getD j 0/r.getD p 0:=λj=>by
  rw[hld];unfold iB;rw[aZ,cE,aZ (i:=j)];cases r[j]? with
  |none=>show(0:Rat)=0/_;rw[ic,iH]|some x=>rfl
 have lp:lead.getD p 0=1:=by rw[lat,ic,y9 _ hr0]
 have lz:∀q,q<p->lead.getD q 0=0:=λq hq=>by rw[lat,h.zer r rr q hq,ic,iH]
 have lesL:∀(u:List Rat) (z:Rat),u.length=n->(bX u z lead).length=n:=λu z hu=>by unfold bX;rw[mK];omega
 have lesA:∀(u:List Rat) (z:Rat) (j:Nat),u.length=n->(bX u z lead).getD j 0=u.getD j 0-z*lead.getD j 0:=λu z j hu=>by unfold bX;simp only[aZ];by_cases hj:j<n;rw[cA (by rw[mK];omega),cA<|by omega,cA<|by omega,sf];rfl;rw[eL (by rw[mK];omega),eL<|by omega,eL<|by omega];show(0:Rat)=0-z*0;grind
 have wlen:(dE ld lead p).length=ld.length:=by unfold dE;rw[bQ]
 have wat:∀i,i<ld.length->(dE ld lead p++[lead]).getD i []=bX (ld.getD i []) ((ld.getD i []).getD p 0) lead:=λi hi=>by rw[aZ,j9<|by omega];unfold dE;rw[cE,aZ,cA hi];rfl
 have wlast:(dE ld lead p++[lead]).getD ld.length []=lead:=by rw[aZ,jY<|by omega,wlen,vc];rfl
 have plat:∀i,i<pl.length->(pl++[p]).getD i 0=pl.getD i 0:=λi hi=>by rw[aZ,j9 hi,aZ]
 have plast:(pl++[p]).getD pl.length 0=p:=by rw[aZ,jY<|bS _,vc];rfl
 have plt:∀i,i<pl.length->pl.getD i 0<p:=λi hi=>by rw[aZ,cA hi];exact h.lt _<|jC _
 have ldm:∀i,i<ld.length->ld.getD i []∈ld:=λi hi=>nR hi;have hll:=h.ll;refine⟨λt ht=>?_,λt ht=>?_,?_,λx hx=>?_,λa ha=>?_,?_,λi j hi hj=>?_,λi hi q hq=>?_,λt ht q hq=>?_⟩;rcases Yap.mp ht with ht|ht
 unfold dE at ht;obtain⟨u,hu,rfl⟩:=YbT.mp ht;exact lesL u _<|h.wl u hu
 rw[Ycp.mp ht];exact ll;obtain⟨u,hu,rfl⟩:=(h2 t).mp ht;exact lesL u _<|h.ws u ((hrs u).mpr<|.inr hu)
 rw[d9,d9,wlen,hll];rfl;rw[h.nul x hx];have dl:c7 lead x=c7 r x/r.getD p 0:=by rw[hld];exact MJ rl hx
 constructor;rintro⟨g1,g2⟩;have z:c7 lead x=0:=by rw[dl,g2 r rr,ic,iH]
 refine⟨λt ht=>?_,λt ht=>?_⟩;rcases Yap.mp ht with ht|ht
 unfold dE at ht;obtain⟨u,hu,rfl⟩:=YbT.mp ht;rw[Au<|by rw[h.wl u hu,ll],g1 u hu,z];grind;rw[Ycp.mp ht];exact z;obtain⟨u,hu,rfl⟩:=(h2 t).mp ht;have hu':=(hrs u).mpr<|.inr hu;rw[Au<|by rw[h.ws u hu',ll],g2 u hu',z];grind
 rintro⟨g1,g2⟩;have z:c7 lead x=0:=g1 lead (by simp);have zr:c7 r x=0:=by
  rw[dl,ic]at z;have:c7 r x*(r.getD p 0)⁻¹*r.getD p 0=0:=by rw[z,iH]
  rw[Rat.mul_assoc,qZ _ hr0,qY]at this;exact this
 refine⟨λt ht=>?_,λt ht=>?_⟩;have:=g1 (bX t (t.getD p 0) lead) (Yap.mpr<|.inl (by unfold dE;exact List.mem_map_of_mem (f:=λr=>bX r (r.getD p 0) lead) ht));rw[Au<|by rw[h.wl t ht,ll],z]at this;grind;rcases(hrs t).mp ht with rfl|hu
 exact zr;have:=g2 (bX t (t.getD p 0) lead) ((h2 _).mpr ⟨t,hu,rfl⟩);rw[Au<|by rw[h.ws t ht,ll],z]at this;grind;rcases Yap.mp ha with ha|ha
 exact y8<|h.lt a ha
 rw[Ycp.mp ha];exact Nat.lt_succ_self p;refine List.pairwise_append.mpr ⟨h.asc,by simp,λa ha b hb=>?_⟩;rw[Ycp.mp hb];exact h.lt a ha;rw[d9,wlen,mh]at hi;rw[d9,mh]at hj;by_cases hi':i<ld.length;have hw:=h.wl _ (ldm i hi');rw[wat i hi',lesA _ _ _ hw];by_cases hj':j<pl.length;rw[plat j hj',h.one i j hi' hj',lz _<|plt j hj'];grind;obtain rfl:j=pl.length:=by omega
 rw[plast,lp,if_neg<|by omega];grind;obtain rfl:i=ld.length:=by omega
 rw[wlast];by_cases hj':j<pl.length;rw[plat j hj',lz _<|plt j hj',if_neg<|by omega];obtain rfl:j=pl.length:=by omega
 rw[plast,lp,if_pos hll];rw[d9,wlen,mh]at hi;by_cases hi':i<ld.length;have hw:=h.wl _ (ldm i hi');rw[plat i<|by omega]at hq;rw[wat i hi',lesA _ _ _ hw,h.low i hi' q hq,lz q (by have:=plt i (by omega);omega)];grind;obtain rfl:i=ld.length:=by omega
 rw[hll,plast]at hq;rw[wlast];exact lz q hq;obtain⟨u,hu,rfl⟩:=(h2 t).mp ht;have hu':=(hrs u).mpr<|.inr hu;rw[lesA _ _ _<|h.ws u hu']
 by_cases e:q=p;rw[e,lp];grind;rw[h.zer u hu' q<|by omega,lz q<|by omega];grind
def gD(r:List Rat)(q:Nat):List (List Rat)->List Nat->Rat
 |l::L,a::P=>r.getD a 0*l.getD q 0+gD r q L P|_,_=>0
theorem HC(q:Nat):∀(L:List (List Rat)) (P:List Nat) (row:List Rat),(dj q L P row).length=row.length
 |[],_,_=>by simp[dj]|_::_,[],_=>by simp[dj]|l::L,a::P,row=>by rw[dj,HC q L P,dI]
theorem Dz{q t:Nat}:∀(L:List (List Rat)) (P:List Nat) (row:List Rat),(∀a∈P,a<row.length)->t∉P->(dj q L P row).getD t 0=row.getD t 0
 |[],_,_,_,_=>by simp[dj]|_::_,[],_,_,_=>by simp[dj]|l::L,a::P,row,h,ht=>by rw[dj,Dz L P _ (λb hb=>by rw[dI];exact h b<|by simp[hb])<|λhb=>ht<|by simp[hb],Aw<|h a<|by simp,if_neg<|λe=>ht<|by simp[e]]
theorem HD{r:List Rat}{q n:Nat}(hr:r.length=n):∀(L:List (List Rat)) (P:List Nat) (row:List Rat),row.length=n->(∀a∈P,a<n)->P.Pairwise (· < ·)->(∀a∈P,row.getD a 0=0)->c7 r (dj q L P row)=c7 r row-gD r q L P
 |[],_,row,_,_,_,_=>by simp only[dj,gD];grind|_::_,[],row,_,_,_,_=>by simp only[dj,gD];grind
 |l::L,a::P,row,hw,hn,ha,h0=>by
  obtain⟨h1,h2⟩:=YcS.mp ha;rw [dj,HD hr L P _ (by rw [dI];exact hw) (λb hb=>hn b<|by simp [hb]) h2 (λb hb=>by
   rw[Aw (by rw[hw];exact hn a<|by simp),if_neg (by have:=h1 b hb;omega)];exact h0 b<|by simp[hb]),ML hr hw (hn a<|by simp)<|h0 a<|by simp,gD]
  grind
theorem HE{r:List Rat}{q:Nat}:∀(L:List (List Rat)) (P:List Nat),(∀j,j<P.length->j<L.length->r.getD (P.getD j 0) 0*(L.getD j []).getD q 0=0)->gD r q L P=0
 |[],_,_=>by simp[gD]|_::_,[],_=>by simp[gD]|l::L,a::P,h=>by rw[gD,HE L P<|λj h1 h2=>by simpa using h (j+1) (by simpa using h1) (by simpa using h2)];have:=h 0 (by simp) (by simp);rw[ve,ve]at this;rw[this,p8]
theorem HF{r:List Rat}{q:Nat}:∀(L:List (List Rat)) (P:List Nat) (i:Nat),i<L.length->L.length=P.length->(∀j,j<P.length->r.getD (P.getD j 0) 0=if i=j then 1 else 0)->gD r q L P=(L.getD i []).getD q 0
 |[],_,i,hi,_,_=>by simp at hi|_::_,[],i,_,hl,_=>by simp at hl
 |l::L,a::P,0,hi,hl,h=>by
  have h0:=h 0 (by simp);rw[ve,if_pos rfl]at h0;rw [gD,h0,HE L P (λj h1 h2=>by
   have:=h (j+1) (by simpa using h1);rw[um,if_neg<|by omega]at this;rw[this,iH]),ve]
  grind
 |l::L,a::P,i+1,hi,hl,h=>by
  have h0:=h 0 (by simp);rw[ve,if_neg<|by omega]at h0;rw [gD,h0,HF L P i (by simpa using hi) (by simpa using hl) (λj hj=>by
   have:=h (j+1) (by simpa using hj);rw[um]at this;rw[this]
   by_cases e:i=j
   .rw[if_pos e,if_pos<|by omega]
   .rw[if_neg e,if_neg<|by omega]),um]
  grind
theorem Ec.free{q:Nat}{R:List (List Rat)}{pl:List Nat}(h:Ec n R n ld pl rs)(hq:q<n)(hn:q∉pl):(dj q ld pl<|cS n q).length=n/\∀r∈R,c7 r (dj q ld pl<|cS n q)=0:=by
 have l:(dj q ld pl<|cS n q).length=n:=by rw[HC,xH]
 have z0:∀a∈pl,(cS n q).getD a 0=0:=λa ha=>by rw[Av<|h.lt a ha,if_neg (show¬a=q from λe=>hn (by rw[<-e];exact ha))]
 refine⟨l,(h.nul _ l).mpr ⟨λr hr=>?_,λr hr=>?_⟩⟩;obtain⟨i,hi,e⟩:=YbA.mp hr;have e':ld.getD i []=r:=by rw[aZ,cA hi];exact e
 rw[HD (h.wl r hr) ld pl _ (xH n q) h.lt h.asc z0,MK (h.wl r hr) hq,HF ld pl i hi h.ll (λj hj=>by rw[<-e'];exact h.one i j hi hj),e'];grind;rw[qR r _ n (h.ws r hr) l];exact qQ λj hj=>by rw[h.zer r hr j hj,iH]
theorem DA:∀{a b:List Nat},a.Pairwise (· < ·)->b.Pairwise (· < ·)->(∀x,x∈a↔x∈b)->a=b
 |[],[],_,_,_=>rfl|[],y::b,_,_,h=>by have:=(h y).mpr (by simp);simp at this|x::a,[],_,_,h=>by have:=(h x).mp (by simp);simp at this
 |x::a,y::b,ha,hb,h=>by
  obtain⟨a1,a2⟩:=YcS.mp ha;obtain⟨b1,b2⟩:=YcS.mp hb;have hx:=(h x).mp (by simp);have hy:=(h y).mpr (by simp);have e:x=y:=by
   rcases Yao.mp hx with e|hx
   exact e;rcases Yao.mp hy with e|hy
   exact e.symm;have:=a1 y hy;have:=b1 x hx;omega
  subst e;rw[DA a2 b2 λz=>?_];constructor;intro hz;rcases Yao.mp ((h z).mp<|by simp[hz]) with e|e
  have:=a1 z hz;omega;exact e;intro hz;rcases Yao.mp ((h z).mpr<|by simp[hz]) with e|e
  have:=b1 z hz;omega;exact e
theorem HG:∀{R:List (List Rat)} {p:Nat},fq R p=none->∀r∈R,r.getD p 0=0
 |[],_,_,r,hr=>by cases hr
 |t::R,p,h,r,hr=>by
  rw[fq]at h;by_cases e:t.getD p 0=0;rw[if_pos e]at h;rcases Yao.mp hr with rfl|hr
  exact e;exact HG (by cases e2:fq R p with
   |none=>rfl
   |some a=>rw[e2]at h;cases h) r hr
  rw[if_neg e]at h;cases h
theorem MM{R:List (List Rat)}{a:Nat}(h:a<R.length)(t:List Rat):t∈R↔t=R.getD a []\/t∈R.take a++R.drop (a+1):=by
 have e:R=R.take a++R.getD a []::R.drop (a+1):=by
  conv=>lhs;rw[<-List.take_append_drop a R]
  rw[uf h,aZ,cA h];rfl
 conv=>lhs;rw[e]
 simp only[Yap,Yao];constructor;rintro(h|h|h);exact .inr<|.inl h
 exact .inl h;exact .inr<|.inr h
 rintro(h|h|h);exact .inr<|.inl h
 exact .inl h;exact .inr<|.inr h
theorem xL{n:Nat}{R:List (List Rat)}(hR:∀r∈R,r.length=n):∀p,p<=n->Ec n R p (gI R p).ld (gI R p).pl (gI R p).rs
 |0,_=>Ec.start hR
 |p+1,hp=>by
  have ih:=xL hR p (by omega);rw[gI];generalize gI R p=x at ih;unfold xI;cases e:fq x.rs p with
  |none=>exact ih.skip<|HG e
  |some a=>obtain⟨a1,a2⟩:=Ar e;exact ih.pivot (r:=x.rs.getD a []) (rs1:=x.rs.take a++x.rs.drop (a+1)) (by omega) a2 (MM a1) rfl λt=>by unfold dE;rw[YbT];constructor;rintro⟨u,hu,rfl⟩;exact⟨u,hu,rfl⟩;rintro⟨u,hu,rfl⟩;exact⟨u,hu,rfl⟩
namespace Dt
open B.C
theorem HH(f g:Nat->Rat):∀n:Nat,aS (λi=>f i+g i) n=aS f n+aS g n
 |0=>by simp only[aS];grind|n+1=>by rw[aS,aS,aS,HH f g n];grind
theorem gZ(f:Nat->Rat)(c:Rat):∀n:Nat,aS (λi=>c*f i) n=c*aS f n
 |0=>by simp only[aS];grind|n+1=>by rw[aS,aS,gZ f c n];grind
theorem xM(f:Nat->Nat->Rat)(m:Nat):∀n:Nat,aS (λi=>aS (λj=>f i j) m) n=aS (λj=>aS (λi=>f i j) n) m
 |0=>by rw[aS];exact(qQ λ_ _=>rfl).symm|n+1=>by rw[aS,xM f m n,<-HH];rfl
theorem tW(f:Nat->Int):∀n:Nat,aS (λi=>((f i:Int):Rat)) n=((bD f n:Int):Rat)
 |0=>rfl|n+1=>by rw[aS,bD,tW f n,Rat.intCast_add]
theorem HI(A:Nat->R)(hn:n<=5){w:Nat->Rat}(h:∀i,i<n->aS (λj=>(A i j:Rat)*w j) n=0)(hj:j<n):(dt A n:Rat)*w j=0:=by
 have e:aS (λk=>(gp A n k j:Rat)*aS (λl=>(A k l:Rat)*w l) n) n=(dt A n:Rat)*w j:=by
  rw[dS (g:=λk=>aS (λl=>(gp A n k j:Rat)*((A k l:Rat)*w l)) n)<|λk _=>(gZ _ _ n).symm,xM];rw [dS (g:=λl=>w l*((bD (λk=>A k l*gp A n k j) n:Int):Rat)) (λl _=>by
   rw[<-tW,<-gZ];exact dS λk _=>by rw[uo];grind)]
  rw[mF (k:=j) hj (λi hi ne=>by rw[wO A hn hi hj,if_neg ne];exact jE _),wO A hn hj hj,if_pos rfl,uq]
 rw[<-e];exact qQ λk hk=>by rw[h k hk,jE]
theorem xN{B:Nat->R}(h:∀l,l<k->∀c,c<k\/c=j->A l c=B l c)(hi:∀c,c<k\/c=j->A i c=B i c):M A k i j=M B k i j:=by
 match k with
 |0=>exact hi j<|.inr rfl
 |1=>simp only[M,m2];rw[h 0 (by omega) 0<|by omega,h 0 (by omega) j<|by omega,hi 0<|by omega,hi j<|by omega]|2=>simp only[M,m3,m2];rw[h 0 (by omega) 0<|by omega,h 0 (by omega) 1<|by omega,h 0 (by omega) j<|by omega,h 1 (by omega) 0<|by omega,h 1 (by omega) 1<|by omega,h 1 (by omega) j<|by omega,hi 0<|by omega,hi 1<|by omega,hi j<|by omega]|3=>simp only[M,m4,m3,m2];rw[h 0 (by omega) 0<|by omega,h 0 (by omega) 1<|by omega,h 0 (by omega) 2<|by omega,h 0 (by omega) j<|by omega,h 1 (by omega) 0<|by omega,h 1 (by omega) 1<|by omega,h 1 (by omega) 2<|by omega,h 1 (by omega) j<|by omega,h 2 (by omega) 0<|by omega,h 2 (by omega) 1<|by omega,h 2 (by omega) 2<|by omega,h 2 (by omega) j<|by omega,hi 0<|by omega,hi 1<|by omega,hi 2<|by omega,hi j<|by omega]|4=>simp only[M,m5,m4,m3,m2];rw[h 0 (by omega) 0<|by omega,h 0 (by omega) 1<|by omega,h 0 (by omega) 2<|by omega,h 0 (by omega) 3<|by omega,h 0 (by omega) j<|by omega,h 1 (by omega) 0<|by omega,h 1 (by omega) 1<|by omega,h 1 (by omega) 2<|by omega,h 1 (by omega) 3<|by omega,h 1 (by omega) j<|by omega,h 2 (by omega) 0<|by omega,h 2 (by omega) 1<|by omega,h 2 (by omega) 2<|by omega,h 2 (by omega) 3<|by omega,h 2 (by omega) j<|by omega,h 3 (by omega) 0<|by omega,h 3 (by omega) 1<|by omega,h 3 (by omega) 2<|by omega,h 3 (by omega) 3<|by omega,h 3 (by omega) j<|by omega,hi 0<|by omega,hi 1<|by omega,hi 2<|by omega,hi 3<|by omega,hi j<|by omega]|_+5=>rfl
theorem DB{B:Nat->R}(h:∀i,i<n->∀j,j<n->A i j=B i j):dt A n=dt B n:=by
 cases n with
 |zero=>rfl|succ k=>exact xN (λl hl c hc=>h l (by omega) c<|by omega) λc hc=>h k (by omega) c (by omega)
theorem Zn(h:IsSl s n)(hi:i<n):((e9 s n).getD i []).getD j 0=(tA (tbl s n) i j:Rat):=by
 have l:=j6 s n;unfold e9 tA gr ga;have e:(tbl s n)[i]? = some ((tbl s n).getD i []):=by rw[aZ,cA<|by omega];rfl
 rw[aZ (l:=List.map bW<|tbl s n),cE,e];show(bW<|(tbl s n).getD i []).getD j 0=_;unfold bW;rw[aZ,cE,aZ (l:=(tbl s n).getD i [])];cases((tbl s n).getD i [])[j]? with
 |none=>rfl|some v=>rfl
def mG(n:Nat)(f:Nat->Rat):List Rat:=(List.range n).map f
theorem rN(n:Nat)(f:Nat->Rat):(mG n f).length=n:=by unfold mG;simp
theorem xO{f:Nat->Rat}(h:j<n):(mG n f).getD j 0=f j:=by unfold mG;rw[aZ,cE,iU h];rfl
theorem MN(hr:r∈e9 s n):∃i,i<n/\(e9 s n).getD i []=r:=by obtain⟨i,hi,e⟩:=YbA.mp hr;rw[pR]at hi;exact⟨i,hi,by rw[aZ,cA (by rw[pR];exact hi)];exact e⟩
theorem xP{x:List Rat}(h:IsSl s n)(hi:i<n)(hx:x.length=n):c7 ((e9 s n).getD i []) x=aS (λj=>(tA (tbl s n) i j:Rat)*x.getD j 0) n:=by have hm:(e9 s n).getD i []∈e9 s n:=nR (by rw[pR];exact hi);rw[qR _ x n (uN h _ hm).len hx];exact dS λj _=>by rw[Zn h hi]
theorem DC(n:Nat):(List.range n).Pairwise (· < ·):=List.pairwise_lt_range
theorem DD(h:IsSl s n):cK s n=[]↔(dR s n).pl=List.range n:=by
 have ec:=xL (n:=n) (R:=e9 s n) (λr hr=>(uN h r hr).len) n<|bS _;have ec:Ec n (e9 s n) n (dR s n).ld (dR s n).pl (dR s n).rs:=ec;unfold cK;rw[List.map_eq_nil_iff,List.filter_eq_nil_iff];constructor
 intro e;refine DA ec.asc (DC n) λx=>⟨λhx=>Yah.mpr<|ec.lt x hx,λhx=>?_⟩;have:=e x hx;simpa using this;intro e a ha;rw[e];simpa using ha
theorem l8(h:IsSl s n):cK s n=[]↔dt (tA<|tbl s n) n≠0:=by
 have hsm:Sm 6 n (tbl s n):=⟨j6 s n,λr hr=>(nO h r hr).1,λr hr x hx=>by
  have:=(nO h r hr).2 x hx;show x.natAbs<64;omega⟩
 have ec:Ec n (e9 s n) n (dR s n).ld (dR s n).pl (dR s n).rs:=xL (n:=n) (R:=e9 s n) (λr hr=>(uN h r hr).len) n<|bS _;constructor
 intro e z;rw[<-Ao hsm h.n5]at z;obtain⟨w,⟨a,ha,wa⟩,hw⟩:=Hi hsm h.n5 z;have pl:=(DD h).mp e;have nul:=(ec.nul (mG n λj=>(w j:Rat))<|rN _ _).mp (λr hr=>by
  obtain⟨i,hi,rfl⟩:=MN hr;rw[xP h hi<|rN _ _];have:=hw i hi;have c:=tW (λj=>tA (tbl s n) i j*w j) n;rw[this]at c;refine Eq.trans (dS λj hj=>?_) c;rw[xO hj,uo])
 have al:a<(dR s n).ld.length:=by rw[ec.ll,pl,mm];exact ha
 have one:∀j,j<n->((dR s n).ld.getD a []).getD j 0=if a=j then 1 else 0:=λj hj=>by have:=ec.one a j al (by rw[pl,mm];exact hj);rw[pl]at this;rw[show(List.range n).getD j 0=j from by rw[aZ,iU hj];rfl]at this;exact this
 have d:=nul.1 _<|nR al;rw[qR _ _ n (ec.wl _<|nR al)<|rN _ _,mF (k:=a) ha<|λj hj ne=>by rw[one j hj,if_neg<|Pa ne,iH],one a ha,if_pos rfl,xO ha,sh]at d;exact wa (by exact_mod_cast d)
 intro z;rw[DD h];refine DA ec.asc (DC n) λx=>⟨λhx=>Yah.mpr<|ec.lt x hx,λhx=>?_⟩;rw[Yah]at hx;refine Classical.byContradiction λhn=>?_;obtain⟨fl,f0⟩:=ec.free hx hn;have:=HI (tA<|tbl s n) h.n5 (w:=λj=>(dj x (dR s n).ld (dR s n).pl<|cS n x).getD j 0) (λi hi=>by
  rw[<-xP h hi fl];exact f0 _<|nR (by rw[pR];exact hi)) hx
 rw[Dz _ _ _ (by rw[xH];exact ec.lt) hn,Av hx,if_pos rfl,qY]at this;exact z (by exact_mod_cast this)
theorem HJ{n:Nat}:∀(R:List (List Rat)) (k i:Nat),i<R.length->(iC n k R).getD i []=R.getD i []++cS n (k+i)
 |[],_,_,h=>by simp at h|r::R,k,0,_=>rfl|r::R,k,i+1,h=>by rw[iC,um,HJ R (k+1) i<|by simpa using h,um,show k+1+i=k+(i+1) by omega]
theorem xQ{a b:List Rat}:(a++b).getD j 0=if j<a.length then a.getD j 0 else b.getD (j-a.length) 0:=by split;rename_i h;rw[aZ,j9 h,aZ];rename_i h;rw[aZ,jY<|by omega,aZ]
theorem DE(f:Nat->Rat)(n:Nat):∀m:Nat,aS f (n+m)=aS f n+aS (λj=>f<|n+j) m
 |0=>by rw[aS,Nat.add_zero,p8]|m+1=>by rw[<-Nat.add_assoc,aS,DE f n m,aS];grind
theorem nS(h:IsSl s n)(e:cK s n=[]):(jq s n).length=n/\∀i k,i<n->k<n->((jq s n).getD i []).getD k 0=(gp (tA<|tbl s n) n k i:Rat)/(dt (tA<|tbl s n) n:Rat):=by
 have dz:=(l8 h).mp e;have pl:=(DD h).mp e;have alf:=Hw h;have ec:=xL (n:=n+n) (R:=fL s n) (λr hr=>(alf r hr).len) n (by omega);obtain⟨t1,t2,t3⟩:=Hz (n:=n) (fL s n) n<|bS _;rw[MI h]at t1 t2 t3;have pl':(gI (fL s n) n).pl=List.range n:=by rw[<-t2];exact pl
 have ok:=Ds alf (p:=n) (by omega);have okn:=ok.ln;rw[At]at okn;have ldl:(gI (fL s n) n).ld.length=n:=by rw[ec.ll,pl',mm]
 have rs0:(gI (fL s n) n).rs=[]:=List.length_eq_zero_iff.mp (by omega);unfold jq;generalize gI (fL s n) n=c at ec pl' ldl rs0;refine⟨by rw[bQ];exact ldl,λi k hi hk=>?_⟩;let x:Nat->Rat:=λj=>(gp (tA<|tbl s n) n k j:Rat)/(dt (tA<|tbl s n) n:Rat);have hx:∀r,r<n->aS (λj=>(tA (tbl s n) r j:Rat)*x j) n=if r=k then 1 else 0:=λr hr=>by
  have a:=Cj (tA<|tbl s n) h.n5 hr hk;have dz':(dt (tA<|tbl s n) n:Rat)≠0:=by exact_mod_cast dz
  rw[dS (g:=λj=>(dt (tA<|tbl s n) n:Rat)⁻¹*((tA (tbl s n) r j*gp (tA<|tbl s n) n k j:Int):Rat)) (λj _=>by show _*(_/_)=_;rw[uo,ic];grind),gZ,tW,a];split;exact qZ _ dz';exact jE _
 have zl:(mG n x++mG n λj=>if j=k then -1 else 0).length=n+n:=by rw[d9,rN,rN]
 have za:∀j,j<n->(mG n x++mG n λj=>if j=k then -1 else 0).getD j 0=x j:=λj hj=>by rw[xQ,rN,if_pos hj,xO hj]
 have zb:∀j,j<n->(mG n x++mG n λj=>if j=k then -1 else 0).getD (n+j) 0=if j=k then -1 else 0:=λj hj=>by rw[xQ,rN,if_neg<|by omega,Nat.add_sub_cancel_left,xO hj]
 have nul:=(ec.nul _ zl).mp (λr hr=>by
  obtain⟨a,ha,ea⟩:=YbA.mp hr;rw[At]at ha;have er:(fL s n).getD a []=r:=by rw[aZ,cA (by rw[At];exact ha)];exact ea
  unfold fL at er;rw[HJ _ _ _ (by rw[pR];exact ha),sd]at er;have rl:=(uN h _<|nR (R:=e9 s n) (a:=a) (by rw[pR];exact ha)).len;rw[qR r _ (n+n) (alf r hr).len zl,DE,<-er];rw[dS (n:=n) (g:=λj=>(tA (tbl s n) a j:Rat)*x j)<|λj hj=>by rw[za j hj,xQ,rl,if_pos hj,Zn h ha],hx a ha];rw [dS (n:=n) (g:=λj=>if j=a then (if j=k then -1 else 0) else 0) (λj hj=>by
   rw[zb j hj,xQ,rl,if_neg<|by omega,Nat.add_sub_cancel_left,Av hj];split
   .rw[sh]
   .rw[iH])]
  rw[mF (k:=a) ha<|λj hj ne=>by rw[if_neg ne],if_pos rfl];split<;>grind)
 have il:i<c.ld.length:=by omega
 have one:∀j,j<n->(c.ld.getD i []).getD j 0=if i=j then 1 else 0:=λj hj=>by have:=ec.one i j il (by rw[pl',mm];exact hj);rw[pl']at this;rw[show(List.range n).getD j 0=j from by rw[aZ,iU hj];rfl]at this;exact this
 have d:=nul.1 _<|nR il;rw[qR _ _ (n+n) (ec.wl _<|nR il) zl,DE]at d;rw[mF (n:=n) (k:=i) hi<|λj hj ne=>by rw[one j hj,if_neg<|Pa ne,iH],one i hi,if_pos rfl,za i hi]at d;rw[mF (n:=n) (k:=k) hk<|λj hj ne=>by rw[zb j hj,if_neg ne,jE],zb k hk,if_pos rfl]at d;have eg:((c.ld.map λr=>r.drop n).getD i []).getD k 0=(c.ld.getD i []).getD (n+k) 0:=by rw[aZ (l:=c.ld.map _),cE,aZ (l:=c.ld),cA il];show(List.drop n<|c.ld[i]).getD k 0=(c.ld[i]).getD (n+k) 0;rw[aZ,ui,aZ]
 rw[eg];show _=x i;grind
end Dt
namespace Dt
open B.C
theorem HK{r:List Int}{l:Nat}(hi:i<=r.length):ga (cutL r i) l=ga r (sk i l):=by unfold cutL ga sk;rw[aZ,aZ,List.getElem?_append,gj,mM hi];by_cases h:l<i;rw[if_pos h,if_pos h,vd,if_pos h];rw[if_neg h,if_neg h,ui,show i+1+(l-i)=l+1 by omega]
theorem MO(h:t.length=n)(hj:j<=n)(hk:k+1<n):gr (tU t i j) k=cutL (gr t<|sk j k) i:=by
 have e:(t.take j++t.drop (j+1))[k]? = some (gr t<|sk j k):=by unfold gr sk;rw[List.getElem?_append,gj,h,mM hj];by_cases hh:k<j;rw[if_pos hh,if_pos hh,vd,if_pos hh,aZ,cA<|by omega];rfl;rw[if_neg hh,if_neg hh,ui,show j+1+(k-j)=k+1 by omega,aZ,cA<|by omega];rfl
 show(tU t i j).getD k []=_;unfold tU;rw[aZ,cE,e];rfl
theorem MP(h:Sm 6 n t)(hn:n<=5)(hi:i<n)(hj:j<n):jU (tU t i j)*sgn i j=gp (tA t) n j i:=by
 unfold gp;rw[Ao (prt_sm h hi hj)<|by omega,n4];have e1:sgn i j=sg (j+i):=by unfold sgn sg;split<;>omega
 rw[e1];congr 1;refine DB λa ha b hb=>?_;show ga (gr (tU t i j) a) b=ga (gr t<|sk j a) (sk i b);have ha':sk j a<n:=by unfold sk;split<;>omega
 rw[MO h.len (by omega)<|by omega,HK (by rw[(h.gr ha').2.1];omega)]
theorem MQ(h:IsSl s n):cK s n=[]↔jU (tbl s n)≠0:=by rw[l8 h,Ao (tbl_Sm h) h.n5]
end Dt
namespace Gs
open Dt
def dl(i j:Nat):Rat:=if i=j then 1 else 0
theorem dl_one(i:Nat):dl i i=1:=if_pos rfl
theorem dl_ne(h:i≠j):dl i j=0:=if_neg h
theorem sum_dl(f:Nat->Rat)(hk:k<n):aS (λi=>dl k i*f i) n=f k:=by rw[mF hk<|λi _ ne=>by rw[dl_ne<|Pa ne,iH],dl_one,sh]
theorem MR(f:Nat->Rat)(hk:k<n):aS (λi=>f i*dl i k) n=f k:=by rw[mF hk<|λi _ ne=>by rw[dl_ne ne,jE],dl_one,qY]
structure Bk(n:Nat)(T B:Nat->Nat->Rat):Prop where
 tb:∀i j,i<n->j<n->aS (λk=>T i k*B k j) n=dl i j
 bt:∀i j,i<n->j<n->aS (λk=>B i k*T k j) n=dl i j
theorem Bk.uniq{T B:Nat->Nat->Rat}(h:Bk n T B){X:Nat->Rat}(hj:j<n)(e:∀i,i<n->aS (λk=>T i k*X k) n=dl i j)(hk:k<n):X k=B k j:=by
 rw[<-sum_dl X hk];rw [dS (g:=λi=>aS (λm=>B k m*(T m i*X i)) n) (λi hi=>by
  rw[<-h.bt k i hk hi,uq,<-gZ];exact dS λm _=>by grind),xM]
 rw[dS (g:=λm=>B k m*dl m j)<|λm hm=>by rw[gZ,e m hm]];exact MR (λm=>B k m) hj
theorem HL(h:IsSl s n)(e:cK s n=[]):Bk n (λi j=>(tA (tbl s n) i j:Rat)) (λi j=>((jq s n).getD i []).getD j 0):=by
 obtain⟨_,b⟩:=nS h e;have dz:(dt (tA<|tbl s n) n:Rat)≠0:=by exact_mod_cast (l8 h).mp e
 constructor;intro i j hi hj;rw[dS (g:=λk=>(dt (tA<|tbl s n) n:Rat)⁻¹*((tA (tbl s n) i k*gp (tA<|tbl s n) n j k:Int):Rat)) (λk hk=>by rw[b k j hk hj,uo,ic];grind),gZ,tW,Cj _ h.n5 hi hj];unfold dl;split;exact qZ _ dz;exact jE _;intro i j hi hj;rw[dS (g:=λk=>(dt (tA<|tbl s n) n:Rat)⁻¹*((tA (tbl s n) k j*gp (tA<|tbl s n) n k i:Int):Rat)) (λk hk=>by rw[b i k hi hk,uo,ic];grind),gZ,tW,wO _ h.n5 hj hi];unfold dl;by_cases z:j=i;rw[if_pos z,if_pos z.symm];exact qZ _ dz;rw[if_neg z,if_neg<|Pa z];exact jE _
theorem tA_ent(h:IsSl s n)(hi:i<n)(hj:j<n):tA (tbl s n) i j=ent s n i j:=by unfold tA B.C.gr B.C.ga;rw[GY h,aZ (l:=List.map _ _),cE,iU hi];show((List.range n).map λj=>ent s n i j).getD j 0=_;rw[aZ,cE,iU hj];rfl
structure Tz(n:Nat)(T:Nat->Nat->Rat):Prop where
 sl:∀i j i' j',i<n->j<n->i'<n->j'<n->i+j'=i'+j->T i j=T i' j'
theorem xR(h:IsSl s n):Tz n (λi j=>(tA (tbl s n) i j:Rat)):=⟨λi j i' j' hi hj hi' hj' e=>by
 show((tA (tbl s n) i j:Int):Rat)=((tA (tbl s n) i' j':Int):Rat)
 rw[tA_ent h hi hj,tA_ent h hi' hj'];unfold ent;rw[show n-1-i+j=n-1-i'+j' by omega]⟩
end Gs
def aX(K:O3)(mg:Str->Option Value)(x:Str)(st:Stmt):Prop:=∃f fd,Fun K x x st f fd/\mg x=some (.ref f)/\iN K x=some f
def CC(K:O3)(mg:Str->Option Value)(x:Str):Prop:=∃a,mg x=some (.ref a)/\iN K x=some a
def CI(mg:Str->Option Value)(x:Str)(i:Int):Prop:=∃t,mg x=some (.int i t)
def CT(K:O3)(mg:Str->Option Value)(x:Str)(ds:List D):Prop:=∃a vs,mg x=some (.ref a)/\KT K a vs/\∀W,Reps K W vs ds
section
theorem mkF(X:K.In h)(G:h.Ns mainGlobals mg){oc:Value}{kV doc pm cdv ct:Value}(a:PySem.W.nsIn K mainGlobals x=some (some<|.ref f))(l:K.lookup f=some ⟨oc,od,.func<|PySem.W.fnOf x x (cc st) (bB st) (aE st) .none kV doc pm an cdv ct,osl⟩)
  (c:PySem.W.codeIn K cdv x=true) (k:PySem.W.keepIn K (.ref f)=true):aX K mg x st:=⟨f,_,nA l c k,PySem.W.mg_of X G a,tP a⟩
theorem mkC(X:K.In h)(G:h.Ns mainGlobals mg)(a:PySem.W.nsIn K mainGlobals x=some (some<|.ref f)):CC K mg x:=⟨f,PySem.W.mg_of X G a,tP a⟩
theorem mkI(X:K.In h)(G:h.Ns mainGlobals mg){i:Int}{t:Tok}(a:PySem.W.nsIn K mainGlobals x=some (some<|.int i t)):CI mg x i:=⟨t,PySem.W.mg_of X G a⟩
theorem mkT(X:K.In h)(G:h.Ns mainGlobals mg){d:Option Addr}{i j:Int}{t u:Tok}(a:PySem.W.nsIn K mainGlobals x=some (some<|.ref f))(l:K.lookup f=some ⟨.type "tuple",d,.seq #[.int i t,.int j u] n,sl⟩):CT K mg x [.int i,.int j]:=
 ⟨f,[.int i,.int j],PySem.W.mg_of X G a,⟨_,_,_,l,rfl,rfl,(by show 2<=sizeLine;decide),.cons ⟨_,rfl⟩<|.cons ⟨_,rfl⟩ .nil⟩,λ_=>.cons (.int _)<|.cons (.int _) .nil⟩
theorem mkX(X:K.In h)(G:h.Ns mainGlobals mg)(a:PySem.W.nsIn K mainGlobals x=some (some<|.ref f))(e:PySem.W.excIn K f [.type "ValueError",.type "Exception",.type "BaseException",.type "object"] "ValueError.__new__" = true):XC K mg x:=
 ⟨f,_,_,_,tP a,PySem.W.mg_of X G a,e,PySem.F.excBase_ValueError⟩
theorem mkH(X:K.In h)(G:h.Ns mainGlobals mg)(a:PySem.W.nsIn K mainGlobals x=some (some<|.ref f))(e:PySem.W.excIn K f [.type "ValueError",.type "Exception",.type "BaseException",.type "object"] "ValueError.__new__" = true)
  (m:∀n∈L,∃D,PySem.W.nsIn K mainGlobals (gG n)=some (some<|.ref D)/\PySem.W.mroIn K D (.ref f)=some true):XT K mg x L:=
 ⟨f,_,_,PySem.W.mg_of X G a,e,by decide +kernel,λn hn D hD=>by
  obtain⟨D',e1,e2⟩:=m n hn;rw[tP e1]at hD;cases hD;exact e2⟩
end
section
variable{w:World}{N:List Str}
universe u
theorem Ax{α:Sort u}{F G:List Value->α}(h:∀a,F [a]=G [a]):∀us:List Value,us.length=1->F us=G us
 |[_],_=>h _
theorem Ay{α:Sort u}{F G:List Value->α}(h:∀a b,F [a,b]=G [a,b]):∀us:List Value,us.length=2->F us=G us
 |[_,_],_=>h _ _
theorem Az{α:Sort u}{F G:List Value->α}(h:∀a b c,F [a,b,c]=G [a,b,c]):∀us:List Value,us.length=3->F us=G us
 |[_,_,_],_=>h _ _ _
theorem AA{α:Sort u}{F G:List Value->α}(h:∀a b c d,F [a,b,c,d]=G [a,b,c,d]):∀us:List Value,us.length=4->F us=G us
 |[_,_,_,_],_=>h _ _ _ _
theorem uO(h:aX K mg x st)
  (hbody:∀ (sc:N.Nodup) (f:Addr) (cdv:Value) (A:Around) (outer:List Env) (s:Shared) (H:Hp) (E:XK),Room k (A.deeper<|envOfC x (aE st) s.heap.objs.size f cdv)->
   cF (c9 P w) (cR (c9 P w) P w K mg base N x (aE st) f cdv A outer s H E) E->jg (cR (c9 P w) P w K mg base N x (aE st) f cdv A outer s H E) E->
   jt (cR (c9 P w) P w K mg base N x (aE st) f cdv A outer s H E) E (bB st) z)
  (rd:Rd S z N)
  (sc:bT N ps (aE st):=by exact⟨rfl,rfl,rfl,by decide +kernel,rfl,by decide +kernel,by decide +kernel⟩)
  (len:∀ds E Q,S ds E Q->ds.length=ps.length:=by first|exact fnS.len λ_=>rfl|exact xS.len λ_=>rfl|exact rlS.len λ_=>rfl)
  (hb:∀ (kV doc pm:Value) (an:Option Addr) (cdv ct:Value) (us:List Value),us.length=ps.length->bindArgs (PySem.W.fnOf x x (cc st) (bB st) (aE st) .none kV doc pm an cdv ct) ⟨us,[]⟩=pure (ps.zip us):=by
   intro _ _ _ _ _ _;(first|refine Ax ?_|refine Ay ?_|refine Az ?_|refine AA ?_);intros;rfl)
  (mono:ol S:=by first|exact fnS.mono|exact rlS.mono|exact xS.mono):Fp P w K mg base (k+1) x ps S:=by
 obtain⟨f,fd,F,m,q⟩:=h;exact Fp.of (tG (z:=z) F sc len (λcdv A outer s H E hr hx hw=>hbody sc.nd f cdv A outer s H E hr hx hw) rd) mono m F.kp<|F.binds hb
theorem cL(rd:Rd S z N)(h:aX K mg x st)
  (hbody:∀ {f:Addr} {cdv:Value} {A:Around} {outer:List Env} {s:Shared} {H:Hp} {E:XK} (sc:N.Nodup),Room k (A.deeper<|envOfC x (aE st) s.heap.objs.size f cdv)->
   cF (c9 P w) (cR (c9 P w) P w K mg base N x (aE st) f cdv A outer s H E) E->jg (cR (c9 P w) P w K mg base N x (aE st) f cdv A outer s H E) E->
   jt (cR (c9 P w) P w K mg base N x (aE st) f cdv A outer s H E) E (bB st) z)
  (sc:bT N ps (aE st):=by exact⟨rfl,rfl,rfl,by decide +kernel,rfl,by decide +kernel,by decide +kernel⟩)
  (len:∀ds E Q,S ds E Q->ds.length=ps.length:=by first|exact fnS.len λ_=>rfl|exact xS.len λ_=>rfl|exact rlS.len λ_=>rfl)
  (hb:∀ (kV doc pm:Value) (an:Option Addr) (cdv ct:Value) (us:List Value),us.length=ps.length->bindArgs (PySem.W.fnOf x x (cc st) (bB st) (aE st) .none kV doc pm an cdv ct) ⟨us,[]⟩=pure (ps.zip us):=by
   intro _ _ _ _ _ _;(first|refine Ax ?_|refine Ay ?_|refine Az ?_|refine AA ?_);intros;rfl)
  (mono:ol S:=by first|exact fnS.mono|exact rlS.mono|exact xS.mono):Fp P w K mg base (k+1) x ps S:=by
 obtain⟨f,fd,F,m,q⟩:=h;exact Fp.of (tG (z:=z) F sc len (λcdv A outer s H E hr hx hw=>hbody sc.nd hr hx hw) rd) mono m F.kp<|F.binds hb
theorem DF(h:aX K mg x st)
  (hbody:∀ (sc:N.Nodup) (f:Addr) (cdv:Value) (A:Around) (outer:List Env) (s:Shared) (H:Hp),RoomU k (A.deeper<|envOfC x (aE st) s.heap.objs.size f cdv)->
   jt (tD P w K mg base N x (aE st) f cdv A outer s H) E0 (bB st) z)
  (rd:∀ds E Q,S ds E Q->z No { nx:=λ_=>Q .non,rt:=Q } (dY N ds))
  (sc:bT N ps (aE st):=by exact⟨rfl,rfl,rfl,by decide +kernel,rfl,by decide +kernel,by decide +kernel⟩)
  (len:∀ds E Q,S ds E Q->ds.length=ps.length:=by first|exact fnS.len λ_=>rfl|exact xS.len λ_=>rfl|exact rlS.len λ_=>rfl)
  (hb:∀ (kV doc pm:Value) (an:Option Addr) (cdv ct:Value) (us:List Value),us.length=ps.length->bindArgs (PySem.W.fnOf x x (cc st) (bB st) (aE st) .none kV doc pm an cdv ct) ⟨us,[]⟩=pure (ps.zip us):=by
   intro _ _ _ _ _ _;(first|refine Ax ?_|refine Ay ?_|refine Az ?_|refine AA ?_);intros;rfl)
  (mono:ol S:=by first|exact fnS.mono|exact rlS.mono|exact xS.mono):CW P w K mg base (k+1) x ps S:=by
 obtain⟨f,fd,F,m,q⟩:=h;exact⟨⟨f,fd,CV (z:=z) F sc len (λcdv A outer s H hr=>hbody sc.nd f cdv A outer s H hr) rd,m,F.kp,F.binds hb⟩,mono⟩
theorem MS(h:aX K mg x st)(hfa:mg x=some (.ref fa))
  (hbody:∀ (base:Heap) (sc:N.Nodup) (f:Addr) (cdv:Value) (A:Around) (outer:List Env) (s:Shared) (H:Hp) (E:XK),Room k (A.deeper<|envOfC x (aE st) s.heap.objs.size f cdv)->
   cF (c9 l.prog w) (cR (c9 l.prog w) l.prog w K mg base N x (aE st) f cdv A outer s H E) E->jg (cR (c9 l.prog w) l.prog w K mg base N x (aE st) f cdv A outer s H E) E->
   jt (cR (c9 l.prog w) l.prog w K mg base N x (aE st) f cdv A outer s H E) E (bB st) z)
  (rd:Rd S z N)
  (sc:bT N ["_law_script"] (aE st):=by exact⟨rfl,rfl,rfl,by decide +kernel,rfl,by decide +kernel,by decide +kernel⟩)
  (len:∀ds E Q,S ds E Q->ds.length=1:=by exact fnS.len (ps:=["_law_script"]) λ_=>rfl)
  (hb:∀(kV doc pm:Value) (an:Option Addr) (cdv ct:Value) (s:Shared) (v:Value),BindsTo s (PySem.W.fnOf x x (cc st) (bB st) (aE st) .none kV doc pm an cdv ct) ⟨[v],[]⟩ [("_law_script",v)]:=by exact λ_ _ _ _ _ _ _ _=>.of_eq rfl) :
  ∃fd:FuncData,(∀(s:Shared) (v:Value),BindsTo s fd ⟨[v],[]⟩ [("_law_script",v)])/\∀base:Heap,K.In base->base.Ns mainGlobals mg->eD l.prog w K mg base (c9 l.prog w) (k+1) fa fd ["_law_script"] (gT K S):=by
 obtain⟨f,fd,F,m,q⟩:=h;rw[m]at hfa;cases hfa;refine⟨fd,?_,λbase _ _=>tG (z:=z) F sc len (λcdv A outer s H E hr hx hw=>hbody base sc.nd _ cdv A outer s H E hr hx hw) rd⟩;obtain⟨_,_,_,_,_,_,_,_,_,rfl,_⟩:=F.ex;exact hb _ _ _ _ _ _
end
section
variable{l:List (Str×bO)}
theorem pS(h:CC X.K X.mg x)(hg:Gl X x:=by rfl)(hd:(x==("__debug__" : Str))=false:=by decide):PX X EX (.Name x pos) (wC<|.cls x):=let⟨_,m,q⟩:=h;K6 m q hg hd
theorem xT{i:Int}(h:CI X.mg x i)(hg:Gl X x:=by rfl)(hd:(x==("__debug__" : Str))=false:=by decide):PX X EX (.Name x pos) (wC<|.int i):=let⟨_,m⟩:=h;KG m hg hd
theorem tX(h:CT X.K X.mg x ds)(hg:Gl X x:=by rfl)(hd:(x==("__debug__" : Str))=false:=by decide):PX X EX (.Name x pos) (wC<|.tup ds):=let⟨_,_,m,k,r⟩:=h;KH m k r hg hd
end
section
variable{n m:Str}{D C:Addr}{M:List Str}
theorem exD(a:PySem.W.nsIn K mainGlobals n=some (some<|.ref D))(b:PySem.W.mroIn K D (.ref f)=some true):∃D,PySem.W.nsIn K mainGlobals n=some (some<|.ref D)/\PySem.W.mroIn K D (.ref f)=some true:=⟨D,a,b⟩
theorem exX(a:PySem.W.nsIn K mainGlobals n=some (some<|.ref D))(c:ij K D)(k:PySem.W.kitOne K (.ref D) (.type "ValueError")=some true)(h:∀m∈M,∃C,iN K m=some C/\PySem.W.kitOne K (.ref D) (.ref C)=some (n==m)) :
  ∃D,iN K n=some D/\ij K D/\PySem.W.kitOne K (.ref D) (.type "ValueError")=some true/\∀m∈M,∃C,iN K m=some C/\PySem.W.kitOne K (.ref D) (.ref C)=some (n==m):=⟨D,tP a,c,k,h⟩
theorem exC(a:PySem.W.nsIn K mainGlobals m=some (some<|.ref C))(b:PySem.W.kitOne K (.ref D) (.ref C)=some (n==m)):∃C,iN K m=some C/\PySem.W.kitOne K (.ref D) (.ref C)=some (n==m):=⟨C,tP a,b⟩
end
namespace G
noncomputable def tY(n p:Nat):List Int:=(List.range n).map λi:Nat=>if(i:Int)=(p:Int) then 1 else 0
def xU:bO:=fnS (λx:SL×List Rat=>[aL x.1.1,aG x.2]) (λx=>IsSl x.1.1 x.1.2/\x.2.length=x.1.2/\∀y∈x.2,Sz 300 y) λx=>aG<|bC x.1.1 x.1.2 x.2
def xV:bO:=rlS (λr:List Rat=>[.pen,aG r]) (λr=>1<=r.length/\r.length<=5/\∀y∈r,Sz 223 y) λ_ d=>kd d=true/\cJ 223 d=true
def AB:bO:=fnS (λx:Nat×D=>[.int x.1,x.2]) (λx=>kd x.2=true/\cJ 300 x.2=true) λx=>.bl<|iy x.1 x.2
def xW:bO:=fnS (λx:Nat×Nat=>[.int x.1,.int x.2]) (λx=>x.1<=5) λx=>aL<|tY x.1 x.2
section
variable{E:Ex->Prop}{x:D}{u:List Int}
theorem HM(h:IsSl s n)(h1:r.length=n)(h2:∀y∈r,Sz 300 y)(q:Q (aG<|bC s n r)):xU [aL s,aG r] E Q:=⟨((s,n),r),rfl,⟨h,h1,h2⟩,q⟩
theorem HN(h:1<=r.length)(h':r.length<=5)(h2:∀y∈r,Sz 223 y)(q:∀d,kd d=true->cJ 223 d=true->Q d):xV [.pen,aG r] E Q:=⟨r,rfl,⟨h,h',h2⟩,λd ⟨h1,h2⟩=>q d h1 h2⟩
theorem MT(h1:kd x=true)(h2:cJ 300 x=true)(q:Q (.bl<|iy n x)):AB [.int n,x] E Q:=⟨(n,x),rfl,⟨h1,h2⟩,q⟩
theorem MU(h:n<=5)(q:Q (aL<|tY n k)):xW [.int n,.int k] E Q:=⟨(n,k),rfl,h,q⟩
end
abbrev Zis:List Str:=["_law_size", "_law_place"]
def HP:WS:=(aM<|wB hV<|aC (wL<|aLC (fO<|aC (wN 0) aA) 1 [1] (gN 0) dC<|wB iu<|aC (w2 (gEq false) (wN 0)<|wN 1) aA) aA)
theorem MV:Rd xU GR Ziv:=by
 rintro _ E Q ⟨⟨⟨s,n⟩,r⟩,rfl,⟨h,hl,hsz⟩,q⟩;dsimp only at h hl hsz q;have h5:=h.n5;have hsl:=h.len;unfold GR;walk_at "nx";refine⟨⟨by decide,jo (n:=2) (by decide)<|by omega⟩,?_⟩;rw[va _<|by decide,show((s.length:Int)+1)/2=n by omega];walk_at "nx";refine⟨by decide,?_⟩;walk_at "nx";refine⟨by omega,by omega,?_⟩;refine uJ (λi ρ=>∃a b c,ρ=[.d<|aL s,.d<|aG r,.d<|.int n,.ow<|((List.range i).map λi=>aR<|sm n λj=>(ent s n i j:Rat)*r.getD j 0),a,b,c]) n ?_ ?_ _ ⟨_,_,_,rfl⟩
 rotate_left
 .rintro _ ⟨a,b,c,rfl⟩
  walk_at "st";rw[LQ h hl]at q;unfold aG at q;rw[du]at q;exact q
 .rintro i hi _ ⟨a,b,c,rfl⟩ nx hnx
  walk_at "st";walk_at "nx";refine⟨by decide,?_⟩;refine bH ?_;simp only[bK,bN];walk_at "st";refine⟨by omega,by omega,?_⟩;have hent:∀j,j<n->-50<=ent s n i j/\ent s n i j<=50:=λj hj=>by
   unfold ent;rw[aZ,cA<|by omega,Bu];exact h.b _<|jC _
  have hrj:∀j,j<n->Sz 300 (r.getD j 0):=λj hj=>by
   rw[aZ,cA<|by omega,Bu];exact hsz _<|jC _
  have hterm:∀j,j<n->Sz (6+300) ((ent s n i j:Rat)*r.getD j 0):=λj hj=>(xq<|hent j hj).mul<|hrj j hj;refine uJ (λj ρ=>∃c,ρ=[.d<|aL s,.d<|aG r,.d<|.int n,.ow<|((List.range i).map λi=>aR<|sm n λj=>(ent s n i j:Rat)*r.getD j 0),.d<|.int i,.d<|aR<|sm j λj=>(ent s n i j:Rat)*r.getD j 0,c]) n ?_ ?_ _ ⟨_,rfl⟩
  rotate_left
  .rintro _ ⟨c,rfl⟩
   walk_at "st";refine⟨by rw[bQ,mm];unfold aO;omega,?_⟩;have e:List.map (λi=>aR<|sm n λj=>(ent s n i j:Rat)*r.getD j 0) (List.range i)++[aR<|sm n λj=>(ent s n i j:Rat)*r.getD j 0]=List.map (λi=>aR<|sm n λj=>(ent s n i j:Rat)*r.getD j 0) (List.range<|i+1):=by
    rw[rc,gL];rfl
   rw[e];exact hnx _ ⟨_,_,_,rfl⟩
  .rintro j hj _ ⟨c,rfl⟩ nx2 hnx2
   walk_at "st";have e1:(s.map D.int)[n-1-i+j]? = some (.int<|ent s n i j):=by
    unfold ent;rw[cE,aZ,cA<|by omega];rfl
   have e2:(r.map aR)[j]? = some (aR<|r.getD j 0):=by
    rw[cE,aZ,cA<|by omega];rfl
   refine⟨_,xp (k:=n-1-i+j) (by omega) e1,by decide,_,xp rfl e2,?_⟩;rw[<-tQ];refine Ab (B2.of (xq<|hent j hj) (hrj j hj)<|by omega)<|GG (B2.of (G1 λk hk=>hterm k<|by omega) (hterm j hj) ?_) ?_
   .have:j*(6+300+1)<=5*(6+300+1):=p6 _ (by omega)
    omega
   .rw[<-Dg j λj=>(ent s n i j:Rat)*r.getD j 0]
    exact hnx2 _ ⟨_,rfl⟩
theorem MW:Rd AB GV ZeV:=by
 rintro _ E Q ⟨⟨n,x⟩,rfl,⟨hk,hs⟩,q⟩;dsimp only at hk hs q;unfold GV;walk_at "nx";refine qN hk (by decide) λt ht=>?_;cases x<;>cases ht<;>try exact q
 rename_i xs;obtain⟨hl,hx⟩:=tJ hk;rw[cJ,uH]at hs;walk_at "st";simp only[show jl "tuple" "tuple" = true from rfl,f6,ee,if_false]
 by_cases h:(xs.length:Int)=n
 .rw[if_neg<|by simp[h]]
  replace q:Q (.bl<|xs.all cU):=by simpa[iy,h] using q
  walk_at "nx";refine Ag (λds ρ=>(∃sv,ρ=[.d<|.int n,.d<|.tup xs,sv])/\(∀y∈ds,kd y=true/\cJ 300 y=true)/\Q (.bl<|ds.all cU)) ?_ ?_ xs _ ⟨⟨_,rfl⟩,λy hy=>⟨hx y hy,hs y hy⟩,q⟩
  rotate_left
  .rintro _ ⟨⟨sv,rfl⟩,h1,h2⟩
   exact h2
  .rintro d ds _ ⟨⟨sv,rfl⟩,h1,h2⟩ nx hnx
   obtain⟨hkd,hsd⟩:=h1 d (by simp);have hbad:cU d=false->Q (.bl false):=λe=>by rw[ud,e,rW]at h2;exact h2
   have hgood:cU d=true->nx [.d<|.int n,.d<|.tup xs,.d d]:=λe=>by
    rw[ud,e,p7]at h2;exact hnx _ ⟨⟨_,rfl⟩,λy hy=>h1 y<|by simp[hy],h2⟩
   clear h2 hnx q hs hx h1;walk_at "st";walk_at "nx";refine qN hkd (by decide) λt ht=>?_;cases d<;>cases ht<;>try exact hbad rfl
   rename_i ys;obtain⟨hyl,hy⟩:=tJ hkd;rw[cJ,uH]at hsd;walk_at "st";simp only[show jl "tuple" "tuple" = true from rfl,f6,ee,if_false]
   by_cases h2:ys.length=2
   .match ys,h2,hy,hsd,hbad,hgood with
    |[a,b],_,hy,hsd,hbad,hgood=>
    rw[if_neg<|by simp];walk_at "st";refine⟨a,rfl,Db (hy a<|by simp) ?_⟩;walk_at "st";cases ha:mz a with
    |false=>exact hbad<|Gz ha
    |true=>
    obtain⟨i,rfl⟩:=xo ha;simp only[f6,ee,if_false];refine⟨b,rfl,Db (hy b<|by simp) ?_⟩;walk_at "st";cases hb:mz b with
    |false=>exact hbad<|GA hb
    |true=>
    obtain⟨j,rfl⟩:=xo hb;simp only[f6,ee,if_false];refine⟨_,rfl,?_⟩;walk_at "st"
    by_cases h0:j<1
    .rw[if_pos<|by simpa using h0]
     exact hbad (by simp[cU];intro z;omega)
    .rw[if_neg<|by simpa using h0]
     have hj:cJ 300 (.int j)=true:=hsd _ (by simp);rw[cJ,O6]at hj;refine⟨_,rfl,_,rfl,GF (by omega) (jo hj<|by decide)<|wY (G0 _ _) (G0 _ _) ?_⟩;rw[LU<|by omega];cases e:cU (.tup [.int i,.int j]) with
     |false=>exact hbad e
     |true=>exact hgood e
   .rw[if_pos<|by simpa using λz=>h2<|by exact_mod_cast z]
    exact hbad<|Gy h2
 .rw[if_pos<|by simpa using h]
  have e:((xs.length:Int)==(n:Int))=false:=by simpa using h
  simpa[iy,e] using q
def gd(d:D):Prop:=kd d=true/\cJ 223 d=true
theorem qS(h:xs.length<=5000)(h':∀x∈xs,gd x):gd (.tup xs):=⟨ju h λx hx=>(h' x hx).1,by rw[cJ,uH];exact λx hx=>(h' x hx).2⟩
theorem HQ(h:xs.length<=5000)(h':∀x∈xs,gd x):gd (.lst xs):=⟨CL h λx hx=>(h' x hx).1,by rw[cJ,uH];exact λx hx=>(h' x hx).2⟩
theorem kR{i:Int}(h:i.natAbs<2^223):gd (.int i):=⟨by rw[kd],by rw[cJ];exact O7 h⟩
theorem HR(b:Bool):gd (.bl b):=⟨by rw[kd],by simp[cJ]⟩
theorem HS:gd .non:=⟨by rw[kd],by simp[cJ]⟩
theorem MY:gd .dic:=⟨by rw[kd],by simp[cJ]⟩
theorem MZ(x:Str):gd (.str x):=⟨by rw[kd],by simp[cJ]⟩
theorem uP{a b:D}(h1:gd a)(h2:gd b):gd (.tup [a,b]):=qS (by simp) λx hx=>by
 simp only[Yao,da,or_false]at hx;rcases hx with rfl|rfl
 exact h1;exact h2
theorem M0{a b:Option Int}(h:∀x∈xs,gd x):∀x∈aV xs a b,gd x:=λx hx=>h x (by unfold aV at hx;exact ly<|mO hx)
theorem M1:Rd xV GU Zgp:=by
 rintro _ E Q ⟨r,rfl,⟨hr1,hr5,hsz⟩,q⟩;dsimp only at hr1 hr5 hsz q;replace q:∀d,gd d->Q d:=q;unfold GU;walk_at "nx";refine jv (n:=r.length) (by omega) (by omega) λk hk=>?_;walk_at "st";walk_at "nx";refine⟨by decide,by decide,by decide,by decide,by decide,by decide,by decide,by decide,by decide,by decide,?_⟩;walk_at "nx";refine jv (n:=12) (by decide) (by decide) λk12 hk12=>?_;obtain ⟨odd,hat,hodd⟩:=xA (P:=gd) (xs:=[D.tup [D.int 2,D.int 4],D.tup [D.int 1,D.int 0],D.tup [D.int 1,D.int (-2)],D.tup [D.int 0,D.int 2],D.tup [D.bl true,D.int 1],D.tup [D.int 1,D.bl true],D.int 1,D.non,D.lst [D.int 1,D.int 2],D.str "1",D.tup [D.int 1],D.tup [D.int 1,D.int 2,D.int 3]]) (k:=k12) (by simpa using hk12) (by
  intro x hx;simp only[Yao,da,or_false]at hx;rcases hx with rfl|rfl|rfl|rfl|rfl|rfl|rfl|rfl|rfl|rfl|rfl|rfl
  .exact uP (kR<|by decide) (kR<|by decide)
  .exact uP (kR<|by decide) (kR<|by decide)
  .exact uP (kR<|by decide) (kR<|by decide)
  .exact uP (kR<|by decide) (kR<|by decide)
  .exact uP (HR _) (kR<|by decide)
  .exact uP (kR<|by decide) (HR _)
  .exact kR (by decide)
  .exact HS
  .exact HQ (by decide) λx hx=>by
    simp only[Yao,da,or_false]at hx;rcases hx with rfl|rfl<;>exact kR (by decide)
  .exact MZ _
  .exact qS (by decide) λx hx=>by
    simp only[Yao,da,or_false]at hx;subst hx;exact kR (by decide)
  .exact qS (by decide) λx hx=>by
    simp only[Yao,da,or_false]at hx;rcases hx with rfl|rfl|rfl<;>exact kR<|by decide)
 refine⟨_,hat,?_⟩;walk_at "nx";have hlen:∀a b,(aV (r.map aR) a b).length<=5:=λa b=>by have:=Ah (xs:=r.map aR) (a:=a) (b:=b);rw[bQ]at this;omega
 have hgr:∀x∈r.map aR,gd x:=λx hx=>by obtain⟨y,hy,rfl⟩:=YbT.mp hx;exact⟨FU y,Zk0.mpr<|hsz y hy⟩
 have hgc:∀a b,∀x∈aV (r.map aR) a b,gd x:=λa b=>M0 hgr;have l1:=hlen none<|some (k:Int);have l2:=hlen (some<|(k:Int)+1) none;have l3:=hlen none<|some 1;have l4:=hlen (some 1) none;refine⟨by decide,eV<|by omega,eV (by simp;omega),by decide,Df (eV (by simp;omega))<|Df (eV (by simp;omega)) ?_⟩;show 1<=aO/\_;refine⟨by decide,by decide,jv (n:=9) (by decide) (by decide) λk9 hk9=>?_⟩;obtain ⟨d,hd,hkd⟩:=xA (P:=gd) (xs:=[D.tup<|aV (List.map aR r) none (some (k:Int))++[odd]++aV (List.map aR r) (some<|(k:Int)+1) none,D.tup<|r.map aR++[odd],D.tup<|aV (List.map aR r) (some 1) none,D.tup<|r.map aR++aV (List.map aR r) none (some 1),D.lst<|r.map aR,D.non,D.int 0,D.dic,D.tup [aG r]]) (k:=k9) (by simpa using hk9) (by
  intro x hx;simp only[Yao,da,or_false]at hx;rcases hx with rfl|rfl|rfl|rfl|rfl|rfl|rfl|rfl|rfl
  .refine qS (by simp;omega) λx hx=>?_
   simp only[Yap,Yao,da,or_false]at hx;rcases hx with(hx|rfl)|hx
   .exact hgc _ _ x hx
   .exact hodd
   .exact hgc _ _ x hx
  .refine qS (by simp;omega) λx hx=>?_
   rcases Yap.mp hx with hx|hx
   .exact hgr x hx
   .rw[Ycp.mp hx];exact hodd
  .exact qS (by omega) (hgc _ _)
  .refine qS (by simp;omega) λx hx=>?_
   rcases Yap.mp hx with hx|hx
   .exact hgr x hx
   .exact hgc _ _ x hx
  .exact HQ (by simp;omega) hgr
  .exact HS
  .exact kR (by decide)
  .exact MY
  .exact qS (by simp) λx hx=>by rw[Ycp.mp hx];exact qS (by simp;omega) hgr)
 exact⟨d,hd,q d hkd⟩
end G
namespace G
theorem M2:Rd xW HP Zis:=by rintro _ E Q ⟨⟨n,k⟩,rfl,h,q⟩;dsimp only at h q;unfold HP;walk_at "st";refine⟨by omega,by omega,?_⟩;rw[nQ];refine jR (g:=λi:Nat=>D.int (i:Int)) (f:=λi:Nat=>D.int (if(i:Int)=(k:Int) then 1 else 0)) (List.range n) (λi hi Q hq=>?_) .un [] (by simp[aO];omega) ?_;walk_at "st";by_cases e:(i:Int)=(k:Int);rw[if_pos e]at hq;simpa[e] using hq;rw[if_neg e]at hq;simpa[e] using hq;walk_at "st";unfold aL tY at q;rw[du]at q;exact q
end G
theorem set_by{E:Ex->Prop}(e:ρ.set i (.d d)=ρ')(hw:∀P:D->Prop,P d->w E ρ P)(h:N.nx ρ'):aP i w E N ρ:=hw _ (by rw[e];exact h)
theorem set_rl{E:Ex->Prop}(R:D->Prop)(hw:∀P:D->Prop,(∀d,R d->P d)->w E ρ P)(h:∀d,R d->N.nx (ρ.set i<|.d d)):aP i w E N ρ:=hw _ h
theorem ret_by{E:Ex->Prop}(hw:∀P:D->Prop,P d->w E ρ P)(h:N.rt d):aM w E N ρ:=hw _ h
theorem pair_at{w1 w2:WE}{E:Ex->Prop}{a b:D}(h1:∀P:D->Prop,P a->w1 E ρ P)(h2:∀P:D->Prop,P b->w2 E ρ P):∀P:D->Prop,P (.tup [a,b])->bA (aC w1<|aC w2 aA) E ρ P:=λP h=>h1 _<|h2 _ ⟨show 2<=aO by decide,h⟩
theorem own_by{t:WA}{E:Ex->Prop}(e:ρ.set i (.ow xs)=ρ')(ht:∀P:List D->Prop,P xs->t E ρ P)(h:N.nx ρ'):cH i t E N ρ:=ht _ (by rw[e];exact h)
theorem set_lst{t:WA}{E:Ex->Prop}(ht:∀P:List D->Prop,P xs->t E ρ P)(hl:xs.length<=aO)(h:N.nx (ρ.set i<|.d<|.lst xs)):aP i (wL<|bG t) E N ρ:=ht _ ⟨hl,h⟩
theorem args_nil{E:Ex->Prop}:∀P:List D->Prop,P []->aA E ρ P:=λ_ h=>h
theorem args_cons{t:WA}{E:Ex->Prop}(hw:∀P:D->Prop,P d->w E ρ P)(ht:∀P:List D->Prop,P xs->t E ρ P):∀P:List D->Prop,P (d::xs)->aC w t E ρ P:=λP h=>hw _<|ht _ h
theorem c_at{E:Ex->Prop}:∀P:D->Prop,P d->wC d E ρ P:=λ_ h=>h
theorem for_seq{g:WG}{E:Ex->Prop}(hw:∀P:D->Prop,P (.lst xs)->w E ρ P)(h:ZbV g zb E N xs ρ):bN (iS w) g zb E N ρ:=hw _ h
namespace Gs
open Dt
section
theorem M3(h:IsSl s n)(e:cK s n=[]):L9 (jq s n) n/\Ma 223 (jq s n):=by obtain⟨b1,_⟩:=ME h;exact⟨⟨(nS h e).1,λr hr=>(b1 r hr).1,h.n1,h.n5⟩,λr hr=>(b1 r hr).2⟩
theorem DG{B:List (List Rat)}(hk:k<B.length):(gC B j).getD k 0=(B.getD k []).getD j 0:=by unfold gC;rw[aZ (l:=List.map _ _),cE,cA hk,aZ (l:=B),cA hk];rfl
theorem M4(h:IsSl s n)(e:cK s n=[])(hp:p<n):bC s n (gC (jq s n) p)=cS n p:=by
 have bl:=(nS h e).1;have e1:bC s n (gC (jq s n) p)=(e9 s n).map λl=>c7 l (gC (jq s n) p):=by unfold bC e9;rw[du];rfl
 rw[e1];conv=>lhs;rw[GX (e9 s n) []]
 rw[du,pR];unfold cS;refine Dc λi hi=>?_;show c7 ((e9 s n).getD i []) (gC (jq s n) p)=_;rw[xP h hi<|by rw[Am,bl],dS (g:=λk=>(tA (tbl s n) i k:Rat)*((jq s n).getD k []).getD p 0)<|λk hk=>by rw[DG<|by omega],(HL h e).tb i p hi hp];rfl
end
end Gs
theorem Ext.none{W W':Wd}{H H':Hp}{a:Addr}(x:Ext W H W' H')(h:H' a=none):H a=none:=by
 cases e:H a with
 |none=>rfl|some o=>by_cases p:W.Pn a;obtain⟨po,_⟩:=x.ok.p a (x.p a p);unfold Zpe at po;rw[h]at po;simp at po;rw[x.h a o e p]at h;cases h
abbrev rO:=List D->(Ex->Prop)->(List D->Prop)->Prop
abbrev qT:=(Ex->Prop)->(List D->Prop)->cX->Prop
def DH(S:rO):Prop:=∀ds E E' Q Q',(∀ex,E ex->E' ex)->(∀d,Q d->Q' d)->S ds E Q->S ds E' Q'
def tZ(K:O3)(W:Wd)(H:Hp)(Q:VK)(rs:List D):Prop:=∀a vs W' H',Ext W H W' H'->H' a=some (.lst vs)->W'.G a=none->¬W'.Pn a->H a=none->Reps K W' vs rs->Q (.ref a) H'
structure xX(X:Cx)(EX:XK)(sts:List Stmt)(z:qT):Prop where
 t:∃t,mq X sts t/\∀W0 H0 F W σ H ρ E Dn (QL:List D->Prop),SOk X.K W0 H0 W σ H ρ->Wle F W->jN X.K W0 H0 E EX->(∀rs,QL rs->tZ X.K W0 H0 Dn.rt rs)->z E QL ρ->t Dn σ H
 mono:∀E ρ Q Q',(∀ds,Q ds->Q' ds)->z E Q ρ->z E Q' ρ
section
variable{rest:List Stmt}
def kS(z:WS)(z':qT):qT:=λE QL ρ=>z E { nx:=z' E QL,rt:=λ_=>False } ρ
theorem xY{z':qT}(h1:PZ X EX st z)(h2:xX X EX rest z'):xX X EX (st::rest) (kS z z'):=by obtain⟨t1,p1,k1⟩:=h1.t;obtain⟨t2,p2,k2⟩:=h2.t;refine⟨⟨_,jG p1 p2,λW0 H0 F W σ H ρ E Dn QL s fl eo no h=>?_⟩,λE ρ Q Q' hq hz=>h1.mono E ρ { nx:=z' E Q,rt:=λ_=>False } { nx:=z' E Q',rt:=λ_=>False } ⟨λρ' h'=>h2.mono _ _ _ _ hq h',λ_ q=>q,λ_ q=>q,λ_ q=>q⟩ hz⟩;exact k1 W0 H0 F W σ H ρ E _ { nx:=z' E QL,rt:=λ_=>False } s fl eo ⟨λW1 σ1 H1 ρ1 s1 f1 hn=>k2 W0 H0 F W1 σ1 H1 ρ1 E Dn QL s1 f1 eo no hn,λ_ _ _ _ _ _ q=>q.elim,λ_ _ _ _ _ _ q=>q.elim,λ_ _ _ _ _ _ q=>q.elim⟩ h
end
def HU(K:O3)(S:rO):Sp:=λvs H Q EX=>∃ds W,WOk W H/\Reps K W vs ds/\S ds (λex=>∀W' H' cls dx,Ext W H W' H'->uv K W' H' cls dx ex->EX cls dx H') (tZ K W H Q)
structure DI(P:Program)(w:World)(K:O3)(mg:Str->Option Value)(base:Heap)(k:Nat)(x:Str)(ps:List Str)(S:rO):Prop where
 ok:∃f fd,eD P w K mg base (c9 P w) k f fd ps (HU K S)/\mg x=some (.ref f)/\PySem.W.keepIn K (.ref f)=true/\Binds K fd ps []
 mono:DH S
section
variable{p:Pos}{t:WA}{S:rO}
def aF(S:rO)(t:WA):WA:=λE ρ Q=>t E ρ λds=>S ds E Q
theorem M5(G:DI X.prog X.w X.K X.mg X.base k x ps S)(hr:Room j X.A)(hx:cF (c9 X.prog X.w) X EX)(ha:jh X EX (e::es) t)(hk:k<=j:=by decide)(hg:Gl X x:=by rfl)(hdb:(x==("__debug__" : Str))=false:=by decide)(he:starEach (e::es) X.env=(false,eval e X.env)::starEach es X.env:=by rfl)(hpl:(backTo pos<|starEach es X.env).any (·.1)=false:=by rfl) :
  PXL X EX (.Call (.Name x p) (e::es) [] pos) (aF S t):=by
 obtain⟨f,fd,F,hm,kp,hb⟩:=G.ok;have hS:=G.mono;obtain⟨ta,pa,ka⟩:=ha.t;refine⟨⟨_,lb F (hr.mono hk) hg hm kp hb .nil hx pa hdb he hpl,λW0 H0 W σ H ρ E Q s eo h=>?_⟩,λE ρ P P' hp z=>ha.mono _ _ _ _ (λds hds=>hS _ _ _ _ _ (λ_ q=>q) hp hds) z⟩;refine ka W0 H0 W σ H ρ E _ s eo<|ha.mono _ _ _ _ (λds hds vs W1 H1 x1 r1=>?_) h;refine⟨ds,W1,x1.ok,by rw[rX];exact r1,hS _ _ _ _ _ (λex hex W' H' cls dx x' r'=>?_) (λrs hrs a vs' W' H' x' h1 g1 g2 hn rr=>hrs a vs' W' H' (x1.trans x') h1 g1 g2 (x1.none hn) rr) hds⟩;exact eo ex W' H' cls dx hex (s.ext.trans<|x1.trans x') r'
end
section
variable{w:World}{N:List Str}{S:rO}{z:qT}
theorem DJ{N:List Str}{S:rO}{z:qT}(F:Fun K x qual st f fd)(sc:bT N ps (aE st))(len:∀ds E Q,S ds E Q->ds.length=ps.length)
  (hbody:∀ (cdv:Value) (A:Around) (outer:List Env) (s:Shared) (H:Hp) (E:XK),Room k (A.deeper<|envOfC qual (aE st) s.heap.objs.size f cdv)->
   cF (c9 P w) (cR (c9 P w) P w K mg base N qual (aE st) f cdv A outer s H E) E->jg (cR (c9 P w) P w K mg base N qual (aE st) f cdv A outer s H E) E->
   xX (cR (c9 P w) P w K mg base N qual (aE st) f cdv A outer s H E) E (bB st) z)
  (h:∀ds E Q,S ds E Q->z E Q (dY N ds)):eD P w K mg base (c9 P w) (k+1) f fd ps (HU K S):=by
 obtain⟨oc,od,kV,doc,pm,an,cdv,ct,osl,rfl,lk,hcd⟩:=F.ex;refine na lk hcd sc (λvs H Q E hs=>?_) λA outer s H vs Q E hr hs=>?_
 .obtain⟨ds,W,_,r,hS⟩:=hs
  rw[r.length];exact len _ _ _ hS
 .obtain⟨ds,W,ok,r,hS⟩:=hs
  obtain⟨t,p,k⟩:=(hbody cdv A outer s H E hr EW EY).t;refine⟨t,p,k W H W W (start N vs) H (dY N ds) (λex=>∀W' H' cls dx,Ext W H W' H'->uv K W' H' cls dx ex->E cls dx H') _ (tZ K W H Q) (Cu ok r) (.refl W) (λex W' H' cls dx he x r=>he W' H' cls dx x r) (λrs hrs=>hrs)<|h ds _ _ hS⟩
theorem DK(h:aX K mg x st)
  (hbody:∀ (sc:N.Nodup) (f:Addr) (cdv:Value) (A:Around) (outer:List Env) (s:Shared) (H:Hp) (E:XK),Room k (A.deeper<|envOfC x (aE st) s.heap.objs.size f cdv)->
   cF (c9 P w) (cR (c9 P w) P w K mg base N x (aE st) f cdv A outer s H E) E->jg (cR (c9 P w) P w K mg base N x (aE st) f cdv A outer s H E) E->
   xX (cR (c9 P w) P w K mg base N x (aE st) f cdv A outer s H E) E (bB st) z)
  (rd:∀ds E Q,S ds E Q->z E Q (dY N ds)) (len:∀ds E Q,S ds E Q->ds.length=ps.length) (mono:DH S)
  (sc:bT N ps (aE st):=by exact⟨rfl,rfl,rfl,by decide +kernel,rfl,by decide +kernel,by decide +kernel⟩)
  (hb:∀ (kV doc pm:Value) (an:Option Addr) (cdv ct:Value) (us:List Value),us.length=ps.length->bindArgs (PySem.W.fnOf x x (cc st) (bB st) (aE st) .none kV doc pm an cdv ct) ⟨us,[]⟩=pure (ps.zip us):=by
   intro _ _ _ _ _ _;(first|refine Ax ?_|refine Ay ?_|refine Az ?_|refine AA ?_);intros;rfl):DI P w K mg base (k+1) x ps S:=by
 obtain⟨f,fd,F,m,q⟩:=h;exact⟨⟨f,fd,DJ (z:=z) F sc len (λcdv A outer s H E hr hx hw=>hbody sc.nd f cdv A outer s H E hr hx hw) rd,m,F.kp,F.binds hb⟩,mono⟩
end
section
def nU(i:Nat)(w:WE):WS:=λE N ρ=>match ρ[i]? with
 |some (.d<|.int c)=>w E ρ<|isI λd=>N.nx (ρ.set i<|.d<|.int<|c+d)
 |_=>False
theorem uQ(i:Nat)(he:PX X EX e w)(hN:X.N.Nodup)(hi:X.N[i]? = some x:=by rfl)(hx:mo X.env.scope x:=by first|exact Or.inl rfl|exact Or.inr rfl)
  (hf:X.fn x=true\/X.env.scope.names.lookup x=some .local:=by first|exact .inl rfl|exact .inr rfl|assumption):PZ X EX (.AugAssign (.Name x pos') .Add e pos) (nU i w):=by
 obtain⟨t,p,k⟩:=he.t;refine⟨⟨_,sM hN hi hx p sO hf,λW0 H0 F W σ H ρ E Dn N s fl eo no h=>?_⟩,λE ρ N N' hl q=>?_⟩
 .unfold nU at h
  split at h
  .rename_i c ec
   obtain⟨v,e1,r⟩:=s.d i _ ec;cases r;refine⟨_,e1,k W0 H0 W σ H ρ E _ s eo<|he.mono _ _ _ _ (λd hd v W1 H1 x1 r1=>?_) h⟩;obtain⟨dn,rfl,hn⟩:=om hd;cases r1;exact⟨c,dn,rfl,rfl,no.nx W1 _ H1 _ ((s.step x1).set<|.int _) (fl.ext x1) hn⟩
  .exact h.elim
 .unfold nU at q ⊢
  split at q
  .exact he.mono _ _ _ _ (λd hd=>isI.mono (λn hn=>hl.nx _ hn) _ hd) q
  .exact q.elim
end
section
variable{o a b:Expr}{t:WA}{id:String}{g:Str->List D->(D->Prop)->Prop}
def CS(mg:Str->Option Value)(x y:Str):Prop:=∃t,mg x=some (.str y t)
theorem O0{y:Str}(X:K.In h)(G:h.Ns mainGlobals mg){t:Tok}(a:PySem.W.nsIn K mainGlobals x=some (some<|.str y t)):CS mg x y:=⟨t,PySem.W.mg_of X G a⟩
end
section
variable{p ps kp cp:Pos}{a:Expr}
def t4(t:WA):WA:=λE ρ Q=>t E ρ λds=>∃xs,ds=[.lst xs]/\Q (fH 1 xs)
theorem DL{t:WA}(hm:X.mg "enumerate" = none)(ha:jh X EX [a] t)(hg:Gl X "enumerate" :=by rfl)(hs:starEach [a] X.env=[(false,eval a X.env)]:=by rfl) :
  mw X EX (.Tuple es n1 ps) (.Call (.Name "enumerate" p) [a] [⟨some "start",.Constant (.int 1) j cp,kp⟩] pos) (t4 t):=by
 obtain⟨t,q,k⟩:=ha.t;refine⟨⟨_,Kk hg hm q hs,λW0 H0 W σ H ρ E R s eo h=>?_⟩,λE ρ P P' hp h=>ha.mono _ _ _ _ (λds ⟨xs,e,z⟩=>⟨xs,e,hp _ z⟩) h⟩;refine k W0 H0 W σ H ρ E _ s eo<|ha.mono _ _ _ _ (λds ⟨xs,e,hd⟩ vs W1 H1 x1 r1=>?_) h;subst e;obtain⟨v,rfl,rv⟩:=r1.one;cases rv with
 | @lst l vs _ e1 rr=>
  have sq:∀W2 H2,(∀a o,W1.G a=some o->W2.G a=some o)->WOk W2 H2->Sq X.K false H2 l vs:=λW2 H2 g ok=>SqL.of<|ok.g _ _ (g _ _ e1);refine⟨l,rfl,⟨vs,sq W1 H1 (λ_ _ z=>z) x1.ok⟩,hd W1 H1 _ x1 λW2 H2 i g2 p2 ok2=>⟨λd hd=>?_,λhi=>?_⟩⟩
  .have s1:=sq W2 H2 g2 ok2
   obtain⟨x,ex,rfl⟩:=Dl 1 i xs d hd;obtain⟨vx,evx,rvx⟩:=rr.get ex;refine⟨⟨vs,vx,s1,evx⟩,λz H3 hy=>?_⟩;obtain⟨q,x',rfl,hq,rfl,e1⟩:=hy;have e1:=e1 _ s1;rw[evx]at e1;cases e1;have xt:=Ext.put (o:=.tup [.int ((i+1:Nat):Int),vx]) ok2 hq;rw[yR 1 i];exact⟨_,xt,.tup (by unfold Wd.put;dsimp only;rw[aN])<|.cons (.int _)<|.cons (xt.rep<|rvx.mono g2 p2) .nil⟩
  .refine⟨vs,sq W2 H2 g2 ok2,?_⟩
   rw[rr.length];rw[Dk]at hi;omega
end
open Dt
abbrev tabD:=B.C.tabD
abbrev Sm:=B.C.Sm
def g0(t:List (List Int))(j:Nat):List (List Int):=(t.drop 1).map λr=>B.C.cutL r j
def bY(t:List (List Int)):Int:=dt (tA t) t.length
def uR(s:List Int)(n:Nat):List Int:=(List.range n).map λk=>bY<|tbl (cor s n<|k+1) (k+1)
def eW(s:List Int)(n:Nat):List Nat:=((List.range n).filter λk=>bY (tbl (cor s n<|k+1)<|k+1)==0).map (· + 1)
def AC:bO:=fnS (λx:Nat×List (List Int)=>[tabD x.2,.int x.1]) (λx=>x.2.length<=5/\(∀r∈x.2,r.length=x.2.length)/\x.1<x.2.length) λx=>tabD<|g0 x.2 x.1
def kT(i:Nat):bO:=fnS (λt:List (List Int)=>[tabD t]) (λt=>Sm 10 t.length t/\t.length<=i/\i<=5) λt=>.int<|bY t
def DM:bO:=kT 5
def DN(x:D):Except Str D:=ge x<|.ok (.int<|bY<|tbl (sI x)<|sN x)
def DO(x:D):Except Str D:=ge x<|.ok (.lst<|(uR (sI x)<|sN x).map .int)
def DP(x:D):Except Str D:=ge x<|.ok (xJ<|eW (sI x)<|sN x)
def xZ:bO:=xS (λx:D=>[x]) (λx=>kd x=true) DN
def yb:bO:=xS (λx:D=>[x]) (λx=>kd x=true) DO
def AD:bO:=xS (λx:D=>[x]) (λx=>kd x=true) DP
section
variable{E:Ex->Prop}{x:D}
theorem M6(h1:t.length<=5)(h2:∀r∈t,r.length=t.length)(h3:k<t.length)(q:Q (tabD<|g0 t k)):AC [tabD t,.int k] E Q:=⟨(k,t),rfl,⟨h1,h2,h3⟩,q⟩
theorem M7(h:Sm 10 t.length t)(h5:t.length<=5)(q:Q (.int<|bY t)):DM [tabD t] E Q:=⟨t,rfl,⟨h,h5,bS _⟩,q⟩
theorem M8(h:IsSl s n)(q:Q (.int<|bY<|tbl s n)):xZ [aL s] E Q:=xS.ok (aL s) rfl h.kd (by(try dsimp only);unfold DN;rw[gH h,dP,h.sN]) q
theorem M9(h:IsSl s n)(q:Q (.lst<|(uR s n).map .int)):yb [aL s] E Q:=xS.ok (aL s) rfl h.kd (by(try dsimp only);unfold DO;rw[gH h,dP,h.sN]) q
theorem Na(h:kd x=true)(hb:fo x=false)(e:E "NoSlants"):yb [x] E Q:=xS.err x rfl h (lv hb) e
theorem Nb(h:IsSl s n)(q:Q (xJ<|eW s n)):AD [aL s] E Q:=xS.ok (aL s) rfl h.kd (by(try dsimp only);unfold DP;rw[gH h,dP,h.sN]) q
end
theorem AE(t:List (List Int))(j:Nat):(g0 t j).length=t.length-1:=by unfold g0;rw[bQ,iD]
theorem DQ(h:Sm b n t)(hj:j<n):Sm b (n-1) (g0 t j):=by
 refine⟨by rw[AE,h.len],λr hr=>?_,λr hr x hx=>?_⟩;obtain⟨r',hr',rfl⟩:=YbT.mp hr;have:=h.row r'<|ly hr';unfold B.C.cutL;simp only[d9,gj,iD];omega
 obtain⟨r',hr',rfl⟩:=YbT.mp hr;exact h.sm r' (ly hr') x<|B.C.cut_mem hx
theorem Nc(h:Sm b n t)(hj:j<n):bY (g0 t j)=dt (cut (tA t) 0 j) (n-1):=by
 have e:=h.len;unfold bY;rw[AE,e];refine DB λi hi k hk=>?_;show B.C.ga (B.C.gr (g0 t j) i) k=B.C.ga (B.C.gr t<|sk 0 i) (sk j k);have e1:B.C.gr (g0 t j) i=B.C.cutL (B.C.gr t<|i+1) j:=by show(g0 t j).getD i []=_;unfold g0 B.C.gr;rw[aZ,cE,ui,aZ,yR 1 i,cA<|by omega];rfl
 rw[e1,show sk 0 i=i+1 from rfl,HK (by rw[(h.gr (k:=i+1)<|by omega).2.1];omega)]
theorem HV(h:Sm b n t)(n1:1<=n)(hn:n<=5):bD (λj=>tA t 0 j*(sg j*bY (g0 t j))) n=bY t:=by have:=Cj (tA t) hn (i:=0) (k:=0) (by omega) (by omega);rw[if_pos rfl]at this;rw[show bY t=dt (tA t) n from by unfold bY;rw[h.len],<-this];refine uu λj hj=>?_;unfold gp;rw[Nc h hj,sd]
theorem AF{f:Nat->Int}{B:Nat}:∀{n:Nat},(∀j,j<n->(f j).natAbs<=B)->(bD f n).natAbs<=n*B
 |0,_=>by simp[bD]|n+1,h=>by rw[bD,qX];have h1:=AF (n:=n) λj hj=>h j (by omega);have h2:=h n (by omega);have:=Int.natAbs_add_le (bD f n)<|f n;omega
theorem DR(j:Nat):(sg j).natAbs=1:=by unfold sg;split<;>rfl
theorem Nd{Z:Nat}(h:Sm b n t)(n1:1<=n)(hB:(bY<|g0 t j).natAbs<=Z):(tA t 0 j*(sg j*bY (g0 t j))).natAbs<=2^b*Z:=by rw[gK,gK,DR,Nat.one_mul];exact n8 (pX<|B.C.ga_lt (h.gr (k:=0)<|by omega).2.2) hB
theorem AG{b:Nat}:∀{n:Nat} {t:List (List Int)},Sm b n t->n<=5->(bY t).natAbs<=2^(n*(b+3))
 |0,t,h,_=>by unfold bY;rw[h.len,Nat.zero_mul];exact bS 1|n+1,t,h,hn=>by rw[<-HV h (by omega) hn];refine hX (AF (B:=2^b*2^(n*(b+3))) λj hj=>Nd h (by omega)<|AG (DQ h hj)<|by omega) ?_;rw[show(n+1)*(b+3)=3+(b+n*(b+3)) from by rw[qX];omega,r8,<-r8 2 b];exact n8 (by omega)<|bS _
theorem DS(h:IsSl s n)(hk:k<=n)(hi:i<k)(hj:j<k):ent (cor s n k) k i j=ent s n i j:=by unfold ent cor;rw[aZ,vd,if_pos<|by omega,ui,aZ,show n-k+(k-1-i+j)=n-1-i+j by omega]
theorem Nf(h:IsSl s n):Sm 10 n (tbl s n):=⟨j6 s n,λr hr=>(nO h r hr).1,λr hr x hx=>by
 have:=(nO h r hr).2 x hx;show x.natAbs<1024;omega⟩
abbrev ZeT:List Str:=["table", "column"]
def DT:WS:=(aM<|wL<|aLC (iS<|bP (wN 0) (dF<|wC<|D.int<|1) eO) 1 [1] (gN 0) dC<|w2 gAdd (bP (wN 0) eO<|dF<|wN 1)<|bP (wN 0) (dF<|w2 gAdd (wN 1)<|wC<|D.int<|1) eO)
abbrev rP:List Str:=["table", "total", "sign", "column", "number"]
abbrev t5:List Str:=["table"]
def mH(W:WA->WE):WS:=(aI (cQ (wT<|w2 (gEq false) (wB bR<|aC (wN 0) aA)<|wC<|D.int<|0) (aM<|wC<|D.int<|1) cT)<|aI (aP 1<|wC<|D.int<|0)<|aI (aP 2<|wC<|D.int<|1)<|aI (bK<|bN (iE<|aC (w2 gIx (wN 0)<|wC<|D.int<|0) aA) (fg 2<|dh (gN 3)<|dh (gN 4) e8)<|aI (nU 1<|w2 gMul (w2 gMul (wN 2)<|wN 4)<|W<|aC (wF AC<|aC (wN 0)<|aC (wN 3) aA) aA)<|aP 2<|w1 fk<|wN 2)<|aM<|wN 1)
abbrev Zip:List Str:=["slants"]
def DU:WS:=(aM<|wF DM<|aC (wF xg<|aC (wN 0) aA) aA)
abbrev Zeq:List Str:=["slants"]
def DV:WS:=(aI (eP<|wF oq<|aC (wN 0) aA)<|aM<|wL<|aLC (iP<|aC (wC<|D.int<|1)<|aC (w2 gAdd (wF lZ<|aC (wN 0) aA)<|wC<|D.int<|1) aA) 1 [0] (gN 0) dC<|wF xZ<|aC (wF ot<|aC (wN 1)<|aC (wN 0) aA) aA)
abbrev Zg5:List Str:=["slants"]
def DW:WS:=(aM<|wL<|aLC (t4<|aC (wF yb<|aC (wN 0) aA) aA) 2 [] (fg 2<|dh (gN 0)<|dh (gN 1) e8) (wT<|w2 (gEq false) (wN 1)<|wC<|D.int<|0)<|wN 0)
theorem AH{g:WG}{zb:WS}{E:Ex->Prop}{N:Nds}(I:Nat->cX->Prop):∀(xs:List D) (k0:Nat),(∀k d,xs[k]? = some d->∀ρ,I (k0+k) ρ->∀nx:cX->Prop,(∀ρ,I (k0+k+1) ρ->nx ρ)->g (.tup [.int ((k0+k:Nat):Int),d]) ρ λρ1=>zb E { nx:=nx,rt:=N.rt,bk:=N.nx,ct:=nx } ρ1)->(∀ρ,I (k0+xs.length) ρ->N.nx ρ)->∀ρ,I k0 ρ->ZbV g zb E N (fH k0 xs) ρ
 |[],k0,_,hn,ρ,i=>hn ρ i
 | x::xs,k0,h,hn,ρ,i=>h 0 x rfl ρ i _<|AH I xs (k0+1) (λk d hd ρ hi nx hnx=>by
   have:=h (k+1) d hd ρ (by rw[show k0+(k+1)=k0+1+k by omega];exact hi) nx (λρ hρ=>hnx ρ (by rw[show k0+1+k+1=k0+(k+1)+1 by omega];exact hρ));rw[show k0+1+k=k0+(k+1) by omega];exact this) (λρ hρ=>hn ρ (by rw[dX,show k0+(xs.length+1)=k0+1+xs.length by omega];exact hρ))
theorem Ng:Rd AC DT ZeT:=by rintro _ E Q ⟨⟨k,t⟩,rfl,⟨h5,hr,hk⟩,q⟩;dsimp only at h5 hr hk q;show DT E _ [.d<|.lst<|t.map d7,.d<|.int k];unfold DT;walk_at "st";rw[show aV (t.map d7) (some 1) none=(t.map d7).drop 1 from GD (a:=1) (by rw[bQ];omega),<-p9];refine jR (g:=d7) (f:=λr=>d7<|B.C.cutL r k) (t.drop 1) (λr hr' Q hq=>?_) .un [] (eV (by simp;omega)) ?_;have rl:=hr r (ly hr');unfold d7 at hq ⊢;walk_at "st";rw[z7 (b:=k) rfl,show((k:Int)+1)=((k+1:Nat):Int) from rfl,GD (by rw[bQ];omega)];unfold B.C.cutL at hq;rw[gL,mj,p9]at hq;exact⟨eV (by simp;omega),hq⟩;unfold tabD B.C.tabD g0 at q;rw[du]at q;exact q
theorem AI{x:Int}(h:x.natAbs<=2^b)(hb:b<8990):Bd x:=jD h<|Nat.pow_lt_pow_right (by decide) hb
theorem Nh:∀ds E Q,kT 0 ds E Q->mH (λ_=>Dh) E { nx:=λ_=>Q .non,rt:=Q } (dY rP ds):=by
 rintro _ E Q ⟨t,rfl,⟨h,h0,_⟩,q⟩;dsimp only at h h0 q;have e:t=[]:=List.length_eq_zero_iff.mp (by omega);subst e;show mH _ E _ [.d<|.lst [],.un,.un,.un,.un];unfold mH;refine bH<|eU (b:=true) (λP hP=>?_) (λ_=>?_) λe=>nomatch e
 walk_at "st";exact hP;exact q
theorem yc(i:Nat):∀ds E Q,kT (i+1) ds E Q->mH (wF<|kT i) E { nx:=λ_=>Q .non,rt:=Q } (dY rP ds):=by
 rintro _ E Q ⟨t,rfl,⟨h,hi,i5⟩,q⟩;dsimp only at h hi i5 q;show mH _ E _ [.d<|.lst<|t.map d7,.un,.un,.un,.un];unfold mH;by_cases t0:t=[];subst t0;refine bH<|eU (b:=true) (λP hP=>?_) (λ_=>?_) λe=>nomatch e
 walk_at "st";exact hP;exact q;generalize hn:t.length=n at h hi;have n1:1<=n:=by rw[<-hn];exact List.length_pos_iff.mpr t0
 refine bH<|eU (b:=false) (λP hP=>?_) (λe=>nomatch e) λ_=>?_
 walk_at "st";rw[bQ,hn,show((n:Int)==0)=false from by rw[Pu];omega];exact hP;dsimp only;refine bH<|LP.set_by (d:=.int 0) (ρ':=[.d<|.lst<|t.map d7,.d<|.int 0,.un,.un,.un]) (by rfl) LP.c_at ?_;dsimp only;refine bH<|LP.set_by (d:=.int 1) (ρ':=[.d<|.lst<|t.map d7,.d<|.int 0,.d<|.int 1,.un,.un]) (by rfl) LP.c_at ?_;dsimp only;refine bH ?_;simp only[bK,bN];obtain⟨g1,g2,g3⟩:=h.gr (k:=0) (by omega);walk_at "st";refine⟨d7<|B.C.gr t 0,B.C.gr_map (k:=0) (by omega) rfl,?_⟩;have s5:∀k,k<n->(bY<|g0 t k).natAbs<=2^((n-1)*(10+3)):=λk hk=>AG (DQ h hk) (by omega);refine AH (λk ρ=>∃s3 s4,ρ=[.d<|.lst<|t.map d7,.d<|.int<|bD (λj=>tA t 0 j*(sg j*bY (g0 t j))) k,.d<|.int<|sg k,s3,s4]) _ 0 ?_ ?_ _ ⟨_,_,rfl⟩
 rintro k d hd _ ⟨s3,s4,rfl⟩ nx hnx;rw[sd]at hnx ⊢;have hk:k<n:=by have:=(Yar.mp hd).1;rw[bQ,g2]at this;exact this
 have ed:d=.int (tA t 0 k):=by rw[cE,B.C.ga_get g2 hk]at hd;exact(O8 hd).symm
 subst ed;refine⟨rfl,?_⟩;simp only[dh,e8,gN,ia,h8];show aI _ _ _ _ [.d<|.lst<|t.map d7,.d<|.int<|bD (λj=>tA t 0 j*(sg j*bY (g0 t j))) k,.d<|.int<|sg k,.d<|.int k,.d<|.int<|tA t 0 k];generalize hS:bD (λj=>tA t 0 j*(sg j*bY (g0 t j))) k=Sk;have eS:bD (λj=>tA t 0 j*(sg j*bY (g0 t j))) (k+1)=Sk+sg k*tA t 0 k*bY (g0 t k):=by rw[bD,hS];grind
 have ba:(tA t 0 k).natAbs<=2^10:=pX<|B.C.ga_lt g3;have bs:(sg k).natAbs<=2^0:=by rw[DR];exact bS 1
 refine bH ?_;simp only[nU,eZ,dv,w2,wN];refine⟨⟨AI bs<|by decide,AI ba<|by decide⟩,?_⟩;simp only[wF,aC,aA,wN,eZ,dv];refine M6 (t:=t) (by omega) (λr hr=>by rw[h.row r hr,hn]) (by omega) ?_;refine⟨g0 t k,rfl,⟨?_,?_,by omega⟩,?_⟩;rw[AE,hn];exact DQ h hk;rw[AE,hn];omega;have hb4:(n-1)*(10+3)<8990:=jD (n8 (show n-1<=4 by omega)<|bS<|10+3) (by decide);have b1:(sg k*tA t 0 k).natAbs<=2^10:=by rw[gK,DR,Nat.one_mul];exact ba
 refine⟨⟨AI b1<|by decide,AI (s5 k hk) hb4⟩,?_⟩;try dsimp only
 show aP 2 (w1 fk<|wN 2) _ _ [.d<|.lst<|t.map d7,.d<|.int<|Sk+sg k*tA t 0 k*bY (g0 t k),.d<|.int<|sg k,.d<|.int k,.d<|.int<|tA t 0 k];refine LP.set_by (d:=.int<|sg<|k+1) (ρ':=[.d<|.lst<|t.map d7,.d<|.int<|Sk+sg k*tA t 0 k*bY (g0 t k),.d<|.int<|sg<|k+1,.d<|.int k,.d<|.int<|tA t 0 k]) (by rfl) (λP hP=>?_)<|hnx _ ⟨_,_,by rw[eS]⟩;have:sg (k+1) = - sg k:=by unfold sg;by_cases z:k%2=0;rw[if_pos z,if_neg<|by omega];rw[if_neg z,if_pos<|by omega];rfl
 rw[this]at hP;exact hP;rintro _ ⟨s3,s4,rfl⟩;rw[bQ,g2,sd,HV h n1<|by omega];exact q
theorem Ni:Rd xZ DU Zip:=by
 rintro _ E Q ⟨x,rfl,hk,q⟩;show DU E _ [.d x];unfold DU;walk_at "st";unfold DN at q;cases e:fo x with
 |false=>exact xS.err x rfl hk (lv e)<|l5 e q
 |true=>
 obtain⟨s,n,rfl,h⟩:=mB e;replace q:=l6 h q;rw[dP,h.sN]at q;have:=Nf h;exact F3 h<|M7 (t:=tbl s n) (by rw[j6];exact this) (by rw[j6];exact h.n5) q
theorem Nj(h:IsSl s n){Q:List D->Prop}(q:Q ((uR s n).map .int)):lcW (gN 0) dC (wF xZ<|aC (wF ot<|aC (wN 1)<|aC (wN 0) aA) aA) (rng 1 n) [.un,.d<|aL s] [] Q:=by
 have n5:=h.n5;have e:rng 1 n=(List.range n).map λ(k:Nat)=>D.int ((k+1:Nat):Int):=by unfold rng;exact hJ λk _=>by simp;omega
 rw[e];refine jR (g:=λk:Nat=>D.int ((k+1:Nat):Int)) (f:=λk=>D.int<|bY<|tbl (cor s n<|k+1)<|k+1) (List.range n) (λk hk Q hq=>?_) .un [] (eV (by simp;omega)) ?_;rw[Yah]at hk;walk_at "st";exact uF h (by omega) (by omega)<|M8 (gA h (by omega)<|by omega) hq
 unfold uR at q;rw[du]at q;exact q
theorem Nk:Rd yb DV Zeq:=by
 rintro _ E Q ⟨x,rfl,hk,q⟩;show DV E _ [.d x];unfold DV;refine bH ?_;simp only[eP,wF,aC,aA,wN,dv];unfold DO at q;cases e:fo x with
 |false=>exact F2 hk e<|l5 e q
 |true=>
 obtain⟨s,n,rfl,h⟩:=mB e;replace q:=l6 h q;rw[dP,h.sN]at q;have n5:=h.n5;refine CU h ?_;simp only[aM,wL,aLC,iP,wF,aC,aA,wN,wC,w2,Zcf,dv,c6,hZ,List.replicate,iG,eY];refine tO h ?_;walk_at "st";refine⟨by omega,?_⟩;rw[show((n:Int)+1-1).toNat=n by omega];exact Nj h q
theorem DX{Q:List D->Prop}(f:Nat->Int)(P:Nat->Bool)(hP:∀k,P k=(f k==0)):∀(n k0:Nat) (sv sv':SV) (acc:List D),acc.length+n<=5000->Q (acc++(((List.range n).filter λk=>P<|k0+k).map λk=>D.int ((k0+k+1:Nat):Int)))->lcW (fg 2<|dh (gN 0)<|dh (gN 1) e8) (wT<|w2 (gEq false) (wN 1)<|wC<|D.int<|0) (wN 0) (fH (k0+1)<|(List.range n).map λk=>D.int<|f<|k0+k) (sv::sv'::[]) acc Q
 |0,k0,sv,sv',acc,_,hq=>by simpa[lcW,fH] using hq
 |n+1,k0,sv,sv',acc,hl,hq=>by
  rw[Bp,c6,du,fH,lcW];refine⟨rfl,?_⟩;show wT (w2 (gEq false) (wN 1)<|wC<|D.int 0) No (SV.d (.int ((k0+1:Nat):Int))::SV.d (.int<|f<|k0+0)::[]) _;simp only[wT,w2,wN,wC,eZ,dv,kM];have eq1:(λk=>D.int<|f<|k0+k)∘Nat.succ=λk=>D.int (f<|k0+1+k):=by funext k;show D.int (f<|k0+(k+1))=_;rw[show k0+(k+1)=k0+1+k by omega]
  rw[eq1];have eq2:((List.map Nat.succ<|List.range n).filter λk=>P<|k0+k).map (λk=>D.int ((k0+k+1:Nat):Int))=((List.range n).filter λk=>P<|k0+1+k).map λk=>D.int ((k0+1+k+1:Nat):Int):=by
   rw[List.filter_map,du];have:((λk=>P<|k0+k)∘Nat.succ)=λk=>P (k0+1+k):=by funext k;show P (k0+(k+1))=_;rw[show k0+(k+1)=k0+1+k by omega]
   rw[this];exact hJ λk _=>by show D.int ((k0+(k+1)+1:Nat):Int)=_;rw[show k0+(k+1)+1=k0+1+k+1 by omega]
  rw[Bp]at hq;have b0:(f (k0+0)==0)=P (k0+0):=(hP _).symm;cases e:P (k0+0) with
  |true=>rw[List.filter_cons_of_pos<|by exact e,c6,eq2]at hq;rw[mC,b0,e,if_pos (show(if false=true then !true else true)=true from rfl)];show acc.length<aO/\_;refine⟨by unfold aO;omega,?_⟩;exact DX f P hP n (k0+1) _ _ _ (by simp;omega) (by rw[nZ];exact hq)|false=>rw[List.filter_cons_of_neg (by rw[e];decide),eq2]at hq;rw[mC,b0,e,if_neg (show¬(if false=true then !false else false)=true by decide)];exact DX f P hP n (k0+1) _ _ _ (by omega) hq
theorem Nl(h:IsSl s n){Q:List D->Prop}(q:Q ((eW s n).map λ(k:Nat)=>D.int (k:Int))):lcW (fg 2<|dh (gN 0)<|dh (gN 1) e8) (wT<|w2 (gEq false) (wN 1)<|wC<|D.int<|0) (wN 0) (fH 1<|(uR s n).map .int) (.un::.un::[]) [] Q:=by
 have n5:=h.n5;unfold uR;rw[du];have:=DX (Q:=Q) (λk=>bY<|tbl (cor s n<|k+1)<|k+1) (λk=>bY (tbl (cor s n<|k+1)<|k+1) == 0) (λ_=>rfl) n 0 .un .un [] (by simp;omega) (by
  unfold eW at q;rw[du]at q;simp only[sd,eY];exact q)
 simp only[sd]at this;exact this
theorem Nm:Rd AD DW Zg5:=by
 rintro _ E Q ⟨x,rfl,hk,q⟩;show DW E _ [.d x];unfold DW;simp only[aM,wL,aLC,t4,wF,aC,aA,wN,Zcf,dv,c6,hZ,List.replicate,iG,eY];unfold DP at q;cases e:fo x with
 |false=>exact Na hk e<|l5 e q
 |true=>
 obtain⟨s,n,rfl,h⟩:=mB e;replace q:=l6 h q;rw[dP,h.sN]at q;refine M9 h ⟨_,rfl,?_⟩;exact Nl h q
namespace Gs
section
variable{T B:Nat->Nat->Rat}
theorem Bk.solve(h:Bk n T B){X y:Nat->Rat}(e:∀i,i<n->aS (λk=>T i k*X k) n=y i)(hk:k<n):X k=aS (λm=>B k m*y m) n:=by
 rw[<-sum_dl X hk];rw [dS (g:=λi=>aS (λm=>B k m*(T m i*X i)) n) (λi hi=>by
  rw[<-h.bt k i hk hi,uq,<-gZ];exact dS λm _=>by grind),xM]
 exact dS λm hm=>by rw[gZ,e m hm]
theorem Bk.made(h:Bk n T B){y:Nat->Rat}(hi:i<n):aS (λk=>T i k*aS (λm=>B k m*y m) n) n=y i:=by rw[dS (g:=λk=>aS (λm=>y m*(T i k*B k m)) n) (λk _=>by rw[<-gZ];exact dS λm _=>by grind),xM];rw[dS (g:=λm=>dl i m*y m)<|λm hm=>by rw[gZ,h.tb i m hi hm,uq]];exact sum_dl y hi
end
theorem yd{a c:List Rat}(h:a.length=c.length):(bX a q c).getD j 0=a.getD j 0-q*c.getD j 0:=by unfold bX;simp only[aZ];by_cases hj:j<a.length;rw[cA (by rw[mK];omega),cA hj,cA<|by omega,sf];rfl;rw[eL (by rw[mK];omega),eL<|by omega,eL<|by omega];show(0:Rat)=0-q*0;grind
theorem t6{a c:List Rat}(h:a.length=c.length):(bX a q c).length=a.length:=by unfold bX;rw[mK];omega
theorem HW{a:List Rat}:(iB a q).getD j 0=a.getD j 0/q:=by
 unfold iB;rw[aZ,cE,aZ];cases a[j]? with
 |none=>show(0:Rat)=0/_;rw[ic,iH]|some x=>rfl
theorem HX{a:List Rat}:(iB a q).length=a.length:=by unfold iB;rw[bQ]
theorem ye{a b:List Rat}(ha:a.length=n)(hb:b.length=n)(h:∀k,k<n->a.getD k 0=b.getD k 0):a=b:=by
 refine List.ext_getElem (by rw[ha,hb]) λt h1 h2=>?_;have e1:a[t]=a.getD t 0:=by rw[aZ,cA h1];rfl
 have e2:b[t]=b.getD t 0:=by rw[aZ,cA h2];rfl
 rw[e1,e2];exact h t (by omega)
section
theorem cor_cor(hk:k<=n)(hj:j<=k)(j1:1<=j)(h:IsSl s n):cor (cor s n k) k j=cor s n j:=by have hl:=h.len;unfold cor;rw[List.drop_take,List.drop_drop,List.take_take];congr 1;omega;congr 1;omega
def Stg(s:List Int)(n:Nat):Prop:=∀k,1<=k->k<=n->cK (cor s n k) k=[]
theorem qU(h:IsSl s n):eW s n=[]↔Stg s n:=by
 unfold eW Stg;rw[List.map_eq_nil_iff,List.filter_eq_nil_iff];constructor;intro e k k1 kn;have:=e (k-1)<|Yah.mpr (by omega);rw[show k-1+1=k by omega]at this;refine(l8<|gA h k1 kn).mpr λz=>this ?_;unfold bY;rw[j6,z];rfl
 intro e a ha z;rw[Yah]at ha;have:=(l8<|gA h (by omega)<|by omega).mp<|e (a+1) (by omega) (by omega);apply this;have z':bY (tbl (cor s n<|a+1)<|a+1)=0:=by simpa using z
 unfold bY at z';rw[j6]at z';exact z'
theorem Stg.cor(h:IsSl s n)(g:Stg s n)(k1:1<=k)(kn:k<=n):Stg (cor s n k) k:=λj j1 jk=>by rw[cor_cor kn jk j1 h];exact g j j1 (by omega)
theorem Af(h:IsSl s n):LP.cor s n n=s:=by have:=h.len;unfold LP.cor;rw[vc,pZ,y3<|by omega]
theorem Stg.full(h:IsSl s n)(g:Stg s n):cK s n=[]:=by have:=g n h.n1<|bS _;rw[Af h]at this;exact this
def dU(s:List Int)(n:Nat):List Rat:=gC (jq s n) 0
def dW(s:List Int)(n:Nat):List Rat:=gC (jq s n)<|n-1
def bq(s:List Int)(n i j:Nat):Rat:=((jq s n).getD i []).getD j 0
def tq(s:List Int)(n i j:Nat):Rat:=(tA (tbl s n) i j:Rat)
theorem pT(h:IsSl s n)(e:cK s n=[]):Bk n (tq s n) (bq s n):=HL h e
theorem Nn(h:IsSl s n):Tz n (tq s n):=xR h
theorem pU(h:IsSl s n)(e:cK s n=[]):(dU s n).length=n:=by unfold dU;rw[Am,(nS h e).1]
theorem nV(h:IsSl s n)(e:cK s n=[]):(dW s n).length=n:=by unfold dW;rw[Am,(nS h e).1]
theorem yf(h:IsSl s n)(e:cK s n=[])(hk:k<n):(dU s n).getD k 0=bq s n k 0:=DG (by rw[(nS h e).1];exact hk)
theorem uS(h:IsSl s n)(e:cK s n=[])(hk:k<n):(dW s n).getD k 0=bq s n k (n-1):=DG (by rw[(nS h e).1];exact hk)
theorem DY(h:IsSl s n)(k1:1<=k)(hk:k<=n)(hi:i<k)(hj:j<k):tq (cor s n k) k i j=tq s n i j:=by unfold tq;rw[tA_ent (gA h k1 hk) hi hj,tA_ent h (by omega)<|by omega,DS h hk hi hj]
theorem HY(h:IsSl s n)(hi:i<n)(hj:j<n):(gp (tA<|tbl s n) n j i).natAbs<=2^36:=by
 have hs:=B.C.tbl_Sm h;have n5:=h.n5;have p:=B.C.prt_sm hs hi hj;rw[<-MP hs n5 hi hj,gK];have e:(B.C.sgn i j).natAbs=1:=by rcases B.C.sgn_one i j with z|z<;>rw[z]<;>rfl
 rw[e,Nat.mul_one,Ao p<|by omega];have:=AG p (by omega);unfold bY at this;rw[p.len]at this;refine hX this<|mL (by decide) ?_;have:n-1<=4:=by omega
 exact hX (n8 this<|bS<|6+3) (by decide)
theorem HZ(h:IsSl s n):(dt (tA<|tbl s n) n).natAbs<=2^45:=by have hs:=B.C.tbl_Sm h;have:=AG hs h.n5;unfold bY at this;rw[j6]at this;exact hX this<|mL (by decide) (hX (n8 h.n5<|bS<|6+3)<|by decide)
theorem Ia(h:IsSl s n)(e:cK s n=[])(hi:i<n)(hj:j<n):Sz 50 (bq s n i j):=by unfold bq;rw[(nS h e).2 i j hi hj,<-Rat.divInt_eq_div];have a:=HY h hi hj;have b:=HZ h;exact xw ((l8 h).mp e) (jD a<|by decide)<|jD b (by decide)
theorem Ib(h:IsSl s n)(e:cK s n=[]):∀x∈dU s n,Sz 50 x:=λx hx=>by
 obtain⟨i,hi,ex⟩:=YbA.mp hx;rw[pU h e]at hi;have:(dU s n).getD i 0=x:=by rw[aZ,cA (by rw[pU h e];exact hi)];exact ex
 rw[<-this,yf h e hi];exact Ia h e hi (by omega)
theorem AJ(h:IsSl s n)(e:cK s n=[]):∀x∈dW s n,Sz 50 x:=λx hx=>by
 obtain⟨i,hi,ex⟩:=YbA.mp hx;rw[nV h e]at hi;have:(dW s n).getD i 0=x:=by rw[aZ,cA (by rw[nV h e];exact hi)];exact ex
 rw[<-this,uS h e hi];exact Ia h e hi (by have:=h.n1;omega)
theorem t7(r:List Rat):(bC s n r).length=n:=by unfold bC;rw[bQ,j6]
theorem uT(h:IsSl s n)(hr:r.length=n)(hi:i<n):(bC s n r).getD i 0=aS (λj=>tq s n i j*r.getD j 0) n:=by
 have e1:bC s n r=(e9 s n).map λl=>c7 l r:=by unfold bC e9;rw[du];rfl
 rw[e1,aZ,cE];have:(e9 s n)[i]? = some ((e9 s n).getD i []):=by rw[aZ,cA (by rw[pR];exact hi)];rfl
 rw[this];exact xP h hi hr
theorem DZ(h:IsSl s n)(e:cK s n=[])(e':n=1\/2<=n/\cK (cor s n<|n-1) (n-1)=[]):bq s n 0 0≠0:=by
 have n1:=h.n1;unfold bq;rw[(nS h e).2 0 0 (by omega)<|by omega];have dz:(dt (tA<|tbl s n) n:Rat)≠0:=by exact_mod_cast (l8 h).mp e
 have cz:(gp (tA<|tbl s n) n 0 0:Rat)≠0:=by
  have:gp (tA<|tbl s n) n 0 0≠0:=by
   unfold gp;rw[show sg (0+0)=1 from rfl,ug];rcases e' with rfl|⟨n2',e'⟩
   exact show(1:Int)≠0 by decide
   have n2:1<=n-1:=by omega
   have c:=gA h n2<|Nat.sub_le n 1;have:=(l8 c).mp e';rw[<-DB (A:=tA<|tbl (cor s n<|n-1)<|n-1) (B:=cut (tA<|tbl s n) 0 0) λi hi j hj=>?_]
   exact this;show _=tA (tbl s n) (i+1) (j+1);rw[tA_ent c hi hj,DS h (Nat.sub_le n 1) hi hj,tA_ent h (by omega)<|by omega];unfold ent;rw[show n-1-i+j=n-1-(i+1)+(j+1) by omega]
  exact_mod_cast this
 intro z;rw[ic]at z;rcases Rat.mul_eq_zero.mp z with z|z
 exact cz z;have:=y9 _ dz;rw[z,jE]at this;exact O5 this (by decide)
end
section
theorem yg{a:List Rat}:(a++[0]).getD k 0=a.getD k 0:=by
 rw[xQ];split;rfl;rename_i h;have:a.getD k 0=0:=by rw[aZ,eL<|by omega];rfl
 rw[this];cases k-a.length<;>rfl
theorem Np{a:List Rat}:((0:Rat)::a).getD (k+1) 0=a.getD k 0:=um
def cB(s:List Int)(n:Nat):List Rat:=dU (cor s (n+1) n) n++[0]
def cP(s:List Int)(n:Nat):List Rat:=0::dW (cor s (n+1) n) n
def fY(s:List Int)(n:Nat):Rat:=(bC s (n+1)<|cB s n).getD n 0
def g6(s:List Int)(n:Nat):Rat:=(bC s (n+1)<|cP s n).getD 0 0
def fM(s:List Int)(n:Nat):Rat:=1-fY s n*g6 s n
theorem D0(h:IsSl s (n+1))(n1:1<=n)(ec:cK (cor s (n+1) n) n=[])(hi:i<n+1):aS (λk=>tq s (n+1) i k*(cB s n).getD k 0) (n+1)=if i=n then fY s n else dl i 0:=by
 have c:=gA h n1<|iF n;have bl:(cB s n).length=n+1:=by unfold cB;rw[d9,pU c ec];rfl
 split;rename_i e;subst e;rw[<-uT h bl hi];rfl;rename_i e;have hi':i<n:=by omega
 rw[aS];have z:(cB s n).getD n 0=0:=by unfold cB;rw[yg,aZ,eL (by rw[pU c ec];exact bS _)];rfl
 rw[z,jE,p8,<-(pT c ec).tb i 0 hi' (by omega)];refine dS λk hk=>?_;unfold cB;rw[yg,yf c ec hk,DY h n1 (iF n) hi' hk]
theorem D1(h:IsSl s (n+1))(n1:1<=n)(ec:cK (cor s (n+1) n) n=[])(hi:i<n+1):aS (λk=>tq s (n+1) i k*(cP s n).getD k 0) (n+1)=if i=0 then g6 s n else dl i n:=by
 have c:=gA h n1<|iF n;have bl:(cP s n).length=n+1:=by unfold cP;rw[dX,nV c ec]
 split;rename_i e;subst e;rw[<-uT h bl hi];rfl;rename_i e;obtain⟨i',rfl⟩:∃i',i=i'+1:=⟨i-1,by omega⟩;rw[Dy];have z:(cP s n).getD 0 0=0:=rfl;rw[z,jE,Rat.zero_add];have:dl (i'+1) n=dl i' (n-1):=by unfold dl;by_cases q:i'+1=n;rw[if_pos q,if_pos<|by omega];rw[if_neg q,if_neg<|by omega]
 rw[this,<-(pT c ec).tb i' (n-1) (by omega) (by omega)];refine dS λk hk=>?_;unfold cP;rw[Np,uS c ec hk,DY h n1 (iF n) (by omega) hk,(Nn h).sl (i'+1) (k+1) i' k (by omega) (by omega) (by omega) (by omega)<|by omega]
theorem D2(h:IsSl s (n+1))(n1:1<=n)(e:cK s (n+1)=[])(ec:cK (cor s (n+1) n) n=[])(e2:n=1\/2<=n/\cK (cor s (n+1)<|n-1) (n-1)=[]):fM s n≠0:=by
 intro z;have c:=gA h n1<|iF n;have b0:bq (cor s (n+1) n) n 0 0≠0:=DZ c ec<|e2.imp id λ⟨a,b⟩=>⟨a,by rw[cor_cor (iF n) (Nat.sub_le n 1) (by omega) h];exact b⟩;have x:=(pT h e).solve (X:=λk=>(cB s n).getD k 0 - fY s n*(cP s n).getD k 0) (y:=λ_=>0) (λi hi=>by
  rw[dS (g:=λk=>tq s (n+1) i k*(cB s n).getD k 0-fY s n*(tq s (n+1) i k*(cP s n).getD k 0))<|λk _=>by grind,rM,gZ,D0 h n1 ec hi,D1 h n1 ec hi];unfold fM at z
  by_cases i0:i=0
  .subst i0
   rw[if_neg<|by omega,if_pos rfl,dl_one];exact z
  .rw[if_neg i0]
   by_cases i2:i=n
   .subst i2;rw[if_pos rfl,dl_one];grind
   .rw[if_neg i2,dl_ne i2,dl_ne i0];grind) (k:=0) (by omega)
 rw[qQ<|λm _=>jE _]at x;have:(cB s n).getD 0 0=bq (cor s (n+1) n) n 0 0:=by unfold cB;rw[yg,yf c ec<|by omega]
 rw[this]at x;have z2:(cP s n).getD 0 0=0:=rfl;rw[z2]at x;exact b0 (by grind)
theorem Nq(h:IsSl s (n+1))(n1:1<=n)(e:cK s (n+1)=[])(ec:cK (cor s (n+1) n) n=[])(e2:n=1\/2<=n/\cK (cor s (n+1)<|n-1) (n-1)=[]):iB (bX (cB s n) (fY s n)<|cP s n) (fM s n)=dU s (n+1):=by
 have c:=gA h n1<|iF n;have lz:=D2 h n1 e ec e2;have bl:(cB s n).length=n+1:=by unfold cB;rw[d9,pU c ec];rfl
 have el:(cP s n).length=n+1:=by unfold cP;rw[dX,nV c ec]
 refine ye (n:=n+1) (by rw[HX,t6<|by omega,bl]) (pU h e) λk hk=>?_;rw[yf h e hk];refine(pT h e).uniq (X:=λk=>(iB (bX (cB s n) (fY s n)<|cP s n)<|fM s n).getD k 0) (by omega) (λi hi=>?_) hk;rw[dS (g:=λk=>(fM s n)⁻¹*(tq s (n+1) i k*(cB s n).getD k 0-fY s n*(tq s (n+1) i k*(cP s n).getD k 0))) (λk _=>by rw[HW,yd<|by omega,ic];grind),gZ,rM,gZ,D0 h n1 ec hi,D1 h n1 ec hi];by_cases i0:i=0;subst i0;rw[if_neg<|by omega,if_pos rfl,dl_one];exact qZ _ lz;rw[if_neg i0,dl_ne i0];by_cases i2:i=n;subst i2;rw[if_pos rfl,dl_one];grind;rw[if_neg i2,dl_ne i2];grind
theorem Nr(h:IsSl s (n+1))(n1:1<=n)(e:cK s (n+1)=[])(ec:cK (cor s (n+1) n) n=[])(e2:n=1\/2<=n/\cK (cor s (n+1)<|n-1) (n-1)=[]):iB (bX (cP s n) (g6 s n)<|cB s n) (fM s n)=dW s (n+1):=by
 have c:=gA h n1<|iF n;have lz:=D2 h n1 e ec e2;have bl:(cB s n).length=n+1:=by unfold cB;rw[d9,pU c ec];rfl
 have el:(cP s n).length=n+1:=by unfold cP;rw[dX,nV c ec]
 refine ye (n:=n+1) (by rw[HX,t6<|by omega,el]) (nV h e) λk hk=>?_;rw[uS h e hk,show n+1-1=n by omega];refine(pT h e).uniq (X:=λk=>(iB (bX (cP s n) (g6 s n)<|cB s n)<|fM s n).getD k 0) (by omega) (λi hi=>?_) hk;rw[dS (g:=λk=>(fM s n)⁻¹*(tq s (n+1) i k*(cP s n).getD k 0-g6 s n*(tq s (n+1) i k*(cB s n).getD k 0))) (λk _=>by rw[HW,yd<|by omega,ic];grind),gZ,rM,gZ,D0 h n1 ec hi,D1 h n1 ec hi];by_cases i2:i=n;subst i2;rw[if_neg<|by omega,if_pos rfl,dl_one];have:(fM s i)⁻¹*fM s i=1:=qZ _ lz;unfold fM at this ⊢;rw[uq<|g6 s i];exact this;rw[if_neg i2,dl_ne i2];by_cases i0:i=0;subst i0;rw[if_pos rfl,dl_one];grind;rw[if_neg i0,dl_ne i0];grind
def solF(s:List Int)(n:Nat)(r:List Int):List Rat:=mG n λi=>aS (λm=>bq s n i m*(r.getD m 0:Rat)) n
theorem nW(r:List Int):(solF s n r).length=n:=rN _ _
theorem D3{r:List Int}(hi:i<n):(solF s n r).getD i 0=aS (λm=>bq s n i m*(r.getD m 0:Rat)) n:=xO hi
theorem Ic{r:List Int}(h:IsSl s n)(e:cK s n=[])(hi:i<n):aS (λk=>tq s n i k*(solF s n r).getD k 0) n=(r.getD i 0:Rat):=by rw[<-(pT h e).made (y:=λm=>(r.getD m 0:Rat)) hi];exact dS λk hk=>by rw[D3 hk]
theorem sol_uniq{r:List Int}{x:List Rat}(h:IsSl s n)(e:cK s n=[])(hx:x.length=n)(hm:∀i,i<n->aS (λk=>tq s n i k*x.getD k 0) n=(r.getD i 0:Rat)):x=solF s n r:=
 ye hx (nW r) λk hk=>by rw[D3 hk];exact(pT h e).solve (X:=λk=>x.getD k 0) hm hk
theorem Id{r:List Int}(h:IsSl s (n+1))(n1:1<=n)(e:cK s (n+1)=[])(ec:cK (cor s (n+1) n) n=[]):bX (solF (cor s (n+1) n) n r++[0]) ((bC s (n+1)<|solF (cor s (n+1) n) n r++[0]).getD n 0-(r.getD n 0:Rat)) (dW s<|n+1)=solF s (n+1) r:=by
 have c:=gA h n1<|iF n;have xl:(solF (cor s (n+1) n) n r++[0]).length=n+1:=by rw[d9,nW];rfl
 have ll:=nV h e;refine sol_uniq h e (by rw[t6<|by omega,xl]) λi hi=>?_;have lm:aS (λk=>tq s (n+1) i k*(dW s<|n+1).getD k 0) (n+1)=dl i n:=by rw[dS (g:=λk=>tq s (n+1) i k*bq s (n+1) k n)<|λk hk=>by rw[uS h e hk,show n+1-1=n by omega]];exact(pT h e).tb i n hi (by omega)
 have xm:aS (λk=>tq s (n+1) i k*(solF (cor s (n+1) n) n r++[0]).getD k 0) (n+1)=if i=n then(bC s (n+1)<|solF (cor s (n+1) n) n r++[0]).getD n 0 else(r.getD i 0:Rat):=by
  split;rename_i q;subst q;exact(uT h xl hi).symm;rename_i q;rw[aS];have z:(solF (cor s (n+1) n) n r++[0]).getD n 0=0:=by rw[yg,aZ,eL (by rw[nW];exact bS _)];rfl
  rw[z,jE,p8,<-Ic (r:=r) c ec (show i<n by omega)];exact dS λk hk=>by rw[yg,DY h n1 (iF n) (by omega) hk]
 generalize (bC s (n+1)<|solF (cor s (n+1) n) n r++[0]).getD n 0=o at xm ⊢;rw[dS (g:=λk=>tq s (n+1) i k*(solF (cor s (n+1) n) n r++[0]).getD k 0-(o-(r.getD n 0:Rat))*(tq s (n+1) i k*(dW s<|n+1).getD k 0)) (λk _=>by rw[yd<|by omega];grind),rM,gZ,xm,lm];by_cases i2:i=n;subst i2;rw[if_pos rfl,dl_one];grind;rw[if_neg i2,dl_ne i2];grind
theorem Nt{r:List Int}(h:IsSl s n)(e:cK s n=[])(hi:i<n):(solF s n r).getD i 0=Rat.divInt (bD (λm=>r.getD m 0*gp (tA<|tbl s n) n m i) n) (dt (tA<|tbl s n) n):=by rw[D3 hi,Rat.divInt_eq_div,ic,<-tW,uq,<-gZ];refine dS λm hm=>?_;unfold bq;rw[(nS h e).2 i m hi hm,ic,uo];grind
theorem AK{r:List Int}(h:IsSl s n)(e:cK s n=[])(hr:∀k,(r.getD k 0).natAbs<=2^10):∀x∈solF s n r,Sz 50 x:=λx hx=>by
 obtain⟨i,hi,ex⟩:=YbA.mp hx;rw[nW]at hi;have:(solF s n r).getD i 0=x:=by rw[aZ,cA (by rw[nW];exact hi)];exact ex
 rw[<-this,Nt h e hi];refine xw ((l8 h).mp e) ?_<|jD (HZ h) (by decide);have:=AF (f:=λm=>r.getD m 0*gp (tA<|tbl s n) n m i) (B:=2^10*2^36) (n:=n) λm hm=>by rw[gK];exact n8 (hr m)<|HY h hi hm
 have n5:=h.n5;refine jD this<|jD (n8 n5<|bS _) (by decide)
end
end Gs
open Gs
section
def uU(s:List Int)(n:Nat):List Nat:=(dR s n).pl
def uV(s:List Int)(n:Nat):List Nat:=(List.range n).filter λp=>!(uU s n).contains p
theorem Ie(h:IsSl s n):Ec n (e9 s n) n (dR s n).ld (uU s n) (dR s n).rs:=xL (n:=n) (R:=e9 s n) (λr hr=>(uN h r hr).len) n<|bS _
theorem Zlr:p∈uV s n↔p<n/\p∉uU s n:=by unfold uV;rw[Yag,Yah];simp
theorem Ig:cK s n=(uV s n).map λp=>dj p (dR s n).ld (uU s n) (cS n p):=by unfold cK uV uU xK;exact hJ λp _=>Ht _ _ _ _
theorem Nu(h:IsSl s n){t:Nat}(hp:p∈uV s n)(ht:t∈uV s n):(dj p (dR s n).ld (uU s n)<|cS n p).getD t 0=Gs.dl t p:=by obtain⟨t1,t2⟩:=Zlr.mp ht;rw[Dz _ _ _ (by rw[xH];exact(Ie h).lt) t2,Av t1];rfl
theorem Nv(h:IsSl s n){f:List Rat}(hf:f∈cK s n):f.length=n/\∀r∈e9 s n,c7 r f=0:=by rw[Ig]at hf;obtain⟨p,hp,rfl⟩:=YbT.mp hf;obtain⟨p1,p2⟩:=Zlr.mp hp;exact(Ie h).free p1 p2
end
def d8(s:List Int)(n:Nat):D:=.tup [aG<|dU s n,aG<|dW s n]
def uW:List Nat->D
 |[]=>.non|k::_=>.int (k:Int)
def D4(x:D):Except Str D:=ge x<|.ok (uW<|eW (sI x)<|sN x)
structure IsR(r:List Int)(n:Nat):Prop where
 len:r.length=n
 b:∀x∈r,-1000<=x/\x<=1000
def jV(n:Nat):D->Bool
 |.tup xs=>xs.all (eh (-1000) 1000)&&decide (xs.length=n)|_=>false
def AL:bO:=xS (λx:D=>[x]) (λx=>kd x=true) D4
def pV:bO:=fnS (λx:SL=>[aL x.1]) (λx=>IsSl x.1 x.2/\Stg x.1 x.2) λ_=>.non
def AM:bO:=fnS (λx:SL=>[aL x.1]) (λx=>IsSl x.1 x.2/\Stg x.1 x.2) λx=>d8 (cor x.1 x.2 1) 1
def uX:bO:=fnS (λx:SL=>[aL x.1,d8 (cor x.1 (x.2+1) x.2) x.2]) (λx=>IsSl x.1 (x.2+1)/\1<=x.2/\Stg x.1 (x.2+1)) λx=>d8 x.1<|x.2+1
def uY:bO:=xS (λx:SL×D=>[aL x.1.1,x.2]) (λx=>IsSl x.1.1 x.1.2/\kd x.2=true) λx=>if jV x.1.2 x.2=true then .ok .non else .error "NoRow"
section
variable{E:Ex->Prop}{x:D}{r:List Int}
theorem IsR.kd(h:IsR r n)(n5:n<=5):kd (aL r)=true:=ju (by have:=h.len;simp;omega) λx hx=>by obtain⟨i,_,rfl⟩:=YbT.mp hx;rw[LP.kd]
theorem yh(h:IsR r n):jV n (aL r)=true:=by unfold aL jV;simp only[bQ,h.len,decide_true,y0,u9,Ybf,Function.comp];intro i hi;have:=h.b i hi;simp only[eh];rw[O7 this.1,O7 this.2];rfl
theorem IsR.at(h:IsR r n)(k:Nat):(r.getD k 0).natAbs<=2^10:=by
 rw[aZ];cases e:r[k]? with
 |none=>exact kW _|some v=>have:=h.b v<|jz e;show v.natAbs<=1024;omega
theorem Ih(h:IsSl s n)(q:Q (uW<|eW s n)):AL [aL s] E Q:=xS.ok (aL s) rfl h.kd (by(try dsimp only);unfold D4;rw[gH h,dP,h.sN]) q
theorem yi(h:IsSl s n)(g:Stg s n)(q:Q .non):pV [aL s] E Q:=⟨(s,n),rfl,⟨h,g⟩,q⟩
theorem Nw(h:IsSl s n)(g:Stg s n)(q:Q (d8 (cor s n 1) 1)):AM [aL s] E Q:=⟨(s,n),rfl,⟨h,g⟩,q⟩
theorem Ii(h:IsSl s (n+1))(n1:1<=n)(g:Stg s (n+1))(q:Q (d8 s<|n+1)):uX [aL s,d8 (cor s (n+1) n) n] E Q:=⟨(s,n),rfl,⟨h,n1,g⟩,q⟩
theorem D5(h:IsSl s n)(hr:IsR r n)(q:Q .non):uY [aL s,aL r] E Q:=xS.ok ((s,n),aL r) rfl ⟨h,hr.kd h.n5⟩ (by dsimp only;rw[if_pos<|yh hr]) q
end
abbrev Zg7:List Str:=["slants", "sizes"]
def D6:WS:=(aI (aP 1<|wF AD<|aC (wN 0) aA)<|aM<|kI (wT<|w2 wX (wB bR<|aC (wN 1) aA)<|wC<|D.int<|0) (w2 gIx (wN 1)<|wC<|D.int<|0)<|wC D.non)
abbrev Zg8:List Str:=["slants", "row"]
def D7:WS:=(aI (aP 1<|wF uM<|aC (bA<|aC (wC<|D.tup [(D.int<|1),(D.int<|1)]) aA)<|aC (w2 gIx (wF tM<|aC (wF ot<|aC (wN 0)<|aC (wC<|D.int<|1) aA) aA)<|wC<|D.int<|0) aA)<|aM<|bA<|aC (wN 1)<|aC (wN 1) aA)
abbrev Zgm:List Str:=["slants", "step", "first", "last", "below", "above", "left"]
def D8:WS:=(aI (aP 2<|w2 gAdd (w2 gIx (wN 1)<|wC<|D.int<|0)<|bA<|aC (wC<|D.tup [(D.int<|0),(D.int<|1)]) aA)<|aI (aP 3<|w2 gAdd (bA<|aC (wC<|D.tup [(D.int<|0),(D.int<|1)]) aA)<|w2 gIx (wN 1)<|wC<|D.int<|1)<|aI (aP 4<|w2 gIx (wF rJ<|aC (wN 0)<|aC (wN 2) aA)<|w1 fk<|wC<|D.int<|1)<|aI (aP 5<|w2 gIx (wF rJ<|aC (wN 0)<|aC (wN 3) aA)<|wC<|D.int<|0)<|aI (aP 6<|wF tL<|aC (wC<|D.tup [(D.int<|1),(D.int<|1)])<|aC (wF rG<|aC (wN 4)<|aC (wN 5) aA) aA)<|aM<|bA<|aC (wF uM<|aC (wF rL<|aC (wN 2)<|aC (wN 4)<|aC (wN 3) aA)<|aC (wN 6) aA)<|aC (wF uM<|aC (wF rL<|aC (wN 3)<|aC (wN 5)<|aC (wN 2) aA)<|aC (wN 6) aA) aA)
abbrev Zep:List Str:=["slants", "thing"]
def D9:WS:=(cQ (fA (bV<|wT<|wF uC<|aC (wN 1)<|aC (wC<|.int (-1000))<|aC (wC<|.int<|1000) aA)<|wT<|w2 (gEq true) (wB bR<|aC (wN 1) aA)<|wF lZ<|aC (wN 0) aA) (jn<|PySem.Str.ofString "NoRow") cT)
section
theorem Ij{b:Nat}:∀{a c:List Rat},(∀x∈a,Sz 7 x)->(∀x∈c,Sz b x)->Sz (a.length*(b+8)+1) (c7 a c)
 |[],c,_,_=>by unfold c7;exact Sz.zero (by omega)|_::_,[],_,_=>by unfold c7;exact Sz.zero (by omega)|x::a,y::c,ha,hc=>by rw[c7];have ih:=Ij (a:=a) (c:=c) (b:=b) (λz hz=>ha z<|by simp[hz]) λz hz=>hc z (by simp[hz]);exact(((ha x<|by simp).mul<|hc y<|by simp).add ih).mono (by rw[dX,qX];omega)
theorem Nx(h:IsSl s n)(hr:∀x∈r,Sz b x):∀x∈bC s n r,Sz (5*(b+8)+1) x:=λx hx=>by
 unfold bC at hx;obtain⟨l,hl,rfl⟩:=YbT.mp hx;obtain⟨h1,h2⟩:=nO h l hl;have:=Ij (a:=bW l) (c:=r) (b:=b) (λz hz=>by
  obtain⟨i,hi,rfl⟩:=YbT.mp hz;exact(xq<|h2 i hi).mono<|by decide) hr
 have e:(bW l).length=n:=by unfold bW;rw[bQ];exact h1
 rw[e]at this;exact this.mono (by have:=n8 h.n5 (bS<|b+8);omega)
theorem AN(h:IsSl s n)(hr:∀x∈r,Sz b x)(hi:i<n):(bC s n r)[i]? = some ((bC s n r).getD i 0)/\Sz (5*(b+8)+1) ((bC s n r).getD i 0):=by
 have e:(bC s n r)[i]? = some ((bC s n r).getD i 0):=by rw[aZ,cA (by rw[t7];exact hi)];rfl
 exact⟨e,Nx h hr _<|jz e⟩
theorem Ea(hn:r.length=n)(h:1<=n):dN (r.map aR) (-1)=some (aR<|r.getD (n-1) 0):=by unfold dN jK;rw[bQ,hn,if_neg<|by decide,if_pos<|by omega,show(-1+(n:Int)).toNat=n-1 by omega];show(r.map aR)[n-1]? = _;rw[cE,aZ,cA<|by omega];rfl
end
theorem Ny:Rd AL D6 Zg7:=by
 rintro _ E Q ⟨x,rfl,hk,q⟩;show D6 E _ [.d x,.un];unfold D6;unfold D4 at q;cases e:fo x with
 |false=>
  refine bH ?_;walk_at "st";exact xS.err x rfl hk (lv e)<|l5 e q
 |true=>
 obtain⟨s,n,rfl,h⟩:=mB e;replace q:=l6 h q;rw[dP,h.sN]at q;refine bH<|LP.set_by (d:=xJ<|eW s n) (ρ':=[.d<|aL s,.d<|xJ<|eW s n]) (by rfl) (λP hP=>?_) ?_
 .walk_at "st"
  exact Nb h hP
 dsimp only;generalize eW s n=W at q;unfold xJ;cases W with
 |nil=>
  walk_at "st";exact q
 |cons k W=>
  walk_at "st";rw[O7<|by simp];simp only[if_true];exact⟨_,bE (j:=0) rfl,q⟩
theorem Nz(h:IsSl s 1)(e:cK s 1=[]):s.getD 0 0≠0/\iB [1] (s.getD 0 0:Rat)=dU s 1:=by
 have hl:=h.len;have d:dt (tA<|tbl s 1) 1=s.getD 0 0:=by show tA (tbl s 1) 0 0=_;rw[tA_ent h (by decide)<|by decide];rfl
 refine⟨by rw[<-d];exact(l8 h).mp e,?_⟩;refine ye (n:=1) rfl (pU h e) λk hk=>?_;obtain rfl:k=0:=by omega
 rw[yf h e<|by decide];unfold Gs.bq;rw[(nS h e).2 0 0 (by decide)<|by decide,d];rfl
theorem NA:Rd AM D7 Zg8:=by
 rintro _ E Q ⟨⟨s,n⟩,rfl,⟨h,g⟩,q⟩;dsimp only at h g q;have n1:=h.n1;have c:=gA h (bS 1) n1;have ec:=g 1 (bS _) n1;obtain⟨z,ef⟩:=Nz c ec;have cl:=c.len;have c5:(cor s n 1).length<=5000:=by omega
 have q':Q (.tup [aG<|dU (cor s n 1) 1,aG<|dU (cor s n 1) 1]):=q;clear q;show D7 E _ [.d<|aL s,.un];unfold D7;refine bH<|LP.set_by (d:=aG<|dU (cor s n 1) 1) (ρ':=[.d<|aL s,.d<|aG<|dU (cor s n 1) 1]) (by rfl) (λP hP=>?_) ?_
 walk_at "st";refine⟨by decide,?_⟩;refine uF h (bS 1) n1<|FX (xs:=cor s n 1) c5 ?_;have c0:(bW<|cor s n 1).getD 0 0=((cor s n 1).getD 0 0:Rat):=by unfold bW;rw[aZ,cE,aZ,cA<|by omega];rfl
 refine⟨_,Hs (r:=bW<|cor s n 1) (k:=0) (by unfold bW;rw[bQ];omega),?_⟩;rw[c0];rw[<-ef]at hP;have b0:-50<=(cor s n 1).getD 0 0/\(cor s n 1).getD 0 0<=50:=by refine c.b _ ?_;rw[aZ,cA<|by omega];exact jC _
 exact Du (b:=10) (r:=[1]) (by decide) (by decide) (λy hy=>by rw[Ycp.mp hy];exact Sz.int (n:=10) 1 (by decide)<|by decide) ((xq b0).mono<|by decide) (by exact_mod_cast z) hP;dsimp only;walk_at "st";exact⟨by decide,q'⟩
theorem NB:Rd uX D8 Zgm:=by
 rintro _ E Q ⟨⟨s,n⟩,rfl,⟨h,n1,g⟩,q⟩;dsimp only at h n1 g q;have n5:=h.n5;have c:=gA h n1<|iF n;have ec:=g n n1<|iF n;have e:=g.full h;have e2:n=1\/2<=n/\cK (cor s (n+1)<|n-1) (n-1)=[]:=by
  rcases jB n 2 with z|z
  exact .inl (by omega);exact .inr ⟨z,g (n-1) (by omega)<|by omega⟩
 have lz:=D2 h n1 e ec e2;have lf:=Nq h n1 e ec e2;have ll:=Nr h n1 e ec e2;have fl:=pU c ec;have el:=nV c ec;have bl:(cB s n).length=n+1:=by unfold cB;rw[d9,fl];rfl
 have nl:(cP s n).length=n+1:=by unfold cP;rw[dX,el]
 have bs:∀x∈cB s n,Sz 50 x:=λx hx=>by
  unfold cB at hx;rcases Yap.mp hx with hx|hx
  exact Ib c ec x hx;rw[Ycp.mp hx];exact Sz.zero (by decide)
 have es:∀x∈cP s n,Sz 50 x:=λx hx=>by
  unfold cP at hx;rcases Yao.mp hx with rfl|hx
  exact Sz.zero (by decide);exact AJ c ec x hx
 obtain⟨g1,z1⟩:=AN (i:=n) h bs (by omega);obtain⟨g2,z2⟩:=AN (i:=0) h es (by omega);have zb:Sz 291 (fY s n):=z1;have za:Sz 291 (g6 s n):=z2;have zl:Sz 600 (fM s n):=((Sz.int (n:=1) 1 (by decide)<|by decide).sub<|zb.mul za).mono (by decide);have q':Q (.tup [aG<|dU s<|n+1,aG<|dW s<|n+1]):=q;clear q;have hb:D.tup ((dU (cor s (n+1) n) n).map aR++[D.tup [.int 0,.int 1]])=aG (cB s n):=by unfold cB aG;rw[gL];rfl
 have he:D.tup ([D.tup [.int 0,.int 1]]++(dW (cor s (n+1) n) n).map aR)=aG (cP s n):=rfl;show D8 E _ [.d<|aL s,.d<|d8 (cor s (n+1) n) n,.un,.un,.un,.un,.un];unfold D8;refine bH<|LP.set_by (d:=aG<|cB s n) (ρ':=[.d<|aL s,.d<|d8 (cor s (n+1) n) n,.d<|aG<|cB s n,.un,.un,.un,.un]) (by rfl) (λP hP=>?_) ?_
 unfold d8;walk_at "st";refine⟨_,bE (j:=0) rfl,by decide,?_⟩;rw[<-hb]at hP;exact⟨eV (by simp;omega),hP⟩;dsimp only;refine bH<|LP.set_by (d:=aG<|cP s n) (ρ':=[.d<|aL s,.d<|d8 (cor s (n+1) n) n,.d<|aG<|cB s n,.d<|aG<|cP s n,.un,.un,.un]) (by rfl) (λP hP=>?_) ?_
 unfold d8;walk_at "st";refine⟨by decide,_,bE (j:=1) rfl,?_⟩;rw[<-he]at hP;exact⟨eV (by simp;omega),hP⟩;dsimp only;refine bH<|LP.set_by (d:=aR<|fY s n) (ρ':=[.d<|aL s,.d<|d8 (cor s (n+1) n) n,.d<|aG<|cB s n,.d<|aG<|cP s n,.d<|aR<|fY s n,.un,.un]) (by rfl) (λP hP=>?_) ?_
 walk_at "st";refine xj h bl ⟨50,bs,by decide⟩ ⟨_,Ea (t7 _)<|by omega,?_⟩;exact hP;dsimp only;refine bH<|LP.set_by (d:=aR<|g6 s n) (ρ':=[.d<|aL s,.d<|d8 (cor s (n+1) n) n,.d<|aG<|cB s n,.d<|aG<|cP s n,.d<|aR<|fY s n,.d<|aR<|g6 s n,.un]) (by rfl) (λP hP=>?_) ?_
 walk_at "st";refine xj h nl ⟨50,es,by decide⟩ ⟨_,Hs (k:=0) (by rw[t7];omega),?_⟩;exact hP;dsimp only;refine bH<|LP.set_by (d:=aR<|fM s n) (ρ':=[.d<|aL s,.d<|d8 (cor s (n+1) n) n,.d<|aG<|cB s n,.d<|aG<|cP s n,.d<|aR<|fY s n,.d<|aR<|g6 s n,.d<|aR<|fM s n]) (by rfl) (λP hP=>?_) ?_
 walk_at "st";refine FW (B2.of zb za<|by decide) ?_;have:=zY (E:=E) (Q:=P) (p:=1) (q:=fY s n*g6 s n) (B2.of (Sz.int (n:=1) 1 (by decide)<|by decide) (zb.mul za)<|by decide) hP;exact this;dsimp only;refine LP.ret_by (d:=.tup [aG<|dU s<|n+1,aG<|dW s<|n+1]) (LP.pair_at (λP hP=>?_)<|λP hP=>?_) q';walk_at "st";refine As (b:=291) (by decide) (by omega) (λy hy=>(bs y hy).mono<|by decide) zb (λy hy=>(es y hy).mono<|by decide) ?_;rw[<-lf]at hP;refine Du (b:=700) (by decide) (by rw[t6<|by omega];omega) (λy hy=>?_) (zl.mono<|by decide) lz hP;unfold bX at hy;obtain⟨i,hi,ey⟩:=YbA.mp hy;rw[sf]at ey;rw[<-ey];exact((bs _<|jC _).sub<|zb.mul<|es _<|jC _).mono (by decide);walk_at "st";refine As (b:=291) (by decide) (by omega) (λy hy=>(es y hy).mono<|by decide) za (λy hy=>(bs y hy).mono<|by decide) ?_;rw[<-ll]at hP;refine Du (b:=700) (by decide) (by rw[t6<|by omega];omega) (λy hy=>?_) (zl.mono<|by decide) lz hP;unfold bX at hy;obtain⟨i,hi,ey⟩:=YbA.mp hy;rw[sf]at ey;rw[<-ey];exact((es _<|jC _).sub<|za.mul<|bs _<|jC _).mono (by decide)
theorem Ik(r:List Rat):fW (aG r)=true:=by
 unfold aG;rw[fW];induction r with
 |nil=>rfl|cons a r ih=>rw[c6,lX,ih];rfl
theorem NC(s:List Int)(n:Nat):fW (d8 s n)=true:=by unfold d8;rw[fW,lX,lX,lX,Ik,Ik];rfl
theorem Eb:dN (xs++[d]) (-1)=some d:=nq xs d
theorem ND:Rd uY D9 Zep:=by
 rintro _ E Q ⟨⟨⟨s,n⟩,x⟩,rfl,⟨h,hk⟩,q⟩;dsimp only at h hk q;show D9 E _ [.d<|aL s,.d x];unfold D9;cases e:kO (-1000) 1000 x with
 |false=>
  have:jV n x=false:=by cases x<;>first|rfl|(rename_i xs;have e:xs.all (eh (-1000) 1000)=false:=e;show(xs.all (eh (-1000) 1000)&&decide (xs.length=n))=false;rw[e];rfl)
  rw[this,if_neg<|by decide]at q;refine eU (b:=true) (λP hP=>?_) (λ_=>q) λe=>nomatch e;walk_at "st";refine CO hk ?_;rw[e];exact hP
 |true=>
  cases x<;>try (cases e;done)
  rename_i xs;have hw:jV n (.tup xs)=decide (xs.length=n):=by have e:xs.all (eh (-1000) 1000)=true:=e;show(xs.all (eh (-1000) 1000)&&decide (xs.length=n))=_;rw[e,p7]
  rw[hw]at q;have cnd:∀P:Bool->Prop,P (!decide (xs.length=n))->fA (bV<|wT<|wF uC<|aC (wN 1)<|aC (wC<|.int (-1000))<|aC (wC<|.int<|1000) aA) (wT<|w2 (gEq true) (wB bR<|aC (wN 1) aA)<|wF lZ<|aC (wN 0) aA) E [.d<|aL s,.d<|.tup xs] P:=λP hP=>by walk_at "st";refine CO hk ?_;rw[e];walk_at "st";refine tO h ?_;rw[kM];rw[show((xs.length:Int)==(n:Int))=decide (xs.length=n) from by rw[j8];simp only[Po,O6];omega];exact hP
  by_cases z:xs.length=n;rw[O7 z,if_pos rfl]at q;exact eU (b:=false) (λP hP=>cnd P (by rw[O7 z];exact hP)) (λe=>nomatch e) λ_=>q;rw[Pe z,if_neg<|by decide]at q;exact eU (b:=true) (λP hP=>cnd P (by rw[Pe z];exact hP)) (λ_=>q) λe=>nomatch e
namespace G
structure Lf(b m:Nat)(row:List Rat):Prop where
 ex:∃(c:List Int) (e:Int),c.length=m/\e≠0/\e.natAbs<2^b/\(∀x∈c,x.natAbs<2^b)/\row=c.map λx=>Rat.divInt x e
theorem Lf.len(h:Lf b m row):row.length=m:=by obtain⟨c,e,h1,_,_,_,rfl⟩:=h.ex;rw[bQ];exact h1
theorem Lf.mono{b':Nat}(l:b<=b')(h:Lf b m row):Lf b' m row:=by obtain⟨c,e,h1,h2,h3,h4,h5⟩:=h.ex;have p:2^b<=2^b':=mL (by decide) l;exact⟨c,e,h1,h2,dG h3 p,λx hx=>dG (h4 x hx) p,h5⟩
theorem Lf.sz(h:Lf b m row):∀x∈row,Sz b x:=by obtain⟨c,e,h1,h2,h3,h4,rfl⟩:=h.ex;intro x hx;obtain⟨y,hy,rfl⟩:=YbT.mp hx;exact xw h2 (h4 y hy) h3
theorem Lf.get(h:Lf b m row)(hk:k<m):row[k]? = some (row.getD k 0)/\Sz b (row.getD k 0):=by
 have e:row[k]? = some (row.getD k 0):=by rw[aZ,cA (by rw[h.len];exact hk)];rfl
 exact⟨e,h.sz _<|jz e⟩
theorem Lf.int{c:List Int}(hb:0<b)(h:∀x∈c,x.natAbs<2^b):Lf b c.length (bW c):=by refine⟨c,1,rfl,by decide,?_,h,?_⟩;show 1<2^b;exact yX (by omega);unfold bW;exact hJ λx _=>by have:=uh (x:Rat);rw[yV,yW]at this;exact this.symm
theorem Dr{c e:Int}(he:e≠0):Rat.divInt c e≠0↔c≠0:=by
 constructor;rintro h rfl;exact h<|Rat.zero_divInt e
 intro h z;have e1:Rat.divInt c e*Rat.divInt e c=1:=by rw[se,n4 e c];have:=uk (n:=1) (d:=1)<|qa h he;rw[ug]at this;rw[this];rfl
 rw[z,iH]at e1;exact O5 e1 (by decide)
theorem Lf.norm(h:Lf b m row)(hp:p<m)(h0:row.getD p 0≠0):Lf b m (row.map λx=>x*(row.getD p 0)⁻¹):=by
 obtain⟨c,e,h1,h2,h3,h4,rfl⟩:=h.ex;have hc:c[p]? = some (c.getD p 0):=by rw[aZ,cA<|by omega];rfl
 have eg:(c.map λx=>Rat.divInt x e).getD p 0=Rat.divInt (c.getD p 0) e:=by rw[aZ,cE,hc];rfl
 rw[eg]at h0 ⊢;have hc0:c.getD p 0≠0:=(Dr h2).mp h0;refine⟨c,c.getD p 0,h1,hc0,h4 _<|jz hc,h4,?_⟩;rw[du];refine hJ λx _=>?_;show Rat.divInt x e*(Rat.divInt (c.getD p 0) e)⁻¹=Rat.divInt x (c.getD p 0);rw[Rat.inv_divInt,se _ _ ,n4 e];exact uk h2
theorem Lf.less(h:Lf b m row)(hq:Lf b m piv)(hp:p<m):Lf (2*b+1) m (List.zipWith (λx y=>x+row.getD p 0*(-1)*y) row piv):=by
 obtain⟨c,e,h1,h2,h3,h4,rfl⟩:=h.ex;obtain⟨d,f,g1,g2,g3,g4,rfl⟩:=hq.ex;have hc:c[p]? = some (c.getD p 0):=by rw[aZ,cA<|by omega];rfl
 have eg:(c.map λx=>Rat.divInt x e).getD p 0=Rat.divInt (c.getD p 0) e:=by rw[aZ,cE,hc];rfl
 rw[eg];have bc:(c.getD p 0).natAbs<2^b:=h4 _<|jz hc;refine⟨List.zipWith (λx y=>x*f-c.getD p 0*y) c d,e*f,by rw[mK];omega,qa h2 g2,?_,λz hz=>?_,?_⟩
 rw[gK,u8,show 2*b=b+b by omega,r8];have:=uj h3 g3;omega;obtain⟨i,hi,e1⟩:=YbA.mp hz;rw[sf]at e1;rw[<-e1];exact B.C.tak_num (h4 _<|jC _) g3 bc<|g4 _ (jC _)
 rw[Bt,y6];refine congrArg (λg=>List.zipWith g c d) ?_;funext x y;have e1:Rat.divInt (c.getD p 0) e*(-1)=Rat.divInt (-c.getD p 0) e:=by rw[Rat.mul_neg,qY,Rat.neg_divInt]
 rw[e1,se,Rat.divInt_add_divInt _ _ h2<|qa h2 g2];rw[show x*(e*f) + -c.getD p 0*y*e=(x*f-c.getD p 0*y)*e by grind,n4 e<|e*f];exact(uk h2)
def lq(r:List Rat):D:=.lst<|r.map aR
def rr(R:List (List Rat))(i:Nat):List Rat:=R.getD i []
theorem rr_set{R:List (List Rat)}(h:i<R.length):rr (R.set i r) k=if k=i then r else rr R k:=by unfold rr;rw[aZ,Bq,aZ];by_cases e:i=k;subst e;rw[if_pos rfl,if_pos rfl,if_pos h];rfl;rw[if_neg e,if_neg<|Pa e]
theorem rR{R:List (List Rat)}(h:k<R.length):dN (R.map lq) (k:Int)=some (lq<|rr R k):=by refine bE ?_;rw[cE];unfold rr;rw[aZ,cA h];rfl
theorem AO(h:Lf b m r)(hk:k<m):dN (r.map aR) (k:Int)=some (aR<|r.getD k 0):=by refine bE ?_;rw[cE,(h.get hk).1];rfl
theorem Il{E:Ex->Prop}(e:ρ.set i (.d d)=ρ')(hw:∀P:D->Prop,P d->w E ρ P)(h:N.nx ρ'):aP i w E N ρ:=hw _ (by rw[e];exact h)
theorem NE{E:Ex->Prop}{x:D}(e:(ρ.set i<|.d x).set j (.d y)=ρ')(hw:∀P:D->Prop,P (.tup [x,y])->w E ρ P)(h:N.nx ρ'):eQ w (fg 2<|dh (gN i)<|dh (gN j) e8) E N ρ:=hw _ ⟨rfl,by rw[<-e]at h;exact h⟩
theorem Im{wi:WE}{E:Ex->Prop}(e:ρ[i]? = some (.ow xs))(hk:k<xs.length)(e2:ρ.set i (.ow<|xs.set k d)=ρ')(hv:∀P:D->Prop,P d->wv E ρ P)(hi:∀P:D->Prop,P (.int k)->wi E ρ P)(h:N.nx ρ'):iQ i wi wv E N ρ:=by unfold iQ;rw[e];exact hv _<|hi _ ⟨k,B.C.ixN_nat hk,by rw[e2];exact h⟩
theorem Io{E:Ex->Prop}(e:ρ[i]? = some (.ow xs))(hl:xs.length<aO)(e2:ρ.set i (.ow<|xs++[d])=ρ')(hw:∀P:D->Prop,P d->w E ρ P)(h:N.nx ρ'):cO i w E N ρ:=by unfold cO;rw[e];exact hw _ ⟨hl,by rw[e2];exact h⟩
def row0(s u:List Int)(n i:Nat):List Int:=((List.range n).map λj=>ent s n i j)++[u.getD i 0]
end G
namespace Sv
abbrev rr:=G.rr
def jW(n:Nat)(r:List Rat)(x:Nat->Rat)(c:Rat):Prop:=aS (λj=>r.getD j 0*x j) n=c*r.getD n 0
def Eqv(n:Nat)(A R:List (List Rat)):Prop:=∀x c,(∀i,i<n->jW n (rr A i) x c)↔∀i,i<n->jW n (rr R i) x c
def Col(n p:Nat)(R:List (List Rat)):Prop:=∀i q,i<n->q<p->(rr R i).getD q 0=Gs.dl i q
theorem Eqv.refl{A:List (List Rat)}:Eqv n A A:=λ_ _=>Iff.rfl
theorem Eqv.trans{n:Nat}{A B C:List (List Rat)}(h:Eqv n A B)(h':Eqv n B C):Eqv n A C:=λx c=>(h x c).trans (h' x c)
theorem swap_eqv{g:Nat}{R:List (List Rat)}(hR:R.length=n)(hp:p<n)(hg:g<n):Eqv n R ((R.set p<|rr R g).set g<|rr R p):=λx c=>by
 have e:∀i,i<n->rr ((R.set p<|rr R g).set g<|rr R p) i=if i=g then rr R p else if i=p then rr R g else rr R i:=λi _=>by show G.rr _ _=_;rw[G.rr_set (by rw[dI];omega),G.rr_set<|by omega]
 constructor;intro h i hi;rw[e i hi];split;exact h p hp;split;exact h g hg;exact h i hi;intro h i hi;by_cases a:i=p;have:=h g hg;rw[e g hg,if_pos rfl]at this;rw[a];exact this;by_cases b:i=g;have:=h p hp;rw[e p hp]at this;rw[b];by_cases z:p=g;rw[if_pos z,z]at this;exact this;rw[if_neg z,if_pos rfl]at this;exact this;have:=h i hi;rw[e i hi,if_neg b,if_neg a]at this;exact this
theorem map_at:(r.map λx=>x*q).getD k 0=r.getD k 0*q:=by
 rw[aZ,cE,aZ];cases r[k]? with
 |none=>show(0:Rat)=0*q;grind|some v=>rfl
theorem scale_eqv{R:List (List Rat)}(hR:R.length=n)(hp:p<n)(hq:q≠0):Eqv n R (R.set p<|(rr R p).map λx=>x*q):=λx c=>by
 have e:∀i,rr (R.set p<|(rr R p).map λx=>x*q) i=if i=p then(rr R p).map (λx=>x*q) else rr R i:=λi=>G.rr_set (by omega);have key:jW n ((rr R p).map λx=>x*q) x c↔jW n (rr R p) x c:=by
  unfold jW;rw[map_at,dS (g:=λj=>q*((rr R p).getD j 0*x j)) (λj _=>by rw[map_at];grind),gZ];constructor;intro h;have:=congrArg (λz=>q⁻¹*z) h;try dsimp only at this
  rw[<-Rat.mul_assoc,qZ _ hq,sh]at this;rw[this,show q⁻¹*(c*((rr R p).getD n 0*q))=(q⁻¹*q)*(c*(rr R p).getD n 0) by grind,qZ _ hq,sh];intro h;rw[h];grind
 constructor;intro h i hi;rw[e i];split;exact key.mpr<|h p hp
 exact h i hi;intro h i hi;have:=h i hi;rw[e i]at this;by_cases z:i=p;rw[if_pos z]at this;rw[z];exact key.mp this;rw[if_neg z]at this;exact this
theorem zip_at{a b:List Rat}(h:a.length=b.length):(List.zipWith (λx y=>x+q*(-1)*y) a b).getD j 0=a.getD j 0-q*b.getD j 0:=by simp only[aZ];by_cases hj:j<a.length;rw[cA (by rw[mK];omega),cA hj,cA<|by omega,sf];show a[j]+q*(-1)*b[j]=a[j]-q*b[j];grind;rw[eL (by rw[mK];omega),eL<|by omega,eL<|by omega];show(0:Rat)=0-q*0;grind
theorem add_eqv{T:List (List Rat)}(hT:T.length=n)(hp:p<n)(hk:k<n)(ne:k≠p)(hl:(rr T k).length=(rr T p).length):Eqv n T (T.set k<|List.zipWith (λx y=>x+q*(-1)*y) (rr T k)<|rr T p):=λx c=>by
 have e:∀i,rr (T.set k<|List.zipWith (λx y=>x+q*(-1)*y) (rr T k)<|rr T p) i=if i=k then List.zipWith (λx y=>x+q*(-1)*y) (rr T k) (rr T p) else rr T i:=λi=>G.rr_set (by omega);have key:jW n (rr T p) x c->(jW n (List.zipWith (λx y=>x+q*(-1)*y) (rr T k)<|rr T p) x c↔jW n (rr T k) x c):=λh=>by unfold jW at h ⊢;rw[zip_at hl,dS (g:=λj=>(rr T k).getD j 0*x j-q*((rr T p).getD j 0*x j)) (λj _=>by rw[zip_at hl];grind),rM,gZ,h];constructor<;>intro z<;>grind
 constructor;intro h i hi;rw[e i];split;exact(key<|h p hp).mpr<|h k hk
 exact h i hi;intro h;have hpp:jW n (rr T p) x c:=by have:=h p hp;rw[e p,if_neg<|Pa ne]at this;exact this
 intro i hi;have:=h i hi;rw[e i]at this;by_cases z:i=k;rw[if_pos z]at this;rw[z];exact(key hpp).mp this;rw[if_neg z]at this;exact this
section
variable{u:List Int}
def A0(s u:List Int)(n:Nat):List (List Rat):=(List.range n).map λi=>bW<|G.row0 s u n i
theorem yj(hi:i<n)(hj:j<n):(rr (A0 s u n) i).getD j 0=(ent s n i j:Rat):=by show((A0 s u n).getD i []).getD j 0=_;unfold A0;rw[aZ (l:=List.map _ _),cE,iU hi];show(bW<|G.row0 s u n i).getD j 0=_;unfold bW G.row0;rw[aZ,cE,j9<|by simpa using hj,cE,iU hj];rfl
theorem NF(hi:i<n):(rr (A0 s u n) i).getD n 0=(u.getD i 0:Rat):=by show((A0 s u n).getD i []).getD n 0=_;unfold A0;rw[aZ (l:=List.map _ _),cE,iU hi];show(bW<|G.row0 s u n i).getD n 0=_;unfold bW G.row0;rw[aZ,cE,jY<|by simp];simp
theorem Ed{x:Nat->Rat}{c:Rat}(h:IsSl s n)(hi:i<n):jW n (rr (A0 s u n) i) x c↔aS (λj=>Gs.tq s n i j*x j) n=c*(u.getD i 0:Rat):=by unfold jW;rw[NF hi,dS (g:=λj=>Gs.tq s n i j*x j) (λj hj=>by rw[yj hi hj];unfold Gs.tq;rw[Gs.tA_ent h hi hj])]
theorem stop_free{R:List (List Rat)}(h:IsSl s n)(hp:p<n)(e:Eqv n (A0 s u n) R)(hc:Col n p R)(h0:∀k,p<=k->k<n->(rr R k).getD p 0=0):cK s n≠[]:=by
 intro ef;let w:Nat->Rat:=λj=>if j=p then 1 else if j<p then-(rr R j).getD p 0 else 0;have hw:∀i,i<n->jW n (rr R i) w 0:=λi hi=>by
  unfold jW;rw[iH];by_cases ip:i<p;have:aS (λj=>(rr R i).getD j 0*w j) n=aS (λj=>(if j=p then(rr R i).getD p 0 else 0)-(if j=i then(rr R i).getD p 0 else 0)) n:=dS λj hj=>by show(rr R i).getD j 0*(if j=p then 1 else if j<p then-(rr R j).getD p 0 else 0)=_;by_cases a:j=p;rw[if_pos a,if_pos a,a,if_neg<|by omega];grind;rw[if_neg a,if_neg a];by_cases b:j<p;rw[if_pos b,hc i j hi b];by_cases d:j=i;rw[if_pos d,d,Gs.dl_one];grind;rw[if_neg d,Gs.dl_ne<|Pa d];grind;rw[if_neg b,if_neg<|by omega];grind
  rw[this,rM,mF (k:=p) hp<|λj _ ne=>by rw[if_neg ne],mF (k:=i) hi<|λj _ ne=>by rw[if_neg ne],if_pos rfl,if_pos rfl];grind;refine qQ λj hj=>?_;show(rr R i).getD j 0*(if j=p then 1 else if j<p then-(rr R j).getD p 0 else 0)=0;by_cases a:j=p;rw[if_pos a,a,h0 i (by omega) hi];grind;rw[if_neg a];by_cases b:j<p;rw[hc i j hi b,Gs.dl_ne<|by omega];grind;rw[if_neg b];grind
 have hA:=(e w 0).mpr hw;have:=HI (tA<|tbl s n) h.n5 (w:=w) (λi hi=>by
  have z:=(Ed h hi).mp (hA i hi);rw[iH]at z;exact z) hp
 have w1:w p=1:=if_pos rfl;rw[w1,qY]at this;exact(l8 h).mp ef (by exact_mod_cast this)
theorem end_sol{R:List (List Rat)}(h:IsSl s n)(hR:R.length=n)(e:Eqv n (A0 s u n) R)(hc:Col n n R):cK s n=[]/\(R.map λr=>r.getD n 0)=Gs.solF s n u:=by
 have one:∀{x:Nat->Rat} {c:Rat} {i:Nat},i<n->(jW n (rr R i) x c↔x i=c*(rr R i).getD n 0):=λ{x c i} hi=>by unfold jW;rw[dS (g:=λj=>Gs.dl i j*x j)<|λj hj=>by rw[hc i j hi hj],Gs.sum_dl x hi]
 have ef:cK s n=[]:=Classical.byContradiction λhn=>by
  have hm:(cK s n).getD 0 []∈cK s n:=nR<|List.length_pos_iff.mpr hn;obtain⟨l,f0⟩:=Nv h hm;have hA:∀i,i<n->jW n (rr (A0 s u n) i) (λj=>((cK s n).getD 0 []).getD j 0) 0:=λi hi=>by rw[Ed h hi,iH];have:=f0 _<|nR (R:=e9 s n) (a:=i) (by rw[pR];exact hi);rw[xP h hi l]at this;exact this
  have hz:=(e _ 0).mp hA;have z:∀i,i<n->((cK s n).getD 0 []).getD i 0=0:=λi hi=>by have:=(one hi).mp<|hz i hi;rw[iH]at this;exact this
  rw[Ig]at hm z;obtain⟨p,hp,ep⟩:=YbT.mp hm;have p1:=(Zlr.mp hp).1;have f1:=Nu h hp hp;rw[ep,Gs.dl_one,z p p1]at f1;exact O5 f1 (by decide +kernel)
 refine⟨ef,?_⟩;have ya:∀i,i<n->(R.map λr=>r.getD n 0).getD i 0=(rr R i).getD n 0:=λi hi=>by show _=(R.getD i []).getD n 0;rw[aZ,cE,aZ (l:=R),cA<|by omega];rfl
 refine Gs.sol_uniq h ef (by rw[bQ];exact hR) λi hi=>?_;have:=(e (λk=>(R.map λr=>r.getD n 0).getD k 0) 1).mpr (λi hi=>(one hi).mpr<|by rw[ya i hi,sh]) i hi;rw[Ed h hi,sh]at this;exact this
end
end Sv
namespace G
def wl(k:Nat):Int:=[1,3,9,27,81].getD k 1
end G
namespace G
theorem seq_inv{E:Ex->Prop}(I:cX->Prop)(h:∀nx:cX->Prop,(∀ρ,I ρ->nx ρ)->z E { N with nx:=nx } ρ)(h2:∀ρ,I ρ->z' E N ρ):aI z z' E N ρ:=h _ h2
mutual
theorem Ip{m m':Nat}(l:m<=m'):∀{d:D},cJ m d=true->cJ m' d=true
 |.int i,h=>by rw[cJ,decide_eq_true_iff] at *;exact dG h<|mL (by decide) l
 |.tup xs,h=>by rw[cJ] at *;exact Ee l h|.lst xs,h=>by rw[cJ] at *;exact Ee l h|.bl _,_=>by simp[cJ]|.non,_=>by simp[cJ]|.str _,_=>by simp[cJ]|.dic,_=>by simp[cJ]|.pen,_=>by simp[cJ]|.ty _,_=>by simp[cJ]|.scr _,_=>by simp[cJ]|.cls _,_=>by simp[cJ]|.exc _,_=>by simp[cJ]
theorem Ee{m m':Nat}(l:m<=m'):∀{xs:List D},dQ m xs=true->dQ m' xs=true
 |[],_=>by simp[dQ]|x::xs,h=>by rw[dQ,cV] at *;exact⟨Ip l h.1,Ee l h.2⟩
end
end G
namespace B.C.E.K8
theorem mk_col(h:IsSl s n)(e:cK s n=[])(hp:p<n):gh s n (aG<|gC (jq s n) p) (cS n p)=true:=by obtain⟨it,_⟩:=M3 h e;unfold gh;have:=zZ<|gC (jq s n) p;rw[Am,it.len]at this;rw[this,qM,M4 h e hp];simp
end B.C.E.K8
def ma(s:List Int)(n:Nat)(u:List Int):D:=if cK s n=[] then aG (solF s n u) else .non
def NG:bO:=uX
namespace G.V9
def t8:bO:=fnS (λx:SL×List Int=>[aL x.1.1,aL x.2]) (λx=>IsSl x.1.1 x.1.2/\x.2.length=x.1.2/\∀y∈x.2,y.natAbs<2^10) λx=>ma x.1.1 x.1.2 x.2
def uZ:bO:=fnS (λx:SL×Nat=>[aL x.1.1,.int x.2]) (λx=>IsSl x.1.1 x.1.2/\1<=x.2/\x.2<=x.1.2) λx=>aL<|cor x.1.1 x.1.2 x.2
def u0:bO:=fnS (λx:SL=>[aL x.1]) (λx=>IsSl x.1 x.2) λx=>uW<|eW x.1 x.2
def AQ:bO:=rlS (λ_:Unit=>[.pen]) (λ_=>True) λ_ d=>∃s n,d=aL s/\IsSl s n/\Stg s n
section
variable{E:Ex->Prop}{x:D}{u:List Int}
theorem Iq(h:IsSl s n)(h1:u.length=n)(h2:∀y∈u,y.natAbs<2^10)(q:Q (ma s n u)):t8 [aL s,aL u] E Q:=⟨((s,n),u),rfl,⟨h,h1,h2⟩,q⟩
theorem Ir(h:IsSl s n)(h1:1<=k)(h2:k<=n)(q:Q (aL<|cor s n k)):uZ [aL s,.int k] E Q:=⟨((s,n),k),rfl,⟨h,h1,h2⟩,q⟩
theorem yk(h:IsSl s n)(q:Q (uW<|eW s n)):u0 [aL s] E Q:=⟨(s,n),rfl,h,q⟩
theorem NH(q:∀s n,IsSl s n->Stg s n->Q (aL s)):AQ [.pen] E Q:=⟨(),rfl,trivial,λd ⟨s,n,e,h,g⟩=>by rw[e];exact q s n h g⟩
end
end G.V9
abbrev NI:List Str:=["slants", "step", "size"]
def Ef:WS:=(aI (eP<|wF pV<|aC (wN 0) aA)<|aI (aP 2<|wF lZ<|aC (wN 0) aA)<|aI (cQ (wT<|w2 (gEq false) (wN 2)<|wC<|D.int<|1) (jn<|PySem.Str.ofString "NoNumber") cT)<|aI (cQ (bV<|wT<|wF Hm<|aC (wF ot<|aC (wN 0)<|aC (w2 fu (wN 2)<|wC<|D.int<|1) aA)<|aC (wN 1) aA) (jn<|PySem.Str.ofString "NoRow") cT)<|aM<|wF uX<|aC (wN 0)<|aC (wN 1) aA)
namespace G.V9
noncomputable abbrev Eg:List Str:=["_law_slants", "_law_right", "_law_size", "_law_rows", "_law_i", "_law_place", "_law_good", "_law_top", "_law_bottom", "_law_at", "_law_part"]
def AR:WS:=(aI (aP 2<|w2 fj (w2 gAdd (wB bR<|aC (wN 0) aA)<|wC<|D.int<|1)<|wC<|D.int<|2)<|aI (cH 3<|bG aA)<|aI (bK<|bN (fO<|aC (wN 2) aA) (gN 4)<|cO 3<|w2 gAdd (wL<|aLC (fO<|aC (wN 2) aA) 1 [0,2,4] (gN 0) dC<|bA<|aC (w2 gIx (wN 1)<|w2 fu (w2 gAdd (w2 fu (wN 0)<|wN 3)<|wN 2)<|wC<|D.int<|1)<|aC (wC<|D.int<|1) aA)<|wL<|bG<|aC (bA<|aC (w2 gIx (wN 1)<|wN 4)<|aC (wC<|D.int<|1) aA) aA)<|cM 6<|aI (bK<|bN (fO<|aC (wN 2) aA) (gN 5)<|aI (cH 6<|dD 3<|aLC (iP<|aC (wN 5)<|aC (wN 2) aA) 1 [3,5] (gN 0) (wT<|w2 (gEq true) (w2 gIx (w2 gIx (w2 gIx (wN 1)<|wN 0)<|wN 2)<|wC<|D.int<|0)<|wC<|D.int<|0)<|wN 0)<|cM 6<|aI (cQ (wT<|w2 (gEq false) (wN 6)<|wL<|bG aA) (aM<|wC D.non) cT)<|cM 6<|aI (uL 3 (bA<|aC (dL 3<|w2 gIx (wN 6)<|wC<|D.int<|0)<|aC (dL 3<|wN 5) aA) (wN 5)<|w2 gIx (wN 6)<|wC<|D.int<|0)<|aI (eQ (dZ 3<|w2 gIx (w2 gIx (wN 3)<|wN 5)<|wN 5)<|fg 2<|dh (gN 7)<|dh (gN 8) e8)<|aI (iQ 3 (wN 5)<|wL<|aLC (iS<|dL 3<|wN 5) 1 [7,8] (gN 0) dC<|wF tR<|aC (wN 0)<|aC (wF qO<|aC (wN 2)<|aC (wN 1) aA) aA)<|bK<|bN (fO<|aC (wN 2) aA) (gN 9)<|cQ (wT<|w2 (gEq true) (wN 9)<|wN 5) (aI (aP 10<|dZ 3<|wF tR<|aC (w2 gIx (w2 gIx (wN 3)<|wN 9)<|wN 5)<|aC (bA<|aC (w1 fk<|wC<|D.int<|1)<|aC (wC<|D.int<|1) aA) aA)<|iQ 3 (wN 9)<|wL<|aLC (iZ<|aC (dL 3<|wN 9)<|aC (dL 3<|wN 5) aA) 2 [10] (fg 2<|dh (gN 0)<|dh (gN 1) e8) dC<|wF xu<|aC (wN 0)<|aC (wF tR<|aC (wN 2)<|aC (wN 1) aA) aA) cT)<|cM 3<|aM<|wB hV<|aC (wL<|aLC (iS<|wN 3) 1 [2] (gN 0) dC<|w2 gIx (wN 0)<|wN 1) aA)
abbrev Zgq:List Str:=["_law_slants", "_law_k", "_law_cut"]
def Ei:WS:=(aI (aP 2<|w2 fu (w2 fj (w2 gAdd (wB bR<|aC (wN 0) aA)<|wC<|D.int<|1)<|wC<|D.int<|2)<|wN 1)<|aM<|bP (wN 0) (dF<|wN 2)<|dF<|w2 fu (wB bR<|aC (wN 0) aA)<|wN 2)
abbrev Zir:List Str:=["_law_slants", "_law_k"]
def Ej:WS:=(aI (bK<|bN (iP<|aC (wC<|D.int<|1)<|aC (w2 gAdd (w2 fj (w2 gAdd (wB bR<|aC (wN 0) aA)<|wC<|D.int<|1)<|wC<|D.int<|2)<|wC<|D.int<|1) aA) (gN 1)<|cQ (wT<|w2 (gIsC false) (wF t8<|aC (wF uZ<|aC (wN 0)<|aC (wN 1) aA)<|aC (wF xW<|aC (wN 1)<|aC (wC<|D.int<|0) aA) aA)<|wC D.non) (aM<|wN 1) cT)<|aM<|wC D.non)
abbrev Zes:List Str:=["_law_pen", "_law_slants", "_law_size"]
def Ek:WS:=(aI (aP 1<|wF xv<|aC (wN 0) aA)<|aI (cQ (wT<|w2 (gIsC true) (wF u0<|aC (wN 1) aA)<|wC D.non) (aI (aP 2<|w2 fj (w2 gAdd (wB bR<|aC (wN 1) aA)<|wC<|D.int<|1)<|wC<|D.int<|2)<|aI (aP 1<|wB hV<|aC (wL<|aLC (iS<|wN 1) 1 [] (gN 0) dC<|w2 fu (w2 qK (wN 0)<|wC<|D.int<|3)<|wC<|D.int<|1) aA)<|aP 1<|w2 gAdd (w2 gAdd (bP (wN 1) eO<|dF<|w2 fu (wN 2)<|wC<|D.int<|1)<|bA<|aC (wC<|D.int<|9) aA)<|bP (wN 1) (dF<|wN 2) eO) cT)<|aM<|wN 1)
theorem rd__law_solved:Rd t8 AR Eg:=by
 rintro _ E Q ⟨⟨⟨s,n⟩,u⟩,rfl,⟨h,hu,hub⟩,q⟩;dsimp only at h hu hub q;have n1:=h.n1;have n5:=h.n5;have hsl:=h.len;show AR E _ [.d<|aL s,.d<|aL u,.un,.un,.un,.un,.un,.un,.un,.un,.un];unfold AR;refine bH<|Il (d:=.int n) (ρ':=[.d<|aL s,.d<|aL u,.d<|.int n,.un,.un,.un,.un,.un,.un,.un,.un]) (by rfl) (λP hP=>?_) ?_
 .unfold aL
  walk_at "st";refine⟨⟨by decide,jo (n:=2) (by decide)<|by omega⟩,?_⟩;rw[bQ,va _<|by decide,show((s.length:Int)+1)/2=n by omega];exact hP
 dsimp only;refine bH<|B.C.own_by (xs:=[]) (ρ':=[.d<|aL s,.d<|aL u,.d<|.int n,.ow [],.un,.un,.un,.un,.un,.un,.un]) (by rfl) (λP hP=>⟨by decide,hP⟩) ?_;dsimp only;refine bH ?_;simp only[bK,bN];walk_at "st";refine⟨by omega,by omega,?_⟩;refine uJ (λi ρ=>∃s4,ρ=[.d<|aL s,.d<|aL u,.d<|.int n,.ow<|(List.range i).map λi=>lq<|bW<|row0 s u n i,s4,.un,.un,.un,.un,.un,.un]) n ?_ ?_ _ ⟨_,rfl⟩
 .rintro i hi _ ⟨s4,rfl⟩ nx hnx
  simp only[gN,ia,h8];refine Io (d:=lq<|bW<|row0 s u n i) (ρ':=[.d<|aL s,.d<|aL u,.d<|.int n,.ow<|(List.range<|i+1).map λi=>lq<|bW<|row0 s u n i,.d<|.int i,.un,.un,.un,.un,.un,.un]) rfl (by simp[aO];omega) (by rw[rc,gL];rfl) (λP hP=>?_)<|hnx _ ⟨_,rfl⟩;walk_at "st";refine⟨by omega,by omega,?_⟩;rw[nQ];refine jR (g:=λj:Nat=>D.int (j:Int)) (f:=λj:Nat=>aR (ent s n i j:Rat)) (List.range n) (λj hj Q hq=>?_) .un [] (by simp[aO];omega) ?_
  .rw[Yah]at hj
   unfold aL;walk_at "st";have e1:(s.map D.int)[n-1-i+j]? = some (.int<|ent s n i j):=by
    unfold ent;rw[cE,aZ,cA<|by omega];rfl
   exact⟨_,xp (k:=n-1-i+j) (by omega) e1,by decide,hq⟩
  .have e1:(u.map D.int)[i]? = some (.int<|u.getD i 0):=by
    rw[cE,aZ,cA<|by omega];rfl
   refine⟨_,xp rfl e1,by decide,by decide,eV (by simp;omega),?_⟩;unfold lq bW row0 at hP;rw[gL,gL,du,du]at hP;exact hP
 rintro _ ⟨s4,rfl⟩;have lf0:∀i,i<n->Lf (LP.bq 10 0) (n+1) (bW<|row0 s u n i):=λi hi=>by
  have:=Lf.int (b:=10) (c:=row0 s u n i) (by decide) λx hx=>by
   unfold row0 at hx;rcases Yap.mp hx with hx|hx
   .obtain⟨j,hj,rfl⟩:=YbT.mp hx
    rw[Yah]at hj;have hb:-50<=ent s n i j/\ent s n i j<=50:=by
     unfold ent;rw[aZ,cA<|by omega,Bu];exact h.b _<|jC _
    show _<1024;omega
   .rw[Ycp.mp hx,aZ,cA<|by omega]
    exact hub _<|jC _
  unfold row0 at this ⊢;rw[d9,bQ,mm,mh]at this;exact this
 dsimp only;refine B.C.pub_by (ρ':=[.d<|aL s,.d<|aL u,.d<|.int n,.ow<|(List.range n).map λi=>lq<|bW<|row0 s u n i,s4,.un,.un,.un,.un,.un,.un]) rfl ?_;refine bH ?_;simp only[bK,bN];walk_at "st";refine⟨by omega,by omega,?_⟩;refine uJ (λp ρ=>∃ (R:List (List Rat)) (s4 s5 s6 s7 s8 s9 s10:SV),R.length=n/\Sv.Eqv n (Sv.A0 s u n) R/\Sv.Col n p R/\(∀ i,i < n->Lf (LP.bq 10 p) (n+1) (rr R i))/\ρ=[.d<|aL s,.d<|aL u,.d<|.int n,.ow<|R.map lq,s4,s5,s6,s7,s8,s9,s10]) n ?_ ?_ _ ⟨(List.range n).map λi=>bW<|row0 s u n i,_,_,_,_,_,_,_,by simp,Sv.Eqv.refl,(λi q _ hq=>by omega),λi hi=>by
  unfold rr;rw[aZ,cE,iU hi];exact lf0 i hi,by rw[du];rfl⟩
 rotate_left
 .rintro _ ⟨R,s4,s5,s6,s7,s8,s9,s10,hR,hE,hC,hL,rfl⟩
  dsimp only;refine B.C.pub_by (ρ':=[.d<|aL s,.d<|aL u,.d<|.int n,.d<|.lst<|R.map lq,s4,s5,s6,s7,s8,s9,s10]) rfl ?_;walk_at "st";have hmem:∀r∈R,Lf (LP.bq 10 n) (n+1) r:=λr hr=>by
   obtain⟨i,hi,e⟩:=YbA.mp hr;have:=hL i (by omega);unfold rr at this;rw[aZ,cA hi]at this;rw[<-e];exact this
  refine jR (g:=lq) (f:=λr=>aR<|r.getD n 0) R (λr hr Q hq=>?_) .un [] (by simp[aO];omega) ?_
  .unfold lq
   walk_at "st";exact⟨_,AO (hmem r hr)<|by omega,hq⟩
  .walk_at "st"
   obtain⟨ef,es⟩:=Sv.end_sol h hR hE hC;unfold ma at q;rw[if_pos ef,<-es]at q;unfold aG at q;rw[du]at q;exact q
 rintro p hp _ ⟨R,s4,s5,s6,s7,s8,s9,s10,hR,hE,hC,hL,rfl⟩ nx hnx;have bp:LP.bq 10 p<=175:=by
  have:p<=4:=by omega
  exact hX (Aq this) (by decide)
 have hRl:(R.map lq).length=n:=by rw[bQ];exact hR
 show aI _ _ _ _ [.d<|aL s,.d<|aL u,.d<|.int n,.ow<|R.map lq,s4,.d<|.int p,s6,s7,s8,s9,s10]
 let gs:=((List.range<|n-p).map (p + ·)).filter λk=>decide ((rr R k).getD p 0≠0)
 refine bH<|B.C.own_by (xs:=gs.map λ(k:Nat)=>D.int (k:Int)) (ρ':=[.d<|aL s,.d<|aL u,.d<|.int n,.ow<|R.map lq,s4,.d<|.int p,.ow<|gs.map λ(k:Nat)=>D.int (k:Int),s7,s8,s9,s10]) (by rfl) (λP hP=>?_) ?_
 .walk_at "st"
  refine⟨⟨by omega,by omega,by omega,by omega⟩,?_⟩;have el:rng (p:Int) ((n:Int)-(p:Int)).toNat=((List.range<|n-p).map (p + ·)).map λ(k:Nat)=>D.int (k:Int):=by
   unfold rng;rw[du,show((n:Int)-(p:Int)).toNat=n-p by omega];exact hJ λk _=>by simp
  rw[el];refine Do (p:=λk=>decide ((rr R k).getD p 0≠0)) _ (λk hk P hP=>?_) .un [] (by simp[aO];omega) ?_
  .obtain⟨k',hk',rfl⟩:=YbT.mp hk
   rw[Yah]at hk';walk_at "st";refine⟨_,rR<|by omega,?_⟩;unfold lq;walk_at "st";refine⟨_,AO (hL (p+k')<|by omega)<|by omega,?_⟩;unfold aR;walk_at "st";refine⟨_,bE (j:=0) rfl,?_⟩;walk_at "st";have e1:(!((rr R<|p+k').getD p 0).num==0)=decide ((rr R<|p+k').getD p 0≠0):=by
    rw[j8];simp[YcB]
   rw[e1];exact hP
  .rw[eY]
   exact⟨B.C.flats_nats _,hP⟩
 dsimp only;refine B.C.pub_by (ρ':=[.d<|aL s,.d<|aL u,.d<|.int n,.ow<|R.map lq,s4,.d<|.int p,.d<|.lst<|gs.map λ(k:Nat)=>D.int (k:Int),s7,s8,s9,s10]) rfl ?_;have okg:dm (.lst<|gs.map λ(k:Nat)=>D.int (k:Int)) 60=true:=FP (n:=59) λd hd=>by
  obtain⟨k,_,rfl⟩:=YbT.mp hd;exact zS _ _
 cases eg:gs with
 |nil=>
  refine bH<|eU (b:=true) (λP hP=>?_) (λ_=>by
   have ef:=Sv.stop_free h hp hE hC λk k1 k2=>Classical.byContradiction λz=>by
    have:k∈gs:=Yag.mpr ⟨YbT.mpr ⟨k-p,Yah.mpr<|by omega,by omega⟩,by simpa using z⟩;rw[eg]at this;cases this
   unfold ma at q;rw[if_neg ef]at q;exact q) λe=>nomatch e
  walk_at "st";exact⟨by decide,uA (by decide +kernel) hP⟩
 |cons g gs'=>
 obtain⟨g1,g2,g3⟩:p<=g/\g<n/\(rr R g).getD p 0≠0:=by
  have hm:g∈gs:=by rw[eg];simp
  obtain⟨h1,h2⟩:=Yag.mp hm;obtain⟨k,hk,rfl⟩:=YbT.mp h1;rw[Yah]at hk;exact⟨by omega,by omega,by simpa using h2⟩
 rw[eg]at okg;generalize hG:(List.map (λ(k:Nat)=>D.int (k:Int)) (g::gs'))=G;rw[hG]at okg;have hGa:dN G 0=some (.int g):=by rw[<-hG];exact bE (j:=0) rfl
 refine bH<|eU (b:=false) (λP hP=>?_) (λe=>nomatch e) λ_=>?_
 .walk_at "st"
  refine⟨by decide,wY okg (by decide +kernel) ?_⟩;have:j5 (.lst G) (.lst [])=false:=by
   rw[<-hG];unfold j5;rw[c6,pd,pd,PyData.eqv,hW,hW,PyData.eqvAll]
  rw[this];exact hP
 dsimp only;refine B.C.pub_by (ρ':=[.d<|aL s,.d<|aL u,.d<|.int n,.ow<|R.map lq,s4,.d<|.int p,.d<|.lst G,s7,s8,s9,s10]) rfl ?_;refine bH<|B.C.swap_by (xs:=R.map lq) (x:=lq<|rr R g) (y:=lq<|rr R p) (k1:=p) (k2:=g) rfl (λP hP=>?_) (B.nm_at rfl) (λP hP=>?_) (by omega) (by omega) ?_
 .walk_at "st"
  exact⟨_,hGa,_,rR (k:=g)<|by omega,_,rR (k:=p)<|by omega,by decide,hP⟩
 .walk_at "st"
  exact⟨_,hGa,hP⟩
 have eR1:((R.map lq).set p<|lq<|rr R g).set g (lq<|rr R p)=((R.set p<|rr R g).set g<|rr R p).map lq:=by rw[vb,vb]
 generalize hR1:(R.set p<|rr R g).set g (rr R p)=R1 at eR1;have l1:R1.length=n:=by rw[<-hR1,dI,dI];exact hR
 have a1:∀i,i<n->Lf (LP.bq 10 p) (n+1) (rr R1 i):=λi hi=>by
  rw[<-hR1,rr_set (by rw[dI];omega)];split
  .exact hL p hp
  .rw[rr_set<|by omega]
   split
   .exact hL g g2
   .exact hL i hi
 have hE1:Sv.Eqv n (Sv.A0 s u n) R1:=by rw[<-hR1];exact hE.trans<|Sv.swap_eqv hR hp g2
 have hC1:Sv.Col n p R1:=λi q hi hq=>by
  show(rr R1 i).getD q 0=_;rw[<-hR1,rr_set (by rw[dI];omega)];split
  .rename_i e
   have:(rr R p).getD q 0=Gs.dl p q:=hC p q hp hq;rw[this,e,Gs.dl_ne<|by omega,Gs.dl_ne<|by omega]
  .rw[rr_set<|by omega]
   split
   .rename_i e
    have:(rr R g).getD q 0=Gs.dl g q:=hC g q g2 hq;rw[this,e,Gs.dl_ne<|by omega,Gs.dl_ne<|by omega]
   .exact hC i q hi hq
 have ap:rr R1 p=rr R g:=by
  rw[<-hR1,rr_set (by rw[dI];omega)];split
  .rename_i e;rw[e]
  .rw[rr_set<|by omega,if_pos rfl]
 dsimp only;show aI _ _ _ _ [.d<|aL s,.d<|aL u,.d<|.int n,.ow<|((R.map lq).set p<|lq<|rr R g).set g<|lq<|rr R p,s4,.d<|.int p,.d<|.lst G,s7,s8,s9,s10];rw[eR1];clear eR1 hGa okg hG;have pv:=a1 p hp;have pv0:(rr R1 p).getD p 0≠0:=by rw[ap];exact g3
 generalize hq0:(rr R1 p).getD p 0=q0 at pv0;have sq0:Sz (LP.bq 10 p) q0:=by rw[<-hq0];exact(pv.get<|by omega).2
 refine bH<|NE (x:=.int q0.num) (y:=.int (q0.den:Int)) (ρ':=[.d<|aL s,.d<|aL u,.d<|.int n,.ow<|R1.map lq,s4,.d<|.int p,.d<|.lst G,.d<|.int q0.num,.d<|.int (q0.den:Int),s9,s10]) (by rfl) (λP hP=>?_) ?_
 .walk_at "st"
  refine⟨_,rR (k:=p)<|by omega,?_⟩;unfold lq;walk_at "st";refine⟨_,AO (k:=p) pv<|by omega,?_⟩;rw[hq0];exact⟨rfl,hP⟩
 dsimp only;have piv:=pv.norm (p:=p) (by omega) (by rw[hq0];exact pv0);rw[hq0]at piv;have l2:p<(R1.map lq).length:=by rw[bQ];omega
 refine bH<|Im (xs:=R1.map lq) (k:=p) (d:=lq<|(rr R1 p).map λx=>x*q0⁻¹) (ρ':=[.d<|aL s,.d<|aL u,.d<|.int n,.ow<|(R1.set p<|(rr R1 p).map λx=>x*q0⁻¹).map lq,s4,.d<|.int p,.d<|.lst G,.d<|.int q0.num,.d<|.int (q0.den:Int),s9,s10]) rfl l2 (by rw[vb];rfl) (λP hP=>?_) (B.nm_at rfl) ?_
 .walk_at "st"
  refine⟨_,rR (k:=p)<|by omega,?_⟩;unfold lq;walk_at "st";refine jR (g:=aR) (f:=λx=>aR<|x*q0⁻¹) (rr R1 p) (λx hx Q hq=>?_) .un [] (eV (by rw[pv.len,jZ];omega)) ?_
  .walk_at "st"
   have hn0:q0.num≠0:=λz=>pv0<|YcB.mp z;refine⟨(_,_),rfl,⟨hn0,(sq0.bd<|by omega).1⟩,?_⟩;dsimp only;have ei:Rat.divInt (q0.den:Int) q0.num=q0⁻¹:=by
    have:=Rat.inv_divInt q0.num (q0.den:Int);rw[uh]at this;exact this.symm
   rw[ei];exact Ab (B2.of (pv.sz x hx) sq0.inv<|by omega) hq
  .unfold lq at hP
   rw[du]at hP;exact hP
 generalize hpr:(rr R1 p).map (λx=>x*q0⁻¹)=pr at piv;have qi0:q0⁻¹≠0:=λz=>by
  have:=y9 _ pv0;rw[z,jE]at this;exact O5 this (by decide)
 have hE2:Sv.Eqv n (Sv.A0 s u n) (R1.set p pr):=by rw[<-hpr];exact hE1.trans<|Sv.scale_eqv l1 hp qi0
 have prq:∀q,q<p->pr.getD q 0=0:=λq hq=>by
  rw[<-hpr,Sv.map_at];have:(rr R1 p).getD q 0=Gs.dl p q:=hC1 p q hp hq;rw[this,Gs.dl_ne<|by omega,iH]
 have prp:pr.getD p 0=1:=by rw[<-hpr,Sv.map_at,hq0,y9 _ pv0]
 have hC2:Sv.Col n p (R1.set p pr):=λi q hi hq=>by
  show(rr (R1.set p pr) i).getD q 0=_;rw[rr_set<|by omega];split
  .rename_i e;rw[prq q hq,e,Gs.dl_ne<|by omega]
  .exact hC1 i q hi hq
 dsimp only;walk_at "st";refine⟨by omega,by omega,?_⟩;refine uJ (λk ρ=>∃ (T:List (List Rat)) (s9 s10:SV),T.length=n/\rr T p=pr/\Sv.Eqv n (Sv.A0 s u n) T/\Sv.Col n p T/\(∀ i,i < n->i < k->i≠p->(rr T i).getD p 0=0)/\(∀ i,i < n->Lf (if i < k then LP.bq 10 (p+1) else LP.bq 10 p) (n+1) (rr T i))/\ρ=[.d<|aL s,.d<|aL u,.d<|.int n,.ow<|T.map lq,s4,.d<|.int p,.d<|.lst G,.d<|.int q0.num,.d<|.int (q0.den:Int),s9,s10]) n ?_ ?_ _ ⟨R1.set p pr,_,_,by rw [dI];exact l1,by rw [rr_set<|by omega,if_pos rfl],hE2,hC2,(λi _ hk _=>by omega),λi hi=>by
  rw[if_neg<|by omega,rr_set<|by omega];split
  .exact piv
  .exact a1 i hi,rfl⟩
 rotate_left
 .rintro _ ⟨T,s9,s10,hT,hTp,hE3,hC3,hZ3,hL2,rfl⟩
  refine hnx _ ⟨T,_,_,_,_,_,_,_,hT,hE3,λi q hi hq=>?_,λi hi=>by have:=hL2 i hi;rw[if_pos hi]at this;exact this,rfl⟩
  by_cases z:q<p
  .exact hC3 i q hi z
  .obtain rfl:q=p:=by omega
   show(rr T i).getD q 0=_
   by_cases z2:i=q
   .rw[z2,hTp,prp,Gs.dl_one]
   .rw[hZ3 i hi hi z2,Gs.dl_ne z2]
 rintro k hk _ ⟨T,s9,s10,hT,hTp,hE3,hC3,hZ3,hL2,rfl⟩ nx2 hnx2;have step:LP.bq 10 (p+1)=2*LP.bq 10 p+1:=rfl;show cQ _ _ _ _ _ [.d<|aL s,.d<|aL u,.d<|.int n,.ow<|T.map lq,s4,.d<|.int p,.d<|.lst G,.d<|.int q0.num,.d<|.int (q0.den:Int),.d<|.int k,s10]
 by_cases ekp:k=p
 .refine eU (b:=false) (λP hP=>?_) (λe=>nomatch e) λ_=>hnx2 _ ⟨T,_,_,hT,hTp,hE3,hC3,(λi hi hik ne=>hZ3 i hi (by omega) ne),λi hi=>?_,rfl⟩
  .walk_at "st"
   rw[ekp];simpa using hP
  .have:=hL2 i hi
   by_cases c:i<k
   .rw[if_pos c]at this
    rw[if_pos<|by omega];exact this
   .rw[if_neg c]at this
    split
    .exact this.mono (by omega)
    .exact this
 .refine eU (b:=true) (λP hP=>?_) (λ_=>?_) λe=>nomatch e
  .walk_at "st"
   have:((k:Int)==(p:Int))=false:=by simpa using λz=>ekp (by exact_mod_cast z)
   rw[this];exact hP
  have rk:=hL2 k hk;rw[if_neg<|iR _]at rk;have gk:=rk.get (k:=p) (by omega);have hm1:Sz 1 (-1:Rat):=(Sz.int (n:=1) 1 (by decide)<|by decide).neg;generalize ha:(rr T k).getD p 0=a at gk;refine bH<|Il (d:=aR<|a*(-1)) (ρ':=[.d<|aL s,.d<|aL u,.d<|.int n,.ow<|T.map lq,s4,.d<|.int p,.d<|.lst G,.d<|.int q0.num,.d<|.int (q0.den:Int),.d<|.int k,.d<|aR<|a*(-1)]) (by rfl) (λP hP=>?_) ?_
  .walk_at "st"
   refine⟨_,rR (k:=k)<|by omega,?_⟩;unfold lq;walk_at "st";refine⟨_,AO (k:=p) rk<|by omega,by decide,?_⟩;rw[ha];exact Ab (q:=-1) (B2.of gk.2 hm1<|by omega) ⟨rfl,hP⟩
  have ls:=rk.less (piv) (p:=p) (by omega);rw[ha]at ls;have l3:k<(T.map lq).length:=by rw[bQ];omega
  have pl:pr.length=n+1:=piv.len;have hE4:Sv.Eqv n (Sv.A0 s u n) (T.set k<|List.zipWith (λx y=>x+a*(-1)*y) (rr T k) pr):=by
   have:=Sv.add_eqv (q:=a) hT hp hk ekp (by show(rr T k).length=(rr T p).length;rw[rk.len,hTp,pl]);rw[show Sv.rr T p=pr from hTp]at this;exact hE3.trans this
  have nw:∀q,(List.zipWith (λx y=>x+a*(-1)*y) (rr T k) pr).getD q 0=(rr T k).getD q 0-a*pr.getD q 0:=λq=>Sv.zip_at (by rw[rk.len,pl]);have hC4:Sv.Col n p (T.set k<|List.zipWith (λx y=>x+a*(-1)*y) (rr T k) pr):=λi q hi hq=>by
   show(rr (T.set k _) i).getD q 0=_;rw[rr_set<|by omega];split
   .rename_i e
    have:(rr T k).getD q 0=Gs.dl k q:=hC3 k q hk hq;rw[nw,prq q hq,this,e];grind
   .exact hC3 i q hi hq
  have hZ4:∀i,i<n->i<k+1->i≠p->(rr (T.set k<|List.zipWith (λx y=>x+a*(-1)*y) (rr T k) pr) i).getD p 0=0:=λi hi hik ne=>by
   rw[rr_set<|by omega];split
   .rw[nw,prp,ha];grind
   .exact hZ3 i hi (by omega) ne
  dsimp only;refine Im (xs:=T.map lq) (k:=k) (d:=lq<|List.zipWith (λx y=>x+a*(-1)*y) (rr T k) pr) (ρ':=[.d<|aL s,.d<|aL u,.d<|.int n,.ow<|(T.set k<|List.zipWith (λx y=>x+a*(-1)*y) (rr T k) pr).map lq,s4,.d<|.int p,.d<|.lst G,.d<|.int q0.num,.d<|.int (q0.den:Int),.d<|.int k,.d<|aR<|a*(-1)]) rfl l3 (by rw[vb];rfl) (λP hP=>?_) (B.nm_at rfl)<|hnx2 _ ⟨_,_,_,by rw[dI];exact hT,by rw[rr_set<|by omega,if_neg<|Pa ekp];exact hTp,hE4,hC4,hZ4,λi hi=>?_,rfl⟩
  .walk_at "st"
   refine⟨_,rR (k:=k)<|by omega,_,rR (k:=p)<|by omega,?_⟩;rw[hTp];unfold lq;walk_at "st";refine FK (f:=λx y=>aR<|rH x+a*(-1)*rH y) _ _ (λz hz Q hq=>?_) .un .un [] (eV ?_) ?_
   .obtain⟨z1,z2⟩:=z
    obtain⟨m1,m2⟩:=u5 hz;obtain⟨x,hx,e1⟩:=YbT.mp m1;obtain⟨y,hy,e2⟩:=YbT.mp m2;dsimp only at e1 e2 hq;subst e1 e2;rw[xh,xh]at hq;walk_at "st";refine Ab (B2.of (gk.2.mul hm1) (piv.sz y hy)<|by omega)<|GG (B2.of (rk.sz x hx) ((gk.2.mul hm1).mul<|piv.sz y hy)<|by omega) hq
   .rw[List.length_zip,bQ,rk.len,jZ]
    omega
   .unfold lq at hP
    rw[eY];rw[y6]at hP;rw[Bt];have e:(λa_1 b=>aR<|rH (aR a_1)+a*(-1)*rH (aR b))=λx y=>aR (x+a*(-1)*y):=by
     funext x y;rw[xh,xh]
    rw[e];exact hP
  .rw[rr_set<|by omega]
   by_cases ck:i=k
   .rw[if_pos ck,if_pos<|by omega,step]
    exact ls
   .rw[if_neg ck]
    have:=hL2 i hi
    by_cases c:i<k
    .rw[if_pos c]at this
     rw[if_pos<|by omega];exact this
    .rw[if_neg c]at this
     rw[if_neg<|by omega];exact this
end G.V9
namespace G.V5
theorem size_w(h:IsSl s n){P:D->Prop}(hP:P (.int n)):bR [aL s] λx=>gAdd x (.int 1) λy=>fj y (.int 2) P:=by have hl:=h.len;unfold aL;walk_at "st";rw[bQ];refine⟨⟨by decide,B.C.bd_of (b:=3) (by decide)<|by decide⟩,?_⟩;rw[show((s.length:Int)+1).fdiv 2=n from by rw[va _<|by decide];omega];exact hP
end G.V5
theorem AS{r:List Nat}(h:IsSl s n)(e:eW s n=k::r):1<=k/\k<=n/\cK (cor s n k) k≠[]/\∀j,1<=j->j<k->cK (cor s n j) j=[]:=by
 have key:∀j,j<n->(bY (tbl (cor s n<|j+1)<|j+1)==0)=true->j+1∈eW s n:=λj hj z=>by unfold eW;exact YbT.mpr ⟨j,Yag.mpr ⟨Yah.mpr hj,z⟩,rfl⟩
 have pw:(eW s n).Pairwise (· < ·):=by unfold eW;rw[List.pairwise_map];exact((DC n).filter _).imp λh=>by omega
 have hk:k∈eW s n:=by rw[e];simp
 have hk':=hk;unfold eW at hk';obtain⟨i,hi,rfl⟩:=YbT.mp hk';obtain⟨h1,h2⟩:=Yag.mp hi;rw[Yah]at h1;refine⟨by omega,by omega,λz=>?_,λj j1 jk=>?_⟩;have:=(l8<|gA h (by omega)<|by omega).mp z;apply this;have z':bY (tbl (cor s n<|i+1)<|i+1)=0:=by simpa using h2
 unfold bY at z';rw[j6]at z';exact z';refine(l8<|gA h j1<|by omega).mpr λz=>?_;have m:=key (j - 1) (by omega) (by
  rw[show j-1+1=j by omega];unfold bY;rw[j6,z];rfl)
 rw[show j-1+1=j by omega,e]at m;rw[e]at pw;rcases Yao.mp m with z2|z2
 omega;have:=(YcS.mp pw).1 j z2;omega
section
theorem ym(h:IsSl s n)(e:cK s n=[]):kd (d8 s n)=true:=ju (by simp) λx hx=>by
 have l1:=pU h e;have l2:=nV h e;have:=h.n5;simp only[Yao,da,or_false]at hx;rcases hx with rfl|rfl
 exact w6 (by omega);exact w6 (by omega)
theorem yn(h:IsSl s n)(e:cK s n=[]):cJ 300 (d8 s n)=true:=by have zf:cJ 300 (aG<|dU s n)=true:=ZeZ.mpr λx hx=>(Ib h e x hx).mono (by decide);have zl:cJ 300 (aG<|dW s n)=true:=ZeZ.mpr λx hx=>(AJ h e x hx).mono (by decide);unfold d8;simp only[cJ,dQ];unfold aG at zf zl ⊢;rw[cJ]at zf zl;simp only[cJ,zf,zl];rfl
theorem NJ(h:IsSl s n)(e:cK s n=[]):Dq s n (d8 s n)=true:=by have n1:=h.n1;have mc0:=B.C.E.K8.mk_col h e (p:=0) (by omega);have mcn:=B.C.E.K8.mk_col h e (p:=n-1) (by omega);show(gh s n (aG<|dU s n) (cS n 0)&&gh s n (aG<|dW s n) (cS n<|n-1))=true;unfold dU dW;rw[mc0,mcn];rfl
theorem O1:Rd NG Ef NI:=by
 rintro _ E Q ⟨⟨s,n⟩,rfl,⟨h,n1,g⟩,q⟩;dsimp only at h n1 g q;have c:=gA h n1<|iF n;have ec:=(g.cor h n1<|iF n).full c;show Ef E _ [.d<|aL s,.d<|d8 (cor s (n+1) n) n,.un];unfold Ef;refine bH ?_;simp only[eP,wF,aC,aA,wN,dv];refine yi h g ?_;refine bH<|LP.set_by (d:=.int ((n+1:Nat):Int)) (ρ':=[.d<|aL s,.d<|d8 (cor s (n+1) n) n,.d<|.int ((n+1:Nat):Int)]) (by rfl) (λP hP=>?_) ?_
 walk_at "st";exact tO h hP;dsimp only;refine bH<|eU (b:=false) (λP hP=>?_) (λe=>nomatch e) λ_=>?_
 walk_at "st";rw[show((((n+1:Nat):Int))==1)=false from by rw[Pu];omega];exact hP;dsimp only;refine bH<|eU (b:=false) (λP hP=>?_) (λe=>nomatch e) λ_=>?_
 walk_at "st";rw[show(((n+1:Nat):Int)-1)=(n:Int) by omega];refine uF h n1 (iF n)<|Ms c (ym c ec) (yn c ec) ?_;rw[NJ c ec];exact hP
 dsimp only;walk_at "st";exact Ii h n1 g q
end
namespace G.V9
theorem size_w{s:List Int}{n:Nat}(h:IsSl s n){P:D->Prop}(hP:P (.int n)):bR [aL s] λx=>gAdd x (.int 1) λy=>fj y (.int 2) P:=G.V5.size_w h hP
theorem NK:Rd uZ Ei Zgq:=by
 rintro _ E Q ⟨⟨⟨s,n⟩,k⟩,rfl,⟨h,k1,kn⟩,q⟩;dsimp only at h k1 kn q;have hl:=h.len;have n1:=h.n1;show Ei E _ [.d<|aL s,.d<|.int k,.un];unfold Ei;refine bH<|LP.set_by (d:=.int ((n-k:Nat):Int)) (ρ':=[.d<|aL s,.d<|.int k,.d<|.int ((n-k:Nat):Int)]) (by rfl) (λP hP=>size_w h (P:=λx=>fu x (.int k) P) ?_) ?_
 walk_at "st";rw[show((n:Int)-(k:Int))=((n-k:Nat):Int) by omega];exact hP;dsimp only;walk_at "st";have hlm:((s.map D.int).length:Int)=(s.length:Int):=by rw[bQ]
 unfold aL at q;rw[show((s.length:Int)-((n-k:Nat):Int))=((n+k-1:Nat):Int) by omega];have:aV (s.map D.int) (some ((n-k:Nat):Int)) (some ((n+k-1:Nat):Int))=(cor s n k).map D.int:=by unfold aV cor;rw[HT.sIx_nat,HT.sIx_nat,bQ,mj,p9,mM<|by omega,mM<|by omega];congr 1;omega
 rw[this];exact q
theorem NM(n p:Nat):(tY n p).length=n:=by unfold tY;simp
theorem yo:∀y∈tY n p,y.natAbs<2^10:=λy hy=>by unfold tY at hy;obtain⟨i,_,rfl⟩:=YbT.mp hy;split<;>decide
theorem NN:Rd u0 Ej Zir:=by
 rintro _ E Q ⟨⟨s,n⟩,rfl,h,q⟩;dsimp only at h q;have n1:=h.n1;have n5:=h.n5;have hl:=h.len;show Ej E _ [.d<|aL s,.un];unfold Ej;refine bH ?_;simp only[bK,bN];unfold aL;walk_at "st";refine⟨⟨by decide,B.C.bd_of (b:=3) (by decide)<|by decide⟩,?_⟩;rw[bQ,show((s.length:Int)+1).fdiv 2=n from by rw[va _<|by decide];omega];refine⟨by omega,?_⟩;rw[show((n:Int)+1-1).toNat=n by omega];change ZbV _ _ _ _ _ [.d<|aL s,.un];refine Hj 1 (λk ρ=>(∀j,1<=j->j<=k->cK (cor s n j) j=[])/\∃s1,ρ=[.d<|aL s,s1]) n ?_ ?_ _ ⟨λj j1 jk=>by omega,_,rfl⟩;rintro k hk _ ⟨hj,s1,rfl⟩ nx hnx;simp only[gN,ia,h8];have c:=gA h (show 1<=k+1 by omega) (show k+1<=n by omega);have eC:(1+(k:Int))=((k+1:Nat):Int):=by omega
 have cnd:∀P:Bool->Prop,P (decide (cK (cor s n<|k+1) (k+1)≠[]))->wT (w2 (gIsC false) (wF t8<|aC (wF uZ<|aC (wN 0)<|aC (wN 1) aA)<|aC (wF xW<|aC (wN 1)<|aC (wC<|D.int<|0) aA) aA)<|wC D.non) No [.d<|aL s,.d<|.int ((k+1:Nat):Int)] P:=λP hP=>by walk_at "st";refine Ir h (show 1<=k+1 by omega) (show k+1<=n by omega) ?_;refine MU (n:=k+1) (k:=0) (by omega) ?_;refine Iq c (NM _ _) yo ?_;unfold ma;split;rename_i z;rw[Pe<|by simp[z]]at hP;exact⟨rfl,hP⟩;rename_i z;rw[O7 z]at hP;exact⟨rfl,hP⟩
 rw[eC];by_cases z:cK (cor s n<|k+1) (k+1)=[];refine eU (b:=false) (λP hP=>cnd P (by rw[Pe<|by simp[z]];exact hP)) (λe=>nomatch e) λ_=>hnx _ ⟨λj j1 jk=>?_,_,rfl⟩;rcases jB k j with y|y
 rw[show j=k+1 by omega];exact z;exact hj j j1 y;refine eU (b:=true) (λP hP=>cnd P (by rw[O7 z];exact hP)) (λ_=>?_) λe=>nomatch e;cases ew:eW s n with
 |nil=>exact O5 ((qU h).mp ew (k+1) (by omega)<|by omega) z
 |cons m r=>
  obtain⟨m1,mn,mf,ml⟩:=AS h ew;rw[ew]at q;have:m=k+1:=by
   rcases Nat.lt_trichotomy m (k+1) with y|y|y
   exact O5 (hj m m1<|by omega) mf;exact y;exact O5 (ml (k+1) (by omega) y) z
  subst this;exact q
 rintro _ ⟨hj,s1,rfl⟩;have:=(qU h).mpr λk k1 kn=>hj k k1 kn;rw[this]at q;exact q
def Mid(s:List Int)(n:Nat):Prop:=∀i j,i<n->j<n->if i=j then ent s n i j=9 else -1<=ent s n i j/\ent s n i j<=1
theorem Mid.full(h:IsSl s n)(m:Mid s n):cK s n=[]:=by
 refine(MQ h).mpr λz=>?_;obtain⟨w,⟨a,ha,wa⟩,hw⟩:=Hi (B.C.tbl_Sm h) h.n5 z;have n5:=h.n5;have key:∀M:Nat,(∀j,j<n->(w j).natAbs<=M)->∀j,j<n->w j=0:=by
  intro M;induction M with
  |zero=>exact λhM j hj=>by have:=hM j hj;omega
  |succ M ih=>
   intro hM;refine ih λi hi=>?_;have e:=hw i hi;rw [uu (g:=λj=>(if j=i then 8*w j else 0)+((ent s n i j - if j=i then 8 else 0)*w j)) (λj hj=>by
    rw[tA_ent h hi hj];split
    .grind
    .grind),B8,Ca (k:=i) hi<|λj _ ne=>by rw[if_neg ne],if_pos rfl]at e
   have b:=AF (f:=λj=>(ent s n i j-if j=i then 8 else 0)*w j) (B:=M+1) (n:=n) λj hj=>by
    rw[gK];have:=m i j hi hj;have c:(ent s n i j-if j=i then 8 else 0).natAbs<=1:=by by_cases y:i=j;rw[if_pos y]at this;rw[if_pos y.symm,this];decide;rw[if_neg y]at this;rw[if_neg<|Pa y];omega
    exact hX (n8 c<|hM j hj) (by omega)
   have b5:n*(M+1)<=5*(M+1):=p6 _ n5;omega
 obtain⟨M,hM⟩:∃M:Nat,∀j,j<n->(w j).natAbs<=M:=by
  have:∀m:Nat,∃M:Nat,∀j,j<m->(w j).natAbs<=M:=by
   intro m;induction m with
   |zero=>exact⟨0,λj hj=>by omega⟩
   |succ m ih=>
    obtain⟨M,hM⟩:=ih;refine⟨M+(w m).natAbs,λj hj=>?_⟩;rcases jB j m with y|y
    have:=hM j y;omega;rw[show j=m by omega];omega
  exact this n
 exact wa<|key M hM a ha
theorem Mid.stg(h:IsSl s n)(m:Mid s n):Stg s n:=λk k1 kn=>Mid.full (gA h k1 kn) λi j hi hj=>by rw[DS h kn hi hj];exact m i j (by omega) (by omega)
theorem yt{a b:List Int}:(a++b).getD k 0=if k<a.length then a.getD k 0 else b.getD (k-a.length) 0:=by simp only[aZ];split;rename_i h;rw[j9 h];rename_i h;rw[jY<|by omega]
def m3(s:List Int):List Int:=s.map λx=>x.fmod 3-1
theorem yu:∀x∈m3 s,-1<=x/\x<=1:=λx hx=>by unfold m3 at hx;obtain⟨y,_,rfl⟩:=YbT.mp hx;rw[Bj _<|by decide];omega
theorem NO(h:IsSl s n):IsSl ((m3 s).take (n-1)++[9]++(m3 s).drop n) n/\Mid ((m3 s).take (n-1)++[9]++(m3 s).drop n) n:=by
 have hl:=h.len;have n1:=h.n1;have ml:(m3 s).length=s.length:=by unfold m3;simp
 have b1:∀x∈(m3 s).take (n-1),-1<=x/\x<=1:=λx hx=>yu x<|mO hx;have b2:∀x∈(m3 s).drop n,-1<=x/\x<=1:=λx hx=>yu x<|ly hx;refine⟨⟨?_,n1,h.n5,λx hx=>?_⟩,λi j hi hj=>?_⟩
 simp only[d9,gj,iD,mh];omega;rcases Yap.mp hx with hx|hx
 rcases Yap.mp hx with hx|hx
 have:=b1 x hx;omega;rw[Ycp.mp hx];decide;have:=b2 x hx;omega;unfold ent;have tl:((m3 s).take<|n-1).length=n-1:=by rw[gj];omega
 have any:∀{L:List Int} {k:Nat},(∀x∈L,-1<=x/\x<=1)->-1<=L.getD k 0/\L.getD k 0<=1:=λ{L k} hL=>by
  rw[aZ];cases e:L[k]? with
  |none=>exact⟨by decide,by decide⟩|some v=>exact hL v<|jz e
 split;rename_i e;subst e;rw[show n-1-i+i=n-1 by omega,nZ,yt,if_neg<|by omega,tl,vc];rfl;rename_i e;rw[nZ,yt];split;exact any b1;rename_i z;rw[tl]at z ⊢;obtain⟨t,ht⟩:∃t,n-1-i+j-(n-1)=t+1:=⟨n-1-i+j-(n-1)-1,by omega⟩;rw[ht];show -1<=((m3 s).drop n).getD t 0/\((m3 s).drop n).getD t 0<=1;exact any b2
theorem NP:Rd AQ Ek Zes:=by
 rintro _ E Q ⟨⟨⟩,rfl,_,q⟩;dsimp only at q;show Ek E _ [.d .pen,.un,.un];unfold Ek;refine bH<|LP.set_rl (λd=>∃s n,d=aL s/\IsSl s n) (λP hP=>?_) ?_
 walk_at "st";exact GH λs n hs=>hP _ ⟨s,n,rfl,hs⟩;rintro _ ⟨s,n,rfl,h⟩;dsimp only;have n1:=h.n1;have n5:=h.n5;have hl:=h.len;have ml:(m3 s).length=s.length:=by unfold m3;simp
 show aI _ _ _ _ [.d .pen,.d<|aL s,.un];cases ew:eW s n with
 |nil=>
  refine bH<|eU (b:=false) (λP hP=>?_) (λe=>nomatch e) λ_=>?_
  walk_at "st";refine yk h ?_;rw[ew];exact⟨rfl,hP⟩;dsimp only;walk_at "st";exact q _ ⟨s,n,rfl,h,(qU h).mp ew⟩
 |cons m r=>
  refine bH<|eU (b:=true) (λP hP=>?_) (λ_=>?_) λe=>nomatch e
  walk_at "st";refine yk h ?_;rw[ew];exact⟨rfl,hP⟩;refine bH<|LP.set_by (d:=.int n) (ρ':=[.d .pen,.d<|aL s,.d<|.int n]) (by rfl) (λP hP=>size_w h hP) ?_;dsimp only;refine bH<|LP.set_by (d:=aL<|m3 s) (ρ':=[.d .pen,.d<|aL<|m3 s,.d<|.int n]) (by rfl) (λP hP=>?_) ?_
  unfold aL;walk_at "st";refine jR (g:=D.int) (f:=λx:Int=>D.int<|x.fmod 3-1) s (λx hx Q hq=>?_) .un [] (eV (by simp;omega)) ?_;walk_at "st";exact⟨by decide,hq⟩;walk_at "st";unfold aL m3 at hP;rw[du]at hP;exact hP;dsimp only;obtain⟨h',m'⟩:=NO h;refine LP.set_by (d:=aL<|(m3 s).take (n-1)++[9]++(m3 s).drop n) (ρ':=[.d .pen,.d<|aL<|(m3 s).take (n-1)++[9]++(m3 s).drop n,.d<|.int n]) (by rfl) (λP hP=>?_) ?_;have c1:aV ((m3 s).map D.int) none (some<|(n:Int)-1)=((m3 s).take<|n-1).map D.int:=by unfold aV;rw[show((n:Int)-1)=((n-1:Nat):Int) by omega,HT.sIx_none,HT.sIx_nat,bQ,pZ,Nat.sub_zero,mM<|by omega,mj]
  have c2:aV ((m3 s).map D.int) (some (n:Int)) none=((m3 s).drop n).map D.int:=by unfold aV;rw[HT.sIx_none,HT.sIx_nat,bQ,mM<|by omega,p9,y3<|by simp]
  unfold aL at hP ⊢;walk_at "st";rw[c1,c2];rw[gL,gL]at hP;refine⟨by decide,eV ?_,eV ?_,hP⟩;simp;omega;simp;omega;dsimp only;walk_at "st";exact q _ ⟨_,n,rfl,h',m'.stg h'⟩
end G.V9
section
theorem NQ{r:List Int}(h:IsSl s n)(e:cK s n=[])(hr:r.length=n):bC s n (solF s n r)=bW r:=by refine ye (t7 _) (by unfold bW;rw[bQ];exact hr) λk hk=>?_;rw[uT h (nW r) hk,Ic h e hk];unfold bW;rw[aZ (l:=List.map _ _),cE,aZ];cases r[k]?<;>rfl
theorem Zo{a b:List Int}(h:bW a=bW b):a=b:=by
 unfold bW at h;refine List.map_inj_right (f:=λ(i:Int)=>(i:Rat)) (λx y z=>?_) |>.mp h
 exact_mod_cast z
theorem NR{r t:List Int}(h:IsSl s n)(e:cK s n=[])(hr:r.length=n):gh s n (aG<|solF s n r) (bW t)=decide (t=r):=by
 unfold gh;have:=zZ<|solF s n r;rw[nW]at this;rw[this,qM,NQ h e hr,p7]
 by_cases z:t=r;rw[O7 z,O7<|by rw[z]];rw[Pe z,Pe λy=>z (Zo y).symm]
theorem NS{r:List Int}:solF s k (r.take k)=solF s k r:=by unfold solF;congr 1;funext i;refine dS λm hm=>?_;rw[aZ,vd,if_pos hm,<-aZ]
end
structure XF(P:Program)(w:World)(K:O3)(mg:Str->Option Value)(base:Heap)(x f:Str)(k:Nat):Prop where
 h:∃(C fI:Addr) (fd:FuncData) (ps:List Str),iN K x=some C/\mg x=some (.ref C)/\Fl.clsF K C Fl.bmV "ValueError.__new__" f fI=true/\eD P w K mg base (c9 P w) k fI fd ps (Fl.spI C f)/\Binds K fd ps []/\∃od osl,K.lookup fI=some ⟨.type "function",od,.func fd,osl⟩
theorem Iu{n c f:Str}{k:Int}(h:eG n=some (c,f,k)):gG n=c:=by unfold gG;rw[h]
section
variable{f:Str}{a:Expr}
def Iv(x f:Str)(wa:WE):WS:=λE _ ρ=>wa E ρ λd=>∃(n:Int) (ex:Str),d=.int n/\eG ex=some (x,f,n)/\E ex
theorem NT(hr:Fl.RaisD X EX)(hx:XF X.prog X.w X.K X.mg X.base x f k)(hro:Room (k+1) X.A)(ha:PX X EX a wa)(hc:X.calm=true:=by rfl)(hg:Gl X x:=by rfl)(hd:(x==("__debug__" : Str))=false:=by decide)(he:starEach [a] X.env=[(false,eval a X.env)]:=by rfl)(hex:X.ex=[]:=by rfl) :
  PZ X EX (.Raise (some<|.Call (.Name x np) [a] [] cpos) none pos) (Iv x f wa):=by
 obtain⟨C,fI,fd,ps,h1,h2,h3,h4,h5,h6⟩:=hx.h;obtain⟨ta,pa,ka⟩:=ha.t;refine⟨⟨_,Fl.ps_raisef hr hc h2 h3 h4 hro h5 h6 pa hg hd he hex,λW0 H0 F W σ H ρ E Dn N s fl eo no q=>ka W0 H0 W σ H ρ E _ s eo<|ha.mono _ _ _ _ (λd ⟨n,ex,ed,er,hE⟩=>?_) q⟩,λE ρ N N' hl q=>q⟩;subst ed;intro v W' H' x' r';cases r';refine⟨n,rfl,λd hd=>?_⟩;have xt:Ext W' H' (W'.put d<|.xd [(f,.int n)]) (upd H' d<|.xd [(f,.int n)]):=Ext.put x'.ok hd;refine eo ex _ _ _ _ hE (s.ext.trans<|x'.trans xt) ⟨C,by rw[Iu er];exact h1,rfl,λc f' k' e'=>?_⟩;rw[er]at e';cases e';exact⟨d,rfl,by unfold Wd.put;dsimp only;rw[aN]⟩
def yv(x f:Str):D->(D->Prop)->Prop:=λd Q=>match d with|.exc n=>∃k,eG n=some (x,f,k)/\Q (.int k)|_=>False
theorem NU{C fI:Addr}(h1:iN X.K x=some C)(h2:Fl.clsF X.K C Fl.bmV "ValueError.__new__" f fI=true)(hB:typeLookup (.type "ValueError") f=pure none)(ha:PX X EX a wa)(hb:attributeBase a f X.env (eval a X.env)=eval a X.env:=by rfl) :
  PX X EX (.Attribute a f pos) (w1 (yv x f) wa):=by
 obtain⟨ta,pa,ka⟩:=ha.t;refine⟨⟨λσ H Q=>ta σ H λv H1=>∃e dx k,v=.ref e/\H1 e=some (qC C e<|some dx)/\H1 dx=some (.xd [(f,.int k)])/\Q (.int k) H1,?_,λW0 H0 W σ H ρ E Q s eo q=>ka W0 H0 W σ H ρ E _ s eo<|ha.mono _ _ _ _ (λd q=>?_) q⟩,λE ρ P P' hp q=>ha.mono _ _ _ _ (λd q=>?_) q⟩
 .intro pins s σ H Q I h
  refine qu hb<|bL (pa pins s σ H _ I h) λu s1 ⟨v,H1,I1,rv,e,dx,k,ev,e1,e2,q⟩=>?_;subst ev;cases rv;obtain⟨oe,g1,g2,_,g3,vs,g4⟩:=(I1.hok e _ e1).1;obtain⟨m,n1,n2⟩:=I1.hok dx _ e2;have nf:=n2 f;simp only[lx,Pk]at nf;obtain⟨bm,N,nm,qn,bs,sn,sub,ab,col,dd,k0,k1,k2,k3,k5,mN,hC,hN,_,qm,T⟩:=(Fl.clsF_of I1.kIn h2).h;obtain⟨w,ew,rw'⟩:∃w,m f=some w/\RelV (.int k) w:=by
   cases z:m f with
   |none=>rw[z]at nf;exact nf.elim|some w=>rw[z]at nf;exact⟨w,rfl,nf⟩
  obtain⟨tk,rfl⟩:=rw';obtain⟨hp,g,dr,tk',os⟩:=s1;exact Fl.get_field PySem.F.attrBase_ValueError hC hN T (qm _<|by simp[Fl.quiet]) (qm _<|by simp[Fl.quiet]) (qm _<|by simp[Fl.quiet]) (by simp[Fl.quiet]) (by simp[Fl.quiet]) (by simp[Fl.quiet]) hB g1 g2 g3 g4 n1.ns ew rfl ⟨.int k,H1,I1.tok _,⟨_,rfl⟩,q⟩
 .unfold yv at q
  split at q
  .rename_i n
   obtain⟨k,ek,q⟩:=q;intro v W' H' x' r';cases r' with
   | @exc e C' _ dx e0 ec xd=>
    obtain⟨d,rfl,ed⟩:=xd _ _ _ ek;rw[Iu ek,h1]at ec;cases ec;exact⟨e,d,k,rfl,x'.ok.g _ _ e0,x'.ok.g _ _ ed,q _ _ _ x'<|.int _⟩
  .exact q.elim
 .unfold yv at q ⊢
  split at q
  .obtain⟨k,ek,q⟩:=q
   exact⟨k,ek,hp _ q⟩
  .exact q.elim
end
def El(s:Stmt):Stmt:=match s with|.ClassDef _ _ _ (b::_) _ _ _ _ _ _ _=>b|s=>s
structure XK1(K:O3)(mg:Str->Option Value)(x qual f:Str)(st:Stmt):Prop where
 h:∃(C fI:Addr) (od:Option Addr) (osl:Array (Option Value)) (kV doc pm:Value) (an:Option Addr) (cdv ct:Value),iN K x=some C/\mg x=some (.ref C)/\Fl.clsF K C Fl.bmV "ValueError.__new__" f fI=true/\
  K.lookup fI=some ⟨.type "function",od,.func<|PySem.W.fnOf "__init__" qual (cc st) (bB st) (aE st) .none kV doc pm an cdv ct,osl⟩/\PySem.W.codeIn K cdv qual=true/\PySem.W.keepIn K (.ref fI)=true
section
variable{w:World}{f:Str}
theorem mkXF{hp:Heap}(X:K.In hp)(G:hp.Ns mainGlobals mg){C fI:Addr}{kV doc pm cdv ct:Value}{dd:Option Addr}{cd:ClassData}(a:PySem.W.nsIn K mainGlobals x=some (some<|.ref C))(lc:K.lookup C=some ⟨.type "type",dd,.cls cd,sl⟩)(ni:PySem.W.nsIn K cd.ns "__init__" = some (some<|.ref fI))(q:Fl.clsF K C Fl.bmV "ValueError.__new__" f fI=true)
  (l:K.lookup fI=some ⟨.type "function",od,.func<|PySem.W.fnOf "__init__" qual (cc st) (bB st) (aE st) .none kV doc pm an cdv ct,osl⟩) (c:PySem.W.codeIn K cdv qual=true) (kp:PySem.W.keepIn K (.ref fI)=true):XK1 K mg x qual f st:=
 ⟨C,fI,od,osl,kV,doc,pm,an,cdv,ct,tP a,PySem.W.mg_of X G a,q,l,c,kp⟩
theorem XK1.xf(h:XK1 K mg x qual f st)(hB:typeLookup (.type "ValueError") f=pure none)(sc:bT [("self" : Str),f] [("self" : Str),f] (aE st):=by exact⟨rfl,rfl,rfl,by decide +kernel,rfl,by decide +kernel,by decide +kernel⟩)
  (hb:∃p0 p1 pos pos',bB st=[.Assign [.Attribute (.Name "self" p0) f pos'] (.Name f p1) pos]/\∀env,swapsWith (.Name f p1) (some<|.Attribute (.Name "self" p0) f pos') pos.line env=pure false:=by exact⟨_,_,_,_,rfl,λ_=>rfl⟩)
  (bi:∀ (kV doc pm:Value) (an:Option Addr) (cdv ct:Value) (us:List Value),us.length=[("self" : Str),f].length->bindArgs (PySem.W.fnOf "__init__" qual (cc st) (bB st) (aE st) .none kV doc pm an cdv ct) ⟨us,[]⟩=pure ([("self" : Str),f].zip us):=by
   intro _ _ _ _ _ _ us hl
   match us,hl with|[_,_],_=>rfl)
  (d1:(f==("__debug__" : Str))=false:=by decide) (c1:(f==("__classdict__" : Str))=false:=by decide):XF P w K mg base x f (k+1):=by
 obtain⟨C,fI,od,osl,kV,doc,pm,an,cdv,ct,h1,h2,h3,h4,h5,h6⟩:=h.h;obtain⟨p0,p1,pos,pos',e1,e2⟩:=hb;have F:=nA h4 h5 h6;exact⟨C,fI,_,_,h1,h2,h3,Fl.init_ok F sc h3 hB e1 e2 (by decide) d1 (by decide) c1,F.binds bi,od,osl,h4⟩
section
variable{a:Expr}
theorem NV(h:XK1 X.K X.mg x qual f st)(hB:typeLookup (.type "ValueError") f=pure none)(ha:PX X EX a wa)(hb:attributeBase a f X.env (eval a X.env)=eval a X.env:=by rfl):PX X EX (.Attribute a f pos) (w1 (yv x f) wa):=by obtain⟨C,fI,_,_,_,_,_,_,_,_,h1,_,h3,_⟩:=h.h;exact NU h1 h3 hB ha hb
end
theorem Iw:typeLookup (.type "ValueError") "size" = pure none:=by rw[typeLookup_type,builtinLookup_eq_fast];kernel_rfl
end
def kU(k:Nat):Str:=match k with|1=> "NotStrong1" |2=> "NotStrong2" |3=> "NotStrong3" |4=> "NotStrong4" |_=> "NotStrong5"
theorem Ix(h1:1<=k)(h5:k<=5):eG (kU k)=some (("NotStrong" : Str),("size" : Str),(k:Int)):=by
 have:k=1\/k=2\/k=3\/k=4\/k=5:=by omega
 rcases this with rfl|rfl|rfl|rfl|rfl<;>decide +kernel
namespace G.V9.W
def md(s:List Int)(n:Nat)(v:Except Str D):Except Str D:=match eW s n with|[]=>v|k::_=>.error<|kU k
theorem pW(h:IsSl s n)(g:Stg s n):md s n v=v:=by unfold md;rw[(qU h).mpr g]
theorem t9{r:List Nat}(e:eW s n=k::r):md s n v=.error (kU k):=by unfold md;rw[e]
def yw(s:List Int)(n:Nat):D:=.lst<|(List.range n).map λk=>d8 (cor s n<|k+1) (k+1)
def ua(s:List Int)(n:Nat)(r:List Int):D:=.lst<|(List.range n).map λk=>aG (solF (cor s n<|k+1) (k+1) r)
def jw(n:Nat)(x:D)(v:Except Str D):Except Str D:=if jV n x=true then v else .error "NoRow"
def pV:bO:=xS (λx:D=>[x]) (λx=>kd x=true) λx=>ge x<|md (sI x) (sN x) (.ok .non)
def yx:bO:=xS (λx:D=>[x]) (λx=>kd x=true) λx=>ge x<|md (sI x) (sN x) (.ok<|yw (sI x)<|sN x)
def yy:bO:=xS (λx:D×D=>[x.1,x.2]) (λx=>kd x.1=true/\kd x.2=true) λx=>ge x.1<|md (sI x.1) (sN x.1) (jw (sN x.1) x.2<|.ok<|ua (sI x.1) (sN x.1)<|sI x.2)
def Em:bO:=xS (λx:D×D=>[x.1,x.2]) (λx=>kd x.1=true/\kd x.2=true) λx=>ge x.1<|md (sI x.1) (sN x.1) (jw (sN x.1) x.2<|.ok<|aG<|solF (sI x.1) (sN x.1)<|sI x.2)
def ub:bO:=xS (λx:D×D×D=>[x.1,x.2.1,x.2.2]) (λx=>kd x.1=true/\kd x.2.1=true/\kd x.2.2=true/\cJ 300 x.2.2=true) λx=>ge x.1<|jw (sN x.1) x.2.1 (.ok<|.bl<|gh (sI x.1) (sN x.1) x.2.2<|bW<|sI x.2.1)
theorem En{x:D}(h:jV n x=true):∃r,x=aL r/\IsR r n:=by
 cases x<;>try (cases h;done)
 rename_i xs;have h':(xs.all (eh (-1000) 1000)&&decide (xs.length=n))=true:=h;rw[cV,Ybf,O6]at h';obtain⟨h1,h2⟩:=h';have:∃r:List Int,xs=r.map D.int/\∀i∈r,-1000<=i/\i<=1000:=by
  clear h h2;induction xs with
  |nil=>exact⟨[],rfl,by simp⟩
  |cons y ys ih=>
   obtain⟨r,rfl,hr⟩:=ih λz hz=>h1 z (by simp[hz]);have hy:=h1 y (by simp);cases y<;>try (simp[eh]at hy;done)
   rename_i i;simp only[eh,cV,O6]at hy;refine⟨i::r,rfl,λx hx=>?_⟩;rcases Yao.mp hx with rfl|hx
   exact hy;exact hr x hx
 obtain⟨r,rfl,hr⟩:=this;exact⟨r,rfl,by simpa using h2,hr⟩
section
variable{E:Ex->Prop}{x:D}{r:List Int}
theorem yi(h:IsSl s n)(g:Stg s n)(q:Q .non):pV [aL s] E Q:=xS.ok (aL s) rfl h.kd (by(try dsimp only);rw[gH h,dP,h.sN,pW h g]) q
theorem Iy(h:IsSl s n){l:List Nat}(e:eW s n=k::l)(q:E (kU k)):pV [aL s] E Q:=xS.err (aL s) rfl h.kd (by(try dsimp only);rw[gH h,dP,h.sN,t9 e]) q
theorem Iz(h:IsSl s n)(g:Stg s n)(q:Q (yw s n)):yx [aL s] E Q:=xS.ok (aL s) rfl h.kd (by(try dsimp only);rw[gH h,dP,h.sN,pW h g]) q
theorem NW(h:IsSl s n)(g:Stg s n)(hr:IsR r n)(q:Q (ua s n r)):yy [aL s,aL r] E Q:=xS.ok (aL s,aL r) rfl ⟨h.kd,hr.kd h.n5⟩ (by(try dsimp only);rw[gH h,dP,h.sN,pW h g,dP];unfold jw;rw[if_pos<|yh hr]) q
end
abbrev Zgk:List Str:=["slants", "size"]
def Eo:WS:=(aI (aP 1<|wF AL<|aC (wN 0) aA)<|cQ (wT<|w2 (gIsC true) (wN 1)<|wC D.non) (Iv (PySem.Str.ofString "NotStrong") (PySem.Str.ofString "size")<|wN 1) cT)
abbrev Zje:List Str:=["slants", "steps", "size"]
def Ep:WS:=(aI (eP<|wF pV<|aC (wN 0) aA)<|aI (cH 1<|bG<|aC (wF AM<|aC (wN 0) aA) aA)<|aI (bK<|bN (iP<|aC (wC<|D.int<|2)<|aC (w2 gAdd (wF lZ<|aC (wN 0) aA)<|wC<|D.int<|1) aA) (gN 2)<|cO 1<|dZ 1<|wF uX<|aC (wF ot<|aC (wN 0)<|aC (wN 2) aA)<|aC (w2 gIx (wN 1)<|w1 fk<|wC<|D.int<|1) aA)<|cM 1<|aM<|wN 1)
abbrev Zbe:List Str:=["slants", "right", "row", "rows", "size", "step", "longer", "over"]
def Er:WS:=(aI (eP<|wF pV<|aC (wN 0) aA)<|aI (eP<|wF uY<|aC (wN 0)<|aC (wN 1) aA)<|aI (aP 2<|bA aA)<|aI (cH 3<|bG aA)<|aI (bK<|bN (t4<|aC (wF yx<|aC (wN 0) aA) aA) (fg 2<|dh (gN 4)<|dh (gN 5) e8)<|aI (aP 6<|w2 gAdd (wN 2)<|bA<|aC (wC<|D.tup [(D.int<|0),(D.int<|1)]) aA)<|aI (aP 7<|wF tL<|aC (w2 gIx (wF rJ<|aC (wF ot<|aC (wN 0)<|aC (wN 4) aA)<|aC (wN 6) aA)<|w1 fk<|wC<|D.int<|1)<|aC (bA<|aC (w2 gIx (wN 1)<|w2 fu (wN 4)<|wC<|D.int<|1)<|aC (wC<|D.int<|1) aA) aA)<|aI (aP 2<|wF rL<|aC (wN 6)<|aC (wN 7)<|aC (w2 gIx (wN 5)<|wC<|D.int<|1) aA)<|cO 3<|wN 2)<|cM 3<|aM<|wN 3)
abbrev Zmp:List Str:=["slants", "right"]
def Es:WS:=(aM<|w2 gIx (wF yy<|aC (wN 0)<|aC (wN 1) aA)<|w1 fk<|wC<|D.int<|1)
abbrev Zmo:List Str:=["slants", "right", "thing"]
def Et:WS:=(aI (eP<|wF oq<|aC (wN 0) aA)<|aI (eP<|wF uY<|aC (wN 0)<|aC (wN 1) aA)<|aM<|wF Ap<|aC (wN 0)<|aC (wN 2)<|aC (wF tM<|aC (wN 1) aA) aA)
theorem NX:Rd pV Eo Zgk:=by
 rintro _ E Q ⟨x,rfl,hk,q⟩;show Eo E _ [.d x,.un];unfold Eo;cases e:fo x with
 |false=>
  refine bH ?_;simp only[aP,wF,aC,aA,wN,dv];exact xS.err x rfl hk (lv e)<|l5 e q
 |true=>
 obtain⟨s,n,rfl,h⟩:=mB e;replace q:=l6 h q;rw[dP,h.sN]at q;unfold md at q;cases ew:eW s n with
 |nil=>
  rw[ew]at q;refine bH<|LP.set_by (d:=.non) (ρ':=[.d<|aL s,.d .non]) (by rfl) (λP hP=>?_) ?_
  .walk_at "st"
   refine Ih h ?_;rw[ew];exact hP
  dsimp only;refine eU (b:=false) (λP hP=>?_) (λe=>nomatch e) λ_=>q;walk_at "st";exact⟨rfl,hP⟩
 |cons k l=>
  rw[ew]at q;obtain⟨k1,kn,_⟩:=AS h ew;refine bH<|LP.set_by (d:=.int k) (ρ':=[.d<|aL s,.d<|.int k]) (by rfl) (λP hP=>?_) ?_
  .walk_at "st"
   refine Ih h ?_;rw[ew];exact hP
  dsimp only;refine eU (b:=true) (λP hP=>?_) (λ_=>?_) λe=>nomatch e
  .walk_at "st"
   exact⟨rfl,hP⟩
  .exact⟨(k:Int),kU k,rfl,Ix k1 (by have:=h.n5;omega),q⟩
theorem NY:Rd yx Ep Zje:=by
 rintro _ E Q ⟨x,rfl,hk,q⟩;show Ep E _ [.d x,.un,.un];unfold Ep;refine bH ?_;simp only[eP,wF,aC,aA,wN,dv];cases e:fo x with
 |false=>exact xS.err x rfl hk (lv e)<|l5 e q
 |true=>
 obtain⟨s,n,rfl,h⟩:=mB e;replace q:=l6 h q;rw[dP,h.sN]at q;cases ew:eW s n with
 |cons k l=>
  rw[t9 ew]at q;exact Iy h ew q
 |nil=>
 have g:=(qU h).mp ew;rw[pW h g]at q;have n1:=h.n1;have n5:=h.n5;refine yi h g ?_
 let f:Nat->D:=λk=>d8 (cor s n<|k+1)<|k+1
 refine bH<|LP.own_by (xs:=(List.range 1).map f) (ρ':=[.d<|aL s,.ow<|(List.range 1).map f,.un]) (by rfl) (λP hP=>?_) ?_
 .simp only[bG,wF,aC,aA,wN,dv]
  exact Nw h g ⟨show 1<=aO by decide,hP⟩
 dsimp only;refine bH ?_;simp only[bK,bN,iP,aC,aA,wC,w2,wF,wN,dv];refine tO h ?_;walk_at "st";refine⟨by omega,?_⟩;rw[show((n:Int)+1-2).toNat=n-1 by omega];refine Hj 2 (λk ρ=>∃s2,ρ=[.d<|aL s,.ow<|(List.range<|k+1).map f,s2]) (n-1) ?_ ?_ _ ⟨_,rfl⟩
 .rintro k hk _ ⟨s2,rfl⟩ nx hnx
  have c:=gA h (show 1<=k+2 by omega) (show k+2<=n by omega);have gc:=g.cor h (show 1<=k+2 by omega) (show k+2<=n by omega);simp only[gN,ia,h8];show cO _ _ _ _ [.d<|aL s,.ow<|(List.range<|k+1).map f,.d<|.int<|2+k];rw[rc,gL]at hnx;have hl:((List.range<|k+1).map f).length=k+1:=by simp
  have ha:dN ((List.range<|k+1).map f) (-1)=some (d8 (cor s n<|k+1)<|k+1):=by
   rw[rc,gL];exact Eb
  generalize (List.range<|k+1).map f=L at hl ha hnx;simp only[cO,dZ,pub,wF,aC,aA,wN,w2,w1,wC,dv,eZ,ia,h8];have eC:(2+(k:Int))=((k+2:Nat):Int):=by omega
  rw[eC];refine uF h (show 1<=k+2 by omega) (show k+2<=n by omega) ?_;walk_at "st";refine⟨_,ha,?_⟩;have:=Ii (E:=No) (Q:=λd=>fW d=true/\L.length<aO/\nx [.d<|aL s,.ow<|L++[d],.d<|.int ((k+2:Nat):Int)]) c (show 1<=k+1 by omega) gc ⟨NC _ _,by rw[hl];unfold aO;omega,hnx _ ⟨_,rfl⟩⟩;rw[Gs.cor_cor (show k+2<=n by omega) (show k+1<=k+2 by omega) (by omega) h]at this;exact this
 .rintro _ ⟨s2,rfl⟩
  rw[show n-1+1=n by omega];dsimp only;refine B.C.pub_by (ρ':=[.d<|aL s,.d<|.lst<|(List.range n).map f,s2]) rfl ?_;exact q
theorem NZ:Rd yy Er Zbe:=by
 rintro _ E Q ⟨⟨x,y⟩,rfl,⟨hk,hk2⟩,q⟩;dsimp only at hk hk2 q;show Er E _ [.d x,.d y,.un,.un,.un,.un,.un,.un];unfold Er;refine bH ?_;simp only[eP,wF,aC,aA,wN,dv];cases e:fo x with
 |false=>exact xS.err x rfl hk (lv e)<|l5 e q
 |true=>
 obtain⟨s,n,rfl,h⟩:=mB e;replace q:=l6 h q;rw[dP,h.sN]at q;cases ew:eW s n with
 |cons k l=>
  rw[t9 ew]at q;exact Iy h ew q
 |nil=>
 have g:=(qU h).mp ew;rw[pW h g]at q;refine yi h g ?_;refine bH ?_;simp only[eP,wF,aC,aA,wN,dv,eZ];unfold jw at q
 by_cases ey:jV n y=true
 case neg=>
  rw[if_neg ey]at q;exact xS.err ((s,n),y) rfl ⟨h,hk2⟩ (by dsimp only;rw[if_neg ey]) q
 obtain⟨r,rfl,hr⟩:=En ey;rw[if_pos ey,dP]at q;have n1:=h.n1;have n5:=h.n5;have rl:=hr.len;have rb:=hr.at;refine D5 h hr ?_;refine bH<|LP.set_by (d:=.tup []) (ρ':=[.d<|aL s,.d<|aL r,.d<|.tup [],.un,.un,.un,.un,.un]) (by rfl) (λP hP=>⟨by decide,hP⟩) ?_;dsimp only;refine bH<|LP.own_by (xs:=[]) (ρ':=[.d<|aL s,.d<|aL r,.d<|.tup [],.ow [],.un,.un,.un,.un]) (by rfl) (λP hP=>⟨by decide,hP⟩) ?_;dsimp only;refine bH ?_;simp only[bK,bN,t4,aC,aA,wF,wN,dv];refine Iz h g ⟨_,rfl,?_⟩
 let w:Nat->List Rat:=λk=>if k=0 then[] else solF (cor s n k) k r
 let f:Nat->D:=λk=>aG<|solF (cor s n<|k+1) (k+1) r
 refine AH (λk ρ=>∃s4 s5 s6 s7,ρ=[.d<|aL s,.d<|aL r,.d<|aG<|w<|k-1,.ow<|(List.range<|k-1).map f,s4,s5,s6,s7]) _ 1 ?_ ?_ _ ⟨_,_,_,_,rfl⟩
 .rintro k d hd _ ⟨s4,s5,s6,s7,rfl⟩ nx hnx
  have hk:k<n:=by
   have:=(Yar.mp hd).1;simpa using this
  have ed:d=d8 (cor s n<|k+1) (k+1):=by
   rw[cE,iU hk]at hd;exact(O8 hd).symm
  subst ed;rw[show 1+k-1=k by omega];rw[show 1+k+1-1=k+1 by omega,rc,gL]at hnx;have c:=gA h (show 1<=k+1 by omega) (show k+1<=n by omega);have gc:=g.cor h (show 1<=k+1 by omega) (show k+1<=n by omega);have ec:=gc.full c;have ll:=nV c ec;have wl:(w k).length=k:=by
   show(if k=0 then[] else solF (cor s n k) k r).length=k;split
   .rename_i z;rw[z];rfl
   .exact nW r
  have ws:∀x∈w k,Sz 50 x:=λx hx=>by
   have hx:x∈(if k=0 then[] else solF (cor s n k) k r):=hx;split at hx
   .cases hx
   .rename_i z
    have ck:=gA h (show 1<=k by omega) (show k<=n by omega);exact AK ck ((g.cor h (show 1<=k by omega) (show k<=n by omega)).full ck) rb x hx
  have fin:bX (w k++[0]) ((bC (cor s n<|k+1) (k+1)<|w k++[0]).getD k 0-(r.getD k 0:Rat)) (dW (cor s n<|k+1)<|k+1)=solF (cor s n<|k+1) (k+1) r:=by
   rcases Bf k with z|z
   .subst z
    refine sol_uniq c ec (by rw[t6 (by rw[ll];rfl)];rfl) λi hi=>?_;obtain rfl:i=0:=by omega
    have t0:(bC (cor s n<|0+1) (0+1)<|w 0++[0]).getD 0 0=0:=by
     rw[uT c rfl<|by decide];exact qQ λj hj=>by
      obtain rfl:j=0:=by omega
      exact jE _
    have b:=(pT c ec).tb 0 0 (by decide) (by decide);rw[dl_one]at b;rw [t0,dS (g:=λk=>(r.getD 0 0:Rat)*(tq (cor s n<|0+1) (0+1) 0 k*Gs.bq (cor s n<|0+1) (0+1) k 0)) (λj hj=>by
     obtain rfl:j=0:=by omega
     rw[yd (by rw[ll];rfl),uS c ec<|by decide];show _*(0-(0-(r.getD 0 0:Rat))*_)=_;grind),gZ,b,qY]
   .have e1:w k=solF (cor (cor s n<|k+1) (k+1) k) k r:=by
     rw[Gs.cor_cor (show k+1<=n by omega) (iF k) z h];exact if_neg (by omega)
    rw[e1];exact Id c z ec<|gc k z (iF k)
  refine⟨rfl,?_⟩;simp only[dh,e8,gN,ia,h8];show aI _ _ _ _ [.d<|aL s,.d<|aL r,.d<|aG<|w k,.ow<|(List.range k).map f,.d<|.int ((1+k:Nat):Int),.d<|d8 (cor s n<|k+1)<|k+1,s6,s7];have hfl:((List.range k).map f).length=k:=by simp
  have hfk:List.map f [k]=[aG<|solF (cor s n<|k+1) (k+1) r]:=rfl;have hwk:w (k+1)=solF (cor s n<|k+1) (k+1) r:=if_neg (by omega);rw[hfk,hwk]at hnx;generalize w k=W at wl ws fin;generalize (List.range k).map f=L at hfl hnx;have Xs:∀x∈W++[0],Sz 50 x:=λx hx=>by
   rcases Yap.mp hx with hx|hx
   .exact ws x hx
   .rw[Ycp.mp hx];exact Sz.zero (by decide)
  have Xl:(W++[0]).length=k+1:=by rw[d9,wl];rfl
  refine bH<|LP.set_by (d:=aG<|W++[0]) (ρ':=[.d<|aL s,.d<|aL r,.d<|aG W,.ow L,.d<|.int ((1+k:Nat):Int),.d<|d8 (cor s n<|k+1)<|k+1,.d<|aG<|W++[0],s7]) (by rfl) (λP hP=>?_) ?_
  .unfold aG at hP ⊢
   walk_at "st";rw[gL]at hP;exact⟨by decide,eV (by simp;omega),hP⟩
  dsimp only;obtain⟨gt,zt⟩:=AN (i:=k) c Xs (by omega);have rk:(r.getD k 0).natAbs<=2^10:=rb k;have zr:Sz 11 (r.getD k 0:Rat):=Sz.int (n:=11) _ (by decide)<|jD rk (by decide);generalize hO:(bC (cor s n<|k+1) (k+1)<|W++[0]).getD k 0-(r.getD k 0:Rat)=O at fin;refine bH<|LP.set_by (d:=aR O) (ρ':=[.d<|aL s,.d<|aL r,.d<|aG W,.ow L,.d<|.int ((1+k:Nat):Int),.d<|d8 (cor s n<|k+1)<|k+1,.d<|aG<|W++[0],.d<|aR O]) (by rfl) (λP hP=>?_) ?_
  .simp only[wF,aC,aA,wN,w2,w1,wC,dv,eZ]
   have eC:((1+k:Nat):Int)=((k+1:Nat):Int):=by omega
   rw[eC];refine uF h (show 1<=k+1 by omega) (show k+1<=n by omega) ?_;refine xj c Xl ⟨50,Xs,by decide⟩ ?_;walk_at "st";refine⟨_,Ea (t7 _)<|by omega,?_⟩;rw[show k+1-1=k by omega];refine⟨.int<|r.getD k 0,?_,?_⟩
   .rw[show(((k+1:Nat):Int)-1)=((k:Nat):Int) by omega]
    refine bE ?_;rw[cE,aZ,cA<|by omega];rfl
   refine⟨by decide,?_⟩;have:=zY (E:=No) (Q:=P) (p:=(bC (cor s n<|k+1) (k+1)<|W++[0]).getD k 0) (q:=(r.getD k 0:Rat)) (B2.of zt zr<|by decide) (by rw[hO];exact hP);rw[tQ]at this;exact this
  dsimp only;have zO:Sz 400 O:=by rw[<-hO];exact(zt.sub zr).mono (by decide)
  refine bH<|LP.set_by (d:=aG<|solF (cor s n<|k+1) (k+1) r) (ρ':=[.d<|aL s,.d<|aL r,.d<|aG<|solF (cor s n<|k+1) (k+1) r,.ow L,.d<|.int ((1+k:Nat):Int),.d<|d8 (cor s n<|k+1)<|k+1,.d<|aG<|W++[0],.d<|aR O]) (by rfl) (λP hP=>?_) ?_
  .unfold d8
   walk_at "st";refine⟨_,bE (j:=1) rfl,?_⟩;rw[<-fin]at hP;exact As (b:=400) (by decide) (by omega) (λy hy=>(Xs y hy).mono<|by decide) zO (λy hy=>(AJ c ec y hy).mono<|by decide) hP
  dsimp only;simp only[cO,wN,dv,eZ];exact⟨by rw[hfl];unfold aO;omega,hnx _ ⟨_,_,_,_,rfl⟩⟩
 .rintro _ ⟨s4,s5,s6,s7,rfl⟩
  rw[bQ,mm,show 1+n-1=n by omega];dsimp only;refine B.C.pub_by (ρ':=[.d<|aL s,.d<|aL r,.d<|aG<|w n,.d<|.lst<|(List.range n).map f,s4,s5,s6,s7]) rfl ?_;exact q
theorem N0:Rd Em Es Zmp:=by
 rintro _ E Q ⟨⟨x,y⟩,rfl,⟨hk,hk2⟩,q⟩;dsimp only at hk hk2 q;show Es E _ [.d x,.d y];unfold Es;walk_at "st";cases e:fo x with
 |false=>exact xS.err (x,y) rfl ⟨hk,hk2⟩ (lv e)<|l5 e q
 |true=>
 obtain⟨s,n,rfl,h⟩:=mB e;replace q:=l6 h q;rw[dP,h.sN]at q;cases ew:eW s n with
 |cons k l=>
  rw[t9 ew]at q;exact xS.err (aL s,y) rfl ⟨hk,hk2⟩ (by(try dsimp only);rw[gH h,dP,h.sN,t9 ew]) q
 |nil=>
 have g:=(qU h).mp ew;rw[pW h g]at q;unfold jw at q
 by_cases ey:jV n y=true
 case neg=>
  rw[if_neg ey]at q;exact xS.err (aL s,y) rfl ⟨hk,hk2⟩ (by(try dsimp only);rw[gH h,dP,h.sN,pW h g];unfold jw;rw[if_neg ey]) q
 obtain⟨r,rfl,hr⟩:=En ey;rw[if_pos ey,dP]at q;have n1:=h.n1;refine NW h g hr ⟨aG<|solF s n r,?_,q⟩;obtain⟨m,rfl⟩:∃m,n=m+1:=⟨n-1,by omega⟩
 rw[rc,gL];have:List.map (λk=>aG<|solF (cor s (m+1)<|k+1) (k+1) r) [m]=[aG<|solF s (m+1) r]:=by rw[c6,hZ,Af h]
 rw[this];exact Eb
theorem N2:Rd ub Et Zmo:=by
 rintro _ E Q ⟨⟨x,y,t⟩,rfl,⟨hk,hk2,hk3,hz⟩,q⟩;dsimp only at hk hk2 hk3 hz q;show Et E _ [.d x,.d y,.d t];unfold Et;refine bH ?_;simp only[eP,wF,aC,aA,wN,dv];cases e:fo x with
 |false=>exact xS.err x rfl hk (lv e)<|l5 e q
 |true=>
 obtain⟨s,n,rfl,h⟩:=mB e;replace q:=l6 h q;rw[dP,h.sN]at q;refine CU h ?_;refine bH ?_;simp only[eP,wF,aC,aA,wN,dv,eZ];unfold jw at q
 by_cases ey:jV n y=true
 case neg=>
  rw[if_neg ey]at q;exact xS.err ((s,n),y) rfl ⟨h,hk2⟩ (by dsimp only;rw[if_neg ey]) q
 obtain⟨r,rfl,hr⟩:=En ey;rw[if_pos ey,dP]at q;refine D5 h hr ?_;walk_at "st";exact FX (by have:=hr.len;have:=h.n5;omega)<|Mr h hk3 hz q
end G.V9.W
abbrev LX5:List Str:=["NoSlants", "NoRow", "NoNumber", "NoLine", "NotEven", "NotFull", "NotStrong1", "NotStrong2", "NotStrong3", "NotStrong4", "NotStrong5"]
theorem N3(h1:1<=k)(h5:k<=5):kU k∈LX5:=by
 have:k=1\/k=2\/k=3\/k=4\/k=5:=by omega
 rcases this with rfl|rfl|rfl|rfl|rfl<;>simp[kU]
def fZ(n:Str):Str:=if gG n == "NotStrong" then "strong" else Da n
theorem N4:∀n∈LX,fZ n=Da n:=by decide +kernel
theorem N5(h1:1<=k)(h5:k<=5):fZ (kU k) = "strong" :=by
 have:k=1\/k=2\/k=3\/k=4\/k=5:=by omega
 rcases this with rfl|rfl|rfl|rfl|rfl<;>decide +kernel
namespace G.V9.W
def yz:bO:=fnS (λn:Str=>[.exc n]) (λn=>n∈LX5) λn=>.str<|fZ n
theorem IC{E:Ex->Prop}{n:Str}(h:n∈LX5)(q:Q (.str<|fZ n)):yz [.exc n] E Q:=⟨n,rfl,h,q⟩
abbrev ZdN:List Str:=["_law_e", "_law_marks"]
def Eu:WS:=(aI (aP 1<|wL<|bG<|aC (wB (gIsX LX5 MX)<|aC (wN 0)<|aC (wC<|.cls<|PySem.Str.ofString "NoSlants") aA)<|aC (wB (gIsX LX5 MX)<|aC (wN 0)<|aC (wC<|.cls<|PySem.Str.ofString "NoRow") aA)<|aC (wB (gIsX LX5 MX)<|aC (wN 0)<|aC (wC<|.cls<|PySem.Str.ofString "NoNumber") aA)<|aC (wB (gIsX LX5 MX)<|aC (wN 0)<|aC (wC<|.cls<|PySem.Str.ofString "NoLine") aA) aA)<|aI (aP 1<|w2 gAdd (wN 1)<|wL<|bG<|aC (wB (gIsX LX5 MX)<|aC (wN 0)<|aC (wC<|.cls<|PySem.Str.ofString "NotEven") aA)<|aC (wB (gIsX LX5 MX)<|aC (wN 0)<|aC (wC<|.cls<|PySem.Str.ofString "NotFull") aA)<|aC (wB (gIsX LX5 MX)<|aC (wN 0)<|aC (wC<|.cls<|PySem.Str.ofString "NotStrong") aA) aA)<|aI (aP 1<|w2 gAdd (wN 1)<|wL<|bG<|aC (wB (gIsX LX5 MX)<|aC (wN 0)<|aC (wC<|.cls<|PySem.Str.ofString "NoText") aA)<|aC (wB (gIsX LX5 MX)<|aC (wN 0)<|aC (wC<|.cls<|PySem.Str.ofString "TooGreat") aA) aA)<|aI (cQ (fA (bV<|wT<|wB (gIsX LX5 MX)<|aC (wN 0)<|aC (wC<|.ty "ValueError") aA)<|wT<|w2 (gEq true) (wM CZ (wN 1)<|aC (wC<|D.bl true) aA)<|wC<|D.int<|1) (aM<|wC<|D.str<|PySem.Str.ofString "other") cT)<|aM<|w2 gIx (wL<|bG<|aC (wC<|D.str<|PySem.Str.ofString "slants")<|aC (wC<|D.str<|PySem.Str.ofString "row")<|aC (wC<|D.str<|PySem.Str.ofString "number")<|aC (wC<|D.str<|PySem.Str.ofString "line")<|aC (wC<|D.str<|PySem.Str.ofString "even")<|aC (wC<|D.str<|PySem.Str.ofString "full")<|aC (wC<|D.str<|PySem.Str.ofString "strong")<|aC (wC<|D.str<|PySem.Str.ofString "text")<|aC (wC<|D.str<|PySem.Str.ofString "great") aA)<|wM C0 (wN 1)<|aC (wC<|D.bl true) aA)
theorem nX{n m:Str}(h:n∈LX5)(hm:m∈MX)(q:Q (.bl<|gG n==m)):gIsX LX5 MX [.exc n,.cls m] Q:=⟨h,hm,q⟩
theorem N6:∀ds E Q,yz ds E Q->Eu No { nx:=λ_=>Q .non,rt:=Q } (dY ZdN ds):=by
 rintro _ E Q ⟨n,rfl,hn,q⟩;unfold Eu;walk_at "nx";refine nX hn (by simp)<|nX hn (by simp) (nX hn (by simp)<|nX hn (by simp) ⟨by decide,?_⟩);walk_at "nx";refine nX hn (by simp)<|nX hn (by simp) (nX hn (by simp) ⟨by decide,?_⟩);walk_at "st";refine⟨by decide,?_⟩;walk_at "nx";refine nX hn (by simp)<|nX hn (by simp) ⟨by decide,?_⟩;walk_at "st";refine⟨by decide,?_⟩;have key:(MX.map (gG n == ·)).countP (· == true)=1/\∃j:Nat,(MX.map (gG n == ·))[j]? = some true/\(∀i<j,(MX.map (gG n == ·))[i]?≠some true)/\[D.str "slants",.str "row",.str "number",.str "line",.str "even",.str "full",.str "strong",.str "text",.str "great"][j]? = some (.str<|fZ n):=by
  simp only[LX5,Yao,da,or_false]at hn;rcases hn with rfl|rfl|rfl|rfl|rfl|rfl|rfl|rfl|rfl|rfl|rfl
  exact⟨by decide +kernel,0,by decide +kernel,by decide +kernel,by first|rfl|decide +kernel⟩;exact⟨by decide +kernel,1,by decide +kernel,by decide +kernel,by first|rfl|decide +kernel⟩;exact⟨by decide +kernel,2,by decide +kernel,by decide +kernel,by first|rfl|decide +kernel⟩;exact⟨by decide +kernel,3,by decide +kernel,by decide +kernel,by first|rfl|decide +kernel⟩;exact⟨by decide +kernel,4,by decide +kernel,by decide +kernel,by first|rfl|decide +kernel⟩;exact⟨by decide +kernel,5,by decide +kernel,by decide +kernel,by first|rfl|decide +kernel⟩;exact⟨by decide +kernel,6,by decide +kernel,by decide +kernel,by rfl⟩;exact⟨by decide +kernel,6,by decide +kernel,by decide +kernel,by rfl⟩;exact⟨by decide +kernel,6,by decide +kernel,by decide +kernel,by rfl⟩;exact⟨by decide +kernel,6,by decide +kernel,by decide +kernel,by rfl⟩;exact⟨by decide +kernel,6,by decide +kernel,by decide +kernel,by rfl⟩
 obtain⟨k1,j,k2,k3,k4⟩:=key;walk_at "nx";refine⟨hn,rfl,?_⟩;walk_at "st";refine⟨⟨_,rfl⟩,⟨MX.map (gG n == ·),true,rfl,rfl,?_⟩⟩;rw[k1];walk_at "st";refine⟨by decide,⟨_,rfl⟩,MX.map (gG n == ·),true,j,rfl,rfl,k2,k3,?_⟩;exact⟨_,bE k4,q⟩
end G.V9.W
section
variable{p:Pos}
def qV(i:Nat):qT:=λ_ QL ρ=>match ρ[i]? with|some (.ow xs)=>QL xs|_=>False
theorem N7(i:Nat)(hN:X.N[i]? = some x:=by rfl)(hv:kX X.env.scope x:=by first|exact .inl rfl|exact .inr<|.inl rfl)(hd:(x==("__debug__" : Str))=false:=by decide)(hcd:(x==("__classdict__" : Str))=false:=by decide):xX X EX [.Return (some<|.Name x p) pos] (qV i):=by refine⟨⟨_,iX<|mR<|df hN hv hd hcd,λW0 H0 F W σ H ρ E Dn QL s fl eo no h=>?_⟩,λE ρ Q Q' hq z=>?_⟩;unfold qV at h;split at h;rename_i xs e;obtain⟨a,vs,e1,e2,e3,e4,e5,e6⟩:=s.o i xs e;exact⟨.ref a,e1,no xs h a vs W H s.ext e2 e3 e4 e5 e6⟩;exact h.elim;unfold qV at z ⊢;split at z;exact hq _ z;exact z.elim
end
namespace G.V9.W
def yA:rO:=λds _ Q=>∃s n r,ds=[aL s,aL r]/\IsSl s n/\Stg s n/\IsR r n/\Q ((List.range n).map λk=>aG<|solF (cor s n<|k+1) (k+1) r)
theorem N8:DH yA:=λ_ _ _ _ _ _ hQ ⟨s,n,r,e,h,g,hr,q⟩=>⟨s,n,r,e,h,g,hr,hQ _ q⟩
theorem N9:∀ds E Q,yA ds E Q->ds.length=(Zbe.take 2).length:=λ_ _ _ ⟨_,_,_,e,_⟩=>by rw[e];rfl
def AT:qT:=(kS (eP<|wF pV<|aC (wN 0) aA)<|kS (eP<|wF uY<|aC (wN 0)<|aC (wN 1) aA)<|kS (aP 2<|bA aA)<|kS (cH 3<|bG aA)<|kS (bK<|bN (t4<|aC (wF yx<|aC (wN 0) aA) aA) (fg 2<|dh (gN 4)<|dh (gN 5) e8)<|aI (aP 6<|w2 gAdd (wN 2)<|bA<|aC (wC<|D.tup [(D.int<|0),(D.int<|1)]) aA)<|aI (aP 7<|wF tL<|aC (w2 gIx (wF rJ<|aC (wF ot<|aC (wN 0)<|aC (wN 4) aA)<|aC (wN 6) aA)<|w1 fk<|wC<|D.int<|1)<|aC (bA<|aC (w2 gIx (wN 1)<|w2 fu (wN 4)<|wC<|D.int<|1)<|aC (wC<|D.int<|1) aA) aA)<|aI (aP 2<|wF rL<|aC (wN 6)<|aC (wN 7)<|aC (w2 gIx (wN 5)<|wC<|D.int<|1) aA)<|cO 3<|wN 2)<|qV 3)
theorem yB{z':qT}{E:Ex->Prop}{Q:List D->Prop}(h:z E { nx:=z' E Q,rt:=λ_=>False } ρ):kS z z' E Q ρ:=h
theorem Oa:∀ds E Q,yA ds E Q->AT E Q (dY Zbe ds):=by
 rintro _ E Q ⟨s,n,r,rfl,h,g,hr,q⟩;have n1:=h.n1;have n5:=h.n5;have rl:=hr.len;have rb:=hr.at;show AT E _ [.d<|aL s,.d<|aL r,.un,.un,.un,.un,.un,.un];unfold AT;refine yB ?_;simp only[eP,wF,aC,aA,wN,dv];refine yi h g ?_;refine yB ?_;simp only[eP,wF,aC,aA,wN,dv,eZ];refine D5 h hr ?_;refine yB<|LP.set_by (d:=.tup []) (ρ':=[.d<|aL s,.d<|aL r,.d<|.tup [],.un,.un,.un,.un,.un]) (by rfl) (λP hP=>⟨by decide,hP⟩) ?_;dsimp only;refine yB<|LP.own_by (xs:=[]) (ρ':=[.d<|aL s,.d<|aL r,.d<|.tup [],.ow [],.un,.un,.un,.un]) (by rfl) (λP hP=>⟨by decide,hP⟩) ?_;dsimp only;refine yB ?_;simp only[bK,bN,t4,aC,aA,wF,wN,dv];refine Iz h g ⟨_,rfl,?_⟩
 let w:Nat->List Rat:=λk=>if k=0 then[] else solF (cor s n k) k r;let f:Nat->D:=λk=>aG<|solF (cor s n<|k+1) (k+1) r
 refine AH (λk ρ=>∃s4 s5 s6 s7,ρ=[.d<|aL s,.d<|aL r,.d<|aG<|w<|k-1,.ow<|(List.range<|k-1).map f,s4,s5,s6,s7]) _ 1 ?_ ?_ _ ⟨_,_,_,_,rfl⟩;rintro k d hd _ ⟨s4,s5,s6,s7,rfl⟩ nx hnx;have hk:k<n:=by have:=(Yar.mp hd).1;simpa using this
 have ed:d=d8 (cor s n<|k+1) (k+1):=by rw[cE,iU hk]at hd;exact(O8 hd).symm
 subst ed;rw[show 1+k-1=k by omega];rw[show 1+k+1-1=k+1 by omega,rc,gL]at hnx;have c:=gA h (show 1<=k+1 by omega) (show k+1<=n by omega);have gc:=g.cor h (show 1<=k+1 by omega) (show k+1<=n by omega);have ec:=gc.full c;have ll:=nV c ec;have wl:(w k).length=k:=by show(if k=0 then[] else solF (cor s n k) k r).length=k;split;rename_i z;rw[z];rfl;exact nW r
 have ws:∀x∈w k,Sz 50 x:=λx hx=>by have hx:x∈(if k=0 then[] else solF (cor s n k) k r):=hx;split at hx;cases hx;rename_i z;have ck:=gA h (show 1<=k by omega) (show k<=n by omega);exact AK ck ((g.cor h (show 1<=k by omega) (show k<=n by omega)).full ck) rb x hx
 have fin:bX (w k++[0]) ((bC (cor s n<|k+1) (k+1)<|w k++[0]).getD k 0-(r.getD k 0:Rat)) (dW (cor s n<|k+1)<|k+1)=solF (cor s n<|k+1) (k+1) r:=by
  rcases Bf k with z|z
  subst z;refine sol_uniq c ec (by rw[t6 (by rw[ll];rfl)];rfl) λi hi=>?_;obtain rfl:i=0:=by omega
  have t0:(bC (cor s n<|0+1) (0+1)<|w 0++[0]).getD 0 0=0:=by
   rw[uT c rfl<|by decide];exact qQ λj hj=>by
    obtain rfl:j=0:=by omega
    exact jE _
  have b:=(pT c ec).tb 0 0 (by decide) (by decide);rw[dl_one]at b;rw [t0,dS (g:=λk=>(r.getD 0 0:Rat)*(tq (cor s n<|0+1) (0+1) 0 k*Gs.bq (cor s n<|0+1) (0+1) k 0)) (λj hj=>by
   obtain rfl:j=0:=by omega
   rw[yd (by rw[ll];rfl),uS c ec<|by decide];show _*(0-(0-(r.getD 0 0:Rat))*_)=_;grind),gZ,b,qY]
  have e1:w k=solF (cor (cor s n<|k+1) (k+1) k) k r:=by rw[Gs.cor_cor (show k+1<=n by omega) (iF k) z h];exact if_neg (by omega)
  rw[e1];exact Id c z ec<|gc k z (iF k)
 refine⟨rfl,?_⟩;simp only[dh,e8,gN,ia,h8];show aI _ _ _ _ [.d<|aL s,.d<|aL r,.d<|aG<|w k,.ow<|(List.range k).map f,.d<|.int ((1+k:Nat):Int),.d<|d8 (cor s n<|k+1)<|k+1,s6,s7];have hfl:((List.range k).map f).length=k:=by simp
 have hfk:List.map f [k]=[aG<|solF (cor s n<|k+1) (k+1) r]:=rfl;have hwk:w (k+1)=solF (cor s n<|k+1) (k+1) r:=if_neg (by omega);rw[hfk,hwk]at hnx;generalize w k=W at wl ws fin;generalize (List.range k).map f=L at hfl hnx;have Xs:∀x∈W++[0],Sz 50 x:=λx hx=>by
  rcases Yap.mp hx with hx|hx
  exact ws x hx;rw[Ycp.mp hx];exact Sz.zero (by decide)
 have Xl:(W++[0]).length=k+1:=by rw[d9,wl];rfl
 refine bH<|LP.set_by (d:=aG<|W++[0]) (ρ':=[.d<|aL s,.d<|aL r,.d<|aG W,.ow L,.d<|.int ((1+k:Nat):Int),.d<|d8 (cor s n<|k+1)<|k+1,.d<|aG<|W++[0],s7]) (by rfl) (λP hP=>?_) ?_
 unfold aG at hP ⊢;walk_at "st";rw[gL]at hP;exact⟨by decide,eV (by simp;omega),hP⟩;dsimp only;obtain⟨gt,zt⟩:=AN (i:=k) c Xs (by omega);have rk:(r.getD k 0).natAbs<=2^10:=rb k;have zr:Sz 11 (r.getD k 0:Rat):=Sz.int (n:=11) _ (by decide)<|jD rk (by decide);generalize hO:(bC (cor s n<|k+1) (k+1)<|W++[0]).getD k 0-(r.getD k 0:Rat)=O at fin;refine bH<|LP.set_by (d:=aR O) (ρ':=[.d<|aL s,.d<|aL r,.d<|aG W,.ow L,.d<|.int ((1+k:Nat):Int),.d<|d8 (cor s n<|k+1)<|k+1,.d<|aG<|W++[0],.d<|aR O]) (by rfl) (λP hP=>?_) ?_
 simp only[wF,aC,aA,wN,w2,w1,wC,dv,eZ];have eC:((1+k:Nat):Int)=((k+1:Nat):Int):=by omega
 rw[eC];refine uF h (show 1<=k+1 by omega) (show k+1<=n by omega) ?_;refine xj c Xl ⟨50,Xs,by decide⟩ ?_;walk_at "st";refine⟨_,Ea (t7 _)<|by omega,?_⟩;rw[show k+1-1=k by omega];refine⟨.int<|r.getD k 0,?_,?_⟩;rw[show(((k+1:Nat):Int)-1)=((k:Nat):Int) by omega];refine bE ?_;rw[cE,aZ,cA<|by omega];rfl;refine⟨by decide,?_⟩;have:=zY (E:=No) (Q:=P) (p:=(bC (cor s n<|k+1) (k+1)<|W++[0]).getD k 0) (q:=(r.getD k 0:Rat)) (B2.of zt zr<|by decide) (by rw[hO];exact hP);rw[tQ]at this;exact this;dsimp only;have zO:Sz 400 O:=by rw[<-hO];exact(zt.sub zr).mono (by decide)
 refine bH<|LP.set_by (d:=aG<|solF (cor s n<|k+1) (k+1) r) (ρ':=[.d<|aL s,.d<|aL r,.d<|aG<|solF (cor s n<|k+1) (k+1) r,.ow L,.d<|.int ((1+k:Nat):Int),.d<|d8 (cor s n<|k+1)<|k+1,.d<|aG<|W++[0],.d<|aR O]) (by rfl) (λP hP=>?_) ?_
 unfold d8;walk_at "st";refine⟨_,bE (j:=1) rfl,?_⟩;rw[<-fin]at hP;exact As (b:=400) (by decide) (by omega) (λy hy=>(Xs y hy).mono<|by decide) zO (λy hy=>(AJ c ec y hy).mono<|by decide) hP;dsimp only;simp only[cO,wN,dv,eZ];exact⟨by rw[hfl];unfold aO;omega,hnx _ ⟨_,_,_,_,rfl⟩⟩;rintro _ ⟨s4,s5,s6,s7,rfl⟩;rw[bQ,mm,show 1+n-1=n by omega];dsimp only;exact q
def gE:Except Str D->D
 |.ok v=>v
 |.error e=>match eG e with
  |some (_,_,k)=>.tup [.str<|fZ e,.int k]|none=>.str<|fZ e
theorem Ob(h1:1<=k)(h5:k<=5):gE (.error<|kU k)=.tup [.str "strong",.int k]:=by show(match eG (kU k) with|some (_,_,k')=>D.tup [.str<|fZ<|kU k,.int k']|none=>_)=_;rw[Ix h1 h5,N5 h1 h5]
theorem ID{n:Str}(h:n∈LX):gE (.error n)=.str (Da n):=by
 have:∀n∈LX,eG n=none:=by decide +kernel
 show(match eG n with|some (_,_,k')=>D.tup [.str<|fZ n,.int k']|none=>_)=_;rw[this n h,N4 n h]
namespace E8
def rS(x y:D):Except Str D:=ge x<|md (sI x) (sN x) (jw (sN x) y<|.ok<|aG<|solF (sI x) (sN x)<|sI y)
def u3(x y:D):Except Str D:=ge x<|md (sI x) (sN x) (jw (sN x) y<|.ok<|ua (sI x) (sN x)<|sI y)
def rT(x y t:D):Except Str D:=ge x<|jw (sN x) y (.ok<|.bl<|gh (sI x) (sN x) t<|bW<|sI y)
def jX(w:Nat)(x y t:D):Except Str D:=if w=0 then rS x y else if w=1 then u3 x y else rT x y t
def rV:bO:=fnS (λa:Nat×D×D×D=>[.int a.1,a.2.1,a.2.2.1,a.2.2.2]) (λa=>kd a.2.1=true/\kd a.2.2.1=true/\kd a.2.2.2=true/\cJ 300 a.2.2.2=true) λa=>gE<|jX a.1 a.2.1 a.2.2.1 a.2.2.2
def AU:bO:=rlS (λa:Nat×List Int=>[aL a.2,.pen]) (λa=>1<=a.1/\a.1<=5/\IsR a.2 a.1) λa d=>kd d=true/\jV a.1 d=false
def AV:bO:=fnS (λa:SL×List Int=>[aL a.1.1,aL a.2]) (λa=>IsSl a.1.1 a.1.2/\IsR a.2 a.1.2) λ_=>.bl true
def yC:bO:=fnS (λa:SL=>[aL a.1,.pen]) (λa=>IsSl a.1 a.2) λ_=>.bl true
def yD:bO:=fnS (λns:List Int=>[.scr<|ns.map .int]) (λns=>ns.length<=63) λ_=>.bl true
section
variable{E:Ex->Prop}{x t:D}{r:List Int}{w:Nat}
theorem yE(h1:kd x=true)(h2:kd y=true)(h3:kd t=true)(h4:cJ 300 t=true)(q:Q (gE<|jX w x y t)):rV [.int w,x,y,t] E Q:=⟨(w,x,y,t),rfl,⟨h1,h2,h3,h4⟩,q⟩
theorem Oc(h1:1<=n)(h5:n<=5)(h:IsR r n)(q:∀d,kd d=true->jV n d=false->Q d):AU [aL r,.pen] E Q:=⟨(n,r),rfl,⟨h1,h5,h⟩,λd ⟨a,b⟩=>q d a b⟩
theorem Od(h:IsSl s n)(hr:IsR r n)(q:Q (.bl true)):AV [aL s,aL r] E Q:=⟨((s,n),r),rfl,⟨h,hr⟩,q⟩
theorem IE(h:IsSl s n)(q:Q (.bl true)):yC [aL s,.pen] E Q:=⟨(s,n),rfl,h,q⟩
theorem Oe{e:Str}(h:jX w x y t=.error e):e∈LX5:=by
 unfold jX rS u3 rT ge at h;have ns:∀{v:Except Str D} {s:List Int} {n:Nat},IsSl s n->(∀e,v=.error e->e∈LX5)->∀e,md s n v=.error e->e∈LX5:=λ{v s n} hs hv e he=>by unfold md at he;split at he;exact hv e he;rename_i k r ew;obtain⟨k1,kn,_⟩:=AS hs ew;cases he;exact N3 k1 (by have:=hs.n5;omega)
 have rw':∀{n:Nat} {z v:D} {e:Str},jw n z (.ok v)=.error e->e∈LX5:=λhe=>by unfold jw at he;split at he;cases he;cases he;simp
 by_cases g:fo x=true;obtain⟨s,n,rfl,hs⟩:=mB g;rw[if_pos g,if_pos g,if_pos g,dP,hs.sN]at h;split at h;exact ns hs (λe he=>rw' he) e h;split at h;exact ns hs (λe he=>rw' he) e h;exact rw' h;rw[if_neg g,if_neg g,if_neg g]at h;have:Except.error (α:=D) ("NoSlants" : Str)=.error e:=by split at h;exact h;split at h<;>exact h
 cases this;simp
end
end E8
end G.V9.W
namespace G.V9.W.E8
abbrev Zit:List Str:=["_law_way", "_law_slants", "_law_right_here", "_law_thing", "_law_e"]
def Ev:WS:=(fX LX5 5 4 (aI (cQ (wT<|w2 (gEq false) (wN 0)<|wC<|D.int<|0) (aM<|wF Em<|aC (wN 1)<|aC (wN 2) aA) cT)<|aM<|kI (wT<|w2 (gEq false) (wN 0)<|wC<|D.int<|1) (wF yy<|aC (wN 1)<|aC (wN 2) aA)<|wF ub<|aC (wN 1)<|aC (wN 2)<|aC (wN 3) aA)<|aI (cQ (wT<|wB (gIsX LX5 MX)<|aC (wN 4)<|aC (wC<|.cls<|PySem.Str.ofString "NotStrong") aA) (aM<|bA<|aC (wF yz<|aC (wN 4) aA)<|aC (w1 (yv (PySem.Str.ofString "NotStrong")<|PySem.Str.ofString "size")<|wN 4) aA) cT)<|aM<|wF yz<|aC (wN 4) aA)
abbrev Zev:List Str:=["_law_right_here", "_law_pen", "_law_spot", "_law_odd", "_law_some"]
def Ew:WS:=(aI (aP 2<|wF gW<|aC (wN 1)<|aC (wB bR<|aC (wN 0) aA) aA)<|aI (aP 3<|w2 gIx (wL<|bG<|aC (wC<|D.int<|1001)<|aC (w1 fk<|wC<|D.int<|1001)<|aC (wC<|D.bl true)<|aC (wC D.non)<|aC (wC<|D.str<|PySem.Str.ofString "1")<|aC (bA<|aC (wC<|D.int<|1)<|aC (wC<|D.int<|1) aA)<|aC (w2 zQ (wC<|D.int<|10)<|wC<|D.int<|20) aA)<|wF gW<|aC (wN 1)<|aC (wC<|D.int<|7) aA)<|aI (aP 4<|wL<|bG<|aC (w2 gAdd (w2 gAdd (bP (wN 0) eO<|dF<|wN 2)<|bA<|aC (wN 3) aA)<|bP (wN 0) (dF<|w2 gAdd (wN 2)<|wC<|D.int<|1) eO)<|aC (w2 gAdd (wN 0)<|bA<|aC (wC<|D.int<|0) aA)<|aC (bP (wN 0) (dF<|wC<|D.int<|1) eO)<|aC (wL<|aB (gv (α:=Unit))<|aC (wN 0) aA)<|aC (wC D.non)<|aC (wC<|D.int<|0)<|aC (wC .dic) aA)<|aM<|w2 gIx (wN 4)<|w2 gIx (wL<|bG<|aC (wC<|D.int<|0)<|aC (wC<|D.int<|0)<|aC (wC<|D.int<|0)<|aC (wC<|D.int<|1)<|aC (wC<|D.int<|2)<|aC (wC<|D.int<|3)<|aC (wC<|D.int<|4)<|aC (wC<|D.int<|5)<|aC (wC<|D.int<|6) aA)<|wF gW<|aC (wN 1)<|aC (wC<|D.int<|9) aA)
abbrev Zc3:List Str:=["_law_slants", "_law_right_here", "_law_weak_here", "_law_due", "_law_turn", "_law_found"]
def Ey:WS:=(aI (aP 2<|wF u0<|aC (wN 0) aA)<|aI (cQ (wT<|w2 (gIsC true) (wN 2)<|wC D.non) (aM<|w2 (gEq false) (wL<|aLC (fO<|aC (wC<|D.int<|2) aA) 1 [0] (gN 0) dC<|wF rV<|aC (wN 0)<|aC (wN 1)<|aC (wC D.non)<|aC (wC<|D.int<|0) aA)<|w2 gMul (wL<|bG<|aC (bA<|aC (wC<|D.str<|PySem.Str.ofString "strong")<|aC (wN 2) aA) aA)<|wC<|D.int<|2) cT)<|aI (cH 3<|aLC (iP<|aC (wC<|D.int<|1)<|aC (w2 gAdd (wB bR<|aC (wN 1) aA)<|wC<|D.int<|1) aA) 1 [0,1] (gN 0) dC<|wF t8<|aC (wF uZ<|aC (wN 1)<|aC (wN 0) aA)<|aC (bP (wN 2) eO<|dF<|wN 0) aA)<|cM 3<|aI (cQ (wT<|w2 gNeS (wB Zie<|aC (wF rV<|aC (wC<|D.int<|0)<|aC (wN 0)<|aC (wN 1)<|aC (wC<|D.int<|0) aA) aA)<|wB Zie<|aC (w2 gIx (wN 3)<|w1 fk<|wC<|D.int<|1) aA) (aM<|wC<|D.bl false) cT)<|cM 3<|aI (bK<|bN (fO<|aC (wC<|D.int<|2) aA) (gN 4)<|aI (cH 5<|aF yA<|aC (wN 0)<|aC (wN 1) aA)<|cM 3<|aI (cQ (fh 5<|wT<|w2 gNeS (wB Zie<|aC (wN 5) aA)<|wB Zie<|aC (wN 3) aA) (aM<|wC<|D.bl false) cT)<|cO 5<|wC<|D.int<|0)<|cM 3<|aM<|w2 (gIsC false) (wF ub<|aC (wN 0)<|aC (wN 1)<|aC (w2 gIx (wN 3)<|w1 fk<|wC<|D.int<|1) aA)<|wC<|D.bl true)
noncomputable abbrev Zhc:List Str:=["_law_slants", "_law_pen", "_law_size", "_law_great", "_law_right_here", "_law_row", "_law_came", "_law_thing", "_law_good", "_law_found", "_law_bad"]
def Ez:WS:=(aI (aP 2<|w2 fj (w2 gAdd (wB bR<|aC (wN 0) aA)<|wC<|D.int<|1)<|wC<|D.int<|2)<|aI (aP 3<|w2 gIx (wL<|bG<|aC (wC<|D.int<|5)<|aC (wC<|D.int<|5)<|aC (wC<|D.int<|1000) aA)<|wF gW<|aC (wN 1)<|aC (wC<|D.int<|3) aA)<|aI (aP 4<|wB hV<|aC (wL<|aLC (fO<|aC (wN 2) aA) 1 [1,3] (gN 0) dC<|w2 fu (wF gW<|aC (wN 1)<|aC (w2 gAdd (w2 gMul (wC<|D.int<|2)<|wN 2)<|wC<|D.int<|1) aA)<|wN 2) aA)<|aI (cQ (bV<|wT<|wF AV<|aC (wN 0)<|aC (wN 4) aA) (aM<|wC<|D.bl false) cT)<|aI (aP 5<|wF Aa<|aC (wN 1)<|aC (wN 2) aA)<|aI (aP 6<|wF xU<|aC (wN 0)<|aC (wN 5) aA)<|aI (cQ (wT<|wB jP<|aC (wL<|aLC (iS<|wN 6) 1 [] (gN 0) dC<|gS (w2 (gEq false) (w2 gIx (wN 0)<|wC<|D.int<|1)<|wC<|D.int<|1)<|w2 nM (wB ir<|aC (w2 gIx (wN 0)<|wC<|D.int<|0) aA)<|wC<|D.int<|1001) aA) (cQ (wT<|w2 (gIsC true) (wF ub<|aC (wN 0)<|aC (wB hV<|aC (wL<|aLC (iS<|wN 6) 1 [] (gN 0) dC<|w2 gIx (wN 0)<|wC<|D.int<|0) aA)<|aC (wN 5) aA)<|wC<|D.bl true) (aM<|wC<|D.bl false) cT) cT)<|aI (bK<|bN (iS<|wL<|bG<|aC (wN 5)<|aC (wF xV<|aC (wN 1)<|aC (wN 5) aA)<|aC (wF xV<|aC (wN 1)<|aC (wN 5) aA)<|aC (bA<|aC (wN 4)<|aC (wN 4) aA) aA) (gN 7)<|aI (aP 8<|gS (wF AB<|aC (wN 2)<|aC (wN 7) aA)<|w2 (gEq false) (wF xU<|aC (wN 0)<|aC (wN 7) aA)<|wB hV<|aC (wL<|aLC (iS<|wN 4) 1 [] (gN 0) dC<|bA<|aC (wN 0)<|aC (wC<|D.int<|1) aA) aA)<|aI (aP 9<|wF ub<|aC (wN 0)<|aC (wN 4)<|aC (wN 7) aA)<|cQ (fA (bV<|wT<|wB gIs<|aC (wN 9)<|aC (wC<|.ty "bool") aA)<|wT<|w2 (gEq true) (wN 9)<|wN 8) (aM<|wC<|D.bl false) cT)<|aI (aP 10<|wF AU<|aC (wN 4)<|aC (wN 1) aA)<|aI (cQ (fc (wT<|w2 (gIsC false) (wF u0<|aC (wN 0) aA)<|wC D.non)<|wT<|w2 (gEq true) (wL<|aLC (fO<|aC (wC<|D.int<|2) aA) 1 [0,10] (gN 0) dC<|wF rV<|aC (wN 0)<|aC (wN 1)<|aC (wN 2)<|aC (wC<|D.int<|0) aA)<|w2 gMul (wL<|bG<|aC (wC<|D.str<|PySem.Str.ofString "row") aA)<|wC<|D.int<|2) (aM<|wC<|D.bl false) cT)<|aM<|w2 (gEq false) (wF rV<|aC (wC<|D.int<|2)<|aC (wN 0)<|aC (wN 10)<|aC (wN 5) aA)<|wC<|D.str<|PySem.Str.ofString "row")
abbrev IF:List Str:=["_law_script", "_law_cell", "_law_pen", "_law_slants", "_law_bad"]
def AW:WS:=(aI (bK<|bN (iS<|w2 gAdd (wL<|bG<|aC (wF z8<|aC (wN 0)<|aC (wC<|D.int<|0) aA) aA)<|bP (wN 0) (dF<|wC<|D.int<|1)<|dF<|wC<|D.int<|4) (gN 1)<|aI (aP 2<|wF z9<|aC (wN 1) aA)<|aI (aP 3<|wF xv<|aC (wN 2) aA)<|aI (cQ (fA (bV<|wT<|wF yC<|aC (wN 3)<|aC (wN 2) aA)<|bV<|wT<|wF yC<|aC (wF AQ<|aC (wN 2) aA)<|aC (wN 2) aA) (aM<|wC<|D.bl false) cT)<|aI (aP 4<|wF Ad<|aC (wN 2)<|aC (wN 3) aA)<|cQ (fc (bV<|wT<|wF Ae<|aC (wN 4) aA)<|wT<|w2 (gEq true) (wL<|aLC (fO<|aC (wC<|D.int<|3) aA) 1 [4] (gN 0) dC<|wF rV<|aC (wN 0)<|aC (wN 1)<|aC (wC D.non)<|aC (wC<|D.int<|0) aA)<|w2 gMul (wL<|bG<|aC (wC<|D.str<|PySem.Str.ofString "slants") aA)<|wC<|D.int<|3) (aM<|wC<|D.bl false) cT)<|aM<|wC<|D.bl true)
theorem Of:∀n∈LX5,(gG n == "NotStrong")=true->∃k,eG n=some (("NotStrong" : Str),("size" : Str),k):=λn hn=>by
 simp only[LX5,Yao,da,or_false]at hn;rcases hn with rfl|rfl|rfl|rfl|rfl|rfl|rfl|rfl|rfl|rfl|rfl
 all_goals first|(intro h;exact O5 h<|by decide +kernel)|exact λ_=>⟨1,by decide +kernel⟩|exact λ_=>⟨2,by decide +kernel⟩|exact λ_=>⟨3,by decide +kernel⟩|exact λ_=>⟨4,by decide +kernel⟩|exact λ_=>⟨5,by decide +kernel⟩
theorem Og:∀n∈LX5,(gG n == "NotStrong")=false->eG n=none:=λn hn=>by
 simp only[LX5,Yao,da,or_false]at hn;rcases hn with rfl|rfl|rfl|rfl|rfl|rfl|rfl|rfl|rfl|rfl|rfl
 all_goals first|(intro h;exact O5 h<|by decide +kernel)|exact λ_=>by decide +kernel
theorem Oh:Rd rV Ev Zit:=by
 rintro _ E Q ⟨⟨w,x,y,t⟩,rfl,⟨h1,h2,h3,h4⟩,q⟩;dsimp only at h1 h2 h3 h4 q;show Ev E _ [.d<|.int w,.d x,.d y,.d t,.un];unfold Ev;simp only[fX];refine⟨λex=>ex∈LX5/\Q (gE<|.error ex),λex ⟨he,hq⟩=>⟨he,?_⟩,?_⟩;unfold uG;show aI _ _ _ _ [.un,.un,.un,.un,.d<|.exc ex];cases e:gG ex == "NotStrong" with
 |true=>
  obtain⟨k,ek⟩:=Of ex he e;refine bH<|eU (b:=true) (λP hP=>?_) (λ_=>?_) λe=>nomatch e
  walk_at "st";refine nX he (by simp) ?_;rw[show(gG ex==PySem.Str.ofString "NotStrong")=true from e];exact hP;walk_at "st";refine IC he ?_;refine⟨k,ek,by decide,?_⟩;have:gE (.error ex)=.tup [.str<|fZ ex,.int k]:=by show(match eG ex with|some (_,_,k')=>D.tup [.str<|fZ ex,.int k']|none=>_)=_;rw[ek]
  rw[this]at hq;exact hq
 |false=>
  have ek:=Og ex he e;refine bH<|eU (b:=false) (λP hP=>?_) (λe=>nomatch e) λ_=>?_
  walk_at "st";refine nX he (by simp) ?_;rw[show(gG ex==PySem.Str.ofString "NotStrong")=false from e];exact hP;walk_at "st";refine IC he ?_;have:gE (.error ex)=.str (fZ ex):=by show(match eG ex with|some (_,_,k')=>D.tup [.str<|fZ ex,.int k']|none=>_)=_;rw[ek]
  rw[this]at hq;exact hq
 have ans:∀{v:Except Str D},jX w x y t=v->exQ (λex=>ex∈LX5/\Q (gE<|.error ex)) Q v:=λ{v} e=>by
  cases v with
  |ok d=>rw[e]at q;exact q|error ex=>rw[e]at q;exact⟨Oe e,q⟩
 by_cases w0:w=0;subst w0;refine bH<|eU (b:=true) (λP hP=>?_) (λ_=>?_) λe=>nomatch e
 walk_at "st";exact hP;walk_at "st";exact⟨(x,y),rfl,⟨h1,h2⟩,ans (v:=rS x y) rfl⟩;refine bH (eU (b:=false) (λP hP=>?_) (λe=>nomatch e) λ_=>?_);walk_at "st";rw[show((w:Int)==0)=false from by rw[Pu];omega];exact hP;by_cases w1:w=1;subst w1;walk_at "st";exact⟨(x,y),rfl,⟨h1,h2⟩,ans (v:=u3 x y) rfl⟩;walk_at "st";rw[show((w:Int)==1)=false from by rw[Pu];omega];simp only[ee,if_false];refine⟨(x,y,t),rfl,⟨h1,h2,h3,h4⟩,ans (v:=rT x y t) ?_⟩;unfold jX;rw[if_neg w0,if_neg w1]
theorem AX{P:D->Prop}(hp:∀x∈xs,P x)(h:k<xs.length):∃d,dN xs (k:Int)=some d/\P d:=xA h hp
theorem IG(h:xs.length≠n):jV n (.tup xs)=false:=by show(xs.all (eh (-1000) 1000)&&decide (xs.length=n))=false;rw[Pe h,Bool.and_false]
theorem Oi(hm:d∈xs)(h:eh (-1000) 1000 d=false):jV n (.tup xs)=false:=by
 show(xs.all (eh (-1000) 1000)&&decide (xs.length=n))=false;have:xs.all (eh (-1000) 1000)=false:=by rw[List.all_eq_false];exact⟨d,hm,by rw[h];decide⟩
 rw[this,rW]
theorem Oj:Rd AU Ew Zev:=by
 rintro _ E Q ⟨⟨n,r⟩,rfl,⟨n1,n5,h⟩,q⟩;dsimp only at n1 n5 h q;have rl:=h.len;show Ew E _ [.d<|aL r,.d .pen,.un,.un,.un];unfold Ew;refine bH<|LP.set_rl (λd=>∃k:Nat,k<n/\d=.int k) (λP hP=>?_) ?_
 unfold aL;walk_at "st";rw[bQ,rl];exact jv (by omega) (by omega) λk hk=>hP _ ⟨k,hk,rfl⟩;rintro _ ⟨k,hk,rfl⟩;dsimp only;refine bH<|LP.set_rl (λd=>kd d=true/\eh (-1000) 1000 d=false) (λP hP=>?_) ?_
 walk_at "st";refine⟨by decide,⟨by decide,by decide,by decide⟩,by decide,jv (n:=7) (by decide) (by decide) λj hj=>?_⟩;obtain ⟨d,hd,hgd⟩:=AX (P:=λd=>kd d=true/\eh (-1000) 1000 d=false) (xs:=[D.int 1001,D.int (-1001),D.bl true,D.non,D.str<|PySem.Str.ofString "1",D.tup [D.int 1,D.int 1],D.int<|10 ^ Int.toNat 20]) (k:=j) (by
  intro x hx;simp only[Yao,da,or_false]at hx;rcases hx with rfl|rfl|rfl|rfl|rfl|rfl|rfl<;>exact⟨by decide +kernel,by decide +kernel⟩) hj
 exact⟨_,hd,hP d hgd⟩;rintro odd ⟨ho1,ho2⟩;dsimp only;show aI _ _ _ _ [.d<|aL r,.d .pen,.d<|.int k,.d odd,.un];have hks:∀x∈r.map D.int,kd x=true:=λx hx=>by obtain⟨i,_,rfl⟩:=YbT.mp hx;rw[kd]
 have l1:(aV (r.map D.int) none<|some (k:Int)).length<=5:=by unfold aV;rw[gj,iD,bQ];omega
 have l2:(aV (r.map D.int) (some<|(k:Int)+1) none).length<=5:=by unfold aV;rw[gj,iD,bQ];omega
 have l3:(aV (r.map D.int) (some 1) none).length≠n:=by unfold aV;rw[show(some (1:Int))=some ((1:Nat):Int) from rfl,HT.sIx_none,HT.sIx_nat,gj,iD,bQ];omega
 have l4:(aV (r.map D.int) (some 1) none).length<=5:=by unfold aV;rw[gj,iD,bQ];omega
 refine bH (LP.set_lst (xs:=[D.tup<|aV (r.map D.int) none (some (k:Int))++[odd]++aV (r.map D.int) (some<|(k:Int)+1) none,D.tup<|r.map D.int++[D.int 0],D.tup<|aV (r.map D.int) (some 1) none,D.lst<|r.map D.int,D.non,D.int 0,D.dic])
  (LP.args_cons (λP h=>?_)<|LP.args_cons (λP h=>?_)<|LP.args_cons (λP h=>?_)<|LP.args_cons (λP h=>?_)<|LP.args_cons LP.c_at<|LP.args_cons LP.c_at<|LP.args_cons LP.c_at LP.args_nil) (show 7<=aO by decide) ?_)
 unfold aL;walk_at "st";exact⟨by decide,eV (by simp;omega),eV (by simp;omega),h⟩;unfold aL;walk_at "st";exact⟨by decide,eV (by simp;omega),h⟩;unfold aL;walk_at "st";exact h;unfold aL;walk_at "st";exact h;dsimp only;walk_at "st";refine⟨by decide,jv (n:=9) (by decide) (by decide) λj hj=>?_⟩;obtain ⟨d,hd,i,hi,rfl⟩:=AX (P:=λd=>∃ i:Nat,i < 7/\d = .int i) (xs:=[D.int 0,D.int 0,D.int 0,D.int 1,D.int 2,D.int 3,D.int 4,D.int 5,D.int 6]) (k:=j) (by
  intro x hx;simp only[Yao,da,or_false]at hx;rcases hx with rfl|rfl|rfl|rfl|rfl|rfl|rfl|rfl|rfl
  .exact⟨0,by decide,rfl⟩
  .exact⟨0,by decide,rfl⟩
  .exact⟨0,by decide,rfl⟩
  .exact⟨1,by decide,rfl⟩
  .exact⟨2,by decide,rfl⟩
  .exact⟨3,by decide,rfl⟩
  .exact⟨4,by decide,rfl⟩
  .exact⟨5,by decide,rfl⟩
  .exact⟨6,by decide,rfl⟩) hj
 refine⟨_,hd,?_⟩;obtain ⟨d,hd',hgd⟩:=AX (P:=λd=>kd d=true/\jV n d=false) (xs:=[D.tup<|aV (r.map D.int) none (some (k:Int))++[odd]++aV (r.map D.int) (some<|(k:Int)+1) none,D.tup<|r.map D.int++[D.int 0],D.tup<|aV (r.map D.int) (some 1) none,D.lst<|r.map D.int,D.non,D.int 0,D.dic]) (k:=i) (by
  intro x hx;simp only[Yao,da,or_false]at hx;rcases hx with rfl|rfl|rfl|rfl|rfl|rfl|rfl
  .refine⟨ju (by simp;omega) λx hx=>?_,Oi (d:=odd) (by simp) ho2⟩
   simp only[Yap,Yao,da,or_false]at hx;rcases hx with(hx|rfl)|hx
   .exact hks x (B.mem_cut hx)
   .exact ho1
   .exact hks x (B.mem_cut hx)
  .refine⟨ju (by simp;omega) λx hx=>?_,IG (by simp;omega)⟩
   simp only[Yap,Yao,da,or_false]at hx;rcases hx with hx|rfl
   .exact hks x hx
   .rw[kd]
  .exact⟨ju (by omega) λx hx=>hks x<|B.mem_cut hx,IG l3⟩
  .exact⟨CL (by simp;omega) hks,rfl⟩
  .exact⟨by rw[kd],rfl⟩
  .exact⟨by rw[kd],rfl⟩
  .exact⟨by rw[kd],rfl⟩) (by simpa using hi)
 exact⟨_,hd',q d hgd⟩
theorem AY:kd (.int 0)=true:=by rw[kd]
theorem IH:kd .non=true:=by rw[kd]
theorem sz0:cJ 300 (.int 0)=true:=by decide +kernel
theorem Ol:Rd AV Ey Zc3:=by
 rintro _ E Q ⟨⟨⟨s,n⟩,r⟩,rfl,⟨h,hr⟩,q⟩;dsimp only at h hr q;have n1:=h.n1;have n5:=h.n5;have rl:=hr.len;show Ey E _ [.d<|aL s,.d<|aL r,.un,.un,.un,.un];unfold Ey;refine bH<|LP.set_by (d:=uW<|eW s n) (ρ':=[.d<|aL s,.d<|aL r,.d<|uW<|eW s n,.un,.un,.un]) (by rfl) (λP hP=>?_) ?_
 .walk_at "st"
  exact yk h hP
 dsimp only;cases ew:eW s n with
 |cons k l=>
  obtain⟨k1,kn,_⟩:=AS h ew;have k5:k<=5:=by omega
  refine bH<|eU (b:=true) (λP hP=>?_) (λ_=>?_) λe=>nomatch e
  .walk_at "st"
   exact⟨rfl,hP⟩
  .refine LP.ret_by (d:=.bl true) (λP hP=>?_) q
   walk_at "st";refine⟨by decide,by decide,?_⟩;have told:∀w:Nat,w<2->gE (jX w (aL s) .non<|.int 0)=.tup [.str "strong",.int k]:=λw hw=>by
    have:jX w (aL s) .non (.int 0)=.error (kU k):=by
     unfold jX rS u3;rw[gH h,gH h,dP,h.sN,t9 ew,t9 ew];split
     .rfl
     .rw[if_pos<|by omega]
    rw[this,Ob k1 k5]
   rw[show(2:Int).toNat=2 from rfl,nQ];refine jR (g:=λj:Nat=>D.int (j:Int)) (f:=λ_=>D.tup [.str "strong",.int k]) (List.range 2) (λw hw Q hq=>?_) .un [] (eV<|by simp) ?_
   .rw[Yah]at hw
    walk_at "st";refine yE h.kd IH AY sz0 ?_;rw[told w hw];exact hq
   .have ok2:dm (.lst [D.tup [.str "strong",.int k],D.tup [.str "strong",.int k]]) 60=true:=FP (n:=59) λx hx=>by
     simp only[Yao,da,or_false]at hx;rcases hx with rfl|rfl<;>exact wZ (n:=58) λy hy=>by
      simp only[Yao,da,or_false]at hy;rcases hy with rfl|rfl
      .decide +kernel
      .exact zS _ _
    exact⟨by decide,by decide,by decide,by decide,by decide,uA ok2 hP⟩
 |nil=>
 have g:=(qU h).mp ew;have e:=g.full h;generalize hF:(List.range n).map (λk=>aG<|solF (cor s n<|k+1) (k+1) r)=F;have FL:F.length=n:=by rw[<-hF];simp
 have Fl:dN F (-1)=some (aG<|solF s n r):=by
  rw[<-hF];obtain⟨m,rfl⟩:∃m,n=m+1:=⟨n-1,by omega⟩
  rw[rc,gL];have:List.map (λk=>aG<|solF (cor s (m+1)<|k+1) (k+1) r) [m]=[aG<|solF s (m+1) r]:=by rw[c6,hZ,Af h]
  rw[this];exact Eb
 have zr:=AK h e hr.at;have sl:=nW (s:=s) (n:=n) r;have bx1:B.C.bx 7 (aG<|solF s n r) 3=true:=B.C.bx_row (by omega) λy hy=>(zr y hy).mono (by decide);have bxF:B.C.bx 7 (.lst F) 3=true:=by
  refine B.C.bx_lst (n:=2) (by omega) λx hx=>?_;rw[<-hF]at hx;obtain⟨k,hk,rfl⟩:=YbT.mp hx;rw[Yah]at hk;have c:=gA h (show 1<=k+1 by omega) (show k+1<=n by omega);exact B.C.bx_rowq (n:=0) (by decide) (by rw[nW];omega) λy hy=>(AK c ((g.cor h (show 1<=k+1 by omega) (show k+1<=n by omega)).full c) hr.at y hy).mono (by decide)
 have dlF:dl (.lst F)=true:=by
  refine B.dl_lst λx hx=>?_;rw[<-hF]at hx;obtain⟨k,hk,rfl⟩:=YbT.mp hx;exact L8 _
 refine bH<|eU (b:=false) (λP hP=>?_) (λe=>nomatch e) λ_=>?_
 .walk_at "st"
  exact⟨rfl,hP⟩
 dsimp only;refine bH<|LP.own_by (xs:=F) (ρ':=[.d<|aL s,.d<|aL r,.d .non,.ow F,.un,.un]) (by rfl) (λP hP=>?_) ?_
 .unfold aL
  walk_at "st";rw[bQ,rl];refine⟨by omega,?_⟩;have el:rng 1 ((n:Int)+1-1).toNat=(List.range n).map λ(j:Nat)=>D.int ((j+1:Nat):Int):=by
   unfold rng;rw[show((n:Int)+1-1).toNat=n by omega];exact hJ λj _=>by simp;omega
  rw[el];refine jR (g:=λj:Nat=>D.int ((j+1:Nat):Int)) (f:=λk=>aG<|solF (cor s n<|k+1) (k+1) r) (List.range n) (λj hj Q hq=>?_) .un [] (eV (by simp;omega)) (by rw[eY,hF];exact hP);rw[Yah]at hj;have c:=gA h (show 1<=j+1 by omega) (show j+1<=n by omega);have ct:aV (r.map D.int) none (some ((j+1:Nat):Int))=(r.take<|j+1).map D.int:=by
   unfold aV;rw[HT.sIx_none,HT.sIx_nat,bQ,pZ,Nat.sub_zero,mM<|by omega,mj]
  walk_at "st";refine Ir h (show 1<=j+1 by omega) (show j+1<=n by omega) ?_;walk_at "st";rw[ct];refine Iq c (by rw[gj];omega) (λy hy=>by have:=hr.b y (mO hy);show _<1024;omega) ?_;unfold ma;rw[if_pos<|(g.cor h (show 1<=j+1 by omega) (show j+1<=n by omega)).full c,NS];exact hq
 dsimp only;refine B.C.pub_by (ρ':=[.d<|aL s,.d<|aL r,.d .non,.d<|.lst F,.un,.un]) rfl ?_;refine bH<|eU (b:=false) (λP hP=>?_) (λe=>nomatch e) λ_=>?_
 .walk_at "st"
  refine yE (w:=0) h.kd (hr.kd n5) AY sz0 ?_;have:jX 0 (aL s) (aL r) (.int 0)=.ok (aG<|solF s n r):=by
   show rS (aL s) (aL r)=_;unfold rS;rw[gH h,dP,h.sN,pW h g,dP];unfold jw;rw[if_pos<|yh hr]
  rw[this];exact B.C.repr_bx bx1 (B.C.dl_rowq _) ⟨_,Fl,B.C.repr_bx bx1 (B.C.dl_rowq _)<|G4 hP⟩
 dsimp only;refine B.C.pub_by (ρ':=[.d<|aL s,.d<|aL r,.d .non,.d<|.lst F,.un,.un]) rfl ?_;refine G.seq_inv (λρ=>∃s4 s5,ρ=[.d<|aL s,.d<|aL r,.d .non,.d<|.lst F,s4,s5]) (λnx hnx=>?_) ?_
 .simp only[bK,bN]
  walk_at "st";refine⟨by decide,by decide,?_⟩;refine uJ (λ_ ρ=>∃s4 s5,ρ=[.d<|aL s,.d<|aL r,.d .non,.d<|.lst F,s4,s5]) 2 ?_ (λρ h=>hnx ρ h) _ ⟨_,_,rfl⟩;rintro k hk _ ⟨s4,s5,rfl⟩ nx2 hnx2;show aI _ _ _ _ [.d<|aL s,.d<|aL r,.d .non,.d<|.lst F,.d<|.int k,s5];refine bH<|B.C.own_by (xs:=F) (ρ':=[.d<|aL s,.d<|aL r,.d .non,.d<|.lst F,.d<|.int k,.ow F]) (by rfl) (λP hP=>?_) ?_
  .simp only[aF,aC,aA,wN,dv,eZ]
   exact⟨s,n,r,rfl,h,g,hr,by rw[hF];exact hP⟩
  dsimp only;refine B.C.pub_by (ρ':=[.d<|aL s,.d<|aL r,.d .non,.d<|.lst F,.d<|.int k,.ow F]) rfl ?_;refine bH<|eU (b:=false) (λP hP=>?_) (λe=>nomatch e) λ_=>?_
  .walk_at "st"
   exact B.C.repr_bx bxF dlF<|B.C.repr_bx bxF dlF (G4 hP)
  dsimp only;exact Io (d:=.int 0) (ρ':=[.d<|aL s,.d<|aL r,.d .non,.d<|.lst F,.d<|.int k,.ow<|F++[.int 0]]) rfl (by rw[FL];unfold aO;omega) rfl (λP hP=>hP)<|hnx2 _ ⟨_,_,rfl⟩
 rintro _ ⟨s4,s5,rfl⟩;refine B.C.pub_by (ρ':=[.d<|aL s,.d<|aL r,.d .non,.d<|.lst F,s4,s5]) rfl ?_;refine LP.ret_by (d:=.bl true) (λP hP=>?_) q;walk_at "st";refine⟨_,Fl,?_⟩;refine⟨(aL s,aL r,aG<|solF s n r),rfl,⟨h.kd,hr.kd n5,w6<|by omega,ZeZ.mpr λy hy=>(zr y hy).mono<|by decide⟩,?_⟩;show exQ _ _ (ge (aL s) _);dsimp only;rw[gH h,dP,h.sN,dP];unfold jw;rw[if_pos<|yh hr,NR h e rl,O7 rfl];exact⟨rfl,hP⟩
theorem yF{x:D}(h:iy (n:Int) x=true):∃r:List Rat,x=aG r/\r.length=n:=by obtain⟨r,e,l⟩:=CQ h;exact⟨r,e,by omega⟩
theorem Om{r:List Int}{t:D}(h:IsSl s n)(hr:IsR r n):rT (aL s) (aL r) t=.ok (.bl<|gh s n t<|bW r):=by unfold rT;rw[gH h,dP,h.sN,dP];unfold jw;rw[if_pos<|yh hr]
theorem II{E:Ex->Prop}{r:List Int}{t:D}(h:IsSl s n)(hr:IsR r n)(h3:kd t=true)(h4:cJ 300 t=true)(q:Q (.bl<|gh s n t<|bW r)):ub [aL s,aL r,t] E Q:=
 xS.ok (aL s,aL r,t) rfl ⟨h.kd,hr.kd h.n5,h3,h4⟩ (Om h hr) q
theorem On:Rd yC Ez Zhc:=by
 rintro _ E Q ⟨⟨s,n⟩,rfl,h,q⟩;dsimp only at h q;have n1:=h.n1;have n5:=h.n5;show Ez E _ [.d<|aL s,.d .pen,.un,.un,.un,.un,.un,.un,.un,.un,.un];unfold Ez;refine bH<|LP.set_by (d:=.int n) (ρ':=[.d<|aL s,.d .pen,.d<|.int n,.un,.un,.un,.un,.un,.un,.un,.un]) (by rfl) (λP hP=>size_w h hP) ?_;dsimp only;refine bH<|LP.set_rl (λd=>∃g:Nat,g<=1000/\d=.int g) (λP hP=>?_) ?_
 walk_at "st";refine⟨by decide,jv (n:=3) (by decide) (by decide) λj hj=>?_⟩;obtain ⟨d,hd,hgd⟩:=AX (P:=λd=>∃ g:Nat,g<=1000/\d = .int g) (xs:=[D.int 5,D.int 5,D.int 1000]) (k:=j) (by
  intro x hx;simp only[Yao,da,or_false]at hx;rcases hx with rfl|rfl|rfl
  .exact⟨5,by decide,rfl⟩
  .exact⟨5,by decide,rfl⟩
  .exact⟨1000,by decide,rfl⟩) hj
 exact⟨_,hd,hP d hgd⟩;rintro _ ⟨g,hg,rfl⟩;dsimp only;refine bH<|LP.set_rl (λd=>∃r,d=aL r/\IsR r n) (λP hP=>?_) ?_
 walk_at "st";refine⟨by omega,by omega,?_⟩;refine FJ (R:=λ_ y=>∃i:Int,y=.int i/\-1000<=i/\i<=1000) (λd _ Q hq=>?_) .un [] (eV (by unfold rng;simp;omega)) λys hl hy=>?_;walk_at "st";have e2:((2:Int)*(g:Int)+1)=((2*g+1:Nat):Int):=by omega
 refine⟨⟨B.C.bd_of (b:=3) (by decide)<|by decide,B.C.bd_of (b:=11) (by show(g:Int).natAbs<2048;omega)<|by decide⟩,?_⟩;rw[e2];refine jv (n:=2*g+1) (by omega) (by omega) λk hk=>?_;walk_at "st";exact hq _ ⟨_,rfl,by omega,by omega⟩;rw[eY];have hyl:ys.length=n:=by rw[hl];unfold rng;simp
 have:∃r:List Int,ys=r.map D.int/\∀x∈r,-1000<=x/\x<=1000:=by
  clear hl hyl;induction ys with
  |nil=>exact⟨[],rfl,by simp⟩
  |cons y ys ih=>
   obtain⟨r,rfl,hr⟩:=ih λz hz=>hy z (by simp[hz]);obtain⟨_,_,i,rfl,hi⟩:=hy y (by simp);refine⟨i::r,rfl,λx hx=>?_⟩;rcases Yao.mp hx with rfl|hx
   exact hi;exact hr x hx
 obtain⟨r,rfl,hr⟩:=this;walk_at "st";exact hP _ ⟨r,rfl,by rw[bQ]at hyl;exact hyl,hr⟩;rintro _ ⟨r,rfl,hr⟩;dsimp only;have rl:=hr.len;refine bH<|eU (b:=false) (λP hP=>?_) (λe=>nomatch e) λ_=>?_
 walk_at "st";exact Od h hr hP;dsimp only;refine bH<|LP.set_rl (λd=>∃p:List Rat,d=aG p/\p.length=n/\∀x∈p,Sz 72 x) (λP hP=>?_) ?_
 walk_at "st";exact Lz n5 λp l z=>hP _ ⟨p,rfl,l,z⟩;rintro _ ⟨p,rfl,pl,pz⟩;dsimp only;have kp:kd (aG p)=true:=w6 (by omega);have zp:cJ 300 (aG p)=true:=ZeZ.mpr λy hy=>(pz y hy).mono (by decide);refine bH<|LP.set_by (d:=aG<|bC s n p) (ρ':=[.d<|aL s,.d .pen,.d<|.int n,.d<|.int g,.d<|aL r,.d<|aG p,.d<|aG<|bC s n p,.un,.un,.un,.un]) (by rfl) (λP hP=>?_) ?_
 walk_at "st";exact HM h pl (λy hy=>(pz y hy).mono<|by decide) hP;dsimp only;have tl:=t7 (s:=s) (n:=n) p;let ok:Rat->Bool:=λx=>decide (x.den=1)&&decide (x.num.natAbs<1001);refine G.seq_inv (λρ=>ρ=[.d<|aL s,.d .pen,.d<|.int n,.d<|.int g,.d<|aL r,.d<|aG p,.d<|aG<|bC s n p,.un,.un,.un,.un]) (λnx hnx=>?_) ?_;refine eU (b:=(bC s n p).all ok) (λP hP=>?_) (λeb=>?_) λ_=>hnx _ rfl;unfold aG;walk_at "st";refine jR (g:=aR) (f:=λx=>D.bl<|ok x) (bC s n p) (λx hx Q hq=>?_) .un [] (eV (by simp;omega)) ?_;refine B.C.and_by (b:=decide (x.den=1)) (λP hP=>?_) (λe1=>?_) (λe1=>?_);unfold aR;walk_at "st";refine⟨_,bE (j:=1) rfl,?_⟩;rw[kM,show(((x.den:Nat):Int)==1)=decide (x.den=1) from by rw[j8,Po,O6];omega];exact hP;unfold aR;walk_at "st";refine⟨_,bE (j:=0) rfl,?_⟩;have:ok x=decide (x.num.natAbs<1001):=by show(decide (x.den=1)&&_)=_;rw[e1,p7]
 rw[this]at hq;walk_at "st";have e3:decide ((if x.num<0 then -x.num else x.num)<1001)=decide (x.num.natAbs<1001):=decide_eq_decide.mpr (by split<;>omega);rw[<-e3]at hq;exact hq;have:ok x=false:=by show(decide (x.den=1)&&_)=false;rw[e1,rW]
 rw[this]at hq;exact hq;rw[eY];exact⟨(bC s n p).map ok,by rw[du];rfl,by rw[u9];exact hP⟩;refine eU (b:=false) (λP hP=>?_) (λe=>nomatch e) λ_=>hnx _ rfl;have all1:∀x∈bC s n p,x.den=1/\x.num.natAbs<1001:=λx hx=>by have:=Ybf.mp eb x hx;have:(decide (x.den=1)&&decide (x.num.natAbs<1001))=true:=this;rw[cV,O6,O6]at this;exact this
 have hu:IsR ((bC s n p).map (·.num)) n:=⟨by rw [bQ];exact tl,λy hy=>by
  obtain⟨x,hx,rfl⟩:=YbT.mp hy;have:=(all1 x hx).2;omega⟩
 have cu:bW ((bC s n p).map (·.num))=bC s n p:=by unfold bW;rw[du];refine(hJ λx hx=>?_).trans (y2 _);show((x.num:Int):Rat)=x;exact Rat.ext rfl (all1 x hx).1.symm
 have mk:gh s n (aG p) (bW ((bC s n p).map (·.num)))=true:=by unfold gh;have:=zZ p;rw[pl]at this;rw[this,qM,cu];simp
 unfold aG;walk_at "st";refine jR (g:=aR) (f:=λx=>D.int x.num) (bC s n p) (λx hx Q hq=>?_) .un [] (eV (by simp;omega)) ?_;unfold aR;walk_at "st";exact⟨_,bE (j:=0) rfl,hq⟩;rw[eY];walk_at "st";have:=II (E:=E) (Q:=λd=>gIsC true d (.bl true)<|isB P) h hu kp zp (by rw[mk];exact⟨rfl,hP⟩);unfold aL aG at this;rw[du]at this;exact this;rintro _ rfl;refine G.seq_inv (λρ=>∃s7 s8 s9,ρ=[.d<|aL s,.d .pen,.d<|.int n,.d<|.int g,.d<|aL r,.d<|aG p,.d<|aG<|bC s n p,s7,s8,s9,.un]) (λnx hnx=>?_) ?_;simp only[bK];have kint:kd (aL r)=true:=hr.kd n5;have zint:cJ 300 (aL r)=true:=by
  unfold aL;rw[cJ];have:∀l:List Int,(∀x∈l,-1000<=x/\x<=1000)->dQ 300 (l.map D.int)=true:=λl=>by
   induction l with
   |nil=>intro _;rfl|cons a l ih=>intro hl;have ha:=hl a (by simp);rw[c6,dQ,ih λx hx=>hl x<|by simp[hx],cJ,O7 (show a.natAbs<2^300 from jD (show a.natAbs<=1000 by omega) (by decide))];rfl
  exact this r hr.b
 have zm:∀{d:D},cJ 223 d=true->cJ 300 d=true:=λhd=>Ip (by decide) hd;simp only[bN];walk_at "st";refine HN (by omega) (by omega) (λy hy=>(pz y hy).mono<|by decide) λd1 a1 b1=>?_;refine HN (by omega) (by omega) (λy hy=>(pz y hy).mono<|by decide) λd2 a2 b2=>?_;refine⟨by decide,by decide,?_⟩;have all4:∀d∈[aG p,d1,d2,D.tup [aL r,aL r]],kd d=true/\cJ 300 d=true:=λd hd=>by
  simp only[Yao,da,or_false]at hd;rcases hd with rfl|rfl|rfl|rfl
  exact⟨kp,zp⟩;exact⟨a1,zm b1⟩;exact⟨a2,zm b2⟩;refine⟨ju (by simp) λx hx=>?_,?_⟩;simp only[Yao,da,or_false]at hx;rcases hx with rfl|rfl<;>exact kint
  rw[cJ,dQ,dQ,dQ,zint];rfl
 refine Dd (λρ=>∃s7 s8 s9,ρ=[.d<|aL s,.d .pen,.d<|.int n,.d<|.int g,.d<|aL r,.d<|aG p,.d<|aG<|bC s n p,s7,s8,s9,.un]) _ ?_ (λρ h=>hnx ρ h) _ ⟨_,_,_,rfl⟩;rintro d hd _ ⟨s7,s8,s9,rfl⟩ nx2 hnx2;obtain⟨kD,zD⟩:=all4 d hd;show aI _ _ _ _ [.d<|aL s,.d .pen,.d<|.int n,.d<|.int g,.d<|aL r,.d<|aG p,.d<|aG<|bC s n p,.d d,s8,s9,.un];refine bH<|LP.set_by (d:=.bl<|gh s n d<|bW r) (ρ':=[.d<|aL s,.d .pen,.d<|.int n,.d<|.int g,.d<|aL r,.d<|aG p,.d<|aG<|bC s n p,.d d,.d<|.bl<|gh s n d<|bW r,s9,.un]) (by rfl) (λP hP=>?_) ?_
 refine B.C.and_by (b:=iy n d) (λP hP=>?_) (λer=>?_) (λer=>?_);walk_at "st";exact MT kD zD hP;obtain⟨x,rfl,xl⟩:=yF er;have xz:∀y∈x,Sz 300 y:=ZeZ.mp zD;walk_at "st";refine HM h xl xz ?_;refine jR (g:=D.int) (f:=λi:Int=>aR (i:Rat)) r (λi hi Q hq=>?_) .un [] (eV (by simp;omega)) ?_;walk_at "st";rw[tQ]at hq;exact⟨by decide,hq⟩;rw[eY];have e1:D.tup (r.map λi:Int=>aR (i:Rat))=aG (bW r):=by unfold aG bW;rw[du];rfl
 rw[e1];refine wY (zT _ 58) (zT _ 58) ?_;rw[Ho];have:gh s n (aG x) (bW r)=decide (bC s n x=bW r):=by unfold gh;rw[er,qM,p7]
 rw[this]at hP;exact hP;have:gh s n d (bW r)=false:=by unfold gh;rw[er,rW]
 rw[this]at hP;exact hP;dsimp only;refine bH<|LP.set_by (d:=.bl<|gh s n d<|bW r) (ρ':=[.d<|aL s,.d .pen,.d<|.int n,.d<|.int g,.d<|aL r,.d<|aG p,.d<|aG<|bC s n p,.d d,.d<|.bl<|gh s n d<|bW r,.d<|.bl<|gh s n d<|bW r,.un]) (by rfl) (λP hP=>?_) ?_
 walk_at "st";exact II h hr kD zD hP;dsimp only;refine eU (b:=false) (B.C.or_by (b:=false) (c:=false) (λP hP=>?_)<|λP hP=>?_) (λe=>nomatch e) λ_=>hnx2 _ ⟨_,_,_,rfl⟩;walk_at "st";exact qN (by rw[kd]) (by decide) λt ht=>by cases ht;exact hP
 walk_at "st";exact uA (KP _ _) hP;rintro _ ⟨s7,s8,s9,rfl⟩;refine bH<|LP.set_rl (λd=>kd d=true/\jV n d=false) (λP hP=>?_) ?_
 walk_at "st";exact Oc n1 n5 hr λd a b=>hP _ ⟨a,b⟩;rintro bad ⟨kb,wb⟩;dsimp only;have wb':¬jV n bad=true:=by rw[wb];decide
 have row:gE (.error "NoRow")=.str "row" :=ID (by simp);refine bH<|eU (b:=false) (λP hP=>?_) (λe=>nomatch e) λ_=>?_
 cases ew:eW s n with
 |cons k l=>walk_at "st";refine yk h ?_;rw[ew];exact⟨rfl,hP⟩
 |nil=>
  have gg:=(qU h).mp ew;walk_at "st";refine yk h ?_;rw[ew];refine⟨rfl,?_⟩;refine⟨by decide,by decide,?_⟩;have told:∀w:Nat,w<2->gE (jX w (aL s) bad<|.int 0)=.str "row" :=λw hw=>by
   have:jX w (aL s) bad (.int 0)=.error "NoRow" :=by unfold jX rS u3;rw[gH h,gH h,dP,h.sN,pW h gg,pW h gg];unfold jw;rw[if_neg wb',if_neg wb'];split;rfl;rw[if_pos<|by omega]
   rw[this,row]
  rw[show(2:Int).toNat=2 from rfl,nQ];refine jR (g:=λj:Nat=>D.int (j:Int)) (f:=λ_=>D.str "row") (List.range 2) (λw hw Q hq=>?_) .un [] (eV<|by simp) ?_;rw[Yah]at hw;walk_at "st";refine yE h.kd kb AY sz0 ?_;rw[told w hw];exact hq;exact⟨by decide,by decide,by decide,by decide,uA (by decide +kernel) hP⟩
 dsimp only;refine LP.ret_by (d:=.bl true) (λP hP=>?_) q;walk_at "st";refine yE (w:=2) h.kd kb kp zp ?_;have:jX 2 (aL s) bad (aG p)=.error "NoRow" :=by show rT (aL s) bad (aG p)=_;unfold rT;rw[gH h,h.sN];unfold jw;rw[if_neg wb']
 rw[this,row];exact uA (by decide +kernel) hP
noncomputable abbrev Eg:List Str:=["_law_slants", "_law_right_here", "_law_size", "_law_rows", "_law_i", "_law_place", "_law_good", "_law_top", "_law_bottom", "_law_at", "_law_part"]
abbrev Oo:List Str:=["_law_slants", "_law_right_here"]
theorem rd__law_solved:Rd t8 AR Eg:=λds E Q h=>G.V9.rd__law_solved ds E Q h
theorem Op:Rd yD AW IF:=by
 rintro _ E Q ⟨xs,rfl,hx,q⟩;dsimp only at hx q;show AW E _ [.d<|.scr<|xs.map .int,.un,.un,.un,.un];generalize hS:D.scr (xs.map .int)=S;unfold AW;refine bH ?_;simp only[bK];have ec:∃cs:List Int,aV (xs.map D.int) (some 1) (some 4)=cs.map D.int/\cs.length<=63:=by
  refine⟨aV xs (some 1)<|some 4,?_,?_⟩
  .unfold aV
   rw[bQ,mj,p9]
  .unfold aV
   rw[gj,iD];omega
 obtain⟨cs,ec,hcs⟩:=ec;refine LP.for_seq (xs:=(xs.getD 0 0::cs).map D.int) (λP h=>?_) ?_
 .subst hS
  walk_at "st";refine Lx (i:=0) ?_;walk_at "st";rw[ec];exact⟨by decide,by simp[aO];omega,h⟩
 clear ec hcs;refine Dd (λρ=>∃s1 s2 s3 s4,ρ=[.d S,s1,s2,s3,s4]) _ ?_ ?_ _ ⟨_,_,_,_,rfl⟩
 rotate_left
 .rintro _ ⟨s1,s2,s3,s4,rfl⟩
  exact q
 rintro d hd _ ⟨s1,s2,s3,s4,rfl⟩ nx hnx;obtain⟨c,_,rfl⟩:=YbT.mp hd;clear hd;show aI _ _ _ _ [.d S,.d<|.int c,s2,s3,s4];refine bH<|LP.set_by (d:=.pen) (ρ':=[.d S,.d<|.int c,.d .pen,s3,s4]) (by rfl) (λP h=>?_) ?_
 .walk_at "st"
  exact Ly h
 dsimp only;refine bH<|LP.set_rl (λd=>∃s n,d=aL s/\IsSl s n) (λP h=>?_) ?_
 .walk_at "st"
  exact GH λs n hs=>h _ ⟨s,n,rfl,hs⟩
 rintro _ ⟨s,n,rfl,h⟩;dsimp only;show aI _ _ _ _ [.d S,.d<|.int c,.d .pen,.d<|aL s,s4];refine bH<|eU (b:=false) (B.C.or_by (b:=false) (c:=false) (λP hP=>?_)<|λP hP=>?_) (λe=>nomatch e) λ_=>?_
 .walk_at "st"
  exact IE h hP
 .walk_at "st"
  exact NH λs' n' h' _=>IE h' hP
 dsimp only;refine bH<|LP.set_rl (λd=>kd d=true) (λP hP=>?_) ?_
 .walk_at "st"
  exact LM h λd hd=>hP d hd
 intro bad kb;dsimp only;show cQ _ _ _ _ _ [.d S,.d<|.int c,.d .pen,.d<|aL s,.d bad];refine eU (b:=false) (λP hP=>?_) (λe=>nomatch e) λ_=>hnx _ ⟨_,_,_,_,rfl⟩;cases eb:fo bad with
 |true=>walk_at "st";refine GQ kb ?_;rw[eb];exact hP
 |false=>
  walk_at "st";refine GQ kb ?_;rw[eb];have told:∀w:Nat,gE (jX w bad .non<|.int 0)=.str "slants" :=λw=>by
   have:jX w bad .non (.int 0)=.error "NoSlants" :=by
    unfold jX rS u3 rT;rw[lv eb,lv eb,lv eb];split
    .rfl
    .split<;>rfl
   rw[this];exact ID (by simp)
  refine⟨by decide,by decide,?_⟩;rw[show(3:Int).toNat=3 from rfl,nQ];refine jR (g:=λj:Nat=>D.int (j:Int)) (f:=λ_=>D.str "slants") (List.range 3) (λw hw Q hq=>?_) .un [] (eV<|by simp) ?_
  .walk_at "st"
   refine yE kb IH AY sz0 ?_;rw[told w];exact hq
  .exact⟨by decide,by decide,by decide,by decide,uA (by decide +kernel) hP⟩
theorem Oq{ns:List Int}(hl:ns.length<=63)(hO:qB H)(hS:SqL K H a (ns.map V.int)):gT K yD [.ref a] H (λv _=>v=.bl true) λ_ _ _=>False:=by
 have rv:∀W:Wd,Reps K W (ns.map V.int) (ns.map D.int):=λW=>by
  clear hl hS;induction ns with
  |nil=>exact .nil|cons n ns ih=>exact .cons (.int n) ih
 have ok:WOk ⟨H,λ_=>False⟩ H:=⟨λ_ _ e=>e,λ_ e=>e.elim⟩;refine⟨[.scr<|ns.map .int],⟨H,λ_=>False⟩,ok,.cons (.scr ?_<|rv _) .nil,ns,rfl,hl,λv W' H' _ r=>?_⟩;rcases hS with(h|h)|h
 rcases hO a with z|⟨o,xs,z⟩
 rw[h]at z;cases z;rw[h]at z;cases z;exact .inl h;exact .inr h;cases r;rfl
def top(i:Nat):Stmt:=PySem.Challenge.pw_slanttables_k18_right_sides.main.body.getD i<|.Pass ⟨0,0,0,0⟩
structure Bs(K:O3)(mg:Str->Option Value):Prop where
 aa:aX K mg "is_whole" (top 14)
 ab:aX K mg "is_within" (top 15)
 ac:aX K mg "are_within" (top 16)
 ad:aX K mg "common_divisor" (top 17)
 ae:aX K mg "is_share" (top 18)
 af:aX K mg "is_row_within" (top 19)
 ag:aX K mg "is_row" (top 20)
 ah:aX K mg "share_by" (top 21)
 ai:aX K mg "plus" (top 22)
 aj:aX K mg "minus" (top 23)
 ak:aX K mg "times" (top 24)
 al:aX K mg "by" (top 25)
 am:aX K mg "row_of" (top 26)
 an:aX K mg "row_by" (top 27)
 ao:aX K mg "row_less" (top 28)
 ap:aX K mg "sum_of_products" (top 29)
 aq:aX K mg "size_of" (top 36)
 ar:aX K mg "slants_good" (top 37)
 as:aX K mg "need_slants" (top 38)
 au:aX K mg "table_of" (top 39)
 av:aX K mg "corner" (top 40)
 aw:aX K mg "row_good" (top 41)
 ax:aX K mg "share_rows" (top 42)
 ay:aX K mg "times_row" (top 43)
 az:aX K mg "makes" (top 44)
 a0:aX K mg "need_whole_row" (top 45)
 a1:aX K mg "table_without" (top 47)
 a2:aX K mg "table_number" (top 48)
 a3:aX K mg "number_of" (top 49)
 a4:aX K mg "corner_numbers" (top 50)
 a5:aX K mg "weak_sizes" (top 51)
 a6:aX K mg "first_weak" (top 53)
 a7:aX K mg "need_strong" (top 54)
 a8:aX K mg "first_step" (top 55)
 a9:aX K mg "longer_step" (top 56)
 ba:aX K mg "steps_of" (top 57)
 bb:aX K mg "solved_steps" (top 58)
 bc:aX K mg "solved" (top 59)
 bd:aX K mg "solves" (top 60)
 be:aX K mg "_law_cell_at" (top 62)
 bf:aX K mg "_law_next" (top 63)
 bg:aX K mg "_law_pen_of" (top 64)
 bh:aX K mg "_law_draw" (top 65)
 bi:aX K mg "_law_whole" (top 66)
 bj:aX K mg "_law_kind_of" (top 67)
 bk:aX K mg "_law_share" (top 68)
 bl:aX K mg "_law_add" (top 69)
 bm:aX K mg "_law_times" (top 70)
 bn:aX K mg "_law_made" (top 71)
 bo:aX K mg "_law_slants_by" (top 72)
 bp:aX K mg "_law_row_by" (top 73)
 bq:aX K mg "_law_solved" (top 74)
 br:aX K mg "_law_unit" (top 75)
 bs:aX K mg "_law_corner" (top 76)
 bt:aX K mg "_law_weak" (top 77)
 bu:aX K mg "_law_strong_by" (top 78)
 bv:aX K mg "_law_no_slants" (top 79)
 bw:aX K mg "_law_slants_good" (top 80)
 bx:aX K mg "_law_no_row" (top 81)
 bz:aX K mg "_law_row_good" (top 82)
 b0:aX K mg "_law_told" (top 83)
 b1:aX K mg "_law_bad_right" (top 84)
 b2:aX K mg "_law_strong_right" (top 85)
 b3:aX K mg "_law_right" (top 86)
 b4:aX K mg "law" (top 87)
 b5:mg "len" = none
 b6:mg "int" = none
 b7:mg "list" = none
 b8:mg "max" = none
 b9:mg "abs" = none
 ca:mg "range" = none
 cb:mg "tuple" = none
 cd:mg "bool" = none
 ce:mg "isinstance" = none
 cf:mg "zip" = none
 cg:mg "ValueError" = none
 ch:CC K mg "NoLine"
 ci:CC K mg "NoNumber"
 cj:CC K mg "NoRow"
 ck:CC K mg "NoSlants"
 cl:CC K mg "NoText"
 cm:CC K mg "NotEven"
 cn:CC K mg "NotFull"
 co:CC K mg "NotStrong"
 cp:CC K mg "TooGreat"
 xi:XI K LX5 MX
 cq:mg "all" = none
 cr:CI mg "GREATEST_SIZE" (5)
 cs:CI mg "LEAST" (-50)
 ct:CI mg "MOST" (50)
 cu:XC K mg "NoSlants"
 cv:XC K mg "NoNumber"
 cw:mg "enumerate" = none
 cx:XK1 K mg "NotStrong" "NotStrong.__init__" "size" (El<|top 8)
 cy:CI mg "LEAST_IN_ROW" (-1000)
 cz:CI mg "MOST_IN_ROW" (1000)
 c0:XC K mg "NoRow"
 c1:CT K mg "ONE" [(D.int<|1),(D.int<|1)]
 c2:CT K mg "NOUGHT" [(D.int<|0),(D.int<|1)]
 c3:XT K mg "SlantError" LX5
 c4:mg "repr" = none
section
variable{w:World}(Z:Bs K mg)
include Z
theorem Os:Fp P w K mg base 1 "_law_cell_at" (Zfv.take 2) z8:=cL LC Z.be λsc hr hx hw=>aT (dB (dw nG (aD 1)<|cG fN Z.b5 Pf<|Za (aD 0) aH) (aY<|bF<|bI aQ (aD 0)<|aD 1) dA)<|aY (bF aK)
theorem IJ:Fp P w K mg base 1 "_law_next" (Ziu.take 1) xr:=cL LD Z.bf λsc hr hx hw=>aT (bM 0 (aW qG (aW cY (aD 0) aK) aK) sc)<|aY (bF<|aW qG (aW cY (aW cY (aW dO (aD 0)<|aD 0)<|aW dO aK<|aD 0) aK) aK)
theorem jx:Fp P w K mg base 2 "_law_draw" (Ziw.take 2) gW:=cL LF Z.bh λsc hr hx hw=>aT (dB (dw (cZ hr.units) (bI wW (aD 0) aK) aK) (aT (bM 2 (aW qG (bI wW (aD 0) aK)<|aD 1) sc)<|aT (FI 0 0<|aW lU (bI wW (aD 0) aK)<|aD 1)<|aY<|bF<|aD 2) dA)<|aT (FI 0 2<|aU (IJ Z) hr hx<|Za (aW cY (aU (IJ Z) hr hx<|Za (bI wW (aD 0) aK) aH) aK) aH) (aY<|bF<|aW qG (aW lU (bI wW (aD 0) aK) aK)<|aD 1)
theorem Ot:Fp P w K mg base 3 "_law_no_slants" (Zeu.take 2) Ad:=cL LV Z.bv λsc hr hx hw=>aT (bM 2 (aU (jx Z) hr hx<|Za (aD 0)<|Za (aW cY (cG fN Z.b5 Pf<|Za (aD 1) aH) aK) aH) sc)<|aT (bM 3 (bI aQ (PXL.px<|fe<|Za aK<|Za (ji jj aK)<|Za f8<|Za j3<|Za Zc<|Za (db<|Za aK aH)<|Za (aW zF aK aK) aH)<|aU (jx Z) hr hx<|Za (aD 0)<|Za aK aH) sc) (aT (bM 4 (PXL.px<|fe<|Za (aW cY (aW cY (aW cY (f9 (aD 1) iq<|ff<|aD 2)<|db<|Za (aD 3) aH)<|f9 (aD 1) (ff<|aW cY (aD 2) aK) iq)<|aW C3 (db<|Za (aD 3) aH)<|j4 Cr Z.b6 boot_int<|Za (lT (cZ hr.units) (aD 2)<|cG fN Z.b5 Pf<|Za (aD 1) aH) aH)<|Za (aW cY (aD 1)<|db<|Za aK aH)<|Za (PXL.px<|zC zI Z.b7 boot_list<|Za (aD 1) aH) aH) sc)<|aT (bM 4 (aW cY (aD 4)<|PXL.px<|fe<|Za (db aH)<|Za (aW C3 (db<|Za aK aH) aK)<|Za (aW C3 (db<|Za aK aH) aK)<|Za j3<|Za aK<|Za C4<|Za Zc<|Za (db<|Za (aD 1) aH)<|Za (f9 (aD 1) (ff aK) iq) aH) sc)<|aY<|bF<|bI aQ (aD 4)<|aU (jx Z) hr hx<|Za (aD 0)<|Za aK aH)
theorem Ou:Fp P w K mg base 1 "_law_pen_of" (Zgo.take 1) z9:=cL LE Z.bg λsc hr hx hw=>aT (bM 1 (cG (wS rfl) Z.b8 boot_max<|Za (aD 0)<|Za (aW fU aK<|aD 0) aH) sc)<|aY (bF<|KO<|fe<|Za (aD 1)<|Za (j4 Cr Z.b6 boot_int<|Za (lT Cp (aD 1)<|aW zF aK aK) aH)<|Za (aW qG (aD 1) aK) aH)
theorem Ov:Fp P w K mg base 3 "_law_bad_right" (Zev.take 2) AU:=cL Oj Z.b1 λsc hr hx hw=>aT (bM 2 (aU (jx Z) hr hx<|Za (aD 1)<|Za (cG fN Z.b5 Pf<|Za (aD 0) aH) aH) sc)<|aT (bM 3 (bI aQ (PXL.px<|fe<|Za aK<|Za (ji jj aK)<|Za f8<|Za j3<|Za Zc<|Za (db<|Za aK<|Za aK aH)<|Za (aW zF aK aK) aH)<|aU (jx Z) hr hx<|Za (aD 1)<|Za aK aH) sc) (aT (bM 4 (PXL.px<|fe<|Za (aW cY (aW cY (f9 (aD 0) iq<|ff<|aD 2)<|db<|Za (aD 3) aH)<|f9 (aD 0) (ff<|aW cY (aD 2) aK) iq)<|Za (aW cY (aD 0)<|db<|Za aK aH)<|Za (f9 (aD 0) (ff aK) iq)<|Za (PXL.px<|zC zI Z.b7 boot_list<|Za (aD 0) aH)<|Za j3<|Za aK<|Za C4 aH) sc)<|aY<|bF<|bI aQ (aD 4)<|bI aQ (PXL.px<|fe<|Za aK<|Za aK<|Za aK<|Za aK<|Za aK<|Za aK<|Za aK<|Za aK<|Za aK aH)<|aU (jx Z) hr hx<|Za (aD 1)<|Za aK aH)
theorem yG:Fp P w K mg base 1 "_law_share" (Zhb.take 2) qO:=cL LG Z.bk λsc hr hx hw=>aT (Cv 2 3 sc<|Za (cG Zp Z.b9 boot_abs<|Za (aD 0) aH)<|Za (cG Zp Z.b9 boot_abs<|Za (aD 1) aH) aH)<|aT (gU<|FH PassesOwn.never (dw (fD hr.units) (aD 3) aK)<|aY<|Cv 2 3 sc<|Za (aD 3)<|Za (aW qG (aD 2)<|aD 3) aH) (aT (dB (dw nG (aD 1) aK) (aY<|bM 2 (aW fU aK<|aD 2) sc) dA)<|aY<|bF<|db<|Za (aW lU (aD 0)<|aD 2)<|Za (aW lU (aD 1)<|aD 2) aH)
theorem IK:Fp P w K mg base 2 "_law_add" (Zjk.take 2) xu:=cL LH Z.bl λsc hr hx hw=>aY<|bF (aU (yG Z) hr hx<|Za (aW cY (aW dO (bI aQ (aD 0) aK)<|bI aQ (aD 1) aK)<|aW dO (bI aQ (aD 1) aK)<|bI aQ (aD 0) aK)<|Za (aW dO (bI aQ (aD 0) aK)<|bI aQ (aD 1) aK) aH)
theorem AZ:Fp P w K mg base 2 "_law_times" (Zha.take 2) tR:=cL LI Z.bm λsc hr hx hw=>aY<|bF (aU (yG Z) hr hx<|Za (aW dO (bI aQ (aD 0) aK)<|bI aQ (aD 1) aK)<|Za (aW dO (bI aQ (aD 0) aK)<|bI aQ (aD 1) aK) aH)
theorem IL:Fp P w K mg base 3 "_law_made" (Ziv.take 2) xU:=cL MV Z.bn λsc hr hx hw=>aT (bM 2 (aW lU (aW cY (cG fN Z.b5 Pf<|Za (aD 0) aH) aK) aK) sc)<|aT (nK 3 (fe aH) sc) (aT (gU<|iw PassesOwn.never rfl (kL Z.ca<|Za (aD 2) aH) (cD 4 sc)<|aT (bM 5 (db<|Za aK<|Za aK aH) sc)<|aT (gU<|iw PassesOwn.never rfl (kL Z.ca<|Za (aD 2) aH) (cD 6 sc)<|aY<|bM 5 (aU (IK Z) hr bU<|Za (aD 5)<|Za (aU (AZ Z) hr bU<|Za (db<|Za (bI aQ (aD 0)<|aW fU (aW cY (aW fU (aD 6)<|aD 4)<|aD 2) aK)<|Za aK aH)<|Za (bI aQ (aD 1)<|aD 6) aH) aH) sc)<|aY<|tH 3<|aD 5)<|lW 3<|aY<|bF<|j4 lV Z.cb Pj<|Za (aD 3) aH)
theorem IM:Fp P w K mg base 3 "_law_no_row" (Zgp.take 2) xV:=cL M1 Z.bx λsc hr hx hw=>aT (bM 2 (aU (jx Z) hr hx<|Za (aD 0)<|Za (cG fN Z.b5 Pf<|Za (aD 1) aH) aH) sc)<|aT (bM 3 (PXL.px<|fe<|Za (db<|Za aK<|Za aK aH)<|Za (db<|Za aK<|Za aK aH)<|Za (db<|Za aK<|Za (ji jj aK) aH)<|Za (db<|Za aK<|Za aK aH)<|Za (db<|Za f8<|Za aK aH)<|Za (db<|Za aK<|Za f8 aH)<|Za aK<|Za j3<|Za (PXL.px<|fe<|Za aK<|Za aK aH)<|Za Zc<|Za (db<|Za aK aH)<|Za (db<|Za aK<|Za aK<|Za aK aH) aH) sc) (aT (bM 3 (bI aQ (aD 3)<|aU (jx Z) hr hx<|Za (aD 0)<|Za aK aH) sc)<|aT (bM 4 (PXL.px<|fe<|Za (aW cY (aW cY (f9 (aD 1) iq<|ff<|aD 2)<|db<|Za (aD 3) aH)<|f9 (aD 1) (ff<|aW cY (aD 2) aK) iq)<|Za (aW cY (aD 1)<|db<|Za (aD 3) aH)<|Za (f9 (aD 1) (ff aK) iq)<|Za (aW cY (aD 1)<|f9 (aD 1) iq<|ff aK)<|Za (PXL.px<|zC zI Z.b7 boot_list<|Za (aD 1) aH)<|Za j3<|Za aK<|Za C4<|Za (db<|Za (aD 1) aH) aH) sc)<|aY<|bF<|bI aQ (aD 4)<|aU (jx Z) hr hx<|Za (aD 0)<|Za aK aH)
theorem Ow:Fp P w K mg base 3 "_law_row_by" (Zgn.take 2) Aa:=cL LJ Z.bp λsc hr hx hw=>aT (bM 2 (bI aQ (PXL.px<|fe<|Za aK<|Za aK<|Za aK<|Za aK<|Za aK<|Za aK<|Za aK<|Za (aW zF aK aK) aH)<|aU (jx Z) hr hx<|Za (aD 0)<|Za aK aH) sc)<|aT (nK 3 (fe aH) sc) (aT (gU<|iw PassesOwn.never rfl (kL Z.ca<|Za (aD 1) aH) (cD 4 sc)<|aY<|tH 3<|aU (yG Z) hr bU<|Za (aW dO (aW fU (aU (jx Z) hr bU<|Za (aD 0)<|Za aK aH) aK)<|aD 2)<|Za (aW cY aK<|aU (jx Z) hr bU<|Za (aD 0)<|Za aK aH) aH)<|lW 3<|aY<|bF<|j4 lV Z.cb Pj<|Za (aD 3) aH)
theorem EA:Fp P w K mg base 1 "_law_whole" (Zh.take 1) uI:=cL LR Z.bi λsc hr hx hw=>aY<|bF (qF (cG nI Z.ce O9<|Za (aD 0)<|Za (mx Z.b6 boot_int) aH)<|qE<|Fx<|cG nI Z.ce O9<|Za (aD 0)<|Za (mx Z.cd boot_bool) aH)
theorem Ox:Fp P w K mg base 2 "_law_row_good" (ZeV.take 2) AB:=cL MW Z.bz λsc hr hx hw=>aT (dB (PXW.pxt<|li (im<|hU<|cG nI Z.ce O9<|Za (aD 1)<|Za (mx Z.cb Pj) aH)<|ms<|dw (fD hr.units) (cG fN Z.b5 Pf<|Za (aD 1) aH)<|aD 0) (aY<|bF f8) dA)<|aT (gU<|iw PassesOwn.never rfl (jQ<|aD 1) (cD 2 sc)<|aT (dB (PXW.pxt<|li (im<|hU<|cG nI Z.ce O9<|Za (aD 2)<|Za (mx Z.cb Pj) aH)<|li (dw (fD hr.units) (cG fN Z.b5 Pf<|Za (aD 2) aH) aK)<|li (im<|hU<|aU (EA Z) hr bU<|Za (bI aQ (aD 2) aK) aH)<|ms<|im<|hU<|aU (EA Z) hr bU<|Za (bI aQ (aD 2) aK) aH) (aY<|bF f8) dA)<|aY<|dB (PXW.pxt<|li (dw nG (bI aQ (aD 2) aK) aK)<|ms<|dw (fD hr.units) (aU (yG Z) hr bU<|Za (bI aQ (aD 2) aK)<|Za (bI aQ (aD 2) aK) aH)<|aD 2) (aY<|bF f8) dA) (aY<|bF f8)
theorem IN:Fp P w K mg base 1 "_law_corner" (Zgq.take 2) uZ:=cL NK Z.bs λsc hr hx hw=>aT (bM 2 (aW fU (aW lU (aW cY (cG fN Z.b5 Pf<|Za (aD 0) aH) aK) aK)<|aD 1) sc)<|aY (bF<|f9 (aD 0) (ff<|aD 2)<|ff<|aW fU (cG fN Z.b5 Pf<|Za (aD 0) aH)<|aD 2)
theorem IO:Fp P w K mg base 3 "_law_solved" Oo t8:=cL rd__law_solved Z.bq λsc hr hx hw=>aT (bM 2 (aW lU (aW cY (cG fN Z.b5 Pf<|Za (aD 0) aH) aK) aK) sc)<|aT (nK 3 (fe aH) sc) (aT (gU<|iw PassesOwn.never rfl (kL Z.ca<|Za (aD 2) aH) (cD 4 sc)<|aY<|tH 3<|aW cY (PXL.px<|gw ["_law_j"] [0,2,4] rfl (kL Z.ca<|Za (aD 2) aH) (λ_ _ _=>(cD 0 (by decide +kernel:List.Nodup (["_law_j", "_law_slants", "_law_size", "_law_i"]:List Str)))) (λ_ _ _=>gb)<|λ_ _ _=>(db<|Za (bI aQ (aD 1)<|aW fU (aW cY (aW fU (aD 0)<|aD 3)<|aD 2) aK)<|Za aK aH))<|PXL.px<|fe<|Za (db<|Za (bI aQ (aD 1)<|aD 4)<|Za aK aH) aH)<|lW 6<|aT (gU<|iw PassesOwn.never rfl (kL Z.ca<|Za (aD 2) aH) (cD 5 sc)<|aT (L4 6 3 ["_law_at"] [3,5] rfl sc (wU Z.ca<|Za (aD 5)<|Za (aD 2) aH) (λ_ _ _=>(cD 0 (by decide +kernel:List.Nodup (["_law_at", "_law_rows", "_law_place"]:List Str)))) (λ_ _ _=>(FE<|dw (fD hr.units) (bI aQ (bI aQ (bI aQ (aD 1)<|aD 0)<|aD 2) aK) aK))<|λ_ _ _=>(aD 0))<|lW 6<|aT (dB (dw (cZ hr.units) (aD 6)<|PXL.px<|fe aH) (aY<|bF j3) dA)<|lW 6<|aT (Mc 3 (db<|Za (wV 3<|bI aQ (aD 6) aK)<|Za (wV 3<|aD 5) aH) (aD 5)<|bI aQ (aD 6) aK)<|aT (FG (Cz 3<|bI aQ (bI aQ (aD 3)<|aD 5)<|aD 5)<|lr rfl<|fP (cD 7 sc)<|fP (cD 8 sc) lj)<|aT (Zl 3 (aD 5)<|PXL.px<|gw ["_law_one"] [7,8] rfl (jQ<|wV 3<|aD 5) (λ_ _ _=>(cD 0 (by decide +kernel:List.Nodup (["_law_one", "_law_top", "_law_bottom"]:List Str)))) (λ_ _ _=>gb)<|λ_ _ _=>(aU (AZ Z) hr bU<|Za (aD 0)<|Za (aU (yG Z) hr bU<|Za (aD 2)<|Za (aD 1) aH) aH))<|aY<|gU<|iw PassesOwn.never rfl (kL Z.ca<|Za (aD 2) aH) (cD 9 sc)<|aY<|dB (dw (fD hr.units) (aD 9)<|aD 5) (aT (bM 10 (Cz 3<|aU (AZ Z) hr bU<|Za (bI aQ (bI aQ (aD 3)<|aD 9)<|aD 5)<|Za (db<|Za (ji jj aK)<|Za aK aH) aH) sc)<|aY<|Zl 3 (aD 9)<|PXL.px<|gw ["_law_one", "_law_two"] [10] rfl (Cy Z.cf<|Za (wV 3<|aD 9)<|Za (wV 3<|aD 5) aH) (λ_ _ _=>(lr rfl<|fP (cD 0 (by decide +kernel:List.Nodup (["_law_one", "_law_two", "_law_part"]:List Str)))<|fP (cD 1 (by decide +kernel:List.Nodup (["_law_one", "_law_two", "_law_part"]:List Str))) lj)) (λ_ _ _=>gb)<|λ_ _ _=>(aU (IK Z) hr bU<|Za (aD 0)<|Za (aU (AZ Z) hr bU<|Za (aD 2)<|Za (aD 1) aH) aH)) dA)<|lW 3<|aY<|bF<|j4 lV Z.cb Pj<|Za (PXL.px<|gw ["_law_row"] [2] rfl (jQ<|aD 3) (λ_ _ _=>(cD 0 (by decide +kernel:List.Nodup (["_law_row", "_law_size"]:List Str)))) (λ_ _ _=>gb)<|λ_ _ _=>(bI aQ (aD 0)<|aD 1)) aH)
theorem IP:CW P w K mg base 1 "_law_kind_of" (ZdN.take 1) yz:=DF (z:=Eu) (N:=ZdN) Z.bj (λsc _ _ _ _ _ _ hr=>(aT (bM 1 (PXL.px<|fe<|Za (cG (nN Z.xi) Z.ce O9<|Za (aD 0)<|Za (pS Z.ck) aH)<|Za (cG (nN Z.xi) Z.ce O9<|Za (aD 0)<|Za (pS Z.cj) aH)<|Za (cG (nN Z.xi) Z.ce O9<|Za (aD 0)<|Za (pS Z.ci) aH)<|Za (cG (nN Z.xi) Z.ce O9<|Za (aD 0)<|Za (pS Z.ch) aH) aH) sc)<|aT (bM 1 (aW cY (aD 1)<|PXL.px<|fe<|Za (cG (nN Z.xi) Z.ce O9<|Za (aD 0)<|Za (pS Z.cm) aH)<|Za (cG (nN Z.xi) Z.ce O9<|Za (aD 0)<|Za (pS Z.cn) aH)<|Za (cG (nN Z.xi) Z.ce O9<|Za (aD 0)<|Za (pS Z.co) aH) aH) sc)<|aT (bM 1 (aW cY (aD 1)<|PXL.px<|fe<|Za (cG (nN Z.xi) Z.ce O9<|Za (aD 0)<|Za (pS Z.cl) aH)<|Za (cG (nN Z.xi) Z.ce O9<|Za (aD 0)<|Za (pS Z.cp) aH) aH) sc)<|aT (dB (PXW.pxt<|li (im<|hU<|cG (nN Z.xi) Z.ce O9<|Za (aD 0)<|Za (mx Z.cg LW) aH)<|ms<|dw (fD hr.units) (F7 PySem.F.slot_list_count PySem.F.type_list_count K7 (aD 1)<|Za f8 aH) aK) (aY<|bF Zc) dA)<|aY<|bF<|bI aQ (PXL.px<|fe<|Za Zc<|Za Zc<|Za Zc<|Za Zc<|Za Zc<|Za Zc<|Za Zc<|Za Zc<|Za Zc aH)<|F7 PySem.F.slot_list_index PySem.F.type_list_index La (aD 1)<|Za f8 aH)) N6
theorem EB:Fp P w K mg base 1 "is_whole" (Zji.take 1) uB:=cL Gw Z.aa λsc hr hx hw=>aY<|bF (qF (cG nI Z.ce O9<|Za (aD 0)<|Za (mx Z.b6 boot_int) aH)<|qE<|Fx<|cG nI Z.ce O9<|Za (aD 0)<|Za (mx Z.cd boot_bool) aH)
theorem IQ:Fp P w K mg base 2 "is_within" (Ziq.take 3) xa:=cL Lb Z.ab λsc hr hx hw=>aY<|bF (qF (aU (EB Z) hr hx<|Za (aD 0) aH)<|qE<|Fz kJ kJ (aD 1) (aD 0)<|aD 2)
theorem Zg:Fp P w K mg base 3 "are_within" (Zg9.take 3) uC:=cL Lc Z.ac λsc hr hx hw=>aY<|bF (qF (cG nI Z.ce O9<|Za (aD 0)<|Za (mx Z.cb Pj) aH)<|qE<|cG (zL rfl) Z.cq boot_all<|Za (PXL.px<|gw ["number"] [1,2] rfl (jQ<|aD 0) (λ_ _ _=>(cD 0 (by decide +kernel:List.Nodup (["number", "least", "most"]:List Str)))) (λ_ _ _=>gb)<|λ_ _ _=>(aU (IQ Z) hr bU<|Za (aD 0)<|Za (aD 1)<|Za (aD 2) aH)) aH)
theorem uc:Fp P w K mg base 1 "size_of" (ZkP.take 1) lZ:=cL Lo Z.aq λsc hr hx hw=>aY<|bF (aW lU (aW cY (cG fN Z.b5 Pf<|Za (aD 0) aH) aK) aK)
theorem Oy:Fp P w K mg base 4 "slants_good" (Zgj.take 1) xc:=cL Lp Z.ar λsc hr hx hw=>aT (dB (PXW.pxt<|li (im<|hU<|aU (Zg Z) hr hx<|Za (aD 0)<|Za (xT Z.cs)<|Za (xT Z.ct) aH)<|ms<|dw (cZ hr.units) (aW qG (cG fN Z.b5 Pf<|Za (aD 0) aH) aK) aK) (aY<|bF f8) dA)<|aY (bF<|lT kJ (aU (uc Z) hr hx<|Za (aD 0) aH)<|xT Z.cr)
theorem yH:Fp P w K mg base 5 "need_slants" (Zgl.take 1) oq:=cL Lq Z.as λsc hr hx hw=>aY<|dB (im<|hU<|aU (Oy Z) hr hx<|Za (aD 0) aH) (aY<|z5 hw Z.cu) dA
theorem yI:Fp P w K mg base 6 "corner" (Zmt.take 2) ot:=cL Ls Z.av λsc hr hx hw=>aT (nJ<|aU (yH Z) hr hx<|Za (aD 0) aH)<|aT (bM 2 (aU (uc Z) hr hx<|Za (aD 0) aH) sc) (aT (dB (im<|hU<|aU (IQ Z) hr hx<|Za (aD 1)<|Za aK<|Za (aD 2) aH) (aY<|z5 hw Z.cv) dA)<|aY<|bF<|f9 (aD 0) (ff<|aW fU (aD 2)<|aD 1)<|ff<|aW fU (aW cY (aD 2)<|aD 1) aK)
theorem IR:Fp P w K mg base 1 "common_divisor" (Zer.take 2) zU:=cL Ld Z.ad λsc hr hx hw=>aT (gU<|FH PassesOwn.never (dw (fD hr.units) (aD 1) aK)<|aY<|Cv 0 1 sc<|Za (aD 1)<|Za (aW qG (aD 0)<|aD 1) aH)<|aY (bF<|cG Zp Z.b9 boot_abs<|Za (aD 0) aH)
theorem Ze:Fp P w K mg base 2 "share_by" (Zjf.take 2) tK:=cL Lj Z.ah λsc hr hx hw=>aT (KK<|dw (fD hr.units) (aD 1) aK)<|aT (bM 2 (aU (IR Z) hr hx<|Za (aD 0)<|Za (aD 1) aH) sc) (aT (dB (dw nG (aD 1) aK) (aY<|bM 2 (ji jj<|aD 2) sc) dA)<|aY<|bF<|db<|Za (aW lU (aD 0)<|aD 2)<|Za (aW lU (aD 1)<|aD 2) aH)
theorem A1:Fp P w K mg base 3 "minus" (Zom.take 2) tL:=cL Me Z.aj λsc hr hx hw=>aY<|bF (aU (Ze Z) hr hx<|Za (aW fU (aW dO (bI aQ (aD 0) aK)<|bI aQ (aD 1) aK)<|aW dO (bI aQ (aD 1) aK)<|bI aQ (aD 0) aK)<|Za (aW dO (bI aQ (aD 0) aK)<|bI aQ (aD 1) aK) aH)
theorem Zb:Fp P w K mg base 1 "table_without" (ZeT.take 2) AC:=cL Ng Z.a1 λsc hr hx hw=>aY<|bF (PXL.px<|gw ["row"] [1] rfl (jQ<|f9 (aD 0) (ff aK) iq) (λ_ _ _=>(cD 0 (by decide +kernel:List.Nodup (["row", "column"]:List Str)))) (λ_ _ _=>gb)<|λ_ _ _=>(aW cY (f9 (aD 0) iq<|ff<|aD 1)<|f9 (aD 0) (ff<|aW cY (aD 1) aK) iq))
theorem Oz:Fp P w K mg base 2 "table_number" t5 (kT 0):=uO (z:=mH λ_=>Dh) (N:=rP) Z.a2 (λsc _ _ _ _ _ _ _ hr hx hw=>(aT (dB (dw (cZ hr.units) (cG fN Z.b5 Pf<|Za (aD 0) aH) aK) (aY<|bF aK) dA)<|aT (bM 1 aK sc)<|aT (bM 2 aK sc)<|aT (gU<|iw PassesOwn.never rfl (uK Z.cw<|Za (bI aQ (aD 0) aK) aH) (lr rfl<|fP (cD 3 sc)<|fP (cD 4 sc) lj)<|aT (uQ 1 (aW dO (aW dO (aD 2)<|aD 4) LY) sc)<|aY<|bM 2 (ji jj<|aD 2) sc)<|aY<|bF<|aD 1)) Nh
theorem OA:Fp P w K mg base 3 "table_number" t5 (kT 1):=uO (z:=mH<|wF<|kT 0) (N:=rP) Z.a2 (λsc _ _ _ _ _ _ _ hr hx hw=>(aT (dB (dw (cZ hr.units) (cG fN Z.b5 Pf<|Za (aD 0) aH) aK) (aY<|bF aK) dA)<|aT (bM 1 aK sc)<|aT (bM 2 aK sc)<|aT (gU<|iw PassesOwn.never rfl (uK Z.cw<|Za (bI aQ (aD 0) aK) aH) (lr rfl<|fP (cD 3 sc)<|fP (cD 4 sc) lj)<|aT (uQ 1 (aW dO (aW dO (aD 2)<|aD 4)<|aU (Oz Z) hr bU<|Za (aU (Zb Z) hr bU<|Za (aD 0)<|Za (aD 3) aH) aH) sc)<|aY<|bM 2 (ji jj<|aD 2) sc)<|aY<|bF<|aD 1))<|yc 0
theorem OB:Fp P w K mg base 4 "table_number" t5 (kT 2):=uO (z:=mH<|wF<|kT 1) (N:=rP) Z.a2 (λsc _ _ _ _ _ _ _ hr hx hw=>(aT (dB (dw (cZ hr.units) (cG fN Z.b5 Pf<|Za (aD 0) aH) aK) (aY<|bF aK) dA)<|aT (bM 1 aK sc)<|aT (bM 2 aK sc)<|aT (gU<|iw PassesOwn.never rfl (uK Z.cw<|Za (bI aQ (aD 0) aK) aH) (lr rfl<|fP (cD 3 sc)<|fP (cD 4 sc) lj)<|aT (uQ 1 (aW dO (aW dO (aD 2)<|aD 4)<|aU (OA Z) hr bU<|Za (aU (Zb Z) hr bU<|Za (aD 0)<|Za (aD 3) aH) aH) sc)<|aY<|bM 2 (ji jj<|aD 2) sc)<|aY<|bF<|aD 1))<|yc 1
theorem OC:Fp P w K mg base 5 "table_number" t5 (kT 3):=uO (z:=mH<|wF<|kT 2) (N:=rP) Z.a2 (λsc _ _ _ _ _ _ _ hr hx hw=>(aT (dB (dw (cZ hr.units) (cG fN Z.b5 Pf<|Za (aD 0) aH) aK) (aY<|bF aK) dA)<|aT (bM 1 aK sc)<|aT (bM 2 aK sc)<|aT (gU<|iw PassesOwn.never rfl (uK Z.cw<|Za (bI aQ (aD 0) aK) aH) (lr rfl<|fP (cD 3 sc)<|fP (cD 4 sc) lj)<|aT (uQ 1 (aW dO (aW dO (aD 2)<|aD 4)<|aU (OB Z) hr bU<|Za (aU (Zb Z) hr bU<|Za (aD 0)<|Za (aD 3) aH) aH) sc)<|aY<|bM 2 (ji jj<|aD 2) sc)<|aY<|bF<|aD 1))<|yc 2
theorem OD:Fp P w K mg base 6 "table_number" t5 (kT 4):=uO (z:=mH<|wF<|kT 3) (N:=rP) Z.a2 (λsc _ _ _ _ _ _ _ hr hx hw=>(aT (dB (dw (cZ hr.units) (cG fN Z.b5 Pf<|Za (aD 0) aH) aK) (aY<|bF aK) dA)<|aT (bM 1 aK sc)<|aT (bM 2 aK sc)<|aT (gU<|iw PassesOwn.never rfl (uK Z.cw<|Za (bI aQ (aD 0) aK) aH) (lr rfl<|fP (cD 3 sc)<|fP (cD 4 sc) lj)<|aT (uQ 1 (aW dO (aW dO (aD 2)<|aD 4)<|aU (OC Z) hr bU<|Za (aU (Zb Z) hr bU<|Za (aD 0)<|Za (aD 3) aH) aH) sc)<|aY<|bM 2 (ji jj<|aD 2) sc)<|aY<|bF<|aD 1))<|yc 3
theorem OE:Fp P w K mg base 7 "table_number" t5 (kT 5):=uO (z:=mH<|wF<|kT 4) (N:=rP) Z.a2 (λsc _ _ _ _ _ _ _ hr hx hw=>(aT (dB (dw (cZ hr.units) (cG fN Z.b5 Pf<|Za (aD 0) aH) aK) (aY<|bF aK) dA)<|aT (bM 1 aK sc)<|aT (bM 2 aK sc)<|aT (gU<|iw PassesOwn.never rfl (uK Z.cw<|Za (bI aQ (aD 0) aK) aH) (lr rfl<|fP (cD 3 sc)<|fP (cD 4 sc) lj)<|aT (uQ 1 (aW dO (aW dO (aD 2)<|aD 4)<|aU (OD Z) hr bU<|Za (aU (Zb Z) hr bU<|Za (aD 0)<|Za (aD 3) aH) aH) sc)<|aY<|bM 2 (ji jj<|aD 2) sc)<|aY<|bF<|aD 1))<|yc 4
theorem OF:Fp P w K mg base 7 "table_number" t5 DM:=OE Z
theorem IS:Fp P w K mg base 6 "table_of" (Zjd.take 1) xg:=cL Lr Z.au λsc hr hx hw=>aT (nJ<|aU (yH Z) hr hx<|Za (aD 0) aH)<|aT (bM 1 (aU (uc Z) hr hx<|Za (aD 0) aH) sc) (aY<|bF<|PXL.px<|gw ["i"] [0,1] rfl (kL Z.ca<|Za (aD 1) aH) (λ_ _ _=>(cD 0 (by decide +kernel:List.Nodup (["i", "slants", "size"]:List Str)))) (λ_ _ _=>gb)<|λ_ _ _=>(PXL.px<|zC zI Z.b7 boot_list<|Za (f9 (aD 1) (ff<|aW fU (aW fU (aD 2) aK)<|aD 0)<|ff<|aW fU (aW fU (aW dO aK<|aD 2) aK)<|aD 0) aH))
theorem OG:Fp P w K mg base 8 "number_of" (Zip.take 1) xZ:=cL Ni Z.a3 λsc hr hx hw=>aY<|bF (aU (OF Z) hr hx<|Za (aU (IS Z) hr hx<|Za (aD 0) aH) aH)
theorem OH:Fp P w K mg base 9 "corner_numbers" (Zeq.take 1) yb:=cL Nk Z.a4 λsc hr hx hw=>aT (nJ<|aU (yH Z) hr hx<|Za (aD 0) aH)<|aY (bF<|PXL.px<|gw ["size"] [0] rfl (wU Z.ca<|Za aK<|Za (aW cY (aU (uc Z) hr hx<|Za (aD 0) aH) aK) aH) (λ_ _ _=>(cD 0 (by decide +kernel:List.Nodup (["size", "slants"]:List Str)))) (λ_ _ _=>gb)<|λ_ _ _=>(aU (OG Z) hr bU<|Za (aU (yI Z) hr bU<|Za (aD 1)<|Za (aD 0) aH) aH))
theorem OI:Fp P w K mg base 10 "weak_sizes" (Zg5.take 1) AD:=cL Nm Z.a5 λsc hr hx hw=>aY<|bF (PXL.px<|gw ["size", "number"] [] rfl (DL Z.cw<|Za (aU (OH Z) hr hx<|Za (aD 0) aH) aH) (λ_ _ _=>(lr rfl<|fP (cD 0 (by decide +kernel:List.Nodup (["size", "number"]:List Str)))<|fP (cD 1 (by decide +kernel:List.Nodup (["size", "number"]:List Str))) lj)) (λ_ _ _=>(FE<|dw (cZ hr.units) (aD 1) aK))<|λ_ _ _=>(aD 0))
theorem OJ:Fp P w K mg base 11 "first_weak" (Zg7.take 1) AL:=cL Ny Z.a6 λsc hr hx hw=>aT (bM 1 (aU (OI Z) hr hx<|Za (aD 0) aH) sc)<|aY (bF<|Fy (dw wP (cG fN Z.b5 Pf<|Za (aD 1) aH) aK) (bI aQ (aD 1) aK) j3)
theorem EC:Fp P w K mg base 12 "need_strong" (Zgk.take 1) pV:=cL NX Z.a7 λsc hr hx hw=>aT (bM 1 (aU (OJ Z) hr hx<|Za (aD 0) aH) sc)<|aY (dB (dw Aj (aD 1) j3) (aY<|NT Fl.raisd_cx (XK1.xf (k:=0) Z.cx Iw) (hr.mono<|by decide)<|aD 1) dA)
theorem ED:Fp P w K mg base 4 "need_whole_row" (Zep.take 2) uY:=cL ND Z.a0 λsc hr hx hw=>aY<|dB (PXW.pxt<|li (im<|hU<|aU (Zg Z) hr hx<|Za (aD 1)<|Za (xT Z.cy)<|Za (xT Z.cz) aH)<|ms<|dw (fD hr.units) (cG fN Z.b5 Pf<|Za (aD 1) aH)<|aU (uc Z) hr hx<|Za (aD 0) aH) (aY<|z5 hw Z.c0) dA
theorem EE:Fp P w K mg base 3 "times" (Zol.take 2) rG:=cL GC Z.ak λsc hr hx hw=>aY<|bF (aU (Ze Z) hr hx<|Za (aW dO (bI aQ (aD 0) aK)<|bI aQ (aD 1) aK)<|Za (aW dO (bI aQ (aD 0) aK)<|bI aQ (aD 1) aK) aH)
theorem A2:Fp P w K mg base 4 "row_less" (Zjg.take 3) rL:=cL MB Z.ao λsc hr hx hw=>aY<|bF (j4 lV Z.cb Pj<|Za (PXL.px<|gw ["left", "right"] [1] rfl (Cy Z.cf<|Za (aD 0)<|Za (aD 2) aH) (λ_ _ _=>(lr rfl<|fP (cD 0 (by decide +kernel:List.Nodup (["left", "right", "share"]:List Str)))<|fP (cD 1 (by decide +kernel:List.Nodup (["left", "right", "share"]:List Str))) lj)) (λ_ _ _=>gb)<|λ_ _ _=>(aU (A1 Z) hr bU<|Za (aD 0)<|Za (aU (EE Z) hr bU<|Za (aD 2)<|Za (aD 1) aH) aH)) aH)
theorem yJ:Fp P w K mg base 3 "by" (N_by.take 2) qL:=cL xD Z.al λsc hr hx hw=>aY<|bF (aU (Ze Z) hr hx<|Za (aW dO (bI aQ (aD 0) aK)<|bI aQ (aD 1) aK)<|Za (aW dO (bI aQ (aD 0) aK)<|bI aQ (aD 1) aK) aH)
theorem EF:Fp P w K mg base 4 "row_by" (Zmr.take 2) uM:=cL MA Z.an λsc hr hx hw=>aY<|bF (j4 lV Z.cb Pj<|Za (PXL.px<|gw ["part"] [1] rfl (jQ<|aD 0) (λ_ _ _=>(cD 0 (by decide +kernel:List.Nodup (["part", "share"]:List Str)))) (λ_ _ _=>gb)<|λ_ _ _=>(aU (yJ Z) hr bU<|Za (aD 0)<|Za (aD 1) aH)) aH)
theorem EG:Fp P w K mg base 1 "row_of" (Zmq.take 1) tM:=cL Ll Z.am λsc hr hx hw=>aY<|bF (j4 lV Z.cb Pj<|Za (PXL.px<|gw ["number"] [] rfl (jQ<|aD 0) (λ_ _ _=>(cD 0 (by decide +kernel:List.Nodup (["number"]:List Str)))) (λ_ _ _=>gb)<|λ_ _ _=>(db<|Za (aD 0)<|Za aK aH)) aH)
theorem OK:Fp P w K mg base 7 "first_step" (Zg8.take 1) AM:=cL NA Z.a8 λsc hr hx hw=>aT (bM 1 (aU (EF Z) hr hx<|Za (db<|Za (tX Z.c1) aH)<|Za (bI aQ (aU (EG Z) hr hx<|Za (aU (yI Z) hr hx<|Za (aD 0)<|Za aK aH) aH) aK) aH) sc)<|aY (bF<|db<|Za (aD 1)<|Za (aD 1) aH)
theorem OL:Fp P w K mg base 2 "is_share" (Zjj.take 1) CM:=cL Le Z.ae λsc hr hx hw=>aT (dB (PXW.pxt<|li (im<|hU<|cG nI Z.ce O9<|Za (aD 0)<|Za (mx Z.cb Pj) aH)<|ms<|dw (fD hr.units) (cG fN Z.b5 Pf<|Za (aD 0) aH) aK) (aY<|bF f8) dA)<|aT (FG (aD 0)<|lr rfl<|fP (cD 1 sc)<|fP (cD 2 sc) lj) (aT (dB (PXW.pxt<|li (im<|hU<|aU (EB Z) hr hx<|Za (aD 1) aH)<|ms<|im<|hU<|aU (EB Z) hr hx<|Za (aD 2) aH) (aY<|bF f8) dA)<|aY<|bF<|qF (lT wP (aD 2) aK)<|qE<|lT (cZ hr.units) (aU (IR Z) hr hx<|Za (aD 1)<|Za (aD 2) aH) aK)
theorem OM:Fp P w K mg base 3 "is_row_within" (ZeU.take 3) zV:=cL Lg Z.af λsc hr hx hw=>aT (dB (PXW.pxt<|li (im<|hU<|cG nI Z.ce O9<|Za (aD 0)<|Za (mx Z.cb Pj) aH)<|ms<|im<|Kr kJ kJ (aD 1) (cG fN Z.b5 Pf<|Za (aD 0) aH)<|aD 2) (aY<|bF f8) dA)<|aY (bF<|cG (zL rfl) Z.cq boot_all<|Za (PXL.px<|gw ["part"] [] rfl (jQ<|aD 0) (λ_ _ _=>(cD 0 (by decide +kernel:List.Nodup (["part"]:List Str)))) (λ_ _ _=>gb)<|λ_ _ _=>(aU (OL Z) hr bU<|Za (aD 0) aH)) aH)
theorem ON:Fp P w K mg base 4 "is_row" (Zms.take 2) zW:=cL Li Z.ag λsc hr hx hw=>aY<|bF (aU (OM Z) hr hx<|Za (aD 0)<|Za (aD 1)<|Za (aD 1) aH)
theorem IT:Fp P w K mg base 6 "row_good" (Zjh.take 2) uE:=cL Lu Z.aw λsc hr hx hw=>aT (nJ<|aU (yH Z) hr hx<|Za (aD 0) aH)<|aY (bF<|aU (ON Z) hr hx<|Za (aD 1)<|Za (aU (uc Z) hr hx<|Za (aD 0) aH) aH)
theorem OO:Fp P w K mg base 7 "share_rows" (Zg6.take 1) Zd:=cL Lv Z.ax λsc hr hx hw=>aY<|bF (PXL.px<|gw ["numbers"] [] rfl (jQ<|aU (IS Z) hr hx<|Za (aD 0) aH) (λ_ _ _=>(cD 0 (by decide +kernel:List.Nodup (["numbers"]:List Str)))) (λ_ _ _=>gb)<|λ_ _ _=>(aU (EG Z) hr bU<|Za (aD 0) aH))
theorem OP:Fp P w K mg base 3 "plus" (ZpJ.take 2) xb:=cL GB Z.ai λsc hr hx hw=>aY<|bF (aU (Ze Z) hr hx<|Za (aW cY (aW dO (bI aQ (aD 0) aK)<|bI aQ (aD 1) aK)<|aW dO (bI aQ (aD 1) aK)<|bI aQ (aD 0) aK)<|Za (aW dO (bI aQ (aD 0) aK)<|bI aQ (aD 1) aK) aH)
theorem OQ:Fp P w K mg base 4 "sum_of_products" (Zd0.take 2) zX:=cL Lm Z.ap λsc hr hx hw=>aT (bM 2 (tX Z.c2) sc)<|aT (gU<|iw PassesOwn.never rfl (Cy Z.cf<|Za (aD 0)<|Za (aD 1) aH) (lr rfl<|fP (cD 3 sc)<|fP (cD 4 sc) lj)<|aY<|bM 2 (aU (OP Z) hr bU<|Za (aD 2)<|Za (aU (EE Z) hr bU<|Za (aD 3)<|Za (aD 4) aH) aH) sc) (aY<|bF<|aD 2)
theorem yK:Fp P w K mg base 8 "times_row" (Zio.take 2) rJ:=cL Lw Z.ay λsc hr hx hw=>aT (dB (im<|hU<|aU (IT Z) hr hx<|Za (aD 0)<|Za (aD 1) aH) (aY<|z5 hw Z.c0) dA)<|aY (bF<|j4 lV Z.cb Pj<|Za (PXL.px<|gw ["line"] [1] rfl (jQ<|aU (OO Z) hr hx<|Za (aD 0) aH) (λ_ _ _=>(cD 0 (by decide +kernel:List.Nodup (["line", "row"]:List Str)))) (λ_ _ _=>gb)<|λ_ _ _=>(aU (OQ Z) hr bU<|Za (aD 0)<|Za (aD 1) aH)) aH)
theorem OR:Fp P w K mg base 9 "longer_step" (Zgm.take 2) uX:=cL NB Z.a9 λsc hr hx hw=>aT (bM 2 (aW cY (bI aQ (aD 1) aK)<|db<|Za (tX Z.c2) aH) sc)<|aT (bM 3 (aW cY (db<|Za (tX Z.c2) aH)<|bI aQ (aD 1) aK) sc) (aT (bM 4 (bI aQ (aU (yK Z) hr hx<|Za (aD 0)<|Za (aD 2) aH)<|ji jj aK) sc)<|aT (bM 5 (bI aQ (aU (yK Z) hr hx<|Za (aD 0)<|Za (aD 3) aH) aK) sc)<|aT (bM 6 (aU (A1 Z) hr hx<|Za (tX Z.c1)<|Za (aU (EE Z) hr hx<|Za (aD 4)<|Za (aD 5) aH) aH) sc)<|aY<|bF<|db<|Za (aU (EF Z) hr hx<|Za (aU (A2 Z) hr hx<|Za (aD 2)<|Za (aD 4)<|Za (aD 3) aH)<|Za (aD 6) aH)<|Za (aU (EF Z) hr hx<|Za (aU (A2 Z) hr hx<|Za (aD 3)<|Za (aD 5)<|Za (aD 2) aH)<|Za (aD 6) aH) aH)
theorem IU:Fp P w K mg base 13 "steps_of" (Zje.take 1) yx:=cL NY Z.ba λsc hr hx hw=>aT (nJ<|aU (EC Z) hr hx<|Za (aD 0) aH)<|aT (nK 1 (fe<|Za (aU (OK Z) hr hx<|Za (aD 0) aH) aH) sc) (aT (gU<|iw PassesOwn.never rfl (wU Z.ca<|Za aK<|Za (aW cY (aU (uc Z) hr bU<|Za (aD 0) aH) aK) aH) (cD 2 sc)<|aY<|tH 1<|Cz 1<|aU (OR Z) hr bU<|Za (aU (yI Z) hr bU<|Za (aD 0)<|Za (aD 2) aH)<|Za (bI aQ (aD 1)<|ji jj aK) aH)<|lW 1<|aY<|bF<|aD 1)
theorem IV:Fp P w K mg base 14 "solved_steps" (Zbe.take 2) yy:=cL NZ Z.bb λsc hr hx hw=>aT (nJ<|aU (EC Z) hr hx<|Za (aD 0) aH)<|aT (nJ<|aU (ED Z) hr hx<|Za (aD 0)<|Za (aD 1) aH) (aT (bM 2 (db aH) sc)<|aT (nK 3 (fe aH) sc)<|aT (gU<|iw PassesOwn.never rfl (DL Z.cw<|Za (aU (IU Z) hr bU<|Za (aD 0) aH) aH) (lr rfl<|fP (cD 4 sc)<|fP (cD 5 sc) lj)<|aT (bM 6 (aW cY (aD 2)<|db<|Za (tX Z.c2) aH) sc)<|aT (bM 7 (aU (A1 Z) hr bU<|Za (bI aQ (aU (yK Z) hr bU<|Za (aU (yI Z) hr bU<|Za (aD 0)<|Za (aD 4) aH)<|Za (aD 6) aH)<|ji jj aK)<|Za (db<|Za (bI aQ (aD 1)<|aW fU (aD 4) aK)<|Za aK aH) aH) sc)<|aT (bM 2 (aU (A2 Z) hr bU<|Za (aD 6)<|Za (aD 7)<|Za (bI aQ (aD 5) aK) aH) sc)<|aY<|tH 3<|aD 2)<|lW 3<|aY<|bF<|aD 3)
theorem OS:DI P w K mg base 14 "solved_steps" (Zbe.take 2) yA:=DK (z:=AT) (N:=Zbe) Z.bb (λsc _ _ _ _ _ _ _ hr hx hw=>(xY (nJ<|aU (EC Z) hr hx<|Za (aD 0) aH)<|xY (nJ<|aU (ED Z) hr hx<|Za (aD 0)<|Za (aD 1) aH)<|xY (bM 2 (db aH) sc)<|xY (nK 3 (fe aH) sc)<|xY (gU<|iw PassesOwn.never rfl (DL Z.cw<|Za (aU (IU Z) hr bU<|Za (aD 0) aH) aH) (lr rfl<|fP (cD 4 sc)<|fP (cD 5 sc) lj)<|aT (bM 6 (aW cY (aD 2)<|db<|Za (tX Z.c2) aH) sc)<|aT (bM 7 (aU (A1 Z) hr bU<|Za (bI aQ (aU (yK Z) hr bU<|Za (aU (yI Z) hr bU<|Za (aD 0)<|Za (aD 4) aH)<|Za (aD 6) aH)<|ji jj aK)<|Za (db<|Za (bI aQ (aD 1)<|aW fU (aD 4) aK)<|Za aK aH) aH) sc)<|aT (bM 2 (aU (A2 Z) hr bU<|Za (aD 6)<|Za (aD 7)<|Za (bI aQ (aD 5) aK) aH) sc)<|aY<|tH 3<|aD 2)<|N7 3)) Oa N9 N8
theorem OT:Fp P w K mg base 15 "solved" (Zmp.take 2) Em:=cL N0 Z.bc λsc hr hx hw=>aY<|bF (bI aQ (aU (IV Z) hr hx<|Za (aD 0)<|Za (aD 1) aH)<|ji jj aK)
theorem OU:Fp P w K mg base 9 "makes" (Zon.take 3) Ap:=cL Mv Z.az λsc hr hx hw=>aY<|bF (qF (aU (IT Z) hr hx<|Za (aD 0)<|Za (aD 1) aH)<|qE<|lT (cZ hr.units) (aU (yK Z) hr hx<|Za (aD 0)<|Za (aD 1) aH)<|aD 2)
theorem A3:Fp P w K mg base 10 "solves" (Zmo.take 3) ub:=cL N2 Z.bd λsc hr hx hw=>aT (nJ<|aU (yH Z) hr hx<|Za (aD 0) aH)<|aT (nJ<|aU (ED Z) hr hx<|Za (aD 0)<|Za (aD 1) aH) (aY<|bF<|aU (OU Z) hr hx<|Za (aD 0)<|Za (aD 2)<|Za (aU (EG Z) hr hx<|Za (aD 1) aH) aH)
theorem yL:Fp P w K mg base 16 "_law_told" (Zit.take 4) rV:=cL Oh Z.b0 λsc hr hx hw=>aY<|K4 LX5 4 Z.c3 sc (λ_ _ _ hx1=>(aT (dB (dw (cZ hr.units) (aD 0) aK) (aY<|bF<|aU (OT Z) hr hx1<|Za (aD 1)<|Za (aD 2) aH) dA)<|aY<|bF<|Fy (dw (cZ hr.units) (aD 0) aK) (aU (IV Z) hr hx1<|Za (aD 1)<|Za (aD 2) aH)<|aU (A3 Z) hr hx1<|Za (aD 1)<|Za (aD 2)<|Za (aD 3) aH)) (λ_ _=>(aT (dB (hU<|cG (nN Z.xi) Z.ce O9<|Za (aD 4)<|Za (pS Z.co) aH) (aY<|bF<|db<|Za (F6 (IP Z) (hr.u.mark)<|Za (aD 4) aH)<|Za (NV Z.cx Iw<|aD 4) aH) dA)<|aY<|bF<|F6 (IP Z) (hr.u.mark)<|Za (aD 4) aH))
theorem OV:Fp P w K mg base 1 "_law_unit" (Zis.take 2) xW:=cL M2 Z.br λsc hr hx hw=>aY<|bF (j4 lV Z.cb Pj<|Za (PXL.px<|gw ["_law_at"] [1] rfl (kL Z.ca<|Za (aD 0) aH) (λ_ _ _=>(cD 0 (by decide +kernel:List.Nodup (["_law_at", "_law_place"]:List Str)))) (λ_ _ _=>gb)<|λ_ _ _=>(j4 Cr Z.b6 boot_int<|Za (lT (cZ hr.units) (aD 0)<|aD 1) aH)) aH)
theorem EH:Fp P w K mg base 4 "_law_weak" (Zir.take 1) u0:=cL NN Z.bt λsc hr hx hw=>aT (gU<|iw PassesOwn.never rfl (wU Z.ca<|Za aK<|Za (aW cY (aW lU (aW cY (cG fN Z.b5 Pf<|Za (aD 0) aH) aK) aK) aK) aH) (cD 1 sc)<|aY<|dB (dw tS (aU (IO Z) hr bU<|Za (aU (IN Z) hr bU<|Za (aD 0)<|Za (aD 1) aH)<|Za (aU (OV Z) hr bU<|Za (aD 1)<|Za aK aH) aH) j3) (aY<|bF<|aD 1) dA)<|aY (bF j3)
theorem OW:Fp P w K mg base 17 "_law_strong_right" (Zc3.take 2) AV:=cL Ol Z.b2 λsc hr hx hw=>aT (bM 2 (aU (EH Z) hr hx<|Za (aD 0) aH) sc)<|aT (dB (dw Aj (aD 2) j3) (aY<|bF<|lT (cZ hr.units) (PXL.px<|gw ["_law_way"] [0] rfl (kL Z.ca<|Za aK aH) (λ_ _ _=>(cD 0 (by decide +kernel:List.Nodup (["_law_way", "_law_slants"]:List Str)))) (λ_ _ _=>gb)<|λ_ _ _=>(aU (yL Z) hr bU<|Za (aD 0)<|Za (aD 1)<|Za j3<|Za aK aH))<|aW dO (PXL.px<|fe<|Za (db<|Za Zc<|Za (aD 2) aH) aH) aK) dA) (aT (FF 3 ["_law_k"] [0,1] rfl sc (wU Z.ca<|Za aK<|Za (aW cY (cG fN Z.b5 Pf<|Za (aD 1) aH) aK) aH) (λ_ _ _=>(cD 0 (by decide +kernel:List.Nodup (["_law_k", "_law_slants", "_law_right_here"]:List Str)))) (λ_ _ _=>gb)<|λ_ _ _=>(aU (IO Z) hr bU<|Za (aU (IN Z) hr bU<|Za (aD 1)<|Za (aD 0) aH)<|Za (f9 (aD 2) iq<|ff<|aD 0) aH))<|lW 3<|aT (dB (dw G3 (cG (Al hr.gd hr.units) Z.c4 Ai<|Za (aU (yL Z) hr hx<|Za aK<|Za (aD 0)<|Za (aD 1)<|Za aK aH) aH)<|cG (Al hr.gd hr.units) Z.c4 Ai<|Za (bI aQ (aD 3)<|ji jj aK) aH) (aY<|bF f8) dA)<|lW 3<|aT (gU<|iw PassesOwn.never rfl (kL Z.ca<|Za aK aH) (cD 4 sc)<|aT (nK 5 (M5 (OS Z) hr bU<|Za (aD 0)<|Za (aD 1) aH) sc)<|lW 3<|aT (dB (KM 5<|dw G3 (cG (Al hr.gd hr.units) Z.c4 Ai<|Za (aD 5) aH)<|cG (Al hr.gd hr.units) Z.c4 Ai<|Za (aD 3) aH) (aY<|bF f8) dA)<|aY<|tH 5 aK)<|lW 3<|aY<|bF<|lT tS (aU (A3 Z) hr hx<|Za (aD 0)<|Za (aD 1)<|Za (bI aQ (aD 3)<|ji jj aK) aH) f8)
theorem IW:Fp P w K mg base 18 "_law_right" (Zhc.take 2) yC:=cL On Z.b3 λsc hr hx hw=>aT (bM 2 (aW lU (aW cY (cG fN Z.b5 Pf<|Za (aD 0) aH) aK) aK) sc)<|aT (bM 3 (bI aQ (PXL.px<|fe<|Za aK<|Za aK<|Za aK aH)<|aU (jx Z) hr hx<|Za (aD 1)<|Za aK aH) sc) (aT (bM 4 (j4 lV Z.cb Pj<|Za (PXL.px<|gw ["_law_place"] [1,3] rfl (kL Z.ca<|Za (aD 2) aH) (λ_ _ _=>(cD 0 (by decide +kernel:List.Nodup (["_law_place", "_law_pen", "_law_great"]:List Str)))) (λ_ _ _=>gb)<|λ_ _ _=>(aW fU (aU (jx Z) hr bU<|Za (aD 1)<|Za (aW cY (aW dO aK<|aD 2) aK) aH)<|aD 2)) aH) sc)<|aT (dB (im<|hU<|aU (OW Z) hr hx<|Za (aD 0)<|Za (aD 4) aH) (aY<|bF f8) dA)<|aT (bM 5 (aU (Ow Z) hr hx<|Za (aD 1)<|Za (aD 2) aH) sc)<|aT (bM 6 (aU (IL Z) hr hx<|Za (aD 0)<|Za (aD 5) aH) sc)<|aT (dB (hU<|cG (zL rfl) Z.cq boot_all<|Za (PXL.px<|gw ["_law_one"] [] rfl (jQ<|aD 6) (λ_ _ _=>(cD 0 (by decide +kernel:List.Nodup (["_law_one"]:List Str)))) (λ_ _ _=>gb)<|λ_ _ _=>(qF (lT (cZ hr.units) (bI aQ (aD 0) aK) aK)<|qE<|lT nG (cG Zp Z.b9 boot_abs<|Za (bI aQ (aD 0) aK) aH) aK)) aH) (aY<|dB (dw Aj (aU (A3 Z) hr hx<|Za (aD 0)<|Za (j4 lV Z.cb Pj<|Za (PXL.px<|gw ["_law_one"] [] rfl (jQ<|aD 6) (λ_ _ _=>(cD 0 (by decide +kernel:List.Nodup (["_law_one"]:List Str)))) (λ_ _ _=>gb)<|λ_ _ _=>(bI aQ (aD 0) aK)) aH)<|Za (aD 5) aH) f8) (aY<|bF f8) dA) dA)<|aT (gU<|iw PassesOwn.never rfl (jQ<|PXL.px<|fe<|Za (aD 5)<|Za (aU (IM Z) hr bU<|Za (aD 1)<|Za (aD 5) aH)<|Za (aU (IM Z) hr bU<|Za (aD 1)<|Za (aD 5) aH)<|Za (db<|Za (aD 4)<|Za (aD 4) aH) aH) (cD 7 sc)<|aT (bM 8 (qF (aU (Ox Z) hr bU<|Za (aD 2)<|Za (aD 7) aH)<|qE<|lT (cZ hr.units) (aU (IL Z) hr bU<|Za (aD 0)<|Za (aD 7) aH)<|j4 lV Z.cb Pj<|Za (PXL.px<|gw ["_law_one"] [] rfl (jQ<|aD 4) (λ_ _ _=>(cD 0 (by decide +kernel:List.Nodup (["_law_one"]:List Str)))) (λ_ _ _=>gb)<|λ_ _ _=>(db<|Za (aD 0)<|Za aK aH)) aH) sc)<|aT (bM 9 (aU (A3 Z) hr bU<|Za (aD 0)<|Za (aD 4)<|Za (aD 7) aH) sc)<|aY<|dB (PXW.pxt<|li (im<|hU<|cG nI Z.ce O9<|Za (aD 9)<|Za (mx Z.cd boot_bool) aH)<|ms<|dw (fD hr.units) (aD 9)<|aD 8) (aY<|bF f8) dA)<|aT (bM 10 (aU (Ov Z) hr hx<|Za (aD 4)<|Za (aD 1) aH) sc)<|aT (dB (PXW.pxt<|Fw (dw tS (aU (EH Z) hr hx<|Za (aD 0) aH) j3)<|Fv<|dw (fD hr.units) (PXL.px<|gw ["_law_way"] [0,10] rfl (kL Z.ca<|Za aK aH) (λ_ _ _=>(cD 0 (by decide +kernel:List.Nodup (["_law_way", "_law_slants", "_law_bad"]:List Str)))) (λ_ _ _=>gb)<|λ_ _ _=>(aU (yL Z) hr bU<|Za (aD 0)<|Za (aD 1)<|Za (aD 2)<|Za aK aH))<|aW dO (PXL.px<|fe<|Za Zc aH) aK) (aY<|bF f8) dA)<|aY<|bF<|lT (cZ hr.units) (aU (yL Z) hr hx<|Za aK<|Za (aD 0)<|Za (aD 10)<|Za (aD 5) aH) Zc)
theorem IX:Fp P w K mg base 3 "_law_slants_by" (Zet.take 1) xv:=cL LL Z.bo λsc hr hx hw=>aT (bM 1 (aW cY aK<|aU (jx Z) hr hx<|Za (aD 0)<|Za aK aH) sc)<|aT (bM 2 (aU (jx Z) hr hx<|Za (aD 0)<|Za aK aH) sc) (aT (bM 3 (bI aQ (PXL.px<|fe<|Za aK<|Za aK<|Za aK<|Za aK aH)<|aU (jx Z) hr hx<|Za (aD 0)<|Za aK aH) sc)<|aT (FF 4 ["_law_place"] [0,3] rfl sc (kL Z.ca<|Za (aW fU (aW dO aK<|aD 1) aK) aH) (λ_ _ _=>(cD 0 (by decide +kernel:List.Nodup (["_law_place", "_law_pen", "_law_span"]:List Str)))) (λ_ _ _=>gb)<|λ_ _ _=>(aW fU (aU (jx Z) hr bU<|Za (aD 1)<|Za (aW cY (aW dO aK<|aD 2) aK) aH)<|aD 2))<|aT (dB (dw (cZ hr.units) (aD 2) aK) (aY<|nK 4 (zP 4<|CA (f9 (aD 4) iq<|ff<|aD 1)<|KB<|f9 (aD 4) iq<|ff<|aW fU (aD 1) aK) sc) dA)<|aT (dB (dw (cZ hr.units) (aD 2) aK) (aY<|nK 4 (zP 4<|CA (f9 (aD 4) (ff aK)<|ff<|aD 1)<|f9 (aD 4) iq<|ff<|aD 1) sc) dA)<|aT (dB (dw (cZ hr.units) (aD 2) aK) (aY<|nK 4 (zP 4<|CA (f9 (aD 4) iq<|ff<|aD 1)<|aW dO (PXL.px<|fe<|Za aK aH)<|aW fU (aD 1) aK) sc) dA)<|aT (dB (dw (cZ hr.units) (aD 2) aK) (aY<|Zl 4 (aW fU (aD 1) aK) aK) dA)<|aT (dB (dw (cZ hr.units) (aD 2) aK) (aY<|nK 4 (zP 4<|KN (f9 (aD 4) iq<|ff aK)<|aW fU (aW dO aK<|aD 1) aK) sc) dA)<|lW 4<|aY<|bF<|j4 lV Z.cb Pj<|Za (aD 4) aH)
theorem OX:Fp P w K mg base 2 "_law_slants_good" (Zdc.take 1) Ae:=cL LT Z.bw λsc hr hx hw=>aT (dB (PXW.pxt<|li (im<|hU<|cG nI Z.ce O9<|Za (aD 0)<|Za (mx Z.cb Pj) aH)<|ms<|dw xn (cG fN Z.b5 Pf<|Za (aD 0) aH)<|db<|Za aK<|Za aK<|Za aK<|Za aK<|Za aK aH) (aY<|bF f8) dA)<|aY (bF<|cG (zL rfl) Z.cq boot_all<|Za (PXL.px<|gw ["_law_one"] [] rfl (jQ<|aD 0) (λ_ _ _=>(cD 0 (by decide +kernel:List.Nodup (["_law_one"]:List Str)))) (λ_ _ _=>gb)<|λ_ _ _=>(qF (aU (EA Z) hr bU<|Za (aD 0) aH)<|qE<|Fz kJ kJ (ji jj aK) (aD 0) aK)) aH)
theorem OY:Fp P w K mg base 5 "_law_strong_by" (Zes.take 1) AQ:=cL NP Z.bu λsc hr hx hw=>aT (bM 1 (aU (IX Z) hr hx<|Za (aD 0) aH) sc)<|aT (dB (dw Aj (aU (EH Z) hr hx<|Za (aD 1) aH) j3) (aT (bM 2 (aW lU (aW cY (cG fN Z.b5 Pf<|Za (aD 1) aH) aK) aK) sc)<|aT (bM 1 (j4 lV Z.cb Pj<|Za (PXL.px<|gw ["_law_one"] [] rfl (jQ<|aD 1) (λ_ _ _=>(cD 0 (by decide +kernel:List.Nodup (["_law_one"]:List Str)))) (λ_ _ _=>gb)<|λ_ _ _=>(aW fU (aW qG (aD 0) aK) aK)) aH) sc)<|aY<|bM 1 (aW cY (aW cY (f9 (aD 1) iq<|ff<|aW fU (aD 2) aK)<|db<|Za aK aH)<|f9 (aD 1) (ff<|aD 2) iq) sc) dA) (aY<|bF<|aD 1)
theorem all_mk(hfa:mg "law" = some (.ref fa)):∃fd:FuncData,(∀(s:Shared) (v:Value),BindsTo s fd ⟨[v],[]⟩ [("_law_script",v)])/\∀base:Heap,K.In base->base.Ns mainGlobals mg->eD l.prog w K mg base (c9 l.prog w) 19 fa fd ["_law_script"] (gT K yD):=
 MS (z:=AW) (N:=IF) Z.b4 hfa (λ_ sc _ _ _ _ _ _ _ hr hx hw=>(aT (gU<|iw PassesOwn.never rfl (jQ<|aW cY (PXL.px<|fe<|Za (aU (Os Z) hr bU<|Za (aD 0)<|Za aK aH) aH)<|f9 (aD 0) (ff aK)<|ff aK) (cD 1 sc)<|aT (bM 2 (aU (Ou Z) hr bU<|Za (aD 1) aH) sc)<|aT (bM 3 (aU (IX Z) hr bU<|Za (aD 2) aH) sc)<|aT (dB (PXW.pxt<|li (im<|hU<|aU (IW Z) hr bU<|Za (aD 3)<|Za (aD 2) aH)<|ms<|im<|hU<|aU (IW Z) hr bU<|Za (aU (OY Z) hr bU<|Za (aD 2) aH)<|Za (aD 2) aH) (aY<|bF f8) dA)<|aT (bM 4 (aU (Ot Z) hr bU<|Za (aD 2)<|Za (aD 3) aH) sc)<|aY<|dB (PXW.pxt<|Fw (im<|hU<|aU (OX Z) hr bU<|Za (aD 4) aH)<|Fv<|dw (fD hr.units) (PXL.px<|gw ["_law_way"] [4] rfl (kL Z.ca<|Za aK aH) (λ_ _ _=>(cD 0 (by decide +kernel:List.Nodup (["_law_way", "_law_bad"]:List Str)))) (λ_ _ _=>gb)<|λ_ _ _=>(aU (yL Z) hr bU<|Za (aD 0)<|Za (aD 1)<|Za j3<|Za aK aH))<|aW dO (PXL.px<|fe<|Za Zc aH) aK) (aY<|bF f8) dA)<|aY<|bF f8)) Op
end
theorem walk{q:Program}{loose:List Str}{d:DefRec}{K:Params->O3}(hn:l.most=some 63)(hdf:d.params.defaults=[])
  (hY:∀(w:World) (h:Heap),YP w h->(K w.params).In h)
  (F:∀ (w:World) (mg:Str->Option Value) (fa:Addr) (h:Heap),(K w.params).In h->h.Ns mainGlobals mg->mg d.name=some (.ref fa)->
   ∃fd:FuncData,(∀(s:Shared) (u:Value),BindsTo s fd ⟨[u],[]⟩ [("_law_script",u)])/\∀base:Heap,(K w.params).In base->base.Ns mainGlobals mg->eD l.prog w (K w.params) mg base (c9 l.prog w) 19 fa fd ["_law_script"] (gT (K w.params) yD)) :
  PySem.W.WalkO q loose XP YP l.row.toRowW d [] (λf vs=>PySem.call f vs):=
 L2.walk_of (n:=63) (k:=19) (x:= "_law_script") (CX:=λw=>c9 l.prog w) (sp:=λw=>gT (K w.params) yD) hn (by decide) hdf ⟨rfl,rfl,by decide,by decide⟩ hY F (λ_ _ a ns hl hO hS=>Oq hl hO hS) λ_ _ _ _ _ ⟨_,_,_,_,_,_,_,_,_,_,_,_,_,z⟩=>z
end G.V9.W.E8
end LP
namespace PySem.W.Fast
abbrev N:=Nat
def tw17723742628977642586:=N
def tw17077415692226883187:=N
def tw11791471446389890303:=N
def tw8885545840218588731:=N
def tw12601562964864474984:=N
def tw17461582885022546691:=N
def tw235735057799846141:=N
def tw11818332010398010506:=N
def tw2204981963469484465:=N
def tw15418850721865626433:=N
def tw10444385652322540734:=N
def tw13314834005777318921:=N
def tw13704115462631185890:=N
def tw1452279592506307916:=N
def tw14218337456818604837:=N
def tw3707743207022775782:=N
def tw8485766639483576344:=N
def tw16298581349921417716:=N
def tw18193876351112156769:=N
def tw17098754773196491651:=N
def tw12320112122083074042:=N
def tw15276787745800613980:=N
def tw544926449760397020:=N
def tw2120544350693240149:=N
def tw2730849381521262574:=N
def tw10037111276181136327:=N
def tw16574386830184180437:=N
def tw17766775989575125699:=N
def tw5005642647359175343:=N
def tw3307534832764961095:=N
def tw490384337300170032:=N
def tw11791917846339599120:=N
def tw6169170737354569972:=N
def tw15553837507920107735:=N
def tw17485295571217377930:=N
def tw5430278541969788858:=N
def tw5739012055262592126:=N
def tw17518558792013034809:=N
def tw3566879979748198132:=N
def tw14059134767531269668:=N
def tw10786743177821042738:=N
def tw17973768297220604517:=N
def tw12691286132117922940:=N
def tw1953931897092702628:=N
def tw12124667737241556185:=N
def tw10916919289026118100:=N
def tw1222566335878127839:=N
def tw1337871909013126583:=N
def tw14049112452106187512:=N
def tw57580946511685359:=N
def tw18007494811464325309:=N
def tw2985333388157317664:=N
def tw7430843521528435550:=N
def tw1646434339252234080:=N
def tw10872124122158844986:=N
def tw5306881196948108755:=N
def tw15505635400821519662:=N
def tw4554842737472604596:=N
def tw5363078316602453163:=N
def tw12300534898121302248:=N
def tw2816264744747677801:=N
def tw1636967070353883005:=N
def tw13070557561108761320:=N
def tw2661204139249469822:=N
def tw15482269938346475618:=N
def tw9909517602502379208:=N
def tw2309718807484385211:=N
def tw1726611950269836890:=N
def tw16769038648330925260:=N
def tw4274046499645620088:=N
def tw14055670505214253397:=N
def tw1544822719921104413:=N
def tw11655832148098374659:=N
def tw15777175176400909065:=N
def tw2855029080203167183:=N
def tw2712931368236774157:=N
def tw1241044257500320120:=N
def tw6801207717715852382:=N
def tw16933199730231592381:=N
def tw10423087538679034831:=N
def tw11197938562592505252:=N
def tw11417330403968785380:=N
def tw10422247115423226848:=N
def tw3746187330599868529:=N
def tw15297060268542057159:=N
def tw5646971939341796966:=N
def tw14846869808868030184:=N
def tw7849097448644026081:=N
def tw7543105161220071478:=N
def tw3785305586204969617:=N
def tw13339066310850996954:=N
def tw14813952347583153573:=N
def tw7229551519055223919:=N
def tw9987321728137421440:=N
def tw2593506714242011638:=N
def tw1689504761135756519:=N
def tw11793763148396473475:=N
def tw17317084481008845434:=N
def tw665997737358703354:=N
def tw3349201468531810622:=N
def tw13662885878951657812:=N
def tw10453038842908035911:=N
def tw11924999038280606866:=N
def tw5830989546787724502:=N
def tw15288470841217039890:=N
def tw10991373233270366154:=N
def tw2965243161278389409:=N
def tw3608687422602585411:=N
def tw4222485796474164796:=N
def tw226570409811980476:=N
def tw14308052873183103042:=N
def tw18312403112080575236:=N
def tw3571290970344618028:=N
def tw18150537205659116878:=N
def tw191033252505259383:=N
def tw10490321634090276477:=N
def tw10832746519205440920:=N
def tw7314095265457802557:=N
def tw16721622933703103043:=N
def tw12391187011473872643:=N
def tw9561747006380475622:=N
def tw12157911851773974154:=N
def tw803165671124765009:=N
def tw5592980101225046981:=N
def tw13901491783201769256:=N
def tw4779814884635667501:=N
def tw973516609786041523:=N
def tw7482915759363418353:=N
def tw8014045333467266969:=N
def tw6185323006773411221:=N
def tw7606196526136546302:=N
def tw13060728170276848594:=N
def tw5843822837970236431:=N
def tw12278553583894406040:=N
def tw16260579649406379974:=N
def tw10560002485395878479:=N
def tw3410190411946827823:=N
def tw10079065008835059509:=N
def tw4624218207859796785:=N
def tw688078530754309624:=N
def tw2008616148122297431:=N
def tw10862576295143340262:=N
def tw12345017723572458090:=N
def tw5416095131817395250:=N
def tw17490488989794974687:=N
def tw15490000777106600943:=N
def tw10159997888314768001:=N
def tw17047185839203588885:=N
def tw15311466624239100999:=N
def tw10684348143740090930:=N
def tw5625233060731750877:=N
def tw13749175711460878417:=N
def tw8264294300827801724:=N
def tw4703407238626716312:=N
def tw7052538209457178909:=N
def tw4150995361252769498:=N
def tw7842381208211144629:=N
def tw11270527464013584362:=N
def tw17431789909881848323:=N
def tw13930239428343516695:=N
def tw16624617593140671364:=N
def tw11252547410471490269:=N
def tw5594120203555621922:=N
def tw16827864754603696778:=N
def tw3073780480474764201:=N
def tw15129825068482466912:=N
def tw12022389788766601017:=N
def tw10674923940605955209:=N
def tw4769136573463305325:=N
def tw13297159115989876766:=N
def tw12044226598229018837:=N
def tw6249862078237979628:=N
def tw9716565581075596827:=N
def tw1560318591170613769:=N
def tw15946054612166818633:=N
def tw433435804163876521:=N
def tw1703054451594042208:=N
def tw4544914063580093662:=N
def tw17683844081661013992:=N
def tw3405743499097123524:=N
def tw15157867967898852611:=N
def tw2810560531833613211:=N
def tw14401655605328849605:=N
def tw5312613183151803626:=N
def tw15226795282680605667:=N
def tw8708718972931050065:=N
def tw15529151524924049156:=N
def tw16052137027276029597:=N
def tw14258240616445439655:=N
def tw11087255111114271556:=N
def tw9773036482883520777:=N
def tw915488662801612703:=N
def tw7245196442890306936:=N
def tw7197022330364317007:=N
def tw624742363579702845:=N
def tw6072156918410354346:=N
def tw5759093116570441390:=N
def tw5149349875513546207:=N
def tw4784681367545843784:=N
def tw4543281149816021137:=N
def tw4499770640545434552:=N
def tw4032324221650693401:=N
def tw3903950250460460548:=N
def tw3759204709877841603:=N
def tw3277882634755673952:=N
def tw2952187176128851648:=N
def tw2193015449054549597:=N
def tw2189973567268086729:=N
def tw18310429808981520515:=N
def tw18122624363756899191:=N
def tw17375676092113047374:=N
def tw16340241583664179466:=N
def tw16030579204274319994:=N
def tw15901106036517520457:=N
def tw15419070914487972953:=N
def tw14526085974694309953:=N
def tw13939922539281543674:=N
def tw13707993456083559583:=N
def tw13423109907245533172:=N
def tw13282184404948977753:=N
def tw13184356980716038455:=N
def tw1310228551160875589:=N
def tw12932287398168719754:=N
def tw12203349605025052750:=N
def tw12096976300640697314:=N
def tw11912701218347195115:=N
def tw11605596538621849344:=N
def tw11526251669385215132:=N
def tw11419917732930647477:=N
def tw1128734139308283045:=N
def tw11070535370624908218:=N
def tw10051121485031596999:=N
def tw3105731729069916918:=N
def tw12558078721219374197:=N
def tw11809921191508441037:=N
def tw9183933827553347394:=N
def tw724865747009734476:=N
def tw18272112652919060335:=N
def tw7960246560536462985:=N
def tw8886145818778852462:=N
def tw701704855084761219:=N
def tw6984946420812943665:=N
def tw6347019310781840059:=N
def tw494458272952784669:=N
def tw4261970478498469879:=N
def tw4182592774850068527:=N
def tw4009869814175772646:=N
def tw2721987115054331703:=N
def tw2717169170126728282:=N
def tw2526635079597199983:=N
def tw2242827514174186659:=N
def tw1867809218515836838:=N
def tw16810533817177478156:=N
def tw14210455421366432226:=N
def tw10456457724996274891:=N
def tw10225058904387272857:=N
def tw4729759269390943212:=N
def tw3242071474388818917:=N
def tw1806119452792786151:=N
def tw6962002152078027108:=N
def tw9811579316294447514:=N
def tw401694041621910596:=N
def tw15618527220932879887:=N
def tw8458226457070996780:=N
def tw16959785686365189232:=N
def tw15366366205704433850:=N
def tw14036327683132060375:=N
def tw15602070067009636357:=N
def tw11935761977598188867:=N
def tw7610058841857490795:=N
def tw13897265590885248146:=N
def tw9610816720004842604:=N
def tw6572002535287548251:=N
def tw6195501191231638476:=N
def tw550700908680927030:=N
def tw3258477186958852473:=N
def tw2952769218769006077:=N
def tw2465042811936929987:=N
def tw15653880579327777290:=N
def tw14836806985712005234:=N
def tw12282033503683213351:=N
def tw11684898797583882749:=N
def tw10986832776798466450:=N
def tw10969475541933707277:=N
def tw6389589996318149822:=N
def tw4939285272530325565:=N
def tw3384511520763104066:=N
def tw17326637770371411140:=N
def tw16865986987287996458:=N
def tw10672545841673263150:=N
def tw18151363224337893020:=N
def tw955059894164112655:=N
def tw7945146704767363185:=N
def tw7292220450576648129:=N
def tw5037935951413265907:=N
def tw239377373827237514:=N
def tw17427120045630106959:=N
def tw13847720441270179413:=N
def tw12537878010276485375:=N
def tw12438265370535749270:=N
def tw11064152804762594463:=N
def tw6761465137060967753:=N
def tw17174935059393840490:=N
def tw16896652275280025750:=N
def tw16625715235567371145:=N
def tw16223431135947040726:=N
def tw12104951163517897743:=N
def tw9853472661846197190:=N
def tw3359183580162029273:=N
def tw9761794281502167243:=N
def tw13669653226890353917:=N
def tw10942938376679609854:=N
def tw10849591400442511305:=N
def tw16710222150218402352:=N
def tw12515077711500528385:=N
def tw1067434742843087879:=N
def tw8111956314627458730:=N
def tw7906595883591203561:=N
def tw17265727180042815451:=N
def tw6168680406716933014:=N
def tw4551006419417187435:=N
def tw2663689588743008001:=N
def tw2593620258055284014:=N
def tw16030942579590698535:=N
def tw14420262890109265962:=N
def tw123105999857012222:=N
def tw12298059163714360710:=N
def tw15817750902787026896:=N
def tw5831882702009748580:=N
def tw16846414149146093356:=N
def tw1520175310523543558:=N
def tw14420375347070957191:=N
def tw11853398979280585332:=N
def tw11552951936859071170:=N
def tw11361933386847598193:=N
def tw11069218452870419814:=N
def tw10849470284923022744:=N
def tw10653347916013658031:=N
def tw12571783003731402398:=N
def tw16088917571309285595:=N
def tw11428590151057130074:=N
def tw8665061396903185957:=N
def tw858020972364004095:=N
def tw8241708341215081605:=N
def tw794673833631664576:=N
def tw562686692376927290:=N
def tw4971518425576601271:=N
def tw4606709876279574527:=N
def tw2038935264642734812:=N
def tw16534345724283382036:=N
def tw14513012910765915300:=N
def tw14024193371191983227:=N
def tw9979116369433516509:=N
def tw9467287168950847059:=N
def tw5709747403751048598:=N
def tw17917930187324361380:=N
def tw16625205924345131380:=N
def tw17349325986078452378:=N
def tw12811135568937568960:=N
def tw9868134805754118117:=N
def tw9255419588465894663:=N
def tw8195776061608748473:=N
def tw7785621138804261558:=N
def tw7246417712101759136:=N
def tw7069722787052229097:=N
def tw5960857383635490623:=N
def tw5130103911421564539:=N
def tw472479527610844520:=N
def tw4382687766388624489:=N
def tw3125227555872968200:=N
def tw3034950025596822038:=N
def tw2698174408563192481:=N
def tw15019472719792536382:=N
def tw14643956582239795790:=N
def tw14439800517460700909:=N
def tw13321743884757633135:=N
def tw13093170649058925944:=N
def tw12904316741049831329:=N
def tw12808904843684202850:=N
def tw11821548320964409073:=N
def tw11276271708673923212:=N
def tw9932141752970825204:=N
def tw9345255636997784266:=N
def tw6499183205048979073:=N
def tw14584767502420244302:=N
def tw1331984928177741001:=N
def tw12370858304848002969:=N
def tw1223653527118840315:=N
def tw11185459468233979399:=N
def tw10656651024085242349:=N
def tw9970146995645565800:=N
def tw9577635189489883087:=N
def tw9037316260737030505:=N
def tw7979689072917944995:=N
def tw6915440425741591255:=N
def tw681316642090981378:=N
def tw6045632155461963351:=N
def tw5327232026708419911:=N
def tw4141735589806795342:=N
def tw4121430583957315079:=N
def tw3370702427781131321:=N
def tw2187987301555215737:=N
def tw18005787155532799182:=N
def tw15861756738350158624:=N
def tw15498194278087051929:=N
def tw14510869568295495147:=N
def tw126095298475479258:=N
def tw1177348825524498945:=N
def tw11095100552439975730:=N
def tw9147280807661713382:=N
def tw4974482882456210663:=N
def tw4391300963979105860:=N
def tw3568971800243663572:=N
def tw3260102530969558137:=N
def tw18421652845302968612:=N
def tw17805789389618458549:=N
def tw16059384831828635128:=N
def tw14471668685365049330:=N
def tw11629900503079944255:=N
def tw526922617913712738:=N
def tw839688315528579246:=N
def tw8187902782432998060:=N
def tw7111533421639810510:=N
def tw4604564540235878324:=N
def tw4577637910828140500:=N
def tw4486362172659203299:=N
def tw17177237401755780392:=N
def tw16923927035178481400:=N
def tw15160947000611981087:=N
def tw14677514384923882517:=N
def tw9942645265464143164:=N
def tw9872746841616408273:=N
def tw949261214905970935:=N
def tw94784823071998905:=N
def tw8998673207924761675:=N
def tw8919899275649313044:=N
def tw8862717181295822494:=N
def tw8850408230994135538:=N
def tw8596985411475045914:=N
def tw8550824860400353668:=N
def tw8483527350520010708:=N
def tw8195375567509992897:=N
def tw80417688011740171:=N
def tw8034774787392026086:=N
def tw792227804887877731:=N
def tw7894926491454738529:=N
def tw7849574397099803752:=N
def tw7838260203552847502:=N
def tw7567959913720998748:=N
def tw7475565914963363681:=N
def tw7220618671370791283:=N
def tw7006867050396951095:=N
def tw6871244895830794310:=N
def tw6830989493177741584:=N
def tw6801826869398267385:=N
def tw6706166253042885785:=N
def tw6341977063712227042:=N
def tw6194485334233061891:=N
def tw6115364244610450378:=N
def tw6069934107144995112:=N
def tw6035939915629022330:=N
def tw5971466243690364518:=N
def tw5944544145939985880:=N
def tw590421312374251081:=N
def tw5867793928527430984:=N
def tw5728672462150288718:=N
def tw5680617537804176150:=N
def tw5231934516265628183:=N
def tw5128665546162517869:=N
def tw493903519145445370:=N
def tw4634484132267607514:=N
def tw4600148054221718249:=N
def tw4411286797749466780:=N
def tw4250939734246213809:=N
def tw4037686892161309534:=N
def tw3871568137303557222:=N
def tw3272678588604604007:=N
def tw314538957416741760:=N
def tw3072051083412010127:=N
def tw2933839653694557930:=N
def tw2775711028779645046:=N
def tw2735905601927028442:=N
def tw2547455915574133927:=N
def tw2502761801148805565:=N
def tw2443521654478865340:=N
def tw2179834783618461936:=N
def tw2104489596585551387:=N
def tw2091889588266417594:=N
def tw1924590885574523335:=N
def tw18269930093150125059:=N
def tw18009797107658188166:=N
def tw17984621005357251833:=N
def tw17937148401197359386:=N
def tw17877013250150129444:=N
def tw17771547755328735213:=N
def tw17731197409093315064:=N
def tw17502700258289225740:=N
def tw17486509867588355115:=N
def tw17438535103234289375:=N
def tw17171400366519570541:=N
def tw17156704034483211255:=N
def tw16992202667790072616:=N
def tw16947302779071442943:=N
def tw16779175777825905106:=N
def tw16672756547414927369:=N
def tw16570382468018451511:=N
def tw16402510604727017487:=N
def tw16303366548833689289:=N
def tw16048436840178425832:=N
def tw15972278578631259924:=N
def tw15684802902500805864:=N
def tw15560669879428735085:=N
def tw15535189656735301873:=N
def tw15504576573030166169:=N
def tw15468940368436679411:=N
def tw15400969323095194117:=N
def tw15311689599016782063:=N
def tw15012061762513076275:=N
def tw14893826761666134670:=N
def tw14705833909047626338:=N
def tw14670687009975366115:=N
def tw14525722539564284608:=N
def tw14439484130088887844:=N
def tw14294603083889321714:=N
def tw14260670256068548133:=N
def tw14195888793583622552:=N
def tw14155900642595952883:=N
def tw14068836976094247994:=N
def tw14064090675760046648:=N
def tw14023852179305037072:=N
def tw13765369546211035540:=N
def tw13743301072950350025:=N
def tw13691130522378143855:=N
def tw13627054071773792124:=N
def tw13314502675115351200:=N
def tw12772511866219507443:=N
def tw12716403902437267370:=N
def tw12634858440348591992:=N
def tw1255603591461417668:=N
def tw1235673775854668102:=N
def tw12354389029339508609:=N
def tw12342544846757476514:=N
def tw12256698214407269385:=N
def tw12230814370801423216:=N
def tw12212751342032351159:=N
def tw12208579629345315071:=N
def tw12085553377054785677:=N
def tw12061430662667164382:=N
def tw11881568353661388313:=N
def tw11748969391887398230:=N
def tw1156840044835339401:=N
def tw11516252448745992541:=N
def tw11362341417186187427:=N
def tw11194077274397802292:=N
def tw11138051105863171818:=N
def tw11083858691859803063:=N
def tw10856668282300455928:=N
def tw10599315053354638934:=N
def tw10522394649648803802:=N
def tw10520445100106806780:=N
def tw10511998092338043360:=N
def tw10428941912279135279:=N
def tw1006273896008464075:=N
def tw10047874006980336680:=N
def tw10026402200280705413:=N
def tw9856098142791970460:=N
def tw9794466752632723798:=N
def tw9693977152361176370:=N
def tw9689743504351314114:=N
def tw9481431058158170355:=N
def tw9460645616936011231:=N
def tw9443402533912542774:=N
def tw936402128829672519:=N
def tw8802875554474769480:=N
def tw8799925879853767247:=N
def tw8578215538382655591:=N
def tw8030827973956348911:=N
def tw7896781986111554833:=N
def tw7573788608695934703:=N
def tw7504458324332277382:=N
def tw7493103305995638710:=N
def tw7440429107345701504:=N
def tw740397516020029936:=N
def tw7264933513717350129:=N
def tw6757697033759635698:=N
def tw6375725948909759068:=N
def tw6365019092909740778:=N
def tw6299986166823451365:=N
def tw6178936652358580212:=N
def tw539177958716298048:=N
def tw516932917885951454:=N
def tw509826444650807248:=N
def tw4922364020325552606:=N
def tw4824819945562856171:=N
def tw4645836112947943143:=N
def tw4596680184564047709:=N
def tw453482483162527518:=N
def tw4317831296389035548:=N
def tw4294556031313919374:=N
def tw4196564876463482190:=N
def tw3947697640803195090:=N
def tw3751387332323979874:=N
def tw3242656350497859118:=N
def tw3061557716702782051:=N
def tw3045018654758437100:=N
def tw2832515214193208814:=N
def tw2008252629495516640:=N
def tw18265814185671171725:=N
def tw18198422493043742836:=N
def tw180762868720489405:=N
def tw17862684561419545742:=N
def tw17862138862508978155:=N
def tw17751866691277710292:=N
def tw17170768127553071650:=N
def tw16592789836514561039:=N
def tw16241778013794546315:=N
def tw15858898911004376290:=N
def tw15766278965098943156:=N
def tw15573319195706442411:=N
def tw15123617764168890459:=N
def tw15052648304855931002:=N
def tw14913616981314656475:=N
def tw14857687950964846683:=N
def tw1468704145864983838:=N
def tw14649538698197327665:=N
def tw14483676136654373280:=N
def tw14368771149104880019:=N
def tw14066324335791044947:=N
def tw1382903684475931196:=N
def tw13472158194733578726:=N
def tw13210653604979849199:=N
def tw13206210323736268291:=N
def tw13183995807971065360:=N
def tw13076609052619306573:=N
def tw12624331010097827735:=N
def tw12598363301759022220:=N
def tw12048640645978510615:=N
def tw11873365813180781581:=N
def tw11420919314121268123:=N
def tw10502912276410062608:=N
def tw10319882406056640814:=N
end PySem.W.Fast
open PySem PySem.W PyProof.Rows
set_option maxRecDepth 100000 in
set_option maxHeartbeats 0 in
theorem PySem.Challenge.cw_slanttables_k18_right_sides_holds : PySem.Challenge.rw_slanttables_k18_right_sides.Holds := by
  w_on;o_law;k_head;(case hw=>w_witness2)
  k_fill
  refine LP.G.V9.W.E8.walk (l:=PySem.Challenge.rw_slanttables_k18_right_sides) rfl rfl (λw h Y=>PySem.W.kIn_of Y) ?F
  case F=>
    intro w mg fa h KX G hmg;refine LP.G.V9.W.E8.all_mk ?_ hmg;constructor
    all_goals first
      |(refine' LP.mkF KX G ?a ?l ?c ?k;(case a=>k_is);(case l=>k_is);(case c=>k_is);(case k=>k_is))
      |(refine' mg_none_of KX G ?a;case a=>k_is)
      |(refine' LP.mkC KX G ?a;case a=>k_is)
      |(refine' LP.mkI KX G ?a;case a=>k_is)
      |(refine' LP.mkT KX G ?a ?l;(case a=>k_is);(case l=>k_is))
      |(refine' LP.mkXF KX G ?a ?lc ?ni ?yq ?l ?c ?k;(case a=>k_is);(case lc=>k_is);(case ni=>k_is);(case l=>k_is);(case c=>k_is);(case k=>k_is);(case yq=>kernel_rfl))
      |(refine' LP.mkX KX G ?a ?e;(case a=>k_is);(case e=>k_exc))
      |(refine' LP.mkH KX G ?a ?e ?_;(case a=>k_is);(case e=>k_exc);intro n hn;simp only[LP.LX,LP.LX5,Yao,da,or_false] at hn;first|(rcases hn with rfl|rfl|rfl|rfl|rfl|rfl|rfl|rfl|rfl|rfl|rfl<;>(refine' LP.exD ?a ?b;(case a=>k_is);(case b=>k_is)))|(rcases hn with rfl|rfl|rfl|rfl|rfl|rfl<;>(refine' LP.exD ?a ?b;(case a=>k_is);(case b=>k_is)))|(rcases hn with rfl|rfl|rfl<;>(refine' LP.exD ?a ?b;(case a=>k_is);(case b=>k_is)))|(subst hn;refine' LP.exD ?a ?b;(case a=>k_is);(case b=>k_is)))
      | (refine ⟨λn hn=>?_⟩;simp only [LP.LX,LP.LX5,Yao,da,or_false] at hn;rcases hn with rfl | rfl | rfl | rfl | rfl | rfl | rfl | rfl | rfl | rfl | rfl<;>
         (refine' LP.exX ?a (LP.clsX_of ?g ?n ?b ?h ?c ?d ?t ?o) ?k ?_;(case a=>k_is);(case g=>k_is);(case n=>k_is);(case b=>k_is);(case h=>k_is);(case c=>k_is);(case d=>k_is);(case t=>k_is);(case o=>k_is);(case k=>kit_is)
          intro m hm;simp only[LP.MX,LP.LX,Yao,da,or_false] at hm;rcases hm with rfl|rfl|rfl|rfl|rfl|rfl|rfl|rfl|rfl<;>
           (refine' LP.exC ?a ?b;(case a=>k_is);(case b=>first|(refine Eq.trans (b:=some true) ?_ (by decide +kernel);kit_is)|(refine Eq.trans (b:=some false) ?_ (by decide +kernel);kit_is)))))
