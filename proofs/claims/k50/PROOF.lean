import PyProof.Rows.All
import Wide.All
import OpenK.AllK
import Wide.FinOn
import PySem.Challenge.RW_slanttables_k50_sign_papers
set_option genSizeOf false
set_option genInjectivity false
set_option compiler.extract_closed false
set_option Elab.async false
set_option linter.all false
set_option maxRecDepth 100000
set_option exponentiation.threshold 2000
set_option maxHeartbeats 8000000
def ks:=@if_neg
def oI:=@if_pos
def dm:=@PySem.Heap.lt_size
def da:=@Nat.lt_of_lt_of_le
def iK:=@Nat.lt_irrefl
def Aa:=@Array.append_assoc
def gK:=@Nat.ne_of_lt
def xI:=@Nat.lt_trans
def Yag:=@List.mem_filter
def Yah:=@List.mem_range
def gU:=@Nat.le_trans
def kO:=@Nat.le_of_lt
def xJ:=@List.filterMap_cons
def kP:=@List.mem_cons_self
def ip:=@List.mem_cons_of_mem
def Yan:=@List.mem_cons
def Yao:=@List.mem_append
def Ab:=@List.mem_append_left
def Yaq:=@List.getElem?_eq_some_iff
def dq:=@List.getElem?_set_self
def cO:=@List.getElem?_set_ne
def xK:=@Array.length_toList
def dB:=@PySem.Heap.get?_push_of_some
def jK:=@Bool.false_ne_true
def xL:=@Nat.ne_of_gt
def tM:=@Bool.false_and
def ia:=@PySem.Heap.get?_push_size
def cF:=@Nat.le_refl
def YaA:=@List.mem_filterMap
def iM:=@List.mem_append_right
def gM:=@Bool.eq_iff_iff
def eu:=@List.size_toArray
def pP:=@List.append_nil
def YaF:=@List.nodup_cons
def xM:=@List.of_mem_zip
def jL:=@List.length_take
def jZ:=@List.getElem?_append_right
def mz:=@List.getElem?_replicate
def kQ:=@List.getElem?_append_left
def cH:=@List.getElem?_map
def Ac:=@List.getElem?_take_of_lt
def jy:=@List.mem_of_getElem?
def dG:=@List.length_append
def bG:=@List.length_map
def nO:=@List.length_replicate
def iN(n:Nat):(n:Int).toNat=n:=rfl
def kR:=@List.length_drop
def dQ:=@Bool.and_eq_true
def xN:=@PySem.Heap.get?_update_self
def rz:=@PySem.Heap.get?_update_other
def cU:=@List.length_set
def rC:=@List.all_cons
def xO:=@List.any_cons
def gW{α}{a:α}{n}:List.replicate (n+1) a=a::List.replicate n a:=rfl
def qB:=@List.flatten_cons
def lx:=@List.append_assoc
def j9:=@List.length_singleton
def nQ:=@Nat.succ_mul
def dC{α}(l:List α):[]++l=l:=rfl
def gX:=@List.map_nil
def cR:=@List.map_cons
def nR:=@List.lookup_cons
def tN:=@Bool.not_eq_true'
def Ad:=@List.forIn_cons
def dD:=@Bool.false_eq_true
def rD:=@Option.map_some
def nS:=@PySem.Heap.size_push
def Ybd:=@List.all_eq_true
def Ae:=@Bool.or_eq_true
def Af:=@Nat.le_of_succ_le
def fS:=@Nat.lt_or_ge
def bN:=@List.getD_eq_getElem?_getD
def iq:=@Nat.zero_le
def qC:=@List.ext_getElem?
def jM:=@List.getElem?_range
def eD:=@List.getElem?_eq_none
def xP:=@List.reverse_cons
def uK:=@List.length_reverse
def Ybo:=@Array.getElem?_eq_some_iff
def eA:=@List.not_mem_nil
def Ybq:=@Bool.eq_false_iff
def xQ:=@Int.toNat_of_nonneg
def ke:=@List.length_range
def bJ:=@List.getElem?_eq_getElem
def gu:=@List.getElem_mem
def Ybv:=@List.mem_iff_getElem
def pQ:=@List.drop_zero
def nU:=@List.drop_eq_getElem_cons
def tO:=@List.drop_of_length_le
def nV:=@List.length_zipWith
def d8{α}{a:α}{l:List α}:(a::l).length=l.length+1:=rfl
def lZ:=@Nat.pow_le_pow_right
def Ag:=@Int.mul_ediv_cancel_left
def eW:=@Int.natAbs_mul
def mB(n:Nat):(n:Int).natAbs=n:=rfl
def kS:=@Nat.pow_add
def xR:=@Nat.pow_pos
def mC:=@Nat.mul_le_mul_right
def Ah:=@Nat.mul_ne_zero
def tP:=@Nat.pow_succ
def qD:=@Int.natAbs_add_le
def Dl:=@Int.sign_eq_neg_one_of_neg
def ir:=@Rat.div_def
def Ai:=@Rat.num_intCast
def Aj:=@Rat.den_intCast
def Ak:=@Nat.one_lt_two_pow
def YbQ:=@List.mem_map
def Al:=@Int.gcd_pos_of_ne_zero_right
def xT:=@Int.neg_mul_neg
def xW:=@Int.mul_fdiv_cancel_left
def uL:=@Bool.and_true
def cY:=@List.map_map
def iO:=@List.map_congr_left
def xX:=@List.map_id
def xY:=@Rat.num_divInt_den
def uM:=@List.countP_cons
def xZ:=@List.getElem_map
def kT{α}:([]:List α).length=0:=rfl
def i6{α}{a:α}{l k:List α}:(a::l)++k=a::(l++k):=rfl
def db{α}{a:α}{l:List α}:(a::l)[0]? = some a:=rfl
def de{α}{a:α}{n:Nat}{l:List α}:(a::l)[n+1]? = l[n]? :=rfl
def eX{α}{a b:α}{l:List α}:(a::l).set 0 b=b::l:=rfl
def eY{α}{a b:α}{n}{l:List α}:(a::l).set (n+1) b=a::l.set n b:=rfl
def l0:=@List.replicate_zero
def uN:=@List.all_map
def Dm:=@Int.fmod_eq_emod_of_nonneg
def eP:=@Bool.not_true
def tQ:=@Bool.true_and
def rE:=@Nat.lt_of_le_of_lt
def Am:=@Rat.divInt_ofNat
def nW:=@Rat.add_zero
def An{α}{β}{γ}{f:α->β->γ}{a b l k}:List.zipWith f (a::l) (b::k)=f a b::List.zipWith f l k:=rfl
def ya:=@Nat.min_eq_left
def yb:=@Int.fdiv_eq_ediv_of_nonneg
def qE:=@List.map_drop
def nX:=@List.map_take
def mD:=@List.mem_of_mem_drop
def pR:=@List.mem_of_mem_take
def rF:=@List.map_reverse
def Ao:=@Int.fmod_nonneg_of_pos
def jz:=@List.map_append
def Ycp:=@List.mem_reverse
def yc:=@List.map_replicate
def Ycr:=@List.mem_replicate
def rG:=@List.map_set
def rH:=@List.mem_or_eq_of_mem_set
def mE:=@List.mem_map_of_mem
def l5:=@Bool.not_false
def Ycw:=@List.mem_singleton
def Ycx:=@Rat.num_eq_zero
def rJ:=@Int.mul_ne_zero
def uO:=@Rat.divInt_mul_divInt
def uP:=@Int.mul_comm
def uQ:=@Rat.divInt_mul_right
def jA:=@Rat.zero_mul
def tR:=@Nat.mul_lt_mul''
def Aq:=@Int.natAbs_sub_le
def tS:=@List.getElem_zipWith
def uR:=@List.map_zipWith
def yd:=@Nat.lt_succ_of_lt
def tT:=@List.filter_cons
def ye:=@Rat.mul_one
def Ar:=@List.getElem?_set
def qF:=@Rat.mul_inv_cancel
def rK:=@Nat.sub_self
def YcN:=@List.pairwise_append
def YcO:=@List.pairwise_cons
def uS:=@List.getD_cons_zero
def As:=@List.getD_cons_succ
def yf:=@Rat.intCast_add
def tU:=@Rat.one_mul
def YcT:=@List.length_filter_lt_length_iff_exists
def YcU:=@Rat.mul_eq_zero
def tV:=@Rat.mul_nonneg
def l6:=@Nat.mul_le_mul
def ic:=@Rat.intCast_mul
def qG:=@Rat.intCast_sub
def yg:=@Rat.divInt_eq_div
def At:=@List.length_pos_of_mem
def Yc1:=@List.pairwise_iff_getElem
def Do:=@List.eraseIdx_eq_take_drop_succ
def Au:=@List.ext_getElem
def Yc4:=@List.mem_eraseIdx_iff_getElem?
def yh:=@Nat.lt_trichotomy
def Av:=@List.length_eraseIdx_of_lt
def yi:=@List.length_filter_le
def Aw:=@Nat.not_lt_zero
section
open PySem PySem.Spec PyProof.Rows PySem.W
def Na:=@wpAny_bind
abbrev Nb:=PySem.W.Frag
def Nc:=@wpAny_pure
def Nd:=@absurd
def Nf:=@decide_eq_true_eq
def Ng:=@Option.some.inj
def Nh:=@decide_eq_true
def Ni:=@decide_eq_false
def Nj:=@boot_isinstance
def Nk:=@wpAny_mono
def Nl:=@PySem.mem_of_lookup
def Nm:=@Ne.symm
def Nn:=@wpAny_field
def Np:=@boot_len
def Nq:=@wpAny_newObj_type
def Nr:=@False.elim
def Nt:=@boot_tuple
def Nu:=@beq_self_eq_true
def Nv:=@wpAny_truthy_bool
def Nw:=@wpAny_standAt
def Nx:=@wpAny_call_entry
def Ny:=@wpAny_seqItems
def Nz:=@wpAny_setField_rec
def NA:=@wpAny_passesOwn
def NB:=@of_decide_eq_true
def NC:=@wpAny_holding
def ND:=@wpAny_rule
def NE:=@beq_iff_eq
def NF:=@boot_list
def NG:=@wpAny_execs_nil
def NH:=@wpAny_Call_Name_kw
def NI:=@wpAny_comprehension_free
def NJ:=@wpAny_setField
def NK:=@wpAny_pyIter_list
def NM:=@wpAny_updateSeq_pair
def NN:=@beq_eq_false_iff_ne
def NO:=@boot_int
def NP:=@wpAny_onRaise
end
namespace L2
open PySem PySem.Spec PyProof.Rows
variable{κ:Type}{a b it dx:Addr}{o:Obj}{P:Program}{w:World}{h h':Heap}{x name qual:Str}{e c tg:Expr}{sa:List (Addr×Obj)}{s s':Shared}{g':Array GenState}{t' i j k n:Nat}{d':Drawn}{ch fp:List Addr}{N ps:List Str}{A:Around}{Q:Value->Shared->Prop}{f:Value->Value->Sem Value}{pos pos' tpos p:Pos}{K:Nb}{es:List Expr}{g:Int->Int->Int}{op:CmpOp}{body:List Stmt}{us:List Value}{mA mg:Str->Option Value}{fd:FuncData}{scope:Scope}{osl:Array (Option Value)}
abbrev j0:=Sum Int Str
def qH:j0->Value->Bool
 |.inl k,v=>Value.isInt k v|.inr x,v=>Value.isStrOf x v
def Ax(w:World):j0->Int
 |.inl k=>hashInt k|.inr x=>hashStr w x
theorem bK:∀{k:j0} {v:Value},qH k v=true->(∃i t,k=Sum.inl i/\v=Value.int i t)\/(∃x t,k=Sum.inr x/\v=Value.str x t)
 |.inl i,v,h=>by obtain⟨t,e⟩:=Value.isInt_shape (k:=i) (v:=v) h;exact .inl ⟨i,t,rfl,e⟩
 |.inr x,v,h=>by obtain⟨t,e⟩:=Value.isStrOf_shape (x:=x) (v:=v) h;exact .inr ⟨x,t,rfl,e⟩
theorem rL(a b:Int):decide ((Sum.inl a:j0)=Sum.inl b)=(a==b):=by by_cases e:a=b;subst e;simp;have h:¬(Sum.inl a:j0)=Sum.inl b:=λq=>e (Sum.inl.inj q);rw[Ni h];exact(beq_eq_false_iff_ne.mpr e).symm
theorem rM(a b:Str):decide ((Sum.inr a:j0)=Sum.inr b)=decide (a=b):=by by_cases e:a=b;subst e;simp;have h:¬(Sum.inr a:j0)=Sum.inr b:=λq=>e (Sum.inr.inj q);rw[Ni h,Ni e]
def rN(a:Int)(b:Str):decide ((Sum.inl a:j0)=Sum.inr b)=false:=Ni<|λq=>nomatch q
def rO(a:Str)(b:Int):decide ((Sum.inr a:j0)=Sum.inl b)=false:=Ni<|λq=>nomatch q
def i7(prog:Program)(w:World):PySem.KeyKind prog w j0 where
 is:=qH
 hash:=Ax w
 inj:=λv a b ha hb=>by
  rcases bK ha with⟨i,t,rfl,rfl⟩|⟨x,t,rfl,rfl⟩
  rcases bK hb with⟨j,u,rfl,e⟩|⟨y,u,rfl,e⟩
  injection e with e1 _;rw[e1]
  exact nomatch e;rcases bK hb with⟨j,u,rfl,e⟩|⟨y,u,rfl,e⟩
  exact nomatch e;injection e with e1 _;rw[e1]
 byValue:=λk v h=>by rcases bK h with⟨i,t,rfl,rfl⟩|⟨x,t,rfl,rfl⟩<;>rfl
 pyHash:=λhv h=>by
  rcases bK hv with⟨i,t,rfl,rfl⟩|⟨x,t,rfl,rfl⟩
  exact wpAny_pyHash_int h;exact wpAny_pyHash_str h
 eqBool:=λhu hv h=>by
  rcases bK hu with⟨i,t,rfl,rfl⟩|⟨x,t,rfl,rfl⟩
  rcases bK hv with⟨j,u,rfl,rfl⟩|⟨y,u,rfl,rfl⟩
  rw[rL]at h;exact wpAny_eqBool_int h;rw[rN]at h;exact SeqAt.EqAt.int_str i t y u _ _ _ _ h;rcases bK hv with⟨j,u,rfl,rfl⟩|⟨y,u,rfl,rfl⟩
  rw[rO]at h;exact SeqAt.EqAt.str_int x t j u _ _ _ _ h;rw[rM]at h;exact wpAny_eqBool_str h
 «strs»:=λk x t v h=>by
  rcases bK h with⟨i,u,rfl,e⟩|⟨y,u,rfl,e⟩
  exact nomatch e;injection e with e1 _
  subst e1;cases v<;>rfl
set_option genInjectivity true in
inductive V where
 |non|bl (b:Bool)|int (i:Int)|str (x:Str)|byt (b:Array UInt8)|flt (b:UInt64)|ref (a:Addr)|ty (n:String)
 deriving DecidableEq
variable{xs vs:List V}{gV:List V->List V->List V}
def RelV:V->Value->Prop
 |.non,u=>u=Value.none|.bl b,u=>u=Value.bool b|.int i,u=>∃t,u=Value.int i t|.str x,u=>∃t,u=Value.str x t|.byt b,u=>∃t,u=Value.bytes b t|.flt b,u=>∃t,u=Value.float b t|.ref a,u=>u=Value.ref a|.ty n,u=>u=Value.type n
abbrev Vals:List V->List Value->Prop:=Paired RelV
def Vals.length{xs:List V}{us:List Value}(r:Vals xs us):xs.length=us.length:=Paired.length r
theorem Vals.get:∀{xs:List V} {us:List Value} {i:Nat} {x:V},Vals xs us->xs[i]? = some x->∃u,us[i]? = some u/\RelV x u
 |_,_,_,_,.nil,e=>by simp at e|_,_,0,_,.cons r _,e=>by simp at e;subst e;exact⟨_,rfl,r⟩|_,_,i+1,x,.cons _ t,e=>by obtain⟨u,h1,h2⟩:=Vals.get (i:=i) (x:=x) t (by simpa using e);exact⟨u,by simpa using h1,h2⟩
def Vals.set{x:V}{u:Value}(r:RelV x u):∀{xs:List V} {us:List Value} (i:Nat),Vals xs us->Vals (xs.set i x) (us.set i u)
 |_,_,_,.nil=>.nil|_,_,0,.cons _ t=>.cons r t|_,_,i+1,.cons q t=>.cons q<|Vals.set r i t
def Vals.append:∀{xs ys:List V} {us ws:List Value},Vals xs us->Vals ys ws->Vals (xs++ys) (us++ws)
 |_,_,_,_,.nil,s=>s|_,_,_,_,.cons r t,s=>.cons r<|Vals.append t s
def Vals.take:∀{xs:List V} {us:List Value} (n:Nat),Vals xs us->Vals (xs.take n) (us.take n)
 |_,_,0,_=>.nil|_,_,_+1,.nil=>.nil|_,_,n+1,.cons r t=>.cons r<|Vals.take n t
def Vals.drop:∀{xs:List V} {us:List Value} (n:Nat),Vals xs us->Vals (xs.drop n) (us.drop n)
 |_,_,0,r=>r|_,_,_+1,.nil=>.nil|_,_,n+1,.cons _ t=>Vals.drop n t
def uT:Option V->Option Value->Prop
 |some v,some u=>RelV v u|none,none=>True|_,_=>False
def KV:List (κ×V)->List (κ×Value)->Prop:=Paired λ(p:κ×V) (q:κ×Value)=>p.1=q.1/\RelV p.2 q.2
def kV:j0->V
 |.inl i=>.int i|.inr x=>.str x
set_option genInjectivity true in
inductive HO where
 |lst (xs:List V)
 |tup (xs:List V)
 |dK (kvs:List (j0×V))|dT (kvs:List (List j0×V))
 |set (S:Int->Bool) (n:Nat)
 |ins (C dx:Addr) (fs:List (Str×V))
 |own (x:Addr)
 |xd (fs:List (Str×V))
 |met (f x:Addr)
 |rng (lo hi:Int)
 |frz (o:Obj) (u:HO)
 |tbl (ps:Array Value)
 |ext (φ:Heap->Prop)
abbrev Hp:=Addr->Option HO
variable{H H':Hp}
def upd(H:Hp)(a:Addr)(o:HO):Hp:=λb=>if b=a then some o else H b
theorem aO{o:HO}:upd H a o a=some o:=by unfold upd;rw[oI rfl]
theorem aI{o:HO}(h:b≠a):upd H a o b=H b:=by unfold upd;rw[ks h]
theorem df{o:HO}(h:H a=some o)(h':H b=none):a≠b:=by intro e;subst e;rw[h]at h';cases h'
section
variable(P:Program)(w:World)
def ObjOk(H:Hp)(h:Heap)(a:Addr):HO->Prop
 |.lst xs=>xs.length<=sizeLine/\∃(its:List Value) (n:Nat),Vals xs its/\h.get? a=some { cls:=.type "list",data:=.seq its.toArray n }|.tup xs=>xs.length<=sizeLine/\∃its:List Value,Vals xs its/\IsTup h a its.toArray|.dK kvs=>kvs.length<=sizeLine/\(a==sysModules)=false/\∃vs,KV kvs vs/\h.DictOf (i7 P w) a vs
 |.dT kvs=>kvs.length<=sizeLine/\(a==sysModules)=false/\∃xs:List (List j0×Addr×Value),
   Paired (λ(p:List j0×V) (q:List j0×Addr×Value)=>p.1=q.1/\H q.2.1=some (.tup<|p.1.map kV)/\RelV p.2 q.2.2) kvs xs/\
   ∃o es ep,h.get? a=some o/\o.ExactDict/\o.data=.dict es ep/\es.toList=xs.map (entryOfKey<|tupleKind<|i7 P w)/\(xs.map (·.1)).Nodup
 |.set S n=>h.SetOf (intKind P w) a S n
 |.ins C dx fs=>H dx=some (.own a)/\fs.length<=1000/\dx≠a/\h.get? a=some (PySem.W.instObj C dx)/\
   ∃mA,h.Ns1 dx mA/\(∀f,uT (fs.lookup f)<|mA f)/\PySem.Within mA (fs.map (·.1))
 |.own _=>∃o,h.get? a=some o|.xd fs=>∃mA,h.Ns1 a mA/\∀f,uT (fs.lookup f)<|mA f
 |.rng lo hi=>∃t u v,h.get? a=some { cls:=.type "range",data:=.fields #[.int lo t,.int hi u,.int 1 v] }|.frz o u=>h.get? a=some o/\ObjOk H h a u|.tbl ps=>h.get? a=some { cls:=.none,data:=.fields ps }|.met f x=>h.get? a=some (PySem.W.methodObj (.ref f)<|.ref x)|.ext φ=>φ h/\(∃o,h.get? a=some o)/\∀h1 h2:Heap,φ h1->(∀o,h1.get? a=some o->h2.get? a=some o)->φ h2
def HOk(H:Hp)(h:Heap):Prop:=∀a o,H a=some o->ObjOk P w H h a o
end
section
variable{o:HO}
theorem ObjOk.lt(x:ObjOk P w H h a o):a<h.objs.size:=by
 cases o with
 |lst xs=>obtain⟨_,_,_,_,e⟩:=x;exact dm e
 |tup xs=>obtain⟨_,_,_,p⟩:=x;exact p.lt
 |dK kvs=>obtain⟨_,_,_,_,o,_,_,e,_⟩:=x;exact dm e
 |dT kvs=>obtain⟨_,_,_,_,o,_,_,e,_⟩:=x;exact dm e
 |set S n=>obtain⟨o,_,_,_,e,_⟩:=x;exact dm e
 |ins C dx fs=>obtain⟨_,_,_,e,_⟩:=x;exact dm e
 |own y=>obtain⟨_,e⟩:=x;exact dm e
 |xd fs=>obtain⟨_,⟨_,_,_,e,_⟩,_⟩:=x;exact dm e
 |rng lo hi=>obtain⟨_,_,_,e⟩:=x;exact dm e
 |frz ob u=>obtain⟨e,_⟩:=x;exact dm e
 |tbl ps=>exact dm (show h.get? a=some _ from x)|met f y=>exact dm (show h.get? a=some _ from x)|ext φ=>obtain⟨_,⟨_,e⟩,_⟩:=x;exact dm e
def Paired.mapP{α β:Type}{F G:α->β->Prop}:∀{l₁:List α} {l₂:List β},Paired F l₁ l₂->(∀a b,F a b->G a b)->Paired G l₁ l₂
 |_,_,.nil,_=>.nil|_,_,.cons r t,f=>.cons (f _ _ r)<|Paired.mapP t f
theorem ObjOk.stay(x:ObjOk P w H h a o)(k:∀b u,(b=a\/H b=some (.own a))->h.get? b=some u->h'.get? b=some u)
  (ho:∀b,H b=some (.own a)->H' b=some (.own a)) (ht:∀b xs,H b=some (.tup xs)->H' b=some (.tup xs)):ObjOk P w H' h' a o:=by
 induction o with
 |lst xs=>obtain⟨z,its,n,r,e⟩:=x;exact⟨z,its,n,r,k _ _ (.inl rfl) e⟩
 |tup xs=>obtain⟨z,its,r,ob,e,c⟩:=x;exact⟨z,its,r,ob,k _ _ (.inl rfl) e,c⟩
 |dK kvs=>obtain⟨z,y,vs,r,ob,es,ep,e,c⟩:=x;exact⟨z,y,vs,r,ob,es,ep,k _ _ (.inl rfl) e,c⟩
 |dT kvs=>
  obtain⟨z,y,xs,r,ob,es,ep,e,c⟩:=x;exact⟨z,y,xs,Paired.mapP r λp q z=>⟨z.1,ht _ _ z.2.1,z.2.2⟩,ob,es,ep,k _ _ (.inl rfl) e,c⟩
 |set S n=>obtain⟨ob,es,ep,t,e,c⟩:=x;exact⟨ob,es,ep,t,k _ _ (.inl rfl) e,c⟩
 |ins C dx fs=>
  obtain⟨d,z,ne,e,mA,⟨od,es,ep,e2,c⟩,r⟩:=x;exact⟨ho _ d,z,ne,k _ _ (.inl rfl) e,mA,⟨od,es,ep,k _ _ (.inr d) e2,c⟩,r⟩
 |own y=>obtain⟨ob,e⟩:=x;exact⟨ob,k _ _ (.inl rfl) e⟩
 |xd fs=>obtain⟨mA,⟨od,es,ep,e,c⟩,r⟩:=x;exact⟨mA,⟨od,es,ep,k _ _ (.inl rfl) e,c⟩,r⟩
 |rng lo hi=>obtain⟨t,u,v,e⟩:=x;exact⟨t,u,v,k _ _ (.inl rfl) e⟩
 |frz ob u ih=>obtain⟨e,q⟩:=x;exact⟨k _ _ (.inl rfl) e,ih q⟩
 |tbl ps=>
  have e:h.get? a=some { cls:=.none,data:=.fields ps }:=x;show h'.get? a=some { cls:=.none,data:=.fields ps };exact k a _ (.inl rfl) e
 |met f y=>
  have e:h.get? a=some (PySem.W.methodObj (.ref f)<|.ref y):=x;show h'.get? a=some (PySem.W.methodObj (.ref f)<|.ref y);exact k a _ (.inl rfl) e
 |ext φ=>obtain⟨p,⟨o,e⟩,st⟩:=x;exact⟨st _ _ p λo q=>k _ _ (.inl rfl) q,⟨o,k _ _ (.inl rfl) e⟩,st⟩
def HOk.lt(x:HOk P w H h)(e:H a=some o):a<h.objs.size:=(x a o e).lt
theorem HOk.fresh(x:HOk P w H h)(e:h.objs.size<=a):H a=none:=by
 cases q:H a with
 |none=>rfl|some u=>exact Nd (da (x.lt q) e)<|iK _
def HOk.kept(x:HOk P w H h)(k:∀b u,h.get? b=some u->h'.get? b=some u):HOk P w H h':=λa o e=>(x a o e).stay (λb u _ q=>k b u q) (λ_ q=>q) λ_ _ q=>q
theorem HOk.laid(x:HOk P w H h)(k:∀b u,h.get? b=some u->h'.get? b=some u)(hp:h.objs.size<=a)(new:ObjOk P w (upd H a o) h' a o):HOk P w (upd H a o) h':=λb u e=>by have hn:=x.fresh hp;by_cases hb:b=a;subst hb;rw[aO]at e;cases e;exact new;rw[aI hb]at e;exact(x b u e).stay (λc v _ q=>k c v q) (λc q=>by rw[aI<|df q hn];exact q) λc xs q=>by rw[aI<|df q hn];exact q
end
def Rd(H:Hp)(a:Addr)(u:HO):Prop:=H a=some u\/∃o,H a=some (.frz o u)
theorem Rd.ok{u:HO}(r:Rd H a u)(x:HOk P w H h):ObjOk P w H h a u:=by
 rcases r with r|⟨o,r⟩
 exact x a u r;obtain⟨_,q⟩:=x a _ r;exact q
def yj:Option HO->Prop
 |some (.lst _)=>True|some (.dK _)=>True|some (.dT _)=>True|some (.set _ _)=>True|some (.ins _ _ _)=>True|some (.ext _)=>True|_=>False
section
variable{x e:Addr}{o':HO}
theorem HOk.write(ok:HOk P w H h)(mu:yj (H x))(he:e=x\/H e=some (.own x))(k:∀b u,b≠e->h.get? b=some u->h'.get? b=some u)(heo:∃u,h'.get? e=some u)
  (new:ObjOk P w (upd H x o') h' x o'):HOk P w (upd H x o') h':=λb u q=>by
 have nown:∀c y,H c=some (.own y)->c≠x:=λc y r z=>by subst z;rw[r]at mu;exact mu
 have ntup:∀c xs,H c=some (.tup xs)->c≠x:=λc xs r z=>by subst z;rw[r]at mu;exact mu
 by_cases hb:b=x
 .subst hb;rw[aO]at q;cases q;exact new
 .rw[aI hb]at q
  by_cases hbe:b=e
  .have q':H b=some (.own x):=by
    rcases he with z|z
    .exact Nd (hbe.trans z) hb
    .rw[hbe];exact z
   rw[q]at q';cases q';obtain⟨v,hv⟩:=heo;exact⟨v,by rw[hbe];exact hv⟩
  .refine(ok b u q).stay (λc v hc r=>k c v ?_ r) (λc r=>by rw[aI<|nown c b r];exact r) λc xs r=>by rw[aI<|ntup c xs r];exact r
   rcases hc with rfl|hc
   .exact hbe
   .rintro rfl
    rcases he with z|z
    .exact nown c b hc z
    .rw[hc]at z;cases z;exact hb rfl
end
structure Un(fs ex:List Addr)(H H':Hp)(h h':Heap):Prop where
 keep:∀b o,h.get? b=some o->H b=none->b∉fs->b∉ex->h'.get? b=some o
 slot:∀b o,h.get? b=some o->H b=none->b∈fs->b∉ex->∃sl,h'.get? b=some { o with slots:=sl }
 free:∀b o,h.get? b=some o->H b=none->b∉ex->H' b=none
 there:∀b o,h.get? b=some o->b∉ex->∃o',h'.get? b=some o'
 tups:∀b xs,H b=some (.tup xs)->H' b=some (.tup xs)
 frzs:∀b o u,H b=some (.frz o u)->H' b=some (.frz o u)
 tbls:∀b ps,H b=some (.tbl ps)->∃more,H' b=some (.tbl<|ps++more)
 sys:mainGlobals∉ex->(∃o,h.get? mainGlobals=some o)->(∀xs,H sysModules≠some (.lst xs))->∀xs,H' sysModules≠some (.lst xs)
section
variable{fs fs' ex ex':List Addr}{H1 H2:Hp}{h1 h2:Heap}{x e:Addr}{o:HO}
theorem Un.any(u:Un fs ex H H1 h h1){ob:Obj}(q:h.get? b=some ob)(n:H b=none)(hx:b∉ex):∃sl,h1.get? b=some { ob with slots:=sl }:=by by_cases hb:b∈fs;exact u.slot b ob q n hb hx;exact⟨ob.slots,u.keep b ob q n hb hx⟩
theorem Un.trans(a:Un fs ex H H1 h h1)(b:Un fs ex H1 H2 h1 h2):Un fs ex H H2 h h2 where
 keep:=λc ob q n hc hx=>b.keep c ob (a.keep c ob q n hc hx) (a.free c ob q n hx) hc hx
 slot:=λc ob q n hc hx=>by obtain⟨sl,e1⟩:=a.slot c ob q n hc hx;obtain⟨sl',e2⟩:=b.slot c _ e1 (a.free c ob q n hx) hc hx;exact⟨sl',e2⟩
 free:=λc ob q n hx=>by obtain⟨o',e1⟩:=a.there c ob q hx;exact b.free c o' e1 (a.free c ob q n hx) hx
 there:=λc ob q hx=>by obtain⟨o',e1⟩:=a.there c ob q hx;exact b.there c o' e1 hx
 tups:=λc xs q=>b.tups c xs<|a.tups c xs q
 frzs:=λc ob xs q=>b.frzs c ob xs<|a.frzs c ob xs q
 tbls:=λc ps q=>by obtain⟨m1,e1⟩:=a.tbls c ps q;obtain⟨m2,e2⟩:=b.tbls c _ e1;exact⟨m1++m2,by rw[e2,Aa]⟩
 sys:=λhx ⟨o,e⟩ n=>b.sys hx (a.there _ o e hx)<|a.sys hx ⟨o,e⟩ n
theorem Un.kept(k:∀b u,h.get? b=some u->h'.get? b=some u):Un fs ex H H h h':=
 ⟨λb ob q _ _ _=>k b ob q,λb ob q _ _ _=>⟨ob.slots,k b ob q⟩,λ_ _ _ n _=>n,λb ob q _=>⟨ob,k b ob q⟩,λ_ _ q=>q,λ_ _ _ q=>q,λ_ ps q=>⟨#[],by rw[q];simp⟩,λ_ _ n=>n⟩
def Un.refl:Un fs ex H H h h:=Un.kept λ_ _ q=>q
theorem Un.laid(k:∀b u,h.get? b=some u->h'.get? b=some u)(hp:h.objs.size<=a)(hn:H a=none):Un fs ex H (upd H a o) h h' where
 keep:=λb u q _ _ _=>k b u q
 slot:=λb u q _ _ _=>⟨u.slots,k b u q⟩
 free:=λb u q n _=>by rw[aI<|gK<|da (dm q) hp];exact n
 there:=λb u q _=>⟨u,k b u q⟩
 tups:=λb xs q=>by rw[aI<|df q hn];exact q
 frzs:=λb u xs q=>by rw[aI<|df q hn];exact q
 tbls:=λb ps q=>⟨#[],by rw[aI<|df q hn,q];simp⟩
 sys:=λ_ ⟨_,q⟩ n=>by rw[aI<|gK<|da (xI (by decide)<|dm q) hp];exact n
theorem Un.write(mu:yj (H x))(he:e=x\/H e=some (.own x))(k:∀b u,b≠e->h.get? b=some u->h'.get? b=some u)(heo:∃u,h'.get? e=some u)(hk:(∃us,H x=some (.lst us))\/∀us,o≠.lst us):Un fs ex H (upd H x o) h h':=by
 have hx:∀b,H b=none->b≠x:=λb n z=>by subst z;rw[n]at mu;exact mu
 have hb:∀b,H b=none->b≠e:=λb n z=>by
  subst z;rcases he with r|r
  exact hx b n r;rw[n]at r;cases r
 have hm:∀b u,H b=some u->¬yj (some u)->b≠x:=λb u q nm z=>by subst z;rw[q]at mu;exact nm mu
 refine ⟨λb u q n _ _=>k b u (hb b n) q,λb u q n _ _=>⟨u.slots,k b u (hb b n) q⟩,λb u q n _=>by rw [aI<|hx b n];exact n,λb u q _=>?_,
  λb xs q=>by rw[aI<|hm b _ q λz=>z];exact q,λb u xs q=>by rw[aI<|hm b _ q λz=>z];exact q,λb ps q=>⟨#[],by rw[aI<|hm b _ q λz=>z,q];simp⟩,λ_ _ n ys=>by
   by_cases z:sysModules=x
   .rw[z,aO]
    rcases hk with⟨us,hk⟩|hk
    .exact Nd (z▸hk) (n us)
    .exact λy=>hk ys (Ng y)
   .rw[aI z];exact n ys⟩
 by_cases hbe:b=e;subst hbe;exact heo;exact⟨u,k b u hbe q⟩
end
def ym(h:Heap)(H:Hp):List Addr:=(List.range h.objs.size).filter λa=>(H a).isSome
def i8(h:Heap)(H:Hp):Heap:=PySem.W.hideAll h<|ym h H
def ly(h:Heap)(H:Hp):(i8 h H).objs.size=h.objs.size:=PySem.W.hideAll_size _ _
theorem mF(e:h.get? b=some o)(n:H b=none):(i8 h H).get? b=some o:=
 PySem.W.hideAll_get _ e λhm=>by
  have q:(H b).isSome=true:=(Yag.mp hm).2;rw[n]at q;simp at q
theorem pS(e:(i8 h H).get? b=some o):h.get? b=some o/\H b=none:=by
 have e':h.get? b=some o:=PySem.W.of_hideAll (ym h H) e;refine⟨e',?_⟩;cases q:H b with
 |none=>rfl|some x=>have hm:b∈ym h H:=Yag.mpr ⟨Yah.mpr<|dm e',by simp[q]⟩;have z:(i8 h H).get? b=none:=PySem.W.hideAll_none (ym h H) hm;rw[z]at e;cases e
def pT(g h:Heap)(L:Addr):List (Addr×Obj):=(List.range h.objs.size).filterMap λa=>if a=L\/(g.get? a).isSome=true then none else(h.get? a).map λo=>(a,o)
def rest(g h:Heap)(L d:Addr):List (Addr×Obj):=(pT g h L).filter λp=>decide (p.1≠d)
structure Mod(K:Nb)(mg:Str->Option Value)(base:Heap):Prop where
 kin:K.In base
 glob:base.Ns mainGlobals mg
 blt:∃mb,base.Ns builtinsNs mb/\∀x:Str,x≠ "__name__" ->mb x=bootBuiltins x
 nolimit:base.NoLimit
structure Cx where
 prog:Program
 w:World
 K:Nb
 mg:Str->Option Value
 base:Heap
 A:Around
 N:List Str
 s₀:Shared
 H₀:Hp
 env:Env
 outer:List Env
 stack:List Env
 ex:List Addr
 fn:Str->Bool
 calm:Bool
 pn:List (Addr×Obj)
 xe:Value->Shared->Prop
variable{X:Cx}
def dc(l:List Env):List Addr:=l.filterMap (·.frame)
abbrev Cx.fs(X:Cx):List Addr:=dc X.outer
def kU(sc:Scope)(x:Str):Prop:=sc.names.lookup x=some .local\/sc.names.lookup x=some .cell\/sc.names.lookup x=some .free
def kf(sc:Scope)(x:Str):Prop:=sc.names.lookup x=some .local\/sc.names.lookup x=some .cell
def Ay(env:Env)(h:Heap)(m:Str->Option Value)(x:Str)(u:Value):Prop:=
 (env.kindOf x=some .local/\m x=some u)\/((env.kindOf x=some .cell\/env.kindOf x=some .free)/\∃c,env.cells.lookup x=some c/\h.IsCell c (some u))
structure Cx.Ok(X:Cx):Prop where
 mod:Mod X.K X.mg X.base
 kind:X.env.scope.kind=.function
 glob:X.env.globals=mainGlobals
 blt:X.env.builtins=builtinsNs
 above:X.s₀.heap.objs.size<=X.env.locals
 inj:∀x y c,X.env.cells.lookup x=some c->X.env.cells.lookup y=some c->x=y
 has:∀x,(X.env.kindOf x=some .cell\/X.env.kindOf x=some .free)->∃c,X.env.cells.lookup x=some c
 cab:∀x c,X.fn x=true->X.env.cells.lookup x=some c->X.s₀.heap.objs.size<=c
 hd:X.calm=true->X.A.handled=none
 frames:X.A.frames=some X.stack
 stk:X.stack=X.outer\/(X.stack=X.env::X.outer/\X.env.frame=some X.env.locals)
 exf:∀b∈X.ex,b≠X.env.locals/\∀x c,X.env.cells.lookup x=some c->c≠b
 bs:∀b o,X.base.get? b=some o->X.s₀.heap.get? b=some o/\X.H₀ b=none
 bsz:X.base.objs.size<=X.s₀.heap.objs.size
 noex:∀b o,X.base.get? b=some o->b∉X.ex
 exfs:∀b∈X.ex,b∉X.fs
 funs:X.s₀.heap.FunFrames X.base X.outer
 frf:∀b∈X.fs,X.H₀ b=none
 sys0:∀xs,X.H₀ sysModules≠some (.lst xs)
structure Inv(X:Cx)(sa:List (Addr×Obj))(σ:List (Option V))(H:Hp)(s:Shared):Prop where
 ok:X.Ok
 os:s.os=X.s₀.os
 bare:AllBare s.gens
 base:Un X.fs X.ex X.H₀ H X.s₀.heap s.heap
 loc:∃m,s.heap.Ns X.env.locals m/\∀(i:Nat) (x:Str) (v:V),X.N[i]? = some x->σ[i]? = some (some v)->kU X.env.scope x->∃u,RelV v u/\Ay X.env s.heap m x u
 cell:∀x c,X.env.cells.lookup x=some c->∃v,s.heap.IsCell c v
 free:H X.env.locals=none
 freeC:∀x c,X.env.cells.lookup x=some c->H c=none
 pin:∀p∈X.pn++sa,s.heap.get? p.1=some p.2/\H p.1=none/\p.1≠X.env.locals/\p.1∉X.fs/\∀v,p.2.data≠.cell v
 hok:HOk X.prog X.w H s.heap
 len:σ.length=X.N.length
section
variable{σ:List (Option V)}
theorem Cx.Ok.nofr(ok:X.Ok)(e:X.base.get? b=some o):b∉X.fs:=λhb=>by have:=(ok.funs.mem hb).1;rw[e]at this;cases this
def Inv.bs(I:Inv X sa σ H s):∀b o,X.base.get? b=some o->s.heap.get? b=some o/\H b=none:=λb o e=>
 ⟨I.base.keep b o (I.ok.bs b o e).1 (I.ok.bs b o e).2 (I.ok.nofr e)<|I.ok.noex b o e,I.base.free b o (I.ok.bs b o e).1 (I.ok.bs b o e).2<|I.ok.noex b o e⟩
def Inv.bk(I:Inv X sa σ H s):∀b o,X.base.get? b=some o->s.heap.get? b=some o:=λb o e=>(I.bs b o e).1
def Inv.mod(I:Inv X sa σ H s):Mod X.K X.mg X.base:=I.ok.mod
theorem Inv.hasG(I:Inv X sa σ H s):∃o,s.heap.get? mainGlobals=some o:=by obtain⟨o,_,_,e,_⟩:=I.ok.mod.glob;exact⟨o,I.bk _ _ e⟩
theorem Inv.sysn(I:Inv X sa σ H s):∀xs,H sysModules≠some (.lst xs):=by obtain⟨o,_,_,e,_⟩:=I.ok.mod.glob;exact I.base.sys (I.ok.noex _ _ e) ⟨o,(I.ok.bs _ _ e).1⟩ I.ok.sys0
def Inv.kIn(I:Inv X sa σ H s):X.K.In s.heap:=I.ok.mod.kin.keeps I.bk
def Inv.lt(I:Inv X sa σ H s):X.env.locals<s.heap.objs.size:=let⟨_,hn,_⟩:=I.loc;hn.lt
def Inv.sz(I:Inv X sa σ H s):X.s₀.heap.objs.size<=s.heap.objs.size:=gU I.ok.above<|kO I.lt
theorem Inv.nofs(I:Inv X sa σ H s)(h:s.heap.objs.size<=a):a∉X.fs:=λhb=>by obtain⟨_,o,ho,_⟩:=I.ok.funs.mem hb;exact Nd (da (dm ho)<|gU I.sz h)<|iK _
theorem Inv.cne(I:Inv X sa σ H s):∀x c,X.env.cells.lookup x=some c->c≠X.env.locals:=λx c e z=>by obtain⟨v,o,ho,hd⟩:=I.cell x c e;obtain⟨m,⟨o',es,ep,ho',hd',_⟩,_⟩:=I.loc;rw[z,ho']at ho;cases ho;rw[hd']at hd;cases hd
theorem Inv.funs(I:Inv X sa σ H s):s.heap.FunFrames X.base X.outer:=by
 have all:∀(l:List Env),(∀b∈dc l,b∈X.fs)->X.s₀.heap.FunFrames X.base l->s.heap.FunFrames X.base l:=by
  intro l;induction l with
  |nil=>intro _ _;trivial|cons env r ih=>intro hs hl;obtain⟨hk,⟨L,o,hf,hn,ho,hd⟩,hr⟩:=hl;have hL:L∈X.fs:=hs L (by unfold dc;rw[xJ,hf];exact kP);obtain⟨sl,e⟩:=I.base.slot L o ho (I.ok.frf L hL) hL λz=>I.ok.exfs L z hL;exact⟨hk,⟨L,_,hf,hn,e,hd⟩,ih (λb hb=>hs b (by unfold dc;rw[xJ,hf];exact ip _ hb)) hr⟩
 exact all X.outer (λ_ hb=>hb) I.ok.funs
theorem Inv.stack(I:Inv X sa σ H s):s.heap.FunFrames X.base X.stack:=by
 rcases I.ok.stk with e|⟨e,hf⟩
 rw[e];exact I.funs;rw[e];obtain⟨m,hn,_⟩:=I.loc;refine .cons (by rw[I.ok.kind];decide) hf hn ?_ I.funs;exact Heap.get?_none_of_le<|gU I.ok.bsz I.ok.above
theorem Inv.stkSub(I:Inv X sa σ H s):∀b∈dc X.stack,b∈X.env.locals::X.fs:=λb hb=>by
 rcases I.ok.stk with e|⟨e,hf⟩
 rw[e]at hb;exact ip _ hb;rw[e]at hb;unfold dc at hb;rw[xJ,hf]at hb;exact hb
theorem Inv.stkFree(I:Inv X sa σ H s):∀b∈dc X.stack,H b=none:=λb hb=>by
 rcases Yan.mp (I.stkSub b hb) with e|hb
 rw[e];exact I.free;obtain⟨_,o,ho,_⟩:=I.ok.funs.mem hb;exact I.base.free b o ho (I.ok.frf b hb) λz=>I.ok.exfs b z hb
theorem Inv.step(I:Inv X sa σ H s)
  (hch:∀b∈ch,(b∈X.ex\/X.s₀.heap.objs.size<=b)/\b≠X.env.locals/\(∀x c,X.env.cells.lookup x=some c->c≠b)/\∀p∈X.pn++sa,p.1≠b)
  (keep:∀b o,b≠X.env.locals->b∉X.fs->b∉ch->s.heap.get? b=some o->H b=none->h'.get? b=some o)
  (slot:∀b o,b≠X.env.locals->b∈X.fs->b∉ch->s.heap.get? b=some o->H b=none->∃sl,h'.get? b=some { o with slots:=sl }) (free:∀b o,b∉ch->s.heap.get? b=some o->H b=none->H' b=none)
  (there:∀b o,b∉ch->s.heap.get? b=some o->∃o',h'.get? b=some o')
  (tups:∀b xs,H b=some (.tup xs)->H' b=some (.tup xs)) (frzs:∀b o u,H b=some (.frz o u)->H' b=some (.frz o u)) (tbls:∀b ps,H b=some (.tbl ps)->∃more,H' b=some (.tbl<|ps++more))
  (ns:∀m,s.heap.Ns X.env.locals m->h'.Ns X.env.locals m) (hok:HOk X.prog X.w H' h') (hg:AllBare g') (sy:(∀xs,H sysModules≠some (.lst xs))->∀xs,H' sysModules≠some (.lst xs)) :
  Inv X sa σ H' { s with heap:=h',gens:=g',drawn:=d',toks:=t' }:=by
 have neL:∀b o,X.s₀.heap.get? b=some o->b≠X.env.locals:=λb o e=>gK<|da (dm e) I.ok.above;have neC:∀b o,X.s₀.heap.get? b=some o->b∉X.ex->b∉ch:=λb o e hx hb=>by
  rcases(hch b hb).1 with z|z
  .exact hx z
  .exact Nd (da (dm e) z)<|iK _
 have cellK:∀x c,X.env.cells.lookup x=some c->∀v,s.heap.IsCell c v->h'.IsCell c v:=λx c e v ⟨o,ho,hd⟩=>by
  have nch:c∉ch:=λz=>(hch c z).2.2.1 x c e rfl
  by_cases hc:c∈X.fs
  .obtain⟨sl,q⟩:=slot c o (I.cne x c e) hc nch ho (I.freeC x c e)
   exact⟨_,q,hd⟩
  .exact⟨o,keep c o (I.cne x c e) hc nch ho<|I.freeC x c e,hd⟩
 refine⟨I.ok,I.os,hg,⟨λb o e n hb hx=>?_,λb o e n hb hx=>?_,λb o e n hx=>?_,λb o e hx=>?_,λb xs e=>tups b xs<|I.base.tups b xs e,λb o xs e=>frzs b o xs<|I.base.frzs b o xs e,λb ps e=>?_,λx0 e0 n=>sy<|I.base.sys x0 e0 n⟩,?_,λx c e=>?_,?_,λx c e=>?_,λp hp=>?_,hok,I.len⟩
 .exact keep b o (neL b o e) hb (neC b o e hx) (I.base.keep b o e n hb hx)<|I.base.free b o e n hx
 .obtain⟨sl,e1⟩:=I.base.slot b o e n hb hx
  obtain⟨sl',e2⟩:=slot b _ (neL b o e) hb (neC b o e hx) e1<|I.base.free b o e n hx;exact⟨sl',e2⟩
 .obtain⟨o',e1⟩:=I.base.there b o e hx
  exact free b o' (neC b o e hx) e1<|I.base.free b o e n hx
 .obtain⟨o',e1⟩:=I.base.there b o e hx
  exact there b o' (neC b o e hx) e1
 .obtain⟨m1,e1⟩:=I.base.tbls b ps e
  obtain⟨m2,e2⟩:=tbls b _ e1;exact⟨m1++m2,by rw[e2,Aa]⟩
 .obtain⟨m,hn,hl⟩:=I.loc
  refine⟨m,ns m hn,λi x v e1 e2 e3=>?_⟩;obtain⟨u,r,l⟩:=hl i x v e1 e2 e3;refine⟨u,r,?_⟩;rcases l with l|⟨k,c,e,z⟩
  .exact .inl l
  .exact .inr ⟨k,c,e,cellK x c e _ z⟩
 .obtain⟨v,z⟩:=I.cell x c e
  exact⟨v,cellK x c e v z⟩
 .obtain⟨m,⟨o,_,_,ho,_⟩,_⟩:=I.loc
  exact free _ o (λz=>(hch _ z).2.1 rfl) ho I.free
 .obtain⟨v,o,ho,hd⟩:=I.cell x c e
  exact free c o (λz=>(hch c z).2.2.1 x c e rfl) ho<|I.freeC x c e
 .obtain⟨e,n,ne,nf,d⟩:=I.pin p hp
  have nch:p.1∉ch:=λz=>(hch p.1 z).2.2.2 p hp rfl;exact⟨keep p.1 p.2 ne nf nch e n,free p.1 p.2 nch e n,ne,nf,d⟩
theorem Inv.un(I:Inv X sa σ H s)(u:Un X.fs [] H H' s.heap h')(hok:HOk X.prog X.w H' h'):Inv X sa σ H' { s with heap:=h',toks:=t' }:=by
 obtain⟨m,⟨o,es,ep,ho,r⟩,_⟩:=id I.loc;obtain⟨sl,hL⟩:=u.any ho I.free (by simp);exact I.step (g':=s.gens) (d':=s.drawn) (ch:=[]) (λ_ z=>nomatch z) (λb o _ hb _ e n=>u.keep b o e n hb<|by simp) (λb o _ hb _ e n=>u.slot b o e n hb<|by simp) (λb o _ e n=>u.free b o e n<|by simp) (λb o _ e=>u.there b o e<|by simp) u.tups u.frzs u.tbls (λm' hm=>by
  obtain⟨o',es',ep',ho',r'⟩:=hm;rw[ho]at ho';cases ho';exact⟨_,es',ep',hL,r'⟩) hok I.bare<|u.sys (by simp) I.hasG
theorem Inv.call(I:Inv X sa σ H s)(u:Un (dc X.stack) ch H H' s.heap h')(hok:HOk X.prog X.w H' h')(hg:AllBare g')
  (hch:∀b∈ch,(b∈X.ex\/X.s₀.heap.objs.size<=b)/\b≠X.env.locals/\(∀x c,X.env.cells.lookup x=some c->c≠b)/\∀p∈X.pn++sa,p.1≠b) :
  Inv X sa σ H' { s with heap:=h',gens:=g',drawn:=d',toks:=t' }:=by
 obtain⟨m,⟨o,es,ep,ho,r⟩,_⟩:=id I.loc;obtain⟨sl,hL⟩:=u.any ho I.free λz=>(hch _ z).2.1 rfl;exact I.step (ch:=ch) hch (λb o hL hb hc e n=>u.keep b o e n (λz=>(Yan.mp<|I.stkSub b z).elim hL hb) hc) (λb o _ _ hc e n=>u.any e n hc) (λb o hc e n=>u.free b o e n hc) (λb o hc e=>u.there b o e hc) u.tups u.frzs u.tbls (λm' hm=>by
  obtain⟨o',es',ep',ho',r'⟩:=hm;rw[ho]at ho';cases ho';exact ⟨_,es',ep',hL,r'⟩) hok hg<|u.sys (λz=>by
   obtain⟨o0,_,_,e0,_⟩:=I.ok.mod.glob;rcases(hch _ z).1 with y|y
   .exact I.ok.noex _ _ e0 y
   .exact Nd (da (dm (I.ok.bs _ _ e0).1) y)<|iK _) I.hasG
theorem Inv.turned(I:Inv X sa σ H s)(k:∀b o,b≠it->s.heap.get? b=some o->h'.get? b=some o)(hn:H it=none)(hL:it≠X.env.locals)
  (h1:it∈X.ex\/X.s₀.heap.objs.size<=it) (h2:∀x c,X.env.cells.lookup x=some c->c≠it) (h3:∀p∈X.pn++sa,p.1≠it):Inv X sa σ H { s with heap:=h',toks:=t' }:=by
 have nit:∀b u,H b=some u->b≠it:=λb u e z=>by rw[z,hn]at e;cases e
 refine I.step (g':=s.gens) (d':=s.drawn) (ch:=[it]) (λb hb=>?_) (λb o _ _ hc e _=>k b o (λz=>hc<|by simp[z]) e) (λb o _ _ hc e _=>⟨o.slots,k b o (λz=>hc<|by simp[z]) e⟩) (λ_ _ _ _ n=>n)
  (λb o hc e=>⟨o,k b o (λz=>hc<|by simp[z]) e⟩) (λ_ _ e=>e) (λ_ _ _ e=>e) (λb ps e=>⟨#[],by rw[e];simp⟩) (λm hm=>?_) (λb u e=>?_) I.bare (λn=>n)
 .have e:b=it:=by simpa using hb
  subst e;exact⟨h1,hL,h2,h3⟩
 .obtain⟨o,es,ep,ho,r⟩:=hm
  exact⟨o,es,ep,k _ o (Nm hL) ho,r⟩
 .refine(I.hok b u e).stay (λc v hc q=>k c v ?_ q) (λ_ q=>q) λ_ _ q=>q
  rcases hc with z|z
  .rw[z];exact nit b u e
  .exact nit c _ z
def Inv.tok(I:Inv X sa σ H s)(t:Nat):Inv X sa σ H { s with toks:=t }:=I.un (h':=s.heap) (t':=t) Un.refl I.hok
def Inv.kept{t':Nat}(I:Inv X sa σ H s)(k:∀b u,s.heap.get? b=some u->h'.get? b=some u):Inv X sa σ H { s with heap:=h',toks:=t' }:=I.un (Un.kept k)<|I.hok.kept k
def Inv.laid{a:Addr}{o:HO}{t':Nat}(I:Inv X sa σ H s)(k:∀b u,s.heap.get? b=some u->h'.get? b=some u)(hp:s.heap.objs.size<=a)(new:ObjOk X.prog X.w (upd H a o) h' a o) :
  Inv X sa σ (upd H a o) { s with heap:=h',toks:=t' }:=I.un (Un.laid k hp<|I.hok.fresh hp)<|I.hok.laid k hp new
def Inv.write{x e:Addr}{o:HO}{t':Nat}(I:Inv X sa σ H s)(mu:yj (H x))(he:e=x\/H e=some (.own x))(k:∀b u,b≠e->s.heap.get? b=some u->h'.get? b=some u)(heo:∃u,h'.get? e=some u)
  (new:ObjOk X.prog X.w (upd H x o) h' x o) (hk:(∃us,H x=some (.lst us))\/∀us,o≠.lst us):Inv X sa σ (upd H x o) { s with heap:=h',toks:=t' }:=I.un (Un.write mu he k heo hk)<|I.hok.write mu he k heo new
def Inv.pins_of{pins':List (Addr×Obj)}(I:Inv X sa σ H s)(h:∀p∈pins',s.heap.get? p.1=some p.2/\H p.1=none/\p.1≠X.env.locals/\p.1∉X.fs/\∀v,p.2.data≠.cell v):Inv X pins' σ H s:=
 ⟨I.ok,I.os,I.bare,I.base,I.loc,I.cell,I.free,I.freeC,λp hp=>(Yao.mp hp).elim (λz=>I.pin p<|Ab _ z)<|h p,I.hok,I.len⟩
theorem jN(hN:N.Nodup)(a:N[i]? = some x)(b:N[j]? = some x):i=j:=by obtain⟨h1,e1⟩:=Yaq.mp a;obtain⟨h2,e2⟩:=Yaq.mp b;exact(List.getElem_inj hN).mp<|e1.trans e2.symm
theorem fT{M:Model}{E:Value->Shared->Prop}{v:V}{u:Value}{Q:Unit->Shared->Prop}(I:Inv X sa σ H s)(hN:X.N.Nodup)(hi:X.N[i]? = some x)(hx:kf X.env.scope x)(r:RelV v u)
  (h:∀s',Inv X sa (σ.set i<|some v) H s'->(∃a,Heap.SameBut a s.heap s'.heap/\(a=X.env.locals\/X.env.cells.lookup x=some a))->Q () s') (hf:X.fn x=true\/X.env.scope.names.lookup x=some .local:=by first|exact .inl rfl|exact .inr rfl|assumption):wpAny M A (storeName X.env x u) Q E s:=by
 obtain⟨m,hn,hl⟩:=id I.loc;have hcls:(X.env.scope.kind==.class||(X.env.scope.kind==.module&&X.env.locals != X.env.globals))=false:=by rw[I.ok.kind];rfl
 have hiσ:i<σ.length:=by rw[I.len];exact(Yaq.mp hi).1
 have cne:=I.cne;have tracked:∀{a:Addr} {h':Heap},(∃o,s.heap.get? a=some o/\H a=none)->Heap.SameBut a s.heap h'->HOk X.prog X.w H h':=λ{a h'} ha hs b ob e=>by
  obtain⟨_,_,hfree⟩:=ha;refine(I.hok b ob e).stay (λc w' hc q=>(hs.2 c ?_).trans q) (λ_ q=>q) λ_ _ q=>q;rintro rfl;rcases hc with rfl|hc
  .rw[hfree]at e;cases e
  .rw[hfree]at hc;cases hc
 rcases hx with hk|hk
 .refine wpAny_storeName_local hk hn (λh' hn' hs=>?_) hcls
  obtain⟨oL,_,_,hoL,_⟩:=id hn;refine h _ ⟨I.ok,I.os,I.bare,⟨λb o e n hb hx=>?_,λb o e n hb hx=>?_,I.base.free,λb o e hx=>?_,I.base.tups,I.base.frzs,I.base.tbls,I.base.sys⟩,⟨_,hn',λj y v' e1 e2 e3=>?_⟩,λy c e=>?_,I.free,I.freeC,λp hp=>?_,tracked ⟨oL,hoL,I.free⟩ hs,by simpa using I.len⟩ ⟨_,hs,.inl rfl⟩
  .exact(hs.2 b<|gK<|da (dm e) I.ok.above).trans (I.base.keep b o e n hb hx)
  .obtain⟨sl,e1⟩:=I.base.slot b o e n hb hx
   exact⟨sl,(hs.2 b<|gK<|da (dm e) I.ok.above).trans e1⟩
  .obtain⟨o',e1⟩:=I.base.there b o e hx
   exact⟨o',(hs.2 b<|gK<|da (dm e) I.ok.above).trans e1⟩
  .by_cases hj:j=i
   .subst hj
    rw[hi]at e1;cases e1;rw[dq hiσ]at e2;cases e2;exact⟨u,r,.inl ⟨hk,by simp⟩⟩
   .rw[cO<|Nm hj]at e2
    obtain⟨u',r',q⟩:=hl j y v' e1 e2 e3;refine⟨u',r',?_⟩;rcases q with⟨k,e⟩|⟨k,c,e,z⟩
    .refine .inl ⟨k,?_⟩
     have:y≠x:=λe=>hj<|jN hN e1 (e▸hi);simp[this,e]
    .exact .inr ⟨k,c,e,z.sameBut hs<|cne y c e⟩
  .obtain⟨w',z⟩:=I.cell y c e
   exact⟨w',z.sameBut hs<|cne y c e⟩
  .obtain⟨e,n,ne,nf,d⟩:=I.pin p hp
   exact⟨(hs.2 p.1 ne).trans e,n,ne,nf,d⟩
 .have hfn:X.fn x=true:=by
   rcases hf with z|z
   .exact z
   .rw[z]at hk;cases hk
  obtain⟨c,hc⟩:=I.ok.has x<|.inl hk;obtain⟨w',z⟩:=I.cell x c hc;refine wpAny_storeName_cell I.ok.kind hk hc z<|λh' hc' hs=>?_;obtain⟨oc,hoc,hocd⟩:=id z;refine h { s with heap:=h' } ⟨I.ok,I.os,I.bare,⟨λb o e n hb hx=>?_,λb o e n hb hx=>?_,I.base.free,λb o e hx=>?_,I.base.tups,I.base.frzs,I.base.tbls,I.base.sys⟩,⟨m,hn.sameBut hs<|Nm<|cne x c hc,λj y v' e1 e2 e3=>?_⟩,λy c' e=>?_,I.free,I.freeC,λp hp=>?_,tracked ⟨oc,hoc,I.freeC x c hc⟩ hs,by simpa using I.len⟩ ⟨c,hs,.inr hc⟩
  .exact(hs.2 b<|gK<|da (dm e)<|I.ok.cab x c hfn hc).trans (I.base.keep b o e n hb hx)
  .obtain⟨sl,e1⟩:=I.base.slot b o e n hb hx
   exact⟨sl,(hs.2 b<|gK<|da (dm e)<|I.ok.cab x c hfn hc).trans e1⟩
  .obtain⟨o',e1⟩:=I.base.there b o e hx
   exact⟨o',(hs.2 b<|gK<|da (dm e)<|I.ok.cab x c hfn hc).trans e1⟩
  .by_cases hj:j=i
   .subst hj
    rw[hi]at e1;cases e1;rw[dq hiσ]at e2;cases e2;exact⟨u,r,.inr ⟨.inl hk,c,hc,hc'⟩⟩
   .rw[cO<|Nm hj]at e2
    obtain⟨u',r',q⟩:=hl j y v' e1 e2 e3;refine⟨u',r',?_⟩;rcases q with q|⟨k,c',e,z'⟩
    .exact .inl q
    .refine .inr ⟨k,c',e,z'.sameBut hs ?_⟩
     rintro rfl;exact hj<|jN hN e1 (I.ok.inj _ _ _ e hc▸hi)
  .by_cases hcc:c'=c
   .subst hcc;exact⟨_,hc'⟩
   .obtain⟨w2,z2⟩:=I.cell y c' e
    exact⟨w2,z2.sameBut hs hcc⟩
  .obtain⟨e,n,ne,nf,d⟩:=I.pin p hp
   refine⟨(hs.2 p.1 ?_).trans e,n,ne,nf,d⟩;intro q;rw[q,hoc]at e;have q':oc=p.2:=Ng e;exact d w' (by rw[<-q'];exact hocd)
theorem fq{M:Model}{E:Value->Shared->Prop}{v:V}{u:Value}{Q:Unit->Shared->Prop}(I:Inv X sa σ H s)(hN:X.N.Nodup)(hi:X.N[i]? = some x)(hx:kf X.env.scope x)(r:RelV v u)
  (h:∀s',Inv X sa (σ.set i<|some v) H s'->Q () s') (hf:X.fn x=true\/X.env.scope.names.lookup x=some .local:=by first|exact .inl rfl|exact .inr rfl|assumption):wpAny M A (storeName X.env x u) Q E s:=
 fT I hN hi hx r (λs' I' _=>h s' I') hf
theorem Inv.call'(I:Inv X sa σ H s)(ho:s'.os=s.os)(u:Un (dc X.stack) ch H H' s.heap s'.heap)(hok:HOk X.prog X.w H' s'.heap)(hg:AllBare s'.gens)
  (hch:∀b∈ch,(b∈X.ex\/X.s₀.heap.objs.size<=b)/\b≠X.env.locals/\(∀x c,X.env.cells.lookup x=some c->c≠b)/\∀p∈X.pn++sa,p.1≠b):Inv X sa σ H' s':=by
 obtain⟨h',g',d',t',o'⟩:=s';have e:o'=s.os:=ho;subst e;exact I.call (g':=g') (t':=t') (d':=d') u hok hg hch
end
abbrev XK:=Value->Option Addr->Hp->Prop
abbrev St:=List<|Option V
variable{σ:St}
abbrev VK:=V->Hp->Prop
variable{tget:V->V->Hp->VK->Prop}
abbrev TE:=St->Hp->VK->Prop
variable{ta te:TE}
abbrev TT:=St->Hp->(Bool->Hp->Prop)->Prop
variable{tc:TT}
abbrev TA:=St->Hp->(List V->Hp->Prop)->Prop
variable{t:TA}
structure jO where
 nx:St->Hp->Prop
 rt:VK
 bk:St->Hp->Prop:=λ_ _=>False
 ct:St->Hp->Prop:=λ_ _=>False
abbrev TS:=jO->St->Hp->Prop
def EP(X:Cx)(sa:List (Addr×Obj))(σ:St)(Q:VK)(u:Value)(s':Shared):Prop:=∃v H',Inv X sa σ H' s'/\RelV v u/\Q v H'
def TP(X:Cx)(sa:List (Addr×Obj))(σ:St)(Q:Bool->Hp->Prop)(b:Bool)(s':Shared):Prop:=∃H',Inv X sa σ H' s'/\Q b H'
def AP(X:Cx)(sa:List (Addr×Obj))(σ:St)(Q:List V->Hp->Prop)(us:List Value)(s':Shared):Prop:=∃vs H',Inv X sa σ H' s'/\Vals vs us/\Q vs H'
def SP(X:Cx)(sa:List (Addr×Obj))(D:jO)(f:Flow)(s':Shared):Prop:=
 match f with
 |.next=>∃σ' H',Inv X sa σ' H' s'/\D.nx σ' H'|.brk=>∃σ' H',Inv X sa σ' H' s'/\D.bk σ' H'|.cont=>∃σ' H',Inv X sa σ' H' s'/\D.ct σ' H'|.ret u=>∃v σ' H',Inv X sa σ' H' s'/\RelV v u/\D.rt v H'
def PE(X:Cx)(e:Expr)(t:TE):Prop:=
 ∀(sa:List (Addr×Obj)) (s:Shared) (σ:St) (H:Hp) (Q:VK),Inv X sa σ H s->t σ H Q->wpAny (model X.prog X.w) X.A (eval e X.env) (EP X sa σ Q) X.xe s
def PT(X:Cx)(e:Expr)(t:TT):Prop:=
 ∀(sa:List (Addr×Obj)) (s:Shared) (σ:St) (H:Hp) (Q:Bool->Hp->Prop),Inv X sa σ H s->t σ H Q->wpAny (model X.prog X.w) X.A (isTrue e X.env<|eval e X.env) (TP X sa σ Q) X.xe s
def PW(X:Cx)(e:Expr)(t:TT):Prop:=
 ∀(whole:Sem Value) (sa:List (Addr×Obj)) (s:Shared) (σ:St) (H:Hp) (Q:Bool->Hp->Prop),Inv X sa σ H s->t σ H Q->wpAny (model X.prog X.w) X.A (isTrue e X.env whole) (TP X sa σ Q) X.xe s
def PW.pt{t:TT}(h:PW X e t):PT X e t:=h _
def PA(X:Cx)(es:List Expr)(t:TA):Prop:=
 ∀(pos:Pos) (sa:List (Addr×Obj)) (s:Shared) (σ:St) (H:Hp) (Q:List V->Hp->Prop),Inv X sa σ H s->t σ H Q->wpAny (model X.prog X.w) X.A (spliced<|backTo pos<|starEach es X.env) (AP X sa σ Q) X.xe s
def PS(X:Cx)(st:Stmt)(t:TS):Prop:=
 ∀(sa:List (Addr×Obj)) (s:Shared) (σ:St) (H:Hp) (D:jO),Inv X sa σ H s->t D σ H->wpAny (model X.prog X.w) X.A (exec st X.env) (SP X sa D) X.xe s
def l7(X:Cx)(st:List Stmt)(t:TS):Prop:=
 ∀(sa:List (Addr×Obj)) (s:Shared) (σ:St) (H:Hp) (D:jO),Inv X sa σ H s->t D σ H->wpAny (model X.prog X.w) X.A (execs st X.env) (SP X sa D) X.xe s
def bC{α:Type}{t:Sem α}{Q Q':α->Shared->Prop}{M:Model}{E:Value->Shared->Prop}(h:wpAny M A t Q E s)(hQ:∀a s,Q a s->Q' a s):wpAny M A t Q' E s:=Nk h hQ λ_ _ x=>x
section
theorem M6{a b:Expr}{tb:TE}(ha:PE X a ta)(hb:PE X b tb){R:V->V->Hp->Prop}(I:Inv X sa σ H s)(h:ta σ H λx H1=>tb σ H1 λy H2=>R x y H2)
  {α:Type} {Q:α->Shared->Prop} {f:Value->Value->Sem α}
  (hf:∀v u s2 x y H2,Inv X sa σ H2 s2->RelV x v->RelV y u->R x y H2->wpAny (model X.prog X.w) X.A (f v u) Q X.xe s2) :
  wpAny (model X.prog X.w) X.A (eval a X.env) (λv s₁=>wpAny (model X.prog X.w) X.A (eval b X.env) (λu s₂=>wpAny (model X.prog X.w) X.A (f v u) Q X.xe s₂) X.xe s₁) X.xe s:=by
 refine bC (ha sa s σ H _ I h) λv s1 ⟨x,H1,I1,r1,q1⟩=>?_;refine bC (hb sa s1 σ H1 _ I1 q1) λu s2 ⟨y,H2,I2,r2,q2⟩=>?_;exact hf v u s2 x y H2 I2 r1 r2 q2
def Az(i:Nat):TE:=λσ H Q=>∃v,σ[i]? = some (some v)/\Q v H
def tC(v:V):TE:=λ_ H Q=>Q v H
theorem dg(hN:X.N[i]? = some x)(hv:kU X.env.scope x)(hd:(x==("__debug__" : Str))=false:=by decide)(hcd:(x==("__classdict__" : Str))=false:=by decide):PE X (.Name x pos) (Az i):=by
 intro sa s σ H Q I h;obtain⟨v,e,h⟩:=h;obtain⟨m,hn,hl⟩:=I.loc;obtain⟨u,r,l⟩:=hl i x v hN e hv;have fin:EP X sa σ Q u s:=⟨v,H,I,r,h⟩;rcases l with⟨hk,hm⟩|⟨hk,c,hc,hcell⟩
 exact wpAny_Name (wpAny_loadName_local I.ok.kind hk hn hm fin) hd;rcases hk with hk|hk
 exact wpAny_Name (wpAny_loadName_cell I.ok.kind hk hc hcell fin) hd;exact wpAny_Name (wpAny_loadName_free I.ok.kind hk hc hcell fin hcd) hd
def kj{i j pos}:PE X (.Constant (.int i) j pos) (tC<|.int i):=λ_ _ _ H _ I h=>wpAny_Constant_int ⟨.int i,H,I.tok _,⟨_,rfl⟩,h⟩
def uU{b j pos}:PE X (.Constant (.bool b) j pos) (tC<|.bl b):=λ_ _ _ H _ I h=>Constant_bool ⟨.bl b,H,I,rfl,h⟩
def rP{j pos}:PE X (.Constant .none j pos) (tC .non):=λ_ _ _ H _ I h=>Constant_none ⟨.non,H,I,rfl,h⟩
def rR{x j pos}:PE X (.Constant (.str x) j pos) (tC<|.str x):=λ_ _ _ H _ I h=>Calls.Constant_str ⟨.str x,H,I.tok _,⟨_,rfl⟩,h⟩
def Gl(X:Cx)(x:Str):Prop:=X.env.kindOf x=some .globalImplicit
theorem ft{E:Value->Shared->Prop}{u:Value}(I:Inv X sa σ H s)(hg:Gl X x)(hm:X.mg x=some u)(h:Q u s)
  (hd:(x==("__debug__" : Str))=false:=by decide):wpAny (model X.prog X.w) X.A (eval (.Name x pos) X.env) Q E s:=
 Calls.Name_function_global I.ok.kind hg (Calls.loadGlobal_global (by rw[I.ok.glob];exact I.mod.glob.keeps I.bk) hm h) hd
theorem eZ{E:Value->Shared->Prop}{u:Value}(I:Inv X sa σ H s)(hg:Gl X x)(hm:X.mg x=none)(hv:bootBuiltins x=some u)(h:Q u s)
  (hn:x≠ "__name__" :=by decide) (hd:(x==("__debug__" : Str))=false:=by decide):wpAny (model X.prog X.w) X.A (eval (.Name x pos) X.env) Q E s:=by
 obtain⟨mb,h1,h2⟩:=I.mod.blt;exact Calls.Name_function_global I.ok.kind hg (Calls.loadGlobal_builtin (by rw[I.ok.glob];exact I.mod.glob.keeps I.bk) hm (by rw[I.ok.blt];exact h1.keeps I.bk) ((h2 x hn).trans hv) h) hd
theorem pV{v:V}{u:Value}(hg:Gl X x)(hm:X.mg x=some u)(r:RelV v u)(hd:(x==("__debug__" : Str))=false:=by decide):PE X (.Name x pos) (tC v):=
 λ_ _ _ H _ I h=>ft I hg hm ⟨v,H,I,r,h⟩ hd
theorem pW{v:V}{u:Value}(hg:Gl X x)(hm:X.mg x=none)(hv:bootBuiltins x=some u)(r:RelV v u)(hn:x≠ "__name__" :=by decide)(hd:(x==("__debug__" : Str))=false:=by decide):PE X (.Name x pos) (tC v):=
 λ_ _ _ H _ I h=>eZ I hg hm hv ⟨v,H,I,r,h⟩ hn hd
variable{a b:Expr}{tb:TE}
variable{tA tB':TT}{rest:List Expr}
def AA(t u:TT):TT:=λσ H Q=>t σ H λc H1=>if c=true then u σ H1 Q else Q false H1
def Hf(t u:TT):TT:=λσ H Q=>t σ H λc H1=>if c=true then Q true H1 else u σ H1 Q
def AB(t:TT):TT:=λσ H Q=>t σ H λc H1=>Q (!c) H1
theorem pX(ha:PT X a tA):PW X (.BoolOp .And [a] pos) tA:=by
 intro wh sa s σ H Q I h;refine isTrue_and<|bC (ha sa s σ H Q I h) λc s1 e=>?_;cases c with
 |true=>exact isTrue_and_nil e|false=>exact e
theorem rS(ha:PT X a tA):PW X (.BoolOp .Or [a] pos) tA:=by
 intro wh sa s σ H Q I h;refine isTrue_or<|bC (ha sa s σ H Q I h) λc s1 e=>?_;cases c with
 |false=>exact isTrue_or_nil e|true=>exact e
theorem rT(ha:PT X a tA)(hb:PW X (.BoolOp .And (b::rest) pos) tB'):PW X (.BoolOp .And (a::b::rest) pos) (AA tA tB'):=by
 intro wh sa s σ H Q I h;refine isTrue_and<|bC (ha sa s σ H _ I h) λc s1 ⟨H1,I1,q1⟩=>?_;cases c with
 |true=>exact hb wh sa s1 σ H1 Q I1 q1|false=>exact⟨H1,I1,q1⟩
theorem uV(ha:PT X a tA)(hb:PW X (.BoolOp .Or (b::rest) pos) tB'):PW X (.BoolOp .Or (a::b::rest) pos) (Hf tA tB'):=by
 intro wh sa s σ H Q I h;refine isTrue_or<|bC (ha sa s σ H _ I h) λc s1 ⟨H1,I1,q1⟩=>?_;cases c with
 |true=>exact⟨H1,I1,q1⟩|false=>exact hb wh sa s1 σ H1 Q I1 q1
theorem rV(ha:PT X a tA):PT X (.UnaryOp .Not a pos) (AB tA):=by intro sa s σ H Q I h;exact isTrue_not<|ha sa s σ H (λc H1=>Q (!c) H1) I h
def uW(ta tb:TE):TE:=λσ H Q=>ta σ H λx H1=>∃c,x=.bl c/\if c=true then tb σ H1 Q else Q (.bl false) H1
def uX(ta:TE):TE:=λσ H Q=>ta σ H λx H1=>∃c,x=.bl c/\Q (.bl (!c)) H1
def rW{op}{t:TE}(h:PE X a t):PE X (.BoolOp op [a] pos) t:=λsa s σ H Q I hw=>BoolOp_one<|h sa s σ H Q I hw
theorem rX(ha:PE X a ta)(hb:PE X (.BoolOp .And (b::rest) pos) tb):PE X (.BoolOp .And (a::b::rest) pos) (uW ta tb):=by
 intro sa s σ H Q I h;refine BoolOp_and<|bC (ha sa s σ H _ I h) λv s1 ⟨x,H1,I1,r1,q1⟩=>?_;obtain⟨c,rfl,q1⟩:=q1;cases r1;refine Nv ?_;cases c with
 |true=>exact hb sa s1 σ H1 Q I1 q1|false=>exact⟨.bl false,H1,I1,rfl,q1⟩
theorem rY(ha:PE X a ta):PE X (.UnaryOp .Not a pos) (uX ta):=by intro sa s σ H Q I h;refine UnaryOp_<|bC (ha sa s σ H _ I h) λv s1 ⟨x,H1,I1,r1,q1⟩=>?_;obtain⟨c,rfl,q1⟩:=q1;cases r1;exact not_of<|Nv ⟨.bl (!c),H1,I1,rfl,q1⟩
def Hg(t:TT)(ta tb:TE):TE:=λσ H Q=>t σ H λc H1=>if c=true then ta σ H1 Q else tb σ H1 Q
theorem mG(hc:PT X c tA)(ha:PE X a ta)(hb:PE X b tb):PE X (.IfExp c a b pos) (Hg tA ta tb):=by
 intro sa s σ H Q I h;refine wpAny_IfExp<|bC (hc sa s σ H _ I h) λd s1 ⟨H1,I1,q1⟩=>?_;cases d with
 |true=>exact ha sa s1 σ H1 Q I1 q1|false=>exact hb sa s1 σ H1 Q I1 q1
end
def SqL(K:Nb)(H:Hp)(a:Addr)(xs:List V):Prop:=
 Rd H a (.lst xs)\/
  ∃(o:Obj) (its:Array Value) (n:Nat),K.lookup a=some o/\o.cls=.type "list" /\o.dict=none/\o.data=.seq its n/\its.size<=sizeLine/\Vals xs its.toList
def SqT(K:Nb)(H:Hp)(a:Addr)(xs:List V):Prop:=
 Rd H a (.tup xs)\/
  ∃(o:Obj) (its:Array Value) (n:Nat),K.lookup a=some o/\o.cls=.type "tuple" /\o.data=.seq its n/\its.size<=sizeLine/\Vals xs its.toList
def AC:Value->Option V
 |.none=>some .non|.bool b=>some<|.bl b
 |.int i _=>some<|.int i
 |.str x _=>some<|.str x
 |.bytes b _=>some<|.byt b
 |.float b _=>some<|.flt b
 |.ref a=>some<|.ref a
 |.type n=>some<|.ty n
 |_=>none
theorem RelV.abs{x:V}{u:Value}(r:RelV x u):AC u=some x:=by
 cases x with
 |non=>cases r;rfl
 |bl _=>cases r;rfl
 |int _=>obtain⟨t,rfl⟩:=r;rfl
 |str _=>obtain⟨t,rfl⟩:=r;rfl
 |byt _=>obtain⟨t,rfl⟩:=r;rfl
 |flt _=>obtain⟨t,rfl⟩:=r;rfl
 |ref _=>cases r;rfl
 |ty _=>cases r;rfl
def RelV.inj{x y:V}{u:Value}(r:RelV x u)(q:RelV y u):x=y:=Ng<|r.abs.symm.trans q.abs
theorem Vals.inj:∀{xs ys:List V} {us:List Value},Vals xs us->Vals ys us->xs=ys
 |_,_,_,.nil,.nil=>rfl|_,_,_,.cons r t,.cons r' t'=>by rw[r.inj r',Vals.inj t t']
section
variable{ys:List V}
def SqL.of(h:H a=some (.lst xs)):SqL K H a xs:=.inl<|.inl h
def SqT.of(h:H a=some (.tup xs)):SqT K H a xs:=.inl<|.inl h
theorem Inv.list(I:Inv X sa σ H s)(h:SqL X.K H a xs):∃its:List Value,Vals xs its/\PlainL s.heap a its.toArray/\xs.length<=sizeLine:=by
 rcases h with h|⟨o,its,n,hk,hc,hd,hs,hz,r⟩
 obtain⟨z,its,n,r,e⟩:=h.ok I.hok;exact⟨its,r,⟨_,n,e,rfl,rfl,rfl⟩,z⟩;refine⟨its.toList,r,⟨o,n,I.kIn a o hk,hc,hd,by simpa using hs⟩,?_⟩;have e:=r.length;simp only[xK]at e;omega
theorem Inv.tuple(I:Inv X sa σ H s)(h:SqT X.K H a xs):∃its:List Value,Vals xs its/\IsTup s.heap a its.toArray/\xs.length<=sizeLine:=by
 rcases h with h|⟨o,its,n,hk,hc,hs,hz,r⟩
 obtain⟨z,its,r,p⟩:=h.ok I.hok;exact⟨its,r,p,z⟩;refine⟨its.toList,r,⟨o,I.kIn a o hk,hc,n,by simpa using hs⟩,?_⟩;have e:=r.length;simp only[xK]at e;omega
theorem Inv.list_inj(I:Inv X sa σ H s)(h:SqL X.K H a xs)(h':SqL X.K H a ys):xs=ys:=by
 obtain⟨its,r,⟨o,n,e,_,_,d⟩,_⟩:=I.list h;obtain⟨its',r',⟨o',n',e',_,_,d'⟩,_⟩:=I.list h';rw[e]at e';cases e';rw[d]at d';injection d' with d1 _
 have:its=its':=by simpa using congrArg Array.toList d1
 subst this;exact r.inj r'
theorem Inv.tuple_inj(I:Inv X sa σ H s)(h:SqT X.K H a xs)(h':SqT X.K H a ys):xs=ys:=by
 obtain⟨its,r,⟨o,e,_,n,d⟩,_⟩:=I.tuple h;obtain⟨its',r',⟨o',e',_,n',d'⟩,_⟩:=I.tuple h';rw[e]at e';cases e';rw[d]at d';injection d' with d1 _
 have:its=its':=by simpa using congrArg Array.toList d1
 subst this;exact r.inj r'
end
abbrev Cx.wish(X:Cx)(E:Value->Shared->Prop):Cx:={ X with xe:=E }
abbrev Cx.nox(X:Cx):Cx:=X.wish λ_ _=>False
def Cx.Ok.wish{X:Cx}(ok:X.Ok)(E:Value->Shared->Prop):(X.wish E).Ok:=
 ⟨ok.mod,ok.kind,ok.glob,ok.blt,ok.above,ok.inj,ok.has,ok.cab,ok.hd,ok.frames,ok.stk,ok.exf,ok.bs,ok.bsz,ok.noex,ok.exfs,ok.funs,ok.frf,ok.sys0⟩
def Cx.Ok.unwish{E:Value->Shared->Prop}(ok:(X.wish E).Ok):X.Ok:=
 ⟨ok.mod,ok.kind,ok.glob,ok.blt,ok.above,ok.inj,ok.has,ok.cab,ok.hd,ok.frames,ok.stk,ok.exf,ok.bs,ok.bsz,ok.noex,ok.exfs,ok.funs,ok.frf,ok.sys0⟩
section
variable{E:Value->Shared->Prop}
def Inv.wish(I:Inv X sa σ H s)(E:Value->Shared->Prop):Inv (X.wish E) sa σ H s:=⟨I.ok.wish E,I.os,I.bare,I.base,I.loc,I.cell,I.free,I.freeC,I.pin,I.hok,I.len⟩
def Inv.unwish(I:Inv (X.wish E) sa σ H s):Inv X sa σ H s:=⟨I.ok.unwish,I.os,I.bare,I.base,I.loc,I.cell,I.free,I.freeC,I.pin,I.hok,I.len⟩
theorem SP.unwish{D:jO}{f:Flow}{s':Shared}(h:SP (X.wish E) sa D f s'):SP X sa D f s':=by
 cases f with
 |next=>obtain⟨σ',H',I,q⟩:=h;exact⟨σ',H',I.unwish,q⟩
 |brk=>obtain⟨σ',H',I,q⟩:=h;exact⟨σ',H',I.unwish,q⟩
 |cont=>obtain⟨σ',H',I,q⟩:=h;exact⟨σ',H',I.unwish,q⟩
 |ret u=>obtain⟨v,σ',H',I,r,q⟩:=h;exact⟨v,σ',H',I.unwish,r,q⟩
end
section
variable{st:Stmt}{rest:List Stmt}{t u:TS}
def uY:TS:=λD σ H=>D.nx σ H
def AD(t u:TS):TS:=λD σ H=>t { D with nx:=u D } σ H
def pY:l7 X [] uY:=λ_ _ σ H _ I h=>NG ⟨σ,H,I,h⟩
theorem jP(h1:PS X st t)(h2:l7 X rest u):l7 X (st::rest) (AD t u):=by
 intro sa s σ H D I h;refine wpAny_execs_cons<|bC (h1 sa s σ H { D with nx:=u D } I h) λf s1 q=>?_;cases f with
 |next=>obtain⟨σ',H',I',q⟩:=q;exact h2 sa s1 σ' H' D I' q
 |ret v=>exact q|brk=>exact q|cont=>exact q
theorem i9(h1:PS X st t):l7 X [st] t:=by
 intro sa s σ H D I h;refine wpAny_execs_cons<|bC (h1 sa s σ H D I h) λf s1 q=>?_;cases f with
 |next=>exact NG q|ret v=>exact q|brk=>exact q|cont=>exact q
def rZ:TS:=λD σ H=>D.bk σ H
def mH:PS X (.Break pos) rZ:=λ_ _ σ H _ I h=>wpAny_Break ⟨σ,H,I,h⟩
theorem Inv.quiet(I:Inv X sa σ H s):interactive X.env=false:=by simp[interactive,I.ok.kind]
def uZ(te:TE):TS:=λD σ H=>te σ H λ_ H1=>D.nx σ H1
theorem ja(he:PE X e te)(hs:swapsWith e none pos.line X.env=pure false:=by rfl):PS X (.Expr e pos) (uZ te):=by intro sa s σ H D I h;exact wpAny_Expr_any (bC (he sa s σ H _ I h) λv s1 ⟨x,H1,I1,r1,q1⟩=>⟨σ,H1,I1,q1⟩) I.quiet hs
def AE(te:TE):TS:=λD σ H=>te σ H D.rt
theorem sd(he:PE X e te):PS X (.Return (some e) pos) (AE te):=by intro sa s σ H D I h;exact wpAny_Return_some<|bC (he sa s σ H _ I h) λv s1 ⟨x,H1,I1,r1,q1⟩=>⟨x,σ,H1,I1,r1,q1⟩
def AF(c:TT)(t u:TS):TS:=λD σ H=>c σ H λb H1=>if b=true then t D σ H1 else u D σ H1
theorem u0{a b:List Stmt}(hc:PT X c tc)(ha:l7 X a t)(hb:l7 X b u):PS X (.If c a b pos) (AF tc t u):=by
 intro sa s σ H D I h;refine wpAny_If<|bC (hc sa s σ H _ I h) λd s1 ⟨H1,I1,q1⟩=>?_;cases d with
 |true=>exact ha sa s1 σ H1 D I1 q1|false=>exact hb sa s1 σ H1 D I1 q1
end
abbrev TG:=V->St->Hp->(St->Hp->Prop)->Prop
abbrev se:=List V->St->Hp->(St->Hp->Prop)->Prop
def PG(X:Cx)(target:Expr)(t:TG):Prop:=
 ∀(sa:List (Addr×Obj)) (s:Shared) (σ:St) (H:Hp) (v:V) (u:Value) (Q:St->Hp->Prop),Inv X sa σ H s->RelV v u->t v σ H Q->
  wpAny (model X.prog X.w) X.A (assign target X.env u) (λ_ s'=>∃σ' H',Inv X sa σ' H' s'/\Q σ' H') X.xe s
def u3(X:Cx)(ts:List Expr)(t:se):Prop:=
 ∀(sa:List (Addr×Obj)) (s:Shared) (σ:St) (H:Hp) (vs:List V) (us:List Value) (Q:St->Hp->Prop),Inv X sa σ H s->Vals vs us->t vs σ H Q->
  wpAny (model X.prog X.w) X.A (assignInOrder ((assignEach ts X.env).map (·.2)) us) (λ_ s'=>∃σ' H',Inv X sa σ' H' s'/\Q σ' H') X.xe s
abbrev mI:=V->V->V->Hp->(Hp->Prop)->Prop
def sf(X:Cx)(t:mI):Prop:=
 ∀(sa:List (Addr×Obj)) (s:Shared) (σ:St) (H:Hp) (o i v:V) (ov iv u:Value) (Q:Hp->Prop),Inv X sa σ H s->RelV o ov->RelV i iv->RelV v u->t o i v H Q->
  wpAny (model X.prog X.w) X.A (setItem ov iv u) (λ_ s'=>∃H',Inv X sa σ H' s'/\Q H') X.xe s
abbrev yn:=V->V->Hp->VK->Prop
def Dp(X:Cx)(op:Operator)(t:yn):Prop:=
 ∀(sa:List (Addr×Obj)) (s:Shared) (σ:St) (H:Hp) (x y:V) (v u:Value) (Q:VK),Inv X sa σ H s->RelV x v->RelV y u->t x y H Q->
  wpAny (model X.prog X.w) X.A (inplaceOp op v u) (EP X sa σ Q) X.xe s
section
def kW(i:Nat):TG:=λv σ H Q=>Q (σ.set i<|some v) H
theorem jb(hN:X.N.Nodup)(hi:X.N[i]? = some x)(hx:kf X.env.scope x)(hf:X.fn x=true\/X.env.scope.names.lookup x=some .local:=by first|exact .inl rfl|exact .inr rfl|assumption):PG X (.Name x pos) (kW i):=by intro sa s σ H v u Q I r h;exact wpAny_assign_Name<|fq I hN hi hx r (λs' I'=>⟨_,H,I',h⟩) hf
def AG:se:=λvs σ H Q=>vs=[]/\Q σ H
def u4(t:TG)(u:se):se:=λvs σ H Q=>∃v r,vs=v::r/\t v σ H λσ' H'=>u r σ' H' Q
theorem pZ:u3 X [] AG:=by intro sa s σ H vs us Q I r h;obtain⟨e,h⟩:=h;subst e;cases r;exact assignInOrder_nil ⟨σ,H,I,h⟩
theorem mJ{t:TG}{u:se}(h1:PG X e t)(h2:u3 X es u)
  (hs:(assignEach (e::es) X.env).map (·.2)=assign e X.env::(assignEach es X.env).map (·.2):=by rfl):u3 X (e::es) (u4 t u):=by
 intro sa s σ H vs us Q I r h;obtain⟨v,vr,e1,h⟩:=h;subst e1;cases r with
 |cons r rr=>
  rw[hs];refine assignInOrder_cons<|bC (h1 sa s σ H _ _ _ I r h) λ_ s1 ⟨σ1,H1,I1,q1⟩=>?_;exact h2 sa s1 σ1 H1 _ _ Q I1 rr q1
def AH(K:Nb)(n:Nat)(t:se):TG:=λv σ H Q=>∃a xs,v=.ref a/\SqT K H a xs/\xs.length=n/\t xs σ H Q
theorem sh{t:se}(hc:X.calm=true)(h:u3 X es t)
  (hn:(assignEach es X.env).length=n:=by rfl) (hst:(assignEach es X.env).findIdx? (·.1)=none:=by rfl):PG X (.Tuple es k pos) (AH X.K n t):=by
 intro sa s σ H v u Q I r hw;obtain⟨a,xs,e1,hq,hl,hw⟩:=hw;subst e1;cases r;obtain⟨its,rv,ht,hz⟩:=I.tuple hq;refine assign_Tuple_tuple (I.ok.hd hc) ht (by simp[hn,<-hl,rv.length]) hst λh' hx=>?_;have I1:Inv X sa σ H { s with heap:=h' }:=I.kept (t':=s.toks) λb o e=>hx b o (gK<|dm e) e;exact h sa _ σ H xs _ Q I1 (by simpa using rv) hw
def AI(to ti:TE)(t:mI):TG:=λv σ H Q=>to σ H λo H1=>ti σ H1 λi H2=>t o i v H2 λH3=>Q σ H3
theorem gY{o i:Expr}{to ti:TE}{t:mI}(ho:PE X o to)(hi:PE X i ti)(hs:sf X t)
  (ha:∀ v,assign (.Subscript o i pos) X.env v=(do
   let ov <-holding [v] (eval o X.env)
   let iv <-holding [v,ov] (eval i X.env)
   standAt pos
   holding [v,ov,iv] (setItem ov iv v)
   release [v,ov,iv] []):=by intro _;rfl):PG X (.Subscript o i pos) (AI to ti t):=by
 intro sa s σ H v u Q I r h;rw[ha];refine Na<|NC (bC (ho sa s σ H _ I h) λov s1 ⟨x,H1,I1,r1,q1⟩=>?_);refine Na<|NC (bC (hi sa s1 σ H1 _ I1 q1) λiv s2 ⟨y,H2,I2,r2,q2⟩=>?_);refine Na<|Nw (Na<|NC<|bC (hs sa s2 σ H2 x y v ov iv u _ I2 r1 r2 r q2) λ_ s3 ⟨H3,I3,q3⟩=>?_);exact wpAny_release ⟨σ,H3,I3,q3⟩
def si(te:TE)(g:TG):TS:=λD σ H=>te σ H λx H1=>g x σ H1 D.nx
theorem fU{g:TG}(he:PE X e te)(hg:PG X tg g)(hs:swapsWithSole [tg] e pos.line X.env=pure false:=by rfl)(hw:swappedStores [tg] e X.env=pure none:=by rfl)
  (h1:(assignEach [tg] X.env).map (·.2)=[assign tg X.env]:=by rfl):PS X (.Assign [tg] e pos) (si te g):=by
 intro sa s σ H D I h;refine wpAny_Assign_stores (bC (he sa s σ H _ I h) λv s1 ⟨x,H1,I1,r1,q1⟩=>?_) hs hw;rw[h1];exact bC (hg sa s1 σ H1 x v _ I1 r1 q1) λ_ s2 q=>q
theorem jc(hN:X.N.Nodup)(hi:X.N[i]? = some x)(hx:kf X.env.scope x)(he:PE X e te)(hs:swapsWith e (some<|.Name x pos') pos.line X.env=pure false:=by rfl)(hf:X.fn x=true\/X.env.scope.names.lookup x=some .local:=by first|exact .inl rfl|exact .inr rfl|assumption) :
  PS X (.Assign [.Name x pos'] e pos) (si te<|kW i):=by
 intro sa s σ H D I h;refine wpAny_Assign_Name (bC (he sa s σ H _ I h) λv s1 ⟨y,H1,I1,r1,q1⟩=>?_) hs;exact fq I1 hN hi hx r1 (λs2 I2=>⟨_,H1,I2,q1⟩) hf
def AJ(i j:Nat)(ta:TA):TS:=λD σ H=>ta σ H λvs H1=>∃v w,vs=[v,w]/\D.nx ((σ.set i<|some v).set j<|some w) H1
theorem sj{y:Str}{a b:Expr}{ta:TA}{px py pt:Pos}{kt k2 pt2}(hc:X.calm=true)(hN:X.N.Nodup)(hi:X.N[i]? = some x)(hj:X.N[j]? = some y)(hij:i≠j)
  (hx:X.env.scope.names.lookup x=some .local) (hy:X.env.scope.names.lookup y=some .local) (ha:PA X [a,b] ta)
  (hw:swappedStores [.Tuple [.Name x px,.Name y py] kt pt] (.Tuple [a,b] k2 pt2) X.env=pure (some [x,y]))
  (hs:swapsWithSole [.Tuple [.Name x px,.Name y py] kt pt] (.Tuple [a,b] k2 pt2) pos.line X.env=pure false:=by rfl) :
  PS X (.Assign [.Tuple [.Name x px,.Name y py] kt pt] (.Tuple [a,b] k2 pt2) pos) (AJ i j ta):=by
 intro sa s σ H D I h;rw[exec_Assign_arm];refine Na<|Nw ?_;rw[hs];refine Na<|Nc ?_;rw[ks<|by decide];refine Na<|Tuple_ (bC (ha _ sa s σ H _ I h) λus s1 ⟨vs,H1,I1,r1,q1⟩=>?_);obtain⟨v,w,e1,q1⟩:=q1;subst e1;obtain⟨u1,u2,rfl,rv,rw'⟩:∃u1 u2,us=[u1,u2]/\RelV v u1/\RelV w u2:=by
  cases r1 with
  |cons p q=>
   cases q with
   |cons p' q'=>
    cases q';exact⟨_,_,rfl,p,p'⟩
 refine Nq ?_ (by show 2<=sizeLine;decide);have I2:Inv X sa σ H1 { s1 with heap:=s1.heap.push { cls:=.type "tuple",data:=.seq [u1,u2].toArray } }:=I1.kept (t':=s1.toks) λb o e=>dB _ e;rw[hw];refine Na<|Nc ?_;show wpAny (model X.prog X.w) X.A (do rule "assign.swapped-stores";let items <-unpackItems (.ref s1.heap.objs.size) 2 none;assignInOrder [λv=>bindName X.env y v,λv=>bindName X.env x v] items.reverse;pure Flow.next) _ _ _;refine Na<|ND (Na<|unpackItems_tuple (items:=#[u1,u2]) (I.ok.hd hc) (IsTup.new s1.heap _) λh' hx'=>?_);have I3:=I2.kept (h':=h') (t':=s1.toks) λb o e=>hx' b o (gK<|dm e) e;show wpAny _ _ (assignInOrder [λv=>bindName X.env y v,λv=>bindName X.env x v] [u2,u1] >>= λ_=>pure Flow.next) _ _ _;refine Na<|assignInOrder_cons (wpAny_bindName<|fq I3 hN hj (.inl hy) rw' (λs2 I4=>?_)<|.inr hy);refine assignInOrder_cons<|wpAny_bindName (fq I4 hN hi (.inl hx) rv (λs3 I5=>assignInOrder_nil<|Nc ?_)<|.inr hx);rw[List.set_comm _ _<|Nm hij]at I5;exact⟨_,H1,I5,q1⟩
def u5(to ti te:TE)(tget:V->V->Hp->VK->Prop)(tip:yn)(tset:mI):TS:=λD σ H=>to σ H λo H1=>ti σ H1 λi H2=>tget o i H2 λx H3=>te σ H3 λy H4=>tip x y H4 λz H5=>tset o i z H5 λH6=>D.nx σ H6
def u6(X:Cx)(t:V->V->Hp->VK->Prop):Prop:=
 ∀(sa:List (Addr×Obj)) (s:Shared) (σ:St) (H:Hp) (o i:V) (ov iv:Value) (Q:VK),Inv X sa σ H s->RelV o ov->RelV i iv->t o i H Q->
  wpAny (model X.prog X.w) X.A (getItem ov iv) (EP X sa σ Q) X.xe s
theorem p6{o i:Expr}{to ti:TE}{tip:yn}{tset:mI}{op:Operator}(ho:PE X o to)(hi:PE X i ti)(hg:u6 X tget)(he:PE X e te)(hp:Dp X op tip)(hs:sf X tset)
  (ha:∀ov iv new,augStore i ov iv new=(do holding [new,ov,iv] (setItem ov iv new);release [new,ov,iv] [];pure .next):=by intros;rfl):PS X (.AugAssign (.Subscript o i tpos) op e pos) (u5 to ti te tget tip tset):=by
 intro sa s σ H D I h;refine wpAny_AugAssign_SubscriptAny (bC (ho sa s σ H _ I h) λov s1 ⟨x1,H1,I1,r1,q1⟩=>?_) ha;refine bC (hi sa s1 σ H1 _ I1 q1) λiv s2 ⟨x2,H2,I2,r2,q2⟩=>?_;refine bC (hg sa s2 σ H2 x1 x2 ov iv _ I2 r1 r2 q2) λold s3 ⟨x3,H3,I3,r3,q3⟩=>?_;refine bC (he sa s3 σ H3 _ I3 q3) λv s4 ⟨x4,H4,I4,r4,q4⟩=>?_;refine bC (hp sa s4 σ H4 x3 x4 old v _ I4 r3 r4 q4) λnew s5 ⟨x5,H5,I5,r5,q5⟩=>?_;exact bC (hs sa s5 σ H5 x1 x2 x5 ov iv new _ I5 r1 r2 r5 q5) λ_ s6 ⟨H6,I6,q6⟩=>⟨σ,H6,I6,q6⟩
def Hh(f:Int->Int->Int):yn:=λx y H Q=>∃i j,x=.int i/\y=.int j/\Q (.int<|f i j) H
theorem sk:Dp X .Add (Hh λi j=>i+j):=by intro sa s σ H x y v u Q I r1 r2 h;obtain⟨i,j,e1,e2,q⟩:=h;subst e1;subst e2;obtain⟨t,rfl⟩:=r1;obtain⟨t',rfl⟩:=r2;exact iadd_int ⟨.int _,H,I.tok _,⟨_,rfl⟩,q⟩
end
section
def sr(c:TT)(tb:TS):TS:=λD σ H=>∃W:Nat->St->Hp->Prop,(∃m,W m σ H)/\∀m σ H,W m σ H->
 c σ H λb H1=>if b=true then∃N:St->Hp->Prop,(∀σ' H',N σ' H'->∃m',m'<m/\W m' σ' H')/\tb { D with nx:=N,ct:=N,bk:=D.nx } σ H1 else D.nx σ H1
theorem mK{tb:TS}(hp:PassesOwn (model X.prog X.w) X.A X.env X.xe)(hc:PT X c tc)(hb:l7 X body tb):PS X (.While c body [] pos) (sr tc tb):=by
 intro sa s σ H D I h;obtain⟨W,⟨m0,w0⟩,turn⟩:=h;refine wpAny_While<|codeAny_whileLoop (λn s'=>∃σ' H',Inv X sa σ' H' s'/\W n σ' H') ?_ m0 ⟨σ,H,I,w0⟩;rintro n s1 ⟨σ1,H1,I1,w1⟩;refine NA hp<|bC (hc sa s1 σ1 H1 _ I1<|turn n σ1 H1 w1) λb s2 ⟨H2,I2,q2⟩=>?_;cases b with
 |true=>
  obtain⟨N,hN,q2⟩:=q2;rw[oI rfl];refine NA hp<|bC (hb sa s2 σ1 H2 _ I2 q2) λf s3 q3=>?_;cases f with
  |next=>
   obtain⟨σ3,H3,I3,n3⟩:=q3;obtain⟨m',hm,w3⟩:=hN σ3 H3 n3;exact⟨m',hm,σ3,H3,I3,w3⟩
  |cont=>
   obtain⟨σ3,H3,I3,n3⟩:=q3;obtain⟨m',hm,w3⟩:=hN σ3 H3 n3;exact⟨m',hm,σ3,H3,I3,w3⟩
  |brk=>exact q3|ret v=>exact q3
 |false=>rw[ks jK];exact NG ⟨σ1,H2,I2,q2⟩
end
structure It where
 go:Nat->Hp->Prop
 yld:Nat->Hp->V->Hp->Prop
 stop:Nat->Hp->Prop
def dH(X:Cx)(sa:List (Addr×Obj))(H:Hp)(b:Addr):Prop:=
 H b=none/\b≠X.env.locals/\b∉X.fs/\(b∈X.ex\/X.s₀.heap.objs.size<=b)/\(∀x c,X.env.cells.lookup x=some c->c≠b)/\∀p∈X.pn++sa,p.1≠b
theorem Inv.fpOk(I:Inv X sa σ H s)(hb:s.heap.objs.size<=b)(hn:H' b=none):dH X sa H' b:=by
 refine⟨hn,xL<|da I.lt hb,I.nofs hb,.inr<|gU I.sz hb,λx c e z=>?_,λp hp z=>?_⟩;obtain⟨v,q⟩:=I.cell x c e;exact Nd (da q.lt (by rw[z];exact hb))<|iK _
 exact Nd (da (dm (I.pin p hp).1) (by rw[z];exact hb))<|iK _
structure jd(P:Program)(w:World)(K:Nb)(tg:Expr)(J:It)(fp:List Addr)(it:Addr)(tn:Nat->Heap->Prop):Prop where
 mem:it∈fp
 obj:∀i h,tn i h->∀b∈fp,∃o,h.get? b=some o/\∀v,o.data≠.cell v
 keep:∀i h h',tn i h->(∀b∈fp,∀o,h.get? b=some o->h'.get? b=some o)->tn i h'
 item:∀(X:Cx),X.prog=P->X.w=w->X.K=K->X.calm=true->∀(i:Nat) (sa:List (Addr×Obj)) (s:Shared) (σ:St) (H:Hp) (E:Value->Shared->Prop),Inv X sa σ H s->(∀b∈fp,dH X sa H b)->tn i s.heap->J.go i H->
  wpAny (model P w) X.A (pyNext<|.ref it) (λr s1=>∃ u,r=some u/\
   wpAny (model P w) X.A (letOwnedTupleGo tg (.ref it) u) (λ_ s2=>∃x H',Inv X sa σ H' s2/\RelV x u/\J.yld i H x H'/\tn (i+1) s2.heap/\∀b∈fp,H' b=none) E s1) E s
 done:∀(X:Cx),X.prog=P->X.w=w->X.K=K->X.calm=true->∀(i:Nat) (sa:List (Addr×Obj)) (s:Shared) (σ:St) (H:Hp) (E:Value->Shared->Prop),Inv X sa σ H s->(∀b∈fp,dH X sa H b)->tn i s.heap->J.stop i H->
  wpAny (model P w) X.A (pyNext<|.ref it) (λr s1=>r=none/\Inv X sa σ H s1) E s
 self:∀(A:Around) (i:Nat) (s:Shared) (Q:Value->Shared->Prop) (E:Value->Shared->Prop),tn i s.heap->Q (.ref it) s->wpAny (model P w) A (pyIter<|.ref it) Q E s
abbrev TI:=St->Hp->(It->Hp->Prop)->Prop
def Dq(X:Cx)(sa:List (Addr×Obj))(σ:St)(tg:Expr)(R:It->Hp->Prop)(itv:Value)(s2:Shared):Prop:=
 ∃(it:Addr) (fp:List Addr) (tn:Nat->Heap->Prop) (J:It) (H':Hp),itv=.ref it/\Inv X sa σ H' s2/\jd X.prog X.w X.K tg J fp it tn/\tn 0 s2.heap/\(∀b∈fp,dH X sa H' b)/\R J H'
def PI(X:Cx)(tg iter:Expr)(wi:TI):Prop:=
 ∀(sa:List (Addr×Obj)) (s:Shared) (σ:St) (H:Hp) (R:It->Hp->Prop),Inv X sa σ H s->wi σ H R->
  wpAny (model X.prog X.w) X.A (eval iter X.env) (λv s1=>wpAny (model X.prog X.w) X.A (pyIter v) (Dq X sa σ tg R) X.xe s1) X.xe s
theorem mL{M:Model}{E:Value->Shared->Prop}{u:Value}{n:String}{vs:Array Value}{Q:Unit->Shared->Prop}(ho:s.heap.get? it=some o)(hc:o.cls = .type n)(hd:o.data = .fields vs)
    (hn:["enumerate", "zip", "dict_itemiterator", "dict_reverseitemiterator", "odict_iterator", "itertools.zip_longest", "itertools.pairwise"].contains n=false) (hQ:Q () s):wpAny M A (letOwnedTupleGo tg (.ref it) u) Q E s:=by
  unfold letOwnedTupleGo;cases tg<;>first
    |exact Nc hQ
    | (cases u<;>first
        |exact Nc hQ
        | (refine Na (wpAny_load ho ?_)
           rw[hc,hd];show wpAny M A (if(["enumerate", "zip", "dict_itemiterator", "dict_reverseitemiterator", "odict_iterator", "itertools.zip_longest", "itertools.pairwise"].contains n&&vs[0]? == some (rawInt _))=true then _ else _) Q E s;rw[ks (by intro h;rw[hn,tM]at h;cases h)];exact Nc hQ))
def AK(K:Nb)(a:Addr):It:=
 ⟨λi H=>∃xs x,SqL K H a xs/\xs[i]? = some x,λi H x H'=>H'=H/\∀xs,SqL K H a xs->xs[i]? = some x,λi H=>∃xs,SqL K H a xs/\xs.length<=i⟩
def AL(K:Nb)(a:Addr):It:=
 ⟨λi H=>∃xs x,SqT K H a xs/\xs[i]? = some x,λi H x H'=>H'=H/\∀xs,SqT K H a xs->xs[i]? = some x,λi H=>∃xs,SqT K H a xs/\xs.length<=i⟩
def u7(lo:Int)(n:Nat):It:=⟨λi _=>i<n,λi H x H'=>H'=H/\x=.int (lo+i),λi _=>n<=i⟩
theorem iP(a it:Addr):jd P w K tg (AK K a) [it] it (λi h=>h.IsListIter it a i) where
 mem:=by simp
 obj:=λi h st b hb=>by
  have e:b=it:=by simpa using hb
  subst e;obtain⟨o,e,c,d⟩:=st;exact⟨o,e,λv z=>by rw[d]at z;cases z⟩
 keep:=λi h h' st k=>st.at λo e=>k it (by simp) o e
 item:=by intro X hP hw hK hc i sa s σ H E I hf st hg;subst hP hw hK;obtain⟨xs,x,hq,hx⟩:=hg;obtain⟨its,rv,p,hz⟩:=I.list hq;obtain⟨u,hu,ru⟩:=rv.get hx;obtain⟨f0,f1,f2,f3,f4,f5⟩:=hf it (by simp);refine wpAny_pyNext_list_item st p.isList (x:=u) (by simpa using hu) λh' st' sb=>?_;have I1:Inv X sa σ H { s with heap:=h' }:=I.turned (t':=s.toks) (λb o hb e=>(sb.2 b hb).trans e) f0 f1 f3 f4 f5;obtain⟨o,e,c,d⟩:=id st';exact⟨u,rfl,mL (s:={ s with heap:=h' }) e c d (by decide) ⟨x,H,I1,ru,⟨rfl,λys hy=>by rw[I.list_inj hy hq];exact hx⟩,st',λb hb=>(hf b hb).1⟩⟩
 done:=by intro X hP hw hK hc i sa s σ H E I hf st hg;subst hP hw hK;obtain⟨xs,hq,hx⟩:=hg;obtain⟨its,rv,p,hz⟩:=I.list hq;obtain⟨f0,f1,f2,f3,f4,f5⟩:=hf it (by simp);have hl:=rv.length;exact wpAny_pyNext_list_end (I.ok.hd hc) st p.isList (by simp;omega) λh' eb=>⟨rfl,I.turned (t':=s.toks) (λb o hb e=>eb b o hb e) f0 f1 f3 f4 f5⟩
 self:=λ_ _ _ _ _ st h=>wpAny_pyIter_listiter st h
theorem km(a it:Addr):jd P w K tg (AL K a) [it] it (λi h=>h.IsTupleIter it a i) where
 mem:=by simp
 obj:=λi h st b hb=>by
  have e:b=it:=by simpa using hb
  subst e;obtain⟨o,e,c,d⟩:=st;exact⟨o,e,λv z=>by rw[d]at z;cases z⟩
 keep:=λi h h' st k=>st.at λo e=>k it (by simp) o e
 item:=by intro X hP hw hK hc i sa s σ H E I hf st hg;subst hP hw hK;obtain⟨xs,x,hq,hx⟩:=hg;obtain⟨its,rv,p,hz⟩:=I.tuple hq;obtain⟨u,hu,ru⟩:=rv.get hx;obtain⟨f0,f1,f2,f3,f4,f5⟩:=hf it (by simp);refine wpAny_pyNext_tuple_item st (show s.heap.IsTuple a its.toArray from p) (x:=u) (by simpa using hu) λh' st' sb=>?_;have I1:Inv X sa σ H { s with heap:=h' }:=I.turned (t':=s.toks) (λb o hb e=>(sb.2 b hb).trans e) f0 f1 f3 f4 f5;obtain⟨o,e,c,d⟩:=id st';exact⟨u,rfl,mL (s:={ s with heap:=h' }) e c d (by decide) ⟨x,H,I1,ru,⟨rfl,λys hy=>by rw[I.tuple_inj hy hq];exact hx⟩,st',λb hb=>(hf b hb).1⟩⟩
 done:=by intro X hP hw hK hc i sa s σ H E I hf st hg;subst hP hw hK;obtain⟨xs,hq,hx⟩:=hg;obtain⟨its,rv,p,hz⟩:=I.tuple hq;obtain⟨f0,f1,f2,f3,f4,f5⟩:=hf it (by simp);have hl:=rv.length;exact wpAny_pyNext_tuple_end (I.ok.hd hc) st (show s.heap.IsTuple a its.toArray from p) (by simp;omega) λh' eb=>⟨rfl,I.turned (t':=s.toks) (λb o hb e=>eb b o hb e) f0 f1 f3 f4 f5⟩
 self:=λ_ _ _ _ _ st h=>wpAny_pyIter_tupleiter st h
theorem kq(it:Addr)(lo:Int)(n:Nat):jd P w K tg (u7 lo n) [it] it (λi h=>IsRangeIter h it (lo+(i:Nat)*1) ((n:Int)-(i:Nat)) 1) where
 mem:=by simp
 obj:=λi h st b hb=>by
  have e:b=it:=by simpa using hb
  subst e;exact ⟨_,st,λv z=>by
   have z':Data.fields _=Data.cell v:=z;cases z'⟩
 keep:=λi h h' st k=>k it (by simp) _ st
 item:=by intro X hP hw hK hc i sa s σ H E I hf st hg;subst hP hw hK;obtain⟨f0,f1,f2,f3,f4,f5⟩:=hf it (by simp);have W:=Walks.range (prog:=X.prog) (w:=X.w) (I.ok.hd hc) it lo 1 n;refine W.item i s _ _ hg st λv h' tk hv st' kk=>?_;obtain⟨t,rfl⟩:=hv;have I1:Inv X sa σ H { s with heap:=h',toks:=tk }:=I.turned (λb o hb e=>kk b o (by simpa using hb) e) f0 f1 f3 f4 f5;refine⟨_,rfl,mL (s:={ s with heap:=h',toks:=tk }) (n:= "range_iterator") st' rfl rfl (by decide) ⟨.int<|lo+i,H,I1,⟨t,?_⟩,⟨rfl,rfl⟩,st',λb hb=>(hf b hb).1⟩⟩;rw[Int.mul_one]
 done:=by intro X hP hw hK hc i sa s σ H E I hf st hg;subst hP hw hK;obtain⟨f0,f1,f2,f3,f4,f5⟩:=hf it (by simp);exact wpAny_pyNext_range_end (I.ok.hd hc) st (by have:n<=i:=hg;omega) λh' eb=>⟨rfl,I.turned (t':=s.toks) (λb o hb e=>eb b o hb e) f0 f1 f3 f4 f5⟩
 self:=λ_ _ _ _ _ st h=>wpAny_pyIter_rangeiter st h
section
def u8(K:Nb)(tl:TE):TI:=λσ H R=>tl σ H λx H1=>∃a,x=.ref a/\(∃xs,SqL K H1 a xs)/\R (AK K a) H1
theorem kX{l:Expr}{tl:TE}(hl:PE X l tl):PI X tg l (u8 X.K tl):=by
 intro sa s σ H R I h;refine bC (hl sa s σ H _ I h) λv s1 ⟨x,H1,I1,r1,q1⟩=>?_;obtain⟨a,e,⟨xs,hq⟩,q⟩:=q1;subst e;cases r1;obtain⟨its,rv,p,hz⟩:=I1.list hq;refine NK p.isList ?_;refine⟨s1.heap.objs.size,[s1.heap.objs.size],_,_,H1,rfl,I1.kept (t':=s1.toks) λb o e=>dB _ e,iP a _,⟨_,ia _ rfl,rfl,rfl⟩,λb hb=>?_,q⟩;have e:b=s1.heap.objs.size:=by simpa using hb
 subst e;exact I1.fpOk (cF _)<|I1.hok.fresh (cF _)
theorem jQ{R:It->Hp->Prop}{E:Value->Shared->Prop}{lo hi:Int}{t u v:Tok}{tk:Nat}(I:Inv X sa σ H s)(h1:-(2^62)<=lo)(h2:lo<2^62)(h3:-(2^62)<=hi)(h4:hi<2^62)
  (q:R (u7 lo (hi-lo).toNat) H):wpAny (model X.prog X.w) X.A (pyIter<|.ref s.heap.objs.size) (Dq X sa σ tg R) E { s with heap:=s.heap.push { cls:=.type "range",data:=.fields #[.int lo t,.int hi u,.int 1 v] },toks:=tk }:=by
 refine wpAny_pyIter_range (IsRange.new ..) (small_one h1 h2 h3 h4) ?_;have I1:Inv X sa σ H { s with heap:=s.heap.push { cls:=.type "range",data:=.fields #[.int lo t,.int hi u,.int 1 v] },toks:=tk }:=I.kept λb o e=>dB _ e;refine ⟨(s.heap.push { cls:=.type "range",data:=.fields #[.int lo t,.int hi u,.int 1 v] }).objs.size,[(s.heap.push { cls:=.type "range",data:=.fields #[.int lo t,.int hi u,.int 1 v] }).objs.size],_,_,H,rfl,
  I1.kept (t':=tk) λb o e=>dB _ e,kq _ lo (hi-lo).toNat,?_,λb hb=>?_,q⟩
 .have e1:lo+((0:Nat):Int)*1=lo:=by simp
  have e2:(((hi-lo).toNat:Nat):Int)-((0:Nat):Int)=Builtin.Range.rangeSize lo hi 1:=by rw[rangeSize_one];split<;>omega
  show IsRangeIter _ _ (lo+((0:Nat):Int)*1) ((((hi-lo).toNat:Nat):Int)-((0:Nat):Int)) 1;rw[e1,e2];exact ia _ rfl
 .have e:b=(s.heap.push { cls:=.type "range",data:=.fields #[.int lo t,.int hi u,.int 1 v] }).objs.size:=by simpa using hb
  subst e;exact I1.fpOk (cF _)<|I1.hok.fresh (cF _)
def u9(ta:TA):TI:=λσ H R=>ta σ H λvs H1=>∃j:Int,vs=[.int j]/\-(2^62)<=j/\j<2^62/\R (u7 0 j.toNat) H1
def va(ta:TA):TI:=λσ H R=>ta σ H λvs H1=>∃i j:Int,vs=[.int i,.int j]/\(-(2^62)<=i/\i<2^62/\-(2^62)<=j/\j<2^62)/\R (u7 i (j-i).toNat) H1
theorem lA{a:Expr}{ta:TA}(hg:Gl X "range")(hm:X.mg "range" = none)(ha:PA X [a] ta)(hs:starEach [a] X.env=[(false,eval a X.env)]:=by rfl):PI X tg (.Call (.Name "range" p) [a] [] pos) (u9 ta):=by
 intro sa s σ H R I h;refine Call_<|eZ I hg hm boot_range (PyProof.Rows.callWith_type1 (bC (ha pos sa s σ H _ I h) λus s1 ⟨vs,H1,I1,r1,q1⟩=>?_) hs rfl);obtain⟨j,e,q1,q2,q⟩:=q1;subst e;cases r1 with
 |cons r rr=>cases rr;obtain⟨t,rfl⟩:=r;exact call_range_1<|jQ I1 (by omega) (by omega) q1 q2 (by simpa using q)
theorem lB{a b:Expr}{ta:TA}(hg:Gl X "range")(hm:X.mg "range" = none)(ha:PA X [a,b] ta)(hs:starEach [a,b] X.env=[(false,eval a X.env),(false,eval b X.env)]:=by rfl)(hs2:starEach [b] X.env=[(false,eval b X.env)]:=by rfl) :
  PI X tg (.Call (.Name "range" p) [a,b] [] pos) (va ta):=by
 intro sa s σ H R I h;refine Call_<|eZ I hg hm boot_range (PyProof.Rows.callWith_type1 (bC (ha pos sa s σ H _ I h) λus s1 ⟨vs,H1,I1,r1,q1⟩=>?_) (by rw[hs,hs2]) (by rw[hs2];rfl));obtain⟨i,j,e,⟨q1,q2,q3,q4⟩,q⟩:=q1;subst e;cases r1 with
 |cons r rr=>
  cases rr with
  |cons r' rr=>
   cases rr;obtain⟨t,rfl⟩:=r;obtain⟨t',rfl⟩:=r';exact call_range_2<|jQ I1 q1 q2 q3 q4 q
def AM(wi:TI)(g:TG)(tb:TS):TS:=λD σ H=>wi σ H λJ H1=>∃W:Nat->Nat->St->Hp->Prop,(∃m,W 0 m σ H1)/\∀i m σ H,W i m σ H->
 (J.stop i H/\D.nx σ H)\/(J.go i H/\∃N:St->Hp->Prop,(∀σ' H',N σ' H'->∃m',m'<m/\W (i+1) m' σ' H')/\∀x H',J.yld i H x H'->g x σ H' λσ2 H2=>tb { D with nx:=N,ct:=N,bk:=D.nx } σ2 H2)
def eF(fp:List Addr)(h:Heap):List (Addr×Obj):=fp.filterMap λb=>(h.get? b).map λo=>(b,o)
theorem cC(hb:b∈fp)(e:h.get? b=some o):(b,o)∈eF fp h:=YaA.mpr ⟨b,hb,by rw[e];rfl⟩
theorem lC{p:Addr×Obj}(hp:p∈eF fp h):p.1∈fp/\h.get? p.1=some p.2:=by
 obtain⟨b,hb,e⟩:=YaA.mp hp;cases q:h.get? b with
 |none=>rw[q]at e;cases e
 |some o=>rw[q]at e;have e':(b,o)=p:=Ng e;subst e';exact⟨hb,q⟩
theorem Inv.pinned(I:Inv X sa σ H s)(hf:∀b∈fp,dH X sa H b)(ho:∀b∈fp,∃o,s.heap.get? b=some o/\∀v,o.data≠.cell v):Inv X (sa++eF fp s.heap) σ H s:=
 I.pins_of λp hp=>(Yao.mp hp).elim (λz=>I.pin p<|iM _ z) λz=>by
  obtain⟨hb,e⟩:=lC z;obtain⟨f0,f1,f2,_⟩:=hf p.1 hb;obtain⟨o,e',d⟩:=ho p.1 hb;rw[e]at e';cases e';exact⟨e,f0,f1,f2,d⟩
def Inv.unpinned{pl:List (Addr×Obj)}(I:Inv X (sa++pl) σ H s):Inv X sa σ H s:=I.pins_of λp hp=>I.pin p<|iM _ (Ab _ hp)
theorem ku{iter:Expr}{wi:TI}{g:TG}{tb:TS}(hp:PassesOwn (model X.prog X.w) X.A X.env X.xe)(hc:X.calm=true)(hi:PI X tg iter wi)(hg:PG X tg g)(hb:l7 X body tb)
  (hs:∀x,foldedSetIterable iter X.env x=pure x:=by intro _;rfl):PS X (.For tg iter body [] pos) (AM wi g tb):=by
 intro sa s σ H D I h;refine wpAny_For (bC (hi sa s σ H _ I h) λv s1 h1=>bC h1 λitv s2 h2=>?_) hs;obtain⟨it,fp,tn,J,H2,e,I2,T,st2,f2,W,⟨m0,w0⟩,turn⟩:=h2;subst e
 have stat:∀{H':Hp},(∀b∈fp,H' b=none)->∀b∈fp,dH X sa H' b:=λhn b hb=>⟨hn b hb,(f2 b hb).2⟩;refine codeAny_forLoop_any (λn s'=>∃i σ' H',Inv X sa σ' H' s'/\tn i s'.heap/\(∀b∈fp,H' b=none)/\W i n σ' H') ?_ m0 ⟨0,σ,H2,I2,st2,λb hb=>(f2 b hb).1,w0⟩;rintro n s3 ⟨i,σ3,H3,I3,st3,fr3,w3⟩;rcases turn i n σ3 H3 w3 with⟨stop,qn⟩|⟨go,N,hN,step⟩
 .refine NA hp (bC (T.done X rfl rfl rfl hc i sa s3 σ3 H3 X.xe I3 (stat fr3) st3 stop) λr s4 ⟨hr,I4⟩=>?_)
  subst hr;exact NG ⟨σ3,H3,I4,qn⟩
 .refine NA hp (bC (T.item X rfl rfl rfl hc i sa s3 σ3 H3 X.xe I3 (stat fr3) st3 go) λr s4 ⟨u,hr,h4⟩=>?_)
  subst hr;refine NA hp<|bC h4 λ_ s5 ⟨x,H5,I5,r5,y5,st5,fr5⟩=>?_;have I5':=I5.pinned (stat fr5)<|T.obj _ _ st5;refine NA hp<|bC (hg _ s5 σ3 H5 x u _ I5' r5<|step x H5 y5) λ_ s6 ⟨σ6,H6,I6,q6⟩=>?_;refine NA hp<|bC (hb _ s6 σ6 H6 _ I6 q6) λf s7 q7=>?_;have again:∀{σ7:St} {H7:Hp},Inv X (sa++eF fp s5.heap) σ7 H7 s7->N σ7 H7->∃m,m<n/\∃i σ' H',Inv X sa σ' H' s7/\tn i s7.heap/\(∀b∈fp,H' b=none)/\W i m σ' H':=λ{σ7 H7} I7 n7=>by
   obtain⟨m',hm,w7⟩:=hN σ7 H7 n7;refine⟨m',hm,i+1,σ7,H7,I7.unpinned,T.keep _ _ _ st5 λb hb o e=>(I7.pin (b,o)<|iM _<|iM _<|cC hb e).1,λb hb=>?_,w7⟩;obtain⟨o,e,d⟩:=T.obj _ _ st5 b hb;exact(I7.pin (b,o)<|iM _<|iM _<|cC hb e).2.1
  cases f with
  |next=>obtain⟨σ7,H7,I7,n7⟩:=q7;exact again I7 n7
  |cont=>obtain⟨σ7,H7,I7,n7⟩:=q7;exact again I7 n7
  |brk=>obtain⟨σ7,H7,I7,q7⟩:=q7;exact⟨σ7,H7,I7.unpinned,q7⟩
  |ret v=>obtain⟨x7,σ7,H7,I7,r7,q7⟩:=q7;exact⟨x7,σ7,H7,I7.unpinned,r7,q7⟩
end
abbrev R2:=V->V->Hp->VK->Prop
variable{r r':R2}
def OpR(X:Cx)(f:Value->Value->Sem Value)(r:R2):Prop:=
 ∀(sa:List (Addr×Obj)) (s:Shared) (σ:St) (H:Hp) (x y:V) (v u:Value) (Q:VK),Inv X sa σ H s->RelV x v->RelV y u->r x y H Q->
  wpAny (model X.prog X.w) X.A (f v u) (EP X sa σ Q) X.xe s
def yo(X:Cx)(f:Value->Sem Value)(r:V->Hp->VK->Prop):Prop:=
 ∀(sa:List (Addr×Obj)) (s:Shared) (σ:St) (H:Hp) (x:V) (v:Value) (Q:VK),Inv X sa σ H s->RelV x v->r x H Q->
  wpAny (model X.prog X.w) X.A (f v) (EP X sa σ Q) X.xe s
def dI(X:Cx)(f:Value)(r:List V->Hp->VK->Prop):Prop:=
 ∀(sa:List (Addr×Obj)) (s:Shared) (σ:St) (H:Hp) (xs:List V) (us:List Value) (Q:VK),Inv X sa σ H s->Vals xs us->r xs H Q->
  wpAny (model X.prog X.w) X.A (call f us) (EP X sa σ Q) X.xe s
def AN(X:Cx)(r:V->Hp->(Bool->Hp->Prop)->Prop):Prop:=
 ∀(sa:List (Addr×Obj)) (s:Shared) (σ:St) (H:Hp) (x:V) (v:Value) (Q:Bool->Hp->Prop),Inv X sa σ H s->RelV x v->r x H Q->
  wpAny (model X.prog X.w) X.A (truthy v) (TP X sa σ Q) X.xe s
def yp(r:R2)(ta tb:TE):TE:=λσ H Q=>ta σ H λx H1=>tb σ H1 λy H2=>r x y H2 Q
def Hi(r:V->Hp->VK->Prop)(ta:TE):TE:=λσ H Q=>ta σ H λx H1=>r x H1 Q
def rI(C:Int->Int->Prop)(g:Int->Int->V):R2:=λx y H Q=>∃i j,x=.int i/\y=.int j/\C i j/\Q (g i j) H
def p8(g:Int->Int->V):R2:=λx y H Q=>∃i j,x=.int i/\y=.int j/\Q (g i j) H
def rU(g:Int->V):V->Hp->VK->Prop:=λx H Q=>∃i,x=.int i/\Q (g i) H
section
variable{a b:Expr}{tb tc:TE}
theorem ss(ha:PE X a ta)(hb:PE X b tb){R:V->V->Hp->Prop}(I:Inv X sa σ H s)
  (h:ta σ H λx H1=>tb σ H1 λy H2=>R x y H2)
  (hf:∀v u s2 x y H2,Inv X sa σ H2 s2->RelV x v->RelV y u->R x y H2->wpAny (model X.prog X.w) X.A (f v u) Q X.xe s2) :
  wpAny (model X.prog X.w) X.A (eval a X.env) (λv s₁=>wpAny (model X.prog X.w) X.A (eval b X.env) (λu s₂=>wpAny (model X.prog X.w) X.A (f v u) Q X.xe s₂) X.xe s₁) X.xe s:=by
 refine bC (ha sa s σ H _ I h) λv s1 ⟨x,H1,I1,r1,q1⟩=>?_;refine bC (hb sa s1 σ H1 _ I1 q1) λu s2 ⟨y,H2,I2,r2,q2⟩=>?_;exact hf v u s2 x y H2 I2 r1 r2 q2
theorem mM{op:Operator}(ho:OpR X (binaryOp op) r)(ha:PE X a ta)(hb:PE X b tb):PE X (.BinOp a op b pos) (yp r ta tb):=by intro sa s σ H Q I h;exact wpAny_BinOp<|ss ha hb I h λv u s2 x y H2 I2 rx ry q=>ho sa s2 σ H2 x y v u Q I2 rx ry q
theorem qI{op:UnaryOp}{r:V->Hp->VK->Prop}(ho:yo X (unaryOp op) r)(ha:PE X a ta):PE X (.UnaryOp op a pos) (Hi r ta):=by intro sa s σ H Q I h;exact UnaryOp_<|bC (ha sa s σ H _ I h) λv s1 ⟨x,H1,I1,r1,q1⟩=>ho sa s1 σ H1 x v Q I1 r1 q1
theorem yq{C:Int->Int->Prop}
  (rule:∀(i j:Int) (t u:Tok) (s:Shared) (Q:Value->Shared->Prop) (E:Value->Shared->Prop),C i j->Q (.int (g i j) s.toks) { s with toks:=s.toks+1 }->wpAny (model X.prog X.w) X.A (f (.int i t)<|.int j u) Q E s) :
  OpR X f (rI C λi j=>.int<|g i j):=by
 intro sa s σ H x y v u Q I rx ry h;obtain⟨i,j,rfl,rfl,hc,q⟩:=h;obtain⟨t,rfl⟩:=rx;obtain⟨t',rfl⟩:=ry;exact rule i j t t' s _ _ hc ⟨.int<|g i j,H,I.tok _,⟨_,rfl⟩,q⟩
theorem vb
  (rule:∀(i j:Int) (t u:Tok) (s:Shared) (Q:Value->Shared->Prop) (E:Value->Shared->Prop),Q (.int (g i j) s.toks) { s with toks:=s.toks+1 }->wpAny (model X.prog X.w) X.A (f (.int i t)<|.int j u) Q E s) :
  OpR X f (p8 λi j=>.int<|g i j):=by
 intro sa s σ H x y v u Q I rx ry h;obtain⟨i,j,rfl,rfl,q⟩:=h;obtain⟨t,rfl⟩:=rx;obtain⟨t',rfl⟩:=ry;exact rule i j t t' s _ _ ⟨.int<|g i j,H,I.tok _,⟨_,rfl⟩,q⟩
theorem p9{g:Int->Int->Bool}
  (rule:∀(i j:Int) (t u:Tok) (s:Shared) (Q:Value->Shared->Prop) (E:Value->Shared->Prop),Q (.bool<|g i j) s->wpAny (model X.prog X.w) X.A (f (.int i t)<|.int j u) Q E s) :
  OpR X f (p8 λi j=>.bl<|g i j):=by
 intro sa s σ H x y v u Q I rx ry h;obtain⟨i,j,rfl,rfl,q⟩:=h;obtain⟨t,rfl⟩:=rx;obtain⟨t',rfl⟩:=ry;exact rule i j t t' s _ _ ⟨.bl<|g i j,H,I,rfl,q⟩
def su(i j:Int):Prop:=0<=j/\j<=1000000/\i.natAbs<2^64
def sw:OpR X (binaryOp .Add) (p8 λi j=>.int<|i+j):=vb λ_ _ _ _ _ _ _ q=>add_int q
def sx:OpR X (binaryOp .Sub) (p8 λi j=>.int<|i-j):=vb λ_ _ _ _ _ _ _ q=>sub_int q
def qa:OpR X (binaryOp .Mod) (rI (λ_ j=>j≠0) λi j=>.int<|i.fmod j):=yq λ_ _ _ _ _ _ _ hc q=>mod_int' hc q
def sC:OpR X (binaryOp .Pow) (rI su λi j=>.int<|i^j.toNat):=yq λ_ _ _ _ _ _ _ hc q=>pow_int_small hc.1 hc.2.1 hc.2.2 q
theorem Hj{f:Value->Sem Value}{g:Int->Int}
  (rule:∀(i:Int) (t:Tok) (s:Shared) (Q:Value->Shared->Prop) (E:Value->Shared->Prop),Q (.int (g i) s.toks) { s with toks:=s.toks+1 }->wpAny (model X.prog X.w) X.A (f<|.int i t) Q E s) :
  yo X f (rU λi=>.int<|g i):=by
 intro sa s σ H x v Q I rx h;obtain⟨i,rfl,q⟩:=h;obtain⟨t,rfl⟩:=rx;exact rule i t s _ _ ⟨.int<|g i,H,I.tok _,⟨_,rfl⟩,q⟩
def mO:yo X (unaryOp .USub) (rU λi=>.int (-i)):=Hj λ_ _ _ _ _ q=>neg_int q
end
def AO:V->V->Bool
 |.non,.non=>true|.non,.int _=>true|.int _,.non=>true|.non,.bl _=>true|.bl _,.non=>true|.non,.str _=>true|.str _,.non=>true
 |.int _,.int _=>true|.bl _,.bl _=>true|.str _,.str _=>true|.byt _,.byt _=>true
 |.int _,.str _=>true|.str _,.int _=>true|.bl _,.str _=>true|.str _,.bl _=>true
 |_,_=>false
def Hk:R2:=λx y H Q=>AO x y=true/\Q (.bl (!decide (x=y))) H
theorem qb{i j:Int}:decide (V.int i=V.int j)=(i==j):=by rw[gM];simp
theorem sD{i j:Bool}:decide (V.bl i=V.bl j)=(i==j):=by rw[gM];simp
theorem qc{i j:Str}:decide (V.str i=V.str j)=(i==j):=by rw[gM];simp
theorem qd{i j:Array UInt8}:decide (V.byt i=V.byt j)=(i.toList==j.toList):=by rw[gM];cases i;cases j;simp
section
variable{a b:Expr}{tb tc:TE}
theorem cG{Q:VK}{k k':Bool}(I:Inv X sa σ H s)(q:Q (.bl k) H)(e:k=k'):EP X sa σ Q (.bool k') s:=by subst e;exact⟨.bl k,H,I,rfl,q⟩
theorem vc:OpR X (compareOp .NotEq) Hk:=by
 intro sa s σ H x y v u Q I rx ry h;obtain⟨hs,q⟩:=h;cases x with
 |non=>
  cases rx;cases y with
  |non=>cases ry;exact PySem.EqNone.ne_none_none<|cG I q (by simp)
  |bl j=>cases ry;exact PySem.EqNone.ne_none_bool<|cG I q (by simp)
  |int j=>obtain⟨t',rfl⟩:=ry;exact PySem.EqNone.ne_none_int<|cG I q (by simp)
  |str j=>obtain⟨t',rfl⟩:=ry;exact PySem.EqNone.ne_none_str<|cG I q (by simp)
  |_=>exact Nd (show false=true from hs) jK
 |bl i=>
  cases rx;cases y with
  |non=>cases ry;exact PySem.EqNone.ne_bool_none<|cG I q (by simp)
  |bl j=>cases ry;exact ne_bool<|cG I q (congrArg not sD)
  |str j=>obtain⟨t',rfl⟩:=ry;exact PySem.EqMixed.ne_bool_str<|cG I q (by simp)
  |_=>exact Nd (show false=true from hs) jK
 |int i=>
  obtain⟨t,rfl⟩:=rx;cases y with
  |non=>cases ry;exact PySem.EqNone.ne_int_none<|cG I q (by simp)
  |int j=>obtain⟨t',rfl⟩:=ry;exact ne_int<|cG I q (congrArg not qb)
  |str j=>obtain⟨t',rfl⟩:=ry;exact PySem.EqMixed.ne_int_str<|cG I q (by simp)
  |_=>exact Nd (show false=true from hs) jK
 |str i=>
  obtain⟨t,rfl⟩:=rx;cases y with
  |non=>cases ry;exact PySem.EqNone.ne_str_none<|cG I q (by simp)
  |bl j=>cases ry;exact PySem.EqMixed.ne_str_bool<|cG I q (by simp)
  |int j=>obtain⟨t',rfl⟩:=ry;exact PySem.EqMixed.ne_str_int<|cG I q (by simp)
  |str j=>obtain⟨t',rfl⟩:=ry;exact ne_str<|cG I q (congrArg not qc)
  |_=>exact Nd (show false=true from hs) jK
 |byt i=>
  obtain⟨t,rfl⟩:=rx;cases y with
  |byt j=>obtain⟨t',rfl⟩:=ry;exact PySem.W.ne_bytes<|cG I q (congrArg not qd)
  |_=>exact Nd (show false=true from hs) jK
 |_=>cases y<;>exact Nd (show false=true from hs) jK
theorem OpR.or(h:OpR X f r)(h':OpR X f r'):OpR X f (λx y H Q=>r x y H Q\/r' x y H Q):=by
 intro sa s σ H x y v u Q I rx ry q;rcases q with q|q
 exact h sa s σ H x y v u Q I rx ry q;exact h' sa s σ H x y v u Q I rx ry q
theorem mP(b:Expr)(h:op≠.In:=by decide)(h2:op≠.NotIn:=by decide):behindInMarks op b=false:=by
 have e1:(op==CmpOp.In)=false:=by cases op<;>first|rfl|exact Nd rfl h
 have e2:(op==CmpOp.NotIn)=false:=by cases op<;>first|rfl|exact Nd rfl h2
 cases b<;>simp[behindInMarks,e1,e2]
theorem qe(ho:OpR X (compareOp op) r)(ha:PE X a ta)(hb:PE X b tb)(hm:behindInMarks op b=false):PE X (.Compare a [op] [b] pos) (yp r ta tb):=by intro sa s σ H Q I h;exact wpAny_Compare1 (ss ha hb I h λv u s2 x y H2 I2 rx ry q=>ho sa s2 σ H2 x y v u Q I2 rx ry q) hm
def qJ(t:TE):TT:=λσ H Q=>t σ H λx H'=>∃k,x=.bl k/\Q k H'
theorem qf(ho:OpR X (compareOp op) r)(ha:PE X a ta)(hb:PE X b tb)(hm:behindInMarks op b=false):PT X (.Compare a [op] [b] pos) (qJ<|yp r ta tb):=by
 intro sa s σ H Q I h;refine wpAny_isTrue_Compare1 (bC (ha sa s σ H _ I h) λv s1 ⟨x,H1,I1,r1,q1⟩=>bC (hb sa s1 σ H1 _ I1 q1) λu s2 ⟨y,H2,I2,r2,q2⟩=>
  bC (ho sa s2 σ H2 x y v u _ I2 r1 r2 q2) λc s3 ⟨z,H3,I3,r3,k,e,q3⟩=>?_) hm
 subst e;cases r3;exact Nv ⟨H3,I3,q3⟩
def mQ(r r':R2)(ta tb tc:TE):TE:=λσ H Q=>ta σ H λx H1=>tb σ H1 λy H2=>r x y H2 λz H3=>∃k,z=.bl k/\
 (if k=true then tc σ H3 λw' H4=>r' y w' H4 Q else Q (.bl false) H3)
theorem mR{op':CmpOp}(ho:OpR X (compareOp op) r)(ho':OpR X (compareOp op') r')(ha:PE X a ta)(hb:PE X b tb)(hc:PE X c tc)
  (hm:lastMarks [op,op'] [b,c]=false:=by with_unfolding_all rfl):PE X (.Compare a [op,op'] [b,c] pos) (mQ r r' ta tb tc):=by
 intro sa s σ H Q I h;refine Compare_chain (bC (ha sa s σ H _ I h) λv s1 ⟨x,H1,I1,r1,q1⟩=>chain_link (bC (hb sa s1 σ H1 _ I1 q1) λu s2 ⟨y,H2,I2,r2,q2⟩=>
  bC (ho sa s2 σ H2 x y v u _ I2 r1 r2 q2) λd s3 ⟨z,H3,I3,r3,k,e,q3⟩=>?_)) hm
 subst e;cases r3;refine Nv ?_;cases k with
 |false=>exact ite_ff ⟨.bl false,H3,I3,rfl,q3⟩|true=>exact ite_tt<|chain_last (bC (hc sa s3 σ H3 _ I3 q3) λw' s4 ⟨z',H4,I4,r4,q4⟩=>ho' sa s4 σ H4 y z' u w' Q I4 r2 r4 q4)
theorem mS{op':CmpOp}(ho:OpR X (compareOp op) r)(ho':OpR X (compareOp op') r')(ha:PE X a ta)(hb:PE X b tb)(hc:PE X c tc)
  (hm:lastMarks [op,op'] [b,c]=false:=by with_unfolding_all rfl):PT X (.Compare a [op,op'] [b,c] pos) (qJ<|mQ r r' ta tb tc):=by
 intro sa s σ H Q I h;refine isTrue_chain (bC (ha sa s σ H _ I h) λv s1 ⟨x,H1,I1,r1,q1⟩=>test_link (bC (hb sa s1 σ H1 _ I1 q1) λu s2 ⟨y,H2,I2,r2,q2⟩=>
  bC (ho sa s2 σ H2 x y v u _ I2 r1 r2 q2) λd s3 ⟨z,H3,I3,r3,k,e,q3⟩=>?_)) hm
 subst e;cases r3;refine Nv ?_;cases k with
 |false=>
  obtain⟨k',e',q'⟩:=q3;cases e';exact ite_ff ⟨H3,I3,q'⟩
 |true=>
  refine ite_tt<|test_last (bC (hc sa s3 σ H3 _ I3 q3) λw' s4 ⟨z',H4,I4,r4,q4⟩=>bC (ho' sa s4 σ H4 y z' u w' _ I4 r2 r4 q4) λd' s5 ⟨z2,H5,I5,r5,k2,e2,q5⟩=>?_);subst e2;cases r5;exact Nv ⟨H5,I5,q5⟩
def ve(K:Nb)(x:V)(H:Hp)(k:Bool):Prop:=
 match x with
 |.non=>k=false|.bl b=>k=b|.int i=>k=(i != 0)|.str y=>y.length<=sizeLine/\k=((y.length:Int) != 0)|.byt y=>y.size<=sizeLine/\k=((y.size:Int) != 0)|.ref p=>(∃xs,SqL K H p xs/\k = !xs.isEmpty)\/(∃xs,SqT K H p xs/\k = !xs.isEmpty)\/∃kvs,H p=some (.dK kvs)/\k = !kvs.isEmpty|_=>False
theorem kv{kvs:List (κ×V)}{vs:List (κ×Value)}(r:KV kvs vs):(!vs.isEmpty) = !kvs.isEmpty:=by cases r<;>rfl
theorem gZ{its:List Value}(r:Vals xs its):(!its.toArray.isEmpty) = !xs.isEmpty:=by cases r<;>simp
theorem e7:(sizeLine:Nat)<2^63:=by rw[sizeLine_eq];decide
theorem sE:AN X (λx H Q=>∃k,ve X.K x H k/\Q k H):=by
 intro sa s σ H x v Q I rx h;obtain⟨k,e,q⟩:=h;have hl:=e7;have hs:sizeLine=16777216:=sizeLine_eq;cases x with
 |non=>cases rx;have e':k=false:=e;subst e';exact truthy_none ⟨H,I,q⟩
 |bl b=>cases rx;have e':k=b:=e;subst e';exact Nv ⟨H,I,q⟩
 |int i=>obtain⟨t,rfl⟩:=rx;have e':k=(i != 0):=e;subst e';exact PySem.P.truthy_int ⟨H,I,q⟩
 |str y=>obtain⟨t,rfl⟩:=rx;obtain⟨hy,e'⟩:y.length<=sizeLine/\k=((y.length:Int) != 0):=e;subst e';exact PySem.P.truthy_str (by omega) ⟨H,I.tok _,q⟩
 |byt y=>obtain⟨t,rfl⟩:=rx;obtain⟨hy,e'⟩:y.size<=sizeLine/\k=((y.size:Int) != 0):=e;subst e';exact PySem.W.truthy_bytes (by omega) ⟨H,I.tok _,q⟩
 |ref p=>
  cases rx;have e':(∃xs,SqL X.K H p xs/\k = !xs.isEmpty)\/(∃xs,SqT X.K H p xs/\k = !xs.isEmpty)\/∃kvs,H p=some (.dK kvs)/\k = !kvs.isEmpty:=e;rcases e' with⟨xs,hx,e'⟩|⟨xs,hx,e'⟩|⟨kvs,hx,e'⟩
  subst e';obtain⟨its,r,pl,hz⟩:=I.list hx;have hlen:=r.length;exact wpAny_truthy_list pl.isList (by simp only[eu];omega) ⟨H,I.tok _,by rw[gZ r];exact q⟩;subst e';obtain⟨its,r,pl,hz⟩:=I.tuple hx;have hlen:=r.length;exact truthy_tuple pl (by simp only[eu];omega) ⟨H,I.tok _,by rw[gZ r];exact q⟩;subst e';obtain⟨hz,hS,vs,r,m⟩:kvs.length<=sizeLine/\(p==sysModules)=false/\∃vs,KV kvs vs/\s.heap.DictOf (i7 X.prog X.w) p vs:=I.hok p _ hx;have hlen:kvs.length=vs.length:=Paired.length r;exact wpAny_truthy_dict hS m (by omega) ⟨H,I.tok _,by rw[kv r];exact q⟩
 |_=>exact(show False from e).elim
theorem mT(ha:PE X a ta)(he:∀whole,isTrue a X.env whole=(do let v <-whole;standAt a.pos;holding [v] (truthy v))) :
  PT X a (λσ H Q=>ta σ H λx H'=>∃k,ve X.K x H' k/\Q k H'):=by
 intro sa s σ H Q I h;exact isTrue_plain (bC (ha sa s σ H _ I h) λv s1 ⟨x,H1,I1,r1,q1⟩=>sE sa s1 σ H1 x v Q I1 r1 q1)<|he _
theorem dJ{x:V}(r:Vals [x] us):∃u,us=[u]/\RelV x u:=by
 cases r with
 |cons r1 r2=>cases r2;exact⟨_,rfl,r1⟩
theorem kY{x y:V}(r:Vals [x,y] us):∃u w',us=[u,w']/\RelV x u/\RelV y w':=by
 cases r with
 |cons r1 r2=>
  cases r2 with
  |cons r3 r4=>cases r4;exact⟨_,_,rfl,r1,r3⟩
theorem mU:dI X (.builtin "abs") (λxs H Q=>∃i,xs=[.int i]/\Q (.int (if i<0 then -i else i)) H):=by intro sa s σ H xs us Q I r h;obtain⟨i,rfl,q⟩:=h;obtain⟨u,rfl,t,rfl⟩:=dJ r;exact call_abs_int λu tk=>⟨.int (if i<0 then -i else i),H,I.tok _,⟨_,rfl⟩,q⟩
theorem lD(hc:X.calm=true):dI X (.builtin "max") (λxs H Q=>∃i j,xs=[.int i,.int j]/\Q (.int (if j>i then j else i)) H):=by intro sa s σ H xs us Q I r h;obtain⟨i,j,rfl,q⟩:=h;obtain⟨u,w',rfl,⟨t,rfl⟩,⟨t',rfl⟩⟩:=kY r;refine max_two_ints (I.ok.hd hc) λh' tk k=>⟨_,H,I.kept k,?_,q⟩;by_cases hj:j>i;rw[oI hj,oI hj];exact⟨_,rfl⟩;rw[ks hj,ks hj];exact⟨_,rfl⟩
theorem lE:dI X (.type "int") (λxs H Q=>(∃i,xs=[.int i]/\Q (.int i) H)\/∃k,xs=[.bl k]/\Q (.int (if k then 1 else 0)) H):=by
 intro sa s σ H xs us Q I r h;rcases h with⟨i,rfl,q⟩|⟨k,rfl,q⟩
 obtain⟨u,rfl,t,rfl⟩:=dJ r;exact call_int_int ⟨.int i,H,I,⟨_,rfl⟩,q⟩;obtain⟨u,rfl,r1⟩:=dJ r;cases r1;exact call_int_bool ⟨.int (if k then 1 else 0),H,I.tok _,⟨_,rfl⟩,q⟩
end
structure Room(k:Nat)(A:Around):Prop where
 hd:A.handled=none
 gd:A.guards=some []
 dp:A.depth+3*k+5<recursionLimit
 un:A.units+16*k+200<cLine
theorem Room.mono(r:Room k A)(h:j<=k):Room j A:=⟨r.hd,r.gd,by have:=r.dp;omega,by have:=r.un;omega⟩
theorem Room.deeper{k:Nat}{A:Around}(r:Room (k+1) A)(env:Env):Room k (A.deeper env):=
 ⟨r.hd,r.gd,by have:=r.dp;show A.depth+1+3*k+5<_;omega,by have:=r.un;show A.units+3+16*k+200<_;omega⟩
theorem Room.depth{k:Nat}{A:Around}(r:Room k A):A.depth<recursionLimit:=by have:=r.dp;omega
theorem Room.units{k:Nat}{A:Around}(r:Room k A):A.units+64<cLine:=by have:=r.un;omega
def AQ:TA:=λ_ H Q=>Q [] H
def vf(ta:TE)(tr:TA):TA:=λσ H Q=>ta σ H λx H1=>tr σ H1 λxs H2=>Q (x::xs) H2
section
def je:PA X [] AQ:=λ_ _ _ _ H Q I h=>Calls.spliced_nil ⟨[],H,I,.nil,h⟩
theorem gO(ha:PE X e te)(hr:PA X es t)(hs:starEach (e::es) X.env=(false,eval e X.env)::starEach es X.env:=by rfl):PA X (e::es) (vf te t):=by intro pos sa s σ H Q I h;rw[hs];show wpAny _ _ (spliced ((false,eval e X.env)::backTo pos (starEach es X.env))) _ _ s;refine Calls.spliced_cons<|bC (ha sa s σ H _ I h) λu s1 ⟨x,H1,I1,r1,q1⟩=>?_;exact bC (hr pos sa s1 σ H1 _ I1 q1) λus s2 ⟨xs,H2,I2,r2,q2⟩=>⟨x::xs,H2,I2,.cons r1 r2,q2⟩
def AR(t:TA):TE:=λσ H Q=>t σ H λxs H1=>xs.length<=sizeLine/\∀p,H1 p=none->Q (.ref p) (upd H1 p<|.tup xs)
def AS(t:TA):TE:=λσ H Q=>t σ H λxs H1=>xs.length<=sizeLine/\∀p,H1 p=none->Q (.ref p) (upd H1 p<|.lst xs)
theorem sF{x1}(h:PA X es t):PE X (.Tuple es x1 pos) (AR t):=by intro sa s σ H Q I hq;refine wpAny_Tuple_spliced<|bC (h pos sa s σ H _ I hq) λus s1 ⟨xs,H1,I1,r,z,q⟩=>⟨by rw[<-r.length];exact z,?_⟩;have hf:H1 s1.heap.objs.size=none:=I1.hok.fresh<|cF _;refine⟨.ref s1.heap.objs.size,upd H1 s1.heap.objs.size<|.tup xs,I1.laid (t':=s1.toks) (λb u e=>dB _ e) (cF _) ?_,rfl,q _ hf⟩;exact⟨z,us,r,⟨_,ia _ rfl,rfl,_,rfl⟩⟩
theorem sG(h:PA X es t):PE X (.List es pos) (AS t):=by intro sa s σ H Q I hq;refine wpAny_List_spliced<|bC (h pos sa s σ H _ I hq) λus s1 ⟨xs,H1,I1,r,z,q⟩=>⟨by rw[<-r.length];exact z,?_⟩;have hf:H1 s1.heap.objs.size=none:=I1.hok.fresh<|cF _;refine⟨.ref s1.heap.objs.size,upd H1 s1.heap.objs.size<|.lst xs,I1.laid (t':=s1.toks) (λb u e=>dB _ e) (cF _) ?_,rfl,q _ hf⟩;exact⟨z,us,0,r,ia _ rfl⟩
end
abbrev Sp:=List V->Hp->VK->XK->Prop
abbrev mV:=List Env->Hp->Shared->XK->Value->Shared->Prop
variable{CX:mV}
structure lF(P:Program)(w:World)(K:Nb)(mg:Str->Option Value)(base:Heap)(A:Around)(outer:List Env)(s:Shared)(H:Hp):Prop where
 frames:A.frames=some outer
 mod:Mod K mg base
 bs:∀b o,base.get? b=some o->s.heap.get? b=some o/\H b=none
 bsz:base.objs.size<=s.heap.objs.size
 funs:s.heap.FunFrames base outer
 frf:∀b∈dc outer,H b=none
 hok:HOk P w H s.heap
 bare:AllBare s.gens
 sysn:∀xs,H sysModules≠some (.lst xs)
def CE(outer:List Env)(P:Program)(w:World)(H:Hp)(s:Shared)(Q:VK)(u:Value)(s':Shared):Prop:=
 ∃v H',s'.os=s.os/\AllBare s'.gens/\Un (dc outer) [] H H' s.heap s'.heap/\HOk P w H' s'.heap/\RelV v u/\Q v H'
def CR(CX:mV)(outer:List Env)(P:Program)(w:World)(H:Hp)(s:Shared)(Q:VK)(E:XK)(r:Result)(s':Shared):Prop:=
 match r with
 |.ok (.ret u)=>CE outer P w H s Q u s'|.ok _=>False|.error e=>CX outer H s E e s'
structure gv(P:Program)(w:World)(K:Nb)(mg:Str->Option Value)(base:Heap)(CX:mV)(k:Nat)(f:Addr)(fd:FuncData)(ps:List Str)(sp:Sp):Prop where
 len:∀vs H Q E,sp vs H Q E->vs.length=ps.length
 run:∀(A:Around) (outer:List Env) (s:Shared) (H:Hp) (args:Args) (us:List Value) (vs:List V) (Q:VK) (E:XK),Room k A->lF P w K mg base A outer s H->BindsTo s fd args (ps.zip us)->Vals vs us->sp vs H Q E->
  codeAny (model P w) A (.call (.ref f) args) (CR CX outer P w H s Q E) s
section
def Inv.env0(I:Inv X sa σ H s):lF X.prog X.w X.K X.mg X.base X.A X.stack s H:=
 ⟨I.ok.frames,I.ok.mod,I.bs,gU I.ok.bsz I.sz,I.stack,I.stkFree,I.hok,I.bare,I.sysn⟩
theorem Inv.after{Q:VK}{u:Value}(I:Inv X sa σ H s)(h:CE X.stack X.prog X.w H s Q u s'):EP X sa σ Q u s':=by obtain⟨v,H',os,bare,un,hok,r,q⟩:=h;obtain⟨hh,g,d,t,os'⟩:=s';obtain rfl:os'=s.os:=os;exact⟨v,H',I.call (h':=hh) (g':=g) (d':=d) (t':=t) (ch:=[]) un hok bare<|λb z=>Nd z<|by simp,r,q⟩
end
def qK(sp:Sp)(dvs:List V)(E:XK)(t:TA):TE:=λσ H Q=>t σ H λvs H1=>sp (vs++dvs) H1 Q E
def Binds(K:Nb)(fd:FuncData)(ps:List Str)(ds:List Value):Prop:=
 ∀(s:Shared) (us:List Value),K.In s.heap->(us++ds).length=ps.length->BindsTo s fd ⟨us,[]⟩ (ps.zip<|us++ds)
theorem Binds.all(h:∀us:List Value,us.length=ps.length->bindArgs fd ⟨us,[]⟩=pure (ps.zip us)):Binds K fd ps []:=λs us _ hl=>by rw[pP]at hl ⊢;exact .of_eq<|h us hl
def dh(CX:mV)(X:Cx)(E:XK):Prop:=∀(sa:List (Addr×Obj)) (σ:St) (H:Hp) (s:Shared) (e:Value) (s':Shared),Inv X sa σ H s->CX X.stack H s E e s'->X.xe e s'
section
variable{f C:Addr}{sp:Sp}{dvs:List V}{ds:List Value}{E:XK}{m:Str}{apos:Pos}{o:Expr}
theorem sH{Q:VK}(F:gv X.prog X.w X.K X.mg X.base CX k f fd ps sp)(hr:Room k X.A)(hb:Binds X.K fd ps ds)(hd:Vals dvs ds)(hx:dh CX X E)
  (I:Inv X sa σ H s) (r:Vals vs us) (h:sp (vs++dvs) H Q E):wpAny (model X.prog X.w) X.A (call (.ref f) us) (EP X sa σ Q) X.xe s:=by
 have r2:Vals (vs++dvs) (us++ds):=r.append hd;have hl:(us++ds).length=ps.length:=by rw[<-r2.length];exact F.len _ _ _ _ h
 refine wpAny_call<|codeAny_mono (F.run X.A X.stack s H ⟨us,[]⟩ (us++ds) (vs++dvs) Q E hr I.env0 (hb s us I.kIn hl) r2 h) λr s' hq=>?_;cases r with
 |error e=>exact hx sa σ H s e s' I hq
 |ok fl=>
  cases fl with
  |ret u=>exact I.after hq|next=>exact Nr hq|brk=>exact Nr hq|cont=>exact Nr hq
theorem qg(F:gv X.prog X.w X.K X.mg X.base CX k f fd ps sp)(hr:Room k X.A)(hg:Gl X x)(hm:X.mg x=some (.ref f))(hk:PySem.W.keepIn X.K (.ref f)=true)(hb:Binds X.K fd ps ds)(hd:Vals dvs ds)(hx:dh CX X E)
  (ha:PA X (e::es) t) (hdb:(x==("__debug__" : Str))=false:=by decide) (he:starEach (e::es) X.env=(false,eval e X.env)::starEach es X.env:=by rfl) (hpl:(backTo pos<|starEach es X.env).any (·.1)=false:=by rfl) :
  PE X (.Call (.Name x p) (e::es) [] pos) (qK sp dvs E t):=by
 intro sa s σ H Q I h;refine NH<|ft I hg hm ?_ hdb;refine PySem.W.callWith_K (h₀:=X.base) I.ok.mod.kin hk (bC (ha pos sa s σ H _ I h) λus s1 ⟨vs,H1,I1,r,q⟩=>⟨I1.kIn,?_⟩) he hpl;exact sH F hr hb hd hx I1 r q
end
structure c6(N P:List Str)(sc:Scope):Prop where
 kind:sc.kind=.function
 co:sc.isCoroutine=false
 gen:sc.isGenerator=false
 nd:N.Nodup
 pre:N.take P.length=P
 par:∀x∈P,sc.names.lookup x=some .local\/sc.names.lookup x=some .cell
 nofree:∀y∈sc.names,y.2≠.free
theorem iQ{kindOf:Str->Option NameKind}{x:Str}:∀{binds:List (Str×Value)} {m:Str->Option Value},(∀v,(x,v)∉binds)->bindL kindOf binds m x=m x
 |[],_,_=>rfl
 |(n,v)::r,m,h=>by
  unfold bindL;rw[iQ λw hw=>h w<|ip _ hw];split;have:x≠n:=by rintro rfl;exact h v kP
  simp[this];rfl
theorem iR{kindOf:Str->Option NameKind}{x:Str}:∀{binds:List (Str×Value)} {m:Str->Option Value},(∀v,(x,v)∉binds)->bindC kindOf binds m x=m x
 |[],_,_=>rfl
 |(n,v)::r,m,h=>by
  unfold bindC;rw[iR λw hw=>h w<|ip _ hw];split;rfl;have:x≠n:=by rintro rfl;exact h v kP
  simp[this]
theorem fV{kindOf:Str->Option NameKind}{x:Str}{v:Value}:∀{P:List Str} {vs:List Value} {i:Nat} {m:Str->Option Value},P.Nodup->P[i]? = some x->vs[i]? = some v->kindOf x=some .local->
  bindL kindOf (P.zip vs) m x=some v
 |[],_,_,_,_,h,_,_=>by simp at h|_::_,[],_,_,_,_,h,_=>by simp at h
 |p::P,w::vs,0,m,nd,h1,h2,hk=>by
  simp at h1 h2;subst h1;subst h2;show bindL kindOf ((p,w)::P.zip vs) m p=_;unfold bindL;rw[iQ λv hv=>(YaF.mp nd).1 (xM hv).1,oI hk];simp
 |p::P,w::vs,i+1,m,nd,h1,h2,hk=>by
  show bindL kindOf ((p,w)::P.zip vs) m x=_;unfold bindL;exact fV (i:=i) (YaF.mp nd).2 (by simpa using h1) (by simpa using h2) hk
theorem fW{kindOf:Str->Option NameKind}{x:Str}{v:Value}:∀{P:List Str} {vs:List Value} {i:Nat} {m:Str->Option Value},P.Nodup->P[i]? = some x->vs[i]? = some v->kindOf x≠some .local->
  bindC kindOf (P.zip vs) m x=some v
 |[],_,_,_,_,h,_,_=>by simp at h|_::_,[],_,_,_,_,h,_=>by simp at h
 |p::P,w::vs,0,m,nd,h1,h2,hk=>by
  simp at h1 h2;subst h1;subst h2;show bindC kindOf ((p,w)::P.zip vs) m p=_;unfold bindC;rw[iR λv hv=>(YaF.mp nd).1 (xM hv).1,ks hk];simp
 |p::P,w::vs,i+1,m,nd,h1,h2,hk=>by
  show bindC kindOf ((p,w)::P.zip vs) m x=_;unfold bindC;exact fW (i:=i) (YaF.mp nd).2 (by simpa using h1) (by simpa using h2) hk
def start(N:List Str)(vs:List V):St:=vs.map some++List.replicate (N.length-vs.length) none
def eG(CX:mV)(P:Program)(w:World)(K:Nb)(mg:Str->Option Value)(base:Heap)(N:List Str)(qual:Str)(scope:Scope)(f:Addr)(cd:Value)(A:Around)(outer:List Env)(s:Shared)(H:Hp)(E:XK):Cx where
 prog:=P
 w:=w
 K:=K
 mg:=mg
 base:=base
 A:=A.deeper<|envOfC qual scope s.heap.objs.size f cd
 N:=N
 s₀:=s
 H₀:=H
 env:=envOfC qual scope s.heap.objs.size f cd
 outer:=outer
 stack:=envOfC qual scope s.heap.objs.size f cd::outer
 ex:=[]
 calm:=true
 fn:=λ_=>true
 pn:=[]
 xe:=λe s'=>wpAny (model P w) (A.deeper<|envOfC qual scope s.heap.objs.size f cd) (leaving (envOfC qual scope s.heap.objs.size f cd) e) (λ_ s''=>CX outer H s E e s'') (λe' s''=>CX outer H s E e' s'') s'
theorem eH{sc:Scope}(h:sc.names.lookup x=some .cell):∃c,(cellsFrom n sc.names []).lookup x=some c:=by have q:=PySem.W.cellsFrom_some sc.names n []<|.inl h;exact Option.isSome_iff_exists.mp q
theorem lG{base:Heap}{f:Addr}{cd:Value}{outer:List Env}{s1:Shared}{E:XK}
  (S:c6 N ps scope) (hd:A.handled=none) (e0:lF P w K mg base A outer s H) (hl:vs.length=ps.length) (r:Vals vs us)
  (x:InCallC s s.heap.objs.size (bindL (envOfC qual scope s.heap.objs.size f cd).kindOf (ps.zip us) λ_=>none) (cellsFrom (s.heap.objs.size+1) scope.names []) (bindC (envOfC qual scope s.heap.objs.size f cd).kindOf (ps.zip us) λ_=>none) s1) :
  Inv (eG CX P w K mg base N qual scope f cd A outer s H E) [] (start N vs) H s1:=by
 have hpl:ps.length<=N.length:=by have:=congrArg List.length S.pre;rw[jL]at this;omega
 obtain⟨h1,tk,rfl,hk⟩:=x.done;have noA:∀b:Addr,b∉(eG CX P w K mg base N qual scope f cd A outer s H E).ex:=λb z=>Nd (show b∈([]:List Addr) from z) (by simp);refine ⟨⟨e0.mod,S.kind,rfl,rfl,cF _,λy z c h1 h2=>?_,λy hy=>?_,λy c _ h=>?_,λ_=>hd,Around.frames_deeper e0.frames,.inr ⟨rfl,rfl⟩,λb z=>Nd z<|noA b,e0.bs,e0.bsz,λb _ _=>noA b,λb z=>Nd z<|noA b,e0.funs,e0.frf,e0.sysn⟩,
  rfl,e0.bare,Un.kept hk,⟨_,x.toInCall.ns,λi y v h1 h2 h3=>?_⟩,λy c h=>⟨_,x.cell y c h⟩,e0.hok.fresh<|cF _,λy c h=>?_,λp hp=>Nd (show p∈([]:List (Addr×Obj)) from hp)<|by simp,e0.hok.kept hk,?_⟩
 .exact name_of_addr x.apart (Nl h1)<|Nl h2
 .have hy:scope.names.lookup y=some .cell\/scope.names.lookup y=some .free:=hy
  rcases hy with hy|hy
  .exact eH hy
  .exact Nd rfl<|S.nofree _ (Nl hy)
 .exact kO<|x.above y c (Nl h)
 .have hi:i<vs.length:=by
   unfold start at h2
   by_cases hi:i<vs.length
   .exact hi
   .rw[jZ<|by simpa using hi]at h2
    rw[mz]at h2;split at h2<;>cases h2
  have ha:vs[i]? = some v:=by
   unfold start at h2;rw[kQ<|by simpa using hi,cH]at h2;cases e:vs[i]? with
   |none=>rw[e]at h2;cases h2
   |some a=>rw[e]at h2;cases h2;rfl
  obtain⟨u,hu,rv⟩:=r.get ha;have hp:ps[i]? = some y:=by
   rw[<-S.pre,Ac<|by omega];exact h1
  have ndP:ps.Nodup:=by rw[<-S.pre];exact S.nd.sublist<|List.take_sublist _ _
  refine⟨u,rv,?_⟩;rcases S.par y (jy hp) with k|k
  .exact .inl ⟨k,fV ndP hp hu k⟩
  .obtain⟨c,e⟩:=eH (n:=s.heap.objs.size+1) k
   refine .inr ⟨.inl k,c,e,?_⟩;have q:=x.cell y c e;rw[fW ndP hp hu (by show scope.names.lookup y≠_;rw[k];decide)]at q;exact q
 .exact e0.hok.fresh<|kO (x.above y c<|Nl h)
 .unfold start
  show _=N.length;rw[dG,bG,nO];omega
theorem vg{base:Heap}{f:Addr}{params:Arguments}{dV kV doc pm cdv ct oc:Value}{an od:Option Addr}
 {sp:Sp} (lk:K.lookup f=some ⟨oc,od,.func<|PySem.W.fnOf name qual params body scope dV kV doc pm an cdv ct,osl⟩) (hcd:PySem.W.codeIn K cdv qual=true) (S:c6 N ps scope)
  (len:∀vs H Q E,sp vs H Q E->vs.length=ps.length)
  (hbody:∀ (A:Around) (outer:List Env) (s:Shared) (H:Hp) (vs:List V) (Q:VK) (E:XK),Room k (A.deeper<|envOfC qual scope s.heap.objs.size f cdv)->sp vs H Q E->
   ∃t,l7 (eG CX P w K mg base N qual scope f cdv A outer s H E) body t/\t { nx:=λ_ H'=>Q .non H',rt:=Q } (start N vs) H) :
  gv P w K mg base CX (k+1) f (PySem.W.fnOf name qual params body scope dV kV doc pm an cdv ct) ps sp:=by
 refine⟨len,λA outer s H args us vs Q E hr e0 hb r hsp=>?_⟩;have hl:=len _ _ _ _ hsp;have KX:K.In s.heap:=e0.mod.kin.keeps λb o e=>(e0.bs b o e).1;have lim:s.heap.NoLimit:=e0.mod.nolimit.keeps λb o e=>(e0.bs b o e).1;have hkind:∀y∈ps.zip us,scope.names.lookup y.1=some .local\/(scope.names.lookup y.1=some .cell/\((cellsFrom (s.heap.objs.size+1) scope.names []).lookup y.1).isSome=true):=λ⟨n,v⟩ hy=>by
  rcases S.par n (xM hy).1 with q|q
  .exact .inl q
  .exact .inr ⟨q,PySem.W.cellsFrom_some _ _ _<|.inl q⟩
 refine codeAny_call_function hr.depth (KX _ _ lk) rfl S.co S.gen rfl (PySem.W.codeRec_of KX hcd)<|hb _ _ _ _ ?_;refine wpAny_newFunctionEnv_cells S.kind hkind λenv he s1 x=>?_;subst he;refine⟨lim.keeps x.toInCall.keep,codeAny_func ?_⟩;obtain⟨t,ht,hq⟩:=hbody A outer s H vs Q E (hr.deeper _) hsp;have I:Inv (eG CX P w K mg base N qual scope f cdv A outer s H E) [] (start N vs) H s1:=lG S hr.hd e0 hl r x;refine Nk (ht [] s1 (start N vs) H _ I hq) (λfl s' hs=>?_) λe s' hs=>hs;have fin:∀{σ':St} {H':Hp} {v:V} {u:Value},Inv (eG CX P w K mg base N qual scope f cdv A outer s H E) [] σ' H' s'->RelV v u->Q v H'->CE outer P w H s Q u s':=
  λ{σ' H' v u} J rv q=>⟨v,H',J.os,J.bare,J.base,J.hok,rv,q⟩
 cases fl with
 |ret u=>
  obtain⟨v,σ',H',J,rv,q⟩:=hs;exact fin J rv q
 |next=>
  obtain⟨σ',H',J,q⟩:=hs;exact fin (v:=V.non) (u:=Value.none) J rfl q
 |brk=>
  obtain⟨_,_,_,q⟩:=hs;exact Nr q
 |cont=>
  obtain⟨_,_,_,q⟩:=hs;exact Nr q
section
variable{id T:String}{r:List V->Hp->VK->Prop}
def Dr(r:List V->Hp->VK->Prop)(t:TA):TE:=λσ H Q=>t σ H λvs H1=>r vs H1 Q
theorem mW(hc:dI X (.builtin id) r)(hg:Gl X x)(hm:X.mg x=none)(hv:bootBuiltins x=some (.builtin id))(ha:PA X (e::es) t)(hn:x≠ "__name__" :=by decide)(hdb:(x==("__debug__" : Str))=false:=by decide)
  (he:starEach (e::es) X.env=(false,eval e X.env)::starEach es X.env:=by rfl) (hpl:(backTo pos<|starEach es X.env).any (·.1)=false:=by rfl):PE X (.Call (.Name x p) (e::es) [] pos) (Dr r t):=by
 intro sa s σ H Q I h;refine NH<|eZ I hg hm hv ?_ hn hdb;exact PyProof.Rows.callWith_builtin1 (bC (ha pos sa s σ H _ I h) λus s1 ⟨vs,H1,I1,r1,q1⟩=>hc sa s1 σ H1 vs us Q I1 r1 q1) he hpl
theorem eN(hc:dI X (.type T) r)(hg:Gl X x)(hm:X.mg x=none)(hv:bootBuiltins x=some (.type T))(ha:PA X (e::es) t)(hn:x≠ "__name__" :=by decide)(hdb:(x==("__debug__" : Str))=false:=by decide)
  (he:starEach (e::es) X.env=(false,eval e X.env)::starEach es X.env:=by rfl) (hpl:(backTo pos<|starEach es X.env).any (·.1)=false:=by rfl):PE X (.Call (.Name x p) (e::es) [] pos) (Dr r t):=by
 intro sa s σ H Q I h;refine NH<|eZ I hg hm hv ?_ hn hdb;exact PyProof.Rows.callWith_type1 (bC (ha pos sa s σ H _ I h) λus s1 ⟨vs,H1,I1,r1,q1⟩=>hc sa s1 σ H1 vs us Q I1 r1 q1) he hpl
end
end L2
namespace HT
open PySem PyProof.Rows
section
variable{prog:Program}{w:World}{A:Around}{E:Value->Shared->Prop}{s:Shared}
theorem cat_tup{t b:Addr}{vs ws:List Value}{Q:Value->Shared->Prop}(ht:IsTup s.heap t vs.toArray)(hb:IsTup s.heap b ws.toArray)(hv:vs≠[])
  (h1:ws=[]->Q (.ref t) s) (h2:ws≠[]->Q (.ref s.heap.objs.size) { s with heap:=s.heap.push { cls:=.type "tuple",data:=.seq (vs++ws).toArray } })
  (hsz:vs.length+ws.length<=sizeLine):wpAny (model prog w) A (binaryOp .Add (.ref t)<|.ref b) Q E s:=by
 obtain⟨⟨cls,dd,data,sl⟩,ho,hc,n,hd⟩:=id ht;obtain⟨⟨cls2,dd2,data2,sl2⟩,ho2,hc2,n2,hd2⟩:=id hb;simp only at hc hd hc2 hd2;subst hc hd hc2 hd2;have e:vs.toArray++ws.toArray=(vs++ws).toArray:=by simp
 by_cases hw:ws=[]
 .exact concat_meets ⟨_,ho,rfl⟩ ⟨_,ho2,rfl⟩ noFill_tuple_add seq_tuple_add PySem.F.slot_tuple_add PySem.F.entry_tuple_add (PySem.F.args_tuple_add_2 _ _)
   (tuple_addW1 t b vs.toArray ws.toArray n n2 dd dd2 sl sl2 (by simpa using hv)<|by simp[hw]) ⟨ho,ho2,h1 hw⟩
 .refine concat_meets ⟨_,ho,rfl⟩ ⟨_,ho2,rfl⟩ noFill_tuple_add seq_tuple_add PySem.F.slot_tuple_add PySem.F.entry_tuple_add (PySem.F.args_tuple_add_2 _ _)
   (tuple_addW2 t b vs.toArray ws.toArray n n2 dd dd2 sl sl2 (by simpa using hv) (by simpa using hw) (by rw[eu,eu];exact hsz)) ⟨ho,ho2,?_⟩
  rw[e];exact h2 hw
def sIx(n d:Nat):Option Int->Nat
 |none=>d|some v=>if v<0 then(v+(n:Int)).toNat else min v.toNat n
def sIx_none(n d:Nat):sIx n d none=d:=rfl
theorem sIx_nat(n d k:Nat):sIx n d (some (k:Int))=min k n:=by show(if(k:Int)<0 then((k:Int)+(n:Int)).toNat else min (k:Int).toNat n)=min k n;rw[ks<|by omega,iN]
theorem sJ(n d:Nat)(hd:d<=n)(o:Option Int):sIx n d o<=n:=by
 cases o with
 |none=>exact hd|some v=>show(if v<0 then(v+(n:Int)).toNat else min v.toNat n)<=n;by_cases hv:v<0;rw[oI hv];omega;rw[ks hv];exact Nat.min_le_right _ _
theorem kZ(v:Int)(n d:Nat):(if v<0 then max (v+(n:Int)) 0 else min v (n:Int))=((sIx n d (some v):Nat):Int):=by show(if v<0 then max (v+(n:Int)) 0 else min v (n:Int))=(((if v<0 then(v+(n:Int)).toNat else min v.toNat n):Nat):Int);by_cases hv:v<0;simp only[oI hv];omega;simp only[ks hv];omega
theorem kw(lo hi:Option Int)(n:Nat):Builtin.Slice.sliceAdjust lo hi 1 (n:Int)=(((sIx n 0 lo:Nat):Int),((sIx n n hi:Nat):Int)):=by
 have h1:¬((1:Int)<0):=by omega
 unfold Builtin.Slice.sliceAdjust;simp only[h1,if_false];refine Prod.ext ?_ ?_;cases lo with
 |none=>rfl|some v=>exact kZ v n 0
 cases hi with
 |none=>rfl|some v=>exact kZ v n n
theorem kx(i j:Nat):Builtin.Slice.slicePlaces (i:Int) (j:Int) 1=j-i:=by
 unfold Builtin.Slice.slicePlaces;have h1:(1:Int)>0:=by omega
 simp only[h1,if_true,Int.ediv_one];split<;>omega
theorem g6{v:Value}{o:Option Int}{Q:Option Int->Shared->Prop}(p:IsPart v o)(h:Q o s):wpAny (model prog w) A (Builtin.Slice.slicePartIndex v) Q E s:=by
 cases p with
 |none=>exact slicePart_none h|int i t=>exact slicePart_int h
theorem dM{sl:Addr}{vl vu:Value}{lo hi:Option Int}{n:Nat}{Q:Int×Int×Nat->Shared->Prop}(hs:s.heap.IsSliceOf sl vl vu .none)(pl:IsPart vl lo)(pu:IsPart vu hi)
  (h:Q (((sIx n 0 lo:Nat):Int),1,sIx n n hi-sIx n 0 lo) s):wpAny (model prog w) A (Builtin.Slice.sliceApplied (.ref sl)<|pure (n:Int)) Q E s:=by
 obtain⟨os,hos,hcs,hds⟩:=id hs;unfold Builtin.Slice.sliceApplied Builtin.Slice.sliceFields;refine Na<|Na (Nn hos hds (x:=vl) rfl<|Na<|Nn hos hds (x:=vu) rfl<|Na<|Nn hos hds (x:=.none) rfl<|Nc ?_);refine Na<|slicePart_none ?_;show wpAny _ _ (if((1:Int)==0)=true then _ else _) _ _ s;rw[ks<|by decide];refine Na<|g6 pl (Na<|g6 pu<|Na<|Nc ?_);show wpAny _ _ (match Builtin.Slice.sliceAdjust lo hi 1 (n:Int) with|(lo,hi)=>pure (lo,(1:Int),Builtin.Slice.slicePlaces lo hi 1)) _ _ s;rw[kw lo hi n];show wpAny _ _ (pure (((sIx n 0 lo:Nat):Int),(1:Int),Builtin.Slice.slicePlaces ((sIx n 0 lo:Nat):Int) ((sIx n n hi:Nat):Int) 1)) _ _ s;rw[kx];exact Nc h
theorem mX(xs:Array Value)(i k:Nat):((List.range k).filterMap λ(m:Nat)=>xs[((i:Int)+(m:Int)*1).toNat]?).toArray=((xs.toList.drop i).take k).toArray:=by
 have e:(λ(m:Nat)=>xs[((i:Int)+(m:Int)*1).toNat]?)=λm=>xs[i+m]?:=by
  funext m;have:((i:Int)+(m:Int)*1).toNat=i+m:=by omega
  rw[this]
 rw[e];have:=pick_run xs i k;rw[List.filterMap_map]at this;have e2:((λx=>xs[x]?)∘λx=>i+x)=λm=>xs[i+m]?:=rfl;rw[e2]at this;rw[this]
theorem getItem_tuple_cut{t sl:Addr}{items:Array Value}{vl vu:Value}{lo hi:Option Int}{Q:Value->Shared->Prop}(ht:IsTup s.heap t items)(hs:s.heap.IsSliceOf sl vl vu .none)(pl:IsPart vl lo)(pu:IsPart vu hi)
  (hw:¬(sIx items.size 0 lo=0/\sIx items.size items.size hi=items.size))
  (h:Q (.ref s.heap.objs.size) { s with heap:=s.heap.push { cls:=.type "tuple",data:=.seq ((items.toList.drop<|sIx items.size 0 lo).take<|sIx items.size items.size hi-sIx items.size 0 lo).toArray } })
  (hsz:items.size<=sizeLine):wpAny (model prog w) A (getItem (.ref t)<|.ref sl) Q E s:=by
 have htake:sizeOk (.seq ((items.toList.drop<|sIx items.size 0 lo).take<|sIx items.size items.size hi-sIx items.size 0 lo).toArray):=by
  show((items.toList.drop<|sIx items.size 0 lo).take<|sIx items.size items.size hi-sIx items.size 0 lo).toArray.size<=sizeLine;rw[eu,jL,kR,xK];omega
 have hj:sIx items.size items.size hi<=items.size:=sJ _ _ (cF _) hi;obtain⟨os,hos,hcs,hds⟩:=id hs;have hTs:s.TypeIs (.ref sl) "slice" :=⟨os,hos,hcs⟩
 unfold getItem
 try with_reducible refine NC ?_
 first|refine Na (Nc ?_)|skip
 refine Na<|wpAny_sequenceKey ht.typeIs (by decide) ?_;refine Na (wpAny_callSpecial?_slot (name:=Str.ofString "__getitem__") ht.typeIs PyProof.Rows.slot_tuple_getitem
  (Nx PyProof.Rows.slot_tuple_getitem ht.typeIs entry_tuple_getitem ?_<|args_tuple_getitem _ _))
 show wpAny _ _ (Builtin.Tuple.tupleItemsOf (.ref t) >>= _) _ _ s;refine Na<|tupleItemsOf_ ht ?_;refine Na<|wpAny_typeOf hTs ?_;rw[oI<|by decide];refine Na<|dM hs pl pu ?_;have hno:¬((((sIx items.size 0 lo:Nat):Int)==0&&(1:Int)==1&&(sIx items.size items.size hi-sIx items.size 0 lo)==items.size)=true):=by
  intro q;rw[dQ,dQ]at q;have q1:((sIx items.size 0 lo:Nat):Int)=0:=eq_of_beq q.1.1;have q2:sIx items.size items.size hi-sIx items.size 0 lo=items.size:=eq_of_beq q.2;exact hw ⟨by omega,by omega⟩
 show wpAny _ _ (if(((sIx items.size 0 lo:Nat):Int)==0&&(1:Int)==1&&(sIx items.size items.size hi-sIx items.size 0 lo)==items.size)=true then _ else _) _ _ s;rw[ks hno,mX]
 first
  |exact Na (m:=Builtin.Tuple.tupleExact _)<|Nq (Nc ⟨_,rfl,Nc h⟩) htake
  |exact Na (m:=Builtin.Tuple.tupleExact _)<|Nq (Na<|Nc<|Nc ⟨_,rfl,Nc h⟩) htake
  |exact Na<|Na (m:=Builtin.Tuple.tupleExact _) (Nq (Nc<|Nc ⟨_,rfl,Nc h⟩) htake)
  |exact Na<|Na (m:=Builtin.Tuple.tupleExact _) (Nq (Nc ⟨_,rfl,Nc h⟩) htake)
end
end HT
namespace L2
open PySem PySem.Spec PyProof.Rows
variable{X:Cx}{e:Expr}{pos:Pos}{r:V->Option Int->Option Int->Hp->VK->Prop}{xs:List V}{n j t':Nat}{i:Int}{sa:List (Addr×Obj)}{σ:St}{H:Hp}{s:Shared}{its':List Value}{f:Array Value->Array Value}{A:Around}{x:V}{T:String}
abbrev TO:=St->Hp->(Option Int->Hp->Prop)->Prop
def PO(X:Cx)(e:Option Expr)(t:TO):Prop:=
 ∀(sa:List (Addr×Obj)) (s:Shared) (σ:St) (H:Hp) (Q:Option Int->Hp->Prop),Inv X sa σ H s->t σ H Q->
  wpAny (model X.prog X.w) X.A (evalPart e X.env) (λu s'=>∃o H',Inv X sa σ H' s'/\IsPart u o/\Q o H') X.xe s
def qh:TO:=λ_ H Q=>Q none H
def vh(t:TE):TO:=λσ H Q=>t σ H λx H1=>∃i,x=.int i/\Q (some i) H1
section
variable{te:TE}{lo hi:Option Expr}{tl th:TO}{p2:Pos}
theorem qi:PO X none qh:=by intro sa s σ H Q I h;rw[evalPart_none];exact Nc ⟨none,H,I,.none,h⟩
theorem qj(h:PE X e te):PO X (some e) (vh te):=by intro sa s σ H Q I hw;rw[evalPart_some];refine bC (h sa s σ H _ I hw) λu s1 ⟨x,H1,I1,r1,q1⟩=>?_;obtain⟨i,rfl,q⟩:=q1;obtain⟨t,rfl⟩:=r1;exact⟨some i,H1,I1,.int i t,q⟩
def SlR(X:Cx)(r:V->Option Int->Option Int->Hp->VK->Prop):Prop:=
 ∀(sa:List (Addr×Obj)) (s:Shared) (σ:St) (H:Hp) (x:V) (v vl vu:Value) (lo hi:Option Int) (sl:Addr) (Q:VK),Inv X sa σ H s->RelV x v->s.heap.IsSliceOf sl vl vu .none->IsPart vl lo->IsPart vu hi->r x lo hi H Q->
  ∃T id,typeLookup (.type T) "__getitem__" = pure (some<|.builtin id)/\s.TypeIs v T/\wpAny (model X.prog X.w) X.A (getItem v<|.ref sl) (EP X sa σ Q) X.xe s
theorem SlR.or{r':V->Option Int->Option Int->Hp->VK->Prop}(h:SlR X r)(h':SlR X r'):SlR X (λx lo hi H Q=>r x lo hi H Q\/r' x lo hi H Q):=by
 intro sa s σ H x v vl vu lo hi sl Q I rx hs pl pu q;rcases q with q|q
 exact h sa s σ H x v vl vu lo hi sl Q I rx hs pl pu q;exact h' sa s σ H x v vl vu lo hi sl Q I rx hs pl pu q
def Hl(r:V->Option Int->Option Int->Hp->VK->Prop)(te:TE)(tl th:TO):TE:=λσ H Q=>te σ H λx H1=>tl σ H1 λl H2=>th σ H2 λu H3=>r x l u H3 Q
theorem mY(hr:SlR X r)(he:PE X e te)(hl:PO X lo tl)(hu:PO X hi th):PE X (.Subscript e (.Slice lo hi none p2) pos) (Hl r te tl th):=by intro sa s σ H Q I h;refine Subscript_<|bC (he sa s σ H _ I h) λv s1 ⟨x,H1,I1,r1,q1⟩=>?_;refine wpAny_Slice<|bC (hl sa s1 σ H1 _ I1 q1) λvl s2 ⟨l,H2,I2,pl,q2⟩=>bC (hu sa s2 σ H2 _ I2 q2) λvu s3 ⟨u,H3,I3,pu,q3⟩=>?_;rw[evalPart_none];refine Nc ?_;have I4:Inv X sa σ H3 { s3 with heap:=s3.heap.push { cls:=.type "slice",data:=.fields #[vl,vu,.none] } }:=I3.kept (t':=s3.toks) λb ob q=>dB _ q;obtain⟨T,id,hT,ht,hg⟩:=hr sa { s3 with heap:=s3.heap.push { cls:=.type "slice",data:=.fields #[vl,vu,.none] } } σ H3 x v vl vu l u s3.heap.objs.size Q I4 r1 (Heap.IsSliceOf.new ..) pl pu q3;show wpAny (model X.prog X.w) X.A (subscriptTail e (.Slice lo hi none p2) v<|.ref s3.heap.objs.size) (EP X sa σ Q) X.xe { s3 with heap:=s3.heap.push { cls:=.type "slice",data:=.fields #[vl,vu,.none] } };exact tail_any (ops:=[.ref s3.heap.objs.size,v]) ht hT hg (by with_unfolding_all rfl)
def jR(xs:List V)(lo hi:Option Int):List V:=(xs.drop<|HT.sIx xs.length 0 lo).take<|HT.sIx xs.length xs.length hi-HT.sIx xs.length 0 lo
theorem gj(xs:List V)(lo hi:Option Int):(jR xs lo hi).length<=xs.length:=by unfold jR;rw[jL,kR];omega
def AT(K:Nb):V->Option Int->Option Int->Hp->VK->Prop:=λx lo hi H Q=>∃a xs,x=.ref a/\SqT K H a xs/\
 ¬(HT.sIx xs.length 0 lo=0/\HT.sIx xs.length xs.length hi=xs.length)/\∀p,H p=none->Q (.ref p) (upd H p<|.tup<|jR xs lo hi)
theorem sl_tup:SlR X (AT X.K):=by
 intro sa s σ H x v vl vu lo hi sl Q I rx hs pl pu h;obtain⟨a,xs,rfl,hx,hw,q⟩:=h;cases rx;obtain⟨its,r,ht,hz⟩:=I.tuple hx;have hlen:its.toArray.size=xs.length:=by rw[eu];exact r.length.symm
 refine⟨"tuple",_,PyProof.Rows.slot_tuple_getitem.lookup,ht.typeIs,?_⟩;refine HT.getItem_tuple_cut ht hs pl pu (by rw[hlen];exact hw) ?_ (by rw[hlen];exact hz);rw[hlen];refine⟨.ref s.heap.objs.size,_,I.laid (t':=s.toks) (o:=.tup<|jR xs lo hi) (λb ob q=>dB _ q) (cF _) ?_,rfl,q _<|I.hok.fresh<|cF _⟩;exact⟨gU (gj xs lo hi) hz,_,(r.drop<|HT.sIx xs.length 0 lo).take<|HT.sIx xs.length xs.length hi-HT.sIx xs.length 0 lo,IsTup.new _ _⟩
def vj(K:Nb):R2:=λx y H Q=>∃a b xs ys,x=.ref a/\y=.ref b/\SqT K H a xs/\SqT K H b ys/\xs≠[]/\xs.length+ys.length<=sizeLine/\
 (ys=[]->Q (.ref a) H)/\(ys≠[]->∀p,H p=none->Q (.ref p) (upd H p<|.tup<|xs++ys))
theorem Vals.nil_iff{us:List Value}(r:Vals xs us):us=[]↔xs=[]:=by
 cases r with
 |nil=>simp|cons _ _=>simp
theorem qk:OpR X (binaryOp .Add) (vj X.K):=by intro sa s σ H x y v u Q I rx ry h;obtain⟨a,b,xs,ys,rfl,rfl,ha,hb,hx,hz,q1,q2⟩:=h;cases rx;cases ry;obtain⟨its,r1,p1,_⟩:=I.tuple ha;obtain⟨its2,r2,p2,_⟩:=I.tuple hb;refine HT.cat_tup p1 p2 (λz=>hx<|r1.nil_iff.mp z) (λz=>⟨.ref a,H,I,rfl,q1<|r2.nil_iff.mp z⟩) (λz=>?_) (by rw[<-r1.length,<-r2.length];exact hz);refine⟨.ref s.heap.objs.size,_,I.laid (t':=s.toks) (o:=.tup<|xs++ys) (λb ob q=>dB _ q) (cF _) ?_,rfl,q2 (λw=>z<|r2.nil_iff.mpr w) _<|I.hok.fresh<|cF _⟩;exact⟨by rw[dG];exact hz,_,r1.append r2,IsTup.new _ _⟩
end
def jB(n:Nat)(i:Int):Option Nat:=if 0<=i then(if i<n then some i.toNat else none) else if -(n:Int)<=i then some (i+n).toNat else none
def dW{α:Type}(xs:List α)(i:Int):Option α:=(jB xs.length i).bind λj=>xs[j]?
theorem gQ(h:jB n i=some j):seqIndex? i n=some j/\j<n/\-(n:Int)<=i/\i<n:=by unfold jB at h;by_cases h0:0<=i;rw[oI h0]at h;by_cases h1:i<n;rw[oI h1]at h;have e:i.toNat=j:=Ng h;exact⟨by rw[seqIndex_of h0 h1,e],by omega,by omega,h1⟩;rw[ks h1]at h;cases h;rw[ks h0]at h;by_cases h1:-(n:Int)<=i;rw[oI h1]at h;have e:(i+n).toNat=j:=Ng h;exact⟨by rw[seqIndex_neg (by omega) h1,e],by omega,h1,by omega⟩;rw[ks h1]at h;cases h
theorem gR{α:Type}{xs:List α}{v:α}(h:dW xs i=some v):∃j,seqIndex? i xs.length=some j/\xs[j]? = some v/\j<xs.length/\-(xs.length:Int)<=i/\i<xs.length:=by
 unfold dW at h;cases e:jB xs.length i with
 |none=>rw[e]at h;cases h
 |some j=>rw[e]at h;obtain⟨h1,h2,h3,h4⟩:=gQ e;exact⟨j,h1,h,h2,h3,h4⟩
theorem bQ{α:Type}{xs:List α}{v:α}(h:xs[j]? = some v):dW xs (j:Int)=some v:=by
 have hj:j<xs.length:=(Yaq.mp h).1;have e:jB xs.length (j:Int)=some j:=by unfold jB;rw[oI<|by omega,oI<|by omega];simp
 unfold dW;rw[e];exact h
def k6(b:Expr):Prop:=∀o i,subscripted b false o i=operate [o,i] (getItem o i)
def IxR(X:Cx)(r:R2):Prop:=
 ∀(value slice:Expr) (sa:List (Addr×Obj)) (s:Shared) (σ:St) (H:Hp) (x y:V) (v u:Value) (Q:VK),Inv X sa σ H s->RelV x v->RelV y u->r x y H Q->
  subscripted slice false v u=operate [v,u] (getItem v u)->wpAny (model X.prog X.w) X.A (subscriptTail value slice v u) (EP X sa σ Q) X.xe s
def AU(X:Cx)(id:String)(r:V->List V->Hp->VK->Prop):Prop:=
 ∀(sa:List (Addr×Obj)) (s:Shared) (σ:St) (H:Hp) (x:V) (xs:List V) (v:Value) (us:List Value) (Q:VK),Inv X sa σ H s->RelV x v->Vals xs us->r x xs H Q->
  wpAny (model X.prog X.w) X.A (call (.builtin id) (v::us)) (EP X sa σ Q) X.xe s
section
variable{a b:Expr}{ta tb:TE}
theorem IxR.or{r r':R2}(h:IxR X r)(h':IxR X r'):IxR X (λx y H Q=>r x y H Q\/r' x y H Q):=by
 intro value slice sa s σ H x y v u Q I rx ry q hs;rcases q with q|q
 exact h value slice sa s σ H x y v u Q I rx ry q hs;exact h' value slice sa s σ H x y v u Q I rx ry q hs
theorem vk{r:R2}(hr:IxR X r)(ha:PE X a ta)(hb:PE X b tb)(hs:k6 b):PE X (.Subscript a b pos) (yp r ta tb):=by intro sa s σ H Q I h;exact Subscript_<|ss ha hb I h λv u s2 x y H2 I2 rx ry q=>hr a b sa s2 σ H2 x y v u Q I2 rx ry q (hs _ _)
def vm(K:Nb):R2:=λx y H Q=>∃p xs i v,x=.ref p/\y=.int i/\SqL K H p xs/\dW xs i=some v/\Q v H
def vn(K:Nb):R2:=λx y H Q=>∃p xs i v,x=.ref p/\y=.int i/\SqT K H p xs/\dW xs i=some v/\Q v H
def vo:R2:=λx y H Q=>∃z i c,x=.str z/\y=.int i/\z.length<=sizeLine/\dW z.cps.toList i=some c/\Q (.str ⟨#[c]⟩) H
theorem ix_list:IxR X (vm X.K):=by
 intro value slice sa s σ H x y v u Q I rx ry h hs;obtain⟨p,xs,i,z,rfl,rfl,hq,he,q⟩:=h;cases rx;obtain⟨t,rfl⟩:=ry;obtain⟨its,r,pl,hz⟩:=I.list hq;obtain⟨j,h1,h2,h3,h4,h5⟩:=gR he;obtain⟨w,ew,rw'⟩:=r.get h2;have hl:=r.length;have hn:=e7;have fin:EP X sa σ Q w s:=⟨z,H,I,rw',q⟩;by_cases h0:0<=i;have hj:i.toNat=j:=by rw[seqIndex_of h0 h5]at h1;exact Ng h1
 exact item_listR pl.isList h0 (by omega) (by rw[hj];simpa using ew) fin hs;have hj:(i+(its.toArray.size:Int)).toNat=j:=by rw[seqIndex_neg (by omega) h4]at h1;rw[eu,<-hl];exact Ng h1
 exact subscriptTail_builtinR (x:=w) pl.isList.typeIs slot_list_getitem.lookup
  (wpAny_getItem_list_neg (Q:=λr s'=>r=w/\EP X sa σ Q r s') pl.isList (by omega) (by rw[eu]<;>omega) (by omega) (by rw[hj];simpa using ew) ⟨rfl,fin⟩) hs
theorem ix_tup:IxR X (vn X.K):=by
 intro value slice sa s σ H x y v u Q I rx ry h hs;obtain⟨p,xs,i,z,rfl,rfl,hq,he,q⟩:=h;cases rx;obtain⟨t,rfl⟩:=ry;obtain⟨its,r,pl,hz⟩:=I.tuple hq;obtain⟨j,h1,h2,h3,h4,h5⟩:=gR he;obtain⟨w,ew,rw'⟩:=r.get h2;have hl:=r.length;have hn:=e7;have fin:EP X sa σ Q w s:=⟨z,H,I,rw',q⟩;exact subscriptTail_builtinR (x:=w) pl.typeIs slot_tuple_getitem.lookup
  (getItem_tuple (j:=j) (Q:=λr s'=>r=w/\EP X sa σ Q r s') pl (by omega) (by omega) (by rw[eu,<-hl];exact h1) (by simpa using ew) ⟨rfl,fin⟩) hs
theorem sK:IxR X vo:=by
 intro value slice sa s σ H x y v u Q I rx ry h hs;obtain⟨z,i,c,rfl,rfl,hz,he,q⟩:=h;obtain⟨t,rfl⟩:=rx;obtain⟨t',rfl⟩:=ry;obtain⟨j,h1,h2,h3,h4,h5⟩:=gR he;have hl:z.cps.toList.length=z.length:=by simp[Str.length]
 rw[hl]at h1 h4 h5;have hn:=e7;exact tail_any (typeIs_str s z t) slot_str_getitem.lookup (getItem_str (c:=c) (by
  have e1:decide (i < -(2^63:Int))=false:=Ni (by omega);have e2:decide (i ≥ 2^63)=false:=Ni (by omega);rw[e1,e2,Bool.or_false]) (by rw[h1];simpa using h2) ⟨.str ⟨#[c]⟩,H,I.tok _,⟨_,rfl⟩,q⟩) hs
def Ds(K:Nb):R2:=λx y H Q=>vm K x y H Q\/vn K x y H Q\/vo x y H Q
def mZ:IxR X (Ds X.K):=ix_list.or<|ix_tup.or sK
theorem ky(its:List Value)(n j:Nat)(u:Value):Obj.mapSeq (·.setIfInBounds j u) { cls:=.type "list",data:=.seq its.toArray n }={ cls:=.type "list",data:=.seq (its.set j u).toArray n }:=by simp[Obj.mapSeq]
theorem Inv.lst{sa:List (Addr×Obj)}{σ:St}{H:Hp}{s:Shared}{p:Addr}{xs:List V}(I:Inv X sa σ H s)(h:H p=some (.lst xs)) :
  ∃(its:List Value) (n:Nat),Vals xs its/\s.heap.get? p=some { cls:=.type "list",data:=.seq its.toArray n }/\xs.length<=sizeLine:=by
 obtain⟨z,its,n,r,e⟩:=I.hok p _ h;exact⟨its,n,r,e,z⟩
theorem Inv.lstUpd{p:Addr}{ys:List V}{its:List Value}{n':Nat}{f:Obj->Obj}(I:Inv X sa σ H s)(h:H p=some (.lst xs))
  (ho:s.heap.get? p=some { cls:=.type "list",data:=.seq its.toArray n }) (hf:f { cls:=.type "list",data:=.seq its.toArray n }={ cls:=.type "list",data:=.seq its'.toArray n' }) (r:Vals ys its') (hz:ys.length<=sizeLine) (t:Nat) :
  Inv X sa σ (upd H p<|.lst ys) { s with heap:=s.heap.update p f,toks:=t }:=by
 have e:(s.heap.update p f).get? p=some { cls:=.type "list",data:=.seq its'.toArray n' }:=by
  rw[xN f ho (by rw[hf]<;>rfl),hf]
 refine I.write (x:=p) (e:=p) (by rw[h];trivial) (.inl rfl) (λb u hb q=>(rz _ _<|Nm hb).trans q) ⟨_,e⟩ ?_<|.inl ⟨_,h⟩;exact⟨hz,its',n',r,e⟩
def vq:V->V->V->Hp->(Hp->Prop)->Prop:=λo i v H Q=>∃p xs k j,o=.ref p/\i=.int k/\H p=some (.lst xs)/\jB xs.length k=some j/\Q (upd H p<|.lst<|xs.set j v)
theorem dN:sf X vq:=by
 intro sa s σ H o i v ov iv u Q I ro ri rv h;obtain⟨p,xs,k,j,rfl,rfl,hp,hj,q⟩:=h;cases ro;obtain⟨t,rfl⟩:=ri;obtain⟨its,n,r,ho,hz⟩:=I.lst hp;obtain⟨h1,h2,h3,h4⟩:=gQ hj;have hl:=r.length;have hn:=e7;have I':Inv X sa σ (upd H p<|.lst<|xs.set j v) { s with heap:=s.heap.update p (Obj.mapSeq (·.setIfInBounds j u)) }:=
  I.lstUpd hp ho (ky its n j u) (r.set rv j) (by rw[cU];exact hz) s.toks
 by_cases h0:0<=k;have hk:k.toNat=j:=by rw[seqIndex_of h0 h4]at h1;exact Ng h1
 exact PySem.W.ki_setAt ho h0 (by omega) (by rw[eu,<-hl];exact h4) (by rw[hk];exact⟨_,I',q⟩);have hk:(k+(its.toArray.size:Int)).toNat=j:=by rw[seqIndex_neg (by omega) h3]at h1;rw[eu,<-hl];exact Ng h1
 exact PySem.W.ki_setBack ho (by omega) (by rw[eu,<-hl];exact h3) (by omega) (by rw[hk];exact⟨_,I',q⟩)
theorem jf(lo hi:Option Int)(n:Nat):(sliceBounds lo hi none n).1=((HT.sIx n 0 lo:Nat):Int)/\(sliceBounds lo hi none n).2.1=((HT.sIx n n hi:Nat):Int)/\(sliceBounds lo hi none n).2.2=1:=by
 refine⟨?_,?_,rfl⟩;cases lo with
 |none=>simp[sliceBounds,HT.sIx]|some i=>simp only[sliceBounds,HT.sIx,Option.getD_none,show(1:Int)>0 by decide,if_true];by_cases h:i<0;simp only[h,if_true]<;>omega;simp only[h,if_false]<;>omega
 cases hi with
 |none=>simp[sliceBounds,HT.sIx]|some i=>simp only[sliceBounds,HT.sIx,Option.getD_none,show(1:Int)>0 by decide,if_true];by_cases h:i<0;simp only[h,if_true]<;>omega;simp only[h,if_false]<;>omega
theorem iu(its:List Value)(lo hi:Option Int):slicePick its.toArray lo hi none=((its.drop<|HT.sIx its.length 0 lo).take<|HT.sIx its.length its.length hi-HT.sIx its.length 0 lo).toArray:=by obtain⟨h1,h2,h3⟩:=jf lo hi its.toArray.size;unfold slicePick;rw[h1,h2,h3];simp only[sliceRange_one,pick_run,eu]<;>rfl
def AV(K:Nb):V->Option Int->Option Int->Hp->VK->Prop:=λx lo hi H Q=>∃a xs,x=.ref a/\SqL K H a xs/\∀p,H p=none->Q (.ref p) (upd H p<|.lst<|jR xs lo hi)
theorem sl_list:SlR X (AV X.K):=by intro sa s σ H x v vl vu lo hi sl Q I rx hs pl pu h;obtain⟨a,xs,rfl,hx,q⟩:=h;cases rx;obtain⟨its,r,ht,hz⟩:=I.list hx;have hlen:=r.length;refine⟨"list",_,slot_list_getitem.lookup,ht.isList.typeIs,?_⟩;refine wpAny_getItem_list_slice ht.isList hs pl pu .none (by simp) ?_ (by rw[eu]<;>omega);rw[iu,<-hlen];refine⟨.ref s.heap.objs.size,_,I.laid (t':=s.toks) (o:=.lst<|jR xs lo hi) (λb ob q=>dB _ q) (cF _) ?_,rfl,q _<|I.hok.fresh<|cF _⟩;exact⟨gU (gj xs lo hi) hz,_,0,(r.drop<|HT.sIx xs.length 0 lo).take<|HT.sIx xs.length xs.length hi-HT.sIx xs.length 0 lo,ia _ rfl⟩
def fw:V->Bool
 |.non=>true|.bl _=>true|.int _=>true|.str _=>true|_=>false
def qL:V->V->Bool
 |.non,.non=>true|.bl a,.bl b=>a==b|.bl a,.int b=>(if a then 1 else 0)==b|.int a,.bl b=>a==(if b then 1 else 0)|.int a,.int b=>a==b|.str a,.str b=>a==b|_,_=>false
theorem sL{y:V}{u v:Value}(ry:RelV y u)(rx:RelV x v)(fy:fw y=true)(fx:fw x=true):SeqAt.EqAt A s u v (qL y x):=by
 cases y with
 |non=>
  cases ry;cases x with
  |non=>cases rx;exact SeqAt.EqAt.same _
  |bl b=>cases rx;exact SeqAt.EqAt.none_bool b
  |int b=>obtain⟨t,rfl⟩:=rx;exact SeqAt.EqAt.none_int b t
  |str b=>obtain⟨t,rfl⟩:=rx;exact SeqAt.EqAt.none_str b t
  |_=>exact Nd (show false=true from fx) jK
 |bl a=>
  cases ry;cases x with
  |non=>cases rx;exact SeqAt.EqAt.bool_none a
  |bl b=>cases rx;exact SeqAt.EqAt.bool_bool a b
  |int b=>obtain⟨t,rfl⟩:=rx;exact SeqAt.EqAt.bool_int a b t
  |str b=>obtain⟨t,rfl⟩:=rx;exact SeqAt.EqAt.bool_str a b t
  |_=>exact Nd (show false=true from fx) jK
 |int a=>
  obtain⟨t',rfl⟩:=ry;cases x with
  |non=>cases rx;exact SeqAt.EqAt.int_none a t'
  |bl b=>cases rx;exact SeqAt.EqAt.int_bool a t' b
  |int b=>obtain⟨t,rfl⟩:=rx;exact SeqAt.EqAt.int_int a t' b t
  |str b=>obtain⟨t,rfl⟩:=rx;exact SeqAt.EqAt.int_str a t' b t
  |_=>exact Nd (show false=true from fx) jK
 |str a=>
  obtain⟨t',rfl⟩:=ry;cases x with
  |non=>cases rx;exact SeqAt.EqAt.str_none a t'
  |bl b=>cases rx;exact SeqAt.EqAt.str_bool a t' b
  |int b=>obtain⟨t,rfl⟩:=rx;exact SeqAt.EqAt.str_int a t' b t
  |str b=>obtain⟨t,rfl⟩:=rx;exact SeqAt.EqAt.str_str a t' b t
  |_=>exact Nd (show false=true from fx) jK
 |_=>exact Nd (show false=true from fy) jK
def ql(x:V)(u:Value):Bool:=match u with|.none=>qL .non x|.bool b=>qL (.bl b) x|.int i _=>qL (.int i) x|.str z _=>qL (.str z) x|_=>false
theorem m6{y:V}{u:Value}(r:RelV y u)(f:fw y=true):ql x u=qL y x:=by
 cases y with
 |non=>cases r;rfl
 |bl b=>cases r;rfl
 |int i=>obtain⟨t,rfl⟩:=r;rfl
 |str z=>obtain⟨t,rfl⟩:=r;rfl
 |_=>exact Nd (show false=true from f) jK
theorem jg{x:V}:∀{xs:List V} {us:List Value},Vals xs us->xs.all fw=true->us.any (ql x)=xs.any λy=>qL y x
 |_,_,.nil,_=>rfl|y::xs,u::us,.cons r t,f=>by rw[rC,dQ]at f;rw[xO,xO,m6 r f.1,jg t f.2]
theorem g9{A:Around}{s:Shared}{x:V}{v:Value}(rx:RelV x v)(fx:fw x=true):∀{xs:List V} {us:List Value},Vals xs us->xs.all fw=true->∀u∈us,SeqAt.EqAt A s u v (ql x u)
 |_,_,.nil,_=>λu hu=>by cases hu
 |y::xs,u::us,.cons r t,f=>λu' hu=>by
  rw[rC,dQ]at f;rcases Yan.mp hu with rfl|hu
  rw[m6 r f.1];exact sL r rx f.1 fx;exact g9 rx fx t f.2 u' hu
def yr(x:V)(xs:List V):Bool:=xs.any λy=>qL y x
def Du(K:Nb)(neg:Bool):R2:=λx y H Q=>∃p xs,y=.ref p/\(SqL K H p xs\/SqT K H p xs)/\fw x=true/\xs.all fw=true/\Q (.bl (if neg then !yr x xs else yr x xs)) H
theorem jh:OpR X (compareOp .NotIn) (Du X.K true):=by
 intro sa s σ H x y v u Q I rx ry h;obtain⟨p,xs,rfl,hq,fx,fs,q⟩:=h;cases ry;rcases hq with hq|hq
 obtain⟨its,r,pl,hz⟩:=I.list hq;refine SeqAt.notIn_listAt (ql x) pl.isList (λw hw=>g9 rx fx r fs w<|by simpa using hw) ⟨.bl _,H,I,rfl,?_⟩;rw[show its.toArray.any (ql x)=its.any (ql x) by simp,jg r fs];exact q;obtain⟨its,r,pl,hz⟩:=I.tuple hq;refine SeqAt.notIn_tupleAt (ql x) pl (λw hw=>g9 rx fx r fs w<|by simpa using hw) ⟨.bl _,H,I,rfl,?_⟩;rw[show its.toArray.any (ql x)=its.any (ql x) by simp,jg r fs];exact q
theorem ji:dI X (.builtin "len") (λxs H Q=>∃p ys,xs=[.ref p]/\(SqL X.K H p ys\/SqT X.K H p ys)/\Q (.int ys.length) H):=by
 intro sa s σ H xs us Q I r h;obtain⟨p,ys,rfl,hq,q⟩:=h;obtain⟨u,rfl,rx⟩:=dJ r;cases rx;have hn:=e7;rcases hq with hq|hq
 obtain⟨its,r',pl,hz⟩:=I.list hq;have hlen:=r'.length;exact Calls.call_len_list pl.isList (by simp only[eu]<;>omega) ⟨.int ys.length,H,I.tok _,⟨s.toks+1,by rw[eu,hlen]⟩,q⟩;obtain⟨its,r',pl,hz⟩:=I.tuple hq;have hlen:=r'.length;exact len_tuple pl (by simp only[eu]<;>omega) ⟨.int ys.length,H,I.tok _,⟨s.toks+1,by rw[eu,hlen]⟩,q⟩
theorem jk:dI X (.type "list") (λxs H Q=>∃p ys,xs=[.ref p]/\(SqL X.K H p ys\/SqT X.K H p ys)/\∀l,H l=none->Q (.ref l) (upd H l<|.lst ys)):=by
 intro sa s σ H xs us Q I r h;obtain⟨p,ys,rfl,hq,q⟩:=h;obtain⟨u,rfl,rx⟩:=dJ r;cases rx;have fin:∀(its:List Value),Vals ys its->ys.length<=sizeLine->∀(h':Heap) (c':Nat),(∀b o',s.heap.get? b=some o'->h'.get? b=some o')->
   h'.get? s.heap.objs.size=some { cls:=.type "list",dict:=none,data:=.seq its.toArray c',slots:=#[] }->EP X sa σ Q (.ref s.heap.objs.size) { s with heap:=h' }:=λits r' hz h' c' kp e=>
  ⟨.ref s.heap.objs.size,_,I.laid (t':=s.toks) kp (cF _) (show ObjOk X.prog X.w _ h' _ (.lst ys) from⟨hz,its,c',r',e⟩),rfl,q _<|I.hok.fresh<|cF _⟩
 rcases hq with hq|hq
 obtain⟨its,r',pl,hz⟩:=I.list hq;have hlen:=r'.length;obtain⟨o,ho,hc,n,hd⟩:=pl.isList;exact call_list_seq p (.inl rfl) ho hc hd (λh' c' kp e=>fin its r' hz h' c' kp e) (by simp only[eu]<;>omega);obtain⟨its,r',pl,hz⟩:=I.tuple hq;have hlen:=r'.length;obtain⟨o,ho,hc,n,hd⟩:=pl;exact call_list_seq p (.inr rfl) ho hc hd (λh' c' kp e=>fin its r' hz h' c' kp e) (by simp only[eu]<;>omega)
theorem iw:dI X (.type "tuple") (λxs H Q=>∃p ys,xs=[.ref p]/\((SqL X.K H p ys/\∀l,H l=none->Q (.ref l) (upd H l<|.tup ys))\/(SqT X.K H p ys/\Q (.ref p) H))):=by
 intro sa s σ H xs us Q I r h;obtain⟨p,ys,rfl,h⟩:=h;obtain⟨u,rfl,rx⟩:=dJ r;cases rx;rcases h with⟨hq,q⟩|⟨hq,q⟩
 obtain⟨its,r',pl,hz⟩:=I.list hq;have hlen:=r'.length;refine call_tuple_list pl.isList (λh' kp=>?_) (by simp only[eu]<;>omega);have I1:Inv X sa σ H { s with heap:=h' }:=I.kept (t':=s.toks) kp;have I2:Inv X sa σ (upd H h'.objs.size<|.tup ys) { s with heap:=h'.push { cls:=.type "tuple",data:=.seq its.toArray } }:=
  I1.laid (t':=s.toks) (λb o e=>dB _ e) (cF _) (show ObjOk X.prog X.w _ _ _ (.tup ys) from⟨hz,its,r',IsTup.new _ _⟩)
 exact⟨.ref h'.objs.size,_,I2,rfl,q _<|I1.hok.fresh<|cF _⟩;obtain⟨its,r',pl,hz⟩:=I.tuple hq;exact call_tuple_same pl ⟨.ref p,H,I,rfl,q⟩
def Dv(K:Nb)(T:String)(x:V)(H:Hp):Prop:=match x with
 |.str _=>T = "str"|.int _=>T = "int"
 |.ref p=>(T = "list" /\∃xs,SqL K H p xs)\/(T = "tuple" /\∃o,K.lookup p=some o/\o.cls=.type "tuple" /\o.dict=none)\/
   (T = "dict" /\((∃kvs,H p=some (.dK kvs))\/∃kvs,H p=some (.dT kvs)))\/(T = "set" /\∃S n,H p=some (.set S n))
 |_=>False
theorem sM{v:Value}(I:Inv X sa σ H s)(r:RelV x v)(ty:Dv X.K T x H) :
  s.TypeIs v T/\∀a,v=.ref a->∃ob,s.heap.get? a=some ob/\ob.dict=none:=by
 cases x with
 |str z=>
  obtain⟨t,rfl⟩:=r;cases(show T = "str" from ty);exact⟨typeIs_str s z t,λ_ e=>nomatch e⟩
 |int i=>
  obtain⟨t,rfl⟩:=r;cases(show T = "int" from ty);exact⟨typeIs_int s i t,λ_ e=>nomatch e⟩
 |ref p=>
  cases r;rcases ty with⟨rfl,xs,hq⟩|⟨rfl,o,hk,hc,hd⟩|⟨rfl,hk⟩|⟨rfl,S,n,hk⟩
  .obtain⟨its,_,pl,_⟩:=I.list hq
   refine⟨pl.isList.typeIs,λa e=>?_⟩;cases e;obtain⟨o,n,e,c,hd,_⟩:=pl;exact⟨o,e,hd⟩
  .refine⟨⟨o,I.kIn p o hk,hc⟩,λa e=>?_⟩
   cases e;exact⟨o,I.kIn _ o hk,hd⟩
  .have z:∃o,s.heap.get? p=some o/\o.ExactDict:=by
    rcases hk with⟨kvs,hk⟩|⟨kvs,hk⟩
    .obtain⟨_,_,_,_,o,_,_,e,ex,_⟩:=I.hok p _ hk
     exact⟨o,e,ex⟩
    .obtain⟨_,_,_,_,o,_,_,e,ex,_⟩:=I.hok p _ hk
     exact⟨o,e,ex⟩
   obtain⟨o,e,ex⟩:=z;refine⟨⟨o,e,ex.1⟩,λa e2=>?_⟩;cases e2;exact⟨o,e,ex.2.1⟩
  .obtain⟨o,_,_,_,e,ex,_⟩:=I.hok p _ hk
   refine⟨⟨o,e,ex.1⟩,λa e2=>?_⟩;cases e2;exact⟨o,e,ex.2.1⟩
 |_=>exact Nr ty
def Hm(K:Nb)(T:String)(r:V->List V->Hp->VK->Prop)(to:TE)(t:TA):TE:=λσ H Q=>to σ H λx H1=>Dv K T x H1/\t σ H1 λxs H2=>r x xs H2 Q
variable{o:Expr}{es:List Expr}{to:TE}{t:TA}{name:Str}{apos cpos:Pos}{id:String}{r:V->List V->Hp->VK->Prop}
theorem m7(pa:PlainAttrs T)(slot:Slot T name id)(hty:typeOf (.builtin id)=pure (.type "method_descriptor"))(hm:AU X id r)(ho:PE X o to)(ha:PA X (e::es) t)
  (hbase:attributeBase o name X.env (eval o X.env)=eval o X.env:=by rfl)
  (hfew:((backTo cpos<|starEach (e::es) X.env).all (λx=>!x.1) && (backToKw cpos<|keywordEach [] X.env).all (λx=>x.1.isSome)
   && decide ((e::es).length+([]:List Keyword).length+(if([]:List Keyword).isEmpty then 0 else 1)<30))=true:=by rfl)
  (hline:(apos.endLine==cpos.line)=true:=by rfl) (hs:starEach (e::es) X.env=(false,eval e X.env)::starEach es X.env:=by rfl) (hplain:(backTo cpos<|starEach es X.env).any (·.1)=false:=by rfl) :
  PE X (.Call (.Attribute o name apos) (e::es) [] cpos) (Hm X.K T r to t):=by
 intro sa s σ H Q I h;refine wpAny_Call_method_late hbase hfew hline rfl<|bC (ho sa s σ H _ I h) λv s1 ⟨x,H1,I1,r1,ty,q1⟩=>?_;obtain⟨h1,h2⟩:=sM I1 r1 ty;refine⟨T,id,pa,slot,hty,h1,h2,?_⟩;have hA:=ha cpos sa s1 σ H1 _ I1 q1;rw[hs]at hA ⊢;refine Calls.callWith_builtin (by show(false||(backTo cpos<|starEach es X.env).any (·.1))=false;rw[hplain]<;>rfl)<|Calls.evalArgs_plain ?_;exact bC hA λus s2 ⟨vs,H2,I2,r2,q2⟩=>hm sa s2 σ H2 x vs v us Q I2 r1 r2 q2
/- xs.append(e),list.index on a module's tuple .. are AU facts of 06m -/
end
def Dw(X:Cx)(id:String)(r:V->List V->Hp->VK->Prop):Prop:=
 ∀(sa:List (Addr×Obj)) (s:Shared) (σ:St) (H:Hp) (x:V) (xs:List V) (v:Value) (us:List Value) (Q:VK),Inv X sa σ H s->RelV x v->Vals xs us->r x xs H Q->
  wpAny (model X.prog X.w) X.A (call (.builtin id) (v::us)) (EP X sa σ Q) X.xe s
def Vals.one:∀{x:V} {us:List Value},Vals [x] us->∃u,us=[u]/\RelV x u
 |_,_,.cons r .nil=>⟨_,rfl,r⟩
def Vals.eraseIdx:∀{xs:List V} {us:List Value} (i:Nat),Vals xs us->Vals (xs.eraseIdx i) (us.eraseIdx i)
 |_,_,_,.nil=>.nil|_,_,0,.cons _ t=>t|_,_,i+1,.cons r t=>.cons r<|Vals.eraseIdx i t
theorem Vals.rep{xs:List V}{us:List Value}(h:Vals xs us):∀k:Nat,Vals (List.replicate k xs).flatten (List.replicate k us).flatten
 |0=>.nil|k+1=>by rw[gW,gW,qB,qB];exact Vals.append h<|Vals.rep h k
def iU{α:Type}:∀(l:List α) (i:Nat),(l.eraseIdx i).length<=l.length
 |[],_=>cF _|_::_,0=>Nat.le_succ _|_::r,i+1=>Nat.succ_le_succ<|iU r i
theorem eO(its:List Value):∀(k:Nat) (acc:List Value),
  List.foldl (λx1 x2=>x1++x2) acc.toArray (List.replicate k its.toArray)=(acc++(List.replicate k its).flatten).toArray
 |0,acc=>by simp
 |k+1,acc=>by
  have e:acc.toArray++its.toArray=(acc++its).toArray:=by simp
  have e2:(acc++its)++(List.replicate k its).flatten=acc++(List.replicate (k+1) its).flatten:=by
   rw[gW,qB,lx]
  rw[<-e2,<-eO its k (acc++its),<-e,gW,List.foldl_cons]
section
variable{l b:Addr}{ys zs:List V}
theorem Inv.lset{its:List Value}(I:Inv X sa σ H s)(hH:H l=some (.lst xs))
  (e:s.heap.get? l=some { cls:=.type "list",data:=.seq its.toArray n }) (hf:f its.toArray=its'.toArray) (hv:Vals ys its') (hz:ys.length<=sizeLine) :
  Inv X sa σ (upd H l<|.lst ys) { s with heap:=s.heap.update l<|Obj.mapSeq f,toks:=t' }:=by
 have q:=PySem.IsL.update e f;rw[hf]at q;refine I.write (x:=l) (e:=l) (by rw[hH];exact trivial) (.inl rfl) (λb' u hb hu=>(rz s.heap (Obj.mapSeq f)<|Nm hb).trans hu) ⟨_,q⟩ ?_<|.inl ⟨_,hH⟩;exact⟨hz,its',_,hv,q⟩
def Inv.lnew{its:List Value}(I:Inv X sa σ H s)(hv:Vals ys its)(hz:ys.length<=sizeLine) :
  Inv X sa σ (upd H s.heap.objs.size<|.lst ys) { s with heap:=s.heap.push { cls:=.type "list",data:=.seq its.toArray },toks:=t' }:=
 I.laid (λ_ _ q=>dB _ q) (cF _) ⟨hz,its,0,hv,ia _ rfl⟩
def Inv.fresh(I:Inv X sa σ H s):H s.heap.objs.size=none:=I.hok.fresh<|cF _
theorem Inv.lstM(I:Inv X sa σ H s)(hH:H l=some (.lst xs)):xs.length<=sizeLine/\∃(its:List Value) (n:Nat),Vals xs its/\xs.length=its.length/\s.heap.get? l=some { cls:=.type "list",data:=.seq its.toArray n }:=by obtain⟨z,its,n,r,e⟩:=I.hok l _ hH;exact⟨z,its,n,r,r.length,e⟩
theorem m8(h:n<=sizeLine):Builtin.List.listTooLong n=false:=by unfold Builtin.List.listTooLong;exact Ni (by omega)
end
section
def qm:V->List V->Hp->VK->Prop:=λx vs H Q=>∃l xs y,x=.ref l/\vs=[y]/\H l=some (.lst xs)/\xs.length<sizeLine/\Q .non (upd H l<|.lst<|xs++[y])
theorem lH:Dw X "list.append" qm:=by intro sa s σ H x vs v us Q I rx rv h;obtain⟨l,xs,y,rfl,rfl,hH,hz,q⟩:=h;cases rx;obtain⟨u,rfl,ru⟩:=rv.one;obtain⟨z,its,n,r,hl,e⟩:=I.lstM hH;refine call_meets F.slot_list_append ⟨_,e,rfl⟩ F.entry_list_append (F.args_list_append_2 _ _) (PySem.list_append l its.toArray n u (by rw[eu];omega)) ⟨e,?_⟩;refine⟨.non,_,I.lset (its':=its++[u]) hH e (by simp) (r.append<|.cons ru .nil) ?_,rfl,q⟩;rw[dG,j9];omega
def AW:R2:=λx y H Q=>∃l k xs,x=.ref l/\y=.int k/\H l=some (.lst xs)/\-(2^63)<=k/\k<2^63/\xs.length*k.toNat<=sizeLine/\
 ∀p,H p=none->Q (.ref p) (upd H p<|.lst (List.replicate k.toNat xs).flatten)
theorem jm{α:Type}(xs:List α)(k:Nat):(List.replicate k xs).flatten.length=k*xs.length:=by
 induction k with
 |zero=>simp|succ k ih=>rw[gW,qB,dG,ih,nQ,Nat.add_comm]
theorem m9:OpR X (binaryOp .Mult) AW:=by
 intro sa s σ H x y v u Q I rx ry h;obtain⟨l,k,xs,rfl,rfl,hH,h1,h2,hz,q⟩:=h;cases rx;obtain⟨t,rfl⟩:=ry;obtain⟨z,its,n,r,hl,e⟩:=I.lstM hH;have hlen:its.toArray.size*k.toNat<=sizeLine:=by rw[eu,<-hl];exact hz
 have hcap:¬its.toArray.size*k.toNat>(2^63-1)/8:=by
  have:(sizeLine:Nat)<=(2^63-1)/8:=by decide
  omega
 have hfit:¬(!Builtin.List.listFitsIndex k)=true:=by rw[fitsIndex_both h1 h2];exact jK
 have hlong:¬Builtin.List.listTooLong (its.toArray.size*k.toNat)=true:=by rw[m8 hlen];exact jK
 have hnew:List.foldl (λx1 x2=>x1++x2) #[] (List.replicate (if its.toArray.isEmpty=true then 0 else k.toNat) its.toArray)=(List.replicate k.toNat its).flatten.toArray:=by
  have f0:∀m:Nat,List.foldl (λx1 x2=>x1++x2) #[] (List.replicate m its.toArray)=(List.replicate m its).flatten.toArray:=λm=>by have:=eO its m [];rw[dC]at this;exact this
  rw[f0];cases its with
  |nil=>simp|cons a r'=>rw[ks<|by simp]
 refine wpAny_binaryOp_repeat_ref (T:= "list") (U:= "int") (by decide) ⟨_,e,rfl⟩ (λs'=>typeIs_int s' k t) noFill_list_mul F.fills_int_mul F.slot_int_rmul repeat_list F.slot_int_index.lookup
  (call_meets F.slot_int_rmul (typeIs_int s k t) F.entry_int_rmul (F.args_int_rmul_2 _ _) (int___rmul___int_list k t l its.toArray n)
   ⟨e,rfl,⟨_,e,rfl⟩,call_meets F.slot_list_mul ⟨_,e,rfl⟩ F.entry_list_mul (F.args_list_mul_2 _ _) (AutoListH.list___mul___list_int_3 l its.toArray n k t hfit hcap hlong) ⟨e,?_⟩⟩)
 rw[hnew];exact⟨.ref _,_,I.lnew (t':=s.toks) (r.rep k.toNat) (by rw[jm,Nat.mul_comm];exact hz),rfl,q _ I.fresh⟩
end
end L2
namespace Att
open PySem PySem.W PySem.Calls PyProof.Rows
theorem gw{P:Params}{h:Heap}:∀(ns:List Int) (vs:List Value),WellAll P h vs (ns.map WData.int)->IntsAre vs ns:=by
 intro ns;induction ns with
 |nil=>intro vs w;rw[gX]at w;cases w;exact .nil
 |cons n ns ih=>
  intro vs w;rw[cR]at w;cases w with
  |cons a b=>
   cases a;exact .cons _ _<|ih _ b
theorem lI{l:OpenLaw}{n:Nat}(hn:l.most=some n){P:Params}{h:Heap}{args:List WData}{vals:List Value}
  (hpre:l.row.toRowW.claim.pre args=true) (hwl:WellAll P h vals args) :
  ∃a vs ns,vals=[Value.ref a]/\args=[WData.list<|ns.map WData.int]/\h.get? a=some { cls:=.type "list",data:=.seq vs.toArray }/\IntsAre vs ns/\ns.length<=n:=by
 have hsh:WShape.hasAll [] args [.list .int]=true:=(pre_splitW hpre).1;have hc:l.pre.holds [] { args:=args }=true:=(pre_splitW hpre).2;obtain⟨d,r,rfl,h1,h2⟩:=hasAllW_cons hsh;obtain rfl:=hasAllW_nil h2;obtain⟨xs,rfl,h3⟩:=hasW_list h1;obtain⟨ns,rfl⟩:=items_int h3;have hlen:ns.length<=n:=by
  unfold OpenLaw.pre at hc;have h4:(WTm.not<|.lt (.lit<|.int (n:Int))<|.len<|.arg 0).holds [] { args:=[.list<|ns.map .int] }=true:=by
   have h4:=(holds_andW hc).1;rw[hn]at h4;exact h4
  have h5:=condW_of h4<|w_not (w_lt w_lit<|w_len_list<|w_arg rfl);rw[bG]at h5;refine Nat.le_of_not_lt λq=>?_;have q':(n:Int)<((ns.length:Nat):Int):=by omega
  first
   |(rw[Nh q']at h5;exact Nd h5<|by decide)
   |(simp at h5;omega)
 cases hwl with
 |cons w1 w2=>
  cases w2;cases w1 with
  |list ho hall=>exact⟨_,_,ns,rfl,rfl,ho,gw ns _ hall,hlen⟩
theorem lJ(l:OpenLaw)(args:List WData):l.row.toRowW.claim.post args (.bool true) args=true:=
 postW_of (r:=l.row.toRowW) (X:=(true==true))
  (show WShape.has [] (.bool true) .bool=true by first|rfl|decide|simp[WShape.has,WShape.arms,WShape.armsAll])
  (show(WTm.eq .res<|.lit<|.bool true).value [] { args:=args,res:=some<|.bool true,after:=args }=some (.bool<|true==true) from w_eq_bool (w_res rfl) w_lit) rfl
theorem attach_call{l:OpenLaw}{n:Nat}{q:Program}{loose:List Str}{XP:(Str->Option Value)->Heap->Prop}{YP:World->Heap->Prop}{d:DefRec}
  (hn:l.most=some n) (hdf:d.params.defaults=[])
  (call:∀ (w:World) (s₀ s₁:Shared) (mg mb:Str->Option Value) (fa:Addr) (o:Obj) (pm cd doc:Value) (a:Addr) (vs:List Value) (ns:List Int),
   Ground q loose [] XP w s₀ mg mb s₁.heap->YP w s₁.heap->
   s₁.heap.get? fa=some o->o.data=.func (docDef d.name d.params d.body d.scope pm cd doc)->s₁.heap.CodeRec cd d.name->mg d.name=some (.ref fa)->
   s₁.heap.get? a=some { cls:=.type "list",data:=.seq vs.toArray }->IntsAre vs ns->ns.length<=n->(a==sysModules)=false->s₁.gens = #[]->
   codeAny (model l.prog w) callerA (.call (.ref fa) ⟨[.ref a],[]⟩) (λr s'=>r=.ok (.ret<|.bool true)/\OldK s₁.heap s'.heap/\s'.os=s₁.os/\AllBare s'.gens) s₁) :
  WalkO q loose XP YP l.row.toRowW d [] (λf vs=>PySem.call f vs):=by
 intro w s₀ s₁ mg mb G Y fa o pm cd doc dV kV ho hd hcd hD hmg hg args vals as hpre hlay hrd hwl hlo;obtain rfl:dV=.none:=Dflts.none hD hdf;obtain rfl:kV=.none:=Dflts.noKw hD;obtain⟨a,vs,ns,rfl,rfl,hobj,hints,hlen⟩:=lI hn hpre hwl;have hsy:(a == sysModules)=false:=hlo a (by
  cases hrd with
  |cons h1 h2=>cases h1;simp)
 refine enter_call<|codeAny_mono (call w s₀ s₁ mg mb fa o pm cd doc a vs ns G Y ho (fd_plain hd) hcd hmg hobj hints hlen hsy hg) λr s' hq=>?_;obtain⟨rfl,h2,h3,h4⟩:=hq;exact⟨.inl ⟨.bool true,.bool true,[],rfl,λ_=>rfl,.bool true,lJ l _,λ_=>⟨List.Pairwise.nil,λ_ hm=>(nomatch hm)⟩⟩,h2,h3,h4⟩
end Att
namespace L2
open PySem PySem.Spec PyProof.Rows
variable{P:Program}{w:World}{K:Nb}{mg:Str->Option Value}{k:Nat}{fd:FuncData}{x:Str}{l:PySem.W.OpenLaw}{XP:(Str->Option Value)->Heap->Prop}{YP:World->Heap->Prop}{st:Stmt}{f:Addr}{osl:Array (Option Value)}{X:Cx}{scope sc:Scope}{env:Env}{A:Around}{s:Shared}{Q:Env->Shared->Prop}{sa:List (Addr×Obj)}{σ:St}{vars:List Str}{sel:List Nat}{fp:List Addr}{tn:Nat->Heap->Prop}{wi:TI}
def iV:∀{vs:List Value} {ns:List Int},IntsAre vs ns->Vals (ns.map V.int) vs
 |_,_,.nil=>.nil|_,_,.cons n t h=>.cons ⟨t,rfl⟩<|iV h
def qo(H:Hp):Prop:=∀b,H b=none\/∃o xs,H b=some (.frz o<|.lst xs)
theorem nc{mb:Str->Option Value}{CX:mV}{fa a:Addr}{sp:Sp}{s₁:Shared}{vs:List Value}{ns:List Int}
  (KX:K.In s₁.heap) (hns:s₁.heap.Ns mainGlobals mg) (hb:s₁.heap.Ns builtinsNs mb) (hbb:∀x:Str,x≠ "__name__" ->mb x=bootBuiltins x) (hlim:s₁.heap.NoLimit) (hg:s₁.gens = #[])
  (ha:s₁.heap.get? a=some { cls:=.type "list",data:=.seq vs.toArray }) (hi:IntsAre vs ns) (hl:ns.length<=sizeLine) (hsy:(a==sysModules)=false) (hr:Room k callerA)
  (F:∀base:Heap,K.In base->base.Ns mainGlobals mg->gv P w K mg base CX k fa fd [x] sp) (hbind:∀(s:Shared) (u:Value),BindsTo s fd ⟨[u],[]⟩ [(x,u)])
  (hsp:∀H:Hp,qo H->SqL K H a (ns.map V.int)->sp [.ref a] H (λv _=>v=.bl true) λ_ _ _=>False)
  (hCX:∀H e s',CX [] H s₁ (λ_ _ _=>False) e s'->False) :
  codeAny (model P w) callerA (.call (.ref fa) ⟨[.ref a],[]⟩) (λr s'=>r=.ok (.ret<|.bool true)/\OldK s₁.heap s'.heap/\s'.os=s₁.os/\AllBare s'.gens) s₁:=by
 have rv:=iV hi;have lenV:=hi.length
 have core:∀H:Hp,qo H->SqL K H a (ns.map V.int)->HOk P w H s₁.heap->(∀b,H b≠none->b=a)->(H a≠none->K.lookup a=none)->
   codeAny (model P w) callerA (.call (.ref fa) ⟨[.ref a],[]⟩) (λr s'=>r=.ok (.ret<|.bool true)/\OldK s₁.heap s'.heap/\s'.os=s₁.os/\AllBare s'.gens) s₁:=by
  intro H hO hS hok hA hK;have base_of:∀{b:Addr} {o:Obj},s₁.heap.get? b=some o->H b=none->(i8 s₁.heap H).get? b=some o:=λe n=>mF e n;have noA:∀{b:Addr} {o:Obj} {es:Array DictEntry} {ep:Nat},s₁.heap.get? b=some o->o.data=.dict es ep->H b=none:=λ{b o es ep} e d=>by
   cases q:H b with
   |none=>rfl
   |some u=>
    have e':b=a:=hA b (by rw[q];simp);subst e';rw[ha]at e;cases e;have d':Data.seq vs.toArray _=Data.dict es ep:=d;cases d'
  have nsK:∀{b:Addr} {m:Str->Option Value},s₁.heap.Ns b m->(i8 s₁.heap H).Ns b m:=λ{b m} ⟨o,es,ep,e,d,r⟩=>⟨o,es,ep,base_of e<|noA e d,d,r⟩;have hKb:K.In (i8 s₁.heap H):=λb o e=>base_of (KX b o e) (by
   cases q:H b with
   |none=>rfl
   |some u=>
    have e':b=a:=hA b (by rw[q];simp);subst e';rw[hK (by rw[q];simp)]at e;cases e)
  have hM:Mod K mg (i8 s₁.heap H):=⟨hKb,nsK hns,⟨mb,nsK hb,hbb⟩,let⟨mc,h1,h2⟩:=hlim;⟨mc,nsK h1,h2⟩⟩
  have e0:lF P w K mg (i8 s₁.heap H) callerA [] s₁ H:=⟨rfl,hM,λb o e=>pS e,Nat.le_of_eq<|ly _ _,trivial,λb hb=>Nd (show b∈([]:List Addr) from hb)<|by simp,hok,.of_eq hg,λxs q=>Nd (hA sysModules (by rw[q];simp)).symm (beq_eq_false_iff_ne.mp hsy)⟩
  refine codeAny_mono ((F _ hKb<|nsK hns).run callerA [] s₁ H ⟨[.ref a],[]⟩ [.ref a] [.ref a] _ _ hr e0 (hbind s₁<|.ref a) (.cons rfl .nil)<|hsp H hO hS) λr s' h=>?_;cases r with
  |error e=>exact(hCX H e s' h).elim
  |ok fl=>
   cases fl with
   |next=>exact Nr h|brk=>exact Nr h|cont=>exact Nr h
   |ret u=>
    obtain⟨v,H',os,bare,un,hok',r',q⟩:=h;have q':v=.bl true:=q;subst q';obtain rfl:u=Value.bool true:=r';refine⟨rfl,OldK.of_keep λb o e=>?_,os,bare⟩;cases q:H b with
    |none=>exact un.keep b o e q (by intro z;exact Nd (show b∈([]:List Addr) from z)<|by simp) (by simp)
    |some u=>
     rcases hO b with z|⟨ob,xs,z⟩
     .rw[q]at z;cases z
     .have z2:=un.frzs b ob _ z
      obtain⟨e1,_⟩:=hok b _ z;obtain⟨e2,_⟩:=hok' b _ z2;rw[e]at e1;cases e1;exact e2
 cases hk:K.lookup a with
 |some o=>
  have e:=KX a o hk;rw[ha]at e;cases e;refine core (λ_=>none) (λ_=>.inl rfl) (.inr ⟨_,vs.toArray,_,hk,rfl,rfl,rfl,by rw[eu,lenV];exact hl,by simpa using rv⟩) (λb u z=>by have z':(none:Option HO)=some u:=z;cases z') (λb z=>Nd rfl z) λz=>Nd rfl z
 |none=>
  refine core (λb=>if b=a then some (.frz { cls:=.type "list",data:=.seq vs.toArray }<|.lst<|ns.map V.int) else none) (λb=>?_) (.inl<|.inr ⟨{ cls:=.type "list",data:=.seq vs.toArray },oI rfl⟩) (λb u z=>?_) (λb z=>?_) λ_=>hk
  .by_cases hb:b=a
   .exact .inr ⟨_,_,oI hb⟩
   .exact .inl<|ks hb
  .by_cases hb:b=a
   .have z':=(oI hb).symm.trans z
    cases z';subst hb;exact⟨ha,by rw[bG];exact hl,vs,_,rv,ha⟩
   .have z':=(ks hb).symm.trans z
    cases z'
  .by_cases hb:b=a
   .exact hb
   .exact Nd (ks hb) z
theorem walk_of{n:Nat}{q:Program}{loose:List Str}{d:DefRec}{K:Params->Nb}{CX:World->mV}{sp:World->Sp}
  (hn:l.most=some n) (hn2:n<=sizeLine) (hdf:d.params.defaults=[]) (hr:Room k callerA)
  (hY:∀(w:World) (h:Heap),YP w h->(K w.params).In h)
  (F:∀ (w:World) (mg:Str->Option Value) (fa:Addr) (h:Heap),(K w.params).In h->h.Ns mainGlobals mg->mg d.name=some (.ref fa)->
   ∃fd:FuncData,(∀(s:Shared) (u:Value),BindsTo s fd ⟨[u],[]⟩ [(x,u)])/\
    ∀base:Heap,(K w.params).In base->base.Ns mainGlobals mg->gv l.prog w (K w.params) mg base (CX w) k fa fd [x] (sp w))
  (hsp:∀(w:World) (H:Hp) (a:Addr) (ns:List Int),ns.length<=n->qo H->SqL (K w.params) H a (ns.map V.int)->sp w [.ref a] H (λv _=>v=.bl true) λ_ _ _=>False)
  (hCX:∀(w:World) (H:Hp) (s:Shared) (e:Value) (s':Shared),CX w [] H s (λ_ _ _=>False) e s'->False) :
  PySem.W.WalkO q loose XP YP l.row.toRowW d [] (λf vs=>PySem.call f vs):=by
 refine Att.attach_call hn hdf λw s₀ s₁ mg mb fa o pm cd doc a vs ns G Y ho hd hcd hmg hobj hints hlen hsy hg=>?_;have KX:=hY w _ Y;obtain⟨fd,hb,hF⟩:=F w mg fa _ KX G.T.g hmg;exact nc KX G.T.g G.T.b G.T.builtins G.T.nolimit hg hobj hints (gU hlen hn2) hsy hr hF hb (λH hO hS=>hsp w H a ns hlen hO hS) λH e s'=>hCX w H s₁ e s'
def cT(s:Stmt):Arguments:=match s with|.FunctionDef _ a _ _ _ _ _ _ _ _=>a|_=>{ posonlyargs:=[],args:=[],vararg:=none,kwonlyargs:=[],kw_defaults:=[],kwarg:=none,defaults:=[] }
def bR(s:Stmt):List Stmt:=match s with|.FunctionDef _ _ b _ _ _ _ _ _ _=>b|_=>[]
def aK(s:Stmt):Scope:=match s with|.FunctionDef _ _ _ _ _ _ sc _ _ _=>sc|_=>{ kind:=.function,names:=[],isGenerator:=false,isCoroutine:=false }
abbrev Dx:mV:=λ_ _ _ _ _ _=>False
abbrev E0:XK:=λ_ _ _=>False
structure Fun(K:Nb)(x qual:Str)(st:Stmt)(f:Addr)(fd:FuncData):Prop where
 ex:∃(oc:Value) (od:Option Addr) (kV doc pm:Value) (an:Option Addr) (cdv ct:Value) (osl:Array (Option Value)),
  fd=PySem.W.fnOf x qual (cT st) (bR st) (aK st) .none kV doc pm an cdv ct/\K.lookup f=some ⟨oc,od,.func fd,osl⟩/\PySem.W.codeIn K cdv qual=true
 kp:PySem.W.keepIn K (.ref f)=true
section
variable{base:Heap}
theorem Fun.binds{qual:Str}{ps:List Str}(F:Fun K x qual st f fd)
  (h:∀(kV doc pm:Value) (an:Option Addr) (cdv ct:Value) (us:List Value),us.length=ps.length->bindArgs (PySem.W.fnOf x qual (cT st) (bR st) (aK st) .none kV doc pm an cdv ct) ⟨us,[]⟩=pure (ps.zip us)):Binds K fd ps []:=by
 obtain⟨oc,od,kV,doc,pm,an,cdv,ct,osl,rfl,lk,hcd⟩:=F.ex;exact .all<|h kV doc pm an cdv ct
theorem sO{qual:Str}{oc:Value}{od an:Option Addr}{kV doc pm cdv ct:Value}(l:K.lookup f=some ⟨oc,od,.func<|PySem.W.fnOf x qual (cT st) (bR st) (aK st) .none kV doc pm an cdv ct,osl⟩)
  (c:PySem.W.codeIn K cdv qual=true) (k:PySem.W.keepIn K (.ref f)=true):Fun K x qual st f (PySem.W.fnOf x qual (cT st) (bR st) (aK st) .none kV doc pm an cdv ct):=⟨⟨oc,od,kV,doc,pm,an,cdv,ct,osl,rfl,l,c⟩,k⟩
end
def qM:List (Str×NameKind)->Bool
 |[]=>true|(n,_)::r=>!(r.any λy=>y.1==n)&&qM r
def jC(sc outer:Scope):Bool:=
 decide (sc.kind=.function)&&qM sc.names&&sc.names.all λy=>!decide (y.2=.free)||(decide (outer.names.lookup y.1=some .cell)||decide (outer.names.lookup y.1=some .free))
theorem AX{α:Type}:∀{l:List (Str×α)} {n:Str},(l.any λy=>y.1==n)=false->l.lookup n=none
 |[],_,_=>rfl
 |(k,v)::r,n,h=>by
  simp only[xO,Bool.or_eq_false_iff]at h;have e:(n==k)=false:=by have:=h.1;simp only[NN]at this ⊢;exact λz=>this z.symm
  rw[nR,e];exact AX h.2
theorem yt:∀{l:List (Str×NameKind)} {n:Str} {k:NameKind},qM l=true->(n,k)∈l->l.lookup n=some k
 |(m,j)::r,n,k,nd,h=>by
  simp only[qM,dQ,tN]at nd;rcases Yan.mp h with e|h2
  cases e;simp;have hm:n≠m:=by rintro rfl;have:(r.any λy=>y.1==n)=true:=List.any_eq_true.mpr ⟨_,h2,by simp⟩;rw[nd.1]at this;cases this
  rw[nR,beq_eq_false_iff_ne.mpr hm];exact yt nd.2 h2
def c7(cells:List (Str×Addr)):List (Str×NameKind)->List (Str×Addr)->List (Str×Addr)
 |[],acc=>acc|(n,k)::r,acc=>if k==.free then c7 cells r ((n,(cells.lookup n).getD 0)::acc) else c7 cells r acc
theorem vt{cells:List (Str×Addr)}{x:Str}:∀{names:List (Str×NameKind)} {acc:List (Str×Addr)},qM names=true->
  ((names.lookup x=some .free->∃c,(c7 cells names acc).lookup x=some c/\(cells.lookup x).getD 0=c)/\(names.lookup x≠some .free->(c7 cells names acc).lookup x=acc.lookup x))
 |[],acc,_=>⟨λh=>by simp at h,λ_=>rfl⟩
 |(m,k)::r,acc,nd=>by
  simp only[qM,dQ,tN]at nd
  by_cases hm:x=m
  .subst hm
   have hr:r.lookup x=none:=AX nd.1;rw[show List.lookup x ((x,k)::r)=some k by simp];have ih:=@vt cells x r
   by_cases hk:k=.free
   .subst hk
    refine⟨λ_=>⟨_,?_,rfl⟩,λh=>Nd rfl h⟩;show(c7 cells r ((x,_)::acc)).lookup x=_;rw[(ih nd.2).2 (by rw[hr];simp)];simp
   .refine⟨λh=>Nd (Ng h) hk,λ_=>?_⟩
    have:c7 cells ((x,k)::r) acc=c7 cells r acc:=by
     show(if k==.free then _ else _)=_;rw[ks<|by simpa using hk]
    rw[this,(ih nd.2).2 (by rw[hr];simp)]
  .have e:List.lookup x ((m,k)::r)=r.lookup x:=by rw[nR,beq_eq_false_iff_ne.mpr hm]
   rw[e]
   by_cases hk:k=.free
   .subst hk
    have ih:=@vt cells x r ((m,(cells.lookup m).getD 0)::acc) nd.2;have e2:List.lookup x ((m,(cells.lookup m).getD 0)::acc)=acc.lookup x:=by rw[nR,beq_eq_false_iff_ne.mpr hm]
    rw[e2]at ih;exact ih
   .have:c7 cells ((m,k)::r) acc=c7 cells r acc:=by
     show(if k==.free then _ else _)=_;rw[ks<|by simpa using hk]
    rw[this];exact @vt cells x r acc nd.2
theorem AY(h:∀y∈scope.names,y.2=.free->∃c,env.cells.lookup y.1=some c):closureFor scope env=pure (c7 env.cells scope.names []):=by
 have gen:∀ (names:List (Str×NameKind)) (acc:List (Str×Addr)),(∀ y∈names,y.2 = .free->∃ c,env.cells.lookup y.1=some c)->
     (forIn names acc (fun (x:Str×NameKind) (r:List (Str×Addr))=>(if (x.2 == NameKind.free)=true then (do
       let c <-cellOf env x.1
       pure (ForInStep.yield ((x.1,c)::r))) else pure (ForInStep.yield r):Sem (ForInStep<|List<|Str×Addr))))=(pure (c7 env.cells names acc):Sem (List<|Str×Addr)):=by
   intro names
   induction names with
   |nil=>intro acc _;rfl
   |cons y r ih=>
     intro acc hh;obtain⟨n,k⟩:=y;rw[Ad]
     by_cases hk:k=.free
     · subst hk
       obtain⟨c,hc⟩:=hh (n,.free) kP rfl;have hc':env.cells.lookup n=some c:=hc;have e:cellOf env n=pure c:=by unfold cellOf;rw[hc']
       simp only[Nu,if_true,e];have:=ih ((n,c)::acc) λy hy=>hh y<|ip _ hy;have e3:c7 env.cells ((n,.free)::r) acc=c7 env.cells r ((n,c)::acc):=by
         show(if _ then _ else _)=_;rw[hc'];rfl
       rw[e3,<-this];rfl
     · have hb:(k==NameKind.free)=false:=by simpa using hk
       simp only[hb,dD,if_false];have:=ih acc λy hy=>hh y<|ip _ hy;have e3:c7 env.cells ((n,k)::r) acc=c7 env.cells r acc:=by
         show(if _ then _ else _)=_;rw[ks<|by simpa using hk]
       rw[e3,<-this];rfl
 unfold closureFor;have:=gen scope.names [] h;first
  |exact this
  | (show (forIn scope.names [] _ >>= λcs=>pure cs)=_
     refine Eq.trans (congrArg (· >>= λcs=>pure cs) this) rfl)
theorem qN{x:Str}:∀(names:List (Str×NameKind)) (n:Nat) (acc acc':List (Str×Addr)),qM names=true->
  ((names.lookup x=some .cell->(cellsFrom n names acc).lookup x=(cellsFrom n names acc').lookup x)/\(names.lookup x≠some .cell->(cellsFrom n names acc).lookup x=acc.lookup x))
 |[],_,_,_,_=>⟨λh=>by simp at h,λ_=>rfl⟩
 |(m,k)::r,n,acc,acc',nd=>by
  simp only[qM,dQ,tN]at nd
  by_cases hm:x=m
  .subst hm
   have hr:r.lookup x=none:=AX nd.1;rw[show List.lookup x ((x,k)::r)=some k by simp]
   by_cases hk:k=.cell
   .subst hk
    refine⟨λ_=>?_,λh=>Nd rfl h⟩;have a:=(@qN x r (n+1) ((x,n)::acc) acc' nd.2).2 (by rw[hr];simp);have b:=(@qN x r (n+1) ((x,n)::acc') acc' nd.2).2 (by rw[hr];simp);show(cellsFrom (n+1) r ((x,n)::acc)).lookup x=(cellsFrom (n+1) r ((x,n)::acc')).lookup x;rw[a,b];simp
   .refine⟨λh=>Nd (Ng h) hk,λ_=>?_⟩
    have e:cellsFrom n ((x,k)::r) acc=cellsFrom n r acc:=by
     show(if k==.cell then _ else _)=_;rw[ks<|by simpa using hk]
    rw[e,(@qN x r n acc acc' nd.2).2 (by rw[hr];simp)]
  .have e:List.lookup x ((m,k)::r)=r.lookup x:=by rw[nR,beq_eq_false_iff_ne.mpr hm]
   rw[e]
   by_cases hk:k=.cell
   .subst hk
    have ih:=@qN x r (n+1) ((m,n)::acc) ((m,n)::acc') nd.2;have e2:List.lookup x ((m,n)::acc)=acc.lookup x:=by rw[nR,beq_eq_false_iff_ne.mpr hm]
    rw[e2]at ih;exact ih
   .have e3:∀a:List (Str×Addr),cellsFrom n ((m,k)::r) a=cellsFrom n r a:=λa=>by
     show(if k==.cell then _ else _)=_;rw[ks<|by simpa using hk]
    rw[e3,e3];exact @qN x r n acc acc' nd.2
theorem Dy:(relabel sc env).names.lookup x=(sc.names.lookup x).map λk=>if(k==NameKind.free&&env.scope.kind==.function&&env.kindOf x==some .cell)=true then .cell else k:=by
 show List.lookup x (sc.names.map _)=_;generalize sc.names=l;induction l with
 |nil=>rfl|cons y r ih=>obtain⟨m,k⟩:=y;by_cases hx:x=m;subst hx;simp only[cR];by_cases hc:(k==NameKind.free&&env.scope.kind==.function&&env.kindOf x==some .cell)=true;rw[oI hc];simp only[nR,Nu,rD];rw[oI hc];rw[ks hc];simp only[nR,Nu,rD];rw[ks hc];have hb:(x==m)=false:=beq_eq_false_iff_ne.mpr hx;simp only[cR];by_cases hc:(k==NameKind.free&&env.scope.kind==.function&&env.kindOf m==some .cell)=true;rw[oI hc];simp only[nR,hb];exact ih;rw[ks hc];simp only[nR,hb];exact ih
def iW(sc:Scope)(env:Env)(C:Addr):Env:=
 { scope:=relabel sc env,locals:=C,globals:=env.globals,cells:=cellsFrom (C+1) sc.names<|c7 env.cells sc.names [],qual:=env.qual,func:=none,code:=env.code,frame:=env.frame,builtins:=env.builtins }
theorem Dz{M:Model}{E:Value->Shared->Prop}
  (h:Q { scope:=sc,locals:=s.heap.objs.size,globals:=env.globals,cells:=cellsFrom (s.heap.objs.size+1) sc.names<|c7 env.cells sc.names [],qual:=env.qual,func:=none,code:=env.code,frame:=env.frame,builtins:=env.builtins }
   { s with heap:=pushCells (s.heap.push { cls:=.type "dict",data:=.dict #[] }) sc.names }) :
  wpAny M A (newFunctionEnv sc env.globals (c7 env.cells sc.names []) [] env.qual none .none<|some env) Q E s:=by
 simp only[newFunctionEnv,Option.isSome_some,if_true];refine Na<|wpAny_alloc ?_;refine Na<|wpAny_layCells _ (λname kind cells=>by cases hkc:kind==NameKind.cell<;>simp[hkc]) _ _ _ _ ?_;rw[show({ s with heap:=s.heap.push { cls:=.type "dict",data:=.dict #[] } }:Shared).heap.objs.size=s.heap.objs.size+1 from nS ..];exact Na<|Nc (Nc h)
def Cx.lc(X:Cx)(sc:Scope)(vars:List Str)(sel:List Nat)(s:Shared)(H:Hp)(fp:List Addr):Cx where
 prog:=X.prog
 w:=X.w
 K:=X.K
 mg:=X.mg
 base:=X.base
 A:=X.A
 N:=vars++sel.map λj=>X.N.getD j ""
 s₀:=s
 H₀:=H
 env:=iW sc X.env s.heap.objs.size
 outer:=X.stack
 stack:=X.stack
 ex:=fp
 fn:=λx=>decide (sc.names.lookup x=some .cell)
 calm:=X.calm
 pn:=[]
 xe:=λ_ _=>False
def l8(N:List Str)(sc:Scope)(sel:List Nat):Bool:=sel.all λj=>match N[j]? with|some x=>decide (sc.names.lookup x=some .free)|none=>false
def gB(nv:Nat)(sel:List Nat)(σ:St):St:=List.replicate nv none++sel.map λj=>(σ[j]?).getD none
section
variable{H:Hp}
theorem yu(I:Inv X sa σ H s)(ok:jC sc X.env.scope=true):∀y∈sc.names,y.2=.free->∃c,X.env.cells.lookup y.1=some c:=λy hy hk=>by
 simp only[jC,dQ,Ybd,Ae,tN,Nf,decide_eq_false_iff_not]at ok;rcases ok.2 y hy with z|z
 exact Nd hk z;exact I.ok.has y.1 z
theorem DA(I:Inv X sa σ H s)(ok:jC sc X.env.scope=true)(so:l8 X.N sc sel=true)(hf:∀b∈fp,dH X sa H b)(ho:∀b∈fp,∃o,s.heap.get? b=some o)(ha:X.env.scope.kind=.function:=by rfl) :
  Inv (X.lc sc vars sel s H fp) [] (gB vars.length sel σ) H { s with heap:=pushCells (s.heap.push { cls:=.type "dict",data:=.dict #[] }) sc.names }:=by
 have hcl:=yu I ok;have ok':=ok;simp only[jC,dQ,Ybd,Ae,tN,Nf,decide_eq_false_iff_not]at ok';obtain⟨⟨hk,nd⟩,hfree⟩:=ok';have szp:(s.heap.push { cls:=.type "dict",data:=.dict #[] }).objs.size=s.heap.objs.size+1:=nS ..;have keep:∀b o,s.heap.get? b=some o->(pushCells (s.heap.push { cls:=.type "dict",data:=.dict #[] }) sc.names).get? b=some o:=λb o e=>pushCells_keeps _ _ _ _<|dB _ e;have okc:=cellsFrom_ok sc.names (s.heap.push { cls:=.type "dict",data:=.dict #[] }) (s.heap.objs.size+1) [] ⟨λ_ _ hm=>(nomatch hm),List.Pairwise.nil⟩ (by rw[szp];exact cF _);rw[szp]at okc
 have own:∀x,sc.names.lookup x=some .cell->∃c,(iW sc X.env s.heap.objs.size).cells.lookup x=some c/\(x,c)∈cellsFrom (s.heap.objs.size+1) sc.names []:=λx hx=>by
  have e:=(qN sc.names (s.heap.objs.size+1) (c7 X.env.cells sc.names []) [] nd).1 hx;obtain⟨c,hc⟩:=eH (sc:=sc) (n:=s.heap.objs.size+1) hx;exact⟨c,by show(cellsFrom _ _ _).lookup x=_;rw[e];exact hc,Nl hc⟩
 have clo:∀x,sc.names.lookup x=some .free->∃c,(iW sc X.env s.heap.objs.size).cells.lookup x=some c/\X.env.cells.lookup x=some c:=λx hx=>by
  have e:=(qN sc.names (s.heap.objs.size+1) (c7 X.env.cells sc.names []) [] nd).2 (by rw[hx];decide);obtain⟨c,h1,h2⟩:=(@vt X.env.cells x sc.names [] nd).1 hx;obtain⟨c',h3⟩:=hcl (x,.free) (Nl hx) rfl;have h3':X.env.cells.lookup x=some c':=h3;rw[h3']at h2;have h4:c'=c:=h2;subst h4;exact⟨c',by show(cellsFrom _ _ _).lookup x=_;rw[e];exact h1,h3'⟩
 have oth:∀x c,(iW sc X.env s.heap.objs.size).cells.lookup x=some c->sc.names.lookup x=some .cell\/sc.names.lookup x=some .free:=λx c hc=>by
  by_cases h1:sc.names.lookup x=some .cell
  .exact .inl h1
  .by_cases h2:sc.names.lookup x=some .free
   .exact .inr h2
   .have e:=(qN sc.names (s.heap.objs.size+1) (c7 X.env.cells sc.names []) [] nd).2 h1
    have e2:=(@vt X.env.cells x sc.names [] nd).2 h2;have hc':(cellsFrom (s.heap.objs.size+1) sc.names<|c7 X.env.cells sc.names []).lookup x=some c:=hc;rw[e,e2]at hc';simp at hc'
 have ownC:∀x c,(x,c)∈cellsFrom (s.heap.objs.size+1) sc.names []->(pushCells (s.heap.push { cls:=.type "dict",data:=.dict #[] }) sc.names).IsCell c none/\s.heap.objs.size+1<=c:=λx c h=>okc.empty x c h;have cloLt:∀x c,X.env.cells.lookup x=some c->c<s.heap.objs.size:=λx c h=>by
  obtain⟨v,q⟩:=I.cell x c h;exact q.lt
 have noA:∀b∈fp,b<s.heap.objs.size:=λb hb=>by obtain⟨o,e⟩:=ho b hb;exact dm e
 refine ⟨⟨I.ok.mod,hk,I.ok.glob,I.ok.blt,cF _,λx y c h1 h2=>?_,λx hx=>?_,λx c hx h=>?_,I.ok.hd,I.ok.frames,.inl rfl,λb hb=>⟨gK<|noA b hb,λx c h=>?_⟩,I.bs,gU I.ok.bsz I.sz,λb o e hb=>?_,λb hb hq=>?_,I.stack,I.stkFree,I.sysn⟩,
  rfl,I.bare,Un.kept keep,⟨λ_=>none,?_,λi x v h1 h2 h3=>?_⟩,λx c h=>?_,I.hok.fresh<|cF _,λx c h=>?_,λp hp=>Nd (show p∈([]:List (Addr×Obj)) from hp)<|by simp,I.hok.kept keep,?_⟩
 ·-- inj
  replace h1:(iW sc X.env s.heap.objs.size).cells.lookup x=some c:=h1;replace h2:(iW sc X.env s.heap.objs.size).cells.lookup y=some c:=h2;rcases oth x c h1 with k1|k1<;>rcases oth y c h2 with k2|k2
  .obtain⟨c1,e1,m1⟩:=own x k1
   obtain⟨c2,e2,m2⟩:=own y k2;rw[h1]at e1;rw[h2]at e2;cases e1;cases e2;exact name_of_addr okc.apart m1 m2
  .obtain⟨c1,e1,m1⟩:=own x k1
   obtain⟨c2,e2,m2⟩:=clo y k2;rw[h1]at e1;rw[h2]at e2;cases e1;cases e2;exact Nd (da (cloLt y c m2)<|Af (ownC x c m1).2)<|iK _
  .obtain⟨c1,e1,m1⟩:=clo x k1
   obtain⟨c2,e2,m2⟩:=own y k2;rw[h1]at e1;rw[h2]at e2;cases e1;cases e2;exact Nd (da (cloLt x c m1)<|Af (ownC y c m2).2)<|iK _
  .obtain⟨c1,e1,m1⟩:=clo x k1
   obtain⟨c2,e2,m2⟩:=clo y k2;rw[h1]at e1;rw[h2]at e2;cases e1;cases e2;exact I.ok.inj x y c m1 m2
 ·-- has
  have hx':(relabel sc X.env).names.lookup x=some .cell\/(relabel sc X.env).names.lookup x=some .free:=hx;rw[Dy]at hx';cases q:sc.names.lookup x with
  |none=>rw[q]at hx';simp at hx'
  |some k=>
   cases k with
   |cell=>obtain⟨c,e,_⟩:=own x q;exact⟨c,e⟩
   |free=>obtain⟨c,e,_⟩:=clo x q;exact⟨c,e⟩
   | «local»=>rw[q]at hx';simp at hx'|globalExplicit=>rw[q]at hx';simp at hx'|globalImplicit=>rw[q]at hx';simp at hx'
 .have hx':sc.names.lookup x=some .cell:=NB hx
  obtain⟨c1,e1,m1⟩:=own x hx';have h':(iW sc X.env s.heap.objs.size).cells.lookup x=some c:=h;rw[h']at e1;cases e1;have:=(ownC x c m1).2;show s.heap.objs.size<=c;omega
 .rcases oth x c h with k|k
  .obtain⟨c1,e1,m1⟩:=own x k
   rw[show(iW sc X.env s.heap.objs.size).cells.lookup x=some c from h]at e1;cases e1;exact λz=>Nd (da (noA b hb)<|Af (ownC x c m1).2) (by rw[z];exact iK _)
  .obtain⟨c1,e1,m1⟩:=clo x k
   rw[show(iW sc X.env s.heap.objs.size).cells.lookup x=some c from h]at e1;cases e1;exact(hf b hb).2.2.2.2.1 x c m1
 .have q:=(hf b hb).2.2.2.1
  rcases q with q|q
  .exact I.ok.noex b o e q
  .exact Nd (da (dm (I.ok.bs b o e).1) q)<|iK _
 .rcases Yan.mp (I.stkSub b hq) with z|z
  .exact(hf b hb).2.1 z
  .exact(hf b hb).2.2.1 z
 ·-- the names' dict
  refine Heap.Ns.keeps (h:=s.heap.push { cls:=.type "dict",data:=.dict #[] }) ?_<|λb o e=>pushCells_keeps _ _ _ _ e;exact⟨_,#[],_,ia _ rfl,rfl,λe he=>Nd he<|by simp,λ_=>rfl⟩
 ·-- what is seen
  have hi:vars.length<=i:=by
   rcases fS i vars.length with z|z
   .exfalso
    unfold gB at h2;rw[kQ<|by simpa using z,mz]at h2;split at h2<;>cases h2
   .exact z
  unfold gB at h2;rw[jZ<|by simpa using hi,nO,cH]at h2;have h1':(vars++sel.map λj=>X.N.getD j "")[i]? = some x:=h1;rw[jZ hi,cH]at h1';cases q:sel[i-vars.length]? with
  |none=>rw[q]at h2;cases h2
  |some j=>
   rw[q]at h1' h2;have e1:X.N.getD j "" = x:=Ng h1';have e2:(σ[j]?).getD none=some v:=Ng h2;have hj:∃y,X.N[j]? = some y/\sc.names.lookup y=some .free:=by
    have:=Ybd.mp so j<|jy q;cases z:X.N[j]? with
    |none=>rw[z]at this;cases this
    |some y=>rw[z]at this;exact⟨y,rfl,NB this⟩
   obtain⟨y,hy,hyf⟩:=hj;have:y=x:=by
    rw[<-e1,bN,hy];rfl
   subst this;have e3:σ[j]? = some (some v):=by
    cases z:σ[j]? with
    |none=>rw[z]at e2;cases e2
    |some w=>rw[z]at e2;exact congrArg some e2
   obtain⟨c,k1,k2⟩:=clo y hyf;have vis:kU X.env.scope y:=by
    rcases hfree (y,.free) (Nl hyf) with z|z|z
    .exact Nd rfl z
    .exact .inr<|.inl z
    .exact .inr<|.inr z
   obtain⟨m,hn,hl⟩:=I.loc;obtain⟨u,r,l⟩:=hl j y v hy e3 vis;refine⟨u,r,?_⟩;have notloc:X.env.kindOf y≠some .local:=by
    rcases hfree (y,.free) (Nl hyf) with z|z|z
    .exact Nd rfl z
    .show X.env.scope.names.lookup y≠_;rw[z];decide
    .show X.env.scope.names.lookup y≠_;rw[z];decide
   rcases l with⟨z,_⟩|⟨_,c',e',q'⟩
   .exact Nd z notloc
   .rw[k2]at e';cases e'
    have kk:(iW sc X.env s.heap.objs.size).kindOf y=some .cell\/(iW sc X.env s.heap.objs.size).kindOf y=some .free:=by
     show(relabel sc X.env).names.lookup y=_\/(relabel sc X.env).names.lookup y=_;rw[Dy,hyf];simp only[rD];split
     .exact .inl rfl
     .exact .inr rfl
    exact .inr ⟨kk,c,k1,q'.keeps keep⟩
 .rcases oth x c h with k|k
  .obtain⟨c1,e1,m1⟩:=own x k
   rw[show(iW sc X.env s.heap.objs.size).cells.lookup x=some c from h]at e1;cases e1;exact⟨none,(ownC x c m1).1⟩
  .obtain⟨c1,e1,m1⟩:=clo x k
   rw[show(iW sc X.env s.heap.objs.size).cells.lookup x=some c from h]at e1;cases e1;obtain⟨v,q⟩:=I.cell x c m1;exact⟨v,q.keeps keep⟩
 .rcases oth x c h with k|k
  .obtain⟨c1,e1,m1⟩:=own x k
   rw[show(iW sc X.env s.heap.objs.size).cells.lookup x=some c from h]at e1;cases e1;exact I.hok.fresh (by have:=(ownC x c m1).2;omega)
  .obtain⟨c1,e1,m1⟩:=clo x k
   rw[show(iW sc X.env s.heap.objs.size).cells.lookup x=some c from h]at e1;cases e1;exact I.freeC x c m1
 .show(gB vars.length sel σ).length=(vars++sel.map _).length
  unfold gB;simp
end
def PF(X:Cx)(ifs:List Expr)(t:TT):Prop:=
 ∀(sa:List (Addr×Obj)) (s:Shared) (σ:St) (H:Hp) (Q:Bool->Hp->Prop),Inv X sa σ H s->t σ H Q->
  wpAny (model X.prog X.w) X.A (forIn ifs true λc r=>if r=true then do let ok <-isTrue c X.env (eval c X.env);pure (ForInStep.yield ok) else pure (ForInStep.yield r)) (TP X sa σ Q) X.xe s
def vw:TT:=λ_ H Q=>Q true H
def Hn:PF X [] vw:=λ_ _ _ H _ I h=>wpAny_tests_nil ⟨H,I,h⟩
def Ho{c:Expr}{t:TT}(h:PT X c t):PF X [c] t:=λsa s σ H Q I q=>wpAny_tests_one<|h sa s σ H Q I q
def vz(g:TG)(tf:TT)(te:TE)(J:It)(D:Addr)(Q:Hp->Prop)(W:Nat->Nat->List V->St->Hp->Prop):Prop:=
 ∀ i m ys σ2 H2,W i m ys σ2 H2->H2 D=some (.lst ys)/\((J.stop i H2/\Q H2)\/(J.go i H2/\∀ x H3,J.yld i H2 x H3->g x σ2 H3 λσ4 H4=>tf σ4 H4 λb H5=>
  if b=true then te σ4 H5 λv H6=>H6 D=some (.lst ys)/\ys.length<sizeLine/\∃m',m'<m/\W (i+1) m' (ys++[v]) σ4 (upd H6 D<|.lst<|ys++[v]) else∃m',m'<m/\W (i+1) m' ys σ4 H5))
def AZ(wi:TI)(nv:Nat)(sel:List Nat)(g:TG)(tf:TT)(te:TE):TE:=λσ H Q=>wi σ H λJ H1=>∀D,H1 D=none->
 ∃W:Nat->Nat->List V->St->Hp->Prop,(∃m,W 0 m [] (gB nv sel σ)<|upd H1 D<|.lst [])/\vz g tf te J D (Q<|.ref D) W
section
variable{H1:Hp}{s2:Shared}{elt target iter:Expr}{ifs:List Expr}{pos:Pos}{g:TG}{tf:TT}{te:TE}
theorem Hq{prog:Program}{R:Result->Shared->Prop}{it acc:Value}(I:Nat->Shared->Prop)
  (turn:∀ n s,I n s->wpAny (model prog w) A (pyNext it) (λr s₁=>match r with
   |none=>R (.ok .next) s₁
   | some v=>wpAny (model prog w) A (letOwnedTupleGo target it v) (λ_ s₁'=>wpAny (model prog w) A (assign target env v) (λ_ s₂=>
     wpAny (model prog w) A (forIn ifs true λc r=>if r=true then do let ok <- isTrue c env (eval c env);pure (ForInStep.yield ok) else pure (ForInStep.yield r)) (λok s₃=>
      if ok=true then wpAny (model prog w) A (eval elt env) (λx s₄=>
       wpAny (model prog w) A (call (.builtin "list.append") [acc,x]) (λ_ s₅=>∃m,m<n/\I m s₅) (λ_ _=>False) s₄) (λ_ _=>False) s₃
      else∃m,m<n/\I m s₃) (λ_ _=>False) s₂) (λ_ _=>False) s₁') (λ_ _=>False) s₁) (λ_ _=>False) s)
  (n:Nat) (h:I n s) :
  codeAny (model prog w) A (.compLoop (.ListComp elt [⟨target,iter,ifs,0⟩] scope pos) 0 it acc env) R s:=by
 refine codeAny_loop rfl I (λn s hI=>?_) n h;show wpAny _ A ((compTurn (.ListComp elt [⟨target,iter,ifs,0⟩] scope pos) 0 it acc env).onRaise (λx=>do noteFrame x env;theTreesLotGoes x)) _ _ s;refine wpAny_noted ?_;rw[compTurn_list];refine Na<|Nw (Na<|Nk (turn n s hI) (λr s₁ h₁=>?_) λ_ _ h'=>h'.elim);cases r with
 |none=>exact Nc h₁
 |some v=>
  refine Na<|Nk h₁ (λ_ s₁' h₁'=>?_) λ_ _ h'=>h'.elim;refine Na<|Nk h₁' (λ_ s₂ h₂=>Na<|Nk h₂ (λok s₃ h₃=>?_) λ_ _ h'=>h'.elim) λ_ _ h'=>h'.elim;cases ok with
  |false=>exact Nc ⟨rfl,h₃⟩
  |true=>
   exact Na<|Na (Nk h₃ (λx s₄ h₄=>Na<|Nk h₄ (λ_ s₅ h₅=>Nc<|Nc ⟨rfl,h₅⟩) λ_ _ h'=>h'.elim) λ_ _ h'=>h'.elim)
theorem DB{J:It}{it:Addr}{Q:VK}{E:Value->Shared->Prop}{R:Value->Addr->Result->Shared->Prop}(hc:X.calm=true)
  (hg:∀s H fp,PG (X.lc sc vars sel s H fp) target g) (hf:∀s H fp,PF (X.lc sc vars sel s H fp) ifs tf) (he:∀s H fp,PE (X.lc sc vars sel s H fp) elt te)
  (ok:jC sc X.env.scope=true) (so:l8 X.N sc sel=true)
  (I2:Inv X sa σ H1 s2) (T:jd X.prog X.w X.K target J fp it tn) (st2:tn 0 s2.heap) (f2:∀b∈fp,dH X sa H1 b)
  (q:∀D,H1 D=none->∃W:Nat->Nat->List V->St->Hp->Prop,(∃m,W 0 m [] (gB vars.length sel σ)<|upd H1 D<|.lst [])/\vz g tf te J D (Q<|.ref D) W)
  (hR:∀D C H' s',Inv X sa σ H' s'->Q (.ref D) H'->(∃m,s'.heap.Ns C m)->dH X sa H' C->R (.ref D) C (.ok .next) s') :
  wpAny (model X.prog X.w) X.A (newList []) (λacc s₃=>wpAny (model X.prog X.w) X.A (newFunctionEnv sc X.env.globals (c7 X.env.cells sc.names []) [] X.env.qual none .none<|some X.env) (λcenv s₄=>
   codeAny (model X.prog X.w) X.A (.compStart (.ListComp elt [⟨target,iter,ifs,0⟩] sc pos) 0 (.ref it) acc { cenv with scope:=relabel sc X.env }) (R acc cenv.locals) s₄) E s₃) E s2:=by
 refine Nq ?_;have hD0:H1 s2.heap.objs.size=none:=I2.hok.fresh<|cF _;obtain⟨W,⟨m0,w0⟩,turn⟩:=q _ hD0;have I3:Inv X sa σ (upd H1 s2.heap.objs.size<|.lst []) { s2 with heap:=s2.heap.push { cls:=.type "list",data:=.seq ([]:List Value).toArray },toks:=s2.toks }:=I2.lnew (ys:=[]) .nil<|iq _;have ho2:∀b∈fp,∃o,s2.heap.get? b=some o/\∀v,o.data≠.cell v:=T.obj _ _ st2;have lt2:∀b∈fp,b<s2.heap.objs.size:=λb hb=>by obtain⟨o,e,_⟩:=ho2 b hb;exact dm e
 have f3:∀b∈fp,dH X sa (upd H1 s2.heap.objs.size<|.lst []) b:=λb hb=>⟨by rw[aI<|gK<|lt2 b hb];exact(f2 b hb).1,(f2 b hb).2⟩;have ho3:∀b∈fp,∃o,(s2.heap.push { cls:=.type "list",data:=.seq ([]:List Value).toArray }).get? b=some o:=λb hb=>by obtain⟨o,e,_⟩:=ho2 b hb;exact⟨o,dB _ e⟩
 refine Dz (s:={ s2 with heap:=s2.heap.push { cls:=.type "list",data:=.seq ([]:List Value).toArray },toks:=s2.toks }) ?_;generalize hs3:({ s2 with heap:=s2.heap.push { cls:=.type "list",data:=.seq ([]:List Value).toArray },toks:=s2.toks }:Shared)=s3 at I3 ⊢;have kp23:∀b o,s2.heap.get? b=some o->s3.heap.get? b=some o:=λb o e=>by rw[<-hs3];exact dB _ e
 have sz3:s3.heap.objs.size=s2.heap.objs.size+1:=by rw[<-hs3];exact nS ..
 have os3:s3.os=s2.os:=by rw[<-hs3]
 have ho3':∀b∈fp,∃o,s3.heap.get? b=some o:=λb hb=>by rw[<-hs3];exact ho3 b hb
 have I4:=DA (vars:=vars) I3 ok so f3 ho3' I2.ok.kind;have kp4:∀b o,s3.heap.get? b=some o->(pushCells (s3.heap.push { cls:=.type "dict",data:=.dict #[] }) sc.names).get? b=some o:=λb o e=>pushCells_keeps _ _ _ _<|dB _ e;have st4:tn 0 (pushCells (s3.heap.push { cls:=.type "dict",data:=.dict #[] }) sc.names):=T.keep _ _ _ st2 λb hb o e=>kp4 b o<|kp23 b o e
 have stat:∀{H':Hp},(∀b∈fp,H' b=none)->∀b∈fp,dH (X.lc sc vars sel s3 (upd H1 s2.heap.objs.size<|.lst []) fp) [] H' b:=λ{H'} hn b hb=>by
  refine⟨hn b hb,(I4.ok.exf b hb).1,I4.ok.exfs b hb,.inl hb,λx c e z=>(I4.ok.exf b hb).2 x c e z,λp hp=>Nd (show p∈([]:List (Addr×Obj)) from hp)<|by simp⟩
 have loop:codeAny (model X.prog X.w) X.A (.compLoop (.ListComp elt [⟨target,iter,ifs,0⟩] sc pos) 0 (.ref it) (.ref s2.heap.objs.size)<|iW sc X.env s3.heap.objs.size)
   (R (.ref s2.heap.objs.size) s3.heap.objs.size) { s3 with heap:=pushCells (s3.heap.push { cls:=.type "dict",data:=.dict #[] }) sc.names }:=by
  refine Hq (λn s'=>∃i ys σ' H',Inv (X.lc sc vars sel s3 (upd H1 s2.heap.objs.size<|.lst []) fp) [] σ' H' s'/\tn i s'.heap/\(∀b∈fp,H' b=none)/\W i n ys σ' H') ?_ m0
   ⟨0,[],_,_,I4,st4,λb hb=>(f3 b hb).1,w0⟩
  rintro n s5 ⟨i,ys,σ5,H5,I5,st5,fr5,w5⟩;obtain⟨hD,⟨stop,qn⟩|⟨go,step⟩⟩:=turn i n ys σ5 H5 w5
  .refine bC (T.done (X.lc sc vars sel s3 (upd H1 s2.heap.objs.size<|.lst []) fp) rfl rfl rfl hc i [] s5 σ5 H5 _ I5 (stat fr5) st5 stop) λr s6 ⟨hr,I6⟩=>?_
   subst hr;have un:Un (dc X.stack) fp H1 H5 s2.heap s6.heap:=by
    have a:Un (dc X.stack) fp H1 (upd H1 s2.heap.objs.size<|.lst []) s2.heap s3.heap:=Un.laid kp23 (cF _) hD0;exact a.trans I6.base
   have I7:Inv X sa σ H5 s6:=I2.call' (ch:=fp) (I6.os.trans os3) un I6.hok I6.bare λb hb=>⟨(f2 b hb).2.2.2.1,(f2 b hb).2.1,(f2 b hb).2.2.2.2.1,(f2 b hb).2.2.2.2.2⟩;refine hR _ _ H5 s6 I7 qn ?_ ?_
   .obtain⟨m,hn,_⟩:=I6.loc
    exact⟨m,hn⟩
   .exact I3.fpOk (cF _) I6.free
  .refine bC (T.item (X.lc sc vars sel s3 (upd H1 s2.heap.objs.size<|.lst []) fp) rfl rfl rfl hc i [] s5 σ5 H5 _ I5 (stat fr5) st5 go) λr s6 ⟨u,hr,h6⟩=>?_
   subst hr;refine bC h6 λ_ s7 ⟨x,H7,I7,r7,y7,st7,fr7⟩=>?_;have I7':=I7.pinned (stat fr7)<|T.obj _ _ st7;refine bC (hg _ _ _ _ s7 σ5 H7 x u _ I7' r7<|step x H7 y7) λ_ s8 ⟨σ8,H8,I8,q8⟩=>?_;refine bC (hf _ _ _ _ s8 σ8 H8 _ I8 q8) λb s9 ⟨H9,I9,q9⟩=>?_;have back:∀{σ':St} {H':Hp} {s':Shared},Inv (X.lc sc vars sel s3 (upd H1 s2.heap.objs.size<|.lst []) fp) ([]++eF fp s7.heap) σ' H' s'->tn (i+1) s'.heap/\∀b∈fp,H' b=none:=λ{σ' H' s'} I'=>by
    refine⟨T.keep _ _ _ st7 λb hb o e=>(I'.pin (b,o)<|iM _<|iM _<|cC hb e).1,λb hb=>?_⟩;obtain⟨o,e,d⟩:=T.obj _ _ st7 b hb;exact(I'.pin (b,o)<|iM _<|iM _<|cC hb e).2.1
   cases b with
   |false=>
    rw[ks<|by decide]at q9 ⊢;obtain⟨m',hm,w9⟩:=q9;exact⟨m',hm,i+1,ys,σ8,H9,I9.unpinned,(back I9).1,(back I9).2,w9⟩
   |true=>
    rw[oI rfl]at q9 ⊢;refine bC (he _ _ _ _ s9 σ8 H9 _ I9 q9) λv sA ⟨y,HA,IA,rA,hDA,hz,m',hm,wA⟩=>?_;obtain⟨z,its,nn,rr,hl,e⟩:=IA.lstM hDA;refine call_meets F.slot_list_append ⟨_,e,rfl⟩ F.entry_list_append (F.args_list_append_2 _ _) (PySem.list_append _ its.toArray nn v (by rw[eu];omega)) ⟨e,?_⟩;have IB:=IA.lset (its':=its++[v]) (f:=(·.push v)) (t':=sA.toks) hDA e (by simp) (rr.append<|.cons rA .nil) (by rw[dG,j9];omega);exact⟨m',hm,i+1,ys++[y],σ8,_,IB.unpinned,(back IB).1,(back IB).2,wA⟩
 exact codeAny_compStart_list loop<|T.self _ 0 _ _ _ st4 loop
theorem DC(vars:List Str)(sel:List Nat)(hc:X.calm=true)(hi:PI X target iter wi)
  (ok:jC sc X.env.scope=true) (so:l8 X.N sc sel=true)
  (hg:∀s H fp,PG (X.lc sc vars sel s H fp) target g) (hf:∀s H fp,PF (X.lc sc vars sel s H fp) ifs tf) (he:∀s H fp,PE (X.lc sc vars sel s H fp) elt te)
  (hs:∀x,foldedSetIterable iter X.env x=pure x:=by intro _;rfl):PE X (.ListComp elt [⟨target,iter,ifs,0⟩] sc pos) (AZ wi vars.length sel g tf te):=by
 intro sa s σ H Q I h;rw[eval_ListComp];have ok':=ok;simp only[jC,dQ,Nf]at ok';refine NI (use:=none) rfl hs (AY<|yu I ok) ok'.1.1 (λx hx hl=>?_) ?_
 .obtain⟨n,k⟩:=x
  have hl':k=.local:=hl;subst hl';exact yt ok'.1.2 hx
 .refine bC (hi sa s σ H _ I h) λv s1 h1=>bC h1 λitv s2 h2=>?_
  obtain⟨it,fp,tn,J,H2,e,I2,T,st2,f2,q⟩:=h2;subst e;refine DB (Q:=Q) hc hg hf he ok so I2 T st2 f2 q λD C H' s' I' q' hn fC=>?_;obtain⟨m,hn⟩:=hn;refine⟨m,hn,λh' hs'=>?_⟩;obtain⟨f0,f1,f2,f3,f4,f5⟩:=fC;exact⟨.ref D,H',I'.turned (t':=s'.toks) (λb o hb e=>(hs'.2 b hb).trans e) f0 f1 f3 f4 f5,rfl,q'⟩
theorem A0{i:Nat}{pos' spos:Pos}(vars:List Str)(sel:List Nat)(hc:X.calm=true)(hN:X.N.Nodup)(hix:X.N[i]? = some x)(hx:kf X.env.scope x)(hi:PI X target iter wi)
  (ok:jC sc X.env.scope=true) (so:l8 X.N sc sel=true)
  (hg:∀s H fp,PG (X.lc sc vars sel s H fp) target g) (hf:∀s H fp,PF (X.lc sc vars sel s H fp) ifs tf) (he:∀s H fp,PE (X.lc sc vars sel s H fp) elt te)
  (hsw:swapsWith (.ListComp elt [⟨target,iter,ifs,0⟩] sc pos) (some<|.Name x pos') spos.line X.env=pure true)
  (hs:∀x,foldedSetIterable iter X.env x=pure x:=by intro _;rfl) (hfn:X.fn x=true\/X.env.scope.names.lookup x=some .local:=by first|exact .inl rfl|exact .inr rfl|assumption) :
  PS X (.Assign [.Name x pos'] (.ListComp elt [⟨target,iter,ifs,0⟩] sc pos) spos) (si (AZ wi vars.length sel g tf te)<|kW i):=by
 intro sa s σ H D I h;rw[exec_Assign_Name_used _ _ _ _ hsw];refine Na<|Nw (Na ?_);show wpAny _ X.A (do let _ <-comprehension (.ListComp elt [⟨target,iter,ifs,0⟩] sc pos) sc X.env _ (newList []) false (eval iter X.env) (some<|assign (.Name x pos') X.env)) _ _ s;have ok':=ok;simp only[jC,dQ,Nf]at ok';refine Na<|Nk (NI (use:=some<|assign (.Name x pos') X.env) (Q:=λ_ s'=>SP X sa D .next s') rfl hs (AY<|yu I ok) ok'.1.1 (λx hx hl=>?_) ?_) (λ_ s' q=>Nc<|Nc q) λ_ _ e=>e
 .obtain⟨n,k⟩:=x
  have hl':k=.local:=hl;subst hl';exact yt ok'.1.2 hx
 .refine bC (hi sa s σ H _ I h) λv s1 h1=>bC h1 λitv s2 h2=>?_
  obtain⟨it,fp,tn,J,H2,e,I2,T,st2,f2,q⟩:=h2;subst e;refine DB (Q:=λv H'=>kW i v σ H' D.nx) hc hg hf he ok so I2 T st2 f2 q λD' C H' s' I' q' hn fC=>?_;obtain⟨m,hn⟩:=hn;obtain⟨f0,f1,f2,f3,f4,f5⟩:=id fC;refine wpAny_assign_Name<|fT I' hN hix hx (v:=.ref D') rfl (λs'' I'' ⟨a,sb,ha⟩=>?_) hfn;have hCa:C≠a:=by
   rcases ha with z|z
   .rw[z];exact f1
   .exact Nm<|f4 x a z
  refine⟨m,hn.sameBut sb hCa,λh' hs'=>?_⟩;exact⟨_,H',I''.turned (t':=s''.toks) (λb o hb e=>(hs'.2 b hb).trans e) f0 f1 f3 f4 f5,q'⟩
end
end L2
namespace HT
open PySem PySem.Spec PyProof.Rows
section
variable{prog:Program}{w:World}{A:Around}{E:Value->Shared->Prop}{s:Shared}
theorem getItem_tuple_whole{t sl:Addr}{items:Array Value}{vl vu:Value}{lo hi:Option Int}{Q:Value->Shared->Prop}(ht:IsTup s.heap t items)(hs:s.heap.IsSliceOf sl vl vu .none)(pl:IsPart vl lo)(pu:IsPart vu hi)
  (hw:sIx items.size 0 lo=0/\sIx items.size items.size hi=items.size) (h:Q (.ref t) s):wpAny (model prog w) A (getItem (.ref t)<|.ref sl) Q E s:=by
 obtain⟨os,hos,hcs,hds⟩:=id hs;have hTs:s.TypeIs (.ref sl) "slice" :=⟨os,hos,hcs⟩
 unfold getItem
 try with_reducible refine NC ?_
 first|refine Na (Nc ?_)|skip
 refine Na<|wpAny_sequenceKey ht.typeIs (by decide) ?_;refine Na (wpAny_callSpecial?_slot (name:=Str.ofString "__getitem__") ht.typeIs PyProof.Rows.slot_tuple_getitem
  (Nx PyProof.Rows.slot_tuple_getitem ht.typeIs entry_tuple_getitem ?_<|args_tuple_getitem _ _))
 show wpAny _ _ (Builtin.Tuple.tupleItemsOf (.ref t) >>= _) _ _ s;refine Na<|tupleItemsOf_ ht ?_;refine Na<|wpAny_typeOf hTs ?_;rw[oI<|by decide];refine Na<|dM hs pl pu ?_;have hyes:(((sIx items.size 0 lo:Nat):Int)==0&&(1:Int)==1&&(sIx items.size items.size hi-sIx items.size 0 lo)==items.size)=true:=by
  rw[hw.1,hw.2];simp
 show wpAny _ _ (if(((sIx items.size 0 lo:Nat):Int)==0&&(1:Int)==1&&(sIx items.size items.size hi-sIx items.size 0 lo)==items.size)=true then _ else _) _ _ s;rw[oI hyes];have ex:Builtin.Tuple.tupleIsExact (.ref t)=(do return(<-typeOf (.ref t))==.type "tuple"):=rfl;rw[ex];refine Na<|Na (wpAny_typeOf ht.typeIs<|Nc ?_);rw[oI<|by decide]
 first
  |exact Na<|ND (Na<|Nc<|Nc ⟨_,rfl,Nc h⟩)
  |exact Na<|ND (Nc ⟨_,rfl,Nc h⟩)
  |exact Na<|ND (Na<|Nc ⟨_,rfl,Nc h⟩)
theorem Hr{sl:Addr}{tk:Tok}{n:Nat}{Q:Int×Int×Nat->Shared->Prop}(hs:s.heap.IsSliceOf sl .none .none (.int (-1) tk))
  (h:Q ((n:Int)-1,-1,n) s):wpAny (model prog w) A (Builtin.Slice.sliceApplied (.ref sl)<|pure (n:Int)) Q E s:=by
 obtain⟨os,hos,hcs,hds⟩:=id hs;unfold Builtin.Slice.sliceApplied Builtin.Slice.sliceFields;refine Na<|Na (Nn hos hds (x:=.none) rfl<|Na<|Nn hos hds (x:=.none) rfl<|Na<|Nn hos hds (x:=.int (-1) tk) rfl<|Nc ?_);refine Na<|slicePart_int ?_;show wpAny _ _ (if((-1:Int)==0)=true then _ else _) _ _ s;rw[ks<|by decide];refine Na<|slicePart_none (Na<|slicePart_none<|Na<|Nc ?_);show wpAny _ _ (match Builtin.Slice.sliceAdjust none none (-1) (n:Int) with|(lo,hi)=>pure (lo,(-1:Int),Builtin.Slice.slicePlaces lo hi (-1))) _ _ s;have e:Builtin.Slice.sliceAdjust none none (-1) (n:Int)=((n:Int)-1,-1):=by
  unfold Builtin.Slice.sliceAdjust;simp
 rw[e];have e2:Builtin.Slice.slicePlaces ((n:Int)-1) (-1) (-1)=n:=by
  unfold Builtin.Slice.slicePlaces;simp
  try omega
 show wpAny _ _ (pure ((n:Int)-1,(-1:Int),Builtin.Slice.slicePlaces ((n:Int)-1) (-1) (-1))) _ _ s;rw[e2];exact Nc h
theorem pick_rev(xs:Array Value):((List.range xs.size).filterMap λ(m:Nat)=>xs[((xs.size:Int)-1+(m:Int)*(-1)).toNat]?)=xs.toList.reverse:=by
 refine qC λi=>?_;have gen:∀(l:List Nat),(∀m∈l,m<xs.size)->(l.filterMap λ(m:Nat)=>xs[((xs.size:Int)-1+(m:Int)*(-1)).toNat]?)=l.map λm=>xs.toList.getD (xs.size-1-m) .none:=by
  intro l;induction l with
  |nil=>intro _;rfl
  |cons m r ih=>
   intro hm;have h1:m<xs.size:=hm m kP;have h2:((xs.size:Int)-1+(m:Int)*(-1)).toNat=xs.size-1-m:=by omega
   have h3:xs.size-1-m<xs.size:=by omega
   rw[xJ,h2,Array.getElem?_eq_getElem h3,cR,ih λk hk=>hm k<|ip _ hk];simp[bN,h3]
 rw[gen _ λm hm=>Yah.mp hm];by_cases hi:i<xs.size;rw[cH,jM hi,List.getElem?_reverse<|by simpa using hi];simp[bN];rw[Array.getElem?_eq_getElem<|by omega];simp;rw[eD (by simp;omega),eD (by simp;omega)]
theorem getItem_tuple_rev{t sl:Addr}{items:Array Value}{tk:Tok}{Q:Value->Shared->Prop}(ht:IsTup s.heap t items)(hs:s.heap.IsSliceOf sl .none .none (.int (-1) tk))(hsz:items.size<=sizeLine)
  (h:Q (.ref s.heap.objs.size) { s with heap:=s.heap.push { cls:=.type "tuple",data:=.seq items.toList.reverse.toArray } }):wpAny (model prog w) A (getItem (.ref t)<|.ref sl) Q E s:=by
 have htake:sizeOk (.seq items.toList.reverse.toArray):=by
  show items.toList.reverse.toArray.size<=sizeLine;simpa using hsz
 obtain⟨os,hos,hcs,hds⟩:=id hs;have hTs:s.TypeIs (.ref sl) "slice" :=⟨os,hos,hcs⟩
 unfold getItem
 try with_reducible refine NC ?_
 first|refine Na (Nc ?_)|skip
 refine Na<|wpAny_sequenceKey ht.typeIs (by decide) ?_;refine Na (wpAny_callSpecial?_slot (name:=Str.ofString "__getitem__") ht.typeIs PyProof.Rows.slot_tuple_getitem
  (Nx PyProof.Rows.slot_tuple_getitem ht.typeIs entry_tuple_getitem ?_<|args_tuple_getitem _ _))
 show wpAny _ _ (Builtin.Tuple.tupleItemsOf (.ref t) >>= _) _ _ s;refine Na<|tupleItemsOf_ ht ?_;refine Na<|wpAny_typeOf hTs ?_;rw[oI<|by decide];refine Na<|Hr hs ?_;show wpAny _ _ (if((((items.size:Int)-1)==0&&(-1:Int)==1&&items.size==items.size)=true) then _ else _) _ _ s;rw[ks<|by simp,pick_rev]
 first
  |exact Na (m:=Builtin.Tuple.tupleExact _)<|Nq (Nc ⟨_,rfl,Nc h⟩) htake
  |exact Na (m:=Builtin.Tuple.tupleExact _)<|Nq (Na<|Nc<|Nc ⟨_,rfl,Nc h⟩) htake
  |exact Na<|Na (m:=Builtin.Tuple.tupleExact _) (Nq (Nc<|Nc ⟨_,rfl,Nc h⟩) htake)
  |exact Na<|Na (m:=Builtin.Tuple.tupleExact _) (Nq (Nc ⟨_,rfl,Nc h⟩) htake)
end
end HT
namespace L2
open PySem PySem.Spec PyProof.Rows
variable{X:Cx}{e tg elt:Expr}{te:TE}{pos p:Pos}{xs vs:Array Value}{us bm bmB sub:List Value}{A:Around}{s:Shared}{P prog:Program}{env:Env}{outer:List Env}{l b fI a f it:Addr}{Q:Value->Shared->Prop}{oe:Obj}{h h':Heap}{w:World}{g:Array GenState}{d:Drawn}{t t' i n1 k:Nat}{os:OsState}{nm q x qual:Str}{N sn ns ps vars:List Str}{hdct ab κ κ':Bool}{col:Option Bool}{dd:Option Addr}{newId:String}{mN m mg:Str->Option Value}{H H1:Hp}{K:Nb}{scope sc:Scope}{cd:Value}{sa:List (Addr×Obj)}{σ:St}{ys:List V}{es f2 ifs:List Expr}{ta:TA}{EX:XK}{fd:FuncData}{tk:Tok}{sel:List Nat}{wi2:TI}{J:It}{fp:List Addr}{tn:Nat->Heap->Prop}
section
variable{p2:Pos}
def vA(K:Nb):V->Option Int->Option Int->Hp->VK->Prop:=λx lo hi H Q=>∃a xs,x=.ref a/\SqT K H a xs/\
 (HT.sIx xs.length 0 lo=0/\HT.sIx xs.length xs.length hi=xs.length)/\Q (.ref a) H
theorem Hs:SlR X (vA X.K):=by
 intro sa s σ H x v vl vu lo hi sl Q I rx hs pl pu h;obtain⟨a,xs,rfl,hx,hw,q⟩:=h;cases rx;obtain⟨its,r,ht,hz⟩:=I.tuple hx;have hlen:its.toArray.size=xs.length:=by rw[eu];exact r.length.symm
 refine⟨"tuple",_,PyProof.Rows.slot_tuple_getitem.lookup,ht.typeIs,?_⟩;exact HT.getItem_tuple_whole ht hs pl pu (by rw[hlen];exact hw) ⟨.ref a,H,I,rfl,q⟩
def A1(r:V->Hp->VK->Prop)(te:TE):TE:=λσ H Q=>te σ H λx H1=>r x H1 Q
def A2(K:Nb):V->Hp->VK->Prop:=λx H Q=>∃a xs,x=.ref a/\((SqT K H a xs/\∀p,H p=none->Q (.ref p) (upd H p<|.tup xs.reverse))\/(SqL K H a xs/\∀p,H p=none->Q (.ref p) (upd H p<|.lst xs.reverse)))
theorem Vals.rev{xs:List V}(r:Vals xs us):Vals xs.reverse us.reverse:=by
 induction xs generalizing us with
 |nil=>cases r;exact .nil
 |cons x xs ih=>cases r with|cons r t=>rw[xP,xP];exact(ih t).append<|.cons r .nil
theorem Ht(its:List Value):slicePick its.toArray none none (some (-1))=its.reverse.toArray:=by
 have e:slicePick its.toArray none none (some (-1))=((sliceRange ((its.length:Int)-1) (-1) (-1)).filterMap (its.toArray[·]?)).toArray:=by unfold slicePick sliceBounds;simp
 rw[e];congr 1;have h:=HT.pick_rev its.toArray;rw[eu]at h;have h':its.toArray.toList.reverse=its.reverse:=by simp
 rw[h']at h;rw[<-h];unfold sliceRange;simp only[show¬((-1:Int)>0) by decide,if_false];have hn:(if(-1:Int)<(its.length:Int)-1 then(its.length:Int) else 0).toNat=its.length:=by split<;>omega
 simp;rw[hn];rfl
theorem Hu{j pos3 pos4}(he:PE X e te):PE X (.Subscript e (.Slice none none (some<|.UnaryOp .USub (.Constant (.int 1) j pos3) pos4) p2) pos) (A1 (A2 X.K) te):=by
 intro sa s σ H Q I h;refine Subscript_<|bC (he sa s σ H _ I h) λv s1 ⟨x,H1,I1,r1,a,xs,ex,q1⟩=>?_;subst ex;cases r1;refine wpAny_Slice ?_;rw[evalPart_none];refine Nc<|Nc ?_;rw[evalPart_some];refine bC (qI (mO (X:=X)) kj sa s1 σ H1 (λx H'=>x=.int (-1)/\H'=H1) I1 ⟨1,rfl,rfl,rfl⟩) λu s3 ⟨y,H3,I3,r3,e3,e4⟩=>?_;subst e3;obtain rfl:=e4.symm;obtain⟨tk,rfl⟩:=r3;have I4:Inv X sa σ H1 { s3 with heap:=s3.heap.push { cls:=.type "slice",data:=.fields #[.none,.none,.int (-1) tk] } }:=I3.kept (t':=s3.toks) λb ob q=>dB _ q;show wpAny (model X.prog X.w) X.A (subscriptTail e (.Slice none none (some<|.UnaryOp .USub (.Constant (.int 1) j pos3) pos4) p2) (.ref a)<|.ref s3.heap.objs.size) (EP X sa σ Q) X.xe { s3 with heap:=s3.heap.push { cls:=.type "slice",data:=.fields #[.none,.none,.int (-1) tk] } };rcases q1 with⟨hx,q1⟩|⟨hx,q1⟩
 obtain⟨its,r,ht,hz⟩:=I4.tuple hx;have hlen:=r.length;refine tail_any (ops:=[.ref a,.ref s3.heap.objs.size]) ht.typeIs PyProof.Rows.slot_tuple_getitem.lookup (HT.getItem_tuple_rev ht (Heap.IsSliceOf.new ..) (by rw[eu];omega) ?_) (by with_unfolding_all rfl);refine⟨.ref _,_,I4.laid (t':=s3.toks) (o:=.tup xs.reverse) (λb ob q=>dB _ q) (cF _) ?_,rfl,q1 _<|I4.hok.fresh<|cF _⟩;exact⟨by rw[uK];exact hz,_,r.rev,IsTup.new _ _⟩;obtain⟨its,r,ht,hz⟩:=I4.list hx;have hlen:=r.length;refine tail_any (ops:=[.ref a,.ref s3.heap.objs.size]) ht.isList.typeIs slot_list_getitem.lookup (wpAny_getItem_list_slice ht.isList (Heap.IsSliceOf.new ..) .none .none (.int (-1) tk) (by simp) ?_ (by rw[eu];omega)) (by with_unfolding_all rfl);rw[Ht];refine⟨.ref _,_,I4.laid (t':=s3.toks) (o:=.lst xs.reverse) (λb ob q=>dB _ q) (cF _) ?_,rfl,q1 _<|I4.hok.fresh<|cF _⟩;exact⟨by rw[uK];exact hz,_,0,r.rev,ia _ rfl⟩
end
namespace Fl
def lK(P:Obj->Prop):Prop:=∀(o:Obj) f,P o->P (o.mapFields f)
theorem Hv(o:Obj)(f:Array Value->Array Value):(o.mapFields f).dict=o.dict:=by unfold Obj.mapFields;split<;>rfl
def Is(cls:Value)(dx:Option Addr)(o:Obj):Prop:=o.cls=cls/\o.dict=dx
def Is.firm{cls:Value}{dx:Option Addr}:lK (Is cls dx):=λo f h=>⟨(Obj.cls_mapFields o f).trans h.1,(Hv o f).trans h.2⟩
def Tr(P:Obj->Prop)(base:Heap)(e:Addr)(fl:Value)(h:Heap):Prop:=
 ∃(oe:Obj) (vs:Array Value) (T:Addr) (oT:Obj) (ts:Array Value),h.get? e=some oe/\P oe/\oe.data=.fields vs/\vs[1]? = some (.ref T)/\base.get? T=none/\T≠e/\h.get? T=some oT/\oT.data=.fields ts/\ts[3]? = some fl
structure Up(P:Obj->Prop)(base:Heap)(l:List Env)(e:Addr)(fl:Value)(h:Heap):Prop where
 st:base.StaysIn h
 new:base.get? e=none
 fr:h.FunFrames base l
 tr:Tr P base e fl h
section
variable{M:Model}{E:Value->Shared->Prop}{P:Obj->Prop}{base:Heap}{l:List Env}{L e:Addr}{fl:Value}{Q:Unit->Shared->Prop}
theorem qO(hP:lK P){head:Value}{b:Bool}(hA:A.frames=some (env::outer))(hl:s.heap.FunFrames base (env::outer))(hf:env.frame=some L)(he:s.heap.get? e=some oe)(hp:P oe)
  (st:base.StaysIn s.heap) (new:base.get? e=none) (hd:oe.data=.fields vs) (hz:1<vs.size) (k:∀h',Up P base (env::outer) e (rawInt L) h'->s.heap.UpToSlots h'->Q () { s with heap:=h' }) :
  wpAny M A (do let a <-frameOf env;let pl <-entryPlaceOf L b;let c <-EntryCells.newEntry head a .none (rawInt L) .none pl;setField (.ref e) 1 c) Q E s:=by
 have out:e∉(env::outer).filterMap (·.frame):=λz=>by
  obtain⟨_,o,ho,nf⟩:=hl.mem z;cases he.symm.trans ho;exact nf vs hd
 refine Na<|wpAny_frameOf_fun hA hl hf λh1 so=>?_;refine Na<|wpAny_entryPlaceOf λpl place=>?_;unfold EntryCells.newEntry newFields;refine Na<|Nq ?_ (place.sizeOk5 _ _ _ _ _);generalize ho:({ cls:=.type "traceback",dict:=none,data:=.fields ([head,.ref L,.none,rawInt L,.none]++(if pl.isEmpty then List.replicate 6 Value.none else pl)).toArray }:Obj)=ob;have e1:h1.get? e=some oe:=(so.2.1 e out).trans he;have ne:h1.objs.size≠e:=xL<|dm e1;have e2:(h1.push ob).get? e=some oe:=dB ob e1;have fr0:ob.isFreed=false:=by rw[<-ho];exact Obj.isFreed_of_fields rfl
 refine NJ e2 hd hz<|k _ ?_ ?_
 .have e3:=xN (Obj.mapFields (·.setIfInBounds 1 (Value.ref h1.objs.size))) e2 (Obj.isFreed_of_fields<|Obj.data_mapFields hd _)
  have oth:∀{c o},c≠e->h1.get? c=some o->((h1.push ob).update e (Obj.mapFields (·.setIfInBounds 1 (Value.ref h1.objs.size)))).get? c=some o:=λne hc=>(rz _ _<|Nm ne).trans (dB ob hc);refine⟨λc o hc=>?_,new,hl.of_keeps λc o hc nf=>?_,_,_,h1.objs.size,ob,_,e3,hP _ _ hp,Obj.data_mapFields hd _,by simp[hz],?_,ne,(rz _ _<|Nm ne).trans (ia h1 fr0),by rw[<-ho],?_⟩
  .exact oth (λz=>by rw[z,new]at hc;cases hc)<|(so.2.1 c λz=>by rw[(hl.mem z).1]at hc;cases hc).trans (st c o hc)
  .obtain⟨sl,hs⟩:=so.2.2 c o hc
   exact⟨_,oth (λz=>by rw[z,he]at hc;cases hc;exact nf vs hd) hs,rfl⟩
  .cases q:base.get? h1.objs.size with
   |none=>rfl
   |some o=>
    have:h1.get? h1.objs.size=some o:=(so.2.1 _ λz=>by rw[(hl.mem z).1]at q;cases q).trans (st _ o q);exact Nd (dm this)<|iK _
  .rcases place with rfl|⟨_,_,_,_,_,_,_,rfl⟩<;>simp
 .intro c o hc nf
  obtain⟨sl,hs⟩:=so.2.2 c o hc;exact⟨sl,(rz _ _ (Nm λz=>by rw[z,he]at hc;cases hc;exact nf vs hd)).trans (dB ob hs)⟩
theorem Hw(hP:lK P)(hA:A.frames=some (env::outer))(hl:s.heap.FunFrames base (env::outer))(hf:env.frame=some L)(he:s.heap.get? e=some oe)(hp:P oe)
  (st:base.StaysIn s.heap) (new:base.get? e=none) (hd:oe.data=.fields vs) (h1:vs[1]? = some .none) (k:∀h',Up P base (env::outer) e (rawInt L) h'->s.heap.UpToSlots h'->Q () { s with heap:=h' }) :
  wpAny M A (noteFrame (.ref e) env) Q E s:=by
 unfold noteFrame;simp only[hf];refine Na<|Nn he hd h1 ?_;rw[ks<|by decide];exact qO hP hA hl hf he hp st new hd (Ybo.mp h1).1 k
theorem note(hP:lK P)(hA:A.frames=some (env::outer))(hf:env.frame=some L)(u:Up P base (env::outer) e .none s.heap)
  (k:∀h',Up P base (env::outer) e (rawInt L) h'->s.heap.UpToSlots h'->Q () { s with heap:=h' }):wpAny M A (noteFrame (.ref e) env) Q E s:=by
 obtain⟨st,new,fr,oe,vs,T,oT,ts,he,hp,hd,h1,nT,Te,hT,dT,h3⟩:=u;unfold noteFrame;simp only[hf];refine Na<|Nn he hd h1 ?_;rw[oI (show(Value.ref T != Value.none)=true from by simp)];refine Na<|Nn hT dT h3 ?_;rw[ks<|by simp[rawInt]];refine Na<|NJ hT dT (Ybo.mp h3).1 ?_;have oth:∀{c o},c≠T->s.heap.get? c=some o->(s.heap.update T (Obj.mapFields (·.setIfInBounds 3 Value.none))).get? c=some o:=λne hc=>(rz _ _<|Nm ne).trans hc;have notT:∀{c o},s.heap.get? c=some o->(∀vs,o.data≠.fields vs)->c≠T:=λhc nf z=>by
  rw[z,hT]at hc;cases hc;exact nf ts dT
 refine qO hP hA (fr.of_keeps λc o hc nf=>⟨o,oth (notT hc nf) hc,rfl⟩) hf (oth (Nm Te) he) hp (λc o hc=>oth (λz=>by rw[z,nT]at hc;cases hc)<|st c o hc) new hd (Ybo.mp h1).1 λh' u' up=>k h' u' λc o hc nf=>up c o (oth (notT hc nf) hc) nf
theorem lands(u:Up P base l e fl s.heap)(k:∀h',Up P base l e .none h'->s.heap.UpToSlots h'->Q () { s with heap:=h' }):wpAny M A (setFlight (.ref e) none) Q E s:=by
 obtain⟨st,new,fr,oe,vs,T,oT,ts,he,hp,hd,h1,nT,Te,hT,dT,h3⟩:=u;have oth:∀{c o},c≠T->s.heap.get? c=some o->(s.heap.update T (Obj.mapFields (·.setIfInBounds 3 ((none:Option Addr).elim Value.none λf=>rawInt f)))).get? c=some o:=λne hc=>(rz _ _<|Nm ne).trans hc;have notT:∀{c o},s.heap.get? c=some o->(∀vs,o.data≠.fields vs)->c≠T:=λhc nf z=>by rw[z,hT]at hc;cases hc;exact nf ts dT
 have z3:=(Ybo.mp h3).1;unfold setFlight;refine Na<|Nn he hd h1 ?_;rw[oI (show(Value.ref T != Value.none)=true from by simp)];refine NJ hT dT z3<|k _ ⟨λc o hc=>oth (λz=>by rw[z,nT]at hc;cases hc)<|st c o hc,new,fr.of_keeps λc o hc nf=>⟨o,oth (notT hc nf) hc,rfl⟩,oe,vs,T,_,_,oth (Nm Te) he,hp,hd,h1,nT,Te,xN _ hT<|Obj.isFreed_of_fields<|Obj.data_mapFields dT _,Obj.data_mapFields dT _,by simp[z3]⟩ λc o hc nf=>⟨o.slots,oth (notT hc nf) hc⟩
theorem Up.there(u:Up P base l e fl h):∃ob,h.get? e=some ob/\P ob/\∃vs,ob.data=.fields vs:=by obtain⟨oe,vs,_,_,_,he,hp,hd,_⟩:=u.tr;exact⟨oe,he,hp,vs,hd⟩
theorem leaves(hP:lK P)(hA:A.frames=some (env::outer))(hf:env.frame=some L)(u:Up P base (env::outer) e .none s.heap)(k:∀h',Up P base outer e .none h'->s.heap.UpToSlots h'->Q () { s with heap:=h' }) :
  wpAny M A (leaving env<|.ref e) Q E s:=by
 unfold leaving;exact Na<|note hP hA hf u λh1 u1 up1=>lands (s:={ s with heap:=h1 }) u1 λh2 u2 up2=>k h2 ⟨u2.st,u2.new,u2.fr.2.2,u2.tr⟩ (up1.trans up2)
theorem leaves_new(hP:lK P)(hA:A.frames=some (env::outer))(hl:s.heap.FunFrames base (env::outer))(hf:env.frame=some L)(he:s.heap.get? e=some oe)(hp:P oe)
  (st:base.StaysIn s.heap) (new:base.get? e=none) (hd:oe.data=.fields vs) (h1:vs[1]? = some .none) (k:∀h',Up P base outer e .none h'->s.heap.UpToSlots h'->Q () { s with heap:=h' }):wpAny M A (leaving env<|.ref e) Q E s:=by
 unfold leaving;exact Na<|Hw hP hA hl hf he hp st new hd h1 λh1 u1 up1=>lands (s:={ s with heap:=h1 }) u1 λh2 u2 up2=>k h2 ⟨u2.st,u2.new,u2.fr.2.2,u2.tr⟩ (up1.trans up2)
end
end Fl
def fL(P:Program)(w:World):mV:=λouter H s E e s'=>∃(ea:Addr) (cls:Value) (dx:Option Addr) (H':Hp) (B:Heap),e=.ref ea/\Fl.Up (Fl.Is cls dx) B outer ea .none s'.heap/\s'.os=s.os/\AllBare s'.gens/\Un (dc outer) [] H H' s.heap s'.heap/\HOk P w H' s'.heap/\
 (∀b o,s.heap.get? b=some o->b∉dc outer->∃o',B.get? b=some o')/\(∀b u,H' b=some u->∃o,B.get? b=some o)/\E cls dx H'
def cD:dh (fL P w) X E0:=λ_ _ _ _ _ _ _ ⟨_,_,_,_,_,_,_,_,_,_,_,_,_,z⟩=>z.elim
theorem HOk.through{B h2:Heap}(hok:HOk P w H h)(hT:∀ b u,H b=some u->∃ o,B.get? b=some o)(s1:B.StaysIn h)(s2:B.StaysIn h2):HOk P w H h2:=λa o e=>(hok a o e).stay (λb u hb q=>by
  have hb':∃v,H b=some v:=by
   rcases hb with rfl|hb
   .exact⟨_,e⟩
   .exact⟨_,hb⟩
  obtain⟨v,hv⟩:=hb';obtain⟨o',eB⟩:=hT b v hv;have:=s1 b o' eB;rw[q]at this;cases this;exact s2 b _ eB) (λ_ z=>z) λ_ _ z=>z
section
variable{base:Heap}{E:XK}
theorem yv{l:List Env}(h:b∈dc l):b∈dc (env::l):=by unfold dc at h ⊢;obtain⟨e,h1,h2⟩:=YaA.mp h;exact YaA.mpr ⟨e,ip _ h1,h2⟩
theorem Hx:dh (fL P w) (eG (fL P w) P w K mg base N qual scope f cd A outer s H E) E:=by
 rintro sa σ H1 s1 _ s' I ⟨ea,cls,dx,H',B,rfl,fl,hos,hbare,un,hok,hB,hT,hE⟩;have nostk:∀b o,s.heap.get? b=some o->b∉dc outer->b∉dc (envOfC qual scope s.heap.objs.size f cd::outer):=λb o e hb hm=>by
  rcases Yan.mp (I.stkSub b hm) with z|z
  have l1:=dm e;have l2:s.heap.objs.size<=(envOfC qual scope s.heap.objs.size f cd).locals:=I.ok.above;have z':b=(envOfC qual scope s.heap.objs.size f cd).locals:=z;rw[<-z']at l2;exact Nd (da l1 l2)<|iK _
  exact hb z
 have ib:Un (dc outer) [] H H1 s.heap s1.heap:=I.base;show wpAny (model P w) (A.deeper<|envOfC qual scope s.heap.objs.size f cd) (leaving (envOfC qual scope s.heap.objs.size f cd)<|.ref ea) (λ_ s''=>fL P w outer H s E (.ref ea) s'') _ s';refine Fl.leaves Fl.Is.firm I.ok.frames rfl fl λh2 fl2 up=>?_;have frm:∀b,b∈dc (envOfC qual scope s.heap.objs.size f cd::outer)->∃o,s'.heap.get? b=some o/\∀vs,o.data≠.fields vs:=λb hb=>(fl.fr.mem hb).2;refine⟨ea,cls,dx,H',B,rfl,fl2,hos.trans I.os,hbare,⟨λb o e n hb _=>?_,λb o e n hb _=>?_,λb o e n _=>?_,λb o e _=>?_,λb xs e=>un.tups b xs<|ib.tups b xs e,λb o xs e=>un.frzs b o xs<|ib.frzs b o xs e,λb ps e=>?_,λ_ ⟨o,e⟩ n=>un.sys (by simp) (ib.there _ o e<|by simp)<|ib.sys (by simp) ⟨o,e⟩ n⟩,hok.through hT fl.st fl2.st,λb o e hb=>?_,hT,hE⟩;have e1:=ib.keep b o e n hb (by simp);have n1:=ib.free b o e n (by simp);have e2:=un.keep b o e1 n1 (nostk b o e hb) (by simp);obtain⟨o',eB⟩:=hB b o e1<|nostk b o e hb;have:=fl.st b o' eB;rw[e2]at this;cases this;exact fl2.st b _ eB
 obtain⟨sl,e1⟩:=ib.slot b o e n hb (by simp);have n1:=ib.free b o e n (by simp);obtain⟨sl',e2⟩:=un.slot b _ e1 n1 (yv hb) (by simp);obtain⟨o3,e3,nf⟩:=frm b<|yv hb;rw[e2]at e3;cases e3;obtain⟨sl3,e4⟩:=up b _ e2 nf;exact⟨sl3,e4⟩
 obtain⟨o',e1⟩:=ib.there b o e (by simp);exact un.free b o' e1 (ib.free b o e n<|by simp) (by simp);obtain⟨o',e1⟩:=ib.there b o e (by simp);by_cases hb:b∈dc (envOfC qual scope s.heap.objs.size f cd::outer);obtain⟨o3,e3,nf⟩:=frm b hb;obtain⟨sl3,e4⟩:=up b _ e3 nf;exact⟨_,e4⟩;obtain⟨o2,eB⟩:=hB b o' e1 hb;exact⟨o2,fl2.st b _ eB⟩;obtain⟨m1,e1⟩:=ib.tbls b ps e;obtain⟨m2,e2⟩:=un.tbls b _ e1;exact⟨m1++m2,by rw[e2,Aa]⟩;obtain⟨o',e1⟩:=ib.there b o e (by simp);exact hB b o' e1<|nostk b o e hb
def lM(X:Cx)(E:XK):Prop:=∀(sa:List (Addr×Obj)) (σ:St) (H:Hp) (s:Shared) (h':Heap) (e:Addr) (cls:Value) (args:List Value),Inv X sa σ H s->Heap.MadeExcOf s.heap h' e cls args->E cls none H->X.xe (.ref e) { s with heap:=h' }
theorem Hy:lM (eG (fL P w) P w K mg base N qual scope f cd A outer s H E) E:=by
 intro sa σ H1 s1 h2 e cls args I hx hE;have ib:Un (dc outer) [] H H1 s.heap s1.heap:=I.base;have neL:∀b o,s.heap.get? b=some o->b∉dc outer->b∉dc (envOfC qual scope s.heap.objs.size f cd::outer):=λb o e hb hm=>by
  rcases Yan.mp (I.stkSub b hm) with z|z
  have l1:=dm e;have l2:s.heap.objs.size<=(envOfC qual scope s.heap.objs.size f cd).locals:=I.ok.above;have z':b=(envOfC qual scope s.heap.objs.size f cd).locals:=z;rw[<-z']at l2;exact Nd (da l1 l2)<|iK _
  exact hb z
 have stk:s1.heap.FunFrames base (envOfC qual scope s.heap.objs.size f cd::outer):=I.stack;have frm:∀b,b∈dc (envOfC qual scope s.heap.objs.size f cd::outer)->∃o,s1.heap.get? b=some o/\∀vs,o.data≠.fields vs:=λb hb=>(stk.mem hb).2;have inB:∀{b o},s1.heap.get? b=some o->b∉dc (envOfC qual scope s.heap.objs.size f cd::outer)->(PySem.W.hideAll s1.heap<|dc (envOfC qual scope s.heap.objs.size f cd::outer)).get? b=some o:=λe hb=>PySem.W.hideAll_get _ e hb;have hT:∀b u,H1 b=some u->∃o,(PySem.W.hideAll s1.heap<|dc (envOfC qual scope s.heap.objs.size f cd::outer)).get? b=some o:=λb u hu=>by
  have hb:b∉dc (envOfC qual scope s.heap.objs.size f cd::outer):=λhm=>by have:=I.stkFree b hm;rw[hu]at this;cases this
  have l:=I.hok.lt hu;have:∃o,s1.heap.get? b=some o:=by
   have q:=I.hok b u hu;cases u with
   |lst xs=>obtain⟨_,_,_,_,e⟩:=q;exact⟨_,e⟩
   |tup xs=>obtain⟨_,_,_,o,e,_⟩:=q;exact⟨_,e⟩
   |dK kvs=>obtain⟨_,_,_,_,o,_,_,e,_⟩:=q;exact⟨_,e⟩
   |dT kvs=>obtain⟨_,_,_,_,o,_,_,e,_⟩:=q;exact⟨_,e⟩
   |set S n=>obtain⟨o,_,_,_,e,_⟩:=q;exact⟨_,e⟩
   |ins C dx fs=>obtain⟨_,_,_,e,_⟩:=q;exact⟨_,e⟩
   |own y=>obtain⟨o,e⟩:=q;exact⟨_,e⟩
   |xd fs=>obtain⟨_,⟨o,_,_,e,_⟩,_⟩:=q;exact⟨_,e⟩
   |rng lo hi=>obtain⟨_,_,_,e⟩:=q;exact⟨_,e⟩
   |frz ob u=>obtain⟨e,_⟩:=q;exact⟨_,e⟩
   |tbl ps=>exact⟨_,(show s1.heap.get? b=some _ from q)⟩|met f y=>exact⟨_,(show s1.heap.get? b=some _ from q)⟩|ext φ=>obtain⟨_,⟨o,e⟩,_⟩:=q;exact⟨_,e⟩
  obtain⟨o,e⟩:=this;exact⟨o,inB e hb⟩
 show wpAny (model P w) (A.deeper<|envOfC qual scope s.heap.objs.size f cd) (leaving (envOfC qual scope s.heap.objs.size f cd)<|.ref e) (λ_ s''=>fL P w outer H s E (.ref e) s'') _ _;obtain⟨tt,he,_,_⟩:=hx.there;have newB:(PySem.W.hideAll s1.heap<|dc (envOfC qual scope s.heap.objs.size f cd::outer)).get? e=none:=by
  cases q:(PySem.W.hideAll s1.heap<|dc (envOfC qual scope s.heap.objs.size f cd::outer)).get? e with
  |none=>rfl|some o=>have:=PySem.W.of_hideAll _ q;rw[hx.new]at this;cases this
 refine Fl.leaves_new (P:=Fl.Is cls none) (base:=PySem.W.hideAll s1.heap<|dc (envOfC qual scope s.heap.objs.size f cd::outer)) Fl.Is.firm I.ok.frames ((PySem.W.funFrames_hide stk λenv he b hb=>YaA.mpr ⟨env,he,hb⟩).of_keeps λb o hb _=>⟨o,hx.keeps b o hb,rfl⟩) rfl he ⟨rfl,rfl⟩
  (λb o q=>hx.keeps b o<|PySem.W.of_hideAll _ q) newB rfl rfl λh3 fl up=>?_
 have st1:(PySem.W.hideAll s1.heap<|dc (envOfC qual scope s.heap.objs.size f cd::outer)).StaysIn s1.heap:=λb o q=>PySem.W.of_hideAll _ q;refine⟨e,cls,none,H1,_,rfl,fl,I.os,I.bare,⟨λb o e n hb _=>?_,λb o e n hb _=>?_,λb o e n _=>ib.free b o e n<|by simp,λb o e _=>?_,λb xs e=>ib.tups b xs e,λb o xs e=>ib.frzs b o xs e,λb ps e=>ib.tbls b ps e,λ_ eg n=>ib.sys (by simp) eg n⟩,I.hok.through hT st1 fl.st,λb o e hb=>?_,hT,hE⟩;exact fl.st b o<|inB (ib.keep b o e n hb<|by simp) (neL b o e hb)
 obtain⟨sl,e1⟩:=ib.slot b o e n hb (by simp);obtain⟨o3,e3,nf⟩:=frm b<|yv hb;rw[e1]at e3;cases e3;obtain⟨sl3,e4⟩:=up b _ (hx.keeps b _ e1) nf;exact⟨sl3,e4⟩
 obtain⟨o',e1⟩:=ib.there b o e (by simp);by_cases hb:b∈dc (envOfC qual scope s.heap.objs.size f cd::outer);obtain⟨o3,e3,nf⟩:=frm b hb;obtain⟨sl3,e4⟩:=up b _ (hx.keeps b _ e3) nf;exact⟨_,e4⟩;exact⟨o',fl.st b o'<|inB e1 hb⟩;obtain⟨o',e1⟩:=ib.there b o e (by simp);exact⟨o',inB e1<|neL b o e hb⟩
end
section
def A3(K:Nb)(tl:TE):TI:=λσ H R=>tl σ H λx H1=>∃a,x=.ref a/\(((∃xs,SqL K H1 a xs)/\R (AK K a) H1)\/((∃xs,SqT K H1 a xs)/\R (AL K a) H1))
theorem Hz{l:Expr}{tl:TE}(hl:PE X l tl):PI X tg l (A3 X.K tl):=by
 intro sa s σ H R I h;refine bC (hl sa s σ H _ I h) λv s1 ⟨x,H1,I1,r1,q1⟩=>?_;obtain⟨a,e,⟨⟨xs,hq⟩,q⟩|⟨⟨xs,hq⟩,q⟩⟩:=q1;subst e;cases r1;obtain⟨its,rv,p,hz⟩:=I1.list hq;refine NK p.isList ?_;refine⟨s1.heap.objs.size,[s1.heap.objs.size],_,_,H1,rfl,I1.kept (t':=s1.toks) λb o e=>dB _ e,iP a _,⟨_,ia _ rfl,rfl,rfl⟩,λb hb=>?_,q⟩;have e:b=s1.heap.objs.size:=by simpa using hb
 subst e;exact I1.fpOk (cF _)<|I1.hok.fresh (cF _)
 subst e;cases r1;obtain⟨its,rv,p,hz⟩:=I1.tuple hq;refine wpAny_pyIter_tuple (show s1.heap.IsTuple a its.toArray from p) ?_;refine⟨s1.heap.objs.size,[s1.heap.objs.size],_,_,H1,rfl,I1.kept (t':=s1.toks) λb o e=>dB _ e,km a _,⟨_,ia _ rfl,rfl,rfl⟩,λb hb=>?_,q⟩;have e:b=s1.heap.objs.size:=by simpa using hb
 subst e;exact I1.fpOk (cF _)<|I1.hok.fresh (cF _)
end
theorem Inv.turnedL(ts:List Addr)(I:Inv X sa σ H s)(k:∀b o,b∉ts->s.heap.get? b=some o->h'.get? b=some o)
  (hf:∀b∈ts,dH X sa H b):Inv X sa σ H { s with heap:=h',toks:=t' }:=by
 refine I.step (g':=s.gens) (d':=s.drawn) (ch:=ts) (λb hb=>?_) (λb o _ _ hc e _=>k b o hc e) (λb o _ _ hc e _=>⟨o.slots,k b o hc e⟩) (λ_ _ _ _ n=>n)
  (λb o hc e=>⟨o,k b o hc e⟩) (λ_ _ e=>e) (λ_ _ _ e=>e) (λb ps e=>⟨#[],by rw[e];simp⟩) (λm hm=>?_) (λb u e=>?_) I.bare (λn=>n)
 .obtain⟨_,f1,_,f3,f4,f5⟩:=hf b hb
  exact⟨f3,f1,f4,f5⟩
 .obtain⟨o,es,ep,ho,r⟩:=hm
  exact⟨o,es,ep,k _ o (λz=>(hf _ z).2.1 rfl) ho,r⟩
 .have nt:∀c v,H c=some v->c∉ts:=λc v q z=>by rw[(hf c z).1]at q;cases q
  refine(I.hok b u e).stay (λc v hc q=>k c v ?_ q) (λ_ q=>q) λ_ _ q=>q;rcases hc with z|z
  .rw[z];exact nt b u e
  .exact nt c _ z
def SIt(κ:Bool)(h:Heap)(it l:Addr)(i:Nat):Prop:=match κ with|true=>h.IsTupleIter it l i|false=>h.IsListIter it l i
def SSq(κ:Bool)(h:Heap)(l:Addr)(xs:Array Value):Prop:=match κ with|true=>h.IsTuple l xs|false=>h.IsList l xs
section
theorem SIt.keep(x:SIt κ h it l i)(k:∀o,h.get? it=some o->h'.get? it=some o):SIt κ h' it l i:=by cases κ;exact Heap.IsListIter.at x k;exact Heap.IsTupleIter.at x k
theorem SIt.obj(x:SIt κ h it l i):∃o,h.get? it=some o/\(∀v,o.data≠.cell v):=by
 cases κ;all_goals
  obtain⟨o,e,_,d⟩:=x;exact⟨o,e,λv z=>by rw[d]at z;cases z⟩
theorem SSq.keep(x:SSq κ h l xs)(k:∀o,h.get? l=some o->h'.get? l=some o):SSq κ h' l xs:=by
 cases κ;all_goals
  obtain⟨o,e,r⟩:=x;exact⟨o,k o e,r⟩
end
section
variable{E:Value->Shared->Prop}{x:Value}
theorem yw(hi:SIt κ s.heap it l i)(hl:SSq κ s.heap l xs)(hx:xs[i]? = some x)(q:∀h',SIt κ h' it l (i+1)->Heap.SameBut it s.heap h'->Q x { s with heap:=h' }) :
  wpAny (model prog w) A (Builtin.SmallTypes.nextOf<|.ref it) Q E s:=by
 cases κ with
 |false=>exact wpAny_nextOf_list_item hi hl hx q
 |true=>
  have ht:s.heap.IsTupleIter it l i:=hi;obtain⟨ob,hob,hcl,hda⟩:=id ht;obtain⟨sq,hsq,_,nn,hds⟩:=(show s.heap.IsTuple l xs from hl)
  unfold Builtin.SmallTypes.nextOf;refine Na<|wpAny_callSpecial?_slot (name:=Str.ofString "__next__") ht.typeIs F.slot_tuple_iterator_next (Nx F.slot_tuple_iterator_next ht.typeIs F.entry_tuple_iterator_next ?_<|F.args_tuple_iterator_next_1 _);show wpAny _ _ (field (.ref it) 0 >>= _) _ E s;refine Na<|Nn hob hda (x:=.ref l) rfl ?_;show wpAny _ _ (if(Value.ref l==Value.none)=true then _ else _) _ E s;rw[ks (show¬((Value.ref l==Value.none)=true) by exact jK)];show wpAny _ _ (field (.ref it) 1 >>= _) _ E s;refine Na<|Nn hob hda (x:=.int i 0) rfl ?_;show wpAny _ _ (seqItems? (.ref l) >>= _) _ E s;refine Na<|Ny hsq hds ?_;simp only[iN,hx];refine Na<|NJ hob hda (by simp) (Nc ⟨x,rfl,Nc<|q _ ?_<|Heap.SameBut.update ..⟩);exact⟨_,xN _ hob<|Obj.isFreed_of_fields<|Obj.data_mapFields hda _,(Obj.cls_mapFields ..).trans hcl,by rw[Obj.data_mapFields hda];simp[rawInt]⟩
theorem yx(hh:A.handled=none)(hi:SIt κ s.heap it l i)(hl:SSq κ s.heap l xs)(hx:xs[i]? = none)
  (q:∀h' e,Heap.ExtBut it s.heap h'->(∃o,h'.get? e=some o/\o.cls=.type "StopIteration")->E (.ref e) { s with heap:=h' }) :
  wpAny (model prog w) A (Builtin.SmallTypes.nextOf<|.ref it) Q E s:=by
 cases κ with
 |false=>exact wpAny_nextOf_list_end hh hi hl hx q
 |true=>
  have ht:s.heap.IsTupleIter it l i:=hi;obtain⟨ob,hob,hcl,hda⟩:=id ht;obtain⟨sq,hsq,_,nn,hds⟩:=(show s.heap.IsTuple l xs from hl)
  unfold Builtin.SmallTypes.nextOf;refine Na<|wpAny_callSpecial?_slot (name:=Str.ofString "__next__") ht.typeIs F.slot_tuple_iterator_next (Nx F.slot_tuple_iterator_next ht.typeIs F.entry_tuple_iterator_next ?_<|F.args_tuple_iterator_next_1 _);show wpAny _ _ (field (.ref it) 0 >>= _) _ E s;refine Na<|Nn hob hda (x:=.ref l) rfl ?_;show wpAny _ _ (if(Value.ref l==Value.none)=true then _ else _) _ E s;rw[ks (show¬((Value.ref l==Value.none)=true) by exact jK)];show wpAny _ _ (field (.ref it) 1 >>= _) _ E s;refine Na<|Nn hob hda (x:=.int i 0) rfl ?_;show wpAny _ _ (seqItems? (.ref l) >>= _) _ E s;refine Na<|Ny hsq hds ?_;simp only[iN,hx];refine Na<|ND (Na<|NJ hob hda (by simp) ?_);show wpAny _ _ (newExc (.type "StopIteration") [] >>= _) _ E _;refine Na ?_;simp only[newExc,newTuple];refine Na<|Nq ?_ (by size_fits);refine Na (m:=firstArgMember _ _)<|wpAny_of_eq (a:=Value.none) (by first|rfl|(rw[firstArgMember];rfl)) (Nq ?_<|by size_fits);simp only[raiseNew];refine Na<|wpAny_handled ?_;rw[show A.in1.handled=none from hh];exact Na<|Nc (wpAny_throw<|q _ _ (((Heap.SameBut.update ..).extBut.push _).push _) ⟨_,ia _ rfl,rfl⟩)
end
structure vB(z TI TO j1 j2:Addr):Prop where
 a:TI≠z
 b:TO≠z
 c:j1≠z
 d:j2≠z
 e:TI≠TO
 f:TI≠j1
 g:TI≠j2
 h:TO≠j1
 i:TO≠j2
 j:j1≠j2
def tW(z TI TO j1 j2 l:Addr):Prop:=l≠z/\l≠TI/\l≠TO/\l≠j1/\l≠j2
section
variable{E:Value->Shared->Prop}{z TI TO j1 j2 l1 l2:Addr}{ys:Array Value}{x y a b:Value}
theorem Zn(D:vB z TI TO j1 j2)(d1:tW z TI TO j1 j2 l1)(d2:tW z TI TO j1 j2 l2)
  (zz:IsZip s.heap z TI TO .none) (zi:IsPair s.heap TI (.ref j1) (.ref j2)) (zo:IsPair s.heap TO a b) (u1:SIt κ s.heap j1 l1 i) (u2:SIt κ' s.heap j2 l2 i) (v1:SSq κ s.heap l1 xs) (v2:SSq κ' s.heap l2 ys) (ex:xs[i]? = some x) (ey:ys[i]? = some y)
  (q:∀ h',IsZip h' z TI TO (rawInt s.heap.objs.size)->IsPair h' TO x y->SIt κ h' j1 l1 (i+1)->SIt κ' h' j2 l2 (i+1)->IsPair h' s.heap.objs.size x y->h'.objs.size=s.heap.objs.size+1->
   (∀c o,c≠z->c≠TO->c≠j1->c≠j2->s.heap.get? c=some o->h'.get? c=some o)->Q (.ref s.heap.objs.size) { s with heap:=h' }) :
  wpAny (model prog w) A (Builtin.«zip.__next__» ⟨[.ref z],[]⟩) (λfin s'=>∃v,fin=.done (.ret v)/\Q v s') E s:=by
 obtain⟨o1z,_,o1O,o11,o12⟩:=d1;obtain⟨o2z,_,o2O,o21,o22⟩:=d2;show wpAny _ _ (field (.ref z) 2 >>= _) _ E _;refine Na<|Nn zz rfl (x:=.bool false) rfl ?_;show wpAny _ _ (field (.ref z) 3 >>= _) _ E _;refine Na<|Nn zz rfl (x:=.ref TI) rfl (Na<|Ny zi rfl ?_);show wpAny _ _ (Builtin.SmallTypes.ownedTupleIsFree (.ref z) >>= _) _ E _;refine Na ?_;unfold Builtin.SmallTypes.ownedTupleIsFree;refine Na<|Nn zz rfl (x:=.none) rfl (Nc ?_);simp only[if_true];refine Na<|ND (Na<|Nn zz rfl (x:=.ref TO) rfl<|Na<|Nz zz (by simp) λg1 zz1 k1=>?_);replace zz1:IsZip g1 z TI TO .ellipsis:=zz1;refine Na ?_;simp only[List.zipIdx_cons,List.zipIdx_nil,Ad,List.forIn_nil];refine Na<|Na (NP ?_);show wpAny _ _ (Builtin.SmallTypes.nextOf (.ref j1) >>= _) _ _ _;refine Na<|yw (u1.keep λo e=>k1.extBut _ o D.c e) (v1.keep λo e=>k1.extBut _ o o1z e) ex λg2 u1' k2=>Nc ?_;have zo2:IsPair g2 TO a b:=k2.extBut _ _ D.h<|k1.extBut _ _ D.b zo;refine Na<|Ny zo2 rfl (Na<|NM zo2 λg3 zo3 k3=>?_);replace zo3:IsPair g3 TO x b:=zo3;refine Na<|wpAny_letGo (Nc ?_);refine Na<|Na (NP ?_);show wpAny _ _ (Builtin.SmallTypes.nextOf (.ref j2) >>= _) _ _ _;refine Na<|yw (u2.keep λo e=>k3.extBut _ o D.i.symm<|k2.extBut _ o D.j.symm<|k1.extBut _ o D.d e) (v2.keep λo e=>k3.extBut _ o o2O<|k2.extBut _ o o21<|k1.extBut _ o o2z e) ey λg4 u2' k4=>Nc ?_;have zo4:IsPair g4 TO x b:=k4.extBut _ _ D.i zo3;refine Na<|Ny zo4 rfl (Na<|NM zo4 λg5 zo5 k5=>?_);replace zo5:IsPair g5 TO x y:=zo5;refine Na<|wpAny_letGo (Nc<|Nc<|Na<|Ny zo5 rfl<|Na<|wpAny_newTuple ?_);have sz:g5.objs.size=s.heap.objs.size:=by rw[k5.1,k4.1,k3.1,k2.1,k1.1]
 have zz5:IsZip g5 z TI TO .ellipsis:=k5.extBut _ _ D.b.symm<|k4.extBut _ _ D.d.symm (k3.extBut _ _ D.b.symm<|k2.extBut _ _ D.c.symm zz1);have kk:∀c o,c≠z->c≠TO->c≠j1->c≠j2->s.heap.get? c=some o->g5.get? c=some o:=λc o c1 c2 c3 c4 e=>k5.extBut _ _ c2<|k4.extBut _ _ c4 (k3.extBut _ _ c2<|k2.extBut _ _ c3<|k1.extBut _ _ c1 e);have r1:SIt κ g5 j1 l1 (i+1):=u1'.keep λo e=>k5.extBut _ o D.h.symm<|k4.extBut _ o D.j (k3.extBut _ o D.h.symm e);have r2:SIt κ' g5 j2 l2 (i+1):=u2'.keep λo e=>k5.extBut _ o D.i.symm e;have zlt:z<g5.objs.size:=dm zz5;show wpAny _ _ (Builtin.SmallTypes.ownedTupleHandOut (.ref z) (.ref g5.objs.size) >>= _) _ E _;refine Na ?_;unfold Builtin.SmallTypes.ownedTupleHandOut;have zz6:IsZip (g5.push { cls:=.type "tuple",data:=.seq #[x,y] }) z TI TO .ellipsis:=dB _ zz5;refine Na<|Nz zz6 (by simp) λg7 zz7 k7=>?_;replace zz7:IsZip g7 z TI TO (rawInt g5.objs.size):=zz7;refine Nz zz7 (by simp) λg8 zz8 k8=>?_;replace zz8:IsZip g8 z TI TO (rawInt g5.objs.size):=zz8;have up:∀c o,c≠z->g5.get? c=some o->g8.get? c=some o:=λc o c1 e=>k8.extBut _ _ c1<|k7.extBut _ _ c1 (dB _ e);have tt8:IsPair g8 g5.objs.size x y:=k8.extBut _ _ (xL zlt)<|k7.extBut _ _ (xL zlt) (ia _ rfl);have sz8:g8.objs.size=g5.objs.size+1:=by rw[k8.1,k7.1,nS]
 rw[sz]at zz8 tt8 sz8;refine Nc ⟨_,rfl,?_⟩;show Q (.ref g5.objs.size) _;rw[sz];exact q g8 zz8 (up _ _ D.b zo5) (r1.keep λo e=>up _ o D.c e) (r2.keep λo e=>up _ o D.d e) tt8 sz8 λc o c1 c2 c3 c4 e=>up c o c1<|kk c o c1 c2 c3 c4 e
theorem HC{Q:Fin->Shared->Prop}(hh:A.handled=none)(D:vB z TI TO j1 j2)(d1:tW z TI TO j1 j2 l1)(d2:tW z TI TO j1 j2 l2)
  (zz:IsZip s.heap z TI TO .none) (zi:IsPair s.heap TI (.ref j1) (.ref j2)) (zo:IsPair s.heap TO a b) (u1:SIt κ s.heap j1 l1 i) (u2:SIt κ' s.heap j2 l2 i) (v1:SSq κ s.heap l1 xs) (v2:SSq κ' s.heap l2 ys) (en:xs[i]? = none\/ys[i]? = none)
  (q:∀h' e,(∀c o,c≠z->c≠TO->c≠j1->c≠j2->s.heap.get? c=some o->h'.get? c=some o)->(∃o,h'.get? e=some o/\o.cls=.type "StopIteration")->E (.ref e) { s with heap:=h' }) :
  wpAny (model prog w) A (Builtin.«zip.__next__» ⟨[.ref z],[]⟩) Q E s:=by
 obtain⟨o1z,_,o1O,o11,o12⟩:=d1;obtain⟨o2z,_,o2O,o21,o22⟩:=d2;show wpAny _ _ (field (.ref z) 2 >>= _) _ E _;refine Na<|Nn zz rfl (x:=.bool false) rfl ?_;show wpAny _ _ (field (.ref z) 3 >>= _) _ E _;refine Na<|Nn zz rfl (x:=.ref TI) rfl (Na<|Ny zi rfl ?_);show wpAny _ _ (Builtin.SmallTypes.ownedTupleIsFree (.ref z) >>= _) _ E _;refine Na ?_;unfold Builtin.SmallTypes.ownedTupleIsFree;refine Na<|Nn zz rfl (x:=.none) rfl (Nc ?_);simp only[if_true];refine Na<|ND (Na<|Nn zz rfl (x:=.ref TO) rfl<|Na<|Nz zz (by simp) λg1 zz1 k1=>?_);replace zz1:IsZip g1 z TI TO .ellipsis:=zz1;refine Na ?_;simp only[List.zipIdx_cons,List.zipIdx_nil,Ad,List.forIn_nil];refine Na<|Na (NP ?_);show wpAny _ _ (Builtin.SmallTypes.nextOf (.ref j1) >>= _) _ _ _;cases ex:xs[i]? with
 |none=>
  refine Na<|yx hh (u1.keep λo e=>k1.extBut _ o D.c e) (v1.keep λo e=>k1.extBut _ o o1z e) ex λg2 e k2 ⟨oe,e1,e2⟩=>?_;have zz2:IsZip g2 z TI TO .ellipsis:=k2 _ _ D.c.symm zz1;have ne:e≠z:=λr=>by subst r;rw[zz2]at e1;cases e1;simp at e2
  exact Nz zz2 (by simp) λg3 _ k3=>q g3 e (λc o c1 _ c3 _ r=>k3.extBut _ _ c1<|k2 _ _ c3<|k1.extBut _ _ c1 r) ⟨oe,k3.extBut _ _ ne e1,e2⟩
 |some x=>
  have ey:ys[i]? = none:=en.elim (λh=>by rw[ex]at h;cases h) id;refine Na<|yw (u1.keep λo e=>k1.extBut _ o D.c e) (v1.keep λo e=>k1.extBut _ o o1z e) ex λg2 u1' k2=>Nc ?_;have zo2:IsPair g2 TO a b:=k2.extBut _ _ D.h<|k1.extBut _ _ D.b zo;refine Na<|Ny zo2 rfl (Na<|NM zo2 λg3 zo3 k3=>?_);refine Na<|wpAny_letGo (Nc ?_);refine Na<|Na (NP ?_);show wpAny _ _ (Builtin.SmallTypes.nextOf (.ref j2) >>= _) _ _ _;refine Na<|yx hh (u2.keep λo e=>k3.extBut _ o D.i.symm<|k2.extBut _ o D.j.symm<|k1.extBut _ o D.d e) (v2.keep λo e=>k3.extBut _ o o2O<|k2.extBut _ o o21<|k1.extBut _ o o2z e) ey λg4 e k4 ⟨oe,e1,e2⟩=>?_;have zz4:IsZip g4 z TI TO .ellipsis:=k4 _ _ D.d.symm<|k3.extBut _ _ D.b.symm (k2.extBut _ _ D.c.symm zz1);have ne:e≠z:=λr=>by subst r;rw[zz4]at e1;cases e1;simp at e2
  exact Nz zz4 (by simp) λg5 _ k5=>q g5 e (λc o c1 c2 c3 c4 r=>k5.extBut _ _ c1<|k4 _ _ c4<|k3.extBut _ _ c2<|k2.extBut _ _ c3<|k1.extBut _ _ c1 r) ⟨oe,k5.extBut _ _ ne e1,e2⟩
end
section
theorem Inv.turnedN{o:HO}(ts:List Addr)(I:Inv X sa σ H s)(k:∀b o,b∉ts->s.heap.get? b=some o->h'.get? b=some o)
  (hf:∀b∈ts,dH X sa H b) (hp:s.heap.objs.size<=a) (new:ObjOk X.prog X.w (upd H a o) h' a o):Inv X sa σ (upd H a o) { s with heap:=h',toks:=t' }:=by
 have hn:H a=none:=I.hok.fresh hp;have nea:∀b u,H b=some u->b≠a:=λb u e z=>by rw[z,hn]at e;cases e
 have neb:∀b u,s.heap.get? b=some u->b≠a:=λb u e z=>by subst z;exact Nd (da (dm e) hp)<|iK _
 refine I.step (g':=s.gens) (d':=s.drawn) (ch:=ts) (λb hb=>?_) (λb o _ _ hc e _=>k b o hc e) (λb o _ _ hc e _=>⟨o.slots,k b o hc e⟩) (λb u _ e n=>by rw[aI<|neb b u e];exact n)
  (λb o hc e=>⟨o,k b o hc e⟩) (λb xs e=>by rw [aI<|nea _ _ e];exact e) (λb _ _ e=>by rw [aI<|nea _ _ e];exact e) (λb ps e=>⟨#[],by rw [aI<|nea _ _ e,e];simp⟩) (λm hm=>?_) (λb u e=>?_) I.bare (λn ys=>by
   obtain⟨og,eg⟩:=I.hasG;rw[aI<|gK<|da (xI (by decide)<|dm eg) hp];exact n ys)
 .obtain⟨_,f1,_,f3,f4,f5⟩:=hf b hb
  exact⟨f3,f1,f4,f5⟩
 .obtain⟨o,es,ep,ho,r⟩:=hm
  exact⟨o,es,ep,k _ o (λz=>(hf _ z).2.1 rfl) ho,r⟩
 .by_cases hb:b=a
  .subst hb;rw[aO]at e;cases e;exact new
  .rw[aI hb]at e
   have nt:∀c v,H c=some v->c∉ts:=λc v q z=>by rw[(hf c z).1]at q;cases q
   refine(I.hok b u e).stay (λc v hc q=>k c v ?_ q) (λc q=>by rw[aI<|nea _ _ q];exact q) λc _ q=>by rw[aI<|nea _ _ q];exact q
   rcases hc with z|z
   .rw[z];exact nt b u e
   .exact nt c _ z
def Sq(K:Nb)(κ:Bool)(H:Hp)(a:Addr)(xs:List V):Prop:=match κ with|true=>SqT K H a xs|false=>SqL K H a xs
theorem Inv.sq{xs:List V}(I:Inv X sa σ H s)(h:Sq X.K κ H a xs):∃its:List Value,Vals xs its/\SSq κ s.heap a its.toArray/\xs.length<=sizeLine:=by
 cases κ with
 |false=>obtain⟨its,r,p,hz⟩:=I.list h;exact⟨its,r,p.isList,hz⟩
 |true=>obtain⟨its,r,p,hz⟩:=I.tuple h;exact⟨its,r,(show s.heap.IsTuple a its.toArray from p),hz⟩
theorem Inv.sq_inj{xs:List V}(I:Inv X sa σ H s)(h:Sq X.K κ H a xs)(h':Sq X.K κ H a ys):xs=ys:=by
 cases κ with
 |false=>exact I.list_inj h h'|true=>exact I.tuple_inj h h'
theorem Inv.sq_out{xs:List V}(I:Inv X sa σ H s)(h:Sq X.K κ H a xs)(f:dH X sa H b):a≠b:=by
 rintro rfl;have hk:∀o,X.K.lookup a=some o->False:=λo e=>by
  have e1:=I.ok.mod.kin a o e;rcases f.2.2.2.1 with z|z
  exact I.ok.noex a o e1 z;exact Nd (da (dm (I.ok.bs a o e1).1) z)<|iK _
 have hr:∀u,Rd H a u->False:=λu r=>by
  rcases r with r|⟨o,r⟩
  rw[f.1]at r;cases r;rw[f.1]at r;cases r
 cases κ with
 |false=>
  rcases h with h|⟨o,_,_,e,_⟩
  exact hr _ h;exact hk o e
 |true=>
  rcases h with h|⟨o,_,_,e,_⟩
  exact hr _ h;exact hk o e
end
def DD(K:Nb)(κ κ':Bool)(a b:Addr):It:=
  ⟨λi H=>∃ xs ys x y,Sq K κ H a xs/\Sq K κ' H b ys/\xs[i]? = some x/\ys[i]? = some y,
   λi H v H'=>∃p x y,v=.ref p/\H p=none/\H'=upd H p (.tup [x,y])/\(∀xs,Sq K κ H a xs->xs[i]? = some x)/\(∀ys,Sq K κ' H b ys->ys[i]? = some y),
   λi H=>∃xs ys,Sq K κ H a xs/\Sq K κ' H b ys/\(xs.length<=i\/ys.length<=i)⟩
theorem HD{ps:Pos}(a b z TI TO j1 j2:Addr)(D:vB z TI TO j1 j2) :
  jd P w K (.Tuple es n1 ps) (DD K κ κ' a b) [z,TI,TO,j1,j2] z (λi h=>IsZip h z TI TO .none/\IsPair h TI (.ref j1) (.ref j2)/\(∃u v,IsPair h TO u v)/\SIt κ h j1 a i/\SIt κ' h j2 b i) where
 mem:=by simp
 obj:=λi h ⟨q1,q2,⟨u,v,q3⟩,q4,q5⟩ c hc=>by
  simp only[Yan,eA,or_false]at hc;rcases hc with rfl|rfl|rfl|rfl|rfl
  .exact⟨_,q1,λv e=>by cases e⟩
  .exact⟨_,q2,λv e=>by cases e⟩
  .exact⟨_,q3,λv e=>by cases e⟩
  .exact q4.obj
  .exact q5.obj
 keep:=λi h h' ⟨q1,q2,⟨u,v,q3⟩,q4,q5⟩ k=>
  ⟨k z (by simp) _ q1,k TI (by simp) _ q2,⟨u,v,k TO (by simp) _ q3⟩,q4.keep λo e=>k j1 (by simp) o e,q5.keep λo e=>k j2 (by simp) o e⟩
 item:=by
  intro X hP hw hK hc i sa s σ H E I hf ⟨q1,q2,⟨u,v,q3⟩,q4,q5⟩ hg;subst hP hw hK;obtain⟨xs,ys,x,y,hx,hy,ex,ey⟩:=hg;obtain⟨its,rv,p,hz⟩:=I.sq hx;obtain⟨its',rv',p',hz'⟩:=I.sq hy;obtain⟨ux,hux,rux⟩:=rv.get ex;obtain⟨uy,huy,ruy⟩:=rv'.get ey;have out:∀{κ:Bool} {c:Addr} {xs:List V},Sq X.K κ H c xs->tW z TI TO j1 j2 c:=λhq=>
   ⟨I.sq_out hq<|hf z<|by simp,I.sq_out hq<|hf TI<|by simp,I.sq_out hq<|hf TO<|by simp,I.sq_out hq<|hf j1<|by simp,I.sq_out hq<|hf j2<|by simp⟩
  have hT:s.TypeIs (.ref z) "zip" :=⟨_,q1,rfl⟩
  unfold pyNext;refine Na<|wpAny_attempt (wpAny_callSpecial?_slot (name:=Str.ofString "__next__") hT F.slot_zip_next (Nx F.slot_zip_next hT F.entry_zip_next
   (Zn D (out hx) (out hy) q1 q2 q3 q4 q5 p p' (x:=ux) (y:=uy) (by simpa using hux) (by simpa using huy) λh' a1 a2 a3 a4 a5 a6 a7=>Nc ⟨_,rfl,?_⟩) (F.args_zip_next_1 _)))
  refine wpAny_letOwnedTupleGo_zip (s:={ s with heap:=h' }) a1 λh2 b1 b2=>?_;have lt:∀{c o},s.heap.get? c=some o->c≠s.heap.objs.size:=λe=>gK<|dm e;have zl:=lt q1;have up:∀c o,c∉[z,TI,TO,j1,j2]->s.heap.get? c=some o->h2.get? c=some o:=λc o hc e=>by
   simp only[Yan,eA,or_false,not_or]at hc;exact b2.extBut _ _ hc.1<|a7 c o hc.1 hc.2.2.1 hc.2.2.2.1 hc.2.2.2.2 e
  refine⟨.ref s.heap.objs.size,upd H s.heap.objs.size<|.tup [x,y],Inv.turnedN (s:=s) (t':=s.toks) [z,TI,TO,j1,j2] I up hf (cF _) ?_,rfl,⟨s.heap.objs.size,x,y,rfl,I.fresh,rfl,λxs' h'=>by rw[I.sq_inj h' hx];exact ex,λys' h'=>by rw[I.sq_inj h' hy];exact ey⟩,?_,λc hc=>?_⟩
  .refine⟨by rw[sizeLine_eq];simp,[ux,uy],.cons rux<|.cons ruy .nil,?_⟩
   exact⟨_,b2.extBut _ _ (Nm zl) a5,rfl,_,rfl⟩
  .exact⟨b1,b2.extBut _ _ D.a<|a7 _ _ D.a D.e D.f D.g q2,⟨_,_,b2.extBut _ _ D.b a2⟩,a3.keep λo e=>b2.extBut _ o D.c e,a4.keep λo e=>b2.extBut _ o D.d e⟩
  .have he:∃o,s.heap.get? c=some o:=by
    simp only[Yan,eA,or_false]at hc;rcases hc with rfl|rfl|rfl|rfl|rfl
    .exact⟨_,q1⟩
    .exact⟨_,q2⟩
    .exact⟨_,q3⟩
    .obtain⟨o,e,_⟩:=q4.obj;exact⟨o,e⟩
    .obtain⟨o,e,_⟩:=q5.obj;exact⟨o,e⟩
   obtain⟨o,e⟩:=he;rw[aI<|lt e];exact(hf c hc).1
 done:=by
  intro X hP hw hK hc i sa s σ H E I hf ⟨q1,q2,⟨u,v,q3⟩,q4,q5⟩ hg;subst hP hw hK;obtain⟨xs,ys,hx,hy,en⟩:=hg;obtain⟨its,rv,p,hz⟩:=I.sq hx;obtain⟨its',rv',p',hz'⟩:=I.sq hy;have l1:=rv.length;have l2:=rv'.length;have out:∀{κ:Bool} {c:Addr} {xs:List V},Sq X.K κ H c xs->tW z TI TO j1 j2 c:=λhq=>
   ⟨I.sq_out hq<|hf z<|by simp,I.sq_out hq<|hf TI<|by simp,I.sq_out hq<|hf TO<|by simp,I.sq_out hq<|hf j1<|by simp,I.sq_out hq<|hf j2<|by simp⟩
  have hT:s.TypeIs (.ref z) "zip" :=⟨_,q1,rfl⟩
  unfold pyNext;refine Na<|wpAny_attempt (wpAny_callSpecial?_slot (name:=Str.ofString "__next__") hT F.slot_zip_next (Nx F.slot_zip_next hT F.entry_zip_next
   (HC (I.ok.hd hc) D (out hx) (out hy) q1 q2 q3 q4 q5 p p' (by rcases en with z|z;exact .inl (by simp;omega);exact .inr (by simp;omega)) λh' e k ⟨o,e1,e2⟩=>?_) (F.args_zip_next_1 _)))
  refine Na<|wpAny_isInstance (s:={ s with heap:=h' }) (T:= "StopIteration") (b:=true) ⟨o,e1,e2⟩ isSubtype_stop (Nc ⟨rfl,?_⟩);refine I.turnedL (t':=s.toks) [z,TI,TO,j1,j2] (λc o hc e=>?_) hf;simp only[Yan,eA,or_false,not_or]at hc;exact k c o hc.1 hc.2.2.1 hc.2.2.2.1 hc.2.2.2.2 e
 self:=λ_ _ _ _ _ st h=>wpAny_pyIter_zip st.1 h
def io(κ:Bool)(l:Addr):Obj:={ cls:=.type (match κ with|true=> "tuple_iterator" |false=> "list_iterator"),data:=.fields #[.ref l,.int 0 0] }
theorem A4{j:Addr}(e:h.get? j=some (io κ l)):SIt κ h j l 0:=by cases κ;all_goals exact⟨_,e,rfl,rfl⟩
theorem yy{E:Value->Shared->Prop}(hl:SSq κ s.heap l xs)(q:Q (.ref s.heap.objs.size) { s with heap:=s.heap.push (io κ l) }) :
  wpAny (model prog w) A (pyIter<|.ref l) Q E s:=by
 cases κ with
 |false=>exact NK hl q|true=>exact wpAny_pyIter_tuple hl q
abbrev vC(κ:Bool)(h:Heap)(l1:Addr):Heap:=h.push<|io κ l1
abbrev vD(κ κ':Bool)(h:Heap)(l1 l2:Addr):Heap:=(vC κ h l1).push<|io κ' l2
abbrev vE(κ κ':Bool)(h:Heap)(l1 l2:Addr):Heap:=(vD κ κ' h l1 l2).push { cls:=.type "tuple",data:=.seq #[.ref h.objs.size,.ref (vC κ h l1).objs.size] }
abbrev vF(κ κ':Bool)(h:Heap)(l1 l2:Addr):Heap:=(vE κ κ' h l1 l2).push { cls:=.type "tuple",data:=.seq #[.none,.none] }
abbrev nY(κ κ':Bool)(h:Heap)(l1 l2:Addr):Heap:=(vF κ κ' h l1 l2).push { cls:=.type "zip",data:=.fields #[.none,.bool false,.bool false,.ref (vD κ κ' h l1 l2).objs.size,.ref (vE κ κ' h l1 l2).objs.size] }
theorem HE(κ κ':Bool)(l1 l2:Addr)(xs ys:Array Value) :
  Meets (Builtin.«zip.__new__» ⟨[.type "zip",.ref l1,.ref l2],[]⟩) (λ_ R s=>SSq κ s.heap l1 xs/\SSq κ' s.heap l2 ys/\R (.ok<|.ret<|.ref (vF κ κ' s.heap l1 l2).objs.size) { s with heap:=nY κ κ' s.heap l1 l2 }):=
 .of_wp λprog w A R s h=>by
  obtain⟨hp,g,d,tk,os⟩:=s;obtain⟨hl1,hl2,h⟩:=h;have hsub:=sub_zip;have L1:SSq κ (Shared.heap ⟨hp,g,d,tk,os⟩) l1 xs:=hl1;have L2':SSq κ' (Shared.heap ⟨hp.push<|io κ l1,g,d,tk,os⟩) l2 ys:=hl2.keep λo e=>dB _ e
  wp_walk using yy L1,yy L2'
  exact⟨_,rfl,h⟩
theorem HF{E:Value->Shared->Prop}{l1 l2:Addr}{ys:Array Value}(hl1:SSq κ s.heap l1 xs)(hl2:SSq κ' s.heap l2 ys)
  (h:∀ h',IsZip h' (s.heap.objs.size+4) (s.heap.objs.size+2) (s.heap.objs.size+3) .none->IsPair h' (s.heap.objs.size+2) (.ref s.heap.objs.size) (.ref<|s.heap.objs.size+1)->
   IsPair h' (s.heap.objs.size+3) .none .none->SIt κ h' s.heap.objs.size l1 0->SIt κ' h' (s.heap.objs.size+1) l2 0->
   (∀c o,s.heap.get? c=some o->h'.get? c=some o)->Q (.ref<|s.heap.objs.size+4) { s with heap:=h' }) :
  wpAny (model prog w) A (call (.type "zip") [.ref l1,.ref l2]) Q E s:=by
 refine callType_new F.called_zip (by decide) (F.typeCall_zip_2 _ _) (F.newCall_zip_2 _ _) (λobj=>F.args_object_init_3 obj _ _) F.entry_zip_new (HE κ κ' l1 l2 xs ys) ⟨hl1,hl2,?_⟩;have z1:(vC κ s.heap l1).objs.size=s.heap.objs.size+1:=nS ..;have z2:(vD κ κ' s.heap l1 l2).objs.size=s.heap.objs.size+2:=by rw[nS,z1]
 have z3:(vE κ κ' s.heap l1 l2).objs.size=s.heap.objs.size+3:=by rw[nS,z2]
 have z4:(vF κ κ' s.heap l1 l2).objs.size=s.heap.objs.size+4:=by rw[nS,z3]
 have up5:∀{c o},(vF κ κ' s.heap l1 l2).get? c=some o->(nY κ κ' s.heap l1 l2).get? c=some o:=λe=>dB _ e;have up4:∀{c o},(vE κ κ' s.heap l1 l2).get? c=some o->(nY κ κ' s.heap l1 l2).get? c=some o:=λe=>up5<|dB _ e;have up3:∀{c o},(vD κ κ' s.heap l1 l2).get? c=some o->(nY κ κ' s.heap l1 l2).get? c=some o:=λe=>up4<|dB _ e;have up2:∀{c o},(vC κ s.heap l1).get? c=some o->(nY κ κ' s.heap l1 l2).get? c=some o:=λe=>up3<|dB _ e;have ob:∀κ l,(io κ l).isFreed=false:=λκ l=>rfl;have g5:(nY κ κ' s.heap l1 l2).get? (vF κ κ' s.heap l1 l2).objs.size=some _:=ia _ rfl;have g4:(nY κ κ' s.heap l1 l2).get? (vE κ κ' s.heap l1 l2).objs.size=some _:=up5<|ia _ rfl;have g3:(nY κ κ' s.heap l1 l2).get? (vD κ κ' s.heap l1 l2).objs.size=some _:=up4<|ia _ rfl;have g2:(nY κ κ' s.heap l1 l2).get? (vC κ s.heap l1).objs.size=some _:=up3<|ia _ (ob κ' l2);have g1:(nY κ κ' s.heap l1 l2).get? s.heap.objs.size=some _:=up2<|ia _ (ob κ l1);show _/\_;rw[z2,z3,z4]at g5;rw[z1,z2]at g3;rw[z3]at g4;rw[z1]at g2;rw[z4];exact⟨⟨_,g5,rfl⟩,h _ g5 g3 g4 (A4 g1) (A4 g2) λc o x=>up2<|dB _ x⟩
theorem HG(n:Nat):vB (n+4) (n+2) (n+3) n (n+1):=
 ⟨(by omega:n+2≠n+4),(by omega:n+3≠n+4),(by omega:n≠n+4),(by omega:n+1≠n+4),(by omega:n+2≠n+3),(by omega:n+2≠n),(by omega:n+2≠n+1),(by omega:n+3≠n),(by omega:n+3≠n+1),(by omega:n≠n+1)⟩
theorem A5(n b:Nat)(h:b=n+4\/b=n+2\/b=n+3\/b=n\/b=n+1):n<=b:=by omega
section
def A6(K:Nb)(ta:TA):TI:=λσ H R=>ta σ H λvs H1=>∃κ κ' a b,vs=[.ref a,.ref b]/\(∃xs,Sq K κ H1 a xs)/\(∃ys,Sq K κ' H1 b ys)/\R (DD K κ κ' a b) H1
theorem HH{a b:Expr}{ps:Pos}(hg:Gl X "zip")(hm:X.mg "zip" = none)(ha:PA X [a,b] ta)(hs:starEach [a,b] X.env=[(false,eval a X.env),(false,eval b X.env)]:=by rfl)(hs2:starEach [b] X.env=[(false,eval b X.env)]:=by rfl) :
  PI X (.Tuple es n1 ps) (.Call (.Name "zip" p) [a,b] [] pos) (A6 X.K ta):=by
 intro sa s σ H R I h;refine Call_<|eZ I hg hm boot_zip (PyProof.Rows.callWith_type1 (bC (ha pos sa s σ H _ I h) λus s1 ⟨vs,H1,I1,r1,q1⟩=>?_) (by rw[hs,hs2]) (by rw[hs2];rfl));obtain⟨κ,κ',l1,l2,e,⟨xs,hx⟩,⟨ys,hy⟩,q⟩:=q1;subst e;cases r1 with
 |cons r rr=>
  cases rr with
  |cons r' rr=>
   cases rr;cases r;cases r';obtain⟨its,rv,p1,hz⟩:=I1.sq hx;obtain⟨its',rv',p2,hz'⟩:=I1.sq hy;refine HF p1 p2 λh' a1 a2 a3 a4 a5 k=>wpAny_pyIter_zip (s:={ s1 with heap:=h' }) a1 ?_;have D:vB (s1.heap.objs.size+4) (s1.heap.objs.size+2) (s1.heap.objs.size+3) s1.heap.objs.size (s1.heap.objs.size+1):=HG _;refine⟨_,[s1.heap.objs.size+4,s1.heap.objs.size+2,s1.heap.objs.size+3,s1.heap.objs.size,s1.heap.objs.size+1],_,_,H1,rfl,I1.kept (t':=s1.toks) k,HD (κ:=κ) (κ':=κ') l1 l2 _ _ _ _ _ D,⟨a1,a2,⟨_,_,a3⟩,a4,a5⟩,λb hb=>?_,q⟩;have hb':s1.heap.objs.size<=b:=by
    simp only[Yan,eA,or_false]at hb;exact A5 _ _ hb
   exact I1.fpOk hb'<|I1.hok.fresh hb'
end
theorem DE{C:Addr}(X:K.In h)(q:PySem.W.excIn K C bmB newId=true) :
  ∃(bm:List Value) (N:Addr) (nm qn:Str) (bs:List Value) (hd:Bool) (sn:List Str) (sub:List Value) (ab:Bool) (col:Option Bool) (dd:Option Addr) (k0 k1 k2 k3 k5:Option Value) (mN:Str->Option Value),
   h.get? C=some (excClassObj nm qn C N bs bm hd sn sub ab col dd k0 k1 k2 k3 k5 newId)/\h.Ns N mN/\mN "__init__" = none/\OwnTail h bmB bm:=by
 unfold PySem.W.excIn at q;split at q
 .rename_i dd cd sl ho
  split at q
  .rename_i C' bm k0 k1 k2 k3 n k5 hm hs
   simp only[dQ,NE,tN]at q;obtain⟨⟨⟨⟨⟨rfl,rfl⟩,hdel⟩,ht⟩,hok⟩,hni⟩:=q;obtain⟨nm,bs,mro,ns,qn,hd,sn,sub,ab,col,del⟩:=cd;dsimp only at hm hdel hok hni;subst hm hdel;have hsl:sl = #[k0,k1,k2,k3,some<|.builtin n,k5]:=by
    cases sl with
    |mk l=>exact congrArg Array.mk hs
   subst hsl;exact⟨bm,ns,nm,qn,bs,hd,sn,sub,ab,col,dd,k0,k1,k2,k3,k5,_,X _ _ ho,.of_isNs<|PySem.W.isNs_of_in X hok,PySem.W.nsMap_none_of_in X hok hni,PySem.W.tail_of_in X ht⟩
  .cases q
 .cases q
section
variable{C:Addr}{np cpos:Pos}{B initId:String}
theorem HI(hr:lM X EX)(hc:X.calm=true)(hm:X.mg x=some (.ref C))(hq:PySem.W.excIn X.K C bmB newId=true)(FB:ExcBaseFacts B newId initId bmB)(hg:Gl X x:=by rfl)(hd:(x==("__debug__" : Str))=false:=by decide) :
  PS X (.Raise (some<|.Call (.Name x np) [] [] cpos) none pos) (λ_ _ H=>EX (.ref C) none H):=by
 intro sa s σ H D I h;obtain⟨bm,N,nm,qn,bs,hdc,sn,sub,ab,col,dd,k0,k1,k2,k3,k5,mN,hC,hN,hni,T⟩:=DE I.kIn hq;refine wpAny_Raise_call_subT (C:=C) (nm:=nm) (q:=qn) (N:=N) (bs:=bs) (bm:=bm) (hdct:=hdc) (sn:=sn) (sub:=sub) (ab:=ab) (col:=col) (dd:=dd) (k0:=k0) (k1:=k1) (k2:=k2) (k3:=k3) (k5:=k5)
  FB (mN:=mN) (T.hasType FB.hasBase) (I.ok.hd hc) rfl hni (ft I hg hm ⟨rfl,?_⟩ hd)
 exact evalArgs_empty ⟨rfl,iq _,hC,hN,T,λh' e hx=>hr sa σ H s h' e (.ref C) [] I hx h⟩
end
section
variable{H':Hp}{s':Shared}{B h2:Heap}
theorem Inv.fsStk(I:Inv X sa σ H s)(hb:b∈X.fs):b∈dc X.stack:=by
 rcases I.ok.stk with z|⟨z,_⟩
 rw[z];exact hb;rw[z];exact yv hb
theorem Inv.fly(I:Inv X sa σ H s)(hos:s'.os=s.os)(hbare:AllBare s'.gens)(un:Un (dc X.stack) [] H H' s.heap s'.heap)(hok:HOk X.prog X.w H' s'.heap)
  (hB:∀b o,s.heap.get? b=some o->b∉dc X.stack->∃o',B.get? b=some o') (hT:∀b u,H' b=some u->∃o,B.get? b=some o) (st1:B.StaysIn s'.heap) (st2:B.StaysIn h2) (up:s'.heap.UpToSlots h2)
  (frm:∀b∈dc X.stack,∃o,s'.heap.get? b=some o/\∀vs,o.data≠.fields vs):Inv X sa σ H' { s' with heap:=h2 }:=by
 have I':Inv X sa σ H' s':=I.call' hos un hok hbare (ch:=[])<|λb z=>Nd z (by simp);have nostk:∀b o,X.s₀.heap.get? b=some o->b∉X.fs->b∉dc X.stack:=λb o e hb hm=>by
  rcases Yan.mp (I.stkSub b hm) with z|z
  .have l1:=dm e
   have l2:=I.ok.above;rw[<-z]at l2;exact Nd (da l1 l2)<|iK _
  .exact hb z
 have inB:∀{b o},s.heap.get? b=some o->b∉dc X.stack->∀{u},s'.heap.get? b=some u->h2.get? b=some u:=λ{b o} e hb {u} q=>by
  obtain⟨o',eB⟩:=hB b o e hb;have:=st1 b o' eB;rw[q]at this;cases this;exact st2 b _ eB
 have cellK:∀c v,s'.heap.IsCell c v->h2.IsCell c v:=λc v ⟨o,ho,hd⟩=>by
  obtain⟨sl,e⟩:=up c o ho λvs z=>by rw[hd]at z;cases z
  exact⟨_,e,hd⟩
 refine⟨I'.ok,I'.os,I'.bare,⟨λb o e n hb hx=>?_,λb o e n hb hx=>?_,I'.base.free,λb o e hx=>?_,I'.base.tups,I'.base.frzs,I'.base.tbls,I'.base.sys⟩,?_,λx c e=>?_,I'.free,I'.freeC,λp hp=>?_,hok.through hT st1 st2,I'.len⟩
 .exact inB (I.base.keep b o e n hb hx) (nostk b o e hb)<|I'.base.keep b o e n hb hx
 .obtain⟨sl,e1⟩:=I'.base.slot b o e n hb hx
  obtain⟨o3,e3,nf⟩:=frm b<|I.fsStk hb;rw[e1]at e3;cases e3;obtain⟨sl2,e4⟩:=up b _ e1 nf;exact⟨sl2,e4⟩
 .obtain⟨o',e1⟩:=I'.base.there b o e hx
  by_cases hb:b∈dc X.stack
  .obtain⟨o3,e3,nf⟩:=frm b hb
   obtain⟨sl,e4⟩:=up b _ e3 nf;exact⟨_,e4⟩
  .obtain⟨o2,e2⟩:=I.base.there b o e hx
   exact⟨o',inB e2 hb e1⟩
 .obtain⟨m,hn,hl⟩:=I'.loc
  refine⟨m,up.ns hn,λi x v e1 e2 e3=>?_⟩;obtain⟨u,r,l⟩:=hl i x v e1 e2 e3;refine⟨u,r,?_⟩;rcases l with l|⟨k,c,e,z⟩
  .exact .inl l
  .exact .inr ⟨k,c,e,cellK c _ z⟩
 .obtain⟨v,z⟩:=I'.cell x c e
  exact⟨v,cellK c v z⟩
 .obtain⟨e,n,ne,nf,d⟩:=I'.pin p hp
  obtain⟨e0,n0,_⟩:=I.pin p hp;have hb:p.1∉dc X.stack:=λhm=>by
   rcases Yan.mp (I.stkSub _ hm) with z|z
   .exact ne z
   .exact nf z
  exact⟨inB e0 hb e,n,ne,nf,d⟩
theorem Inv.track{u:HO}(I:Inv X sa σ H s)(hn:H a=none)(h0:X.s₀.heap.get? a=none)(hL:a≠X.env.locals)(hC:∀x c,X.env.cells.lookup x=some c->c≠a)(hP:∀p∈X.pn++sa,p.1≠a)
  (new:ObjOk X.prog X.w (upd H a u) s.heap a u) (hu:∀us,u≠.lst us):Inv X sa σ (upd H a u) s:=by
 have nea:∀b v,H b=some v->b≠a:=λb v e z=>by rw[z,hn]at e;cases e
 refine ⟨I.ok,I.os,I.bare,⟨I.base.keep,I.base.slot,λb o e n hx=>?_,I.base.there,λb xs e=>?_,λb o xs e=>?_,λb ps e=>?_,λx0 e0 n ys=>by
   by_cases z:sysModules=a
   .rw[z,aO];exact λy=>hu ys (Ng y)
   .rw[aI z];exact I.base.sys x0 e0 n ys⟩,I.loc,I.cell,?_,λx c e=>?_,λp hp=>?_,λb v e=>?_,I.len⟩
 .rw[aI (λz=>by rw[z,h0]at e;cases e)]
  exact I.base.free b o e n hx
 .have:=I.base.tups b xs e
  rw[aI<|nea _ _ this];exact this
 .have:=I.base.frzs b o xs e
  rw[aI<|nea _ _ this];exact this
 .obtain⟨m,e1⟩:=I.base.tbls b ps e
  exact⟨m,by rw[aI<|nea _ _ e1];exact e1⟩
 .rw[aI<|Nm hL];exact I.free
 .rw[aI<|hC x c e];exact I.freeC x c e
 .obtain⟨e,n,r⟩:=I.pin p hp
  exact⟨e,by rw[aI<|hP p hp];exact n,r⟩
 .by_cases hb:b=a
  .subst hb;rw[aO]at e;cases e;exact new
  .rw[aI hb]at e
   exact(I.hok b v e).stay (λ_ _ _ q=>q) (λc q=>by rw[aI<|nea _ _ q];exact q) λc _ q=>by rw[aI<|nea _ _ q];exact q
end
abbrev Cx.tr(X:Cx)(E:Value->Shared->Prop)(sa:List (Addr×Obj)):Cx:={ X with xe:=E,pn:=X.pn++sa }
abbrev Cx.hnd(X:Cx)(e:Addr)(E:Value->Shared->Prop):Cx:={ X with A:=X.A.mark<|some<|.ref e,calm:=false,xe:=E }
section
variable{pins':List (Addr×Obj)}{E:Value->Shared->Prop}{e:Addr}
theorem Inv.tr(I:Inv X sa σ H s):Inv (X.tr E sa) [] σ H s:=⟨⟨I.ok.mod,I.ok.kind,I.ok.glob,I.ok.blt,I.ok.above,I.ok.inj,I.ok.has,I.ok.cab,I.ok.hd,I.ok.frames,I.ok.stk,I.ok.exf,I.ok.bs,I.ok.bsz,I.ok.noex,I.ok.exfs,I.ok.funs,I.ok.frf,I.ok.sys0⟩,I.os,I.bare,I.base,I.loc,I.cell,I.free,I.freeC,λp hp=>I.pin p<|by simpa using hp,I.hok,I.len⟩
def Inv.untr(I:Inv (X.tr E sa) pins' σ H s):Inv X sa σ H s:=⟨⟨I.ok.mod,I.ok.kind,I.ok.glob,I.ok.blt,I.ok.above,I.ok.inj,I.ok.has,I.ok.cab,I.ok.hd,I.ok.frames,I.ok.stk,I.ok.exf,I.ok.bs,I.ok.bsz,I.ok.noex,I.ok.exfs,I.ok.funs,I.ok.frf,I.ok.sys0⟩,I.os,I.bare,I.base,I.loc,I.cell,I.free,I.freeC,λp hp=>I.pin p<|Ab _ hp,I.hok,I.len⟩
theorem SP.untr{D:jO}{f:Flow}{s':Shared}(h:SP (X.tr E sa) pins' D f s'):SP X sa D f s':=by
 cases f with
 |next=>obtain⟨σ',H',I,q⟩:=h;exact⟨σ',H',I.untr,q⟩
 |brk=>obtain⟨σ',H',I,q⟩:=h;exact⟨σ',H',I.untr,q⟩
 |cont=>obtain⟨σ',H',I,q⟩:=h;exact⟨σ',H',I.untr,q⟩
 |ret u=>obtain⟨v,σ',H',I,r,q⟩:=h;exact⟨v,σ',H',I.untr,r,q⟩
theorem Inv.hnd(I:Inv X sa σ H s):Inv (X.hnd e E) sa σ H s:=⟨⟨I.ok.mod,I.ok.kind,I.ok.glob,I.ok.blt,I.ok.above,I.ok.inj,I.ok.has,I.ok.cab,(λz=>by cases z),I.ok.frames,I.ok.stk,I.ok.exf,I.ok.bs,I.ok.bsz,I.ok.noex,I.ok.exfs,I.ok.funs,I.ok.frf,I.ok.sys0⟩,I.os,I.bare,I.base,I.loc,I.cell,I.free,I.freeC,I.pin,I.hok,I.len⟩
def Inv.unhnd(hd:X.calm=true->X.A.handled=none)(I:Inv (X.hnd e E) sa σ H s):Inv X sa σ H s:=⟨⟨I.ok.mod,I.ok.kind,I.ok.glob,I.ok.blt,I.ok.above,I.ok.inj,I.ok.has,I.ok.cab,hd,I.ok.frames,I.ok.stk,I.ok.exf,I.ok.bs,I.ok.bsz,I.ok.noex,I.ok.exfs,I.ok.funs,I.ok.frf,I.ok.sys0⟩,I.os,I.bare,I.base,I.loc,I.cell,I.free,I.freeC,I.pin,I.hok,I.len⟩
end
theorem HJ{M:Model}{E:Value->Shared->Prop}{ea C Cs:Addr}{Q:Bool->Shared->Prop}(X:K.In s.heap)(hs:PySem.W.excIn K Cs bmB newId=true)(hbase:bmB.contains (.type "BaseException")=true)
  (he:∃oe,s.heap.get? ea=some oe/\oe.cls=.ref C) (hsub:PySem.W.mroIn K C (.ref Cs)=some true) (q:Q true s):wpAny M A (excMatches (.ref ea)<|.ref Cs) Q E s:=by
 obtain⟨bm,N,nm,qn,bs,hd,sn,sub,ab,col,dd,k0,k1,k2,k3,k5,mN,hC,hN,hni,T⟩:=DE X hs;obtain⟨oe,he,hcls⟩:=he;have hcB:(Value.ref Cs::bm).contains (.type "BaseException")=true:=by rw[List.contains_cons,T.hasType hbase,Bool.or_true]
 have f:=tc_notTuple;have LS:PySem.W.Looks M s.heap (isSubtype (.ref C)<|.ref Cs) true:=PySem.W.looks_mroIn X hsub;obtain⟨hh,g,d,tk,os⟩:=s;unfold excMatches
 repeat (first|(with_reducible refine wpAny_loadPart_at he ?_;rw[hcls])|with_reducible refine wpAny_loadPart_at hC ?_|(with_reducible refine wpAny_isSubtype_exc hC ?_;rw[hcB])|with_reducible refine LS.at ?_|wp_step)
 exact q
section
theorem Inv.names(I:Inv X sa σ H s)(hn:h'.Ns X.env.locals m)(hs:Heap.SameBut X.env.locals s.heap h'):Inv X sa (List.replicate σ.length none) H { s with heap:=h',toks:=t' }:=by
 have ne:∀b o,X.s₀.heap.get? b=some o->b≠X.env.locals:=λb o e=>gK<|da (dm e) I.ok.above;have same:∀b,b≠X.env.locals->h'.get? b=s.heap.get? b:=λb hb=>hs.2 b hb;have nH:∀b u,H b=some u->b≠X.env.locals:=λb u e z=>by rw[z,I.free]at e;cases e
 refine⟨I.ok,I.os,I.bare,⟨λb o e n hb hx=>?_,λb o e n hb hx=>?_,I.base.free,λb o e hx=>?_,I.base.tups,I.base.frzs,I.base.tbls,I.base.sys⟩,⟨m,hn,λi x v _ e2 _=>?_⟩,λx c e=>?_,I.free,I.freeC,λp hp=>?_,λb u e=>?_,by rw[nO];exact I.len⟩;show h'.get? b=_;rw[same b<|ne b o e];exact I.base.keep b o e n hb hx;obtain⟨sl,e1⟩:=I.base.slot b o e n hb hx;refine⟨sl,?_⟩;show h'.get? b=_;rw[same b<|ne b o e];exact e1;obtain⟨o',e1⟩:=I.base.there b o e hx;refine⟨o',?_⟩;show h'.get? b=_;rw[same b<|ne b o e];exact e1;rw[mz]at e2;split at e2<;>cases e2;obtain⟨v,o,ho,hd⟩:=I.cell x c e;refine⟨v,o,?_,hd⟩;show h'.get? c=_;rw[same c<|I.cne x c e];exact ho;obtain⟨e,n,nl,r⟩:=I.pin p hp;refine⟨?_,n,nl,r⟩;show h'.get? p.1=_;rw[same _ nl];exact e;refine(I.hok b u e).stay (λc v hc q=>?_) (λ_ q=>q) λ_ _ q=>q;show h'.get? c=_;rw[same c ?_];exact q;rcases hc with rfl|hc
 exact nH _ _ e;exact nH _ _ hc
end
structure RoomU(k:Nat)(A:Around):Prop where
 dp:A.depth+3*k+5<recursionLimit
 un:A.units+16*k+200<cLine
theorem RoomU.mono{j:Nat}(r:RoomU k A)(h:j<=k):RoomU j A:=⟨by have:=r.dp;omega,by have:=r.un;omega⟩
theorem RoomU.deeper{k:Nat}{A:Around}(r:RoomU (k+1) A)(env:Env):RoomU k (A.deeper env):=
 ⟨by have:=r.dp;show A.depth+1+3*k+5<_;omega,by have:=r.un;show A.units+3+16*k+200<_;omega⟩
theorem RoomU.depth{k:Nat}{A:Around}(r:RoomU k A):A.depth<recursionLimit:=by have:=r.dp;omega
theorem RoomU.units{k:Nat}{A:Around}(r:RoomU k A):A.units+64<cLine:=by have:=r.un;omega
def Room.u(r:Room k A):RoomU k A:=⟨r.dp,r.un⟩
def RoomU.mark{k:Nat}{A:Around}{v:Option Value}(r:RoomU k A):RoomU k (A.mark v):=⟨r.dp,r.un⟩
structure yz(P:Program)(w:World)(K:Nb)(mg:Str->Option Value)(base:Heap)(k:Nat)(f:Addr)(fd:FuncData)(ps:List Str)(sp:Sp):Prop where
 len:∀vs H Q E,sp vs H Q E->vs.length=ps.length
 run:∀(A:Around) (outer:List Env) (s:Shared) (H:Hp) (args:Args) (us:List Value) (vs:List V) (Q:VK) (E:XK),RoomU k A->lF P w K mg base A outer s H->BindsTo s fd args (ps.zip us)->Vals vs us->sp vs H Q E->
  codeAny (model P w) A (.call (.ref f) args) (CR Dx outer P w H s Q E) s
def sP(P:Program)(w:World)(K:Nb)(mg:Str->Option Value)(base:Heap)(N:List Str)(qual:Str)(scope:Scope)(f:Addr)(cd:Value)(A:Around)(outer:List Env)(s:Shared)(H:Hp):Cx:=
 { eG Dx P w K mg base N qual scope f cd A outer s H E0 with calm:=false,xe:=λ_ _=>False }
theorem HK{base:Heap}{s1:Shared}{vs:List V}
  (S:c6 N ps scope) (e0:lF P w K mg base A outer s H) (hl:vs.length=ps.length) (r:Vals vs us)
  (x:InCallC s s.heap.objs.size (bindL (envOfC qual scope s.heap.objs.size f cd).kindOf (ps.zip us) λ_=>none) (cellsFrom (s.heap.objs.size+1) scope.names []) (bindC (envOfC qual scope s.heap.objs.size f cd).kindOf (ps.zip us) λ_=>none) s1) :
  Inv (sP P w K mg base N qual scope f cd A outer s H) [] (start N vs) H s1:=by
 have hpl:ps.length<=N.length:=by have:=congrArg List.length S.pre;rw[jL]at this;omega
 obtain⟨h1,tk,rfl,hk⟩:=x.done;have noA:∀b:Addr,b∉(sP P w K mg base N qual scope f cd A outer s H).ex:=λb z=>Nd (show b∈([]:List Addr) from z) (by simp);refine ⟨⟨e0.mod,S.kind,rfl,rfl,cF _,λy z c h1 h2=>?_,λy hy=>?_,λy c _ h=>?_,(λz=>by cases z),Around.frames_deeper e0.frames,.inr ⟨rfl,rfl⟩,λb z=>Nd z<|noA b,e0.bs,e0.bsz,λb _ _=>noA b,λb z=>Nd z<|noA b,e0.funs,e0.frf,e0.sysn⟩,
  rfl,e0.bare,Un.kept hk,⟨_,x.toInCall.ns,λi y v h1 h2 h3=>?_⟩,λy c h=>⟨_,x.cell y c h⟩,e0.hok.fresh<|cF _,λy c h=>?_,λp hp=>Nd (show p∈([]:List (Addr×Obj)) from hp)<|by simp,e0.hok.kept hk,?_⟩
 .exact name_of_addr x.apart (Nl h1)<|Nl h2
 .have hy:scope.names.lookup y=some .cell\/scope.names.lookup y=some .free:=hy
  rcases hy with hy|hy
  .exact eH hy
  .exact Nd rfl<|S.nofree _ (Nl hy)
 .exact kO<|x.above y c (Nl h)
 .have hi:i<vs.length:=by
   unfold start at h2
   by_cases hi:i<vs.length
   .exact hi
   .rw[jZ<|by simpa using hi]at h2
    rw[mz]at h2;split at h2<;>cases h2
  have ha:vs[i]? = some v:=by
   unfold start at h2;rw[kQ<|by simpa using hi,cH]at h2;cases e:vs[i]? with
   |none=>rw[e]at h2;cases h2
   |some a=>rw[e]at h2;cases h2;rfl
  obtain⟨u,hu,rv⟩:=r.get ha;have hp:ps[i]? = some y:=by
   rw[<-S.pre,Ac<|by omega];exact h1
  have ndP:ps.Nodup:=by rw[<-S.pre];exact S.nd.sublist<|List.take_sublist _ _
  refine⟨u,rv,?_⟩;rcases S.par y (jy hp) with k|k
  .exact .inl ⟨k,fV ndP hp hu k⟩
  .obtain⟨c,e⟩:=eH (n:=s.heap.objs.size+1) k
   refine .inr ⟨.inl k,c,e,?_⟩;have q:=x.cell y c e;rw[fW ndP hp hu (by show scope.names.lookup y≠_;rw[k];decide)]at q;exact q
 .exact e0.hok.fresh<|kO (x.above y c<|Nl h)
 .unfold start
  show _=N.length;rw[dG,bG,nO];omega
theorem Fun.okU{base:Heap}{st:Stmt}{sp:Sp}(F:Fun K x qual st f fd)(S:c6 N ps (aK st))(len:∀vs H Q E,sp vs H Q E->vs.length=ps.length)
  (hbody:∀ (cdv:Value) (A:Around) (outer:List Env) (s:Shared) (H:Hp) (vs:List V) (Q:VK) (E:XK),RoomU k (A.deeper<|envOfC qual (aK st) s.heap.objs.size f cdv)->sp vs H Q E->
   ∃t,l7 (sP P w K mg base N qual (aK st) f cdv A outer s H) (bR st) t/\t { nx:=λ_ H'=>Q .non H',rt:=Q } (start N vs) H):yz P w K mg base (k+1) f fd ps sp:=by
 obtain⟨oc,od,kV,doc,pm,an,cdv,ct,osl,rfl,lk,hcd⟩:=F.ex;refine⟨len,λA outer s H args us vs Q E hr e0 hb r hsp=>?_⟩;have hl:=len _ _ _ _ hsp;have KX:K.In s.heap:=e0.mod.kin.keeps λb o e=>(e0.bs b o e).1;have lim:s.heap.NoLimit:=e0.mod.nolimit.keeps λb o e=>(e0.bs b o e).1;have hkind:∀y∈ps.zip us,(aK st).names.lookup y.1=some .local\/((aK st).names.lookup y.1=some .cell/\((cellsFrom (s.heap.objs.size+1) (aK st).names []).lookup y.1).isSome=true):=λ⟨n,v⟩ hy=>by
  rcases S.par n (xM hy).1 with q|q
  .exact .inl q
  .exact .inr ⟨q,PySem.W.cellsFrom_some _ _ _<|.inl q⟩
 refine codeAny_call_function hr.depth (KX _ _ lk) rfl S.co S.gen rfl (PySem.W.codeRec_of KX hcd)<|hb _ _ _ _ ?_;refine wpAny_newFunctionEnv_cells S.kind hkind λenv he s1 x=>?_;subst he;refine⟨lim.keeps x.toInCall.keep,codeAny_func ?_⟩;obtain⟨t,ht,hq⟩:=hbody cdv A outer s H vs Q E (hr.deeper _) hsp;have I:Inv (sP P w K mg base N qual (aK st) f cdv A outer s H) [] (start N vs) H s1:=HK S e0 hl r x;refine Nk (ht [] s1 (start N vs) H _ I hq) (λfl s' hs=>?_) λe s' hs=>hs.elim;have fin:∀{σ':St} {H':Hp} {v:V} {u:Value},Inv (sP P w K mg base N qual (aK st) f cdv A outer s H) [] σ' H' s'->RelV v u->Q v H'->CE outer P w H s Q u s':=
  λ{σ' H' v u} J rv q=>⟨v,H',J.os,J.bare,J.base,J.hok,rv,q⟩
 cases fl with
 |ret u=>
  obtain⟨v,σ',H',J,rv,q⟩:=hs;exact fin J rv q
 |next=>
  obtain⟨σ',H',J,q⟩:=hs;exact fin (v:=V.non) (u:=Value.none) J rfl q
 |brk=>
  obtain⟨_,_,_,q⟩:=hs;exact Nr q
 |cont=>
  obtain⟨_,_,_,q⟩:=hs;exact Nr q
section
variable{sp:Sp}{E:XK}{t:TA}
theorem HL(F:yz X.prog X.w X.K X.mg X.base k f fd ps sp)(hr:RoomU k X.A)(hg:Gl X x)(hm:X.mg x=some (.ref f))(hk:PySem.W.keepIn X.K (.ref f)=true)(hb:Binds X.K fd ps [])
  (ha:PA X (e::es) t) (hdb:(x==("__debug__" : Str))=false:=by decide) (he:starEach (e::es) X.env=(false,eval e X.env)::starEach es X.env:=by rfl) (hpl:(backTo pos<|starEach es X.env).any (·.1)=false:=by rfl) :
  PE X (.Call (.Name x p) (e::es) [] pos) (qK sp [] E t):=by
 have F':∀(sa:List (Addr×Obj)) (σ:St) (H:Hp) (s:Shared) (Q:VK) (us:List Value) (vs:List V),Inv X sa σ H s->Vals vs us->sp (vs++[]) H Q E->wpAny (model X.prog X.w) X.A (call (.ref f) us) (EP X sa σ Q) X.xe s:=by
  intro sa σ H s Q us vs I r h;have r2:Vals (vs++[]) (us++[]):=by simpa using r
  have hl:(us++[]).length=ps.length:=by rw[<-r2.length];exact F.len _ _ _ _ h
  refine wpAny_call<|codeAny_mono (F.run X.A X.stack s H ⟨us,[]⟩ (us++[]) (vs++[]) Q E hr I.env0 (hb s us I.kIn hl) r2 h) λr s' hq=>?_;cases r with
  |error e=>exact Nr hq
  |ok fl=>
   cases fl with
   |ret u=>exact I.after hq|next=>exact Nr hq|brk=>exact Nr hq|cont=>exact Nr hq
 intro sa s σ H Q I h;refine NH<|ft I hg hm ?_ hdb;refine PySem.W.callWith_K (h₀:=X.base) I.ok.mod.kin hk (bC (ha pos sa s σ H _ I h) λus s1 ⟨vs,H1,I1,r,q⟩=>⟨I1.kIn,?_⟩) he hpl;exact F' sa σ H1 s1 Q us vs I1 r q
end
section
open PySem PySem.Spec PySem.Calls PyProof.Rows PySem.W Builtin Builtin.ObjectAttr Builtin.Getset_descriptor
def XAt(h:Heap)(x C:Addr):Prop:=∃ox,h.get? x=some ox/\ox.cls=.ref C/\notCls ox=true
structure iy(K:Frag)(D:Addr):Prop where
 ga:findIn K (.ref D) "__getattribute__" = some (some<|.builtin "BaseException.__getattribute__")
 gn:findIn K (.ref D) "__getattr__" = some none
 be:mroIn K D (.type "BaseException")=some true
 is:(clsIn K D).isSome=true
 at':findIn K (.ref D) "__class__" = some (some<|.builtin "object.__class__")
 gt:specialIn K (.builtin "object.__class__") "__get__" = some (some<|.builtin "getset_descriptor.__get__")
 tk:takesIn K (.builtin "object.__class__")=some true
 ob:mroIn K D (.type "object")=some true
section
variable{E:Value->Shared->Prop}{K:Frag}{x D:Addr}
theorem XAt.type{M:Model}(I:XAt h x D):Looks M h (typeOf<|.ref x) (.ref D):=by obtain⟨ox,h1,h2,_⟩:=I;exact h2▸(Looks.ld h1).andThen .now
theorem HM{M:Model}(X:K.In h)(c:iy K D):Looks M h (find (.ref x) (.ref D) "__class__") (.bind (.builtin "getset_descriptor.__get__")<|.builtin "object.__class__"):=by have L1:=looks_findIn (M:=M) X c.at';have L2:Looks M h (getOf<|some<|.builtin "object.__class__") (some<|.builtin "getset_descriptor.__get__"):=looks_specialIn X c.gt;have L3:=looks_takesIn (M:=M) X c.tk;refine L1.andThen<|L2.andThen ?_;exact(show Looks M h (dataDescriptor? (some<|.builtin "object.__class__")<|some<|.builtin "getset_descriptor.__get__") (some (.builtin "getset_descriptor.__get__",.builtin "object.__class__")) from L3.andThen .now).andThen<|Looks.tag .now
theorem HN{tp:Value}{R:Result->Shared->Prop}(X:K.In s.heap)(I:XAt s.heap x D)(hm:mroIn K D (.type "object")=some true)
  (h:R (.ok<|.ret<|.ref D) s):codeAny (model prog w) A (.call (.builtin "getset_descriptor.__get__") ⟨[.builtin "object.__class__",.ref x,tp],[]⟩) R s:=by
 obtain⟨hh,g,dr,t,os⟩:=s;have L0:=I.type (M:=model prog w);have L1:=looks_mroIn (M:=model prog w) X hm;refine codeAny_call_builtin KF.slot_gs.plain KF.entry_gs<|KF.slot_gs.check _ _ _ _ _ _ _ _ KF.type_class (KF.args_gs _ _ _) ?_;unfold Builtin.«getset_descriptor.__get__» descrGet;rw[dga_obj];refine Na<|Nc ?_;unfold descrGetter descrCheckInstance descrNameAndClass isInstance;simp only[KF.owner_class]
 repeat lk
 refine⟨Code.quiet_builtin _<|by decide +kernel,codeAny_builtin KF.entry_class ?_⟩;unfold Builtin.«object.__class__» shownTypeOf
 repeat lk
 exact h
theorem HP{M:Model}{nameV:Value}{Q:Unit->Shared->Prop}(X:K.In s.heap)(I:XAt s.heap x D)(c:iy K D)(hq:Q () s):wpAny M A (checkBuiltinCall "BaseException.__getattribute__" ⟨[.ref x,nameV],[]⟩) Q E s:=by
 have hk:builtinKind "BaseException.__getattribute__" = some .slot:=by decide +kernel
 have hsplit:splitId "BaseException.__getattribute__" = some ("BaseException", "__getattribute__"):=by decide +kernel
 have ha:=PySem.F.args_bexc_ga (.ref x) nameV;have L0:=I.type (M:=M);have L1:=looks_mroIn (M:=M) X c.be;simp only[checkBuiltinCall,hk,hsplit];refine Na ?_;unfold isInstance;refine Na<|L0.at (L1.at ?_)
 repeat (first|assumption|wp_step)
theorem HQ{Q:Fin->Shared->Prop}(X:K.In s.heap)(I:XAt s.heap x D)(c:iy K D)(hq:Q (.done<|.ret<|.ref D) s) :
  wpAny (model prog w) A (Builtin.«object.__getattribute__» ⟨[.ref x,.str "__class__" tk],[]⟩) Q E s:=by
 obtain⟨hh,g,d,t,os⟩:=s;have L0:=I.type (M:=model prog w);have L2:=HM (x:=x) (M:=model prog w) X c
 repeat (any_goals (first|assumption|(with_reducible refine L0.at ?_)|(with_reducible refine L2.at ?_)|wp_step))
 exact HN (K:=K) (s:=⟨hh,g,d,t,os⟩) X I c.ob<|Nc hq
def vG{R:Result->Shared->Prop}(X:K.In s.heap)(I:XAt s.heap x D)(c:iy K D)(hq:R (.ok<|.ret<|.ref D) s) :
  codeAny (model prog w) A (.call (.builtin "BaseException.__getattribute__") ⟨[.ref x,.str "__class__" tk],[]⟩) R s:=
 codeAny_call_builtin PySem.F.attr_ValueError.ga.plain PySem.F.entry_bexc_ga (HP X I c<|HQ X I c hq)
theorem HR{Q:Option Value->Shared->Prop}(X:K.In s.heap)(I:XAt s.heap x D)(c:iy K D)(h:Q (some<|.ref D) { s with toks:=s.toks+1 }):wpAny (model prog w) A (getAttr? (.ref x) "__class__") Q E s:=by
 obtain⟨hh,g,d,t,os⟩:=s;have L0:=I.type (M:=model prog w);have L1:=looks_findIn (M:=model prog w) X c.ga;have L3:=looks_findIn (M:=model prog w) X c.gn;have f3:=PySem.F.attr_ValueError.ga.bind<|.ref x;have hx2:(Value.builtin "BaseException.__getattribute__" == Value.builtin "object.__getattribute__")=false:=by decide +kernel
 have hx1:(onTheHeap (Value.ref D)&&Value.builtin "BaseException.__getattribute__" == Value.builtin "object.__getattribute__")=false:=by rw[hx2];rfl
 unfold getAttr? getAttrBy?;repeat (any_goals (first|assumption|(with_reducible refine L0.at ?_)|(with_reducible refine L1.at ?_)|(with_reducible refine L3.at ?_)|wp_step))
 exact vG (K:=K) (s:=⟨hh,g,d,t+1,os⟩) X I c<|handed_on rfl (Nc h)
theorem DF(c:iy K D):KitX K (.ref x) (.ref D) (λh=>XAt h x D) where
 ty:=λ_ _ _ I=>I.type
 it:=λ_ _ X _=>by
  have hcD:=c.is;unfold clsIn at hcD;split at hcD;rename_i c' d' cd' sl' ho;intro A' Q' E' s' k q;unfold isType loadHead;exact Na<|wpAny_loadPart (k _ _<|X _ _ ho) (Nc q)
  cases hcD
 ne:=λh tp dd its n sl X htp=>by
  have hcD:=c.is;refine Ybq.mpr λq=>?_;have e:D=tp:=Value.ref.inj<|beq_iff_eq.mp q;subst e;unfold clsIn at hcD;split at hcD
  rename_i c' d' cd' sl' ho;have z:=(X _ _ ho).symm.trans htp;cases z;cases hcD
 ca:=λX I k=>HR X I c k
end
end
theorem HS:fillsNumberSlot (.type "tuple") "mul" = pure false:=
 PySem.fillsNumberSlot_seq (id:= "tuple.__mul__") (r:=some<|.builtin "tuple.__rmul__") PySem.F.slot_tuple_mul.lookup (by decide +kernel) PySem.F.slot_tuple_rmul.lookup (by decide +kernel)
theorem HU:seqRepeat? (.type "tuple")=pure (some<|.builtin "tuple.__mul__"):=by unfold seqRepeat?;rw[PySem.seqSlot_of (T:= "tuple") (name:= "__mul__") (id:= "tuple.__mul__") PySem.F.slot_tuple_mul.lookup<|by decide +kernel,PySem.seqSlot_of (T:= "tuple") (name:= "__rmul__") (id:= "tuple.__rmul__") PySem.F.slot_tuple_rmul.lookup<|by decide +kernel];rfl
theorem HV(a:Int)(t:Tok)(l:Addr)(items:Array Value)(n:Nat)(dd:Option Addr)(sl:Array (Option Value)) :
  Meets (Builtin.«int.__rmul__» ⟨[.int a t,.ref l],[]⟩) (λ_ R s=>s.heap.get? l=some { cls:=.type "tuple",dict:=dd,data:=.seq items n,slots:=sl }/\R (.ok<|.ret Value.notImplemented) s):=
 .of_wp λprog w A R s h=>by obtain⟨hp,g,d,tk,os⟩:=s;obtain⟨hl,h⟩:=h;wp_walk;exact⟨_,rfl,h⟩
theorem HW(l:Addr)(items:Array Value)(n:Nat)(dd:Option Addr)(sl:Array (Option Value))(k:Int)(t:Tok)(h1:-(2^63)<=k)(h1':k<2^63)(h2:(items.isEmpty||k==1)=true) :
  Meets (Builtin.«tuple.__mul__» ⟨[.ref l,.int k t],[]⟩) (λ_ R s=>s.heap.get? l=some { cls:=.type "tuple",dict:=dd,data:=.seq items n,slots:=sl }/\R (.ok<|.ret<|Value.ref l) s):=by
 intro prog w A R s h;obtain⟨hp,g,d,tk,os⟩:=s;obtain⟨hl,h⟩:=h;have f1:=AutoSeq1.idx_int;have c1:¬(decide (k < -2^63)||decide (k ≥ 2^63))=true:=by simp;omega
 unfold Builtin.«tuple.__mul__»
 wp_walk using wpAny_loadPart' hl
 rw[ks c1]
 wp_walk using wpAny_loadPart' hl
 exact h
theorem HX(l:Addr)(items:Array Value)(n:Nat)(dd:Option Addr)(sl:Array (Option Value))(k:Int)(t:Tok)(h1:-(2^63)<=k)(h1':k<2^63)(h2:¬(items.isEmpty||k==1)=true)(h3:k<=0) :
  Meets (Builtin.«tuple.__mul__» ⟨[.ref l,.int k t],[]⟩) (λ_ R s=>s.heap.get? l=some { cls:=.type "tuple",dict:=dd,data:=.seq items n,slots:=sl }/\R (.ok<|.ret<|Value.ref s.heap.objs.size) { s with heap:=s.heap.push { cls:=Value.type "tuple",data:=Data.seq #[] } }):=by
 intro prog w A R s h;obtain⟨hp,g,d,tk,os⟩:=s;obtain⟨hl,h⟩:=h;have f1:=AutoSeq1.idx_int;have c1:¬(decide (k < -2^63)||decide (k ≥ 2^63))=true:=by simp;omega
 have c2:(decide (k<=0)||items.isEmpty)=true:=by simp[h3]
 unfold Builtin.«tuple.__mul__»
 wp_walk using wpAny_loadPart' hl
 rw[ks c1]
 wp_walk using wpAny_loadPart' hl
 exact h
theorem HY(l:Addr)(items:Array Value)(n:Nat)(dd:Option Addr)(sl:Array (Option Value))(k:Int)(t:Tok)(h1:-(2^63)<=k)(h1':k<2^63)(h2:¬(items.isEmpty||k==1)=true)(h3:0<k)(h4:items.size*k.toNat<=sizeLine) :
  Meets (Builtin.«tuple.__mul__» ⟨[.ref l,.int k t],[]⟩) (λ_ R s=>s.heap.get? l=some { cls:=.type "tuple",dict:=dd,data:=.seq items n,slots:=sl }/\R (.ok<|.ret<|Value.ref s.heap.objs.size) { s with heap:=s.heap.push { cls:=Value.type "tuple",data:=Data.seq (List.foldl (λx1 x2=>x1++x2) #[] (List.replicate k.toNat items)) } }):=by
 intro prog w A R s h;obtain⟨hp,g,d,tk,os⟩:=s;obtain⟨hl,h⟩:=h;have f1:=AutoSeq1.idx_int;have c1:¬(decide (k < -2^63)||decide (k ≥ 2^63))=true:=by simp;omega
 have c2:¬(decide (k<=0)||items.isEmpty)=true:=by
  have:items.isEmpty=false:=by cases q:items.isEmpty<;>simp_all
  simp[this];omega
 have hk:(items.size:Int)*k=((items.size*k.toNat:Nat):Int):=by rw[Int.natCast_mul,xQ<|by omega]
 have hsl:(sizeLine:Nat)=2^24:=rfl;have c3:¬((items.size:Int)*k>(2^63-1)/8):=by rw[hk];omega
 have c4:¬Builtin.Tuple.tupleTooMany ((items.size:Int)*k)=true:=λz=>by have z':=NB z;rw[hk]at z';omega
 unfold Builtin.«tuple.__mul__»
 wp_walk using wpAny_loadPart' hl
 rw[ks c1]
 wp_walk using wpAny_loadPart' hl
 rw[ks c3]
 wp_walk using wpAny_loadPart' hl
 rw[ks c4]
 wp_walk using wpAny_loadPart' hl
 have hnew:List.foldl (λx1 x2=>x1++x2) #[] (List.replicate k.toNat items)=(List.replicate k.toNat items.toList).flatten.toArray:=by
  have:=eO items.toList k.toNat [];rw[dC]at this;simpa using this
 have c5:¬((List.foldl (λx1 x2=>x1++x2) #[] (List.replicate k.toNat items)).size>sizeLine):=by
  rw[hnew,eu,jm,xK,Nat.mul_comm];omega
 rw[ks c5]
 wp_walk using wpAny_loadPart' hl
 exact h
section
def Inv.tnew{its:List Value}(I:Inv X sa σ H s)(hv:Vals ys its)(hz:ys.length<=sizeLine) :
  Inv X sa σ (upd H s.heap.objs.size<|.tup ys) { s with heap:=s.heap.push { cls:=.type "tuple",data:=.seq its.toArray },toks:=t' }:=
 I.laid (λ_ _ q=>dB _ q) (cF _) ⟨hz,its,hv,IsTup.new _ _⟩
def vH(K:Nb):R2:=λx y H Q=>∃l k xs,x=.ref l/\y=.int k/\SqT K H l xs/\-(2^63)<=k/\k<2^63/\xs.length*k.toNat<=sizeLine/\
 ((xs=[]\/k=1)->Q (.ref l) H)/\∀p,H p=none->Q (.ref p) (upd H p<|.tup (List.replicate k.toNat xs).flatten)
theorem HZ:OpR X (binaryOp .Mult) (vH X.K):=by
 intro sa s σ H x y v u Q I rx ry h;obtain⟨l,k,xs,rfl,rfl,hq,h1,h2,hz,q1,q2⟩:=h;cases rx;obtain⟨t,rfl⟩:=ry;obtain⟨its,r,pl,_⟩:=I.tuple hq;have hl:xs.length=its.length:=r.length;obtain⟨⟨cls,dd,data,sl⟩,ho,hc,n,hd⟩:=id pl;simp only at hc hd;subst hc hd;refine wpAny_binaryOp_repeat_ref (T:= "tuple") (U:= "int") (by decide) ⟨_,ho,rfl⟩ (λs'=>typeIs_int s' k t) HS PySem.F.fills_int_mul PySem.F.slot_int_rmul HU PySem.F.slot_int_index.lookup
  (call_meets PySem.F.slot_int_rmul (typeIs_int s k t) PySem.F.entry_int_rmul (PySem.F.args_int_rmul_2 _ _) (HV k t l its.toArray n dd sl) ⟨ho,rfl,⟨_,ho,rfl⟩,?_⟩)
 by_cases hs:(its.toArray.isEmpty||k==1)=true;refine call_meets PySem.F.slot_tuple_mul ⟨_,ho,rfl⟩ PySem.F.entry_tuple_mul (PySem.F.args_tuple_mul_2 _ _) (HW l its.toArray n dd sl k t h1 h2 hs) ⟨ho,⟨.ref l,H,I,rfl,q1 ?_⟩⟩;rw[Ae]at hs;rcases hs with hs|hs
 exact .inl<|r.nil_iff.mp (by simpa using hs)
 exact .inr<|beq_iff_eq.mp hs
 by_cases h3:k<=0;refine call_meets PySem.F.slot_tuple_mul ⟨_,ho,rfl⟩ PySem.F.entry_tuple_mul (PySem.F.args_tuple_mul_2 _ _) (HX l its.toArray n dd sl k t h1 h2 hs h3) ⟨ho,⟨.ref _,_,I.tnew (its:=[]) (ys:=(List.replicate k.toNat xs).flatten) (t':=s.toks) ?_ ?_,rfl,q2 _ I.fresh⟩⟩;rw[show k.toNat=0 by omega];exact .nil;rw[show k.toNat=0 by omega];exact iq _;have hnew:List.foldl (λx1 x2=>x1++x2) #[] (List.replicate k.toNat its.toArray)=(List.replicate k.toNat its).flatten.toArray:=by have:=eO its k.toNat [];rw[dC]at this;exact this
 refine call_meets PySem.F.slot_tuple_mul ⟨_,ho,rfl⟩ PySem.F.entry_tuple_mul (PySem.F.args_tuple_mul_2 _ _) (HY l its.toArray n dd sl k t h1 h2 hs (by omega) (by rw[eu,<-hl];exact hz)) ⟨ho,?_⟩;rw[hnew];exact⟨.ref _,_,I.tnew (t':=s.toks) (r.rep k.toNat) (by rw[jm,Nat.mul_comm];exact hz),rfl,q2 _ I.fresh⟩
end
def Ia(h:Heap)(hb:sysModules<h.objs.size):ObjOk P w H (h.push { cls:=.type "dict",data:=.dict #[] }) h.objs.size (.dK []):=
 ⟨iq _,beq_eq_false_iff_ne.mpr<|Nm<|gK hb,[],.nil,Heap.DictOf.new h⟩
theorem Ib:PE X (.Dict [] [] pos) (λ_ H Q=>∀p,H p=none->Q (.ref p) (upd H p<|.dK [])):=λsa s σ H Q I h=>
 wpAny_Dict_empty ⟨.ref s.heap.objs.size,_,I.laid (a:=s.heap.objs.size) (o:=.dK []) (t':=s.toks) (λ_ _ q=>dB _ q) (cF _)<|Ia s.heap<|xI (by decide) (I.mod.glob.keeps I.bk).lt,rfl,h _<|I.hok.fresh<|cF _⟩
theorem Ic(hh:A.handled=none)(it l:Addr)(hne:l≠it)(xs:Array Value):Draws prog w A it [it,l] xs.size (λi v=>xs[i]? = some v) (λi h=>SIt κ h it l i/\SSq κ h l xs) where
 live:=λ_ _ st=>let⟨o,ho,_⟩:=st.1.obj;⟨o,ho⟩
 frame:=λ_ _ _ st hk=>⟨st.1.keep λo e=>hk it (by simp) o e,st.2.keep λo e=>hk l (by simp) o e⟩
 item:=λi s Q E hi st hQ=>yw st.1 st.2 (x:=xs[i]) (by simp[hi]) λh' hit' hs'=>hQ _ h' s.toks (by simp[hi]) ⟨hit',st.2.keep λo e=>hs'.extBut l o hne e⟩ hs'
 done:=λs Q E st hE=>yx hh st.1 st.2 (by simp) hE
theorem Id(hh:A.handled=none)(it l:Addr)(xs:Array Value)(n:Nat)(hn:xs[n]? = none):Draws prog w A it [it,l] n (λ_ _=>False) (λj h=>j=n/\SIt κ h it l n/\SSq κ h l xs) where
 live:=λ_ _ st=>let⟨o,ho,_⟩:=st.2.1.obj;⟨o,ho⟩
 frame:=λ_ _ _ st hk=>⟨st.1,st.2.1.keep λo e=>hk it (by simp) o e,st.2.2.keep λo e=>hk l (by simp) o e⟩
 item:=λi s Q E hi st hQ=>Nd st.1<|gK hi
 done:=λs Q E st hE=>yx hh st.2.1 st.2.2 hn hE
abbrev yA(κ:Bool)(h:Heap)(l:Addr):Heap:=h.push<|io κ l
abbrev A7(κ:Bool)(h:Heap)(l:Addr):Heap:=(yA κ h l).push { cls:=.type "enumerate",data:=.fields #[.none,.bool false,.ref h.objs.size,rawInt 0,.none,.none] }
theorem Ie(l:Addr)(xs:Array Value)(n:Nat)(dct:Option Addr)(sl:Array (Option Value)) :
  Meets (Builtin.«enumerate.__new__» ⟨[.type "enumerate",.ref l],[]⟩) (λ_ R s=>s.heap.get? l=some { cls:=.type "tuple",dict:=dct,data:=.seq xs n,slots:=sl }/\R (.ok<|.ret<|.ref (yA true s.heap l).objs.size) { s with heap:=A7 true s.heap l }):=
 .of_wp λprog w A R s h=>by
  obtain⟨hp,g,d,tk,os⟩:=s;obtain⟨hl,h⟩:=h;have hsub:=sub_enumerate;have hT:SSq true (Shared.heap ⟨hp,g,d,tk,os⟩) l xs:=(show Heap.IsTuple _ l xs from⟨_,hl,rfl,n,rfl⟩)
  wp_walk using AutoSeq1.wpAny_loadPart' hl
  refine wpAny_stack_any λst=>(Nc ?_);split
  .rename_i c _ _ _ _ _
   cases(c==Value.type "enumerate")<;>(wp_walk using AutoSeq1.wpAny_loadPart' hl,yy hT;exact⟨_,rfl,h⟩)
  .wp_walk using AutoSeq1.wpAny_loadPart' hl,yy hT
   exact⟨_,rfl,h⟩
theorem Ig{E:Value->Shared->Prop}(hL:SSq κ s.heap l xs)
  (h:∀h',IsEnum h' (s.heap.objs.size+1) s.heap.objs.size 0 .none->SIt κ h' s.heap.objs.size l 0->(∀b o,s.heap.get? b=some o->h'.get? b=some o)->Q (.ref<|s.heap.objs.size+1) { s with heap:=h' }) :
  wpAny (model prog w) A (call (.type "enumerate") [.ref l]) Q E s:=by
 cases κ with
 |false=>exact call_enumerate_list hL λh' he hi _ hk=>h h' he hi hk
 |true=>
  obtain⟨⟨c,dct,dt,sl⟩,hl,hc,n,hd⟩:=(show s.heap.IsTuple l xs from hL)
  replace hc:c=.type "tuple" :=hc;replace hd:dt=.seq xs n:=hd;subst hc hd;refine callType_new F.called_enumerate (by decide) (F.typeCall_enumerate_1 _) (F.newCall_enumerate_1 _) (λobj=>F.args_object_init_2 obj _) F.entry_enumerate_new (Ie l xs n dct sl) ⟨hl,?_⟩;have hz:(yA true s.heap l).objs.size=s.heap.objs.size+1:=nS ..;have g2:(A7 true s.heap l).get? (yA true s.heap l).objs.size=some _:=ia _ rfl;have g1:(A7 true s.heap l).get? s.heap.objs.size=some _:=dB _<|ia _ rfl;show _/\_;rw[hz]at g2 ⊢;exact⟨⟨_,g2,rfl⟩,h _ g2 (A4 g1) λb o x=>dB _<|dB _ x⟩
def DG(K:Nb)(κ:Bool)(a:Addr):It:=
  ⟨λi H=>∃ xs x,Sq K κ H a xs/\xs[i]? = some x,
   λi H v H'=>∃p x,v=.ref p/\H p=none/\H'=upd H p (.tup [.int i,x])/\∀xs,Sq K κ H a xs->xs[i]? = some x,
   λi H=>∃xs,Sq K κ H a xs/\xs.length<=i⟩
theorem Ih{ps:Pos}(a e it:Addr)(hne:e≠it) :
  jd P w K (.Tuple es n1 ps) (DG K κ a) [e,it] e (λi h=>(∃old,IsEnum h e it i old)/\SIt κ h it a i) where
 mem:=by simp
 obj:=λi h ⟨⟨old,q1⟩,q2⟩ c hc=>by
  simp only[Yan,eA,or_false]at hc;rcases hc with rfl|rfl
  .exact⟨_,q1,λv e=>by cases e⟩
  .exact q2.obj
 keep:=λi h h' ⟨⟨old,q1⟩,q2⟩ k=>⟨⟨old,k e (by simp) _ q1⟩,q2.keep λo x=>k it (by simp) o x⟩
 item:=by
  intro X hP hw hK hc i sa s σ H E I hf ⟨⟨old,q1⟩,q2⟩ hg;subst hP hw hK;obtain⟨xs,x,hx,ex⟩:=hg;obtain⟨its,rv,p,hz⟩:=I.sq hx;obtain⟨ux,hux,rux⟩:=rv.get ex;have oe:=I.sq_out hx<|hf e (by simp);have oi:=I.sq_out hx<|hf it (by simp);have hi:i<its.toArray.size:=by have:=(Yaq.mp hux).1;simpa using this
  refine wpAny_pyNext_enum_itemD (Ic (κ:=κ) (A:=X.A.in1) (I.ok.hd hc) it a oi its.toArray) q1 ⟨q2,p⟩ hi hne (by simp[hne,Nm oe]) λy h' tk b1 b2 b3 b4 b5 b6=>⟨_,rfl,?_⟩;have ey:y=ux:=by
   have:its[i]? = some y:=by simpa using b1
   rw[hux]at this;exact(Ng this).symm
  subst ey;refine wpAny_letOwnedTupleGo_enum (s:={ s with heap:=h',toks:=tk+1 }) b2 λh2 c1 c2=>?_;have lt:∀{c o},s.heap.get? c=some o->c≠s.heap.objs.size:=λz=>gK<|dm z;have el:=lt q1;have up:∀c o,c∉[e,it]->s.heap.get? c=some o->h2.get? c=some o:=λc o hc z=>by
   simp only[Yan,eA,or_false,not_or]at hc;exact c2.extBut _ _ hc.1<|b6 c o hc.1 hc.2 z
  refine⟨.ref s.heap.objs.size,upd H s.heap.objs.size<|.tup [.int i,x],Inv.turnedN (s:=s) (t':=tk+1) [e,it] I up hf (cF _) ?_,rfl,⟨s.heap.objs.size,x,rfl,I.fresh,rfl,λxs' h'=>by rw[I.sq_inj h' hx];exact ex⟩,?_,λc hc=>?_⟩
  .refine⟨by rw[sizeLine_eq];simp,[.int i tk,y],.cons ⟨_,rfl⟩<|.cons rux .nil,?_⟩
   exact⟨_,c2.extBut _ _ (Nm el) b4,rfl,_,rfl⟩
  .exact⟨⟨_,by simpa using c1⟩,b3.1.keep λo z=>c2.extBut _ o (Nm hne) z⟩
  .have he:∃o,s.heap.get? c=some o:=by
    simp only[Yan,eA,or_false]at hc;rcases hc with rfl|rfl
    .exact⟨_,q1⟩
    .obtain⟨o,z,_⟩:=q2.obj;exact⟨o,z⟩
   obtain⟨o,z⟩:=he;rw[aI<|lt z];exact(hf c hc).1
 done:=by
  intro X hP hw hK hc i sa s σ H E I hf ⟨⟨old,q1⟩,q2⟩ hg;subst hP hw hK;obtain⟨xs,hx,en⟩:=hg;obtain⟨its,rv,p,hz⟩:=I.sq hx;have l1:=rv.length;have oi:=I.sq_out hx<|hf it (by simp);refine wpAny_pyNext_enum_endD (Id (κ:=κ) (A:=X.A.in1) (I.ok.hd hc) it a its.toArray i (by simp;omega)) q1 ⟨rfl,q2,p⟩ λh' k=>⟨rfl,?_⟩;refine I.turnedL (t':=s.toks) [e,it] (λc o hc z=>?_) hf;simp only[Yan,eA,or_false,not_or]at hc;exact k c o hc.2 z
 self:=λ_ _ _ _ _ st h=>let⟨⟨_,q⟩,_⟩:=st;wpAny_pyIter_enum q h
theorem Ii(n b:Nat)(h:b=n+1\/b=n):n<=b:=by omega
section
def vI(K:Nb)(ta:TA):TI:=λσ H R=>ta σ H λvs H1=>∃κ a,vs=[.ref a]/\(∃xs,Sq K κ H1 a xs)/\R (DG K κ a) H1
theorem Ij{a:Expr}{ps:Pos}(hg:Gl X "enumerate")(hm:X.mg "enumerate" = none)(ha:PA X [a] ta)(hs:starEach [a] X.env=[(false,eval a X.env)]:=by rfl) :
  PI X (.Tuple es n1 ps) (.Call (.Name "enumerate" p) [a] [] pos) (vI X.K ta):=by
 intro sa s σ H R I h;refine Call_<|eZ I hg hm boot_enumerate (PyProof.Rows.callWith_type1 (bC (ha pos sa s σ H _ I h) λus s1 ⟨vs,H1,I1,r1,q1⟩=>?_) hs rfl);obtain⟨κ,l,rfl,⟨xs,hx⟩,q⟩:=q1;cases r1 with
 |cons r rr=>
  cases rr;cases r;obtain⟨its,rv,p1,hz⟩:=I1.sq hx;refine Ig p1 λh' a1 a2 k=>wpAny_pyIter_enum (s:={ s1 with heap:=h' }) a1 ?_;refine⟨_,[s1.heap.objs.size+1,s1.heap.objs.size],_,_,H1,rfl,I1.kept (t':=s1.toks) k,Ih (κ:=κ) l _ _<|Nat.succ_ne_self _,⟨⟨_,a1⟩,a2⟩,λb hb=>?_,q⟩;have hb':s1.heap.objs.size<=b:=by
   simp only[Yan,eA,or_false]at hb;exact Ii _ _ hb
  exact I1.fpOk hb'<|I1.hok.fresh hb'
def vJ:V->V->Hp->VK->Prop:=λo i H Q=>∃p xs k v,o=.ref p/\i=.int k/\H p=some (.lst xs)/\dW xs k=some v/\Q v H
theorem Ik:u6 X vJ:=by
 intro sa s σ H o i ov iv Q I ro ri h;obtain⟨p,xs,k,v,rfl,rfl,hp,he,q⟩:=h;cases ro;obtain⟨t,rfl⟩:=ri;obtain⟨its,r,pl,hz⟩:=I.list<|SqL.of hp;obtain⟨j,h1,h2,h3,h4,h5⟩:=gR he;obtain⟨w,ew,rw'⟩:=r.get h2;have hl:=r.length;have hn:=e7;have fin:EP X sa σ Q w s:=⟨v,H,I,rw',q⟩
 by_cases h0:0<=k;have hj:k.toNat=j:=by rw[seqIndex_of h0 h5]at h1;exact Ng h1
 exact PySem.wpAny_getItem_list pl.isList h0 (by omega) (by rw[hj];simpa using ew) fin;have hj:(k+(its.toArray.size:Int)).toNat=j:=by rw[seqIndex_neg (by omega) h4]at h1;rw[eu,<-hl];exact Ng h1
 exact wpAny_getItem_list_neg pl.isList (by omega) (by rw[eu]<;>omega) (by omega) (by rw[hj];simpa using ew) fin
end
section
theorem Im:dI X (.type "range") (λxs H Q=>∃n:Int,xs=[.int n]/\∀p,H p=none->Q (.ref p) (upd H p<|.rng 0 n)):=by intro sa s σ H xs us Q I r h;obtain⟨n,rfl,q⟩:=h;obtain⟨u,rfl,ru⟩:=dJ r;obtain⟨t,rfl⟩:=ru;refine call_range_1 ⟨.ref s.heap.objs.size,_,I.laid (a:=s.heap.objs.size) (o:=.rng 0 n) (t':=s.toks+1+1) (λ_ _ z=>dB _ z) (cF _) ⟨s.toks,t,s.toks+1,ia _ rfl⟩,rfl,q _<|I.hok.fresh<|cF _⟩
theorem DH(n:Nat):Builtin.Range.rangeSize 0 (n:Int) 1=(n:Int):=by unfold Builtin.Range.rangeSize;rw[oI<|by decide];split<;>omega
theorem Io(n:Nat)(h:n<=10000):Builtin.Range.small 0 (n:Int) 1=true:=by
 have f:∀i:Int,0<=i->i<=10000->Builtin.Range.rangeFitsLong i=true:=λi h0 h1=>by unfold Builtin.Range.rangeFitsLong;simp;omega
 unfold Builtin.Range.small;rw[DH,f 0 (by decide)<|by decide,f n (by omega)<|by omega,f 1 (by decide)<|by decide,oI<|by decide,show(n:Int)+(1-1)=n by omega,f n (by omega)<|by omega];simp
theorem DI{α β:Type}{F:α->β->Prop}:∀{l₁:List α} {l₂:List β},l₁.length=l₂.length->(∀(j:Nat) x y,l₁[j]? = some x->l₂[j]? = some y->F x y)->Paired F l₁ l₂
 |[],[],_,_=>.nil|[],_::_,h,_=>by simp at h|_::_,[],h,_=>by simp at h|a::l,b::m,h,f=>.cons (f 0 a b rfl rfl)<|DI (by simpa using h) λj x y e1 e2=>f (j+1) x y (by simpa using e1) (by simpa using e2)
theorem Ip(hc:X.calm=true):dI X (.type "list") (λxs H Q=>∃(p:Addr) (n:Nat),xs=[.ref p]/\H p=some (.rng 0 n)/\n<=10000/\∀l,H l=none->Q (.ref l) (upd H l<|.lst<|(List.range n).map λ(k:Nat)=>V.int (k:Int))):=by
 intro sa s σ H xs us Q I r h;obtain⟨p,n,rfl,hp,hn,q⟩:=h;obtain⟨u,rfl,ru⟩:=dJ r;cases ru;obtain⟨t,u,v,hr⟩:=I.hok p _ hp;refine call_list_range (n:=n) (I.ok.hd hc) hr (Io n hn) (DH n) (by omega) λh' tk acc c' k hl ha=>?_;refine⟨.ref s.heap.objs.size,_,I.laid (a:=s.heap.objs.size) (o:=.lst<|(List.range n).map λ(k:Nat)=>V.int (k:Int)) (t':=tk) k (cF _) ?_,rfl,q _<|I.hok.fresh<|cF _⟩;refine⟨by rw[bG,ke,sizeLine_eq];omega,acc.toList,c',?_,by simpa using hl⟩;obtain⟨hz,hv⟩:=ha;refine DI (by simp[hz]) λj x y e1 e2=>?_;rw[cH]at e1;have hj:j<n:=by
  rcases fS j n with z|z
  exact z;rw[eD<|by simpa using z]at e1;cases e1
 rw[jM hj]at e1;cases e1;obtain⟨t,rfl⟩:=hv j y (by simpa using e2);exact⟨t,by simp⟩
end
namespace Fl
def quiet(f:Str):List Str:=["__setattr__", "__getattribute__", "__getattr__",f]
def DJ(K:Nb)(ns:List Str)(bmB:List Value):List Value->Bool
 |[]=>bmB==[]
 |v::r=>(v::r)==bmB||match v with
  | .ref a=>(match K.lookup a with
   |some ⟨_,_,.cls cd,_⟩=>PySem.W.nsOkIn K cd.ns&&ns.all (λn=>PySem.W.nsIn K cd.ns n==some none)&&DJ K ns bmB r
   |_=>false)
  |_=>false
def clsF(K:Nb)(C:Addr)(bmB:List Value)(newId:String)(f:Str)(fI:Addr):Bool:=match K.lookup C with
 | some ⟨.type "type",_,.cls cd,sl⟩=>(match cd.mro,sl.toList with
  |.ref C'::bm,[_,_,_,_,some<|.builtin n,_]=>C'==C&&n==newId && !cd.hasDel&&cd.hasDict&&DJ K ("__init__" ::quiet f) bmB bm&&PySem.W.nsOkIn K cd.ns&&PySem.W.nsIn K cd.ns "__init__" == some (some<|.ref fI)&&(quiet f).all (λn=>PySem.W.nsIn K cd.ns n==some none)
  |_,_=>false)
 |_=>false
abbrev bmV:List Value:=[.type "ValueError",.type "Exception",.type "BaseException",.type "object"]
end Fl
section
variable{E:Value->Shared->Prop}{R:Result->Shared->Prop}{t1 i1 t2 i2:Expr}{f1:List Expr}{it acc:Value}
theorem Iq:compTurn (.ListComp elt [⟨t1,i1,f1,0⟩,⟨t2,i2,f2,0⟩] scope pos) 0 it acc env=(do
   standAt i1.pos
   match<-pyNext it with
   |none=>pure (.done .next)
   |some v=>
    letOwnedTupleGo t1 it v
    assign t1 env v
    let mut ok:=true
    for c in f1 do
     if ok then ok <-isTrue c env (eval c env)
    if ok then
     let x <-eval i2 env
     standAt i2.pos
     let x <-foldedSetIterable i2 env x
     let _ <-runOwn (.compStart (.ListComp elt [⟨t1,i1,f1,0⟩,⟨t2,i2,f2,0⟩] scope pos) 1 (<-holding [x] (pyIter x)) acc env) env
    again (.compLoop (.ListComp elt [⟨t1,i1,f1,0⟩,⟨t2,i2,f2,0⟩] scope pos) 0 it acc env)):=by rfl
theorem Ir:compTurn (.ListComp elt [⟨t1,i1,f1,0⟩,⟨t2,i2,f2,0⟩] scope pos) 1 it acc env=(do
   standAt i2.pos
   match<-pyNext it with
   |none=>pure (.done .next)
   |some v=>
    letOwnedTupleGo t2 it v
    assign t2 env v
    let mut ok:=true
    for c in f2 do
     if ok then ok <-isTrue c env (eval c env)
    if ok then
     (do let _ <-call (.builtin "list.append") [acc,<-eval elt env])
    again (.compLoop (.ListComp elt [⟨t1,i1,f1,0⟩,⟨t2,i2,f2,0⟩] scope pos) 1 it acc env)):=by rfl
theorem Iu
  (h0:codeAny (model prog w) A (.compLoop (.ListComp elt [⟨t1,i1,f1,0⟩,⟨t2,i2,f2,0⟩] scope pos) 1 it acc env) R s)
  (h:wpAny (model prog w) A (pyIter it) (λit' s'=>codeAny (model prog w) A (.compLoop (.ListComp elt [⟨t1,i1,f1,0⟩,⟨t2,i2,f2,0⟩] scope pos) 1 it' acc env) R s')
   (notedBy (model prog w) A env λx s'=>R (.error x) s') s) :
  codeAny (model prog w) A (.compStart (.ListComp elt [⟨t1,i1,f1,0⟩,⟨t2,i2,f2,0⟩] scope pos) 1 it acc env) R s:=by
 refine codeAny_of_tree ?_;show wpAny _ _ ((compStart (.ListComp elt [⟨t1,i1,f1,0⟩,⟨t2,i2,f2,0⟩] scope pos) 1 it acc env).onRaise (λx=>do noteFrame x env;standAt theWindowsPlace)) _ _ s;refine wpAny_notedAt ?_;unfold compStart;show wpAny _ _ (ask >>= _) _ _ s;refine Na<|wpAny_askSetting (wpAny_ite ?_);split
 .first
   |exact Na<|Nc (Nc<|And.intro rfl h0)
   |exact Nc<|And.intro rfl h0
 .first
   |exact Na<|ND (Na<|Nw<|Na<|Nk h (λit' s' h'=>Nc<|And.intro rfl h') λ_ _ x=>x)
   |(refine Na (ND ?_);show wpAny _ _ (standAt i2.pos >>= _) _ _ s;exact Na<|Nw<|Na<|Nk h (λit' s' h'=>Nc<|And.intro rfl h') λ_ _ x=>x)
theorem Iv(I:Nat->Shared->Prop)
  (turn:∀ n s,I n s->wpAny (model prog w) A (pyNext it) (λr s₁=>match r with
   |none=>R (.ok .next) s₁
   | some v=>wpAny (model prog w) A (letOwnedTupleGo t2 it v) (λ_ s₁'=>wpAny (model prog w) A (assign t2 env v) (λ_ s₂=>
     wpAny (model prog w) A (forIn f2 true λc r=>if r=true then do let ok <- isTrue c env (eval c env);pure (ForInStep.yield ok) else pure (ForInStep.yield r)) (λok s₃=>
      if ok=true then wpAny (model prog w) A (eval elt env) (λx s₄=>
       wpAny (model prog w) A (call (.builtin "list.append") [acc,x]) (λ_ s₅=>∃m,m<n/\I m s₅) (λ_ _=>False) s₄) (λ_ _=>False) s₃
      else∃m,m<n/\I m s₃) (λ_ _=>False) s₂) (λ_ _=>False) s₁') (λ_ _=>False) s₁) (λ_ _=>False) s)
  (n:Nat) (h:I n s) :
  codeAny (model prog w) A (.compLoop (.ListComp elt [⟨t1,i1,f1,0⟩,⟨t2,i2,f2,0⟩] scope pos) 1 it acc env) R s:=by
 refine codeAny_loop rfl I (λn s hI=>?_) n h;show wpAny _ A ((compTurn (.ListComp elt [⟨t1,i1,f1,0⟩,⟨t2,i2,f2,0⟩] scope pos) 1 it acc env).onRaise (λx=>do noteFrame x env;theTreesLotGoes x)) _ _ s;refine wpAny_noted ?_;rw[Ir];refine Na<|Nw (Na<|Nk (turn n s hI) (λr s₁ h₁=>?_) λ_ _ h'=>h'.elim);cases r with
 |none=>exact Nc h₁
 |some v=>
  refine Na<|Nk h₁ (λ_ s₁' h₁'=>?_) λ_ _ h'=>h'.elim;refine Na<|Nk h₁' (λ_ s₂ h₂=>Na<|Nk h₂ (λok s₃ h₃=>?_) λ_ _ h'=>h'.elim) λ_ _ h'=>h'.elim;cases ok with
  |false=>exact Nc ⟨rfl,h₃⟩
  |true=>
   exact Na<|Na (Nk h₃ (λx s₄ h₄=>Na<|Nk h₄ (λ_ s₅ h₅=>Nc<|Nc ⟨rfl,h₅⟩) λ_ _ h'=>h'.elim) λ_ _ h'=>h'.elim)
theorem Iw(I:Nat->Shared->Prop)(hs:∀x,foldedSetIterable i2 env x=pure x)
  (turn:∀ n s,I n s->wpAny (model prog w) A (pyNext it) (λr s₁=>match r with
   |none=>R (.ok .next) s₁
   | some v=>wpAny (model prog w) A (letOwnedTupleGo t1 it v) (λ_ s₁'=>wpAny (model prog w) A (assign t1 env v) (λ_ s₂=>
     wpAny (model prog w) A (forIn f1 true λc r=>if r=true then do let ok <- isTrue c env (eval c env);pure (ForInStep.yield ok) else pure (ForInStep.yield r)) (λok s₃=>
      if ok=true then wpAny (model prog w) A (eval i2 env) (λx s₄=>
       wpAny (model prog w) A (pyIter x) (λitv s₅=>codeAny (model prog w) A (.compStart (.ListComp elt [⟨t1,i1,f1,0⟩,⟨t2,i2,f2,0⟩] scope pos) 1 itv acc env)
        (λr s₆=>r=.ok .next/\∃m,m<n/\I m s₆) s₅) (λ_ _=>False) s₄) (λ_ _=>False) s₃
      else∃m,m<n/\I m s₃) (λ_ _=>False) s₂) (λ_ _=>False) s₁') (λ_ _=>False) s₁) (λ_ _=>False) s)
  (n:Nat) (h:I n s) :
  codeAny (model prog w) A (.compLoop (.ListComp elt [⟨t1,i1,f1,0⟩,⟨t2,i2,f2,0⟩] scope pos) 0 it acc env) R s:=by
 refine codeAny_loop rfl I (λn s hI=>?_) n h;show wpAny _ A ((compTurn (.ListComp elt [⟨t1,i1,f1,0⟩,⟨t2,i2,f2,0⟩] scope pos) 0 it acc env).onRaise (λx=>do noteFrame x env;theTreesLotGoes x)) _ _ s;refine wpAny_noted ?_;rw[Iq];refine Na<|Nw (Na<|Nk (turn n s hI) (λr s₁ h₁=>?_) λ_ _ h'=>h'.elim);cases r with
 |none=>exact Nc h₁
 |some v=>
  refine Na<|Nk h₁ (λ_ s₁' h₁'=>?_) λ_ _ h'=>h'.elim;refine Na<|Nk h₁' (λ_ s₂ h₂=>Na<|Nk h₂ (λok s₃ h₃=>?_) λ_ _ h'=>h'.elim) λ_ _ h'=>h'.elim;cases ok with
  |false=>exact Nc ⟨rfl,h₃⟩
  |true=>
   refine Na<|Nk h₃ (λx s₄ h₄=>Na<|Nw<|Na<|wpAny_of_eq (hs x) ?_) λ_ _ h'=>h'.elim;refine Na<|NC (Nk h₄ (λitv s₅ h₅=>?_) λ_ _ h'=>h'.elim);refine Na<|wpAny_runOwn (codeAny_mono h₅ λr s₆ h₆=>?_);obtain⟨rfl,h₆⟩:=h₆;exact Nc ⟨rfl,h₆⟩
end
def vK(g:TG)(tf:TT)(te:TE)(J:It)(D:Addr)(Q:List V->St->Hp->Prop)(W:Nat->Nat->List V->St->Hp->Prop):Prop:=
 ∀ i m ys σ2 H2,W i m ys σ2 H2->H2 D=some (.lst ys)/\((J.stop i H2/\Q ys σ2 H2)\/(J.go i H2/\∀ x H3,J.yld i H2 x H3->g x σ2 H3 λσ4 H4=>tf σ4 H4 λb H5=>
  if b=true then te σ4 H5 λv H6=>H6 D=some (.lst ys)/\ys.length<sizeLine/\∃m',m'<m/\W (i+1) m' (ys++[v]) σ4 (upd H6 D<|.lst<|ys++[v]) else∃m',m'<m/\W (i+1) m' ys σ4 H5))
def DK(g:TG)(tf:TT)(wi2:TI)(g2:TG)(tf2:TT)(te:TE)(J:It)(D:Addr)(Q:Hp->Prop)(W:Nat->Nat->List V->St->Hp->Prop):Prop:=
 ∀ i m ys σ2 H2,W i m ys σ2 H2->H2 D=some (.lst ys)/\((J.stop i H2/\Q H2)\/(J.go i H2/\∀ x H3,J.yld i H2 x H3->g x σ2 H3 λσ4 H4=>tf σ4 H4 λb H5=>
  if b=true then wi2 σ4 H5 λJ2 H6=>∃W2:Nat->Nat->List V->St->Hp->Prop,(∃k,W2 0 k ys σ4 H6)/\vK g2 tf2 te J2 D (λys' σ' H'=>∃m',m'<m/\W (i+1) m' ys' σ' H') W2 else∃m',m'<m/\W (i+1) m' ys σ4 H5))
def A8(wi:TI)(nv:Nat)(sel:List Nat)(g:TG)(tf:TT)(wi2:TI)(g2:TG)(tf2:TT)(te:TE):TE:=λσ H Q=>wi σ H λJ H1=>∀D,H1 D=none->
 ∃W:Nat->Nat->List V->St->Hp->Prop,(∃m,W 0 m [] (gB nv sel σ)<|upd H1 D<|.lst [])/\DK g tf wi2 g2 tf2 te J D (Q<|.ref D) W
section
variable{s2:Shared}{target iter t2 i2:Expr}{g g2:TG}{tf tf2:TT}
theorem Ix{Y:Cx}{D:Addr}{Q:List V->St->Hp->Prop}{R:Result->Shared->Prop}{m0:Nat}{W:Nat->Nat->List V->St->Hp->Prop}
  (hc:Y.calm=true) (hxe:Y.xe=λ_ _=>False) (hg:PG Y t2 g2) (hf:PF Y f2 tf2) (he:PE Y elt te) (I:Inv Y sa σ H s) (T:jd Y.prog Y.w Y.K t2 J fp it tn) (st:tn 0 s.heap) (f:∀b∈fp,dH Y sa H b)
  (w0:W 0 m0 ys σ H) (turn:vK g2 tf2 te J D Q W) (hR:∀ys' σ' H' s',Inv Y sa σ' H' s'->Q ys' σ' H'->R (.ok .next) s') :
  codeAny (model Y.prog Y.w) Y.A (.compStart (.ListComp elt [⟨target,iter,ifs,0⟩,⟨t2,i2,f2,0⟩] sc pos) 1 (.ref it) (.ref D) Y.env) R s:=by
 have stat:∀{σ':St} {H':Hp} {s':Shared},(∀b∈fp,H' b=none)->∀b∈fp,dH Y sa H' b:=λ{σ' H' s'} hn b hb=>⟨hn b hb,(f b hb).2⟩;have loop:codeAny (model Y.prog Y.w) Y.A (.compLoop (.ListComp elt [⟨target,iter,ifs,0⟩,⟨t2,i2,f2,0⟩] sc pos) 1 (.ref it) (.ref D) Y.env) R s:=by
  refine Iv (λn s'=>∃i ys σ' H',Inv Y sa σ' H' s'/\tn i s'.heap/\(∀b∈fp,H' b=none)/\W i n ys σ' H') ?_ m0 ⟨0,ys,_,_,I,st,λb hb=>(f b hb).1,w0⟩;rintro n s5 ⟨i,ys,σ5,H5,I5,st5,fr5,w5⟩;obtain⟨hD,⟨stop,qn⟩|⟨go,step⟩⟩:=turn i n ys σ5 H5 w5
  .refine bC (T.done Y rfl rfl rfl hc i sa s5 σ5 H5 _ I5 (stat (σ':=σ5) (s':=s5) fr5) st5 stop) λr s6 ⟨hr,I6⟩=>?_
   subst hr;exact hR _ _ H5 s6 I6 qn
  .refine bC (T.item Y rfl rfl rfl hc i sa s5 σ5 H5 _ I5 (stat (σ':=σ5) (s':=s5) fr5) st5 go) λr s6 ⟨u,hr,h6⟩=>?_
   subst hr;refine bC h6 λ_ s7 ⟨x,H7,I7,r7,y7,st7,fr7⟩=>?_;have I7':=I7.pinned (stat (σ':=σ5) (s':=s7) fr7)<|T.obj _ _ st7;have hg':=hg (sa++eF fp s7.heap) s7 σ5 H7 x u _ I7' r7<|step x H7 y7;rw[hxe]at hg';refine bC hg' λ_ s8 ⟨σ8,H8,I8,q8⟩=>?_;have hf':=hf _ s8 σ8 H8 _ I8 q8;rw[hxe]at hf';refine bC hf' λb s9 ⟨H9,I9,q9⟩=>?_;have back:∀{σ':St} {H':Hp} {s':Shared},Inv Y (sa++eF fp s7.heap) σ' H' s'->tn (i+1) s'.heap/\∀b∈fp,H' b=none:=λ{σ' H' s'} I'=>by
    refine⟨T.keep _ _ _ st7 λb hb o e=>(I'.pin (b,o)<|iM _<|iM _<|cC hb e).1,λb hb=>?_⟩;obtain⟨o,e,d⟩:=T.obj _ _ st7 b hb;exact(I'.pin (b,o)<|iM _<|iM _<|cC hb e).2.1
   cases b with
   |false=>
    rw[ks<|by decide]at q9 ⊢;obtain⟨m',hm,w9⟩:=q9;exact⟨m',hm,i+1,ys,σ8,H9,I9.unpinned,(back I9).1,(back I9).2,w9⟩
   |true=>
    rw[oI rfl]at q9 ⊢;have he':=he _ s9 σ8 H9 _ I9 q9;rw[hxe]at he';refine bC he' λv sA ⟨y,HA,IA,rA,hDA,hz,m',hm,wA⟩=>?_;obtain⟨z,its,nn,rr,hl,e⟩:=IA.lstM hDA;refine call_meets F.slot_list_append ⟨_,e,rfl⟩ F.entry_list_append (F.args_list_append_2 _ _) (PySem.list_append _ its.toArray nn v (by rw[eu];omega)) ⟨e,?_⟩;have IB:=IA.lset (its':=its++[v]) (f:=(·.push v)) (t':=sA.toks) hDA e (by simp) (rr.append<|.cons rA .nil) (by rw[dG,j9];omega);exact⟨m',hm,i+1,ys++[y],σ8,_,IB.unpinned,(back IB).1,(back IB).2,wA⟩
 exact Iu loop<|T.self _ 0 _ _ _ st loop
end
section
variable{s2:Shared}{target iter t2 i2:Expr}{fz:List Expr}{g g2:TG}{tf tf2:TT}
theorem Iy{Q:VK}{E:Value->Shared->Prop}{R:Value->Addr->Result->Shared->Prop}(hc:X.calm=true)
  (hg:∀s H fp,PG (X.lc sc vars sel s H fp) target g) (hf:∀s H fp,PF (X.lc sc vars sel s H fp) ifs tf) (hi2:∀s H fp,PI (X.lc sc vars sel s H fp) t2 i2 wi2) (hg2:∀s H fp,PG (X.lc sc vars sel s H fp) t2 g2) (hf2:∀s H fp,PF (X.lc sc vars sel s H fp) fz tf2) (he:∀s H fp,PE (X.lc sc vars sel s H fp) elt te) (hs2:∀a x,foldedSetIterable i2 (iW sc X.env a) x=pure x)
  (ok:jC sc X.env.scope=true) (so:l8 X.N sc sel=true)
  (I2:Inv X sa σ H1 s2) (T:jd X.prog X.w X.K target J fp it tn) (st2:tn 0 s2.heap) (f2:∀b∈fp,dH X sa H1 b)
  (q:∀D,H1 D=none->∃W:Nat->Nat->List V->St->Hp->Prop,(∃m,W 0 m [] (gB vars.length sel σ)<|upd H1 D<|.lst [])/\DK g tf wi2 g2 tf2 te J D (Q<|.ref D) W)
  (hR:∀D C H' s',Inv X sa σ H' s'->Q (.ref D) H'->(∃m,s'.heap.Ns C m)->dH X sa H' C->R (.ref D) C (.ok .next) s') :
  wpAny (model X.prog X.w) X.A (newList []) (λacc s₃=>wpAny (model X.prog X.w) X.A (newFunctionEnv sc X.env.globals (c7 X.env.cells sc.names []) [] X.env.qual none .none<|some X.env) (λcenv s₄=>
   codeAny (model X.prog X.w) X.A (.compStart (.ListComp elt [⟨target,iter,ifs,0⟩,⟨t2,i2,fz,0⟩] sc pos) 0 (.ref it) acc { cenv with scope:=relabel sc X.env }) (R acc cenv.locals) s₄) E s₃) E s2:=by
 refine Nq ?_;have hD0:H1 s2.heap.objs.size=none:=I2.hok.fresh<|cF _;obtain⟨W,⟨m0,w0⟩,turn⟩:=q _ hD0;have I3:Inv X sa σ (upd H1 s2.heap.objs.size<|.lst []) { s2 with heap:=s2.heap.push { cls:=.type "list",data:=.seq ([]:List Value).toArray },toks:=s2.toks }:=I2.lnew (ys:=[]) .nil<|iq _;have ho2:∀b∈fp,∃o,s2.heap.get? b=some o/\∀v,o.data≠.cell v:=T.obj _ _ st2;have lt2:∀b∈fp,b<s2.heap.objs.size:=λb hb=>by obtain⟨o,e,_⟩:=ho2 b hb;exact dm e
 have f3:∀b∈fp,dH X sa (upd H1 s2.heap.objs.size<|.lst []) b:=λb hb=>⟨by rw[aI<|gK<|lt2 b hb];exact(f2 b hb).1,(f2 b hb).2⟩;have ho3:∀b∈fp,∃o,(s2.heap.push { cls:=.type "list",data:=.seq ([]:List Value).toArray }).get? b=some o:=λb hb=>by obtain⟨o,e,_⟩:=ho2 b hb;exact⟨o,dB _ e⟩
 refine Dz (s:={ s2 with heap:=s2.heap.push { cls:=.type "list",data:=.seq ([]:List Value).toArray },toks:=s2.toks }) ?_;generalize hs3:({ s2 with heap:=s2.heap.push { cls:=.type "list",data:=.seq ([]:List Value).toArray },toks:=s2.toks }:Shared)=s3 at I3 ⊢;have kp23:∀b o,s2.heap.get? b=some o->s3.heap.get? b=some o:=λb o e=>by rw[<-hs3];exact dB _ e
 have sz3:s3.heap.objs.size=s2.heap.objs.size+1:=by rw[<-hs3];exact nS ..
 have os3:s3.os=s2.os:=by rw[<-hs3]
 have ho3':∀b∈fp,∃o,s3.heap.get? b=some o:=λb hb=>by rw[<-hs3];exact ho3 b hb
 have I4:=DA (vars:=vars) I3 ok so f3 ho3' I2.ok.kind;have kp4:∀b o,s3.heap.get? b=some o->(pushCells (s3.heap.push { cls:=.type "dict",data:=.dict #[] }) sc.names).get? b=some o:=λb o e=>pushCells_keeps _ _ _ _<|dB _ e;have st4:tn 0 (pushCells (s3.heap.push { cls:=.type "dict",data:=.dict #[] }) sc.names):=T.keep _ _ _ st2 λb hb o e=>kp4 b o<|kp23 b o e
 have stat:∀{H':Hp},(∀b∈fp,H' b=none)->∀b∈fp,dH (X.lc sc vars sel s3 (upd H1 s2.heap.objs.size<|.lst []) fp) [] H' b:=λ{H'} hn b hb=>by
  refine⟨hn b hb,(I4.ok.exf b hb).1,I4.ok.exfs b hb,.inl hb,λx c e z=>(I4.ok.exf b hb).2 x c e z,λp hp=>Nd (show p∈([]:List (Addr×Obj)) from hp)<|by simp⟩
 have loop:codeAny (model X.prog X.w) X.A (.compLoop (.ListComp elt [⟨target,iter,ifs,0⟩,⟨t2,i2,fz,0⟩] sc pos) 0 (.ref it) (.ref s2.heap.objs.size)<|iW sc X.env s3.heap.objs.size)
   (R (.ref s2.heap.objs.size) s3.heap.objs.size) { s3 with heap:=pushCells (s3.heap.push { cls:=.type "dict",data:=.dict #[] }) sc.names }:=by
  refine Iw (λn s'=>∃i ys σ' H',Inv (X.lc sc vars sel s3 (upd H1 s2.heap.objs.size<|.lst []) fp) [] σ' H' s'/\tn i s'.heap/\(∀b∈fp,H' b=none)/\W i n ys σ' H') (hs2 _) ?_ m0
   ⟨0,[],_,_,I4,st4,λb hb=>(f3 b hb).1,w0⟩
  rintro n s5 ⟨i,ys,σ5,H5,I5,st5,fr5,w5⟩;obtain⟨hD,⟨stop,qn⟩|⟨go,step⟩⟩:=turn i n ys σ5 H5 w5
  .refine bC (T.done (X.lc sc vars sel s3 (upd H1 s2.heap.objs.size<|.lst []) fp) rfl rfl rfl hc i [] s5 σ5 H5 _ I5 (stat fr5) st5 stop) λr s6 ⟨hr,I6⟩=>?_
   subst hr;have un:Un (dc X.stack) fp H1 H5 s2.heap s6.heap:=by
    have a:Un (dc X.stack) fp H1 (upd H1 s2.heap.objs.size<|.lst []) s2.heap s3.heap:=Un.laid kp23 (cF _) hD0;exact a.trans I6.base
   have I7:Inv X sa σ H5 s6:=I2.call' (ch:=fp) (I6.os.trans os3) un I6.hok I6.bare λb hb=>⟨(f2 b hb).2.2.2.1,(f2 b hb).2.1,(f2 b hb).2.2.2.2.1,(f2 b hb).2.2.2.2.2⟩;refine hR _ _ H5 s6 I7 qn ?_ ?_
   .obtain⟨m,hn,_⟩:=I6.loc
    exact⟨m,hn⟩
   .exact I3.fpOk (cF _) I6.free
  .refine bC (T.item (X.lc sc vars sel s3 (upd H1 s2.heap.objs.size<|.lst []) fp) rfl rfl rfl hc i [] s5 σ5 H5 _ I5 (stat fr5) st5 go) λr s6 ⟨u,hr,h6⟩=>?_
   subst hr;refine bC h6 λ_ s7 ⟨x,H7,I7,r7,y7,st7,fr7⟩=>?_;have I7':=I7.pinned (stat fr7)<|T.obj _ _ st7;refine bC (hg _ _ _ _ s7 σ5 H7 x u _ I7' r7<|step x H7 y7) λ_ s8 ⟨σ8,H8,I8,q8⟩=>?_;refine bC (hf _ _ _ _ s8 σ8 H8 _ I8 q8) λb s9 ⟨H9,I9,q9⟩=>?_;have back:∀{σ':St} {H':Hp} {s':Shared},Inv (X.lc sc vars sel s3 (upd H1 s2.heap.objs.size<|.lst []) fp) ([]++eF fp s7.heap) σ' H' s'->tn (i+1) s'.heap/\∀b∈fp,H' b=none:=λ{σ' H' s'} I'=>by
    refine⟨T.keep _ _ _ st7 λb hb o e=>(I'.pin (b,o)<|iM _<|iM _<|cC hb e).1,λb hb=>?_⟩;obtain⟨o,e,d⟩:=T.obj _ _ st7 b hb;exact(I'.pin (b,o)<|iM _<|iM _<|cC hb e).2.1
   cases b with
   |false=>
    rw[ks<|by decide]at q9 ⊢;obtain⟨m',hm,w9⟩:=q9;exact⟨m',hm,i+1,ys,σ8,H9,I9.unpinned,(back I9).1,(back I9).2,w9⟩
   |true=>
    rw[oI rfl]at q9 ⊢;refine bC (hi2 _ _ _ _ s9 σ8 H9 _ I9 q9) λv sA hA=>bC hA λitv sB hB=>?_;obtain⟨it2,fp2,tn2,J2,HB,e2,IB,T2,stB,fB,W2,⟨k0,wB⟩,tr2⟩:=hB;subst e2;exact Ix (Y:=X.lc sc vars sel s3 (upd H1 s2.heap.objs.size<|.lst []) fp) hc rfl (hg2 _ _ _) (hf2 _ _ _) (he _ _ _) IB T2 stB fB wB tr2 λys' σ' H' s' I' ⟨m',hm,w'⟩=>⟨rfl,m',hm,i+1,ys',σ',H',I'.unpinned,(back I').1,(back I').2,w'⟩
 exact codeAny_compStart_list loop<|T.self _ 0 _ _ _ st4 loop
theorem Iz{wi:TI}(vars:List Str)(sel:List Nat)(hc:X.calm=true)(hi:PI X target iter wi)
  (ok:jC sc X.env.scope=true) (so:l8 X.N sc sel=true)
  (hg:∀s H fp,PG (X.lc sc vars sel s H fp) target g) (hf:∀s H fp,PF (X.lc sc vars sel s H fp) ifs tf) (hi2:∀s H fp,PI (X.lc sc vars sel s H fp) t2 i2 wi2) (hg2:∀s H fp,PG (X.lc sc vars sel s H fp) t2 g2) (hf2:∀s H fp,PF (X.lc sc vars sel s H fp) fz tf2) (he:∀s H fp,PE (X.lc sc vars sel s H fp) elt te) (hs2:∀a x,foldedSetIterable i2 (iW sc X.env a) x=pure x)
  (hs:∀x,foldedSetIterable iter X.env x=pure x:=by intro _;rfl):PE X (.ListComp elt [⟨target,iter,ifs,0⟩,⟨t2,i2,fz,0⟩] sc pos) (A8 wi vars.length sel g tf wi2 g2 tf2 te):=by
 intro sa s σ H Q I h;rw[eval_ListComp];have ok':=ok;simp only[jC,dQ,Nf]at ok';refine NI (use:=none) rfl hs (AY<|yu I ok) ok'.1.1 (λx hx hl=>?_) ?_
 .obtain⟨n,k⟩:=x
  have hl':k=.local:=hl;subst hl';exact yt ok'.1.2 hx
 .refine bC (hi sa s σ H _ I h) λv s1 h1=>bC h1 λitv s2 h2=>?_
  obtain⟨it,fp,tn,J,H2,e,I2,T,st2,f2,q⟩:=h2;subst e;refine Iy (Q:=Q) hc hg hf hi2 hg2 hf2 he hs2 ok so I2 T st2 f2 q λD C H' s' I' q' hn fC=>?_;obtain⟨m,hn⟩:=hn;refine⟨m,hn,λh' hs'=>?_⟩;obtain⟨f0,f1,f2,f3,f4,f5⟩:=fC;exact⟨.ref D,H',I'.turned (t':=s'.toks) (λb o hb e=>(hs'.2 b hb).trans e) f0 f1 f3 f4 f5,rfl,q'⟩
end
section
def A9:V->List V->Hp->VK->Prop:=λx vs H Q=>∃(l:Addr) (xs:List V) (b:Int) (k:Nat),x=.ref l/\vs=[.int b]/\H l=some (.lst xs)/\(∀y∈xs,∃i:Int,y=.int i)/\xs[k]? = some (.int b)/\(∀j,j<k->xs[j]?≠some (.int b))/\Q .non (upd H l<|.lst<|xs.eraseIdx k)
theorem IC:Dw X "list.remove" A9:=by
 intro sa s σ H x vs v us Q I rx rv h;obtain⟨l,xs,b,k,rfl,rfl,hH,ha,hy,hno,q⟩:=h;cases rx;obtain⟨u,rfl,ru⟩:=rv.one;obtain⟨tu,rfl⟩:=ru;obtain⟨z,its,n,r,hl,e⟩:=I.lstM hH;obtain⟨w,hw,rw'⟩:=r.get hy;obtain⟨tw,rfl⟩:=rw';have at':∀m (hm:m<its.toArray.size),∃c t,xs[m]? = some (.int c)/\its.toArray[m]=.int c t:=λm hm=>by
  have hm':m<its.length:=by simpa using hm
  have hx:xs[m]? = some (xs[m]'(by omega)):=bJ (by omega);obtain⟨i,hi⟩:=ha _<|gu (l:=xs) (n:=m) (by omega);rw[hi]at hx;obtain⟨w2,hw2,r2⟩:=r.get hx;obtain⟨t2,rfl⟩:=r2;refine⟨i,t2,hx,?_⟩;rw[bJ hm']at hw2;simpa using Ng hw2
 have hkl:k<its.toArray.size:=by have:=(Yaq.mp hy).1;simp;omega
 refine call_meets F.slot_list_remove ⟨_,e,rfl⟩ F.entry_list_remove (F.args_list_remove_2 _ _)
  (MeetsSeq.list_remove l its.toArray n (.int b tu) (Value.isInt b) (λy hy'=>?_) k hkl ?_ (λm hm hlt=>?_) (by rw[eu];omega)) ⟨e,?_⟩
 obtain⟨m,hm,rfl⟩:=Array.getElem_of_mem hy';obtain⟨c,t,_,e2⟩:=at' m hm;rw[e2];exact MeetsSeq.EqGives.int c b t tu;obtain⟨c,t,e1,e2⟩:=at' k hkl;rw[hy]at e1;cases e1;rw[e2];simp[Value.isInt];obtain⟨c,t,e1,e2⟩:=at' m hm;rw[e2];refine Ybq.mpr λz=>hno m hlt ?_;simp[Value.isInt]at z;rw[e1,z];refine⟨.non,_,I.lset (its':=its.eraseIdx k) hH e ?_ (r.eraseIdx k) ?_,rfl,q⟩;show its.toArray.eraseIdxIfInBounds k=(its.eraseIdx k).toArray;rw[List.eraseIdxIfInBounds_toArray];have:=iU xs k;omega
end
end L2
namespace LP
namespace Dt
abbrev R:=Nat->Int
def m2(a b:R)(p q:Nat):Int:=a p*b q-a q*b p
def m3(a b c:R)(p q r:Nat):Int:=c r*m2 a b p q-c q*m2 a b p r+c p*m2 a b q r
def m4(a b c d:R)(p q r s:Nat):Int:=d s*m3 a b c p q r-d r*m3 a b c p q s+d q*m3 a b c p r s-d p*m3 a b c q r s
def m5(a b c d e:R)(p q r s t:Nat):Int:=e t*m4 a b c d p q r s-e s*m4 a b c d p q r t+e r*m4 a b c d p q s t-e q*m4 a b c d p r s t+e p*m4 a b c d q r s t
section
variable(a b c d e:R)(p q r s t j:Nat)
theorem s0:m2 a b p j*1=b j*a p-b p*a j:=by unfold m2;grind
theorem s1:m3 a b c p q j*a p=m2 a c p j*m2 a b p q-m2 a c p q*m2 a b p j:=by unfold m3 m2;grind
theorem s2:m4 a b c d p q r j*m2 a b p q=m3 a b d p q j*m3 a b c p q r-m3 a b d p q r*m3 a b c p q j:=by unfold m4 m3 m2;grind
theorem pl:m3 a b c p q r*m3 a b c p s j=m3 a b c p q s*m3 a b c p r j-m3 a b c p q j*m3 a b c p r s:=by unfold m3 m2;grind
theorem Ba:m3 a b c p q r*m3 a b c q s j=m3 a b c p q s*m3 a b c q r j-m3 a b c p q j*m3 a b c q r s:=by unfold m3 m2;grind
theorem ID:m3 a b c p q r*m3 a b c r s j=m3 a b c p r s*m3 a b c q r j-m3 a b c p r j*m3 a b c q r s:=by unfold m3 m2;grind
theorem s3:m5 a b c d e p q r s j*m3 a b c p q r=m4 a b c e p q r j*m4 a b c d p q r s-m4 a b c e p q r s*m4 a b c d p q r j:=by have h1:=pl a b c p q r s j;have h2:=Ba a b c p q r s j;have h3:=ID a b c p q r s j;unfold m5 m4;generalize m3 a b c p q r=x1 at *;generalize m3 a b c p q s=x2 at *;generalize m3 a b c p q j=x3 at *;generalize m3 a b c p r s=x4 at *;generalize m3 a b c p r j=x5 at *;generalize m3 a b c p s j=x6 at *;generalize m3 a b c q r s=x7 at *;generalize m3 a b c q r j=x8 at *;generalize m3 a b c q s j=x9 at *;generalize m3 a b c r s j=y1 at *;generalize d p=d1;generalize d q=d2;generalize d r=d3;generalize d s=d4;generalize d j=d5;generalize e p=e1;generalize e q=e2;generalize e r=e3;generalize e s=e4;generalize e j=e5;grind
end
def M(A:Nat->R):Nat->Nat->R
 |0,i,j=>A i j|1,i,j=>m2 (A 0) (A i) 0 j|2,i,j=>m3 (A 0) (A 1) (A i) 0 1 j|3,i,j=>m4 (A 0) (A 1) (A 2) (A i) 0 1 2 j|4,i,j=>m5 (A 0) (A 1) (A 2) (A 3) (A i) 0 1 2 3 j|_,_,_=>0
def sumI(f:Nat->Int):Nat->Int
 |0=>0|n+1=>sumI f n+f n
def sg(n:Nat):Int:=if n%2=0 then 1 else -1
end Dt
end LP
namespace LP
open PySem PySem.Spec PyProof.Rows L2
variable{n b k i j n1 m h:Nat}{dx od an:Option Addr}{K:Nb}{vs us:List V}{e tg elt target iter ix:Expr}{H H1 H2 H0:Hp}{a f fa:Addr}{o:HO}{σ:L2.St}{c:Nat->Nat}{X:Cx}{EX:XK}{pos p p2 pos' spos apos cpos np:Pos}{x qual name:Str}{op:CmpOp}{es ifs:List Expr}{T U:Nat->Nat->Rat}{fd:FuncData}{ps vars:List Str}{sa:List (Addr×Obj)}{s:List Int}{lo hi:Option Int}{st:Stmt}{sts body:List Stmt}{sc:Scope}{sel L L1:List Nat}{P:List (List Rat)}{mg:Str->Option Value}{q:Rat}{r l r':List Rat}{osl sl:Array (Option Value)}{v':Nat->Int}{A:Nat->Nat->Int}{XP:(Str->Option Value)->Heap->Prop}{YP:World->Heap->Prop}
set_option genInjectivity true in
inductive D where
 |non|bl (b:Bool)|int (i:Int)|str (x:Str)|tup (xs:List D)|lst (xs:List D)|dic|pen|cls (n:Str)|exc (n:Str)|ty (n:String)|scr (xs:List D)
variable{ds xs ys:List D}{d y:D}{xss:List (List D)}{Q:D->Prop}{Q' QL:List D->Prop}
structure Wd where
 G:Hp
 Pn:Addr->Prop
variable{W1 W2 W0:Wd}
def KT(K:Nb)(a:Addr)(vs:List V):Prop:=
 ∃(o:Obj) (its:Array Value) (n:Nat),K.lookup a=some o/\o.cls=.type "tuple" /\o.data=.seq its n/\its.size<=sizeLine/\Vals vs its.toList
def jD(K:Nb)(n:Str):Option Addr:=match PySem.W.nsIn K mainGlobals n with|some (some<|.ref a)=>some a|_=>none
def xtab:List (Str×Str×Str×Int):=[("NotStrong1", "NotStrong", "size",1),("NotStrong2", "NotStrong", "size",2),("NotStrong3", "NotStrong", "size",3),("NotStrong4", "NotStrong", "size",4),("NotStrong5", "NotStrong", "size",5),("NoText0", "NoText", "row",0),("NoText1", "NoText", "row",1),("NoText2", "NoText", "row",2),("NoText3", "NoText", "row",3),("NoText4", "NoText", "row",4),("NoText5", "NoText", "row",5),("NoText6", "NoText", "row",6),("NoText7", "NoText", "row",7),("NoText8", "NoText", "row",8),("NoText9", "NoText", "row",9),("NoText10", "NoText", "row",10),("NoText11", "NoText", "row",11),("NoText12", "NoText", "row",12),("NoText13", "NoText", "row",13),("NoText14", "NoText", "row",14),("NoText15", "NoText", "row",15)]
def nq(n:Str):Option (Str×Str×Int):=(xtab.find? λr=>r.1==n).map (·.2)
def nr(n:Str):Str:=match nq n with|some r=>r.1|none=>n
def qP(C a:Addr)(dx:Option Addr):HO:=.ext λh=>∃oe,h.get? a=some oe/\oe.cls=.ref C/\PySem.W.notCls oe=true/\oe.dict=dx/\∃vs,oe.data=.fields vs
def XD(W:Wd)(n:Str)(dx:Option Addr):Prop:=∀c f k,nq n=some (c,f,k)->∃d,dx=some d/\W.G d=some (.xd [(f,.int k)])
theorem XD.none{W:Wd}{n:Str}(h:nq n=none):XD W n dx:=λc f k e=>by rw[h]at e;cases e
def XD.mono{W W':Wd}{n:Str}(g:∀a o,W.G a=some o->W'.G a=some o)(h:XD W n dx):XD W' n dx:=λc f k e=>let⟨d,e1,e2⟩:=h c f k e;⟨d,e1,g _ _ e2⟩
theorem IE{n:Str}(h:nq n=none):nr n=n:=by unfold nr;rw[h]
def KL(K:Nb)(a:Addr)(vs:List V):Prop:=
 ∃(o:Obj) (its:Array Value) (n:Nat),K.lookup a=some o/\o.cls=.type "list" /\o.dict=none/\o.data=.seq its n/\its.size<=sizeLine/\Vals vs its.toList
mutual
inductive Rep (K:Nb) (W:Wd):V->D->Prop
 |non:Rep K W .non .non
 |bl (b:Bool):Rep K W (.bl b) (.bl b)
 |int (i:Int):Rep K W (.int i) (.int i)
 |str (x:Str):Rep K W (.str x) (.str x)
 |tup {a:Addr} {vs:List V} {ds:List D}:W.G a=some (.tup vs)->Reps K W vs ds->Rep K W (.ref a) (.tup ds)
 |ktup {a:Addr} {vs:List V} {ds:List D}:KT K a vs->Reps K W vs ds->Rep K W (.ref a) (.tup ds)
 |lst {a:Addr} {vs:List V} {ds:List D}:W.G a=some (.lst vs)->Reps K W vs ds->Rep K W (.ref a) (.lst ds)
 |scr {a:Addr} {vs:List V} {ds:List D}:((∃o,W.G a=some (.frz o<|.lst vs))\/KL K a vs)->Reps K W vs ds->Rep K W (.ref a) (.scr ds)
 |dic {a:Addr}:W.G a=some (.dK [])->Rep K W (.ref a) .dic
 |pen {a:Addr}:W.Pn a->Rep K W (.ref a) .pen
 |cls {a:Addr} {n:Str}:jD K n=some a->Rep K W (.ref a) (.cls n)
 |exc {a C:Addr} {n:Str} {dx:Option Addr}:W.G a=some (qP C a dx)->jD K (nr n)=some C->XD W n dx->Rep K W (.ref a) (.exc n)
 |ty (n:String):Rep K W (.ty n) (.ty n)
inductive Reps (K:Nb) (W:Wd):List V->List D->Prop
 |nil:Reps K W [] []
 |cons {v:V} {d:D} {vs:List V} {ds:List D}:Rep K W v d->Reps K W vs ds->Reps K W (v::vs) (d::ds)
end
section
variable{W W':Wd}
mutual
theorem Rep.mono(g:∀a o,W.G a=some o->W'.G a=some o)(p:∀a,W.Pn a->W'.Pn a):∀{v:V} {d:D},Rep K W v d->Rep K W' v d
 |_,_,.non=>.non|_,_,.bl b=>.bl b|_,_,.int i=>.int i|_,_,.str x=>.str x|_,_,.tup e r=>.tup (g _ _ e)<|Reps.mono g p r
 |_,_,.ktup e r=>.ktup e<|Reps.mono g p r
 |_,_,.lst e r=>.lst (g _ _ e)<|Reps.mono g p r
 |_,_,.scr e r=>.scr (e.elim (λ⟨o,z⟩=>.inl ⟨o,g _ _ z⟩) .inr)<|Reps.mono g p r
 |_,_,.dic e=>.dic<|g _ _ e
 |_,_,.pen e=>.pen<|p _ e
 |_,_,.cls e=>.cls e|_,_,.exc e h x=>.exc (g _ _ e) h<|x.mono g
 |_,_,.ty n=>.ty n
theorem Reps.mono(g:∀a o,W.G a=some o->W'.G a=some o)(p:∀a,W.Pn a->W'.Pn a):∀{vs:List V} {ds:List D},Reps K W vs ds->Reps K W' vs ds
 |_,_,.nil=>.nil|_,_,.cons r t=>.cons (Rep.mono g p r)<|Reps.mono g p t
end
theorem Reps.length:∀{vs:List V} {ds:List D},Reps K W vs ds->vs.length=ds.length
 |_,_,.nil=>rfl|_,_,.cons _ t=>by simp[Reps.length t]
theorem Reps.get:∀{vs:List V} {ds:List D} {i:Nat} {d:D},Reps K W vs ds->ds[i]? = some d->∃v,vs[i]? = some v/\Rep K W v d
 |_,_,_,_,.nil,e=>by simp at e|_,_,0,_,.cons r _,e=>by simp at e;subst e;exact⟨_,rfl,r⟩|_,_,i+1,d,.cons _ t,e=>by obtain⟨u,h1,h2⟩:=Reps.get (i:=i) (d:=d) t (by simpa using e);exact⟨u,by simpa using h1,h2⟩
def Reps.append:∀{vs us:List V} {ds es:List D},Reps K W vs ds->Reps K W us es->Reps K W (vs++us) (ds++es)
 |_,_,_,_,.nil,s=>s|_,_,_,_,.cons r t,s=>.cons r<|Reps.append t s
def Reps.take:∀{vs:List V} {ds:List D} (n:Nat),Reps K W vs ds->Reps K W (vs.take n) (ds.take n)
 |_,_,0,_=>.nil|_,_,_+1,.nil=>.nil|_,_,n+1,.cons r t=>.cons r<|Reps.take n t
def Reps.drop:∀{vs:List V} {ds:List D} (n:Nat),Reps K W vs ds->Reps K W (vs.drop n) (ds.drop n)
 |_,_,0,r=>r|_,_,_+1,.nil=>.nil|_,_,n+1,.cons _ t=>Reps.drop n t
def Reps.set{v:V}{d:D}(r:Rep K W v d):∀{vs:List V} {ds:List D} (i:Nat),Reps K W vs ds->Reps K W (vs.set i v) (ds.set i d)
 |_,_,_,.nil=>.nil|_,_,0,.cons _ t=>.cons r t|_,_,i+1,.cons q t=>.cons q<|Reps.set r i t
theorem Reps.rev(r:Reps K W vs ds):Reps K W vs.reverse ds.reverse:=by
 induction vs generalizing ds with
 |nil=>cases r;exact .nil
 |cons v vs ih=>cases r with|cons r t=>rw[xP,xP];exact(ih t).append<|.cons r .nil
theorem Reps.one(r:Reps K W us [d]):∃v,us=[v]/\Rep K W v d:=by cases r with|cons r t=>cases t;exact⟨_,rfl,r⟩
theorem Reps.two{e:D}(r:Reps K W us [d,e]):∃v u,us=[v,u]/\Rep K W v d/\Rep K W u e:=by cases r with|cons r t=>cases t with|cons r' t=>cases t;exact⟨_,_,rfl,r,r'⟩
end
def ZnQ(H:Hp)(a:Addr):Prop:=∃i j k:Int,H a=some (.lst [.int i,.int j,.int k])
structure WOk(W:Wd)(H:Hp):Prop where
 g:∀a o,W.G a=some o->H a=some o
 p:∀a,W.Pn a->ZnQ H a/\W.G a=none
structure Ext(W:Wd)(H:Hp)(W':Wd)(H':Hp):Prop where
 ok:WOk W' H'
 g:∀a o,W.G a=some o->W'.G a=some o
 p:∀a,W.Pn a->W'.Pn a
 gf:∀a,W.G a=none->W'.G a≠none->H a=none
 pf:∀a,¬W.Pn a->W'.Pn a->H a=none
 h:∀a o,H a=some o->¬W.Pn a->H' a=some o
section
variable{W:Wd}
def Ext.refl(ok:WOk W H):Ext W H W H:=⟨ok,λ_ _ e=>e,λ_ e=>e,λ_ e n=>Nd e n,λ_ n e=>Nd e n,λ_ _ e _=>e⟩
theorem ZnQ.ne(p:ZnQ H a):H a≠none:=by obtain⟨_,_,_,e⟩:=p;rw[e];simp
theorem Ext.isN(x:Ext W H W1 H1)(h:H1 a=none):H a=none:=by
 cases q:H a with
 |none=>rfl
 |some o=>
  by_cases hp:W.Pn a;exact Nd h<|(x.ok.p a<|x.p a hp).1.ne
  rw[x.h a o q hp]at h;cases h
theorem Ext.trans(x:Ext W H W1 H1)(y:Ext W1 H1 W2 H2):Ext W H W2 H2 where
 ok:=y.ok
 g:=λa o e=>y.g a o<|x.g a o e
 p:=λa e=>y.p a<|x.p a e
 gf:=λa e n=>by
  cases q:W1.G a with
  |none=>exact x.isN<|y.gf a q n
  |some o=>exact x.gf a e (by rw[q];simp)
 pf:=λa e n=>by by_cases q:W1.Pn a;exact x.pf a e q;exact x.isN<|y.pf a q n
 h:=λa o e n=>y.h a o (x.h a o e n) λq=>by have:=x.pf a n q;rw[e]at this;cases this
def Ext.rep(x:Ext W H W1 H1){v:V}(r:Rep K W v d):Rep K W1 v d:=r.mono x.g x.p
def Ext.reps(x:Ext W H W1 H1){v:List V}{d:List D}(r:Reps K W v d):Reps K W1 v d:=r.mono x.g x.p
def Wd.put(W:Wd)(a:Addr)(o:HO):Wd:=⟨upd W.G a o,W.Pn⟩
theorem Ext.put{a:Addr}{o:HO}(ok:WOk W H)(h:H a=none):Ext W H (W.put a o) (upd H a o) where
 ok:=⟨λb u e=>by
   unfold Wd.put at e;dsimp only at e
   by_cases hb:b=a
   .subst hb;rw[aO]at e ⊢;exact e
   .rw[aI hb]at e ⊢;exact ok.g b u e,
  λb hb=>by
   have⟨p1,p2⟩:=ok.p b hb;have hne:b≠a:=λz=>p1.ne (by rw[z];exact h);refine⟨?_,by unfold Wd.put;dsimp only;rw[aI hne];exact p2⟩;obtain⟨i,j,k,e⟩:=p1;exact⟨i,j,k,by rw[aI hne];exact e⟩⟩
 g:=λb u e=>by
  have:b≠a:=λz=>by have:=ok.g b u e;rw[z,h]at this;cases this
  unfold Wd.put;dsimp only;rw[aI this];exact e
 p:=λb e=>e
 gf:=λb e n=>by by_cases hb:b=a;rw[hb];exact h;unfold Wd.put at n;dsimp only at n;rw[aI hb]at n;exact Nd e n
 pf:=λb n e=>Nd e n
 h:=λb u e _=>by
  have:b≠a:=λz=>by rw[z,h]at e;cases e
  rw[aI this];exact e
theorem Ext.new(ok:WOk W H)(h:H a=none):Ext W H W (upd H a o) where
 ok:=⟨λb u e=>by
   have q:=ok.g b u e;have:b≠a:=λz=>by rw[z,h]at q;cases q
   rw[aI this];exact q,
  λb hb=>by
   have⟨p1,p2⟩:=ok.p b hb;have hne:b≠a:=λz=>p1.ne (by rw[z];exact h);obtain⟨i,j,k,e⟩:=p1;exact⟨⟨i,j,k,by rw[aI hne];exact e⟩,p2⟩⟩
 g:=λ_ _ e=>e
 p:=λ_ e=>e
 gf:=λ_ e n=>Nd e n
 pf:=λ_ n e=>Nd e n
 h:=λb u e _=>by
  have:b≠a:=λz=>by rw[z,h]at e;cases e
  rw[aI this];exact e
theorem WOk.fresh(ok:WOk W H)(h:H a=none):W.G a=none/\¬W.Pn a:=by
 refine⟨?_,λp=>(ok.p a p).1.ne h⟩;cases q:W.G a with
 |none=>rfl|some o=>have:=ok.g a o q;rw[h]at this;cases this
theorem Ext.pub(x:Ext W H W1 H1)(h:H a=none)(e:H1 a=some o)(n:¬W1.Pn a)(ng:W1.G a=none):Ext W H (W1.put a o) H1 where
 ok:=⟨λb u q=>by
   unfold Wd.put at q
   by_cases hb:b=a
   .subst hb;dsimp only at q;rw[aO]at q;cases q;exact e
   .dsimp only at q;rw[aI hb]at q;exact x.ok.g b u q,
  λb hb=>by
   have⟨p1,p2⟩:=x.ok.p b hb;have hne:b≠a:=λz=>n (by rw[<-z];exact hb);exact⟨p1,by unfold Wd.put;dsimp only;rw[aI hne];exact p2⟩⟩
 g:=λb u q=>by
  have q1:=x.g b u q;have:b≠a:=λz=>by rw[z,ng]at q1;cases q1
  unfold Wd.put;dsimp only;rw[aI this];exact q1
 p:=x.p
 gf:=λb q m=>by by_cases hb:b=a;rw[hb];exact h;unfold Wd.put at m;dsimp only at m;rw[aI hb]at m;exact x.gf b q m
 pf:=x.pf
 h:=x.h
theorem qp(ng:W.G a=none):∀b u,W.G b=some u->(W.put a o).G b=some u:=λb u q=>by
 have:b≠a:=λz=>by rw[z,ng]at q;cases q
 unfold Wd.put;dsimp only;rw[aI this];exact q
theorem Ext.chg{o':HO}(x:Ext W H W1 H1)(h:H a=none)(e:H1 a=some o)(n:¬W1.Pn a)(ng:W1.G a=none):Ext W H W1 (upd H1 a o') where
 ok:=⟨λb u q=>by
   have:b≠a:=λz=>by rw[z,ng]at q;cases q
   rw[aI this];exact x.ok.g b u q,
  λb hb=>by
   have⟨p1,p2⟩:=x.ok.p b hb;have hne:b≠a:=λz=>n (by rw[<-z];exact hb);obtain⟨i,j,k,e⟩:=p1;exact⟨⟨i,j,k,by rw[aI hne];exact e⟩,p2⟩⟩
 g:=x.g
 p:=x.p
 gf:=x.gf
 pf:=x.pf
 h:=λb u q m=>by
  have:b≠a:=λz=>by rw[z,h]at q;cases q
  rw[aI this];exact x.h b u q m
end
inductive SV where
 |un|d (x:D)|ow (xs:List D)|oo (xss:List (List D))
variable{s5 s6 s8 s9 s10 s11 s12 s13 s14:SV}
abbrev bZ:=List SV
variable{ρ ρ':bZ}
def Own1(K:Nb)(H0:Hp)(W:Wd)(H:Hp)(b:Addr)(xs:List D):Prop:=∃vs,H b=some (HO.lst vs)/\W.G b=none/\¬W.Pn b/\H0 b=none/\Reps K W vs xs
structure OwnT(K:Nb)(H0:Hp)(W:Wd)(H:Hp)(a:Addr)(bs:List Addr)(xss:List (List D)):Prop where
 a1:H a=some (HO.lst<|bs.map V.ref)
 a2:W.G a=none
 a3:¬W.Pn a
 a4:H0 a=none
 nd:(a::bs).Nodup
 len:bs.length=xss.length
 row:∀(i:Nat) b,bs[i]? = some b->∃xs,xss[i]? = some xs/\Own1 K H0 W H b xs
structure OOs(K:Nb)(H0:Hp)(W:Wd)(σ:L2.St)(H:Hp)(ρ:bZ):Prop where
 t:∀(i:Nat) xss,ρ[i]? = some (SV.oo xss)->∃a bs,σ[i]? = some (some<|V.ref a)/\OwnT K H0 W H a bs xss/\∀(j:Nat) ys c,ρ[j]? = some (SV.ow ys)->σ[j]? = some (some<|V.ref c)->c∉a::bs
 u:∀(i j:Nat) xss yss,ρ[i]? = some (SV.oo xss)->ρ[j]? = some (SV.oo yss)->i=j
structure SOk(K:Nb)(W0:Wd)(H0:Hp)(W:Wd)(σ:L2.St)(H:Hp)(ρ:bZ):Prop where
 ext:Ext W0 H0 W H
 len:ρ.length=σ.length
 d:∀(i:Nat) x,ρ[i]? = some (SV.d x)->∃v:V,σ[i]? = some (some v)/\Rep K W v x
 o:∀(i:Nat) xs,ρ[i]? = some (SV.ow xs)->∃a vs,σ[i]? = some (some<|V.ref a)/\H a=some (HO.lst vs)/\W.G a=none/\¬W.Pn a/\H0 a=none/\Reps K W vs xs
 ne:∀(i j:Nat) xs ys a,i≠j->ρ[i]? = some (SV.ow xs)->ρ[j]? = some (SV.ow ys)->σ[i]? = some (some<|V.ref a)->σ[j]?≠some (some<|V.ref a)
 oo:OOs K H0 W σ H ρ
section
variable{W:Wd}
def SOk.ok(s:SOk K W0 H0 W σ H ρ):WOk W H:=s.ext.ok
theorem Own1.step{b:Addr}(o:Own1 K H0 W H b xs)(x:Ext W H W1 H1):Own1 K H0 W1 H1 b xs:=by
 obtain⟨vs,e2,e3,e4,e5,r⟩:=o;refine⟨vs,x.h b _ e2 e4,?_,λq=>?_,e5,x.reps r⟩;cases q:W1.G b with
 |none=>rfl|some o=>have:=x.gf b e3 (by rw[q];simp);rw[e2]at this;cases this
 have:=x.pf b e4 q;rw[e2]at this;cases this
theorem OwnT.step{a:Addr}{bs:List Addr}{xss:List (List D)}(o:OwnT K H0 W H a bs xss)(x:Ext W H W1 H1):OwnT K H0 W1 H1 a bs xss:=by
 refine⟨x.h a _ o.a1 o.a3,?_,λq=>?_,o.a4,o.nd,o.len,λi b e=>let⟨xs,e1,q⟩:=o.row i b e;⟨xs,e1,q.step x⟩⟩;cases q:W1.G a with
 |none=>rfl|some u=>have:=x.gf a o.a2 (by rw[q];simp);rw[o.a1]at this;cases this
 have:=x.pf a o.a3 q;rw[o.a1]at this;cases this
theorem OwnT.here{c:Addr}{bs:List Addr}(o:OwnT K H0 W H a bs xss)(h:H c=none):c∉a::bs:=λq=>by
 rcases Yan.mp q with rfl|q
 rw[o.a1]at h;cases h;obtain⟨i,hi,rfl⟩:=Ybv.mp q;obtain⟨xs,_,vs,e,_⟩:=o.row i _<|bJ hi;rw[e]at h;cases h
theorem OwnT.noPen{c:Addr}{bs:List Addr}(o:OwnT K H0 W H a bs xss)(h:W.Pn c):c∉a::bs:=λq=>by
 rcases Yan.mp q with rfl|q
 exact o.a3 h;obtain⟨i,hi,rfl⟩:=Ybv.mp q;obtain⟨xs,_,vs,_,_,e,_⟩:=o.row i _<|bJ hi;exact e h
theorem OwnT.upd{a c:Addr}{o':HO}{bs:List Addr}{xss:List (List D)}(o:OwnT K H0 W H a bs xss)(h:c∉a::bs):OwnT K H0 W (upd H c o') a bs xss:=by have ha:a≠c:=λz=>h (by rw[z];simp);refine⟨by rw[aI ha];exact o.a1,o.a2,o.a3,o.a4,o.nd,o.len,λi b e=>?_⟩;obtain⟨xs,e1,vs,q⟩:=o.row i b e;have hb:b≠c:=λz=>h (by rw[<-z];exact ip _<|jy e);exact⟨xs,e1,vs,by rw[aI hb];exact q⟩
theorem OwnT.put{a c:Addr}{o':HO}{bs:List Addr}{xss:List (List D)}(o:OwnT K H0 W H a bs xss)(h:c∉a::bs)(hc:W.G c=none):OwnT K H0 (W.put c o') H a bs xss:=by have ha:a≠c:=λz=>h (by rw[z];simp);refine⟨o.a1,by unfold Wd.put;dsimp only;rw[aI ha];exact o.a2,o.a3,o.a4,o.nd,o.len,λi b e=>?_⟩;obtain⟨xs,e1,vs,q1,q2,q3,q4,q5⟩:=o.row i b e;have hb:b≠c:=λz=>h (by rw[<-z];exact ip _<|jy e);exact⟨xs,e1,vs,q1,by unfold Wd.put;dsimp only;rw[aI hb];exact q2,q3,q4,q5.mono (qp hc) λ_ z=>z⟩
def OOs.none(h:∀(i:Nat) xss,ρ[i]?≠some (SV.oo xss)):OOs K H0 W σ H ρ:=⟨λi xss e=>Nd e<|h i xss,λi j xss yss e=>Nd e<|h i xss⟩
def OOs.step(o:OOs K H0 W σ H ρ)(x:Ext W H W1 H1):OOs K H0 W1 σ H1 ρ:=⟨λi xss e=>let⟨a,bs,e1,q,n⟩:=o.t i xss e;⟨a,bs,e1,q.step x,n⟩,o.u⟩
theorem OOs.set{σ':L2.St}(o:OOs K H0 W σ H ρ){i:Nat}{y:SV}(hy:∀xss,y≠.oo xss)(hσ:∀j,i≠j->σ'[j]? = σ[j]?)(hw:∀ys c,y=.ow ys->σ'[i]? = some (some<|V.ref c)->∀(j:Nat) xss a bs,i≠j->ρ[j]? = some (SV.oo xss)->σ[j]? = some (some<|V.ref a)->OwnT K H0 W H a bs xss->(∀(j:Nat) ys c,ρ[j]? = some (SV.ow ys)->σ[j]? = some (some<|V.ref c)->c∉a::bs)->c∉a::bs):OOs K H0 W σ' H (ρ.set i y):=by
 have nt:∀{j:Nat} {xss:List (List D)},(ρ.set i y)[j]? = some (SV.oo xss)->i≠j/\ρ[j]? = some (SV.oo xss):=λ{j xss} e=>by
  by_cases h:i=j;subst h;by_cases hi:i<ρ.length;rw[dq hi]at e;cases e;exact Nd rfl<|hy xss
  rw[eD (by rw[cU];omega)]at e;cases e;rw[cO h]at e;exact⟨h,e⟩
 refine⟨λj xss e=>?_,λj k xss yss e1 e2=>o.u j k xss yss (nt e1).2 (nt e2).2⟩;obtain⟨h,e'⟩:=nt e;clear e;obtain⟨a,bs,e1,q,n⟩:=o.t j xss e';refine⟨a,bs,by rw[hσ j h];exact e1,q,λk ys c ek ec=>?_⟩;by_cases hk:i=k;subst hk;by_cases hi:i<ρ.length;rw[dq hi]at ek;cases ek;exact hw ys c rfl ec j xss a bs h e' e1 q n;rw[eD (by rw[cU];omega)]at ek;cases ek;rw[cO hk]at ek;rw[hσ k hk]at ec;exact n k ys c ek ec
theorem SOk.step(s:SOk K W0 H0 W σ H ρ)(x:Ext W H W1 H1):SOk K W0 H0 W1 σ H1 ρ where
 ext:=s.ext.trans x
 len:=s.len
 d:=λi y e=>let⟨v,e1,r⟩:=s.d i y e;⟨v,e1,x.rep r⟩
 o:=λi ys e=>by
  obtain⟨a,vs,e1,e2,e3,e4,e5,r⟩:=s.o i ys e;refine⟨a,vs,e1,x.h a _ e2 e4,?_,λq=>?_,e5,x.reps r⟩;cases q:W1.G a with
  |none=>rfl|some o=>have:=x.gf a e3 (by rw[q];simp);rw[e2]at this;cases this
  have:=x.pf a e4 q;rw[e2]at this;cases this
 ne:=s.ne
 oo:=s.oo.step x
end
abbrev Ex:=Str
def yB(K:Nb)(W:Wd)(_:Hp)(cls:Value)(dx:Option Addr)(ex:Ex):Prop:=∃C,jD K (nr ex)=some C/\cls=.ref C/\XD W ex dx
def jn(K:Nb)(W0:Wd)(H0:Hp)(E:Ex->Prop)(EX:XK):Prop:=∀ex W' H' cls dx,E ex->Ext W0 H0 W' H'->yB K W' H' cls dx ex->EX cls dx H'
abbrev WE:=(Ex->Prop)->bZ->(D->Prop)->Prop
variable{wa wb wc w we wv wo:WE}
abbrev WT:=(Ex->Prop)->bZ->(Bool->Prop)->Prop
variable{wt wf:WT}
abbrev WA:=(Ex->Prop)->bZ->(List D->Prop)->Prop
variable{t wi:WA}
def RQ(K:Nb)(W:Wd)(H:Hp)(Q:VK)(d:D):Prop:=∀v W' H',Ext W H W' H'->Rep K W' v d->Q v H'
structure PX(X:Cx)(EX:XK)(e:Expr)(w:WE):Prop where
 t:∃t,PE X e t/\∀W0 H0 W σ H ρ E Q,SOk X.K W0 H0 W σ H ρ->jn X.K W0 H0 E EX->w E ρ (RQ X.K W H Q)->t σ H Q
 mono:∀E ρ P P',(∀d,P d->P' d)->w E ρ P->w E ρ P'
structure jS(X:Cx)(EX:XK)(e:Expr)(w:WT):Prop where
 t:∃t,PT X e t/\∀W0 H0 W σ H ρ E Q,SOk X.K W0 H0 W σ H ρ->jn X.K W0 H0 E EX->w E ρ (λb=>∀W' H',Ext W H W' H'->Q b H')->t σ H Q
 mono:∀E ρ P P',(∀d,P d->P' d)->w E ρ P->w E ρ P'
structure jE(X:Cx)(EX:XK)(es:List Expr)(w:WA):Prop where
 t:∃t,PA X es t/\∀W0 H0 W σ H ρ E Q,SOk X.K W0 H0 W σ H ρ->jn X.K W0 H0 E EX->w E ρ (λds=>∀vs W' H',Ext W H W' H'->Reps X.K W' vs ds->Q vs H')->t σ H Q
 mono:∀E ρ P P',(∀d,P d->P' d)->w E ρ P->w E ρ P'
structure PXL(X:Cx)(EX:XK)(e:Expr)(w:WA):Prop where
 t:∃t,PE X e t/\∀W0 H0 W σ H ρ E Q,SOk X.K W0 H0 W σ H ρ->jn X.K W0 H0 E EX->
  w E ρ (λds=>∀a vs W' H',Ext W H W' H'->H' a=some (.lst vs)->W'.G a=none->¬W'.Pn a->H a=none->Reps X.K W' vs ds->Q (.ref a) H')->t σ H Q
 mono:∀E ρ P P',(∀d,P d->P' d)->w E ρ P->w E ρ P'
structure Nds where
 nx:bZ->Prop
 rt:D->Prop
 bk:bZ->Prop:=λ_=>False
 ct:bZ->Prop:=λ_=>False
variable{N:Nds}
structure Wle(F W:Wd):Prop where
 g:∀a o,F.G a=some o->W.G a=some o
 p:∀a,F.Pn a->W.Pn a
def Wle.refl(F:Wd):Wle F F:=⟨λ_ _ e=>e,λ_ e=>e⟩
def Wle.trans{F W V:Wd}(a:Wle F W)(b:Wle W V):Wle F V:=⟨λx o e=>b.g x o<|a.g x o e,λx e=>b.p x<|a.p x e⟩
def Wle.ext{F W:Wd}(a:Wle F W)(x:Ext W H W1 H1):Wle F W1:=a.trans ⟨x.g,x.p⟩
structure Bb(K:Nb)(W0:Wd)(H0:Hp)(F:Wd)(Dn:jO)(N:Nds):Prop where
 nx:∀W σ H ρ,SOk K W0 H0 W σ H ρ->Wle F W->N.nx ρ->Dn.nx σ H
 rt:∀d v W H,Ext W0 H0 W H->Rep K W v d->N.rt d->Dn.rt v H
 bk:∀W σ H ρ,SOk K W0 H0 W σ H ρ->Wle F W->N.bk ρ->Dn.bk σ H
 ct:∀W σ H ρ,SOk K W0 H0 W σ H ρ->Wle F W->N.ct ρ->Dn.ct σ H
structure Nds.le(N N':Nds):Prop where
 nx:∀ρ,N.nx ρ->N'.nx ρ
 rt:∀d,N.rt d->N'.rt d
 bk:∀ρ,N.bk ρ->N'.bk ρ
 ct:∀ρ,N.ct ρ->N'.ct ρ
abbrev WS:=(Ex->Prop)->Nds->bZ->Prop
variable{z' zb:WS}
structure PZ(X:Cx)(EX:XK)(st:Stmt)(z:WS):Prop where
 t:∃t,PS X st t/\∀W0 H0 F W σ H ρ E Dn N,SOk X.K W0 H0 W σ H ρ->Wle F W->jn X.K W0 H0 E EX->Bb X.K W0 H0 F Dn N->z E N ρ->t Dn σ H
 mono:∀E ρ N N',N.le N'->z E N ρ->z E N' ρ
structure jT(X:Cx)(EX:XK)(st:List Stmt)(z:WS):Prop where
 t:∃t,l7 X st t/\∀W0 H0 F W σ H ρ E Dn N,SOk X.K W0 H0 W σ H ρ->Wle F W->jn X.K W0 H0 E EX->Bb X.K W0 H0 F Dn N->z E N ρ->t Dn σ H
 mono:∀E ρ N N',N.le N'->z E N ρ->z E N' ρ
section
variable{W:Wd}{Q:VK}
def RQ.ext(h:RQ K W H Q d)(x:Ext W H W1 H1):RQ K W1 H1 Q d:=λv W' H' y r=>h v W' H' (x.trans y) r
def RQ.now(h:RQ K W H Q d)(ok:WOk W H){v:V}(r:Rep K W v d):Q v H:=h v W H (.refl ok) r
theorem RQ.tup{vs:List V}{ds:List D}(h:RQ K W H Q (.tup ds))(ok:WOk W H)(r:Reps K W vs ds){p:Addr}(hp:H p=none):Q (.ref p) (upd H p<|.tup vs):=by have x:=Ext.put (o:=.tup vs) ok hp;exact h _ _ _ x<|.tup (by unfold Wd.put;dsimp only;rw[aO]) (x.reps r)
theorem RQ.lst{vs:List V}{ds:List D}(h:RQ K W H Q (.lst ds))(ok:WOk W H)(r:Reps K W vs ds){p:Addr}(hp:H p=none):Q (.ref p) (upd H p<|.lst vs):=by have x:=Ext.put (o:=.lst vs) ok hp;exact h _ _ _ x<|.lst (by unfold Wd.put;dsimp only;rw[aO]) (x.reps r)
theorem Rep.sqt{a:V}(r:Rep K W a (.tup ds))(ok:WOk W H):∃p vs,a=.ref p/\SqT K H p vs/\Reps K W vs ds:=by
 cases r with
 |tup e r=>exact⟨_,_,rfl,.inl<|.inl<|ok.g _ _ e,r⟩|ktup e r=>exact⟨_,_,rfl,.inr e,r⟩
theorem Rep.sql{a:V}(r:Rep K W a (.lst ds))(ok:WOk W H):∃p vs,a=.ref p/\SqL K H p vs/\Reps K W vs ds:=by
 cases r with
 |lst e r=>exact⟨_,_,rfl,.inl<|.inl<|ok.g _ _ e,r⟩
theorem Rep.sqs{a:V}(r:Rep K W a (.scr ds))(ok:WOk W H):∃p vs,a=.ref p/\SqL K H p vs/\Reps K W vs ds:=by
 cases r with
 |scr e r=>exact⟨_,_,rfl,e.elim (λ⟨o,e⟩=>.inl<|.inr ⟨o,ok.g _ _ e⟩) .inr,r⟩
end
section
def wN(i:Nat):WE:=λ_ ρ Q=>match ρ[i]? with|some (.d x)=>Q x|_=>False
theorem aE(i:Nat)(hN:X.N[i]? = some x:=by rfl)(hv:kU X.env.scope x:=by first|exact Or.inl rfl|exact Or.inr (Or.inl rfl)|exact Or.inr<|Or.inr rfl)(hd:(x==("__debug__" : Str))=false:=by decide)
  (hcd:(x==("__classdict__" : Str))=false:=by decide):PX X EX (.Name x pos) (wN i):=by
 refine⟨⟨_,dg hN hv hd hcd,λW0 H0 W σ H ρ E Q s _ h=>?_⟩,λE ρ P P' hp h=>?_⟩
 .unfold wN at h
  split at h
  .rename_i x e
   obtain⟨v,e1,r⟩:=s.d i x e;exact⟨v,e1,h.now s.ok r⟩
  .exact h.elim
 .unfold wN at h ⊢
  split at h
  .exact hp _ h
  .exact h.elim
def wC(d:D):WE:=λ_ _ Q=>Q d
def wC.mono:∀(E:Ex->Prop) ρ P P',(∀d,P d->P' d)->wC d E ρ P->wC d E ρ P':=λ_ _ _ _ hp h=>hp _ h
def aL{i j}:PX X EX (.Constant (.int i) j pos) (wC<|.int i):=⟨⟨_,kj,λ_ _ _ _ _ _ _ _ s _ h=>RQ.now h s.ok<|.int i⟩,wC.mono⟩
def fM{b j}:PX X EX (.Constant (.bool b) j pos) (wC<|.bl b):=⟨⟨_,uU,λ_ _ _ _ _ _ _ _ s _ h=>RQ.now h s.ok<|.bl b⟩,wC.mono⟩
def nu{j}:PX X EX (.Constant .none j pos) (wC .non):=⟨⟨_,rP,λ_ _ _ _ _ _ _ _ s _ h=>RQ.now h s.ok .non⟩,wC.mono⟩
def j3{x j}:PX X EX (.Constant (.str x) j pos) (wC<|.str x):=⟨⟨_,rR,λ_ _ _ _ _ _ _ _ s _ h=>RQ.now h s.ok<|.str x⟩,wC.mono⟩
theorem Bc{v:V}{u:Value}(hm:X.mg x=some u)(r:RelV v u)(rd:∀W,Rep X.K W v d)(hg:Gl X x:=by rfl)(hd:(x==("__debug__" : Str))=false:=by decide):PX X EX (.Name x pos) (wC d):=
 ⟨⟨_,pV hg hm r hd,λ_ _ _ _ _ _ _ _ s _ h=>RQ.now h s.ok<|rd _⟩,wC.mono⟩
theorem IF{v:V}{u:Value}(hm:X.mg x=none)(hv:bootBuiltins x=some u)(r:RelV v u)(rd:∀W,Rep X.K W v d)(hg:Gl X x:=by rfl)(hn:x≠ "__name__" :=by decide)(hd:(x==("__debug__" : Str))=false:=by decide):PX X EX (.Name x pos) (wC d):=
 ⟨⟨_,pW hg hm hv r hn hd,λ_ _ _ _ _ _ _ _ s _ h=>RQ.now h s.ok<|rd _⟩,wC.mono⟩
end
abbrev G2:=D->D->(D->Prop)->Prop
structure gS(X:Cx)(f:Value->Value->Sem Value)(g:G2):Prop where
 t:∃r,OpR X f r/\∀W H x y dx dy Q,WOk W H->Rep X.K W x dx->Rep X.K W y dy->g dx dy (RQ X.K W H Q)->r x y H Q
 mono:∀x y P P',(∀d,P d->P' d)->g x y P->g x y P'
section
variable{a b c:Expr}
def w2(g:G2)(wa wb:WE):WE:=λE ρ Q=>wa E ρ λx=>wb E ρ λy=>g x y Q
def w2.mono{g:G2}(ha:PX X EX a wa)(hb:PX X EX b wb)(hg:∀x y P P',(∀d,P d->P' d)->g x y P->g x y P'):∀E ρ P P',(∀d,P d->P' d)->w2 g wa wb E ρ P->w2 g wa wb E ρ P':=
 λE ρ P P' hp h=>ha.mono E ρ _ _ (λx hx=>hb.mono E ρ _ _ (λy hy=>hg x y _ _ hp hy) hx) h
theorem lN{ta tb:TE}{R:V->V->Hp->Prop}{G:D->D->Prop}{W:Wd}{E:Ex->Prop}(hma:∀E ρ P P',(∀d,P d->P' d)->wa E ρ P->wa E ρ P')(hmb:∀E ρ P P',(∀d,P d->P' d)->wb E ρ P->wb E ρ P')
  (ka:∀W0 H0 W σ H ρ E Q,SOk X.K W0 H0 W σ H ρ->jn X.K W0 H0 E EX->wa E ρ (RQ X.K W H Q)->ta σ H Q) (kb:∀W0 H0 W σ H ρ E Q,SOk X.K W0 H0 W σ H ρ->jn X.K W0 H0 E EX->wb E ρ (RQ X.K W H Q)->tb σ H Q)
  (s:SOk X.K W0 H0 W σ H ρ) (eo:jn X.K W0 H0 E EX) (h:wa E ρ λx=>wb E ρ λy=>G x y)
  (k:∀W2 H2 x y dx dy,Ext W H W2 H2->Rep X.K W2 x dx->Rep X.K W2 y dy->G dx dy->R x y H2):ta σ H λx H1=>tb σ H1 λy H2=>R x y H2:=
 ka W0 H0 W σ H ρ E _ s eo (hma E ρ _ _ (λdx hx v W1 H1 x1 r1=>kb W0 H0 W1 σ H1 ρ E _ (s.step x1) eo<|hmb E ρ _ _ (λdy hy u W2 H2 x2 r2=>k W2 H2 v u dx dy (x1.trans x2) (x2.rep r1) r2 hy) hx) h)
theorem aW{op:Operator}{g:G2}(ho:gS X (binaryOp op) g)(ha:PX X EX a wa)(hb:PX X EX b wb):PX X EX (.BinOp a op b pos) (w2 g wa wb):=by obtain⟨ta,pa,ka⟩:=ha.t;obtain⟨tb,pb,kb⟩:=hb.t;obtain⟨r,pr,kr⟩:=ho.t;refine⟨⟨_,mM pr pa pb,λW0 H0 W σ H ρ E Q s eo h=>?_⟩,w2.mono ha hb ho.mono⟩;exact lN ha.mono hb.mono ka kb s eo h λW2 H2 x y dx dy x2 rx ry hg=>kr W2 H2 x y dx dy Q x2.ok rx ry<|ho.mono _ _ _ _ (λd hd=>RQ.ext hd x2) hg
theorem nw{g:G2}(ho:gS X (compareOp op) g)(ha:PX X EX a wa)(hb:PX X EX b wb)(hm:behindInMarks op b=false:=by first|exact mP _|with_unfolding_all rfl):PX X EX (.Compare a [op] [b] pos) (w2 g wa wb):=by obtain⟨ta,pa,ka⟩:=ha.t;obtain⟨tb,pb,kb⟩:=hb.t;obtain⟨r,pr,kr⟩:=ho.t;refine⟨⟨_,qe pr pa pb hm,λW0 H0 W σ H ρ E Q s eo h=>?_⟩,w2.mono ha hb ho.mono⟩;exact lN ha.mono hb.mono ka kb s eo h λW2 H2 x y dx dy x2 rx ry hg=>kr W2 H2 x y dx dy Q x2.ok rx ry<|ho.mono _ _ _ _ (λd hd=>RQ.ext hd x2) hg
def isB(Q:Bool->Prop):D->Prop
 |.bl b=>Q b|_=>False
def isB.mono{Q Q':Bool->Prop}(h:∀b,Q b->Q' b):∀d,isB Q d->isB Q' d
 |.bl b,z=>h b z|.non,z=>z|.int _,z=>z|.str _,z=>z|.tup _,z=>z|.lst _,z=>z|.dic,z=>z|.pen,z=>z|.cls _,z=>z|.exc _,z=>z|.ty _,z=>z|.scr _,z=>z
def wT(w:WE):WT:=λE ρ Q=>w E ρ<|isB Q
theorem sQ{Q:Bool->Prop}(h:isB Q d):∃b,d=.bl b/\Q b:=by
 cases d with
 |bl b=>exact⟨b,rfl,h⟩|_=>exact h.elim
def wT.mono{w:WE}(h:∀E ρ P P',(∀d,P d->P' d)->w E ρ P->w E ρ P'):∀E ρ P P',(∀d,P d->P' d)->wT w E ρ P->wT w E ρ P':=λE ρ _ _ hp z=>h E ρ _ _ (isB.mono hp) z
theorem c8{g:G2}(ho:gS X (compareOp op) g)(ha:PX X EX a wa)(hb:PX X EX b wb)(hm:behindInMarks op b=false:=by first|exact mP _|with_unfolding_all rfl):jS X EX (.Compare a [op] [b] pos) (wT<|w2 g wa wb):=by obtain⟨ta,pa,ka⟩:=ha.t;obtain⟨tb,pb,kb⟩:=hb.t;obtain⟨r,pr,kr⟩:=ho.t;refine⟨⟨_,qf pr pa pb hm,λW0 H0 W σ H ρ E Q s eo h=>?_⟩,wT.mono<|w2.mono ha hb ho.mono⟩;refine lN ha.mono hb.mono ka kb s eo h λW2 H2 x y dx dy x2 rx ry hg=>kr W2 H2 x y dx dy _ x2.ok rx ry<|ho.mono _ _ _ _ (λd hd v W' H' x' r'=>?_) hg;obtain⟨b,rfl,q⟩:=sQ hd;cases r';exact⟨b,rfl,q W' H'<|x2.trans x'⟩
theorem gC(ha:PX X EX a wa)(he:∀whole,isTrue a X.env whole=(do let v <-whole;standAt a.pos;holding [v] (truthy v)):=by intro _;rfl):jS X EX a (wT wa):=by obtain⟨ta,pa,ka⟩:=ha.t;refine⟨⟨_,mT pa he,λW0 H0 W σ H ρ E Q s eo h=>?_⟩,wT.mono ha.mono⟩;refine ka W0 H0 W σ H ρ E _ s eo<|ha.mono _ _ _ _ (λd hd v W' H' x' r'=>?_) h;obtain⟨b,rfl,q⟩:=sQ hd;cases r';exact⟨b,rfl,q W' H' x'⟩
def bS(w:WT):WT:=λE ρ Q=>w E ρ λb=>Q (!b)
theorem gD{w:WT}(ha:jS X EX a w):jS X EX (.UnaryOp .Not a pos) (bS w):=by obtain⟨ta,pa,ka⟩:=ha.t;refine⟨⟨_,rV pa,λW0 H0 W σ H ρ E Q s eo h=>?_⟩,λE ρ P P' hp h=>ha.mono _ _ _ _ (λb hb=>hp _ hb) h⟩;exact ka W0 H0 W σ H ρ E _ s eo h
structure PXW(X:Cx)(EX:XK)(e:Expr)(w:WT):Prop where
 t:∃t,PW X e t/\∀W0 H0 W σ H ρ E Q,SOk X.K W0 H0 W σ H ρ->jn X.K W0 H0 E EX->w E ρ (λb=>∀W' H',Ext W H W' H'->Q b H')->t σ H Q
 mono:∀E ρ P P',(∀d,P d->P' d)->w E ρ P->w E ρ P'
def PXW.pxt{w:WT}(h:PXW X EX a w):jS X EX a w:=let⟨t,p,k⟩:=h.t;⟨⟨t,p.pt,k⟩,h.mono⟩
variable{rest:List Expr}
def dE(w w':WT):WT:=λE ρ Q=>w E ρ λb=>if b=true then w' E ρ Q else Q false
def e8(w w':WT):WT:=λE ρ Q=>w E ρ λb=>if b=true then Q true else w' E ρ Q
def Be{w:WT}(ha:jS X EX a w):PXW X EX (.BoolOp .And [a] pos) w:=let⟨t,p,k⟩:=ha.t;⟨⟨t,pX p,k⟩,ha.mono⟩
def lb{w:WT}(ha:jS X EX a w):PXW X EX (.BoolOp .Or [a] pos) w:=let⟨t,p,k⟩:=ha.t;⟨⟨t,rS p,k⟩,ha.mono⟩
theorem Bf{w w':WT}(ha:jS X EX a w)(hb:PXW X EX (.BoolOp .And (b::rest) pos) w'):PXW X EX (.BoolOp .And (a::b::rest) pos) (dE w w'):=by
 obtain⟨ta,pa,ka⟩:=ha.t;obtain⟨tb,pb,kb⟩:=hb.t;refine⟨⟨_,rT pa pb,λW0 H0 W σ H ρ E Q s eo h=>?_⟩,λE ρ P P' hp h=>ha.mono _ _ _ _ (λb hb'=>?_) h⟩;refine ka W0 H0 W σ H ρ E _ s eo (ha.mono _ _ _ _ (λb hb' W1 H1 x1=>?_) h);cases b with
 |true=>rw[oI rfl]at hb' ⊢;exact kb W0 H0 W1 σ H1 ρ E _ (s.step x1) eo<|hb.mono _ _ _ _ (λb hq W' H' x'=>hq W' H'<|x1.trans x') hb'
 |false=>rw[ks<|by decide]at hb' ⊢;exact hb' W1 H1 x1
 cases b with
 |true=>rw[oI rfl]at hb' ⊢;exact hb.mono _ _ _ _ hp hb'|false=>rw[ks<|by decide]at hb' ⊢;exact hp _ hb'
theorem jU{w w':WT}(ha:jS X EX a w)(hb:PXW X EX (.BoolOp .Or (b::rest) pos) w'):PXW X EX (.BoolOp .Or (a::b::rest) pos) (e8 w w'):=by
 obtain⟨ta,pa,ka⟩:=ha.t;obtain⟨tb,pb,kb⟩:=hb.t;refine⟨⟨_,uV pa pb,λW0 H0 W σ H ρ E Q s eo h=>?_⟩,λE ρ P P' hp h=>ha.mono _ _ _ _ (λb hb'=>?_) h⟩;refine ka W0 H0 W σ H ρ E _ s eo (ha.mono _ _ _ _ (λb hb' W1 H1 x1=>?_) h);cases b with
 |true=>rw[oI rfl]at hb' ⊢;exact hb' W1 H1 x1|false=>rw[ks<|by decide]at hb' ⊢;exact kb W0 H0 W1 σ H1 ρ E _ (s.step x1) eo<|hb.mono _ _ _ _ (λb hq W' H' x'=>hq W' H'<|x1.trans x') hb'
 cases b with
 |true=>rw[oI rfl]at hb' ⊢;exact hp _ hb'|false=>rw[ks<|by decide]at hb' ⊢;exact hb.mono _ _ _ _ hp hb'
end
section
variable{a b c:Expr}{rest:List Expr}
def iX(wa wb:WE):WE:=λE ρ Q=>wa E ρ (isB λb=>if b=true then wb E ρ Q else Q (.bl false))
def gE(wa wb:WE):WE:=λE ρ Q=>wa E ρ (isB λb=>if b=true then Q (.bl true) else wb E ρ Q)
def kz(wa:WE):WE:=λE ρ Q=>wa E ρ<|isB λb=>Q (.bl (!b))
def sR{op}(h:PX X EX a wa):PX X EX (.BoolOp op [a] pos) wa:=let⟨t,q,k⟩:=h.t;⟨⟨t,rW q,k⟩,h.mono⟩
theorem sS(ha:PX X EX a wa)(hb:PX X EX (.BoolOp .And (b::rest) pos) wb):PX X EX (.BoolOp .And (a::b::rest) pos) (iX wa wb):=by
 obtain⟨ta,pa,ka⟩:=ha.t;obtain⟨tb,pb,kb⟩:=hb.t;refine⟨⟨_,rX pa pb,λW0 H0 W σ H ρ E Q s eo h=>?_⟩,λE ρ P P' hp h=>ha.mono _ _ _ _ (isB.mono λb hb'=>?_) h⟩;refine ka W0 H0 W σ H ρ E _ s eo (ha.mono _ _ _ _ (λd hd v W1 H1 x1 r1=>?_) h);obtain⟨b,rfl,q⟩:=sQ hd;cases r1;refine⟨b,rfl,?_⟩;cases b with
 |true=>rw[oI rfl]at q ⊢;exact kb W0 H0 W1 σ H1 ρ E _ (s.step x1) eo<|hb.mono _ _ _ _ (λd hd=>RQ.ext hd x1) q
 |false=>rw[ks<|by decide]at q ⊢;exact q _ W1 H1 x1<|.bl false
 cases b with
 |true=>rw[oI rfl]at hb' ⊢;exact hb.mono _ _ _ _ hp hb'|false=>rw[ks<|by decide]at hb' ⊢;exact hp _ hb'
theorem DL(ha:PX X EX a wa):PX X EX (.UnaryOp .Not a pos) (kz wa):=by obtain⟨ta,pa,ka⟩:=ha.t;refine⟨⟨_,rY pa,λW0 H0 W σ H ρ E Q s eo h=>?_⟩,λE ρ P P' hp h=>ha.mono _ _ _ _ (isB.mono λb hb'=>hp _ hb') h⟩;refine ka W0 H0 W σ H ρ E _ s eo<|ha.mono _ _ _ _ (λd hd v W1 H1 x1 r1=>?_) h;obtain⟨b,rfl,q⟩:=sQ hd;cases r1;exact⟨b,rfl,q _ W1 H1 x1<|.bl _⟩
def j4(wt:WT)(wa wb:WE):WE:=λE ρ Q=>wt E ρ λb=>if b=true then wa E ρ Q else wb E ρ Q
theorem DM(hc:jS X EX c wt)(ha:PX X EX a wa)(hb:PX X EX b wb):PX X EX (.IfExp c a b pos) (j4 wt wa wb):=by
 obtain⟨ta,pa,ka⟩:=ha.t;obtain⟨tb,pb,kb⟩:=hb.t;obtain⟨tc,pc,kc⟩:=hc.t;refine⟨⟨_,mG pc pa pb,λW0 H0 W σ H ρ E Q s eo h=>?_⟩,λE ρ P P' hp h=>hc.mono _ _ _ _ (λb hb'=>?_) h⟩;refine kc W0 H0 W σ H ρ E _ s eo (hc.mono _ _ _ _ (λb q W1 H1 x1=>?_) h);cases b with
 |true=>rw[oI rfl]at q ⊢;exact ka W0 H0 W1 σ H1 ρ E _ (s.step x1) eo<|ha.mono _ _ _ _ (λd hd=>RQ.ext hd x1) q
 |false=>rw[ks<|by decide]at q ⊢;exact kb W0 H0 W1 σ H1 ρ E _ (s.step x1) eo<|hb.mono _ _ _ _ (λd hd=>RQ.ext hd x1) q
 cases b with
 |true=>rw[oI rfl]at hb' ⊢;exact ha.mono _ _ _ _ hp hb'|false=>rw[ks<|by decide]at hb' ⊢;exact hb.mono _ _ _ _ hp hb'
def Zbk(g g':G2)(wa wb wc:WE):WE:=λE ρ Q=>wa E ρ λx=>wb E ρ λy=>g x y (isB λk=>if k=true then wc E ρ λz=>g' y z Q else Q (.bl false))
theorem Zbk.mono{g g':G2}(ha:PX X EX a wa)(hb:PX X EX b wb)(hc:PX X EX c wc)(hg:∀x y P P',(∀d,P d->P' d)->g x y P->g x y P')(hg':∀x y P P',(∀d,P d->P' d)->g' x y P->g' x y P') :
  ∀E ρ P P',(∀d,P d->P' d)->Zbk g g' wa wb wc E ρ P->Zbk g g' wa wb wc E ρ P':=λE ρ P P' hp h=>
 ha.mono _ _ _ _ (λx hx=>hb.mono _ _ _ _ (λy hy=>hg x y _ _ (isB.mono λk hk=>by
  cases k with
  |true=>rw[oI rfl]at hk ⊢;exact hc.mono _ _ _ _ (λz hz=>hg' y z _ _ hp hz) hk
  |false=>rw[ks<|by decide]at hk ⊢;exact hp _ hk) hy) hx) h
theorem DN{op':CmpOp}{g g':G2}(ho:gS X (compareOp op) g)(ho':gS X (compareOp op') g')(ha:PX X EX a wa)(hb:PX X EX b wb)(hc:PX X EX c wc)
  (hm:lastMarks [op,op'] [b,c]=false:=by with_unfolding_all rfl):PX X EX (.Compare a [op,op'] [b,c] pos) (Zbk g g' wa wb wc):=by
 obtain⟨ta,pa,ka⟩:=ha.t;obtain⟨tb,pb,kb⟩:=hb.t;obtain⟨tc,pc,kc⟩:=hc.t;obtain⟨r,pr,kr⟩:=ho.t;obtain⟨r',pr',kr'⟩:=ho'.t;refine⟨⟨_,mR pr pr' pa pb pc hm,λW0 H0 W σ H ρ E Q s eo h=>?_⟩,Zbk.mono ha hb hc ho.mono ho'.mono⟩;refine lN ha.mono hb.mono ka kb s eo h λW2 H2 x y dx dy x2 rx ry hg=>kr W2 H2 x y dx dy _ x2.ok rx ry<|ho.mono _ _ _ _ (λd hd v W3 H3 x3 r3=>?_) hg;obtain⟨k,rfl,q⟩:=sQ hd;cases r3;refine⟨k,rfl,?_⟩;cases k with
 |true=>
  rw[oI rfl]at q ⊢;refine kc W0 H0 W3 σ H3 ρ E _ (s.step<|x2.trans x3) eo<|hc.mono _ _ _ _ (λdz hz w W4 H4 x4 r4=>?_) q;exact kr' W4 H4 y w dy dz Q x4.ok (x4.rep<|x3.rep ry) r4<|ho'.mono _ _ _ _ (λd hd=>RQ.ext hd<|x2.trans<|x3.trans x4) hz
 |false=>rw[ks<|by decide]at q ⊢;exact q _ W3 H3 (x2.trans x3)<|.bl false
theorem IG{op':CmpOp}{g g':G2}(ho:gS X (compareOp op) g)(ho':gS X (compareOp op') g')(ha:PX X EX a wa)(hb:PX X EX b wb)(hc:PX X EX c wc)
  (hm:lastMarks [op,op'] [b,c]=false:=by with_unfolding_all rfl):jS X EX (.Compare a [op,op'] [b,c] pos) (wT<|Zbk g g' wa wb wc):=by
 obtain⟨ta,pa,ka⟩:=ha.t;obtain⟨tb,pb,kb⟩:=hb.t;obtain⟨tc,pc,kc⟩:=hc.t;obtain⟨r,pr,kr⟩:=ho.t;obtain⟨r',pr',kr'⟩:=ho'.t;refine⟨⟨_,mS pr pr' pa pb pc hm,λW0 H0 W σ H ρ E Q s eo h=>?_⟩,wT.mono<|Zbk.mono ha hb hc ho.mono ho'.mono⟩;refine lN ha.mono hb.mono ka kb s eo h λW2 H2 x y dx dy x2 rx ry hg=>kr W2 H2 x y dx dy _ x2.ok rx ry<|ho.mono _ _ _ _ (λd hd v W3 H3 x3 r3=>?_) hg;obtain⟨k,rfl,q⟩:=sQ hd;cases r3;refine⟨k,rfl,?_⟩;cases k with
 |true=>
  rw[oI rfl]at q ⊢;refine kc W0 H0 W3 σ H3 ρ E _ (s.step<|x2.trans x3) eo<|hc.mono _ _ _ _ (λdz hz w W4 H4 x4 r4=>?_) q;refine kr' W4 H4 y w dy dz _ x4.ok (x4.rep<|x3.rep ry) r4<|ho'.mono _ _ _ _ (λd hd v5 W5 H5 x5 r5=>?_) hz;obtain⟨b,rfl,q'⟩:=sQ hd;cases r5;exact⟨b,rfl,q' W5 H5<|x2.trans<|x3.trans<|x4.trans x5⟩
 |false=>rw[ks<|by decide]at q ⊢;exact⟨false,rfl,q W3 H3<|x2.trans x3⟩
def aA:WA:=λ_ _ Q=>Q []
def aC(w:WE)(t:WA):WA:=λE ρ Q=>w E ρ λx=>t E ρ λxs=>Q (x::xs)
def aH:jE X EX [] aA:=⟨⟨_,je,λ_ _ W _ H _ _ _ s _ h=>h [] W H (.refl s.ok) .nil⟩,λ_ _ _ _ hp h=>hp _ h⟩
theorem Za(ha:PX X EX e w)(hr:jE X EX es t)(hs:starEach (e::es) X.env=(false,eval e X.env)::starEach es X.env:=by rfl):jE X EX (e::es) (aC w t):=by obtain⟨ta,pa,ka⟩:=ha.t;obtain⟨tr,pr,kr⟩:=hr.t;refine⟨⟨_,gO pa pr hs,λW0 H0 W σ H ρ E Q s eo h=>?_⟩,λE ρ P P' hp h=>ha.mono _ _ _ _ (λd hd=>hr.mono _ _ _ _ (λds hds=>hp _ hds) hd) h⟩;refine ka W0 H0 W σ H ρ E _ s eo<|ha.mono _ _ _ _ (λd hd v W1 H1 x1 r1=>?_) h;exact kr W0 H0 W1 σ H1 ρ E _ (s.step x1) eo<|hr.mono _ _ _ _ (λds hds vs W2 H2 x2 r2=>hds _ W2 H2 (x1.trans x2)<|.cons (x2.rep r1) r2) hd
def small:Nat:=10000
theorem ma(h:n<=small):n<=sizeLine:=gU h (by rw[sizeLine_eq];decide)
def aZ(t:WA):WE:=λE ρ Q=>t E ρ λxs=>xs.length<=small/\Q (.tup xs)
def aY(t:WA):WA:=λE ρ Q=>t E ρ λxs=>xs.length<=small/\Q xs
theorem d9{x1}(h:jE X EX es t):PX X EX (.Tuple es x1 pos) (aZ t):=by obtain⟨ta,pa,ka⟩:=h.t;refine⟨⟨_,sF pa,λW0 H0 W σ H ρ E Q s eo hw=>?_⟩,λE ρ P P' hp z=>h.mono _ _ _ _ (λds hds=>⟨hds.1,hp _ hds.2⟩) z⟩;refine ka W0 H0 W σ H ρ E _ s eo<|h.mono _ _ _ _ (λds hds vs W1 H1 x1 r1=>?_) hw;refine⟨by rw[r1.length];exact ma hds.1,λq hq=>?_⟩;exact(RQ.ext hds.2 x1).tup x1.ok r1 hq
theorem dX(h:jE X EX es t):PXL X EX (.List es pos) (aY t):=by obtain⟨ta,pa,ka⟩:=h.t;refine⟨⟨_,sG pa,λW0 H0 W σ H ρ E Q s eo hw=>?_⟩,λE ρ P P' hp z=>h.mono _ _ _ _ (λds hds=>⟨hds.1,hp _ hds.2⟩) z⟩;refine ka W0 H0 W σ H ρ E _ s eo<|h.mono _ _ _ _ (λds hds vs W1 H1 x1 r1=>?_) hw;refine⟨by rw[r1.length];exact ma hds.1,λq hq=>?_⟩;exact hds.2 q vs W1 _ (x1.trans<|.new x1.ok hq) aO (x1.ok.fresh hq).1 (x1.ok.fresh hq).2 (x1.isN hq) r1
def wL(t:WA):WE:=λE ρ Q=>t E ρ λds=>Q<|.lst ds
theorem PXL.px(h:PXL X EX e t):PX X EX e (wL t):=by obtain⟨ta,pa,ka⟩:=h.t;refine⟨⟨_,pa,λW0 H0 W σ H ρ E Q s eo hw=>?_⟩,λE ρ P P' hp z=>h.mono _ _ _ _ (λds hds=>hp _ hds) z⟩;refine ka W0 H0 W σ H ρ E _ s eo<|h.mono _ _ _ _ (λds hds a vs W1 H1 x1 e1 e2 e3 e4 r1=>?_) hw;refine hds _ _ _ (x1.pub e4 e1 e3 e2)<|.lst (by unfold Wd.put;dsimp only;rw[aO]) (r1.mono (qp e2) λ_ z=>z)
structure eI(X:Cx)(f:Value)(g:List D->(D->Prop)->Prop):Prop where
 t:∃r,dI X f r/\∀W H vs ds Q,WOk W H->Reps X.K W vs ds->g ds (RQ X.K W H Q)->r vs H Q
 mono:∀ds P P',(∀d,P d->P' d)->g ds P->g ds P'
structure qQ(X:Cx)(f:Value)(g:List D->(List D->Prop)->Prop):Prop where
 t:∃r,dI X f r/\∀W H vs ds Q,WOk W H->Reps X.K W vs ds->g ds (λes=>∀a us,H a=none->Reps X.K W us es->Q (.ref a) (upd H a<|.lst us))->r vs H Q
 mono:∀ds P P',(∀d,P d->P' d)->g ds P->g ds P'
def wB(g:List D->(D->Prop)->Prop)(t:WA):WE:=λE ρ Q=>t E ρ λds=>g ds Q
def aB(g:List D->(List D->Prop)->Prop)(t:WA):WA:=λE ρ Q=>t E ρ λds=>g ds Q
variable{id T:String}
theorem cJ{g:List D->(D->Prop)->Prop}(hc:eI X (.builtin id) g)(hm:X.mg x=none)(hv:bootBuiltins x=some (.builtin id))(ha:jE X EX (e::es) t)(hg:Gl X x:=by rfl)(hn:x≠ "__name__" :=by decide)(hdb:(x==("__debug__" : Str))=false:=by decide)
  (he:starEach (e::es) X.env=(false,eval e X.env)::starEach es X.env:=by rfl) (hpl:(backTo pos<|starEach es X.env).any (·.1)=false:=by rfl):PX X EX (.Call (.Name x p) (e::es) [] pos) (wB g t):=by
 obtain⟨ta,pa,ka⟩:=ha.t;obtain⟨r,pr,kr⟩:=hc.t;refine⟨⟨_,mW pr hg hm hv pa hn hdb he hpl,λW0 H0 W σ H ρ E Q s eo h=>?_⟩,λE ρ P P' hp z=>ha.mono _ _ _ _ (λds hds=>hc.mono _ _ _ hp hds) z⟩;exact ka W0 H0 W σ H ρ E _ s eo<|ha.mono _ _ _ _ (λds hds vs W1 H1 x1 r1=>kr W1 H1 vs ds Q x1.ok r1<|hc.mono _ _ _ (λd hd=>RQ.ext hd x1) hds) h
theorem kC{g:List D->(D->Prop)->Prop}(hc:eI X (.type T) g)(hm:X.mg x=none)(hv:bootBuiltins x=some (.type T))(ha:jE X EX (e::es) t)(hg:Gl X x:=by rfl)(hn:x≠ "__name__" :=by decide)(hdb:(x==("__debug__" : Str))=false:=by decide)
  (he:starEach (e::es) X.env=(false,eval e X.env)::starEach es X.env:=by rfl) (hpl:(backTo pos<|starEach es X.env).any (·.1)=false:=by rfl):PX X EX (.Call (.Name x p) (e::es) [] pos) (wB g t):=by
 obtain⟨ta,pa,ka⟩:=ha.t;obtain⟨r,pr,kr⟩:=hc.t;refine⟨⟨_,eN pr hg hm hv pa hn hdb he hpl,λW0 H0 W σ H ρ E Q s eo h=>?_⟩,λE ρ P P' hp z=>ha.mono _ _ _ _ (λds hds=>hc.mono _ _ _ hp hds) z⟩;exact ka W0 H0 W σ H ρ E _ s eo<|ha.mono _ _ _ _ (λds hds vs W1 H1 x1 r1=>kr W1 H1 vs ds Q x1.ok r1<|hc.mono _ _ _ (λd hd=>RQ.ext hd x1) hds) h
theorem tX{g:List D->(List D->Prop)->Prop}(hc:qQ X (.type T) g)(hm:X.mg x=none)(hv:bootBuiltins x=some (.type T))(ha:jE X EX (e::es) t)(hg:Gl X x:=by rfl)(hn:x≠ "__name__" :=by decide)(hdb:(x==("__debug__" : Str))=false:=by decide)
  (he:starEach (e::es) X.env=(false,eval e X.env)::starEach es X.env:=by rfl) (hpl:(backTo pos<|starEach es X.env).any (·.1)=false:=by rfl):PXL X EX (.Call (.Name x p) (e::es) [] pos) (aB g t):=by
 obtain⟨ta,pa,ka⟩:=ha.t;obtain⟨r,pr,kr⟩:=hc.t;refine⟨⟨_,eN pr hg hm hv pa hn hdb he hpl,λW0 H0 W σ H ρ E Q s eo h=>?_⟩,λE ρ P P' hp z=>ha.mono _ _ _ _ (λds hds=>hc.mono _ _ _ hp hds) z⟩;refine ka W0 H0 W σ H ρ E _ s eo<|ha.mono _ _ _ _ (λds hds vs W1 H1 x1 r1=>kr W1 H1 vs ds Q x1.ok r1<|hc.mono _ _ _ (λes' hd a us hn' r2=>?_) hds) h;exact hd a us W1 _ (x1.trans<|.new x1.ok hn') aO (x1.ok.fresh hn').1 (x1.ok.fresh hn').2 (x1.isN hn') r2
abbrev bX:=List D->(Ex->Prop)->(D->Prop)->Prop
def qq(S:bX):Prop:=∀ds E E' Q Q',(∀ex,E ex->E' ex)->(∀d,Q d->Q' d)->S ds E Q->S ds E' Q'
def hJ(K:Nb)(S:bX):Sp:=λvs H Q EX=>∃ds W,WOk W H/\Reps K W vs ds/\S ds (λex=>∀W' H' cls dx,Ext W H W' H'->yB K W' H' cls dx ex->EX cls dx H') (RQ K W H Q)
def wF(S:bX)(t:WA):WE:=λE ρ Q=>t E ρ λds=>S ds E Q
theorem IH{CX:mV}{S:bX}(F:gv X.prog X.w X.K X.mg X.base CX k f fd ps (hJ X.K S))(hS:qq S)(hr:Room k X.A)(hm:X.mg x=some (.ref f))(hk:PySem.W.keepIn X.K (.ref f)=true)(hb:Binds X.K fd ps [])
  (hx:dh CX X EX) (ha:jE X EX (e::es) t) (hg:Gl X x:=by rfl) (hdb:(x==("__debug__" : Str))=false:=by decide) (he:starEach (e::es) X.env=(false,eval e X.env)::starEach es X.env:=by rfl) (hpl:(backTo pos<|starEach es X.env).any (·.1)=false:=by rfl) :
  PX X EX (.Call (.Name x p) (e::es) [] pos) (wF S t):=by
 obtain⟨ta,pa,ka⟩:=ha.t;refine⟨⟨_,qg F hr hg hm hk hb .nil hx pa hdb he hpl,λW0 H0 W σ H ρ E Q s eo h=>?_⟩,λE ρ P P' hp z=>ha.mono _ _ _ _ (λds hds=>hS _ _ _ _ _ (λ_ q=>q) hp hds) z⟩;refine ka W0 H0 W σ H ρ E _ s eo<|ha.mono _ _ _ _ (λds hds vs W1 H1 x1 r1=>?_) h;refine⟨ds,W1,x1.ok,by rw[pP];exact r1,hS _ _ _ _ _ (λex hex W' H' cls dx x' r'=>?_) (λd hd=>RQ.ext hd x1) hds⟩;exact eo ex W' H' cls dx hex (s.ext.trans<|x1.trans x') r'
structure Bg(X:Cx)(g:G2):Prop where
 t:∃r,IxR X r/\∀W H x y dx dy Q,WOk W H->Rep X.K W x dx->Rep X.K W y dy->g dx dy (RQ X.K W H Q)->r x y H Q
 mono:∀x y P P',(∀d,P d->P' d)->g x y P->g x y P'
theorem bE{g:G2}(ho:Bg X g)(ha:PX X EX a wa)(hb:PX X EX b wb)(hs:k6 b:=by exact λ_ _=>rfl):PX X EX (.Subscript a b pos) (w2 g wa wb):=by obtain⟨ta,pa,ka⟩:=ha.t;obtain⟨tb,pb,kb⟩:=hb.t;obtain⟨r,pr,kr⟩:=ho.t;refine⟨⟨_,vk pr pa pb hs,λW0 H0 W σ H ρ E Q s eo h=>?_⟩,w2.mono ha hb ho.mono⟩;exact lN ha.mono hb.mono ka kb s eo h λW2 H2 x y dx dy x2 rx ry hg=>kr W2 H2 x y dx dy Q x2.ok rx ry<|ho.mono _ _ _ _ (λd hd=>RQ.ext hd x2) hg
structure DO(X:Cx)(f:Value->Sem Value)(g:D->(D->Prop)->Prop):Prop where
 t:∃r,yo X f r/\∀W H x dx Q,WOk W H->Rep X.K W x dx->g dx (RQ X.K W H Q)->r x H Q
 mono:∀x P P',(∀d,P d->P' d)->g x P->g x P'
def w1(g:D->(D->Prop)->Prop)(wa:WE):WE:=λE ρ Q=>wa E ρ λx=>g x Q
theorem yC{op:UnaryOp}{g:D->(D->Prop)->Prop}(ho:DO X (unaryOp op) g)(ha:PX X EX a wa):PX X EX (.UnaryOp op a pos) (w1 g wa):=by obtain⟨ta,pa,ka⟩:=ha.t;obtain⟨r,pr,kr⟩:=ho.t;refine⟨⟨_,qI pr pa,λW0 H0 W σ H ρ E Q s eo h=>?_⟩,λE ρ P P' hp z=>ha.mono _ _ _ _ (λd hd=>ho.mono _ _ _ hp hd) z⟩;exact ka W0 H0 W σ H ρ E _ s eo<|ha.mono _ _ _ _ (λd hd v W1 H1 x1 r1=>kr W1 H1 v d Q x1.ok r1<|ho.mono _ _ _ (λd hd=>RQ.ext hd x1) hd) h
structure yD(X:Cx)(EX:XK)(e:Option Expr)(w:(Ex->Prop)->bZ->(Option Int->Prop)->Prop):Prop where
 t:∃t,PO X e t/\∀W0 H0 W σ H ρ E Q,SOk X.K W0 H0 W σ H ρ->jn X.K W0 H0 E EX->w E ρ (λo=>∀W' H',Ext W H W' H'->Q o H')->t σ H Q
 mono:∀E ρ P P',(∀d,P d->P' d)->w E ρ P->w E ρ P'
def isI(Q:Int->Prop):D->Prop
 |.int i=>Q i|_=>False
def isI.mono{Q Q':Int->Prop}(h:∀b,Q b->Q' b):∀d,isI Q d->isI Q' d
 |.int b,z=>h b z|.non,z=>z|.bl _,z=>z|.str _,z=>z|.tup _,z=>z|.lst _,z=>z|.dic,z=>z|.pen,z=>z|.cls _,z=>z|.exc _,z=>z|.ty _,z=>z|.scr _,z=>z
theorem md{Q:Int->Prop}(h:isI Q d):∃b,d=.int b/\Q b:=by
 cases d with
 |int b=>exact⟨b,rfl,h⟩|_=>exact h.elim
def dY:(Ex->Prop)->bZ->(Option Int->Prop)->Prop:=λ_ _ Q=>Q none
def dv(w:WE):(Ex->Prop)->bZ->(Option Int->Prop)->Prop:=λE ρ Q=>w E ρ<|isI λi=>Q (some i)
def gT:yD X EX none dY:=⟨⟨_,qi,λ_ _ W _ H _ _ _ s _ h=>h W H<|.refl s.ok⟩,λ_ _ _ _ hp h=>hp _ h⟩
theorem fh(ha:PX X EX a wa):yD X EX (some a) (dv wa):=by obtain⟨ta,pa,ka⟩:=ha.t;refine⟨⟨_,qj pa,λW0 H0 W σ H ρ E Q s eo h=>?_⟩,λE ρ P P' hp z=>ha.mono _ _ _ _ (isI.mono λi hi=>hp _ hi) z⟩;refine ka W0 H0 W σ H ρ E _ s eo<|ha.mono _ _ _ _ (λd hd v W1 H1 x1 r1=>?_) h;obtain⟨i,rfl,q⟩:=md hd;cases r1;exact⟨i,rfl,q W1 H1 x1⟩
def bB{α:Type}(xs:List α)(lo hi:Option Int):List α:=(xs.drop<|HT.sIx xs.length 0 lo).take<|HT.sIx xs.length xs.length hi-HT.sIx xs.length 0 lo
def gCut(x:D)(lo hi:Option Int)(Q:D->Prop):Prop:=match x with
 |.tup xs=>Q<|.tup (bB xs lo hi)
 |.lst xs=>Q<|.lst (bB xs lo hi)
 |.scr xs=>Q<|.lst (bB xs lo hi)
 |_=>False
end
variable{S:bX}
def Bd(i:Int):Prop:=i.natAbs<2^8990
theorem Bd.log{i:Int}(h:Bd i):i.natAbs.log2<8990:=by by_cases h0:i.natAbs=0;rw[h0];decide;exact(Nat.log2_lt h0).mpr h
theorem Bd.bits{i:Int}(h:Bd i):Builtin.Int.intBits i<=2^20:=by
 unfold Builtin.Int.intBits;have:=h.log;have e:(2:Nat)^20=1048576:=by decide
 split<;>omega
def qR(i j:Int):Prop:=Bd i/\Bd j
def Bh(_ j:Int):Prop:=j≠0/\Bd j
section
def ZoT:OpR X (binaryOp .Mult) (rI qR λi j=>.int<|i*j):=yq λ_ _ _ _ _ _ _ hc q=>mul_int q<|IntMulOk.of_bits hc.1.bits hc.2.bits
theorem II:OpR X (binaryOp .FloorDiv) (rI Bh λi j=>.int<|i.fdiv j):=yq λ_ _ _ _ _ _ _ hc q=>floordiv_int hc.1 q<|.inl (PyProof.noPylong_of_log2 (by have:=hc.2.log;omega))
def gI2(C:Int->Int->Prop)(kd:Int->Int->D):G2:=λx y Q=>match x,y with|.int i,.int j=>C i j/\Q (kd i j)|_,_=>False
theorem gI2.mono{C:Int->Int->Prop}{kd:Int->Int->D}:∀x y P P',(∀d,P d->P' d)->gI2 C kd x y P->gI2 C kd x y P':=λx y P P' hp hg=>by unfold gI2 at hg ⊢;split at hg;exact⟨hg.1,hp _ hg.2⟩;exact hg.elim
theorem gI2.get{C:Int->Int->Prop}{kd:Int->Int->D}{x:D}(h:gI2 C kd x y Q):∃i j,x=.int i/\y=.int j/\C i j/\Q (kd i j):=by unfold gI2 at h;split at h;exact⟨_,_,rfl,rfl,h.1,h.2⟩;exact h.elim
theorem qS{f:Value->Value->Sem Value}{C:Int->Int->Prop}{k:Int->Int->V}{kd:Int->Int->D}(h:OpR X f (rI C k))(hk:∀W i j,Rep X.K W (k i j)<|kd i j):gS X f (gI2 C kd):=
 ⟨⟨_,h,λW H x y dx dy Q ok rx ry hg=>by
  obtain⟨i,j,rfl,rfl,hc,q⟩:=hg.get;cases rx;cases ry;exact⟨_,_,rfl,rfl,hc,q.now ok<|hk _ _ _⟩⟩,gI2.mono⟩
def tY{f:Value->Value->Sem Value}{k:Int->Int->V}(h:OpR X f (p8 k)):OpR X f (rI (λ_ _=>True) k):=λsa s σ H x y v u Q I rx ry ⟨i,j,e1,e2,_,q⟩=>h sa s σ H x y v u Q I rx ry ⟨i,j,e1,e2,q⟩
def gk:gS X (binaryOp .Sub) (gI2 (λ_ _=>True) λi j=>.int<|i-j):=qS (tY sx) λ_ _ _=>.int _
def qT:gS X (binaryOp .Mod) (gI2 (λ_ j=>j≠0) λi j=>.int<|i.fmod j):=qS qa λ_ _ _=>.int _
def me:gS X (binaryOp .FloorDiv) (gI2 Bh λi j=>.int<|i.fdiv j):=qS II λ_ _ _=>.int _
def Bi:gS X (binaryOp .Pow) (gI2 su λi j=>.int<|i^j.toNat):=qS sC λ_ _ _=>.int _
def IJ:OpR X (compareOp .Lt) (p8 λi j=>.bl<|decide (i<j)):=p9 λ_ _ _ _ _ _ _ q=>lt_int q
def IK:OpR X (compareOp .LtE) (p8 λi j=>.bl<|decide (i<=j)):=p9 λ_ _ _ _ _ _ _ q=>le_int q
def IL:OpR X (compareOp .Gt) (p8 λi j=>.bl<|decide (i>j)):=p9 λ_ _ _ _ _ _ _ q=>gt_int q
def IM:OpR X (compareOp .GtE) (p8 λi j=>.bl<|decide (i ≥ j)):=p9 λ_ _ _ _ _ _ _ q=>ge_int q
def jV:gS X (compareOp .Lt) (gI2 (λ_ _=>True) λi j=>.bl<|decide (i<j)):=qS (tY IJ) λ_ _ _=>.bl _
def kE:gS X (compareOp .LtE) (gI2 (λ_ _=>True) λi j=>.bl<|decide (i<=j)):=qS (tY IK) λ_ _ _=>.bl _
def sT:gS X (compareOp .Gt) (gI2 (λ_ _=>True) λi j=>.bl<|decide (i>j)):=qS (tY IL) λ_ _ _=>.bl _
def Bj:gS X (compareOp .GtE) (gI2 (λ_ _=>True) λi j=>.bl<|decide (i ≥ j)):=qS (tY IM) λ_ _ _=>.bl _
theorem yE:DO X (unaryOp .USub) (λx Q=>isI (λi=>Q<|.int (-i)) x):=
 ⟨⟨_,mO,λW H x dx Q ok rx hg=>by
  obtain⟨i,rfl,q⟩:=md hg;cases rx;exact⟨i,rfl,q.now ok<|.int _⟩⟩,λx P P' hp h=>isI.mono (λi hi=>hp _ hi) x h⟩
mutual
def iz:D->Option PyData
 |.non=>some .none|.bl b=>some<|.bool b
 |.int i=>some<|.int i
 |.str x=>some<|.str x
 |.tup xs=>(fX xs).map .tuple|.lst xs=>(fX xs).map .list|.dic=>none|.pen=>none|.cls _=>none|.exc _=>none|.ty _=>none|.scr _=>none
def fX:List D->Option (List PyData)
 |[]=>some []
 |x::r=>match iz x,fX r with
  |some a,some b=>some (a::b)|_,_=>none
end
variable{s:Shared}{W:Wd}
mutual
theorem tZ(I:Inv X sa σ H s)(ok:WOk W H):∀{v:V} {d:D} {u:Value} {p:PyData},Rep X.K W v d->RelV v u->iz d=some p->∃as,Reads s.heap u p as
 |_,_,u,p,.non,r,e=>by cases e;cases r;exact⟨_,.none⟩
 |_,_,u,p,.bl b,r,e=>by cases e;cases r;exact⟨_,.bool b⟩
 |_,_,u,p,.int i,r,e=>by cases e;obtain⟨t,rfl⟩:=r;exact⟨_,.int i t⟩
 |_,_,u,p,.str x,r,e=>by cases e;obtain⟨t,rfl⟩:=r;exact⟨_,.str x t⟩
 |.ref a,.tup ds,u,p,.tup e0 rs,r,e=>by
  cases r;cases q:fX ds with
  |none=>rw[iz,q]at e;cases e
  |some ps=>rw[iz,q]at e;cases e;obtain⟨its,rv,⟨o,h1,h2,n,h3⟩,_⟩:=I.tuple (xs:=_)<|SqT.of (ok.g _ _ e0);obtain⟨as,ra⟩:=yF I ok rs rv q;exact⟨_,.tuple h1 h2 h3<|by simpa using ra⟩
 |.ref a,.tup ds,u,p,.ktup e0 rs,r,e=>by
  cases r;cases q:fX ds with
  |none=>rw[iz,q]at e;cases e
  |some ps=>rw[iz,q]at e;cases e;obtain⟨its,rv,⟨o,h1,h2,n,h3⟩,_⟩:=I.tuple (xs:=_)<|.inr e0;obtain⟨as,ra⟩:=yF I ok rs rv q;exact⟨_,.tuple h1 h2 h3<|by simpa using ra⟩
 |.ref a,.lst ds,u,p,.lst e0 rs,r,e=>by
  cases r;cases q:fX ds with
  |none=>rw[iz,q]at e;cases e
  |some ps=>rw[iz,q]at e;cases e;obtain⟨its,rv,⟨o,n,h1,h2,h3,h4⟩,_⟩:=I.list (xs:=_)<|SqL.of (ok.g _ _ e0);obtain⟨as,ra⟩:=yF I ok rs rv q;exact⟨_,.list h1 h2 h4<|by simpa using ra⟩
 |_,_,u,p,.dic _,r,e=>by rw[iz]at e;cases e
 |_,_,u,p,.pen _,r,e=>by rw[iz]at e;cases e
 |_,_,u,p,.cls _,r,e=>by rw[iz]at e;cases e
 |_,_,u,p,.exc _ _ _,r,e=>by rw[iz]at e;cases e
 |_,_,u,p,.ty _,r,e=>by rw[iz]at e;cases e
 |_,_,u,p,.scr _ _,r,e=>by rw[iz]at e;cases e
theorem yF(I:Inv X sa σ H s)(ok:WOk W H):∀{vs:List V} {ds:List D} {us:List Value} {ps:List PyData},Reps X.K W vs ds->Vals vs us->fX ds=some ps->∃as,ReadsAll s.heap us ps as
 |_,_,us,ps,.nil,r,e=>by rw[fX]at e;cases e;cases r;exact⟨_,.nil⟩
 |_,d::ds,us,ps,.cons rd rs,r,e=>by
  rw[fX]at e;cases q1:iz d with
  |none=>rw[q1]at e;cases e
  |some a=>
   cases q2:fX ds with
   |none=>rw[q1,q2]at e;cases e
   |some b=>
    rw[q1,q2]at e;cases e;cases r with
    |cons r1 r2=>
     obtain⟨as,ra⟩:=tZ I ok rd r1 q1;obtain⟨bs,rb⟩:=yF I ok rs r2 q2;exact⟨_,.cons ra rb⟩
end
def gEq(neg:Bool):G2:=λx y Q=>∃p q,iz x=some p/\iz y=some q/\PySem.SeqAt.shaped p=true/\PySem.SeqAt.shaped q=true/\Q (.bl (if neg then !PyData.eqv p q else PyData.eqv p q))
def gEq.mono{neg:Bool}:∀x y P P',(∀d,P d->P' d)->gEq neg x y P->gEq neg x y P':=λx y P P' hp ⟨p,q,h1,h2,h3,h4,h5⟩=>⟨p,q,h1,h2,h3,h4,hp _ h5⟩
theorem dZ(hu:X.A.units+64<cLine):gS X (compareOp .Eq) (gEq false):=by refine⟨⟨λx y H Q=>∃W dx dy,WOk W H/\Rep X.K W x dx/\Rep X.K W y dy/\gEq false dx dy (RQ X.K W H Q),?_,λW H x y dx dy Q ok rx ry hg=>⟨W,dx,dy,ok,rx,ry,hg⟩⟩,gEq.mono⟩;rintro sa s σ H x y v u Q I rx ry ⟨W,dx,dy,ok,r1,r2,p,q,h1,h2,h3,h4,h5⟩;obtain⟨as,ra⟩:=tZ I ok r1 rx h1;obtain⟨bs,rb⟩:=tZ I ok r2 ry h2;exact eq_dataH ra rb h3 h4 hu ⟨.bl _,H,I,rfl,h5.now ok<|.bl _⟩
theorem c9(hu:X.A.units+64<cLine):gS X (compareOp .NotEq) (gEq true):=by refine⟨⟨λx y H Q=>∃W dx dy,WOk W H/\Rep X.K W x dx/\Rep X.K W y dy/\gEq true dx dy (RQ X.K W H Q),?_,λW H x y dx dy Q ok rx ry hg=>⟨W,dx,dy,ok,rx,ry,hg⟩⟩,gEq.mono⟩;rintro sa s σ H x y v u Q I rx ry ⟨W,dx,dy,ok,r1,r2,p,q,h1,h2,h3,h4,h5⟩;obtain⟨as,ra⟩:=tZ I ok r1 rx h1;obtain⟨bs,rb⟩:=tZ I ok r2 ry h2;exact ne_dataH ra rb h3 h4 hu ⟨.bl _,H,I,rfl,h5.now ok<|.bl _⟩
end
section
variable{a:Expr}
def gAdd:G2:=λx y Q=>match x,y with
 |.int i,.int j=>Q<|.int (i+j)
 |.lst xs,.lst ys=>xs.length+ys.length<=small/\Q (.lst<|xs++ys)|.tup xs,.tup ys=>xs.length+ys.length<=small/\Q (.tup<|xs++ys)|_,_=>False
theorem gAdd.mono:∀x y P P',(∀d,P d->P' d)->gAdd x y P->gAdd x y P':=λx y P P' hp hg=>by unfold gAdd at hg ⊢;split at hg;exact hp _ hg;exact⟨hg.1,hp _ hg.2⟩;exact⟨hg.1,hp _ hg.2⟩;exact hg.elim
def vL(K:Nb):R2:=λx y H Q=>∃l b xs zs,x=.ref l/\y=.ref b/\SqL K H l xs/\SqL K H b zs/\xs.length+zs.length<=sizeLine/\∀p,H p=none->Q (.ref p) (upd H p<|.lst<|xs++zs)
theorem Zmp:OpR X (binaryOp .Add) (vL X.K):=by
 intro sa s σ H x y v u Q I rx ry h;obtain⟨l,b,xs,zs,rfl,rfl,hH,hB,hz,q⟩:=h;cases rx;cases ry;obtain⟨its,r,pl,z⟩:=I.list hH;obtain⟨its2,r2,Ba,z2⟩:=I.list hB;have hl:=r.length;have hl2:=r2.length;obtain⟨⟨cls,dd,data,sl⟩,n,ho,hc,_,hd⟩:=pl;obtain⟨⟨cls2,dd2,data2,sl2⟩,n2,ho2,hc2,_,hd2⟩:=Ba;simp only at hc hd hc2 hd2;subst hc hd hc2 hd2;have e:its.toArray++its2.toArray=(its++its2).toArray:=by simp
 refine concat_meets ⟨_,ho,rfl⟩ ⟨_,ho2,rfl⟩ noFill_list_add seq_list_add PySem.F.slot_list_add PySem.F.entry_list_add (PySem.F.args_list_add_2 _ _) (list_addW l b its.toArray its2.toArray n n2 dd dd2 sl sl2 (by simp;omega)) ⟨ho,ho2,?_⟩;rw[e];exact⟨.ref _,_,I.lnew (t':=s.toks) (r.append r2) (by rw[dG];omega),rfl,q _ I.fresh⟩
def IN(K:Nb):R2:=λx y H Q=>∃a b xs ys,x=.ref a/\y=.ref b/\SqT K H a xs/\SqT K H b ys/\xs.length+ys.length<=sizeLine/\
 (xs=[]->Q (.ref b) H)/\(ys=[]->Q (.ref a) H)/\∀p,H p=none->Q (.ref p) (upd H p<|.tup<|xs++ys)
theorem IO:OpR X (binaryOp .Add) (IN X.K):=by
 intro sa s σ H x y v u Q I rx ry h;obtain⟨a,b,xs,ys,rfl,rfl,ha,hb,hz,q1,q2,q3⟩:=h;by_cases hx:xs=[];cases rx;cases ry;obtain⟨its,r1,p1,_⟩:=I.tuple ha;obtain⟨its2,r2,p2,_⟩:=I.tuple hb;have hi:its=[]:=r1.nil_iff.mpr hx;obtain⟨⟨cls,dd,data,sl⟩,ho,hc,n,hd⟩:=id p1;obtain⟨⟨cls2,dd2,data2,sl2⟩,ho2,hc2,n2,hd2⟩:=id p2;simp only at hc hd hc2 hd2;subst hc hd hc2 hd2;exact concat_meets ⟨_,ho,rfl⟩ ⟨_,ho2,rfl⟩ noFill_tuple_add seq_tuple_add PySem.F.slot_tuple_add PySem.F.entry_tuple_add (PySem.F.args_tuple_add_2 _ _)
  (tuple_addW0 a b its.toArray its2.toArray n n2 dd dd2 sl sl2<|by simp[hi]) ⟨ho,ho2,⟨.ref b,H,I,rfl,q1 hx⟩⟩
 exact qk sa s σ H _ _ v u Q I rx ry ⟨a,b,xs,ys,rfl,rfl,ha,hb,hx,hz,q2,λ_=>q3⟩
theorem cV:gS X (binaryOp .Add) gAdd:=by
 refine⟨⟨_,(tY sw).or<|Zmp.or IO,λW H x y dx dy Q ok rx ry hg=>?_⟩,gAdd.mono⟩;unfold gAdd at hg;split at hg;cases rx;cases ry;exact .inl ⟨_,_,rfl,rfl,trivial,hg.now ok<|.int _⟩;obtain⟨p,vs,rfl,h1,r1⟩:=rx.sql ok;obtain⟨q,us,rfl,h2,r2⟩:=ry.sql ok;refine .inr<|.inl ⟨p,q,vs,us,rfl,rfl,h1,h2,by rw[r1.length,r2.length];exact ma hg.1,λa ha=>hg.2.lst ok (r1.append r2) ha⟩
 obtain⟨p,vs,rfl,h1,r1⟩:=rx.sqt ok;obtain⟨q,us,rfl,h2,r2⟩:=ry.sqt ok;rename_i xs ys;refine .inr<|.inr ⟨p,q,vs,us,rfl,rfl,h1,h2,by rw[r1.length,r2.length];exact ma hg.1,λe=>?_,λe=>?_,λa ha=>hg.2.tup ok (r1.append r2) ha⟩
 subst e;cases r1;exact hg.2.now ok ry;subst e;cases r2;rw[pP]at hg;exact hg.2.now ok rx;exact hg.elim
def gMul:G2:=λx y Q=>match x,y with|.int i,.int j=>qR i j/\Q (.int<|i*j)|.lst xs,.int k=>k<1000/\-1000<k/\xs.length*k.toNat<=small/\Q (.lst (List.replicate k.toNat xs).flatten)|_,_=>False
theorem gMul.mono:∀x y P P',(∀d,P d->P' d)->gMul x y P->gMul x y P':=λx y P P' hp hg=>by unfold gMul at hg ⊢;split at hg;exact⟨hg.1,hp _ hg.2⟩;exact⟨hg.1,hg.2.1,hg.2.2.1,hp _ hg.2.2.2⟩;exact hg.elim
theorem Bk{W:Wd}(r:Reps K W vs ds)(n:Nat):Reps K W (List.replicate n vs).flatten (List.replicate n ds).flatten:=by
 induction n with
 |zero=>exact .nil|succ n ih=>rw[gW,gW,qB,qB];exact r.append ih
theorem gF:gS X (binaryOp .Mult) gMul:=by
 refine⟨⟨_,ZoT.or m9,λW H x y dx dy Q ok rx ry hg=>?_⟩,gMul.mono⟩;unfold gMul at hg;split at hg;cases rx;cases ry;exact .inl ⟨_,_,rfl,rfl,hg.1,hg.2.now ok<|.int _⟩;cases ry;cases rx with
 | @lst l vs _ e r=>refine .inr ⟨l,_,vs,rfl,rfl,ok.g _ _ e,by omega,by omega,?_,λp hp=>hg.2.2.2.lst ok (Bk r _) hp⟩;rw[r.length];exact ma hg.2.2.1
 exact hg.elim
theorem yG{W:Wd}(r:Reps K W vs xs){i:Int}(h:dW xs i=some d):∃v,dW vs i=some v/\Rep K W v d:=by
 unfold dW at h ⊢;rw[r.length];cases q:jB xs.length i with
 |none=>rw[q]at h;cases h
 |some k=>rw[q]at h;obtain⟨v,e,rv⟩:=r.get (show xs[k]? = some d from h);exact⟨v,e,rv⟩
def gIx:G2:=λx y Q=>isI (λi=>match x with
 |.tup xs=>∃d,dW xs i=some d/\Q d|.lst xs=>∃d,dW xs i=some d/\Q d|.scr xs=>∃d,dW xs i=some d/\Q d
 |_=>False) y
theorem gIx.mono:∀ x y P P',(∀ d,P d->P' d)->gIx x y P->gIx x y P':=λx y P P' hp hg=>isI.mono (λi h=>by
 split at h
 .obtain⟨d,e,q⟩:=h;exact⟨d,e,hp _ q⟩
 .obtain⟨d,e,q⟩:=h;exact⟨d,e,hp _ q⟩
 .obtain⟨d,e,q⟩:=h;exact⟨d,e,hp _ q⟩
 .exact h.elim) y hg
theorem aP:Bg X gIx:=by
 refine⟨⟨_,mZ,λW H x y dx dy Q ok rx ry hg=>?_⟩,gIx.mono⟩;obtain⟨i,rfl,h⟩:=md hg;cases ry;split at h;obtain⟨d,e,q⟩:=h;obtain⟨p,vs,rfl,h1,r1⟩:=rx.sqt ok;obtain⟨v,e1,rv⟩:=yG r1 e;exact .inr<|.inl ⟨p,vs,i,v,rfl,rfl,h1,e1,q.now ok rv⟩
 obtain⟨d,e,q⟩:=h;obtain⟨p,vs,rfl,h1,r1⟩:=rx.sql ok;obtain⟨v,e1,rv⟩:=yG r1 e;exact .inl ⟨p,vs,i,v,rfl,rfl,h1,e1,q.now ok rv⟩;obtain⟨d,e,q⟩:=h;obtain⟨p,vs,rfl,h1,r1⟩:=rx.sqs ok;obtain⟨v,e1,rv⟩:=yG r1 e;exact .inl ⟨p,vs,i,v,rfl,rfl,h1,e1,q.now ok rv⟩;exact h.elim
theorem Reps.cut{W:Wd}(r:Reps K W vs ds)(lo hi:Option Int):Reps K W (jR vs lo hi) (bB ds lo hi):=by unfold jR bB;rw[r.length];exact(r.drop _).take _
theorem IP(h:HT.sIx xs.length 0 lo=0/\HT.sIx xs.length xs.length hi=xs.length):bB xs lo hi=xs:=by unfold bB;rw[h.1,h.2];simp
theorem gCut.mono:∀x P P',(∀d,P d->P' d)->gCut x lo hi P->gCut x lo hi P':=λx P P' hp hg=>by unfold gCut at hg ⊢;split at hg;exact hp _ hg;exact hp _ hg;exact hp _ hg;exact hg.elim
def bO(wa:WE)(wl wh:(Ex->Prop)->bZ->(Option Int->Prop)->Prop):WE:=λE ρ Q=>wa E ρ λx=>wl E ρ λl=>wh E ρ λh=>gCut x l h Q
theorem fY{lo hi:Option Expr}{wl wh}(ha:PX X EX a wa)(hl:yD X EX lo wl)(hh:yD X EX hi wh):PX X EX (.Subscript a (.Slice lo hi none p2) pos) (bO wa wl wh):=by
 obtain⟨ta,pa,ka⟩:=ha.t;obtain⟨tl,pl,kl⟩:=hl.t;obtain⟨th,ph,kh⟩:=hh.t;refine⟨⟨_,mY (sl_list.or<|sl_tup.or Hs) pa pl ph,λW0 H0 W σ H ρ E Q s eo h=>?_⟩,λE ρ P P' hp h=>ha.mono _ _ _ _ (λx hx=>hl.mono _ _ _ _ (λl hl'=>hh.mono _ _ _ _ (λu hu=>gCut.mono x _ _ hp hu) hl') hx) h⟩;refine ka W0 H0 W σ H ρ E _ s eo<|ha.mono _ _ _ _ (λdx hx v W1 H1 x1 r1=>?_) h;refine kl W0 H0 W1 σ H1 ρ E _ (s.step x1) eo<|hl.mono _ _ _ _ (λl hl' W2 H2 x2=>?_) hx;refine kh W0 H0 W2 σ H2 ρ E _ ((s.step x1).step x2) eo<|hh.mono _ _ _ _ (λu hu W3 H3 x3=>?_) hl';have r3:=(x2.trans x3).rep r1;have hu':=gCut.mono dx _ _ (λd hd=>RQ.ext hd<|x1.trans<|x2.trans x3) hu;unfold gCut at hu';split at hu'
 obtain⟨p,vs,rfl,h1,rr⟩:=r3.sqt x3.ok;rename_i xs;by_cases hw:HT.sIx vs.length 0 l=0/\HT.sIx vs.length vs.length u=vs.length;refine .inr (.inr ⟨p,vs,rfl,h1,hw,?_⟩);rw[rr.length]at hw;rw[IP hw]at hu';exact hu'.now x3.ok r3;exact .inr<|.inl ⟨p,vs,rfl,h1,hw,λq hq=>hu'.tup x3.ok (rr.cut l u) hq⟩
 obtain⟨p,vs,rfl,h1,rr⟩:=r3.sql x3.ok;exact .inl ⟨p,vs,rfl,h1,λq hq=>hu'.lst x3.ok (rr.cut l u) hq⟩;obtain⟨p,vs,rfl,h1,rr⟩:=r3.sqs x3.ok;exact .inl ⟨p,vs,rfl,h1,λq hq=>hu'.lst x3.ok (rr.cut l u) hq⟩;exact hu'.elim
def gRev:D->(D->Prop)->Prop:=λx Q=>match x with
 |.tup xs=>Q<|.tup xs.reverse
 |.lst xs=>Q<|.lst xs.reverse
 |_=>False
theorem gRev.mono:∀x P P',(∀d,P d->P' d)->gRev x P->gRev x P':=λx P P' hp hg=>by unfold gRev at hg ⊢;split at hg;exact hp _ hg;exact hp _ hg;exact hg.elim
theorem vM{j pos3 pos4}(ha:PX X EX a wa):PX X EX (.Subscript a (.Slice none none (some<|.UnaryOp .USub (.Constant (.int 1) j pos3) pos4) p2) pos) (w1 gRev wa):=by
 obtain⟨ta,pa,ka⟩:=ha.t;refine⟨⟨_,Hu pa,λW0 H0 W σ H ρ E Q s eo h=>?_⟩,λE ρ P P' hp h=>ha.mono _ _ _ _ (λx hx=>gRev.mono x _ _ hp hx) h⟩;refine ka W0 H0 W σ H ρ E _ s eo<|ha.mono _ _ _ _ (λdx hx v W1 H1 x1 r1=>?_) h;have hu':=gRev.mono dx _ _ (λd hd=>RQ.ext hd x1) hx;unfold gRev at hu';split at hu'
 obtain⟨p,vs,rfl,h1,rr⟩:=r1.sqt x1.ok;exact⟨p,vs,rfl,.inl ⟨h1,λq hq=>hu'.tup x1.ok rr.rev hq⟩⟩;obtain⟨p,vs,rfl,h1,rr⟩:=r1.sql x1.ok;exact⟨p,vs,rfl,.inr ⟨h1,λq hq=>hu'.lst x1.ok rr.rev hq⟩⟩;exact hu'.elim
def bH:List D->(D->Prop)->Prop:=λds Q=>match ds with
 |[.tup xs]=>Q<|.int xs.length
 |[.lst xs]=>Q<|.int xs.length
 |[.scr xs]=>Q<|.int xs.length
 |_=>False
theorem fk:eI X (.builtin "len") bH:=by refine⟨⟨_,ji,λW H vs ds Q ok r hg=>?_⟩,λds P P' hp hg=>?_⟩;unfold bH at hg;split at hg;obtain⟨v,rfl,rv⟩:=r.one;obtain⟨p,us,rfl,h1,rr⟩:=rv.sqt ok;exact⟨p,us,rfl,.inr h1,by rw[rr.length];exact hg.now ok<|.int _⟩;obtain⟨v,rfl,rv⟩:=r.one;obtain⟨p,us,rfl,h1,rr⟩:=rv.sql ok;exact⟨p,us,rfl,.inl h1,by rw[rr.length];exact hg.now ok<|.int _⟩;obtain⟨v,rfl,rv⟩:=r.one;obtain⟨p,us,rfl,h1,rr⟩:=rv.sqs ok;exact⟨p,us,rfl,.inl h1,by rw[rr.length];exact hg.now ok<|.int _⟩;exact hg.elim;unfold bH at hg ⊢;split at hg;exact hp _ hg;exact hp _ hg;exact hp _ hg;exact hg.elim
def fA{α:Type}:List D->(List D->Prop)->Prop:=λds Q=>match ds with|[.tup xs]=>Q xs|[.lst xs]=>Q xs|[.scr xs]=>Q xs|_=>False
theorem t0:qQ X (.type "list") (fA (α:=Unit)):=by refine⟨⟨_,jk,λW H vs ds Q ok r hg=>?_⟩,λds P P' hp hg=>?_⟩;unfold fA at hg;split at hg;obtain⟨v,rfl,rv⟩:=r.one;obtain⟨p,us,rfl,h1,rr⟩:=rv.sqt ok;exact⟨p,us,rfl,.inr h1,λl hl=>hg l us hl rr⟩;obtain⟨v,rfl,rv⟩:=r.one;obtain⟨p,us,rfl,h1,rr⟩:=rv.sql ok;exact⟨p,us,rfl,.inl h1,λl hl=>hg l us hl rr⟩;obtain⟨v,rfl,rv⟩:=r.one;obtain⟨p,us,rfl,h1,rr⟩:=rv.sqs ok;exact⟨p,us,rfl,.inl h1,λl hl=>hg l us hl rr⟩;exact hg.elim;unfold fA at hg ⊢;split at hg;exact hp _ hg;exact hp _ hg;exact hp _ hg;exact hg.elim
def jF:List D->(D->Prop)->Prop:=λds Q=>match ds with
 |[.tup xs]=>Q<|.tup xs
 |[.lst xs]=>Q<|.tup xs
 |_=>False
theorem nZ:eI X (.type "tuple") jF:=by refine⟨⟨_,iw,λW H vs ds Q ok r hg=>?_⟩,λds P P' hp hg=>?_⟩;unfold jF at hg;split at hg;obtain⟨v,rfl,rv⟩:=r.one;obtain⟨p,us,rfl,h1,rr⟩:=rv.sqt ok;exact⟨p,us,rfl,.inr ⟨h1,hg.now ok rv⟩⟩;obtain⟨v,rfl,rv⟩:=r.one;obtain⟨p,us,rfl,h1,rr⟩:=rv.sql ok;exact⟨p,us,rfl,.inl ⟨h1,λl hl=>hg.tup ok rr hl⟩⟩;exact hg.elim;unfold jF at hg ⊢;split at hg;exact hp _ hg;exact hp _ hg;exact hg.elim
def jo:List D->(D->Prop)->Prop:=λds Q=>match ds with
 |[.int i]=>Q<|.int (if i<0 then -i else i)
 |_=>False
theorem Bl:eI X (.builtin "abs") jo:=by refine⟨⟨_,mU,λW H vs ds Q ok r hg=>?_⟩,λds P P' hp hg=>?_⟩;unfold jo at hg;split at hg;obtain⟨v,rfl,rv⟩:=r.one;cases rv;exact⟨_,rfl,hg.now ok<|.int _⟩;exact hg.elim;unfold jo at hg ⊢;split at hg;exact hp _ hg;exact hg.elim
def kF:List D->(D->Prop)->Prop:=λds Q=>match ds with
 |[.int i,.int j]=>Q<|.int (if j>i then j else i)
 |_=>False
theorem vN(hc:X.calm=true):eI X (.builtin "max") kF:=by refine⟨⟨_,lD hc,λW H vs ds Q ok r hg=>?_⟩,λds P P' hp hg=>?_⟩;unfold kF at hg;split at hg;obtain⟨v,u,rfl,rv,ru⟩:=r.two;cases rv;cases ru;exact⟨_,_,rfl,hg.now ok<|.int _⟩;exact hg.elim;unfold kF at hg ⊢;split at hg;exact hp _ hg;exact hg.elim
def fD:List D->(D->Prop)->Prop:=λds Q=>match ds with
 |[.int i]=>Q<|.int i
 |[.bl b]=>Q<|.int (if b then 1 else 0)
 |_=>False
theorem vO:eI X (.type "int") fD:=by refine⟨⟨_,lE,λW H vs ds Q ok r hg=>?_⟩,λds P P' hp hg=>?_⟩;unfold fD at hg;split at hg;obtain⟨v,rfl,rv⟩:=r.one;cases rv;exact .inl ⟨_,rfl,hg.now ok<|.int _⟩;obtain⟨v,rfl,rv⟩:=r.one;cases rv;exact .inr ⟨_,rfl,hg.now ok<|.int _⟩;exact hg.elim;unfold fD at hg ⊢;split at hg;exact hp _ hg;exact hp _ hg;exact hg.elim
end
section
variable{a:Expr}
def yH:D->Option String
 |.non=>some "NoneType" |.bl _=>some "bool" |.int _=>some "int" |.str _=>some "str" |.tup _=>some "tuple" |.lst _=>some "list" |.dic=>some "dict"
 |.pen=>none|.cls _=>none|.exc _=>none|.ty _=>none|.scr _=>none
def fZ(t T:String):Bool:=t==T||(t == "bool" && T == "int")
def yI:List String:=["int", "bool", "str", "tuple", "list"]
theorem Zq(K:Nb){t T:String}(ht:yH d=some t)(hT:T∈yI):PySem.W.kitOne K (.type t) (.type T)=some (fZ t T):=by
 simp only[yI,Yan,eA,or_false]at hT;cases d<;>first
  |(cases ht;done)
  |(cases ht;rcases hT with rfl|rfl|rfl|rfl|rfl<;>rfl)
def gIs:List D->(D->Prop)->Prop:=λds Q=>match ds with|[x,.ty T]=>∃t,yH x=some t/\T∈yI/\Q (.bl<|fZ t T)|_=>False
theorem gIs.mono:∀ds P P',(∀d,P d->P' d)->gIs ds P->gIs ds P':=λds P P' hp hg=>by unfold gIs at hg ⊢;split at hg;obtain⟨t,h1,h2,h3⟩:=hg;exact⟨t,h1,h2,hp _ h3⟩;exact hg.elim
theorem lO:eI X (.builtin "isinstance") gIs:=by
 refine⟨⟨λvs H Q=>∃W ds,WOk W H/\Reps X.K W vs ds/\gIs ds (RQ X.K W H Q),?_,λW H vs ds Q ok r hg=>⟨W,ds,ok,r,hg⟩⟩,gIs.mono⟩;rintro sa s σ H vs us Q I rv ⟨W,ds,ok,rs,hg⟩;unfold gIs at hg;split at hg;rename_i x T;obtain⟨t,h1,h2,q⟩:=hg;obtain⟨v,w',rfl,r1,r2⟩:=rs.two;cases r2;obtain⟨u,u2,rfl,ru,ru2⟩:=kY rv;obtain rfl:u2=Value.type T:=ru2;have e:=Zq X.K h1 h2;have fin:∀tk,EP X sa σ Q (.bool<|fZ t T) { s with toks:=tk }:=λtk=>⟨.bl _,H,I.tok tk,rfl,q.now ok<|.bl _⟩;cases r1 with
 |non=>cases h1;cases ru;exact PySem.W.kia_one PySem.W.kitx_none I.kIn True.intro e (λz=>nomatch z) fin
 |bl b=>cases h1;cases ru;exact PySem.W.kia_one PySem.W.kitx_bool I.kIn True.intro e (λz=>nomatch z) fin
 |int i=>cases h1;obtain⟨t',rfl⟩:=ru;exact PySem.W.kia_one PySem.W.kitx_int I.kIn True.intro e (λz=>nomatch z) fin
 |str i=>cases h1;obtain⟨t',rfl⟩:=ru;exact PySem.W.kia_one PySem.W.kitx_str I.kIn True.intro e (λz=>nomatch z) fin
 |tup e0 rr=>cases h1;cases ru;obtain⟨its,_,⟨o,h1,h2,_⟩,_⟩:=I.tuple<|SqT.of (ok.g _ _ e0);exact PySem.W.kia_one PySem.W.kitx_tuple I.kIn ⟨o,h1,h2⟩ e (λz=>nomatch z) fin
 |ktup e0 rr=>cases h1;cases ru;obtain⟨its,_,⟨o,h1,h2,_⟩,_⟩:=I.tuple<|.inr e0;exact PySem.W.kia_one PySem.W.kitx_tuple I.kIn ⟨o,h1,h2⟩ e (λz=>nomatch z) fin
 |lst e0 rr=>cases h1;cases ru;obtain⟨its,_,⟨o,n,h1,h2,_⟩,_⟩:=I.list<|SqL.of (ok.g _ _ e0);exact PySem.W.kia_one PySem.W.kitx_list I.kIn ⟨o,h1,h2⟩ e (λz=>nomatch z) fin
 | @dic a e0=>cases h1;cases ru;obtain⟨_,_,vs,_,p⟩:=(show ObjOk X.prog X.w H s.heap a (.dK []) from I.hok a _ (ok.g _ _ e0));obtain⟨o,es,ep,h1,h2,_⟩:=p;exact PySem.W.kia_one PySem.W.kitx_dict I.kIn ⟨o,h1,h2.1⟩ e (λz=>nomatch z) fin
 |pen _=>cases h1
 |cls _=>cases h1
 |exc _ _=>cases h1
 |ty _=>cases h1
 |scr _ _=>cases h1
 exact hg.elim
theorem IQ(hc:X.calm=true):dI X (.builtin "all") (λxs H Q=>∃(p:Addr) (bs:List Bool),xs=[.ref p]/\SqL X.K H p (bs.map V.bl)/\Q (.bl<|bs.all id) H):=by
 intro sa s σ H xs us Q I r h;obtain⟨p,bs,rfl,hq,q⟩:=h;obtain⟨u,rfl,ru⟩:=dJ r;cases ru;obtain⟨its,rv,pl,hz⟩:=I.list hq;have hpl:p<s.heap.objs.size:=by obtain⟨o,n,e,_⟩:=pl;exact dm e
 have hits:its=bs.map Value.bool:=by
  clear hz pl hq q;induction bs generalizing its with
  |nil=>cases rv;rfl
  |cons b bs ih=>
   cases rv with
   |cons r1 r2=>
    obtain rfl:_=Value.bool b:=r1;rw[cR,ih _ r2]
 subst hits;refine call_all_walk<|NK pl.isList ?_;have hh:X.A.in1.handled=none:=I.ok.hd hc;refine⟨s.heap.objs.size,_,_,_,_,_,λi=>(bs[i]?).getD true,rfl,Walks.list hh _ p (gK hpl) (bs.map Value.bool).toArray,⟨⟨_,ia _ rfl,rfl,rfl⟩,pl.isList.at λo e=>dB _ e⟩,λi v s' Q' E' hP hQ=>?_,λh' tk hk=>?_⟩
 have hP':(bs.map Value.bool)[i]? = some v:=by simpa using hP
 rw[cH]at hP';cases e:bs[i]? with
 |none=>rw[e]at hP';cases hP'
 |some b=>
  rw[e]at hP';have:v=Value.bool b:=(Ng hP').symm;subst this;refine Nv ?_;have e2:(bs[i]?).getD true=b:=by rw[e];rfl
  dsimp only at hQ;rw[e2]at hQ;exact hQ
 have e:((List.range (bs.map Value.bool).toArray.size).all λi=>(bs[i]?).getD true)=bs.all id:=by
  rw[eu,bG,gM,Ybd,Ybd];constructor;intro h b hb;obtain⟨i,hi,e⟩:=Ybv.mp hb;have:=h i<|Yah.mpr hi;rw[bJ hi]at this;rw[<-e];exact this
  intro h i hi;have hi':=Yah.mp hi;rw[bJ hi'];exact h _<|gu hi'
 rw[e];refine⟨.bl<|bs.all id,H,?_,rfl,q⟩;refine I.kept λb o e=>hk b o ?_<|dB _ e;intro z;have:b=s.heap.objs.size:=by simpa using z
 exact Nd (dm e) (by rw[this];exact iK _)
def iA:List D->(D->Prop)->Prop:=λds Q=>match ds with|[.lst xs]=>∃bs:List Bool,xs=bs.map D.bl/\Q (.bl<|bs.all id)|_=>False
theorem DP{K:Nb}{W:Wd}:∀{vs:List V} {bs:List Bool},Reps K W vs (bs.map D.bl)->vs=bs.map V.bl
 |_,[],.nil=>rfl|_,b::bs,.cons r t=>by cases r;rw[cR,DP t]
theorem t3(hc:X.calm=true):eI X (.builtin "all") iA:=by refine⟨⟨_,IQ hc,λW H vs ds Q ok r hg=>?_⟩,λds P P' hp hg=>?_⟩;unfold iA at hg;split at hg;obtain⟨bs,rfl,q⟩:=hg;obtain⟨v,rfl,rv⟩:=r.one;obtain⟨p,us,rfl,h1,rr⟩:=rv.sql ok;rw[DP rr]at h1;exact⟨p,bs,rfl,h1,q.now ok<|.bl _⟩;exact hg.elim;unfold iA at hg ⊢;split at hg;obtain⟨bs,e,q⟩:=hg;exact⟨bs,e,hp _ q⟩;exact hg.elim
end
section
variable{W:Wd}
theorem SOk.set(s:SOk K W0 H0 W σ H ρ){i:Nat}{v:V}{x:D}(r:Rep K W v x):SOk K W0 H0 W (σ.set i<|some v) H (ρ.set i<|.d x) where
 ext:=s.ext
 len:=by rw[cU,cU];exact s.len
 d:=λj y e=>by by_cases h:i=j;subst h;by_cases hi:i<ρ.length;rw[dq hi]at e;cases e;exact⟨v,dq (by rw[<-s.len];exact hi),r⟩;rw[eD (by rw[cU];omega)]at e;cases e;rw[cO h]at e ⊢;exact s.d j y e
 o:=λj ys e=>by by_cases h:i=j;subst h;by_cases hi:i<ρ.length;rw[dq hi]at e;cases e;rw[eD (by rw[cU];omega)]at e;cases e;rw[cO h]at e ⊢;exact s.o j ys e
 ne:=λj k xs ys a hjk e1 e2 e3=>by
  have nj:i≠j:=λh=>by subst h;by_cases hi:i<ρ.length;rw[dq hi]at e1;cases e1;rw[eD (by rw[cU];omega)]at e1;cases e1
  have nk:i≠k:=λh=>by subst h;by_cases hi:i<ρ.length;rw[dq hi]at e2;cases e2;rw[eD (by rw[cU];omega)]at e2;cases e2
  rw[cO nj]at e1 e3;rw[cO nk]at e2 ⊢;exact s.ne j k xs ys a hjk e1 e2 e3
 oo:=s.oo.set (λ_ h=>by cases h) (λj h=>cO h) λ_ _ h=>by cases h
theorem SOk.own(s1:SOk K W0 H0 W1 σ H1 ρ)(x:Ext W1 H1 W H)(hz:H1 a=none)(h1:H a=some (.lst vs))(h2:W.G a=none)(h3:¬W.Pn a)(r:Reps K W vs xs):SOk K W0 H0 W (σ.set i<|some<|.ref a) H (ρ.set i<|.ow xs):=by
 have s:=s1.step x;have h4:H0 a=none:=s1.ext.isN hz;have hn:∀(j:Nat) ys b,j≠i->ρ[j]? = some (SV.ow ys)->σ[j]? = some (some<|V.ref b)->b≠a:=λj ys b _ ej eb q=>by obtain⟨b',us,q1,q2,_⟩:=s1.o j ys ej;rw[eb]at q1;cases q1;rw[q,hz]at q2;cases q2
 exact{
  ext:=s.ext
  len:=by rw[cU,cU];exact s.len
  d:=λj y e=>by
    by_cases h:i=j
    · subst h
      by_cases hi:i<ρ.length
      · rw[dq hi]at e;cases e
      · rw[eD (by rw[cU];omega)]at e;cases e
    · rw[cO h]at e ⊢;exact s.d j y e
  o:=λj ys e=>by
    by_cases h:i=j
    · subst h
      by_cases hi:i<ρ.length
      · rw[dq hi]at e
        cases e;exact⟨a,vs,dq (by rw[<-s.len];exact hi),h1,h2,h3,h4,r⟩
      · rw[eD (by rw[cU];omega)]at e;cases e
    · rw[cO h]at e ⊢;exact s.o j ys e
  ne:=λj k ys zs b hjk e1 e2 e3 e4=>by
    by_cases hj:i=j
    · subst hj
      by_cases hi:i<ρ.length
      · rw[dq (by rw[<-s.len];exact hi)]at e3
        cases e3;rw[cO hjk]at e2 e4;exact hn k zs _ (Nm hjk) e2 e4 rfl
      · rw[eD (by rw[cU];omega)]at e1;cases e1
    · by_cases hk:i=k
      · subst hk
        by_cases hi:i<ρ.length
        · rw[dq (by rw[<-s.len];exact hi)]at e4
          cases e4;rw[cO hj]at e1 e3;exact hn j ys _ (Nm hj) e1 e3 rfl
        · rw[eD (by rw[cU];omega)]at e2;cases e2
      · rw[cO hj]at e1 e3
        rw[cO hk]at e2 e4;exact s.ne j k ys zs b hjk e1 e2 e3 e4
  oo:=by
    refine⟨λj xss e=>?_,λj k xss yss e1 e2=>?_⟩
    · have h:i≠j:=λh=>by
        subst h
        by_cases hi:i<ρ.length
        · rw[dq hi]at e;cases e
        · rw[eD (by rw[cU];omega)]at e;cases e
      rw[cO h]at e;obtain⟨a',bs,e1,q,n⟩:=s1.oo.t j xss e;refine⟨a',bs,by rw[cO h];exact e1,q.step x,λk ys c ek ec=>?_⟩
      by_cases hk:i=k
      · subst hk
        by_cases hi:i<ρ.length
        · rw[dq (by rw[<-s.len];exact hi)]at ec
          cases ec;exact q.here hz
        · rw[eD (by rw[cU];omega)]at ek;cases ek
      · rw[cO hk]at ek ec
        exact n k ys c ek ec
    · have g:∀ {j:Nat} {xss:List (List D)},(ρ.set i<|.ow xs)[j]? = some (SV.oo xss)->ρ[j]? = some (SV.oo xss):=fun {j xss} e=>by
        by_cases h:i=j
        · subst h
          by_cases hi:i<ρ.length
          · rw[dq hi]at e;cases e
          · rw[eD (by rw[cU];omega)]at e;cases e
        · rw[cO h]at e;exact e
      exact s.oo.u j k xss yss (g e1) (g e2) }
def pub(i:Nat)(ρ:bZ):bZ:=match ρ[i]? with
 |some (.ow xs)=>ρ.set i<|.d (.lst xs)
 |_=>ρ
theorem SOk.pub(s:SOk K W0 H0 W σ H ρ)(i:Nat):∃W',SOk K W0 H0 W' σ H (LP.pub i ρ)/\Wle W W':=by
 unfold LP.pub;split;rename_i xs e;obtain⟨a,vs,e1,e2,e3,e4,e5,r⟩:=s.o i xs e;have hi:i<ρ.length:=(Yaq.mp e).1;refine⟨W.put a<|.lst vs,⟨s.ext.pub e5 e2 e4 e3,by rw[cU];exact s.len,λj y ej=>?_,λj ys ej=>?_,λj k ys zs b hjk ej ek e6=>?_,?_⟩,⟨qp e3,λ_ z=>z⟩⟩;by_cases h:i=j;subst h;rw[dq hi]at ej;cases ej;exact⟨_,e1,.lst (by unfold Wd.put;dsimp only;rw[aO])<|r.mono (qp e3) λ_ z=>z⟩;rw[cO h]at ej;obtain⟨v,q1,q2⟩:=s.d j y ej;exact⟨v,q1,q2.mono (qp e3) λ_ z=>z⟩;have h:i≠j:=λh=>by subst h;rw[dq hi]at ej;cases ej
 rw[cO h]at ej;obtain⟨b,us,q1,q2,q3,q4,q5,rr⟩:=s.o j ys ej;have hba:b≠a:=λz=>s.ne i j xs ys a h e ej e1 (by rw[<-z];exact q1);refine⟨b,us,q1,q2,?_,q4,q5,rr.mono (qp e3) λ_ z=>z⟩;unfold Wd.put;dsimp only;rw[aI hba];exact q3;have h:i≠j:=λh=>by subst h;rw[dq hi]at ej;cases ej
 have h':i≠k:=λh=>by subst h;rw[dq hi]at ek;cases ek
 rw[cO h]at ej;rw[cO h']at ek;exact s.ne j k ys zs b hjk ej ek e6;exact OOs.set ⟨λj xss ej=>let⟨a',bs,q1,q,n⟩:=s.oo.t j xss ej;⟨a',bs,q1,q.put (n i xs a e e1) e3,n⟩,s.oo.u⟩ (λ_ h=>by cases h) (λ_ _=>rfl) λ_ _ h=>by cases h
 exact⟨W,s,.refl W⟩
theorem SOk.chg(s:SOk K W0 H0 W σ H ρ){i:Nat}{a:Addr}{xs ys:List D}{us:List V}(e:ρ[i]? = some (.ow xs))(e1:σ[i]? = some (some<|.ref a))(r:Reps K W us ys):SOk K W0 H0 W σ (upd H a<|.lst us) (ρ.set i<|.ow ys):=by
 obtain⟨a',vs,q1,q2,q3,q4,q5,rr⟩:=s.o i xs e;rw[e1]at q1;cases q1;have hi:i<ρ.length:=(Yaq.mp e).1;refine⟨s.ext.chg q5 q2 q4 q3,by rw[cU];exact s.len,λj y ej=>?_,λj zs ej=>?_,λj k ys' zs b hjk ej ek e6=>?_,OOs.set ⟨λj xss ej=>let⟨a',bs,p1,q,n⟩:=s.oo.t j xss ej;⟨a',bs,p1,q.upd<|n i xs a e e1,n⟩,s.oo.u⟩ (λ_ h=>by cases h) (λ_ _=>rfl) λys c _ ec j xss a' bs _ ej ea _ n=>n i xs c e ec⟩;have h:i≠j:=λh=>by subst h;rw[dq hi]at ej;cases ej
 rw[cO h]at ej;exact s.d j y ej;by_cases h:i=j;subst h;rw[dq hi]at ej;cases ej;exact⟨a,us,e1,aO,q3,q4,q5,r⟩;rw[cO h]at ej;obtain⟨b,ws,p1,p2,p3,p4,p5,pr⟩:=s.o j zs ej;have hba:b≠a:=λz=>s.ne i j xs zs a h e ej e1 (by rw[<-z];exact p1);exact⟨b,ws,p1,by rw[aI hba];exact p2,p3,p4,p5,pr⟩;by_cases h:i=j;subst h;rw[cO hjk]at ek;exact s.ne i k xs zs b hjk e ek e6;rw[cO h]at ej;by_cases h':i=k;subst h';intro z;exact s.ne i j xs ys' b h e ej z e6;rw[cO h']at ek;exact s.ne j k ys' zs b hjk ej ek e6
end
section
variable{rest:List Stmt}{a b c:Expr}{z:WS}
def cP:WS:=λ_ N ρ=>N.nx ρ
def aG(z z':WS):WS:=λE N ρ=>z E { N with nx:=z' E N } ρ
def Nds.le_nx{N':Nds}(h:N.le N'){n n':bZ->Prop}(hn:∀ρ,n ρ->n' ρ):Nds.le { N with nx:=n } { N' with nx:=n' }:=⟨hn,h.rt,h.bk,h.ct⟩
def dR:jT X EX [] cP:=⟨⟨_,pY,λ_ _ _ W σ H ρ _ Dn N s fl _ no h=>no.nx W σ H ρ s fl h⟩,λ_ _ _ _ hl h=>hl.nx _ h⟩
theorem aT(h1:PZ X EX st z)(h2:jT X EX rest z'):jT X EX (st::rest) (aG z z'):=by obtain⟨t1,p1,k1⟩:=h1.t;obtain⟨t2,p2,k2⟩:=h2.t;refine⟨⟨_,jP p1 p2,λW0 H0 F W σ H ρ E Dn N s fl eo no h=>?_⟩,λE ρ N N' hl h=>h1.mono _ _ _ _ (Nds.le_nx hl λρ' h'=>h2.mono _ _ _ _ hl h') h⟩;exact k1 W0 H0 F W σ H ρ E _ { N with nx:=z' E N } s fl eo ⟨λW1 σ1 H1 ρ1 s1 f1 hn=>k2 W0 H0 F W1 σ1 H1 ρ1 E Dn N s1 f1 eo no hn,no.rt,no.bk,no.ct⟩ h
theorem aX(h1:PZ X EX st z):jT X EX [st] z:=by obtain⟨t1,p1,k1⟩:=h1.t;exact⟨⟨_,i9 p1,k1⟩,h1.mono⟩
def bD(i:Nat)(z:WS):WS:=λE N ρ=>z E N<|pub i ρ
theorem fN(i:Nat)(h:jT X EX sts z):jT X EX sts (bD i z):=by obtain⟨t,p,k⟩:=h.t;refine⟨⟨t,p,λW0 H0 F W σ H ρ E Dn N s fl eo no h=>?_⟩,λE ρ N N' hl q=>h.mono _ _ _ _ hl q⟩;obtain⟨W',s',f'⟩:=s.pub i;exact k W0 H0 F W' σ H _ E Dn N s' (fl.trans f') eo no h
def jp(w:WE):WS:=λE N ρ=>w E ρ λ_=>N.nx ρ
theorem t4(he:PX X EX e w)(hs:swapsWith e none pos.line X.env=pure false:=by rfl):PZ X EX (.Expr e pos) (jp w):=by obtain⟨t,p,k⟩:=he.t;refine⟨⟨_,ja p hs,λW0 H0 F W σ H ρ E Dn N s fl eo no h=>?_⟩,λE ρ N N' hl q=>he.mono _ _ _ _ (λ_=>hl.nx ρ) q⟩;exact k W0 H0 W σ H ρ E _ s eo<|he.mono _ _ _ _ (λd hd v W1 H1 x1 r1=>no.nx W1 σ H1 ρ (s.step x1) (fl.ext x1) hd) h
def aM(w:WE):WS:=λE N ρ=>w E ρ N.rt
theorem bL(he:PX X EX e w):PZ X EX (.Return (some e) pos) (aM w):=by obtain⟨t,p,k⟩:=he.t;refine⟨⟨_,sd p,λW0 H0 F W σ H ρ E Dn N s fl eo no h=>?_⟩,λE ρ N N' hl q=>he.mono _ _ _ _ hl.rt q⟩;exact k W0 H0 W σ H ρ E _ s eo<|he.mono _ _ _ _ (λd hd v W1 H1 x1 r1=>no.rt d v W1 H1 (s.ext.trans x1) r1 hd) h
def cN(w:WT)(z z':WS):WS:=λE N ρ=>w E ρ λb=>if b=true then z E N ρ else z' E N ρ
theorem dS{w:WT}{as bs:List Stmt}(hc:jS X EX c w)(ha:jT X EX as z)(hb:jT X EX bs z'):PZ X EX (.If c as bs pos) (cN w z z'):=by
 obtain⟨t,p,k⟩:=hc.t;obtain⟨ta,pa,ka⟩:=ha.t;obtain⟨tb,pb,kb⟩:=hb.t;refine⟨⟨_,u0 p pa pb,λW0 H0 F W σ H ρ E Dn N s fl eo no h=>?_⟩,λE ρ N N' hl q=>hc.mono _ _ _ _ (λb hb'=>?_) q⟩;refine k W0 H0 W σ H ρ E _ s eo (hc.mono _ _ _ _ (λb hb' W1 H1 x1=>?_) h);cases b with
 |true=>rw[oI rfl]at hb' ⊢;exact ka W0 H0 F W1 σ H1 ρ E Dn N (s.step x1) (fl.ext x1) eo no hb'|false=>rw[ks<|by decide]at hb' ⊢;exact kb W0 H0 F W1 σ H1 ρ E Dn N (s.step x1) (fl.ext x1) eo no hb'
 cases b with
 |true=>rw[oI rfl]at hb' ⊢;exact ha.mono _ _ _ _ hl hb'|false=>rw[ks<|by decide]at hb' ⊢;exact hb.mono _ _ _ _ hl hb'
def aQ(i:Nat)(w:WE):WS:=λE N ρ=>w E ρ λx=>N.nx<|ρ.set i (.d x)
theorem cM(i:Nat)(he:PX X EX e w)(hN:X.N.Nodup)(hi:X.N[i]? = some x:=by rfl)(hx:kf X.env.scope x:=by first|exact Or.inl rfl|exact Or.inr rfl)(hs:swapsWith e (some<|.Name x pos') pos.line X.env=pure false:=by rfl)
  (hf:X.fn x=true\/X.env.scope.names.lookup x=some .local:=by first|exact .inl rfl|exact .inr rfl|assumption):PZ X EX (.Assign [.Name x pos'] e pos) (aQ i w):=by
 obtain⟨t,p,k⟩:=he.t;refine⟨⟨_,jc hN hi hx p hs hf,λW0 H0 F W σ H ρ E Dn N s fl eo no h=>?_⟩,λE ρ N N' hl q=>he.mono _ _ _ _ (λ_=>hl.nx _) q⟩;exact k W0 H0 W σ H ρ E _ s eo<|he.mono _ _ _ _ (λd hd v W1 H1 x1 r1=>no.nx W1 _ H1 _ ((s.step x1).set r1) (fl.ext x1) hd) h
def bM(i:Nat)(t:WA):WS:=λE N ρ=>t E ρ λxs=>N.nx<|ρ.set i (.ow xs)
theorem mf(i:Nat)(he:PXL X EX e t)(hN:X.N.Nodup)(hi:X.N[i]? = some x:=by rfl)(hx:kf X.env.scope x:=by first|exact Or.inl rfl|exact Or.inr rfl)(hs:swapsWith e (some<|.Name x pos') pos.line X.env=pure false:=by rfl)
  (hf:X.fn x=true\/X.env.scope.names.lookup x=some .local:=by first|exact .inl rfl|exact .inr rfl|assumption):PZ X EX (.Assign [.Name x pos'] e pos) (bM i t):=by
 obtain⟨t,p,k⟩:=he.t;refine⟨⟨_,jc hN hi hx p hs hf,λW0 H0 F W σ H ρ E Dn N s fl eo no h=>?_⟩,λE ρ N N' hl q=>he.mono _ _ _ _ (λ_=>hl.nx _) q⟩;refine k W0 H0 W σ H ρ E _ s eo<|he.mono _ _ _ _ (λxs hd a vs W1 H1 x1 e1 e2 e3 e4 r1=>no.nx W1 _ H1 _ (s.own x1 e4 e1 e2 e3 r1) (fl.ext x1) hd) h
end
def ny(K:Nb)(W:Wd)(J:It)(ds:List D):Prop:=
 ∀W2 H2 (i:Nat),(∀a o,W.G a=some o->W2.G a=some o)->(∀a,W.Pn a->W2.Pn a)->WOk W2 H2->
  (∀d,ds[i]? = some d->J.go i H2/\∀x H3,J.yld i H2 x H3->∃W3,Ext W2 H2 W3 H3/\Rep K W3 x d)/\(ds.length<=i->J.stop i H2)
structure kG(X:Cx)(EX:XK)(tg iter:Expr)(w:WA):Prop where
 t:∃t,PI X tg iter t/\∀W0 H0 W σ H ρ E R,SOk X.K W0 H0 W σ H ρ->jn X.K W0 H0 E EX->w E ρ (λds=>∀W' H' J,Ext W H W' H'->ny X.K W' J ds->R J H')->t σ H R
 mono:∀E ρ P P',(∀d,P d->P' d)->w E ρ P->w E ρ P'
section
variable{a b:Expr}
def isL(Q:List D->Prop):D->Prop
 |.lst xs=>Q xs|_=>False
theorem yJ{Q:List D->Prop}(h:isL Q d):∃xs,d=.lst xs/\Q xs:=by
 cases d with
 |lst xs=>exact⟨xs,rfl,h⟩|_=>exact h.elim
theorem isL.mono{Q:List D->Prop}(h:∀b,Q b->Q' b):∀d,isL Q d->isL Q' d:=λd z=>by obtain⟨xs,rfl,q⟩:=yJ z;exact h _ q
def yK(Q:List D->Prop):D->Prop
 |.tup xs=>Q xs|_=>False
def iL(w:WE):WA:=λE ρ Q=>w E ρ<|isL Q
def iT(w:WE):WA:=λE ρ Q=>w E ρ<|yK Q
def rng(lo:Int)(n:Nat):List D:=(List.range n).map λ(k:Nat)=>D.int<|lo+k
theorem DQ{W:Wd}(lo:Int)(n:Nat):ny K W (u7 lo n) (rng lo n):=by
 intro W2 H2 i g2 p2 ok2;refine⟨λd hd=>?_,λhi=>?_⟩;unfold rng at hd;rw[cH]at hd;by_cases hi:i<n;rw[jM hi]at hd;cases hd;refine⟨hi,λx H3 y=>?_⟩;obtain⟨rfl,rfl⟩:=y;exact⟨W2,.refl ok2,.int _⟩;rw[eD<|by simpa using hi]at hd;cases hd;have:(rng lo n).length=n:=by unfold rng;simp
 rw[this]at hi;exact hi
def i1(Q:List D->Prop):List D->Prop
 |[.int j]=>-10000<=j/\j<10000/\Q (rng 0 j.toNat)|_=>False
def i2(Q:List D->Prop):List D->Prop
 |[.int i,.int j]=>(-10000<=i/\i<10000/\-10000<=j/\j<10000)/\Q (rng i (j-i).toNat)|_=>False
theorem i1.mono{Q:List D->Prop}(h:∀b,Q b->Q' b):∀d,i1 Q d->i1 Q' d:=λd z=>by unfold i1 at z ⊢;split at z;exact⟨z.1,z.2.1,h _ z.2.2⟩;exact z.elim
theorem i2.mono{Q:List D->Prop}(h:∀b,Q b->Q' b):∀d,i2 Q d->i2 Q' d:=λd z=>by unfold i2 at z ⊢;split at z;exact⟨z.1,h _ z.2⟩;exact z.elim
def dU(t:WA):WA:=λE ρ Q=>t E ρ<|i1 Q
def lg(t:WA):WA:=λE ρ Q=>t E ρ<|i2 Q
theorem jq(hm:X.mg "range" = none)(ha:jE X EX [a] t)(hg:Gl X "range" :=by rfl)(hs:starEach [a] X.env=[(false,eval a X.env)]:=by rfl):kG X EX tg (.Call (.Name "range" p) [a] [] pos) (dU t):=by
 obtain⟨t,q,k⟩:=ha.t;refine⟨⟨_,lA hg hm q hs,λW0 H0 W σ H ρ E R s eo h=>?_⟩,λE ρ P P' hp h=>ha.mono _ _ _ _ (i1.mono hp) h⟩;refine k W0 H0 W σ H ρ E _ s eo<|ha.mono _ _ _ _ (λds hd vs W1 H1 x1 r1=>?_) h;unfold i1 at hd;split at hd
 obtain⟨v,rfl,rv⟩:=r1.one;cases rv;exact⟨_,rfl,by omega,by omega,hd.2.2 W1 H1 _ x1<|DQ _ _⟩;exact hd.elim
theorem IR(hm:X.mg "range" = none)(ha:jE X EX [a,b] t)(hg:Gl X "range" :=by rfl)(hs:starEach [a,b] X.env=[(false,eval a X.env),(false,eval b X.env)]:=by rfl)(hs2:starEach [b] X.env=[(false,eval b X.env)]:=by rfl) :
  kG X EX tg (.Call (.Name "range" p) [a,b] [] pos) (lg t):=by
 obtain⟨t,q,k⟩:=ha.t;refine⟨⟨_,lB hg hm q hs hs2,λW0 H0 W σ H ρ E R s eo h=>?_⟩,λE ρ P P' hp h=>ha.mono _ _ _ _ (i2.mono hp) h⟩;refine k W0 H0 W σ H ρ E _ s eo<|ha.mono _ _ _ _ (λds hd vs W1 H1 x1 r1=>?_) h;unfold i2 at hd;split at hd
 .obtain⟨v,u,rfl,rv,ru⟩:=r1.two
  cases rv;cases ru;exact⟨_,_,rfl,⟨by omega,by omega,by omega,by omega⟩,hd.2 W1 H1 _ x1<|DQ _ _⟩
 .exact hd.elim
end
abbrev WG:=D->bZ->(bZ->Prop)->Prop
variable{g:WG}
def ZfN(ρ:bZ):Prop:=∀(i:Nat),(∀xs,ρ[i]?≠some (SV.ow xs))/\∀xss,ρ[i]?≠some (SV.oo xss)
structure lP(X:Cx)(tg:Expr)(g:WG):Prop where
 t:∃t,PG X tg t/\∀W0 H0 W σ H ρ d v Q,SOk X.K W0 H0 W σ H ρ->Rep X.K W v d->g d ρ (λρ'=>∀σ',SOk X.K W0 H0 W σ' H ρ'->Q σ' H)->t v σ H Q
 mono:∀d ρ P P',(∀r,P r->P' r)->g d ρ P->g d ρ P'
 own:∀d ρ P,ZfN ρ->g d ρ P->g d ρ (λr=>ZfN r/\P r)
section
theorem ZfN.set{ρ:bZ}(h:ZfN ρ)(i:Nat)(d:D):ZfN (ρ.set i<|.d d):=λj=>by by_cases hj:i=j;subst hj;by_cases hi:i<ρ.length;rw[dq hi];exact⟨λ_ e=>(by cases e),λ_ e=>(by cases e)⟩;rw[eD (by rw[cU];omega)];exact⟨λ_ e=>(by cases e),λ_ e=>(by cases e)⟩;rw[cO hj];exact h j
def gN(i:Nat):WG:=λd ρ k=>k<|ρ.set i (.d d)
theorem bY(i:Nat)(hN:X.N.Nodup)(hi:X.N[i]? = some x:=by rfl)(hx:kf X.env.scope x:=by first|exact Or.inl rfl|exact Or.inr rfl)(hf:X.fn x=true\/X.env.scope.names.lookup x=some .local:=by first|exact .inl rfl|exact .inr rfl|assumption) :
  lP X (.Name x pos) (gN i):=
 ⟨⟨_,jb hN hi hx hf,λW0 H0 W σ H ρ d v Q s r h=>h _<|s.set r⟩,λd ρ P P' hp h=>hp _ h,λd ρ P ho h=>⟨ho.set i d,h⟩⟩
end
def ZbC(nv:Nat)(sel:List Nat)(ρ:bZ):bZ:=List.replicate nv .un++sel.map λj=>match ρ[j]? with|some (.d x)=>.d x|_=>.un
theorem ZbC.own(nv:Nat)(sel:List Nat)(ρ:bZ):ZfN (ZbC nv sel ρ):=λi=>by
 have key:∀sv,(ZbC nv sel ρ)[i]? = some sv->sv=.un\/∃x,sv=.d x:=λsv e=>by
  unfold ZbC at e;rcases fS i nv with h|h
  rw[kQ<|by simpa using h,mz]at e;rw[oI h]at e;cases e;exact .inl rfl;rw[jZ<|by simpa using h,cH]at e;cases q:sel[i-(List.replicate nv SV.un).length]? with
  |none=>rw[q]at e;cases e
  |some j=>rw[q]at e;have e':=Ng e;dsimp only at e';split at e';exact .inr ⟨_,e'.symm⟩;exact .inl e'.symm
 refine⟨λxs e=>?_,λxs e=>?_⟩;rcases key _ e with z|⟨x,z⟩<;>cases z
 rcases key _ e with z|⟨x,z⟩<;>cases z
def No:Ex->Prop:=λ_=>False
def lcW(g:WG)(wf:WT)(we:WE):List D->bZ->List D->(List D->Prop)->Prop
 |[],_,acc,Q=>Q acc|d::ds,ρ,acc,Q=>g d ρ λρ2=>wf No ρ2 λb=>if b=true then we No ρ2 λy=>acc.length<small/\lcW g wf we ds ρ2 (acc++[y]) Q else lcW g wf we ds ρ2 acc Q
structure n4(X:Cx)(EX:XK)(ifs:List Expr)(w:WT):Prop where
 t:∃t,PF X ifs t/\∀W0 H0 W σ H ρ E Q,SOk X.K W0 H0 W σ H ρ->jn X.K W0 H0 E EX->w E ρ (λb=>∀W' H',Ext W H W' H'->Q b H')->t σ H Q
 mono:∀E ρ P P',(∀d,P d->P' d)->w E ρ P->w E ρ P'
def cE:WT:=λ_ _ Q=>Q true
section
variable{c:Expr}
def eJ:n4 X EX [] cE:=⟨⟨_,Hn,λ_ _ W _ H _ _ _ s _ h=>h W H<|.refl s.ok⟩,λ_ _ _ _ hp h=>hp _ h⟩
def Ze(h:jS X EX c wf):n4 X EX [c] wf:=let⟨t,q,k⟩:=h.t;⟨⟨t,Ho q,k⟩,h.mono⟩
theorem lcW.mono(hg:∀d ρ P P',(∀r,P r->P' r)->g d ρ P->g d ρ P')(hf:∀E ρ P P',(∀d,P d->P' d)->wf E ρ P->wf E ρ P')(he:∀E ρ P P',(∀d,P d->P' d)->we E ρ P->we E ρ P') :
  ∀ds ρ acc P P',(∀xs,P xs->P' xs)->lcW g wf we ds ρ acc P->lcW g wf we ds ρ acc P'
 |[],_,acc,P,P',hp,h=>hp _ h
 | d::ds,ρ,acc,P,P',hp,h=>hg _ _ _ _ (λr hr=>hf _ _ _ _ (λb hb=>by
   cases b with
   |true=>rw[oI rfl]at hb ⊢;exact he _ _ _ _ (λy hy=>⟨hy.1,lcW.mono hg hf he ds r _ P P' hp hy.2⟩) hb
   |false=>rw[ks<|by decide]at hb ⊢;exact lcW.mono hg hf he ds r _ P P' hp hb) hr) h
def aLC(wi:WA)(nv:Nat)(sel:List Nat)(g:WG)(wf:WT)(we:WE):WA:=λE ρ Q=>wi E ρ λds=>lcW g wf we ds (ZbC nv sel ρ) [] Q
theorem aLC.mono(hi:kG X EX target iter wi)(hg:∀d ρ P P',(∀r,P r->P' r)->g d ρ P->g d ρ P')(hf:∀E ρ P P',(∀d,P d->P' d)->wf E ρ P->wf E ρ P')(he:∀E ρ P P',(∀d,P d->P' d)->we E ρ P->we E ρ P') :
  ∀E ρ P P',(∀d,P d->P' d)->aLC wi vars.length sel g wf we E ρ P->aLC wi vars.length sel g wf we E ρ P':=λE ρ P P' hp h=>hi.mono _ _ _ _ (λds hds=>lcW.mono hg hf he ds _ _ _ _ hp hds) h
theorem SOk.lc{W:Wd}(s:SOk X.K W0 H0 W σ H ρ)(nv:Nat)(sel:List Nat):SOk X.K W0 H0 W (gB nv sel σ) H (ZbC nv sel ρ) where
 ext:=s.ext
 len:=by unfold ZbC gB;simp
 d:=λi x e=>by
  unfold ZbC at e;rcases fS i nv with h|h
  rw[kQ<|by simpa using h,mz]at e;split at e<;>cases e;rw[jZ<|by simpa using h,cH,nO]at e;cases q:sel[i-nv]? with
  |none=>rw[q]at e;cases e
  |some j=>rw[q]at e;have e':=Ng e;dsimp only at e';split at e';rename_i y ey;cases e';obtain⟨v,ev,r⟩:=s.d j x ey;refine⟨v,?_,r⟩;unfold gB;rw[jZ<|by simpa using h,nO,cH,q];show some ((σ[j]?).getD none)=_;rw[ev];rfl;cases e'
 o:=λi xs e=>Nd e<|(ZbC.own nv sel ρ i).1 xs
 ne:=λi j xs ys a _ e=>Nd e<|(ZbC.own nv sel ρ i).1 xs
 oo:=.none λi=>(ZbC.own nv sel ρ i).2
def SOk.chgD{W:Wd}{o':HO}(s:SOk K W0 H0 W σ H ρ)(ho:ZfN ρ)(h0:H0 a=none)(h1:H a=some o)(h2:¬W.Pn a)(h3:W.G a=none):SOk K W0 H0 W σ (upd H a o') ρ:=
 ⟨s.ext.chg h0 h1 h2 h3,s.len,s.d,λi xs e=>Nd e<|(ho i).1 xs,λi j xs ys a _ e=>Nd e<|(ho i).1 xs,.none λi=>(ho i).2⟩
theorem yL(hi:kG X EX target iter wi)(hg:∀s H fp,lP (X.lc sc vars sel s H fp) target g)(hf:∀s H fp,n4 (X.lc sc vars sel s H fp) E0 ifs wf)(he:∀s H fp,PX (X.lc sc vars sel s H fp) E0 elt we) :
  ∃(ti:TI) (tg:TG) (tf:TT) (te:TE),PI X target iter ti/\(∀s H fp,PG (X.lc sc vars sel s H fp) target tg)/\(∀s H fp,PF (X.lc sc vars sel s H fp) ifs tf)/\(∀s H fp,PE (X.lc sc vars sel s H fp) elt te)/\
   ∀W0 H0 W σ H ρ E Q,SOk X.K W0 H0 W σ H ρ->jn X.K W0 H0 E EX->
    aLC wi vars.length sel g wf we E ρ (λds=>∀a vs W' H',Ext W H W' H'->H' a=some (.lst vs)->W'.G a=none->¬W'.Pn a->H a=none->Reps X.K W' vs ds->Q (.ref a) H')->AZ ti vars.length sel tg tf te σ H Q:=by
 obtain⟨ti,pi,ki⟩:=hi.t;refine ⟨ti,λv σ H Q=>∃ W0 H0 W ρ d,SOk X.K W0 H0 W σ H ρ/\Rep X.K W v d/\g d ρ (λρ'=>∀ σ',SOk X.K W0 H0 W σ' H ρ'->Q σ' H),
  λσ H Q=>∃W0 H0 W ρ,SOk X.K W0 H0 W σ H ρ/\wf No ρ (λb=>∀W' H',Ext W H W' H'->Q b H'),
  λσ H Q=>∃W0 H0 W ρ,SOk X.K W0 H0 W σ H ρ/\we No ρ (RQ X.K W H Q),pi,λs1 H1 fp=>?_,λs1 H1 fp=>?_,λs1 H1 fp=>?_,?_⟩
 .obtain⟨t,q,k⟩:=(hg s1 H1 fp).t
  rintro sa s σ H v u Q I r ⟨W0,H0,W,ρ,d,s',r',h⟩;exact q sa s σ H v u Q I r<|k W0 H0 W σ H ρ d v Q s' r' h
 .obtain⟨t,q,k⟩:=(hf s1 H1 fp).t
  rintro sa s σ H Q I ⟨W0,H0,W,ρ,s',h⟩;exact q sa s σ H Q I<|k W0 H0 W σ H ρ No Q s' (λ_ _ _ _ _ z=>z.elim) h
 .obtain⟨t,q,k⟩:=(he s1 H1 fp).t
  rintro sa s σ H Q I ⟨W0,H0,W,ρ,s',h⟩;exact q sa s σ H Q I<|k W0 H0 W σ H ρ No Q s' (λ_ _ _ _ _ z=>z.elim) h
 .have gm:=(hg {} (λ_=>none) []).mono
  have go:=(hg {} (λ_=>none) []).own;have fm:=(hf {} (λ_=>none) []).mono;have em:=(he {} (λ_=>none) []).mono;intro W0 H0 W σ H ρ E Q s eo h;refine ki W0 H0 W σ H ρ E _ s eo<|hi.mono _ _ _ _ (λds hds W1 H1 J x1 it D hD=>?_) h;have hDf:=x1.ok.fresh hD;have hD0:H0 D=none:=s.ext.isN<|x1.isN hD;refine ⟨λi m ys σ2 H2=>m=ds.length - i/\i<=ds.length/\∃ W2 ρ2 acc,Ext W1 H1 W2 H2/\SOk X.K W0 H0 W2 σ2 H2 ρ2/\ZfN ρ2/\H2 D=some (.lst ys)/\W2.G D=none/\¬ W2.Pn D/\Reps X.K W2 ys acc/\
   lcW g wf we (ds.drop i) ρ2 acc (λds=>∀a vs W' H',Ext W H W' H'->H' a=some (.lst vs)->W'.G a=none->¬W'.Pn a->H a=none->Reps X.K W' vs ds->Q (.ref a) H'),⟨_,rfl,iq _,W1,_,[],.new x1.ok hD,?_,ZbC.own _ _ ρ,aO,hDf.1,hDf.2,.nil,by rw[pQ];exact hds⟩,?_⟩
  .exact(((s.step x1).step<|.new x1.ok hD).lc vars.length sel)
  .rintro i m ys σ2 H2 ⟨rfl,hi',W2,ρ2,acc,x2,s2,no2,hD2,g2,p2,r2,q2⟩
   refine⟨hD2,?_⟩;obtain⟨itg,its⟩:=it W2 H2 i x2.g x2.p x2.ok;rcases fS i ds.length with hlt|hge
   .have hd:ds[i]? = some ds[i]:=bJ hlt
    obtain⟨go',yl⟩:=itg _ hd;refine .inr ⟨go',λx H3 y=>?_⟩;obtain⟨W3,x3,r3⟩:=yl x H3 y;rw[nU hlt]at q2;have keepD:∀{W' H'},Ext W2 H2 W' H'->H' D=some (.lst ys)/\W'.G D=none/\¬W'.Pn D:=λ{W' H'} x'=>by
     refine⟨x'.h D _ hD2 p2,?_,λz=>?_⟩
     .cases q:W'.G D with|none=>rfl|some o=>have:=x'.gf D g2 (by rw[q];simp);rw[hD2]at this;cases this
     .have:=x'.pf D p2 z;rw[hD2]at this;cases this
    refine⟨W0,H0,W3,ρ2,ds[i],s2.step x3,r3,gm _ _ _ _ (λρ4 hr σ4 s4=>?_)<|go _ _ _ no2 q2⟩;obtain⟨no4,hr⟩:=hr;refine⟨W0,H0,W3,ρ4,s4,fm _ _ _ _ (λb hb W5 H5 x5=>?_) hr⟩;cases b with
    |false=>
     rw[ks<|by decide]at hb ⊢;have kD:=keepD<|x3.trans x5;exact⟨ds.length-(i+1),by omega,rfl,hlt,W5,ρ4,acc,x2.trans<|x3.trans x5,s4.step x5,no4,kD.1,kD.2.1,kD.2.2,(x3.trans x5).reps r2,hb⟩
    |true=>
     rw[oI rfl]at hb ⊢;refine⟨W0,H0,W5,ρ4,s4.step x5,em _ _ _ _ (λy hy v W6 H6 x6 r6=>?_) hb⟩;have xx:=x3.trans<|x5.trans x6;have kD:=keepD xx;have hl:ys.length=acc.length:=r2.length;refine⟨kD.1,by rw[hl];exact da hy.1<|ma<|cF _,ds.length-(i+1),by omega,rfl,hlt,W6,ρ4,acc++[y],(x2.trans xx).chg hD kD.1 kD.2.2 kD.2.1,?_,no4,aO,kD.2.1,kD.2.2,(xx.reps r2).append<|.cons r6 .nil,hy.2⟩;exact((s4.step x5).step x6).chgD no4 hD0 kD.1 kD.2.2 kD.2.1
   .have e:i=ds.length:=by omega
    refine .inl ⟨its hge,?_⟩;rw[tO hge]at q2;exact q2 D ys W2 H2 (x1.trans x2) hD2 g2 p2 (x1.isN hD) r2
theorem e9(vars:List Str)(sel:List Nat)(hc:X.calm=true)(hi:kG X EX target iter wi)(hg:∀s H fp,lP (X.lc sc vars sel s H fp) target g)(hf:∀s H fp,n4 (X.lc sc vars sel s H fp) E0 ifs wf)(he:∀s H fp,PX (X.lc sc vars sel s H fp) E0 elt we)
  (ok:jC sc X.env.scope=true:=by rfl) (so:l8 X.N sc sel=true:=by rfl) (hs:∀x,foldedSetIterable iter X.env x=pure x:=by intro _;rfl):PXL X EX (.ListComp elt [⟨target,iter,ifs,0⟩] sc pos) (aLC wi vars.length sel g wf we):=by
 obtain⟨ti,tg,tf,te,pi,pg,pf,pe,k⟩:=yL hi hg hf he;exact⟨⟨_,DC vars sel hc pi ok so pg pf pe hs,k⟩,aLC.mono hi (hg {} (λ_=>none) []).mono (hf {} (λ_=>none) []).mono (he {} (λ_=>none) []).mono⟩
theorem sU(i:Nat)(vars:List Str)(sel:List Nat)(hc:X.calm=true)(hN:X.N.Nodup)(hi:kG X EX target iter wi)(hg:∀s H fp,lP (X.lc sc vars sel s H fp) target g)(hf:∀s H fp,n4 (X.lc sc vars sel s H fp) E0 ifs wf)(he:∀s H fp,PX (X.lc sc vars sel s H fp) E0 elt we)
  (hix:X.N[i]? = some x:=by rfl) (hx:kf X.env.scope x:=by first|exact Or.inl rfl|exact Or.inr rfl)
  (hsw:swapsWith (.ListComp elt [⟨target,iter,ifs,0⟩] sc pos) (some<|.Name x pos') spos.line X.env=pure true:=by rfl)
  (ok:jC sc X.env.scope=true:=by rfl) (so:l8 X.N sc sel=true:=by rfl) (hs:∀x,foldedSetIterable iter X.env x=pure x:=by intro _;rfl) (hfn:X.fn x=true\/X.env.scope.names.lookup x=some .local:=by first|exact .inl rfl|exact .inr rfl|assumption) :
  PZ X EX (.Assign [.Name x pos'] (.ListComp elt [⟨target,iter,ifs,0⟩] sc pos) spos) (bM i<|aLC wi vars.length sel g wf we):=by
 obtain⟨ti,tg,tf,te,pi,pg,pf,pe,k⟩:=yL hi hg hf he;have am:=aLC.mono (vars:=vars) (sel:=sel) hi (hg {} (λ_=>none) []).mono (hf {} (λ_=>none) []).mono (he {} (λ_=>none) []).mono;refine⟨⟨_,A0 vars sel hc hN hix hx pi ok so pg pf pe hsw hs hfn,λW0 H0 F W σ H ρ E Dn N s fl eo no h=>?_⟩,λE ρ N N' hl q=>am _ _ _ _ (λ_=>hl.nx _) q⟩;refine k W0 H0 W σ H ρ E _ s eo<|am _ _ _ _ (λxs hd a vs W1 H1 x1 e1 e2 e3 e4 r1=>no.nx W1 _ H1 _ (s.own x1 e4 e1 e2 e3 r1) (fl.ext x1) hd) h
def Zbb(g:WG)(zb:WS)(E:Ex->Prop)(N:Nds):List D->bZ->Prop
 |[],ρ=>N.nx ρ|d::ds,ρ=>g d ρ λρ1=>zb E { nx:=Zbb g zb E N ds,rt:=N.rt,bk:=N.nx,ct:=Zbb g zb E N ds } ρ1
def bP(wi:WA)(g:WG)(zb:WS):WS:=λE N ρ=>wi E ρ λds=>Zbb g zb E N ds ρ
theorem Zbb.mono{zb:WS}(hg:∀d ρ P P',(∀r,P r->P' r)->g d ρ P->g d ρ P')(hb:∀E ρ N N',N.le N'->zb E N ρ->zb E N' ρ){E:Ex->Prop}{N N':Nds}(hl:N.le N'):∀ds ρ,Zbb g zb E N ds ρ->Zbb g zb E N' ds ρ
 |[],ρ,h=>hl.nx _ h|d::ds,ρ,h=>hg _ _ _ _ (λr hr=>hb E r { nx:=Zbb g zb E N ds,rt:=N.rt,bk:=N.nx,ct:=Zbb g zb E N ds } _ ⟨Zbb.mono hg hb hl ds,hl.rt,hl.nx,Zbb.mono hg hb hl ds⟩ hr) h
theorem kH(hp:PassesOwn (model X.prog X.w) X.A X.env X.xe)(hc:X.calm=true)(hi:kG X EX target iter wi)(hg:lP X target g)(hb:jT X EX body zb)
  (hs:∀x,foldedSetIterable iter X.env x=pure x:=by intro _;rfl):PZ X EX (.For target iter body [] pos) (bP wi g zb):=by
 obtain⟨ti,pi,ki⟩:=hi.t;obtain⟨tg,pg,kg⟩:=hg.t;obtain⟨tb,pb,kb⟩:=hb.t;refine⟨⟨_,ku hp hc pi pg pb hs,λW0 H0 F W σ H ρ E Dn N s fl eo no h=>?_⟩,λE ρ N N' hl q=>hi.mono _ _ _ _ (λds hds=>Zbb.mono hg.mono hb.mono hl ds ρ hds) q⟩;refine ki W0 H0 W σ H ρ E _ s eo<|hi.mono _ _ _ _ (λds hds W1 H1 J x1 it=>?_) h;refine⟨λi m σ2 H2=>m=ds.length-i/\i<=ds.length/\∃W2 ρ2,SOk X.K W0 H0 W2 σ2 H2 ρ2/\Wle W1 W2/\Zbb g zb E N (ds.drop i) ρ2,⟨_,rfl,iq _,W1,ρ,s.step x1,.refl W1,by rw[pQ];exact hds⟩,?_⟩;rintro i m σ2 H2 ⟨rfl,hi',W2,ρ2,s2,f2,q2⟩;obtain⟨itg,its⟩:=it W2 H2 i f2.g f2.p s2.ok;have fF:∀{V:Wd},Wle W1 V->Wle F V:=λf=>(fl.ext x1).trans f;rcases fS i ds.length with hlt|hge
 .have hd:ds[i]? = some ds[i]:=bJ hlt
  obtain⟨go',yl⟩:=itg _ hd;rw[nU hlt]at q2;refine .inr ⟨go',λσ3 H3=>∃W3 ρ3,SOk X.K W0 H0 W3 σ3 H3 ρ3/\Wle W1 W3/\Zbb g zb E N (ds.drop<|i+1) ρ3,λσ3 H3 ⟨W3,ρ3,s3,f3,q3⟩=>⟨ds.length-(i+1),by omega,rfl,hlt,W3,ρ3,s3,f3,q3⟩,λx H3 y=>?_⟩;obtain⟨W3,x3,r3⟩:=yl x H3 y;refine kg W0 H0 W3 σ2 H3 ρ2 ds[i] x _ (s2.step x3) r3<|hg.mono _ _ _ _ (λρ4 hr σ4 s4=>?_) q2;refine kb W0 H0 W1 W3 σ4 H3 ρ4 E _ { nx:=Zbb g zb E N<|ds.drop<|i+1,rt:=N.rt,bk:=N.nx,ct:=Zbb g zb E N (ds.drop<|i+1) } s4 (f2.ext x3) eo ⟨λW5 σ5 H5 ρ5 s5 f5 h5=>⟨W5,ρ5,s5,f5,h5⟩,no.rt,λW5 σ5 H5 ρ5 s5 f5 h5=>no.nx W5 σ5 H5 ρ5 s5 (fF f5) h5,λW5 σ5 H5 ρ5 s5 f5 h5=>⟨W5,ρ5,s5,f5,h5⟩⟩ hr
 .have e:i=ds.length:=by omega
  refine .inl ⟨its hge,?_⟩;rw[tO hge]at q2;exact no.nx W2 σ2 H2 ρ2 s2 (fF f2) q2
end
def fb(N:List Str)(ds:List D):bZ:=ds.map .d++List.replicate (N.length-ds.length) .un
abbrev Rd(S:List D->(Ex->Prop)->(D->Prop)->Prop)(z:WS)(N:List Str):Prop:=∀ds E Q,S ds E Q->z E { nx:=λ_=>Q .non,rt:=Q } (fb N ds)
theorem DR{W:Wd}{N:List Str}(ok:WOk W H)(r:Reps K W vs ds):SOk K W H W (start N vs) H (fb N ds) where
 ext:=.refl ok
 len:=by unfold fb L2.start;simp[r.length]
 d:=λi x e=>by
  unfold fb at e;rcases fS i ds.length with h|h
  rw[kQ<|by simpa using h,cH]at e;cases q:ds[i]? with
  |none=>rw[q]at e;cases e
  |some y=>rw[q]at e;cases e;obtain⟨v,ev,rv⟩:=r.get q;refine⟨v,?_,rv⟩;unfold L2.start;rw[kQ (by rw[bG,r.length];exact h),cH,ev];rfl
  rw[jZ<|by simpa using h,mz]at e;split at e<;>cases e
 o:=λi xs e=>by
  unfold fb at e;rcases fS i ds.length with h|h
  rw[kQ<|by simpa using h,cH]at e;cases q:ds[i]? with
  |none=>rw[q]at e;cases e
  |some y=>rw[q]at e;cases e
  rw[jZ<|by simpa using h,mz]at e;split at e<;>cases e
 ne:=λi j xs ys a _ e=>by
  unfold fb at e;rcases fS i ds.length with h|h
  rw[kQ<|by simpa using h,cH]at e;cases q:ds[i]? with
  |none=>rw[q]at e;cases e
  |some y=>rw[q]at e;cases e
  rw[jZ<|by simpa using h,mz]at e;split at e<;>cases e
 oo:=.none λi xs e=>by
  unfold fb at e;rcases fS i ds.length with h|h
  rw[kQ<|by simpa using h,cH]at e;cases q:ds[i]? with
  |none=>rw[q]at e;cases e
  |some y=>rw[q]at e;cases e
  rw[jZ<|by simpa using h,mz]at e;split at e<;>cases e
section
variable{P:Program}{w:World}{base:Heap}
theorem vP{N:List Str}{z:WS}(F:Fun K x qual st f fd)(sc:c6 N ps (aK st))(len:∀ds E Q,S ds E Q->ds.length=ps.length)
  (hbody:∀ (cdv:Value) (A:Around) (outer:List Env) (s:Shared) (H:Hp) (E:XK),Room k (A.deeper<|envOfC qual (aK st) s.heap.objs.size f cdv)->
   dh (fL P w) (eG (fL P w) P w K mg base N qual (aK st) f cdv A outer s H E) E->lM (eG (fL P w) P w K mg base N qual (aK st) f cdv A outer s H E) E->
   jT (eG (fL P w) P w K mg base N qual (aK st) f cdv A outer s H E) E (bR st) z)
  (h:∀ds E Q,S ds E Q->z E { nx:=λ_=>Q .non,rt:=Q } (fb N ds)):gv P w K mg base (fL P w) (k+1) f fd ps (hJ K S):=by
 obtain⟨oc,od,kV,doc,pm,an,cdv,ct,osl,rfl,lk,hcd⟩:=F.ex;refine vg lk hcd sc (λvs H Q E hs=>?_) λA outer s H vs Q E hr hs=>?_
 .obtain⟨ds,W,_,r,hS⟩:=hs
  rw[r.length];exact len _ _ _ hS
 .obtain⟨ds,W,ok,r,hS⟩:=hs
  obtain⟨t,p,k⟩:=(hbody cdv A outer s H E hr Hx Hy).t;refine ⟨t,p,k W H W W (start N vs) H (fb N ds) (λex=>∀ W' H' cls dx,Ext W H W' H'->yB K W' H' cls dx ex->E cls dx H') _ { nx:=λ_=>RQ K W H Q .non,rt:=RQ K W H Q } (DR ok r) (.refl W) (λex W' H' cls dx he x r=>he W' H' cls dx x r)
   ⟨λW1 σ1 H1 ρ1 s1 _ q=>q _ W1 H1 s1.ext .non,λd v W1 H1 x1 r1 q=>q v W1 H1 x1 r1,λ_ _ _ _ _ _ q=>q.elim,λ_ _ _ _ _ _ q=>q.elim⟩ (h ds _ _ hS)⟩
end
structure Fp(P:Program)(w:World)(K:Nb)(mg:Str->Option Value)(base:Heap)(k:Nat)(x:Str)(ps:List Str)(S:bX):Prop where
 ok:∃f fd,gv P w K mg base (fL P w) k f fd ps (hJ K S)/\mg x=some (.ref f)/\PySem.W.keepIn K (.ref f)=true/\Binds K fd ps []
 mono:qq S
section
theorem aV(G:Fp X.prog X.w X.K X.mg X.base k x ps S)(hr:Room j X.A)(hx:dh (fL X.prog X.w) X EX)(ha:jE X EX (e::es) t)(hk:k<=j:=by decide)(hg:Gl X x:=by rfl)(hdb:(x==("__debug__" : Str))=false:=by decide)(he:starEach (e::es) X.env=(false,eval e X.env)::starEach es X.env:=by rfl)(hpl:(backTo pos<|starEach es X.env).any (·.1)=false:=by rfl) :
  PX X EX (.Call (.Name x p) (e::es) [] pos) (wF S t):=by
 obtain⟨f,fd,F,hm,kp,hb⟩:=G.ok;exact IH F G.mono (hr.mono hk) hm kp hb hx ha hg hdb he hpl
def bA(z:WS):WS:=λ_ N ρ=>z No N ρ
theorem ig{z:WS}(h:PZ X.nox E0 st z):PZ X EX st (bA z):=by obtain⟨t,p,k⟩:=h.t;refine⟨⟨t,λsa s σ H D I hw=>Nk (p sa s σ H D (I.wish _) hw) (λ_ _ q=>q.unwish) λ_ _ z=>Nr z,λW0 H0 F W σ H ρ E Dn N s fl eo no q=>k W0 H0 F W σ H ρ No Dn N s fl (λ_ _ _ _ _ z=>z.elim) no q⟩,λE ρ N N' hl q=>h.mono _ _ _ _ hl q⟩
end
section
variable{a b:Expr}
def isS(Q:List D->Prop):D->Prop
 |.lst xs=>Q xs|.tup xs=>Q xs|_=>False
theorem isS.mono{Q:List D->Prop}(h:∀b,Q b->Q' b):∀d,isS Q d->isS Q' d:=λd z=>by cases d<;>first|exact h _ z|exact z
def iS(w:WE):WA:=λE ρ Q=>w E ρ<|isS Q
theorem fE(he:PX X EX e w):kG X EX tg e (iS w):=by
 obtain⟨t,q,k⟩:=he.t;refine⟨⟨_,Hz q,λW0 H0 W σ H ρ E R s eo h=>?_⟩,λE ρ P P' hp h=>he.mono _ _ _ _ (isS.mono hp) h⟩;refine k W0 H0 W σ H ρ E _ s eo<|he.mono _ _ _ _ (λd hd v W1 H1 x1 r1=>?_) h;have keyT:∀{l:Addr} {vs:List V} {xs:List D},(∀W' H' J,Ext W H W' H'->ny X.K W' J xs->R J H')->(∀W2 H2,(∀a o,W1.G a=some o->W2.G a=some o)->WOk W2 H2->SqT X.K H2 l vs)->Reps X.K W1 vs xs->(∃ys,SqT X.K H1 l ys)/\R (AL X.K l) H1:=by intro l vs xs hq sq rr;refine⟨⟨vs,sq W1 H1 (λ_ _ z=>z) x1.ok⟩,hq W1 H1 _ x1 λW2 H2 i g2 p2 ok2=>⟨λd hd=>?_,λhi=>⟨vs,sq W2 H2 g2 ok2,by rw[rr.length];exact hi⟩⟩⟩;obtain⟨v,ev,rv⟩:=rr.get hd;refine⟨⟨vs,v,sq W2 H2 g2 ok2,ev⟩,λx H3 y=>?_⟩;obtain⟨rfl,y⟩:=y;have:=y vs<|sq W2 _ g2 ok2;rw[ev]at this;cases this;exact⟨W2,.refl ok2,rv.mono g2 p2⟩
 cases r1 with
 | @lst l vs xs e1 rr=>have hq:∀W' H' J,Ext W H W' H'->ny X.K W' J xs->R J H':=hd;refine⟨l,rfl,.inl ⟨⟨vs,SqL.of<|x1.ok.g _ _ e1⟩,hq W1 H1 _ x1 λW2 H2 i g2 p2 ok2=>⟨λd hd=>?_,λhi=>⟨vs,SqL.of<|ok2.g _ _<|g2 _ _ e1,by rw[rr.length];exact hi⟩⟩⟩⟩;obtain⟨v,ev,rv⟩:=rr.get hd;have sq:SqL X.K H2 l vs:=SqL.of<|ok2.g _ _ (g2 _ _ e1);refine⟨⟨vs,v,sq,ev⟩,λx H3 y=>?_⟩;obtain⟨rfl,y⟩:=y;have:=y vs sq;rw[ev]at this;cases this;exact⟨W2,.refl ok2,rv.mono g2 p2⟩
 |tup e1 rr=>exact⟨_,rfl,.inr<|keyT hd (λW2 H2 g2 ok2=>SqT.of<|ok2.g _ _<|g2 _ _ e1) rr⟩|ktup e1 rr=>exact⟨_,rfl,.inr<|keyT hd (λW2 H2 g2 ok2=>.inr e1) rr⟩|non=>exact hd.elim|bl _=>exact hd.elim|int _=>exact hd.elim|str _=>exact hd.elim|dic _=>exact hd.elim|pen _=>exact hd.elim|cls _=>exact hd.elim|exc _ _=>exact hd.elim|ty _=>exact hd.elim|scr _ _=>exact hd.elim
theorem lh{T:String}(hm:X.mg x=none)(hv:bootBuiltins x=some (.type T))(hg:Gl X x:=by rfl)(hn:x≠ "__name__" :=by decide)(hd:(x==("__debug__" : Str))=false:=by decide):PX X EX (.Name x pos) (wC<|.ty T):=
 IF (v:=.ty T) hm hv rfl (λ_=>.ty T) hg hn hd
theorem IS{i:Int}{t:Tok}(hm:X.mg x=some (.int i t))(hg:Gl X x:=by rfl)(hd:(x==("__debug__" : Str))=false:=by decide):PX X EX (.Name x pos) (wC<|.int i):=
 Bc (v:=.int i) hm ⟨t,rfl⟩ (λ_=>.int i) hg hd
theorem IT{a:Addr}(hm:X.mg x=some (.ref a))(hk:KT X.K a vs)(hr:∀W,Reps X.K W vs ds)(hg:Gl X x:=by rfl)(hd:(x==("__debug__" : Str))=false:=by decide):PX X EX (.Name x pos) (wC<|.tup ds):=
 Bc (v:=.ref a) hm rfl (λW=>.ktup hk<|hr W) hg hd
end
theorem Bm{neg:Bool}{i j:Int}(h:Q (.bl (if neg then !(i==j) else i==j))):gEq neg (.int i) (.int j) Q:=by refine⟨.int i,.int j,rfl,rfl,rfl,rfl,?_⟩;exact h
theorem mj{neg:Bool}{i j:Int}:gEq neg (.int i) (.int j) Q↔Q (.bl (if neg then !(i==j) else i==j)):=
 ⟨λ⟨p,q,h1,h2,_,_,h⟩=>by cases h1;cases h2;exact h,Bm⟩
section
variable{a b c:Expr}
abbrev qU:=List D->bZ->(bZ->Prop)->Prop
structure qr(X:Cx)(ts:List Expr)(g:qU):Prop where
 t:∃t,u3 X ts t/\∀W0 H0 W σ H ρ ds vs Q,SOk X.K W0 H0 W σ H ρ->Reps X.K W vs ds->g ds ρ (λρ'=>∀σ',SOk X.K W0 H0 W σ' H ρ'->Q σ' H)->t vs σ H Q
 mono:∀d ρ P P',(∀r,P r->P' r)->g d ρ P->g d ρ P'
 own:∀d ρ P,ZfN ρ->g d ρ P->g d ρ (λr=>ZfN r/\P r)
def dj:qU:=λds ρ k=>match ds with|[]=>k ρ|_=>False
def cB(g:WG)(gs:qU):qU:=λds ρ k=>match ds with
 |d::ds=>g d ρ λρ'=>gs ds ρ' k
 |_=>False
theorem Zb:qr X [] dj:=by
 refine⟨⟨_,pZ,λW0 H0 W σ H ρ ds vs Q s r h=>?_⟩,λd ρ P P' hp h=>?_,λd ρ P ho h=>?_⟩;cases r with
 |nil=>exact⟨rfl,h σ s⟩|cons _ _=>exact h.elim
 cases d with
 |nil=>exact hp _ h|cons _ _=>exact h.elim
 cases d with
 |nil=>exact⟨ho,h⟩|cons _ _=>exact h.elim
theorem fO{gs:qU}(h1:lP X e g)(h2:qr X es gs)(hs:(assignEach (e::es) X.env).map (·.2)=assign e X.env::(assignEach es X.env).map (·.2):=by rfl):qr X (e::es) (cB g gs):=by
 obtain⟨t1,p1,k1⟩:=h1.t;obtain⟨t2,p2,k2⟩:=h2.t;refine⟨⟨_,mJ p1 p2 hs,λW0 H0 W σ H ρ ds vs Q s r h=>?_⟩,λd ρ P P' hp h=>?_,λd ρ P ho h=>?_⟩;cases r with
 |nil=>exact h.elim|cons r rr=>exact⟨_,_,rfl,k1 W0 H0 W σ H ρ _ _ _ s r<|h1.mono _ _ _ _ (λρ' h' σ' s'=>k2 W0 H0 W σ' H ρ' _ _ Q s' rr h') h⟩
 cases d with
 |nil=>exact h.elim|cons d ds=>exact h1.mono _ _ _ _ (λr hr=>h2.mono _ _ _ _ hp hr) h
 cases d with
 |nil=>exact h.elim|cons d ds=>exact h1.mono _ _ _ _ (λr hr=>h2.own _ _ _ hr.1 hr.2)<|h1.own _ _ _ ho h
def dw(n:Nat)(gs:qU):WG:=λd ρ k=>match d with|.tup xs=>xs.length=n/\gs xs ρ k|_=>False
theorem lm{gs:qU}(hc:X.calm=true)(h:qr X es gs)(hn:(assignEach es X.env).length=n:=by rfl)(hst:(assignEach es X.env).findIdx? (·.1)=none:=by rfl):lP X (.Tuple es k pos) (dw n gs):=by obtain⟨t,p,kk⟩:=h.t;refine⟨⟨_,sh hc p hn hst,λW0 H0 W σ H ρ d v Q s r q=>?_⟩,λd ρ P P' hp q=>?_,λd ρ P ho q=>?_⟩;unfold dw at q;split at q;obtain⟨a,vs,rfl,h1,rr⟩:=r.sqt s.ok;exact⟨a,vs,rfl,h1,rr.length.trans q.1,kk W0 H0 W σ H ρ _ _ Q s rr q.2⟩;exact q.elim;unfold dw at q ⊢;split at q;exact⟨q.1,h.mono _ _ _ _ hp q.2⟩;exact q.elim;unfold dw at q ⊢;split at q;exact⟨q.1,h.own _ _ _ ho q.2⟩;exact q.elim
def dA(w:WE)(g:WG):WS:=λE N ρ=>w E ρ λd=>g d ρ N.nx
theorem vQ(he:PX X EX e w)(hg:lP X tg g)(hs:swapsWithSole [tg] e pos.line X.env=pure false:=by rfl)(hw:swappedStores [tg] e X.env=pure none:=by rfl)
  (h1:(assignEach [tg] X.env).map (·.2)=[assign tg X.env]:=by rfl):PZ X EX (.Assign [tg] e pos) (dA w g):=by
 obtain⟨t,p,k⟩:=he.t;obtain⟨t2,p2,k2⟩:=hg.t;refine⟨⟨_,fU p p2 hs hw h1,λW0 H0 F W σ H ρ E Dn N s fl eo no h=>?_⟩,λE ρ N N' hl q=>he.mono _ _ _ _ (λd hd=>hg.mono _ _ _ _ hl.nx hd) q⟩;refine k W0 H0 W σ H ρ E _ s eo<|he.mono _ _ _ _ (λd hd v W1 H1 x1 r1=>?_) h;exact k2 W0 H0 W1 σ H1 ρ d v _ (s.step x1) r1<|hg.mono _ _ _ _ (λρ' h' σ' s'=>no.nx W1 σ' H1 ρ' s' (fl.ext x1) h') hd
def eQ(i j:Nat)(t:WA):WS:=λE N ρ=>t E ρ λds=>match ds with
 |[x,y]=>N.nx<|(ρ.set i<|.d x).set j (.d y)
 |_=>False
theorem Bo(i j:Nat){y:Str}{px py pt:Pos}{kt k2 pt2}(hN:X.N.Nodup)(ha:jE X EX [a,b] t)(hc:X.calm=true:=by rfl)(hi:X.N[i]? = some x:=by rfl)(hj:X.N[j]? = some y:=by rfl)(hij:i≠j:=by decide)
  (hx:X.env.scope.names.lookup x=some .local:=by rfl) (hy:X.env.scope.names.lookup y=some .local:=by rfl)
  (hw:swappedStores [.Tuple [.Name x px,.Name y py] kt pt] (.Tuple [a,b] k2 pt2) X.env=pure (some [x,y]):=by rfl)
  (hs:swapsWithSole [.Tuple [.Name x px,.Name y py] kt pt] (.Tuple [a,b] k2 pt2) pos.line X.env=pure false:=by rfl) :
  PZ X EX (.Assign [.Tuple [.Name x px,.Name y py] kt pt] (.Tuple [a,b] k2 pt2) pos) (eQ i j t):=by
 obtain⟨ta,p,k⟩:=ha.t;refine⟨⟨_,sj hc hN hi hj hij hx hy p hw hs,λW0 H0 F W σ H ρ E Dn N s fl eo no h=>?_⟩,λE ρ N N' hl q=>ha.mono _ _ _ _ (λds hd=>?_) q⟩
 .refine k W0 H0 W σ H ρ E _ s eo (ha.mono _ _ _ _ (λds hd vs W1 H1 x1 r1=>?_) h)
  split at hd
  .obtain⟨v,u,rfl,rv,ru⟩:=r1.two
   exact⟨v,u,rfl,no.nx W1 _ H1 _ (((s.step x1).set rv).set ru) (fl.ext x1) hd⟩
  .exact hd.elim
 .split at hd
  .exact hl.nx _ hd
  .exact hd.elim
def ua(c:WT)(zb:WS):WS:=λE N ρ=>∃I:Nat->bZ->Prop,(∃m,I m ρ)/\∀m ρ,I m ρ->c E ρ λb=>
 if b=true then zb E { nx:=λρ'=>∃m',m'<m/\I m' ρ',rt:=N.rt,bk:=N.nx,ct:=λρ'=>∃m',m'<m/\I m' ρ' } ρ else N.nx ρ
theorem yM(hp:PassesOwn (model X.prog X.w) X.A X.env X.xe)(hc:jS X EX c wt)(hb:jT X EX body zb):PZ X EX (.While c body [] pos) (ua wt zb):=by
 obtain⟨tc,pc,kc⟩:=hc.t;obtain⟨tb,pb,kb⟩:=hb.t;refine⟨⟨_,mK hp pc pb,λW0 H0 F W σ H ρ E Dn N s fl eo no h=>?_⟩,λE ρ N N' hl q=>?_⟩;obtain⟨I,⟨m0,i0⟩,turn⟩:=h;refine⟨λm σ H=>∃W ρ,SOk X.K W0 H0 W σ H ρ/\Wle F W/\I m ρ,⟨m0,W,ρ,s,fl,i0⟩,?_⟩;rintro m σ2 H2 ⟨W2,ρ2,s2,f2,i2⟩;refine kc W0 H0 W2 σ2 H2 ρ2 E _ s2 eo<|hc.mono _ _ _ _ (λb hb' W3 H3 x3=>?_) (turn m ρ2 i2);cases b with
 |true=>
  rw[oI rfl]at hb' ⊢;refine⟨λσ4 H4=>∃m',m'<m/\∃W ρ,SOk X.K W0 H0 W σ4 H4 ρ/\Wle F W/\I m' ρ,λσ4 H4 ⟨m',hm,q⟩=>⟨m',hm,q⟩,?_⟩;exact kb W0 H0 F W3 σ2 H3 ρ2 E _ { nx:=λρ'=>∃m',m'<m/\I m' ρ',rt:=N.rt,bk:=N.nx,ct:=λρ'=>∃m',m'<m/\I m' ρ' } (s2.step x3) (f2.ext x3) eo
   ⟨λW5 σ5 H5 ρ5 s5 f5 ⟨m',hm,q⟩=>⟨m',hm,W5,ρ5,s5,f5,q⟩,no.rt,λW5 σ5 H5 ρ5 s5 f5 q=>no.nx W5 σ5 H5 ρ5 s5 f5 q,λW5 σ5 H5 ρ5 s5 f5 ⟨m',hm,q⟩=>⟨m',hm,W5,ρ5,s5,f5,q⟩⟩ hb'
 |false=>rw[ks<|by decide]at hb' ⊢;exact no.nx W3 σ2 H3 ρ2 (s2.step x3) (f2.ext x3) hb'
 obtain⟨I,i0,turn⟩:=q;refine⟨I,i0,λm ρ i=>hc.mono _ _ _ _ (λb hb'=>?_)<|turn m ρ i⟩;cases b with
 |true=>rw[oI rfl]at hb' ⊢;exact hb.mono E ρ { nx:=λρ'=>∃m',m'<m/\I m' ρ',rt:=N.rt,bk:=N.nx,ct:=λρ'=>∃m',m'<m/\I m' ρ' } _ ⟨λ_ z=>z,hl.rt,hl.nx,λ_ z=>z⟩ hb'|false=>rw[ks<|by decide]at hb' ⊢;exact hl.nx _ hb'
theorem IU{tc:TT}(hc:PT X c tc)(hs:exec (.Assert c none pos) X.env=(do standAt pos;if<-isTrue c X.env (eval c X.env) then pure .next else assertFails c.pos (evalOpt none X.env)):=by rfl):PS X (.Assert c none pos) (λD σ H=>tc σ H λb H1=>b=true/\D.nx σ H1):=by intro sa s σ H D I h;rw[hs];refine Na<|Nw (Na<|bC (hc sa s σ H _ I h) λb s1 ⟨H1,I1,e,q⟩=>?_);subst e;rw[oI rfl];exact Nc ⟨σ,H1,I1,q⟩
def ls(c:WT):WS:=λE N ρ=>c E ρ λb=>b=true/\N.nx ρ
theorem IV(hc:jS X EX c wt)(hs:exec (.Assert c none pos) X.env=(do standAt pos;if<-isTrue c X.env (eval c X.env) then pure .next else assertFails c.pos (evalOpt none X.env)):=by rfl):PZ X EX (.Assert c none pos) (ls wt):=by obtain⟨tc,pc,kc⟩:=hc.t;refine⟨⟨_,IU pc hs,λW0 H0 F W σ H ρ E Dn N s fl eo no h=>?_⟩,λE ρ N N' hl q=>hc.mono _ _ _ _ (λb hb=>⟨hb.1,hl.nx _ hb.2⟩) q⟩;exact kc W0 H0 W σ H ρ E _ s eo<|hc.mono _ _ _ _ (λb hb W1 H1 x1=>⟨hb.1,no.nx W1 σ H1 ρ (s.step x1) (fl.ext x1) hb.2⟩) h
def dk(i:Nat)(w:WE):WS:=λE N ρ=>match ρ[i]? with
 |some (.ow xs)=>w E ρ λd=>xs.length<small/\N.nx (ρ.set i<|.ow<|xs++[d])
 |_=>False
theorem vR(i:Nat)(he:PX X EX e w)(hN:X.N[i]? = some x:=by rfl)(hv:kU X.env.scope x:=by first|exact Or.inl rfl|exact Or.inr (Or.inl rfl)|exact Or.inr<|Or.inr rfl)(hd:(x==("__debug__" : Str))=false:=by decide)
  (hcd:(x==("__classdict__" : Str))=false:=by decide) (hbase:attributeBase (.Name x p) "append" X.env (eval (.Name x p) X.env)=eval (.Name x p) X.env:=by rfl)
  (hfew:((backTo cpos<|starEach [e] X.env).all (λx=>!x.1)&&(backToKw cpos<|keywordEach [] X.env).all (λx=>x.1.isSome)&&decide ([e].length+([]:List Keyword).length+(if([]:List Keyword).isEmpty then 0 else 1)<30))=true:=by rfl)
  (hline:(apos.endLine==cpos.line)=true:=by rfl) (hs:starEach [e] X.env=(false,eval e X.env)::starEach [] X.env:=by rfl) (hplain:(backTo cpos<|starEach [] X.env).any (·.1)=false:=by rfl)
  (hsw:swapsWith (.Call (.Attribute (.Name x p) "append" apos) [e] [] cpos) none pos.line X.env=pure false:=by rfl):PZ X EX (.Expr (.Call (.Attribute (.Name x p) "append" apos) [e] [] cpos) pos) (dk i w):=by
 obtain⟨t,pe,k⟩:=he.t;refine⟨⟨_,ja (m7 PySem.F.plainAttrs_list PySem.F.slot_list_append PySem.F.type_list_append lH (dg hN hv hd hcd) (gO pe je hs) hbase hfew hline hs hplain) hsw,λW0 H0 F W σ H ρ E Dn N s fl eo no h=>?_⟩,λE ρ N N' hl q=>?_⟩
 .unfold dk at h
  split at h
  .rename_i xs ex
   obtain⟨a,vs,e1,e2,e3,e4,e5,r⟩:=s.o i xs ex;refine⟨_,e1,.inl ⟨rfl,vs,SqL.of e2⟩,?_⟩;refine k W0 H0 W σ H ρ E _ s eo<|he.mono _ _ _ _ (λd hd v W1 H1 x1 r1=>?_) h;have e2':=x1.h a _ e2 e4;refine⟨a,vs,v,rfl,rfl,e2',by rw[r.length];exact da hd.1<|ma<|cF _,?_⟩;exact no.nx W1 σ _ _ ((s.step x1).chg ex e1<|(x1.reps r).append<|.cons r1 .nil) (fl.ext x1) hd.2
  .exact h.elim
 .unfold dk at q ⊢
  split at q
  .exact he.mono _ _ _ _ (λd hd=>⟨hd.1,hl.nx _ hd.2⟩) q
  .exact q.elim
end
variable{gs:qU}
section
variable{ps:Pos}{a b:Expr}
theorem Rep.sq{W:Wd}{v:V}{Q:List D->Prop}(r:Rep K W v d)(h:isS Q d):∃κ l vs xs,v=.ref l/\Reps K W vs xs/\Q xs/\∀W2 H2,(∀a o,W.G a=some o->W2.G a=some o)->WOk W2 H2->Sq K κ H2 l vs:=by
 cases r with
 |lst e1 rr=>exact⟨false,_,_,_,rfl,rr,h,λW2 H2 g ok=>SqL.of<|ok.g _ _<|g _ _ e1⟩|tup e1 rr=>exact⟨true,_,_,_,rfl,rr,h,λW2 H2 g ok=>SqT.of<|ok.g _ _<|g _ _ e1⟩|ktup e1 rr=>exact⟨true,_,_,_,rfl,rr,h,λW2 H2 g ok=>.inr e1⟩|_=>exact h.elim
def dO(xs ys:List D):List D:=List.zipWith (λx y=>.tup [x,y]) xs ys
def iZ(t:WA):WA:=λE ρ Q=>t E ρ λds=>match ds with|[x,y]=>isS (λxs=>isS (λys=>Q<|dO xs ys) y) x|_=>False
theorem ub(hm:X.mg "zip" = none)(ha:jE X EX [a,b] t)(hg:Gl X "zip" :=by rfl)(hs:starEach [a,b] X.env=[(false,eval a X.env),(false,eval b X.env)]:=by rfl)(hs2:starEach [b] X.env=[(false,eval b X.env)]:=by rfl) :
  kG X EX (.Tuple es n1 ps) (.Call (.Name "zip" p) [a,b] [] pos) (iZ t):=by
 obtain⟨t,q,k⟩:=ha.t;refine⟨⟨_,HH hg hm q hs hs2,λW0 H0 W σ H ρ E R s eo h=>?_⟩,λE ρ P P' hp h=>ha.mono _ _ _ _ (λds hd=>?_) h⟩
 .refine k W0 H0 W σ H ρ E _ s eo (ha.mono _ _ _ _ (λds hd vs W1 H1 x1 r1=>?_) h)
  split at hd
  .obtain⟨v,u,rfl,rv,ru⟩:=r1.two
   obtain⟨κ,l,vs,xs,rfl,rr,hd,sq⟩:=rv.sq hd;obtain⟨κ',l',us,ys,rfl,rr',hd,sq'⟩:=ru.sq hd;refine⟨κ,κ',l,l',rfl,⟨vs,sq W1 H1 (λ_ _ z=>z) x1.ok⟩,⟨us,sq' W1 H1 (λ_ _ z=>z) x1.ok⟩,hd W1 H1 _ x1 λW2 H2 i g2 p2 ok2=>⟨λd hd=>?_,λhi=>?_⟩⟩
   .have s1:=sq W2 H2 g2 ok2
    have s2:=sq' W2 H2 g2 ok2;unfold dO at hd;rw[List.getElem?_zipWith]at hd;cases ex:xs[i]? with
    |none=>rw[ex]at hd;cases hd
    |some x=>
     cases ey:ys[i]? with
     |none=>rw[ex,ey]at hd;cases hd
     |some y=>
      rw[ex,ey]at hd;cases hd;obtain⟨vx,evx,rvx⟩:=rr.get ex;obtain⟨vy,evy,rvy⟩:=rr'.get ey;refine⟨⟨vs,us,vx,vy,s1,s2,evx,evy⟩,λz H3 hy=>?_⟩;obtain⟨q,x',y',rfl,hq,rfl,e1,e2⟩:=hy;have e1:=e1 _ s1;have e2:=e2 _ s2;rw[evx]at e1;rw[evy]at e2;cases e1;cases e2;have xt:=Ext.put (o:=.tup [vx,vy]) ok2 hq;exact⟨_,xt,.tup (by unfold Wd.put;dsimp only;rw[aO])<|.cons (xt.rep<|rvx.mono g2 p2)<|.cons (xt.rep<|rvy.mono g2 p2) .nil⟩
   .refine⟨vs,us,sq W2 H2 g2 ok2,sq' W2 H2 g2 ok2,?_⟩
    rw[rr.length,rr'.length];unfold dO at hi;rw[nV]at hi;omega
  .exact hd.elim
 .split at hd
  .exact isS.mono (λxs h1=>isS.mono (λys h2=>hp _ h2) _ h1) _ hd
  .exact hd.elim
def jr(i:Nat)(wi wv:WE):WS:=λE N ρ=>match ρ[i]? with
 |some (.ow xs)=>wv E ρ λd=>wi E ρ (isI λk=>∃j,jB xs.length k=some j/\N.nx (ρ.set i<|.ow<|xs.set j d))
 |_=>False
theorem DS(i:Nat){wi:WE}(hix:PX X EX ix wi)(he:PX X EX e wv)(hN:X.N[i]? = some x:=by rfl)(hv:kU X.env.scope x:=by first|exact Or.inl rfl|exact Or.inr (Or.inl rfl)|exact Or.inr<|Or.inr rfl)(hd:(x==("__debug__" : Str))=false:=by decide)
  (hcd:(x==("__classdict__" : Str))=false:=by decide)
  (ha:∀ v,assign (.Subscript (.Name x p) ix spos) X.env v=(do
   let ov <-holding [v] (eval (.Name x p) X.env)
   let iv <-holding [v,ov] (eval ix X.env)
   standAt spos
   holding [v,ov,iv] (setItem ov iv v)
   release [v,ov,iv] []):=by intro _;rfl)
  (hs:swapsWithSole [.Subscript (.Name x p) ix spos] e pos.line X.env=pure false:=by rfl) (hw:swappedStores [.Subscript (.Name x p) ix spos] e X.env=pure none:=by rfl)
  (h1:(assignEach [.Subscript (.Name x p) ix spos] X.env).map (·.2)=[assign (.Subscript (.Name x p) ix spos) X.env]:=by rfl):PZ X EX (.Assign [.Subscript (.Name x p) ix spos] e pos) (jr i wi wv):=by
 obtain⟨t,pe,k⟩:=he.t;obtain⟨ti,pi,ki⟩:=hix.t;refine⟨⟨_,fU pe (gY (dg hN hv hd hcd) pi dN ha) hs hw h1,λW0 H0 F W σ H ρ E Dn N s fl eo no h=>?_⟩,λE ρ N N' hl q=>?_⟩
 .unfold jr at h
  split at h
  .rename_i xs ex
   obtain⟨a,vs,e1,e2,e3,e4,e5,r⟩:=s.o i xs ex;refine k W0 H0 W σ H ρ E _ s eo<|he.mono _ _ _ _ (λd hd v W1 H1 x1 r1=>⟨_,e1,?_⟩) h;refine ki W0 H0 W1 σ H1 ρ E _ (s.step x1) eo<|hix.mono _ _ _ _ (λdi hdi vi W2 H2 x2 r2=>?_) hd;obtain⟨kk,rfl,j,hj,hn⟩:=md hdi;cases r2;have xx:=x1.trans x2;have e2':=xx.h a _ e2 e4;refine⟨a,vs,kk,j,rfl,rfl,e2',by rw[r.length];exact hj,?_⟩;exact no.nx W2 σ _ _ ((s.step xx).chg ex e1<|Reps.set (x2.rep r1) j<|xx.reps r) (fl.ext xx) hn
  .exact h.elim
 .unfold jr at q ⊢
  split at q
  .exact he.mono _ _ _ _ (λd hd=>hix.mono _ _ _ _ (isI.mono λkk ⟨j,hj,hn⟩=>⟨j,hj,hl.nx _ hn⟩) hd) q
  .exact q.elim
end
mutual
def ed:D->Bool
 |.lst _=>false|.scr _=>false|.dic=>false|.tup xs=>jG xs|.non=>true|.bl _=>true|.int _=>true|.str _=>true|.pen=>true|.cls _=>true|.exc _=>true|.ty _=>true
def jG:List D->Bool
 |[]=>true|x::r=>ed x&&jG r
end
def Wd.rem(W:Wd)(a:Addr):Wd:=⟨λb=>if b=a then none else W.G b,W.Pn⟩
section
variable{W:Wd}
theorem Wd.rem_ne{b:Addr}(h:b≠a):(W.rem a).G b=W.G b:=by unfold Wd.rem;dsimp only;rw[ks h]
theorem Wd.rem_same:(W.rem a).G a=none:=by unfold Wd.rem;dsimp only;rw[oI rfl]
mutual
theorem Rep.rem(h:W.G a=some (.lst us)):∀{v:V} {d:D},Rep K W v d->ed d=true->Rep K (W.rem a) v d
 |_,_,.non,_=>.non|_,_,.bl b,_=>.bl b|_,_,.int i,_=>.int i|_,_,.str x,_=>.str x|_,_,.tup e r,f=>.tup (by rw[Wd.rem_ne (λz=>by rw[z,h]at e;cases e)];exact e)<|Reps.rem h r (by rw[ed]at f;exact f)
 |_,_,.ktup e r,f=>.ktup e<|Reps.rem h r (by rw[ed]at f;exact f)
 |_,_,.lst e r,f=>by rw[ed]at f;cases f
 |_,_,.scr e r,f=>by rw[ed]at f;cases f
 |_,_,.dic e,f=>by rw[ed]at f;cases f
 |_,_,.pen e,_=>.pen e|_,_,.cls e,_=>.cls e|_,_,.exc e n x,_=>.exc (by rw[Wd.rem_ne (λz=>by rw[z,h]at e;cases e)];exact e) n λc f k q=>let⟨d,e1,e2⟩:=x c f k q;⟨d,e1,by rw[Wd.rem_ne (λz=>by rw[z,h]at e2;cases e2)];exact e2⟩
 |_,_,.ty n,_=>.ty n
theorem Reps.rem(h:W.G a=some (.lst us)):∀{vs:List V} {ds:List D},Reps K W vs ds->jG ds=true->Reps K (W.rem a) vs ds
 |_,_,.nil,_=>.nil|_,_,.cons r t,f=>by rw[jG,dQ]at f;exact .cons (Rep.rem h r f.1)<|Reps.rem h t f.2
end
theorem Ext.bor(x:Ext (W.put a<|.lst us) H W2 H2)(hg:W.G a=none):Ext W H (W2.rem a) H2 where
 ok:=⟨λb o e=>by
   by_cases hb:b=a
   .subst hb;rw[Wd.rem_same]at e;cases e
   .rw[Wd.rem_ne hb]at e;exact x.ok.g b o e,
  λb hb=>⟨(x.ok.p b hb).1,by
   by_cases hba:b=a
   .subst hba;exact Wd.rem_same
   .rw[Wd.rem_ne hba];exact(x.ok.p b hb).2⟩⟩
 g:=λb o e=>by
  have hb:b≠a:=λz=>by rw[z,hg]at e;cases e
  rw[Wd.rem_ne hb];exact x.g b o (by unfold Wd.put;dsimp only;rw[aI hb];exact e)
 p:=x.p
 gf:=λb e n=>by by_cases hb:b=a;subst hb;exact Nd Wd.rem_same n;rw[Wd.rem_ne hb]at n;exact x.gf b (by unfold Wd.put;dsimp only;rw[aI hb];exact e) n
 pf:=x.pf
 h:=x.h
theorem SOk.pubAt(s:SOk K W0 H0 W σ H ρ)(e:ρ[i]? = some (.ow xs))(e1:σ[i]? = some (some<|V.ref a))(e2:H a=some (.lst us))(e3:W.G a=none)(e4:¬W.Pn a)(e5:H0 a=none)(r:Reps K W us xs) :
  SOk K W0 H0 (W.put a<|.lst us) σ H (LP.pub i ρ):=by
 have ep:LP.pub i ρ=ρ.set i (.d<|.lst xs):=by unfold LP.pub;rw[e]
 rw[ep];have hi:i<ρ.length:=(Yaq.mp e).1;refine⟨s.ext.pub e5 e2 e4 e3,by rw[cU];exact s.len,λj y ej=>?_,λj ys ej=>?_,λj k ys zs b hjk ej ek e6=>?_,OOs.set ⟨λj xss ej=>let⟨a',bs,q1,q,n⟩:=s.oo.t j xss ej;⟨a',bs,q1,q.put (n i xs a e e1) e3,n⟩,s.oo.u⟩ (λ_ h=>by cases h) (λ_ _=>rfl) λ_ _ h=>by cases h⟩
 .by_cases h:i=j
  .subst h
   rw[dq hi]at ej;cases ej;exact⟨_,e1,.lst (by unfold Wd.put;dsimp only;rw[aO])<|r.mono (qp e3) λ_ z=>z⟩
  .rw[cO h]at ej
   obtain⟨v,q1,q2⟩:=s.d j y ej;exact⟨v,q1,q2.mono (qp e3) λ_ z=>z⟩
 .have h:i≠j:=λh=>by subst h;rw[dq hi]at ej;cases ej
  rw[cO h]at ej;obtain⟨b,us',q1,q2,q3,q4,q5,rr⟩:=s.o j ys ej;have hba:b≠a:=λz=>s.ne i j xs ys a h e ej e1 (by rw[<-z];exact q1);refine⟨b,us',q1,q2,?_,q4,q5,rr.mono (qp e3) λ_ z=>z⟩;unfold Wd.put;dsimp only;rw[aI hba];exact q3
 .have h:i≠j:=λh=>by subst h;rw[dq hi]at ej;cases ej
  have h':i≠k:=λh=>by subst h;rw[dq hi]at ek;cases ek
  rw[cO h]at ej;rw[cO h']at ek;exact s.ne j k ys zs b hjk ej ek e6
theorem SOk.lend(s:SOk K W0 H0 W σ H ρ)(i:Nat):(LP.pub i ρ=ρ)\/∃a us,SOk K W0 H0 (W.put a<|.lst us) σ H (LP.pub i ρ)/\W.G a=none/\H a=some (.lst us)/\(W.put a<|.lst us).G a=some (.lst us):=by
 cases e:ρ[i]? with
 |none=>exact .inl (by unfold LP.pub;rw[e])
 |some sv=>
  cases sv with
  |un=>exact .inl (by unfold LP.pub;rw[e])|d x=>exact .inl (by unfold LP.pub;rw[e])|oo xss=>exact .inl (by unfold LP.pub;rw[e])
  |ow xs=>
   obtain⟨a,us,e1,e2,e3,e4,e5,r⟩:=s.o i xs e;exact .inr ⟨a,us,s.pubAt e e1 e2 e3 e4 e5 r,e3,e2,by unfold Wd.put;dsimp only;rw[aO]⟩
end
section
variable{ps:Pos}{a b:Expr}
def ef(i:Nat)(w:WE):WE:=λE ρ Q=>w E (pub i ρ) λd=>ed d=true/\Q d
theorem yN(i:Nat)(he:PX X EX e w):PX X EX e (ef i w):=by
 obtain⟨t,q,k⟩:=he.t;refine⟨⟨t,q,λW0 H0 W σ H ρ E Q s eo h=>?_⟩,λE ρ P P' hp h=>he.mono _ _ _ _ (λd hd=>⟨hd.1,hp _ hd.2⟩) h⟩;unfold ef at h;rcases s.lend i with ep|⟨a,us,s',e3,e2,e6⟩
 rw[ep]at h;exact k W0 H0 W σ H ρ E Q s eo<|he.mono _ _ _ _ (λd hd=>hd.2) h
 exact k W0 H0 _ σ H _ E Q s' eo<|he.mono _ _ _ _ (λd hd v W2 H2 x2 r2=>hd.2 v _ H2 (x2.bor e3)<|r2.rem (x2.g _ _ e6) hd.1) h
def eR(i:Nat)(w:WT):WT:=λE ρ Q=>w E (pub i ρ) Q
theorem IW(i:Nat){w:WT}(he:jS X EX e w):jS X EX e (eR i w):=by
 obtain⟨t,q,k⟩:=he.t;refine⟨⟨t,q,λW0 H0 W σ H ρ E Q s eo h=>?_⟩,λE ρ P P' hp h=>he.mono _ _ _ _ hp h⟩;unfold eR at h;rcases s.lend i with ep|⟨a,us,s',e3,e2,e6⟩
 rw[ep]at h;exact k W0 H0 W σ H ρ E Q s eo h;exact k W0 H0 _ σ H _ E Q s' eo<|he.mono _ _ _ _ (λd hd W2 H2 x2=>hd _ H2<|x2.bor e3) h
def aBor(i:Nat)(t:WA):WA:=λE ρ Q=>t E (pub i ρ) λds=>jG ds=true/\Q ds
theorem uc(i:Nat)(he:PXL X EX e t):PXL X EX e (aBor i t):=by
 obtain⟨t,q,k⟩:=he.t;refine⟨⟨t,q,λW0 H0 W σ H ρ E Q s eo h=>?_⟩,λE ρ P P' hp h=>he.mono _ _ _ _ (λd hd=>⟨hd.1,hp _ hd.2⟩) h⟩;unfold aBor at h;rcases s.lend i with ep|⟨a,us,s',e3,e2,e6⟩
 rw[ep]at h;exact k W0 H0 W σ H ρ E Q s eo<|he.mono _ _ _ _ (λd hd=>hd.2) h
 refine k W0 H0 _ σ H _ E Q s' eo (he.mono _ _ _ _ (λd hd b vs W2 H2 x2 h1 h2 h3 h4 r2=>?_) h);have hb:b≠a:=λz=>by rw[z,e2]at h4;cases h4
 exact hd.2 b vs _ H2 (x2.bor e3) h1 (by rw[Wd.rem_ne hb];exact h2) h3 h4<|r2.rem (x2.g _ _ e6) hd.1
def gG(i:Nat)(wb:WE):WE:=λE ρ Q=>match ρ[i]? with|some (.ow xs)=>wb E ρ (isI λk=>∃d,dW xs k=some d/\Q d)|_=>False
def NL(K:Nb)(W:Wd)(H:Hp)(Q:VK)(ds:List D):Prop:=∀a vs W' H',Ext W H W' H'->H' a=some (.lst vs)->W'.G a=none->¬W'.Pn a->H a=none->Reps K W' vs ds->Q (.ref a) H'
def NL.new{K:Nb}{W W1:Wd}{H H1:Hp}{Q:VK}{ds:List D}{vs:List V}(h:NL K W H Q ds)(x1:Ext W H W1 H1)(r:Reps K W1 vs ds){q:Addr}(hq:H1 q=none):Q (.ref q) (upd H1 q<|.lst vs):=
 h q vs W1 _ (x1.trans<|.new x1.ok hq) aO (x1.ok.fresh hq).1 (x1.ok.fresh hq).2 (x1.isN hq) r
def d6(wa wb:WE):WA:=λE ρ Q=>wa E ρ<|isL λxs=>wb E ρ (isL λys=>xs.length+ys.length<=small/\Q (xs++ys))
theorem yO(ha:PX X EX a wa)(hb:PX X EX b wb):PXL X EX (.BinOp a .Add b pos) (d6 wa wb):=by obtain⟨ta,pa,ka⟩:=ha.t;obtain⟨tb,pb,kb⟩:=hb.t;refine⟨⟨_,mM Zmp pa pb,λW0 H0 W σ H ρ E Q s eo h=>?_⟩,λE ρ P P' hp h=>ha.mono _ _ _ _ (isL.mono λxs hx=>hb.mono _ _ _ _ (isL.mono λys hy=>⟨hy.1,hp _ hy.2⟩) hx) h⟩;refine ka W0 H0 W σ H ρ E _ s eo<|ha.mono _ _ _ _ (λd hd v W1 H1 x1 r1=>?_) h;obtain⟨xs,rfl,hd⟩:=yJ hd;refine kb W0 H0 W1 σ H1 ρ E _ (s.step x1) eo<|hb.mono _ _ _ _ (λd hd u W2 H2 x2 r2=>?_) hd;obtain⟨ys,rfl,hd⟩:=yJ hd;obtain⟨p,vs,rfl,h1,q1⟩:=(x2.rep r1).sql x2.ok;obtain⟨q,us,rfl,h2,q2⟩:=r2.sql x2.ok;exact⟨p,q,vs,us,rfl,rfl,h1,h2,by rw[q1.length,q2.length];exact ma hd.1,λa ha=>NL.new hd.2 (x1.trans x2) (q1.append q2) ha⟩
def fG(wa wb:WE):WA:=λE ρ Q=>wa E ρ<|isL λxs=>wb E ρ (isI λk=>k<1000/\-1000<k/\xs.length*k.toNat<=small/\Q (List.replicate k.toNat xs).flatten)
theorem IX(ha:PX X EX a wa)(hb:PX X EX b wb):PXL X EX (.BinOp a .Mult b pos) (fG wa wb):=by
 obtain⟨ta,pa,ka⟩:=ha.t;obtain⟨tb,pb,kb⟩:=hb.t;refine⟨⟨_,mM m9 pa pb,λW0 H0 W σ H ρ E Q s eo h=>?_⟩,λE ρ P P' hp h=>ha.mono _ _ _ _ (isL.mono λxs hx=>hb.mono _ _ _ _ (isI.mono λys hy=>⟨hy.1,hy.2.1,hy.2.2.1,hp _ hy.2.2.2⟩) hx) h⟩;refine ka W0 H0 W σ H ρ E _ s eo<|ha.mono _ _ _ _ (λd hd v W1 H1 x1 r1=>?_) h;obtain⟨xs,rfl,hd⟩:=yJ hd;refine kb W0 H0 W1 σ H1 ρ E _ (s.step x1) eo<|hb.mono _ _ _ _ (λd hd u W2 H2 x2 r2=>?_) hd;obtain⟨kk,rfl,hd⟩:=md hd;cases r2;cases x2.rep r1 with
 | @lst l vs _ e r=>refine⟨l,kk,vs,rfl,rfl,x2.ok.g _ _ e,by omega,by omega,?_,λq hq=>NL.new hd.2.2.2 (x1.trans x2) (Bk r _) hq⟩;rw[r.length];exact ma hd.2.2.1
def gH(wa:WE)(wl wh:(Ex->Prop)->bZ->(Option Int->Prop)->Prop):WA:=λE ρ Q=>wa E ρ λx=>wl E ρ λl=>wh E ρ λh=>match x with
 |.lst xs=>Q<|bB xs l h
 |.scr xs=>Q<|bB xs l h
 |_=>False
end
section
variable{W:Wd}{i j k:Int}
def Wd.pen(W:Wd)(a:Addr):Wd:=⟨W.G,λb=>b=a\/W.Pn b⟩
theorem Ext.pen(x:Ext W H W1 H1)(h:H a=none)(e:H1 a=some (.lst [.int i,.int j,.int k]))(ng:W1.G a=none):Ext W H (W1.pen a) H1 where
 ok:=⟨x.ok.g,λb hb=>by
  rcases hb with rfl|hb
  .exact⟨⟨i,j,k,e⟩,ng⟩
  .exact x.ok.p b hb⟩
 g:=x.g
 p:=λb hb=>.inr<|x.p b hb
 gf:=x.gf
 pf:=λb n hb=>by
  rcases hb with rfl|hb
  exact h;exact x.pf b n hb
 h:=x.h
theorem Ext.ink(x:Ext W H W1 H1)(hp:W1.Pn a):Ext W H W1 (upd H1 a<|.lst [.int i,.int j,.int k]) where
 ok:=⟨λb o e=>by
   have hb:b≠a:=λz=>by rw[z,(x.ok.p a hp).2]at e;cases e
   rw[aI hb];exact x.ok.g b o e,
  λb hb=>by
   by_cases hba:b=a
   .subst hba;exact⟨⟨i,j,k,aO⟩,(x.ok.p b hb).2⟩
   .obtain⟨⟨i',j',k',e⟩,n⟩:=x.ok.p b hb
    exact⟨⟨i',j',k',by rw[aI hba];exact e⟩,n⟩⟩
 g:=x.g
 p:=x.p
 gf:=x.gf
 pf:=x.pf
 h:=λb o e n=>by
  have q:=x.h b o e n;have hb:b≠a:=λz=>by subst z;have:=x.pf b n hp;rw[e]at this;cases this
  rw[aI hb];exact q
theorem SOk.ink(s:SOk K W0 H0 W σ H ρ)(hp:W.Pn a):SOk K W0 H0 W σ (upd H a<|.lst [.int i,.int j,.int k]) ρ where
 ext:=s.ext.ink hp
 len:=s.len
 d:=s.d
 o:=λn ys e=>by obtain⟨b,vs,e1,e2,e3,e4,e5,r⟩:=s.o n ys e;exact⟨b,vs,e1,by rw[aI<|λz=>e4 (by rw[z];exact hp)];exact e2,e3,e4,e5,r⟩
 ne:=s.ne
 oo:=⟨λn xss e=>let⟨a',bs,e1,q,m⟩:=s.oo.t n xss e;⟨a',bs,e1,q.upd<|q.noPen hp,m⟩,s.oo.u⟩
end
section
variable{ps:Pos}{a b:Expr}
def fH(t:WA):WE:=λE ρ Q=>t E ρ λds=>(∃i j k,ds=[.int i,.int j,.int k])/\Q .pen
theorem IY(he:PXL X EX e t):PX X EX e (fH t):=by
 obtain⟨t,q,k⟩:=he.t;refine⟨⟨t,q,λW0 H0 W σ H ρ E Q s eo h=>?_⟩,λE ρ P P' hp h=>he.mono _ _ _ _ (λd hd=>⟨hd.1,hp _ hd.2⟩) h⟩;refine k W0 H0 W σ H ρ E Q s eo<|he.mono _ _ _ _ (λds hd a vs W1 H1 x1 e1 e2 e3 e4 r1=>?_) h;obtain⟨⟨i,j,k,rfl⟩,hd⟩:=hd;have ev:vs=[.int i,.int j,.int k]:=by cases r1 with|cons r t=>cases r;cases t with|cons r t=>cases r;cases t with|cons r t=>cases r;cases t;rfl
 subst ev;exact hd _ _ _ (x1.pen e4 e1 e2)<|.pen (.inl rfl)
def eh:G2:=λx y Q=>x=.pen/\(y=.int 0\/y=.int 1\/y=.int 2)/\∀n,Q<|.int n
theorem vS:Bg X eh:=by
 refine⟨⟨_,mZ,λW H x y dx dy Q ok rx ry hg=>?_⟩,λx y P P' hp h=>⟨h.1,h.2.1,λn=>hp _<|h.2.2 n⟩⟩;obtain⟨rfl,hy,hq⟩:=hg;cases rx with
 | @pen a hp=>
  obtain⟨⟨i,j,k,e⟩,ng⟩:=ok.p a hp;have key:∀(m:Int) (v:V),dW [V.int i,.int j,.int k] m=some v->(∃n,v=.int n)->Ds X.K (.ref a) (.int m) H Q:=λm v hv ⟨n,hn⟩=>by subst hn;exact .inl ⟨a,_,m,_,rfl,rfl,SqL.of e,hv,(hq n).now ok<|.int n⟩
  rcases hy with rfl|rfl|rfl
  cases ry;exact key 0 (.int i) rfl ⟨i,rfl⟩;cases ry;exact key 1 (.int j) rfl ⟨j,rfl⟩;cases ry;exact key 2 (.int k) rfl ⟨k,rfl⟩
def fc(i:Nat)(wv:WE):WS:=λE N ρ=>ρ[i]? = some (.d .pen)/\wv E ρ (isI λ_=>N.nx ρ)
theorem DT(i:Nat)(m:Int){j}{ipos:Pos}(he:PX X EX e wv)(hm:m=0\/m=1\/m=2:=by decide)(hN:X.N[i]? = some x:=by rfl)(hv:kU X.env.scope x:=by first|exact Or.inl rfl|exact Or.inr (Or.inl rfl)|exact Or.inr<|Or.inr rfl)(hd:(x==("__debug__" : Str))=false:=by decide)
  (hcd:(x==("__classdict__" : Str))=false:=by decide)
  (ha:∀ v,assign (.Subscript (.Name x p) (.Constant (.int m) j ipos) spos) X.env v=(do
   let ov <-holding [v] (eval (.Name x p) X.env)
   let iv <-holding [v,ov] (eval (.Constant (.int m) j ipos) X.env)
   standAt spos
   holding [v,ov,iv] (setItem ov iv v)
   release [v,ov,iv] []):=by intro _;rfl)
  (hs:swapsWithSole [.Subscript (.Name x p) (.Constant (.int m) j ipos) spos] e pos.line X.env=pure false:=by rfl) (hw:swappedStores [.Subscript (.Name x p) (.Constant (.int m) j ipos) spos] e X.env=pure none:=by rfl)
  (h1:(assignEach [.Subscript (.Name x p) (.Constant (.int m) j ipos) spos] X.env).map (·.2)=[assign (.Subscript (.Name x p) (.Constant (.int m) j ipos) spos) X.env]:=by rfl):PZ X EX (.Assign [.Subscript (.Name x p) (.Constant (.int m) j ipos) spos] e pos) (fc i wv):=by
 obtain⟨t,pe,k⟩:=he.t;refine⟨⟨_,fU pe (gY (dg hN hv hd hcd) kj dN ha) hs hw h1,λW0 H0 F W σ H ρ E Dn N s fl eo no h=>?_⟩,λE ρ N N' hl q=>⟨q.1,he.mono _ _ _ _ (isI.mono λ_ hn=>hl.nx _ hn) q.2⟩⟩;obtain⟨hpen,h⟩:=h;obtain⟨v0,e0,r0⟩:=s.d i .pen hpen;cases r0 with
 | @pen a hp=>
  refine k W0 H0 W σ H ρ E _ s eo<|he.mono _ _ _ _ (λd hd v W1 H1 x1 r1=>⟨_,e0,?_⟩) h;obtain⟨n,rfl,hn⟩:=md hd;cases r1;have hp1:=x1.p a hp;obtain⟨⟨i',j',k',e'⟩,ng⟩:=x1.ok.p a hp1;rcases hm with rfl|rfl|rfl
  .exact⟨a,_,0,0,rfl,rfl,e',rfl,no.nx W1 σ _ ρ ((s.step x1).ink hp1) (fl.ext x1) hn⟩
  .exact⟨a,_,1,1,rfl,rfl,e',rfl,no.nx W1 σ _ ρ ((s.step x1).ink hp1) (fl.ext x1) hn⟩
  .exact⟨a,_,2,2,rfl,rfl,e',rfl,no.nx W1 σ _ ρ ((s.step x1).ink hp1) (fl.ext x1) hn⟩
end
abbrev ei:G2:=gI2 (λ_ _=>True) λi j=>.int<|i-j
abbrev qV:G2:=gI2 (λ_ j=>j≠0) λi j=>.int<|i.fmod j
abbrev fJ:G2:=gI2 Bh λi j=>.int<|i.fdiv j
abbrev Bp:G2:=gI2 su λi j=>.int<|i^j.toNat
abbrev eS:G2:=gI2 (λ_ _=>True) λi j=>.bl<|decide (i<j)
abbrev kI:G2:=gI2 (λ_ _=>True) λi j=>.bl<|decide (i<=j)
abbrev nA:G2:=gI2 (λ_ _=>True) λi j=>.bl<|decide (i>j)
abbrev Bq:G2:=gI2 (λ_ _=>True) λi j=>.bl<|decide (i ≥ j)
abbrev qs:D->(D->Prop)->Prop:=λx Q=>isI (λi=>Q<|.int (-i)) x
abbrev ml:WS:=λ_ _ _=>False
def fnS{α:Type}(enc:α->List D)(dom:α->Prop)(val:α->D):bX:=λds _ Q=>∃a,ds=enc a/\dom a/\Q (val a)
def fnS.mono{α:Type}{enc:α->List D}{dom:α->Prop}{val:α->D}:qq (fnS enc dom val):=λds E E' Q Q' _ hQ ⟨a,h1,h2,h3⟩=>⟨a,h1,h2,hQ _ h3⟩
theorem fnS.len{α:Type}{enc:α->List D}{dom:α->Prop}{val:α->D}(hp:∀a,(enc a).length=ps.length):∀ds E Q,fnS enc dom val ds E Q->ds.length=ps.length:=λds E Q ⟨a,h1,_⟩=>by rw[h1];exact hp a
def exQ(E:Ex->Prop)(Q:D->Prop):Except Str D->Prop
 |.ok v=>Q v|.error e=>E e
def exQ.mono{E E':Ex->Prop}{Q':D->Prop}(hE:∀e,E e->E' e)(hQ:∀d,Q d->Q' d):∀r,exQ E Q r->exQ E' Q' r
 |.ok v,h=>hQ v h|.error e,h=>hE e h
def xS{α:Type}(enc:α->List D)(dom:α->Prop)(res:α->Except Str D):bX:=λds E Q=>∃a,ds=enc a/\dom a/\exQ E Q (res a)
def xS.mono{α:Type}{enc:α->List D}{dom:α->Prop}{res:α->Except Str D}:qq (xS enc dom res):=λds E E' Q Q' hE hQ ⟨a,h1,h2,h3⟩=>⟨a,h1,h2,exQ.mono hE hQ _ h3⟩
theorem xS.ok{α:Type}{enc:α->List D}{dom:α->Prop}{res:α->Except Str D}{E:Ex->Prop}{v:D}(a:α)(h:ds=enc a)(hd:dom a)(e:res a=.ok v)(q:Q v):xS enc dom res ds E Q:=⟨a,h,hd,by rw[e];exact q⟩
theorem xS.err{α:Type}{enc:α->List D}{dom:α->Prop}{res:α->Except Str D}{E:Ex->Prop}{n:Str}(a:α)(h:ds=enc a)(hd:dom a)(e:res a=.error n)(q:E n):xS enc dom res ds E Q:=⟨a,h,hd,by rw[e];exact q⟩
theorem xS.len{α:Type}{enc:α->List D}{dom:α->Prop}{res:α->Except Str D}(hp:∀a,(enc a).length=ps.length):∀ds E Q,xS enc dom res ds E Q->ds.length=ps.length:=λds E Q ⟨a,h1,_⟩=>by rw[h1];exact hp a
def rlS{α:Type}(enc:α->List D)(dom:α->Prop)(rel:α->D->Prop):bX:=λds _ Q=>∃a,ds=enc a/\dom a/\∀d,rel a d->Q d
def rlS.mono{α:Type}{enc:α->List D}{dom:α->Prop}{rel:α->D->Prop}:qq (rlS enc dom rel):=λds E E' Q Q' _ hQ ⟨a,h1,h2,h3⟩=>⟨a,h1,h2,λd r=>hQ _<|h3 d r⟩
theorem rlS.len{α:Type}{enc:α->List D}{dom:α->Prop}{rel:α->D->Prop}(hp:∀a,(enc a).length=ps.length):∀ds E Q,rlS enc dom rel ds E Q->ds.length=ps.length:=λds E Q ⟨a,h1,_⟩=>by rw[h1];exact hp a
def Fp.of{P:Program}{w:World}{base:Heap}(h:gv P w K mg base (fL P w) k f fd ps (hJ K S))(m:qq S)(hm:mg x=some (.ref f))(kp:PySem.W.keepIn K (.ref f)=true)(hb:Binds K fd ps []) :
  Fp P w K mg base k x ps S:=⟨⟨f,fd,h,hm,kp,hb⟩,m⟩
section
variable{tail:bZ}{Q:List D->Prop}
theorem qW{f:D->D}(h:∀d∈ds,∀Q:D->Prop,Q (f d)->we No (.d d::tail) Q):∀(sv:SV) (acc:List D),acc.length+ds.length<=small->Q (acc++ds.map f)->lcW (gN 0) cE we ds (sv::tail) acc Q:=by
 induction ds with
 |nil=>intro sv acc _ hq;simpa[lcW] using hq|cons d ds ih=>intro sv acc hl hq;rw[lcW];show we No (SV.d d::tail) _;refine h d (kP ..) _ ⟨?_,?_⟩;rw[d8]at hl;omega;refine ih (λd hd=>h d<|ip _ hd) (.d d) _ ?_ ?_;rw[dG,j9];rw[d8]at hl;omega;rw[lx];exact hq
theorem Br{R:D->D->Prop}(h:∀d∈ds,∀Q:D->Prop,(∀y,R d y->Q y)->we No (.d d::tail) Q):∀(sv:SV) (acc:List D),acc.length+ds.length<=small->(∀ys,ys.length=ds.length->(∀y∈ys,∃d,d∈ds/\R d y)->Q (acc++ys))->lcW (gN 0) cE we ds (sv::tail) acc Q:=by
 induction ds with
 |nil=>intro sv acc _ hq;simpa[lcW] using hq [] rfl (by simp)
 |cons d ds ih=>
  intro sv acc hl hq;rw[lcW];show we No (SV.d d::tail) _;refine h d (kP ..) _ λy hy=>⟨?_,?_⟩;rw[d8]at hl;omega;refine ih (λd hd=>h d<|ip _ hd) (.d d) _ ?_ λys hl' hys=>?_;rw[dG,j9];rw[d8]at hl;omega;rw[lx];refine hq (y::ys) (by rw[d8,d8,hl']) λz hz=>?_;rcases Yan.mp hz with rfl|hz
  exact⟨d,kP ..,hy⟩;obtain⟨d',h1,h2⟩:=hys z hz;exact⟨d',ip _ h1,h2⟩
end
mutual
def cW:D->Nat->Bool
 |.non,_=>true|.bl _,_=>true|.int _,_=>true|.str x,_=>PyData.canLay0<|.str x
 |.tup xs,n=>decide (0<n)&&gI xs (n-1)|.lst xs,n=>decide (0<n)&&gI xs (n-1)|.dic,_=>false|.pen,_=>false|.cls _,_=>false|.exc _,_=>false|.ty _,_=>false|.scr _,_=>false
def gI:List D->Nat->Bool
 |[],_=>true|x::r,n=>cW x n&&gI r n
end
mutual
def pd:D->PyData
 |.non=>.none|.bl b=>.bool b|.int i=>.int i|.str x=>.str x|.tup xs=>.tuple<|fo xs
 |.lst xs=>.list<|fo xs
 |.dic=>.none|.pen=>.none|.cls _=>.none|.exc _=>.none|.ty _=>.none|.scr _=>.none
def fo:List D->List PyData
 |[]=>[]|x::r=>pd x::fo r
end
mutual
theorem vT:∀(x:D) (n:Nat),cW x n=true->iz x=some (pd x)/\(pd x).canLay0=true/\(pd x).depth<=n
 |.non,n,_=>⟨rfl,rfl,by rw[pd,PyData.depth];exact iq _⟩|.bl _,n,_=>⟨rfl,rfl,by rw[pd,PyData.depth];exact iq _⟩|.int _,n,_=>⟨rfl,rfl,by rw[pd,PyData.depth];exact iq _⟩|.str x,n,h=>⟨rfl,by rw[cW]at h;exact h,by rw[pd,PyData.depth];exact iq _⟩|.tup xs,n,h=>by rw[cW,dQ,Nf]at h;obtain⟨h1,h2,h3⟩:=Bt xs (n-1) h.2;refine⟨by rw[iz,h1,pd];rfl,by rw[pd,PyData.canLay0];exact h2,by rw[pd,PyData.depth];omega⟩
 |.lst xs,n,h=>by rw[cW,dQ,Nf]at h;obtain⟨h1,h2,h3⟩:=Bt xs (n-1) h.2;refine⟨by rw[iz,h1,pd];rfl,by rw[pd,PyData.canLay0];exact h2,by rw[pd,PyData.depth];omega⟩
 |.dic,n,h=>by rw[cW]at h;cases h
 |.pen,n,h=>by rw[cW]at h;cases h
 |.cls _,n,h=>by rw[cW]at h;cases h
 |.exc _,n,h=>by rw[cW]at h;cases h
 |.ty _,n,h=>by rw[cW]at h;cases h
 |.scr _,n,h=>by rw[cW]at h;cases h
theorem Bt:∀(xs:List D) (n:Nat),gI xs n=true->fX xs=some (fo xs)/\PyData.canLayAll0 (fo xs)=true/\PyData.depthAll (fo xs)<=n
 |[],n,_=>⟨by rw[fX,fo],by rw[fo,PyData.canLayAll0],by rw[fo,PyData.depthAll];exact iq _⟩|x::r,n,h=>by rw[gI,dQ]at h;obtain⟨h1,h2,h3⟩:=vT x n h.1;obtain⟨q1,q2,q3⟩:=Bt r n h.2;exact⟨by rw[fX,h1,q1,fo],by rw[fo,PyData.canLayAll0,h2,q2];rfl,by rw[fo,PyData.depthAll];omega⟩
end
def iB(x y:D):Bool:=PyData.eqv (pd x)<|pd y
theorem n6{x:D}{neg:Bool}(hx:cW x 60=true)(hy:cW y 60=true)(h:Q (.bl (if neg then !iB x y else iB x y))):gEq neg x y Q:=by obtain⟨a1,a2,a3⟩:=vT x 60 hx;obtain⟨b1,b2,b3⟩:=vT y 60 hy;refine⟨pd x,pd y,a1,b1,?_,?_,h⟩;unfold PySem.SeqAt.shaped;rw[a2,Nh<|by omega];rfl;unfold PySem.SeqAt.shaped;rw[b2,Nh<|by omega];rfl
mutual
theorem DU:∀p:PyData,p.canLay0=true->PyData.eqv p p=true
 |.none,_=>by rw[PyData.eqv]|.bool b,_=>by rw[PyData.eqv];exact Nu b|.int i,_=>by rw[PyData.eqv];exact Nu i|.str x,_=>by rw[PyData.eqv];exact Nu x|.list xs,h=>by rw[PyData.eqv];exact Bu xs (by rw[PyData.canLay0]at h;exact h)|.tuple xs,h=>by rw[PyData.eqv];exact Bu xs (by rw[PyData.canLay0]at h;exact h)|.dict _,h=>by rw[PyData.canLay0]at h;cases h
theorem Bu:∀ps:List PyData,PyData.canLayAll0 ps=true->PyData.eqvAll ps ps=true
 |[],_=>by rw[PyData.eqvAll]|p::ps,h=>by rw[PyData.canLayAll0,dQ]at h;rw[PyData.eqvAll,DU p h.1,Bu ps h.2];rfl
end
def DV{x:D}(h:cW x n=true):iB x x=true:=DU _ (vT x n h).2.1
theorem ud{x:D}{neg:Bool}(hx:cW x 60=true)(h:Q (.bl (!neg))):gEq neg x x Q:=by refine n6 hx hx ?_;rw[DV hx];cases neg<;>exact h
theorem ue(i:Int)(n:Nat):cW (.int i) n=true:=by rw[cW]
theorem DW(h:∀x∈xs,cW x n=true):gI xs n=true:=by
 induction xs with
 |nil=>rw[gI]|cons x xs ih=>rw[gI,h x<|kP ..,ih λy hy=>h y<|ip _ hy];rfl
theorem uf(h:∀x∈xs,cW x n=true):cW (.tup xs) (n+1)=true:=by rw[cW,DW (n:=n+1-1) h];simp
theorem ug(h:∀x∈xs,cW x n=true):cW (.lst xs) (n+1)=true:=by rw[cW,DW (n:=n+1-1) h];simp
mutual
theorem vU:∀(x:D) {n m:Nat},n<=m->cW x n=true->cW x m=true
 |.non,_,_,_,_=>by rw[cW]|.bl _,_,_,_,_=>by rw[cW]|.int _,_,_,_,_=>by rw[cW]|.str x,_,_,_,h=>by rw[cW]at h ⊢;exact h|.tup xs,n,m,l,h=>by rw[cW,dQ,Nf]at h ⊢;exact⟨by omega,Bv xs (by omega) h.2⟩|.lst xs,n,m,l,h=>by rw[cW,dQ,Nf]at h ⊢;exact⟨by omega,Bv xs (by omega) h.2⟩|.dic,_,_,_,h=>by rw[cW]at h;cases h
 |.pen,_,_,_,h=>by rw[cW]at h;cases h
 |.cls _,_,_,_,h=>by rw[cW]at h;cases h
 |.exc _,_,_,_,h=>by rw[cW]at h;cases h
 |.ty _,_,_,_,h=>by rw[cW]at h;cases h
 |.scr _,_,_,_,h=>by rw[cW]at h;cases h
theorem Bv:∀(xs:List D) {n m:Nat},n<=m->gI xs n=true->gI xs m=true
 |[],_,_,_,_=>by rw[gI]|x::r,n,m,l,h=>by rw[gI,dQ]at h ⊢;exact⟨vU x l h.1,Bv r l h.2⟩
end
def aN(q:Rat):D:=.tup [.int q.num,.int (q.den:Int)]
def aF(r:List Rat):D:=.tup<|r.map aN
def Sz(n:Nat)(q:Rat):Prop:=q.num.natAbs<2^n/\q.den<2^n
theorem Sz.mono(l:n<=m)(h:Sz n q):Sz m q:=
 have:=lZ (n:=2) (by decide) l
 ⟨da h.1 this,da h.2 this⟩
theorem DX{a:Int}{g:Nat}(hg:g≠0)(h:(g:Int)∣a):(a/(g:Int)).natAbs<=a.natAbs:=by
 obtain⟨c,rfl⟩:=h;have hg':(g:Int)≠0:=by exact_mod_cast hg
 rw[Ag _ hg',eW,mB];exact Nat.le_mul_of_pos_left _ (by omega)
theorem DY(a:Int)(hb:b≠0):(mkRat a b).num.natAbs<=a.natAbs/\(mkRat a b).den<=b:=by rw[Rat.num_mkRat,Rat.den_mkRat,ks hb,ks hb];refine⟨DX (λz=>?_)<|Int.ofNat_dvd_left.mpr<|Nat.gcd_dvd_right ..,Nat.div_le_self _ _⟩;rw[Nat.gcd_eq_zero_iff]at z;exact hb z.1
theorem n8{a:Nat}(h:a<2^n)(h':b<2^m):a*b<2^(n+m):=by
 rw[kS];rcases Nat.eq_zero_or_pos a with rfl|ha
 rw[Nat.zero_mul];exact Nat.mul_pos (xR<|by decide)<|xR (by decide)
 exact da (Nat.mul_lt_mul_of_pos_left h' ha)<|mC _ (kO h)
theorem Sz.add{p:Rat}(h:Sz n p)(h':Sz m q):Sz (n+m+1) (p+q):=by
 rw[Rat.add_def'];have z:p.den*q.den≠0:=Ah p.den_nz q.den_nz;have:=DY (p.num*q.den+q.num*p.den) z;have a1:=n8 h.1 h'.2;have a2:=n8 h'.1 h.2;have a3:=n8 h.2 h'.2;rw[Nat.add_comm m n]at a2;have e:2^(n+m+1)=2^(n+m)+2^(n+m):=by rw[tP];omega
 have t:=qD (p.num*q.den)<|q.num*p.den;rw[eW,eW,mB,mB]at t;exact⟨by omega,by omega⟩
theorem Sz.neg{p:Rat}(h:Sz n p):Sz n (-p):=⟨by rw[Rat.neg_num,Int.natAbs_neg];exact h.1,h.2⟩
theorem Sz.mul{p:Rat}(h:Sz n p)(h':Sz m q):Sz (n+m) (p*q):=by rw[Rat.mul_def'];have z:p.den*q.den≠0:=Ah p.den_nz q.den_nz;have:=DY (p.num*q.num) z;have a1:=n8 h.1 h'.1;have a3:=n8 h.2 h'.2;rw[eW]at this;exact⟨by omega,by omega⟩
theorem Sz.inv{p:Rat}(h:Sz n p):Sz n p⁻¹:=by
 unfold Sz;rw[Rat.num_inv,Rat.den_inv,eW,mB];have:=p.den_pos;have h1:=h.1;have h2:=h.2;constructor;rcases Int.lt_trichotomy p.num 0 with z|z|z
 rw[Dl z];simpa using h2;rw[z];simp;omega;rw[Int.sign_eq_one_of_pos z];simpa using h2;split;omega;exact h1
theorem Sz.div{p:Rat}(h:Sz n p)(h':Sz m q):Sz (n+m) (p/q):=by rw[ir];exact h.mul h'.inv
theorem Sz.int(i:Int)(hn:0<n)(h:i.natAbs<2^n):Sz n (i:Rat):=⟨by rw[Ai];exact h,by rw[Aj];exact Ak<|by omega⟩
theorem Sz.zero(hn:0<n):Sz n (0:Rat):=⟨by rw[Rat.zero_num];exact Nat.two_pow_pos n,by rw[Rat.zero_den];exact Ak<|by omega⟩
theorem Sz.bd(h:Sz n q)(l:n<=8990):Bd q.num/\Bd (q.den:Int):=by have:=h.mono l;exact⟨this.1,by unfold Bd;rw[mB];exact this.2⟩
def B2(p q:Rat):Prop:=∃n m,Sz n p/\Sz m q/\n+m<8990
def B2.of{p:Rat}(h:Sz n p)(h':Sz m q)(l:n+m<8990):B2 p q:=⟨n,m,h,h',l⟩
theorem B2.mul{p:Rat}(h:B2 p q):qR p.num q.den/\qR q.num p.den/\qR p.den q.den/\qR p.num q.num/\Bd ((p.den:Int)*q.den)/\(p.den:Int)*q.den≠0/\qR p.den q.num/\(Bd<|(p.den:Int)*q.num):=by
 obtain⟨n,m,h1,h2,l⟩:=h;have b1:=h1.bd (by omega);have b2:=h2.bd (by omega);refine⟨⟨b1.1,b2.2⟩,⟨b2.1,b1.2⟩,⟨b1.2,b2.2⟩,⟨b1.1,b2.1⟩,?_,?_,⟨b1.2,b2.1⟩,?_⟩;have:=n8 h1.2 h2.2;unfold Bd;rw[eW,mB,mB];exact da this<|lZ (by decide) (by omega)
 have:=Ah p.den_nz q.den_nz;exact_mod_cast this;have:=n8 h1.2 h2.1;unfold Bd;rw[eW,mB];exact da this<|lZ (by decide) (by omega)
def cI:List Rat->List Rat->Rat
 |[],_=>0|_::_,[]=>0|x::xs,y::ys=>x*y+cI xs ys
theorem Bw(q:Rat)(n:Nat):cW (aN q) (n+1)=true:=uf (by simp[cW])
theorem IZ(r:List Rat)(n:Nat):cW (aF r) (n+2)=true:=uf λx hx=>by obtain⟨q,_,rfl⟩:=YbQ.mp hx;exact Bw q n
def aR(xs:List Int):D:=.tup<|xs.map .int
def iC(xs:List Int):D:=.lst<|xs.map .int
theorem qX(xs:List Int)(n:Nat):cW (aR xs) (n+1)=true:=uf λx hx=>by obtain⟨i,_,rfl⟩:=YbQ.mp hx;rw[cW]
theorem DZ{t b:Int}(hb:b≠0):(t.fdiv (if b<0 then -(Int.gcd t b:Int) else(Int.gcd t b:Int))=(Rat.divInt t b).num)/\(b.fdiv (if b<0 then -(Int.gcd t b:Int) else(Int.gcd t b:Int))=((Rat.divInt t b).den:Int)):=by
 have hg:0<Int.gcd t b:=Al _ hb;have hg':(0:Int)<(Int.gcd t b:Int):=by exact_mod_cast hg
 obtain⟨c,hc⟩:=Int.gcd_dvd_left (a:=t) (b:=b);obtain⟨d,hd⟩:=Int.gcd_dvd_right (a:=t) (b:=b);rw[Rat.num_divInt,Rat.den_divInt,ks hb,Int.gcd_comm b t];generalize Int.gcd t b=g at *;subst hc hd;have gne:(g:Int)≠0:=by omega
 split;rename_i h;have hd:d<0:=by
  rcases Int.lt_or_le d 0 with z|z
  exact z;have:=Int.mul_nonneg (Int.le_of_lt hg') z;omega
 rw[Dl h];constructor;rw[show(g:Int)*c=(-(g:Int))*(-c) by rw[xT],xW _<|by omega,xT,show(-1:Int)*((g:Int)*c)=(g:Int)*(-c) by rw[Int.neg_mul,Int.one_mul,Int.mul_neg],Ag _ gne];rw[show(g:Int)*d=(-(g:Int))*(-d) by rw[xT],xW _<|by omega,xT,eW,mB,Nat.mul_div_cancel_left _ hg];omega;rename_i h;have hd:0<d:=by
  rcases Int.lt_or_le 0 d with z|z
  exact z;exfalso;have h1:(g:Int)*d<=0:=by
   have:=Int.mul_le_mul_of_nonneg_left z<|Int.le_of_lt hg'
   rwa [Int.mul_zero]at this
  omega
 have hp:0<(g:Int)*d:=Int.mul_pos hg' hd;rw[Int.sign_eq_one_of_pos hp,Int.one_mul];constructor;rw[xW _ gne,Ag _ gne];rw[xW _ gne,eW,mB,Nat.mul_div_cancel_left _ hg];omega
mutual
def kd:D->Bool
 |.tup xs=>decide (xs.length<=5000)&&qY xs|.lst xs=>decide (xs.length<=5000)&&qY xs|.non=>true|.bl _=>true|.int _=>true|.str _=>true|.dic=>true|.pen=>false|.cls _=>false|.exc _=>false|.ty _=>false|.scr _=>false
def qY:List D->Bool
 |[]=>true|x::r=>kd x&&qY r
end
theorem Bx:∀{xs:List D},qY xs=true->∀x∈xs,kd x=true
 |x::r,h,y,hy=>by
  rw[qY,dQ]at h;rcases Yan.mp hy with rfl|hy
  exact h.1;exact Bx h.2 y hy
theorem By:∀{xs:List D},(∀x∈xs,kd x=true)->qY xs=true
 |[],_=>by rw[qY]|x::r,h=>by rw[qY,h x<|kP ..,By λy hy=>h y<|ip _ hy];rfl
theorem qt(h:kd (.tup xs)=true):xs.length<=5000/\∀x∈xs,kd x=true:=by rw[kd,dQ,Nf]at h;exact⟨h.1,Bx h.2⟩
theorem D0(h:kd (.lst xs)=true):xs.length<=5000/\∀x∈xs,kd x=true:=by rw[kd,dQ,Nf]at h;exact⟨h.1,Bx h.2⟩
theorem lQ(h1:xs.length<=5000)(h2:∀x∈xs,kd x=true):kd (.tup xs)=true:=by rw[kd,Nh h1,By h2];rfl
theorem vV(h1:xs.length<=5000)(h2:∀x∈xs,kd x=true):kd (.lst xs)=true:=by rw[kd,Nh h1,By h2];rfl
theorem vW{x:D}(h:kd x=true):∃t,yH x=some t:=by
 cases x<;>first
  |exact⟨_,rfl⟩
  |(rw[kd]at h;cases h)
theorem Zo(q:Rat):kd (aN q)=true:=lQ (by simp) (by simp[kd])
theorem vX(h:r.length<=5000):kd (aF r)=true:=lQ (by simpa using h) λx hx=>by obtain⟨q,_,rfl⟩:=YbQ.mp hx;exact Zo q
theorem Zl{r:List Int}(h:r.length<=5000):kd (aR r)=true:=lQ (by simpa using h) λx hx=>by obtain⟨q,_,rfl⟩:=YbQ.mp hx;rw[kd]
def mm:D->Bool
 |.int _=>true|_=>false
def kJ(l m:Int):D->Bool
 |.int i=>decide (l<=i)&&decide (i<=m)|_=>false
def lR(l m:Int):D->Bool
 |.tup xs=>xs.all<|kJ l m
 |_=>false
def cS:D->Bool
 |.tup [.int t,.int b]=>decide (0<b)&&(Int.gcd t b==1)|_=>false
def et(n:Int):D->Bool
 |.tup xs=>((xs.length:Int)==n)&&xs.all cS|_=>false
def vY(l m:Int):D->Bool
 |.tup xs=>decide (l<=(xs.length:Int))&&decide ((xs.length:Int)<=m)&&xs.all cS|_=>false
def uh:bX:=fnS (λx:D=>[x]) (λx=>kd x=true) λx=>.bl<|mm x
def Bz:bX:=fnS (λx:D×Int×Int=>[x.1,.int x.2.1,.int x.2.2]) (λx=>kd x.1=true) λx=>.bl<|kJ x.2.1 x.2.2 x.1
def yP:bX:=fnS (λx:D×Int×Int=>[x.1,.int x.2.1,.int x.2.2]) (λx=>kd x.1=true) λx=>.bl<|lR x.2.1 x.2.2 x.1
def yQ:bX:=fnS (λx:Int×Int=>[.int x.1,.int x.2]) (λ_=>True) λx=>.int<|Int.gcd x.1 x.2
def BA:bX:=fnS (λx:D=>[x]) (λx=>kd x=true) λx=>.bl<|cS x
def yR:bX:=fnS (λx:D×Int×Int=>[x.1,.int x.2.1,.int x.2.2]) (λx=>kd x.1=true) λx=>.bl<|vY x.2.1 x.2.2 x.1
def yS:bX:=fnS (λx:D×Int=>[x.1,.int x.2]) (λx=>kd x.1=true) λx=>.bl<|et x.2 x.1
def sV:bX:=fnS (λx:Int×Int=>[.int x.1,.int x.2]) (λx=>x.2≠0/\Bd x.2) λx=>aN<|Rat.divInt x.1 x.2
def vZ:bX:=fnS (λx:Rat×Rat=>[aN x.1,aN x.2]) (λx=>B2 x.1 x.2) λx=>aN<|x.1+x.2
def uj:bX:=fnS (λx:Rat×Rat=>[aN x.1,aN x.2]) (λx=>B2 x.1 x.2) λx=>aN<|x.1-x.2
def sW:bX:=fnS (λx:Rat×Rat=>[aN x.1,aN x.2]) (λx=>B2 x.1 x.2) λx=>aN<|x.1*x.2
def nE:bX:=fnS (λx:Rat×Rat=>[aN x.1,aN x.2]) (λx=>B2 x.1 x.2/\x.2≠0) λx=>aN<|x.1/x.2
def lS(b:Bool)(xs:List D):D:=if b then .tup xs else .lst xs
def v3:bX:=fnS (λx:Bool×List Int=>[lS x.1<|x.2.map .int]) (λx=>x.2.length<=5000) λx=>aF<|x.2.map λ(i:Int)=>(i:Rat)
def BR(p q:List Rat):Prop:=∃n m,(∀x∈p,Sz n x)/\(∀x∈q,Sz m x)/\p.length*(n+m+1)+(n+m)+1<8990
def v4:bX:=fnS (λx:(Bool×Bool)×List Rat×List Rat=>[lS x.1.1<|x.2.1.map aN,lS x.1.2<|x.2.2.map aN]) (λx=>BR x.2.1 x.2.2) λx=>aN<|cI x.2.1 x.2.2
structure IsSl(s:List Int)(n:Nat):Prop where
 len:s.length+1=2*n
 n1:1<=n
 n5:n<=5
 b:∀x∈s,-50<=x/\x<=50
def tbl(s:List Int)(n:Nat):List (List Int):=(List.range n).map λi=>(s.drop<|n-1-i).take n
def jt(s:List Int)(n:Nat):D:=.lst<|(tbl s n).map iC
def f8:D->Bool
 |.tup xs=>xs.all (kJ (-50) 50)&&decide (xs.length%2=1)&&decide (xs.length<=9)|_=>false
abbrev SL:=List Int×Nat
def qu:bX:=fnS (λx:List D=>[.tup x]) (λx=>x.length<=5000) λx=>.int<|((x.length:Int)+1)/2
def v6:bX:=fnS (λx:D=>[x]) (λx=>kd x=true) λx=>.bl<|f8 x
def yT:D->Int
 |.int i=>i|_=>0
def sI:D->List Int
 |.tup xs=>xs.map yT|_=>[]
def sN(x:D):Nat:=((sI x).length+1)/2
def fP(x:D)(v:Except Str D):Except Str D:=if f8 x=true then v else .error "NoSlants"
def qZ:bX:=xS (λx:D=>[x]) (λx=>kd x=true) λx=>fP x<|.ok .non
def yU:bX:=xS (λx:D=>[x]) (λx=>kd x=true) λx=>fP x<|.ok (jt (sI x)<|sN x)
def BB(n:Int):D->Bool
 |.lst xs=>((xs.length:Int)==n)&&xs.all mm|_=>false
def sX:D->Bool
 |.lst xs=>!(xs.length==0)&&xs.all (BB xs.length)|_=>false
def hd(r:List Int):Int:=r.headD 0
def yV:bX:=xS (λx:D=>[x]) (λx=>kd x=true) λx=>fP x<|.ok (aR (sI x).reverse)
def sY:bX:=xS (λx:D×D=>[x.1,x.2]) (λx=>kd x.1=true/\kd x.2=true) λx=>fP x.1<|.ok (.bl<|et (sN x.1) x.2)
def d7(r:List Int):List Rat:=r.map λ(i:Int)=>(i:Rat)
def yW:bX:=fnS (λx:SL=>[aR x.1]) (λx=>IsSl x.1 x.2) λx=>.lst<|(tbl x.1 x.2).map λr=>aF (d7 r)
def cX(s:List Int)(n:Nat)(r:List Rat):List Rat:=(tbl s n).map λline=>cI (d7 line) r
def BS(r:List Rat):Prop:=∃m,(∀x∈r,Sz m x)/\m<=1400
def yX:D->Rat
 |.tup [.int t,.int b]=>Rat.divInt t b|_=>0
def rQ:D->List Rat
 |.tup xs=>xs.map yX|_=>[]
def yY:bX:=xS (λx:D×D=>[x.1,x.2]) (λx=>kd x.1=true/\kd x.2=true/\∀r,x.2=aF r->BS r) λx=>fP x.1 (if et (sN x.1) x.2=true then .ok (aF<|cX (sI x.1) (sN x.1)<|rQ x.2) else .error "NoRow")
section
variable{E:Ex->Prop}{x:D}{l m a b:Int}{p:Rat}
def Ja(h:kd x=true)(q:Q (.bl<|lR l m x)):yP [x,.int l,.int m] E Q:=⟨(x,l,m),rfl,h,q⟩
def Jb(h:kd x=true)(q:Q (.bl<|vY l m x)):yR [x,.int l,.int m] E Q:=⟨(x,l,m),rfl,h,q⟩
def Jc(h:kd x=true)(q:Q (.bl<|et a x)):yS [x,.int a] E Q:=⟨(x,a),rfl,h,q⟩
def D1(h:B2 p q)(z:Q (aN<|p-q)):uj [aN p,aN q] E Q:=⟨(p,q),rfl,h,z⟩
def Jd(h:B2 p q)(z:Q (aN<|p*q)):sW [aN p,aN q] E Q:=⟨(p,q),rfl,h,z⟩
def v7(h:B2 p q)(h':q≠0)(z:Q (aN<|p/q)):nE [aN p,aN q] E Q:=⟨(p,q),rfl,⟨h,h'⟩,z⟩
def D2{xs:List Int}(h:xs.length<=5000)(q:Q (aF<|d7 xs)):v3 [iC xs] E Q:=⟨(false,xs),rfl,h,q⟩
def D3{p q:List Rat}(h:BR p q)(z:Q (aN<|cI p q)):v4 [aF p,aF q] E Q:=⟨((true,true),p,q),rfl,h,z⟩
theorem IsSl.l9(h:IsSl s n):s.length<=9:=by have:=h.len;have:=h.n5;omega
def D4(h:xs.length<=5000)(q:Q (.int<|((xs.length:Int)+1)/2)):qu [.tup xs] E Q:=⟨xs,rfl,h,q⟩
theorem yZ(h:IsSl s n)(q:Q (.int n)):qu [aR s] E Q:=by
 have:=h.l9;have:=h.len;refine D4 (by simp;omega) ?_;have e:(((s.map D.int).length:Int)+1)/2=n:=by rw[bG];omega
 rw[e];exact q
def Je(h:kd x=true)(q:Q (.bl<|f8 x)):v6 [x] E Q:=⟨x,rfl,h,q⟩
theorem Jf(h:IsSl s n):f8 (aR s)=true:=by unfold f8 aR;simp only[bG];have hl:=h.len;have h5:=h.n5;have h1:=h.n1;rw[Nh (by omega:s.length%2=1),Nh (by omega:s.length<=9),uL,uL,Ybd];intro x hx;obtain⟨i,hi,rfl⟩:=YbQ.mp hx;have:=h.b i hi;simp[kJ,this.1,this.2]
theorem IsSl.kd{s:List Int}{n:Nat}(h:IsSl s n):kd (aR s)=true:=Zl (by have:=h.l9;omega)
theorem D5(q:Rat):cS (aN q)=true:=by
 unfold cS aN;have h1:(0:Int)<(q.den:Int):=by exact_mod_cast q.den_pos
 have h2:Int.gcd q.num (q.den:Int)=1:=q.reduced;simp[h2,q.den_pos]
theorem y0(r:List Rat):et r.length (aF r)=true:=by unfold et aF;simp[D5]
theorem ii(s:List Int):sI (aR s)=s:=by show(s.map D.int).map yT=s;rw[cY];exact(iO λ_ _=>rfl).trans (xX _)
theorem IsSl.sN(h:IsSl s n):sN (aR s)=n:=by unfold LP.sN;rw[ii];have:=h.len;omega
theorem iY(h:IsSl s n){v:Except Str D}:fP (aR s) v=v:=by unfold fP;rw[Jf h,oI rfl]
theorem n9{v:Except Str D}(h:f8 x=false):fP x v=.error "NoSlants" :=by unfold fP;rw[h,ks<|by decide]
theorem rc(h:f8 x=true):∃s n,x=aR s/\IsSl s n:=by
 cases x<;>try (cases h;done)
 rename_i xs;simp only[f8,dQ,Nf,Ybd]at h;obtain⟨⟨h1,h2⟩,h3⟩:=h;have e:xs=(xs.map yT).map D.int:=by rw[cY];refine((iO λx hx=>?_).trans (xX _)).symm;have:=h1 x hx;cases x<;>first|rfl|cases this
 refine⟨xs.map yT,(xs.length+1)/2,by unfold aR;rw[<-e],⟨by rw[bG];omega,by omega,by omega,λi hi=>?_⟩⟩;obtain⟨x,hx,rfl⟩:=YbQ.mp hi;have:=h1 x hx;cases x<;>first|(cases this;done)|skip
 simp only[kJ,dQ,Nf]at this;exact this
theorem Jg(q:Rat):yX (aN q)=q:=by unfold yX aN;exact xY q
theorem nF(r:List Rat):rQ (aF r)=r:=by show(r.map aN).map yX=r;rw[cY];exact(iO λq _=>Jg q).trans (xX _)
theorem BC(h:aF r=aF r'):r=r':=by rw[<-nF r,h,nF]
theorem D6(h:cS d=true):∃q,d=aN q:=by
 unfold cS at h;split at h;rename_i t b;simp only[dQ,Nf,NE]at h;have hb:((b.toNat:Nat):Int)=b:=xQ (by omega);refine⟨⟨t,b.toNat,by omega,?_⟩,?_⟩;have:b.natAbs=b.toNat:=by omega
 have h2:=h.2;unfold Int.gcd at h2;rw[this]at h2;exact h2;unfold aN;rw[hb];cases h
theorem sZ:∀{xs:List D},xs.all cS=true->∃r:List Rat,xs=r.map aN
 |[],_=>⟨[],rfl⟩|x::xs,h=>by rw[rC,dQ]at h;obtain⟨q,rfl⟩:=D6 h.1;obtain⟨r,rfl⟩:=sZ h.2;exact⟨q::r,rfl⟩
theorem y2{a:Int}(h:et a x=true):∃r,x=aF r/\(r.length:Int)=a:=by
 cases x<;>try (cases h;done)
 rename_i xs;simp only[et,dQ,NE]at h;obtain⟨r,rfl⟩:=sZ h.2;exact⟨r,rfl,by simpa using h.1⟩
def Jh(h:IsSl s n)(q:Q .non):qZ [aR s] E Q:=xS.ok (aR s) rfl h.kd (iY h) q
def Ji(h:kd x=true)(hb:f8 x=false)(e:E "NoSlants"):qZ [x] E Q:=xS.err x rfl h (n9 hb) e
theorem Jj(h:IsSl s n)(q:Q (jt s n)):yU [aR s] E Q:=xS.ok (aR s) rfl h.kd (by(try dsimp only);rw[iY h,ii,h.sN]) q
theorem Jk(h:IsSl s n)(q:Q (aR s.reverse)):yV [aR s] E Q:=xS.ok (aR s) rfl h.kd (by(try dsimp only);rw[iY h,ii]) q
theorem BD(h:IsSl s n)(hk:kd x=true)(q:Q (.bl<|et n x)):sY [aR s,x] E Q:=xS.ok (aR s,x) rfl ⟨h.kd,hk⟩ (by(try dsimp only);rw[iY h,h.sN]) q
def Jl(h:kd x=true)(hk:kd y=true)(hb:f8 x=false)(e:E "NoSlants"):sY [x,y] E Q:=xS.err (x,y) rfl ⟨h,hk⟩ (n9 hb) e
def Jm(h:IsSl s n)(q:Q (.lst<|(tbl s n).map λr=>aF<|d7 r)):yW [aR s] E Q:=⟨(s,n),rfl,h,q⟩
theorem Jn(h:IsSl s n)(hl:r.length=n)(hb:BS r)(q:Q (aF<|cX s n r)):yY [aR s,aF r] E Q:=xS.ok (aR s,aF r) rfl ⟨h.kd,vX (by have:=h.n5;omega),λr' e=>by rw [<- BC e];exact hb⟩ (by
 have er:et n (aF r)=true:=by rw[<-hl];exact y0 r
 dsimp only;rw[iY h,h.sN,ii,er,oI rfl,nF]) q
end
theorem td{C:Addr}(h:PySem.W.nsIn K mainGlobals x=some (some<|.ref C)):jD K x=some C:=by unfold jD;rw[h]
section
variable{C:Addr}{newId initId:String}{bmB:List Value}
def jH(x:Str):WS:=λE _ _=>E x
structure XC(K:Nb)(mg:Str->Option Value)(x:Str):Prop where
 h:∃(C:Addr) (newId initId:String) (bmB:List Value),jD K x=some C/\mg x=some (.ref C)/\PySem.W.excIn K C bmB newId=true/\ExcBaseFacts "ValueError" newId initId bmB
theorem v8(hr:lM X EX)(hx:XC X.K X.mg x)(hc:X.calm=true:=by rfl)(hxn:nq x=none:=by decide)(hg:Gl X x:=by rfl)(hd:(x==("__debug__" : Str))=false:=by decide) :
  PZ X EX (.Raise (some<|.Call (.Name x np) [] [] cpos) none pos) (jH x):=by
 obtain⟨C,newId,initId,bmB,h1,h2,h3,h4⟩:=hx.h;exact⟨⟨_,HI hr hc h2 h3 h4 hg hd,λW0 H0 F W σ H ρ E Dn N s fl eo no q=>eo x W H (.ref C) none q s.ext ⟨C,by rw[IE hxn];exact h1,rfl,.none hxn⟩⟩,λE ρ N N' hl q=>q⟩
end
def uk(n i:Nat)(ex:Str):bZ:=(List.replicate n SV.un).set i<|.d (.exc ex)
structure XT(K:Nb)(mg:Str->Option Value)(x:Str)(L:List Str):Prop where
 h:∃(C:Addr) (newId:String) (bmB:List Value),mg x=some (.ref C)/\PySem.W.excIn K C bmB newId=true/\bmB.contains (.type "BaseException")=true/\∀n∈L,∀D,jD K (nr n)=some D->PySem.W.mroIn K D (.ref C)=some true
section
def f9(L:List Str)(n i:Nat)(zb zh:WS):WS:=λ_ N ρ=>∃E':Ex->Prop,(∀ex,E' ex->ex∈L/\zh No { nx:=λ_=>False,rt:=N.rt } (uk n i ex))/\zb E' N ρ
theorem Jo(L:List Str)(i:Nat){n cx:Str}{suite:List Stmt}{b0:Stmt}{zh:WS}{hpos:Pos}(hcx:XT X.K X.mg cx L)(hN:X.N.Nodup)
  (hb:∀xe sa EX',dh (fL X.prog X.w) (X.tr xe sa) EX'->jT (X.tr xe sa) EX' body zb) (hh:∀e xe,jT (X.hnd e xe) E0 (b0::suite) zh)
  (hstk:X.stack=X.env::X.outer/\X.env.frame=some X.env.locals:=by exact⟨rfl,rfl⟩) (hi:X.N[i]? = some n:=by rfl) (hx:X.env.scope.names.lookup n=some .local:=by rfl)
  (hg:Gl X cx:=by rfl) (hd:(cx==("__debug__" : Str))=false:=by decide) (hkf:X.env.scope.kind=.function:=by rfl) (hex:X.ex=[]:=by rfl) :
  PZ X EX (.Try body [.ExceptHandler (some<|.Name cx np) (some n) (b0::suite) hpos] [] [] pos) (f9 L X.N.length i zb zh):=by
 have hbm:=(hb (λ_ _=>False) [] E0 cD).mono;refine⟨⟨λD σ H=>∃W0 H0 F W ρ N,SOk X.K W0 H0 W σ H ρ/\Wle F W/\Bb X.K W0 H0 F D N/\f9 L X.N.length i zb zh No N ρ,?_,λW0 H0 F W σ H ρ E Dn N s fl eo no h=>⟨W0,H0,F,W,ρ,N,s,fl,no,h⟩⟩,λE ρ N N' hl ⟨E',h1,h2⟩=>⟨E',λex he=>⟨(h1 ex he).1,(hh 0 λ_ _=>False).mono _ _ { nx:=λ_=>False,rt:=N.rt } { nx:=λ_=>False,rt:=N'.rt } ⟨λ_ z=>z,hl.rt,λ_ z=>z,λ_ z=>z⟩ (h1 ex he).2⟩,hbm _ _ _ _ hl h2⟩⟩;rintro sa s σ H D I ⟨W0,H0,F,W,ρ,N,so,fl,no,E',hE',hz⟩;obtain⟨Cs,newId,bmB,hm,hexc,hbase,hsub⟩:=hcx.h;have hcalm:=I.ok.hd
 let Eh:Value->Shared->Prop:=λe s1=>wpAny (model X.prog X.w) X.A (noteFrame e X.env) (λ_ s2=>wpAny (model X.prog X.w) X.A (setFlight e none) (λ_ s3=>wpAny (model X.prog X.w) X.A (handleBy e X.env [.ExceptHandler (some<|.Name cx np) (some n) (b0::suite) hpos]) (SP X sa D) X.xe s3) X.xe s2) X.xe s1
 have pass:dh (fL X.prog X.w) (X.tr Eh sa) (λcls dx H'=>∃W' ex,Ext W0 H0 W' H'/\yB X.K W' H' cls dx ex/\E' ex):=by
  rintro pins' σ1 H1 s1 _ s' I1 ⟨ea,cls,dx,H',B,rfl,fly,hos,hbare,un,hok,hB,hT,W',ex,x',⟨C,hcl,rfl,hxd⟩,he⟩;have J:Inv X sa σ1 H1 s1:=I1.untr;obtain⟨hL,hw⟩:=hE' ex he;have fly':Fl.Up (Fl.Is (.ref C) dx) B (X.env::X.outer) ea .none s'.heap:=by rw[<-hstk.1];exact fly
  have frm:∀b∈dc X.stack,∃o,s'.heap.get? b=some o/\∀vs,o.data≠.fields vs:=λb hb=>(fly.fr.mem hb).2;show wpAny (model X.prog X.w) X.A (noteFrame (.ref ea) X.env) _ _ s';refine Fl.note Fl.Is.firm (by rw[J.ok.frames,hstk.1]) hstk.2 fly' λh4 held4 up4=>?_;refine Fl.lands (s:={ s' with heap:=h4 }) held4 λh5 fl5 up5=>?_;have up45:=up4.trans up5;have J5:Inv X sa σ1 H' { s' with heap:=h5 }:=J.fly hos hbare un hok hB hT fly.st fl5.st up45 frm;refine wpAny_handleBy_cons (codeAny_handlers_test ?_) (by intro q;cases q);refine ft (X:=X.hnd ea X.xe) J5.hnd hg hm ?_ hd;refine HJ J5.kIn hexc hbase (let⟨ob,z1,z2,_⟩:=fl5.there;⟨ob,z1,z2.1⟩) (hsub ex hL C hcl) ?_;refine codeAny_handlers_suite_as ?_;refine Fl.lands (s:={ s' with heap:=h5 }) fl5 λh6 fl6 up6=>?_;have J6:Inv X sa σ1 H' { s' with heap:=h6 }:=J.fly hos hbare un hok hB hT fly.st fl6.st (up45.trans up6) frm
  obtain⟨oe0,g1,g2,vs0,g3⟩:=fly.there;have nofr:ea∉dc X.stack:=λhm=>by
   obtain⟨o,e,nf⟩:=frm ea hm;rw[g1]at e;cases e;exact nf _ g3
  have nB:B.get? ea=none:=fly.new;have noS:s1.heap.get? ea=none:=by
   cases q:s1.heap.get? ea with
   |none=>rfl|some o=>obtain⟨o',e⟩:=hB ea o q nofr;rw[nB]at e;cases e
  have hn':H' ea=none:=by
   cases q:H' ea with
   |none=>rfl|some u=>obtain⟨o,e⟩:=hT ea u q;rw[nB]at e;cases e
  have no0:X.s₀.heap.get? ea=none:=by
   cases q:X.s₀.heap.get? ea with
   |none=>rfl
   |some o=>
    obtain⟨o',e⟩:=J.base.there ea o q (by rw[hex];simp);rw[noS]at e;cases e
  have nL:ea≠X.env.locals:=λz=>by
   obtain⟨m,⟨o,es,ep,ho,_⟩,_⟩:=J.loc;rw[<-z,noS]at ho;cases ho
  have nC:∀x c,X.env.cells.lookup x=some c->c≠ea:=λx c e z=>by
   obtain⟨v,o,ho,_⟩:=J.cell x c e;rw[z,noS]at ho;cases ho
  have nP:∀p∈X.pn++sa,p.1≠ea:=λp hp z=>by
   have:=(J.pin p hp).1;rw[z,noS]at this;cases this
  obtain⟨oe,q1,q2,vs,q3⟩:=fl6.there;refine fT (X:=X.hnd ea X.xe) (v:=.ref ea) J6.hnd hN hi (Or.inl hx) rfl (λs7 J7 sb=>?_)<|.inr hx;have hat:∃oe,s7.heap.get? ea=some oe/\oe.cls=.ref C/\PySem.W.notCls oe=true/\oe.dict=dx/\∃vs,oe.data=.fields vs:=by
   obtain⟨a,hs,ha⟩:=sb;have hne:ea≠a:=λz=>by
    rcases ha with ha|ha
    .exact nL<|z.trans ha
    .exact nC _ _ ha z.symm
   refine⟨oe,(hs.2 ea hne).trans q1,q2.1,?_,q2.2,vs,q3⟩;unfold PySem.W.notCls;rw[q3]
  have J8:Inv (X.hnd ea λ_ _=>False) sa (σ1.set i<|some<|.ref ea) (upd H' ea<|qP C ea dx) s7:=by
   refine((J7.unhnd hcalm).hnd).track hn' no0 nL nC nP ⟨hat,?_,?_⟩ (λ_ z=>by first|cases z|(unfold qP at z;cases z))
   .obtain⟨o,e,_⟩:=hat;exact⟨o,e⟩
   .rintro g1 g2 ⟨o,e,r⟩ k
    exact⟨o,k o e,r⟩
  have xt:Ext W' H' (W'.put ea<|qP C ea dx) (upd H' ea<|qP C ea dx):=Ext.put x'.ok hn';have hil:i<X.N.length:=(Yaq.mp hi).1;have so2:SOk X.K W0 H0 (W'.put ea<|qP C ea dx) (σ1.set i<|some<|.ref ea) (upd H' ea<|qP C ea dx) (uk X.N.length i ex):=by
   have hlen:σ1.length=X.N.length:=J.len;have slot:∀(j:Nat) sv,(uk X.N.length i ex)[j]? = some sv->sv=.un\/(j=i/\sv=.d (.exc ex)):=λj sv e=>by
    unfold uk at e
    by_cases h:i=j
    .subst h
     rw[dq<|by simpa using hil]at e;cases e;exact .inr ⟨rfl,rfl⟩
    .rw[cO h,mz]at e
     split at e
     .cases e;exact .inl rfl
     .cases e
   refine⟨x'.trans xt,by unfold uk;rw[cU,cU,nO,hlen],λj y e=>?_,λj ys e=>?_,λj k ys zs b _ e=>?_,.none λj xss e=>?_⟩
   .rcases slot j _ e with z|⟨rfl,z⟩
    .cases z
    .cases z
     exact⟨.ref ea,dq (by rw[hlen];exact hil),.exc (by unfold Wd.put;dsimp only;rw[aO]) hcl<|hxd.mono xt.g⟩
   .rcases slot j _ e with z|⟨_,z⟩<;>cases z
   .rcases slot j _ e with z|⟨_,z⟩<;>cases z
   .rcases slot j _ e with z|⟨_,z⟩<;>cases z
  obtain⟨th,ph,kh⟩:=(hh ea λ_ _=>False).t;refine Nk (ph sa s7 _ _ { nx:=λ_ _=>False,rt:=D.rt } J8 (kh W0 H0 _ _ _ _ _ No _ { nx:=λ_=>False,rt:=N.rt } so2 (.refl _) (λ_ _ _ _ _ z=>z.elim)
   ⟨λ_ _ _ _ _ _ z=>z.elim,no.rt,λ_ _ _ _ _ _ z=>z.elim,λ_ _ _ _ _ _ z=>z.elim⟩ hw)) (λf s9 q=>?_) λ_ _ z=>z.elim
  cases f with
  |next=>obtain⟨_,_,_,z⟩:=q;exact z.elim
  |brk=>obtain⟨_,_,_,z⟩:=q;exact z.elim
  |cont=>obtain⟨_,_,_,z⟩:=q;exact z.elim
  |ret u=>
   obtain⟨v,σ9,H9,J9,r9,q9⟩:=q;have K9:=J9.unhnd hcalm;obtain⟨m,hns,_⟩:=K9.loc;exact wpAny_nameGoes hx hns (by rw[hkf];rfl) λh' m' hn2 hs2=>⟨v,_,H9,K9.names hn2 hs2,r9,q9⟩
 obtain⟨tb,pb,kb⟩:=(hb Eh sa _ pass).t;refine wpAny_Try_except<|Nk (pb [] s σ H D I.tr<|kb W0 H0 F W σ H ρ E' D N so fl (λex W' H' cls dx he x r=>⟨W',ex,x,r,he⟩) no hz) (λf s1 q=>?_) λe s1 q=>q;cases f with
 |next=>exact NG q.untr|brk=>exact q.untr|cont=>exact q.untr|ret u=>exact q.untr
end
section
variable{P:Program}{w:World}{base:Heap}
theorem BE{N:List Str}{z:WS}(F:Fun K x qual st f fd)(sc:c6 N ps (aK st))(len:∀ds E Q,S ds E Q->ds.length=ps.length)
  (hbody:∀ (cdv:Value) (A:Around) (outer:List Env) (s:Shared) (H:Hp),RoomU k (A.deeper<|envOfC qual (aK st) s.heap.objs.size f cdv)->
   jT (sP P w K mg base N qual (aK st) f cdv A outer s H) E0 (bR st) z)
  (h:∀ds E Q,S ds E Q->z No { nx:=λ_=>Q .non,rt:=Q } (fb N ds)):yz P w K mg base (k+1) f fd ps (hJ K S):=by
 refine F.okU sc (λvs H Q E hs=>?_) λcdv A outer s H vs Q E hr hs=>?_
 .obtain⟨ds,W,_,r,hS⟩:=hs
  rw[r.length];exact len _ _ _ hS
 .obtain⟨ds,W,ok,r,hS⟩:=hs
  obtain⟨t,p,k⟩:=(hbody cdv A outer s H hr).t;exact ⟨t,p,k W H W W (start N vs) H (fb N ds) No _ { nx:=λ_=>RQ K W H Q .non,rt:=RQ K W H Q } (DR ok r) (.refl W) (λ_ _ _ _ _ z=>z.elim)
   ⟨λW1 σ1 H1 ρ1 s1 _ q=>q _ W1 H1 s1.ext .non,λd v W1 H1 x1 r1 q=>q v W1 H1 x1 r1,λ_ _ _ _ _ _ q=>q.elim,λ_ _ _ _ _ _ q=>q.elim⟩ (h ds _ _ hS)⟩
structure BF(P:Program)(w:World)(K:Nb)(mg:Str->Option Value)(base:Heap)(k:Nat)(x:Str)(ps:List Str)(S:bX):Prop where
 ok:∃f fd,yz P w K mg base k f fd ps (hJ K S)/\mg x=some (.ref f)/\PySem.W.keepIn K (.ref f)=true/\Binds K fd ps []
 mono:qq S
end
section
theorem Jp(G:BF X.prog X.w X.K X.mg X.base k x ps S)(hr:RoomU j X.A)(ha:jE X EX (e::es) t)(hk:k<=j:=by decide)(hg:Gl X x:=by rfl)(hdb:(x==("__debug__" : Str))=false:=by decide)(he:starEach (e::es) X.env=(false,eval e X.env)::starEach es X.env:=by rfl)(hpl:(backTo pos<|starEach es X.env).any (·.1)=false:=by rfl) :
  PX X EX (.Call (.Name x p) (e::es) [] pos) (wF S t):=by
 obtain⟨f,fd,F,hm,kp,hb⟩:=G.ok;obtain⟨ta,pa,ka⟩:=ha.t;have hS:=G.mono;refine⟨⟨_,HL (E:=EX) F (hr.mono hk) hg hm kp hb pa hdb he hpl,λW0 H0 W σ H ρ E Q s eo h=>?_⟩,λE ρ P P' hp z=>ha.mono _ _ _ _ (λds hds=>hS _ _ _ _ _ (λ_ q=>q) hp hds) z⟩;refine ka W0 H0 W σ H ρ E _ s eo<|ha.mono _ _ _ _ (λds hds vs W1 H1 x1 r1=>?_) h;refine⟨ds,W1,x1.ok,by rw[pP];exact r1,hS _ _ _ _ _ (λex hex W' H' cls dx x' r'=>?_) (λd hd=>RQ.ext hd x1) hds⟩;exact eo ex W' H' cls dx hex (s.ext.trans<|x1.trans x') r'
end
structure XI(K:Nb)(L M:List Str):Prop where
 c:∀n∈L,∃D,jD K (nr n)=some D/\iy K D/\PySem.W.kitOne K (.ref D) (.type "ValueError")=some true/\∀m∈M,∃C,jD K m=some C/\PySem.W.kitOne K (.ref D) (.ref C)=some (nr n==m)
section
variable{a:Expr}{L M:List Str}
def gIsX(L M:List Str):List D->(D->Prop)->Prop:=λds Q=>match ds with|[.exc n,.cls m]=>n∈L/\m∈M/\Q (.bl<|nr n==m)|[.exc n,.ty T]=>n∈L/\T = "ValueError" /\Q (.bl true)|_=>False
theorem gIsX.mono:∀ds P P',(∀d,P d->P' d)->gIsX L M ds P->gIsX L M ds P':=λds P P' hp hg=>by unfold gIsX at hg ⊢;split at hg;exact⟨hg.1,hg.2.1,hp _ hg.2.2⟩;exact⟨hg.1,hg.2.1,hp _ hg.2.2⟩;exact hg.elim
theorem oa(hx:XI X.K L M):eI X (.builtin "isinstance") (gIsX L M):=by
 refine⟨⟨λvs H Q=>∃W ds,WOk W H/\Reps X.K W vs ds/\gIsX L M ds (RQ X.K W H Q),?_,λW H vs ds Q ok r hg=>⟨W,ds,ok,r,hg⟩⟩,gIsX.mono⟩;rintro sa s σ H vs us Q I rv ⟨W,ds,ok,rs,hg⟩;have fin:∀{b:Bool},RQ X.K W H Q (.bl b)->∀tk,EP X sa σ Q (.bool b) { s with toks:=tk }:=λq tk=>⟨.bl _,H,I.tok tk,rfl,q.now ok<|.bl _⟩;have look:∀{x:V} {u:Value} {n:Str},n∈L->Rep X.K W x (.exc n)->RelV x u->∃a D,u=.ref a/\jD X.K (nr n)=some D/\XAt s.heap a D:=λ{x u n} hn r ru=>by
  cases r with
  | @exc a C n dx e0 e1 _=>cases ru;obtain⟨hx,_⟩:=(show ObjOk X.prog X.w H s.heap a (qP C a dx) from I.hok a _ (ok.g _ _ e0));exact⟨a,C,rfl,e1,let⟨oe,z1,z2,z3,_⟩:=hx;⟨oe,z1,z2,z3⟩⟩
 unfold gIsX at hg;split at hg;rename_i n m;obtain⟨h1,h2,q⟩:=hg;obtain⟨v,w',rfl,r1,r2⟩:=rs.two;obtain⟨u,u2,rfl,ru,ru2⟩:=kY rv;obtain⟨a,D,rfl,hD,hat⟩:=look h1 r1 ru;obtain⟨D',e1,cx,_,hm⟩:=hx.c n h1;rw[hD]at e1;cases e1;obtain⟨C,e2,hk⟩:=hm m h2;cases r2 with
 |cls e3=>rw[e3]at e2;cases e2;cases ru2;exact PySem.W.kia_one (DF cx) I.kIn hat hk (λz=>nomatch z)<|fin q
 rename_i n T;obtain⟨h1,rfl,q⟩:=hg;obtain⟨v,w',rfl,r1,r2⟩:=rs.two;obtain⟨u,u2,rfl,ru,ru2⟩:=kY rv;obtain⟨a,D,rfl,hD,hat⟩:=look h1 r1 ru;obtain⟨D',e1,cx,hk,_⟩:=hx.c n h1;rw[hD]at e1;cases e1;cases r2;obtain rfl:u2=Value.type "ValueError" :=ru2;exact PySem.W.kia_one (DF cx) I.kIn hat hk (λz=>nomatch z)<|fin q
 exact hg.elim
theorem Jq{a:Addr}(hm:X.mg x=some (.ref a))(hc:jD X.K x=some a)(hg:Gl X x:=by rfl)(hd:(x==("__debug__" : Str))=false:=by decide):PX X EX (.Name x pos) (wC<|.cls x):=
 Bc (v:=.ref a) hm rfl (λW=>.cls hc) hg hd
end
structure y3(X:Cx)(id:String)(g:D->List D->(D->Prop)->Prop):Prop where
 t:∃r,AU X id r/\∀W H x vs dx ds Q,WOk W H->Rep X.K W x dx->Reps X.K W vs ds->g dx ds (RQ X.K W H Q)->r x vs H Q
 ty:∀dx ds P,g dx ds P->∃xs,dx=.lst xs
 mono:∀x ds P P',(∀d,P d->P' d)->g x ds P->g x ds P'
def wM(g:D->List D->(D->Prop)->Prop)(wo:WE)(t:WA):WE:=λE ρ Q=>wo E ρ λx=>(∃xs,x=.lst xs)/\t E ρ λds=>g x ds Q
section
variable{o:Expr}{id:String}{g:D->List D->(D->Prop)->Prop}
theorem BG(slot:Slot "list" name id)(hty:typeOf (.builtin id)=pure (.type "method_descriptor"))(hm:y3 X id g)(ho:PX X EX o wo)(ha:jE X EX (e::es) t)
  (hbase:attributeBase o name X.env (eval o X.env)=eval o X.env:=by rfl)
  (hfew:((backTo cpos<|starEach (e::es) X.env).all (λx=>!x.1) && (backToKw cpos<|keywordEach [] X.env).all (λx=>x.1.isSome)
   && decide ((e::es).length+([]:List Keyword).length+(if([]:List Keyword).isEmpty then 0 else 1)<30))=true:=by rfl)
  (hline:(apos.endLine==cpos.line)=true:=by rfl) (hs:starEach (e::es) X.env=(false,eval e X.env)::starEach es X.env:=by rfl) (hplain:(backTo cpos<|starEach es X.env).any (·.1)=false:=by rfl) :
  PX X EX (.Call (.Attribute o name apos) (e::es) [] cpos) (wM g wo t):=by
 obtain⟨to,po,ko⟩:=ho.t;obtain⟨ta,pa,ka⟩:=ha.t;obtain⟨r,pr,kr⟩:=hm.t;refine⟨⟨_,m7 PySem.F.plainAttrs_list slot hty pr po pa hbase hfew hline hs hplain,λW0 H0 W σ H ρ E Q s eo h=>?_⟩,λE ρ P P' hp z=>ho.mono _ _ _ _ (λx ⟨h1,h2⟩=>⟨h1,ha.mono _ _ _ _ (λds hds=>hm.mono _ _ _ _ hp hds) h2⟩) z⟩;refine ko W0 H0 W σ H ρ E _ s eo<|ho.mono _ _ _ _ (λd hd v W1 H1 x1 r1=>?_) h;obtain⟨⟨xs,rfl⟩,h2⟩:=hd;cases r1 with
 | @lst a vs ds e1 rr=>
  refine⟨.inl ⟨rfl,vs,SqL.of<|x1.ok.g _ _ e1⟩,?_⟩;refine ka W0 H0 W1 σ H1 ρ E _ (s.step x1) eo<|ha.mono _ _ _ _ (λds hds us W2 H2 x2 r2=>?_) h2;exact kr W2 H2 _ us _ ds Q x2.ok (.lst (x2.g _ _ e1)<|rr.mono x2.g x2.p) r2<|hm.mono _ _ _ _ (λd hd=>RQ.ext hd<|x1.trans x2) hds
end
def y4(bs:List Bool):List D:=bs.map .bl
def BH:D->List D->(D->Prop)->Prop:=λx ds Q=>∃bs b,x=.lst (y4 bs)/\ds=[.bl b]/\Q (.int (bs.countP (· == b):Nat))
def BI:D->List D->(D->Prop)->Prop:=λx ds Q=>∃bs b j,x=.lst (y4 bs)/\ds=[.bl b]/\bs[j]? = some b/\(∀i<j,bs[i]?≠some b)/\Q (.int (j:Nat))
theorem BJ{K:Nb}{W:Wd}:∀{bs:List Bool} {vs:List V} {its:List Value},Reps K W vs (y4 bs)->Vals vs its->its=bs.map Value.bool
 |[],_,_,.nil,.nil=>rfl|b::bs,_,_,.cons r1 r2,.cons v1 v2=>by cases r1;obtain rfl:_=Value.bool b:=v1;rw[BJ r2 v2];rfl
theorem D7(k:Bool):∀(bs:List Bool),(bs.map Value.bool).countP (isBoolOf k)=bs.countP (· == k)
 |[]=>rfl|b::bs=>by rw[cR,uM,uM,D7 k bs];rfl
section
theorem Jr:y3 X "list.count" BH:=by
 refine⟨⟨λx vs H Q=>∃W dx ds,WOk W H/\Rep X.K W x dx/\Reps X.K W vs ds/\BH dx ds (RQ X.K W H Q),?_,λW H x vs dx ds Q ok r rs hg=>⟨W,dx,ds,ok,r,rs,hg⟩⟩,λdx ds P ⟨bs,b,h,_⟩=>⟨_,h⟩,λx ds P P' hp ⟨bs,b,h1,h2,h3⟩=>⟨bs,b,h1,h2,hp _ h3⟩⟩;rintro sa s σ H x vs v us Q I rx rv ⟨W,dx,ds,ok,r,rs,bs,b,rfl,rfl,q⟩;obtain⟨y,rfl,ry⟩:=rs.one;cases ry;obtain⟨u,rfl,ru⟩:=dJ rv;obtain rfl:u=Value.bool b:=ru;cases r with
 | @lst a xs ds e1 rr=>
  cases rx;obtain⟨its,rvs,pl,hz⟩:=I.list<|SqL.of (ok.g _ _ e1);have hits:=BJ rr rvs;subst hits;obtain⟨⟨cls,dd,data,sl⟩,ho,hc,n,hd⟩:=pl.isList;simp only at hc hd;subst hc hd;refine call_meets PySem.F.slot_list_count ⟨_,ho,rfl⟩ PySem.F.entry_list_count (PySem.F.args_list_count_2 _ _) (SeqAt.list_countAt a _ n dd sl (.bool b)<|isBoolOf b) ⟨ho,λy hy=>?_,?_⟩
  have hy':y∈bs.map Value.bool:=by simpa using hy
  obtain⟨c,_,rfl⟩:=YbQ.mp hy';exact PySem.SeqAt.EqAt.bool_bool c b;rw[show((bs.map Value.bool).toArray.toList)=bs.map Value.bool from rfl,D7];exact⟨.int _,H,I.tok _,⟨_,rfl⟩,q.now ok<|.int _⟩
theorem Js:y3 X "list.index" BI:=by
 refine⟨⟨λx vs H Q=>∃W dx ds,WOk W H/\Rep X.K W x dx/\Reps X.K W vs ds/\BI dx ds (RQ X.K W H Q),?_,λW H x vs dx ds Q ok r rs hg=>⟨W,dx,ds,ok,r,rs,hg⟩⟩,λdx ds P ⟨bs,b,j,h,_⟩=>⟨_,h⟩,λx ds P P' hp ⟨bs,b,j,h1,h2,h3,h4,h5⟩=>⟨bs,b,j,h1,h2,h3,h4,hp _ h5⟩⟩;rintro sa s σ H x vs v us Q I rx rv ⟨W,dx,ds,ok,r,rs,bs,b,j,rfl,rfl,hj,hno,q⟩;obtain⟨y,rfl,ry⟩:=rs.one;cases ry;obtain⟨u,rfl,ru⟩:=dJ rv;obtain rfl:u=Value.bool b:=ru;cases r with
 | @lst a xs ds e1 rr=>
  cases rx;obtain⟨its,rvs,pl,hz⟩:=I.list<|SqL.of (ok.g _ _ e1);have hits:=BJ rr rvs;subst hits;have hlen:xs.length=bs.length:=by rw[rr.length];unfold y4;rw[bG]
  obtain⟨⟨cls,dd,data,sl⟩,ho,hc,n,hd⟩:=pl.isList;simp only at hc hd;subst hc hd;have hjl:j<bs.length:=(Yaq.mp hj).1;have hsz:((bs.map Value.bool).toArray).size=bs.length:=by simp
  refine call_meets PySem.F.slot_list_index ⟨_,ho,rfl⟩ PySem.F.entry_list_index (PySem.F.args_list_index_2 _ _) (SeqAt.list_indexAt a _ n dd sl (.bool b) (isBoolOf b) j (by rw[hsz];exact hjl) ?_ ?_ ?_) ⟨ho,λy hy=>?_,?_⟩;rw[sizeLine_eq]at hz;have:bs.length<=2^62:=by first|(have:=hz;simp at this;omega)|omega
  have:=hjl;omega;have:=(Yaq.mp hj).2;simp only[List.getElem_toArray,xZ,isBoolOf];rw[this];simp;intro m hm hlt;have hm':m<bs.length:=by rw[hsz]at hm;exact hm
  have:=hno m hlt;rw[bJ hm']at this;simp only[List.getElem_toArray,xZ,isBoolOf];exact Ybq.mpr λz=>this (by rw[beq_iff_eq.mp z]);have hy':y∈bs.map Value.bool:=by simpa using hy
  obtain⟨c,_,rfl⟩:=YbQ.mp hy';exact PySem.SeqAt.EqAt.bool_bool c b;exact⟨.int _,H,I.tok _,⟨_,rfl⟩,q.now ok<|.int _⟩
end
section
def ZcI:G2:=λx y Q=>match x,y with|.tup xs,.int k=>k<1000/\-1000<k/\xs.length*k.toNat<=small/\Q (.tup (List.replicate k.toNat xs).flatten)|_,_=>False
theorem ZcI.mono:∀x y P P',(∀d,P d->P' d)->ZcI x y P->ZcI x y P':=λx y P P' hp hg=>by unfold ZcI at hg ⊢;split at hg;exact⟨hg.1,hg.2.1,hg.2.2.1,hp _ hg.2.2.2⟩;exact hg.elim
theorem y6:gS X (binaryOp .Mult) ZcI:=by
 refine⟨⟨_,HZ,λW H x y dx dy Q ok rx ry hg=>?_⟩,ZcI.mono⟩;unfold ZcI at hg;split at hg;obtain⟨p,vs,rfl,h1,r1⟩:=rx.sqt ok;cases ry;rename_i xs k;refine⟨p,k,vs,rfl,rfl,h1,by omega,by omega,by rw[r1.length];exact ma hg.2.2.1,λe=>?_,λa ha=>hg.2.2.2.tup ok (Bk r1 _) ha⟩;have e':(List.replicate k.toNat xs).flatten=xs:=by
  rcases e with e|e
  subst e;cases r1;simp;subst e;simp
 have q:=hg.2.2.2;rw[e']at q;exact q.now ok rx;exact hg.elim
end
section
theorem BK:PX X EX (.Dict [] [] pos) (wC .dic):=by refine⟨⟨_,Ib,λW0 H0 W σ H ρ E Q s eo h p hp=>?_⟩,λE ρ P P' hp h=>hp _ h⟩;exact h (.ref p) (W.put p<|.dK []) _ (Ext.put s.ok hp)<|.dic (by unfold Wd.put;dsimp only;rw[aO])
def its(js:List Int):List D:=js.map .int
def gIn(neg:Bool):G2:=λx y Q=>∃i js,x=.int i/\(y=.lst (its js)\/y=.tup (its js))/\Q (.bl (if neg then !js.contains i else js.contains i))
def gIn.mono{neg:Bool}:∀x y P P',(∀d,P d->P' d)->gIn neg x y P->gIn neg x y P':=λx y P P' hp ⟨i,js,h1,h2,h3⟩=>⟨i,js,h1,h2,hp _ h3⟩
theorem BL{K:Nb}{W:Wd}:∀{js:List Int} {vs:List V},Reps K W vs (its js)->vs=js.map V.int
 |[],_,.nil=>rfl|j::js,_,.cons r t=>by cases r;rw[BL t];rfl
theorem BM(i:Int):∀js:List Int,yr (.int i) (js.map V.int)=js.contains i
 |[]=>rfl|j::js=>by have ih:=BM i js;unfold yr at ih ⊢;rw[cR,xO,ih,List.contains_cons];congr 1;show(j==i)=(i==j);rw[gM,NE,NE];exact⟨Eq.symm,Eq.symm⟩
theorem BN:∀js:List Int,(js.map V.int).all fw=true
 |[]=>rfl|j::js=>by rw[cR,rC,BN js];rfl
theorem v9{neg:Bool}{W:Wd}{x y:V}{dx dy:D}{Q:VK}(ok:WOk W H)(rx:Rep X.K W x dx)(ry:Rep X.K W y dy)(hg:gIn neg dx dy (RQ X.K W H Q)):Du X.K neg x y H Q:=by
 obtain⟨i,js,rfl,h,q⟩:=hg;cases rx;rcases h with rfl|rfl
 obtain⟨p,vs,rfl,h1,r1⟩:=ry.sql ok;obtain rfl:=BL r1;exact⟨p,_,rfl,.inl h1,rfl,BN js,by rw[BM];exact q.now ok<|.bl _⟩;obtain⟨p,vs,rfl,h1,r1⟩:=ry.sqt ok;obtain rfl:=BL r1;exact⟨p,_,rfl,.inr h1,rfl,BN js,by rw[BM];exact q.now ok<|.bl _⟩
def wg:gS X (compareOp .NotIn) (gIn true):=⟨⟨_,jh,λW H x y dx dy Q ok rx ry hg=>v9 ok rx ry hg⟩,gIn.mono⟩
def Zhk:List D->(D->Prop)->Prop:=λds Q=>∃x p,ds=[x]/\iz x=some p/\p.showable=true/\p.hasDict=false/\p.depth<=32/\p.shown.length<=sizeLine/\Q (.str p.shown)
def Zhk.mono:∀ds P P',(∀d,P d->P' d)->Zhk ds P->Zhk ds P':=λds P P' hp ⟨x,p,h1,h2,h3,h4,h5,h6,h7⟩=>⟨x,p,h1,h2,h3,h4,h5,h6,hp _ h7⟩
theorem D8(hg:X.A.guards=some [])(hu:X.A.units+64<cLine):eI X (.builtin "repr") Zhk:=by
 refine⟨⟨λvs H Q=>∃W ds,WOk W H/\Reps X.K W vs ds/\Zhk ds (RQ X.K W H Q),?_,λW H vs ds Q ok r hg=>⟨W,ds,ok,r,hg⟩⟩,Zhk.mono⟩;rintro sa s σ H vs us Q I rv ⟨W,ds,ok,rs,x,p,rfl,h1,h2,h3,h4,h5,q⟩;obtain⟨v,rfl,r⟩:=rs.one;obtain⟨u,rfl,ru⟩:=dJ rv;obtain⟨as,ra⟩:=tZ I ok r ru h1;have fin:∀{s':Shared} {tk:Tok},Inv X sa σ H s'->EP X sa σ Q (.str p.shown tk) s':=λI'=>⟨.str _,H,I',⟨_,rfl⟩,q.now ok<|.str _⟩;cases u with
 |ref a=>exact repr_of_reads' ra h2 (λz=>by rw[h3]at z;cases z) hg (by omega) (λ_ _ e=>e) (λh' u tk hk=>fin<|I.kept hk) h5|none=>cases ra;exact PySem.P.repr_of_none<|fin (I.tok _)
 |bool b=>cases ra;exact PySem.P.repr_of_bool<|fin (I.tok _)
 |int i t=>cases ra;exact PySem.P.repr_of_int (by simpa[PyData.showable] using h2)<|fin (I.tok _)
 |str y t=>cases ra;exact PySem.P.repr_of_str (fin<|I.tok _) h5
 |_=>cases ra
end
abbrev Zil:List Str:=["thing"]
def D9:WS:=(aM<|iX (wB gIs<|aC (wN 0)<|aC (wC<|.ty "int") aA)<|kz<|wB gIs<|aC (wN 0)<|aC (wC<|.ty "bool") aA)
abbrev Zhy:List Str:=["thing", "least", "most"]
def Ea:WS:=(aM<|iX (wF uh<|aC (wN 0) aA)<|Zbk kI kI (wN 1) (wN 0)<|wN 2)
abbrev Zgf:List Str:=["thing", "least", "most"]
def Eb:WS:=(aM<|iX (wB gIs<|aC (wN 0)<|aC (wC<|.ty "tuple") aA)<|wB iA<|aC (wL<|aLC (iS<|wN 0) 1 [1,2] (gN 0) cE<|wF Bz<|aC (wN 0)<|aC (wN 1)<|aC (wN 2) aA) aA)
abbrev ZdU:List Str:=["one", "other"]
def Ed:WS:=(aG (bA<|ua (wT<|w2 (gEq true) (wN 1)<|wC<|.int<|0)<|eQ 0 1<|aC (wN 1)<|aC (w2 qV (wN 0)<|wN 1) aA)<|aM<|wB jo<|aC (wN 0) aA)
abbrev Zim:List Str:=["thing", "top", "bottom"]
def Ee:WS:=(aG (cN (e8 (bS<|wT<|wB gIs<|aC (wN 0)<|aC (wC<|.ty "tuple") aA)<|wT<|w2 (gEq true) (wB bH<|aC (wN 0) aA)<|wC<|.int<|2) (aM<|wC<|D.bl false) cP)<|aG (dA (wN 0)<|dw 2<|cB (gN 1)<|cB (gN 2) dj)<|aG (cN (e8 (bS<|wT<|wF uh<|aC (wN 1) aA)<|bS<|wT<|wF uh<|aC (wN 2) aA) (aM<|wC<|D.bl false) cP)<|aM<|iX (w2 nA (wN 2)<|wC<|.int<|0)<|w2 (gEq false) (wF yQ<|aC (wN 1)<|aC (wN 2) aA)<|wC<|.int<|1)
abbrev Zem:List Str:=["thing", "least", "most"]
def Ef:WS:=(aG (cN (e8 (bS<|wT<|wB gIs<|aC (wN 0)<|aC (wC<|.ty "tuple") aA)<|bS<|wT<|Zbk kI kI (wN 1) (wB bH<|aC (wN 0) aA)<|wN 2) (aM<|wC<|D.bl false) cP)<|aM<|wB iA<|aC (wL<|aLC (iS<|wN 0) 1 [] (gN 0) cE<|wF BA<|aC (wN 0) aA) aA)
abbrev Zly:List Str:=["thing", "many"]
def Eg:WS:=(aM<|wF yR<|aC (wN 0)<|aC (wN 1)<|aC (wN 1) aA)
abbrev Zii:List Str:=["top", "bottom", "divisor"]
def Ei:WS:=(aG (ls<|wT<|w2 (gEq true) (wN 1)<|wC<|.int<|0)<|aG (aQ 2<|wF yQ<|aC (wN 0)<|aC (wN 1) aA)<|aG (cN (wT<|w2 eS (wN 1)<|wC<|.int<|0) (aQ 2<|w1 qs<|wN 2) cP)<|aM<|aZ<|aC (w2 fJ (wN 0)<|wN 2)<|aC (w2 fJ (wN 1)<|wN 2) aA)
abbrev Zom:List Str:=["one", "other"]
def Ej:WS:=(aM<|wF sV<|aC (w2 gAdd (w2 gMul (w2 gIx (wN 0)<|wC<|.int<|0)<|w2 gIx (wN 1)<|wC<|.int<|1)<|w2 gMul (w2 gIx (wN 1)<|wC<|.int<|0)<|w2 gIx (wN 0)<|wC<|.int<|1)<|aC (w2 gMul (w2 gIx (wN 0)<|wC<|.int<|1)<|w2 gIx (wN 1)<|wC<|.int<|1) aA)
abbrev Zm8:List Str:=["one", "other"]
def Ek:WS:=(aM<|wF sV<|aC (w2 gMul (w2 gIx (wN 0)<|wC<|.int<|0)<|w2 gIx (wN 1)<|wC<|.int<|0)<|aC (w2 gMul (w2 gIx (wN 0)<|wC<|.int<|1)<|w2 gIx (wN 1)<|wC<|.int<|1) aA)
abbrev Zlv:List Str:=["numbers"]
def Em:WS:=(aM<|wB jF<|aC (wL<|aLC (iS<|wN 0) 1 [] (gN 0) cE<|aZ<|aC (wN 0)<|aC (wC<|.int<|1) aA) aA)
abbrev Zdr:List Str:=["one", "other", "total", "left", "right"]
def En:WS:=(aG (aQ 2<|wC<|D.tup [(D.int<|0),(D.int<|1)])<|aG (bA<|bP (iZ<|aC (wN 0)<|aC (wN 1) aA) (dw 2<|cB (gN 3)<|cB (gN 4) dj)<|aQ 2<|wF vZ<|aC (wN 2)<|aC (wF sW<|aC (wN 3)<|aC (wN 4) aA) aA)<|aM<|wN 2)
abbrev ZjT:List Str:=["slants"]
def Eo:WS:=(aM<|w2 fJ (w2 gAdd (wB bH<|aC (wN 0) aA)<|wC<|.int<|1)<|wC<|.int<|2)
abbrev Zfq:List Str:=["thing"]
def Ep:WS:=(aG (cN (e8 (bS<|wT<|wF yP<|aC (wN 0)<|aC (wC<|.int (-50))<|aC (wC<|.int<|50) aA)<|wT<|w2 (gEq false) (w2 qV (wB bH<|aC (wN 0) aA)<|wC<|.int<|2)<|wC<|.int<|0) (aM<|wC<|D.bl false) cP)<|aM<|w2 kI (wF qu<|aC (wN 0) aA)<|wC<|.int<|5)
abbrev Zfr:List Str:=["thing"]
def Er:WS:=(cN (bS<|wT<|wF v6<|aC (wN 0) aA) (jH<|PySem.Str.ofString "NoSlants") cP)
abbrev Zig:List Str:=["slants", "size"]
def Es:WS:=(aG (jp<|wF qZ<|aC (wN 0) aA)<|aG (aQ 1<|wF qu<|aC (wN 0) aA)<|aM<|wL<|aLC (dU<|aC (wN 1) aA) 1 [0,1] (gN 0) cE<|wL<|aB (fA (α:=Unit))<|aC (bO (wN 1) (dv<|w2 ei (w2 ei (wN 2)<|wC<|.int<|1)<|wN 0)<|dv<|w2 ei (w2 ei (w2 gMul (wC<|.int<|2)<|wN 2)<|wC<|.int<|1)<|wN 0) aA)
abbrev Zel:List Str:=["slants"]
def Et:WS:=(aG (jp<|wF qZ<|aC (wN 0) aA)<|aM<|w1 gRev<|wN 0)
abbrev Zik:List Str:=["slants", "thing"]
def Eu:WS:=(aG (jp<|wF qZ<|aC (wN 0) aA)<|aM<|wF yS<|aC (wN 1)<|aC (wF qu<|aC (wN 0) aA) aA)
abbrev Zgc:List Str:=["slants"]
def Ev:WS:=(aM<|wL<|aLC (iS<|wF yU<|aC (wN 0) aA) 1 [] (gN 0) cE<|wF v3<|aC (wN 0) aA)
abbrev Zhw:List Str:=["slants", "row"]
def Ew:WS:=(aG (cN (bS<|wT<|wF sY<|aC (wN 0)<|aC (wN 1) aA) (jH<|PySem.Str.ofString "NoRow") cP)<|aM<|wB jF<|aC (wL<|aLC (iS<|wF yW<|aC (wN 0) aA) 1 [1] (gN 0) cE<|wF v4<|aC (wN 0)<|aC (wN 1) aA) aA)
local macro_rules | `(tactic| walk_at "p")=>`(tactic| simp only[aM,aG,cN,aQ,cP,jp,bD,bM,bP,ls,eQ,dA,dk,jr,fc,ml,bA,jH,iX,gE,kz,dE,e8,bS,wT,j4,w1,w2,wB,wF,wL,aZ,bO,Zbk,aB,aY,aC,aA,aLC,ZbC,cE,iS,iL,iT,dU,lg,iZ,i1,i2,isS,isL,yK,isB,isI,dY,dv,wN,wC,gN,dw,cB,dj,gI2,gAdd,gMul,gIx,eh,gCut,gRev,bH,fA,jF,jo,kF,fD,mj,fH,ef,eR,aBor,gG,d6,fG,gH,fb,pub,cR,gX,d8,kT,i6,dC,List.replicate,db,de,eX,eY,Nat.reduceSub,Nat.reduceAdd,gW,l0,true_and,dD,if_true,if_false,ite_true,ite_false])
local macro_rules | `(tactic| walk_at "g")=>`(tactic| ((try dsimp only at *);(try walk_at "p");(try dsimp only)))
theorem mn{x:D}{T:String}(h:kd x=true)(hT:T∈yI)(q:∀t,yH x=some t->Q (.bl<|fZ t T)):gIs [x,.ty T] Q:=by obtain⟨t,ht⟩:=vW h;exact⟨t,ht,hT,q t ht⟩
theorem Ey:Rd uh D9 Zil:=by
 rintro _ E Q ⟨x,rfl,hk,q⟩;unfold D9;walk_at "p";refine mn hk (by decide) λt ht=>?_;cases x<;>cases ht<;>first
  |exact q
  |exact mn hk (by decide) λt ht=>by cases ht;exact q
theorem Jt:Rd Bz Ea Zhy:=by
 rintro _ E Q ⟨⟨x,l,m⟩,rfl,hk,q⟩;unfold Ea;walk_at "g";refine⟨x,rfl,hk,?_⟩;cases x<;>try exact q
 rename_i i;simp only[mm,isB,if_true,gI2,true_and];by_cases h:l<=i;simp only[h,decide_true,if_true];simpa[kJ,h] using q;simp only[h,decide_false,if_false,dD];simpa[kJ,h] using q
theorem Ju:Rd yP Eb Zgf:=by
 rintro _ E Q ⟨⟨x,l,m⟩,rfl,hk,q⟩;unfold Eb;walk_at "g";refine mn hk (by decide) λt ht=>?_;cases x<;>cases ht<;>try exact q
 rename_i xs;obtain⟨hl,hx⟩:=qt hk;show lcW _ _ _ xs _ _ _;refine qW (f:=λd=>.bl<|kJ l m d) (λd hd Q hq=>?_) .un [] (by simp[small];omega) ?_;walk_at "g";exact⟨(d,l,m),rfl,hx d hd,hq⟩;refine⟨xs.map<|kJ l m,by simp,?_⟩;simpa[uN,Function.comp_def,lR] using q
theorem Ez(a b:Int):Int.gcd b (a.fmod b)=Int.gcd a b:=by
 have e:a.fmod b=a-b*a.fdiv b:=by have:=Int.mul_fdiv_add_fmod a b;omega
 rw[e,Int.gcd_sub_mul_left_right,Int.gcd_comm]
theorem EA(a:Int){b:Int}(h:b≠0):(a.fmod b).natAbs<b.natAbs:=by
 have key:∀a b:Int,0<b->0<=a.fmod b/\a.fmod b<b:=λa b z=>by rw[Dm _<|Int.le_of_lt z];exact⟨Int.emod_nonneg _<|by omega,Int.emod_lt_of_pos _ z⟩
 rcases Int.lt_or_lt_of_ne h with z|z
 have h1:=key (-a) (-b) (by omega);rw[Int.neg_fmod_neg]at h1;omega;have h1:=key a b z;omega
theorem Jv:Rd yQ Ed ZdU:=by
 rintro _ E Q ⟨⟨a,b⟩,rfl,_,q⟩;unfold Ed;walk_at "g";refine⟨λm ρ=>∃x y:Int,m=y.natAbs/\ρ=[.d<|.int x,.d<|.int y]/\Int.gcd x y=Int.gcd a b,⟨_,a,b,rfl,rfl,rfl⟩,?_⟩;rintro m _ ⟨x,y,rfl,rfl,hg⟩;walk_at "g";by_cases hy:y=0;subst hy;simp only[Nu,eP,dD,if_false];rw[Int.gcd_zero_right]at hg;rw[<-hg]at q;have:(if x<0 then -x else x)=((x.natAbs:Nat):Int):=by split<;>omega
 rw[this];exact q;rw[oI<|by simpa using hy];exact⟨hy,_,EA x hy,_,_,rfl,rfl,by rw[Ez];exact hg⟩
theorem EB(h:xs.length≠2):cS (.tup xs)=false:=by unfold cS;split;rename_i e;cases e;exact Nd rfl h;rfl
theorem EC{a b:D}(h:mm a=false):cS (.tup [a,b])=false:=by unfold cS;split;rename_i e;cases e;cases h;rfl
theorem ED{a b:D}(h:mm b=false):cS (.tup [a,b])=false:=by unfold cS;split;rename_i e;cases e;cases h;rfl
theorem wj{a:D}(h:mm a=true):∃i,a=.int i:=by
 cases a<;>first
  |exact⟨_,rfl⟩
  |cases h
theorem Jw:Rd BA Ee Zim:=by
 rintro _ E Q ⟨x,rfl,hk,q⟩;unfold Ee;walk_at "g";refine mn hk (by decide) λt ht=>?_;cases x<;>cases ht<;>try exact q
 rename_i xs;obtain⟨hl,hx⟩:=qt hk;walk_at "g";simp only[show fZ "tuple" "tuple" = true from rfl,eP,dD,if_false]
 by_cases h2:xs.length=2
 .match xs,h2,hx,q with
  |[a,b],_,hx,q=>
  rw[ks<|by simp];walk_at "g";refine⟨a,rfl,hx a<|by simp,?_⟩;walk_at "g";cases ha:mm a with
  |false=>rw[EC ha]at q;exact q
  |true=>
   obtain⟨i,rfl⟩:=wj ha;simp only[eP,dD,if_false];refine⟨b,rfl,hx b<|by simp,?_⟩;walk_at "g";cases hb:mm b with
   |false=>rw[ED hb]at q;exact q
   |true=>
    obtain⟨j,rfl⟩:=wj hb;simp only[eP,dD,if_false];walk_at "g"
    by_cases h:0<j
    .simp only[show j>0 from h,decide_true,if_true]
     refine⟨(i,j),rfl,trivial,?_⟩;walk_at "g";have:cS (.tup [.int i,.int j])=(((Int.gcd i j:Nat):Int)==1):=by
      simp only[cS,h,decide_true,tQ];rw[gM];simp;omega
     rw[this]at q;simpa using q
    .have h':¬j>0:=h
     simp only[h',decide_false,if_false,dD];simpa[cS,h] using q
 .rw[EB h2]at q
  rw[oI<|by simpa using λz=>h2<|by exact_mod_cast z];exact q
theorem Jx:Rd yR Ef Zem:=by
 rintro _ E Q ⟨⟨x,l,m⟩,rfl,hk,q⟩;unfold Ef;walk_at "g";refine mn hk (by decide) λt ht=>?_;cases x<;>cases ht<;>try exact q
 rename_i xs;obtain⟨hl,hx⟩:=qt hk;walk_at "g";simp only[show fZ "tuple" "tuple" = true from rfl,eP,dD,if_false];simp only[vY]at q;cases h1:decide (l<=(xs.length:Int)) with
 |false=>rw[h1]at q;simpa using q
 |true=>
  cases h2:decide ((xs.length:Int)<=m) with
  |false=>rw[h1,h2]at q;simpa using q
  |true=>
   simp only[if_true,eP,dD,if_false];walk_at "g";refine qW (f:=λd=>.bl<|cS d) (λd hd Q hq=>?_) .un [] (by simp[small];omega) ?_
   .walk_at "g"
    exact⟨d,rfl,hx d hd,hq⟩
   .refine⟨xs.map cS,by simp,?_⟩
    rw[h1,h2]at q;simpa[uN,Function.comp_def] using q
theorem Jy(n:Int)(x:D):vY n n x=et n x:=by
 cases x<;>try rfl
 rename_i xs;simp only[vY,et];congr 1;rw[gM];simp;omega
theorem Jz:Rd yS Eg Zly:=by rintro _ E Q ⟨⟨x,n⟩,rfl,hk,q⟩;unfold Eg;walk_at "g";refine Jb hk ?_;rw[Jy];exact q
def Bd.le{i j:Int}(h:i.natAbs<=j.natAbs)(b:Bd j):Bd i:=rE h b
theorem JA:Rd sV Ei Zii:=by
 rintro _ E Q ⟨⟨t,b⟩,rfl,⟨hb,hd⟩,q⟩;unfold Ei;walk_at "g";refine⟨by simpa using hb,(t,b),rfl,trivial,?_⟩;walk_at "g";have hg:0<Int.gcd t b:=Al _ hb;have hle:Int.gcd t b<=b.natAbs:=Nat.le_of_dvd (by omega)<|Int.gcd_dvd_natAbs_right ..;obtain⟨e1,e2⟩:=DZ (t:=t) hb;unfold aN at q;rw[<-e1,<-e2]at q
 by_cases h:b<0;simp only[h,decide_true,if_true]at q ⊢;refine⟨⟨by omega,Bd.le (by omega) hd⟩,⟨by omega,Bd.le (by omega) hd⟩,by simp[small],q⟩;simp only[h,decide_false,if_false,dD]at q ⊢;refine⟨⟨by omega,Bd.le (by omega) hd⟩,⟨by omega,Bd.le (by omega) hd⟩,by simp[small],q⟩
def re(h:Q (.int q.num)):gIx (aN q) (.int 0) Q:=⟨_,rfl,h⟩
def mo(h:Q (.int q.den)):gIx (aN q) (.int 1) Q:=⟨_,rfl,h⟩
theorem EE:Rd vZ Ej Zom:=by
 rintro _ E Q ⟨⟨p,q⟩,rfl,hb,h⟩;obtain⟨b1,b2,b3,b4,b5,b6,b7,b8⟩:=hb.mul;unfold Ej;simp only[aM,wF,aC,w2,wN,wC,fb,cR,i6,db,de];refine re<|mo ⟨b1,re<|mo ⟨b2,mo<|mo ⟨b3,?_⟩⟩⟩;refine⟨(_,_),rfl,⟨b6,b5⟩,?_⟩;dsimp only at h ⊢;have e:Rat.divInt (p.num*q.den+q.num*p.den) ((p.den:Int)*q.den)=p+q:=by rw[Rat.add_def',<-Am];rfl
 rw[e];exact h
theorem EF:Rd sW Ek Zm8:=by
 rintro _ E Q ⟨⟨p,q⟩,rfl,hb,h⟩;obtain⟨b1,b2,b3,b4,b5,b6,b7,b8⟩:=hb.mul;unfold Ek;simp only[aM,wF,aC,w2,wN,wC,fb,cR,i6,db,de];refine re<|re ⟨b4,mo<|mo ⟨b3,?_⟩⟩;refine⟨(_,_),rfl,⟨b6,b5⟩,?_⟩;dsimp only at h ⊢;have e:Rat.divInt (p.num*q.num) ((p.den:Int)*q.den)=p*q:=by rw[Rat.mul_def',<-Am];rfl
 rw[e];exact h
theorem JB{b:Bool}{Q:List D->Prop}(h:Q xs):isS Q (lS b xs):=by cases b<;>exact h
theorem y8(i:Int):aN (i:Rat)=.tup [.int i,.int 1]:=by unfold aN;rw[Ai,Aj];rfl
theorem JC:Rd v3 Em Zlv:=by
 rintro _ E Q ⟨⟨b,xs⟩,rfl,hl,q⟩;dsimp only at hl q;unfold Em;simp only[aM,wB,aC,aA,wL,aLC,iS,wN,fb,ZbC,List.replicate,cR,gX,i6,dC,db];refine JB<|qW (f:=λd=>.tup [d,.int 1]) (λd hd Q hq=>?_) .un [] (by simp[small];omega) ?_
 walk_at "g";exact⟨by simp[small],hq⟩;have e:(xs.map D.int).map (λd=>D.tup [d,.int 1])=(xs.map λ(i:Int)=>(i:Rat)).map aN:=by rw[cY,cY];exact iO λi _=>(y8 i).symm
 rw[dC,e];exact q
theorem BO{n m:Nat}:∀(p q:List Rat) {k:Nat},(∀x∈p,Sz n x)->(∀x∈q,Sz m x)->p.length<=k->Sz (k*(n+m+1)+1) (cI p q)
 |[],_,k,_,_,_=>by rw[cI];exact Sz.zero (by omega)|_::_,[],k,_,_,_=>by rw[cI];exact Sz.zero (by omega)|x::p,y::q,0,_,_,h=>by simp at h|x::p,y::q,k+1,h1,h2,hk=>by rw[cI];have a:=(h1 x<|by simp).mul<|h2 y (by simp);have b:=BO p q (k:=k) (λz hz=>h1 z<|by simp[hz]) (λz hz=>h2 z<|by simp[hz]) (by simpa using hk);refine(a.add b).mono ?_;rw[nQ];omega
theorem JD:Rd v4 En Zdr:=by
 rintro _ E Q ⟨⟨⟨b1,b2⟩,p,q⟩,rfl,⟨n,m,hp,hq,hb⟩,h⟩;dsimp only at hp hq hb h;unfold En;simp only[aG,aQ,wC,fb,cR,gX,d8,kT,i6,dC,List.replicate,eY,eX,bA,bP,iZ,aC,aA,wN,db,de,Nat.reduceSub,Nat.reduceAdd];have key:∀(p' q':List Rat) (s:Rat) (sv sv':SV) (j:Nat),(∀x∈p',Sz n x)->(∀x∈q',Sz m x)->Sz (j*(n+m+1)+1) s->j+p'.length<=p.length->s+cI p' q'=cI p q->
   Zbb (dw 2<|cB (gN 3)<|cB (gN 4) dj) (aQ 2<|wF vZ<|aC (wN 2)<|aC (wF sW<|aC (wN 3)<|aC (wN 4) aA) aA) No { nx:=aM (wN 2) E { nx:=λ_=>Q .non,rt:=Q },rt:=Q,bk:=λ_=>False,ct:=λ_=>False }
    (dO (p'.map aN)<|q'.map aN) [.d<|lS b1<|p.map aN,.d<|lS b2<|q.map aN,.d<|aN s,sv,sv']:=by
  intro p'
  induction p' with
  |nil=>
   intro q' s sv sv' j _ _ _ _ he;rw[cI,nW]at he;simp only[dO,gX,List.zipWith_nil_left,Zbb];show Q (aN s);rw[he];exact h
  |cons x p' ih=>
   intro q' s sv sv' j h1 h2 h3 h4 he;cases q' with
   |nil=>
    rw[cI,nW]at he;simp only[dO,gX,List.zipWith_nil_right,Zbb];show Q (aN s);rw[he];exact h
   |cons y q'=>
    have hx:=h1 x (by simp);have hy:=h2 y (by simp);rw[d8]at h4;have hj:j*(n+m+1)<=p.length*(n+m+1):=mC _ (by omega);have hj':(j+1)*(n+m+1)<=p.length*(n+m+1):=mC _ (by omega);rw[nQ]at hj';simp only[dO,cR,An,Zbb];refine⟨rfl,?_⟩;simp only[cB,dj,gN,aQ,wF,aC,aA,wN,db,de,eY,eX];refine⟨(x,y),rfl,B2.of hx hy<|by omega,?_⟩;refine⟨(s,x*y),rfl,B2.of h3 (hx.mul hy)<|by omega,?_⟩;refine ih q' (s+x*y) _ _ (j+1) (λz hz=>h1 z<|by simp[hz]) (λz hz=>h2 z<|by simp[hz]) ?_ (by omega) ?_
    .refine(h3.add<|hx.mul hy).mono ?_
     rw[nQ];omega
    .rw[cI]at he
     rw[Rat.add_assoc];exact he
 have e0:D.tup [D.int 0,D.int 1]=aN 0:=rfl;rw[e0];have k:=key p q 0 .un .un 0 hp hq (Sz.zero<|by omega) (by omega)<|Rat.zero_add _;cases b1<;>cases b2<;>exact k
theorem jW{α:Type}{we:WE}{tail:bZ}{Q:List D->Prop}{g f:α->D}:∀(L:List α),(∀a∈L,∀Q:D->Prop,Q (f a)->we No (.d (g a)::tail) Q)->∀(sv:SV) (acc:List D),acc.length+L.length<=small->Q (acc++L.map f)->lcW (gN 0) cE we (L.map g) (sv::tail) acc Q
 |[],_,sv,acc,_,hq=>by simpa[lcW] using hq|a::L,h,sv,acc,hl,hq=>by rw[cR,lcW];show we No (SV.d (g a)::tail) _;rw[d8]at hl;refine h a (kP ..) _ ⟨by omega,jW L (λd hd=>h d<|ip _ hd) _ _ ?_ ?_⟩;rw[dG,j9];omega;rw[lx];exact hq
theorem BP{α:Type}{xs:List α}{i:Int}{x:α}(hi:i=k)(h:xs[k]? = some x):dW xs i=some x:=by rw[hi];exact bQ h
theorem JE{α:Type}{xs:List α}{a:Nat}(h:a<=b)(hb:b<=xs.length):bB xs (some (a:Int)) (some (b:Int))=(xs.drop a).take (b-a):=by unfold bB;rw[HT.sIx_nat,HT.sIx_nat,ya hb,ya<|gU h hb]
theorem EG{α:Type}{xs:List α}{i j:Int}{a:Nat}(hi:i=a)(hj:j=b)(h:a<=b)(hb:b<=xs.length):bB xs (some i) (some j)=(xs.drop a).take (b-a):=by rw[hi,hj];exact JE h hb
theorem wk{α:Type}{xs:List α}{a:Nat}(h:a<=xs.length):bB xs (some (a:Int)) none=xs.drop a:=by unfold bB;rw[HT.sIx_nat,HT.sIx_none,ya h,<-kR,List.take_length]
theorem rf{α:Type}{xs:List α}{i:Int}(hi:i=b):bB xs none (some i)=xs.take b:=by
 unfold bB;rw[hi,HT.sIx_nat,HT.sIx_none,pQ,Nat.sub_zero];rcases Nat.le_total b xs.length with h|h
 rw[ya h];rw[Nat.min_eq_right h,List.take_length,List.take_of_length_le h]
theorem ju{i:Int}(h:i.natAbs<2^n)(l:n<=8990):Bd i:=da h<|lZ (by decide) l
theorem JF:Rd qu Eo ZjT:=by rintro _ E Q ⟨x,rfl,hl,q⟩;unfold Eo;walk_at "g";refine⟨⟨by decide,ju (n:=2) (by decide)<|by omega⟩,?_⟩;rw[yb _<|by decide];exact q
theorem JG:Rd v6 Ep Zfq:=by
 rintro _ E Q ⟨x,rfl,hk,q⟩;unfold Ep;walk_at "g";refine Ja hk ?_;walk_at "g";cases ha:lR (-50) 50 x with
 |false=>
  have:f8 x=false:=by
   cases x<;>try rfl
   simp only[lR]at ha;simp only[f8,ha,tM]
  rw[this]at q;simpa using q
 |true=>
  cases x<;>try (cases ha;done)
  rename_i xs;obtain⟨hl,hx⟩:=qt hk;walk_at "g";simp only[eP,dD,if_false];refine⟨by decide,?_⟩;simp only[lR]at ha;simp only[f8,ha,tQ]at q;rw[Dm _<|by decide];by_cases h:xs.length%2=1;rw[ks (by simp;omega)];walk_at "g";refine D4 hl ?_;walk_at "g";rw[Nh h,tQ]at q;have e:decide (((xs.length:Int)+1)/2<=5)=decide (xs.length<=9):=by rw[decide_eq_decide];omega
  rw[e];exact q;rw[oI (by simp;omega)];rw[Ni h,tM]at q;exact q
theorem JH:Rd qZ Er Zfr:=by
 rintro _ E Q ⟨x,rfl,h,q⟩;unfold Er;walk_at "g";refine Je h ?_;walk_at "g";unfold fP at q;cases e:f8 x with
 |false=>rw[e]at q;exact q|true=>rw[e]at q;exact q
theorem BQ{x:D}{E:Ex->Prop}(h:kd x=true)(hb:f8 x=false->E "NoSlants")(hg:∀s n,x=aR s->IsSl s n->Q .non):qZ [x] E Q:=by
 cases e:f8 x with
 |false=>exact Ji h e<|hb e
 |true=>obtain⟨s,n,rfl,hs⟩:=rc e;exact Jh hs<|hg s n rfl hs
theorem rg{x:D}{v:Except Str D}{E:Ex->Prop}(e:f8 x=false)(q:exQ E Q (fP x v)):E "NoSlants" :=by rw[n9 e]at q;exact q
theorem rh{v:Except Str D}{E:Ex->Prop}(h:IsSl s n)(q:exQ E Q (fP (aR s) v)):exQ E Q v:=by rw[iY h]at q;exact q
theorem JI:Rd yU Es Zig:=by
 rintro _ E Q ⟨x,rfl,hk,q⟩;unfold Es;walk_at "g";refine BQ hk (λe=>rg e q) λs n e h=>?_;subst e;replace q:Q (jt s n):=by have:=rh h q;rw[ii,h.sN]at this;exact this
 refine yZ h ?_;walk_at "g";have h5:=h.n5;have hl:=h.len;refine⟨by omega,by omega,?_⟩;rw[iN];refine qW (f:=λd=>match d with|.int i=>iC ((s.drop<|n-1-i.toNat).take n)|_=>.non) (λd hd Q hq=>?_) .un [] (by simp[rng,small];omega) ?_;obtain⟨i,hi,rfl⟩:=YbQ.mp hd;rw[Yah]at hi;walk_at "g";refine⟨⟨ju (n:=2) (by decide)<|by omega,ju (n:=10) (by omega)<|by omega⟩,?_⟩;have e:bB (s.map D.int) (some<|(n:Int)-1-(0+(i:Int))) (some<|2*(n:Int)-1-(0+(i:Int)))=((s.drop<|n-1-i).take n).map D.int:=by rw[EG (a:=n-1-i) (b:=2*n-1-i) (by omega) (by omega) (by omega) (by rw[bG];omega),show 2*n-1-i-(n-1-i)=n by omega,<-qE,<-nX]
 show Q (D.lst<|bB (s.map D.int) _ _);rw[e];have e2:(0+(i:Int)).toNat=i:=by omega
 rw[e2]at hq;exact hq;have e:(rng 0 n).map (λd=>match d with|.int i=>iC ((s.drop<|n-1-i.toNat).take n)|_=>.non)=(tbl s n).map iC:=by unfold rng tbl;rw[cY,cY];refine iO λi _=>?_;simp
 rw[dC,e];exact q
theorem tm(s:List Int)(n:Nat):(tbl s n).length=n:=by simp[tbl]
theorem tx(h:IsSl s n):∀r∈tbl s n,r.length=n/\∀x∈r,-50<=x/\x<=50:=by intro r hr;unfold tbl at hr;obtain⟨i,hi,rfl⟩:=YbQ.mp hr;rw[Yah]at hi;have hl:=h.len;refine⟨by rw[jL,kR];omega,λx hx=>h.b x<|mD<|pR hx⟩
theorem JJ:Rd yV Et Zel:=by
 rintro _ E Q ⟨x,rfl,hk,q⟩;unfold Et;walk_at "g";refine BQ hk (λe=>rg e q) λs n e h=>?_;subst e;replace q:Q (aR s.reverse):=by have:=rh h q;rw[ii]at this;exact this
 unfold aR;walk_at "g";rw[<-rF];exact q
theorem JK:Rd sY Eu Zik:=by rintro _ E Q ⟨⟨x,y⟩,rfl,⟨hk,hk2⟩,q⟩;dsimp only at hk hk2 q;unfold Eu;walk_at "g";refine BQ hk (λe=>rg e q) λs n e h=>?_;subst e;replace q:=rh h q;rw[h.sN]at q;exact yZ h<|Jc hk2 q
theorem JL:Rd yW Ev Zgc:=by
 rintro _ E Q ⟨⟨s,n⟩,rfl,h,q⟩;have h5:=h.n5;unfold Ev;walk_at "g";refine Jj h ?_;unfold jt;walk_at "g";refine qW (f:=λd=>match d with|.lst xs=>.tup (xs.map λx=>.tup [x,.int 1])|_=>.non) (λd hd Q hq=>?_) .un [] (by simp[tm,small];omega) ?_;obtain⟨r,hr,rfl⟩:=YbQ.mp hd;walk_at "g";have:=(tx h r hr).1;refine D2 (by omega) ?_;have e:aF (d7 r)=.tup ((r.map D.int).map λx=>.tup [x,.int 1]):=by unfold aF d7;rw[cY,cY];exact congrArg D.tup<|iO λi _=>y8 i
 rw[e];exact hq;have e:((tbl s n).map iC).map (λd=>match d with|.lst xs=>.tup (xs.map λx=>.tup [x,.int 1])|_=>.non)=(tbl s n).map λr=>aF (d7 r):=by rw[cY];refine iO λr _=>?_;unfold aF d7;simp only[Function.comp_apply,iC];rw[cY,cY];exact congrArg D.tup<|iO λi _=>(y8 i).symm
 rw[dC,e];exact q
theorem wm{x:Int}(h:-50<=x/\x<=50):Sz 6 (x:Rat):=Sz.int x (by omega) (by omega)
theorem JM:Rd yY Ew Zhw:=by
 rintro _ E Q ⟨⟨x,y⟩,rfl,⟨hk,hk2,hbs⟩,q⟩;dsimp only at hk hk2 hbs q;unfold Ew;walk_at "g";cases e:f8 x with
 |false=>exact Jl hk hk2 e<|rg e q
 |true=>
 obtain⟨s,n,rfl,h⟩:=rc e;have h5:=h.n5;refine BD h hk2 ?_;replace q:=rh h q;rw[h.sN,ii]at q;walk_at "g";cases er:et n y with
 |false=>rw[er]at q;exact q
 |true=>
 rw[er]at q;obtain⟨r,rfl,hl'⟩:=y2 er;have hl:r.length=n:=by omega
 have q:Q (aF<|cX s n<|rQ<|aF r):=q;rw[nF]at q;obtain⟨m,hm,hb⟩:=hbs r rfl;simp only[eP,dD,if_false];refine Jm h ?_;walk_at "g";have key:∀line∈tbl s n,BR (d7 line) r:=λline hline=>by
  obtain⟨h1,h2⟩:=tx h line hline;refine⟨6,m,λx hx=>?_,hm,?_⟩
  .obtain⟨i,hi,rfl⟩:=YbQ.mp hx
   exact wm<|h2 i hi
  .have:(d7 line).length=n:=by unfold d7;rw[bG];exact h1
   rw[this];have:n*(6+m+1)<=5*(6+m+1):=mC _ h5;omega
 refine jW (g:=λline=>aF<|d7 line) (f:=λline=>aN<|cI (d7 line) r) (tbl s n) (λline hl' Q hq=>?_) .un [] (by simp[tm,small];omega) ?_
 .walk_at "g"
  exact D3 (key line hl') hq
 .have e:(tbl s n).map (λline=>aN<|cI (d7 line) r)=(cX s n r).map aN:=by
   unfold cX;rw[cY];rfl
  rw[dC,e];exact q
def y9:bX:=fnS (λx:List Int×Nat=>[.scr<|x.1.map .int,.int x.2]) (λ_=>True) λx=>.int<|x.1.getD x.2 0
def wn:bX:=rlS (λx:Int=>[.int x]) (λ_=>True) λ_ d=>∃j:Int,d=.int j
def zd:bX:=fnS (λx:Int=>[.int x]) (λ_=>True) λ_=>.pen
def i4:bX:=rlS (λm:Nat=>[.pen,.int m]) (λm=>0<m/\m<2^30) λm d=>∃k:Nat,d=.int k/\k<m
def nG:bX:=sV
def jI:bX:=vZ
def jJ:bX:=sW
def wq:bX:=rlS (λ_:Unit=>[.pen]) (λ_=>True) λ_ d=>∃s n,IsSl s n/\d=aR s
section
variable{E:Ex->Prop}{x:D}{l m a b:Int}{p:Rat}
def JN{xs:List Int}(q:Q (.int<|xs.getD i 0)):y9 [.scr<|xs.map .int,.int i] E Q:=⟨(xs,i),rfl,trivial,q⟩
theorem EH(q:∀j:Int,Q<|.int j):wn [.int a] E Q:=⟨a,rfl,trivial,λd ⟨j,hd⟩=>by rw[hd];exact q j⟩
def JO(q:Q .pen):zd [.int a] E Q:=⟨a,rfl,trivial,q⟩
theorem j5(h:0<n)(h':n<2^30)(q:∀k:Nat,k<n->Q (.int k)):i4 [.pen,.int n] E Q:=⟨n,rfl,⟨h,h'⟩,λd ⟨k,hd,hk⟩=>by rw[hd];exact q k hk⟩
def ze(h:b≠0)(h':Bd b)(q:Q (aN<|Rat.divInt a b)):nG [.int a,.int b] E Q:=⟨(a,b),rfl,⟨h,h'⟩,q⟩
def wu(h:B2 p q)(z:Q (aN<|p+q)):jI [aN p,aN q] E Q:=⟨(p,q),rfl,h,z⟩
def ul(h:B2 p q)(z:Q (aN<|p*q)):jJ [aN p,aN q] E Q:=⟨(p,q),rfl,h,z⟩
theorem EI(q:∀s n,IsSl s n->Q (aR s)):wq [.pen] E Q:=⟨(),rfl,trivial,λd ⟨s,n,h,hd⟩=>by rw[hd];exact q s n h⟩
end
abbrev ZeP:List Str:=["_law_script", "_law_k"]
def EJ:WS:=(aG (cN (wT<|w2 eS (wN 1)<|wB bH<|aC (wN 0) aA) (aM<|w2 gIx (wN 0)<|wN 1) cP)<|aM<|wC<|.int<|0)
abbrev ZhB:List Str:=["_law_seed"]
def EK:WS:=(aG (aQ 0<|w2 qV (w2 gAdd (wN 0)<|wC<|.int<|7919)<|wC<|.int<|2147483647)<|aM<|w2 qV (w2 gAdd (w2 gAdd (w2 gMul (wN 0)<|wN 0)<|w2 gMul (wC<|.int<|48271)<|wN 0)<|wC<|.int<|12345)<|wC<|.int<|2147483629)
abbrev Zft:List Str:=["_law_cell", "_law_left"]
def EL:WS:=(aG (aQ 1<|wB kF<|aC (wN 0)<|aC (w2 ei (wC<|.int<|0)<|wN 0) aA)<|aM<|fH<|aY<|aC (wN 1)<|aC (wB fD<|aC (w2 Bq (wN 1)<|w2 Bp (wC<|.int<|10)<|wC<|.int<|18) aA)<|aC (w2 qV (wN 1)<|wC<|.int<|1000003) aA)
abbrev ZhF:List Str:=["_law_pen", "_law_many", "_law_found"]
def EM:WS:=(aG (cN (wT<|w2 (gEq false) (w2 eh (wN 0)<|wC<|.int<|1)<|wC<|.int<|1) (aG (aQ 2<|w2 qV (w2 eh (wN 0)<|wC<|.int<|0)<|wN 1)<|aG (fc 0<|w2 fJ (w2 eh (wN 0)<|wC<|.int<|0)<|wN 1)<|aM<|wN 2) cP)<|aG (fc 0<|wF wn<|aC (w2 gAdd (wF wn<|aC (w2 eh (wN 0)<|wC<|.int<|2) aA)<|wC<|.int<|7) aA)<|aM<|w2 qV (w2 fJ (w2 eh (wN 0)<|wC<|.int<|2)<|wC<|.int<|64)<|wN 1)
abbrev Zgl:List Str:=["_law_top", "_law_bottom", "_law_one", "_law_other"]
def EN:WS:=(aG (eQ 2 3<|aC (wB jo<|aC (wN 0) aA)<|aC (wB jo<|aC (wN 1) aA) aA)<|aG (bA<|ua (wT<|w2 (gEq true) (wN 3)<|wC<|.int<|0)<|eQ 2 3<|aC (wN 3)<|aC (w2 qV (wN 2)<|wN 3) aA)<|aG (cN (wT<|w2 eS (wN 1)<|wC<|.int<|0) (aQ 2<|w2 ei (wC<|.int<|0)<|wN 2) cP)<|aM<|aZ<|aC (w2 fJ (wN 0)<|wN 2)<|aC (w2 fJ (wN 1)<|wN 2) aA)
abbrev Zio:List Str:=["_law_one", "_law_other"]
def JP:WS:=(aM<|wF nG<|aC (w2 gAdd (w2 gMul (w2 gIx (wN 0)<|wC<|.int<|0)<|w2 gIx (wN 1)<|wC<|.int<|1)<|w2 gMul (w2 gIx (wN 1)<|wC<|.int<|0)<|w2 gIx (wN 0)<|wC<|.int<|1)<|aC (w2 gMul (w2 gIx (wN 0)<|wC<|.int<|1)<|w2 gIx (wN 1)<|wC<|.int<|1) aA)
abbrev Zgj:List Str:=["_law_one", "_law_other"]
def JQ:WS:=(aM<|wF nG<|aC (w2 gMul (w2 gIx (wN 0)<|wC<|.int<|0)<|w2 gIx (wN 1)<|wC<|.int<|0)<|aC (w2 gMul (w2 gIx (wN 0)<|wC<|.int<|1)<|w2 gIx (wN 1)<|wC<|.int<|1) aA)
abbrev ZdV:List Str:=["_law_pen", "_law_size", "_law_way", "_law_span", "_law_some"]
def EO:WS:=(aG (aQ 1<|w2 gAdd (wC<|.int<|1)<|wF i4<|aC (wN 0)<|aC (wC<|.int<|5) aA)<|aG (aQ 2<|wF i4<|aC (wN 0)<|aC (wC<|.int<|7) aA)<|aG (aQ 3<|w2 gIx (wL<|aY<|aC (wC<|.int<|1)<|aC (wC<|.int<|2)<|aC (wC<|.int<|3)<|aC (wC<|.int<|50) aA)<|wF i4<|aC (wN 0)<|aC (wC<|.int<|4) aA)<|aG (bM 4<|aLC (dU<|aC (w2 ei (w2 gMul (wC<|.int<|2)<|wN 1)<|wC<|.int<|1) aA) 1 [0,3] (gN 0) cE<|w2 ei (wF i4<|aC (wN 1)<|aC (w2 gAdd (w2 gMul (wC<|.int<|2)<|wN 2)<|wC<|.int<|1) aA)<|wN 2)<|aG (cN (wT<|w2 (gEq false) (wN 2)<|wC<|.int<|0) (bM 4<|aBor 4<|d6 (bO (wN 4) dY<|dv<|wN 1)<|w1 gRev<|bO (wN 4) dY<|dv<|w2 ei (wN 1)<|wC<|.int<|1) cP)<|aG (cN (wT<|w2 (gEq false) (wN 2)<|wC<|.int<|1) (bM 4<|aBor 4<|d6 (bO (wN 4) (dv<|wC<|.int<|1)<|dv<|wN 1)<|bO (wN 4) dY<|dv<|wN 1) cP)<|aG (cN (wT<|w2 (gEq false) (wN 2)<|wC<|.int<|2) (bM 4<|aBor 4<|d6 (bO (wN 4) dY<|dv<|wN 1)<|w2 gMul (wL<|aY<|aC (wC<|.int<|0) aA)<|w2 ei (wN 1)<|wC<|.int<|1) cP)<|aG (cN (wT<|w2 (gEq false) (wN 2)<|wC<|.int<|3) (jr 4 (w2 ei (wN 1)<|wC<|.int<|1)<|wC<|.int<|0) cP)<|aG (cN (wT<|w2 (gEq false) (wN 2)<|wC<|.int<|4) (bM 4<|aBor 4<|fG (bO (wN 4) dY<|dv<|wC<|.int<|1)<|w2 ei (w2 gMul (wC<|.int<|2)<|wN 1)<|wC<|.int<|1) cP)<|bD 4<|aM<|wB jF<|aC (wN 4) aA)
abbrev Zfs:List Str:=["_law_pen", "_law_size", "_law_great", "_law_found", "_law_place"]
def BT:WS:=(aG (aQ 2<|w2 gIx (wL<|aY<|aC (wC<|.int<|1)<|aC (wC<|.int<|1)<|aC (wC<|.int<|1)<|aC (wC<|.int<|1)<|aC (wC<|.int<|1)<|aC (wC<|.int<|1)<|aC (wC<|.int<|1)<|aC (w2 Bp (wC<|.int<|10)<|wC<|.int<|20) aA)<|wF i4<|aC (wN 0)<|aC (wC<|.int<|8) aA)<|aG (bM 3<|aY aA)<|aG (bA<|bP (dU<|aC (wN 1) aA) (gN 4)<|dk 3<|wF nG<|aC (w2 gMul (w2 ei (wF i4<|aC (wN 0)<|aC (wC<|.int<|11) aA)<|wC<|.int<|5)<|wN 2)<|aC (w2 gAdd (wC<|.int<|1)<|wF i4<|aC (wN 0)<|aC (wC<|.int<|4) aA) aA)<|bD 3<|aM<|wB jF<|aC (wN 3) aA)
theorem JR:Rd y9 EJ ZeP:=by rintro _ E Q ⟨⟨xs,i⟩,rfl,_,q⟩;unfold EJ;walk_at "g";by_cases h:i<xs.length;rw[oI<|by simp[h]];refine⟨.int<|xs.getD i 0,BP rfl ?_,q⟩;rw[cH,bN,bJ h];rfl;rw[ks (by simp;omega)];rw[bN,eD<|by omega]at q;exact q
theorem JS:Rd wn EK ZhB:=by rintro _ E Q ⟨x,rfl,_,q⟩;unfold EK;walk_at "g";have h1:=Ao (x+7919) (show(0:Int)<2147483647 by decide);have h2:=Int.fmod_lt_of_pos (x+7919) (show(0:Int)<2147483647 by decide);have b:Bd ((x+7919).fmod 2147483647):=ju (n:=32) (by omega) (by omega);exact⟨by decide,⟨b,b⟩,⟨ju (n:=32) (by decide)<|by omega,b⟩,by decide,q _ ⟨_,rfl⟩⟩
theorem JT:Rd zd EL Zft:=by rintro _ E Q ⟨x,rfl,_,q⟩;unfold EL;walk_at "g";exact⟨⟨by decide,by decide,by decide⟩,by decide,by decide,⟨_,_,_,rfl⟩,q⟩
theorem JU:Rd i4 EM ZhF:=by
 rintro _ E Q ⟨m,rfl,⟨h0,h1⟩,q⟩;have hb:Bd (m:Int):=ju (n:=30) (by omega) (by omega);have fin:∀x:Int,Q (.int<|x.fmod m):=λx=>by have h1:=Ao x (show(0:Int)<m by omega);have h2:=Int.fmod_lt_of_pos x (show(0:Int)<m by omega);exact q _ ⟨(x.fmod m).toNat,by rw[xQ h1],by omega⟩
 unfold EM;walk_at "g";refine⟨by simp,λj=>?_⟩;walk_at "g";split;refine⟨by simp,λi=>⟨by omega,?_⟩⟩;walk_at "g";exact⟨by simp,λi'=>⟨⟨by omega,hb⟩,fin i⟩⟩;refine⟨by simp,λk=>EH λk1=>?_⟩;walk_at "g";refine EH λk2=>?_;walk_at "g";exact⟨by simp,λk3=>⟨⟨by decide,ju (n:=7) (by decide)<|by omega⟩,by omega,fin _⟩⟩
theorem EQ(x:Int):(if x<0 then -x else x)=((x.natAbs:Nat):Int):=by split<;>omega
theorem JV:Rd nG EN Zgl:=by
 rintro _ E Q ⟨⟨t,b⟩,rfl,⟨hb,hd⟩,q⟩;have hg:0<Int.gcd t b:=Al _ hb;have hle:Int.gcd t b<=b.natAbs:=Nat.le_of_dvd (by omega)<|Int.gcd_dvd_natAbs_right ..;obtain⟨e1,e2⟩:=DZ (t:=t) hb;unfold aN at q;dsimp only at q e1 e2;rw[<-e1,<-e2]at q;unfold EN;walk_at "g";refine⟨λm ρ=>∃x y:Int,m=y.natAbs/\ρ=[.d<|.int t,.d<|.int b,.d<|.int x,.d<|.int y]/\0<=x/\0<=y/\Int.gcd x y=Int.gcd t b,⟨_,_,_,rfl,rfl,by omega,by omega,?_⟩,?_⟩
 rw[EQ,EQ];simp[Int.gcd];rintro m _ ⟨x,y,rfl,rfl,hx,hy,hg'⟩;walk_at "g";by_cases hy0:y=0;subst hy0;simp only[Nu,eP,dD,if_false];rw[Int.gcd_zero_right]at hg';have hx':x=((Int.gcd t b:Nat):Int):=by omega
 by_cases h:b<0;simp only[h,decide_true,if_true]at q ⊢;have ez:0-x = -((Int.gcd t b:Nat):Int):=by omega
 rw[ez];refine⟨⟨by omega,Bd.le (by omega) hd⟩,⟨by omega,Bd.le (by omega) hd⟩,by simp[small],q⟩;simp only[h,decide_false,if_false,dD]at q ⊢;rw[hx'];refine⟨⟨by omega,Bd.le (by omega) hd⟩,⟨by omega,Bd.le (by omega) hd⟩,by simp[small],q⟩;rw[oI<|by simpa using hy0];refine⟨hy0,_,EA x hy0,_,_,rfl,rfl,hy,Ao _<|by omega,by rw[Ez];exact hg'⟩
def JW:Rd jI JP Zio:=EE
def JX:Rd jJ JQ Zgj:=EF
theorem BU{t b:Int}(hb:b≠0)(h1:t.natAbs<2^n)(h2:b.natAbs<2^n):Sz n (Rat.divInt t b):=by
 unfold Sz;rw[Rat.num_divInt,Rat.den_divInt,ks hb];have hg:Int.gcd b t≠0:=by have:=Int.gcd_pos_of_ne_zero_left t hb;omega
 refine⟨rE (DX hg ?_) ?_,rE (Nat.div_le_self _ _) h2⟩;exact Int.dvd_mul_of_dvd_right<|Int.gcd_dvd_right ..
 rw[eW,Int.natAbs_sign_of_ne_zero hb,Nat.one_mul];exact h1
local macro_rules | `(tactic| walk_at "w")=>`(tactic| simp only[aM,cN,aQ,cP,jp,bD,bM,bP,ls,eQ,dA,dk,jr,fc,ml,bA,jH,iX,gE,kz,dE,e8,bS,wT,j4,w1,w2,wB,wF,wL,aZ,bO,Zbk,aB,aY,aC,aA,aLC,ZbC,cE,iS,iL,iT,dU,lg,iZ,i1,i2,isS,isL,yK,isB,isI,dY,dv,wN,wC,gN,dw,cB,dj,gI2,gAdd,gMul,gIx,eh,gCut,gRev,bH,fA,jF,jo,kF,fD,mj,fH,ef,eR,aBor,gG,d6,fG,gH,fb,pub,cR,gX,d8,kT,i6,dC,List.replicate,db,de,eX,eY,Nat.reduceSub,Nat.reduceAdd,gW,l0,true_and,dD,if_true,if_false,ite_true,ite_false])
local macro_rules | `(tactic| walk_at "s")=>`(tactic| ((try dsimp only at *);(try walk_at "w");(try dsimp only)))
def bU{z:WS}{E:Ex->Prop}(h:z E { N with nx:=z' E N } ρ):aG z z' E N ρ:=h
def ww{z:WS}{E:Ex->Prop}(I:bZ->Prop)(hz:∀nx:bZ->Prop,(∀ρ,I ρ->nx ρ)->z E { N with nx:=nx } ρ)(hr:∀ρ,I ρ->z' E N ρ):aG z z' E N ρ:=hz _ hr
theorem j6{c:WT}{E:Ex->Prop}{b:Bool}(hc:∀Q:Bool->Prop,Q b->c E ρ Q)(h1:b=true->zb E N ρ)(h2:b=false->N.nx ρ):cN c zb cP E N ρ:=by
 refine hc _ ?_;cases b with
 |true=>rw[oI rfl];exact h1 rfl|false=>rw[ks<|by decide];exact h2 rfl
theorem zf(xs:List Int):jG (xs.map D.int)=true:=by
 induction xs with
 |nil=>rfl|cons x xs ih=>rw[cR,jG,ih];rfl
theorem JY(h:∀y∈ys,∃i:Int,y=.int i/\-50<=i/\i<=50):∃s:List Int,ys=s.map D.int/\∀x∈s,-50<=x/\x<=50:=by
 induction ys with
 |nil=>exact⟨[],rfl,by simp⟩
 |cons y ys ih=>
  obtain⟨s,rfl,hs⟩:=ih λz hz=>h z (by simp[hz]);obtain⟨i,rfl,h1,h2⟩:=h y (by simp);exact ⟨i::s,rfl,λx hx=>by
   rcases Yan.mp hx with rfl|hx
   .exact⟨h1,h2⟩
   .exact hs x hx⟩
theorem JZ:Rd wq EO ZdV:=by
 rintro _ E Q ⟨_,rfl,_,q⟩;have fin:∀(s:List Int) (n:Nat),s.length+1=2*n->1<=n->n<=5->(∀x∈s,-50<=x/\x<=50)->Q (D.tup<|s.map D.int):=λs n h1 h2 h3 h4=>q _ ⟨s,n,⟨h1,h2,h3,h4⟩,rfl⟩;unfold EO;refine bU ?_;walk_at "s";refine j5 (n:=5) (by decide) (by decide) λk hk=>?_;walk_at "s";refine bU ?_;walk_at "s";refine j5 (n:=7) (by decide) (by decide) λway hw=>?_;walk_at "s";refine bU ?_;walk_at "s";refine⟨by decide,j5 (n:=4) (by decide) (by decide) λsp hsp=>?_⟩;have hgr:∃g:Nat,(1<=g/\g<=50)/\dW [D.int 1,D.int 2,D.int 3,D.int 50] (sp:Int)=some (.int g):=by
  have:sp=0\/sp=1\/sp=2\/sp=3:=by omega
  rcases this with rfl|rfl|rfl|rfl
  exact⟨1,by decide,rfl⟩;exact⟨2,by decide,rfl⟩;exact⟨3,by decide,rfl⟩;exact⟨50,by decide,rfl⟩
 obtain⟨g,hg,hat⟩:=hgr;walk_at "s";refine⟨_,hat,bU ?_⟩;walk_at "s";refine⟨⟨ju (n:=2) (by decide)<|by omega,ju (n:=10) (by omega)<|by omega⟩,by omega,by omega,?_⟩;refine Br (R:=λ_ y=>∃i:Int,y=.int i/\-50<=i/\i<=50) (λd hd Q hq=>?_) .un [] (by simp[rng,small];omega) λys hl hys=>?_;walk_at "g";refine⟨⟨ju (n:=2) (by decide)<|by omega,ju (n:=10) (by omega)<|by omega⟩,?_⟩;have e:(2:Int)*(g:Int)+1=((2*g+1:Nat):Int):=by omega
 rw[e];refine j5 (by omega) (by omega) λj hj=>?_;walk_at "g";exact hq _ ⟨_,rfl,by omega,by omega⟩;obtain⟨s,rfl,hs⟩:=JY λy hy=>let⟨_,_,h⟩:=hys y hy;h;simp only[rng,bG,ke]at hl;rw[dC];have hm:∀x∈s,-50<=x/\x<=50:=hs;have hsl:s.length+1=2*(1+k):=by omega
 have hn:(1:Int)+(k:Int)=((1+k:Nat):Int):=by omega
 generalize 1+k=n at hn hsl;have n1:1<=n:=by omega
 have n5:n<=5:=by omega
 rw[hn];clear hl hys hat hsp hk q hn;have c1:∀{s:List Int},s.length+1=2*n->bB (s.map D.int) none (some (n:Int))=(s.take n).map D.int:=λ_=>by rw[rf rfl,nX]
 have c2:∀{s:List Int},s.length+1=2*n->bB (s.map D.int) none (some<|(n:Int)-1)=(s.take<|n-1).map D.int:=λ_=>by rw[rf (b:=n-1)<|by omega,nX]
 have c3:∀{s:List Int},s.length+1=2*n->bB (s.map D.int) (some 1) (some (n:Int))=((s.drop 1).take<|n-1).map D.int:=λh=>by rw[EG (i:=1) (a:=1) (b:=n) (by decide) rfl n1 (by rw[bG];omega),nX,qE]
 have mt:∀{s:List Int} {j:Nat},(∀x∈s,-50<=x/\x<=50)->∀x∈s.take j,-50<=x/\x<=50:=λh x hx=>h x<|pR hx;refine ww (λρ=>∃s:List Int,ρ=[.d .pen,.d<|.int n,.d<|.int way,.d<|.int g,.ow<|s.map .int]/\s.length+1=2*n/\∀x∈s,-50<=x/\x<=50) (λnx hnx=>?_) ?_
 walk_at "s";split;rw[c1 hsl,c2 hsl,<-rF,<-jz];refine⟨?_,zf _,hnx _ ⟨_,rfl,?_,λx hx=>?_⟩⟩;simp[small];omega;simp only[dG,uK,jL];omega;rcases Yao.mp hx with hx|hx
 exact mt hm x hx;exact mt hm x<|Ycp.mp hx
 exact hnx _ ⟨s,rfl,hsl,hm⟩;clear hs hm hsl s;rintro _ ⟨s,rfl,hsl,hm⟩;refine ww (λρ=>∃s:List Int,ρ=[.d .pen,.d<|.int n,.d<|.int way,.d<|.int g,.ow<|s.map .int]/\s.length+1=2*n/\∀x∈s,-50<=x/\x<=50) (λnx hnx=>?_) ?_;walk_at "s";split;rw[c1 hsl,c3 hsl,<-jz];refine⟨?_,zf _,hnx _ ⟨_,rfl,?_,λx hx=>?_⟩⟩;simp[small];omega;simp only[dG,kR,jL];omega;rcases Yao.mp hx with hx|hx
 exact hm x<|mD (pR hx)
 exact mt hm x hx;exact hnx _ ⟨s,rfl,hsl,hm⟩;clear hm hsl s;rintro _ ⟨s,rfl,hsl,hm⟩;refine ww (λρ=>∃s:List Int,ρ=[.d .pen,.d<|.int n,.d<|.int way,.d<|.int g,.ow<|s.map .int]/\s.length+1=2*n/\∀x∈s,-50<=x/\x<=50) (λnx hnx=>?_) ?_;walk_at "s";split;have e:(List.replicate ((n:Int)-1).toNat [D.int 0]).flatten=(List.replicate (n-1) (0:Int)).map D.int:=by
  rw[show((n:Int)-1).toNat=n-1 by omega,yc];generalize n-1=j;induction j with
  |zero=>rfl|succ j ih=>rw[gW,qB,ih,gW];rfl
 rw[c1 hsl,e,<-jz];refine⟨by decide,by omega,by omega,by unfold small;omega,?_,zf _,hnx _ ⟨_,rfl,?_,λx hx=>?_⟩⟩;simp[small];omega;simp only[dG,nO,jL];omega;rcases Yao.mp hx with hx|hx
 exact mt hm x hx;rw[(Ycr.mp hx).2];omega;exact hnx _ ⟨s,rfl,hsl,hm⟩;clear hm hsl s;rintro _ ⟨s,rfl,hsl,hm⟩;refine ww (λρ=>∃s:List Int,ρ=[.d .pen,.d<|.int n,.d<|.int way,.d<|.int g,.ow<|s.map .int]/\s.length+1=2*n/\∀x∈s,-50<=x/\x<=50) (λnx hnx=>?_) ?_;walk_at "s";split;refine⟨n-1,?_,hnx _ ⟨s.set (n-1) 0,by rw[rG],by rw[cU];exact hsl,λx hx=>?_⟩⟩;unfold jB;rw[oI<|by omega,oI (by rw[bG];omega),show((n:Int)-1).toNat=n-1 by omega];rcases rH hx with hx|rfl
 exact hm x hx;omega;exact hnx _ ⟨s,rfl,hsl,hm⟩;clear hm hsl s;rintro _ ⟨s,rfl,hsl,hm⟩;refine ww (λρ=>∃s:List Int,ρ=[.d .pen,.d<|.int n,.d<|.int way,.d<|.int g,.ow<|s.map .int]/\s.length+1=2*n/\∀x∈s,-50<=x/\x<=50) (λnx hnx=>?_) ?_;walk_at "s";split;obtain⟨x0,s',rfl⟩:∃x0 s',s=x0::s':=by
  cases s with
  |nil=>simp at hsl;omega|cons x0 s'=>exact⟨x0,s',rfl⟩
 have e1:bB ((x0::s').map D.int) none (some 1)=[D.int x0]:=by rw[rf (i:=1) (b:=1)<|by decide];simp
 have e2:(List.replicate (2*(n:Int)-1).toNat [D.int x0]).flatten=(List.replicate (2*n-1) x0).map D.int:=by
  rw[show(2*(n:Int)-1).toNat=2*n-1 by omega,yc];generalize 2*n-1=j;induction j with
  |zero=>rfl|succ j ih=>rw[gW,qB,ih,gW];rfl
 rw[e1,e2];refine⟨⟨ju (n:=2) (by decide)<|by omega,ju (n:=10) (by omega)<|by omega⟩,by omega,by omega,?_,zf _,hnx _ ⟨_,rfl,?_,λx hx=>?_⟩⟩;simp[small];omega;rw[nO];omega;rw[(Ycr.mp hx).2];exact hm x0 (by simp);exact hnx _ ⟨s,rfl,hsl,hm⟩;clear hm hsl s;rintro _ ⟨s,rfl,hsl,hm⟩;walk_at "s";exact fin s n hsl n1 n5 hm
abbrev LX:List Str:=["NoSlants", "NoRow", "NoNumber", "NoLine", "NotEven", "NotFull"]
abbrev MX:List Str:=["NoSlants", "NoRow", "NoNumber", "NoLine", "NotEven", "NotFull", "NotStrong", "NoText", "TooGreat"]
def um(n:Str):Str:=if n == "NoSlants" then "slants" else if n == "NoRow" then "row" else if n == "NoNumber" then "number" else if n == "NoLine" then "line" else if n == "NotEven" then "even" else "full"
mutual
def cZ(m:Nat):D->Bool
 |.int i=>decide (i.natAbs<2^m)|.tup xs=>ge m xs|.lst xs=>ge m xs|_=>true
def ge(m:Nat):List D->Bool
 |[]=>true|x::r=>cZ m x&&ge m r
end
theorem oh{m:Nat}:∀{xs:List D},ge m xs=true↔∀x∈xs,cZ m x=true
 |[]=>by simp[ge]|x::r=>by rw[ge,dQ,oh];simp
theorem Zj7:cZ m (aN q)=true↔Sz m q:=by unfold aN Sz;rw[cZ,ge,ge,ge,cZ,cZ];simp
theorem Zcr:cZ m (aF r)=true↔∀x∈r,Sz m x:=by
 unfold aF;rw[cZ,oh];constructor;intro h x hx;exact Zj7.mp<|h _ (mE hx)
 intro h x hx;obtain⟨q,hq,rfl⟩:=YbQ.mp hx;exact Zj7.mpr<|h q hq
def uo:bX:=uh
def zg:bX:=fnS (λn:Str=>[.exc n]) (λn=>n∈LX) λn=>.str<|um n
def zj:bX:=rlS (λx:SL=>[.pen,aR x.1]) (λx=>IsSl x.1 x.2) λ_ d=>kd d=true/\sX d=false
def zk:bX:=v6
section
variable{E:Ex->Prop}{x:D}
def BV(h:kd x=true)(q:Q (.bl<|mm x)):uo [x] E Q:=⟨x,rfl,h,q⟩
def J0{n:Str}(h:n∈LX)(q:Q (.str<|um n)):zg [.exc n] E Q:=⟨n,rfl,h,q⟩
def J1(h:IsSl s n)(q:∀d,kd d=true->Q d):zj [.pen,aR s] E Q:=⟨(s,n),rfl,h,λd h1=>q d h1.1⟩
def Zf(h:kd x=true)(q:Q (.bl<|f8 x)):zk [x] E Q:=⟨x,rfl,h,q⟩
end
abbrev Zgi:List Str:=["_law_found"]
def J3:WS:=(aM<|iX (wB gIs<|aC (wN 0)<|aC (wC<|.ty "int") aA)<|kz<|wB gIs<|aC (wN 0)<|aC (wC<|.ty "bool") aA)
abbrev Zdc:List Str:=["_law_e", "_law_marks"]
def BW:WS:=(aG (aQ 1<|wL<|aY<|aC (wB (gIsX LX MX)<|aC (wN 0)<|aC (wC<|.cls<|PySem.Str.ofString "NoSlants") aA)<|aC (wB (gIsX LX MX)<|aC (wN 0)<|aC (wC<|.cls<|PySem.Str.ofString "NoRow") aA)<|aC (wB (gIsX LX MX)<|aC (wN 0)<|aC (wC<|.cls<|PySem.Str.ofString "NoNumber") aA)<|aC (wB (gIsX LX MX)<|aC (wN 0)<|aC (wC<|.cls<|PySem.Str.ofString "NoLine") aA) aA)<|aG (aQ 1<|w2 gAdd (wN 1)<|wL<|aY<|aC (wB (gIsX LX MX)<|aC (wN 0)<|aC (wC<|.cls<|PySem.Str.ofString "NotEven") aA)<|aC (wB (gIsX LX MX)<|aC (wN 0)<|aC (wC<|.cls<|PySem.Str.ofString "NotFull") aA)<|aC (wB (gIsX LX MX)<|aC (wN 0)<|aC (wC<|.cls<|PySem.Str.ofString "NotStrong") aA) aA)<|aG (aQ 1<|w2 gAdd (wN 1)<|wL<|aY<|aC (wB (gIsX LX MX)<|aC (wN 0)<|aC (wC<|.cls<|PySem.Str.ofString "NoText") aA)<|aC (wB (gIsX LX MX)<|aC (wN 0)<|aC (wC<|.cls<|PySem.Str.ofString "TooGreat") aA) aA)<|aG (cN (e8 (bS<|wT<|wB (gIsX LX MX)<|aC (wN 0)<|aC (wC<|.ty "ValueError") aA)<|wT<|w2 (gEq true) (wM BH (wN 1)<|aC (wC<|D.bl true) aA)<|wC<|.int<|1) (aM<|wC<|D.str<|PySem.Str.ofString "other") cP)<|aM<|w2 gIx (wL<|aY<|aC (wC<|D.str<|PySem.Str.ofString "slants")<|aC (wC<|D.str<|PySem.Str.ofString "row")<|aC (wC<|D.str<|PySem.Str.ofString "number")<|aC (wC<|D.str<|PySem.Str.ofString "line")<|aC (wC<|D.str<|PySem.Str.ofString "even")<|aC (wC<|D.str<|PySem.Str.ofString "full")<|aC (wC<|D.str<|PySem.Str.ofString "strong")<|aC (wC<|D.str<|PySem.Str.ofString "text")<|aC (wC<|D.str<|PySem.Str.ofString "great") aA)<|wM BI (wN 1)<|aC (wC<|D.bl true) aA)
abbrev ZdW:List Str:=["_law_pen", "_law_slants", "_law_spot", "_law_odd", "_law_some"]
def ER:WS:=(aG (aQ 2<|wF i4<|aC (wN 0)<|aC (w2 gAdd (wB bH<|aC (wN 1) aA)<|wC<|.int<|1) aA)<|aG (aQ 3<|w2 gIx (wL<|aY<|aC (wC<|.int<|51)<|aC (w1 qs<|wC<|.int<|51)<|aC (wC<|D.bl true)<|aC (wC D.non)<|aC (wC<|D.str<|PySem.Str.ofString "0")<|aC (aZ<|aC (wC<|.int<|0) aA)<|aC (w2 Bp (wC<|.int<|10)<|wC<|.int<|30) aA)<|wF i4<|aC (wN 0)<|aC (wC<|.int<|7) aA)<|aG (aQ 4<|wL<|aY<|aC (w2 gAdd (w2 gAdd (w2 gAdd (bO (wN 1) dY<|dv<|wN 2)<|aZ<|aC (wN 3) aA)<|bO (wN 1) (dv<|w2 gAdd (wN 2)<|wC<|.int<|1) dY)<|w2 ZcI (aZ<|aC (wN 3) aA)<|wB fD<|aC (w2 (gEq false) (wN 2)<|wB bH<|aC (wN 1) aA) aA)<|aC (w2 gAdd (wN 1)<|aZ<|aC (wC<|.int<|0) aA)<|aC (wL<|aB (fA (α:=Unit))<|aC (wN 1) aA) aA)<|aG (aQ 4<|w2 gAdd (wN 4)<|wL<|aY<|aC (aZ aA)<|aC (w2 ZcI (aZ<|aC (wC<|.int<|1) aA)<|wC<|.int<|11)<|aC (w2 ZcI (aZ<|aC (wC<|.int<|0) aA)<|wC<|.int<|2)<|aC (wC D.non)<|aC (wC<|.int<|5)<|aC (wC .dic)<|aC (wC<|D.str<|PySem.Str.ofString "0")<|aC (aZ<|aC (wN 1) aA)<|aC (bO (wN 1) (dv<|wC<|.int<|1) dY) aA)<|aM<|w2 gIx (wN 4)<|wF i4<|aC (wN 0)<|aC (wC<|.int<|12) aA)
abbrev ZcA:List Str:=["_law_thing"]
def ES:WS:=(aG (cN (e8 (bS<|wT<|wB gIs<|aC (wN 0)<|aC (wC<|.ty "tuple") aA)<|wT<|w2 (gIn true) (wB bH<|aC (wN 0) aA)<|aZ<|aC (wC<|.int<|1)<|aC (wC<|.int<|3)<|aC (wC<|.int<|5)<|aC (wC<|.int<|7)<|aC (wC<|.int<|9) aA) (aM<|wC<|D.bl false) cP)<|aM<|wB iA<|aC (wL<|aLC (iS<|wN 0) 1 [] (gN 0) cE<|iX (wF uo<|aC (wN 0) aA)<|Zbk kI kI (w1 qs<|wC<|.int<|50) (wN 0)<|wC<|.int<|50) aA)
abbrev Zfu:List Str:=["_law_pen", "_law_row", "_law_spot", "_law_odd", "_law_some"]
def ET:WS:=(aG (aQ 2<|wF i4<|aC (wN 0)<|aC (wB bH<|aC (wN 1) aA) aA)<|aG (aQ 3<|wL<|aY<|aC (aZ<|aC (wC<|.int<|2)<|aC (wC<|.int<|4) aA)<|aC (aZ<|aC (wC<|.int<|1)<|aC (wC<|.int<|0) aA)<|aC (aZ<|aC (wC<|.int<|1)<|aC (w1 qs<|wC<|.int<|2) aA)<|aC (aZ<|aC (wC<|.int<|0)<|aC (wC<|.int<|2) aA)<|aC (aZ<|aC (wC<|D.bl true)<|aC (wC<|.int<|1) aA)<|aC (aZ<|aC (wC<|.int<|1)<|aC (wC<|D.bl true) aA)<|aC (wC<|.int<|1)<|aC (wC D.non)<|aC (wL<|aY<|aC (wC<|.int<|1)<|aC (wC<|.int<|2) aA)<|aC (wC<|D.str<|PySem.Str.ofString "1")<|aC (aZ<|aC (wC<|.int<|1) aA)<|aC (aZ<|aC (wC<|.int<|1)<|aC (wC<|.int<|2)<|aC (wC<|.int<|3) aA) aA)<|aG (aQ 3<|w2 gIx (wN 3)<|wF i4<|aC (wN 0)<|aC (wC<|.int<|12) aA)<|aG (aQ 4<|wL<|aY<|aC (w2 gAdd (w2 gAdd (bO (wN 1) dY<|dv<|wN 2)<|aZ<|aC (wN 3) aA)<|bO (wN 1) (dv<|w2 gAdd (wN 2)<|wC<|.int<|1) dY)<|aC (w2 gAdd (wN 1)<|aZ<|aC (wN 3) aA)<|aC (bO (wN 1) (dv<|wC<|.int<|1) dY)<|aC (w2 gAdd (wN 1)<|bO (wN 1) dY<|dv<|wC<|.int<|1)<|aC (wL<|aB (fA (α:=Unit))<|aC (wN 1) aA)<|aC (wC D.non)<|aC (wC<|.int<|0)<|aC (wC .dic)<|aC (aZ<|aC (wN 1) aA) aA)<|aM<|w2 gIx (wN 4)<|wF i4<|aC (wN 0)<|aC (wC<|.int<|9) aA)
abbrev Zco:List Str:=["_law_size", "_law_thing", "_law_one"]
def BX:WS:=(aG (cN (e8 (bS<|wT<|wB gIs<|aC (wN 1)<|aC (wC<|.ty "tuple") aA)<|wT<|w2 (gEq true) (wB bH<|aC (wN 1) aA)<|wN 0) (aM<|wC<|D.bl false) cP)<|aG (bA<|bP (iS<|wN 1) (gN 2)<|aG (cN (e8 (bS<|wT<|wB gIs<|aC (wN 2)<|aC (wC<|.ty "tuple") aA)<|e8 (wT<|w2 (gEq true) (wB bH<|aC (wN 2) aA)<|wC<|.int<|2)<|e8 (bS<|wT<|wF uo<|aC (w2 gIx (wN 2)<|wC<|.int<|0) aA)<|bS<|wT<|wF uo<|aC (w2 gIx (wN 2)<|wC<|.int<|1) aA) (aM<|wC<|D.bl false) cP)<|cN (e8 (wT<|w2 eS (w2 gIx (wN 2)<|wC<|.int<|1)<|wC<|.int<|1)<|wT<|w2 (gEq true) (wF nG<|aC (w2 gIx (wN 2)<|wC<|.int<|0)<|aC (w2 gIx (wN 2)<|wC<|.int<|1) aA)<|wN 2) (aM<|wC<|D.bl false) cP)<|aM<|wC<|D.bl true)
def sm:Nat->(Nat->Rat)->Rat
 |0,_=>0|n+1,f=>f 0+sm n λi=>f<|i+1
theorem zm:∀{n:Nat} {f g:Nat->Rat},(∀i,i<n->f i=g i)->sm n f=sm n g
 |0,_,_,_=>rfl|n+1,f,g,h=>by rw[sm,sm,h 0<|by omega,zm λi hi=>h (i+1)<|by omega]
theorem EU:∀(n:Nat) (f g:Nat->Rat),sm n (λi=>f i+g i)=sm n f+sm n g
 |0,_,_=>by rw[sm,sm,sm,nW]|n+1,f,g=>by rw[sm,sm,sm,EU n (λi=>f<|i+1) λi=>g<|i+1];grind
theorem BY:∀(n:Nat) (c:Rat) (f:Nat->Rat),c*sm n f=sm n λi=>c*f i
 |0,c,_=>by rw[sm,sm,Rat.mul_zero]|n+1,c,f=>by rw[sm,sm,<-BY n c λi=>f<|i+1];grind
theorem EV:∀{n:Nat} {f:Nat->Rat},(∀i,i<n->f i=0)->sm n f=0
 |0,_,_=>rfl|n+1,f,h=>by rw[sm,h 0<|by omega,EV λi hi=>h (i+1)<|by omega,nW]
theorem EW(m:Nat):∀(n:Nat) (f:Nat->Nat->Rat),(sm n λi=>sm m λj=>f i j)=sm m λj=>sm n λi=>f i j
 |0,f=>by rw[sm];exact(EV λ_ _=>rfl).symm|n+1,f=>by rw[sm,EW m n λi j=>f (i+1) j,<-EU];rfl
theorem zn:∀(n:Nat) (f g:Nat->Rat),cI ((List.range n).map f) ((List.range n).map g)=sm n λi=>f i*g i
 |0,_,_=>rfl|n+1,f,g=>by rw[List.range_succ_eq_map,cR,cR,cY,cY,cI,sm,<-zn n (λi=>f<|i+1) λi=>g<|i+1];rfl
theorem BZ{α:Type}(r:List α)(d:α):r=(List.range r.length).map λi=>r.getD i d:=by
 refine qC λi=>?_;rcases fS i r.length with h|h
 rw[cH,jM h,rD,bN,bJ h];rfl;rw[eD h,eD<|by simpa using h]
def EY{α:Type}{f g:Nat->α}(h:∀i,i<n->f i=g i):(List.range n).map f=(List.range n).map g:=
 iO λi hi=>h i<|Yah.mp hi
def fe(s:List Int)(n i j:Nat):Int:=s.getD (n-1-i+j) 0
theorem B0(h:IsSl s n):tbl s n=(List.range n).map λi=>(List.range n).map λj=>fe s n i j:=by
 unfold tbl;refine EY λi hi=>qC λj=>?_;have hl:=h.len;rcases fS j n with hj|hj
 rw[Ac hj,List.getElem?_drop,cH,jM hj,bJ<|by omega];unfold fe;rw[rD,bN,bJ<|by omega];rfl;rw[eD (by rw[jL];omega),eD<|by simpa using hj]
theorem IsSl.rev(h:IsSl s n):IsSl s.reverse n:=⟨by rw[uK];exact h.len,h.n1,h.n5,λx hx=>h.b x<|Ycp.mp hx⟩
theorem J4(h:IsSl s n)(hi:i<n)(hj:j<n):fe s.reverse n i j=fe s n j i:=by have hl:=h.len;unfold fe;rw[bN,bN,List.getElem?_reverse<|by omega];congr 2;omega
theorem B4(h:IsSl s n)(hr:r.length=n):cX s n r=(List.range n).map λi=>sm n λj=>(fe s n i j:Rat)*r.getD j 0:=by
 unfold cX;rw[B0 h,cY];refine EY λi hi=>?_;show cI (d7<|(List.range n).map λj=>fe s n i j) r=_;unfold d7;rw[cY];conv=>lhs;rw[BZ r 0,hr]
 exact zn n _ _
theorem EZ{o:List Rat}(h:IsSl s n)(hr:r.length=n)(ho:o.length=n):cI o (cX s n r)=cI r (cX s.reverse n o):=by
 rw[B4 h hr,B4 h.rev ho];conv=>lhs;rw[BZ o 0,ho]
 conv=>rhs;rw[BZ r 0,hr]
 rw[zn,zn];have e1:(sm n λi=>o.getD i 0*sm n λj=>(fe s n i j:Rat)*r.getD j 0)=sm n λi=>sm n λj=>o.getD i 0*((fe s n i j:Rat)*r.getD j 0):=zm λi _=>BY _ _ _;rw[e1,EW];refine zm λj hj=>?_;rw[BY];refine zm λi hi=>?_;rw[J4 h hj hi];grind
def bW(n p:Nat):List Rat:=(List.range n).map λj=>if j=p then 1 else 0
def B5{g:WG}{zb:WS}{E:Ex->Prop}{N:Nds}(I:bZ->Prop):∀(ds:List D),(∀d∈ds,∀ρ,I ρ->∀nx:bZ->Prop,(∀ρ,I ρ->nx ρ)->g d ρ λρ1=>zb E { nx:=nx,rt:=N.rt,bk:=N.nx,ct:=nx } ρ1)->(∀ρ,I ρ->N.nx ρ)->∀ρ,I ρ->Zbb g zb E N ds ρ
 |[],_,hn,ρ,i=>hn ρ i|d::ds,h,hn,ρ,i=>h d (kP ..) ρ i _<|B5 I ds (λd hd=>h d<|ip _ hd) hn
def zp{g:WG}{zb:WS}{E:Ex->Prop}{N:Nds}(I:List D->bZ->Prop)(h:∀d ds ρ,I (d::ds) ρ->∀nx:bZ->Prop,(∀ρ,I ds ρ->nx ρ)->g d ρ λρ1=>zb E { nx:=nx,rt:=N.rt,bk:=N.nx,ct:=nx } ρ1)(hn:∀ρ,I [] ρ->N.nx ρ):∀(ds:List D) ρ,I ds ρ->Zbb g zb E N ds ρ
 |[],ρ,i=>hn ρ i|d::ds,ρ,i=>h d ds ρ i _<|zp I h hn ds
theorem jX(n:Nat):rng 0 n=(List.range n).map λ(k:Nat)=>D.int (k:Int):=by unfold rng;exact iO λk _=>by rw[Int.zero_add]
section
variable{QI:Int->Prop}{QB:Bool->Prop}{i j:Int}{b:Bool}{o o':Option Int}
def i5:isB QB (.bl b)=QB b:=rfl
def mq:isI QI (.int i)=QI i:=rfl
def oj:isL QL (.lst xs)=QL xs:=rfl
def ol:isL QL (iC s)=QL (s.map .int):=rfl
def om:isL QL (jt s n)=QL ((tbl s n).map iC):=rfl
def oq:yK QL (.tup xs)=QL xs:=rfl
def ot:isS QL (.lst xs)=QL xs:=rfl
def ou:isS QL (.tup xs)=QL xs:=rfl
def oy:isS QL (aF r)=QL (r.map aN):=rfl
def oz:isS QL (aR s)=QL (s.map .int):=rfl
def oA:isS QL (iC s)=QL (s.map .int):=rfl
def oB:isS QL (jt s n)=QL ((tbl s n).map iC):=rfl
def oC:bH [.tup xs] Q=Q (.int xs.length):=rfl
def oD:bH [.lst xs] Q=Q (.int xs.length):=rfl
def oE:bH [.scr xs] Q=Q (.int xs.length):=rfl
theorem oF:bH [aF r] Q=Q (.int r.length):=by show Q (.int ((r.map aN).length:Int))=_;rw[bG]
theorem oG:bH [aR s] Q=Q (.int s.length):=by show Q (.int ((s.map D.int).length:Int))=_;rw[bG]
theorem oH:bH [iC s] Q=Q (.int s.length):=by show Q (.int ((s.map D.int).length:Int))=_;rw[bG]
theorem oJ:bH [jt s n] Q=Q (.int n):=by show Q (.int (((tbl s n).map iC).length:Int))=_;rw[bG,tm]
def oK:gIx (.tup xs) (.int i) Q = ∃d,dW xs i=some d/\Q d:=rfl
def oM:gIx (.lst xs) (.int i) Q = ∃d,dW xs i=some d/\Q d:=rfl
def oN:gIx (.scr xs) (.int i) Q = ∃d,dW xs i=some d/\Q d:=rfl
def oO:gIx (aF r) (.int i) Q = ∃d,dW (r.map aN) i=some d/\Q d:=rfl
def oP:gIx (aR s) (.int i) Q = ∃d,dW (s.map .int) i=some d/\Q d:=rfl
def oQ:gIx (iC s) (.int i) Q = ∃d,dW (s.map .int) i=some d/\Q d:=rfl
def oR:gIx (jt s n) (.int i) Q = ∃d,dW ((tbl s n).map iC) i=some d/\Q d:=rfl
def oS:gCut (.tup xs) o o' Q=Q (.tup<|bB xs o o'):=rfl
def oU:gCut (.lst xs) o o' Q=Q (.lst<|bB xs o o'):=rfl
def oV:gCut (.scr xs) o o' Q=Q (.lst<|bB xs o o'):=rfl
def oW:gCut (aF r) o o' Q=Q (.tup<|bB (r.map aN) o o'):=rfl
def oX:gCut (aR s) o o' Q=Q (.tup<|bB (s.map .int) o o'):=rfl
def oY:gCut (iC s) o o' Q=Q (.lst<|bB (s.map .int) o o'):=rfl
def oZ:gCut (jt s n) o o' Q=Q (.lst<|bB ((tbl s n).map iC) o o'):=rfl
def o1:gRev (.tup xs) Q=Q (.tup xs.reverse):=rfl
def o4:gRev (.lst xs) Q=Q (.lst xs.reverse):=rfl
theorem o7:gRev (aF r) Q=Q (aF r.reverse):=by show Q (.tup (r.map aN).reverse)=_;rw[<-rF];rfl
theorem o8:gRev (aR s) Q=Q (aR s.reverse):=by show Q (.tup (s.map D.int).reverse)=_;rw[<-rF];rfl
theorem o9:gRev (iC s) Q=Q (iC s.reverse):=by show Q (.lst (s.map D.int).reverse)=_;rw[<-rF];rfl
def pj{α:Type}:fA (α:=α) [.tup xs] QL=QL xs:=rfl
def pk{α:Type}:fA (α:=α) [.lst xs] QL=QL xs:=rfl
def pp{α:Type}:fA (α:=α) [aR s] QL=QL (s.map .int):=rfl
def pv:jF [.tup xs] Q=Q (.tup xs):=rfl
def pz:jF [.lst xs] Q=Q (.tup xs):=rfl
def pA:jF [iC s] Q=Q (aR s):=rfl
def pB:gAdd (.int i) (.int j) Q=Q (.int<|i+j):=rfl
def Zd:gAdd (.lst xs) (.lst ys) Q=(xs.length+ys.length<=small/\Q (.lst<|xs++ys)):=rfl
def pC:gAdd (.tup xs) (.tup ys) Q=(xs.length+ys.length<=small/\Q (.tup<|xs++ys)):=rfl
def pE:gMul (.int i) (.int j) Q=(qR i j/\Q (.int<|i*j)):=rfl
def pF:gMul (.lst xs) (.int j) Q=(j<1000/\-1000<j/\xs.length*j.toNat<=small/\Q (.lst (List.replicate j.toNat xs).flatten)):=rfl
def fK{C:Int->Int->Prop}{kd:Int->Int->D}:gI2 C kd (.int i) (.int j) Q=(C i j/\Q (kd i j)):=rfl
def pG:jo [.int i] Q=Q (.int (if i<0 then -i else i)):=rfl
def pH:kF [.int i,.int j] Q=Q (.int (if j>i then j else i)):=rfl
def nI:fD [.bl b] Q=Q (.int (if b then 1 else 0)):=rfl
def pI:fD [.int i] Q=Q (.int i):=rfl
def pJ:iA [.lst xs] Q = ∃bs:List Bool,xs=bs.map D.bl/\Q (.bl<|bs.all id):=rfl
def iD:i1 QL [.int j]=(-10000<=j/\j<10000/\QL (rng 0 j.toNat)):=rfl
def iF:i2 QL [.int i,.int j]=((-10000<=i/\i<10000/\-10000<=j/\j<10000)/\QL (rng i (j-i).toNat)):=rfl
end
def eT:Nat->List D->List D
 |_,[]=>[]|i,x::xs=>.tup [.int i,x]::eT (i+1) xs
def iE(t:WA):WA:=λE ρ Q=>t E ρ λds=>match ds with|[x]=>isS (λxs=>Q<|eT 0 xs) x|_=>False
local macro_rules | `(tactic| walk_at "w")=>`(tactic| simp only [iE,aM,cN,aQ,cP,jp,bD,bM,bP,ls,eQ,dA,dk,jr,fc,ml,bA,jH,f9,wM,ZcI,iX,gE,kz,dE,e8,bS,wT,j4,w1,w2,wB,wF,wL,aZ,bO,Zbk,aB,aY,aC,aA,aLC,ZbC,cE,iS,iL,iT,dU,lg,iZ,dY,dv,wN,wC,gN,dw,cB,dj,eh,mj,fH,ef,eR,aBor,gG,d6,fG,gH,fb,pub,cR,gX,d8,kT,i6,dC,List.replicate,db,de,eX,eY,Nat.reduceSub,Nat.reduceAdd,gW,l0,true_and,dD,if_true,if_false,ite_true,ite_false,iN,eP,l5,
 i5,mq,oj,ol,om,oq,ot,ou,oy,oz,oA,oB,oC,oD,oE,oF,oG,oH,oJ,oK,oM,oN,oO,oP,oQ,oR,oS,oU,oV,oW,oX,oY,oZ,o1,o4,o7,o8,o9,pj,pk,pp,pv,pz,pA,pB,Zd,pC,pE,pF,fK,pG,pH,nI,pI,pJ,iD,iF])
local macro_rules | `(tactic| walk_at "n")=>`(tactic| ((try dsimp only);(refine bU ?_);walk_at "s"))
def Ka:Rd uo J3 Zgi:=Ey
theorem wx:∀n∈LX,nr n=n:=by decide +kernel
theorem qv{n m:Str}(h:n∈LX)(hm:m∈MX)(q:Q (.bl<|n==m)):gIsX LX MX [.exc n,.cls m] Q:=⟨h,hm,by rw[wx n h];exact q⟩
theorem Kb:∀ds E Q,zg ds E Q->BW No { nx:=λ_=>Q .non,rt:=Q } (fb Zdc ds):=by
 rintro _ E Q ⟨n,rfl,hn,q⟩;unfold BW;walk_at "n";refine qv hn (by simp)<|qv hn (by simp) (qv hn (by simp)<|qv hn (by simp) ⟨by decide,?_⟩);walk_at "n";refine qv hn (by simp)<|qv hn (by simp) (qv hn (by simp) ⟨by decide,?_⟩);walk_at "s";refine⟨by decide,?_⟩;walk_at "n";refine qv hn (by simp)<|qv hn (by simp) ⟨by decide,?_⟩;walk_at "s";refine⟨by decide,?_⟩;have key:(MX.map (n == ·)).countP (· == true)=1/\∃j:Nat,(MX.map (n == ·))[j]? = some true/\(∀i<j,(MX.map (n == ·))[i]?≠some true)/\[D.str "slants",.str "row",.str "number",.str "line",.str "even",.str "full",.str "strong",.str "text",.str "great"][j]? = some (.str<|um n):=by
  simp only[LX,Yan,eA,or_false]at hn;rcases hn with rfl|rfl|rfl|rfl|rfl|rfl
  exact⟨by decide +kernel,0,by decide +kernel,by decide +kernel,rfl⟩;exact⟨by decide +kernel,1,by decide +kernel,by decide +kernel,rfl⟩;exact⟨by decide +kernel,2,by decide +kernel,by decide +kernel,rfl⟩;exact⟨by decide +kernel,3,by decide +kernel,by decide +kernel,rfl⟩;exact⟨by decide +kernel,4,by decide +kernel,by decide +kernel,rfl⟩;exact⟨by decide +kernel,5,by decide +kernel,by decide +kernel,rfl⟩
 obtain⟨k1,j,k2,k3,k4⟩:=key;walk_at "n";refine⟨hn,rfl,?_⟩;walk_at "s";refine⟨⟨_,rfl⟩,⟨MX.map (n == ·),true,rfl,rfl,?_⟩⟩;rw[k1];walk_at "s";refine⟨by decide,⟨_,rfl⟩,MX.map (n == ·),true,j,rfl,rfl,k2,k3,?_⟩;exact⟨_,bQ k4,q⟩
theorem Kc:Rd zk ES ZcA:=by
 rintro _ E Q ⟨x,rfl,hk,q⟩;unfold ES;walk_at "n";refine mn hk (by decide) λt ht=>?_;cases x<;>cases ht<;>try exact q
 rename_i xs;obtain⟨hl,hx⟩:=qt hk;walk_at "s";simp only[show fZ "tuple" "tuple" = true from rfl,eP,dD,if_false];refine⟨by decide,xs.length,[1,3,5,7,9],rfl,.inr rfl,?_⟩;walk_at "s";have e1:([1,3,5,7,9]:List Int).contains (xs.length:Int)=(decide (xs.length%2=1)&&decide (xs.length<=9)):=by rw[gM,dQ,Nf,Nf,List.contains_iff_mem];simp only[Yan,eA,or_false];omega
 rw[e1];replace q:Q (.bl (xs.all (kJ (-50) 50)&&decide (xs.length%2=1)&&decide (xs.length<=9))):=q;rw[Bool.and_assoc]at q;cases e2:(decide (xs.length%2=1)&&decide (xs.length<=9)) with
 |false=>rw[e2,Bool.and_false]at q;exact q
 |true=>
  rw[e2,uL]at q;simp only[eP,dD,if_false];walk_at "s";refine qW (f:=λd=>.bl<|kJ (-50) 50 d) (λd hd Q hq=>?_) .un [] (by simp[small];omega) ?_;walk_at "s";refine BV (hx d hd) ?_;cases hw:mm d with
  |false=>
   have:kJ (-50) 50 d=false:=by cases d<;>first|rfl|cases hw
   rw[this]at hq;exact hq
  |true=>obtain⟨i,rfl⟩:=wj hw;simp only[isB,if_true,gI2,true_and];by_cases h:-50<=i;simp only[h,decide_true,if_true];simpa[kJ,h] using hq;simp only[h,decide_false,if_false,dD];simpa[kJ,h] using hq
  refine⟨xs.map<|kJ (-50) 50,by simp,?_⟩;simpa[uN,Function.comp_def] using q
theorem E2(a b c d:Int):iB (.tup [.int a,.int b]) (.tup [.int c,.int d])=(a==c&&b==d):=by simp[iB,pd,fo,PyData.eqv,PyData.eqvAll]
theorem Kd{i j:Int}(h:0<j):iB (aN<|Rat.divInt i j) (.tup [.int i,.int j])=cS (.tup [.int i,.int j]):=by
 cases e:cS (.tup [.int i,.int j]) with
 |true=>
  obtain⟨q,hq⟩:=D6 e;have hq':=hq;unfold aN at hq';injection hq' with h1
  injection h1 with h2 h3
  injection h3 with h4 _
  injection h2 with h2
  injection h4 with h4
  have:Rat.divInt i j=q:=by rw[h2,h4];exact xY q
  rw[this,hq];exact DV (n:=60)<|vU _ (by decide) (uf (n:=1) λx hx=>by
   simp only[Yan,eA,or_false]at hx;rcases hx with rfl|rfl<;>exact ue _ _)
 |false=>
  cases e2:iB (aN<|Rat.divInt i j) (.tup [.int i,.int j]) with
  |false=>rfl
  |true=>
   unfold aN at e2;rw[E2,dQ,NE,NE]at e2;have:=D5<|Rat.divInt i j;unfold aN at this;rw[e2.1,e2.2,e]at this;cases this
theorem E3(a b:Int):cW (.tup [.int a,.int b]) 60=true:=vU _ (by decide) (uf (n:=1) λx hx=>by
 simp only[Yan,eA,or_false]at hx;rcases hx with rfl|rfl<;>exact ue _ _)
def tz{P:D->Prop}(h:k<xs.length)(hp:∀x∈xs,P x):∃d,dW xs (k:Int)=some d/\P d:=⟨xs[k],bQ<|bJ h,hp _<|gu h⟩
theorem B6{a b:Option Int}(h:∀x∈xs,kd x=true):∀x∈bB xs a b,kd x=true:=λx hx=>h x (by unfold bB at hx;exact mD<|pR hx)
theorem wy{a b:Option Int}:(bB xs a b).length<=xs.length:=by unfold bB;rw[jL,kR];omega
def zq(h:xs.length+ys.length<=small)(q:Q (.tup<|xs++ys)):gAdd (.tup xs) (.tup ys) Q:=⟨h,q⟩
theorem du(h:n<=5000):n<=small:=by unfold small;omega
theorem Ke:Rd zj ER ZdW:=by
 rintro _ E Q ⟨⟨s,n⟩,rfl,h,q⟩;dsimp only at h q;have h9:=h.l9;unfold ER;walk_at "n";refine j5 (n:=s.length+1) (by omega) (by omega) λk hk=>?_;walk_at "s";walk_at "n";refine⟨by decide,⟨by decide,by decide,by decide⟩,by decide,j5 (n:=7) (by decide) (by decide) λk7 hk7=>?_⟩;obtain ⟨odd,hat,hodd⟩:=tz (P:=λd=>kd d=true) (xs:=[D.int 51,D.int (-51),D.bl true,D.non,D.str "0",D.tup [D.int 0],D.int<|10 ^ Int.toNat 30]) (k:=k7) (by simpa using hk7) (by
  intro x hx;simp only[Yan,eA,or_false]at hx;rcases hx with rfl|rfl|rfl|rfl|rfl|rfl|rfl<;>first|(rw[kd];done)|exact lQ (by decide)<|by simp[kd])
 refine⟨_,hat,?_⟩;walk_at "n";have hc1:(bB (s.map D.int) none<|some (k:Int)).length<=9:=by have:=wy (xs:=s.map D.int) (a:=none) (b:=some (k:Int));rw[bG]at this;omega
 have hc2:(bB (s.map D.int) (some<|(k:Int)+1) none).length<=9:=by have:=wy (xs:=s.map D.int) (a:=some<|(k:Int)+1) (b:=none);rw[bG]at this;omega
 have hks:∀x∈s.map D.int,kd x=true:=λx hx=>by obtain⟨i,_,rfl⟩:=YbQ.mp hx;rw[kd]
 have hk1:=B6 (a:=none) (b:=some (k:Int)) hks;have hk2:=B6 (a:=some<|(k:Int)+1) (b:=none) hks;generalize bB (s.map D.int) none (some (k:Int))=c1 at hc1 hk1 ⊢;generalize bB (s.map D.int) (some<|(k:Int)+1) none=c2 at hc2 hk2 ⊢;obtain⟨m,hm,hm1⟩:∃m:Nat,(if((k:Int)==(s.length:Int))=true then(1:Int) else 0)=m/\m<=1:=by
  split
  .exact⟨1,rfl,by omega⟩
  .exact⟨0,rfl,by omega⟩
 rw[hm,iN];have hrep:(List.replicate m [odd]).flatten=List.replicate m odd:=by rcases(show m=0\/m=1 by omega) with rfl|rfl<;>rfl
 rw[hrep];refine⟨by decide,du<|by omega,du (by simp;omega),by decide,by omega,by omega,du<|by omega,du (by simp;omega),by decide,zq (du (by simp;omega)) ⟨by decide,?_⟩⟩;walk_at "n";refine⟨by decide,by decide,by decide,by decide,by decide,by decide,by decide,by decide,by decide,by decide,by decide,by decide,j5 (n:=12) (by decide) (by decide) λk12 hk12=>?_⟩;obtain ⟨d,hd,hkd⟩:=tz (P:=λd=>kd d=true/\sX d=false) (xs:=[D.tup<|c1++[odd]++c2++List.replicate m odd,D.tup<|List.map D.int s++[D.int 0],D.lst<|List.map D.int s,D.tup [],D.tup (List.replicate (Int.toNat 11) [D.int 1]).flatten,
   D.tup (List.replicate (Int.toNat 2) [D.int 0]).flatten,D.non,D.int 5,D.dic,D.str "0",D.tup [aR s],D.tup<|bB (List.map D.int s) (some 1) none]) (k:=k12) (by simpa using hk12) (by
  intro x hx;simp only[Yan,eA,or_false]at hx;have nt:∀ys,sX (.tup ys)=false:=λ_=>rfl;rcases hx with rfl|rfl|rfl|rfl|rfl|rfl|rfl|rfl|rfl|rfl|rfl|rfl
  all_goals refine⟨?_,by first|rfl|exact nt _|(cases s<;>rfl)⟩
  .refine lQ (by simp;omega) λx hx=>?_
   simp only[Yao,Yan,eA,or_false,Ycr]at hx;rcases hx with((hx|rfl)|hx)|⟨_,rfl⟩
   .exact hk1 x hx
   .exact hodd
   .exact hk2 x hx
   .exact hodd
  .refine lQ (by simp;omega) λx hx=>?_
   simp only[Yao,Yan,eA,or_false]at hx;rcases hx with hx|rfl
   .exact hks x hx
   .rw[kd]
  .exact vV (by simp;omega) hks
  .exact lQ (by simp) (by simp)
  .exact lQ (by decide) (by simp[List.replicate,kd])
  .exact lQ (by decide) (by simp[List.replicate,kd])
  .rw[kd]
  .rw[kd]
  .rw[kd]
  .rw[kd]
  .exact lQ (by simp) λx hx=>by rw[Ycw.mp hx];exact Zl (by omega)
  .exact lQ (by have:=wy (xs:=s.map D.int) (a:=some 1) (b:=none);rw[bG]at this;omega)<|B6 hks)
 exact⟨d,hd,q d hkd⟩
def gd(d:D):Prop:=kd d=true/\cZ 72 d=true
theorem B7:∀(n:Nat) (f:Nat->Rat),sm (n+1) f=sm n f+f n
 |0,f=>by rw[sm,sm,sm];grind|n+1,f=>by rw[sm,B7 n λi=>f<|i+1,sm];grind
theorem E4{m:Nat}:∀{n:Nat} {f:Nat->Rat},(∀i,i<n->Sz m (f i))->Sz (n*(m+1)+1) (sm n f)
 |0,f,_=>by rw[sm];exact Sz.zero (by omega)|n+1,f,h=>by rw[B7];refine((E4 λi hi=>h i<|by omega).add<|h n<|by omega).mono ?_;rw[nQ];omega
theorem uq{E:Ex->Prop}(I:Nat->bZ->Prop)(n:Nat)(h:∀k,k<n->∀ρ,I k ρ->∀nx:bZ->Prop,(∀ρ,I (k+1) ρ->nx ρ)->g (.int k) ρ λρ1=>zb E { nx:=nx,rt:=N.rt,bk:=N.nx,ct:=nx } ρ1)(hn:∀ρ,I n ρ->N.nx ρ)(ρ:bZ)(h0:I 0 ρ):Zbb g zb E N (rng 0 n) ρ:=by
 refine zp (λds ρ=>∃k,k<=n/\ds=(rng 0 n).drop k/\I k ρ) ?_ ?_ _ ρ ⟨0,iq _,by rw[pQ],h0⟩;rintro d ds ρ ⟨k,hk,e,i⟩ nx hnx;have hlen:(rng 0 n).length=n:=by unfold rng;simp
 have hkn:k<n:=by
  rcases fS k n with z|z
  exact z;rw[List.drop_eq_nil_of_le<|by omega]at e;cases e
 rw[nU<|by omega]at e;injection e with e1 e2
 have e3:(rng 0 n)[k]'(by omega)=.int k:=by unfold rng;simp
 rw[e1,e3];exact h k hkn ρ i nx λρ' i'=>hnx ρ' ⟨k+1,hkn,e2,i'⟩;rintro ρ ⟨k,hk,e,i⟩;have hlen:(rng 0 n).length=n:=by unfold rng;simp
 have hkn:k=n:=by
  rcases fS k n with z|z
  rw[nU<|by omega]at e;cases e;omega
 subst hkn;exact hn ρ i
theorem E5:bootBuiltins "repr" = some (.builtin "repr"):=by decide +kernel
theorem Kf:bootBuiltins "ValueError" = some (.type "ValueError"):=by decide +kernel
theorem clsX_of{D:Addr}(g:PySem.W.findIn K (.ref D) "__getattribute__" = some (some<|.builtin "BaseException.__getattribute__"))(gn:PySem.W.findIn K (.ref D) "__getattr__" = some none)(be:PySem.W.mroIn K D (.type "BaseException")=some true)(h:PySem.W.hasDictIn K D=true)(a:PySem.W.findIn K (.ref D) "__class__" = some (some<|.builtin "object.__class__"))(gt:PySem.W.specialIn K (.builtin "object.__class__") "__get__" = some (some<|.builtin "getset_descriptor.__get__"))(tk:PySem.W.takesIn K (.builtin "object.__class__")=some true)(ob:PySem.W.mroIn K D (.type "object")=some true):iy K D:=
 ⟨g,gn,be,by obtain⟨cd,hc,_⟩:=PySem.W.any_some h;rw[hc];rfl,a,gt,tk,ob⟩
section
def gNeS:G2:=λx y Q=>∃a b,x=.str a/\y=.str b/\Q (.bl (!(a==b)))
def gNeS.mono:∀x y P P',(∀d,P d->P' d)->gNeS x y P->gNeS x y P':=λx y P P' hp ⟨a,b,h1,h2,h3⟩=>⟨a,b,h1,h2,hp _ h3⟩
theorem wz:gS X (compareOp .NotEq) gNeS:=by
 refine⟨⟨_,vc,λW H x y dx dy Q ok rx ry hg=>?_⟩,gNeS.mono⟩;obtain⟨a,b,rfl,rfl,q⟩:=hg;cases rx;cases ry;have e:decide (V.str a=V.str b)=(a==b):=by rw[gM];simp
 rw[<-e]at q;exact⟨rfl,q.now ok<|.bl _⟩
end
theorem Kg{i:Int}(hk:0<k)(h:i.natAbs<2^k):i.natAbs.log2<k:=by by_cases z:i.natAbs=0;rw[z];simpa using hk;exact(Nat.log2_lt z).mpr h
theorem E6(h:(reprText x).length<=sizeLine)(q:Q (.str<|PyData.shown<|.str x)):Zhk [.str x] Q:=⟨.str x,.str x,rfl,rfl,rfl,rfl,by rw[PyData.depth];omega,by rw[PyData.shown];exact h,q⟩
theorem E7(q:Q (.bl false)):gNeS (.str x) (.str x) Q:=⟨x,x,rfl,rfl,by rw[Nu];exact q⟩
section
theorem E9{T:TE}(k:∀W0 H0 W σ H ρ E Q,SOk X.K W0 H0 W σ H ρ->jn X.K W0 H0 E EX->t E ρ (λds=>∀a vs W' H',Ext W H W' H'->H' a=some (.lst vs)->W'.G a=none->¬W'.Pn a->H a=none->Reps X.K W' vs ds->Q (.ref a) H')->T σ H Q)
  (m:∀E ρ P P',(∀d,P d->P' d)->t E ρ P->t E ρ P') (i:Nat):∀W0 H0 W σ H ρ E Q,SOk X.K W0 H0 W σ H ρ->jn X.K W0 H0 E EX->aBor i t E ρ (λds=>∀a vs W' H',Ext W H W' H'->H' a=some (.lst vs)->W'.G a=none->¬W'.Pn a->H a=none->Reps X.K W' vs ds->Q (.ref a) H')->T σ H Q:=by
 intro W0 H0 W σ H ρ E Q s eo h;unfold aBor at h;rcases s.lend i with ep|⟨a,us,s',e3,e2,e6⟩
 .rw[ep]at h
  exact k W0 H0 W σ H ρ E Q s eo<|m _ _ _ _ (λd hd=>hd.2) h
 .refine k W0 H0 _ σ H _ E Q s' eo (m _ _ _ _ (λd hd b vs W2 H2 x2 h1 h2 h3 h4 r2=>?_) h)
  have hb:b≠a:=λz=>by rw[z,e2]at h4;cases h4
  exact hd.2 b vs _ H2 (x2.bor e3) h1 (by rw[Wd.rem_ne hb];exact h2) h3 h4<|r2.rem (x2.g _ _ e6) hd.1
theorem Kh(i j:Nat)(vars:List Str)(sel:List Nat)(hc:X.calm=true)(hN:X.N.Nodup)(hi:kG X EX target iter wi)(hg:∀s H fp,lP (X.lc sc vars sel s H fp) target g)(hf:∀s H fp,n4 (X.lc sc vars sel s H fp) E0 ifs wf)(he:∀s H fp,PX (X.lc sc vars sel s H fp) E0 elt we)
  (hix:X.N[i]? = some x:=by rfl) (hx:kf X.env.scope x:=by first|exact Or.inl rfl|exact Or.inr rfl)
  (hsw:swapsWith (.ListComp elt [⟨target,iter,ifs,0⟩] sc pos) (some<|.Name x pos') spos.line X.env=pure true:=by rfl)
  (ok:jC sc X.env.scope=true:=by rfl) (so:l8 X.N sc sel=true:=by rfl) (hs:∀x,foldedSetIterable iter X.env x=pure x:=by intro _;rfl) (hfn:X.fn x=true\/X.env.scope.names.lookup x=some .local:=by first|exact .inl rfl|exact .inr rfl|assumption) :
  PZ X EX (.Assign [.Name x pos'] (.ListComp elt [⟨target,iter,ifs,0⟩] sc pos) spos) (bM i<|aBor j<|aLC wi vars.length sel g wf we):=by
 obtain⟨ti,tg,tf,te,pi,pg,pf,pe,k⟩:=yL hi hg hf he;have am:=aLC.mono (vars:=vars) (sel:=sel) hi (hg {} (λ_=>none) []).mono (hf {} (λ_=>none) []).mono (he {} (λ_=>none) []).mono;refine⟨⟨_,A0 vars sel hc hN hix hx pi ok so pg pf pe hsw hs hfn,λW0 H0 F W σ H ρ E Dn N s fl eo no h=>?_⟩,λE ρ N N' hl q=>am _ _ _ _ (λ_ hq=>⟨hq.1,hl.nx _ hq.2⟩) q⟩;refine E9 k am j W0 H0 W σ H ρ E _ s eo<|am _ _ _ _ (λxs hd=>⟨hd.1,λa vs W1 H1 x1 e1 e2 e3 e4 r1=>no.nx W1 _ H1 _ (s.own x1 e4 e1 e2 e3 r1) (fl.ext x1) hd.2⟩) h
def Fa:D->Bool
 |.non=>true|.bl _=>true|_=>false
def B8:D->D->Bool
 |.non,.non=>true|.bl a,.bl b=>a==b|_,_=>false
def gIsC(neg:Bool):G2:=λx y Q=>Fa y=true/\Q (.bl (if neg then !B8 x y else B8 x y))
def gIsC.mono{neg:Bool}:∀x y P P',(∀d,P d->P' d)->gIsC neg x y P->gIsC neg x y P':=λ_ _ _ _ hp h=>⟨h.1,hp _ h.2⟩
theorem Ki{W:Wd}{x y:V}{v u:Value}{dx dy:D}(r1:Rep K W x dx)(r2:Rep K W y dy)(rx:RelV x v)(ry:RelV y u)(h:Fa dy=true):plainIs v u=true/\(v==u)=B8 dx dy:=by
 cases r2<;>first
  |(cases h;done)
  | (cases ry;cases r1<;>first
      |(cases rx;first|exact⟨rfl,rfl⟩|(rename_i a b;cases a<;>cases b<;>exact⟨rfl,rfl⟩))
      |(obtain⟨t,rfl⟩:=rx;exact⟨rfl,rfl⟩))
theorem Fb:gS X (compareOp .IsNot) (gIsC true):=by refine⟨⟨λx y H Q=>∃W dx dy,WOk W H/\Rep X.K W x dx/\Rep X.K W y dy/\gIsC true dx dy (RQ X.K W H Q),?_,λW H x y dx dy Q ok rx ry hg=>⟨W,dx,dy,ok,rx,ry,hg⟩⟩,gIsC.mono⟩;rintro sa s σ H x y v u Q I rx ry ⟨W,dx,dy,ok,r1,r2,h1,h2⟩;obtain⟨p,e⟩:=Ki r1 r2 rx ry h1;exact wpAny_isNot_plain p<|cG I (h2.now ok<|.bl _) (by rw[e];rfl)
end
mutual
def Kj:D->Option PyData
 |.non=>some .none|.bl b=>some<|.bool b
 |.int i=>some<|.int i
 |.str x=>some<|.str x
 |.tup xs=>(tB xs).map .tuple|.lst xs=>(tB xs).map .list|.dic=>some<|.dict []
 |_=>none
def tB:List D->Option (List PyData)
 |[]=>some []
 |x::r=>match Kj x,tB r with
  |some a,some b=>some (a::b)|_,_=>none
end
mutual
def Fc:D->Bool
 |.lst _=>false|.tup xs=>wD xs|_=>true
def wD:List D->Bool
 |[]=>true|x::r=>Fc x&&wD r
end
mutual
def bx(b:Nat):D->Nat->Bool
 |.non,_=>true|.bl _,_=>true|.int i,_=>decide (i.natAbs<2^90)|.str x,_=>decide (x.cps.size<=4)&&x.cps.toList.all λc=>decide (c<16^8)
 |.dic,_=>true|.tup xs,n=>decide (0<n)&&decide (xs.length<=b)&&B9 b xs (n-1)|.lst xs,n=>decide (0<n)&&decide (xs.length<=b)&&B9 b xs (n-1)|.pen,_=>false|.cls _,_=>false|.exc _,_=>false|.ty _,_=>false|.scr _,_=>false
def B9(b:Nat):List D->Nat->Bool
 |[],_=>true|x::r,n=>bx b x n&&B9 b r n
end
mutual
def Fd:D->Bool
 |.dic=>false|.tup xs=>tD xs|.lst xs=>tD xs|_=>true
def tD:List D->Bool
 |[]=>true|x::r=>Fd x&&tD r
end
def dl(x:D):Bool:=Fc x||Fd x
namespace B
theorem nm_at{E:Ex->Prop}(h:ρ[i]? = some (.d d)):∀P:D->Prop,P d->wN i E ρ P:=λP q=>by unfold wN;rw[h];exact q
end B
section
variable{ps:Pos}{a b:Expr}
theorem Fe:∀(i:Nat) (xs:List D),(eT i xs).length=xs.length
 |_,[]=>rfl|i,x::xs=>by rw[eT,d8,d8,Fe]
theorem Ff:∀(i j:Nat) (xs:List D) (d:D),(eT i xs)[j]? = some d->∃x,xs[j]? = some x/\d=.tup [.int ((i+j:Nat):Int),x]
 |_,_,[],_,h=>by simp[eT]at h|i,0,x::xs,d,h=>by rw[eT,db]at h;exact⟨x,rfl,(Ng h).symm⟩|i,j+1,x::xs,d,h=>by rw[eT,de]at h;obtain⟨y,e1,e2⟩:=Ff (i+1) j xs d h;exact⟨y,by rw[de];exact e1,by rw[e2,show i+1+j=i+(j+1) by omega]⟩
theorem Ca(hm:X.mg "enumerate" = none)(ha:jE X EX [a] t)(hg:Gl X "enumerate" :=by rfl)(hs:starEach [a] X.env=[(false,eval a X.env)]:=by rfl) :
  kG X EX (.Tuple es n1 ps) (.Call (.Name "enumerate" p) [a] [] pos) (iE t):=by
 obtain⟨t,q,k⟩:=ha.t;refine⟨⟨_,Ij hg hm q hs,λW0 H0 W σ H ρ E R s eo h=>?_⟩,λE ρ P P' hp h=>ha.mono _ _ _ _ (λds hd=>?_) h⟩
 .refine k W0 H0 W σ H ρ E _ s eo (ha.mono _ _ _ _ (λds hd vs W1 H1 x1 r1=>?_) h)
  split at hd
  .obtain⟨v,rfl,rv⟩:=r1.one
   obtain⟨κ,l,vs,xs,rfl,rr,hd,sq⟩:=rv.sq hd;refine⟨κ,l,rfl,⟨vs,sq W1 H1 (λ_ _ z=>z) x1.ok⟩,hd W1 H1 _ x1 λW2 H2 i g2 p2 ok2=>⟨λd hd=>?_,λhi=>?_⟩⟩
   .have s1:=sq W2 H2 g2 ok2
    obtain⟨x,ex,rfl⟩:=Ff 0 i xs d hd;obtain⟨vx,evx,rvx⟩:=rr.get ex;refine⟨⟨vs,vx,s1,evx⟩,λz H3 hy=>?_⟩;obtain⟨q,x',rfl,hq,rfl,e1⟩:=hy;have e1:=e1 _ s1;rw[evx]at e1;cases e1;have xt:=Ext.put (o:=.tup [.int i,vx]) ok2 hq;rw[Nat.zero_add];exact⟨_,xt,.tup (by unfold Wd.put;dsimp only;rw[aO])<|.cons (.int _)<|.cons (xt.rep<|rvx.mono g2 p2) .nil⟩
   .refine⟨vs,sq W2 H2 g2 ok2,?_⟩
    rw[rr.length];rw[Fe]at hi;omega
  .exact hd.elim
 .split at hd
  .exact isS.mono (λxs h1=>hp _ h1) _ hd
  .exact hd.elim
def tE(i:Nat)(wi wv:WE):WS:=λE N ρ=>match ρ[i]? with|some (.ow xs)=>wi E ρ (isI λk=>∃c j,dW xs k=some (.int c)/\jB xs.length k=some j/\wv E ρ (isI λd=>N.nx<|ρ.set i<|.ow<|xs.set j<|.int<|c+d))|_=>False
theorem Kk(i:Nat){wi:WE}(hix:PX X EX ix wi)(he:PX X EX e wv)(hN:X.N[i]? = some x:=by rfl)(hv:kU X.env.scope x:=by first|exact Or.inl rfl|exact Or.inr (Or.inl rfl)|exact Or.inr<|Or.inr rfl)(hd:(x==("__debug__" : Str))=false:=by decide)
  (hcd:(x==("__classdict__" : Str))=false:=by decide)
  (ha:∀ov iv new,augStore ix ov iv new=(do holding [new,ov,iv] (setItem ov iv new);release [new,ov,iv] [];pure .next):=by intros;rfl):PZ X EX (.AugAssign (.Subscript (.Name x p) ix spos) .Add e pos) (tE i wi wv):=by
 obtain⟨t,pe,k⟩:=he.t;obtain⟨ti,pi,ki⟩:=hix.t;refine⟨⟨_,p6 (dg hN hv hd hcd) pi Ik pe sk dN ha,λW0 H0 F W σ H ρ E Dn N s fl eo no h=>?_⟩,λE ρ N N' hl q=>?_⟩
 .unfold tE at h
  split at h
  .rename_i xs ex
   obtain⟨a,vs,e1,e2,e3,e4,e5,r⟩:=s.o i xs ex;refine⟨_,e1,ki W0 H0 W σ H ρ E _ s eo<|hix.mono _ _ _ _ (λdi hdi vi W1 H1 x1 r1=>?_) h⟩;obtain⟨kk,rfl,c,j,hat,hj,hw⟩:=md hdi;cases r1;obtain⟨v,hav,rv⟩:=yG (x1.reps r) hat;cases rv;refine⟨a,vs,kk,_,rfl,rfl,x1.h a _ e2 e4,hav,?_⟩;refine k W0 H0 W1 σ H1 ρ E _ (s.step x1) eo<|he.mono _ _ _ _ (λdd hdd vd W2 H2 x2 r2=>?_) hw;obtain⟨dn,rfl,hn⟩:=md hdd;cases r2;have xx:=x1.trans x2;have e2':=xx.h a _ e2 e4;refine⟨c,dn,rfl,rfl,a,vs,kk,j,rfl,rfl,e2',by rw[r.length];exact hj,?_⟩;exact no.nx W2 σ _ _ ((s.step xx).chg ex e1<|Reps.set (.int _) j<|xx.reps r) (fl.ext xx) hn
  .exact h.elim
 .unfold tE at q ⊢
  split at q
  .exact hix.mono _ _ _ _ (isI.mono λkk ⟨c,j,h1,h2,h3⟩=>⟨c,j,h1,h2,he.mono _ _ _ _ (isI.mono λd hd=>hl.nx _ hd) h3⟩) q
  .exact q.elim
end
section
variable{p1 ps sp1 sp2:Pos}{a b:Expr}
def M7(Q:D->D->Prop):D->Prop
 |.tup [x,y]=>Q x y|_=>False
def Cb(t:WA):WA:=λE ρ Q=>t E ρ λds=>match ds with|[.int n]=>0<=n/\n<=10000/\Q (rng 0 n.toNat)|_=>False
theorem Kl{W:Wd}(n:Nat):Reps K W ((List.range n).map λ(k:Nat)=>V.int (k:Int)) (rng 0 n):=by
 unfold rng;generalize List.range n=l;induction l with
 |nil=>exact .nil|cons x l ih=>exact .cons (by dsimp only;rw[Int.zero_add];exact .int _) ih
theorem Km(hml:X.mg "list" = none)(hmr:X.mg "range" = none)(ha:jE X EX [a] t)(hc:X.calm=true:=by rfl)(hgl:Gl X "list" :=by rfl)(hgr:Gl X "range" :=by rfl)
  (he:starEach [a] X.env=(false,eval a X.env)::starEach [] X.env:=by rfl) (hpl:(backTo p2<|starEach [] X.env).any (·.1)=false:=by rfl)
  (he2:starEach [.Call (.Name "range" p1) [a] [] p2] X.env=(false,eval (.Call (.Name "range" p1) [a] [] p2) X.env)::starEach [] X.env:=by rfl) (hpl2:(backTo pos<|starEach [] X.env).any (·.1)=false:=by rfl) :
  PXL X EX (.Call (.Name "list" p) [.Call (.Name "range" p1) [a] [] p2] [] pos) (Cb t):=by
 obtain⟨ta,pa,ka⟩:=ha.t;refine⟨⟨_,eN (Ip hc) hgl hml NF (gO (eN Im hgr hmr boot_range pa (by decide) (by decide) he hpl) je he2) (by decide) (by decide) he2 hpl2,λW0 H0 W σ H ρ E Q s eo h=>?_⟩,λE ρ P P' hp z=>ha.mono _ _ _ _ (λds hds=>?_) z⟩
 .refine ka W0 H0 W σ H ρ E _ s eo (ha.mono _ _ _ _ (λds hds vs W1 H1 x1 r1=>?_) h)
  split at hds
  .rename_i n
   obtain⟨v,rfl,rv⟩:=r1.one;cases rv;obtain⟨h0,h1,hq⟩:=hds;refine⟨n,rfl,λq hq1=>?_⟩;have xr:=Ext.new (o:=.rng 0 n) x1.ok hq1;refine⟨q,n.toNat,rfl,by rw[aO,xQ h0],by omega,λl hl=>?_⟩;have x2:=x1.trans xr;exact hq l _ W1 _ (x2.trans<|.new x2.ok hl) aO (x2.ok.fresh hl).1 (x2.ok.fresh hl).2 (x2.isN hl)<|Kl _
  .exact hds.elim
 .split at hds
  .exact⟨hds.1,hds.2.1,hp _ hds.2.2⟩
  .exact hds.elim
end
def Fg(f l:List Rat)(i j k:Nat):Rat:=f.getD (i-k) 0*l.getD (f.length-1-j+k) 0
def Kn(f l:List Rat)(i j k:Nat):Rat:=l.getD (i-k-1) 0*f.getD (f.length-j+k) 0
def sp(f l:List Rat)(i j:Nat):Nat->Rat
 |0=>0|k+1=>if k<min i j then sp f l i j k+Fg f l i j k-Kn f l i j k else sp f l i j k+Fg f l i j k
abbrev Zm9:List Str:=["one", "other"]
def Fh:WS:=(aM<|wF sV<|aC (w2 ei (w2 gMul (w2 gIx (wN 0)<|wC<|.int<|0)<|w2 gIx (wN 1)<|wC<|.int<|1)<|w2 gMul (w2 gIx (wN 1)<|wC<|.int<|0)<|w2 gIx (wN 0)<|wC<|.int<|1)<|aC (w2 gMul (w2 gIx (wN 0)<|wC<|.int<|1)<|w2 gIx (wN 1)<|wC<|.int<|1) aA)
abbrev N_by:List Str:=["one", "other"]
def wE:WS:=(aM<|wF sV<|aC (w2 gMul (w2 gIx (wN 0)<|wC<|.int<|0)<|w2 gIx (wN 1)<|wC<|.int<|1)<|aC (w2 gMul (w2 gIx (wN 0)<|wC<|.int<|1)<|w2 gIx (wN 1)<|wC<|.int<|0) aA)
theorem Ko:Rd uj Fh Zm9:=by
 rintro _ E Q ⟨⟨p,q⟩,rfl,hb,h⟩;obtain⟨b1,b2,b3,b4,b5,b6,b7,b8⟩:=hb.mul;unfold Fh;simp only[aM,wF,aC,w2,wN,wC,fb,cR,i6,db,de];refine re<|mo ⟨b1,re<|mo ⟨b2,?_⟩⟩;dsimp only;simp only[fK,true_and];refine mo<|mo ⟨b3,?_⟩;refine⟨(_,_),rfl,⟨b6,b5⟩,?_⟩;dsimp only at h ⊢;have e:Rat.divInt (p.num*q.den-q.num*p.den) ((p.den:Int)*q.den)=p-q:=by rw[Rat.sub_def',<-Am];rfl
 rw[e];exact h
theorem wG:Rd nE wE N_by:=by
 rintro _ E Q ⟨⟨p,q⟩,rfl,⟨hb,h0⟩,h⟩;dsimp only at hb h0 h;obtain⟨b1,b2,b3,b4,b5,b6,b7,b8⟩:=hb.mul;unfold wE;simp only[aM,wF,aC,w2,wN,wC,fb,cR,i6,db,de];refine re<|mo ⟨b1,mo<|re ⟨b7,?_⟩⟩;have hq:q.num≠0:=λz=>h0<|Ycx.mp z;refine⟨(_,_),rfl,⟨rJ (by exact_mod_cast p.den_nz) hq,b8⟩,?_⟩;dsimp only at h ⊢;have e:Rat.divInt (p.num*q.den) ((p.den:Int)*q.num)=p/q:=by
  rw[ir,Rat.inv_def];have:p*Rat.divInt (q.den:Int) q.num=Rat.divInt p.num p.den*Rat.divInt (q.den:Int) q.num:=by rw[xY]
  rw[this,uO]
 rw[e];exact h
theorem Fi(p q:Rat):iB (aN p) (aN q)=decide (p=q):=by unfold aN;rw[E2,gM];simp only[dQ,NE,Nf];constructor;rintro⟨h1,h2⟩;exact Rat.ext h1 (by exact_mod_cast h2);rintro rfl;exact⟨rfl,rfl⟩
def Fj:aN 0=.tup [.int 0,.int 1]:=rfl
namespace B.C
def ga(r:List Int)(k:Nat):Int:=r.getD k 0
def gr(t:List (List Int))(k:Nat):List Int:=t.getD k []
end B.C
namespace Dt
open B.C
def tA(t:List (List Int)):Nat->R:=λi j=>ga (gr t i) j
end Dt
namespace B.C
theorem bd_of{x:Int}(h:x.natAbs<2^b)(hb:b<=8990):Bd x:=da h<|lZ (by decide) hb
end B.C
theorem Kp{E:Ex->Prop}(lo:Int)(I:Nat->bZ->Prop)(n:Nat)(h:∀k,k<n->∀ρ,I k ρ->∀nx:bZ->Prop,(∀ρ,I (k+1) ρ->nx ρ)->g (.int<|lo+k) ρ λρ1=>zb E { nx:=nx,rt:=N.rt,bk:=N.nx,ct:=nx } ρ1)(hn:∀ρ,I n ρ->N.nx ρ)(ρ:bZ)(h0:I 0 ρ):Zbb g zb E N (rng lo n) ρ:=by
 refine zp (λds ρ=>∃k,k<=n/\ds=(rng lo n).drop k/\I k ρ) ?_ ?_ _ ρ ⟨0,iq _,by rw[pQ],h0⟩;rintro d ds ρ ⟨k,hk,e,i⟩ nx hnx;have hlen:(rng lo n).length=n:=by unfold rng;simp
 rcases fS k n with hkn|hkn
 rw[nU<|by omega]at e;injection e with e1 e2
 have e3:d=.int (lo+k):=by rw[e1];unfold rng;simp
 rw[e3];exact h k hkn ρ i nx λρ' i'=>hnx ρ' ⟨k+1,by omega,e2,i'⟩;rw[List.drop_eq_nil_of_le<|by omega]at e;cases e;rintro ρ ⟨k,hk,e,i⟩;have hlen:(rng lo n).length=n:=by unfold rng;simp
 have:k=n:=by have:=congrArg List.length e;rw[kR,hlen]at this;simp at this;omega
 subst this;exact hn ρ i
theorem zt{α:Type}{wf:WT}{tail:bZ}{Q:List D->Prop}{g:α->D}{p:α->Bool}:∀(L:List α),(∀a∈L,∀P:Bool->Prop,P (p a)->wf No (.d (g a)::tail) P)->∀(sv:SV) (acc:List D),acc.length+L.length<=small->Q (acc++(L.filter p).map g)->lcW (gN 0) wf (wN 0) (L.map g) (sv::tail) acc Q
 |[],_,sv,acc,_,hq=>by simpa[lcW] using hq
 |a::L,h,sv,acc,hl,hq=>by
  rw[cR,lcW];show wf No (SV.d (g a)::tail) _;rw[d8]at hl;refine h a (by simp) _ ?_;cases e:p a with
  |true=>rw[oI rfl];refine⟨by omega,zt L (λb hb=>h b<|by simp[hb]) _ _ (by rw[dG,j9];omega) ?_⟩;rw[List.filter_cons_of_pos e,cR]at hq;rw[lx];exact hq|false=>rw[ks<|by decide];refine zt L (λb hb=>h b<|by simp[hb]) _ _ (by omega) ?_;rw[List.filter_cons_of_neg (by rw[e];decide)]at hq;exact hq
namespace B.C
theorem own_by{E:Ex->Prop}(e:ρ.set i (.ow xs)=ρ')(ht:∀P:List D->Prop,P xs->t E ρ P)(h:N.nx ρ'):bM i t E N ρ:=ht _ (by rw[e];exact h)
theorem pub_by{z:WS}{E:Ex->Prop}(e:pub i ρ=ρ')(h:z E N ρ'):bD i z E N ρ:=by unfold bD;rw[e];exact h
theorem ixN_nat(h:k<n):jB n (k:Int)=some k:=by unfold jB;rw[oI<|by omega,oI<|by omega,iN]
theorem flats_nats(L:List Nat):jG (L.map λ(k:Nat)=>D.int (k:Int))=true:=by
 induction L with
 |nil=>rfl|cons a L ih=>rw[cR,jG,ih];rfl
end B.C
def ik(x:D):Bool:=decide ((sI x).reverse=sI x)
def Kq(x:D):Except Str D:=fP x<|.ok (.bl<|ik x)
def Cc(s:List Int)(n:Nat)(y z:D):Except Str D:=if et n y=true/\et n z=true then .ok (aN<|cI (rQ y)<|cX s n<|rQ z) else .error "NoRow"
def zw(x y z:D):Except Str D:=fP x (if ik x=true then Cc (sI x) (sN x) y z else .error "NotEven")
def Cd:bX:=xS (λx:D=>[x]) (λx=>kd x=true) Kq
def ur:bX:=xS (λx:D=>[x]) (λx=>kd x=true) λx=>fP x (if ik x=true then .ok .non else .error "NotEven")
def nJ:bX:=xS (λx:D×D×D=>[x.1,x.2.1,x.2.2]) (λx=>kd x.1=true/\kd x.2.1=true/\kd x.2.2=true/\cZ 170 x.2.1=true/\cZ 170 x.2.2=true) λx=>zw x.1 x.2.1 x.2.2
abbrev ZjV:List Str:=["slants"]
def Fk:WS:=(aM<|w2 (gEq false) (wF yV<|aC (wN 0) aA)<|wN 0)
abbrev Zhx:List Str:=["slants"]
def Fm:WS:=(cN (bS<|wT<|wF Cd<|aC (wN 0) aA) (jH<|PySem.Str.ofString "NotEven") cP)
abbrev ZjU:List Str:=["slants", "one", "other"]
def Fn:WS:=(aG (jp<|wF ur<|aC (wN 0) aA)<|aG (cN (bS<|wT<|wF sY<|aC (wN 0)<|aC (wN 1) aA) (jH<|PySem.Str.ofString "NoRow") cP)<|aM<|wF v4<|aC (wN 1)<|aC (wF yY<|aC (wN 0)<|aC (wN 2) aA) aA)
theorem Ce(a b:List Int):iB (aR a) (aR b)=decide (a=b):=by
 unfold iB aR;rw[pd,pd,PyData.eqv];induction a generalizing b with
 |nil=>cases b<;>simp[fo,PyData.eqvAll]
 |cons x a ih=>
  cases b with
  |nil=>simp[fo,PyData.eqvAll]
  |cons y b=>
   rw[cR,cR,fo,fo,PyData.eqvAll,ih b,pd,pd,PyData.eqv,gM];simp
theorem Kr(h:IsSl s n)(hm:∀x∈r,Sz m x):∀x∈cX s n r,Sz (5*(6+m+1)+1) x:=by intro x hx;unfold cX at hx;obtain⟨line,hl,rfl⟩:=YbQ.mp hx;obtain⟨h1,h2⟩:=tx h line hl;refine BO _ _ (λx hx=>?_) hm (by unfold d7;rw[bG,h1];exact h.n5);obtain⟨i,hi,rfl⟩:=YbQ.mp hx;exact wm<|h2 i hi
theorem Cf{p:List Rat}(h:IsSl s n)(hp:p.length=n)(h1:∀x∈p,Sz 170 x)(h2:∀x∈r,Sz 170 x):BR p (cX s n r):=by refine⟨170,_,h1,Kr h h2,?_⟩;rw[hp];have h5:=h.n5;have:n*(170+(5*(6+170+1)+1)+1)<=5*(170+(5*(6+170+1)+1)+1):=mC _ h5;omega
mutual
theorem Fo{m m':Nat}(l:m<=m'):∀d:D,cZ m d=true->cZ m' d=true
 |.int i,h=>by rw[cZ,Nf]at h ⊢;exact da h<|lZ (by decide) l
 |.tup xs,h=>by rw[cZ]at h ⊢;exact Cg l xs h|.lst xs,h=>by rw[cZ]at h ⊢;exact Cg l xs h|.non,_=>rfl|.bl _,_=>rfl|.str _,_=>rfl|.dic,_=>rfl|.pen,_=>rfl|.cls _,_=>rfl|.exc _,_=>rfl|.ty _,_=>rfl|.scr _,_=>rfl
theorem Cg{m m':Nat}(l:m<=m'):∀ds:List D,ge m ds=true->ge m' ds=true
 |[],_=>by rw[ge]|d::ds,h=>by rw[ge,dQ]at h ⊢;exact⟨Fo l d h.1,Cg l ds h.2⟩
end
theorem Ks:Rd Cd Fk ZjV:=by
 rintro _ E Q ⟨x,rfl,hk,q⟩;unfold Fk;walk_at "s";cases e:f8 x with
 |false=>exact xS.err x rfl hk (n9 e)<|rg e q
 |true=>obtain⟨s,n,rfl,h⟩:=rc e;refine Jk h<|n6 (qX _ 59) (qX _ 59) ?_;replace q:=rh h q;unfold ik at q;rw[ii]at q;simp only[dD,if_false];rw[Ce];exact q
theorem Kt:Rd ur Fm Zhx:=by
 rintro _ E Q ⟨x,rfl,hk,q⟩;unfold Fm;walk_at "s";cases e:f8 x with
 |false=>exact xS.err x rfl hk (n9 e)<|rg e q
 |true=>
  obtain⟨s,n,rfl,h⟩:=rc e;replace q:=rh h q;refine xS.ok (aR s) rfl hk (iY h) ?_;walk_at "s";cases ev:ik (aR s) with
  |true=>rw[ev]at q;simpa[exQ] using q|false=>rw[ev]at q;simpa[exQ] using q
theorem Ku:Rd nJ Fn ZjU:=by
 rintro _ E Q ⟨⟨x,y,z⟩,rfl,⟨hk,hk1,hk2,hs1,hs2⟩,q⟩;dsimp only at hk hk1 hk2 hs1 hs2 q;unfold Fn;walk_at "n";cases e:f8 x with
 |false=>exact xS.err x rfl hk (n9 e)<|rg e q
 |true=>
 obtain⟨s,n,rfl,h⟩:=rc e;replace q:=rh h q;cases ev:ik (aR s) with
 |false=>
  rw[ev]at q;exact xS.err (aR s) rfl hk (by(try dsimp only);rw[iY h,ev];rfl) q
 |true=>
 rw[ev,ii,h.sN]at q;simp only[if_true]at q;refine xS.ok (aR s) rfl hk (v:=.non) (by(try dsimp only);rw[iY h,ev];rfl) ?_;walk_at "n";refine BD h hk1 ?_;walk_at "s";unfold Cc at q;cases e1:et n y with
 |false=>rw[e1]at q;simpa[exQ] using q
 |true=>
 obtain⟨p,rfl,hp'⟩:=y2 e1;have hp:p.length=n:=by omega
 simp only[eP,dD,if_false];rw[e1]at q;cases e2:et n z with
 |false=>
  rw[e2]at q;exact xS.err (aR s,z) rfl ⟨hk,hk2,λr er=>⟨170,Zcr.mp (by rw[<-er];exact hs2),by decide⟩⟩ (by(try dsimp only);rw[iY h,h.sN,e2];rfl) (by simpa[exQ] using q)
 |true=>
 obtain⟨r,rfl,hr'⟩:=y2 e2;have hr:r.length=n:=by omega
 rw[e2,nF,nF]at q;refine Jn h hr ⟨170,Zcr.mp hs2,by decide⟩<|D3 (Cf h hp (Zcr.mp hs1)<|Zcr.mp hs2) ?_;simpa[exQ] using q
namespace B.C
def for_seq{E:Ex->Prop}(hw:∀P:D->Prop,P (.lst xs)->w E ρ P)(h:Zbb g zb E N xs ρ):bP (iS w) g zb E N ρ:=hw _ h
end B.C
def zy:bX:=fnS (λx:Nat×Nat=>[.int x.1,.int x.2]) (λx=>x.2<=5) λx=>aF<|bW x.2 x.1
section
variable{E:Ex->Prop}{x:D}
def Kv(h:n<=5)(q:Q (aF<|bW n k)):zy [.int k,.int n] E Q:=⟨(k,n),rfl,h,q⟩
end
abbrev Zlx:List Str:=["place", "many"]
def Fq:WS:=(aM<|wF v3<|aC (wL<|aLC (dU<|aC (wN 1) aA) 1 [0] (gN 0) cE<|wB fD<|aC (w2 (gEq false) (wN 0)<|wN 1) aA) aA)
theorem lT(n k:Nat):(bW n k).length=n:=by unfold bW;rw[bG,ke]
theorem Kw(n k:Nat):d7 ((List.range n).map λi:Nat=>if(i:Int)=(k:Int) then(1:Int) else 0)=bW n k:=by unfold d7 bW;rw[cY];refine iO λi _=>?_;show(((if(i:Int)=(k:Int) then(1:Int) else 0):Int):Rat)=_;by_cases e:i=k;rw[oI<|by omega,oI e];rfl;rw[ks<|by omega,ks e];rfl
theorem Kx:Rd zy Fq Zlx:=by rintro _ E Q ⟨⟨k,n⟩,rfl,h,q⟩;dsimp only at h q;unfold Fq;walk_at "s";refine⟨by omega,by omega,?_⟩;rw[jX];refine jW (g:=λi:Nat=>D.int (i:Int)) (f:=λi:Nat=>D.int (if(i:Int)=(k:Int) then 1 else 0)) (List.range n) (λi hi Q hq=>?_) .un [] (by simp[small];omega) ?_;walk_at "s";by_cases e:(i:Int)=(k:Int);rw[oI e]at hq;simpa[e] using hq;rw[ks e]at hq;simpa[e] using hq;have:=D2 (E:=E) (Q:=Q) (xs:=(List.range n).map λi:Nat=>if(i:Int)=(k:Int) then(1:Int) else 0) (by simp;omega) (by rw[Kw];exact q);unfold iC at this;rw[cY]at this;exact this
def bV(a:List Rat)(s:Rat)(c:List Rat):List Rat:=List.zipWith (λl r=>l-s*r) a c
def lu(a:List Rat)(s:Rat):List Rat:=a.map λx=>x/s
def dF:List (List Rat)->Nat->Option Nat
 |[],_=>none|r::R,p=>if r.getD p 0=0 then(dF R p).map (· + 1) else some 0
def cK(R:List (List Rat))(lead:List Rat)(p:Nat):List (List Rat):=R.map λr=>bV r (r.getD p 0) lead
structure Cl where
 ld:List (List Rat)
 pl:List Nat
 rs:List (List Rat)
def qw(R:List (List Rat))(a p:Nat):List Rat:=lu (R.getD a [])<|(R.getD a []).getD p 0
def tF(p:Nat)(x:Cl):Cl:=match dF x.rs p with|none=>x|some a=>⟨cK x.ld (qw x.rs a p) p++[qw x.rs a p],x.pl++[p],cK (x.rs.take a++x.rs.drop (a+1)) (qw x.rs a p) p⟩
def cQ(R:List (List Rat)):Nat->Cl
 |0=>⟨[],[],R⟩|p+1=>tF p<|cQ R p
structure Lf(b m:Nat)(row:List Rat):Prop where
 ex:∃(c:List Int) (e:Int),c.length=m/\e≠0/\e.natAbs<2^b/\(∀x∈c,x.natAbs<2^b)/\row=c.map λx=>Rat.divInt x e
theorem Lf.len{row:List Rat}(h:Lf b m row):row.length=m:=by obtain⟨c,e,h1,_,_,_,rfl⟩:=h.ex;rw[bG];exact h1
theorem Lf.mono{b':Nat}{row:List Rat}(l:b<=b')(h:Lf b m row):Lf b' m row:=by obtain⟨c,e,h1,h2,h3,h4,h5⟩:=h.ex;have p:2^b<=2^b':=lZ (by decide) l;exact⟨c,e,h1,h2,da h3 p,λx hx=>da (h4 x hx) p,h5⟩
theorem Lf.sz{row:List Rat}(h:Lf b m row):∀x∈row,Sz b x:=by obtain⟨c,e,h1,h2,h3,h4,rfl⟩:=h.ex;intro x hx;obtain⟨y,hy,rfl⟩:=YbQ.mp hx;exact BU h2 (h4 y hy) h3
theorem Lf.get{row:List Rat}(h:Lf b m row)(hk:k<m):row[k]? = some (row.getD k 0)/\Sz b (row.getD k 0):=by
 have e:row[k]? = some (row.getD k 0):=by rw[bN,bJ (by rw[h.len];exact hk)];rfl
 exact⟨e,h.sz _<|jy e⟩
theorem Lf.int{c:List Int}(hb:0<b)(h:∀x∈c,x.natAbs<2^b):Lf b c.length (d7 c):=by refine⟨c,1,rfl,by decide,?_,h,?_⟩;show 1<2^b;exact Ak (by omega);unfold d7;exact iO λx _=>by have:=xY (x:Rat);rw[Ai,Aj]at this;exact this.symm
theorem Ky{c e:Int}(he:e≠0):Rat.divInt c e≠0↔c≠0:=by
 constructor;rintro h rfl;exact h<|Rat.zero_divInt e
 intro h z;have e1:Rat.divInt c e*Rat.divInt e c=1:=by rw[uO,uP e c];have:=uQ (n:=1) (d:=1)<|rJ h he;rw[Int.one_mul]at this;rw[this];rfl
 rw[z,jA]at e1;exact Nd e1 (by decide)
theorem Lf.norm{p:Nat}{row:List Rat}(h:Lf b m row)(hp:p<m)(h0:row.getD p 0≠0):Lf b m (lu row<|row.getD p 0):=by
 obtain⟨c,e,h1,h2,h3,h4,rfl⟩:=h.ex;have hc:c[p]? = some (c.getD p 0):=by rw[bN,bJ<|by omega];rfl
 have eg:(c.map λx=>Rat.divInt x e).getD p 0=Rat.divInt (c.getD p 0) e:=by rw[bN,cH,hc];rfl
 rw[eg]at h0 ⊢;have hc0:c.getD p 0≠0:=(Ky h2).mp h0;refine⟨c,c.getD p 0,h1,hc0,h4 _<|jy hc,h4,?_⟩;unfold lu;rw[cY];refine iO λx _=>?_;show Rat.divInt x e/(Rat.divInt (c.getD p 0) e)=Rat.divInt x (c.getD p 0);rw[ir,Rat.inv_divInt,uO _ _ ,uP e];exact uQ h2
theorem Kz{w x y z:Int}(h1:w.natAbs<2^b)(h2:x.natAbs<2^b)(h3:y.natAbs<2^b)(h4:z.natAbs<2^b):(w*x-y*z).natAbs<2^(2*b+1):=by
 have m1:(w*x).natAbs<2^b*2^b:=by rw[eW];exact tR h1 h2
 have m2:(y*z).natAbs<2^b*2^b:=by rw[eW];exact tR h3 h4
 have:=Aq (w*x)<|y*z;rw[tP,show 2*b=b+b by omega,kS];omega
theorem Lf.less{p:Nat}{row piv:List Rat}(h:Lf b m row)(hq:Lf b m piv)(hp:p<m):Lf (2*b+1) m (bV row (row.getD p 0) piv):=by
 obtain⟨c,e,h1,h2,h3,h4,rfl⟩:=h.ex;obtain⟨d,f,g1,g2,g3,g4,rfl⟩:=hq.ex;have hc:c[p]? = some (c.getD p 0):=by rw[bN,bJ<|by omega];rfl
 have eg:(c.map λx=>Rat.divInt x e).getD p 0=Rat.divInt (c.getD p 0) e:=by rw[bN,cH,hc];rfl
 rw[eg];have bc:(c.getD p 0).natAbs<2^b:=h4 _<|jy hc;refine⟨List.zipWith (λx y=>x*f-c.getD p 0*y) c d,e*f,by rw[nV];omega,rJ h2 g2,?_,λz hz=>?_,?_⟩
 rw[eW,tP,show 2*b=b+b by omega,kS];have:=tR h3 g3;omega;obtain⟨i,hi,e1⟩:=Ybv.mp hz;rw[tS]at e1;rw[<-e1];exact Kz (h4 _<|gu _) g3 bc<|g4 _ (gu _)
 unfold bV;rw[List.zipWith_map,uR];refine congrArg (λg=>List.zipWith g c d) ?_;funext x y;rw[uO,Rat.divInt_sub_divInt _ _ h2<|rJ h2 g2];rw[show x*(e*f)-c.getD p 0*y*e=(x*f-c.getD p 0*y)*e by grind,uP e<|e*f];exact(uQ h2)
def bq(b:Nat):Nat->Nat
 |0=>b|k+1=>2*bq b k+1
theorem ut{b:Nat}:∀{k k':Nat},k<=k'->bq b k<=bq b k'
 |k,0,h=>by rw[Nat.le_zero.mp h];exact cF _|k,k'+1,h=>by by_cases e:k=k'+1;rw[e];exact cF _;have:=ut (b:=b) (k:=k) (k':=k') (by omega);rw[bq];omega
theorem tG:∀{R:List (List Rat)} {p a:Nat},dF R p=some a->a<R.length/\(R.getD a []).getD p 0≠0
 |[],_,_,h=>nomatch h
 |r::R,p,a,h=>by
  rw[dF]at h;split at h;cases e:dF R p with
  |none=>rw[e]at h;cases h
  |some b=>
   rw[e]at h;have h':b+1=a:=by simpa using h
   subst h';obtain⟨h1,h2⟩:=tG e;exact⟨by simpa using h1,by simpa using h2⟩
  rename_i h0;have h':0=a:=by simpa using h
  subst h';exact⟨by simp,by simpa using h0⟩
structure nK(b w p m:Nat)(x:Cl):Prop where
 ld:∀r∈x.ld,Lf (bq b p) w r
 rs:∀r∈x.rs,Lf (bq b p) w r
 ln:x.ld.length+x.rs.length=m
 pl:x.pl.length=x.ld.length
 lt:∀a∈x.pl,a<p
theorem jv{R:List (List Rat)}{a:Nat}(h:a<R.length):R.getD a []∈R:=by rw[bN,bJ h];exact gu _
theorem jY{α:Type}{R:List α}{a:Nat}{r:α}(h:r∈R.take a++R.drop (a+1)):r∈R:=by
 rcases Yao.mp h with h|h
 exact pR h;exact mD h
theorem Fr{w p a:Nat}{x:Cl}(h:nK b w p m x)(hp:p<w)(e:dF x.rs p=some a):Lf (bq b p) w (qw x.rs a p):=by obtain⟨h1,h2⟩:=tG e;exact(h.rs _<|jv h1).norm hp h2
theorem KA{w p:Nat}{x:Cl}(h:nK b w p m x)(hp:p<w):nK b w (p+1) m (tF p x):=by
 have up:bq b p<=bq b (p+1):=ut (by omega);unfold tF;split;exact⟨λr hr=>(h.ld r hr).mono up,λr hr=>(h.rs r hr).mono up,h.ln,h.pl,λa ha=>yd<|h.lt a ha⟩;rename_i a e;have hl:=Fr h hp e;obtain⟨h1,h2⟩:=tG e;have ln:=h.ln;refine⟨λr hr=>?_,λr hr=>?_,?_,?_,λc hc=>?_⟩;rcases Yao.mp hr with hr|hr
 unfold cK at hr;obtain⟨r0,hr0,rfl⟩:=YbQ.mp hr;exact(h.ld r0 hr0).less hl hp;rw[Ycw.mp hr];exact hl.mono up;unfold cK at hr;obtain⟨r0,hr0,rfl⟩:=YbQ.mp hr;exact(h.rs r0<|jY hr0).less hl hp;show(cK _ _ _++[_]).length+(cK _ _ _).length=m;unfold cK;simp only[dG,bG,j9,jL,kR];omega;show(x.pl++[p]).length=(cK _ _ _++[_]).length;unfold cK;rw[dG,dG,bG,h.pl];rfl;rcases Yao.mp hc with hc|hc
 exact yd<|h.lt c hc
 rw[Ycw.mp hc];exact Nat.lt_succ_self p
theorem Fs{b w:Nat}{R:List (List Rat)}(h:∀r∈R,Lf b w r):∀{p:Nat},p<=w->nK b w p R.length (cQ R p)
 |0,_=>⟨(λr hr=>by cases hr),h,(by simp[cQ]),rfl,(λa ha=>by cases ha)⟩|p+1,hp=>KA (Fs h<|by omega) (by omega)
def aS(R:List (List Rat)):D:=.lst<|R.map aF
def Ft(xs:List Nat):D:=.lst<|xs.map λ(k:Nat)=>D.int (k:Int)
def qx:Option Nat->D
 |none=>.non|some a=>.int (a:Int)
def Rz(b w:Nat)(R:List (List Rat)):Prop:=∀r∈R,r.length=w/\∀x∈r,Sz b x
def zA:bX:=fnS (λx:Nat×List Rat×Rat=>[aF x.2.1,aN x.2.2]) (λx=>2*x.1<8990/\x.2.1.length<=1000/\(∀y∈x.2.1,Sz x.1 y)/\Sz x.1 x.2.2/\x.2.2≠0) λx=>aF<|lu x.2.1 x.2.2
def rj:bX:=fnS (λx:(Nat×Nat×Nat)×List Rat×Rat×List Rat=>[aF x.2.1,aN x.2.2.1,aF x.2.2.2]) (λx=>x.1.1+x.1.2.1+x.1.2.2<8990/\x.2.1.length<=1000/\(∀y∈x.2.1,Sz x.1.1 y)/\Sz x.1.2.1 x.2.2.1/\∀y∈x.2.2.2,Sz x.1.2.2 y) λx=>aF<|bV x.2.1 x.2.2.1 x.2.2.2
def zB:bX:=fnS (λx:Nat×List (List Rat)=>[aS x.2,.int x.1]) (λx=>x.2.length<=1000/\∀r∈x.2,x.1<r.length) λx=>qx<|dF x.2 x.1
def wH:bX:=fnS (λx:((Nat×Nat)×Nat)×List (List Rat)×List Rat=>[aS x.2.1,aF x.2.2,.int x.1.2]) (λx=>3*x.1.1.1<8990/\x.1.1.2<=1000/\x.2.1.length<=1000/\x.1.2<x.1.1.2/\Rz x.1.1.1 x.1.1.2 x.2.1/\∀y∈x.2.2,Sz x.1.1.1 y) λx=>aS<|cK x.2.1 x.2.2 x.1.2
structure ClIn(b w m:Nat)(R:List (List Rat)):Prop where
 mw:m<=w
 w1:w<=1000
 len:R.length<=1000
 bits:3*bq b (m-1)<8990
 lf:∀r∈R,Lf b w r
structure zC(w m:Nat)(R:List (List Rat)):Prop where
 mw:m<=w
 w1:w<=1000
 len:R.length<=1000
 ln:∀p,p<m->(cQ R p).ld.length+(cQ R p).rs.length=R.length/\(cQ R p).pl.length=(cQ R p).ld.length
 rl:∀p,p<m->∀r∈(cQ R p).rs,r.length=w
 st:∀p,p<m->∀a,dF (cQ R p).rs p=some a->(∃B,2*B<8990/\∀y∈(cQ R p).rs.getD a [],Sz B y)/\(∃B,3*B<8990/\Rz B w (cQ R p).ld/\∀y∈qw (cQ R p).rs a p,Sz B y)/\∃B,3*B<8990/\Rz B w ((cQ R p).rs.take a++(cQ R p).rs.drop (a+1))/\∀y∈qw (cQ R p).rs a p,Sz B y
theorem ClIn.z{w:Nat}{R:List (List Rat)}(h:ClIn b w m R):zC w m R:=by
 have mw:=h.mw;have ok:∀p,p<m->nK b w p R.length (cQ R p):=λp hp=>Fs h.lf (by omega);refine⟨h.mw,h.w1,h.len,λp hp=>⟨(ok p hp).ln,(ok p hp).pl⟩,λp hp r hr=>((ok p hp).rs r hr).len,λp hp a e=>?_⟩;have o:=ok p hp;obtain⟨a1,a2⟩:=tG e;have hbp:3*bq b p<8990:=by have:=ut (b:=b) (show p<=m-1 by omega);have:=h.bits;omega
 have hlead:=Fr o (show p<w by omega) e;exact⟨⟨bq b p,by omega,(o.rs _<|jv a1).sz⟩,⟨bq b p,hbp,λr hr=>⟨(o.ld r hr).len,(o.ld r hr).sz⟩,hlead.sz⟩,bq b p,hbp,λr hr=>⟨(o.rs r<|jY hr).len,(o.rs r<|jY hr).sz⟩,hlead.sz⟩
def Ch:bX:=fnS (λx:(Nat×Nat)×List (List Rat)=>[aS x.2,.int x.1.2]) (λx=>zC x.1.1 x.1.2 x.2) λx=>.tup [aS (cQ x.2 x.1.2).ld,Ft (cQ x.2 x.1.2).pl]
def lU(s:List Int)(n:Nat):List (List Rat):=(tbl s n).map d7
section
variable{E:Ex->Prop}{x:D}{w p:Nat}{t lead:List Rat}{R L:List (List Rat)}{q0:Rat}{pl:List Nat}
def KB(h1:2*b<8990)(h2:r.length<=1000)(h3:∀y∈r,Sz b y)(h4:Sz b q0)(h5:q0≠0)(q:Q (aF<|lu r q0)):zA [aF r,aN q0] E Q:=⟨(b,r,q0),rfl,⟨h1,h2,h3,h4,h5⟩,q⟩
def KC{a c:Nat}(h0:a+b+c<8990)(h1:r.length<=1000)(h2:∀y∈r,Sz a y)(h3:Sz b q0)(h4:∀y∈t,Sz c y)(q:Q (aF<|bV r q0 t)):rj [aF r,aN q0,aF t] E Q:=⟨((a,b,c),r,q0,t),rfl,⟨h0,h1,h2,h3,h4⟩,q⟩
theorem Ci(h1:3*b<8990)(h2:r.length<=1000)(h3:∀y∈r,Sz b y)(h4:Sz b q0)(h5:∀y∈t,Sz b y)(q:Q (aF<|bV r q0 t)):rj [aF r,aN q0,aF t] E Q:=KC (a:=b) (b:=b) (c:=b) (by omega) h2 h3 h4 h5 q
def KD(h1:R.length<=1000)(h2:∀r∈R,p<r.length)(q:Q (qx<|dF R p)):zB [aS R,.int p] E Q:=⟨(p,R),rfl,⟨h1,h2⟩,q⟩
def Fu(h1:3*b<8990)(h2:w<=1000)(h3:R.length<=1000)(h4:p<w)(h5:Rz b w R)(h6:∀y∈lead,Sz b y)(q:Q (aS<|cK R lead p)):wH [aS R,aF lead,.int p] E Q:=⟨(((b,w),p),R,lead),rfl,⟨h1,h2,h3,h4,h5,h6⟩,q⟩
end
abbrev Zlw:List Str:=["row", "share"]
def Cj:WS:=(aM<|wB jF<|aC (wL<|aLC (iS<|wN 0) 1 [1] (gN 0) cE<|wF nE<|aC (wN 0)<|aC (wN 1) aA) aA)
abbrev Zij:List Str:=["one", "share", "other"]
def Ck:WS:=(aM<|wB jF<|aC (wL<|aLC (iZ<|aC (wN 0)<|aC (wN 2) aA) 2 [1] (dw 2<|cB (gN 0)<|cB (gN 1) dj) cE<|wF uj<|aC (wN 0)<|aC (wF sW<|aC (wN 2)<|aC (wN 1) aA) aA) aA)
abbrev Zge:List Str:=["rows", "place", "at", "row"]
def Cm:WS:=(aG (bA<|bP (iE<|aC (wN 0) aA) (dw 2<|cB (gN 2)<|cB (gN 3) dj)<|cN (wT<|w2 (gEq true) (w2 gIx (wN 3)<|wN 1)<|wC<|D.tup [(D.int<|0),(D.int<|1)]) (aM<|wN 2) cP)<|aM<|wC D.non)
abbrev Zek:List Str:=["rows", "lead", "place"]
def Cn:WS:=(aM<|wL<|aLC (iS<|wN 0) 1 [1,2] (gN 0) cE<|wF rj<|aC (wN 0)<|aC (w2 gIx (wN 0)<|wN 2)<|aC (wN 1) aA)
abbrev ZjX:List Str:=["rows", "many", "leading", "places", "rest", "place", "at", "lead"]
def Co:WS:=(aG (aQ 2<|wL<|aY aA)<|aG (bM 3<|aY aA)<|aG (aQ 4<|wL<|aB (fA (α:=Unit))<|aC (wN 0) aA)<|aG (bA<|bP (dU<|aC (wN 1) aA) (gN 5)<|aG (aQ 6<|wF zB<|aC (wN 4)<|aC (wN 5) aA)<|cN (wT<|w2 (gIsC true) (wN 6)<|wC D.non) (aG (aQ 7<|wF zA<|aC (w2 gIx (wN 4)<|wN 6)<|aC (w2 gIx (w2 gIx (wN 4)<|wN 6)<|wN 5) aA)<|aG (aQ 2<|w2 gAdd (wF wH<|aC (wN 2)<|aC (wN 7)<|aC (wN 5) aA)<|wL<|aY<|aC (wN 7) aA)<|aG (aQ 4<|wF wH<|aC (w2 gAdd (bO (wN 4) dY<|dv<|wN 6)<|bO (wN 4) (dv<|w2 gAdd (wN 6)<|wC<|.int<|1) dY)<|aC (wN 7)<|aC (wN 5) aA)<|dk 3<|wN 5) cP)<|bD 3<|aM<|aZ<|aC (wN 2)<|aC (wN 3) aA)
theorem Zm:Rd zA Cj Zlw:=by rintro _ E Q ⟨⟨b,r,q0⟩,rfl,⟨h1,h2,h3,h4,h5⟩,q⟩;dsimp only at h1 h2 h3 h4 h5 q;show Cj E _ [.d<|aF r,.d<|aN q0];unfold Cj aF;walk_at "s";refine jW (g:=aN) (f:=λx:Rat=>aN<|x/q0) r (λx hx Q hq=>?_) .un [] (by simp[small];omega) ?_;walk_at "s";exact v7 (B2.of (h3 x hx) h4<|by omega) h5 hq;walk_at "s";unfold aF lu at q;rw[cY]at q;exact q
theorem wI{we:WE}{tail:bZ}{Q:List D->Prop}{f:Rat->Rat->D}:∀(A C:List Rat),(∀x∈A,∀y∈C,∀Q:D->Prop,Q (f x y)->we No (.d (aN x)::.d (aN y)::tail) Q)->∀(sv sv':SV) (acc:List D),acc.length+A.length<=small->Q (acc++List.zipWith f A C)->lcW (dw 2<|cB (gN 0)<|cB (gN 1) dj) cE we (dO (A.map aN)<|C.map aN) (sv::sv'::tail) acc Q
 |[],C,_,sv,sv',acc,_,hq=>by simpa[lcW,dO] using hq|x::A,[],_,sv,sv',acc,_,hq=>by simpa[lcW,dO] using hq
 |x::A,y::C,h,sv,sv',acc,hl,hq=>by
  have e:dO ((x::A).map aN) ((y::C).map aN)=.tup [aN x,aN y]::dO (A.map aN) (C.map aN):=by simp[dO]
  rw[e,lcW];refine⟨rfl,?_⟩;rw[d8]at hl;refine h x (by simp) y (by simp) _ ⟨by omega,wI A C (λa ha c hc=>h a (by simp[ha]) c<|by simp[hc]) _ _ _ (by simp;omega) ?_⟩;rw[lx];simpa using hq
theorem KG:Rd rj Ck Zij:=by
 rintro _ E Q ⟨⟨⟨a,b,c⟩,r,q0,t⟩,rfl,⟨h1,h2,h3,h4,h5⟩,q⟩;dsimp only at h1 h2 h3 h4 h5 q;show Ck E _ [.d<|aF r,.d<|aN q0,.d<|aF t];unfold Ck aF;walk_at "s";refine wI (f:=λx y=>aN<|x-q0*y) r t (λx hx y hy Q hq=>?_) .un .un [] (by simp[small];omega) ?_;walk_at "s";exact Jd (B2.of h4 (h5 y hy)<|by omega)<|D1 (B2.of (h3 x hx) (h4.mul<|h5 y hy)<|by omega) hq
 walk_at "s";unfold aF bV at q;rw[uR]at q;exact q
theorem KH(q:Rat):(if true=true then !iB (aN q) (.tup [.int 0,.int 1]) else iB (aN q) (.tup [.int 0,.int 1])) = !decide (q=0):=by rw[oI rfl,<-Fj,Fi]
theorem Fv{p:Nat}{Q:D->Prop}{E:Ex->Prop}{N:Nds}{s0:SV}(hN:N.rt=Q):∀(R:List (List Rat)) (k:Nat) (s2 s3:SV),(∀r∈R,p<r.length)->(∀a,dF R p=some a->Q (.int ((k+a:Nat):Int)))->(dF R p=none->∀s2 s3,N.nx [s0,.d<|.int p,s2,s3])->Zbb (dw 2<|cB (gN 2)<|cB (gN 3) dj) (cN (wT<|w2 (gEq true) (w2 gIx (wN 3)<|wN 1)<|wC<|D.tup [(D.int<|0),(D.int<|1)]) (aM<|wN 2) cP) E N (eT k<|R.map aF) [s0,.d<|.int p,s2,s3]
 |[],k,s2,s3,_,_,h2=>h2 rfl s2 s3
 |r::R,k,s2,s3,hp,h1,h2=>by
  rw[cR,eT,Zbb];refine⟨rfl,?_⟩;simp only[cB,dj,gN,eY,eX];have hr:=hp r (by simp);have e1:(r.map aN)[p]? = some (aN<|r.getD p 0):=by rw[cH,bN,bJ hr];rfl
  refine j6 (b:=!decide (r.getD p 0=0)) (λP hP=>?_) (λe=>?_) λe=>?_;unfold aF;walk_at "s";refine⟨_,bQ e1,n6 (Bw _ 59) (by decide +kernel) ?_⟩;rw[KH];exact hP;have e0:¬r.getD p 0=0:=by simpa using e
  have:=h1 0 (by rw[dF,ks e0]);rw[<-hN]at this;exact this;have e0:r.getD p 0=0:=by simpa using e
  refine Fv hN R (k+1) _ _ (λx hx=>hp x<|by simp[hx]) (λa ha=>?_) λhn=>?_;have:=h1 (a+1) (by rw[dF,oI e0,ha];rfl);rw[show k+1+a=k+(a+1) by omega];exact this;exact h2 (by rw[dF,oI e0,hn];rfl)
theorem KI:Rd zB Cm Zge:=by rintro _ E Q ⟨⟨p,R⟩,rfl,⟨h1,h2⟩,q⟩;dsimp only at h1 h2 q;show Cm E _ [.d<|aS R,.d<|.int p,.un,.un];unfold Cm aS;refine bU ?_;simp only[bA,bP,iE,aC,aA,wN,db];refine Fv (Q:=Q) rfl R 0 .un .un h2 (λa ha=>?_) λhn s2 s3=>?_;rw[ha]at q;rw[Nat.zero_add];exact q;rw[hn]at q;exact q
theorem KJ:Rd wH Cn Zek:=by
 rintro _ E Q ⟨⟨⟨⟨b,w⟩,p⟩,R,lead⟩,rfl,⟨h1,h2,h3,h4,h5,h6⟩,q⟩;dsimp only at h1 h2 h3 h4 h5 h6 q;show Cn E _ [.d<|aS R,.d<|aF lead,.d<|.int p];unfold Cn aS;walk_at "s";refine jW (g:=aF) (f:=λr:List Rat=>aF<|bV r (r.getD p 0) lead) R (λr hr Q hq=>?_) .un [] (by simp[small];omega) ?_;obtain⟨hl,hs⟩:=h5 r hr;have e0:r[p]? = some (r.getD p 0):=by rw[bN,bJ<|by omega];rfl
 have e1:(r.map aN)[p]? = some (aN<|r.getD p 0):=by rw[cH,e0];rfl
 simp only[wF,aC,aA,wN,w2,db,de];exact⟨_,bQ e1,Ci h1 (by omega) hs (hs _<|jy e0) h6 hq⟩;unfold aS cK at q;rw[cY]at q;exact q
theorem hV{E:Ex->Prop}(e:ρ.set i (.d d)=ρ')(hw:∀P:D->Prop,P d->w E ρ P)(h:N.nx ρ'):aQ i w E N ρ:=hw _ (by rw[e];exact h)
theorem wJ{E:Ex->Prop}(e:ρ[i]? = some (.ow xs))(hl:xs.length<small)(e2:ρ.set i (.ow<|xs++[d])=ρ')(hw:∀P:D->Prop,P d->w E ρ P)(h:N.nx ρ'):dk i w E N ρ:=by unfold dk;rw[e];exact hw _ ⟨hl,by rw[e2];exact h⟩
theorem Fw{R:List (List Rat)}(h:k<R.length):dW (R.map aF) (k:Int)=some (aF<|R.getD k []):=by refine bQ ?_;rw[cH,bN,bJ h];rfl
theorem KK(h:k<r.length):dW (r.map aN) (k:Int)=some (aN<|r.getD k 0):=by refine bQ ?_;rw[cH,bN,bJ h];rfl
theorem KM{p:Nat}(h:p<r.length):r.getD p 0∈r:=by rw[bN,bJ h];exact gu _
theorem KN:Rd Ch Co ZjX:=by
 rintro _ E Q ⟨⟨⟨w,m⟩,R⟩,rfl,h,q⟩;dsimp only at h q;obtain⟨mw,w1,hl,hln,hrl,hst⟩:=h;show Co E _ [.d<|aS R,.d<|.int m,.un,.un,.un,.un,.un,.un];unfold Co;refine bU<|hV (d:=aS []) (ρ':=[.d<|aS R,.d<|.int m,.d<|aS [],.un,.un,.un,.un,.un]) (by rfl) (λP hP=>⟨by decide,hP⟩) ?_;dsimp only;refine bU<|B.C.own_by (xs:=[]) (ρ':=[.d<|aS R,.d<|.int m,.d<|aS [],.ow [],.un,.un,.un,.un]) (by rfl) (λP hP=>⟨by decide,hP⟩) ?_;dsimp only;refine bU<|hV (d:=aS R) (ρ':=[.d<|aS R,.d<|.int m,.d<|aS [],.ow [],.d<|aS R,.un,.un,.un]) (by rfl) (λP hP=>?_) ?_
 .unfold aS
  walk_at "s";exact hP
 dsimp only;refine bU ?_;simp only[bA,bP];walk_at "s";refine⟨by omega,by omega,?_⟩;refine uq (λp ρ=>∃s5 s6 s7,ρ=[.d<|aS R,.d<|.int m,.d<|aS (cQ R p).ld,.ow<|(cQ R p).pl.map λ(k:Nat)=>D.int (k:Int),.d<|aS (cQ R p).rs,s5,s6,s7]) m ?_ ?_ _ ⟨_,_,_,rfl⟩
 rotate_left
 .rintro _ ⟨s5,s6,s7,rfl⟩
  dsimp only;refine B.C.pub_by (ρ':=[.d<|aS R,.d<|.int m,.d<|aS (cQ R m).ld,.d<|Ft (cQ R m).pl,.d<|aS (cQ R m).rs,s5,s6,s7]) rfl ?_;walk_at "s";exact⟨by decide,q⟩
 rintro p hp _ ⟨s5,s6,s7,rfl⟩ nx hnx;obtain⟨ln,lp⟩:=hln p hp;have rl:=hrl p hp;have hst:=hst p hp;rw[show cQ R (p+1)=tF p (cQ R p) from rfl]at hnx;generalize cQ R p=x at ln lp rl hst hnx;show aG _ _ _ _ [.d<|aS R,.d<|.int m,.d<|aS x.ld,.ow<|x.pl.map λ(k:Nat)=>D.int (k:Int),.d<|aS x.rs,.d<|.int p,s6,s7];refine bU<|hV (d:=qx<|dF x.rs p) (ρ':=[.d<|aS R,.d<|.int m,.d<|aS x.ld,.ow<|x.pl.map λ(k:Nat)=>D.int (k:Int),.d<|aS x.rs,.d<|.int p,.d<|qx<|dF x.rs p,s7]) (by rfl) (λP hP=>?_) ?_
 .simp only[wF,aC,aA,wN,db,de]
  exact KD (by omega) (λr hr=>by rw[rl r hr];omega) hP
 dsimp only;unfold tF at hnx;cases e:dF x.rs p with
 |none=>rw[e]at hnx;refine j6 (b:=false) (λP hP=>?_) (λe=>nomatch e) λ_=>hnx _ ⟨_,_,_,rfl⟩;walk_at "s";exact⟨rfl,hP⟩
 |some a=>
  rw[e]at hnx;dsimp only at hnx;obtain⟨a1,a2⟩:=tG e;obtain⟨⟨B1,b1,la⟩,⟨B2,b2,ld2,hl2⟩,B3,b3,rs3,hl3⟩:=hst a e;refine j6 (b:=true) (λP hP=>?_) (λ_=>?_) λe=>nomatch e
  .walk_at "s"
   exact⟨rfl,hP⟩
  have hpa:p<(x.rs.getD a []).length:=by rw[rl _<|jv a1];omega
  refine bU<|hV (d:=aF<|qw x.rs a p) (ρ':=[.d<|aS R,.d<|.int m,.d<|aS x.ld,.ow<|x.pl.map λ(k:Nat)=>D.int (k:Int),.d<|aS x.rs,.d<|.int p,.d<|.int a,.d<|aF<|qw x.rs a p]) (by rfl) (λP hP=>?_) ?_
  .show wF _ _ No [.d<|aS R,.d<|.int m,.d<|aS x.ld,.ow<|x.pl.map λ(k:Nat)=>D.int (k:Int),.d<|.lst<|x.rs.map aF,.d<|.int p,.d<|.int a,s7] P
   simp only[wF,aC,aA,wN,w2,db,de];refine⟨_,Fw a1,_,Fw a1,_,KK hpa,?_⟩;exact KB (b:=B1) b1 (by rw[rl _<|jv a1];omega) la (la _<|KM hpa) a2 hP
  dsimp only;generalize qw x.rs a p=lead at hl2 hl3 hnx;refine bU<|hV (d:=aS<|cK x.ld lead p++[lead]) (ρ':=[.d<|aS R,.d<|.int m,.d<|aS<|cK x.ld lead p++[lead],.ow<|x.pl.map λ(k:Nat)=>D.int (k:Int),.d<|aS x.rs,.d<|.int p,.d<|.int a,.d<|aF lead]) (by rfl) (λP hP=>?_) ?_
  .simp only[wF,aC,aA,wN,w2,wL,aY,db,de]
   refine Fu (b:=B2) (w:=w) b2 w1 (by omega) (by omega) ld2 hl2 ⟨du<|by simp,?_⟩;unfold aS at hP ⊢;rw[jz]at hP;exact⟨du (by unfold cK;simp;omega),hP⟩
  dsimp only;have hcut:∀(b1:Nat),(x.rs.take a++x.rs.drop (a+1)).length<=1000:=λ_=>by rw[dG,jL,kR];omega
  refine bU<|hV (d:=aS<|cK (x.rs.take a++x.rs.drop (a+1)) lead p) (ρ':=[.d<|aS R,.d<|.int m,.d<|aS<|cK x.ld lead p++[lead],.ow<|x.pl.map λ(k:Nat)=>D.int (k:Int),.d<|aS<|cK (x.rs.take a++x.rs.drop (a+1)) lead p,.d<|.int p,.d<|.int a,.d<|aF lead]) (by rfl) (λP hP=>?_) ?_
  .show wF _ _ No [.d<|aS R,.d<|.int m,.d<|aS<|cK x.ld lead p++[lead],.ow<|x.pl.map λ(k:Nat)=>D.int (k:Int),.d<|.lst<|x.rs.map aF,.d<|.int p,.d<|.int a,.d<|aF lead] P
   walk_at "s";rw[rf (b:=a) rfl,show((a:Int)+1)=((a+1:Nat):Int) by omega,wk (by rw[bG];omega),<-nX,<-qE];refine⟨du (by simp;omega),?_⟩;rw[<-jz];exact Fu (b:=B3) (w:=w) b3 w1 (hcut 0) (by omega) rs3 hl3 hP
  dsimp only;refine wJ (d:=.int p) rfl (da (show _<2000 by rw[bG];omega)<|by decide) rfl (B.nm_at rfl)<|hnx _ ⟨.d<|.int p,.d<|.int a,.d<|aF lead,?_⟩;rw[jz];rfl
theorem KO(h:IsSl s n):∀r∈lU s n,Lf 6 n r:=λr hr=>by
 unfold lU at hr;obtain⟨t,ht,rfl⟩:=YbQ.mp hr;obtain⟨h1,h2⟩:=tx h t ht;have:=Lf.int (b:=6) (c:=t) (by decide) λx hx=>by have:=h2 x hx;show _<64;omega
 rw[h1]at this;exact this
theorem Fx:(lU s n).length=n:=by unfold lU;rw[bG,tm]
def eU(place:Nat):List (List Rat)->List Nat->List Rat->List Rat
 |l::L,a::pl,row=>eU place L pl<|row.set a (0-l.getD place 0)
 |_,_,row=>row
theorem uu{α:Type}{wf:WT}{we:WE}{tail:bZ}{Q:List D->Prop}{g f:α->D}{p:α->Bool}:∀(L:List α),(∀a∈L,∀P:Bool->Prop,P (p a)->wf No (.d (g a)::tail) P)->(∀a∈L,∀P:D->Prop,P (f a)->we No (.d (g a)::tail) P)->∀(sv:SV) (acc:List D),acc.length+L.length<=small->Q (acc++(L.filter p).map f)->lcW (gN 0) wf we (L.map g) (sv::tail) acc Q
 |[],_,_,sv,acc,_,hq=>by simpa[lcW] using hq
 |a::L,h,h',sv,acc,hl,hq=>by
  rw[cR,lcW];rw[d8]at hl;refine h a (by simp) _ ?_;cases e:p a with
  |true=>rw[oI rfl];refine h' a (by simp) _ ⟨by omega,uu L (λx hx=>h x<|by simp[hx]) (λx hx=>h' x<|by simp[hx]) _ _ (by simp;omega) ?_⟩;rw[tT,e,oI rfl]at hq;rw[lx];exact hq|false=>rw[ks<|by decide];refine uu L (λx hx=>h x<|by simp[hx]) (λx hx=>h' x<|by simp[hx]) _ _ (by omega) ?_;rw[tT,e,ks<|by decide]at hq;exact hq
def aJ(f:Nat->Rat):Nat->Rat
 |0=>0|n+1=>aJ f n+f n
theorem dP{f g:Nat->Rat}:∀{n:Nat},(∀i,i<n->f i=g i)->aJ f n=aJ g n
 |0,_=>rfl|n+1,h=>by rw[aJ,aJ,dP<|λi hi=>h i<|by omega,h n<|by omega]
theorem nM{f:Nat->Rat}:∀{n:Nat},(∀i,i<n->f i=0)->aJ f n=0
 |0,_=>rfl|n+1,h=>by rw[aJ,nM<|λi hi=>h i<|by omega,h n<|by omega,nW]
theorem mr{f:Nat->Rat}{k:Nat}:∀{n:Nat},k<n->(∀i,i<n->i≠k->f i=0)->aJ f n=f k
 |0,h,_=>by omega|n+1,h,h0=>by rw[aJ];by_cases e:k=n;subst e;rw[nM<|λi hi=>h0 i (by omega)<|by omega,Rat.zero_add];rw[mr (k:=k) (by omega)<|λi hi hk=>h0 i (by omega) hk,h0 n (by omega)<|Nm e,nW]
theorem Zc(f g:Nat->Rat):∀n:Nat,aJ (λi=>f i-g i) n=aJ f n-aJ g n
 |0=>by simp only[aJ];grind|n+1=>by rw[aJ,aJ,aJ,Zc f g n];grind
theorem Fy(f:Nat->Rat):∀n:Nat,aJ f (n+1)=f 0+aJ (λi=>f<|i+1) n
 |0=>by simp only[aJ];grind|n+1=>by rw[aJ,Fy f n,aJ];grind
theorem lV:∀(r x:List Rat) (n:Nat),r.length=n->x.length=n->cI r x=aJ (λj=>r.getD j 0*x.getD j 0) n
 |[],[],_,h,_=>by subst h;rfl|[],_::_,n,h,h'=>by simp at h h';omega|_::_,[],n,h,h'=>by simp at h h';omega|a::r,y::x,n,h,h'=>by subst h;rw[cI,lV r x r.length rfl<|by simpa using h',d8,Fy];rfl
theorem KP{x:List Rat}(hr:r.length=n)(hx:x.length=n):cI (lu r q) x=cI r x/q:=by
 clear hr hx;unfold lu;induction r generalizing x with
 |nil=>show(0:Rat)=0/q;rw[ir,jA]
 |cons a r ih=>
  cases x with
  |nil=>show(0:Rat)=0/q;rw[ir,jA]
  |cons y x=>
   rw[cR,cI,cI,ih,ir,ir,ir];grind
theorem uv{c x:List Rat}(h:r.length=c.length):cI (bV r q c) x=cI r x-q*cI c x:=by
 unfold bV;induction r generalizing c x with
 |nil=>
  cases c with
  |nil=>show(0:Rat)=0-q*0;grind|cons _ _=>simp at h
 |cons a r ih=>
  cases c with
  |nil=>simp at h
  |cons b c=>
   cases x with
   |nil=>show(0:Rat)=0-q*0;grind
   |cons y x=>
    rw[An,cI,cI,cI,ih<|by simpa using h];grind
theorem KQ(hr:r.length=n)(hk:k<n):cI r (bW n k)=r.getD k 0:=by rw[lV r (bW n k) n hr<|lT n k,mr hk];rw[unit_at' hk,oI rfl,ye];intro i hi e;rw[unit_at' hi,ks e,Rat.mul_zero]
where
 unit_at' {n k i:Nat} (hi:i<n):(bW n k).getD i 0=if i=k then 1 else 0:=by unfold bW;rw[bN,cH,jM hi];rfl
theorem pK(hi:i<n):(bW n k).getD i 0=if i=k then 1 else 0:=by unfold bW;rw[bN,cH,jM hi];rfl
theorem zD{x:List Rat}{a:Nat}{v:Rat}(ha:a<x.length):(x.set a v).getD i 0=if i=a then v else x.getD i 0:=by rw[bN,Ar,bN];by_cases e:a=i;subst e;rw[oI rfl,oI rfl,oI ha];rfl;rw[ks e,ks<|Nm e]
theorem KR{x:List Rat}{a:Nat}{v:Rat}(hr:r.length=n)(hx:x.length=n)(ha:a<n)(h0:x.getD a 0=0):cI r (x.set a v)=cI r x+r.getD a 0*v:=by
 rw[lV r _ n hr (by rw[cU];exact hx),lV r x n hr hx];have:aJ (λj=>r.getD j 0*(x.set a v).getD j 0-r.getD j 0*x.getD j 0) n=r.getD a 0*v:=by rw[mr ha];rw[zD<|by omega,oI rfl,h0,Rat.mul_zero];grind;intro i hi e;rw[zD<|by omega,ks e];grind
 rw[Zc]at this;grind
structure Ec(n:Nat)(R:List (List Rat))(p:Nat)(ld:List (List Rat))(pl:List Nat)(rs:List (List Rat)):Prop where
 wl:∀r∈ld,r.length=n
 ws:∀r∈rs,r.length=n
 ll:ld.length=pl.length
 nul:∀x:List Rat,x.length=n->((∀r∈R,cI r x=0)↔(∀r∈ld,cI r x=0)/\∀r∈rs,cI r x=0)
 lt:∀a∈pl,a<p
 asc:pl.Pairwise (· < ·)
 one:∀i j,i<ld.length->j<pl.length->(ld.getD i []).getD (pl.getD j 0) 0=if i=j then 1 else 0
 low:∀i,i<ld.length->∀q,q<pl.getD i 0->(ld.getD i []).getD q 0=0
 zer:∀r∈rs,∀q,q<p->r.getD q 0=0
theorem Ec.start{R:List (List Rat)}(h:∀r∈R,r.length=n):Ec n R 0 [] [] R:=⟨by simp,h,rfl,λx _=>by simp,by simp,.nil,λi j hi=>by simp at hi,λi hi=>by simp at hi,λr _ q hq=>by omega⟩
theorem Ec.skip{p:Nat}{R ld rs:List (List Rat)}{pl:List Nat}(h:Ec n R p ld pl rs)(h0:∀r∈rs,r.getD p 0=0):Ec n R (p+1) ld pl rs:=
 ⟨h.wl,h.ws,h.ll,h.nul,λa ha=>yd<|h.lt a ha,h.asc,h.one,h.low,λr hr q hq=>by
  by_cases e:q=p
  .rw[e];exact h0 r hr
  .exact h.zer r hr q<|by omega⟩
theorem Ec.pivot{p:Nat}{R ld rs rs1 rs2:List (List Rat)}{pl:List Nat}{lead:List Rat}(h:Ec n R p ld pl rs)(hp:p<n)(hr0:r.getD p 0≠0)(hrs:∀t,t∈rs↔t=r\/t∈rs1)(hld:lead=lu r (r.getD p 0))(h2:∀t,t∈rs2↔∃u∈rs1,t=bV u (u.getD p 0) lead):Ec n R (p+1) (cK ld lead p++[lead]) (pl++[p]) rs2:=by
 have rr:r∈rs:=(hrs r).mpr<|.inl rfl;have rl:=h.ws r rr;have ll:lead.length=n:=by rw[hld];unfold lu;rw[bG];exact rl
 have lat:∀j,lead.getD j 0=r.getD j 0/r.getD p 0:=λj=>by
  rw[hld];unfold lu;rw[bN,cH,bN (i:=j)];cases r[j]? with
  |none=>show(0:Rat)=0/_;rw[ir,jA]|some x=>rfl
 have lp:lead.getD p 0=1:=by rw[lat,ir,qF _ hr0]
 have lz:∀q,q<p->lead.getD q 0=0:=λq hq=>by rw[lat,h.zer r rr q hq,ir,jA]
 have lesL:∀(u:List Rat) (z:Rat),u.length=n->(bV u z lead).length=n:=λu z hu=>by unfold bV;rw[nV];omega
 have lesA:∀(u:List Rat) (z:Rat) (j:Nat),u.length=n->(bV u z lead).getD j 0=u.getD j 0-z*lead.getD j 0:=λu z j hu=>by unfold bV;simp only[bN];by_cases hj:j<n;rw[bJ (by rw[nV];omega),bJ<|by omega,bJ<|by omega,tS];rfl;rw[eD (by rw[nV];omega),eD<|by omega,eD<|by omega];show(0:Rat)=0-z*0;grind
 have wlen:(cK ld lead p).length=ld.length:=by unfold cK;rw[bG]
 have wat:∀i,i<ld.length->(cK ld lead p++[lead]).getD i []=bV (ld.getD i []) ((ld.getD i []).getD p 0) lead:=λi hi=>by rw[bN,kQ<|by omega];unfold cK;rw[cH,bN,bJ hi];rfl
 have wlast:(cK ld lead p++[lead]).getD ld.length []=lead:=by rw[bN,jZ<|by omega,wlen,rK];rfl
 have plat:∀i,i<pl.length->(pl++[p]).getD i 0=pl.getD i 0:=λi hi=>by rw[bN,kQ hi,bN]
 have plast:(pl++[p]).getD pl.length 0=p:=by rw[bN,jZ<|cF _,rK];rfl
 have plt:∀i,i<pl.length->pl.getD i 0<p:=λi hi=>by rw[bN,bJ hi];exact h.lt _<|gu _
 have ldm:∀i,i<ld.length->ld.getD i []∈ld:=λi hi=>jv hi;have hll:=h.ll;refine⟨λt ht=>?_,λt ht=>?_,?_,λx hx=>?_,λa ha=>?_,?_,λi j hi hj=>?_,λi hi q hq=>?_,λt ht q hq=>?_⟩;rcases Yao.mp ht with ht|ht
 unfold cK at ht;obtain⟨u,hu,rfl⟩:=YbQ.mp ht;exact lesL u _<|h.wl u hu
 rw[Ycw.mp ht];exact ll;obtain⟨u,hu,rfl⟩:=(h2 t).mp ht;exact lesL u _<|h.ws u ((hrs u).mpr<|.inr hu)
 rw[dG,dG,wlen,hll];rfl;rw[h.nul x hx];have dl:cI lead x=cI r x/r.getD p 0:=by rw[hld];exact KP rl hx
 constructor;rintro⟨g1,g2⟩;have z:cI lead x=0:=by rw[dl,g2 r rr,ir,jA]
 refine⟨λt ht=>?_,λt ht=>?_⟩;rcases Yao.mp ht with ht|ht
 unfold cK at ht;obtain⟨u,hu,rfl⟩:=YbQ.mp ht;rw[uv<|by rw[h.wl u hu,ll],g1 u hu,z];grind;rw[Ycw.mp ht];exact z;obtain⟨u,hu,rfl⟩:=(h2 t).mp ht;have hu':=(hrs u).mpr<|.inr hu;rw[uv<|by rw[h.ws u hu',ll],g2 u hu',z];grind
 rintro⟨g1,g2⟩;have z:cI lead x=0:=g1 lead (by simp);have zr:cI r x=0:=by
  rw[dl,ir]at z;have:cI r x*(r.getD p 0)⁻¹*r.getD p 0=0:=by rw[z,jA]
  rw[Rat.mul_assoc,Rat.inv_mul_cancel _ hr0,ye]at this;exact this
 refine⟨λt ht=>?_,λt ht=>?_⟩;have:=g1 (bV t (t.getD p 0) lead) (Yao.mpr<|.inl (by unfold cK;exact mE (f:=λr=>bV r (r.getD p 0) lead) ht));rw[uv<|by rw[h.wl t ht,ll],z]at this;grind;rcases(hrs t).mp ht with rfl|hu
 exact zr;have:=g2 (bV t (t.getD p 0) lead) ((h2 _).mpr ⟨t,hu,rfl⟩);rw[uv<|by rw[h.ws t ht,ll],z]at this;grind;rcases Yao.mp ha with ha|ha
 exact yd<|h.lt a ha
 rw[Ycw.mp ha];exact Nat.lt_succ_self p;refine YcN.mpr ⟨h.asc,by simp,λa ha b hb=>?_⟩;rw[Ycw.mp hb];exact h.lt a ha;rw[dG,wlen,j9]at hi;rw[dG,j9]at hj;by_cases hi':i<ld.length;have hw:=h.wl _ (ldm i hi');rw[wat i hi',lesA _ _ _ hw];by_cases hj':j<pl.length;rw[plat j hj',h.one i j hi' hj',lz _<|plt j hj'];grind;obtain rfl:j=pl.length:=by omega
 rw[plast,lp,ks<|by omega];grind;obtain rfl:i=ld.length:=by omega
 rw[wlast];by_cases hj':j<pl.length;rw[plat j hj',lz _<|plt j hj',ks<|by omega];obtain rfl:j=pl.length:=by omega
 rw[plast,lp,oI hll];rw[dG,wlen,j9]at hi;by_cases hi':i<ld.length;have hw:=h.wl _ (ldm i hi');rw[plat i<|by omega]at hq;rw[wat i hi',lesA _ _ _ hw,h.low i hi' q hq,lz q (by have:=plt i (by omega);omega)];grind;obtain rfl:i=ld.length:=by omega
 rw[hll,plast]at hq;rw[wlast];exact lz q hq;obtain⟨u,hu,rfl⟩:=(h2 t).mp ht;have hu':=(hrs u).mpr<|.inr hu;rw[lesA _ _ _<|h.ws u hu']
 by_cases e:q=p;rw[e,lp];grind;rw[h.zer u hu' q<|by omega,lz q<|by omega];grind
def gJ(r:List Rat)(q:Nat):List (List Rat)->List Nat->Rat
 |l::L,a::P=>r.getD a 0*l.getD q 0+gJ r q L P|_,_=>0
theorem Fz(q:Nat):∀(L:List (List Rat)) (P:List Nat) (row:List Rat),(eU q L P row).length=row.length
 |[],_,_=>by simp[eU]|_::_,[],_=>by simp[eU]|l::L,a::P,row=>by rw[eU,Fz q L P,cU]
theorem Cp{q t:Nat}:∀(L:List (List Rat)) (P:List Nat) (row:List Rat),(∀a∈P,a<row.length)->t∉P->(eU q L P row).getD t 0=row.getD t 0
 |[],_,_,_,_=>by simp[eU]|_::_,[],_,_,_=>by simp[eU]|l::L,a::P,row,h,ht=>by rw[eU,Cp L P _ (λb hb=>by rw[cU];exact h b<|by simp[hb])<|λhb=>ht<|by simp[hb],zD<|h a<|by simp,ks<|λe=>ht<|by simp[e]]
theorem FA{r:List Rat}{q n:Nat}(hr:r.length=n):∀(L:List (List Rat)) (P:List Nat) (row:List Rat),row.length=n->(∀a∈P,a<n)->P.Pairwise (· < ·)->(∀a∈P,row.getD a 0=0)->cI r (eU q L P row)=cI r row-gJ r q L P
 |[],_,row,_,_,_,_=>by simp only[eU,gJ];grind|_::_,[],row,_,_,_,_=>by simp only[eU,gJ];grind
 |l::L,a::P,row,hw,hn,ha,h0=>by
  obtain⟨h1,h2⟩:=YcO.mp ha;rw [eU,FA hr L P _ (by rw [cU];exact hw) (λb hb=>hn b<|by simp [hb]) h2 (λb hb=>by
   rw[zD (by rw[hw];exact hn a<|by simp),ks (by have:=h1 b hb;omega)];exact h0 b<|by simp[hb]),KR hr hw (hn a<|by simp)<|h0 a<|by simp,gJ]
  grind
theorem FC{r:List Rat}{q:Nat}:∀(L:List (List Rat)) (P:List Nat),(∀j,j<P.length->j<L.length->r.getD (P.getD j 0) 0*(L.getD j []).getD q 0=0)->gJ r q L P=0
 |[],_,_=>by simp[gJ]|_::_,[],_=>by simp[gJ]|l::L,a::P,h=>by rw[gJ,FC L P<|λj h1 h2=>by simpa using h (j+1) (by simpa using h1) (by simpa using h2)];have:=h 0 (by simp) (by simp);rw[uS,uS]at this;rw[this,nW]
theorem FD{r:List Rat}{q:Nat}:∀(L:List (List Rat)) (P:List Nat) (i:Nat),i<L.length->L.length=P.length->(∀j,j<P.length->r.getD (P.getD j 0) 0=if i=j then 1 else 0)->gJ r q L P=(L.getD i []).getD q 0
 |[],_,i,hi,_,_=>by simp at hi|_::_,[],i,_,hl,_=>by simp at hl
 |l::L,a::P,0,hi,hl,h=>by
  have h0:=h 0 (by simp);rw[uS,oI rfl]at h0;rw [gJ,h0,FC L P (λj h1 h2=>by
   have:=h (j+1) (by simpa using h1);rw[As,ks<|by omega]at this;rw[this,jA]),uS]
  grind
 |l::L,a::P,i+1,hi,hl,h=>by
  have h0:=h 0 (by simp);rw[uS,ks<|by omega]at h0;rw [gJ,h0,FD L P i (by simpa using hi) (by simpa using hl) (λj hj=>by
   have:=h (j+1) (by simpa using hj);rw[As]at this;rw[this]
   by_cases e:i=j
   .rw[oI e,oI<|by omega]
   .rw[ks e,ks<|by omega]),As]
  grind
theorem Ec.free{q:Nat}{R ld rs:List (List Rat)}{pl:List Nat}(h:Ec n R n ld pl rs)(hq:q<n)(hn:q∉pl):(eU q ld pl<|bW n q).length=n/\∀r∈R,cI r (eU q ld pl<|bW n q)=0:=by
 have l:(eU q ld pl<|bW n q).length=n:=by rw[Fz,lT]
 have z0:∀a∈pl,(bW n q).getD a 0=0:=λa ha=>by rw[pK<|h.lt a ha,ks (show¬a=q from λe=>hn (by rw[<-e];exact ha))]
 refine⟨l,(h.nul _ l).mpr ⟨λr hr=>?_,λr hr=>?_⟩⟩;obtain⟨i,hi,e⟩:=Ybv.mp hr;have e':ld.getD i []=r:=by rw[bN,bJ hi];exact e
 rw[FA (h.wl r hr) ld pl _ (lT n q) h.lt h.asc z0,KQ (h.wl r hr) hq,FD ld pl i hi h.ll (λj hj=>by rw[<-e'];exact h.one i j hi hj),e'];grind;rw[lV r _ n (h.ws r hr) l];exact nM λj hj=>by rw[h.zer r hr j hj,jA]
theorem Cq:∀{a b:List Nat},a.Pairwise (· < ·)->b.Pairwise (· < ·)->(∀x,x∈a↔x∈b)->a=b
 |[],[],_,_,_=>rfl|[],y::b,_,_,h=>by have:=(h y).mpr (by simp);simp at this|x::a,[],_,_,h=>by have:=(h x).mp (by simp);simp at this
 |x::a,y::b,ha,hb,h=>by
  obtain⟨a1,a2⟩:=YcO.mp ha;obtain⟨b1,b2⟩:=YcO.mp hb;have hx:=(h x).mp (by simp);have hy:=(h y).mpr (by simp);have e:x=y:=by
   rcases Yan.mp hx with e|hx
   exact e;rcases Yan.mp hy with e|hy
   exact e.symm;have:=a1 y hy;have:=b1 x hx;omega
  subst e;rw[Cq a2 b2 λz=>?_];constructor;intro hz;rcases Yan.mp ((h z).mp<|by simp[hz]) with e|e
  have:=a1 z hz;omega;exact e;intro hz;rcases Yan.mp ((h z).mpr<|by simp[hz]) with e|e
  have:=b1 z hz;omega;exact e
theorem FE:∀{R:List (List Rat)} {p:Nat},dF R p=none->∀r∈R,r.getD p 0=0
 |[],_,_,r,hr=>by cases hr
 |t::R,p,h,r,hr=>by
  rw[dF]at h;by_cases e:t.getD p 0=0;rw[oI e]at h;rcases Yan.mp hr with rfl|hr
  exact e;exact FE (by cases e2:dF R p with
   |none=>rfl
   |some a=>rw[e2]at h;cases h) r hr
  rw[ks e]at h;cases h
theorem FF{R:List (List Rat)}{a:Nat}(h:a<R.length)(t:List Rat):t∈R↔t=R.getD a []\/t∈R.take a++R.drop (a+1):=by
 have e:R=R.take a++R.getD a []::R.drop (a+1):=by
  conv=>lhs;rw[<-List.take_append_drop a R]
  rw[nU h,bN,bJ h];rfl
 conv=>lhs;rw[e]
 simp only[Yao,Yan];constructor;rintro(h|h|h);exact .inr<|.inl h
 exact .inl h;exact .inr<|.inr h
 rintro(h|h|h);exact .inr<|.inl h
 exact .inl h;exact .inr<|.inr h
theorem zE{n:Nat}{R:List (List Rat)}(hR:∀r∈R,r.length=n):∀p,p<=n->Ec n R p (cQ R p).ld (cQ R p).pl (cQ R p).rs
 |0,_=>Ec.start hR
 |p+1,hp=>by
  have ih:=zE hR p (by omega);rw[cQ];generalize cQ R p=x at ih;unfold tF;cases e:dF x.rs p with
  |none=>exact ih.skip<|FE e
  |some a=>obtain⟨a1,a2⟩:=tG e;exact ih.pivot (r:=x.rs.getD a []) (rs1:=x.rs.take a++x.rs.drop (a+1)) (by omega) a2 (FF a1) rfl λt=>by unfold cK;rw[YbQ];constructor;rintro⟨u,hu,rfl⟩;exact⟨u,hu,rfl⟩;rintro⟨u,hu,rfl⟩;exact⟨u,hu,rfl⟩
namespace Dt
open B.C
theorem zF(f g:Nat->Rat):∀n:Nat,aJ (λi=>f i+g i) n=aJ f n+aJ g n
 |0=>by simp only[aJ];grind|n+1=>by rw[aJ,aJ,aJ,zF f g n];grind
theorem sumN_mul(f:Nat->Rat)(c:Rat):∀n:Nat,aJ (λi=>c*f i) n=c*aJ f n
 |0=>by simp only[aJ];grind|n+1=>by rw[aJ,aJ,sumN_mul f c n];grind
theorem Cr(f:Nat->Nat->Rat)(m:Nat):∀n:Nat,aJ (λi=>aJ (λj=>f i j) m) n=aJ (λj=>aJ (λi=>f i j) n) m
 |0=>by rw[aJ];exact(nM λ_ _=>rfl).symm|n+1=>by rw[aJ,Cr f m n,<-zF];rfl
theorem Ct(f:Nat->Int):∀n:Nat,aJ (λi=>((f i:Int):Rat)) n=((sumI f n:Int):Rat)
 |0=>rfl|n+1=>by rw[aJ,sumI,Ct f n,yf]
theorem KS(h:IsSl s n)(hi:i<n):((lU s n).getD i []).getD j 0=(tA (tbl s n) i j:Rat):=by
 have l:=tm s n;unfold lU tA gr ga;have e:(tbl s n)[i]? = some ((tbl s n).getD i []):=by rw[bN,bJ<|by omega];rfl
 rw[bN (l:=List.map d7<|tbl s n),cH,e];show(d7<|(tbl s n).getD i []).getD j 0=_;unfold d7;rw[bN,cH,bN (l:=(tbl s n).getD i [])];cases((tbl s n).getD i [])[j]? with
 |none=>rfl|some v=>rfl
def wK(n:Nat)(f:Nat->Rat):List Rat:=(List.range n).map f
theorem FG(n:Nat)(f:Nat->Rat):(wK n f).length=n:=by unfold wK;simp
theorem FH{f:Nat->Rat}(h:j<n):(wK n f).getD j 0=f j:=by unfold wK;rw[bN,cH,jM h];rfl
theorem KU{x:List Rat}(h:IsSl s n)(hi:i<n)(hx:x.length=n):cI ((lU s n).getD i []) x=aJ (λj=>(tA (tbl s n) i j:Rat)*x.getD j 0) n:=by have hm:(lU s n).getD i []∈lU s n:=jv (by rw[Fx];exact hi);rw[lV _ x n (KO h _ hm).len hx];exact dP λj _=>by rw[KS h hi]
def FI(n:Nat):(List.range n).Pairwise (· < ·):=List.pairwise_lt_range
end Dt
namespace Gs
open Dt
theorem tA_ent(h:IsSl s n)(hi:i<n)(hj:j<n):tA (tbl s n) i j=fe s n i j:=by unfold tA B.C.gr B.C.ga;rw[B0 h,bN (l:=List.map _ _),cH,jM hi];show((List.range n).map λj=>fe s n i j).getD j 0=_;rw[bN,cH,jM hj];rfl
end Gs
def aU(K:Nb)(mg:Str->Option Value)(x:Str)(st:Stmt):Prop:=∃f fd,Fun K x x st f fd/\mg x=some (.ref f)/\jD K x=some f
def CC(K:Nb)(mg:Str->Option Value)(x:Str):Prop:=∃a,mg x=some (.ref a)/\jD K x=some a
def CI(mg:Str->Option Value)(x:Str)(i:Int):Prop:=∃t,mg x=some (.int i t)
def CT(K:Nb)(mg:Str->Option Value)(x:Str)(ds:List D):Prop:=∃a vs,mg x=some (.ref a)/\KT K a vs/\∀W,Reps K W vs ds
section
variable{h:Heap}
def mkF(X:K.In h)(G:h.Ns mainGlobals mg){oc:Value}{kV doc pm cdv ct:Value}(a:PySem.W.nsIn K mainGlobals x=some (some<|.ref f))(l:K.lookup f=some ⟨oc,od,.func<|PySem.W.fnOf x x (cT st) (bR st) (aK st) .none kV doc pm an cdv ct,osl⟩)
  (c:PySem.W.codeIn K cdv x=true) (k:PySem.W.keepIn K (.ref f)=true):aU K mg x st:=⟨f,_,sO l c k,PySem.W.mg_of X G a,td a⟩
def mkC(X:K.In h)(G:h.Ns mainGlobals mg)(a:PySem.W.nsIn K mainGlobals x=some (some<|.ref f)):CC K mg x:=⟨f,PySem.W.mg_of X G a,td a⟩
def mkI(X:K.In h)(G:h.Ns mainGlobals mg){i:Int}{t:Tok}(a:PySem.W.nsIn K mainGlobals x=some (some<|.int i t)):CI mg x i:=⟨t,PySem.W.mg_of X G a⟩
theorem mkT(X:K.In h)(G:h.Ns mainGlobals mg){d:Option Addr}{i j:Int}{t u:Tok}(a:PySem.W.nsIn K mainGlobals x=some (some<|.ref f))(l:K.lookup f=some ⟨.type "tuple",d,.seq #[.int i t,.int j u] n,sl⟩):CT K mg x [.int i,.int j]:=
 ⟨f,[.int i,.int j],PySem.W.mg_of X G a,⟨_,_,_,l,rfl,rfl,(by show 2<=sizeLine;decide),.cons ⟨_,rfl⟩<|.cons ⟨_,rfl⟩ .nil⟩,λ_=>.cons (.int _)<|.cons (.int _) .nil⟩
def mkX(X:K.In h)(G:h.Ns mainGlobals mg)(a:PySem.W.nsIn K mainGlobals x=some (some<|.ref f))(e:PySem.W.excIn K f [.type "ValueError",.type "Exception",.type "BaseException",.type "object"] "ValueError.__new__" = true):XC K mg x:=
 ⟨f,_,_,_,td a,PySem.W.mg_of X G a,e,PySem.F.excBase_ValueError⟩
theorem mkH(X:K.In h)(G:h.Ns mainGlobals mg){L:List Str}(a:PySem.W.nsIn K mainGlobals x=some (some<|.ref f))(e:PySem.W.excIn K f [.type "ValueError",.type "Exception",.type "BaseException",.type "object"] "ValueError.__new__" = true)
  (m:∀n∈L,∃D,PySem.W.nsIn K mainGlobals (nr n)=some (some<|.ref D)/\PySem.W.mroIn K D (.ref f)=some true):XT K mg x L:=
 ⟨f,_,_,PySem.W.mg_of X G a,e,by decide +kernel,λn hn D hD=>by
  obtain⟨D',e1,e2⟩:=m n hn;rw[td e1]at hD;cases hD;exact e2⟩
end
section
variable{P:Program}{w:World}{base:Heap}{N:List Str}{z:WS}
universe u
def FJ{α:Sort u}{F G:List Value->α}(h:∀a,F [a]=G [a]):∀us:List Value,us.length=1->F us=G us
 |[_],_=>h _
def FK{α:Sort u}{F G:List Value->α}(h:∀a b,F [a,b]=G [a,b]):∀us:List Value,us.length=2->F us=G us
 |[_,_],_=>h _ _
def FL{α:Sort u}{F G:List Value->α}(h:∀a b c,F [a,b,c]=G [a,b,c]):∀us:List Value,us.length=3->F us=G us
 |[_,_,_],_=>h _ _ _
def FM{α:Sort u}{F G:List Value->α}(h:∀a b c d,F [a,b,c,d]=G [a,b,c,d]):∀us:List Value,us.length=4->F us=G us
 |[_,_,_,_],_=>h _ _ _ _
theorem cL(rd:Rd S z N)(h:aU K mg x st)
  (hbody:∀ {f:Addr} {cdv:Value} {A:Around} {outer:List Env} {s:Shared} {H:Hp} {E:XK} (sc:N.Nodup),Room k (A.deeper<|envOfC x (aK st) s.heap.objs.size f cdv)->
   dh (fL P w) (eG (fL P w) P w K mg base N x (aK st) f cdv A outer s H E) E->lM (eG (fL P w) P w K mg base N x (aK st) f cdv A outer s H E) E->
   jT (eG (fL P w) P w K mg base N x (aK st) f cdv A outer s H E) E (bR st) z)
  (sc:c6 N ps (aK st):=by exact⟨rfl,rfl,rfl,by decide +kernel,rfl,by decide +kernel,by decide +kernel⟩)
  (len:∀ds E Q,S ds E Q->ds.length=ps.length:=by first|exact fnS.len λ_=>rfl|exact xS.len λ_=>rfl|exact rlS.len λ_=>rfl)
  (hb:∀ (kV doc pm:Value) (an:Option Addr) (cdv ct:Value) (us:List Value),us.length=ps.length->bindArgs (PySem.W.fnOf x x (cT st) (bR st) (aK st) .none kV doc pm an cdv ct) ⟨us,[]⟩=pure (ps.zip us):=by
   intro _ _ _ _ _ _;(first|refine FJ ?_|refine FK ?_|refine FL ?_|refine FM ?_);intros;rfl)
  (mono:qq S:=by first|exact fnS.mono|exact rlS.mono|exact xS.mono):Fp P w K mg base (k+1) x ps S:=by
 obtain⟨f,fd,F,m,q⟩:=h;exact Fp.of (vP (z:=z) F sc len (λcdv A outer s H E hr hx hw=>hbody sc.nd hr hx hw) rd) mono m F.kp<|F.binds hb
theorem Cu(h:aU K mg x st)
  (hbody:∀ (sc:N.Nodup) (f:Addr) (cdv:Value) (A:Around) (outer:List Env) (s:Shared) (H:Hp),RoomU k (A.deeper<|envOfC x (aK st) s.heap.objs.size f cdv)->
   jT (sP P w K mg base N x (aK st) f cdv A outer s H) E0 (bR st) z)
  (rd:∀ds E Q,S ds E Q->z No { nx:=λ_=>Q .non,rt:=Q } (fb N ds))
  (sc:c6 N ps (aK st):=by exact⟨rfl,rfl,rfl,by decide +kernel,rfl,by decide +kernel,by decide +kernel⟩)
  (len:∀ds E Q,S ds E Q->ds.length=ps.length:=by first|exact fnS.len λ_=>rfl|exact xS.len λ_=>rfl|exact rlS.len λ_=>rfl)
  (hb:∀ (kV doc pm:Value) (an:Option Addr) (cdv ct:Value) (us:List Value),us.length=ps.length->bindArgs (PySem.W.fnOf x x (cT st) (bR st) (aK st) .none kV doc pm an cdv ct) ⟨us,[]⟩=pure (ps.zip us):=by
   intro _ _ _ _ _ _;(first|refine FJ ?_|refine FK ?_|refine FL ?_|refine FM ?_);intros;rfl)
  (mono:qq S:=by first|exact fnS.mono|exact rlS.mono|exact xS.mono):BF P w K mg base (k+1) x ps S:=by
 obtain⟨f,fd,F,m,q⟩:=h;exact⟨⟨f,fd,BE (z:=z) F sc len (λcdv A outer s H hr=>hbody sc.nd f cdv A outer s H hr) rd,m,F.kp,F.binds hb⟩,mono⟩
theorem KW{l:PySem.W.OpenLaw}(h:aU K mg x st)(hfa:mg x=some (.ref fa))
  (hbody:∀ (base:Heap) (sc:N.Nodup) (f:Addr) (cdv:Value) (A:Around) (outer:List Env) (s:Shared) (H:Hp) (E:XK),Room k (A.deeper<|envOfC x (aK st) s.heap.objs.size f cdv)->
   dh (fL l.prog w) (eG (fL l.prog w) l.prog w K mg base N x (aK st) f cdv A outer s H E) E->lM (eG (fL l.prog w) l.prog w K mg base N x (aK st) f cdv A outer s H E) E->
   jT (eG (fL l.prog w) l.prog w K mg base N x (aK st) f cdv A outer s H E) E (bR st) z)
  (rd:Rd S z N)
  (sc:c6 N ["_law_script"] (aK st):=by exact⟨rfl,rfl,rfl,by decide +kernel,rfl,by decide +kernel,by decide +kernel⟩)
  (len:∀ds E Q,S ds E Q->ds.length=1:=by exact fnS.len (ps:=["_law_script"]) λ_=>rfl)
  (hb:∀(kV doc pm:Value) (an:Option Addr) (cdv ct:Value) (s:Shared) (v:Value),BindsTo s (PySem.W.fnOf x x (cT st) (bR st) (aK st) .none kV doc pm an cdv ct) ⟨[v],[]⟩ [("_law_script",v)]:=by exact λ_ _ _ _ _ _ _ _=>.of_eq rfl) :
  ∃fd:FuncData,(∀(s:Shared) (v:Value),BindsTo s fd ⟨[v],[]⟩ [("_law_script",v)])/\∀base:Heap,K.In base->base.Ns mainGlobals mg->gv l.prog w K mg base (fL l.prog w) (k+1) fa fd ["_law_script"] (hJ K S):=by
 obtain⟨f,fd,F,m,q⟩:=h;rw[m]at hfa;cases hfa;refine⟨fd,?_,λbase _ _=>vP (z:=z) F sc len (λcdv A outer s H E hr hx hw=>hbody base sc.nd _ cdv A outer s H E hr hx hw) rd⟩;obtain⟨_,_,_,_,_,_,_,_,_,rfl,_⟩:=F.ex;exact hb _ _ _ _ _ _
end
section
variable{l:List (Str×bX)}
theorem qy(h:CC X.K X.mg x)(hg:Gl X x:=by rfl)(hd:(x==("__debug__" : Str))=false:=by decide):PX X EX (.Name x pos) (wC<|.cls x):=let⟨_,m,q⟩:=h;Jq m q hg hd
theorem Cv{i:Int}(h:CI X.mg x i)(hg:Gl X x:=by rfl)(hd:(x==("__debug__" : Str))=false:=by decide):PX X EX (.Name x pos) (wC<|.int i):=let⟨_,m⟩:=h;IS m hg hd
theorem uw(h:CT X.K X.mg x ds)(hg:Gl X x:=by rfl)(hd:(x==("__debug__" : Str))=false:=by decide):PX X EX (.Name x pos) (wC<|.tup ds):=let⟨_,_,m,k,r⟩:=h;IT m k r hg hd
end
section
variable{n m:Str}{D C:Addr}{M:List Str}
def exD(a:PySem.W.nsIn K mainGlobals n=some (some<|.ref D))(b:PySem.W.mroIn K D (.ref f)=some true):∃D,PySem.W.nsIn K mainGlobals n=some (some<|.ref D)/\PySem.W.mroIn K D (.ref f)=some true:=⟨D,a,b⟩
def exX(a:PySem.W.nsIn K mainGlobals n=some (some<|.ref D))(c:iy K D)(k:PySem.W.kitOne K (.ref D) (.type "ValueError")=some true)(h:∀m∈M,∃C,jD K m=some C/\PySem.W.kitOne K (.ref D) (.ref C)=some (n==m)) :
  ∃D,jD K n=some D/\iy K D/\PySem.W.kitOne K (.ref D) (.type "ValueError")=some true/\∀m∈M,∃C,jD K m=some C/\PySem.W.kitOne K (.ref D) (.ref C)=some (n==m):=⟨D,td a,c,k,h⟩
def exC(a:PySem.W.nsIn K mainGlobals m=some (some<|.ref C))(b:PySem.W.kitOne K (.ref D) (.ref C)=some (n==m)):∃C,jD K m=some C/\PySem.W.kitOne K (.ref D) (.ref C)=some (n==m):=⟨C,td a,b⟩
end
def nN:Except Str D->D
 |.ok v=>v|.error e=>.str<|um e
theorem Cw{r:Except Str D}(h:∀e,r=.error e->e∈LX)(q:Q (nN r)):exQ (λex=>ex∈LX/\Q (.str<|um ex)) Q r:=by
 cases r with
 |ok v=>exact q|error e=>exact⟨h e rfl,q⟩
theorem KY{x:D}{v:Except Str D}{e:Str}(h:∀e,v=.error e->e∈LX)(he:fP x v=.error e):e∈LX:=by unfold fP at he;split at he;exact h e he;injection he with he;rw[<-he];simp
theorem KZ(h:IsSl s n)(hm:∀x∈r,Sz m x):∀x∈cX s n r,Sz (5*(6+m+1)+1) x:=by intro x hx;unfold cX at hx;obtain⟨line,hl,rfl⟩:=YbQ.mp hx;obtain⟨h1,h2⟩:=tx h line hl;have h5:=h.n5;refine BO _ _ (λy hy=>?_) hm (by unfold d7;rw[bG];omega);obtain⟨i,hi,rfl⟩:=YbQ.mp hy;exact wm<|h2 i hi
namespace G
def S__law_row_good:bX:=fnS (λx:Nat×D=>[.int x.1,x.2]) (λx=>kd x.2=true/\cZ 300 x.2=true) λx=>.bl<|et x.1 x.2
section
variable{E:Ex->Prop}{x:D}{u:List Int}
def u__law_row_good(h1:kd x=true)(h2:cZ 300 x=true)(q:Q (.bl<|et n x)):S__law_row_good [.int n,x] E Q:=⟨(n,x),rfl,⟨h1,h2⟩,q⟩
end
theorem rd__law_row_good:Rd S__law_row_good BX Zco:=by
 rintro _ E Q ⟨⟨n,x⟩,rfl,⟨hk,hs⟩,q⟩;dsimp only at hk hs q;unfold BX;walk_at "n";refine mn hk (by decide) λt ht=>?_;cases x<;>cases ht<;>try exact q
 rename_i xs;obtain⟨hl,hx⟩:=qt hk;rw[cZ,oh]at hs;walk_at "s";simp only[show fZ "tuple" "tuple" = true from rfl,eP,dD,if_false]
 by_cases h:(xs.length:Int)=n
 .rw[ks<|by simp[h]]
  replace q:Q (.bl<|xs.all cS):=by simpa[et,h] using q
  walk_at "n";refine zp (λds ρ=>(∃sv,ρ=[.d<|.int n,.d<|.tup xs,sv])/\(∀y∈ds,kd y=true/\cZ 300 y=true)/\Q (.bl<|ds.all cS)) ?_ ?_ xs _ ⟨⟨_,rfl⟩,λy hy=>⟨hx y hy,hs y hy⟩,q⟩
  rotate_left
  .rintro _ ⟨⟨sv,rfl⟩,h1,h2⟩
   exact h2
  .rintro d ds _ ⟨⟨sv,rfl⟩,h1,h2⟩ nx hnx
   obtain⟨hkd,hsd⟩:=h1 d (by simp);have hbad:cS d=false->Q (.bl false):=λe=>by rw[rC,e,tM]at h2;exact h2
   have hgood:cS d=true->nx [.d<|.int n,.d<|.tup xs,.d d]:=λe=>by
    rw[rC,e,tQ]at h2;exact hnx _ ⟨⟨_,rfl⟩,λy hy=>h1 y<|by simp[hy],h2⟩
   clear h2 hnx q hs hx h1;walk_at "s";walk_at "n";refine mn hkd (by decide) λt ht=>?_;cases d<;>cases ht<;>try exact hbad rfl
   rename_i ys;obtain⟨hyl,hy⟩:=qt hkd;rw[cZ,oh]at hsd;walk_at "s";simp only[show fZ "tuple" "tuple" = true from rfl,eP,dD,if_false]
   by_cases h2:ys.length=2
   .match ys,h2,hy,hsd,hbad,hgood with
    |[a,b],_,hy,hsd,hbad,hgood=>
    rw[ks<|by simp];walk_at "s";refine⟨a,rfl,BV (hy a<|by simp) ?_⟩;walk_at "s";cases ha:mm a with
    |false=>exact hbad<|EC ha
    |true=>
    obtain⟨i,rfl⟩:=wj ha;simp only[eP,dD,if_false];refine⟨b,rfl,BV (hy b<|by simp) ?_⟩;walk_at "s";cases hb:mm b with
    |false=>exact hbad<|ED hb
    |true=>
    obtain⟨j,rfl⟩:=wj hb;simp only[eP,dD,if_false];refine⟨_,rfl,?_⟩;walk_at "s"
    by_cases h0:j<1
    .rw[oI<|by simpa using h0]
     exact hbad (by simp[cS];intro z;omega)
    .rw[ks<|by simpa using h0]
     have hj:cZ 300 (.int j)=true:=hsd _ (by simp);rw[cZ,Nf]at hj;refine⟨_,rfl,_,rfl,ze (by omega) (ju hj<|by decide)<|n6 (E3 _ _) (E3 _ _) ?_⟩;rw[Kd<|by omega];cases e:cS (.tup [.int i,.int j]) with
     |false=>exact hbad e
     |true=>exact hgood e
   .rw[oI<|by simpa using λz=>h2<|by exact_mod_cast z]
    exact hbad<|EB h2
 .rw[oI<|by simpa using h]
  have e:((xs.length:Int)==(n:Int))=false:=by simpa using h
  simpa[et,e] using q
def gd(d:D):Prop:=kd d=true/\cZ 223 d=true
theorem gd_tup(h:xs.length<=5000)(h':∀x∈xs,gd x):gd (.tup xs):=⟨lQ h λx hx=>(h' x hx).1,by rw[cZ,oh];exact λx hx=>(h' x hx).2⟩
theorem gd_lst(h:xs.length<=5000)(h':∀x∈xs,gd x):gd (.lst xs):=⟨vV h λx hx=>(h' x hx).1,by rw[cZ,oh];exact λx hx=>(h' x hx).2⟩
theorem gd_int{i:Int}(h:i.natAbs<2^223):gd (.int i):=⟨by rw[kd],by rw[cZ];exact Nh h⟩
theorem gd_bl(b:Bool):gd (.bl b):=⟨by rw[kd],by simp[cZ]⟩
theorem gd_non:gd .non:=⟨by rw[kd],by simp[cZ]⟩
theorem gd_dic:gd .dic:=⟨by rw[kd],by simp[cZ]⟩
theorem gd_str(x:Str):gd (.str x):=⟨by rw[kd],by simp[cZ]⟩
theorem gd_pair{a b:D}(h1:gd a)(h2:gd b):gd (.tup [a,b]):=gd_tup (by simp) λx hx=>by
 simp only[Yan,eA,or_false]at hx;rcases hx with rfl|rfl
 exact h1;exact h2
theorem gd_cut{a b:Option Int}(h:∀x∈xs,gd x):∀x∈bB xs a b,gd x:=λx hx=>h x (by unfold bB at hx;exact mD<|pR hx)
end G
theorem set_by{E:Ex->Prop}(e:ρ.set i (.d d)=ρ')(hw:∀P:D->Prop,P d->w E ρ P)(h:N.nx ρ'):aQ i w E N ρ:=hw _ (by rw[e];exact h)
def set_rl{E:Ex->Prop}(R:D->Prop)(hw:∀P:D->Prop,(∀d,R d->P d)->w E ρ P)(h:∀d,R d->N.nx (ρ.set i<|.d d)):aQ i w E N ρ:=hw _ h
theorem pair_at{w1 w2:WE}{E:Ex->Prop}{a b:D}(h1:∀P:D->Prop,P a->w1 E ρ P)(h2:∀P:D->Prop,P b->w2 E ρ P):∀P:D->Prop,P (.tup [a,b])->aZ (aC w1<|aC w2 aA) E ρ P:=λP h=>h1 _<|h2 _ ⟨show 2<=small by decide,h⟩
theorem nm_at{E:Ex->Prop}(h:ρ[i]? = some (.d d)):∀P:D->Prop,P d->wN i E ρ P:=λP q=>by unfold wN;rw[h];exact q
def for_seq{E:Ex->Prop}(hw:∀P:D->Prop,P (.lst xs)->w E ρ P)(h:Zbb g zb E N xs ρ):bP (iS w) g zb E N ρ:=hw _ h
theorem Ext.none{W W':Wd}{H H':Hp}{a:Addr}(x:Ext W H W' H')(h:H' a=none):H a=none:=by
 cases e:H a with
 |none=>rfl|some o=>by_cases p:W.Pn a;obtain⟨po,_⟩:=x.ok.p a (x.p a p);unfold ZnQ at po;rw[h]at po;simp at po;rw[x.h a o e p]at h;cases h
abbrev FN:=List D->(Ex->Prop)->(List D->Prop)->Prop
abbrev K0:=(Ex->Prop)->(List D->Prop)->bZ->Prop
def Cy(K:Nb)(W:Wd)(H:Hp)(Q:VK)(rs:List D):Prop:=∀a vs W' H',Ext W H W' H'->H' a=some (.lst vs)->W'.G a=none->¬W'.Pn a->H a=none->Reps K W' vs rs->Q (.ref a) H'
section
variable{o a b:Expr}{id:String}{g:Str->List D->(D->Prop)->Prop}
def CS(mg:Str->Option Value)(x y:Str):Prop:=∃t,mg x=some (.str y t)
def M8{h:Heap}{y:Str}(X:K.In h)(G:h.Ns mainGlobals mg){t:Tok}(a:PySem.W.nsIn K mainGlobals x=some (some<|.str y t)):CS mg x y:=⟨t,PySem.W.mg_of X G a⟩
end
open Dt
namespace Gs
section
def tq(s:List Int)(n i j:Nat):Rat:=(tA (tbl s n) i j:Rat)
theorem tims_len(r:List Rat):(cX s n r).length=n:=by unfold cX;rw[bG,tm]
theorem tims_at(h:IsSl s n)(hr:r.length=n)(hi:i<n):(cX s n r).getD i 0=aJ (λj=>tq s n i j*r.getD j 0) n:=by
 have e1:cX s n r=(lU s n).map λl=>cI l r:=by unfold cX lU;rw[cY];rfl
 rw[e1,bN,cH];have:(lU s n)[i]? = some ((lU s n).getD i []):=by rw[bN,bJ (by rw[Fx];exact hi)];rfl
 rw[this];exact KU h hi hr
end
end Gs
open Gs
theorem FO(R:List (List Rat)):∀p:Nat,(cQ R p).ld.length+(cQ R p).rs.length=R.length
 |0=>by simp[cQ]|p+1=>by have ih:=FO R p;rw[cQ];generalize cQ R p=x at ih;unfold tF;split;exact ih;rename_i a e;obtain⟨h1,_⟩:=tG e;show(cK _ _ _++[_]).length+(cK _ _ _).length=_;unfold cK;simp only[dG,bG,j9,jL,kR];omega
theorem K1{R:List (List Rat)}(hR:∀r∈R,r.length=m)(hl:R.length<m):∃c:List Rat,c.length=m/\(∃k,k<m/\c.getD k 0≠0)/\∀r∈R,cI r c=0:=by
 have ec:=zE hR m<|cF _;have cn:=FO R m;have:∃k,k<m/\k∉(cQ R m).pl:=by refine Classical.byContradiction λhc=>?_;have all:∀k,k<m->k∈(cQ R m).pl:=λk hk=>Classical.byContradiction λz=>hc ⟨k,hk,z⟩;have e:(cQ R m).pl=List.range m:=Cq ec.asc (FI m) λx=>⟨λhx=>Yah.mpr<|ec.lt x hx,λhx=>all x<|Yah.mp hx⟩;have l:=ec.ll;rw[e,ke]at l;omega
 obtain⟨k,hk,hn⟩:=this;obtain⟨l,f0⟩:=ec.free hk hn;refine⟨_,l,⟨k,hk,?_⟩,f0⟩;rw[Cp _ _ _ (by rw[lT];exact ec.lt) hn,pK hk,oI rfl];decide +kernel
section
def HB(k:Nat)(e:Int)(x:Rat):Prop:=∃a:Int,a.natAbs<=k*2^228/\x=Rat.divInt a (6*e)
end
def bf(T:Nat->Nat->Rat)(n:Nat)(u v:Nat->Rat):Rat:=aJ (λi=>u i*aJ (λj=>T i j*v j) n) n
def fQ(c:Nat->Rat)(U:Nat->Nat->Rat)(m:Nat):Nat->Rat:=λk=>aJ (λa=>c a*U a k) m
theorem Zi(f:Nat->Rat)(n:Nat):∀m:Nat,aJ f (n+m)=aJ f n+aJ (λj=>f<|n+j) m
 |0=>by simp only[aJ,Nat.add_zero];grind|m+1=>by rw[Nat.add_succ,aJ,Zi f n m,aJ];grind
theorem Cz{f:Nat->Rat}:∀{n:Nat},(∀i,i<n->0<=f i)->0<=aJ f n
 |0,_=>by simp only[aJ];grind|n+1,h=>by have h1:=Cz (f:=f) (n:=n) λi hi=>h i (by omega);have h2:=h n (by omega);rw[aJ];grind
theorem FP{f:Nat->Rat}:∀{n:Nat},(∀i,i<n->0<=f i)->aJ f n<=0->∀i,i<n->f i=0
 |0,_,_,i,hi=>by omega|n+1,h,h0,i,hi=>by have h1:=Cz (f:=f) (n:=n) λi hi=>h i (by omega);have h2:=h n (by omega);rw[aJ]at h0;by_cases e:i=n;subst e;grind;exact FP (n:=n) (λi hi=>h i<|by omega) (by grind) i (by omega)
section
theorem uz{u v u' v':Nat->Rat}(hu:∀i,i<n->u i=u' i)(hv:∀i,i<n->v i=v' i):bf T n u v=bf T n u' v':=
 dP λi hi=>by rw[hu i hi,dP (g:=λj=>T i j*v' j) λj hj=>by rw[hv j hj]]
theorem kK(hT:∀i j,i<n->j<n->T i j=T j i)(u v:Nat->Rat):bf T n u v=bf T n v u:=by unfold bf;rw[dP (g:=λi=>aJ (λj=>u i*(T i j*v j)) n) λi _=>by rw[sumN_mul],Cr];refine dP λj hj=>?_;rw[<-sumN_mul];exact dP λi hi=>by rw[hT i j hi hj];grind
theorem tH(u:Nat->Rat)(c:Nat->Rat)(U:Nat->Nat->Rat):∀m:Nat,bf T n u (fQ c U m)=aJ (λa=>c a*bf T n u (U a)) m
 |0=>by rw[aJ];refine nM λi _=>?_;rw[nM λj _=>by show T i j*0=0;rw[Rat.mul_zero],Rat.mul_zero]
 |m+1=>by rw[aJ,<-tH u c U m];unfold bf;rw[<-sumN_mul,<-zF];refine dP λi _=>?_;rw[dP (g:=λj=>T i j*fQ c U m j+c m*(T i j*U m j)) λj _=>by show T i j*(fQ c U m j+c m*U m j)=_;grind,zF,sumN_mul];grind
theorem Zg(u v w:Nat->Rat)(q:Rat):bf T n u (λk=>v k-q*w k)=bf T n u v-q*bf T n u w:=by unfold bf;rw[<-sumN_mul,<-Zc];refine dP λi _=>?_;rw[dP (g:=λj=>T i j*v j-q*(T i j*w j)) λj _=>by grind,Zc,sumN_mul];grind
structure Ap(T:Nat->Nat->Rat)(n:Nat)(U:Nat->Nat->Rat):Prop where
 ap:∀a b,a<n->b<n->a≠b->bf T n (U a) (U b)=0
 fu:∀x:Nat->Rat,(∀a,a<n->aJ (λk=>U a k*x k) n=0)->∀k,k<n->x k=0
def hX(m:Nat)(f:Nat->Rat):List Rat:=(List.range m).map f
theorem zG(m:Nat)(f:Nat->Rat):(hX m f).length=m:=by unfold hX;rw[bG,ke]
theorem Zk(f:Nat->Rat)(hk:k<m):(hX m f).getD k 0=f k:=by unfold hX;rw[bN,cH,jM hk];rfl
theorem K2(f:Nat->Rat){c:List Rat}(hc:c.length=m):cI (hX m f) c=aJ (λj=>f j*c.getD j 0) m:=by rw[lV _ c m (zG m f) hc];exact dP λj hj=>by rw[Zk f hj]
theorem wish(m:Nat)(L:List (Nat->Rat))(hl:L.length<m):∃x:Nat->Rat,(∃k,k<m/\x k≠0)/\∀f∈L,aJ (λj=>f j*x j) m=0:=by obtain⟨c,h1,h2,h3⟩:=K1 (m:=m) (R:=L.map<|hX m) (λr hr=>by obtain⟨f,_,rfl⟩:=YbQ.mp hr;exact zG m f) (by rw[bG];exact hl);exact⟨λk=>c.getD k 0,h2,λf hf=>by have:=h3 _ (mE hf);rwa [K2 f h1]at this⟩
def qz(a:Nat):Nat->Rat:=λj=>if j=a then 1 else 0
theorem wO{a:Nat}(x:Nat->Rat)(ha:a<m):aJ (λj=>qz a j*x j) m=x a:=by rw[mr ha λi _ ne=>by unfold qz;rw[ks ne,jA]];unfold qz;rw[oI rfl,tU]
theorem Ap.ind(h:Ap T n U){c:Nat->Rat}(h0:∀k,k<n->fQ c U n k=0):∀a,a<n->c a=0:=λt ht=>by
 refine Classical.byContradiction λhc=>?_;obtain ⟨x,⟨k,hk,hx⟩,hz⟩:=wish n (((List.range n).filter λa=>decide (a≠t)).map U) (by
  rw[bG];have:=YcT (p:=λa=>decide (a≠t)) (l:=List.range n);rw[ke]at this;exact this.mpr ⟨t,Yah.mpr ht,by simp⟩)
 have oth:∀a,a<n->a≠t->aJ (λk=>U a k*x k) n=0:=λa ha ne=>hz _<|mE (Yag.mpr ⟨Yah.mpr ha,by simpa using ne⟩);have s:aJ (λa=>c a*aJ (λk=>U a k*x k) n) n=0:=by rw[dP (g:=λa=>aJ (λk=>c a*(U a k*x k)) n) λa _=>by rw[sumN_mul],Cr];refine nM λk hk=>?_;rw[dP (g:=λa=>x k*(c a*U a k)) λa _=>by grind,sumN_mul];have:=h0 k hk;unfold fQ at this;rw[this,Rat.mul_zero]
 rw[mr ht λa ha ne=>by rw[oth a ha ne,Rat.mul_zero]]at s;have z:aJ (λk=>U t k*x k) n=0:=by
  rcases YcU.mp s with e|e
  exact Nd e hc;exact e
 have al:∀a,a<n->aJ (λk=>U a k*x k) n=0:=λa ha=>by by_cases e:a=t;rw[e];exact z;exact oth a ha e
 exact hx<|h.fu x al k hk
theorem Ap.diag(h:Ap T n U)(hT:∀i j,i<n->j<n->T i j=T j i)(c:Nat->Rat):bf T n (fQ c U n) (fQ c U n)=aJ (λa=>c a*(c a*bf T n (U a) (U a))) n:=by rw[tH];refine dP λa ha=>?_;rw[kK hT,tH,mr ha λb hb ne=>by rw[h.ap a b ha hb<|Nm ne,Rat.mul_zero]]
def eC(n:Nat)(p:Nat->Bool):Nat:=((List.range n).filter p).length
theorem FQ{α:Type}(p:α->Bool):∀l:List α,(l.filter λa=>!p a).length+(l.filter p).length=l.length
 |[]=>rfl|a::l=>by have:=FQ p l;cases e:p a<;>simp[tT,e]<;>omega
theorem K3(n:Nat)(p:Nat->Bool):eC n (λa=>!p a)+eC n p=n:=by have:=FQ p<|List.range n;rw[ke]at this;exact this
def eV(T:Nat->Nat->Rat)(n:Nat)(σ:Rat)(U:Nat->Nat->Rat)(a:Nat):Bool:=decide (0<σ*bf T n (U a) (U a))
theorem Ap.le{V:Nat->Nat->Rat}(hT:∀i j,i<n->j<n->T i j=T j i)(h:Ap T n U)(h':Ap T n V)(σ:Rat):eC n (eV T n σ U)<=eC n (eV T n σ V):=by
 refine Classical.byContradiction λhlt=>?_;have c1:=K3 n<|eV T n σ U;obtain ⟨x,⟨k0,hk0,hx0⟩,hz⟩:=wish (n+n) ((List.range n).map (λk j=>if j < n then U j k else V (j - n) k)++(((List.range n).filter λa=>!eV T n σ U a).map qz++((List.range n).filter<|eV T n σ V).map λb=>qz<|n+b)) (by
  rw[dG,dG,bG,bG,bG,ke];unfold eC at *;omega)
 have z1:∀k,k<n->fQ x U n k+fQ (λb=>x<|n+b) V n k=0:=λk hk=>by
  have:=hz (λj=>if j<n then U j k else V (j-n) k)<|Yao.mpr (.inl<|YbQ.mpr ⟨k,Yah.mpr hk,rfl⟩);rw[Zi]at this;unfold fQ;rw[<-this];congr 1
  exact dP λj hj=>by rw[oI hj];grind
  exact dP λj hj=>by rw[ks<|by omega,Nat.add_sub_cancel_left];grind
 have zU:∀a,a<n->eV T n σ U a=false->x a=0:=λa ha hp=>by
  have:=hz (qz a)<|Yao.mpr (.inr<|Yao.mpr<|.inl<|mE<|Yag.mpr ⟨Yah.mpr ha,by rw[hp];rfl⟩)
  rwa [wO x<|by omega]at this
 have zV:∀b,b<n->eV T n σ V b=true->x (n+b)=0:=λb hb hp=>by
  have:=hz (qz<|n+b)<|Yao.mpr (.inr<|Yao.mpr<|.inr<|YbQ.mpr ⟨b,Yag.mpr ⟨Yah.mpr hb,hp⟩,rfl⟩)
  rwa [wO x<|by omega]at this
 have d1:=h.diag hT x;have d2:=h'.diag hT λb=>x<|n+b;have e12:bf T n (fQ x U n) (fQ x U n)=bf T n (fQ (λb=>x<|n+b) V n) (fQ (λb=>x<|n+b) V n):=by
  have neg:∀k,k<n->fQ x U n k = -fQ (λb=>x<|n+b) V n k:=λk hk=>by have:=z1 k hk;grind
  unfold bf;refine dP λi hi=>?_;rw[neg i hi,dP (g:=λj=>-1*(T i j*fQ (λb=>x<|n+b) V n j)) (λj hj=>by rw[neg j hj];grind),sumN_mul];grind
 have p1:∀a,a<n->0<=x a*(x a*(σ*bf T n (U a) (U a))):=λa ha=>by
  cases hp:eV T n σ U a with
  |false=>rw[zU a ha hp,jA];grind
  |true=>
   have:0<σ*bf T n (U a) (U a):=by unfold eV at hp;simpa using hp
   have sq:0<=x a*x a:=by
    rcases Rat.le_total (a:=0) (b:=x a) with q|q
    exact tV q q;have:=tV (show(0:Rat)<=-x a by grind) (show(0:Rat)<=-x a by grind);grind
   have:=tV sq<|Rat.le_of_lt this;grind
 have p2:aJ (λb=>x (n+b)*(x (n+b)*(σ*bf T n (V b) (V b)))) n<=0:=by
  have:0<=aJ (λb=>-(x (n+b)*(x (n+b)*(σ*bf T n (V b) (V b))))) n:=Cz λb hb=>by
   cases hp:eV T n σ V b with
   |true=>rw[zV b hb hp,jA];grind
   |false=>
    have:σ*bf T n (V b) (V b)<=0:=by unfold eV at hp;have:=of_decide_eq_false hp;grind
    have sq:0<=x (n+b)*x (n+b):=by
     rcases Rat.le_total (a:=0) (b:=x<|n+b) with q|q
     exact tV q q;have:=tV (show(0:Rat)<=-x (n+b) by grind) (show(0:Rat)<=-x (n+b) by grind);grind
    have:=tV sq (show(0:Rat)<=-(σ*bf T n (V b) (V b)) by grind);grind
  have e:aJ (λb=>-(x (n+b)*(x (n+b)*(σ*bf T n (V b) (V b))))) n = -1*aJ (λb=>x (n+b)*(x (n+b)*(σ*bf T n (V b) (V b)))) n:=by rw[<-sumN_mul];exact dP λb _=>by grind
  grind
 have q1:aJ (λa=>x a*(x a*(σ*bf T n (U a) (U a)))) n=σ*bf T n (fQ x U n) (fQ x U n):=by rw[d1,<-sumN_mul];exact dP λa _=>by grind
 have q2:aJ (λb=>x (n+b)*(x (n+b)*(σ*bf T n (V b) (V b)))) n=σ*bf T n (fQ (λb=>x<|n+b) V n) (fQ (λb=>x<|n+b) V n):=by rw[d2,<-sumN_mul];exact dP λa _=>by grind
 have a0:=FP p1 (by rw[q1,e12,<-q2];exact p2);have xU:∀a,a<n->x a=0:=λa ha=>by
  cases hp:eV T n σ U a with
  |false=>exact zU a ha hp
  |true=>
   have hpos:0<σ*bf T n (U a) (U a):=by unfold eV at hp;simpa using hp
   rcases YcU.mp (a0 a ha) with e|e
   exact e;rcases YcU.mp e with e|e
   exact e;rw[e]at hpos;exact Nd hpos (by decide)
 have xV:=h'.ind (c:=λb=>x<|n+b) λk hk=>by have:=z1 k hk;rw[show fQ x U n k=0 from nM λa ha=>by rw[xU a ha,jA]]at this;grind
 refine hx0 ?_;by_cases hkn:k0<n;exact xU k0 hkn;have:=xV (k0-n) (by omega);rwa [show n+(k0-n)=k0 by omega]at this
def Ap.eq{V:Nat->Nat->Rat}(hT:∀i j,i<n->j<n->T i j=T j i)(h:Ap T n U)(h':Ap T n V)(σ:Rat):eC n (eV T n σ U)=eC n (eV T n σ V):=Nat.le_antisymm (h.le hT h' σ)<|h'.le hT h σ
end
def nul(T:Nat->Nat->Rat)(n:Nat)(U:Nat->Nat->Rat)(a:Nat):Bool:=decide (bf T n (U a) (U a)=0)
namespace Pj
def tb:Nat->Nat->Nat
 |_,0=>0|b,1=>b|b,2=>2*b+1|b,r+3=>b+tb (2*b+1) (r+2)+4
theorem FR{a:Nat->Int}{x:Nat->Rat}{b t:Nat}:∀{r:Nat},(∀k,k<r->(a k).natAbs<2^b)->(∀k,k<r->∃z:Int,z.natAbs<=2^t/\x k=z)->∃z:Int,z.natAbs<=r*2^(b+t)/\aJ (λk=>(a k:Rat)*x k) r=z
 |0,_,_=>⟨0,by simp,rfl⟩
 |r+1,ha,h=>by
  obtain⟨z,z1,hz⟩:=FR (a:=a) (r:=r) (λk hk=>ha k<|by omega) λk hk=>h k (by omega);obtain⟨y,y1,hy⟩:=h r (by omega);refine⟨z+a r*y,?_,?_⟩;have h1:(a r*y).natAbs<=2^(b+t):=by rw[eW,kS];exact l6 (kO<|ha r<|by omega) y1
  have:=qD z<|a r*y;rw[nQ];omega
  rw[aJ,hz,hy,yf,ic]
theorem zH{r:Nat}{a:Nat->Nat->Int}(hu:∀y:Nat->Rat,(∀i,i<m->aJ (λk=>(a i k:Rat)*y k) (r+1)=0)->∀k,k<r+1->y k=0):∃i,i<m/\a i r≠0:=by
 apply Classical.byContradiction;intro hn;have:=hu (λk=>if k=r then 1 else 0) (λi hi=>by
  rw[mr (k:=r) (by omega) λj hj hjr=>by rw[ks hjr,Rat.mul_zero]];have:a i r=0:=Classical.byContradiction λz=>hn ⟨i,hi,z⟩;rw[this,oI rfl];rw[ye];rfl) r (by omega)
 rw[oI rfl]at this;exact Nd this (by decide)
theorem FS{r i0:Nat}{a:Nat->Nat->Int}{c:Nat->Int}{x:Nat->Rat}(hi0:i0<m)(hh:a i0 r≠0)(hx:∀i,i<m->aJ (λk=>(a i k:Rat)*x k) (r+1)=(c i:Rat))(hu:∀y:Nat->Rat,(∀i,i<m->aJ (λk=>(a i k:Rat)*y k) (r+1)=0)->∀k,k<r+1->y k=0) :
  (∀i,i<m->aJ (λk=>((a i k*a i0 r-a i r*a i0 k:Int):Rat)*x k) r=((c i*a i0 r-a i r*c i0:Int):Rat))/\∀y:Nat->Rat,(∀i,i<m->aJ (λk=>((a i k*a i0 r-a i r*a i0 k:Int):Rat)*y k) r=0)->∀k,k<r->y k=0:=by
 have hq:((a i0 r:Int):Rat)≠0:=λz=>hh (by exact_mod_cast z);have split:∀(y:Nat->Rat) (i:Nat),aJ (λk=>((a i k*a i0 r-a i r*a i0 k:Int):Rat)*y k) r=(a i0 r:Rat)*aJ (λk=>(a i k:Rat)*y k) r-(a i r:Rat)*aJ (λk=>(a i0 k:Rat)*y k) r:=λy i=>by
  rw[<-sumN_mul,<-sumN_mul,<-Zc];refine dP λk hk=>?_;rw[qG,ic,ic];grind
 refine⟨λi hi=>?_,λy hy k hk=>?_⟩
 .rw[split]
  have e1:=hx i hi;have e2:=hx i0 hi0;rw[aJ]at e1 e2;rw[qG,ic,ic,<-e1,<-e2];grind
 .have:=hu (λk=>if k=r then -(aJ (λk=>(a i0 k:Rat)*y k) r) / (a i0 r:Rat) else y k) (λi hi=>by
   rw[aJ,oI rfl,dP (g:=λk=>(a i k:Rat)*y k) λk hk=>by rw[ks<|by omega]];have:=hy i hi;rw[split]at this;grind) k (by omega)
  rw[ks<|by omega]at this;exact this
theorem wP{x y z w:Int}(h1:x.natAbs<2^b)(h2:y.natAbs<2^b)(h3:z.natAbs<2^b)(h4:w.natAbs<2^b):(x*y-z*w).natAbs<2^(2*b+1):=by
 have p1:(x*y).natAbs<2^(2*b):=by rw[eW,show 2*b=b+b by omega,kS];exact tR h1 h2
 have p2:(z*w).natAbs<2^(2*b):=by rw[eW,show 2*b=b+b by omega,kS];exact tR h3 h4
 rw[tP];omega
theorem wQ:∀(r b m:Nat) (a:Nat->Nat->Int) (c:Nat->Int) (x:Nat->Rat),r<=8->(∀i,i<m->∀k,k<r->(a i k).natAbs<2^b)->(∀i,i<m->(c i).natAbs<2^b)->(∀i,i<m->aJ (λk=>(a i k:Rat)*x k) r=(c i:Rat))->(∀y:Nat->Rat,(∀i,i<m->aJ (λk=>(a i k:Rat)*y k) r=0)->∀k,k<r->y k=0)->∃D:Int,D≠0/\D.natAbs<=2^tb b r/\∀k,k<r->∃z:Int,z.natAbs<=2^tb b r/\(D:Rat)*x k=(z:Rat)
 |0,b,m,a,c,x,_,_,_,_,_=>⟨1,by decide,by simp[tb],λk hk=>by omega⟩|1,b,m,a,c,x,_,hb,hc,hx,hu=>by obtain⟨i0,hi0,hh⟩:=zH hu;refine⟨a i0 0,hh,kO<|hb i0 hi0 0<|by omega,λk hk=>⟨c i0,kO<|hc i0 hi0,?_⟩⟩;have:=hx i0 hi0;rw[show k=0 by omega];simp only[aJ]at this;grind
 |2,b,m,a,c,x,_,hb,hc,hx,hu=>by obtain⟨i0,hi0,hh⟩:=zH hu;obtain⟨h1,h2⟩:=FS hi0 hh hx hu;obtain⟨i1,hi1,hh1⟩:=zH (a:=λi k=>a i k*a i0 1-a i 1*a i0 k) h2;have e0:=hx i0 hi0;have e1:=hx i1 hi1;simp only[aJ]at e0 e1;refine⟨a i1 0*a i0 1-a i1 1*a i0 0,hh1,kO<|wP (hb _ hi1 _<|by omega) (hb _ hi0 _<|by omega) (hb _ hi1 _<|by omega)<|hb _ hi0 _<|by omega,λk hk=>?_⟩;by_cases hk0:k=0;refine⟨c i1*a i0 1-a i1 1*c i0,kO<|wP (hc _ hi1) (hb _ hi0 _<|by omega) (hb _ hi1 _<|by omega)<|hc _ hi0,?_⟩;rw[hk0,qG,ic,ic,qG,ic,ic,<-e0,<-e1];grind;refine⟨a i1 0*c i0-a i0 0*c i1,kO<|wP (hb _ hi1 _<|by omega) (hc _ hi0) (hb _ hi0 _<|by omega)<|hc _ hi1,?_⟩;rw[show k=1 by omega,qG,ic,ic,qG,ic,ic,<-e0,<-e1];grind
 |r+3,b,m,a,c,x,hr,hb,hc,hx,hu=>by
  obtain⟨i0,hi0,hh⟩:=zH hu;obtain⟨h1,h2⟩:=FS hi0 hh hx hu;obtain⟨D,d0,dl,dx⟩:=wQ (r+2) (2*b+1) m (λi k=>a i k*a i0 (r+2)-a i (r+2)*a i0 k) (λi=>c i*a i0 (r+2)-a i (r+2)*c i0) x (by omega) (λi hi k hk=>wP (hb _ hi _<|by omega) (hb _ hi0 _<|by omega) (hb _ hi _<|by omega)<|hb _ hi0 _<|by omega) (λi hi=>wP (hc _ hi) (hb _ hi0 _<|by omega) (hb _ hi _<|by omega)<|hc _ hi0) h1 h2;have hmul:∀y z:Int,y.natAbs<=2^tb (2*b+1) (r+2)->z.natAbs<2^b->(y*z).natAbs<=2^(b+tb (2*b+1) (r+2)):=λy z hy hz=>by rw[eW,Nat.add_comm,kS];exact l6 hy<|kO hz
  have h16:2^(b+tb (2*b+1) (r+2)+4)=2^(b+tb (2*b+1) (r+2))*16:=by rw[kS]
  refine⟨D*a i0 (r+2),rJ d0 hh,?_,λk hk=>?_⟩;have:=hmul D _ dl (hb i0 hi0 (r+2)<|by omega);rw[tb,h16];omega;by_cases e:k=r+2;subst e;obtain⟨z,z1,hz⟩:=FR (a:=a i0) (x:=λk=>(D:Rat)*x k) (r:=r+2) (λk hk=>hb i0 hi0 k<|by omega) dx;refine⟨D*c i0-z,?_,?_⟩;have h3:=hmul D _ dl (hc i0 hi0);have h4:=Aq (D*c i0) z;have h5:(r+2)*2^(b+tb (2*b+1) (r+2))<=8*2^(b+tb (2*b+1) (r+2)):=mC _ (by omega);rw[tb,h16];omega;have e2:=hx i0 hi0;rw[aJ]at e2;have:aJ (λj=>(a i0 j:Rat)*((D:Rat)*x j)) (r+2)=(D:Rat)*aJ (λj=>(a i0 j:Rat)*x j) (r+2):=by rw[<-sumN_mul];exact dP λj _=>by grind
  rw[this]at hz;rw[qG,ic,ic,<-hz,<-e2];grind;obtain⟨z,z1,hz⟩:=dx k (by omega);refine⟨z*a i0 (r+2),?_,?_⟩;have:=hmul z _ z1 (hb i0 hi0 (r+2)<|by omega);rw[tb,h16];omega;rw[ic,ic,<-hz];grind
def bI(A:Nat->Nat->Int)(n:Nat)(u v:Nat->Int):Int:=sumI (λi=>u i*sumI (λj=>A i j*v j) n) n
theorem bI_cast(A:Nat->Nat->Int)(n:Nat)(u v:Nat->Int):bf (λa b=>((A a b:Int):Rat)) n (λi=>(u i:Rat)) (λi=>(v i:Rat))=((bI A n u v:Int):Rat):=by unfold bf bI;rw[<-Ct];refine dP λi _=>?_;rw[ic,<-Ct];congr 1;exact dP λj _=>by rw[ic]
theorem sumI_bd{f:Nat->Int}{c:Nat}:∀{n:Nat},(∀i,i<n->(f i).natAbs<=c)->(sumI f n).natAbs<=n*c
 |0,_=>by simp[sumI]|n+1,h=>by have h1:=sumI_bd (f:=f) (n:=n) λi hi=>h i (by omega);have h2:=h n (by omega);have h3:=qD (sumI f n)<|f n;rw[sumI,nQ];omega
theorem FT{u v:Nat->Int}(hn:n<=5)(hA:∀i j,i<n->j<n->(A i j).natAbs<=50)(hu:∀i,i<n->(u i).natAbs<=2)(hv:∀i,i<n->(v i).natAbs<=2):(bI A n u v).natAbs<2^13:=by
 have h1:∀i,i<n->(sumI (λj=>A i j*v j) n).natAbs<=500:=λi hi=>by
  have:=sumI_bd (f:=λj=>A i j*v j) (c:=100) (n:=n) λj hj=>by rw[eW];exact l6 (hA i j hi hj)<|hv j hj
  have:n*100<=5*100:=mC _ hn;omega
 have:=sumI_bd (f:=λi=>u i*sumI (λj=>A i j*v j) n) (c:=1000) (n:=n) λi hi=>by rw[eW];exact l6 (hu i hi)<|h1 i hi
 have:n*1000<=5*1000:=mC _ hn;unfold bI;omega
theorem CA:∀{k:Nat},k<=4->tb 13 k<=159
 |0,_=>by decide|1,_=>by decide|2,_=>by decide|3,_=>by decide|4,_=>by decide|k+5,h=>by omega
structure Mt(A:Nat->Nat->Int)(n k:Nat)(M:Nat->Nat->Int):Prop where
 sz:∀i,i<k->∀j,j<n->(M i j).natAbs<=2
 one:∀y:Nat->Rat,(∀i,i<k->aJ (λj=>((bI A n (M i) (M j):Int):Rat)*y j) k=0)->∀j,j<k->y j=0
def Lt(A:Nat->Nat->Int)(n k:Nat)(M:Nat->Nat->Int)(v:Nat->Int)(r:Nat->Rat):Prop:=
 (∃x:Nat->Rat,∀j,j<n->r j=(v j:Rat)-aJ (λi=>x i*(M i j:Rat)) k)/\∀i,i<k->bf (λa b=>((A a b:Int):Rat)) n (λj=>(M i j:Rat)) r=0
section
variable{M:Nat->Nat->Int}
theorem Lt.lf(hn:n<=5)(hA:∀i j,i<n->j<n->(A i j).natAbs<=50)(mt:Mt A n k M)(hk:k<=4){v:Nat->Int}(hv:∀j,j<n->(v j).natAbs<=2){r:Nat->Rat}(h:Lt A n k M v r):Lf 163 n (hX n r):=by
 obtain⟨⟨x,hx⟩,h0⟩:=h;have sys:∀i,i<k->aJ (λj=>((bI A n (M i) (M j):Int):Rat)*x j) k=((bI A n (M i) v:Int):Rat):=λi hi=>by
  have e:=h0 i hi;rw[uz (u':=λj=>(M i j:Rat)) (v':=λj=>(v j:Rat)-1*fQ x (λi j=>(M i j:Rat)) k j) (λ_ _=>rfl) (λj hj=>by rw[hx j hj];unfold fQ;grind),Zg,tH,bI_cast]at e;have e2:aJ (λj=>((bI A n (M i) (M j):Int):Rat)*x j) k=aJ (λa=>x a*bf (λa b=>((A a b:Int):Rat)) n (λj=>(M i j:Rat)) λj=>(M a j:Rat)) k:=dP λa _=>by rw[bI_cast];grind
  rw[e2];grind
 obtain⟨D,d0,dl,dx⟩:=wQ k 13 k (λi j=>bI A n (M i)<|M j) (λi=>bI A n (M i) v) x (by omega) (λi hi j hj=>FT hn hA (mt.sz i hi)<|mt.sz j hj) (λi hi=>FT hn hA (mt.sz i hi) hv) sys mt.one;have tb4:=CA hk;have p2:2^tb 13 k<=2^159:=lZ (by decide) tb4;have e163:2^163=2^159*16:=by decide
 have hz:∀j,j<n->∃z:Int,z.natAbs<2^163/\r j=Rat.divInt z D:=λj hj=>by
  have hD:((D:Int):Rat)≠0:=λz=>d0 (by exact_mod_cast z);obtain⟨z,z1,z2⟩:∃z:Int,z.natAbs<=k*(2^159*2)/\(D:Rat)*aJ (λi=>x i*(M i j:Rat)) k=(z:Rat):=by
   have:∀m,m<=k->∃z:Int,z.natAbs<=m*(2^159*2)/\(D:Rat)*aJ (λi=>x i*(M i j:Rat)) m=(z:Rat):=λm=>by
    induction m with
    |zero=>exact λ_=>⟨0,by simp,by simp[aJ]⟩
    |succ m ih=>
     intro hm;obtain⟨z,z1,z2⟩:=ih (by omega);obtain⟨w,w1,w2⟩:=dx m (by omega);refine⟨z+w*M m j,?_,?_⟩;have:=qD z (w*M m j);have h2:(w*M m j).natAbs<=2^159*2:=by rw[eW];exact l6 (gU w1 p2)<|mt.sz m (by omega) j hj
     rw[nQ];omega;rw[aJ,yf,ic,<-z2,<-w2];grind
   exact this k<|cF _
  refine⟨D*v j-z,?_,?_⟩;have h1:=Aq (D*v j) z;have h2:(D*v j).natAbs<=2^159*2:=by rw[eW];exact l6 (gU dl p2)<|hv j hj
  have h3:k*(2^159*2)<=4*(2^159*2):=mC _ hk;omega;rw[hx j hj,yg,qG,ic,<-z2,ir];have:=qF _ hD;grind
 obtain⟨c,hc⟩:∃c:Nat->Int,∀j,j<n->(c j).natAbs<2^163/\r j=Rat.divInt (c j) D:=⟨λj=>if h:j<n then Classical.choose (hz j h) else 0,λj hj=>by dsimp only;rw[dif_pos hj];exact Classical.choose_spec<|hz j hj⟩;refine⟨(List.range n).map c,D,by simp,d0,rE (gU dl p2)<|by omega,λy hy=>?_,?_⟩;obtain⟨j,hj,rfl⟩:=YbQ.mp hy;exact(hc j<|Yah.mp hj).1;unfold hX;rw[cY];exact iO λj hj=>(hc j<|Yah.mp hj).2
end
section
variable{M:Nat->Nat->Int}
abbrev cA(A:Nat->Nat->Int):Nat->Nat->Rat:=λa b=>((A a b:Int):Rat)
def nxt(M:Nat->Nat->Int)(k:Nat)(v:Nat->Int):Nat->Nat->Int:=λi=>if i<k then M i else v
theorem Lt.v{v:Nat->Int}{l:Nat->Rat}(h:Lt A n k M v l)(hs:∀i j,i<n->j<n->A i j=A j i){w:Nat->Rat}(hw:∀i,i<k->bf (cA A) n (λj=>(M i j:Rat)) w=0):bf (cA A) n (λj=>(v j:Rat)) w=bf (cA A) n l w:=by
 obtain⟨⟨x,hx⟩,_⟩:=h;have sy:∀i j,i<n->j<n->cA A i j=cA A j i:=λi j hi hj=>by show((A i j:Int):Rat)=_;rw[hs i j hi hj]
 rw[kK sy l w,uz (u:=w) (u':=w) (v:=l) (v':=λj=>(v j:Rat)-1*fQ x (λi j=>(M i j:Rat)) k j) (λ_ _=>rfl) (λj hj=>by rw[hx j hj];unfold fQ;grind),Zg,tH,nM λa ha=>by rw[kK sy,hw a ha,Rat.mul_zero],kK sy];grind
theorem Mt.next(m:Mt A n k M)(hs:∀i j,i<n->j<n->A i j=A j i){v:Nat->Int}(hv:∀j,j<n->(v j).natAbs<=2){l:Nat->Rat}(h:Lt A n k M v l)(h0:bf (cA A) n l l≠0):Mt A n (k+1) (nxt M k v):=by
 have sy:∀i j,i<n->j<n->cA A i j=cA A j i:=λi j hi hj=>by show((A i j:Int):Rat)=_;rw[hs i j hi hj]
 refine⟨λi hi j hj=>?_,λy hy=>?_⟩;unfold nxt;split;exact m.sz i ‹_› j hj;exact hv j hj;have hw:∀i,i<k+1->bf (cA A) n (λj=>(nxt M k v i j:Rat)) (fQ y (λi j=>(nxt M k v i j:Rat))<|k+1)=0:=λi hi=>by rw[tH,<-hy i hi];exact dP λj _=>by rw[bI_cast];grind
 have old:∀i,i<k->nxt M k v i=M i:=λi hi=>by unfold nxt;rw[oI hi]
 have new:nxt M k v k=v:=by unfold nxt;rw[ks<|iK k]
 have e1:=h.v hs (w:=fQ y (λi j=>(nxt M k v i j:Rat))<|k+1) λi hi=>by have:=hw i (by omega);rwa [old i hi]at this
 have e2:=hw k (by omega);rw[new,e1,tH,aJ,nM λa ha=>by rw[old a ha,kK sy,h.2 a ha,Rat.mul_zero],new,kK sy l,h.v hs h.2]at e2;have yk:y k=0:=by
  rcases YcU.mp (show y k*bf (cA A) n l l=0 by grind) with e|e
  exact e;exact Nd e h0
 have rest:=m.one y λi hi=>by have:=hy i (by omega);rw[aJ,yk,Rat.mul_zero,nW]at this;rw[<-this];exact dP λj hj=>by rw[old i hi,old j hj]
 intro j hj;by_cases e:j=k;rw[e];exact yk;exact rest j (by omega)
theorem Lt.next{v:Nat->Int}{l r:Nat->Rat}(h:Lt A n k M v l)(h':Lt A n k M v' r)(hs:∀i j,i<n->j<n->A i j=A j i)(h0:bf (cA A) n l l≠0):Lt A n (k+1) (nxt M k v) v' (λj=>r j-bf (cA A) n r l/bf (cA A) n l l*l j):=by
 have sy:∀i j,i<n->j<n->cA A i j=cA A j i:=λi j hi hj=>by show((A i j:Int):Rat)=_;rw[hs i j hi hj]
 have old:∀i,i<k->nxt M k v i=M i:=λi hi=>by unfold nxt;rw[oI hi]
 have new:nxt M k v k=v:=by unfold nxt;rw[ks<|iK k]
 have z:∀i,i<k->bf (cA A) n (λj=>(M i j:Rat)) (λj=>r j-bf (cA A) n r l/bf (cA A) n l l*l j)=0:=λi hi=>by rw[Zg,h.2 i hi,h'.2 i hi];grind
 refine⟨?_,λi hi=>?_⟩;obtain⟨x,hx⟩:=h.1;obtain⟨x',hx'⟩:=h'.1;refine⟨λi=>if i<k then x' i-bf (cA A) n r l/bf (cA A) n l l*x i else bf (cA A) n r l/bf (cA A) n l l,λj hj=>?_⟩;rw[aJ];dsimp only;generalize bf (cA A) n r l/bf (cA A) n l l=q;rw[ks<|iK k,new,dP (g:=λi=>x' i*(M i j:Rat)-q*(x i*(M i j:Rat))) (λi hi=>by rw[oI hi,old i hi];grind),Zc,sumN_mul,hx j hj,hx' j hj];grind;by_cases e:i=k;subst e;rw[new];refine(h.v hs z).trans ?_;rw[Zg,kK sy l r];have:=qF _ h0;rw[ir];grind;rw[old i<|by omega];exact z i (by omega)
theorem Lt.add{v:Nat->Int}{l r:Nat->Rat}(h:Lt A n k M v l)(h':Lt A n k M v' r):Lt A n k M (λj=>v j+v' j) (λj=>l j - -1*r j):=by refine⟨?_,λi hi=>by rw[Zg,h.2 i hi,h'.2 i hi];grind⟩;obtain⟨x,hx⟩:=h.1;obtain⟨x',hx'⟩:=h'.1;refine⟨λi=>x i - -1*x' i,λj hj=>?_⟩;dsimp only;rw[dP (g:=λi=>x i*(M i j:Rat) - -1*(x' i*(M i j:Rat)))<|λi hi=>by grind,Zc,sumN_mul,hx j hj,hx' j hj,yf];grind
end
end Pj
def bF(s:List Int)(n:Nat)(u v:List Rat):Rat:=cI u<|cX s n v
def lW(s:List Int)(n:Nat):List (List Rat)->Option (List Rat)
 |[]=>none|l::L=>if bF s n l l=0 then lW s n L else some l
def hZ(s:List Int)(n:Nat):Nat->List (List Rat)->Option (Nat×List Rat)
 |_,[]=>none
 |k,r::R=>match lW s n (r::R.map λo=>bV r (-1) o) with
  |some l=>some (k,l)|none=>hZ s n (k+1) R
def iG(s:List Int)(n:Nat)(l r:List Rat):List Rat:=bV r (bF s n r l/bF s n l l) l
def tI(s:List Int)(n:Nat):Nat->List (List Rat)->List (List Rat)->List (List Rat)
 |0,f,R=>f++R
 |k+1,f,R=>match hZ s n 0 R with
  |none=>f++R|some (a,l)=>tI s n k (f++[l])<|(R.take a++R.drop (a+1)).map (iG s n l)
def gh(s:List Int)(n:Nat):List (List Rat):=tI s n n []<|(List.range n).map (bW n)
theorem FU{s:List Int}{n:Nat}:∀{L:List (List Rat)},lW s n L=none->∀l∈L,bF s n l l=0
 |[],_,l,hl=>by cases hl
 |x::L,h,l,hl=>by
  rw[lW]at h;split at h;rcases Yan.mp hl with rfl|hl
  assumption;exact FU h l hl;cases h
theorem FV{s:List Int}{n:Nat}{l:List Rat}:∀{L:List (List Rat)},lW s n L=some l->l∈L/\bF s n l l≠0
 |[],h=>by cases h
 |x::L,h=>by rw[lW]at h;split at h;obtain⟨h1,h2⟩:=FV h;exact⟨ip _ h1,h2⟩;rename_i hx;cases h;exact⟨kP ..,hx⟩
theorem FW{s:List Int}{n:Nat}:∀{k:Nat} {R:List (List Rat)},hZ s n k R=none->(∀r∈R,bF s n r r=0)/\R.Pairwise λr o=>bF s n (bV r (-1) o) (bV r (-1) o)=0
 |_,[],_=>⟨by simp,.nil⟩
 |k,r::R,h=>by
  rw[hZ]at h;cases e:lW s n (r::R.map λo=>bV r (-1) o) with
  |some l=>rw[e]at h;cases h
  |none=>
   rw[e]at h;obtain⟨h1,h2⟩:=FW (k:=k+1) (R:=R) h;have z:=FU e;refine⟨λx hx=>?_,YcO.mpr ⟨λo ho=>z _<|ip _<|mE ho,h2⟩⟩;rcases Yan.mp hx with rfl|hx
   exact z _<|kP ..
   exact h1 x hx
theorem FX{s:List Int}{n:Nat}{a:Nat}{l:List Rat}:∀{k:Nat} {R:List (List Rat)},hZ s n k R=some (a,l)->∃i,a=k+i/\i<R.length/\(l=R.getD i []\/∃o∈R.drop (i+1),l=bV (R.getD i []) (-1) o)/\bF s n l l≠0
 |_,[],h=>by cases h
 |k,r::R,h=>by
  rw[hZ]at h;cases e:lW s n (r::R.map λo=>bV r (-1) o) with
  |some l'=>
   rw[e]at h;cases h;obtain⟨h1,h2⟩:=FV e;refine⟨0,rfl,by simp,?_,h2⟩;rcases Yan.mp h1 with e1|h1
   exact .inl e1;obtain⟨o,ho,e1⟩:=YbQ.mp h1;exact .inr ⟨o,ho,e1.symm⟩
  |none=>rw[e]at h;obtain⟨i,h1,h2,h3,h4⟩:=FX (k:=k+1) (R:=R) h;exact⟨i+1,by omega,by simpa using h2,by simpa using h3,h4⟩
def gq(r:List Rat):Nat->Rat:=λj=>r.getD j 0
abbrev sA(s:List Int)(n:Nat):Nat->Nat->Int:=tA<|tbl s n
section
theorem ms(h:IsSl s n){u v:List Rat}(hu:u.length=n)(hv:v.length=n):bF s n u v=bf (Pj.cA<|sA s n) n (gq u) (gq v):=by unfold bF;rw[lV u _ n hu<|Gs.tims_len v];exact dP λi hi=>by rw[Gs.tims_at h hv hi];rfl
theorem tJ{o:List Rat}(hr:r.length=n)(ho:o.length=n):(bV r q o).length=n:=by unfold bV;rw[nV];omega
theorem zI{o:List Rat}(hr:r.length=n)(ho:o.length=n):∀j,j<n->gq (bV r q o) j=gq r j-q*gq o j:=λj hj=>by unfold gq bV;simp only[bN];rw[bJ (by rw[nV];omega),bJ<|by omega,bJ<|by omega,tS];rfl
theorem CB(hr:r.length=n):hX n (gq r)=r:=by
 refine qC λi=>?_;unfold hX gq;rw[cH];rcases fS i n with hi|hi
 rw[jM hi,bJ<|by omega];show some (r.getD i 0)=_;rw[bN,bJ<|by omega];rfl;rw[eD (by rw[ke];exact hi),eD<|by omega];rfl
theorem CD(h:IsSl s n)(ev:s.reverse=s):∀i j,i<n->j<n->sA s n i j=sA s n j i:=λi j hi hj=>by
 have e1:=ms h (lT n i)<|lT n j;have e2:=ms h (lT n j)<|lT n i;have e3:bF s n (bW n i) (bW n j)=bF s n (bW n j) (bW n i):=by unfold bF;rw[EZ h (lT n j)<|lT n i,ev]
 have key:∀a b,a<n->b<n->bf (Pj.cA<|sA s n) n (gq<|bW n a) (gq<|bW n b)=((sA s n a b:Int):Rat):=λa b ha hb=>by unfold bf;rw[mr ha λi hi ne=>by show(bW n a).getD i 0*_=0;rw[pK hi,ks ne,jA],mr hb λj hj ne=>by show _*(bW n b).getD j 0=0;rw[pK hj,ks ne,Rat.mul_zero]];show(bW n a).getD a 0*(_*(bW n b).getD b 0)=_;rw[pK ha,pK hb,oI rfl,oI rfl,tU,ye]
 rw[e1,e2,key i j hi hj,key j i hj hi]at e3;exact_mod_cast e3
theorem zJ(h:IsSl s n):∀i j,i<n->j<n->(sA s n i j).natAbs<=50:=λi j hi hj=>by show(tA (tbl s n) i j).natAbs<=50;rw[Gs.tA_ent h hi hj];have hl:=h.len;unfold fe;rw[bN,bJ<|by omega];have:=h.b _<|gu (l:=s) (n:=n-1-i+j) (by omega);show(s[n-1-i+j]).natAbs<=50;omega
structure Sg(s:List Int)(n:Nat)(f R:List (List Rat)):Prop where
 len:f.length+R.length=n
 wf:∀r∈f,r.length=n
 wR:∀r∈R,r.length=n
 ex:∃M,Pj.Mt (sA s n) n f.length M/\∀r∈R,∃v:Nat->Int,(∀j,j<n->(v j).natAbs<=1)/\Pj.Lt (sA s n) n f.length M v (gq r)
 lf:∀r∈f,Lf 163 n r
 ff:f.Pairwise λu v=>bF s n u v=0
 fR:∀u∈f,∀r∈R,bF s n u r=0
 fu:∀x:List Rat,x.length=n->(∀r∈f++R,cI r x=0)->∀k,k<n->x.getD k 0=0
theorem Sg.rows(h:IsSl s n){f R:List (List Rat)}(g:Sg s n f R):∀r∈R,Lf 163 n r:=λr hr=>by obtain⟨M,m,hM⟩:=g.ex;obtain⟨v,hv,l⟩:=hM r hr;have hl:=g.len;have:0<R.length:=At hr;have:=l.lf h.n5 (zJ h) m (by have:=h.n5;omega) λj hj=>gU (hv j hj) (by decide);rwa [CB<|g.wR r hr]at this
theorem Sg.start(h:IsSl s n):Sg s n [] ((List.range n).map<|bW n):=by refine⟨by simp,by simp,λr hr=>?_,⟨λ_ _=>0,⟨λi hi=>by simp at hi,λy _ j hj=>by simp at hj⟩,λr hr=>?_⟩,by simp,.nil,by simp,λx hx h0 k hk=>?_⟩;obtain⟨k,_,rfl⟩:=YbQ.mp hr;exact lT n k;obtain⟨k,hk,rfl⟩:=YbQ.mp hr;refine⟨λj=>if j=k then 1 else 0,λj hj=>by dsimp only;split<;>decide,⟨λ_=>0,λj hj=>?_⟩,λi hi=>by simp at hi⟩;show(bW n k).getD j 0=_;rw[pK hj];simp only[kT,aJ];split<;>grind;have:=h0 (bW n k) (by simp;exact⟨k,hk,rfl⟩);rw[lV _ x n (lT n k) hx,mr hk λi hi ne=>by rw[pK hi,ks ne,jA],pK hk,oI rfl,tU]at this;exact this
end
section
theorem uA(h:IsSl s n)(ev:s.reverse=s){u v:List Rat}(hu:u.length=n)(hv:v.length=n):bF s n u v=bF s n v u:=by unfold bF;rw[EZ h hv hu,ev]
theorem uB(h:IsSl s n){u v w:List Rat}(hu:u.length=n)(hv:v.length=n)(hw:w.length=n):bF s n u (bV v q w)=bF s n u v-q*bF s n u w:=by rw[ms h hu<|tJ hv hw,ms h hu hv,ms h hu hw,uz (u':=gq u) (v':=λj=>gq v j-q*gq w j) (λ_ _=>rfl)<|zI hv hw,Zg]
structure Ld(s:List Int)(n:Nat)(f R:List (List Rat))(a:Nat)(l:List Rat):Prop where
 at_:a<R.length
 len:l.length=n
 le:l=R.getD a []\/∃o∈R.take a++R.drop (a+1),l=bV (R.getD a []) (-1) o
 nz:bF s n l l≠0
theorem Sg.ld{f R:List (List Rat)}(g:Sg s n f R){a:Nat}(e:hZ s n 0 R=some (a,l)):Ld s n f R a l:=by
 obtain⟨i,h1,h2,h3,h4⟩:=FX e;obtain rfl:a=i:=by omega
 have ha:=g.wR _<|jv h2;rcases h3 with rfl|⟨o,ho,rfl⟩
 exact⟨h2,ha,.inl rfl,h4⟩;exact⟨h2,tJ ha<|g.wR _<|mD ho,.inr ⟨o,iM _ ho,rfl⟩,h4⟩
theorem Ld.lt(h:IsSl s n){f R:List (List Rat)}(g:Sg s n f R){a:Nat}(d:Ld s n f R a l){M:Nat->Nat->Int}(hM:∀r∈R,∃v:Nat->Int,(∀j,j<n->(v j).natAbs<=1)/\Pj.Lt (sA s n) n f.length M v (gq r)):∃v:Nat->Int,(∀j,j<n->(v j).natAbs<=2)/\Pj.Lt (sA s n) n f.length M v (gq l):=by
 obtain⟨v,hv,hl⟩:=hM _<|jv d.at_;rcases d.le with e|⟨o,ho,e⟩
 rw[e];exact⟨v,λj hj=>gU (hv j hj)<|by decide,hl⟩;obtain⟨v',hv',hl'⟩:=hM o (jY ho);refine⟨λj=>v j+v' j,λj hj=>?_,?_⟩;have:=qD (v j) (v' j);have:=hv j hj;have:=hv' j hj;dsimp only;omega;have:=hl.add hl';obtain⟨⟨x,hx⟩,h2⟩:=this;have eq:=zI (q:=-1) (g.wR _<|jv d.at_)<|g.wR _ (jY ho);rw[<-e]at eq;exact⟨⟨x,λj hj=>(eq j hj).trans (hx j hj)⟩,λi hi=>by rw[uz (λ_ _=>rfl) eq];exact h2 i hi⟩
theorem Ld.lf(h:IsSl s n){f R:List (List Rat)}(g:Sg s n f R){a:Nat}{l:List Rat}(d:Ld s n f R a l):Lf 163 n l:=by obtain⟨M,m,hM⟩:=g.ex;obtain⟨v,hv,hl⟩:=d.lt h g hM;have:=d.at_;have:=g.len;have:=hl.lf h.n5 (zJ h) m (by have:=h.n5;omega) hv;rwa [CB d.len]at this
def K4(hr:r.length=n)(hl:l.length=n):(iG s n l r).length=n:=tJ hr hl
theorem Ld.out(h:IsSl s n)(ev:s.reverse=s){f R:List (List Rat)}(g:Sg s n f R){a:Nat}(d:Ld s n f R a l):∀u∈f,bF s n u l=0:=λu hu=>by
 have e1:=g.fR u hu _<|jv d.at_;rcases d.le with e|⟨o,ho,e⟩
 rw[e];exact e1;rw[e,uB h (g.wf u hu) (g.wR _<|jv d.at_)<|g.wR _<|jY ho,e1,g.fR u hu o<|jY ho];grind
theorem Sg.step(h:IsSl s n)(ev:s.reverse=s){f R:List (List Rat)}(g:Sg s n f R){a:Nat}(d:Ld s n f R a l):Sg s n (f++[l]) ((R.take a++R.drop (a+1)).map<|iG s n l):=by
 have hlen:=g.len;have ha:=d.at_;have ra:=g.wR _<|jv d.at_;have hl:=d.len;have sy:=CD h ev;have nz:bf (Pj.cA<|sA s n) n (gq l) (gq l)≠0:=by rw[<-ms h hl hl];exact d.nz
 have wa:∀r∈R,(iG s n l r).length=n:=λr hr=>K4 (g.wR r hr) hl;have own:∀r∈R,bF s n l (iG s n l r)=0:=λr hr=>by unfold iG;rw[uB h hl (g.wR r hr) hl,uA h ev hl<|g.wR r hr,ir];have:=qF _ d.nz;grind
 refine⟨by simp;omega,λr hr=>?_,λr hr=>?_,?_,λr hr=>?_,?_,λu hu r hr=>?_,λx hx h0=>?_⟩;rcases Yao.mp hr with hr|hr
 exact g.wf r hr;rw[Ycw.mp hr];exact hl;obtain⟨r0,h0,rfl⟩:=YbQ.mp hr;exact wa r0<|jY h0
 obtain⟨M,m,hM⟩:=g.ex;obtain⟨v,hv,lt⟩:=d.lt h g hM;refine⟨Pj.nxt M f.length v,?_,λr hr=>?_⟩;rw[dG,j9];exact m.next sy hv lt nz;obtain⟨r0,h0,rfl⟩:=YbQ.mp hr;obtain⟨v',hv',lt'⟩:=hM r0<|jY h0;rw[dG,j9];obtain⟨⟨x,hx⟩,h2⟩:=lt.next lt' sy nz;have eq:∀j,j<n->gq (iG s n l r0) j=gq r0 j-bf (Pj.cA<|sA s n) n (gq r0) (gq l)/bf (Pj.cA<|sA s n) n (gq l) (gq l)*gq l j:=λj hj=>by unfold iG;rw[zI (g.wR r0<|jY h0) hl j hj,ms h (g.wR r0<|jY h0) hl,ms h hl hl]
 exact⟨v',hv',⟨x,λj hj=>(eq j hj).trans (hx j hj)⟩,λi hi=>by rw[uz (λ_ _=>rfl) eq];exact h2 i hi⟩;rcases Yao.mp hr with hr|hr
 exact g.lf r hr;rw[Ycw.mp hr];exact d.lf h g;exact YcN.mpr ⟨g.ff,by simp,λu hu v hv=>by rw[Ycw.mp hv];exact d.out h ev g u hu⟩;obtain⟨r0,h0,rfl⟩:=YbQ.mp hr;rcases Yao.mp hu with hu|hu
 unfold iG;rw[uB h (g.wf u hu) (g.wR r0<|jY h0) hl,g.fR u hu r0<|jY h0,d.out h ev g u hu];grind;rw[Ycw.mp hu];exact own r0<|jY h0
 have zl:cI l x=0:=h0 l (by simp);have zc:∀r∈R.take a++R.drop (a+1),cI r x=0:=λr hr=>by have:=h0 (iG s n l r)<|iM _ (mE hr);unfold iG at this;rw[uv<|by rw[g.wR r<|jY hr,hl],zl]at this;grind
 refine g.fu x hx λr hr=>?_;rcases Yao.mp hr with hr|hr
 exact h0 r (by simp[hr]);rcases(FF ha r).mp hr with rfl|hr
 rcases d.le with e|⟨o,ho,e⟩
 rw[<-e];exact zl;rw[e,uv<|by rw[ra,g.wR o<|jY ho],zc o ho]at zl;grind;exact zc r hr
structure Pa(s:List Int)(n:Nat)(P:List (List Rat)):Prop where
 len:P.length=n
 lf:∀r∈P,Lf 163 n r
 ap:P.Pairwise λu v=>bF s n u v=0
 fu:∀x:List Rat,x.length=n->(∀r∈P,cI r x=0)->∀k,k<n->x.getD k 0=0
theorem Sg.fin(h:IsSl s n)(ev:s.reverse=s){f R:List (List Rat)}(g:Sg s n f R)(e:hZ s n 0 R=none):Pa s n (f++R):=by
 obtain⟨h1,h2⟩:=FW e;refine⟨by rw[dG];exact g.len,λr hr=>?_,YcN.mpr ⟨g.ff,?_,g.fR⟩,g.fu⟩;rcases Yao.mp hr with hr|hr
 exact g.lf r hr;exact g.rows h r hr;refine h2.imp_of_mem λ{r o} hr ho hz=>?_;have wr:=g.wR r hr;have wo:=g.wR o ho;rw[uB h (tJ wr wo) wr wo,uA h ev (tJ wr wo) wr,uA h ev (tJ wr wo) wo,uB h wr wr wo,uB h wo wr wo,h1 r hr,h1 o ho,uA h ev wo wr]at hz;grind
theorem FY(h:IsSl s n)(ev:s.reverse=s):∀(k:Nat) {f R:List (List Rat)},Sg s n f R->R.length<=k->Pa s n (tI s n k f R)
 |0,f,R,g,hk=>by have:R=[]:=List.length_eq_zero_iff.mp (by omega);subst this;exact g.fin h ev rfl
 |k+1,f,R,g,hk=>by
  rw[tI];cases e:hZ s n 0 R with
  |none=>exact g.fin h ev e|some al=>obtain⟨a,l⟩:=al;have d:=g.ld e;have ha:=d.at_;exact FY h ev k (g.step h ev d) (by rw[bG,dG,jL,kR];omega)
theorem CF(h:IsSl s n)(ev:s.reverse=s):Pa s n (gh s n):=FY h ev n (Sg.start h) (by simp)
def pU(P:List (List Rat)):Nat->Nat->Rat:=λa=>gq<|P.getD a []
theorem Pa.ap'(h:IsSl s n)(ev:s.reverse=s)(p:Pa s n P):Ap (Pj.cA<|sA s n) n (pU P):=by
 have wl:∀a,a<n->(P.getD a []).length=n:=λa ha=>(p.lf _<|jv (by rw[p.len];exact ha)).len;refine⟨λa b ha hb ne=>?_,λx hx k hk=>?_⟩;have key:∀a b,a<b->b<n->bf (Pj.cA<|sA s n) n (pU P a) (pU P b)=0:=λa b hab hb=>by have hp:=Yc1.mp p.ap a b (by rw[p.len];omega) (by rw[p.len];exact hb) hab;unfold pU;rw[<-ms h (wl a<|by omega) (wl b hb),bN,bN,bJ (by rw[p.len];omega),bJ (by rw[p.len];exact hb)];exact hp
 rcases fS a b with l|l
 exact key a b l hb;rw[kK λi j hi hj=>by show((sA s n i j:Int):Rat)=_;rw[CD h ev i j hi hj]];exact key b a (by omega) ha;have:=p.fu (hX n x) (zG n x) (λr hr=>?_) k hk;rwa [Zk x hk]at this;obtain⟨a,ha,e⟩:=Ybv.mp hr;have e':P.getD a []=r:=by rw[bN,bJ ha];exact e
 rw[p.len]at ha;have:=hx a ha;refine Eq.trans ?_ this;rw[<-e',lV _ _ n (wl a ha)<|zG n x];exact dP λj hj=>by rw[Zk x hj];rfl
end
def mv(u:Nat->Rat)(q:Rat)(w:Nat->Rat):Nat->Rat:=λk=>u k-q*w k
section
theorem FZ(hT:∀i j,i<n->j<n->T i j=T j i)(u w v:Nat->Rat)(q:Rat):bf T n (mv u q w) v=bf T n u v-q*bf T n w v:=by rw[kK hT,show bf T n v (mv u q w)=bf T n v u-q*bf T n v w from Zg v u w q,kK hT v u,kK hT v w]
def uC(u v w:Nat->Rat)(q:Rat):bf T n u (mv v q w)=bf T n u v-q*bf T n u w:=Zg u v w q
theorem F0{u w x:Nat->Rat}:aJ (λk=>mv u q w k*x k) n=aJ (λk=>u k*x k) n-q*aJ (λk=>w k*x k) n:=by rw[<-sumN_mul,<-Zc];exact dP λk _=>by unfold mv;grind
theorem F1(n:Nat)(p:Nat->Bool):eC (n+1) p=eC n p+if p n=true then 1 else 0:=by unfold eC;rw[List.range_succ,List.filter_append,dG,tT];cases p n<;>rfl
theorem F2{h:Nat}{c:Bool}{q:Nat->Bool}(hq:q h=false):∀{n:Nat},eC n (λi=>q i||(decide (i=h)&&c))=eC n q+if h<n/\c=true then 1 else 0
 |0=>rfl
 |n+1=>by
  rw[F1,F1,F2 hq (n:=n)];by_cases e:n=h;subst e;cases c<;>simp[hq];have:(h<n+1)=(h<n):=by simp;omega
  simp only[this,Ni e,tM,Bool.or_false];omega
theorem wS{p q:Nat->Bool}(h:∀a,a<n->p a=q a):eC n p=eC n q:=by unfold eC;rw[List.filter_congr λa ha=>h a<|Yah.mp ha]
structure Il(T:Nat->Nat->Rat)(n:Nat)(L:List Nat)(M U:Nat->Nat->Rat)(a b:Nat):Prop where
 lt:∀i∈L,i<n
 m:∀i∈L,∀j∈L,M i j=bf T n (U i) (U j)
 ap:∀i,i<n->i∉L->∀j,j<n->j≠i->bf T n (U i) (U j)=0
 fu:∀x:Nat->Rat,(∀a,a<n->aJ (λk=>U a k*x k) n=0)->∀k,k<n->x k=0
 pa:a=eC n λi=>!L.contains i&&eV T n 1 U i
 nb:b=eC n λi=>!L.contains i&&eV T n (-1) U i
theorem Il.start{M:Nat->Nat->Rat}(hM:∀i j,i<n->j<n->M i j=T i j):Il T n (List.range n) M qz 0 0:=by
 have c0:∀p:Nat->Bool,0=eC n λi=>!(List.range n).contains i&&p i:=λp=>by unfold eC;rw[List.filter_eq_nil_iff.mpr λi hi=>by simp[Yah.mp hi]];rfl
 refine⟨λi hi=>Yah.mp hi,λi hi j hj=>?_,λi hi ni=>Nd (Yah.mpr hi) ni,λx h k hk=>?_,c0 _,c0 _⟩;have hi:=Yah.mp hi;have hj:=Yah.mp hj;rw[hM i j hi hj];unfold bf;rw[wO _ hi,dP (g:=λk=>qz j k*T i k) λk _=>Rat.mul_comm _ _,wO _ hj];have:=h k hk;rwa [wO x hk]at this
def pL(M:Nat->Nat->Rat)(i j:Nat):Nat->Nat->Rat:=λk l=>if k=i then M i l+M j l else M k l
def wU(M:Nat->Nat->Rat)(i j:Nat):Nat->Nat->Rat:=λk l=>if l=i then M k i+M k j else M k l
def lX(U:Nat->Nat->Rat)(i:Nat)(v:Nat->Rat):Nat->Nat->Rat:=λa=>if a=i then v else U a
theorem Il.pair{M M':Nat->Nat->Rat}{a:Nat}(hT:∀i j,i<n->j<n->T i j=T j i)(I:Il T n L M U a b)(hi:i∈L)(hj:j∈L)(ne:i≠j)(hM:∀k∈L,∀l∈L,M' k l=wU (pL M i j) i j k l):Il T n L M' (lX U i<|mv (U i) (-1)<|U j) a b:=by
 have ui:lX U i (mv (U i) (-1)<|U j) i=mv (U i) (-1) (U j):=by unfold lX;rw[oI rfl]
 have un:∀k,k≠i->lX U i (mv (U i) (-1)<|U j) k=U k:=λk hk=>by unfold lX;rw[ks hk]
 have r1:∀k∈L,∀l∈L,pL M i j k l=bf T n (lX U i (mv (U i) (-1)<|U j) k) (U l):=λk hk l hl=>by unfold pL;by_cases e:k=i;rw[oI e,e,ui,FZ hT,I.m i hi l hl,I.m j hj l hl];grind;rw[ks e,un k e,I.m k hk l hl]
 refine⟨I.lt,λk hk l hl=>?_,λd hd nd l hl hne=>?_,λx hx=>I.fu x λc hc=>?_,?_,?_⟩;rw[hM k hk l hl];unfold wU;by_cases e:l=i;rw[oI e,e,ui,uC,r1 k hk i hi,r1 k hk j hj];grind;rw[ks e,un l e,r1 k hk l hl];have di:d≠i:=λz=>nd (z▸hi);rw[un d di];by_cases e:l=i;rw[e,ui,uC,I.ap d hd nd i (I.lt i hi)<|Nm di,I.ap d hd nd j (I.lt j hj) λz=>nd<|z▸hj];grind;rw[un l e];exact I.ap d hd nd l hl hne;have xj:aJ (λk=>U j k*x k) n=0:=by have:=hx j<|I.lt j hj;rwa [un j<|Nm ne]at this
 by_cases e:c=i;have:=hx i (I.lt i hi);rw[ui,F0,xj]at this;rw[e];grind;have:=hx c hc;rwa [un c e]at this;rw[I.pa];refine wS λc _=>?_;by_cases e:c=i;rw[e];simp[hi];unfold eV;rw[un c e];rw[I.nb];refine wS λc _=>?_;by_cases e:c=i;rw[e];simp[hi];unfold eV;rw[un c e]
open Classical in
noncomputable def elU (L':List Nat) (M U:Nat->Nat->Rat) (h:Nat):Nat->Nat->Rat:=λa=>if a∈L' then mv (U a) (M a h*(M h h)⁻¹) (U h) else U a
theorem Il.elim{L':List Nat}{M M':Nat->Nat->Rat}{a:Nat}(hT:∀i j,i<n->j<n->T i j=T j i)(I:Il T n L M U a b)(hh:h∈L)(nz:M h h≠0)(hL:∀i,i∈L'↔i∈L/\i≠h)(hM:∀k∈L',∀l∈L',M' k l=M k l+M k h * -(M h h)⁻¹*M h l) :
  Il T n L' M' (elU L' M U h) (a+if 0<M h h then 1 else 0) (b+if M h h<0 then 1 else 0):=by
 have uy:∀k,k∈L'->elU L' M U h k=mv (U k) (M k h*(M h h)⁻¹) (U h):=λk hk=>by unfold elU;rw[oI hk]
 have un:∀k,k∉L'->elU L' M U h k=U k:=λk hk=>by unfold elU;rw[ks hk]
 have inv:=qF _ nz;have hn:h∉L':=λz=>((hL h).mp z).2 rfl;have hlt:=I.lt h hh;have sy:∀k∈L,M k h=M h k:=λk hk=>by rw[I.m k hk h hh,I.m h hh k hk,kK hT]
 have mh:=I.m h hh h hh;have key:∀(σ:Rat) (c:Nat),c<n->(!L'.contains c&&eV T n σ (elU L' M U h) c)=((!L.contains c&&eV T n σ U c)||(decide (c=h)&&decide (0<σ*M h h))):=λσ c hc=>by
  by_cases e:c=h
  .subst e
   unfold eV;rw[un c hn,<-mh];simp[hn,hh]
  .by_cases z:c∈L
   .have:c∈L':=(hL c).mpr ⟨z,e⟩
    simp[z,this,e]
   .have:c∉L':=λy=>z ((hL c).mp y).1
    unfold eV;rw[un c this];simp[z,this,e]
 have ct:∀σ:Rat,eC n (λi=>!L'.contains i&&eV T n σ (elU L' M U h) i)=eC n (λi=>!L.contains i&&eV T n σ U i)+if 0<σ*M h h then 1 else 0:=λσ=>by
  rw[wS λc hc=>key σ c hc,F2<|by simp[hh]];congr 1;simp[hlt]
 refine⟨λi hi=>I.lt i ((hL i).mp hi).1,λk hk l hl=>?_,λd hd nd l hl hne=>?_,λx hx=>I.fu x ?_,?_,?_⟩
 .have kL:=((hL k).mp hk).1
  have lL:=((hL l).mp hl).1;rw[hM k hk l hl,uy k hk,uy l hl,FZ hT,uC,uC,<-I.m k kL l lL,<-I.m k kL h hh,<-I.m h hh l lL,<-mh];generalize (M h h)⁻¹=z at inv;generalize M h h=w at inv;generalize M k h=x1;generalize M l h=x2;generalize M h l=x3;generalize M k l=x4;have:x1*z*(x2*z*w)=x1*x2*z*(w*z):=by grind
  grind
 .rw[un d nd]
  by_cases e:d=h
  .subst e
   by_cases z:l∈L'
   .have lL:=((hL l).mp z).1
    rw[uy l z,uC,<-I.m d hh l lL,<-mh,sy l lL];generalize (M d d)⁻¹=y at inv;grind
   .have lL:l∉L:=λy=>z ((hL l).mpr ⟨y,hne⟩)
    rw[un l z,kK hT];exact I.ap l hl lL d hd<|Nm hne
  .have dL:d∉L:=λy=>nd ((hL d).mpr ⟨y,e⟩)
   by_cases z:l∈L'
   .rw[uy l z,uC,I.ap d hd dL l hl hne,I.ap d hd dL h hlt<|Nm e];grind
   .rw[un l z];exact I.ap d hd dL l hl hne
 .have xh:aJ (λk=>U h k*x k) n=0:=by have:=hx h hlt;rwa [un h hn]at this
  intro c hc
  by_cases z:c∈L'
  .have:=hx c hc
   rw[uy c z,F0,xh]at this;grind
  .have:=hx c hc;rwa [un c z]at this
 .rw[ct,I.pa]
  congr 2;rw[tU]
 .rw[ct,I.nb]
  congr 2;have:(0 < -1*M h h)=(M h h<0):=by simp only[eq_iff_iff];constructor<;>intro z<;>grind
  rw[this]
theorem Il.fin{M:Nat->Nat->Rat}{a:Nat}(hT:∀i j,i<n->j<n->T i j=T j i)(I:Il T n L M U a b)(h0:∀i∈L,∀j∈L,M i j=0):Ap T n U/\eC n (eV T n 1 U)=a/\eC n (eV T n (-1) U)=b:=by
 refine⟨⟨λi j hi hj ne=>?_,I.fu⟩,?_,?_⟩;by_cases z:i∈L;by_cases y:j∈L;rw[<-I.m i z j y,h0 i z j y];rw[kK hT];exact I.ap j hj y i hi ne;exact I.ap i hi z j hj<|Nm ne
 rw[I.pa];refine wS λc _=>?_;by_cases z:c∈L;unfold eV;rw[<-I.m c z c z,h0 c z c z];simp[z];simp[z];rw[I.nb];refine wS λc _=>?_;by_cases z:c∈L;unfold eV;rw[<-I.m c z c z,h0 c z c z];simp[z];simp[z]
end
namespace G
def lq(r:List Rat):D:=.lst<|r.map aN
def rr(R:List (List Rat))(i:Nat):List Rat:=R.getD i []
theorem rr_set{R:List (List Rat)}(h:i<R.length):rr (R.set i r) k=if k=i then r else rr R k:=by unfold rr;rw[bN,Ar,bN];by_cases e:i=k;subst e;rw[oI rfl,oI rfl,oI h];rfl;rw[ks e,ks<|Nm e]
theorem rr_at{R:List (List Rat)}(h:k<R.length):dW (R.map lq) (k:Int)=some (lq<|rr R k):=by refine bQ ?_;rw[cH];unfold rr;rw[bN,bJ h];rfl
theorem item_by{wi:WE}{E:Ex->Prop}(e:ρ[i]? = some (.ow xs))(hk:k<xs.length)(e2:ρ.set i (.ow<|xs.set k d)=ρ')(hv:∀P:D->Prop,P d->wv E ρ P)(hi:∀P:D->Prop,P (.int k)->wi E ρ P)(h:N.nx ρ'):jr i wi wv E N ρ:=by unfold jr;rw[e];exact hv _<|hi _ ⟨k,B.C.ixN_nat hk,by rw[e2];exact h⟩
end G
section
theorem aBor.mono'(m:∀E ρ P P',(∀d,P d->P' d)->t E ρ P->t E ρ P')(i:Nat):∀E ρ P P',(∀d,P d->P' d)->aBor i t E ρ P->aBor i t E ρ P':=λE ρ P P' h q=>by unfold aBor at q ⊢;exact m _ _ _ _ (λd hd=>⟨hd.1,h d hd.2⟩) q
end
namespace G.V5
theorem size_w(h:IsSl s n){P:D->Prop}(hP:P (.int n)):bH [aR s] λx=>gAdd x (.int 1) λy=>fJ y (.int 2) P:=by have hl:=h.len;unfold aR;walk_at "s";rw[bG];refine⟨⟨by decide,B.C.bd_of (b:=3) (by decide)<|by decide⟩,?_⟩;rw[show((s.length:Int)+1).fdiv 2=n from by rw[yb _<|by decide];omega];exact hP
end G.V5
structure K6(K:Nb)(mg:Str->Option Value)(x qual f:Str)(st:Stmt):Prop where
 h:∃(C fI:Addr) (od:Option Addr) (osl:Array (Option Value)) (kV doc pm:Value) (an:Option Addr) (cdv ct:Value),jD K x=some C/\mg x=some (.ref C)/\Fl.clsF K C Fl.bmV "ValueError.__new__" f fI=true/\
  K.lookup fI=some ⟨.type "function",od,.func<|PySem.W.fnOf "__init__" qual (cT st) (bR st) (aK st) .none kV doc pm an cdv ct,osl⟩/\PySem.W.codeIn K cdv qual=true/\PySem.W.keepIn K (.ref fI)=true
section
variable{P:Program}{w:World}{base:Heap}{f:Str}
theorem K7{hp:Heap}(X:K.In hp)(G:hp.Ns mainGlobals mg){C fI:Addr}{kV doc pm cdv ct:Value}{dd:Option Addr}{cd:ClassData}(a:PySem.W.nsIn K mainGlobals x=some (some<|.ref C))(lc:K.lookup C=some ⟨.type "type",dd,.cls cd,sl⟩)(ni:PySem.W.nsIn K cd.ns "__init__" = some (some<|.ref fI))(q:Fl.clsF K C Fl.bmV "ValueError.__new__" f fI=true)
  (l:K.lookup fI=some ⟨.type "function",od,.func<|PySem.W.fnOf "__init__" qual (cT st) (bR st) (aK st) .none kV doc pm an cdv ct,osl⟩) (c:PySem.W.codeIn K cdv qual=true) (kp:PySem.W.keepIn K (.ref fI)=true):K6 K mg x qual f st:=
 ⟨C,fI,od,osl,kV,doc,pm,an,cdv,ct,td a,PySem.W.mg_of X G a,q,l,c,kp⟩
end
abbrev M9:List Str:=["NoSlants", "NoRow", "NoNumber", "NoLine", "NotEven", "NotFull", "NotStrong1", "NotStrong2", "NotStrong3", "NotStrong4", "NotStrong5"]
theorem F3{K:Nb}{W:Wd}:∀{bs:List Int} {vs:List V} {its:List Value},Reps K W vs (bs.map .int)->Vals vs its->its.length=bs.length/\∀(i:Nat) (v:Value),its[i]? = some v->∃b t,bs[i]? = some b/\v=.int b t
 |[],_,_,.nil,.nil=>⟨rfl,λi v e=>by simp at e⟩
 |b::bs,_,_,.cons r1 r2,.cons v1 v2=>by
  cases r1;obtain⟨t,rfl⟩:=v1;obtain⟨l,k⟩:=F3 r2 v2;refine⟨by simp[l],λi v e=>?_⟩;cases i with
  |zero=>simp at e;exact⟨b,t,by simp,e.symm⟩|succ i=>exact(by simpa using k i v (by simpa using e))
def lcV(g:WG)(wf:WT)(we:WE):List D->bZ->List D->(bZ->List D->Prop)->Prop
 |[],ρ,acc,Q=>Q ρ acc|d::ds,ρ,acc,Q=>g d ρ λρ2=>wf No ρ2 λb=>if b=true then we No ρ2 λy=>acc.length<small/\lcV g wf we ds ρ2 (acc++[y]) Q else lcV g wf we ds ρ2 acc Q
def lcW2(g:WG)(wf:WT)(wi2:WA)(g2:WG)(wf2:WT)(we:WE):List D->bZ->List D->(List D->Prop)->Prop
 |[],_,acc,Q=>Q acc|d::ds,ρ,acc,Q=>g d ρ λρ2=>wf No ρ2 λb=>if b=true then wi2 No ρ2 λds2=>lcV g2 wf2 we ds2 ρ2 acc λρ3 acc'=>lcW2 g wf wi2 g2 wf2 we ds ρ3 acc' Q else lcW2 g wf wi2 g2 wf2 we ds ρ2 acc Q
def wV(wi:WA)(nv:Nat)(sel:List Nat)(g:WG)(wf:WT)(wi2:WA)(g2:WG)(wf2:WT)(we:WE):WA:=λE ρ Q=>wi E ρ λds=>lcW2 g wf wi2 g2 wf2 we ds (ZbC nv sel ρ) [] Q
section
variable{t2 i2:Expr}{fz:List Expr}{g2:WG}{wf2:WT}{wi2:WA}
theorem lcV.mono(hg:∀d ρ P P',(∀r,P r->P' r)->g d ρ P->g d ρ P')(hf:∀E ρ P P',(∀d,P d->P' d)->wf E ρ P->wf E ρ P')(he:∀E ρ P P',(∀d,P d->P' d)->we E ρ P->we E ρ P') :
  ∀ds ρ acc P P',(∀r xs,P r xs->P' r xs)->lcV g wf we ds ρ acc P->lcV g wf we ds ρ acc P'
 |[],_,acc,P,P',hp,h=>hp _ _ h
 | d::ds,ρ,acc,P,P',hp,h=>hg _ _ _ _ (λr hr=>hf _ _ _ _ (λb hb=>by
   cases b with
   |false=>rw[ks<|by decide]at hb ⊢;exact lcV.mono hg hf he ds r acc P P' hp hb
   |true=>rw[oI rfl]at hb ⊢;exact he _ _ _ _ (λy hy=>⟨hy.1,lcV.mono hg hf he ds r _ P P' hp hy.2⟩) hb) hr) h
theorem lcW2.mono(hg:∀d ρ P P',(∀r,P r->P' r)->g d ρ P->g d ρ P')(hf:∀E ρ P P',(∀d,P d->P' d)->wf E ρ P->wf E ρ P')(hi2:∀E ρ P P',(∀d,P d->P' d)->wi2 E ρ P->wi2 E ρ P')(hg2:∀d ρ P P',(∀r,P r->P' r)->g2 d ρ P->g2 d ρ P')(hf2:∀E ρ P P',(∀d,P d->P' d)->wf2 E ρ P->wf2 E ρ P')(he:∀E ρ P P',(∀d,P d->P' d)->we E ρ P->we E ρ P') :
  ∀ds ρ acc P P',(∀xs,P xs->P' xs)->lcW2 g wf wi2 g2 wf2 we ds ρ acc P->lcW2 g wf wi2 g2 wf2 we ds ρ acc P'
 |[],_,acc,P,P',hp,h=>hp _ h
 | d::ds,ρ,acc,P,P',hp,h=>hg _ _ _ _ (λr hr=>hf _ _ _ _ (λb hb=>by
   cases b with
   |false=>rw[ks<|by decide]at hb ⊢;exact lcW2.mono hg hf hi2 hg2 hf2 he ds r acc P P' hp hb
   |true=>rw[oI rfl]at hb ⊢;exact hi2 _ _ _ _ (λds2 h2=>lcV.mono hg2 hf2 he ds2 r acc _ _ (λr' xs hx=>lcW2.mono hg hf hi2 hg2 hf2 he ds r' xs P P' hp hx) h2) hb) hr) h
theorem La(vars:List Str)(sel:List Nat)(hc:X.calm=true)(hi:kG X EX target iter wi)(hg:∀s H fp,lP (X.lc sc vars sel s H fp) target g)(hf:∀s H fp,n4 (X.lc sc vars sel s H fp) E0 ifs wf)
  (hi2:∀s H fp,kG (X.lc sc vars sel s H fp) E0 t2 i2 wi2) (hg2:∀s H fp,lP (X.lc sc vars sel s H fp) t2 g2) (hf2:∀s H fp,n4 (X.lc sc vars sel s H fp) E0 fz wf2) (he:∀s H fp,PX (X.lc sc vars sel s H fp) E0 elt we)
  (ok:jC sc X.env.scope=true:=by rfl) (so:l8 X.N sc sel=true:=by rfl) (hs:∀x,foldedSetIterable iter X.env x=pure x:=by intro _;rfl) (hs2:∀a x,foldedSetIterable i2 (iW sc X.env a) x=pure x:=by intro _ _;rfl) :
  PXL X EX (.ListComp elt [⟨target,iter,ifs,0⟩,⟨t2,i2,fz,0⟩] sc pos) (wV wi vars.length sel g wf wi2 g2 wf2 we):=by
 have gm:=(hg {} (λ_=>none) []).mono;have go:=(hg {} (λ_=>none) []).own;have fm:=(hf {} (λ_=>none) []).mono;have im:=(hi2 {} (λ_=>none) []).mono;have gm2:=(hg2 {} (λ_=>none) []).mono;have go2:=(hg2 {} (λ_=>none) []).own;have fm2:=(hf2 {} (λ_=>none) []).mono;have em:=(he {} (λ_=>none) []).mono;refine⟨?_,λE ρ P P' hp h=>hi.mono _ _ _ _ (λds hds=>lcW2.mono gm fm im gm2 fm2 em ds _ _ _ _ hp hds) h⟩;obtain⟨ti,pi,ki⟩:=hi.t;refine ⟨_,Iz (wi:=ti) (g:=λv σ H Q=>∃ W0 H0 W ρ d,SOk X.K W0 H0 W σ H ρ/\Rep X.K W v d/\g d ρ (λρ'=>∀ σ',SOk X.K W0 H0 W σ' H ρ'->Q σ' H))
  (tf:=λσ H Q=>∃W0 H0 W ρ,SOk X.K W0 H0 W σ H ρ/\wf No ρ (λb=>∀W' H',Ext W H W' H'->Q b H'))
  (wi2:=λσ H R=>∃W0 H0 W ρ,SOk X.K W0 H0 W σ H ρ/\wi2 No ρ (λds=>∀W' H' J,Ext W H W' H'->ny X.K W' J ds->R J H'))
  (g2:=λv σ H Q=>∃W0 H0 W ρ d,SOk X.K W0 H0 W σ H ρ/\Rep X.K W v d/\g2 d ρ (λρ'=>∀σ',SOk X.K W0 H0 W σ' H ρ'->Q σ' H))
  (tf2:=λσ H Q=>∃W0 H0 W ρ,SOk X.K W0 H0 W σ H ρ/\wf2 No ρ (λb=>∀W' H',Ext W H W' H'->Q b H'))
  (te:=λσ H Q=>∃W0 H0 W ρ,SOk X.K W0 H0 W σ H ρ/\we No ρ (RQ X.K W H Q)) vars sel hc pi ok so (λs1 H1 fp=>?_) (λs1 H1 fp=>?_) (λs1 H1 fp=>?_) (λs1 H1 fp=>?_) (λs1 H1 fp=>?_) (λs1 H1 fp=>?_) hs2 hs,?_⟩
 .obtain⟨t,q,k⟩:=(hg s1 H1 fp).t
  rintro sa s σ H v u Q I r ⟨W0,H0,W,ρ,d,s',r',h⟩;exact q sa s σ H v u Q I r<|k W0 H0 W σ H ρ d v Q s' r' h
 .obtain⟨t,q,k⟩:=(hf s1 H1 fp).t
  rintro sa s σ H Q I ⟨W0,H0,W,ρ,s',h⟩;exact q sa s σ H Q I<|k W0 H0 W σ H ρ No Q s' (λ_ _ _ _ _ z=>z.elim) h
 .obtain⟨t,q,k⟩:=(hi2 s1 H1 fp).t
  rintro sa s σ H R I ⟨W0,H0,W,ρ,s',h⟩;exact q sa s σ H R I<|k W0 H0 W σ H ρ No R s' (λ_ _ _ _ _ z=>z.elim) h
 .obtain⟨t,q,k⟩:=(hg2 s1 H1 fp).t
  rintro sa s σ H v u Q I r ⟨W0,H0,W,ρ,d,s',r',h⟩;exact q sa s σ H v u Q I r<|k W0 H0 W σ H ρ d v Q s' r' h
 .obtain⟨t,q,k⟩:=(hf2 s1 H1 fp).t
  rintro sa s σ H Q I ⟨W0,H0,W,ρ,s',h⟩;exact q sa s σ H Q I<|k W0 H0 W σ H ρ No Q s' (λ_ _ _ _ _ z=>z.elim) h
 .obtain⟨t,q,k⟩:=(he s1 H1 fp).t
  rintro sa s σ H Q I ⟨W0,H0,W,ρ,s',h⟩;exact q sa s σ H Q I<|k W0 H0 W σ H ρ No Q s' (λ_ _ _ _ _ z=>z.elim) h
 intro W0 H0 W σ H ρ E Q s eo h;refine ki W0 H0 W σ H ρ E _ s eo<|hi.mono _ _ _ _ (λds hds W1 H1 J x1 it D hD=>?_) h;have hDf:=x1.ok.fresh hD;have hD0:H0 D=none:=s.ext.isN<|x1.isN hD;refine ⟨λi m ys σ2 H2=>m=ds.length - i/\i<=ds.length/\∃ W2 ρ2 acc,Ext W1 H1 W2 H2/\SOk X.K W0 H0 W2 σ2 H2 ρ2/\ZfN ρ2/\H2 D=some (.lst ys)/\W2.G D=none/\¬ W2.Pn D/\Reps X.K W2 ys acc/\
  lcW2 g wf wi2 g2 wf2 we (ds.drop i) ρ2 acc (λds=>∀a vs W' H',Ext W H W' H'->H' a=some (.lst vs)->W'.G a=none->¬W'.Pn a->H a=none->Reps X.K W' vs ds->Q (.ref a) H'),⟨_,rfl,iq _,W1,_,[],.new x1.ok hD,?_,ZbC.own _ _ ρ,aO,hDf.1,hDf.2,.nil,by rw[pQ];exact hds⟩,?_⟩
 .exact(((s.step x1).step<|.new x1.ok hD).lc vars.length sel)
 rintro i m ys σ2 H2 ⟨rfl,hi',W2,ρ2,acc,x2,s2,no2,hD2,g2',p2,r2,q2⟩;refine⟨hD2,?_⟩;obtain⟨itg,its⟩:=it W2 H2 i x2.g x2.p x2.ok;have kpD:∀{V0:Wd} {G:Hp} {zs:List V} {W':Wd} {H':Hp},G D=some (.lst zs)->V0.G D=none->¬V0.Pn D->Ext V0 G W' H'->H' D=some (.lst zs)/\W'.G D=none/\¬W'.Pn D:=λ{V0 G zs W' H'} hG hg' hp' x'=>by
  refine⟨x'.h D _ hG hp',?_,λz=>?_⟩
  .cases q:W'.G D with|none=>rfl|some o=>have:=x'.gf D hg' (by rw[q];simp);rw[hG]at this;cases this
  .have:=x'.pf D hp' z;rw[hG]at this;cases this
 rcases fS i ds.length with hlt|hge
 .have hd:ds[i]? = some ds[i]:=bJ hlt
  obtain⟨go',yl⟩:=itg _ hd;refine .inr ⟨go',λx H3 y=>?_⟩;obtain⟨W3,x3,r3⟩:=yl x H3 y;rw[nU hlt]at q2;refine⟨W0,H0,W3,ρ2,ds[i],s2.step x3,r3,gm _ _ _ _ (λρ4 hr σ4 s4=>?_)<|go _ _ _ no2 q2⟩;obtain⟨no4,hr⟩:=hr;refine⟨W0,H0,W3,ρ4,s4,fm _ _ _ _ (λb hb W5 H5 x5=>?_) hr⟩;have kD:=kpD hD2 g2' p2<|x3.trans x5;cases b with
  |false=>
   rw[ks<|by decide]at hb;show ite _ _ _;rw[ks<|by decide];exact⟨ds.length-(i+1),by omega,rfl,hlt,W5,ρ4,acc,x2.trans<|x3.trans x5,s4.step x5,no4,kD.1,kD.2.1,kD.2.2,(x3.trans x5).reps r2,hb⟩
  |true=>
   rw[oI rfl]at hb;show ite _ _ _;rw[oI rfl];refine⟨W0,H0,W5,ρ4,s4.step x5,im _ _ _ _ (λds2 hds2 W6 H6 J2 x6 it2=>?_) hb⟩;have kD6:=kpD hD2 g2' p2<|x3.trans (x5.trans x6);refine ⟨λi2 k zs σ7 H7=>k=ds2.length - i2/\i2<=ds2.length/\∃ W7 ρ7 acc7,Wle W6 W7/\Ext W1 H1 W7 H7/\SOk X.K W0 H0 W7 σ7 H7 ρ7/\ZfN ρ7/\H7 D=some (.lst zs)/\W7.G D=none/\¬ W7.Pn D/\Reps X.K W7 zs acc7/\
    lcV g2 wf2 we (ds2.drop i2) ρ7 acc7 (λρ3 acc'=>lcW2 g wf wi2 g2 wf2 we (ds.drop<|i+1) ρ3 acc' (λds=>∀a vs W' H',Ext W H W' H'->H' a=some (.lst vs)->W'.G a=none->¬W'.Pn a->H a=none->Reps X.K W' vs ds->Q (.ref a) H')),
    ⟨_,rfl,iq _,W6,ρ4,acc,.refl W6,x2.trans<|x3.trans<|x5.trans x6,(s4.step x5).step x6,no4,kD6.1,kD6.2.1,kD6.2.2,(x3.trans<|x5.trans x6).reps r2,by rw[pQ];exact hds2⟩,?_⟩
   rintro i2 k zs σ7 H7 ⟨rfl,hi2',W7,ρ7,acc7,f7,x7,s7,no7,hD7,g7,p7,r7,q7⟩;refine⟨hD7,?_⟩;obtain⟨itg2,its2⟩:=it2 W7 H7 i2 f7.g f7.p s7.ok;rcases fS i2 ds2.length with hlt2|hge2
   .have hd2:ds2[i2]? = some ds2[i2]:=bJ hlt2
    obtain⟨go2',yl2⟩:=itg2 _ hd2;refine .inr ⟨go2',λx H8 y=>?_⟩;obtain⟨W8,x8,r8⟩:=yl2 x H8 y;rw[nU hlt2]at q7;refine⟨W0,H0,W8,ρ7,ds2[i2],s7.step x8,r8,gm2 _ _ _ _ (λρ9 hr9 σ9 s9=>?_)<|go2 _ _ _ no7 q7⟩;obtain⟨no9,hr9⟩:=hr9;refine⟨W0,H0,W8,ρ9,s9,fm2 _ _ _ _ (λb hb WA HA xA=>?_) hr9⟩;cases b with
    |false=>
     rw[ks<|by decide]at hb;show ite _ _ _;rw[ks<|by decide];have kA:=kpD hD7 g7 p7<|x8.trans xA;exact⟨ds2.length-(i2+1),by omega,rfl,hlt2,WA,ρ9,acc7,f7.ext<|x8.trans xA,x7.trans<|x8.trans xA,s9.step xA,no9,kA.1,kA.2.1,kA.2.2,(x8.trans xA).reps r7,hb⟩
    |true=>
     rw[oI rfl]at hb;show ite _ _ _;rw[oI rfl];refine⟨W0,H0,WA,ρ9,s9.step xA,em _ _ _ _ (λy hy v WB HB xB rB=>?_) hb⟩;have xx:=x8.trans<|xA.trans xB;have kB:=kpD hD7 g7 p7 xx;have hl:zs.length=acc7.length:=r7.length;refine⟨kB.1,by rw[hl];exact da hy.1<|ma<|cF _,ds2.length-(i2+1),by omega,rfl,hlt2,WB,ρ9,acc7++[y],f7.ext xx,(x7.trans xx).chg hD kB.1 kB.2.2 kB.2.1,?_,no9,aO,kB.2.1,kB.2.2,(xx.reps r7).append<|.cons rB .nil,hy.2⟩;exact((s9.step xA).step xB).chgD no9 hD0 kB.1 kB.2.2 kB.2.1
   .refine .inl ⟨its2 hge2,?_⟩
    rw[tO hge2]at q7;exact⟨ds.length-(i+1),by omega,rfl,hlt,W7,ρ7,acc7,x7,s7,no7,hD7,g7,p7,r7,q7⟩
 .refine .inl ⟨its hge,?_⟩
  rw[tO hge]at q2;exact q2 D ys W2 H2 (x1.trans x2) hD2 g2' p2 (x1.isN hD) r2
end
def Zp:D->List D->(D->Prop)->Prop:=λx ds Q=>∃(bs:List Int) (b:Int),x=.lst (bs.map .int)/\ds=[.int b]/\Q (.int ((bs.countP (· == b):Nat):Int))
theorem F5{K:Nb}{W:Wd}(b:Int):∀{bs:List Int} {vs:List V} {its:List Value},Reps K W vs (bs.map .int)->Vals vs its->its.countP (Value.isInt b)=bs.countP (· == b)
 |[],_,_,.nil,.nil=>rfl|c::bs,_,_,.cons r1 r2,.cons v1 v2=>by cases r1;obtain⟨t,rfl⟩:=v1;rw[uM,uM,F5 b r2 v2];rfl
section
theorem Lc:y3 X "list.count" Zp:=by
 refine⟨⟨λx vs H Q=>∃W dx ds,WOk W H/\Rep X.K W x dx/\Reps X.K W vs ds/\Zp dx ds (RQ X.K W H Q),?_,λW H x vs dx ds Q ok r rs hg=>⟨W,dx,ds,ok,r,rs,hg⟩⟩,λdx ds P ⟨bs,b,h,_⟩=>⟨_,h⟩,λx ds P P' hp ⟨bs,b,h1,h2,h3⟩=>⟨bs,b,h1,h2,hp _ h3⟩⟩;rintro sa s σ H x vs v us Q I rx rv ⟨W,dx,ds,ok,r,rs,bs,b,rfl,rfl,q⟩;obtain⟨y,rfl,ry⟩:=rs.one;cases ry;obtain⟨u,rfl,ru⟩:=dJ rv;obtain⟨tu,rfl⟩:=ru;cases r with
 | @lst a xs ds e1 rr=>
  cases rx;obtain⟨its,rvs,pl,hz⟩:=I.list<|SqL.of (ok.g _ _ e1);have hc1:=F5 b rr rvs;obtain⟨hl,hv⟩:=F3 rr rvs;obtain⟨⟨cls,dd,data,sl⟩,ho,hc,n,hd⟩:=pl.isList;simp only at hc hd;subst hc hd;refine call_meets PySem.F.slot_list_count ⟨_,ho,rfl⟩ PySem.F.entry_list_count (PySem.F.args_list_count_2 _ _) (SeqAt.list_countAt a _ n dd sl (.int b tu)<|Value.isInt b) ⟨ho,λy hy=>?_,?_⟩
  have hy':y∈its:=by simpa using hy
  obtain⟨m,hm,rfl⟩:=Ybv.mp hy';obtain⟨c,t,e1,e2⟩:=hv m _<|bJ hm;rw[e2];exact PySem.SeqAt.EqAt.int_int c t b tu
  rw[show(its.toArray.toList)=its from rfl,hc1];exact⟨.int _,H,I.tok _,⟨_,rfl⟩,q.now ok<|.int _⟩
end
def iH:Option (Nat×List Rat)->D
 |none=>.non|some (a,l)=>.tup [.int (a:Int),aF l]
def rk(x:D):Except Str D:=fP x (if ik x=true then .ok (aS<|gh (sI x)<|sN x) else .error "NotEven")
def iI(s:List Int)(n:Nat)(P:List (List Rat)):Nat:=(P.filter λr=>decide (0<bF s n r r)).length
def j7(s:List Int)(n:Nat)(P:List (List Rat)):Nat:=(P.filter λr=>decide (bF s n r r<0)).length
def mx(s:List Int)(n:Nat)(P:List (List Rat)):D:=.tup [.int (iI s n P:Int),.int (j7 s n P:Int),.int<|(P.length:Int)-(iI s n P:Int)-(j7 s n P:Int)]
structure lY(n:Nat)(r:List Rat):Prop where
 len:r.length=n
 sz:∀y∈r,Sz 170 y
structure Pq0(s:List Int)(n:Nat)(P:List (List Rat)):Prop where
 sl:IsSl s n
 ev:s.reverse=s
 len:P.length=n
 lf:∀r∈P,lY n r
 cz:zC n n P
def zK:bX:=fnS (λx:(Nat×Nat)×List (List Rat)=>[aS x.2,.int x.1.2]) (λx=>zC x.1.1 x.1.2 x.2) λx=>.bl<|decide ((cQ x.2 x.1.2).ld.length=x.2.length)
def wW:bX:=fnS (λx:SL×List (List Rat)×List (List Rat)=>[aR x.1.1,aS x.2.2]) (λx=>IsSl x.1.1 x.1.2/\x.1.1.reverse=x.1.1/\Sg x.1.1 x.1.2 x.2.1 x.2.2) λx=>iH<|hZ x.1.1 x.1.2 0 x.2.2
def zL:bX:=fnS (λx:SL×List Rat×List Rat=>[aR x.1.1,aF x.2.1,aF x.2.2]) (λx=>IsSl x.1.1 x.1.2/\x.1.1.reverse=x.1.1/\Lf 163 x.1.2 x.2.1/\Lf 163 x.1.2 x.2.2/\bF x.1.1 x.1.2 x.2.2 x.2.2≠0) λx=>aF<|iG x.1.1 x.1.2 x.2.2 x.2.1
def wX:bX:=xS (λx:D=>[x]) (λx=>kd x=true) rk
def zM:bX:=xS (λx:D×D=>[x.1,x.2]) (λx=>kd x.1=true/\kd x.2=true/\cZ 170 x.2=true) λx=>zw x.1 x.2 x.2
def zN:bX:=fnS (λx:SL×List (List Rat)=>[aR x.1.1,aS x.2]) (λx=>Pq0 x.1.1 x.1.2 x.2) λx=>.bl<|decide (x.2.Pairwise λu v=>bF x.1.1 x.1.2 u v=0)
def wY:bX:=wX
section
variable{E:Ex->Prop}{x z:D}{w:Nat}{u v:List Rat}{R f:List (List Rat)}
def F6(h:IsSl s n)(ev:s.reverse=s)(g:Sg s n f R)(q:Q (iH<|hZ s n 0 R)):wW [aR s,aS R] E Q:=⟨((s,n),f,R),rfl,⟨h,ev,g⟩,q⟩
def Le(h:IsSl s n)(ev:s.reverse=s)(h1:Lf 163 n r)(h2:Lf 163 n l)(h3:bF s n l l≠0)(q:Q (aF<|iG s n l r)):zL [aR s,aF r,aF l] E Q:=⟨((s,n),r,l),rfl,⟨h,ev,h1,h2,h3⟩,q⟩
theorem Lg(h:IsSl s n)(ev:s.reverse=s)(q:Q .non):ur [aR s] E Q:=xS.ok (aR s) rfl h.kd (by(try dsimp only);rw[iY h];unfold ik;rw[ii,Nh ev];rfl) q
theorem F7(h:IsSl s n)(ev:s.reverse=s)(q:Q (aS<|gh s n)):wX [aR s] E Q:=xS.ok (aR s) rfl h.kd (by(try dsimp only);unfold rk;rw[iY h];unfold ik;rw[ii,Nh ev,h.sN];rfl) q
theorem F8(h:IsSl s n)(ev:s.reverse=s)(hu:u.length=n)(hv:v.length=n):zw (aR s) (aF u) (aF v)=.ok (aN<|bF s n u v):=by
 unfold zw Cc;rw[iY h];unfold ik;have e1:et n (aF u)=true:=by have:=y0 u;rwa [hu]at this
 have e2:et n (aF v)=true:=by have:=y0 v;rwa [hv]at this
 rw[ii,Nh ev,h.sN,e1,e2,nF,nF];rfl
theorem zO(h:IsSl s n)(ev:s.reverse=s)(hu:u.length=n)(hv:v.length=n)(zu:∀x∈u,Sz 170 x)(zv:∀x∈v,Sz 170 x)(q:Q (aN<|bF s n u v)):nJ [aR s,aF u,aF v] E Q:=
 xS.ok (aR s,aF u,aF v) rfl ⟨h.kd,vX (by have:=h.n5;omega),vX (by have:=h.n5;omega),Zcr.mpr zu,Zcr.mpr zv⟩ (F8 h ev hu hv) q
theorem Lh(h:IsSl s n)(ev:s.reverse=s)(hu:u.length=n)(zu:∀x∈u,Sz 170 x)(q:Q (aN<|bF s n u u)):zM [aR s,aF u] E Q:=
 xS.ok (aR s,aF u) rfl ⟨h.kd,vX (by have:=h.n5;omega),Zcr.mpr zu⟩ (F8 h ev hu hu) q
def Li(h:Pq0 s n P)(q:Q (.bl<|decide (P.Pairwise λu v=>bF s n u v=0))):zN [aR s,aS P] E Q:=⟨((s,n),P),rfl,h,q⟩
end
theorem wZ:∀{m:Nat},m<=4->3*bq 168 m<8990:=λ{m} h=>by
 have:=ut (b:=168) h;have e:bq 168 4=2703:=by decide
 omega
theorem Pq0.of(h:IsSl s n)(ev:s.reverse=s)(hl:P.length=n)(lf:∀r∈P,Lf 168 n r):Pq0 s n P:=⟨h,ev,hl,λr hr=>⟨(lf r hr).len,λy hy=>((lf r hr).sz y hy).mono<|by decide⟩,ClIn.z (b:=168) ⟨cF _,by have:=h.n5;omega,by rw[hl];have:=h.n5;omega,wZ (by have:=h.n5;omega),lf⟩⟩
theorem F9(h:IsSl s n){u v:List Rat}(hu:Lf b n u)(hv:Lf b n v):Sz (2*b+11) (bF s n u v):=by
 rw[ms h hu.len hv.len];obtain⟨c,e,h1,h2,h3,h4,rfl⟩:=hu.ex;obtain⟨d,g,g1,g2,g3,g4,rfl⟩:=hv.ex;have gc:∀(c:List Int) (e:Int) j,gq (c.map λx=>Rat.divInt x e) j=Rat.divInt (c.getD j 0) e:=λc e j=>by
  unfold gq;rw[bN,cH,bN];cases c[j]? with
  |none=>show(0:Rat)=Rat.divInt 0 e;rw[Rat.zero_divInt]|some x=>rfl
 have key:bf (Pj.cA<|sA s n) n (gq<|c.map λx=>Rat.divInt x e) (gq<|d.map λx=>Rat.divInt x g)=Rat.divInt (Pj.bI (sA s n) n (λj=>c.getD j 0) λj=>d.getD j 0) (e*g):=by
  have ie:((e*g:Int):Rat)⁻¹=((e:Int):Rat)⁻¹*((g:Int):Rat)⁻¹:=by have ne:((e:Int):Rat)≠0:=λz=>h2 (by exact_mod_cast z);have ng:((g:Int):Rat)≠0:=λz=>g2 (by exact_mod_cast z);have a1:=qF _ ne;have a2:=qF _ ng;have a3:=qF (((e:Int):Rat)*((g:Int):Rat)) (λz=>by rcases YcU.mp z with z|z;exact ne z;exact ng z);rw[ic];generalize (((e:Int):Rat)*((g:Int):Rat))⁻¹=x at *;grind
  rw[yg,<-Pj.bI_cast,ir,Rat.mul_comm,ie];unfold bf;rw[<-Dt.sumN_mul];refine dP λi _=>?_;rw[gc,yg,dP (g:=λj=>((g:Int):Rat)⁻¹*((sA s n i j:Rat)*((d.getD j 0:Int):Rat))) (λj _=>by rw[gc,yg,ir];grind),Dt.sumN_mul,ir];grind
 rw[key];have m5:=h.n5;have cz:∀(c:List Int) (j:Nat),(∀x∈c,x.natAbs<2^b)->(c.getD j 0).natAbs<=2^b:=λc j hc=>by
  rw[bN];cases e:c[j]? with
  |none=>exact iq _|some x=>exact kO<|hc x (jy e)
 refine BU (rJ h2 g2) ?_ ?_;have h1:∀i,i<n->(Dt.sumI (λj=>sA s n i j*d.getD j 0) n).natAbs<=n*(50*2^b):=λi hi=>Pj.sumI_bd λj hj=>by rw[eW];exact l6 (zJ h i j hi hj)<|cz d j g4
 have h2:=Pj.sumI_bd (f:=λi=>c.getD i 0*Dt.sumI (λj=>sA s n i j*d.getD j 0) n) (c:=2^b*(n*(50*2^b))) (n:=n) λi hi=>by rw[eW];exact l6 (cz c i h4)<|h1 i hi
 have h3:n*(2^b*(n*(50*2^b)))<=5*(2^b*(5*(50*2^b))):=l6 m5<|Nat.mul_le_mul_left _ (mC _ m5);have e1:2^(2*b+11)=2^b*2^b*2048:=by rw[kS,show 2*b=b+b by omega,kS]
 have e2:5*(2^b*(5*(50*2^b)))=1250*(2^b*2^b):=by grind
 have e3:0<2^b*2^b:=Nat.mul_pos (xR<|by decide)<|xR (by decide);unfold Pj.bI;dsimp only;omega
 rw[eW,kS,show 2*b=b+b by omega,kS];have:=tR h3 g3;omega
abbrev Zdt:List Str:=["rows", "many"]
def Ga:WS:=(aM<|w2 (gEq false) (wB bH<|aC (w2 gIx (wF Ch<|aC (wN 0)<|aC (wN 1) aA)<|wC<|.int<|0) aA)<|wB bH<|aC (wN 0) aA)
abbrev Zgd:List Str:=["slants", "rows", "at", "row", "sums", "lead"]
def CG:WS:=(bD 4<|aG (bA<|bP (iE<|aC (wN 1) aA) (dw 2<|cB (gN 2)<|cB (gN 3) dj)<|aG (bM 4<|aLC (iS<|bO (wN 1) (dv<|w2 gAdd (wN 2)<|wC<|.int<|1) dY) 1 [3] (gN 0) cE<|wF rj<|aC (wN 1)<|aC (wF uj<|aC (wC<|D.tup [(D.int<|0),(D.int<|1)])<|aC (wC<|D.tup [(D.int<|1),(D.int<|1)]) aA)<|aC (wN 0) aA)<|bD 4<|bA<|bP (iS<|w2 gAdd (wL<|aY<|aC (wN 3) aA)<|wN 4) (gN 5)<|cN (wT<|w2 (gEq true) (wF nJ<|aC (wN 0)<|aC (wN 5)<|aC (wN 5) aA)<|wC<|D.tup [(D.int<|0),(D.int<|1)]) (aM<|aZ<|aC (wN 2)<|aC (wN 5) aA) cP)<|aM<|wC D.non)
abbrev Zgh:List Str:=["slants", "row", "lead"]
def Gb:WS:=(aM<|wF rj<|aC (wN 1)<|aC (wF nE<|aC (wF nJ<|aC (wN 0)<|aC (wN 1)<|aC (wN 2) aA)<|aC (wF nJ<|aC (wN 0)<|aC (wN 2)<|aC (wN 2) aA) aA)<|aC (wN 2) aA)
abbrev Zgg:List Str:=["slants", "size", "found", "rest", "place_and_lead", "at", "lead"]
def CH:WS:=(aG (jp<|wF ur<|aC (wN 0) aA)<|aG (aQ 1<|wF qu<|aC (wN 0) aA)<|aG (bM 2<|aY aA)<|aG (bM 3<|aLC (dU<|aC (wN 1) aA) 1 [1] (gN 0) cE<|wF zy<|aC (wN 0)<|aC (wN 1) aA)<|bD 3<|aG (aQ 4<|wF wW<|aC (wN 0)<|aC (wN 3) aA)<|bD 3<|aG (bA<|ua (wT<|w2 (gIsC true) (wN 4)<|wC D.non)<|aG (dA (wN 4)<|dw 2<|cB (gN 5)<|cB (gN 6) dj)<|aG (dk 2<|wN 6)<|bD 3<|aG (bM 3<|aLC (iS<|w2 gAdd (bO (wN 3) dY<|dv<|wN 5)<|bO (wN 3) (dv<|w2 gAdd (wN 5)<|wC<|.int<|1) dY) 1 [0,6] (gN 0) cE<|wF zL<|aC (wN 1)<|aC (wN 0)<|aC (wN 2) aA)<|bD 3<|aQ 4<|wF wW<|aC (wN 0)<|aC (wN 3) aA)<|bD 2<|bD 3<|aM<|w2 gAdd (wN 2)<|wN 3)
abbrev ZjW:List Str:=["slants", "row"]
def Zj:WS:=(aM<|wF nJ<|aC (wN 0)<|aC (wN 1)<|aC (wN 1) aA)
abbrev Zhz:List Str:=["slants", "rows"]
def CJ:WS:=(aM<|wB iA<|aC (wL<|wV (iE<|aC (wN 1) aA) 3 [0,1] (dw 2<|cB (gN 0)<|cB (gN 1) dj) cE (iS<|bO (wN 4) (dv<|w2 gAdd (wN 0)<|wC<|.int<|1) dY) (gN 2) cE<|w2 (gEq false) (wF nJ<|aC (wN 3)<|aC (wN 1)<|aC (wN 2) aA)<|wC<|D.tup [(D.int<|0),(D.int<|1)]) aA)
abbrev Zgb:List Str:=["slants"]
def Gc:WS:=(aM<|wF wX<|aC (wN 0) aA)
theorem Lj:Rd zK Ga Zdt:=by rintro _ E Q ⟨⟨⟨w,m⟩,R⟩,rfl,h,q⟩;dsimp only at h q;unfold Ga;walk_at "s";refine⟨((w,m),R),rfl,h,?_⟩;refine⟨_,rfl,?_⟩;unfold aS;walk_at "s";rw[bG,bG,show((((cQ R m).ld.length:Nat):Int)==((R.length:Nat):Int))=decide ((cQ R m).ld.length=R.length) by rw[gM];simp;exact Int.ofNat_inj];exact q
theorem Lk:Rd zM Zj ZjW:=by rintro _ E Q ⟨⟨x,y⟩,rfl,⟨h1,h2,h3⟩,q⟩;dsimp only at h1 h2 h3 q;unfold Zj;walk_at "s";exact⟨(x,y,y),rfl,⟨h1,h2,h2,h3,h3⟩,q⟩
theorem Ll:Rd zL Gb Zgh:=by rintro _ E Q ⟨⟨⟨s,n⟩,r,l⟩,rfl,⟨h,ev,hr,hl,h0⟩,q⟩;dsimp only at h ev hr hl h0 q;unfold Gb;walk_at "s";have up:∀x:Rat,Sz 163 x->Sz 170 x:=λx hx=>hx.mono (by decide);have z1:=F9 h hr hl;have z2:=F9 h hl hl;refine zO h ev hr.len hl.len (λx hx=>up x<|hr.sz x hx) (λx hx=>up x<|hl.sz x hx)<|zO h ev hl.len hl.len (λx hx=>up x<|hl.sz x hx) (λx hx=>up x<|hl.sz x hx) (v7 (B2.of z1 z2<|by decide) h0 ?_);exact Ci (b:=674) (by decide) (by rw[hr.len];have:=h.n5;omega) (λy hy=>(hr.sz y hy).mono<|by decide) ((z1.div z2).mono<|by decide) (λy hy=>(hl.sz y hy).mono<|by decide) q
theorem Ge{neg:Bool}{P:D->Prop}(h:P (.bl (if neg then !decide (q=0) else decide (q=0)))):gEq neg (aN q) (.tup [.int 0,.int 1]) P:=by
 refine n6 (Bw _ 59) (by decide +kernel) ?_;have e:iB (aN q) (.tup [.int 0,.int 1])=decide (q=0):=by rw[<-Fj,Fi]
 rw[e];exact h
theorem Gf{s:List Int}{n:Nat}{Q:D->Prop}{E:Ex->Prop}{N:Nds}{s1 s3 s4:SV}{k:Nat}(h:IsSl s n)(ev:s.reverse=s)(hN:N.rt=Q):∀(L:List (List Rat)) (s5:SV),(∀r∈L,Lf 163 n r)->(∀l,lW s n L=some l->Q (.tup [.int k,aF l]))->(lW s n L=none->∀s5,N.nx [.d<|aR s,s1,.d<|.int k,s3,s4,s5])->Zbb (gN 5) (cN (wT<|w2 (gEq true) (wF nJ<|aC (wN 0)<|aC (wN 5)<|aC (wN 5) aA)<|wC<|D.tup [(D.int<|0),(D.int<|1)]) (aM<|aZ<|aC (wN 2)<|aC (wN 5) aA) cP) E N (L.map aF) [.d<|aR s,s1,.d<|.int k,s3,s4,s5]
 |[],s5,_,_,h2=>h2 rfl s5
 |r::L,s5,hl,h1,h2=>by
  rw[cR,Zbb];simp only[gN,eY,eX];have hr:=hl r (by simp);have up:∀x∈r,Sz 170 x:=λx hx=>(hr.sz x hx).mono (by decide);refine j6 (b:=!decide (bF s n r r=0)) (λP hP=>?_) (λe=>?_) λe=>?_;walk_at "s";exact zO h ev hr.len hr.len up up<|Ge hP
  have e0:¬bF s n r r=0:=by simpa using e
  have:=h1 r (by rw[lW,ks e0]);rw[<-hN]at this;walk_at "s";exact⟨by decide,this⟩;have e0:bF s n r r=0:=by simpa using e
  exact Gf h ev hN L _ (λx hx=>hl x<|by simp[hx]) (λl hl'=>h1 l (by rw[lW,oI e0];exact hl')) λhn=>h2 (by rw[lW,oI e0];exact hn)
theorem Sg.sums(h:IsSl s n){f R:List (List Rat)}(g:Sg s n f R):∀r∈R,∀o∈R,Lf 163 n (bV r (-1) o):=λr hr o ho=>by
 obtain⟨M,m,hM⟩:=g.ex;obtain⟨v,hv,hl⟩:=hM r hr;obtain⟨v',hv',hl'⟩:=hM o ho;obtain⟨⟨x,hx⟩,h2⟩:=hl.add hl';have eq:=zI (q:=-1) (g.wR r hr)<|g.wR o ho;have hlen:=g.len;have:0<R.length:=At hr;have lt:Pj.Lt (sA s n) n f.length M (λj=>v j+v' j) (gq<|bV r (-1) o):=⟨⟨x,λj hj=>(eq j hj).trans (hx j hj)⟩,λi hi=>by rw[uz (λ_ _=>rfl) eq];exact h2 i hi⟩
 have:=lt.lf h.n5 (zJ h) m (by have:=h.n5;omega) λj hj=>by have:=qD (v j)<|v' j;have:=hv j hj;have:=hv' j hj;omega
 rwa [CB<|tJ (g.wR r hr)<|g.wR o ho]at this
theorem Gg{s:List Int}{n:Nat}{Q:D->Prop}{E:Ex->Prop}{N:Nds}{f R:List (List Rat)}(h:IsSl s n)(ev:s.reverse=s)(g:Sg s n f R)(hN:N.rt=Q):∀(R':List (List Rat)) (k:Nat) (s2 s3 s4 s5:SV),R.drop k=R'->k+R'.length=R.length->(∀a l,hZ s n k R'=some (a,l)->Q (.tup [.int (a:Int),aF l]))->(hZ s n k R'=none->∀s2 s3 s4 s5,N.nx [.d<|aR s,.d<|aS R,s2,s3,s4,s5])->Zbb (dw 2<|cB (gN 2)<|cB (gN 3) dj) (aG (bM 4<|aLC (iS<|bO (wN 1) (dv<|w2 gAdd (wN 2)<|wC<|.int<|1) dY) 1 [3] (gN 0) cE<|wF rj<|aC (wN 1)<|aC (wF uj<|aC (wC<|D.tup [(D.int<|0),(D.int<|1)])<|aC (wC<|D.tup [(D.int<|1),(D.int<|1)]) aA)<|aC (wN 0) aA)<|bD 4<|bA<|bP (iS<|w2 gAdd (wL<|aY<|aC (wN 3) aA)<|wN 4) (gN 5)<|cN (wT<|w2 (gEq true) (wF nJ<|aC (wN 0)<|aC (wN 5)<|aC (wN 5) aA)<|wC<|D.tup [(D.int<|0),(D.int<|1)]) (aM<|aZ<|aC (wN 2)<|aC (wN 5) aA) cP) E N (eT k<|R'.map aF) [.d<|aR s,.d<|aS R,s2,s3,s4,s5]
 |[],k,s2,s3,s4,s5,_,_,_,h2=>h2 rfl s2 s3 s4 s5
 |r::R',k,s2,s3,s4,s5,hd,hk,h1,h2=>by
  rw[cR,eT,Zbb];refine⟨rfl,?_⟩;simp only[cB,dj,gN,eY,eX];have n5:=h.n5;have gl:=g.len;have hr:r∈R:=mD (i:=k) (by rw[hd];simp);have hR':∀o∈R',o∈R:=λo ho=>mD (i:=k) (by rw[hd];simp[ho]);have tl:R.drop (k+1)=R':=by rw[<-List.drop_drop,hd];rfl
  simp only[d8]at hk;have lr:=g.rows h r hr;refine bU<|B.C.own_by (xs:=(R'.map λo=>bV r (-1) o).map aF) (ρ':=[.d<|aR s,.d<|aS R,.d<|.int k,.d<|aF r,.ow<|(R'.map λo=>bV r (-1) o).map aF,s5]) rfl (λP hP=>?_) ?_
  unfold aS;walk_at "s";rw[show(k:Int)+1=((k+1:Nat):Int) by omega,wk (by rw[bG];omega),<-qE,tl];refine jW (g:=aF) (f:=λo=>aF<|bV r (-1) o) R' (λo ho P hP=>?_) .un [] (du (by simp;omega)) ?_;walk_at "s";refine D1 (p:=0) (q:=1) (B2.of (n:=1) (m:=1) (Sz.zero<|by decide) (Sz.int 1 (by decide)<|by decide)<|by decide) ?_;rw[show(0:Rat)-1 = -1 from by decide +kernel];have lo:=g.rows h o<|hR' o ho;exact Ci (b:=163) (by decide) (by rw[lr.len];omega) lr.sz (Sz.mono (n:=2) (by decide) ⟨by decide,by decide⟩) lo.sz hP
  rw[dC,cY] at *;exact hP;dsimp only;refine B.C.pub_by (ρ':=[.d<|aR s,.d<|aS R,.d<|.int k,.d<|aF r,.d<|.lst<|(R'.map λo=>bV r (-1) o).map aF,s5]) rfl ?_;simp only[bA];refine B.C.for_seq (xs:=(r::R'.map λo=>bV r (-1) o).map aF) (λP hP=>?_) ?_;walk_at "s";exact⟨by decide,du (by simp;omega),hP⟩;refine Gf (Q:=Q) h ev (by exact hN) _ _ (λo ho=>?_) (λl hl=>h1 k l<|by rw[hZ,hl]) λhn s5'=>?_;rcases Yan.mp ho with rfl|ho
  exact lr;obtain⟨o',ho',rfl⟩:=YbQ.mp ho;exact g.sums h r hr o'<|hR' o' ho'
  exact Gg h ev g hN R' (k+1) _ _ _ _ tl (by omega) (λa l hl=>h1 a l (by rw[hZ,hn];exact hl)) λhn2=>h2 (by rw[hZ,hn];exact hn2)
theorem Lm:Rd wW CG Zgd:=by rintro _ E Q ⟨⟨⟨s,n⟩,f,R⟩,rfl,⟨h,ev,g⟩,q⟩;dsimp only at h ev g q;show CG E _ [.d<|aR s,.d<|aS R,.un,.un,.un,.un];unfold CG;refine B.C.pub_by (ρ':=[.d<|aR s,.d<|aS R,.un,.un,.un,.un]) rfl ?_;refine bU ?_;simp only[bA,bP];show iE _ _ [.d<|aR s,.d<|.lst<|R.map aF,.un,.un,.un,.un] _;simp only[iE,aC,aA,wN,db,de];refine Gg (Q:=Q) h ev g rfl R 0 .un .un .un .un (by simp) (by simp) (λa l e=>?_) λe s2 s3 s4 s5=>?_;rw[e]at q;exact q;rw[e]at q;exact q
def Gh{E:Ex->Prop}{b:Bool}{P:Bool->Prop}(hw:∀P:D->Prop,P (.bl b)->w E ρ P)(h:P b):wT w E ρ P:=hw _ h
theorem zP{E:Ex->Prop}{x:D}(hw:∀P:D->Prop,P (.tup [x,y])->w E ρ P)(e:(ρ.set i<|.d x).set j (.d y)=ρ')(h:N.nx ρ'):dA w (dw 2<|cB (gN i)<|cB (gN j) dj) E N ρ:=hw _ ⟨rfl,by rw[<-e]at h;exact h⟩
theorem Ln:Rd wX CH Zgg:=by
 rintro _ E Q ⟨x,rfl,hk,q⟩;show CH E _ [.d x,.un,.un,.un,.un,.un,.un];unfold CH;walk_at "n";unfold rk at q;cases e:f8 x with
 |false=>exact xS.err x rfl hk (n9 e)<|rg e q
 |true=>
 obtain⟨s,n,rfl,h⟩:=rc e;replace q:=rh h q;cases ev:ik (aR s) with
 |false=>
  rw[ev]at q;exact xS.err (aR s) rfl hk (by(try dsimp only);rw[iY h,ev];rfl) q
 |true=>
 rw[ev,ii,h.sN]at q;simp only[if_true]at q;have ev':s.reverse=s:=by unfold ik at ev;rw[ii]at ev;simpa using ev
 have n5:=h.n5;refine Lg h ev' ?_;walk_at "n";refine yZ h ?_;show aG _ _ _ _ [.d<|aR s,.d<|.int n,.un,.un,.un,.un,.un];refine bU<|B.C.own_by (xs:=[]) (ρ':=[.d<|aR s,.d<|.int n,.ow [],.un,.un,.un,.un]) rfl (λP hP=>⟨by decide,hP⟩) ?_;dsimp only;refine bU<|B.C.own_by (xs:=((List.range n).map<|bW n).map aF) (ρ':=[.d<|aR s,.d<|.int n,.ow [],.ow<|((List.range n).map<|bW n).map aF,.un,.un,.un]) rfl (λP hP=>?_) ?_
 .walk_at "s"
  refine⟨by omega,by omega,?_⟩;rw[jX];refine jW (g:=λk:Nat=>D.int (k:Int)) (f:=λk=>aF<|bW n k) (List.range n) (λk hk P hP=>?_) .un [] (du (by simp;omega)) ?_
  .walk_at "s"
   exact Kv n5 hP
  .rw[dC,cY] at *
   exact hP
 dsimp only;refine B.C.pub_by (ρ':=[.d<|aR s,.d<|.int n,.ow [],.d<|aS<|(List.range n).map<|bW n,.un,.un,.un]) rfl ?_;have g0:=Sg.start h;refine bU<|hV (d:=iH<|hZ s n 0<|(List.range n).map<|bW n) (ρ':=[.d<|aR s,.d<|.int n,.ow [],.d<|aS<|(List.range n).map<|bW n,.d<|iH<|hZ s n 0<|(List.range n).map<|bW n,.un,.un]) rfl (λP hP=>?_) ?_
 .walk_at "s"
  exact F6 h ev' g0 hP
 dsimp only;refine B.C.pub_by (ρ':=[.d<|aR s,.d<|.int n,.ow [],.d<|aS<|(List.range n).map<|bW n,.d<|iH<|hZ s n 0<|(List.range n).map<|bW n,.un,.un]) rfl ?_;refine bU ?_;simp only[bA];refine⟨λm ρ=>∃f R s5 s6 k,m=R.length/\Sg s n f R/\R.length<=k/\tI s n k f R=gh s n/\ρ=[.d<|aR s,.d<|.int n,.ow<|f.map aF,.d<|aS R,.d<|iH<|hZ s n 0 R,s5,s6],⟨_,[],_,.un,.un,n,rfl,g0,by simp,rfl,rfl⟩,?_⟩;rintro m _ ⟨f,R,s5,s6,k,rfl,g,hkR,hap,rfl⟩;have gl:=g.len;cases el:hZ s n 0 R with
 |none=>
  rw[show iH (none:Option (Nat×List Rat))=.non from rfl];refine Gh (b:=false) (λP hP=>⟨rfl,hP⟩) ?_;rw[ks<|by decide];have efin:f++R=gh s n:=by
   rw[<-hap];cases k with
   |zero=>rfl
   |succ k=>rw[tI,el]
  dsimp only;refine B.C.pub_by (ρ':=[.d<|aR s,.d<|.int n,.d<|.lst<|f.map aF,.d<|aS R,.d .non,s5,s6]) rfl ?_;refine B.C.pub_by (ρ':=[.d<|aR s,.d<|.int n,.d<|.lst<|f.map aF,.d<|.lst<|R.map aF,.d .non,s5,s6]) rfl ?_;walk_at "s";refine⟨du (by simp;omega),?_⟩;rw[<-jz,efin];exact q
 |some al=>
  obtain⟨a,l⟩:=al;have d:=g.ld el;have ha:=d.at_;have hl:=d.lf h g;rw[show iH (some (a,l))=.tup [.int (a:Int),aF l] from rfl];refine Gh (b:=true) (λP hP=>⟨rfl,hP⟩) ?_;rw[oI rfl];refine bU<|zP (x:=.int (a:Int)) (y:=aF l) (nm_at rfl) (ρ':=[.d<|aR s,.d<|.int n,.ow<|f.map aF,.d<|aS R,.d<|.tup [.int (a:Int),aF l],.d<|.int (a:Int),.d<|aF l]) rfl ?_;dsimp only;refine bU<|wJ (xs:=f.map aF) (d:=aF l) (ρ':=[.d<|aR s,.d<|.int n,.ow<|(f++[l]).map aF,.d<|aS R,.d<|.tup [.int (a:Int),aF l],.d<|.int (a:Int),.d<|aF l]) rfl (da (show _<2000 by rw[bG];omega)<|by decide) (by rw[jz];rfl) (nm_at rfl) ?_;dsimp only;refine B.C.pub_by (ρ':=[.d<|aR s,.d<|.int n,.ow<|(f++[l]).map aF,.d<|.lst<|R.map aF,.d<|.tup [.int (a:Int),aF l],.d<|.int (a:Int),.d<|aF l]) rfl ?_;refine bU<|B.C.own_by (xs:=((R.take a++R.drop (a+1)).map<|iG s n l).map aF) (ρ':=[.d<|aR s,.d<|.int n,.ow<|(f++[l]).map aF,.ow<|((R.take a++R.drop (a+1)).map<|iG s n l).map aF,.d<|.tup [.int (a:Int),aF l],.d<|.int (a:Int),.d<|aF l]) rfl (λP hP=>?_) ?_
  .walk_at "s"
   rw[rf (b:=a) rfl,show((a:Int)+1)=((a+1:Nat):Int) by omega,wk (by rw[bG];omega),<-nX,<-qE];refine⟨du (by simp;omega),?_⟩;rw[<-jz];refine jW (g:=aF) (f:=λr=>aF<|iG s n l r) (R.take a++R.drop (a+1)) (λr hr P hP=>?_) .un [] (du (by simp;omega)) ?_
   .walk_at "s"
    exact Le h ev' (g.rows h r<|jY hr) hl d.nz hP
   .rw[dC,cY] at *
    exact hP
  dsimp only;have g':=g.step h ev' d;refine B.C.pub_by (ρ':=[.d<|aR s,.d<|.int n,.ow<|(f++[l]).map aF,.d<|aS<|(R.take a++R.drop (a+1)).map<|iG s n l,.d<|.tup [.int (a:Int),aF l],.d<|.int (a:Int),.d<|aF l]) rfl ?_;refine hV (d:=iH<|hZ s n 0<|(R.take a++R.drop (a+1)).map<|iG s n l) (ρ':=[.d<|aR s,.d<|.int n,.ow<|(f++[l]).map aF,.d<|aS<|(R.take a++R.drop (a+1)).map<|iG s n l,.d<|iH<|hZ s n 0<|(R.take a++R.drop (a+1)).map<|iG s n l,.d<|.int (a:Int),.d<|aF l]) rfl (λP hP=>?_) ?_
  .walk_at "s"
   exact F6 h ev' g' hP
  have len':((R.take a++R.drop (a+1)).map<|iG s n l).length=R.length-1:=by rw[bG,dG,jL,kR];omega
  refine⟨_,?_,f++[l],_,_,_,k-1,rfl,g',by rw[len'];omega,?_,rfl⟩
  .rw[len'];omega
  .rw[<-hap]
   cases k with
   |zero=>omega
   |succ k=>rw[tI,el];rfl
theorem Zeg:(q.num>0↔0<q)/\(q.num<0↔q<0):=by
 have h1:=Rat.num_nonneg (q:=q);have h2:=Ycx (q:=q);constructor;constructor;intro h;have a:=h1.mp (by omega);have:q≠0:=λz=>by have:=h2.mpr z;omega
 grind;intro h;have a:=h1.mpr (by grind);have:q.num≠0:=λz=>by have:=h2.mp z;grind
 omega;constructor;intro h;have:¬0<=q:=λz=>by have:=h1.mpr z;omega
 grind;intro h;have:¬0<=q.num:=λz=>by have:=h1.mp z;grind
 omega
def rm(s:List Int)(n:Nat):List (List Rat)->List Bool
 |[]=>[]|r::R=>(R.map λo=>decide (bF s n r o=0))++rm s n R
theorem Gi{s:List Int}{n:Nat}:∀R:List (List Rat),(rm s n R).all id=decide (R.Pairwise λu v=>bF s n u v=0)
 |[]=>by simp[rm]|r::R=>by rw[rm,List.all_append,Gi R,gM];simp
theorem Gj{a b:SV}{tail:bZ}{we:WE}{f:List Rat->D}:∀(L:List (List Rat)) (sv:SV) (acc:List D) (Q:bZ->List D->Prop),(∀o∈L,∀P:D->Prop,P (f o)->we No (a::b::.d (aF o)::tail) P)->acc.length+L.length<=small->(∀sv,Q (a::b::sv::tail)<|acc++L.map f)->lcV (gN 2) cE we (L.map aF) (a::b::sv::tail) acc Q
 |[],sv,acc,Q,_,_,hq=>by have:=hq sv;rw[gX,pP]at this;exact this|o::L,sv,acc,Q,h,hl,hq=>by rw[cR,lcV];simp only[gN,eY,eX,cE];rw[oI trivial];simp only[d8]at hl;refine h o (by simp) _ ⟨by omega,Gj L _ _ Q (λo' ho'=>h o'<|by simp[ho']) (by simp;omega) λsv=>?_⟩;have:=hq sv;rw[cR]at this;rw[lx];exact this
theorem Gk{s:List Int}{n:Nat}{P:List (List Rat)}{Q:List D->Prop}(p:Pq0 s n P):∀(R:List (List Rat)) (k:Nat) (s0 s1 s2:SV) (acc:List D),P.drop k=R->k+R.length=P.length->acc.length+R.length*R.length<=100->Q (acc++(rm s n R).map D.bl)->lcW2 (dw 2<|cB (gN 0)<|cB (gN 1) dj) cE (iS<|bO (wN 4) (dv<|w2 gAdd (wN 0)<|wC<|.int<|1) dY) (gN 2) cE (w2 (gEq false) (wF nJ<|aC (wN 3)<|aC (wN 1)<|aC (wN 2) aA)<|wC<|D.tup [(D.int<|0),(D.int<|1)]) (eT k<|R.map aF) [s0,s1,s2,.d<|aR s,.d<|aS P] acc Q
 |[],k,s0,s1,s2,acc,_,_,_,hq=>by rw[gX,eT,lcW2];rw[rm,gX,pP]at hq;exact hq
 |r::R,k,s0,s1,s2,acc,hd,hk,ha,hq=>by
  rw[cR,eT,lcW2];refine⟨rfl,?_⟩;simp only[cB,dj,gN,eY,eX,cE];rw[oI trivial];have n5:=p.sl.n5;have pl:=p.len;simp only[d8]at hk ha;have hr:r∈P:=mD (i:=k) (by rw[hd];simp);have hR:∀o∈R,o∈P:=λo ho=>mD (i:=k) (by rw[hd];simp[ho]);have tl:P.drop (k+1)=R:=by rw[<-List.drop_drop,hd];rfl
  have up:∀o∈P,∀x∈o,Sz 170 x:=λo ho x hx=>((p.lf o ho).sz x hx).mono (by decide);unfold aS;walk_at "s";rw[show(k:Int)+1=((k+1:Nat):Int) by omega,wk (by rw[bG];omega),<-qE,tl];rw[nQ,Nat.mul_succ]at ha;refine Gj (f:=λo=>.bl<|decide (bF s n r o=0)) R _ _ _ (λo ho P' hP=>?_) (du<|by omega) λsv=>?_;walk_at "s";exact zO p.sl p.ev (p.lf r hr).len (p.lf o<|hR o ho).len (up r hr) (up o<|hR o ho)<|Ge hP
  refine Gk p R (k+1) _ _ _ _ tl (by omega) (by rw[dG,bG];omega) ?_;rw[rm,jz,cY]at hq;rw[lx];exact hq
theorem Lo:Rd zN CJ Zhz:=by rintro _ E Q ⟨⟨⟨s,n⟩,P⟩,rfl,p,q⟩;dsimp only at p q;show CJ E _ [.d<|aR s,.d<|aS P];unfold CJ;have n5:=p.sl.n5;have pl:=p.len;show lcW2 _ _ _ _ _ _ (eT 0<|P.map aF) [.un,.un,.un,.d<|aR s,.d<|aS P] [] _;refine Gk p P 0 _ _ _ [] (by simp) (by simp) ?_ ?_;rw[pl];have:n*n<=5*5:=l6 n5 n5;simp;omega;refine⟨rm s n P,rfl,?_⟩;rw[Gi];exact q
theorem Lp:Rd wY Gc Zgb:=by rintro _ E Q ⟨x,rfl,hk,q⟩;unfold Gc;walk_at "s";exact⟨x,rfl,hk,q⟩
section
theorem Gm(hl:P.length=n)(f:List Rat->Bool):(P.filter f).length=eC n λa=>f (P.getD a []):=by
 have e:P=(List.range n).map λa=>P.getD a []:=by
  refine qC λi=>?_;rw[cH];rcases fS i n with hi|hi
  rw[jM hi,bJ<|by omega];show _=some (P.getD i []);rw[bN,bJ<|by omega];rfl;rw[eD<|by omega,eD (by rw[ke];exact hi)];rfl
 unfold eC;conv=>lhs;rw[e]
 rw[List.filter_map,bG];rfl
theorem Gn{p q:Nat->Bool}(h:∀a,a<n->p a=q a):eC n p=eC n q:=by unfold eC;rw[List.filter_congr λa ha=>h a<|Yah.mp ha]
theorem Lq(h:IsSl s n)(hl:P.length=n)(hw:∀r∈P,r.length=n):iI s n P=eC n (eV (Pj.cA<|sA s n) n 1<|pU P):=by unfold iI;rw[Gm hl];refine Gn λa ha=>?_;have w:=hw _<|jv (R:=P) (a:=a) (by omega);unfold eV pU;rw[ms h w w,tU]
theorem Lr(h:IsSl s n)(hl:P.length=n)(hw:∀r∈P,r.length=n):j7 s n P=eC n (eV (Pj.cA<|sA s n) n (-1)<|pU P):=by unfold j7;rw[Gm hl];refine Gn λa ha=>?_;have w:=hw _<|jv (R:=P) (a:=a) (by omega);unfold eV pU;rw[ms h w w,gM,Nf,Nf];constructor<;>intro z<;>grind
theorem Go(hR:∀r∈P,r.length=n)(fu:∀x:List Rat,x.length=n->(∀r∈P,cI r x=0)->∀k,k<n->x.getD k 0=0):(cQ P n).ld.length=n:=by
 have ec:=zE hR n<|cF _;have:∀q,q<n->q∈(cQ P n).pl:=λq hq=>Classical.byContradiction λhn=>by obtain⟨l,f0⟩:=ec.free hq hn;have:=fu _ l f0 q hq;rw[Cp _ _ _ (by rw[lT];exact ec.lt) hn,pK hq,oI rfl]at this;exact Nd this (by decide)
 have e:(cQ P n).pl=List.range n:=Cq ec.asc (FI n) λx=>⟨λhx=>Yah.mpr<|ec.lt x hx,λhx=>this x<|Yah.mp hx⟩;rw[ec.ll,e,ke]
end
abbrev WM:=(Ex->Prop)->bZ->(List (List D)->Prop)->Prop
def w4(K:Nb)(W:Wd)(H:Hp)(Q:VK)(rs:List (List D)):Prop:=∀a bs W' H',Ext W H W' H'->OwnT K H W' H' a bs rs->Q (.ref a) H'
structure Gp(X:Cx)(EX:XK)(e:Expr)(w:WM):Prop where
 t:∃t,PE X e t/\∀W0 H0 W σ H ρ E Q,SOk X.K W0 H0 W σ H ρ->jn X.K W0 H0 E EX->w E ρ (w4 X.K W H Q)->t σ H Q
 mono:∀E ρ P P',(∀d,P d->P' d)->w E ρ P->w E ρ P'
def OwnT.base{W:Wd}{bs:List Addr}(o:OwnT K H1 W2 H2 a bs xss)(x:Ext W H W1 H1):OwnT K H W2 H2 a bs xss:=
 ⟨o.a1,o.a2,o.a3,x.none o.a4,o.nd,o.len,λi b e=>let⟨xs,e1,vs,q1,q2,q3,q4,q5⟩:=o.row i b e;⟨xs,e1,vs,q1,q2,q3,x.none q4,q5⟩⟩
def lcM(g:WG)(wf:WT)(we:WA):List D->bZ->List (List D)->(List (List D)->Prop)->Prop
 |[],_,acc,Q=>Q acc|d::ds,ρ,acc,Q=>g d ρ λρ2=>wf No ρ2 λb=>if b=true then we No ρ2 λy=>acc.length<small/\lcM g wf we ds ρ2 (acc++[y]) Q else lcM g wf we ds ρ2 acc Q
def w6(wi:WA)(nv:Nat)(sel:List Nat)(g:WG)(wf:WT)(we:WA):WM:=λE ρ Q=>wi E ρ λds=>lcM g wf we ds (ZbC nv sel ρ) [] Q
section
variable{c:Expr}{we:WA}
theorem lcM.mono(hg:∀d ρ P P',(∀r,P r->P' r)->g d ρ P->g d ρ P')(hf:∀E ρ P P',(∀d,P d->P' d)->wf E ρ P->wf E ρ P')(he:∀E ρ P P',(∀d,P d->P' d)->we E ρ P->we E ρ P') :
  ∀ds ρ acc P P',(∀xs,P xs->P' xs)->lcM g wf we ds ρ acc P->lcM g wf we ds ρ acc P'
 |[],_,acc,P,P',hp,h=>hp _ h
 | d::ds,ρ,acc,P,P',hp,h=>hg _ _ _ _ (λr hr=>hf _ _ _ _ (λb hb=>by
   cases b with
   |true=>rw[oI rfl]at hb ⊢;exact he _ _ _ _ (λy hy=>⟨hy.1,lcM.mono hg hf he ds r _ P P' hp hy.2⟩) hb
   |false=>rw[ks<|by decide]at hb ⊢;exact lcM.mono hg hf he ds r _ P P' hp hb) hr) h
theorem Ls(vars:List Str)(sel:List Nat)(hc:X.calm=true)(hi:kG X EX target iter wi)(hg:∀s H fp,lP (X.lc sc vars sel s H fp) target g)(hf:∀s H fp,n4 (X.lc sc vars sel s H fp) E0 ifs wf)(he:∀s H fp,PXL (X.lc sc vars sel s H fp) E0 elt we)
  (ok:jC sc X.env.scope=true:=by rfl) (so:l8 X.N sc sel=true:=by rfl) (hs:∀x,foldedSetIterable iter X.env x=pure x:=by intro _;rfl):Gp X EX (.ListComp elt [⟨target,iter,ifs,0⟩] sc pos) (w6 wi vars.length sel g wf we):=by
 have gm:=(hg {} (λ_=>none) []).mono;have go:=(hg {} (λ_=>none) []).own;have fm:=(hf {} (λ_=>none) []).mono;have em:=(he {} (λ_=>none) []).mono;obtain⟨ti,pi,ki⟩:=hi.t;refine ⟨⟨_,DC vars sel hc pi ok so (g:=λv σ H Q=>∃ W0 H0 W ρ d,SOk X.K W0 H0 W σ H ρ/\Rep X.K W v d/\g d ρ (λρ'=>∀ σ',SOk X.K W0 H0 W σ' H ρ'->Q σ' H))
  (tf:=λσ H Q=>∃W0 H0 W ρ,SOk X.K W0 H0 W σ H ρ/\wf No ρ (λb=>∀W' H',Ext W H W' H'->Q b H'))
  (te:=λσ H Q=>∃W0 H0 W ρ,SOk X.K W0 H0 W σ H ρ/\we No ρ (Cy X.K W H Q)) (λs1 H1 fp=>?_) (λs1 H1 fp=>?_) (λs1 H1 fp=>?_) hs,?_⟩,λE ρ P P' hp h=>hi.mono _ _ _ _ (λds hds=>lcM.mono gm fm em ds _ _ _ _ hp hds) h⟩
 .obtain⟨t,q,k⟩:=(hg s1 H1 fp).t
  rintro sa s σ H v u Q I r ⟨W0,H0,W,ρ,d,s',r',h⟩;exact q sa s σ H v u Q I r<|k W0 H0 W σ H ρ d v Q s' r' h
 .obtain⟨t,q,k⟩:=(hf s1 H1 fp).t
  rintro sa s σ H Q I ⟨W0,H0,W,ρ,s',h⟩;exact q sa s σ H Q I<|k W0 H0 W σ H ρ No Q s' (λ_ _ _ _ _ z=>z.elim) h
 .obtain⟨t,q,k⟩:=(he s1 H1 fp).t
  rintro sa s σ H Q I ⟨W0,H0,W,ρ,s',h⟩;exact q sa s σ H Q I<|k W0 H0 W σ H ρ No Q s' (λ_ _ _ _ _ z=>z.elim) h
 .intro W0 H0 W σ H ρ E Q s eo h
  refine ki W0 H0 W σ H ρ E _ s eo<|hi.mono _ _ _ _ (λds hds W1 H1 J x1 it D hD=>?_) h;have hDf:=x1.ok.fresh hD;have hD0:H0 D=none:=s.ext.isN<|x1.isN hD;refine ⟨λi m ys σ2 H2=>m=ds.length - i/\i<=ds.length/\∃ W2 ρ2 acc bs,Ext W1 H1 W2 H2/\SOk X.K W0 H0 W2 σ2 H2 ρ2/\ZfN ρ2/\ys=bs.map V.ref/\OwnT X.K H1 W2 H2 D bs acc/\
   lcM g wf we (ds.drop i) ρ2 acc (w4 X.K W H Q),⟨_,rfl,iq _,W1,_,[],[],.new x1.ok hD,?_,ZbC.own _ _ ρ,rfl,⟨aO,hDf.1,hDf.2,hD,by simp,rfl,λi b e=>by simp at e⟩,by rw[pQ];exact hds⟩,?_⟩
  .exact(((s.step x1).step<|.new x1.ok hD).lc vars.length sel)
  .rintro i m ys σ2 H2 ⟨rfl,hi',W2,ρ2,acc,bs,x2,s2,no2,rfl,o2,q2⟩
   refine⟨o2.a1,?_⟩;obtain⟨itg,its⟩:=it W2 H2 i x2.g x2.p x2.ok;rcases fS i ds.length with hlt|hge
   .have hd:ds[i]? = some ds[i]:=bJ hlt
    obtain⟨go',yl⟩:=itg _ hd;refine .inr ⟨go',λx H3 y=>?_⟩;obtain⟨W3,x3,r3⟩:=yl x H3 y;rw[nU hlt]at q2;refine⟨W0,H0,W3,ρ2,ds[i],s2.step x3,r3,gm _ _ _ _ (λρ4 hr σ4 s4=>?_)<|go _ _ _ no2 q2⟩;obtain⟨no4,hr⟩:=hr;refine⟨W0,H0,W3,ρ4,s4,fm _ _ _ _ (λb hb W5 H5 x5=>?_) hr⟩;have o5:=o2.step<|x3.trans x5;cases b with
    |false=>
     dsimp only;rw[ks<|by decide]at hb ⊢;exact⟨ds.length-(i+1),by omega,rfl,hlt,W5,ρ4,acc,bs,x2.trans<|x3.trans x5,s4.step x5,no4,rfl,o5,hb⟩
    |true=>
     dsimp only;rw[oI rfl]at hb ⊢;refine⟨W0,H0,W5,ρ4,s4.step x5,em _ _ _ _ (λy hy a' vs W6 H6 x6 e1 e2 e3 e4 r6=>?_) hb⟩;have xx:=x3.trans<|x5.trans x6;have o6:=o5.step x6;have hl:(bs.map V.ref).length=acc.length:=by rw[bG,o2.len]
     have na:a'∉D::bs:=o5.here e4;have aD:a'≠D:=λz=>na (by rw[z];simp);refine⟨o6.a1,by rw[hl];exact da hy.1<|ma<|cF _,ds.length-(i+1),by omega,rfl,hlt,W6,ρ4,acc++[y],bs++[a'],(x2.trans xx).chg hD o6.a1 o6.a3 o6.a2,?_,no4,by simp,⟨by rw[aO,jz];rfl,o6.a2,o6.a3,o6.a4,?_,by rw[dG,dG,o6.len];rfl,λk b eb=>?_⟩,hy.2⟩
     .exact((s4.step x5).step x6).chgD no4 hD0 o6.a1 o6.a3 o6.a2
     .have nd:=o6.nd
      rw[<-i6,List.nodup_append];exact⟨nd,by simp,λp hp q hq e=>by rw[Ycw.mp hq]at e;rw[e]at hp;exact na hp⟩
     .rcases fS k bs.length with hk|hk
      .rw[kQ hk]at eb
       obtain⟨xs,f1,us,f2,f3⟩:=o6.row k b eb;have hb:b≠D:=λz=>by
        have nd:=(YaF.mp o6.nd).1;exact nd (by rw[<-z];exact jy eb)
       exact⟨xs,by rw[kQ (by rw[<-o6.len];exact hk)];exact f1,us,by rw[aI hb];exact f2,f3⟩
      .have hk2:k=bs.length:=by
        have:=(Yaq.mp eb).1;simp at this;omega
       subst hk2;rw[jZ<|cF _,rK]at eb;cases eb;refine⟨y,by rw[o6.len,jZ<|cF _,rK];rfl,vs,by rw[aI aD];exact e1,e2,e3,?_,r6⟩;exact(x2.trans<|x3.trans x5).none e4
   .refine .inl ⟨its hge,?_⟩
    rw[tO hge]at q2;exact q2 D bs W2 H2 (x1.trans x2)<|o2.base x1
end
abbrev Gq:=List D->(Ex->Prop)->(List (List D)->Prop)->Prop
abbrev Lu:=(Ex->Prop)->(List (List D)->Prop)->bZ->Prop
def w8:SV->Bool
 |.oo _=>true|_=>false
def CK(i:Nat)(ρ:bZ):Bool:=(ρ.set i .un).all λs=>!w8 s
def rows(i:Nat)(ρ:bZ):bZ:=match ρ[i]? with
 |some (.oo xss)=>ρ.set i<|.ow (xss.map .lst)
 |_=>ρ
section
variable{W:Wd}{bs:List Addr}
theorem Gr(h:CK i ρ=true)(j:Nat)(yss:List (List D))(hj:i≠j):ρ[j]?≠some (SV.oo yss):=λe=>by have:=Ybd.mp h (.oo yss)<|jy (i:=j) (by rw[cO hj];exact e);simp[w8]at this
theorem uD{y z:SV}(e:(ρ.set i y)[j]? = some z)(h:z≠y):i≠j/\ρ[j]? = some z:=by by_cases hj:i=j;subst hj;by_cases hi:i<ρ.length;rw[dq hi]at e;cases e;exact Nd rfl h;rw[eD (by rw[cU];omega)]at e;cases e;rw[cO hj]at e;exact⟨hj,e⟩
theorem OwnT.new(o:OwnT K H0 W H a bs xss):∀c∈a::bs,H0 c=none:=λc hc=>by
 rcases Yan.mp hc with rfl|hc
 exact o.a4;obtain⟨i,hi,rfl⟩:=Ybv.mp hc;obtain⟨xs,_,vs,_,_,_,e,_⟩:=o.row i _<|bJ hi;exact e
theorem SOk.ownT(s1:SOk K W0 H0 W1 σ H1 ρ)(x:Ext W1 H1 W H)(o:OwnT K H1 W H a bs xss)(hn:CK i ρ=true):SOk K W0 H0 W (σ.set i<|some<|.ref a) H (ρ.set i<|.oo xss):=by
 have s:=s1.step x;have out:∀{j:Nat} {z:SV},(ρ.set i<|.oo xss)[j]? = some z->z≠.oo xss->i≠j/\ρ[j]? = some z:=λe h=>uD e h;refine⟨s.ext,by rw[cU,cU];exact s.len,λj y e=>?_,λj ys e=>?_,λj k xs ys b hjk e1 e2 e3=>?_,⟨λj yss e=>?_,λj k yss zss e1 e2=>?_⟩⟩;obtain⟨h,e⟩:=out e (by simp);rw[cO h];exact s.d j y e;obtain⟨h,e⟩:=out e (by simp);rw[cO h];exact s.o j ys e;obtain⟨h,e1⟩:=out e1 (by simp);obtain⟨h',e2⟩:=out e2 (by simp);rw[cO h]at e3;rw[cO h'];exact s.ne j k xs ys b hjk e1 e2 e3;by_cases h:i=j;subst h;have hi:i<ρ.length:=by
  rcases fS i ρ.length with h|h
  exact h;rw[eD (by rw[cU];omega)]at e;cases e
 rw[dq hi]at e;cases e;refine⟨a,bs,dq (by rw[<-s.len];exact hi),o.base s1.ext,λk ys c ek ec=>?_⟩;obtain⟨hk,ek⟩:=out ek (by simp);rw[cO hk]at ec;obtain⟨c',us,q1,q2,_⟩:=s1.o k ys ek;rw[ec]at q1;cases q1;intro hc;rw[o.new c hc]at q2;cases q2;rw[cO h]at e;exact Nd e<|Gr hn j yss h
 have key:∀{j:Nat} {yss:List (List D)},(ρ.set i<|.oo xss)[j]? = some (SV.oo yss)->i=j:=λ{j yss} e=>by by_cases h:i=j;exact h;rw[cO h]at e;exact Nd e<|Gr hn j yss h
 rw[<-key e1,<-key e2]
theorem Gu(W':Wd)(hb:∀b∈bs,W'.G b=H b)(hg:∀c o,W.G c=some o->W'.G c=some o)(hp:∀c,W.Pn c->W'.Pn c):∀{bs':List Addr} {xss:List (List D)},(∀b∈bs',b∈bs)->bs'.length=xss.length->(∀(i:Nat) b,bs'[i]? = some b->∃xs,xss[i]? = some xs/\Own1 K H0 W H b xs)->Reps K W' (bs'.map V.ref) (xss.map .lst)
 |[],[],_,_,_=>.nil|b::bs',xs::xss,hm,hl,h=>by obtain⟨ys,e,vs,e1,_,_,_,r⟩:=h 0 b rfl;simp at e;subst e;refine .cons (.lst ((hb b<|hm b<|by simp).trans e1)<|r.mono hg hp)<|Gu W' hb hg hp (λc hc=>hm c<|by simp[hc]) (by simpa using hl) λi c ec=>?_;obtain⟨zs,f1,f2⟩:=h (i+1) c (by simpa using ec);exact⟨zs,by simpa using f1,f2⟩
 |[],_::_,_,hl,_=>by simp at hl|_::_,[],_,hl,_=>by simp at hl
def bT(i:Nat)(ρ:bZ):bZ:=pub i<|rows i ρ
theorem SOk.chgRow(s:SOk K W0 H0 W σ H ρ){r:Nat}{b:Addr}(e:ρ[i]? = some (.oo xss))(e1:σ[i]? = some (some<|.ref a))(o:OwnT K H0 W H a bs xss)(n:∀(j:Nat) ys c,ρ[j]? = some (SV.ow ys)->σ[j]? = some (some<|V.ref c)->c∉a::bs)
  (hb:bs[r]? = some b) (ru:Reps K W us ys):SOk K W0 H0 W σ (upd H b<|.lst us) (ρ.set i<|.oo<|xss.set r ys):=by
 have hi:i<ρ.length:=(Yaq.mp e).1;obtain⟨xs,ex,vs,q1,q2,q3,q4,q5⟩:=o.row r b hb;have nd:=YaF.mp o.nd;have mb:b∈bs:=jy hb;have out:∀{j:Nat} {z:SV},(ρ.set i<|.oo<|xss.set r ys)[j]? = some z->(∀yss,z≠.oo yss)->i≠j/\ρ[j]? = some z:=λe h=>uD e<|h _;refine⟨s.ext.chg q4 q1 q3 q2,by rw[cU];exact s.len,λj y ej=>?_,λj zs ej=>?_,λj k xs ys b hjk ej ek e3=>?_,⟨λj yss ej=>?_,λj k yss zss ej ek=>?_⟩⟩
 .exact s.d j y (out ej<|by simp).2
 .have ej:=(out ej<|by simp).2
  obtain⟨c,ws,p1,p2,p3⟩:=s.o j zs ej;have hc:c≠b:=λz=>n j zs c ej p1 (by rw[z];exact ip _ mb);exact⟨c,ws,p1,by rw[aI hc];exact p2,p3⟩
 .exact s.ne j k xs ys b hjk (out ej<|by simp).2 (out ek<|by simp).2 e3
 .have h:i=j:=by
   by_cases h:i=j
   .exact h
   .rw[cO h]at ej;exact s.oo.u i j _ _ e ej
  subst h;rw[dq hi]at ej;cases ej;have ab:a≠b:=λz=>nd.1 (by rw[z];exact mb);refine⟨a,bs,e1,⟨by rw[aI ab];exact o.a1,o.a2,o.a3,o.a4,o.nd,by rw[cU];exact o.len,λk c ec=>?_⟩,λj zs c ej ec=>n j zs c (out ej<|by simp).2 ec⟩
  by_cases hk:r=k
  .subst hk
   rw[hb]at ec;cases ec;exact⟨ys,dq (by rw[<-o.len];exact(Yaq.mp hb).1),us,aO,q2,q3,q4,ru⟩
  .have hc:c≠b:=λz=>hk (by
    rw[z]at ec;exact(List.getElem?_inj (Yaq.mp hb).1 nd.2).mp<|hb.trans ec.symm)
   obtain⟨zs,p1,ws,p2,p3⟩:=o.row k c ec;exact⟨zs,by rw[cO hk];exact p1,ws,by rw[aI hc];exact p2,p3⟩
 .have key:∀{j:Nat} {yss:List (List D)},(ρ.set i<|.oo<|xss.set r ys)[j]? = some (SV.oo yss)->i=j:=λ{j yss} ej=>by
   by_cases h:i=j
   .exact h
   .rw[cO h]at ej;exact s.oo.u i j _ _ e ej
  rw[<-key ej,<-key ek]
end
section
variable{jx:Expr}{w1 w2:WE}{z:WS}
def CL(i:Nat)(w:WM):WS:=λE N ρ=>w E ρ λxss=>CK i ρ=true/\N.nx (ρ.set i<|.oo xss)
theorem xa(i:Nat){w:WM}(he:Gp X EX e w)(hN:X.N.Nodup)(hi:X.N[i]? = some x:=by rfl)(hx:kf X.env.scope x:=by first|exact Or.inl rfl|exact Or.inr rfl)(hs:swapsWith e (some<|.Name x pos') pos.line X.env=pure false:=by rfl)
  (hf:X.fn x=true\/X.env.scope.names.lookup x=some .local:=by first|exact .inl rfl|exact .inr rfl|assumption):PZ X EX (.Assign [.Name x pos'] e pos) (CL i w):=by
 obtain⟨t,p,k⟩:=he.t;refine⟨⟨_,jc hN hi hx p hs hf,λW0 H0 F W σ H ρ E Dn N s fl eo no h=>?_⟩,λE ρ N N' hl q=>he.mono _ _ _ _ (λ_ z=>⟨z.1,hl.nx _ z.2⟩) q⟩;exact k W0 H0 W σ H ρ E _ s eo<|he.mono _ _ _ _ (λxss hd a bs W1 H1 x1 o=>no.nx W1 _ H1 _ (s.ownT x1 o hd.1) (fl.ext x1) hd.2) h
end
def Reps.erase{K:Nb}{W:Wd}:∀{vs:List V} {ds:List D} (i:Nat),Reps K W vs ds->Reps K W (vs.eraseIdx i) (ds.eraseIdx i)
 |_,_,_,.nil=>.nil|_,_,0,.cons _ t=>t|_,_,i+1,.cons q t=>.cons q<|Reps.erase i t
section
def CM:WS:=λ_ N ρ=>N.bk ρ
def Lv:PZ X EX (.Break pos) CM:=⟨⟨_,mH,λW0 H0 F W σ H ρ E Dn N s fl eo no h=>no.bk W σ H ρ s fl h⟩,λE ρ N N' hl q=>hl.bk _ q⟩
def kM(i:Nat)(w:WE):WS:=λE N ρ=>match ρ[i]? with|some (.ow xs)=>w E ρ (isI λb=>∃(bs:List Int) (k:Nat),xs=bs.map .int/\bs[k]? = some b/\(∀j,j<k->bs[j]?≠some b)/\N.nx (ρ.set i<|.ow<|(bs.eraseIdx k).map .int))|_=>False
theorem Lw(i:Nat)(he:PX X EX e w)(hN:X.N[i]? = some x:=by rfl)(hv:kU X.env.scope x:=by first|exact Or.inl rfl|exact Or.inr (Or.inl rfl)|exact Or.inr<|Or.inr rfl)(hd:(x==("__debug__" : Str))=false:=by decide)
  (hcd:(x==("__classdict__" : Str))=false:=by decide) (hbase:attributeBase (.Name x p) "remove" X.env (eval (.Name x p) X.env)=eval (.Name x p) X.env:=by rfl)
  (hfew:((backTo cpos<|starEach [e] X.env).all (λx=>!x.1)&&(backToKw cpos<|keywordEach [] X.env).all (λx=>x.1.isSome)&&decide ([e].length+([]:List Keyword).length+(if([]:List Keyword).isEmpty then 0 else 1)<30))=true:=by rfl)
  (hline:(apos.endLine==cpos.line)=true:=by rfl) (hs:starEach [e] X.env=(false,eval e X.env)::starEach [] X.env:=by rfl) (hplain:(backTo cpos<|starEach [] X.env).any (·.1)=false:=by rfl)
  (hsw:swapsWith (.Call (.Attribute (.Name x p) "remove" apos) [e] [] cpos) none pos.line X.env=pure false:=by rfl):PZ X EX (.Expr (.Call (.Attribute (.Name x p) "remove" apos) [e] [] cpos) pos) (kM i w):=by
 obtain⟨t,pe,k⟩:=he.t;refine⟨⟨_,ja (m7 PySem.F.plainAttrs_list PySem.F.slot_list_remove PySem.F.type_list_remove IC (dg hN hv hd hcd) (gO pe je hs) hbase hfew hline hs hplain) hsw,λW0 H0 F W σ H ρ E Dn N s fl eo no h=>?_⟩,λE ρ N N' hl q=>?_⟩
 .unfold kM at h
  split at h
  .rename_i xs ex
   obtain⟨a,vs,e1,e2,e3,e4,e5,r⟩:=s.o i xs ex;refine⟨_,e1,.inl ⟨rfl,vs,SqL.of e2⟩,?_⟩;refine k W0 H0 W σ H ρ E _ s eo<|he.mono _ _ _ _ (λd hd v W1 H1 x1 r1=>?_) h;obtain⟨b,rfl,bs,kk,rfl,hb,hno,hn⟩:=md hd;cases r1;have e2':=x1.h a _ e2 e4;have vin:∀{vs:List V} {bs:List Int},Reps X.K W vs (bs.map .int)->vs=bs.map V.int:=λ{vs bs} r=>by
    induction bs generalizing vs with
    |nil=>cases r;rfl
    |cons c bs ih=>cases r with|cons r1 r2=>cases r1;rw[ih r2];rfl
   have hvs:=vin r;refine⟨a,vs,b,kk,rfl,rfl,e2',λy hy=>?_,?_,λj hj z=>?_,?_⟩
   .rw[hvs]at hy
    obtain⟨c,_,rfl⟩:=YbQ.mp hy;exact⟨c,rfl⟩
   .rw[hvs,cH,hb];rfl
   .rw[hvs,cH]at z
    cases q:bs[j]? with
    |none=>rw[q]at z;cases z
    |some c=>rw[q]at z;cases z;exact hno j hj q
   .have rr:=(x1.reps r).erase kk
    have em:(bs.map D.int).eraseIdx kk=(bs.eraseIdx kk).map D.int:=by rw[Do,Do,jz,nX,qE]
    rw[em]at rr;exact no.nx W1 σ _ _ ((s.step x1).chg ex e1 rr) (fl.ext x1) hn
  .exact h.elim
 .unfold kM at q ⊢
  split at q
  .exact he.mono _ _ _ _ (isI.mono λb ⟨bs,kk,z1,z2,z3,z4⟩=>⟨bs,kk,z1,z2,z3,hl.nx _ z4⟩) q
  .exact q.elim
end
structure Lent(W W':Wd)(A:List Addr):Prop where
 p:W'.Pn=W.Pn
 g:∀c,c∉A->W'.G c=W.G c
 a:∀c,c∈A->W.G c=none/\∃us,W'.G c=some (.lst us)
theorem Lent.refl{W:Wd}:Lent W W []:=⟨rfl,λ_ _=>rfl,λ_ h=>by cases h⟩
def Wd.remL(W:Wd)(A:List Addr):Wd:=⟨λb=>if b∈A then none else W.G b,W.Pn⟩
section
variable{W:Wd}{bs A:List Addr}
theorem Wd.remL_ne{b:Addr}(h:b∉A):(W.remL A).G b=W.G b:=by unfold Wd.remL;dsimp only;rw[ks h]
theorem Wd.remL_in{b:Addr}(h:b∈A):(W.remL A).G b=none:=by unfold Wd.remL;dsimp only;rw[oI h]
mutual
theorem Rep.remL(h:∀a∈A,∃us,W.G a=some (.lst us)):∀{v:V} {d:D},Rep K W v d->ed d=true->Rep K (W.remL A) v d
 |_,_,.non,_=>.non|_,_,.bl b,_=>.bl b|_,_,.int i,_=>.int i|_,_,.str x,_=>.str x|_,_,.tup e r,f=>.tup (by rw[Wd.remL_ne (λz=>by obtain⟨us,q⟩:=h _ z;rw[q]at e;cases e)];exact e)<|Reps.remL h r (by rw[ed]at f;exact f)
 |_,_,.ktup e r,f=>.ktup e<|Reps.remL h r (by rw[ed]at f;exact f)
 |_,_,.lst e r,f=>by rw[ed]at f;cases f
 |_,_,.scr e r,f=>by rw[ed]at f;cases f
 |_,_,.dic e,f=>by rw[ed]at f;cases f
 |_,_,.pen e,_=>.pen e|_,_,.cls e,_=>.cls e|_,_,.exc e n x,_=>.exc (by rw[Wd.remL_ne (λz=>by obtain⟨us,q⟩:=h _ z;rw[q]at e;cases e)];exact e) n λc f k q=>let⟨d,e1,e2⟩:=x c f k q;⟨d,e1,by rw[Wd.remL_ne (λz=>by obtain⟨us,q⟩:=h _ z;rw[q]at e2;cases e2)];exact e2⟩
 |_,_,.ty n,_=>.ty n
theorem Reps.remL(h:∀a∈A,∃us,W.G a=some (.lst us)):∀{vs:List V} {ds:List D},Reps K W vs ds->jG ds=true->Reps K (W.remL A) vs ds
 |_,_,.nil,_=>.nil|_,_,.cons r t,f=>by rw[jG,dQ]at f;exact .cons (Rep.remL h r f.1)<|Reps.remL h t f.2
end
theorem Ext.borL(l:Lent W W1 A)(x:Ext W1 H W2 H2):Ext W H (W2.remL A) H2 where
 ok:=⟨λb o e=>by
   by_cases hb:b∈A
   .rw[Wd.remL_in hb]at e;cases e
   .rw[Wd.remL_ne hb]at e;exact x.ok.g b o e,
  λb hb=>⟨(x.ok.p b hb).1,by
   by_cases hba:b∈A
   .exact Wd.remL_in hba
   .rw[Wd.remL_ne hba];exact(x.ok.p b hb).2⟩⟩
 g:=λb o e=>by
  have hb:b∉A:=λz=>by rw[(l.a b z).1]at e;cases e
  rw[Wd.remL_ne hb];exact x.g b o (by rw[l.g b hb];exact e)
 p:=λb h=>x.p b (by rw[l.p];exact h)
 gf:=λb e n=>by by_cases hb:b∈A;exact Nd (Wd.remL_in hb) n;rw[Wd.remL_ne hb]at n;exact x.gf b (by rw[l.g b hb];exact e) n
 pf:=λb n h=>x.pf b (by rw[l.p];exact n) h
 h:=λb o e n=>x.h b o e (by rw[l.p];exact n)
def Lent.on(l:Lent W W1 A)(x:Ext W1 H W2 H2):∀a∈A,∃us,W2.G a=some (.lst us):=λa ha=>let⟨us,q⟩:=(l.a a ha).2;⟨us,x.g a _ q⟩
theorem SOk.rowsA(s:SOk K W0 H0 W σ H ρ)(i:Nat):∃W' A,SOk K W0 H0 W' σ H (LP.rows i ρ)/\Lent W W' A:=by
 unfold LP.rows;split;rename_i xss e;obtain⟨a,bs,e1,o,n⟩:=s.oo.t i xss e;have hi:i<ρ.length:=(Yaq.mp e).1;have own:∀b∈bs,∃xs,Own1 K H0 W H b xs:=λb hb=>by obtain⟨k,hk,rfl⟩:=Ybv.mp hb;obtain⟨xs,_,q⟩:=o.row k _<|bJ hk;exact⟨xs,q⟩
 let W':Wd:=⟨λc=>if c∈bs then H c else W.G c,W.Pn⟩;have g1:∀c,c∈bs->W'.G c=H c:=λc hc=>oI hc;have g2:∀c,c∉bs->W'.G c=W.G c:=λc hc=>ks hc;have gm:∀c u,W.G c=some u->W'.G c=some u:=λc u ec=>by rw[g2 c λhc=>by obtain⟨xs,vs,_,q,_⟩:=own c hc;rw[ec]at q;cases q];exact ec
 have na:a∉bs:=(YaF.mp o.nd).1;have x:Ext W0 H0 W' H:=by refine⟨⟨λc u ec=>?_,λc hc=>?_⟩,λc u ec=>gm c u<|s.ext.g c u ec,s.ext.p,λc ec hc=>?_,s.ext.pf,s.ext.h⟩;by_cases h:c∈bs;rw[g1 c h]at ec;exact ec;rw[g2 c h]at ec;exact s.ok.g c u ec;obtain⟨p1,p2⟩:=s.ok.p c hc;refine⟨p1,?_⟩;rw[g2 c λh=>by obtain⟨xs,vs,_,_,q,_⟩:=own c h;exact q hc];exact p2;by_cases h:c∈bs;obtain⟨xs,vs,_,_,_,q,_⟩:=own c h;exact q;rw[g2 c h]at hc;exact s.ext.gf c ec hc
 have out:∀{j:Nat} {z:SV},(ρ.set i<|.ow<|xss.map .lst)[j]? = some z->i≠j->ρ[j]? = some z:=λ{j z} ej h=>by rw[cO h]at ej;exact ej
 refine⟨W',bs,⟨x,by rw[cU];exact s.len,λj y ej=>?_,λj ys ej=>?_,λj k xs ys b hjk ej ek e3=>?_,.none λj yss ej=>?_⟩,⟨rfl,g2,λc hc=>by obtain⟨xs,vs,q1,q2,_⟩:=own c hc;exact⟨q2,vs,(g1 c hc).trans q1⟩⟩⟩;obtain⟨h,ej⟩:=uD ej (by simp);obtain⟨v,q1,q2⟩:=s.d j y ej;exact⟨v,q1,q2.mono gm λ_ z=>z⟩;by_cases h:i=j;subst h;rw[dq hi]at ej;cases ej;exact⟨a,_,e1,o.a1,(g2 a na).trans o.a2,o.a3,o.a4,Gu W' g1 gm (λ_ z=>z) (λ_ h=>h) o.len o.row⟩;have ej:=out ej h;obtain⟨c,us,q1,q2,q3,q4,q5,q6⟩:=s.o j ys ej;have:=n j ys c ej q1;exact⟨c,us,q1,q2,by rw[g2 c λz=>this<|ip _ z];exact q3,q4,q5,q6.mono gm λ_ z=>z⟩;by_cases h:i=j;subst h;have ek:=out ek hjk;rw[e1]at e3;cases e3;exact λz=>n k ys a ek z (by simp);have ej:=out ej h;by_cases h':i=k;subst h';rw[e1];intro z;cases z;exact n j xs a ej e3 (by simp);exact s.ne j k xs ys b hjk ej (out ek h') e3;obtain⟨h,ej⟩:=uD ej (by simp);exact h<|s.oo.u i j xss yss e ej
 exact⟨W,[],s,.refl⟩
theorem SOk.lendA(s:SOk K W0 H0 W σ H ρ)(i:Nat):∃W' A,SOk K W0 H0 W' σ H (bT i ρ)/\Lent W W' A:=by
 obtain⟨W1,A,s1,l1⟩:=s.rowsA i;rcases s1.lend i with e|⟨a,us,s2,g,h,g2⟩
 unfold bT;rw[e];exact⟨W1,A,s1,l1⟩;have na:a∉A:=λz=>by obtain⟨us,q⟩:=(l1.a a z).2;rw[g]at q;cases q
 have pn:∀c,c≠a->(W1.put a<|.lst us).G c=W1.G c:=λc hc=>by unfold Wd.put;dsimp only;rw[aI hc]
 refine⟨_,a::A,s2,l1.p,λc hc=>?_,λc hc=>?_⟩;rw[pn c λz=>hc<|by simp[z]];exact l1.g c λz=>hc (by simp[z]);rcases Yan.mp hc with rfl|hc
 exact⟨by rw[<-l1.g c na];exact g,us,g2⟩;rw[pn c λz=>na (by rw[<-z];exact hc)];exact l1.a c hc
end
section
def kN(i:Nat)(w:WE):WE:=λE ρ Q=>w E (bT i ρ) λd=>ed d=true/\Q d
theorem Gv(i:Nat)(he:PX X EX e w):PX X EX e (kN i w):=by obtain⟨t,q,k⟩:=he.t;refine⟨⟨t,q,λW0 H0 W σ H ρ E Q s eo h=>?_⟩,λE ρ P P' hp h=>he.mono _ _ _ _ (λd hd=>⟨hd.1,hp _ hd.2⟩) h⟩;obtain⟨W',A,s',l⟩:=s.lendA i;exact k W0 H0 W' σ H _ E Q s' eo<|he.mono _ _ _ _ (λd hd v W2 H2 x r=>hd.2 v _ H2 (x.borL l)<|r.remL (l.on x) hd.1) h
def fg(i:Nat)(t:WA):WA:=λE ρ Q=>t E (bT i ρ) λds=>jG ds=true/\Q ds
theorem CN(i:Nat)(he:PXL X EX e t):PXL X EX e (fg i t):=by
 obtain⟨t,q,k⟩:=he.t;refine⟨⟨t,q,λW0 H0 W σ H ρ E Q s eo h=>?_⟩,λE ρ P P' hp h=>he.mono _ _ _ _ (λd hd=>⟨hd.1,hp _ hd.2⟩) h⟩;obtain⟨W',A,s',l⟩:=s.lendA i;refine k W0 H0 W' σ H _ E Q s' eo<|he.mono _ _ _ _ (λd hd b vs W2 H2 x2 h1 h2 h3 h4 r2=>?_) h;have hb:b∉A:=λz=>by obtain⟨us,q⟩:=(l.a b z).2;have:=s'.ok.g b _ q;rw[h4]at this;cases this
 exact hd.2 b vs _ H2 (x2.borL l) h1 (by rw[Wd.remL_ne hb];exact h2) h3 h4<|r2.remL (l.on x2) hd.1
end
theorem Gw{α:Type}{b:α}:∀{l:List α} {r:Nat},l.Nodup->b∉l->(l.set r b).Nodup
 |[],_,_,_=>by simp|c::l,0,h,hb=>by rw[eX];exact YaF.mpr ⟨λz=>hb<|by simp[z],(YaF.mp h).2⟩
 |c::l,r+1,h,hb=>by
  obtain⟨h1,h2⟩:=YaF.mp h;rw[eY];refine YaF.mpr ⟨λz=>?_,Gw h2 λz=>hb<|by simp[z]⟩;rcases rH z with z|z
  exact h1 z;exact hb (by simp[z])
section
variable{W:Wd}{bs:List Addr}
theorem SOk.setRow(s:SOk K W0 H0 W σ H ρ){r:Nat}{b:Addr}(e:ρ[i]? = some (.oo xss))(e1:σ[i]? = some (some<|.ref a))(o:OwnT K H0 W H a bs xss)(n:∀(j:Nat) ys c,ρ[j]? = some (SV.ow ys)->σ[j]? = some (some<|V.ref c)->c∉a::bs)
  (hr:r<bs.length) (hb:H b=some (.lst us)) (gb:W.G b=none) (pb:¬W.Pn b) (h0b:H0 b=none) (nb:b∉a::bs) (nob:∀(j:Nat) ys c,ρ[j]? = some (SV.ow ys)->σ[j]? = some (some<|V.ref c)->c≠b) (ru:Reps K W us ys) :
  SOk K W0 H0 W σ (upd H a<|.lst<|(bs.set r b).map V.ref) (ρ.set i<|.oo<|xss.set r ys):=by
 have hi:i<ρ.length:=(Yaq.mp e).1;have nd:=YaF.mp o.nd;have out:∀{j:Nat} {z:SV},(ρ.set i<|.oo<|xss.set r ys)[j]? = some z->(∀yss,z≠.oo yss)->i≠j/\ρ[j]? = some z:=λe h=>uD e<|h _;have ba:b≠a:=λz=>nb (by simp[z]);have mset:∀c,c∈a::bs.set r b->c∈a::bs\/c=b:=λc hc=>by
  rcases Yan.mp hc with z|z
  .exact .inl (by simp[z])
  .rcases rH z with z|z
   .exact .inl (by simp[z])
   .exact .inr z
 refine⟨s.ext.chg o.a4 o.a1 o.a3 o.a2,by rw[cU];exact s.len,λj y ej=>?_,λj zs ej=>?_,λj k xs ys b hjk ej ek e3=>?_,⟨λj yss ej=>?_,λj k yss zss ej ek=>?_⟩⟩
 .exact s.d j y (out ej<|by simp).2
 .have ej:=(out ej<|by simp).2
  obtain⟨c,ws,p1,p2,p3⟩:=s.o j zs ej;have hc:c≠a:=λz=>n j zs c ej p1 (by simp[z]);exact⟨c,ws,p1,by rw[aI hc];exact p2,p3⟩
 .exact s.ne j k xs ys b hjk (out ej<|by simp).2 (out ek<|by simp).2 e3
 .have h:i=j:=by
   by_cases h:i=j
   .exact h
   .rw[cO h]at ej;exact s.oo.u i j _ _ e ej
  subst h;rw[dq hi]at ej;cases ej;refine⟨a,bs.set r b,e1,⟨aO,o.a2,o.a3,o.a4,YaF.mpr ⟨λz=>?_,Gw nd.2 λz=>nb<|by simp[z]⟩,by rw[cU,cU];exact o.len,λk c ec=>?_⟩,λj zs c ej ec hc=>?_⟩
  .rcases rH z with z|z
   .exact nd.1 z
   .exact ba z.symm
  .by_cases hk:r=k
   .subst hk
    rw[dq hr]at ec;cases ec;exact⟨ys,dq (by rw[<-o.len];exact hr),us,by rw[aI ba];exact hb,gb,pb,h0b,ru⟩
   .rw[cO hk]at ec
    obtain⟨zs,p1,ws,p2,p3⟩:=o.row k c ec;have hc:c≠a:=λz=>nd.1 (by rw[<-z];exact jy ec);exact⟨zs,by rw[cO hk];exact p1,ws,by rw[aI hc];exact p2,p3⟩
  .have ej:=(out ej<|by simp).2
   rcases mset c hc with z|z
   .exact n j zs c ej ec z
   .exact nob j zs c ej ec z
 .have key:∀{j:Nat} {yss:List (List D)},(ρ.set i<|.oo<|xss.set r ys)[j]? = some (SV.oo yss)->i=j:=λ{j yss} ej=>by
   by_cases h:i=j
   .exact h
   .rw[cO h]at ej;exact s.oo.u i j _ _ e ej
  rw[<-key ej,<-key ek]
end
section
variable{wi:WE}
def my(i:Nat)(wi:WE)(t:WA):WS:=λE N ρ=>match ρ[i]? with
 |some (.oo xss)=>t E ρ λys=>wi E ρ (isI λk=>∃r,jB xss.length k=some r/\N.nx (ρ.set i<|.oo<|xss.set r ys))
 |_=>False
theorem Gy(i:Nat)(hix:PX X EX ix wi)(he:PXL X EX e t)(hN:X.N[i]? = some x:=by rfl)(hv:kU X.env.scope x:=by first|exact Or.inl rfl|exact Or.inr (Or.inl rfl)|exact Or.inr<|Or.inr rfl)(hd:(x==("__debug__" : Str))=false:=by decide)
  (hcd:(x==("__classdict__" : Str))=false:=by decide)
  (ha:∀ v,assign (.Subscript (.Name x p) ix spos) X.env v=(do
   let ov <-holding [v] (eval (.Name x p) X.env)
   let iv <-holding [v,ov] (eval ix X.env)
   standAt spos
   holding [v,ov,iv] (setItem ov iv v)
   release [v,ov,iv] []):=by intro _;rfl)
  (hs:swapsWithSole [.Subscript (.Name x p) ix spos] e pos.line X.env=pure false:=by rfl) (hw:swappedStores [.Subscript (.Name x p) ix spos] e X.env=pure none:=by rfl)
  (h1:(assignEach [.Subscript (.Name x p) ix spos] X.env).map (·.2)=[assign (.Subscript (.Name x p) ix spos) X.env]:=by rfl):PZ X EX (.Assign [.Subscript (.Name x p) ix spos] e pos) (my i wi t):=by
 obtain⟨t,pe,k⟩:=he.t;obtain⟨t1,q1,k1⟩:=hix.t;refine⟨⟨_,fU pe (gY (dg hN hv hd hcd) q1 dN ha) hs hw h1,λW0 H0 F W σ H ρ E Dn N s fl eo no h=>?_⟩,λE ρ N N' hl q=>?_⟩
 .unfold my at h
  split at h
  .rename_i xss ex
   obtain⟨a,bs,e1,o,n⟩:=s.oo.t i xss ex;refine k W0 H0 W σ H ρ E _ s eo<|he.mono _ _ _ _ (λys hy b us W1 H1 x1 h1 h2 h3 h4 r1=>⟨_,e1,?_⟩) h;refine k1 W0 H0 W1 σ H1 ρ E _ (s.step x1) eo<|hix.mono _ _ _ _ (λdi hdi vi W2 H2 x2 r2=>?_) hy;obtain⟨kk,rfl,r,hr,hn⟩:=md hdi;cases r2;have xx:=x1.trans x2;have o2:=o.step xx;have hrb:r<bs.length:=by rw[o.len];exact(gQ hr).2.1
   have hb2:H2 b=some (.lst us):=x2.h b _ h1 h3;have gb2:W2.G b=none:=by
    cases q:W2.G b with
    |none=>rfl|some u=>have:=x2.gf b h2 (by rw[q];simp);rw[h1]at this;cases this
   have pb2:¬W2.Pn b:=λz=>by have:=x2.pf b h3 z;rw[h1]at this;cases this
   have nb:b∉a::bs:=λz=>by
    rcases Yan.mp z with z|z
    .rw[z,o.a1]at h4;cases h4
    .obtain⟨m,hm,rfl⟩:=Ybv.mp z
     obtain⟨_,_,vs,q,_⟩:=o.row m _<|bJ hm;rw[q]at h4;cases h4
   have nob:∀(j:Nat) ys c,ρ[j]? = some (SV.ow ys)->σ[j]? = some (some<|V.ref c)->c≠b:=λj zs c ej ec z=>by
    obtain⟨c',ws,p1,p2,_⟩:=s.o j zs ej;rw[ec]at p1;cases p1;rw[z,h4]at p2;cases p2
   refine⟨a,_,kk,r,rfl,rfl,o2.a1,by rw[bG,o.len];exact hr,?_⟩;have:=(s.step xx).setRow ex e1 o2 n hrb hb2 gb2 pb2 (s.ext.isN h4) nb nob<|x2.reps r1;rw[rG]at this;exact no.nx W2 σ _ _ this (fl.ext xx) hn
  .exact h.elim
 .unfold my at q ⊢
  split at q
  .exact he.mono _ _ _ _ (λd hd=>hix.mono _ _ _ _ (isI.mono λkk ⟨r,z1,z2⟩=>⟨r,z1,hl.nx _ z2⟩) hd) q
  .exact q.elim
end
section
variable{W:Wd}{bs:List Addr}
theorem SOk.un'(s:SOk K W0 H0 W σ H ρ){σ':L2.St}(hl:σ'.length=σ.length)(hσ:∀k,j≠k->σ'[k]? = σ[k]?):SOk K W0 H0 W σ' H (ρ.set j .un):=by have out:∀{k:Nat} {z:SV},(ρ.set j .un)[k]? = some z->z≠.un->j≠k/\ρ[k]? = some z:=λe h=>uD e h;refine⟨s.ext,by rw[cU,hl];exact s.len,λk y e=>?_,λk ys e=>?_,λk m xs ys b hkm e1 e2 e3=>?_,s.oo.set (λ_ h=>by cases h) hσ λ_ _ h=>by cases h⟩;obtain⟨h,e⟩:=out e (by simp);rw[hσ k h];exact s.d k y e;obtain⟨h,e⟩:=out e (by simp);rw[hσ k h];exact s.o k ys e;obtain⟨h,e1⟩:=out e1 (by simp);obtain⟨h',e2⟩:=out e2 (by simp);rw[hσ k h]at e3;rw[hσ m h'];exact s.ne k m xs ys b hkm e1 e2 e3
theorem xc(e:ρ[i]? = some (.oo xss)):(bT i ρ)[i]? = some (.d<|.lst<|xss.map .lst):=by have hi:i<ρ.length:=(Yaq.mp e).1;unfold bT rows;rw[e];dsimp only;unfold pub;rw[dq hi];dsimp only;rw[dq (by rw[cU];exact hi)]
end
def xf(j i:Nat)(xss:List (List D))(xs:List D)(ρ:bZ):bZ:=(bT i<|(ρ.set j .un).set i<|.oo xss).set j<|.d (.lst xs)
def goT(j i:Nat)(wi wv:WE)(E:Ex->Prop)(N:Nds)(ρ:bZ):Nat->Nat->List (List D)->Prop
 |0,_,xss=>N.nx<|(ρ.set j .un).set i (.oo xss)
 |k+1,r,xss=>∃xs,xss[r]? = some xs/\wv E (xf j i xss xs ρ) λd=>ed d=true/\wi E (xf j i xss xs ρ) (isI λl=>∃c,jB xs.length l=some c/\goT j i wi wv E N ρ k (r+1) (xss.set r<|xs.set c d))
def uE(j i:Nat)(wi wv:WE):WS:=λE N ρ=>match ρ[i]? with|some (.oo xss)=>j≠i/\j<ρ.length/\goT j i wi wv E N ρ xss.length 0 xss|_=>False
section
variable{wi:WE}
theorem goT.mono{j i:Nat}{E:Ex->Prop}{N N':Nds}{ρ:bZ}(h1:∀E ρ P P',(∀d,P d->P' d)->wi E ρ P->wi E ρ P')(h2:∀E ρ P P',(∀d,P d->P' d)->wv E ρ P->wv E ρ P')(hl:N.le N'):∀k r xss,goT j i wi wv E N ρ k r xss->goT j i wi wv E N' ρ k r xss
 |0,_,_,h=>hl.nx _ h|k+1,r,xss,⟨xs,e,h⟩=>⟨xs,e,h2 _ _ _ _ (λd hd=>⟨hd.1,h1 _ _ _ _ (isI.mono λl ⟨c,z1,z2⟩=>⟨c,z1,goT.mono h1 h2 hl k (r+1) _ z2⟩) hd.2⟩) h⟩
theorem Lx(j i:Nat){v:Str}{xp vp vp2 bpos:Pos}(hp:PassesOwn (model X.prog X.w) X.A X.env X.xe)(hc:X.calm=true)(hNd:X.N.Nodup)(hix:PX X EX ix wi)(he:PX X EX e wv)(hN:X.N[i]? = some x:=by rfl)(hv:kU X.env.scope x:=by first|exact Or.inl rfl|exact Or.inr (Or.inl rfl)|exact Or.inr<|Or.inr rfl)(hd:(x==("__debug__" : Str))=false:=by decide)
  (hcd:(x==("__classdict__" : Str))=false:=by decide) (hNj:X.N[j]? = some v:=by rfl) (hxj:kf X.env.scope v:=by first|exact Or.inl rfl|exact Or.inr rfl) (hfj:X.fn v=true\/X.env.scope.names.lookup v=some .local:=by first|exact .inl rfl|exact .inr rfl|assumption) (hvj:kU X.env.scope v:=by first|exact Or.inl rfl|exact Or.inr (Or.inl rfl)|exact Or.inr<|Or.inr rfl) (hdj:(v==("__debug__" : Str))=false:=by decide) (hcdj:(v==("__classdict__" : Str))=false:=by decide)
  (ha:∀ u,assign (.Subscript (.Name v vp2) ix spos) X.env u=(do
   let ov <-holding [u] (eval (.Name v vp2) X.env)
   let iv <-holding [u,ov] (eval ix X.env)
   standAt spos
   holding [u,ov,iv] (setItem ov iv u)
   release [u,ov,iv] []):=by intro _;rfl)
  (hs:swapsWithSole [.Subscript (.Name v vp2) ix spos] e bpos.line X.env=pure false:=by rfl) (hw:swappedStores [.Subscript (.Name v vp2) ix spos] e X.env=pure none:=by rfl)
  (h1:(assignEach [.Subscript (.Name v vp2) ix spos] X.env).map (·.2)=[assign (.Subscript (.Name v vp2) ix spos) X.env]:=by rfl)
  (hsi:∀y,foldedSetIterable (.Name x xp) X.env y=pure y:=by intro _;rfl):PZ X EX (.For (.Name v vp) (.Name x xp) [.Assign [.Subscript (.Name v vp2) ix spos] e bpos] [] pos) (uE j i wi wv):=by
 obtain⟨t,pe,k⟩:=he.t;obtain⟨t1,q1,k1⟩:=hix.t;refine⟨⟨_,ku hp hc (kX<|dg hN hv hd hcd) (jb hNd hNj hxj hfj) (i9<|fU pe (gY (dg hNj hvj hdj hcdj) q1 dN ha) hs hw h1) hsi,λW0 H0 F W σ H ρ E Dn N s fl eo no h=>?_⟩,λE ρ N N' hl q=>?_⟩
 .unfold uE at h
  split at h
  .rename_i xss0 ex
   obtain⟨nji,jl,h⟩:=h;obtain⟨a,bs,e1,o,n⟩:=s.oo.t i xss0 ex;have hi:i<ρ.length:=(Yaq.mp ex).1;have len0:bs.length=xss0.length:=o.len;refine⟨_,e1,a,rfl,⟨_,SqL.of o.a1⟩,?_⟩;have st:∀{Vw:Wd} {τ:L2.St} {G:Hp} {yss:List (List D)},SOk X.K W0 H0 Vw τ G ((ρ.set j .un).set i<|.oo yss)->((ρ.set j .un).set i<|.oo yss)[i]? = some (.oo yss):=λ{Vw τ G yss} _=>dq (by rw[cU];exact hi);refine⟨λr m τ G=>m=xss0.length-r/\r<=xss0.length/\∃Vw yss,yss.length=xss0.length/\τ[i]? = some (some<|.ref a)/\G a=some (.lst<|bs.map V.ref)/\SOk X.K W0 H0 Vw τ G ((ρ.set j .un).set i<|.oo yss)/\Wle W Vw/\goT j i wi wv E N ρ (xss0.length-r) r yss,⟨_,rfl,iq _,W,xss0,rfl,e1,o.a1,?_,.refl W,h⟩,?_⟩
   .have:=s.un' (j:=j) (σ':=σ) rfl λ_ _=>rfl
    have e2:(ρ.set j .un).set i (.oo xss0)=ρ.set j .un:=by
     refine qC λk=>?_
     by_cases hk:i=k
     .subst hk
      rw[dq (by rw[cU];exact hi),cO nji,ex]
     .rw[cO hk]
    rw[e2];exact this
   rintro r m τ G ⟨rfl,hr,Vw,yss,hy,t1',g1,sv,fv,hg⟩;rcases fS r xss0.length with hlt|hge
   .refine .inr ⟨⟨_,_,SqL.of g1,by rw[cH,bJ<|by omega];rfl⟩,fun τ' G'=>∃Vw yss,yss.length=xss0.length/\τ'[i]? = some (some<|.ref a)/\G' a=some (.lst<|bs.map V.ref)/\SOk X.K W0 H0 Vw τ' G' ((ρ.set j .un).set i<|.oo yss)/\Wle W Vw/\goT j i wi wv E N ρ (xss0.length-(r+1)) (r+1) yss,fun τ' G' ⟨Vw,yss,q⟩=>⟨xss0.length-(r+1),by omega,rfl,hlt,Vw,yss,q⟩,λu G' yl=>?_⟩
    obtain⟨rfl,yl⟩:=yl;have hu:=yl _<|SqL.of g1;rw[cH,bJ<|by omega]at hu;cases hu;rw[show xss0.length-r=(xss0.length-(r+1))+1 by omega]at hg;obtain⟨xs,hxs,hv'⟩:=hg;have exo:=st sv;obtain⟨a',bs',p1,o',n'⟩:=sv.oo.t i yss exo;rw[t1']at p1;cases p1;have hbs:bs'=bs:=by
     have:=o'.a1;rw[g1]at this;have:=HO.lst.inj<|Ng this;have inj:∀{l l':List Addr},l.map V.ref=l'.map V.ref->l=l':=λ{l l'} h=>by
      induction l generalizing l' with
      |nil=>cases l' with|nil=>rfl|cons _ _=>cases h
      |cons x l ih=>
       cases l' with
       |nil=>cases h
       |cons y l'=>
        injection h with h1 h2
        cases h1;rw[ih h2]
     exact(inj this).symm
    subst hbs;have hb:bs'[r]? = some (bs'[r]'(by omega)):=bJ (by omega);generalize bs'[r]'(by omega)=b at hb;obtain⟨W',A,sl,l⟩:=sv.lendA i;have rb:Rep X.K W' (.ref b) (.lst xs):=by
     obtain⟨w0,q1,q2⟩:=sl.d i _<|xc exo;rw[t1']at q1;cases q1;cases q2 with
     |lst f1 f2=>
      have:=sl.ok.g _ _ f1;rw[g1]at this;cases this;obtain⟨v0,z1,z2⟩:=f2.get (d:=.lst xs) (show(yss.map D.lst)[r]? = _ by rw[cH,hxs];rfl);rw[cH,hb]at z1;cases z1;exact z2
    have slk:SOk X.K W0 H0 W' (τ.set j<|some<|.ref b) G' (xf j i yss xs ρ):=sl.set rb;have sun:SOk X.K W0 H0 Vw (τ.set j<|some<|.ref b) G' ((ρ.set j .un).set i<|.oo yss):=by
     have:=sv.un' (j:=j) (σ':=τ.set j<|some<|.ref b) (by rw[cU]) λk hk=>cO hk;rw[List.set_comm _ _ nji,List.set_set]at this;rw[List.set_comm _ _<|Nm nji]at this;exact this
    have tl:ρ.length=τ.length:=by have:=sv.len;rw[cU,cU]at this;exact this
    have tj:(τ.set j<|some<|V.ref b)[j]? = some (some<|.ref b):=dq (by omega);have ti:(τ.set j<|some<|V.ref b)[i]? = some (some<|.ref a):=by rw[cO nji];exact t1'
    have nn:∀(j':Nat) ys c,((ρ.set j .un).set i<|.oo yss)[j']? = some (SV.ow ys)->(τ.set j<|some<|V.ref b)[j']? = some (some<|V.ref c)->c∉a::bs':=λj' ys c ej ec=>by
     have hj:j≠j':=λz=>by
      subst z;rw[cO<|Nm nji,dq jl]at ej;cases ej
     rw[cO hj]at ec;exact n' j' ys c ej ec
    refine k W0 H0 W' _ G' _ E _ slk eo<|he.mono _ _ _ _ (λd hd v' W2 H2 x2 r2=>⟨_,tj,?_⟩) hv';refine k1 W0 H0 W2 _ H2 _ E _ (slk.step x2) eo<|hix.mono _ _ _ _ (λdi hdi vi W3 H3 x3 r3=>?_) hd.2;obtain⟨ll,rfl,c,hc,hn⟩:=md hdi;cases r3;have xx:=x2.trans x3;have xb:=xx.borL l;have s3:=sun.step xb;have o3:=o'.step xb;obtain⟨xs',f1,vs,f2,f3,f4,f5,f6⟩:=o3.row r b hb;rw[hxs]at f1;cases f1;refine⟨b,vs,ll,c,rfl,rfl,f2,by rw[f6.length];exact hc,?_⟩;have ab:a≠b:=λz=>(YaF.mp o3.nd).1 (by rw[z];exact jy hb);have fin:=s3.chgRow exo ti o3 nn hb<|Reps.set ((x3.rep r2).remL (l.on xx) hd.1) c f6;rw[List.set_set]at fin;exact⟨_,yss.set r<|xs.set c d,by rw[cU];exact hy,ti,by rw[aI ab];exact o3.a1,fin,fv.ext xb,hn⟩
   .refine .inl ⟨⟨_,SqL.of g1,by rw[bG];omega⟩,?_⟩
    rw[show xss0.length-r=0 by omega]at hg;exact no.nx Vw τ G _ sv (fl.trans fv) hg
  .exact h.elim
 .unfold uE at q ⊢
  split at q
  .exact⟨q.1,q.2.1,goT.mono hix.mono he.mono hl _ _ _ q.2.2⟩
  .exact q.elim
end
structure xg(K:Nb)(W0:Wd)(H0:Hp)(F:Wd)(i:Nat)(v:V)(Dn:jO)(nx:bZ->Prop):Prop where
 nx:∀W σ H ρ,SOk K W0 H0 W σ H ρ->Wle F W->σ[i]? = some (some v)->nx ρ->Dn.nx σ H
structure zQ(X:Cx)(EX:XK)(i:Nat)(st:Stmt)(z:WS):Prop where
 t:∃t,PS X st t/\∀W0 H0 F W σ H ρ E Dn v nx,SOk X.K W0 H0 W σ H ρ->Wle F W->jn X.K W0 H0 E EX->σ[i]? = some (some v)->xg X.K W0 H0 F i v Dn nx->z E { nx:=nx,rt:=λ_=>False,bk:=λ_=>False,ct:=λ_=>False } ρ->t Dn σ H
 mono:∀E ρ N N',N.le N'->z E N ρ->z E N' ρ
structure qA(X:Cx)(EX:XK)(i:Nat)(sts:List Stmt)(z:WS):Prop where
 t:∃t,l7 X sts t/\∀W0 H0 F W σ H ρ E Dn v nx,SOk X.K W0 H0 W σ H ρ->Wle F W->jn X.K W0 H0 E EX->σ[i]? = some (some v)->xg X.K W0 H0 F i v Dn nx->z E { nx:=nx,rt:=λ_=>False,bk:=λ_=>False,ct:=λ_=>False } ρ->t Dn σ H
 mono:∀E ρ N N',N.le N'->z E N ρ->z E N' ρ
section
variable{wi:WE}{ta:WA}{rest:List Stmt}{z:WS}
def Gz(h:zQ X EX i st z):qA X EX i [st] z:=let⟨t,q,k⟩:=h.t;⟨⟨_,i9 q,k⟩,h.mono⟩
theorem Ly(h1:zQ X EX i st z)(h2:qA X EX i rest z'):qA X EX i (st::rest) (aG z z'):=by obtain⟨t1,p1,k1⟩:=h1.t;obtain⟨t2,p2,k2⟩:=h2.t;refine⟨⟨_,jP p1 p2,λW0 H0 F W σ H ρ E Dn v nx s fl eo hv no h=>?_⟩,λE ρ N N' hl h=>h1.mono _ _ _ _ (Nds.le_nx hl λρ' h'=>h2.mono _ _ _ _ hl h') h⟩;exact k1 W0 H0 F W σ H ρ E _ v (z' E { nx:=nx,rt:=λ_=>False,bk:=λ_=>False,ct:=λ_=>False }) s fl eo hv ⟨λW1 σ1 H1 ρ1 s1 f1 v1 hn=>k2 W0 H0 F W1 σ1 H1 ρ1 E Dn v nx s1 f1 eo v1 no hn⟩ h
theorem GA(j:Nat)(he:PX X EX e w)(hN:X.N.Nodup)(ne:j≠i:=by decide)(hi:X.N[j]? = some x:=by rfl)(hx:kf X.env.scope x:=by first|exact Or.inl rfl|exact Or.inr rfl)(hs:swapsWith e (some<|.Name x pos') pos.line X.env=pure false:=by rfl)
  (hf:X.fn x=true\/X.env.scope.names.lookup x=some .local:=by first|exact .inl rfl|exact .inr rfl|assumption):zQ X EX i (.Assign [.Name x pos'] e pos) (aQ j w):=by
 obtain⟨t,p,k⟩:=he.t;refine⟨⟨_,jc hN hi hx p hs hf,λW0 H0 F W σ H ρ E Dn v nx s fl eo hv no h=>?_⟩,λE ρ N N' hl q=>he.mono _ _ _ _ (λ_=>hl.nx _) q⟩;exact k W0 H0 W σ H ρ E _ s eo<|he.mono _ _ _ _ (λd hd v1 W1 H1 x1 r1=>no.nx W1 _ H1 _ ((s.step x1).set r1) (fl.ext x1) (by rw[cO ne];exact hv) hd) h
theorem Lz(m:Nat)(hix:PX X EX ix wi)(he:PXL X EX e ta)(hN:X.N[m]? = some x:=by rfl)(hv:kU X.env.scope x:=by first|exact Or.inl rfl|exact Or.inr (Or.inl rfl)|exact Or.inr<|Or.inr rfl)(hd:(x==("__debug__" : Str))=false:=by decide)
  (hcd:(x==("__classdict__" : Str))=false:=by decide)
  (ha:∀ v,assign (.Subscript (.Name x p) ix spos) X.env v=(do
   let ov <-holding [v] (eval (.Name x p) X.env)
   let iv <-holding [v,ov] (eval ix X.env)
   standAt spos
   holding [v,ov,iv] (setItem ov iv v)
   release [v,ov,iv] []):=by intro _;rfl)
  (hs:swapsWithSole [.Subscript (.Name x p) ix spos] e pos.line X.env=pure false:=by rfl) (hw:swappedStores [.Subscript (.Name x p) ix spos] e X.env=pure none:=by rfl)
  (h1:(assignEach [.Subscript (.Name x p) ix spos] X.env).map (·.2)=[assign (.Subscript (.Name x p) ix spos) X.env]:=by rfl):zQ X EX i (.Assign [.Subscript (.Name x p) ix spos] e pos) (my m wi ta):=by
 obtain⟨t,pe,k⟩:=he.t;obtain⟨t1,q1,k1⟩:=hix.t;have old:=Gy (pos:=pos) m hix he hN hv hd hcd ha hs hw h1;refine⟨⟨_,fU pe (gY (dg hN hv hd hcd) q1 dN ha) hs hw h1,λW0 H0 F W σ H ρ E Dn v nx s fl eo vv no h=>?_⟩,old.mono⟩;unfold my at h;split at h
 .rename_i xss ex
  obtain⟨a,bs,e1,o,n⟩:=s.oo.t m xss ex;refine k W0 H0 W σ H ρ E _ s eo<|he.mono _ _ _ _ (λys hy b us W1 H1 x1 h1 h2 h3 h4 r1=>⟨_,e1,?_⟩) h;refine k1 W0 H0 W1 σ H1 ρ E _ (s.step x1) eo<|hix.mono _ _ _ _ (λdi hdi vi W2 H2 x2 r2=>?_) hy;obtain⟨kk,rfl,r,hr,hn⟩:=md hdi;cases r2;have xx:=x1.trans x2;have o2:=o.step xx;have hrb:r<bs.length:=by rw[o.len];exact(gQ hr).2.1
  have hb2:H2 b=some (.lst us):=x2.h b _ h1 h3;have gb2:W2.G b=none:=by
   cases q:W2.G b with
   |none=>rfl|some u=>have:=x2.gf b h2 (by rw[q];simp);rw[h1]at this;cases this
  have pb2:¬W2.Pn b:=λz=>by have:=x2.pf b h3 z;rw[h1]at this;cases this
  have nb:b∉a::bs:=λz=>by
   rcases Yan.mp z with z|z
   .rw[z,o.a1]at h4;cases h4
   .obtain⟨m,hm,rfl⟩:=Ybv.mp z
    obtain⟨_,_,vs,q,_⟩:=o.row m _<|bJ hm;rw[q]at h4;cases h4
  have nob:∀(j:Nat) ys c,ρ[j]? = some (SV.ow ys)->σ[j]? = some (some<|V.ref c)->c≠b:=λj zs c ej ec z=>by
   obtain⟨c',ws,p1,p2,_⟩:=s.o j zs ej;rw[ec]at p1;cases p1;rw[z,h4]at p2;cases p2
  refine⟨a,_,kk,r,rfl,rfl,o2.a1,by rw[bG,o.len];exact hr,?_⟩;have:=(s.step xx).setRow ex e1 o2 n hrb hb2 gb2 pb2 (s.ext.isN h4) nb nob<|x2.reps r1;rw[rG]at this;exact no.nx W2 σ _ _ this (fl.ext xx) vv hn
 .exact h.elim
end
def itO(j i:Nat)(xs:List D)(zb:WS)(E:Ex->Prop)(N:Nds):List D->bZ->Prop
 |[],ρ=>N.nx ρ|d::ds,ρ=>zb E { nx:=λρ'=>ρ'[i]? = some (.ow xs)/\itO j i xs zb E N ds ρ',rt:=λ_=>False,bk:=λ_=>False,ct:=λ_=>False }<|ρ.set j (.d d)
def pM(j i:Nat)(zb:WS):WS:=λE N ρ=>match ρ[i]? with|some (.ow xs)=>itO j i xs zb E N xs ρ|_=>False
section
theorem itO.mono{j i:Nat}{xs:List D}{E:Ex->Prop}{N N':Nds}(hb:∀E ρ N N',N.le N'->zb E N ρ->zb E N' ρ)(hl:N.le N'):∀ds ρ,itO j i xs zb E N ds ρ->itO j i xs zb E N' ds ρ
 |[],ρ,h=>hl.nx _ h|d::ds,ρ,h=>by rw[itO]at h ⊢;refine hb _ _ _ _ ?_ h;exact⟨λρ' q=>⟨q.1,itO.mono hb hl ds ρ' q.2⟩,λ_ q=>q,λ_ q=>q,λ_ q=>q⟩
theorem GB(j i:Nat){v:Str}{xp vp:Pos}(hp:PassesOwn (model X.prog X.w) X.A X.env X.xe)(hc:X.calm=true)(hNd:X.N.Nodup)(hb:qA X EX i body zb)(nji:j≠i:=by decide)(hN:X.N[i]? = some x:=by rfl)(hv:kU X.env.scope x:=by first|exact Or.inl rfl|exact Or.inr (Or.inl rfl)|exact Or.inr<|Or.inr rfl)(hd:(x==("__debug__" : Str))=false:=by decide)
  (hcd:(x==("__classdict__" : Str))=false:=by decide) (hNj:X.N[j]? = some v:=by rfl) (hxj:kf X.env.scope v:=by first|exact Or.inl rfl|exact Or.inr rfl) (hfj:X.fn v=true\/X.env.scope.names.lookup v=some .local:=by first|exact .inl rfl|exact .inr rfl|assumption)
  (hsi:∀y,foldedSetIterable (.Name x xp) X.env y=pure y:=by intro _;rfl):PZ X EX (.For (.Name v vp) (.Name x xp) body [] pos) (pM j i zb):=by
 obtain⟨tb,pb,kb⟩:=hb.t;refine⟨⟨_,ku hp hc (kX<|dg hN hv hd hcd) (jb hNd hNj hxj hfj) pb hsi,λW0 H0 F W σ H ρ E Dn N s fl eo no h=>?_⟩,λE ρ N N' hl q=>?_⟩
 .unfold pM at h
  split at h
  .rename_i xs ex
   obtain⟨a,vs0,e1,e2,e3,e4,e5,r0⟩:=s.o i xs ex;refine⟨_,e1,a,rfl,⟨_,SqL.of e2⟩,?_⟩;refine⟨λr m τ G=>m=xs.length-r/\r<=xs.length/\∃Vw ρ2,SOk X.K W0 H0 Vw τ G ρ2/\ρ2[i]? = some (.ow xs)/\τ[i]? = some (some<|.ref a)/\Wle W Vw/\itO j i xs zb E N (xs.drop r) ρ2,⟨_,rfl,iq _,W,ρ,s,ex,e1,.refl W,by rw[pQ];exact h⟩,?_⟩;rintro r m τ G ⟨rfl,hr,Vw,ρ2,sv,ex2,t2,fv,hg⟩;obtain⟨a',vs,p1,p2,p3,p4,p5,rr⟩:=sv.o i xs ex2;rw[t2]at p1;cases p1;rcases fS r xs.length with hlt|hge
   .have hx:xs[r]? = some xs[r]:=bJ hlt
    obtain⟨u,hu,ru⟩:=rr.get hx;refine .inr ⟨⟨_,_,SqL.of p2,hu⟩,fun τ' G'=>∃Vw ρ2,SOk X.K W0 H0 Vw τ' G' ρ2/\ρ2[i]? = some (.ow xs)/\τ'[i]? = some (some<|.ref a)/\Wle W Vw/\itO j i xs zb E N (xs.drop<|r+1) ρ2,fun τ' G' q=>⟨xs.length-(r+1),by omega,rfl,hlt,q⟩,λu' G' yl=>?_⟩;obtain⟨rfl,yl⟩:=yl;have:=yl _<|SqL.of p2;rw[hu]at this;cases this;rw[nU hlt]at hg;exact kb W0 H0 W Vw _ G' _ E _ (.ref a) _ (sv.set ru) fv eo (by rw[cO nji];exact t2) ⟨λW5 σ5 H5 ρ5 s5 f5 v5 h5=>⟨W5,ρ5,s5,h5.1,v5,f5,h5.2⟩⟩ hg
   .refine .inl ⟨⟨_,SqL.of p2,by rw[rr.length];exact hge⟩,?_⟩
    rw[tO hge]at hg;exact no.nx Vw τ G _ sv (fl.trans fv) hg
  .exact h.elim
 .unfold pM at q ⊢
  split at q
  .exact itO.mono hb.mono hl _ _ q
  .exact q.elim
end
section
theorem LA(i m j:Nat)(vars:List Str)(sel:List Nat)(hc:X.calm=true)(hN:X.N.Nodup)(hi:kG X EX target iter wi)(hg:∀s H fp,lP (X.lc sc vars sel s H fp) target g)(hf:∀s H fp,n4 (X.lc sc vars sel s H fp) E0 ifs wf)(he:∀s H fp,PX (X.lc sc vars sel s H fp) E0 elt we)
  (hix:X.N[i]? = some x:=by rfl) (hx:kf X.env.scope x:=by first|exact Or.inl rfl|exact Or.inr rfl)
  (hsw:swapsWith (.ListComp elt [⟨target,iter,ifs,0⟩] sc pos) (some<|.Name x pos') spos.line X.env=pure true:=by rfl)
  (ok:jC sc X.env.scope=true:=by rfl) (so:l8 X.N sc sel=true:=by rfl) (hs:∀x,foldedSetIterable iter X.env x=pure x:=by intro _;rfl) (hfn:X.fn x=true\/X.env.scope.names.lookup x=some .local:=by first|exact .inl rfl|exact .inr rfl|assumption) :
  PZ X EX (.Assign [.Name x pos'] (.ListComp elt [⟨target,iter,ifs,0⟩] sc pos) spos) (bM i<|fg m<|aBor j<|aLC wi vars.length sel g wf we):=by
 obtain⟨ti,tg,tf,te,pi,pg,pf,pe,k⟩:=yL hi hg hf he;have am:=aLC.mono (vars:=vars) (sel:=sel) hi (hg {} (λ_=>none) []).mono (hf {} (λ_=>none) []).mono (he {} (λ_=>none) []).mono;have am':=aBor.mono' am j;have k':=E9 k am j;refine⟨⟨_,A0 vars sel hc hN hix hx pi ok so pg pf pe hsw hs hfn,λW0 H0 F W σ H ρ E Dn N s fl eo no h=>?_⟩,λE ρ N N' hl q=>am' _ _ _ _ (λ_ hq=>⟨hq.1,hl.nx _ hq.2⟩) q⟩;obtain⟨W',A,s',l⟩:=s.lendA m;refine k' W0 H0 W' σ H _ E _ s' eo<|am' _ _ _ _ (λds hd b vs W2 H2 x2 h1 h2 h3 h4 r2=>?_) h;have hb:b∉A:=λz=>by
  obtain⟨us,q⟩:=(l.a b z).2;have:=s'.ok.g b _ q;rw[h4]at this;cases this
 exact no.nx _ _ H2 _ (s.own (x2.borL l) h4 h1 (by rw[Wd.remL_ne hb];exact h2) h3<|r2.remL (l.on x2) hd.1) (fl.ext<|x2.borL l) hd.2
end
namespace I9
def zR:bX:=rlS (λ_:Unit=>[.pen]) (λ_=>True) λ_ d=>∃s n,IsSl s n/\s.reverse=s/\d=aR s
def xm:bX:=fnS (λx:SL=>[aR x.1]) (λx=>IsSl x.1 x.2/\x.1.reverse=x.1) λx=>mx x.1 x.2<|gh x.1 x.2
section
variable{E:Ex->Prop}{x:D}{u v:List Rat}
theorem LB(q:∀s n,IsSl s n->s.reverse=s->Q (aR s)):zR [.pen] E Q:=⟨(),rfl,trivial,λd ⟨s,n,h,e,hd⟩=>by rw[hd];exact q s n h e⟩
def LC(h:IsSl s n)(e:s.reverse=s)(q:Q (mx s n<|gh s n)):xm [aR s] E Q:=⟨(s,n),rfl,⟨h,e⟩,q⟩
end
theorem GC:∀{xs:List Int},(∀x∈xs,x.natAbs<2^900)->PyData.showableAll (fo<|xs.map .int)=true/\PyData.hasDictAll (fo<|xs.map .int)=false/\PyData.depthAll (fo<|xs.map .int)=0/\PyData.leavesShortAll 902 (fo<|xs.map .int)=true/\PyData.weightAll (fo<|xs.map .int)<=903*xs.length
 |[],_=>by simp[fo,PyData.showableAll,PyData.hasDictAll,PyData.depthAll,PyData.leavesShortAll,PyData.weightAll]
 |i::r,h=>by
  obtain⟨b1,b2,b3,b4,b5⟩:=GC (xs:=r) λx hx=>h x (by simp[hx]);have h1:i.natAbs.log2<900:=Kg (by decide)<|h i (by simp);have a1:=int_text_length_le (k:=900) (by decide) h1;have f:(PyData.shown<|.int i).length=(toString i).length:=by rw[PyData.shown];exact PySem.ofString_length _
  rw[cR,fo,PyData.showableAll,PyData.hasDictAll,PyData.depthAll,PyData.leavesShortAll,PyData.weightAll,b1,b2,b3,b4,d8];refine⟨?_,?_,?_,?_,?_⟩;rw[pd,PyData.showable,uL,Nf];omega;rw[pd,PyData.hasDict];rfl;rw[pd,PyData.depth];rfl;rw[pd,PyData.leavesShort,f,uL,Nf];omega;rw[pd,PyData.weight];split<;>omega
theorem LD{xs:List Int}(h:∀x∈xs,x.natAbs<2^900)(hl:xs.length<=5)(q:Q (.str (pd<|aR xs).shown)):Zhk [aR xs] Q:=by
 obtain⟨b1,b2,b3,b4,b5⟩:=GC h;have e:pd (aR xs)=.tuple (fo<|xs.map .int):=by unfold aR;rw[pd]
 refine⟨aR xs,pd<|aR xs,rfl,(vT _ 60<|qX xs 59).1,by rw[e,PyData.showable];exact b1,by rw[e,PyData.hasDict];exact b2,by rw[e,PyData.depth];omega,?_,q⟩;have:=PyData.shown_le 902 (by decide) (pd<|aR xs) (by rw[e,PyData.leavesShort];exact b4);have w:(pd<|aR xs).weight<=903*xs.length:=by rw[e,PyData.weight];exact b5
 rw[sizeLine_eq];have:(902+2)*(pd<|aR xs).weight<=904*4515:=Nat.mul_le_mul_left _ (by omega);omega
abbrev rr:=G.rr
abbrev lq:=G.lq
def rr_set{R:List (List Rat)}{i k:Nat}{r:List Rat}(h:i<R.length):rr (R.set i r) k=if k=i then r else rr R k:=G.rr_set h
def nD(L:List Nat):List D:=L.map λk:Nat=>D.int (k:Int)
def RD(R:List (List Rat)):List (List D):=R.map λr=>r.map aN
theorem rn(R:List (List Rat)):(RD R).map D.lst=R.map lq:=by unfold RD;rw[cY];rfl
theorem CO(R:List (List Rat)):(RD R).length=R.length:=by unfold RD;rw[bG]
theorem CP(R:List (List Rat))(k:Nat)(r:List Rat):(RD R).set k (r.map aN)=RD (R.set k r):=by unfold RD;rw[rG]
def mt(R:List (List Rat)):Nat->Nat->Rat:=λi j=>(rr R i).getD j 0
theorem lv{T:List (List Rat)}(h:i<T.length):rr T i∈T:=by show T.getD i []∈T;rw[bN,bJ h];exact gu h
theorem GD{A B:List (List Rat)}(h:A.length=B.length)(he:∀i,i<A.length->rr A i=rr B i):A=B:=by
 refine Au h λi h1 h2=>?_;have:=he i h1;show A[i]=B[i];have e:∀(C:List (List Rat)) (hc:i<C.length),rr C i=C[i]:=λC hc=>by show C.getD i []=_;rw[bN,bJ hc];rfl
 rw[<-e A h1,<-e B h2];exact this
def bs:Nat->Nat
 |0=>6|t+1=>4*bs t+5
theorem GE(h:i<=j):bs i<=bs j:=by
 induction h with
 |refl=>exact cF _|step _ ih=>exact gU ih (by rw[bs];omega)
def eK(r p:List Rat):List Rat:=List.zipWith (λx y=>x+y) r p
theorem GF{p:List Rat}(h:Lf b m r)(g:Lf b m p):Lf (2*b+1) m (eK r p):=by
 obtain⟨c,e,h1,h2,h3,h4,rfl⟩:=h.ex;obtain⟨d,f,g1,g2,g3,g4,rfl⟩:=g.ex;refine⟨List.zipWith (λx y=>x*f+y*e) c d,e*f,by rw[nV];omega,rJ h2 g2,?_,λx hx=>?_,?_⟩;rw[eW];exact da (n8 h3 g3)<|lZ (by decide) (by omega)
 obtain⟨i,hi,rfl⟩:=Ybv.mp hx;rw[tS];rw[nV]at hi;have a1:=n8 (h4 (c[i]'(by omega))<|gu _) g3;have a2:=n8 (g4 (d[i]'(by omega))<|gu _) h3;have:=qD (c[i]'(by omega)*f)<|d[i]'(by omega)*e;rw[eW,eW]at this;rw[show 2*b+1=(b+b)+1 by omega,tP];omega
 unfold eK;refine Au (by simp) λi i1 i2=>?_;simp only[tS,xZ];rw[Rat.divInt_add_divInt _ _ h2 g2]
theorem LE(h:Lf b m r)(hi:i<m)(hj:j<m):Lf (b+1) m (r.set i<|r.getD i 0+r.getD j 0):=by
 obtain⟨c,e,h1,h2,h3,h4,rfl⟩:=h.ex;have gd:∀k,k<m->(c.map λx=>Rat.divInt x e).getD k 0=Rat.divInt (c.getD k 0) e/\(c.getD k 0).natAbs<2^b:=λk hk=>by rw[bN,cH,bN,bJ<|by omega];exact⟨rfl,h4 _<|gu _⟩
 obtain⟨a1,a2⟩:=gd i hi;obtain⟨b1,b2⟩:=gd j hj;rw[a1,b1,Rat.divInt_add_divInt _ _ h2 h2,<-Int.add_mul,uQ h2];refine⟨c.set i<|c.getD i 0+c.getD j 0,e,by rw[cU];exact h1,h2,xI h3<|Nat.pow_lt_pow_right (by decide)<|by omega,λx hx=>?_,by rw[rG]⟩;rw[tP];rcases rH hx with hx|rfl
 have:=h4 x hx;omega;have:=qD (c.getD i 0)<|c.getD j 0;omega
def elF(r p:List Rat)(h:Nat):List Rat:=List.zipWith (λx y=>x+r.getD h 0 * -(p.getD h 0)⁻¹*y) r p
theorem LF(r p:List Rat)(h:Nat):elF r p h=bV r (r.getD h 0) (lu p<|p.getD h 0):=by unfold elF bV lu;refine Au (by simp) λi h1 h2=>?_;simp only[tS,xZ];rw[ir];grind
theorem Lf_el{p:List Rat}(hr:Lf b m r)(hp:Lf b m p)(hh:h<m)(nz:p.getD h 0≠0):Lf (2*b+1) m (elF r p h):=by rw[LF];exact hr.less (hp.norm hh nz) hh
theorem zip_at{f:Rat->Rat->Rat}{p:List Rat}(h1:r.length=m)(h2:p.length=m)(hj:j<m):(List.zipWith f r p).getD j 0=f (r.getD j 0) (p.getD j 0):=by rw[bN,List.getElem?_zipWith,bN,bN,bJ<|by omega,bJ<|by omega];rfl
def gi(R:List (List Rat))(h:Nat)(L:List Nat):List (List Rat):=(List.range R.length).map λi=>if i∈L then elF (rr R i) (rr R h) h else rr R i
theorem pN{R:List (List Rat)}:(gi R h L).length=R.length:=by unfold gi;simp
theorem rp{R:List (List Rat)}(hi:i<R.length):rr (gi R h L) i=if i∈L then elF (rr R i) (rr R h) h else rr R i:=by show(gi R h L).getD i []=_;unfold gi;rw[bN,cH,jM hi];rfl
theorem LG{R:List (List Rat)}:gi R h []=R:=GD pN λi hi=>by rw[rp (by rw[pN]at hi;exact hi)];simp
theorem LH{R:List (List Rat)}(hk:k<R.length)(nk:k∉L)(nh:h∉L)(hh:h<R.length):(gi R h L).set k (elF (rr (gi R h L) k) (rr (gi R h L) h) h)=gi R h (L++[k]):=by refine GD (by rw[cU,pN,pN]) λi hi=>?_;rw[cU,pN]at hi;rw[rr_set (by rw[pN];exact hk),rp hi,rp hi,rp hk,rp hh,ks nk,ks nh];by_cases e:i=k;subst e;simp;simp[e]
def pO(R:List (List Rat))(i j:Nat):List (List Rat):=R.map λr=>r.set i<|r.getD i 0+r.getD j 0
theorem LI{R:List (List Rat)}(hk:k<R.length):rr (pO R i j) k=(rr R k).set i ((rr R k).getD i 0+(rr R k).getD j 0):=by show(pO R i j).getD k []=_;unfold pO;rw[bN,cH,bJ hk];show R[k].set _ _=(R.getD k []).set _ ((R.getD k []).getD _ _+(R.getD k []).getD _ _);rw[bN (l:=R),bJ hk];rfl
theorem GH{R:List (List Rat)}(hR:R.length=n)(hw:∀r∈R,r.length=n)(hi:i<n)(hj:j<n):∀k l,k<n->l<n->mt (pO (R.set i<|eK (rr R i)<|rr R j) i j) k l=wU (pL (mt R) i j) i j k l:=λk l hk hl=>by
 have w:∀k,k<n->(rr R k).length=n:=λk hk=>hw _<|lv (by omega);have r1:∀k l,k<n->l<n->mt (R.set i<|eK (rr R i)<|rr R j) k l=pL (mt R) i j k l:=λk l hk hl=>by unfold mt pL;rw[rr_set<|by omega];by_cases e:k=i;rw[oI e,oI e];unfold eK;exact zip_at (w i hi) (w j hj) hl;rw[ks e,ks e]
 have lw:(rr (R.set i<|eK (rr R i)<|rr R j) k).length=n:=by rw[rr_set<|by omega];split;unfold eK;rw[nV,w i hi,w j hj];omega;exact w k hk
 have s1:=r1 k i hk hi;have s2:=r1 k j hk hj;have s3:=r1 k l hk hl;unfold wU;show(rr (pO _ i j) k).getD l 0=_;rw[LI (by rw[cU];omega)];have s1:(rr (R.set i<|eK (rr R i)<|rr R j) k).getD i 0=pL (mt R) i j k i:=s1;have s2:(rr (R.set i<|eK (rr R i)<|rr R j) k).getD j 0=pL (mt R) i j k j:=s2;have s3:(rr (R.set i<|eK (rr R i)<|rr R j) k).getD l 0=pL (mt R) i j k l:=s3;rw[s1,s2,bN];by_cases e:l=i;subst e;rw[dq<|by omega,oI rfl];rfl;rw[cO<|Nm e,ks e,<-s3,bN]
theorem xn{R:List (List Rat)}(hR:R.length=n)(hw:∀r∈R,r.length=n)(hh:h<n)(hL:∀i∈L,i<n):∀k∈L,∀l∈L,mt (gi R h L) k l=mt R k l+mt R k h * -(mt R h h)⁻¹*mt R h l:=λk hk l hl=>by have w:∀k,k<n->(rr R k).length=n:=λk hk=>hw _<|lv (by omega);unfold mt;rw[rp (by have:=hL k hk;omega),oI hk];unfold elF;exact zip_at (w k<|hL k hk) (w h hh)<|hL l hl
structure Ws(s:List Int)(n:Nat)(R:List (List Rat))(L:List Nat)(a b:Nat):Prop where
 il:∃U,Il (Pj.cA<|sA s n) n L (mt R) U a b
 rl:R.length=n
 lf:∀r∈R,Lf (bs<|n-L.length) n r
 asc:L.Pairwise (· < ·)
 ln:L.length<=n
section
variable{a:Nat}{R:List (List Rat)}
theorem zS(h:IsSl s n)(ev:s.reverse=s):∀i j,i<n->j<n->Pj.cA (sA s n) i j=Pj.cA (sA s n) j i:=λi j hi hj=>by show((sA s n i j:Int):Rat)=_;rw[CD h ev i j hi hj]
def Ws.lt(w:Ws s n R L a b):∀i∈L,i<n:=w.il.elim λ_ I=>I.lt
def Ws.wd(w:Ws s n R L a b):∀r∈R,r.length=n:=λr hr=>(w.lf r hr).len
theorem Ws.fin(h:IsSl s n)(ev:s.reverse=s)(w:Ws s n R L a b)(h0:∀i∈L,∀j∈L,mt R i j=0):iI s n (gh s n)=a/\j7 s n (gh s n)=b:=by obtain⟨U,I⟩:=w.il;have sy:=zS h ev;obtain⟨A,e1,e2⟩:=I.fin sy h0;have pa:=CF h ev;have hw:∀r∈gh s n,r.length=n:=λr hr=>(pa.lf r hr).len;rw[Lq h pa.len hw,Lr h pa.len hw,(pa.ap' h ev).eq sy A 1,(pa.ap' h ev).eq sy A (-1)];exact⟨e1,e2⟩
theorem Ws.sym(h:IsSl s n)(ev:s.reverse=s)(w:Ws s n R L a b)(hi:i∈L)(hj:j∈L):mt R i j=mt R j i:=by obtain⟨U,I⟩:=w.il;rw[I.m i hi j hj,I.m j hj i hi,kK<|zS h ev]
theorem Ws.start(h:IsSl s n):Ws s n ((tbl s n).map d7) (List.range n) 0 0:=by
 have tl:=tm (s:=s) (n:=n);refine⟨⟨_,Il.start λi j hi hj=>?_⟩,by rw[bG,tl],λr hr=>?_,List.pairwise_lt_range,by simp⟩;unfold mt;show(((tbl s n).map d7).getD i []).getD j 0=((tA (tbl s n) i j:Int):Rat);have hl:i<(tbl s n).length:=by rw[tl];exact hi
 rw[bN (l:=(tbl s n).map d7),cH,bJ hl];have hm:=(tx h _<|gu hl).1;show(d7 (tbl s n)[i]).getD j 0=_;unfold d7;rw[bN,cH,bJ<|by omega];unfold tA B.C.ga B.C.gr;rw[bN (l:=tbl s n),bJ hl];show((((tbl s n)[i])[j]'(by omega):Int):Rat)=(((tbl s n)[i].getD j 0:Int):Rat);rw[bN,bJ<|by omega];rfl;obtain⟨line,hl,rfl⟩:=YbQ.mp hr;obtain⟨h1,h2⟩:=tx h line hl;rw[ke,rK,<-h1];exact Lf.int (by decide) λx hx=>by have:=h2 x hx;show _<2^6;omega
theorem Ws.pair(h:IsSl s n)(ev:s.reverse=s)(w:Ws s n R L a b){i j:Nat}(hi:i∈L)(hj:j∈L)(ne:i≠j):(∃U,Il (Pj.cA<|sA s n) n L (mt<|pO (R.set i<|eK (rr R i)<|rr R j) i j) U a b)/\∀r∈pO (R.set i<|eK (rr R i)<|rr R j) i j,Lf (2*bs (n-L.length)+2) n r:=by
 obtain⟨U,I⟩:=w.il;have li:=w.lt i hi;have lj:=w.lt j hj;have rl:=w.rl;refine⟨⟨_,I.pair (zS h ev) hi hj ne λk hk l hl=>GH w.rl w.wd li lj k l (w.lt k hk)<|w.lt l hl⟩,λr hr=>?_⟩;obtain⟨p,hp,rfl⟩:=YbQ.mp hr;refine LE (b:=2*bs (n-L.length)+1) ?_ li lj;rcases rH hp with hp|rfl
 exact(w.lf p hp).mono (by omega);exact GF (w.lf _<|lv<|by omega)<|w.lf _ (lv<|by omega)
theorem xo(h:IsSl s n)(ev:s.reverse=s)(I:Il (Pj.cA<|sA s n) n L (mt R) U a b)(rl:R.length=n)(lf:∀r∈R,Lf (2*bs (n-L.length)+2) n r)(asc:L.Pairwise (· < ·))(ln:L.length<=n){x:Nat}(hx:L[k]? = some x)(nz:mt R x x≠0) :
  Ws s n (gi R x<|L.eraseIdx k) (L.eraseIdx k) (a+if 0<mt R x x then 1 else 0) (b+if mt R x x<0 then 1 else 0):=by
 have hk:k<L.length:=(Yaq.mp hx).1;have hxm:x∈L:=jy hx;have xl:=I.lt x hxm;have nd:L.Nodup:=asc.imp λh=>gK h;have hL:∀i,i∈L.eraseIdx k↔i∈L/\i≠x:=λi=>by
  rw[Yc4];constructor
  .rintro⟨j,hj,e⟩
   refine⟨jy e,λz=>hj ?_⟩;rw[z]at e;have hj':j<L.length:=(Yaq.mp e).1;rw[bJ hj']at e;rw[bJ hk]at hx;have pw:=Yc1.mp nd;have ee:=(Ng e).trans (Ng hx).symm;rcases yh j k with z|z|z
   .exact Nd ee<|pw j k hj' hk z
   .exact z
   .exact Nd ee.symm<|pw k j hk hj' z
  .rintro⟨hi,ne⟩
   obtain⟨j,hj,e⟩:=Ybv.mp hi;refine⟨j,λz=>ne ?_,by rw[bJ hj,e]⟩;subst z;rw[bJ hk]at hx;rw[<-e];exact Ng hx
 have lw:∀r∈R,r.length=n:=λr hr=>(lf r hr).len;have le:(L.eraseIdx k).length=L.length-1:=Av hk;have bt:bs (n-(L.eraseIdx k).length)=4*bs (n-L.length)+5:=by rw[le,show n-(L.length-1)=(n-L.length)+1 by omega,bs]
 refine⟨⟨_,I.elim (zS h ev) hxm nz hL<|xn rl lw xl λi hi=>I.lt i ((hL i).mp hi).1⟩,by rw[pN,rl],λr hr=>?_,asc.sublist<|List.eraseIdx_sublist _ _,by rw[le];omega⟩;unfold gi at hr;obtain⟨i,hi,rfl⟩:=YbQ.mp hr;have hi:=Yah.mp hi;rw[bt];split
 .exact(Lf_el (lf _<|lv hi) (lf _<|lv<|by omega) xl nz).mono (by omega)
 .exact(lf _<|lv hi).mono (by omega)
end
abbrev ZeO:List Str:=["_law_pen", "_law_slants", "_law_size"]
def CQ:WS:=(aG (aQ 1<|wF wq<|aC (wN 0) aA)<|aG (aQ 2<|w2 fJ (w2 gAdd (wB bH<|aC (wN 1) aA)<|wC<|.int<|1)<|wC<|.int<|2)<|aM<|w2 gAdd (bO (wN 1) dY<|dv<|wN 2)<|w1 gRev<|bO (wN 1) dY<|dv<|w2 ei (wN 2)<|wC<|.int<|1)
abbrev ZcB:List Str:=["_law_slants", "_law_size", "_law_rows", "_law_found", "_law_left", "_law_good", "_law_pairs", "_law_i", "_law_j", "_law_row", "_law_here", "_law_top", "_law_bottom", "_law_at", "_law_part"]
def xq:WS:=(aG (aQ 1<|w2 fJ (w2 gAdd (wB bH<|aC (wN 0) aA)<|wC<|.int<|1)<|wC<|.int<|2)<|aG (CL 2<|w6 (dU<|aC (wN 1) aA) 1 [0,1] (gN 0) cE<|aLC (dU<|aC (wN 2) aA) 1 [0,1,2] (gN 0) cE<|aZ<|aC (w2 gIx (wN 2)<|w2 ei (w2 gAdd (w2 ei (wN 0)<|wN 1)<|wN 3)<|wC<|.int<|1)<|aC (wC<|.int<|1) aA)<|aG (bM 3<|aY<|aC (wC<|.int<|0)<|aC (wC<|.int<|0) aA)<|aG (bM 4<|Cb<|aC (wN 1) aA)<|aG (bA<|ua (eR 4<|wT<|w2 (gEq true) (wN 4)<|wL<|aY aA)<|aG (bM 5<|fg 2<|aBor 4<|aLC (iS<|wN 4) 1 [2] (gN 0) (wT<|w2 (gEq true) (w2 gIx (w2 gIx (w2 gIx (wN 1)<|wN 0)<|wN 0)<|wC<|.int<|0)<|wC<|.int<|0)<|wN 0)<|bD 5<|aG (cN (wT<|w2 (gEq false) (wN 5)<|wL<|aY aA) (aG (aQ 6<|wL<|aY aA)<|aG (bA<|pM 7 4<|aQ 6<|wL<|fg 2<|aBor 4<|d6 (wN 6)<|wL<|aLC (iS<|wN 4) 1 [2,7] (gN 0) (dE (wT<|w2 eS (wN 2)<|wN 0)<|wT<|w2 (gEq true) (w2 gIx (w2 gIx (w2 gIx (wN 1)<|wN 2)<|wN 0)<|wC<|.int<|0)<|wC<|.int<|0)<|aZ<|aC (wN 2)<|aC (wN 0) aA)<|aG (cN (wT<|w2 (gEq false) (wN 6)<|wL<|aY aA) CM cP)<|aG (dA (w2 gIx (wN 6)<|wC<|.int<|0)<|dw 2<|cB (gN 7)<|cB (gN 8) dj)<|aG (my 2 (wN 7)<|fg 2<|aLC (iZ<|aC (w2 gIx (wN 2)<|wN 7)<|aC (w2 gIx (wN 2)<|wN 8) aA) 2 [] (dw 2<|cB (gN 0)<|cB (gN 1) dj) cE<|wF jI<|aC (wN 0)<|aC (wN 1) aA)<|aG (bA<|uE 9 2 (wN 7)<|wF jI<|aC (w2 gIx (wN 9)<|wN 7)<|aC (w2 gIx (wN 9)<|wN 8) aA)<|aQ 5<|wL<|aY<|aC (wN 7) aA) cP)<|bD 5<|aG (aQ 10<|w2 gIx (wN 5)<|wC<|.int<|0)<|aG (dA (kN 2<|w2 gIx (w2 gIx (wN 2)<|wN 10)<|wN 10)<|dw 2<|cB (gN 11)<|cB (gN 12) dj)<|aG (tE 3 (wB fD<|aC (w2 eS (wN 11)<|wC<|.int<|0) aA)<|wC<|.int<|1)<|aG (kM 4<|wN 10)<|bA<|pM 13 4<|aG (aQ 14<|kN 2<|wF jJ<|aC (w2 gIx (w2 gIx (wN 2)<|wN 13)<|wN 10)<|aC (wF nG<|aC (w2 ei (wC<|.int<|0)<|wN 12)<|aC (wN 11) aA) aA)<|my 2 (wN 13)<|fg 2<|aLC (iZ<|aC (w2 gIx (wN 2)<|wN 13)<|aC (w2 gIx (wN 2)<|wN 10) aA) 2 [14] (dw 2<|cB (gN 0)<|cB (gN 1) dj) cE<|wF jI<|aC (wN 0)<|aC (wF jJ<|aC (wN 2)<|aC (wN 1) aA) aA)<|bD 3<|aM<|aZ<|aC (w2 gIx (wN 3)<|wC<|.int<|0)<|aC (w2 gIx (wN 3)<|wC<|.int<|1)<|aC (w2 ei (w2 ei (wN 1)<|w2 gIx (wN 3)<|wC<|.int<|0)<|w2 gIx (wN 3)<|wC<|.int<|1) aA)
end I9
theorem LJ(h:IsSl s n):IsSl (s.take n++(s.take<|n-1).reverse) n/\(s.take n++(s.take<|n-1).reverse).reverse=s.take n++(s.take<|n-1).reverse:=by
 have hl:=h.len;have h1:=h.n1;refine⟨⟨by simp;omega,h1,h.n5,λx hx=>?_⟩,?_⟩;rcases Yao.mp hx with hx|hx
 exact h.b x<|pR hx
 exact h.b x<|pR (Ycp.mp hx)
 have e:s.take n=s.take (n-1)++[s[n-1]'(by omega)]:=by have:=List.take_succ_eq_append_getElem (l:=s) (i:=n-1) (by omega);rw[show n-1+1=n by omega]at this;exact this
 generalize s.take (n-1)=x at e ⊢;rw[e];simp
namespace I9
theorem LK:Rd zR CQ ZeO:=by
 rintro _ E Q ⟨_,rfl,_,q⟩;show CQ E _ [.d .pen,.un,.un];unfold CQ;refine bU<|LP.set_rl (λd=>∃s n,d=aR s/\IsSl s n) (λP h=>?_) ?_
 walk_at "s";exact EI λs n hs=>h _ ⟨s,n,rfl,hs⟩;rintro _ ⟨s,n,rfl,h0⟩;have n1:=h0.n1;have n5:=h0.n5;have hl:=h0.len;dsimp only;refine bU<|LP.set_by (d:=.int n) (ρ':=[.d .pen,.d<|aR s,.d<|.int n]) (by rfl) (λP hP=>G.V5.size_w h0 hP) ?_;dsimp only;obtain⟨h,ev⟩:=LJ h0;have q:=q (aR<|s.take n++(s.take<|n-1).reverse) ⟨_,_,h,ev,rfl⟩;unfold aR at q ⊢;walk_at "s";rw[rf (b:=n) rfl,rf (b:=n-1)<|by omega,<-nX,<-nX,<-rF];refine zq (du (by simp;omega)) ?_;rw[<-jz];exact q
theorem CU:∀L:List Nat,jG (nD L)=true
 |[]=>rfl|k::L=>by show(ed (D.int k)&&jG (nD L))=true;rw[CU L];rfl
theorem zT:∀r:List Rat,jG (r.map aN)=true
 |[]=>rfl|x::r=>by rw[cR,jG,zT r];rfl
def CV(h:k<n):jB n (k:Int)=some k:=B.C.ixN_nat h
theorem xu(h:Lf b m r)(hk:k<m):dW (r.map aN) (k:Int)=some (aN<|r.getD k 0):=by refine bQ ?_;rw[cH,(h.get hk).1];rfl
theorem CW{j i:Nat}{L:List Nat}{zb:WS}{E:Ex->Prop}{N:Nds}(I:List Nat->bZ->Prop)(hs:∀L1 ρ,I L1 ρ->ρ[i]? = some (.ow<|nD L))
  (hz:∀(L1:List Nat) (k:Nat) (L2:List Nat) ρ,L=L1++k::L2->I L1 ρ->∀nx:bZ->Prop,(∀ρ',I (L1++[k]) ρ'->nx ρ')->zb E { nx:=nx,rt:=λ_=>False,bk:=λ_=>False,ct:=λ_=>False } (ρ.set j<|.d<|.int k))
  (he:∀ρ,I L ρ->N.nx ρ):∀L2 L1 ρ,L=L1++L2->I L1 ρ->itO j i (nD L) zb E N (nD L2) ρ
 |[],L1,ρ,e,h=>by rw[pP]at e;subst e;exact he ρ h
 |k::L2,L1,ρ,e,h=>by
  show itO j i (nD L) zb E N (D.int k::nD L2) ρ;rw[itO];refine hz L1 k L2 ρ e h _ λρ' h'=>⟨hs _ _ h',CW I hs hz he L2 (L1++[k]) ρ' (by rw[e,lx];rfl) h'⟩
theorem GI{j i c:Nat}{wi wv:WE}{E:Ex->Prop}{N:Nds}{ρ:bZ}{R:List (List Rat)}{f:List Rat->Rat}(hc:∀r∈R,c<r.length)
  (hv:∀R' r,r∈R->∀P:D->Prop,P (aN<|f r)->wv E (xf j i (RD R') (r.map aN) ρ) P) (hi:∀R' r,r∈R->∀P:D->Prop,P (.int c)->wi E (xf j i (RD R') (r.map aN) ρ) P)
  (he:N.nx ((ρ.set j .un).set i<|.oo<|RD<|R.map λr=>r.set c<|f r)):∀(A B:List (List Rat)),R=A++B->goT j i wi wv E N ρ B.length A.length (RD<|A.map (λr=>r.set c<|f r)++B)
 |A,[],e=>by rw[pP]at e;subst e;rw[pP];exact he
 |A,r::B,e=>by
  have hr:r∈R:=by rw[e];simp
  have at_:(RD (A.map (λr=>r.set c<|f r)++r::B))[A.length]? = some (r.map aN):=by
   unfold RD;rw[cH,jZ<|by simp,bG,rK];rfl
  show goT j i wi wv E N ρ (B.length+1) A.length _;rw[goT];refine⟨_,at_,hv _ r hr _ ⟨rfl,hi _ r hr _ ⟨c,CV (by rw[bG];exact hc r hr),?_⟩⟩⟩;have:=GI hc hv hi he (A++[r]) B (by rw[e,lx];rfl);rw[dG,j9,jz,lx]at this;rw[<-rG,CP,List.set_append_right _ _<|by simp,bG,rK];exact this
def iJ(L:List Nat)(M:Nat->Nat->Rat)(L1:List Nat):List (Nat×Nat):=L1.flatMap λi=>(L.filter λj=>decide (i<j)&&decide (M i j≠0)).map λj=>(i,j)
def pD(ps:List (Nat×Nat)):List D:=ps.map λp=>D.tup [.int (p.1:Int),.int (p.2:Int)]
theorem LL(L:List Nat)(M:Nat->Nat->Rat)(L1:List Nat)(k:Nat):iJ L M (L1++[k])=iJ L M L1++(L.filter λj=>decide (k<j)&&decide (M k j≠0)).map λj=>(k,j):=by unfold iJ;rw[List.flatMap_append];simp
theorem GJ(L:List Nat)(M:Nat->Nat->Rat):∀L1:List Nat,(iJ L M L1).length<=L1.length*L.length
 |[]=>by simp[iJ]|k::L1=>by have:=GJ L M L1;have e:iJ L M (k::L1)=((L.filter λj=>decide (k<j)&&decide (M k j≠0)).map λj=>(k,j))++iJ L M L1:=rfl;rw[e,dG,bG,d8,nQ];have:=yi (λj=>decide (k<j)&&decide (M k j≠0)) L;omega
theorem Zml{M:Nat->Nat->Rat}{p:Nat×Nat}:p∈iJ L M L1↔p.1∈L1/\p.2∈L/\p.1<p.2/\M p.1 p.2≠0:=by unfold iJ;rw[List.mem_flatMap];constructor;rintro⟨i,hi,h⟩;obtain⟨j,hj,rfl⟩:=YbQ.mp h;obtain⟨h1,h2⟩:=Yag.mp hj;simp only[dQ,Nf]at h2;exact⟨hi,h1,h2⟩;rintro⟨h1,h2,h3,h4⟩;exact⟨p.1,h1,YbQ.mpr ⟨p.2,Yag.mpr ⟨h2,by simp[h3,h4]⟩,rfl⟩⟩
theorem CY:∀ps:List (Nat×Nat),jG (pD ps)=true
 |[]=>rfl|k::L=>by show(ed (D.tup [.int (k.1:Int),.int (k.2:Int)])&&jG (pD L))=true;rw[CY L];rfl
theorem GK{R:List (List Rat)}(rl:R.length=n)(lf:∀r∈R,Lf b n r)(hi:i<n)(hj:j<n){P:D->Prop}(h:P (aN<|mt R i j)):gIx (.lst<|R.map lq) (.int i) λx=>gIx x (.int j) P:=
 ⟨_,G.rr_at<|by omega,_,xu (lf _<|lv<|by omega) hj,h⟩
theorem GL:decide (q.num=0)=decide (q=0):=by rw[gM,Nf,Nf];exact Ycx
theorem CZ{R:List (List Rat)}(rl:R.length=n)(lf:∀r∈R,Lf b n r)(hi:i<n)(hj:j<n){P:Bool->Prop}(h:P (decide (mt R i j≠0))):gIx (.lst<|R.map lq) (.int i) λx=>gIx x (.int j) λy=>gIx y (.int 0) λz=>gEq true z (.int 0) (isB P):=by
 refine GK rl lf hi hj ⟨_,rfl,?_⟩;refine Bm ?_;have:(!((mt R i j).num==0))=decide (mt R i j≠0):=by have:=GL (q:=mt R i j);rw[gM]at this ⊢;simp at this ⊢
 rw[oI rfl,this];exact h
theorem GM{α:Type}{we:WA}{tail:bZ}{Q:List (List D)->Prop}{g:α->D}{f:α->List D}:∀(L:List α),(∀a∈L,∀Q:List D->Prop,Q (f a)->we No (.d (g a)::tail) Q)->∀(sv:SV) (acc:List (List D)),acc.length+L.length<=small->Q (acc++L.map f)->lcM (gN 0) cE we (L.map g) (sv::tail) acc Q
 |[],_,sv,acc,_,hq=>by simpa[lcM] using hq|a::L,h,sv,acc,hl,hq=>by rw[cR,lcM];rw[d8]at hl;show we No (.d (g a)::tail) (λy=>acc.length<small/\lcM (gN 0) cE we (L.map g) (.d (g a)::tail) (acc++[y]) Q);refine h a (by simp) _ ⟨by omega,GM L (λx hx=>h x<|by simp[hx]) _ _ (by simp;omega) ?_⟩;rw[lx];exact hq
theorem C0{E:Ex->Prop}(e:ρ.set i (.ow xs)=ρ')(ht:∀P:List D->Prop,P xs->t E ρ P)(h:N.nx ρ'):bM i t E N ρ:=ht _ (by rw[e];exact h)
theorem LM{R:List (List Rat)}{E:Ex->Prop}{P:List D->Prop}{s0 s1 s3 s7:SV}(rl:R.length=n)(lf:∀r∈R,Lf b n r)(lt:∀i∈L,i<n)(ll:L.length<=5)(h:P (nD<|L.filter λi=>decide (mt R i i≠0))) :
  fg 2 (aBor 4<|aLC (iS<|wN 4) 1 [2] (gN 0) (wT<|w2 (gEq true) (w2 gIx (w2 gIx (w2 gIx (wN 1)<|wN 0)<|wN 0)<|wC<|.int<|0)<|wC<|.int<|0)<|wN 0) E [s0,s1,.oo<|RD R,s3,.ow<|nD L,s5,s6,s7,s8,s9,s10,s11,s12,s13,s14] P:=by
 show lcW _ _ _ (nD L) [.un,.d<|.lst<|(RD R).map .lst] [] _;rw[rn];refine uu (g:=λk:Nat=>D.int (k:Int)) (f:=λk:Nat=>D.int (k:Int)) (p:=λi=>decide (mt R i i≠0)) L (λk hk P' h'=>?_) (λk hk P' h'=>h') .un [] (du (by simp;omega)) ?_
 .exact CZ rl lf (lt k hk) (lt k hk) h'
 .exact⟨CU _,CU _,h⟩
theorem LN{R:List (List Rat)}{E:Ex->Prop}{P:D->Prop}{s0 s1 s3:SV}(rl:R.length=n)(lf:∀r∈R,Lf b n r)(lt:∀i∈L,i<n)(ll:L.length<=5)(l1:L1.length<=5)(kn:k<n)(h:P (.lst<|pD<|iJ L (mt R)<|L1++[k])) :
  wL (fg 2<|aBor 4<|d6 (wN 6)<|wL<|aLC (iS<|wN 4) 1 [2,7] (gN 0) (dE (wT<|w2 eS (wN 2)<|wN 0)<|wT<|w2 (gEq true) (w2 gIx (w2 gIx (w2 gIx (wN 1)<|wN 2)<|wN 0)<|wC<|.int<|0)<|wC<|.int<|0)<|aZ<|aC (wN 2)<|aC (wN 0) aA) E [s0,s1,.oo<|RD R,s3,.ow<|nD L,s5,.d<|.lst<|pD<|iJ L (mt R) L1,.d<|.int k,s8,s9,s10,s11,s12,s13,s14] P:=by
 have hp:=GJ L (mt R) L1;have hp2:L1.length*L.length<=5*5:=l6 l1 ll;show lcW _ _ _ (nD L) [.un,.d<|.lst<|(RD R).map .lst,.d<|.int k] [] _;rw[rn];refine uu (g:=λk:Nat=>D.int (k:Int)) (f:=λj:Nat=>D.tup [.int (k:Int),.int (j:Int)]) (p:=λj=>decide (k<j)&&decide (mt R k j≠0)) L (λj hj P' h'=>?_) (λj hj P' h'=>⟨du<|by simp,h'⟩) .un [] (du (by simp;omega)) ?_
 .simp only[dE,wT,w2,wN,wC,db,de,eS,fK,i5]
  by_cases z:k<j
  .refine⟨trivial,?_⟩
   rw[Nh (show(k:Int)<(j:Int) by omega)];show if true=true then _ else _;rw[oI rfl];rw[Nh z,tQ]at h';exact CZ rl lf kn (lt j hj) h'
  .refine⟨trivial,?_⟩
   rw[Ni (show¬(k:Int)<(j:Int) by omega)];show if false=true then _ else _;rw[ks<|by decide];rw[Ni z,tM]at h';exact h'
 .have e:pD (iJ L (mt R) L1)++([]++(L.filter λj=>decide (k<j)&&decide (mt R k j≠0)).map λj:Nat=>D.tup [.int (k:Int),.int (j:Int)])=pD (iJ L (mt R)<|L1++[k]):=by
   rw[LL];unfold pD;rw[jz,cY,dC];rfl
  have fl:=yi (λj=>decide (k<j)&&decide (mt R k j≠0)) L;refine⟨du (by unfold pD;rw[dC,bG,bG];omega),?_⟩;rw[e];exact⟨CY _,CY _,h⟩
theorem xv{P:Bool->Prop}(hx:cW (.lst xs) 60=true)(neg:Bool)(h:P (if neg then !xs.isEmpty else xs.isEmpty)):gEq neg (.lst xs) (.lst []) (isB P):=by
 refine n6 hx (by decide +kernel) ?_;have e:iB (.lst xs) (.lst [])=xs.isEmpty:=by
  cases xs with
  |nil=>decide +kernel|cons x xs=>unfold iB;simp[pd,fo,PyData.eqv,PyData.eqvAll]
 rw[e];exact h
theorem C1(L:List Nat)(n:Nat):cW (.lst<|nD L) (n+1)=true:=ug λx hx=>by obtain⟨k,_,rfl⟩:=YbQ.mp hx;exact ue _ _
theorem GN(ps:List (Nat×Nat))(n:Nat):cW (.lst<|pD ps) (n+2)=true:=ug λx hx=>by obtain⟨k,_,rfl⟩:=YbQ.mp hx;refine uf λy hy=>?_;simp only[Yan,eA,or_false]at hy;rcases hy with rfl|rfl<;>exact ue _ _
theorem xw{R:List (List Rat)}{E:Ex->Prop}{P:List D->Prop}{s0 s1 s3 s4:SV}(rl:R.length=n)(n5:n<=5)(lf:∀r∈R,Lf b n r)(hb:b<4000)(hi:i<n)(hj:j<n)(h:P ((eK (rr R i)<|rr R j).map aN)) :
  fg 2 (aLC (iZ<|aC (w2 gIx (wN 2)<|wN 7)<|aC (w2 gIx (wN 2)<|wN 8) aA) 2 [] (dw 2<|cB (gN 0)<|cB (gN 1) dj) cE<|wF jI<|aC (wN 0)<|aC (wN 1) aA) E [s0,s1,.oo<|RD R,s3,s4,s5,s6,.d<|.int i,.d<|.int j,s9,s10,s11,s12,s13,s14] P:=by
 show gIx (.lst<|(RD R).map .lst) (.int i) _;rw[rn];refine⟨_,G.rr_at<|by omega,?_⟩;show gIx (.lst<|(RD R).map .lst) (.int j) _;rw[rn];refine⟨_,G.rr_at<|by omega,?_⟩;have fi:=lf _<|lv (T:=R) (i:=i) (by omega);have fj:=lf _<|lv (T:=R) (i:=j) (by omega);show lcW _ _ _ (dO ((rr R i).map aN)<|(rr R j).map aN) [.un,.un] [] _;refine wI (f:=λx y=>aN<|x+y) (rr R i) (rr R j) (λx hx y hy Q' q'=>?_) .un .un [] (du (by simp[fi.len];omega)) ?_
 .exact wu (E:=No) (B2.of (fi.sz x hx) (fj.sz y hy)<|by omega) q'
 .rw[dC]
  have e:List.zipWith (λx y=>aN<|x+y) (rr R i) (rr R j)=(eK (rr R i)<|rr R j).map aN:=by unfold eK;rw[uR]
  rw[e];exact⟨zT _,h⟩
theorem C2{R:List (List Rat)}{x:Nat}{p:Rat}{E:Ex->Prop}{P:List D->Prop}{s0 s1 s3 s4 s7:SV}(rl:R.length=n)(n5:n<=5)(fi:Lf b n (rr R i))(fj:Lf b n (rr R x))(hb:b<1000)(hi:i<n)(hx:x<n)(hp:Sz (3*b) p)(h:P ((List.zipWith (λu v=>u+p*v) (rr R i)<|rr R x).map aN)) :
  fg 2 (aLC (iZ<|aC (w2 gIx (wN 2)<|wN 13)<|aC (w2 gIx (wN 2)<|wN 10) aA) 2 [14] (dw 2<|cB (gN 0)<|cB (gN 1) dj) cE<|wF jI<|aC (wN 0)<|aC (wF jJ<|aC (wN 2)<|aC (wN 1) aA) aA) E [s0,s1,.oo<|RD R,s3,s4,s5,s6,s7,s8,s9,.d<|.int x,s11,s12,.d<|.int i,.d<|aN p] P:=by
 show gIx (.lst<|(RD R).map .lst) (.int i) _;rw[rn];refine⟨_,G.rr_at<|by omega,?_⟩;show gIx (.lst<|(RD R).map .lst) (.int x) _;rw[rn];refine⟨_,G.rr_at<|by omega,?_⟩;show lcW _ _ _ (dO ((rr R i).map aN)<|(rr R x).map aN) [.un,.un,.d<|aN p] [] _;refine wI (f:=λu v=>aN<|u+p*v) (rr R i) (rr R x) (λu hu v hv Q' q'=>?_) .un .un [] (du (by simp[fi.len];omega)) ?_
 .have zu:=fi.sz u hu
  have zv:=fj.sz v hv;show jJ [aN p,aN v] No (λy=>jI [aN u,y] No Q');exact ul (B2.of hp zv<|by omega)<|wu (B2.of zu (hp.mul zv)<|by omega) q'
 .rw[dC]
  have e:List.zipWith (λu v=>aN<|u+p*v) (rr R i) (rr R x)=(List.zipWith (λu v=>u+p*v) (rr R i)<|rr R x).map aN:=by rw[uR]
  rw[e];exact⟨zT _,h⟩
theorem C3(h:q≠0):Rat.divInt (0-(q.den:Int)) q.num = -q⁻¹:=by rw[Rat.inv_def,Int.zero_sub,Rat.neg_divInt]
theorem zW(h:Sz b q)(nz:q≠0):Sz b (-q⁻¹):=by rw[<-C3 nz];exact BU (λz=>nz<|Ycx.mp z) (by rw[Int.zero_sub,Int.natAbs_neg,mB];exact h.2) h.1
theorem xy{l:Nat}(hn:n<=5)(hl:2<=l)(h:l<=n):bs (n-l)<=489:=gU (GE (show n-l<=3 by omega)) (by decide)
theorem LO{l:Nat}(hn:n<=5)(hl:1<=l):bs (n-l)<=1961:=gU (GE (show n-l<=4 by omega)) (by decide)
def C4:WS:=(bD 5<|aG (aQ 10<|w2 gIx (wN 5)<|wC<|.int<|0)<|aG (dA (kN 2<|w2 gIx (w2 gIx (wN 2)<|wN 10)<|wN 10)<|dw 2<|cB (gN 11)<|cB (gN 12) dj)<|aG (tE 3 (wB fD<|aC (w2 eS (wN 11)<|wC<|.int<|0) aA)<|wC<|.int<|1)<|aG (kM 4<|wN 10)<|bA<|pM 13 4<|aG (aQ 14<|kN 2<|wF jJ<|aC (w2 gIx (w2 gIx (wN 2)<|wN 13)<|wN 10)<|aC (wF nG<|aC (w2 ei (wC<|.int<|0)<|wN 12)<|aC (wN 11) aA) aA)<|my 2 (wN 13)<|fg 2<|aLC (iZ<|aC (w2 gIx (wN 2)<|wN 13)<|aC (w2 gIx (wN 2)<|wN 10) aA) 2 [14] (dw 2<|cB (gN 0)<|cB (gN 1) dj) cE<|wF jI<|aC (wN 0)<|aC (wF jJ<|aC (wN 2)<|aC (wN 1) aA) aA)
theorem GO{α β:Type}(f:α->β):∀(l:List α) (k:Nat),(l.map f).eraseIdx k=(l.eraseIdx k).map f
 |[],_=>rfl|_::_,0=>rfl|a::l,k+1=>by rw[cR,List.eraseIdx_cons_succ,GO f l k,List.eraseIdx_cons_succ,cR]
theorem LQ{S:D}{R:List (List Rat)}{gl:List Nat}{c a x:Nat}{E:Ex->Prop}{s7:SV}(rl:R.length=n)(n5:n<=5)(lf:∀r∈R,Lf c n r)(c2:2<=L.length->c<1000)(lt:∀i∈L,i<n)(nd:L.Pairwise (· < ·))(hx:L[k]? = some x)(nz:mt R x x≠0)
  (hn:∀t,t.length=10->N.nx ([.d S,.d<|.int n,.oo<|RD<|gi R x<|L.eraseIdx k,.ow [.int ((a+if 0<mt R x x then 1 else 0:Nat):Int),.int ((b+if mt R x x<0 then 1 else 0:Nat):Int)],.ow<|nD<|L.eraseIdx k]++t)) :
  C4 E N [.d S,.d<|.int n,.oo<|RD R,.ow [.int (a:Int),.int (b:Int)],.ow<|nD L,.d<|.lst<|nD (x::gl),s6,s7,s8,s9,s10,s11,s12,s13,s14]:=by
 have hxm:x∈L:=jy hx;have xl:=lt x hxm;have hk:k<L.length:=(Yaq.mp hx).1;unfold C4;refine B.C.pub_by (ρ':=[.d S,.d<|.int n,.oo<|RD R,.ow [.int (a:Int),.int (b:Int)],.ow<|nD L,.d<|.lst<|nD (x::gl),s6,s7,s8,s9,s10,s11,s12,s13,s14]) rfl ?_;refine bU<|LP.set_by (d:=.int x) (ρ':=[.d S,.d<|.int n,.oo<|RD R,.ow [.int (a:Int),.int (b:Int)],.ow<|nD L,.d<|.lst<|nD (x::gl),s6,s7,s8,s9,.d<|.int x,s11,s12,s13,s14]) (by rfl) (λP hP=>⟨_,bQ (j:=0) rfl,hP⟩) ?_;dsimp only;refine bU<|zP (x:=.int (mt R x x).num) (y:=.int ((mt R x x).den:Int)) (λP hP=>?_) (ρ':=[.d S,.d<|.int n,.oo<|RD R,.ow [.int (a:Int),.int (b:Int)],.ow<|nD L,.d<|.lst<|nD (x::gl),s6,s7,s8,s9,.d<|.int x,.d<|.int (mt R x x).num,.d<|.int ((mt R x x).den:Int),s13,s14]) (by rfl) ?_
 .show gIx (.lst<|(RD R).map .lst) (.int x) λy=>gIx y (.int x) _
  rw[rn];exact GK rl lf xl xl ⟨rfl,hP⟩
 dsimp only;have sg:((mt R x x).num<0↔mt R x x<0):=Zeg.2;have sp:(0<(mt R x x).num↔0<mt R x x):=Zeg.1;have nn:(mt R x x).num≠0:=λz=>nz<|Ycx.mp z;generalize hF:([.int ((a+if 0<mt R x x then 1 else 0:Nat):Int),.int ((b+if mt R x x<0 then 1 else 0:Nat):Int)]:List D)=F at hn;have item:∃cc j,dW ([.int (a:Int),.int (b:Int)]:List D) (if(mt R x x).num<0 then 1 else 0)=some (.int cc)/\jB 2 (if(mt R x x).num<0 then 1 else 0)=some j/\([.int (a:Int),.int (b:Int)]:List D).set j (.int<|cc+1)=F:=by
  subst hF
  by_cases z:(mt R x x).num<0
  .rw[oI z]
   refine⟨b,1,rfl,rfl,?_⟩;have z2:=sg.mp z;have z3:¬0<mt R x x:=λy=>by have:=sp.mpr y;omega
   rw[oI z2,ks z3];rfl
  .rw[ks z]
   refine⟨a,0,rfl,rfl,?_⟩;have z2:¬mt R x x<0:=λy=>z<|sg.mpr y;have z3:0<mt R x x:=sp.mp (by omega);rw[ks z2,oI z3];rfl
 obtain⟨cc,jj,i1,i2,i3⟩:=item;have nd':∀i j:Nat,i<k->L[i]?≠some x:=λi _ hi z=>by
  have hil:i<L.length:=by omega
  have:=Yc1.mp nd i k hil hk hi;rw[bJ hil]at z;rw[bJ hk]at hx;have e1:=Ng z;have e2:=Ng hx;omega
 have el:(L.eraseIdx k).length=L.length-1:=Av hk;have hmem:∀i∈L.eraseIdx k,i∈L:=λi hi=>List.mem_of_mem_eraseIdx hi;have hxn:x∉L.eraseIdx k:=λz=>by
  obtain⟨i,hi,e⟩:=Yc4.mp z;have hil:i<L.length:=(Yaq.mp e).1;have pw:=Yc1.mp nd;rw[bJ hil]at e;rw[bJ hk]at hx;have e1:=Ng e;have e2:=Ng hx;rcases yh i k with z|z|z
  .have:=pw i k hil hk z;omega
  .exact hi z
  .have:=pw k i hk hil z;omega
 have nde:(L.eraseIdx k).Nodup:=(nd.sublist<|List.eraseIdx_sublist _ _).imp λh=>gK h;refine bU ?_;simp only[tE,wB,aC,aA,w2,wN,wC,db,de,eS,fK,nI,mq];refine⟨trivial,?_⟩;rw[show(if decide ((mt R x x).num<0)=true then(1:Int) else 0)=if(mt R x x).num<0 then 1 else 0 by simp];refine⟨cc,jj,i1,i2,?_⟩;simp only[eX,eY];rw[i3];refine bU ?_;simp only[kM,wN,db,de,mq];refine⟨L.map λi:Nat=>(i:Int),k,by unfold nD;rw[cY];rfl,by rw[cH,hx];rfl,λi hi=>?_,?_⟩
 .rw[cH]
  intro z;cases e:L[i]? with
  |none=>rw[e]at z;cases z
  |some y=>
   rw[e]at z;have:(y:Int)=(x:Int):=Ng z;exact nd' i i hi (by rw[e];congr 1;omega)
 have e4:((L.map λi:Nat=>(i:Int)).eraseIdx k).map D.int=nD (L.eraseIdx k):=by rw[GO];unfold nD;rw[cY];rfl
 rw[e4];simp only[eX,eY,bA,pM,db,de];refine CW (L:=L.eraseIdx k) (λL1 ρ=>∃s13 s14,ρ=[.d S,.d<|.int n,.oo<|RD<|gi R x L1,.ow F,.ow<|nD<|L.eraseIdx k,.d<|.lst<|nD (x::gl),s6,s7,s8,s9,.d<|.int x,.d<|.int (mt R x x).num,.d<|.int ((mt R x x).den:Int),s13,s14]) ?_ ?_ ?_ (L.eraseIdx k) [] _ rfl ⟨s13,s14,by rw[LG]⟩
 .rintro L1 _ ⟨s13,s14,rfl⟩;rfl
 .rintro L1 i L2 _ eL ⟨s13,s14,rfl⟩ nx hnx
  have iL':i∈L.eraseIdx k:=by rw[eL];simp
  have iL:=hmem i iL';have il:=lt i iL;have l2:2<=L.length:=by
   have:1<=(L.eraseIdx k).length:=At iL';omega
  have hc:=c2 l2;have ni:i∉L1:=λz=>by
   rw[eL]at nde;have:=(List.nodup_append.mp nde).2.2 i z i (by simp);exact this rfl
  have nx1:x∉L1:=λz=>hxn (by rw[eL];simp[z]);have ri:rr (gi R x L1) i=rr R i:=by rw[rp<|by omega,ks ni]
  have rx:rr (gi R x L1) x=rr R x:=by rw[rp<|by omega,ks nx1]
  have fi:Lf c n (rr (gi R x L1) i):=by rw[ri];exact lf _<|lv (by omega)
  have fx:Lf c n (rr (gi R x L1) x):=by rw[rx];exact lf _<|lv (by omega)
  have zi:=(fi.get xl).2;have zx:Sz c (mt R x x):=by have:=(fx.get xl).2;rw[rx]at this;exact this
  have mi:(rr (gi R x L1) i).getD x 0=mt R i x:=by rw[ri];rfl
  rw[mi]at zi;simp only[eX,eY];refine bU<|LP.set_by (d:=aN<|mt R i x * -(mt R x x)⁻¹) (ρ':=[.d S,.d<|.int n,.oo<|RD<|gi R x L1,.ow F,.ow<|nD<|L.eraseIdx k,.d<|.lst<|nD (x::gl),s6,s7,s8,s9,.d<|.int x,.d<|.int (mt R x x).num,.d<|.int ((mt R x x).den:Int),.d<|.int i,.d<|aN<|mt R i x * -(mt R x x)⁻¹]) (by rfl) (λP hP=>?_) ?_
  .show gIx (.lst<|(RD<|gi R x L1).map .lst) (.int i) λy=>gIx y (.int x) _
   rw[rn];refine⟨_,G.rr_at (by rw[pN];omega),_,xu fi xl,?_⟩;rw[mi];simp only[aC,aA,wF,w2,wC,wN,bT,rows,pub,db,de,eX,eY,ei,fK];refine⟨trivial,?_⟩;refine ze nn (da zx.1<|lZ (by decide)<|by omega) ?_;rw[C3 nz];exact ul (B2.of zi (zW zx nz)<|by omega) ⟨rfl,hP⟩
  dsimp only;simp only[my,db,de];refine C2 (n:=n) (b:=c) (p:=mt R i x * -(mt R x x)⁻¹) (by rw[pN,rl]) n5 fi fx hc il xl ((zi.mul<|zW zx nz).mono<|by omega) ?_;refine⟨i,CV (by rw[CO,pN];omega),?_⟩;rw[CP];have e5:List.zipWith (λu v=>u+mt R i x * -(mt R x x)⁻¹*v) (rr (gi R x L1) i) (rr (gi R x L1) x)=elF (rr (gi R x L1) i) (rr (gi R x L1) x) x:=by
   unfold elF;rw[mi,show(rr (gi R x L1) x).getD x 0=mt R x x by rw[rx];rfl]
  rw[e5,LH (by omega) ni nx1<|by omega];exact hnx _ ⟨_,_,rfl⟩
 .rintro _ ⟨s13,s14,rfl⟩
  exact hn [_,_,_,_,_,_,_,_,_,_] rfl
theorem rd__law_signs:Rd xm xq ZcB:=by
 rintro _ E Q ⟨⟨s,n⟩,rfl,⟨h,ev⟩,q⟩;dsimp only at h ev q;have n1:=h.n1;have n5:=h.n5;have hsl:=h.len;have q:Q (.tup [.int<|iI s n<|gh s n,.int<|j7 s n<|gh s n,.int<|(n:Int)-iI s n (gh s n)-j7 s n (gh s n)]):=by
  have:=q;unfold mx at this;rw[(CF h ev).len]at this;exact this
 show xq E _ [.d<|aR s,.un,.un,.un,.un,.un,.un,.un,.un,.un,.un,.un,.un,.un,.un];unfold xq;refine bU<|LP.set_by (d:=.int n) (ρ':=[.d<|aR s,.d<|.int n,.un,.un,.un,.un,.un,.un,.un,.un,.un,.un,.un,.un,.un]) (by rfl) (λP hP=>G.V5.size_w h hP) ?_;dsimp only;refine bU ?_;have oo:∀P:List (List D)->Prop,P (RD<|(tbl s n).map d7)->w6 (dU<|aC (wN 1) aA) 1 [0,1] (gN 0) cE (aLC (dU<|aC (wN 2) aA) 1 [0,1,2] (gN 0) cE<|aZ<|aC (w2 gIx (wN 2)<|w2 ei (w2 gAdd (w2 ei (wN 0)<|wN 1)<|wN 3)<|wC<|.int<|1)<|aC (wC<|.int<|1) aA) E [.d<|aR s,.d<|.int n,.un,.un,.un,.un,.un,.un,.un,.un,.un,.un,.un,.un,.un] P:=λP hP=>by
  simp only[w6,dU,aC,aA,wN,db,de];refine⟨by omega,by omega,?_⟩;show lcM _ _ _ (rng 0 (n:Int).toNat) [.un,.d<|aR s,.d<|.int n] [] _;rw[iN,jX];refine GM (g:=λk:Nat=>D.int (k:Int)) (f:=λi=>((List.range n).map λj=>((fe s n i j:Int):Rat)).map aN) (List.range n) (λi hi Q hq=>?_) .un [] (by simp[small];omega) ?_
  .rw[Yah]at hi
   simp only[aLC,dU,aC,aA,wN,cR,gX,db,de];refine⟨by omega,by omega,?_⟩;show lcW _ _ _ (rng 0 (n:Int).toNat) [.un,.d<|.int i,.d<|aR s,.d<|.int n] [] _;rw[iN,jX];refine jW (g:=λk:Nat=>D.int (k:Int)) (f:=λj=>aN ((fe s n i j:Int):Rat)) (List.range n) (λj hj Q hq=>?_) .un [] (by simp[small];omega) ?_
   .rw[Yah]at hj
    walk_at "s";have e1:(s.map D.int)[n-1-i+j]? = some (.int<|fe s n i j):=by
     unfold fe;rw[cH,bN,bJ<|by omega];rfl
    rw[show(j:Int)-(i:Int)+(n:Int)-1=((n-1-i+j:Nat):Int) by omega];exact⟨_,bQ e1,by decide,hq⟩
   .rw[dC]
    rw[cY]at hq;exact hq
  .rw[dC]
   have e:(List.range n).map (λi=>((List.range n).map λj=>((fe s n i j:Int):Rat)).map aN)=RD ((tbl s n).map d7):=by
    unfold RD;rw[B0 h,cY,cY];refine iO λi _=>?_;show _=(d7<|(List.range n).map λj=>fe s n i j).map aN;unfold d7;rw[cY,cY,cY];rfl
   rw[e];exact hP
 refine oo _ ⟨rfl,?_⟩;clear oo;dsimp only;show aG _ _ _ _ [.d<|aR s,.d<|.int n,.oo<|RD<|(tbl s n).map d7,.un,.un,.un,.un,.un,.un,.un,.un,.un,.un,.un,.un];refine bU<|C0 (xs:=[.int 0,.int 0]) (ρ':=[.d<|aR s,.d<|.int n,.oo<|RD<|(tbl s n).map d7,.ow [.int 0,.int 0],.un,.un,.un,.un,.un,.un,.un,.un,.un,.un,.un]) (by rfl) (λP hP=>⟨by decide,hP⟩) ?_;dsimp only;refine bU<|C0 (xs:=nD<|List.range n) (ρ':=[.d<|aR s,.d<|.int n,.oo<|RD<|(tbl s n).map d7,.ow [.int 0,.int 0],.ow<|nD<|List.range n,.un,.un,.un,.un,.un,.un,.un,.un,.un,.un]) (by rfl) (λP hP=>⟨by omega,by omega,by rw[iN,jX];exact hP⟩) ?_;dsimp only;have w0:=Ws.start h;have fin:∀{R:List (List Rat)} {L:List Nat} {a b:Nat},Ws s n R L a b->(∀i∈L,∀j∈L,mt R i j=0)->∀s4 s5 s6 s7 s8 s9 s10 s11 s12 s13 s14,bD 3 (aM<|aZ<|aC (w2 gIx (wN 3)<|wC<|.int<|0)<|aC (w2 gIx (wN 3)<|wC<|.int<|1)<|aC (w2 ei (w2 ei (wN 1)<|w2 gIx (wN 3)<|wC<|.int<|0)<|w2 gIx (wN 3)<|wC<|.int<|1) aA) E { nx:=λ_=>Q .non,rt:=Q } [.d<|aR s,.d<|.int n,.oo<|RD R,.ow [.int a,.int b],s4,s5,s6,s7,s8,s9,s10,s11,s12,s13,s14]:=λ{R L a b} w h0 s4 s5 s6 s7 s8 s9 s10 s11 s12 s13 s14=>by
  obtain⟨e1,e2⟩:=w.fin h ev h0;rw[e1,e2]at q;refine B.C.pub_by (ρ':=[.d<|aR s,.d<|.int n,.oo<|RD R,.d<|.lst [.int a,.int b],s4,s5,s6,s7,s8,s9,s10,s11,s12,s13,s14]) rfl ?_;walk_at "s";refine⟨_,rfl,_,rfl,_,rfl,?_⟩;walk_at "s";refine⟨_,rfl,?_⟩;walk_at "s";exact⟨by decide,q⟩
 refine bU ?_;simp only[bA];refine⟨λm ρ=>∃R L a b s5 s6 s7 s8 s9 s10 s11 s12 s13 s14,m=L.length/\Ws s n R L a b/\ρ=[.d<|aR s,.d<|.int n,.oo<|RD R,.ow [.int (a:Int),.int (b:Int)],.ow<|nD L,s5,s6,s7,s8,s9,s10,s11,s12,s13,s14],⟨_,_,_,0,0,_,_,_,_,_,_,_,_,_,_,rfl,w0,rfl⟩,?_⟩;rintro m _ ⟨R,L,a,b,s5,s6,s7,s8,s9,s10,s11,s12,s13,s14,rfl,w,rfl⟩;show([]:List D).length<=small/\gEq true (.lst<|nD L) (.lst []) (isB _);refine⟨by decide,xv (C1 L 59) true ?_⟩;cases L with
 |nil=>exact fin w (λi hi=>Nd hi<|by simp) _ _ _ _ _ _ _ _ _ _ _
 |cons x0 L0=>
 rw[oI<|by rfl];generalize hL:x0::L0=L at *;have l1:1<=L.length:=by rw[<-hL];simp
 clear hL x0 L0;have ll:L.length<=5:=gU w.ln n5;have bb:=LO n5 l1;refine bU<|C0 (xs:=nD<|L.filter λi=>decide (mt R i i≠0)) (ρ':=[.d<|aR s,.d<|.int n,.oo<|RD R,.ow [.int (a:Int),.int (b:Int)],.ow<|nD L,.ow<|nD<|L.filter λi=>decide (mt R i i≠0),s6,s7,s8,s9,s10,s11,s12,s13,s14]) (by rfl) (λP hP=>LM w.rl w.lf w.lt ll hP) ?_;dsimp only;refine B.C.pub_by (ρ':=[.d<|aR s,.d<|.int n,.oo<|RD R,.ow [.int (a:Int),.int (b:Int)],.ow<|nD L,.d<|.lst<|nD<|L.filter λi=>decide (mt R i i≠0),s6,s7,s8,s9,s10,s11,s12,s13,s14]) rfl ?_;have dn:∀{R2:List (List Rat)} {U:Nat->Nat->Rat},Il (Pj.cA<|sA s n) n L (mt R2) U a b->R2.length=n->(∀r∈R2,Lf (2*bs (n-L.length)+2) n r)->∀{x k:Nat} {gl:List Nat},L[k]? = some x->mt R2 x x≠0->∀{N:Nds},(∀ρ',(∃m',m'<L.length/\∃R L a b s5 s6 s7 s8 s9 s10 s11 s12 s13 s14,m'=L.length/\Ws s n R L a b/\ρ'=[.d<|aR s,.d<|.int n,.oo<|RD R,.ow [.int (a:Int),.int (b:Int)],.ow<|nD L,s5,s6,s7,s8,s9,s10,s11,s12,s13,s14])->N.nx ρ')->∀s6 s7 s8 s9 s10 s11 s12 s13 s14,
   C4 No N [.d<|aR s,.d<|.int n,.oo<|RD R2,.ow [.int (a:Int),.int (b:Int)],.ow<|nD L,.d<|.lst<|nD (x::gl),s6,s7,s8,s9,s10,s11,s12,s13,s14]:=λ{R2 U} I2 r2 lf2 {x k gl} hx nz {N} hN s6 s7 s8 s9 s10 s11 s12 s13 s14=>by
  have hk:k<L.length:=(Yaq.mp hx).1;refine LQ r2 n5 lf2 (λl2=>by have:=xy n5 l2 w.ln;omega) w.lt w.asc hx nz λt ht=>hN _ ⟨(L.eraseIdx k).length,?_,?_⟩
  .rw[Av hk];omega
  .match t,ht with
   |[t5,t6,t7,t8,t9,t10,t11,t12,t13,t14],_=>exact⟨_,_,_,_,t5,t6,t7,t8,t9,t10,t11,t12,t13,t14,rfl,xo h ev I2 r2 lf2 w.asc w.ln hx nz,rfl⟩
 obtain⟨U,I⟩:=w.il;have lf2:∀r∈R,Lf (2*bs (n-L.length)+2) n r:=λr hr=>(w.lf r hr).mono (by omega);cases hG:L.filter λi=>decide (mt R i i≠0) with
 |cons x gl=>
  have hx:x∈L.filter λi=>decide (mt R i i≠0):=by rw[hG];simp
  obtain⟨hxL,hxn⟩:=Yag.mp hx;obtain⟨k,hk⟩:=List.mem_iff_getElem?.mp hxL;refine bU<|j6 (b:=false) (λP hP=>?_) (λe=>nomatch e) λ_=>?_
  .show([]:List D).length<=small/\gEq false (.lst<|nD (x::gl)) (.lst []) (isB P)
   exact⟨by decide,xv (C1 _ 59) false hP⟩
  .exact dn I w.rl lf2 hk (by simpa using hxn) (λρ' h'=>h') _ _ _ _ _ _ _ _ _
 |nil=>
  have d0:∀i∈L,mt R i i=0:=λi hi=>by
   have:=List.filter_eq_nil_iff.mp hG i hi;simpa using this
  refine bU<|j6 (b:=true) (λP hP=>?_) (λ_=>?_) λe=>nomatch e
  .show([]:List D).length<=small/\gEq false (.lst<|nD []) (.lst []) (isB P)
   exact⟨by decide,xv (C1 _ 59) false hP⟩
  dsimp only;refine bU<|LP.set_by (d:=.lst<|pD<|iJ L (mt R) []) (ρ':=[.d<|aR s,.d<|.int n,.oo<|RD R,.ow [.int (a:Int),.int (b:Int)],.ow<|nD L,.d<|.lst<|nD [],.d<|.lst<|pD<|iJ L (mt R) [],s7,s8,s9,s10,s11,s12,s13,s14]) (by rfl) (λP hP=>⟨by decide,hP⟩) ?_;dsimp only;refine bU ?_;simp only[bA,pM,db,de];refine CW (L:=L) (λL1 ρ=>∃s7,ρ=[.d<|aR s,.d<|.int n,.oo<|RD R,.ow [.int (a:Int),.int (b:Int)],.ow<|nD L,.d<|.lst<|nD [],.d<|.lst<|pD<|iJ L (mt R) L1,s7,s8,s9,s10,s11,s12,s13,s14]) ?_ ?_ ?_ L [] _ rfl ⟨_,rfl⟩
  .rintro L1 _ ⟨s7,rfl⟩;rfl
  .rintro L1 k L2 _ eL ⟨s7,rfl⟩ nx hnx
   have kL:k∈L:=by rw[eL];simp
   have l1':L1.length<=5:=by have:=congrArg List.length eL;simp at this;omega
   simp only[eX,eY];refine LP.set_by (d:=.lst<|pD<|iJ L (mt R)<|L1++[k]) (ρ':=[.d<|aR s,.d<|.int n,.oo<|RD R,.ow [.int (a:Int),.int (b:Int)],.ow<|nD L,.d<|.lst<|nD [],.d<|.lst<|pD<|iJ L (mt R)<|L1++[k],.d<|.int k,s8,s9,s10,s11,s12,s13,s14]) (by rfl) (λP hP=>?_)<|hnx _ ⟨_,rfl⟩;exact LN w.rl w.lf w.lt ll l1' (w.lt k kL) hP
  rintro _ ⟨s7,rfl⟩;dsimp only;cases hP:iJ L (mt R) L with
  |nil=>
   have p0:∀i∈L,∀j∈L,i<j->mt R i j=0:=λi hi j hj ij=>Classical.byContradiction λz=>by
    have:(i,j)∈iJ L (mt R) L:=Zml.mpr ⟨hi,hj,ij,z⟩;rw[hP]at this;cases this
   have z0:∀i∈L,∀j∈L,mt R i j=0:=λi hi j hj=>by
    rcases yh i j with z|z|z
    .exact p0 i hi j hj z
    .rw[<-z];exact d0 i hi
    .rw[w.sym h ev hi hj];exact p0 j hj i hi z
   refine bU<|j6 (b:=true) (λP hP=>?_) (λ_=>?_) λe=>nomatch e
   .show([]:List D).length<=small/\gEq false (.lst<|pD []) (.lst []) (isB P)
    exact⟨by decide,xv (GN _ 58) false hP⟩
   .exact fin w z0 _ _ _ _ _ _ _ _ _ _ _
  |cons ij pr=>
   obtain⟨i,j⟩:=ij;have hm:(i,j)∈iJ L (mt R) L:=by rw[hP];simp
   obtain⟨hi,hj,ij,nz⟩:=Zml.mp hm;dsimp only at hi hj ij nz;have il:=w.lt i hi;have jl:=w.lt j hj;have rl:=w.rl;refine bU<|j6 (b:=false) (λP hP=>?_) (λe=>nomatch e) λ_=>?_
   .show([]:List D).length<=small/\gEq false (.lst<|pD ((i,j)::pr)) (.lst []) (isB P)
    exact⟨by decide,xv (GN _ 58) false hP⟩
   dsimp only;refine bU<|zP (x:=.int i) (y:=.int j) (λP hP=>⟨_,bQ (j:=0) rfl,hP⟩) (ρ':=[.d<|aR s,.d<|.int n,.oo<|RD R,.ow [.int (a:Int),.int (b:Int)],.ow<|nD L,.d<|.lst<|nD [],.d<|.lst<|pD ((i,j)::pr),.d<|.int i,.d<|.int j,s9,s10,s11,s12,s13,s14]) (by rfl) ?_;dsimp only;have lf1:∀r∈R.set i (eK (rr R i)<|rr R j),Lf (2*bs (n-L.length)+1) n r:=λr hr=>by
    rcases rH hr with hr|rfl
    .exact(w.lf r hr).mono (by omega)
    .exact GF (w.lf _<|lv<|by omega)<|w.lf _ (lv<|by omega)
   obtain⟨⟨U2,I2⟩,lf3⟩:=w.pair h ev hi hj<|gK ij;refine bU ?_;simp only[my,db,de];refine xw w.rl n5 w.lf (by omega) il jl ⟨i,CV (by rw[CO];omega),?_⟩;rw[CP];generalize hR1:R.set i (eK (rr R i)<|rr R j)=R1 at lf1 I2 lf3;have r1:R1.length=n:=by rw[<-hR1,cU,rl]
   simp only[eX,eY];refine bU ?_;simp only[bA,uE,db,de];refine⟨by decide,by simp,?_⟩;rw[CO];have at9:∀r∈R1,∀k,k<n->∀P:D->Prop,P (aN<|r.getD k 0)->gIx (.lst<|r.map aN) (.int k) P:=λr hr k hk P hP=>⟨_,xu (lf1 r hr) hk,hP⟩;refine GI (c:=i) (f:=λr=>r.getD i 0+r.getD j 0) (λr hr=>by rw[(lf1 r hr).len];exact il) (λR' r hr P hP=>?_) (λR' r hr P hP=>hP) ?_ [] R1 rfl
   .refine at9 r hr i il _ (at9 r hr j jl _ ?_)
    have fr:=lf1 r hr;exact wu (B2.of (fr.get il).2 (fr.get jl).2<|by omega) hP
   simp only[eX,eY];refine LP.set_by (d:=.lst<|nD [i]) (ρ':=[.d<|aR s,.d<|.int n,.oo<|RD<|pO R1 i j,.ow [.int (a:Int),.int (b:Int)],.ow<|nD L,.d<|.lst<|nD [i],.d<|.lst<|pD ((i,j)::pr),.d<|.int i,.d<|.int j,.un,s10,s11,s12,s13,s14]) (by rfl) (λP hP=>⟨du<|by simp,hP⟩) ?_;obtain⟨k,hk⟩:=List.mem_iff_getElem?.mp hi;have nz2:mt (pO R1 i j) i i≠0:=by
    rw[<-hR1,GH w.rl w.wd il jl i i il il];unfold wU pL;rw[oI rfl,oI rfl,oI rfl,d0 i hi,d0 j hj,w.sym h ev hj hi];intro z;apply nz;grind
   exact dn I2 (by unfold pO;rw[bG,r1]) lf3 hk nz2 (λρ' h'=>h') _ _ _ _ _ _ _ _ _
end I9
namespace I9.I0
def xz:D->List (List Rat)
 |.lst xs=>xs.map rQ|_=>[]
def uF(s:List Int)(n:Nat)(P:List (List Rat)):Bool:=decide ((cQ P n).ld.length=n/\P.Pairwise λu v=>bF s n u v=0)
def jw(s:List Int)(n:Nat):D->Bool
 |.lst xs=>decide (xs.length=n)&&(xs.all (et n)&&uF s n (xs.map rQ))|_=>false
def eM(x y:D):Except Str D:=fP x (if ik x=true then .ok (.bl<|jw (sI x) (sN x) y) else .error "NotEven")
def h8(x y:D):Except Str D:=fP x (if ik x=true then(if jw (sI x) (sN x) y=true then .ok (mx (sI x) (sN x)<|xz y) else .error "NoRow") else .error "NotEven")
abbrev S__law_row_good:bX:=G.S__law_row_good
structure Gd(n:Nat)(y:D):Prop where
 k:kd y=true
 z:cZ 223 y=true
 l:∀P:List (List Rat),y=aS P->P.length=n->(∀r∈P,r.length=n)->∀r∈P,Lf 168 n r
def Gx(x y:D):Prop:=kd x=true/\kd y=true/\∀s n,x=aR s->IsSl s n->Gd n y
def uG:bX:=xS (λx:D×D=>[x.1,x.2]) (λx=>Gx x.1 x.2) λx=>eM x.1 x.2
def C5:bX:=xS (λx:D×D=>[x.1,x.2]) (λx=>Gx x.1 x.2) λx=>h8 x.1 x.2
def zX:bX:=fnS (λx:SL×List Rat=>[aR x.1.1,aF x.2]) (λx=>IsSl x.1.1 x.1.2/\x.2.length=x.1.2/\∀y∈x.2,Sz 170 y) λx=>aF<|cX x.1.1 x.1.2 x.2
def xC:bX:=fnS (λx:SL×List Rat×List Rat=>[aR x.1.1,aF x.2.1,aF x.2.2]) (λx=>IsSl x.1.1 x.1.2/\x.2.1.length=x.1.2/\x.2.2.length=x.1.2/\(∀y∈x.2.1,Sz 170 y)/\∀y∈x.2.2,Sz 170 y) λx=>aN<|bF x.1.1 x.1.2 x.2.1 x.2.2
def zY:bX:=fnS (λx:Nat×List (List Rat)=>[aS x.2]) (λx=>x.1<=5/\x.2.length=x.1/\∀r∈x.2,Lf 168 x.1 r) λx=>.bl<|decide ((cQ x.2 x.1).ld.length=x.1)
def xD:bX:=fnS (λx:SL×D=>[aR x.1.1,x.2]) (λx=>IsSl x.1.1 x.1.2/\x.1.1.reverse=x.1.1/\Gd x.1.2 x.2) λx=>.bl<|jw x.1.1 x.1.2 x.2
def xE:bX:=fnS (λx:SL×List (List Rat)=>[aR x.1.1,aS x.2]) (λx=>IsSl x.1.1 x.1.2/\x.2.length=x.1.2/\∀r∈x.2,lY x.1.2 r) λx=>mx x.1.1 x.1.2 x.2
def zZ:bX:=rlS (λr:List Rat=>[.pen,aF r]) (λr=>1<=r.length/\r.length<=5/\∀y∈r,Sz 223 y) λr d=>kd d=true/\cZ 223 d=true/\∀r':List Rat,r'.length=r.length->d≠aF r'
structure Bn(n:Nat)(P:List (List Rat)):Prop where
 len:P.length=n
 lf:∀r∈P,Lf 163 n r
def z5:bX:=rlS (λn:Nat=>[.pen,.int n]) (λn=>n<=5) λn d=>∃r:List Rat,Lf 80 n r/\d=aF r
def z6:bX:=rlS (λx:Nat×List (List Rat)=>[aS x.2,.pen]) (λx=>1<=x.1/\x.1<=5/\Bn x.1 x.2) λx d=>Gd x.1 d
def rq(k:Nat)(x y:D):Except Str D:=if k=0 then rk x else if k=1 then eM x y else h8 x y
def tK:bX:=fnS (λx:Nat×D×D=>[.int x.1,x.2.1,x.2.2]) (λx=>Gx x.2.1 x.2.2) λx=>nN<|rq x.1 x.2.1 x.2.2
def xF:bX:=fnS (λx:List Int=>[.scr<|x.map .int]) (λx=>x.length<=63) λ_=>.bl true
section
variable{E:Ex->Prop}{x:D}{u v:List Rat}
def LR(h:IsSl s n)(h1:r.length=n)(h2:∀y∈r,Sz 170 y)(q:Q (aF<|cX s n r)):zX [aR s,aF r] E Q:=⟨((s,n),r),rfl,⟨h,h1,h2⟩,q⟩
def GP(h:IsSl s n)(h1:lY n u)(h2:lY n v)(q:Q (aN<|bF s n u v)):xC [aR s,aF u,aF v] E Q:=⟨((s,n),u,v),rfl,⟨h,h1.len,h2.len,h1.sz,h2.sz⟩,q⟩
def LT(h:n<=5)(h1:P.length=n)(h2:∀r∈P,Lf 168 n r)(q:Q (.bl<|decide ((cQ P n).ld.length=n))):zY [aS P] E Q:=⟨(n,P),rfl,⟨h,h1,h2⟩,q⟩
def GQ(h:IsSl s n)(h1:s.reverse=s)(h2:Gd n y)(q:Q (.bl<|jw s n y)):xD [aR s,y] E Q:=⟨((s,n),y),rfl,⟨h,h1,h2⟩,q⟩
def GR(h:IsSl s n)(h1:P.length=n)(h2:∀r∈P,lY n r)(q:Q (mx s n P)):xE [aR s,aS P] E Q:=⟨((s,n),P),rfl,⟨h,h1,h2⟩,q⟩
def LU(h:1<=n)(h5:n<=5)(b:Bn n P)(q:∀d,Gd n d->Q d):z6 [aS P,.pen] E Q:=⟨(n,P),rfl,⟨h,h5,b⟩,q⟩
theorem LV(h:n<=5)(q:∀r:List Rat,Lf 80 n r->Q (aF r)):z5 [.pen,.int n] E Q:=⟨n,rfl,h,λd ⟨r,h1,hd⟩=>by rw[hd];exact q r h1⟩
def GS(h:Gx x y)(q:Q (nN<|rq k x y)):tK [.int k,x,y] E Q:=⟨(k,x,y),rfl,h,q⟩
end
abbrev Zds:List Str:=["slants", "thing", "size"]
def GT:WS:=(aG (jp<|wF ur<|aC (wN 0) aA)<|aG (aQ 2<|wF qu<|aC (wN 0) aA)<|aG (cN (e8 (bS<|wT<|wB gIs<|aC (wN 1)<|aC (wC<|.ty "list") aA)<|wT<|w2 (gEq true) (wB bH<|aC (wN 1) aA)<|wN 2) (aM<|wC<|D.bl false) cP)<|aG (cN (bS<|wT<|wB iA<|aC (wL<|aLC (iS<|wN 1) 1 [0] (gN 0) cE<|wF sY<|aC (wN 1)<|aC (wN 0) aA) aA) (aM<|wC<|D.bl false) cP)<|aM<|iX (wF zK<|aC (wN 1)<|aC (wN 2) aA)<|wF zN<|aC (wN 0)<|aC (wN 1) aA)
abbrev Zih:List Str:=["slants", "paper", "tops", "above", "below"]
def C6:WS:=(aG (cN (bS<|wT<|wF uG<|aC (wN 0)<|aC (wN 1) aA) (jH<|PySem.Str.ofString "NoRow") cP)<|aG (bM 2<|aLC (iS<|wN 1) 1 [0] (gN 0) cE<|w2 gIx (wF zM<|aC (wN 1)<|aC (wN 0) aA)<|wC<|.int<|0)<|bD 2<|aG (aQ 3<|wB bH<|aC (wL<|aLC (iS<|wN 2) 1 [] (gN 0) (wT<|w2 nA (wN 0)<|wC<|.int<|0)<|wN 0) aA)<|bD 2<|aG (aQ 4<|wB bH<|aC (wL<|aLC (iS<|wN 2) 1 [] (gN 0) (wT<|w2 eS (wN 0)<|wC<|.int<|0)<|wN 0) aA)<|bD 2<|aM<|aZ<|aC (wN 3)<|aC (wN 4)<|aC (w2 ei (w2 ei (wB bH<|aC (wN 2) aA)<|wN 3)<|wN 4) aA)
abbrev ZhC:List Str:=["_law_slants", "_law_row", "_law_size", "_law_found", "_law_i", "_law_amount", "_law_j"]
def GU:WS:=(aG (aQ 2<|w2 fJ (w2 gAdd (wB bH<|aC (wN 0) aA)<|wC<|.int<|1)<|wC<|.int<|2)<|aG (bM 3<|aY aA)<|aG (bA<|bP (dU<|aC (wN 2) aA) (gN 4)<|aG (aQ 5<|aZ<|aC (wC<|.int<|0)<|aC (wC<|.int<|1) aA)<|aG (bA<|bP (dU<|aC (wN 2) aA) (gN 6)<|aQ 5<|wF jI<|aC (wN 5)<|aC (wF jJ<|aC (aZ<|aC (w2 gIx (wN 0)<|w2 ei (w2 gAdd (w2 ei (wN 6)<|wN 4)<|wN 2)<|wC<|.int<|1)<|aC (wC<|.int<|1) aA)<|aC (w2 gIx (wN 1)<|wN 6) aA) aA)<|dk 3<|wN 5)<|bD 3<|aM<|wB jF<|aC (wN 3) aA)
abbrev ZhE:List Str:=["_law_slants", "_law_one", "_law_other", "_law_amount", "_law_left", "_law_right"]
def C7:WS:=(aG (aQ 3<|aZ<|aC (wC<|.int<|0)<|aC (wC<|.int<|1) aA)<|aG (bA<|bP (iZ<|aC (wN 1)<|aC (wF zX<|aC (wN 0)<|aC (wN 2) aA) aA) (dw 2<|cB (gN 4)<|cB (gN 5) dj)<|aQ 3<|wF jI<|aC (wN 3)<|aC (wF jJ<|aC (wN 4)<|aC (wN 5) aA) aA)<|aM<|wN 3)
abbrev ZcB:List Str:=["_law_slants", "_law_size", "_law_rows", "_law_found", "_law_left", "_law_good_here", "_law_pairs", "_law_i", "_law_j", "_law_row", "_law_here", "_law_top", "_law_bottom", "_law_at", "_law_part"]
def xq:WS:=(aG (aQ 1<|w2 fJ (w2 gAdd (wB bH<|aC (wN 0) aA)<|wC<|.int<|1)<|wC<|.int<|2)<|aG (CL 2<|w6 (dU<|aC (wN 1) aA) 1 [0,1] (gN 0) cE<|aLC (dU<|aC (wN 2) aA) 1 [0,1,2] (gN 0) cE<|aZ<|aC (w2 gIx (wN 2)<|w2 ei (w2 gAdd (w2 ei (wN 0)<|wN 1)<|wN 3)<|wC<|.int<|1)<|aC (wC<|.int<|1) aA)<|aG (bM 3<|aY<|aC (wC<|.int<|0)<|aC (wC<|.int<|0) aA)<|aG (bM 4<|Cb<|aC (wN 1) aA)<|aG (bA<|ua (eR 4<|wT<|w2 (gEq true) (wN 4)<|wL<|aY aA)<|aG (bM 5<|fg 2<|aBor 4<|aLC (iS<|wN 4) 1 [2] (gN 0) (wT<|w2 (gEq true) (w2 gIx (w2 gIx (w2 gIx (wN 1)<|wN 0)<|wN 0)<|wC<|.int<|0)<|wC<|.int<|0)<|wN 0)<|bD 5<|aG (cN (wT<|w2 (gEq false) (wN 5)<|wL<|aY aA) (aG (aQ 6<|wL<|aY aA)<|aG (bA<|pM 7 4<|aQ 6<|wL<|fg 2<|aBor 4<|d6 (wN 6)<|wL<|aLC (iS<|wN 4) 1 [2,7] (gN 0) (dE (wT<|w2 eS (wN 2)<|wN 0)<|wT<|w2 (gEq true) (w2 gIx (w2 gIx (w2 gIx (wN 1)<|wN 2)<|wN 0)<|wC<|.int<|0)<|wC<|.int<|0)<|aZ<|aC (wN 2)<|aC (wN 0) aA)<|aG (cN (wT<|w2 (gEq false) (wN 6)<|wL<|aY aA) CM cP)<|aG (dA (w2 gIx (wN 6)<|wC<|.int<|0)<|dw 2<|cB (gN 7)<|cB (gN 8) dj)<|aG (my 2 (wN 7)<|fg 2<|aLC (iZ<|aC (w2 gIx (wN 2)<|wN 7)<|aC (w2 gIx (wN 2)<|wN 8) aA) 2 [] (dw 2<|cB (gN 0)<|cB (gN 1) dj) cE<|wF jI<|aC (wN 0)<|aC (wN 1) aA)<|aG (bA<|uE 9 2 (wN 7)<|wF jI<|aC (w2 gIx (wN 9)<|wN 7)<|aC (w2 gIx (wN 9)<|wN 8) aA)<|aQ 5<|wL<|aY<|aC (wN 7) aA) cP)<|bD 5<|aG (aQ 10<|w2 gIx (wN 5)<|wC<|.int<|0)<|aG (dA (kN 2<|w2 gIx (w2 gIx (wN 2)<|wN 10)<|wN 10)<|dw 2<|cB (gN 11)<|cB (gN 12) dj)<|aG (tE 3 (wB fD<|aC (w2 eS (wN 11)<|wC<|.int<|0) aA)<|wC<|.int<|1)<|aG (kM 4<|wN 10)<|bA<|pM 13 4<|aG (aQ 14<|kN 2<|wF jJ<|aC (w2 gIx (w2 gIx (wN 2)<|wN 13)<|wN 10)<|aC (wF nG<|aC (w2 ei (wC<|.int<|0)<|wN 12)<|aC (wN 11) aA) aA)<|my 2 (wN 13)<|fg 2<|aLC (iZ<|aC (w2 gIx (wN 2)<|wN 13)<|aC (w2 gIx (wN 2)<|wN 10) aA) 2 [14] (dw 2<|cB (gN 0)<|cB (gN 1) dj) cE<|wF jI<|aC (wN 0)<|aC (wF jJ<|aC (wN 2)<|aC (wN 1) aA) aA)<|bD 3<|aM<|aZ<|aC (w2 gIx (wN 3)<|wC<|.int<|0)<|aC (w2 gIx (wN 3)<|wC<|.int<|1)<|aC (w2 ei (w2 ei (wN 1)<|w2 gIx (wN 3)<|wC<|.int<|0)<|w2 gIx (wN 3)<|wC<|.int<|1) aA)
abbrev Zin:List Str:=["_law_rows", "_law_left", "_law_at", "_law_good_here", "_law_top", "_law_bottom", "_law_other", "_law_part"]
def C8:WS:=(aG (bM 1<|aLC (iS<|wN 0) 1 [] (gN 0) cE<|wL<|aB (fA (α:=Unit))<|aC (wN 0) aA)<|bD 3<|aG (bA<|bP (dU<|aC (ef 1<|wB bH<|aC (wN 1) aA) aA) (gN 2)<|aG (bM 3<|aBor 1<|aLC (dU<|aC (wB bH<|aC (w2 gIx (wN 1)<|wN 2) aA) aA) 1 [1,2] (gN 0) (wT<|w2 (gEq true) (w2 gIx (w2 gIx (w2 gIx (wN 1)<|wN 2)<|wN 0)<|wC<|.int<|0)<|wC<|.int<|0)<|wN 0)<|bD 3<|aG (cN (wT<|w2 (gEq false) (wN 3)<|wL<|aY aA) (aM<|wC<|D.bl false) cP)<|bD 3<|aG (dA (ef 1<|w2 gIx (w2 gIx (wN 1)<|wN 2)<|w2 gIx (wN 3)<|wC<|.int<|0)<|dw 2<|cB (gN 4)<|cB (gN 5) dj)<|bD 3<|bA<|bP (lg<|aC (w2 gAdd (wN 2)<|wC<|.int<|1)<|aC (ef 1<|wB bH<|aC (wN 1) aA) aA) (gN 6)<|bD 3<|aG (aQ 7<|ef 1<|wF jJ<|aC (w2 gIx (w2 gIx (wN 1)<|wN 6)<|w2 gIx (wN 3)<|wC<|.int<|0)<|aC (wF nG<|aC (w2 ei (wC<|.int<|0)<|wN 5)<|aC (wN 4) aA) aA)<|jr 1 (wN 6)<|wL<|aBor 1<|aLC (iZ<|aC (w2 gIx (wN 1)<|wN 6)<|aC (w2 gIx (wN 1)<|wN 2) aA) 2 [7] (dw 2<|cB (gN 0)<|cB (gN 1) dj) cE<|wF jI<|aC (wN 0)<|aC (wF jJ<|aC (wN 2)<|aC (wN 1) aA) aA)<|aM<|wC<|D.bl true)
abbrev ZhD:List Str:=["_law_slants", "_law_thing", "_law_size", "_law_at"]
def GV:WS:=(aG (aQ 2<|w2 fJ (w2 gAdd (wB bH<|aC (wN 0) aA)<|wC<|.int<|1)<|wC<|.int<|2)<|aG (cN (e8 (bS<|wT<|wB gIs<|aC (wN 1)<|aC (wC<|.ty "list") aA)<|wT<|w2 (gEq true) (wB bH<|aC (wN 1) aA)<|wN 2) (aM<|wC<|D.bl false) cP)<|aG (cN (e8 (bS<|wT<|wB iA<|aC (wL<|aLC (iS<|wN 1) 1 [2] (gN 0) cE<|wF S__law_row_good<|aC (wN 1)<|aC (wN 0) aA) aA)<|bS<|wT<|wF zY<|aC (wN 1) aA) (aM<|wC<|D.bl false) cP)<|aG (bA<|bP (dU<|aC (wN 2) aA) (gN 3)<|cN (wT<|w2 (gEq true) (wL<|aLC (dU<|aC (wN 3) aA) 1 [0,1,3] (gN 0) (wT<|w2 (gEq true) (w2 gIx (wF xC<|aC (wN 1)<|aC (w2 gIx (wN 2)<|wN 3)<|aC (w2 gIx (wN 2)<|wN 0) aA)<|wC<|.int<|0)<|wC<|.int<|0)<|wN 0)<|wL<|aY aA) (aM<|wC<|D.bl false) cP)<|aM<|wC<|D.bl true)
abbrev Zgk:List Str:=["_law_slants", "_law_rows", "_law_forms", "_law_above"]
def C9:WS:=(aG (bM 2<|aLC (iS<|wN 1) 1 [0] (gN 0) cE<|w2 gIx (wF xC<|aC (wN 1)<|aC (wN 0)<|aC (wN 0) aA)<|wC<|.int<|0)<|bD 2<|aG (aQ 3<|wB bH<|aC (wL<|aLC (iS<|wN 2) 1 [] (gN 0) (wT<|w2 nA (wN 0)<|wC<|.int<|0)<|wN 0) aA)<|bD 2<|aM<|aZ<|aC (wN 3)<|aC (wB bH<|aC (wL<|aLC (iS<|wN 2) 1 [] (gN 0) (wT<|w2 eS (wN 0)<|wC<|.int<|0)<|wN 0) aA)<|aC (wM Zp (wN 2)<|aC (wC<|.int<|0) aA) aA)
abbrev ZhG:List Str:=["_law_rows", "_law_pen", "_law_spot", "_law_row", "_law_other", "_law_some"]
def Da:WS:=(aG (aQ 2<|wF i4<|aC (wN 1)<|aC (wB bH<|aC (wN 0) aA) aA)<|aG (aQ 3<|w2 gIx (wN 0)<|wN 2)<|aG (bM 4<|aY<|aC (wF zZ<|aC (wN 1)<|aC (wN 3) aA)<|aC (w2 gIx (wN 0)<|w2 ei (wN 2)<|wC<|.int<|1)<|aC (w2 ZcI (aZ<|aC (aZ<|aC (wC<|.int<|0)<|aC (wC<|.int<|1) aA) aA)<|wB bH<|aC (wN 3) aA) aA)<|aG (dk 4<|wB jF<|aC (wL<|aLC (iS<|wN 3) 1 [] (gN 0) cE<|wF jJ<|aC (wN 0)<|aC (aZ<|aC (wC<|.int<|2)<|aC (wC<|.int<|3) aA) aA) aA)<|bD 4<|aG (aQ 5<|wL<|aY<|aC (w2 gAdd (w2 gAdd (bO (wN 0) dY<|dv<|wN 2)<|wL<|aY<|aC (w2 gIx (wN 4)<|wF i4<|aC (wN 1)<|aC (wC<|.int<|4) aA) aA)<|bO (wN 0) (dv<|w2 gAdd (wN 2)<|wC<|.int<|1) dY)<|aC (w2 gAdd (bO (wN 0) dY<|dv<|wN 2)<|bO (wN 0) (dv<|w2 gAdd (wN 2)<|wC<|.int<|1) dY)<|aC (w2 gAdd (wN 0)<|wL<|aY<|aC (wN 3) aA) aA)<|aM<|w2 gIx (w2 gAdd (wN 5)<|wL<|aY<|aC (wB jF<|aC (wN 0) aA)<|aC (w1 gRev<|wN 0)<|aC (wL<|aLC (iS<|wN 0) 1 [] (gN 0) cE<|wL<|aB (fA (α:=Unit))<|aC (wN 0) aA)<|aC (wC D.non)<|aC (wC<|.int<|0)<|aC (wC .dic)<|aC (wL<|aY<|aC (wN 0) aA) aA)<|wF i4<|aC (wN 1)<|aC (wC<|.int<|10) aA)
abbrev ZhA:List Str:=["_law_way", "_law_slants", "_law_thing", "_law_e"]
def GW:WS:=(f9 LX 4 3 (aG (cN (wT<|w2 (gEq false) (wN 0)<|wC<|.int<|0) (aM<|wF wY<|aC (wN 1) aA) cP)<|aM<|j4 (wT<|w2 (gEq false) (wN 0)<|wC<|.int<|1) (wF uG<|aC (wN 1)<|aC (wN 2) aA)<|wF C5<|aC (wN 1)<|aC (wN 2) aA)<|aM<|wF zg<|aC (wN 3) aA)
abbrev GX:List Str:=["_law_script", "_law_cell", "_law_pen", "_law_even", "_law_size", "_law_told_here", "_law_units", "_law_things", "_law_thing", "_law_good_here", "_law_found", "_law_other", "_law_bad"]
def z7:WS:=(bD 6<|aG (bA<|bP (iS<|w2 gAdd (wL<|aY<|aC (wF y9<|aC (wN 0)<|aC (wC<|.int<|0) aA) aA)<|bO (wN 0) (dv<|wC<|.int<|1)<|dv<|wC<|.int<|4) (gN 1)<|aG (aQ 2<|wF zd<|aC (wN 1) aA)<|aG (aQ 3<|wF zR<|aC (wN 2) aA)<|aG (aQ 4<|w2 fJ (w2 gAdd (wB bH<|aC (wN 3) aA)<|wC<|.int<|1)<|wC<|.int<|2)<|aG (aQ 5<|wF wY<|aC (wN 3) aA)<|aG (cN (e8 (bS<|wT<|wF xD<|aC (wN 3)<|aC (wN 5) aA)<|e8 (wT<|w2 (gEq true) (wF xE<|aC (wN 3)<|aC (wN 5) aA)<|wF xm<|aC (wN 3) aA)<|wT<|w2 (gEq true) (wF wY<|aC (wN 3) aA)<|wN 5) (aM<|wC<|D.bl false) cP)<|aG (bM 6<|aLC (dU<|aC (wN 4) aA) 1 [4] (gN 0) cE<|wB jF<|aC (wL<|aLC (dU<|aC (wN 1) aA) 1 [0] (gN 0) cE<|aZ<|aC (wB fD<|aC (w2 (gEq false) (wN 0)<|wN 1) aA)<|aC (wC<|.int<|1) aA) aA)<|bD 6<|aG (aQ 7<|wL<|aY<|aC (wN 5)<|aC (wN 6)<|aC (wL<|aLC (dU<|aC (wN 4) aA) 1 [2,4] (gN 0) cE<|wF z5<|aC (wN 1)<|aC (wN 2) aA) aA)<|aG (bA<|bP (iS<|w2 gAdd (wN 7)<|wL<|aLC (iS<|w2 gAdd (wN 7)<|wN 7) 1 [2] (gN 0) cE<|wF z6<|aC (wN 0)<|aC (wN 1) aA) (gN 8)<|aG (aQ 9<|wF xD<|aC (wN 3)<|aC (wN 8) aA)<|aG (aQ 10<|wF uG<|aC (wN 3)<|aC (wN 8) aA)<|aG (cN (e8 (bS<|wT<|wB gIs<|aC (wN 10)<|aC (wC<|.ty "bool") aA)<|wT<|w2 (gEq true) (wN 10)<|wN 9) (aM<|wC<|D.bl false) cP)<|cN (wT<|w2 gNeS (wB Zhk<|aC (wF tK<|aC (wC<|.int<|2)<|aC (wN 3)<|aC (wN 8) aA) aA)<|wB Zhk<|aC (j4 (wT<|wN 9) (wF xE<|aC (wN 3)<|aC (wN 8) aA)<|wC<|D.str<|PySem.Str.ofString "row") aA) (aM<|wC<|D.bl false) cP)<|aG (aQ 11<|wF wq<|aC (wN 2) aA)<|aG (cN (dE (wT<|w2 (gEq true) (wN 11)<|w1 gRev<|wN 11)<|wT<|w2 (gEq true) (wL<|aLC (dU<|aC (wC<|.int<|3) aA) 1 [11] (gN 0) cE<|wF tK<|aC (wN 0)<|aC (wN 1)<|aC (wC D.non) aA)<|w2 gMul (wL<|aY<|aC (wC<|D.str<|PySem.Str.ofString "even") aA)<|wC<|.int<|3) (aM<|wC<|D.bl false) cP)<|aG (aQ 12<|wF zj<|aC (wN 2)<|aC (wN 3) aA)<|cN (dE (bS<|wT<|wF zk<|aC (wN 12) aA)<|wT<|w2 (gEq true) (wL<|aLC (dU<|aC (wC<|.int<|3) aA) 1 [12] (gN 0) cE<|wF tK<|aC (wN 0)<|aC (wN 1)<|aC (wC D.non) aA)<|w2 gMul (wL<|aY<|aC (wC<|D.str<|PySem.Str.ofString "slants") aA)<|wC<|.int<|3) (aM<|wC<|D.bl false) cP)<|aM<|wC<|D.bl true)
theorem LW:Rd zX GU ZhC:=by
 rintro _ E Q ⟨⟨⟨s,n⟩,r⟩,rfl,⟨h,hl,hsz⟩,q⟩;dsimp only at h hl hsz q;have h5:=h.n5;have hsl:=h.len;unfold GU;walk_at "n";refine⟨⟨by decide,ju (n:=2) (by decide)<|by omega⟩,?_⟩;rw[yb _<|by decide,show((s.length:Int)+1)/2=n by omega];walk_at "n";refine⟨by decide,?_⟩;walk_at "n";refine⟨by omega,by omega,?_⟩;refine uq (λi ρ=>∃a b c,ρ=[.d<|aR s,.d<|aF r,.d<|.int n,.ow<|((List.range i).map λi=>aN<|sm n λj=>(fe s n i j:Rat)*r.getD j 0),a,b,c]) n ?_ ?_ _ ⟨_,_,_,rfl⟩
 rotate_left
 .rintro _ ⟨a,b,c,rfl⟩
  walk_at "s";rw[B4 h hl]at q;unfold aF at q;rw[cY]at q;exact q
 .rintro i hi _ ⟨a,b,c,rfl⟩ nx hnx
  walk_at "s";walk_at "n";refine⟨by decide,?_⟩;refine bU ?_;simp only[bA,bP];walk_at "s";refine⟨by omega,by omega,?_⟩;have hent:∀j,j<n->-50<=fe s n i j/\fe s n i j<=50:=λj hj=>by
   unfold fe;rw[bN,bJ<|by omega,Option.getD_some];exact h.b _<|gu _
  have hrj:∀j,j<n->Sz 170 (r.getD j 0):=λj hj=>by
   rw[bN,bJ<|by omega,Option.getD_some];exact hsz _<|gu _
  have hterm:∀j,j<n->Sz (6+170) ((fe s n i j:Rat)*r.getD j 0):=λj hj=>(wm<|hent j hj).mul<|hrj j hj;refine uq (λj ρ=>∃c,ρ=[.d<|aR s,.d<|aF r,.d<|.int n,.ow<|((List.range i).map λi=>aN<|sm n λj=>(fe s n i j:Rat)*r.getD j 0),.d<|.int i,.d<|aN<|sm j λj=>(fe s n i j:Rat)*r.getD j 0,c]) n ?_ ?_ _ ⟨_,rfl⟩
  rotate_left
  .rintro _ ⟨c,rfl⟩
   walk_at "s";refine⟨by rw[bG,ke];unfold small;omega,?_⟩;have e:List.map (λi=>aN<|sm n λj=>(fe s n i j:Rat)*r.getD j 0) (List.range i)++[aN<|sm n λj=>(fe s n i j:Rat)*r.getD j 0]=List.map (λi=>aN<|sm n λj=>(fe s n i j:Rat)*r.getD j 0) (List.range<|i+1):=by
    rw[List.range_succ,jz];rfl
   rw[e];exact hnx _ ⟨_,_,_,rfl⟩
  .rintro j hj _ ⟨c,rfl⟩ nx2 hnx2
   walk_at "s";have e1:(s.map D.int)[n-1-i+j]? = some (.int<|fe s n i j):=by
    unfold fe;rw[cH,bN,bJ<|by omega];rfl
   have e2:(r.map aN)[j]? = some (aN<|r.getD j 0):=by
    rw[cH,bN,bJ<|by omega];rfl
   refine⟨_,BP (k:=n-1-i+j) (by omega) e1,by decide,_,BP rfl e2,?_⟩;rw[<-y8];refine ul (B2.of (wm<|hent j hj) (hrj j hj)<|by omega)<|wu (B2.of (E4 λk hk=>hterm k<|by omega) (hterm j hj) ?_) ?_
   .have:j*(6+170+1)<=5*(6+170+1):=mC _ (by omega)
    omega
   .rw[<-B7 j λj=>(fe s n i j:Rat)*r.getD j 0]
    exact hnx2 _ ⟨_,rfl⟩
theorem LY{E:Ex->Prop}{a b c:SV}(P Q0:List Rat)(hN:N.nx=aM (wN 3) E { nx:=λ_=>Q .non,rt:=Q })(h:Q (aN<|cI P Q0)):∀(p' q':List Rat) (s:Rat) (sv sv':SV) (j:Nat),(∀x∈p',Sz 170 x)->(∀x∈q',Sz 887 x)->Sz (j*1058+1) s->j+p'.length<=5->s+cI p' q'=cI P Q0->
  Zbb (dw 2<|cB (gN 4)<|cB (gN 5) dj) (aQ 3<|wF jI<|aC (wN 3)<|aC (wF jJ<|aC (wN 4)<|aC (wN 5) aA) aA) No N (dO (p'.map aN)<|q'.map aN) [a,b,c,.d<|aN s,sv,sv']:=by
 intro p'
 induction p' with
 |nil=>
  intro q' s sv sv' j _ _ _ _ he;rw[cI,nW]at he;simp only[dO,gX,List.zipWith_nil_left,Zbb,hN];show Q (aN s);rw[he];exact h
 |cons x p' ih=>
  intro q' s sv sv' j h1 h2 h3 h4 he;cases q' with
  |nil=>
   rw[cI,nW]at he;simp only[dO,gX,List.zipWith_nil_right,Zbb,hN];show Q (aN s);rw[he];exact h
  |cons y q'=>
   have hx:=h1 x (by simp);have hy:=h2 y (by simp);rw[d8]at h4;simp only[dO,cR,An,Zbb];refine⟨rfl,?_⟩;simp only[cB,dj,gN,aQ,wF,aC,aA,wN,db,de,eY,eX];refine⟨(x,y),rfl,B2.of hx hy<|by omega,?_⟩;refine⟨(s,x*y),rfl,B2.of h3 (hx.mul hy)<|by omega,?_⟩;refine ih q' (s+x*y) _ _ (j+1) (λz hz=>h1 z<|by simp[hz]) (λz hz=>h2 z<|by simp[hz]) ?_ (by omega) ?_
   .exact(h3.add<|hx.mul hy).mono (by omega)
   .rw[cI]at he
    rw[Rat.add_assoc];exact he
theorem LZ:Rd xC C7 ZhE:=by rintro _ E Q ⟨⟨⟨s,n⟩,u,v⟩,rfl,⟨h,h1,h2,h3,h4⟩,q⟩;dsimp only at h h1 h2 h3 h4 q;show C7 E _ [.d<|aR s,.d<|aF u,.d<|aF v,.un,.un,.un];unfold C7;refine bU<|LP.set_by (d:=aN 0) (ρ':=[.d<|aR s,.d<|aF u,.d<|aF v,.d<|aN 0,.un,.un]) (by rfl) (λP hP=>⟨by decide,hP⟩) ?_;dsimp only;refine bU ?_;simp only[bA];simp only[bP,iZ,aC,aA,wN,wF,db,de];refine LR h h2 h4 ?_;have n5:=h.n5;exact LY (E:=E) u (cX s n v) rfl q u (cX s n v) 0 .un .un 0 h3 (λx hx=>(KZ h h4 x hx).mono<|by omega) (Sz.zero<|by decide) (by omega)<|Rat.zero_add _
def rd__law_signs:Rd xm xq ZcB:=λds E Q h=>I9.rd__law_signs ds E Q h
section
variable{x:D}
theorem sZ:∀{xs:List D},xs.all (et n)=true->∃P:List (List Rat),xs=P.map aF/\∀r∈P,r.length=n
 |[],_=>⟨[],rfl,λ_ h=>nomatch h⟩|x::xs,h=>by rw[rC,dQ]at h;obtain⟨r,rfl,hr⟩:=y2 h.1;obtain⟨P,rfl,hP⟩:=sZ h.2;exact⟨r::P,rfl,λq hq=>by rcases Yan.mp hq with rfl|hq;exact_mod_cast hr;exact hP q hq⟩
theorem uH(P:List (List Rat)):(P.map aF).map rQ=P:=by rw[cY];exact(iO λr _=>nF r).trans (xX _)
theorem Gd.r170(g:Gd n (aS P))(hl:P.length=n)(hr:∀r∈P,r.length=n):∀r∈P,lY n r:=λr h=>have l:=g.l P rfl hl hr r h;⟨l.len,λy hy=>(l.sz y hy).mono<|by decide⟩
def Gd.pq0(h:IsSl s n)(ev:s.reverse=s)(g:Gd n (aS P))(hl:P.length=n)(hr:∀r∈P,r.length=n):Pq0 s n P:=
 Pq0.of h ev hl (g.l P rfl hl hr)
end
theorem L4:Rd uG GT Zds:=by
 rintro _ E Q ⟨⟨x,y⟩,rfl,⟨hk,hy,hg⟩,q⟩;dsimp only at hk hy hg q;unfold GT;walk_at "n";refine⟨x,rfl,hk,?_⟩;unfold eM fP at q;dsimp only;unfold fP;cases hs:f8 x with
 |false=>rw[hs]at q;exact q
 |true=>
 rw[hs]at q;obtain⟨s,n,rfl,h⟩:=rc hs;have n5:=h.n5;have g:=hg s n rfl h;unfold ik at q ⊢;rw[ii]at q ⊢;rw[h.sN]at q
 by_cases ev:s.reverse=s
 rotate_left
 .rw[Ni ev]at q ⊢;exact q
 rw[Nh ev]at q ⊢;replace q:Q (.bl<|jw s n y):=q;dsimp only[if_true,exQ];walk_at "n";refine yZ h ?_;walk_at "n";refine mn hy (by decide) λt ht=>?_;cases y<;>cases ht<;>try exact q
 rename_i xs;obtain⟨hxl,hx⟩:=D0 hy;walk_at "s";simp only[show fZ "list" "list" = true from rfl,eP,dD,if_false];replace q:Q (.bl (decide (xs.length=n)&&(xs.all (et n)&&uF s n (xs.map rQ)))):=q;walk_at "s"
 by_cases hl:xs.length=n
 rotate_left
 .rw[oI (by simp;omega)]
  rw[Ni hl]at q;exact q
 rw[ks (by simp;omega)];rw[Nh hl]at q;walk_at "n";refine qW (f:=λd=>.bl<|et n d) (λd hd Q hq=>?_) .un [] (by simp[small];omega) ?_
 .walk_at "s"
  exact BD h (hx d hd) hq
 refine⟨xs.map<|et n,by simp,?_⟩;rw[uN,show(id∘et (n:Int))=et (n:Int) from rfl];cases ha:xs.all (et n) with
 |false=>rw[ha]at q;exact q
 |true=>
 rw[ha]at q;obtain⟨P,rfl,hP⟩:=sZ ha;rw[bG]at hl;rw[uH]at q;have pq:=Gd.pq0 h ev g hl hP;walk_at "s";refine(⟨((n,n),P),rfl,pq.cz,?_⟩:zK [aS P,.int n] _ _);dsimp only;rw[hl];unfold uF at q
 by_cases h1:(cQ P n).ld.length=n
 .rw[Nh h1]
  walk_at "s";refine Li pq ?_;rw[show decide (P.Pairwise λu v=>bF s n u v=0)=decide ((cQ P n).ld.length=n/\P.Pairwise λu v=>bF s n u v=0) by rw[gM];simp[h1]];exact q
 .rw[Ni h1]
  rw[Ni<|λz=>h1 z.1]at q;exact q
theorem L5{x:D}{e:Str}(h:eM x y=.error e):e∈LX:=by
 unfold eM fP at h;split at h;split at h;cases h;injection h with h;rw[<-h];simp
 injection h with h;rw[<-h];simp
theorem L6{x:D}{e:Str}(h:h8 x y=.error e):e∈LX:=by
 unfold h8 fP at h;split at h;split at h;split at h;cases h;injection h with h;rw[<-h];simp
 injection h with h;rw[<-h];simp
 injection h with h;rw[<-h];simp
theorem GY(h:jw s n y=true):∃P:List (List Rat),y=aS P/\P.length=n/\(∀r∈P,r.length=n)/\(cQ P n).ld.length=n/\P.Pairwise λu v=>bF s n u v=0:=by
 cases y with
 |lst xs=>rw[jw,dQ,dQ,Nf]at h;obtain⟨P,rfl,hP⟩:=sZ h.2.1;have h2:=h.2.2;rw[uH]at h2;have:=NB h2;exact⟨P,rfl,by simpa using h.1,hP,this.1,this.2⟩
 |_=>cases h
theorem L7:Rd C5 C6 Zih:=by
 rintro _ E Q ⟨⟨x,y⟩,rfl,⟨hk,hy,hg⟩,q⟩;dsimp only at hk hy hg q;show C6 E _ [.d x,.d y,.un,.un,.un];unfold C6;have c:∀P:Bool->Prop,(∀e,eM x y=.error e->E e)->(∀b,eM x y=.ok (.bl b)->P b)->wT (wF uG<|aC (wN 0)<|aC (wN 1) aA) E [.d x,.d y,.un,.un,.un] P:=λP h1 h2=>by
  refine⟨(x,y),rfl,⟨hk,hy,hg⟩,?_⟩;dsimp only;cases er:eM x y with
  |error e=>exact h1 e er
  |ok v=>
   have:∃b,v=.bl b:=by
    unfold eM fP at er;split at er
    .split at er
     .injection er with er;exact⟨_,er.symm⟩
     .cases er
    .cases er
   obtain⟨b,rfl⟩:=this;exact h2 b er
 have eE:∀e,eM x y=.error e->E e:=λe er=>by
  have:h8 x y=.error e:=by
   unfold eM fP at er;unfold h8 fP;split at er
   .rename_i z
    rw[oI z];split at er
    .cases er
    .rename_i z2;rw[ks z2];exact er
   .rename_i z;rw[ks z];exact er
  rw[this]at q;exact q
 refine bU ?_;simp only[cN,bS];refine c _ eE λb hb=>?_;have hs:f8 x=true:=by
  cases z:f8 x with
  |true=>rfl
  |false=>unfold eM fP at hb;rw[z]at hb;cases hb
 obtain⟨s,n,rfl,h⟩:=rc hs;have n5:=h.n5;have g:=hg s n rfl h;unfold h8 at q;unfold eM at hb;rw[iY h]at q hb;unfold ik at q hb;rw[ii,h.sN]at q hb;have ev:s.reverse=s:=by
  refine Classical.byContradiction λz=>?_;rw[Ni z]at hb;cases hb
 rw[Nh ev]at q hb;simp only[if_true]at q hb;injection hb with hb
 injection hb with hb
 cases b with
 |false=>
  rw[hb]at q;exact q
 |true=>
 rw[hb]at q;obtain⟨P,rfl,hl,hr,h1,h2⟩:=GY hb;have p:=Gd.pq0 h ev g hl hr;have pl:=p.len;replace q:Q (mx s n P):=by
  have:xz (aS P)=P:=uH P;simp only[if_true,this]at q;exact q
 clear c eE hb hs hk hy hg g;rw[ks<|by decide];simp only[cP];show aG _ _ _ _ [.d<|aR s,.d<|aS P,.un,.un,.un];refine bU<|B.C.own_by (xs:=(P.map λr=>(bF s n r r).num).map D.int) (ρ':=[.d<|aR s,.d<|aS P,.ow<|(P.map λr=>(bF s n r r).num).map D.int,.un,.un]) rfl (λP' h=>?_) ?_
 .show lcW _ _ _ (P.map aF) [.un,.d<|aR s] [] _
  refine jW (g:=aF) (f:=λr=>.int (bF s n r r).num) P (λr hr P'' hP=>?_) .un [] (du (by simp;omega)) ?_
  .walk_at "s"
   refine Lh p.sl p.ev (p.lf r hr).len (λx hx=>((p.lf r hr).sz x hx).mono<|by decide) ?_;exact⟨_,rfl,hP⟩
  .rw[dC]
   rw[cY]at h;exact h
 dsimp only;refine B.C.pub_by (ρ':=[.d<|aR s,.d<|aS P,.d<|.lst<|(P.map λr=>(bF s n r r).num).map D.int,.un,.un]) rfl ?_;have eC:∀(c:Int->Bool) (d:Rat->Bool) (w:WT),(∀q:Rat,c q.num=d q)->(∀(i:Int) (P':Bool->Prop),P' (c i)->w No [.d<|.int i] P')->∀(ρ:bZ) (P':D->Prop),P' (.int (((P.filter λr=>d<|bF s n r r).length:Nat):Int))->wB bH (aC (wL<|aLC (iS<|wC<|.lst<|(P.map λr=>(bF s n r r).num).map D.int) 1 [] (gN 0) w<|wN 0) aA) E ρ P':=λc d w hc hw ρ P' hP=>by
  show lcW _ _ _ ((P.map λr=>(bF s n r r).num).map D.int) [.un] [] _;rw[cY];refine uu (g:=λr=>D.int (bF s n r r).num) (f:=λr=>D.int (bF s n r r).num) (p:=λr=>d<|bF s n r r) P (λr hr P'' h=>?_) (λr hr P'' h=>h) .un [] (du (by simp;omega)) ?_
  .exact hw _ _ (by rw[hc];exact h)
  .walk_at "s"
   rw[bG];exact hP
 refine bU<|hV (d:=.int (iI s n P:Int)) (ρ':=[.d<|aR s,.d<|aS P,.d<|.lst<|(P.map λr=>(bF s n r r).num).map D.int,.d<|.int (iI s n P:Int),.un]) rfl (λP' h=>?_) ?_
 .refine eC (λi=>decide (i>0)) (λq=>decide (0<q)) (wT<|w2 nA (wN 0)<|wC<|.int<|0) (λq=>by rw[gM,Nf,Nf];exact Zeg.1) (λi P'' h=>?_) _ P' h
  walk_at "s";exact h
 dsimp only;refine B.C.pub_by (ρ':=[.d<|aR s,.d<|aS P,.d<|.lst<|(P.map λr=>(bF s n r r).num).map D.int,.d<|.int (iI s n P:Int),.un]) rfl ?_;refine bU<|hV (d:=.int (j7 s n P:Int)) (ρ':=[.d<|aR s,.d<|aS P,.d<|.lst<|(P.map λr=>(bF s n r r).num).map D.int,.d<|.int (iI s n P:Int),.d<|.int (j7 s n P:Int)]) rfl (λP' h=>?_) ?_
 .refine eC (λi=>decide (i<0)) (λq=>decide (q<0)) (wT<|w2 eS (wN 0)<|wC<|.int<|0) (λq=>by rw[gM,Nf,Nf];exact Zeg.2) (λi P'' h=>?_) _ P' h
  walk_at "s";exact h
 dsimp only;refine B.C.pub_by (ρ':=[.d<|aR s,.d<|aS P,.d<|.lst<|(P.map λr=>(bF s n r r).num).map D.int,.d<|.int (iI s n P:Int),.d<|.int (j7 s n P:Int)]) rfl ?_;walk_at "s";rw[bG,bG];exact⟨by decide,q⟩
end I9.I0
namespace Mn
section
theorem L8{l:List Nat}(h:l.Pairwise (· < ·))(hl:l.length=n)(lt:∀a∈l,a<n):∀i,i<n->l.getD i 0=i:=λi hi=>by
 have g:∀k (hk:k<l.length),l.getD k 0=l[k]:=λk hk=>by rw[bN,bJ hk];rfl
 have pw:=Yc1.mp h;have lo:∀k,k<l.length->k<=l.getD k 0:=by
  intro k;induction k with
  |zero=>intro _;exact iq _|succ k ih=>intro hk;have:=ih (by omega);have:=pw k (k+1) (by omega) hk (by omega);rw[g k<|by omega] at *;rw[g (k+1) hk];omega
 have up:∀d k,k+d<l.length->l.getD k 0+d<=l.getD (k+d) 0:=by
  intro d;induction d with
  |zero=>intro k _;exact cF _|succ d ih=>intro k hk;have:=ih k (by omega);have p:=pw (k+d) (k+d+1) (by omega) (by omega) (by omega);rw[<-g (k+d) (by omega),<-g (k+d+1) (by omega)]at p;rw[show k+(d+1)=k+d+1 by omega];omega
 have h1:=lo i (by omega);have h2:=up (n-1-i) i (by omega);rw[show i+(n-1-i)=n-1 by omega]at h2;have h3:l.getD (n-1) 0<n:=by rw[g (n-1)<|by omega];exact lt _<|gu _
 omega
theorem L9(hR:∀r∈P,r.length=n)(hl:(cQ P n).ld.length=n){x:List Rat}(hx:x.length=n)(h0:∀r∈P,cI r x=0)(hk:k<n):x.getD k 0=0:=by
 have ec:=zE hR n<|cF _;have pe:=L8 ec.asc (ec.ll▸hl) ec.lt;have mem:(cQ P n).ld.getD k []∈(cQ P n).ld:=jv (by omega);have d:=((ec.nul x hx).mp h0).1 _ mem;rw[lV _ _ n (ec.wl _ mem) hx,mr (k:=k) hk λj hj ne=>by
  have:=ec.one k j (by omega) (by have:=ec.ll;omega);rw[pe j hj,ks<|Nm ne]at this;rw[this,jA]]at d
 have:=ec.one k k (by omega) (by have:=ec.ll;omega);rw[pe k hk,oI rfl]at this;rwa [this,tU]at d
end
def ew(R:List (List Rat))(a g k:Nat):List (List Rat):=(List.range R.length).map λi=>if a<i/\i<k then I9.elF (R.getD i []) (R.getD a []) g else R.getD i []
def en(R:List (List Rat))(i j:Nat):Rat:=(R.getD i []).getD j 0
section
variable{R:List (List Rat)}{a g:Nat}
theorem ew_len:(ew R a g k).length=R.length:=by unfold ew;simp
theorem ew_at(hi:i<R.length):(ew R a g k).getD i []=if a<i/\i<k then I9.elF (R.getD i []) (R.getD a []) g else R.getD i []:=by unfold ew;rw[bN,cH,jM hi];rfl
theorem ew_one(hk:k<=a+1):ew R a g k=R:=by
 unfold ew;refine qC λi=>?_;rw[cH];rcases fS i R.length with z|z
 rw[jM z];simp only[rD];rw[ks<|by omega,bN,bJ z];rfl;rw[eD<|by simpa using z,eD z];rfl
theorem ew_next(ha:a<k)(hk:k<R.length):ew R a g (k+1)=(ew R a g k).set k (I9.elF ((ew R a g k).getD k []) ((ew R a g k).getD a []) g):=by
 rw[ew_at hk,ks<|by omega,ew_at (i:=a)<|by omega,ks<|by omega];refine qC λi=>?_;rw[Ar];unfold ew;rw[cH,cH,bG,ke];rcases fS i R.length with z|z
 rw[jM z];simp only[rD];by_cases c:k=i;subst c;rw[oI rfl,oI z,oI ⟨ha,by omega⟩];rw[ks c];by_cases y:a<i/\i<k;rw[oI y,oI ⟨y.1,by omega⟩];rw[ks y,ks<|by omega];rw[eD<|by simpa using z,ks<|by omega];rfl
def rs(R:List (List Rat))(n i:Nat)(x:Nat->Rat):Rat:=aJ (λj=>en R i j*x j) n
structure Ow(P:List (List Rat))(n a:Nat)(R:List (List Rat))(c:Nat->Nat):Prop where
 len:R.length=n
 lf:∀r∈R,Lf (bq 168 a) n r
 nul:∀x,(∀i,i<n->rs P n i x=0)↔∀i,i<n->rs R n i x=0
 piv:∀i,i<a->c i<n/\en R i (c i)≠0
 low:∀i k,i<a->i<k->k<n->en R k (c i)=0
def Ow.start(hl:P.length=n)(lf:∀r∈P,Lf 168 n r):Ow P n 0 P c:=⟨hl,lf,λ_=>Iff.rfl,λi hi=>Nd hi<|Aw _,λi k hi=>Nd hi<|Aw _⟩
theorem Ow.mem(h:Ow P n a R c)(hi:i<n):Lf (bq 168 a) n (R.getD i []):=h.lf _<|jv (by rw[h.len];exact hi)
theorem Ow.step(h:Ow P n a R c)(ha:a<n)(hg:g<n)(g0:en R a g≠0):Ow P n (a+1) (ew R a g n) (λi=>if i=a then g else c i):=by
 have hl:=h.len;have at':∀i,i<n->(ew R a g n).getD i []=if a<i then I9.elF (R.getD i []) (R.getD a []) g else R.getD i []:=λi hi=>by rw[ew_at<|by omega];by_cases z:a<i;rw[oI ⟨z,hi⟩,oI z];rw[ks<|by omega,ks z]
 have ee:∀i,i<n->a<i->∀j,j<n->en (ew R a g n) i j=en R i j-en R i g*(en R a g)⁻¹*en R a j:=λi hi hai j hj=>by unfold en;rw[at' i hi,oI hai];unfold I9.elF;rw[I9.zip_at (h.mem hi).len (h.mem ha).len hj];grind
 have e0:∀i,i<n->¬a<i->∀j,en (ew R a g n) i j=en R i j:=λi hi hai j=>by unfold en;rw[at' i hi,ks hai]
 refine⟨by rw[ew_len];exact hl,λr hr=>?_,λx=>(h.nul x).trans ?_,λi hi=>?_,λi k hi hik hk=>?_⟩;obtain⟨i,hi,rfl⟩:=Ybv.mp hr;rw[ew_len,hl]at hi;have:(ew R a g n)[i]'(by rw[ew_len,hl];exact hi)=(ew R a g n).getD i []:=by rw[bN,bJ (by rw[ew_len,hl];exact hi)];rfl
 rw[this,at' i hi];split;exact I9.Lf_el (h.mem hi) (h.mem ha) hg g0;exact(h.mem hi).mono<|ut (by omega)
 have e1:∀i,i<n->a<i->rs (ew R a g n) n i x=rs R n i x-en R i g*(en R a g)⁻¹*rs R n a x:=λi hi hai=>by unfold rs;rw[dP (g:=λj=>en R i j*x j-en R i g*(en R a g)⁻¹*(en R a j*x j)) λj hj=>by rw[ee i hi hai j hj];grind,Zc,sumN_mul]
 have e2:∀i,i<n->¬a<i->rs (ew R a g n) n i x=rs R n i x:=λi hi hai=>by unfold rs;exact dP λj _=>by rw[e0 i hi hai]
 constructor;intro z i hi;by_cases y:a<i;rw[e1 i hi y,z i hi,z a ha];grind;rw[e2 i hi y];exact z i hi;intro z i hi;have za:rs R n a x=0:=by rw[<-e2 a ha (by omega)];exact z a ha
 by_cases y:a<i;have:=z i hi;rw[e1 i hi y,za]at this;grind;rw[<-e2 i hi y];exact z i hi;by_cases z:i=a;rw[oI z,z,e0 a ha<|by omega];exact⟨hg,g0⟩;rw[ks z,e0 i (by omega)<|by omega];exact h.piv i (by omega);by_cases z:i=a;rw[oI z,ee k hk (by omega) g hg];generalize en R a g=w at *;grind;rw[ks z];have p:=h.piv i (by omega);by_cases y:a<k;rw[ee k hk y _ p.1,h.low i k (by omega) hik hk,h.low i a (by omega) (by omega) ha];grind;rw[e0 k hk y];exact h.low i k (by omega) hik hk
theorem Ma{x:List Rat}(hx:x.length=n)(hl:P.length=n)(hw:∀r∈P,r.length=n)(hi:i<n):rs P n i (λj=>x.getD j 0)=cI (P.getD i []) x:=by unfold rs en;rw[lV _ _ n (hw _<|jv<|by omega) hx]
theorem Ow.good(h:Ow P n n R c)(hl:P.length=n)(hw:∀r∈P,r.length=n):(cQ P n).ld.length=n:=by
 have inj:∀i k,i<n->k<n->i<k->c i≠c k:=λi k hi hk hik e=>(h.piv k hk).2 (by rw[<-e];exact h.low i k hi hik hk);have nd:((List.range n).map c).Nodup:=by refine List.pairwise_map.mpr<|List.pairwise_lt_range.imp_of_mem λ{i k} hi hk hik=>?_;exact inj i k (Yah.mp hi) (Yah.mp hk) hik
 have sur:∀j,j<n->∃i,i<n/\c i=j:=λj hj=>Classical.byContradiction λz=>by
  have nm:j∉(List.range n).map c:=λy=>by obtain⟨i,hi,e⟩:=YbQ.mp y;exact z ⟨i,Yah.mp hi,e⟩
  have:=List.Nodup.length_le_of_subset (l₁:=j::(List.range n).map c) (l₂:=List.range n) (YaF.mpr ⟨nm,nd⟩) λy hy=>by
   rcases Yan.mp hy with rfl|hy
   exact Yah.mpr hj;obtain⟨i,hi,rfl⟩:=YbQ.mp hy;exact Yah.mpr (h.piv i<|Yah.mp hi).1
  simp at this;omega
 refine Go hw λx hx h0 k hk=>?_;have hn:=(h.nul λj=>x.getD j 0).mp λi hi=>by rw[Ma hx hl hw hi];exact h0 _<|jv (by omega)
 have bk:∀d,∀i,i<n->n-1-i=d->x.getD (c i) 0=0:=by
  intro d;induction d using Nat.strongRecOn with
  |ind d ih=>
   intro i hi hd;have:=hn i hi;unfold rs at this;rw[mr (k:=c i) (h.piv i hi).1 λj hj ne=>by
    obtain⟨m,hm,rfl⟩:=sur j hj;rcases yh m i with z|z|z
    .rw[h.low m i hm z hi,jA]
    .exact Nd (by rw[z]) ne
    .dsimp only;rw[ih (n-1-m) (by omega) m hm rfl,Rat.mul_zero]]at this
   exact(YcU.mp this).resolve_left (h.piv i hi).2
 obtain⟨i,hi,rfl⟩:=sur k hk;exact bk _ i hi rfl
theorem Ow.bad(h:Ow P n a R c)(ha:a<n)(hl:P.length=n)(hw:∀r∈P,r.length=n)(z:∀j,j<n->en R a j=0):(cQ P n).ld.length≠n:=λe=>by
 obtain ⟨x,⟨k,hk,xk⟩,hx⟩:=wish n (((List.range n).filter (·≠a)).map λi j=>en R i j) (by
  rw[bG];have:((List.range n).filter (·≠a)).length<(List.range n).length:=by
   refine YcT.mpr ⟨a,Yah.mpr ha,by simp⟩
  rwa [ke]at this)
 have h0:=(h.nul x).mpr λi hi=>by
  by_cases y:i=a;rw[y];exact nM λj hj=>by rw[z j hj,jA]
  exact hx _<|mE (f:=λi j=>en R i j) (Yag.mpr ⟨Yah.mpr hi,by simpa using y⟩)
 have:=L9 hw e (x:=wK n x) (FG _ _) (λr hr=>by
  obtain⟨i,hi,rfl⟩:=Ybv.mp hr;have:=h0 i (by omega);unfold rs en at this;rw[lV _ _ n (hw _ hr)<|FG _ _,dP (g:=λj=>(P.getD i []).getD j 0*x j) λj hj=>by rw[FH hj,bN (l:=P),bJ hi];rfl];exact this) hk
 rw[FH hk]at this;exact xk this
end
end Mn
namespace I9.I0
section
variable{R:List (List Rat)}{c a g:Nat}
theorem Mb{p:List Rat}{y:Rat}(hr:Lf c n r)(hp:Lf c n p)(hg:g<n)(nz:p.getD g 0≠0)(hy:y∈p):Sz (2*c) (r.getD g 0 * -(p.getD g 0)⁻¹*y):=by
 have h1:=(hr.get hg).2;have h2:=(hp.norm hg nz).sz (y/p.getD g 0) (by unfold lu;exact mE hy);have e:r.getD g 0 * -(p.getD g 0)⁻¹*y = -(r.getD g 0*(y/p.getD g 0)):=by rw[ir];grind
 rw[e];exact(h1.mul h2).neg.mono (by omega)
end
theorem Mc:Rd zY C8 Zin:=by
 rintro _ E Q ⟨⟨n,P⟩,rfl,⟨n5,hl,hf⟩,q⟩;dsimp only at n5 hl hf q;have hw:∀r∈P,r.length=n:=λr hr=>(hf r hr).len;show C8 E _ [.d<|aS P,.un,.un,.un,.un,.un,.un,.un];unfold C8;refine bU<|B.C.own_by (xs:=P.map lq) (ρ':=[.d<|aS P,.ow<|P.map lq,.un,.un,.un,.un,.un,.un]) rfl (λP' hP=>?_) ?_
 .show lcW _ _ _ (P.map aF) [.un] [] _
  refine jW (g:=aF) (f:=lq) P (λr hr Q hq=>?_) .un [] (by simp[small];omega) ?_
  .unfold aF
   walk_at "s";exact hq
  .rw[dC];exact hP
 dsimp only;refine B.C.pub_by (ρ':=[.d<|aS P,.ow<|P.map lq,.un,.un,.un,.un,.un,.un]) rfl ?_;refine bU ?_;simp only[bA,bP];walk_at "s";rw[bG,hl];refine⟨rfl,by omega,by omega,?_⟩;refine uq (λa ρ=>∃R c s2 s3 s4 s5 s6 s7,Mn.Ow P n a R c/\ρ=[.d<|aS P,.ow<|R.map lq,s2,s3,s4,s5,s6,s7]) n ?_ ?_ _ ⟨P,λ_=>0,_,_,_,_,_,_,Mn.Ow.start hl hf,rfl⟩
 rotate_left
 .rintro _ ⟨R,c,s2,s3,s4,s5,s6,s7,o,rfl⟩
  rw[Nh<|o.good hl hw]at q;exact q
 rintro a ha _ ⟨R,c,s2,s3,s4,s5,s6,s7,o,rfl⟩ nx hnx;have rl:=o.len;have rml:(R.map lq).length=n:=by rw[bG];exact rl
 show aG _ _ _ _ [.d<|aS P,.ow<|R.map lq,.d<|.int a,s3,s4,s5,s6,s7];refine bU<|B.C.own_by (xs:=((List.range n).filter λk=>decide (mt R a k≠0)).map λ(k:Nat)=>D.int (k:Int)) (ρ':=[.d<|aS P,.ow<|R.map lq,.d<|.int a,.ow<|((List.range n).filter λk=>decide (mt R a k≠0)).map λ(k:Nat)=>D.int (k:Int),s4,s5,s6,s7]) (by rfl) (λP' hP=>?_) ?_
 .walk_at "s"
  refine⟨_,G.rr_at<|by omega,?_⟩;unfold G.lq;walk_at "s";rw[bG,show(G.rr R a).length=n from(o.mem ha).len];refine⟨by omega,by omega,?_⟩;have el:rng 0 n=(List.range n).map λ(k:Nat)=>D.int (k:Int):=by
   unfold rng;exact iO λk _=>by simp
  rw[el];refine zt (p:=λk=>decide (mt R a k≠0)) _ (λk hk P hP=>?_) .un [] (by simp[small];omega) ?_
  .walk_at "s"
   exact CZ rl o.lf ha (Yah.mp hk) hP
  .rw[dC]
   exact⟨B.C.flats_nats _,hP⟩
 dsimp only;generalize hG:(List.range n).filter (λk=>decide (mt R a k≠0))=gl;refine B.C.pub_by (ρ':=[.d<|aS P,.ow<|R.map lq,.d<|.int a,.d<|.lst<|gl.map λ(k:Nat)=>D.int (k:Int),s4,s5,s6,s7]) rfl ?_;refine bU ?_;have okG:∀ L:List Nat,cW (.lst (L.map fun (k:Nat)=>D.int (k:Int))) 60=true:=λL=>vU _ (n:=1) (by decide) (ug λd hd=>by
  obtain⟨k,_,rfl⟩:=YbQ.mp hd;exact ue _ _)
 cases gl with
 |nil=>
  refine j6 (b:=true) (λP hP=>?_) (λ_=>?_) λe=>nomatch e
  .walk_at "s"
   exact⟨by decide,ud (by decide +kernel) hP⟩
  .have bad:=o.bad ha hl hw λj hj=>Classical.byContradiction λz=>by
    have:j∈(List.range n).filter λk=>decide (mt R a k≠0):=Yag.mpr ⟨Yah.mpr hj,Nh z⟩;rw[hG]at this;cases this
   rw[Ni bad]at q;exact q
 |cons g gs=>
 have gm:g∈(List.range n).filter λk=>decide (mt R a k≠0):=by rw[hG];simp
 have hg:=Yah.mp (Yag.mp gm).1;have g0:mt R a g≠0:=NB (Yag.mp gm).2;have O:=o.step ha hg g0;refine j6 (b:=false) (λP hP=>?_) (λe=>nomatch e) λ_=>?_
 .walk_at "s"
  refine⟨by decide,?_⟩;refine n6 (okG _) (by decide +kernel) ?_;have:iB (.lst<|List.map (λ(k:Nat)=>D.int (k:Int)) (g::gs)) (.lst [])=false:=by
   unfold iB;rw[cR,pd,pd,PyData.eqv,fo,fo,PyData.eqvAll]
  rw[show iB (D.lst (D.int (g:Int)::List.map (λ(k:Nat)=>D.int (k:Int)) gs)) (D.lst [])=false from this];exact hP
 dsimp only;generalize hGG:(List.map (λ(k:Nat)=>D.int (k:Int)) (g::gs))=GG;have hGa:dW GG 0=some (.int g):=by rw[<-hGG];exact bQ (j:=0) (by rfl)
 refine B.C.pub_by (ρ':=[.d<|aS P,.ow<|R.map lq,.d<|.int a,.d<|.lst GG,s4,s5,s6,s7]) rfl ?_;refine bU<|zP (x:=.int (mt R a g).num) (y:=.int ((mt R a g).den:Int)) (λP hP=>?_) (ρ':=[.d<|aS P,.ow<|R.map lq,.d<|.int a,.d<|.lst GG,.d<|.int (mt R a g).num,.d<|.int ((mt R a g).den:Int),s6,s7]) (by rfl) ?_
 .walk_at "s"
  refine⟨_,G.rr_at<|by omega,_,hGa,_,xu (o.mem ha) hg,?_⟩;exact⟨rfl,hP⟩
 dsimp only;refine B.C.pub_by (ρ':=[.d<|aS P,.ow<|R.map lq,.d<|.int a,.d<|.lst GG,.d<|.int (mt R a g).num,.d<|.int ((mt R a g).den:Int),s6,s7]) rfl ?_;simp only[bA,bP];walk_at "s";rw[bG,rl];refine⟨rfl,by omega,?_⟩;have e0:R.map lq=(Mn.ew R a g<|a+1+0).map lq:=by rw[Mn.ew_one<|by omega]
 rw[e0];refine Kp ((a:Int)+1) (λk ρ=>∃s6 s7,ρ=[.d<|aS P,.ow<|(Mn.ew R a g<|a+1+k).map lq,.d<|.int a,.d<|.lst GG,.d<|.int (mt R a g).num,.d<|.int ((mt R a g).den:Int),s6,s7]) _ ?_ ?_ _ ⟨_,_,rfl⟩
 .rintro k hk _ ⟨s6,s7,rfl⟩ nx2 hnx2
  have hk':a+1+k<n:=by omega
  have nxt:=Mn.ew_next (R:=R) (a:=a) (g:=g) (k:=a+1+k) (by omega) (by omega);rw[show a+1+(k+1)=a+1+k+1 by omega,nxt]at hnx2;have e1:(Mn.ew R a g<|a+1+k).getD (a+1+k) []=R.getD (a+1+k) []:=by rw[Mn.ew_at<|by omega,ks<|by omega]
  have e2:(Mn.ew R a g<|a+1+k).getD a []=R.getD a []:=by rw[Mn.ew_at<|by omega,ks<|by omega]
  have W:(Mn.ew R a g<|a+1+k).length=n:=by rw[Mn.ew_len];exact rl
  rw[e1,e2]at hnx2;have w1:Lf (bq 168 a) n (rr R<|a+1+k):=o.mem hk';have w2:Lf (bq 168 a) n (rr R a):=o.mem ha;have b3:bq 168 a<=1351:=gU (ut (show a<=3 by omega)) (by decide);have g1:=(w1.get hg).2;have g2:Sz (bq 168 a) (mt R a g):=(w2.get hg).2;generalize Mn.ew R a g (a+1+k)=W1 at W hnx2 e1 e2;replace e1:rr W1 (a+1+k)=rr R (a+1+k):=e1;replace e2:rr W1 a=rr R a:=e2;simp only[gN,eY,eX];have ek:(a:Int)+1+(k:Int)=((a+1+k:Nat):Int):=by omega
  rw[ek];generalize a+1+k=m at *;have nn:(mt R a g).num≠0:=λz=>g0<|Ycx.mp z;have a1:dW (W1.map lq) (m:Int)=some (lq<|rr R m):=by rw[<-e1];exact G.rr_at (by omega)
  have a2:dW (W1.map lq) (a:Int)=some (lq<|rr R a):=by rw[<-e2];exact G.rr_at (by omega)
  refine B.C.pub_by (ρ':=[.d<|aS P,.ow<|W1.map lq,.d<|.int a,.d<|.lst GG,.d<|.int (mt R a g).num,.d<|.int ((mt R a g).den:Int),.d<|.int m,s7]) rfl ?_;refine bU<|LP.set_by (d:=aN<|mt R m g * -(mt R a g)⁻¹) (ρ':=[.d<|aS P,.ow<|W1.map lq,.d<|.int a,.d<|.lst GG,.d<|.int (mt R a g).num,.d<|.int ((mt R a g).den:Int),.d<|.int m,.d<|aN<|mt R m g * -(mt R a g)⁻¹]) (by rfl) (λP hP=>?_) ?_
  .walk_at "s"
   refine⟨_,a1,_,hGa,_,xu w1 hg,?_⟩;refine ze nn (da g2.1<|lZ (by decide)<|by omega) ?_;rw[C3 g0];exact ul (B2.of g1 (zW g2 g0)<|by omega) ⟨rfl,hP⟩
  dsimp only;refine G.item_by (xs:=W1.map lq) (d:=lq<|elF (rr R m) (rr R a) g) (k:=m) rfl (by rw[bG];omega) rfl (λP hP=>?_) (λP hP=>hP) ?_
  .walk_at "s"
   refine⟨_,a1,_,a2,?_⟩;show lcW _ _ _ (dO ((rr R m).map aN)<|(rr R a).map aN) _ [] _;refine wI (f:=λu v=>aN<|u+mt R m g * -(mt R a g)⁻¹*v) (rr R m) (rr R a) (λu hu v hv Q' q'=>?_) .un .un [] (du (by simp[w1.len];omega)) ?_
   .have zu:=w1.sz u hu
    have zv:=w2.sz v hv;show jJ [aN _,aN v] No (λy=>jI [aN u,y] No Q');exact ul (B2.of (g1.mul<|zW g2 g0) zv<|by omega)<|wu (B2.of zu (Mb w1 w2 hg g0 hv)<|by omega) q'
   .rw[dC]
    have e:List.zipWith (λu v=>aN<|u+mt R m g * -(mt R a g)⁻¹*v) (rr R m) (rr R a)=(List.zipWith (λu v=>u+mt R m g * -(mt R a g)⁻¹*v) (rr R m)<|rr R a).map aN:=by rw[uR]
    rw[e];exact⟨zT _,hP⟩
  .rw[rG]at hnx2
   exact hnx2 _ ⟨_,_,rfl⟩
 .rintro _ ⟨s6,s7,rfl⟩
  rw[show a+1+((n:Int)-((a:Int)+1)).toNat=n by omega];exact hnx _ ⟨_,_,_,_,_,_,_,_,O,rfl⟩
theorem z8{i j:Int}(h:∀q:Rat,q.num=i->(q.den:Int)=j->False):∀q:Rat,D.tup [.int i,.int j]≠aN q:=λq e=>by
 unfold aN at e;injection e with e
 injection e with e1 e2
 injection e2 with e2 _
 injection e1 with e1
 injection e2 with e2
 exact h q e1.symm e2.symm
def rd__law_row_good:Rd S__law_row_good BX Zco:=G.rd__law_row_good
theorem Md:Rd zZ ET Zfu:=by
 rintro _ E Q ⟨r,rfl,⟨hr1,hr5,hsz⟩,q⟩;dsimp only at hr1 hr5 hsz q;replace q:∀d,(G.gd d/\∀r':List Rat,r'.length=r.length->d≠aF r')->Q d:=λd h=>q d ⟨h.1.1,h.1.2,h.2⟩;unfold ET;walk_at "n";refine j5 (n:=r.length) (by omega) (by omega) λk hk=>?_;walk_at "s";walk_at "n";refine⟨by decide,by decide,by decide,by decide,by decide,by decide,by decide,by decide,by decide,by decide,?_⟩;walk_at "n";refine j5 (n:=12) (by decide) (by decide) λk12 hk12=>?_;obtain ⟨odd,hat,hodd⟩:=tz (P:=λx=>G.gd x/\∀ q:Rat,x≠aN q) (xs:=[D.tup [D.int 2,D.int 4],D.tup [D.int 1,D.int 0],D.tup [D.int 1,D.int (-2)],D.tup [D.int 0,D.int 2],D.tup [D.bl true,D.int 1],D.tup [D.int 1,D.bl true],D.int 1,D.non,D.lst [D.int 1,D.int 2],D.str "1",D.tup [D.int 1],D.tup [D.int 1,D.int 2,D.int 3]]) (k:=k12) (by simpa using hk12) (by
  intro x hx;simp only[Yan,eA,or_false]at hx;rcases hx with rfl|rfl|rfl|rfl|rfl|rfl|rfl|rfl|rfl|rfl|rfl|rfl
  .exact⟨G.gd_pair (G.gd_int<|by decide)<|G.gd_int<|by decide,z8 λq h1 h2=>by have:=q.reduced;rw[show q.num.natAbs=2 by omega,show q.den=4 by omega]at this;revert this;decide⟩
  .exact⟨G.gd_pair (G.gd_int<|by decide)<|G.gd_int<|by decide,z8 λq h1 h2=>q.den_nz<|by omega⟩
  .exact⟨G.gd_pair (G.gd_int<|by decide)<|G.gd_int<|by decide,z8 λq h1 h2=>by omega⟩
  .exact⟨G.gd_pair (G.gd_int<|by decide)<|G.gd_int<|by decide,z8 λq h1 h2=>by have:=q.reduced;rw[show q.num.natAbs=0 by omega,show q.den=2 by omega]at this;revert this;decide⟩
  .exact⟨G.gd_pair (G.gd_bl _)<|G.gd_int<|by decide,λq h=>by unfold aN at h;simp at h⟩
  .exact⟨G.gd_pair (G.gd_int<|by decide)<|G.gd_bl _,λq h=>by unfold aN at h;simp at h⟩
  .exact⟨G.gd_int<|by decide,λq h=>nomatch h⟩
  .exact⟨G.gd_non,λq h=>nomatch h⟩
  .exact ⟨G.gd_lst (by decide) λx hx=>by
    simp only[Yan,eA,or_false]at hx;rcases hx with rfl|rfl<;>exact G.gd_int<|by decide,λq h=>nomatch h⟩
  .exact⟨G.gd_str _,λq h=>nomatch h⟩
  .exact ⟨G.gd_tup (by decide) λx hx=>by
    simp only[Yan,eA,or_false]at hx;subst hx;exact G.gd_int<|by decide,λq h=>by unfold aN at h;simp at h⟩
  .exact ⟨G.gd_tup (by decide) λx hx=>by
    simp only[Yan,eA,or_false]at hx;rcases hx with rfl|rfl|rfl<;>exact G.gd_int<|by decide,λq h=>by unfold aN at h;simp at h⟩)
 refine⟨_,hat,?_⟩;walk_at "n";have hlen:∀a b,(bB (r.map aN) a b).length<=5:=λa b=>by have:=wy (xs:=r.map aN) (a:=a) (b:=b);rw[bG]at this;omega
 have hgr:∀x∈r.map aN,G.gd x:=λx hx=>by obtain⟨y,hy,rfl⟩:=YbQ.mp hx;exact⟨Zo y,Zj7.mpr<|hsz y hy⟩
 have hgc:∀a b,∀x∈bB (r.map aN) a b,G.gd x:=λa b=>G.gd_cut hgr;have l1:=hlen none<|some (k:Int);have l2:=hlen (some<|(k:Int)+1) none;have l3:=hlen none<|some 1;have l4:=hlen (some 1) none;refine⟨by decide,du<|by omega,du (by simp;omega),by decide,zq (du (by simp;omega))<|zq (du (by simp;omega)) ?_⟩;show 1<=small/\_;refine⟨by decide,by decide,j5 (n:=9) (by decide) (by decide) λk9 hk9=>?_⟩;have nl:∀{ds:List D} {r':List Rat},D.tup ds=aF r'->ds.length≠r'.length->False:=λ{ds r'} e h=>by
  unfold aF at e;injection e with e
  rw[e,bG]at h;exact h rfl
 have c3:(bB (List.map aN r) none<|some 1).length=1:=by rw[rf (i:=1) (b:=1) rfl,jL,bG];omega
 have c4:(bB (List.map aN r) (some 1) none).length=r.length-1:=by rw[show(1:Int)=((1:Nat):Int) from rfl,wk (by rw[bG];exact hr1),kR,bG]
 obtain ⟨d,hd,hkd⟩:=tz (P:=λd=>G.gd d/\∀ r':List Rat,r'.length=r.length->d≠aF r') (xs:=[D.tup<|bB (List.map aN r) none (some (k:Int))++[odd]++bB (List.map aN r) (some<|(k:Int)+1) none,D.tup<|r.map aN++[odd],D.tup<|bB (List.map aN r) (some 1) none,D.tup<|r.map aN++bB (List.map aN r) none (some 1),D.lst<|r.map aN,D.non,D.int 0,D.dic,D.tup [aF r]]) (k:=k9) (by simpa using hk9) (by
  intro x hx;simp only[Yan,eA,or_false]at hx;rcases hx with rfl|rfl|rfl|rfl|rfl|rfl|rfl|rfl|rfl
  .refine⟨G.gd_tup (by simp;omega) λx hx=>?_,λr' _ e=>?_⟩
   .simp only[Yao,Yan,eA,or_false]at hx
    rcases hx with(hx|rfl)|hx
    .exact hgc _ _ x hx
    .exact hodd.1
    .exact hgc _ _ x hx
   .unfold aF at e
    injection e with e
    have:odd∈r'.map aN:=by rw[<-e];simp
    obtain⟨y,_,ey⟩:=YbQ.mp this;exact hodd.2 y ey.symm
  .refine⟨G.gd_tup (by simp;omega) λx hx=>?_,λr' hr' e=>nl e (by simp;omega)⟩
   rcases Yao.mp hx with hx|hx
   .exact hgr x hx
   .rw[Ycw.mp hx];exact hodd.1
  .exact⟨G.gd_tup (by omega)<|hgc _ _,λr' hr' e=>nl e (by rw[hr',c4];omega)⟩
  .refine⟨G.gd_tup (by simp;omega) λx hx=>?_,λr' hr' e=>nl e (by rw[dG,bG,c3];omega)⟩
   rcases Yao.mp hx with hx|hx
   .exact hgr x hx
   .exact hgc _ _ x hx
  .exact⟨G.gd_lst (by simp;omega) hgr,λr' _ e=>nomatch e⟩
  .exact⟨G.gd_non,λr' _ e=>nomatch e⟩
  .exact⟨G.gd_int<|by decide,λr' _ e=>nomatch e⟩
  .exact⟨G.gd_dic,λr' _ e=>nomatch e⟩
  .refine⟨G.gd_tup (by simp) λx hx=>by rw[Ycw.mp hx];exact G.gd_tup (by simp;omega) hgr,λr' hr' e=>?_⟩
   unfold aF at e;injection e with e
   cases r' with
   |nil=>cases e
   |cons y r'=>
    rw[cR]at e;injection e with e1 e2
    cases r with
    |nil=>simp at hr1
    |cons z r=>
     unfold aN at e1;rw[cR]at e1;injection e1 with e1
     injection e1 with e1 _
     cases e1)
 exact⟨d,hd,q d hkd⟩
theorem Me{a:Int}(hk:k<4)(ha:a.natAbs<2^72):∃x:Int,x.natAbs<2^80/\Rat.divInt a (1+(k:Int))=Rat.divInt x 12:=by
 have e:∀m:Int,0<m->m<=12->∀d:Int,d*m=12->Rat.divInt a d=Rat.divInt (a*m) 12:=λm hm _ d hd=>by rw[<-hd,uQ<|by omega]
 have z:∀m:Int,0<m->m<=12->(a*m).natAbs<2^80:=λm h1 h2=>by rw[eW];exact da (Nat.mul_lt_mul_of_lt_of_le ha (show m.natAbs<=12 by omega)<|by omega) (by decide)
 have:k=0\/k=1\/k=2\/k=3:=by omega
 rcases this with rfl|rfl|rfl|rfl
 exact⟨_,z 12 (by decide)<|by decide,e 12 (by decide) (by decide) _ rfl⟩;exact⟨_,z 6 (by decide)<|by decide,e 6 (by decide) (by decide) _ rfl⟩;exact⟨_,z 4 (by decide)<|by decide,e 4 (by decide) (by decide) _ rfl⟩;exact⟨_,z 3 (by decide)<|by decide,e 3 (by decide) (by decide) _ rfl⟩
theorem Mf:Rd z5 BT Zfs:=by
 rintro _ E Q ⟨n,rfl,hn,q⟩;dsimp only at hn q;show BT E _ [.d .pen,.d<|.int n,.un,.un,.un];unfold BT;refine bU<|LP.set_rl (λd=>∃g:Int,(0<=g/\g<=10^20)/\d=.int g) (λP hP=>?_) ?_
 .walk_at "s"
  refine⟨⟨by decide,by decide,by decide⟩,by decide,?_⟩;refine j5 (n:=8) (by decide) (by decide) λk hk=>?_;obtain ⟨d,hd,hg⟩:=tz (P:=λd=>∃ g:Int,(0<=g/\g<=10 ^ 20)/\d = .int g) (xs:=[D.int 1,D.int 1,D.int 1,D.int 1,D.int 1,D.int 1,D.int 1,D.int<|10 ^ Int.toNat 20]) (k:=k) (by simpa using hk) (by
   intro x hx;simp only[Yan,eA,or_false]at hx;rcases hx with rfl|rfl|rfl|rfl|rfl|rfl|rfl|rfl
   all_goals first|exact⟨1,by decide,rfl⟩|exact⟨10^20,by decide,rfl⟩)
  exact⟨_,hd,hP d hg⟩
 rintro _ ⟨g,hg,rfl⟩;dsimp only;refine bU<|B.C.own_by (xs:=[]) (ρ':=[.d .pen,.d<|.int n,.d<|.int g,.ow [],.un]) rfl (λP hP=>⟨by decide,hP⟩) ?_;dsimp only;refine bU ?_;simp only[bA,bP];walk_at "s";refine⟨by omega,by omega,?_⟩;refine uq (λi ρ=>∃c:List Int,∃s4,c.length=i/\(∀x∈c,x.natAbs<2^80)/\ρ=[.d .pen,.d<|.int n,.d<|.int g,.ow<|(c.map λx=>Rat.divInt x 12).map aN,s4]) n ?_ ?_ _ ⟨[],_,rfl,(λx h=>nomatch h),rfl⟩
 rotate_left
 .rintro _ ⟨c,s4,hc,hz,rfl⟩
  walk_at "s";exact q _ ⟨c.map λx=>Rat.divInt x 12,⟨c,12,hc,by decide,by decide +kernel,hz,rfl⟩,rfl⟩
 rintro i hi _ ⟨c,s4,hc,hz,rfl⟩ nx hnx;simp only[gN,eY,eX];walk_at "s";refine j5 (n:=11) (by decide) (by decide) λk1 hk1=>?_;walk_at "s";have hg1:((k1:Int)-5).natAbs<=5:=by omega
 have hg2:g.natAbs<=10^20:=by omega
 have hm:(((k1:Int)-5)*g).natAbs<2^72:=by rw[eW];exact rE (l6 hg1 hg2) (by decide)
 refine⟨⟨ju (n:=10) (by omega)<|by omega,ju (n:=72) (rE hg2<|by decide)<|by omega⟩,?_⟩;refine j5 (n:=4) (by decide) (by decide) λk2 hk2=>?_;walk_at "s";refine ze (by omega) (ju (n:=10) (by omega)<|by omega) ⟨?_,?_⟩
 .rw[bG,bG];unfold small;omega
 .obtain⟨x,hx,e⟩:=Me (k:=k2) hk2 hm
  rw[e];have e2:(c.map λx=>Rat.divInt x 12).map aN++[aN<|Rat.divInt x 12]=((c++[x]).map λx=>Rat.divInt x 12).map aN:=by rw[jz,jz];rfl
  rw[e2];refine hnx _ ⟨c++[x],_,by rw[dG,hc];rfl,λy hy=>?_,rfl⟩;rcases Yao.mp hy with hy|hy
  .exact hz y hy
  .rw[Ycw.mp hy];exact hx
section
theorem Mg(h:IsSl s n)(ev:s.reverse=s)(hr:∀r∈P,r.length=n):(P.Pairwise λu v=>bF s n u v=0)↔∀i,i<P.length->∀j,j<i->bF s n (P.getD i []) (P.getD j [])=0:=by
 have g:∀k (hk:k<P.length),P.getD k []=P[k]:=λk hk=>by rw[bN,bJ hk];rfl
 rw[Yc1];constructor;intro z i hi j hj;rw[g i hi,g j<|by omega,uA h ev (hr _<|gu _)<|hr _<|gu _];exact z j i (by omega) hi hj;intro z j i hj hi hji;have:=z i hi j hji;rw[g i hi,g j hj,uA h ev (hr _<|gu _)<|hr _<|gu _]at this;exact this
end
theorem Mh:Rd xD GV ZhD:=by
 rintro _ E Q ⟨⟨⟨s,n⟩,y⟩,rfl,⟨h,ev,g⟩,q⟩;dsimp only at h ev g q;have hy:=g.k;have hz:=g.z;have n5:=h.n5;have hsl:=h.len;unfold GV;walk_at "n";refine⟨⟨by decide,ju (n:=2) (by decide)<|by omega⟩,?_⟩;rw[yb _<|by decide,show((s.length:Int)+1)/2=n by omega];walk_at "n";refine mn hy (by decide) λt ht=>?_;cases y<;>cases ht<;>try exact q
 rename_i xs;obtain⟨hxl,hx⟩:=D0 hy;rw[cZ,oh]at hz;walk_at "s";simp only[show fZ "list" "list" = true from rfl,eP,dD,if_false];replace q:Q (.bl (decide (xs.length=n)&&(xs.all (et n)&&uF s n (xs.map rQ)))):=q;walk_at "s"
 by_cases hl:xs.length=n
 rotate_left
 .rw[oI (by simp;omega)]
  rw[Ni hl]at q;exact q
 rw[ks (by simp;omega)];rw[Nh hl]at q;walk_at "n";refine qW (f:=λd=>.bl<|et n d) (λd hd Q hq=>?_) .un [] (by simp[small];omega) ?_
 .walk_at "s"
  exact G.u__law_row_good (hx d hd) (Fo (m:=223) (m':=300) (by decide) _<|hz d hd) hq
 refine⟨xs.map<|et n,by simp,?_⟩;rw[uN,show(id∘et (n:Int))=et (n:Int) from rfl];cases ha:xs.all (et n) with
 |false=>rw[ha]at q;exact q
 |true=>
 rw[ha]at q;obtain⟨P,rfl,hP⟩:=sZ ha;rw[bG]at hl;rw[uH]at q;replace g:Gd n (aS P):=g;have lf:=g.l P rfl hl hP;have rr:=g.r170 hl hP;walk_at "s";refine LT (P:=P) n5 hl lf ?_;unfold uF at q
 by_cases h1:(cQ P n).ld.length=n
 rotate_left
 .rw[Ni h1]
  rw[Ni<|λz=>h1 z.1]at q;exact q
 rw[Nh h1];replace q:Q (.bl<|decide (∀i,i<P.length->∀j,j<i->bF s n (P.getD i []) (P.getD j [])=0)):=by
  rw[show decide (∀i,i<P.length->∀j,j<i->bF s n (P.getD i []) (P.getD j [])=0)=decide ((cQ P n).ld.length=n/\P.Pairwise λu v=>bF s n u v=0) by rw[decide_eq_decide,<-Mg h ev hP];exact⟨λz=>⟨h1,z⟩,λz=>z.2⟩];exact q
 rw[hl]at q;walk_at "s";walk_at "n";refine⟨by omega,by omega,?_⟩;have gp:∀k,k<n->P.getD k []∈P:=λk hk=>by
  rw[bN,bJ<|by omega];exact gu _
 have ga:∀k,k<n->dW (P.map aF) (k:Int)=some (aF<|P.getD k []):=λk hk=>by
  refine bQ ?_;rw[cH,bN,bJ<|by omega];rfl
 refine uq (λi ρ=>(∀i',i'<i->∀j,j<i'->bF s n (P.getD i' []) (P.getD j [])=0)/\∃s3,ρ=[.d<|aR s,.d<|aS P,.d<|.int n,s3]) n ?_ ?_ _ ⟨λi' z=>Nd z<|Aw _,_,rfl⟩
 rotate_left
 .rintro _ ⟨al,s3,rfl⟩
  rw[Nh al]at q;exact q
 rintro i hi _ ⟨al,s3,rfl⟩ nx hnx;show cN _ _ _ _ _ [.d<|aR s,.d<|aS P,.d<|.int n,.d<|.int i];have okG:∀ L:List Nat,cW (.lst (L.map fun (k:Nat)=>D.int (k:Int))) 60=true:=λL=>vU _ (n:=1) (by decide) (ug λd hd=>by
  obtain⟨k,_,rfl⟩:=YbQ.mp hd;exact ue _ _)
 generalize hG:(List.range i).filter (λj=>decide (bF s n (P.getD i []) (P.getD j [])≠0))=gl;refine j6 (b:=!gl.isEmpty) (λP' hP'=>?_) (λb=>?_) λb=>?_
 .walk_at "s"
  refine⟨by omega,by omega,?_⟩;have el:rng 0 i=(List.range i).map λ(k:Nat)=>D.int (k:Int):=by
   unfold rng;exact iO λk _=>by simp
  rw[el];refine zt (p:=λj=>decide (bF s n (P.getD i []) (P.getD j [])≠0)) _ (λj hj P2 hP2=>?_) .un [] (by simp[small];omega) ?_
  .have hj:=Yah.mp hj
   show gIx (.lst<|P.map aF) (.int i) _;refine⟨_,ga i hi,?_⟩;show gIx (.lst<|P.map aF) (.int j) _;refine⟨_,ga j<|by omega,?_⟩;refine GP h (rr _<|gp i hi) (rr _<|gp j<|by omega) ?_;refine⟨_,rfl,Bm ?_⟩;have:(!((bF s n (P.getD i [])<|P.getD j []).num==0))=decide (bF s n (P.getD i []) (P.getD j [])≠0):=by
    have:=GL (q:=bF s n (P.getD i [])<|P.getD j []);rw[gM]at this ⊢;simp at this ⊢
   rw[oI rfl,this];exact hP2
  .rw[dC,hG]
   refine⟨by decide,n6 (okG _) (by decide +kernel) ?_⟩;have:iB (.lst<|List.map (λ(k:Nat)=>D.int (k:Int)) gl) (.lst [])=gl.isEmpty:=by
    cases gl with
    |nil=>rfl
    |cons g gs=>
     unfold iB;rw[cR,pd,pd,PyData.eqv,fo,fo,PyData.eqvAll];rfl
   rw[oI rfl,this];exact hP'
 .cases gl with
  |nil=>cases b
  |cons g gs=>
   have gm:g∈(List.range i).filter λj=>decide (bF s n (P.getD i []) (P.getD j [])≠0):=by rw[hG];simp
   have h1:=Yah.mp (Yag.mp gm).1;have h2:=NB (Yag.mp gm).2;rw[Ni λz=>h2<|z i hi g h1]at q;exact q
 .cases gl with
  |cons g gs=>cases b
  |nil=>
   refine hnx _ ⟨λi' hi' j hj=>?_,_,rfl⟩
   by_cases z:i'<i
   .exact al i' z j hj
   .have e:i'=i:=by omega
    subst e;refine Classical.byContradiction λy=>?_;have:j∈(List.range i').filter λj=>decide (bF s n (P.getD i' []) (P.getD j [])≠0):=Yag.mpr ⟨Yah.mpr hj,Nh y⟩;rw[hG]at this;cases this
theorem Db(P:List (List Rat)):(((P.map λr=>(bF s n r r).num).countP (· == 0):Nat):Int)=(P.length:Int)-(iI s n P:Int)-(j7 s n P:Int):=by
 unfold iI j7;induction P with
 |nil=>rfl
 |cons r P ih=>
  have h1:(0<(bF s n r r).num↔0<bF s n r r):=Zeg.1;have h2:((bF s n r r).num<0↔bF s n r r<0):=Zeg.2;rw[cR,uM,tT,tT,d8];by_cases a:0<bF s n r r;have b:¬bF s n r r<0:=λz=>by have:=h1.mpr a;have:=h2.mpr z;omega
  have c:((bF s n r r).num==0)=false:=by have z:=h1.mpr a;rw[NN];exact λy=>by rw[y]at z;exact Nd z (by decide)
  rw[ks (by rw[c];decide),oI<|Nh a,ks (by rw[Ni b];decide),d8];omega;by_cases b:bF s n r r<0;have c:((bF s n r r).num==0)=false:=by have z:=h2.mpr b;rw[NN];exact λy=>by rw[y]at z;exact Nd z (by decide)
  rw[ks (by rw[c];decide),ks (by rw[Ni a];decide),oI<|Nh b,d8];omega;have c:((bF s n r r).num==0)=true:=by have z1:¬0<(bF s n r r).num:=λz=>a<|h1.mp z;have z2:¬(bF s n r r).num<0:=λz=>b<|h2.mp z;rw[NE];omega
  rw[oI c,ks (by rw[Ni a];decide),ks (by rw[Ni b];decide)];omega
theorem Mi:Rd xE C9 Zgk:=by
 rintro _ E Q ⟨⟨⟨s,n⟩,P⟩,rfl,⟨h,hl,hr⟩,q⟩;dsimp only at h hl hr q;have n5:=h.n5;show C9 E _ [.d<|aR s,.d<|aS P,.un,.un];unfold C9;refine bU<|B.C.own_by (xs:=(P.map λr=>(bF s n r r).num).map D.int) (ρ':=[.d<|aR s,.d<|aS P,.ow<|(P.map λr=>(bF s n r r).num).map D.int,.un]) rfl (λP' h'=>?_) ?_
 show lcW _ _ _ (P.map aF) [.un,.d<|aR s] [] _;refine jW (g:=aF) (f:=λr=>.int (bF s n r r).num) P (λr hr' P'' hP=>?_) .un [] (du (by simp;omega)) ?_;walk_at "s";exact GP h (hr r hr') (hr r hr') ⟨_,rfl,hP⟩;rw[dC];rw[cY]at h';exact h';dsimp only;refine B.C.pub_by (ρ':=[.d<|aR s,.d<|aS P,.d<|.lst<|(P.map λr=>(bF s n r r).num).map D.int,.un]) rfl ?_;have eC:∀(c:Int->Bool) (d:Rat->Bool) (w:WT),(∀q:Rat,c q.num=d q)->(∀(i:Int) (P':Bool->Prop),P' (c i)->w No [.d<|.int i] P')->∀(ρ:bZ) (P':D->Prop),P' (.int (((P.filter λr=>d<|bF s n r r).length:Nat):Int))->wB bH (aC (wL<|aLC (iS<|wC<|.lst<|(P.map λr=>(bF s n r r).num).map D.int) 1 [] (gN 0) w<|wN 0) aA) E ρ P':=λc d w hc hw ρ P' hP=>by show lcW _ _ _ ((P.map λr=>(bF s n r r).num).map D.int) [.un] [] _;rw[cY];refine uu (g:=λr=>D.int (bF s n r r).num) (f:=λr=>D.int (bF s n r r).num) (p:=λr=>d<|bF s n r r) P (λr hr P'' h=>?_) (λr hr P'' h=>h) .un [] (du (by simp;omega)) ?_;exact hw _ _ (by rw[hc];exact h);walk_at "s";rw[bG];exact hP
 refine bU<|hV (d:=.int (iI s n P:Int)) (ρ':=[.d<|aR s,.d<|aS P,.d<|.lst<|(P.map λr=>(bF s n r r).num).map D.int,.d<|.int (iI s n P:Int)]) rfl (λP' h=>?_) ?_
 refine eC (λi=>decide (i>0)) (λq=>decide (0<q)) (wT<|w2 nA (wN 0)<|wC<|.int<|0) (λq=>by rw[gM,Nf,Nf];exact Zeg.1) (λi P'' h=>?_) _ P' h;walk_at "s";exact h;dsimp only;refine B.C.pub_by (ρ':=[.d<|aR s,.d<|aS P,.d<|.lst<|(P.map λr=>(bF s n r r).num).map D.int,.d<|.int (iI s n P:Int)]) rfl ?_;simp only[aM,aZ,aC,aA,wN,db,de];refine eC (λi=>decide (i<0)) (λq=>decide (q<0)) (wT<|w2 eS (wN 0)<|wC<|.int<|0) (λq=>by rw[gM,Nf,Nf];exact Zeg.2) (λi P'' h=>?_) _ _ ?_;walk_at "s";exact h;refine⟨⟨_,rfl⟩,_,0,rfl,rfl,?_⟩;rw[Db];exact⟨(by decide:3<=small),q⟩
section
def El(n:Nat)(d:D):Prop:=(∃r:List Rat,d=aF r/\Lf 168 n r)\/(kd d=true/\cZ 223 d=true/\∀r:List Rat,r.length=n->d≠aF r)
def El.row(h:Lf 168 n r):El n (aF r):=.inl ⟨r,rfl,h⟩
theorem BC(h:aF r=aF r'):r=r':=by rw[<-nF r,h,nF]
theorem El.gd(n5:n<=5)(h:El n d):kd d=true/\cZ 223 d=true:=by
 rcases h with⟨r,rfl,z⟩|⟨h1,h2,_⟩
 exact⟨vX (by have:=z.len;omega),Zcr.mpr λy hy=>(z.sz y hy).mono<|by decide⟩;exact⟨h1,h2⟩
theorem Gd.lst(n5:n<=5)(hl:xs.length<=5000)(h:∀ x∈xs,El n x):Gd n (.lst xs):=⟨vV hl λx hx=>((h x hx).gd n5).1,by rw [cZ,oh];exact λx hx=>((h x hx).gd n5).2,λP e hP hr r hr'=>by
 unfold aS at e;injection e with e
 have m:aF r∈xs:=by rw[e];exact mE hr'
 rcases h _ m with⟨r',e',h1⟩|⟨_,_,h3⟩
 .rw[BC e'];exact h1
 .exact Nd rfl<|h3 r<|hr r hr'⟩
def Gd.no(h1:kd d=true)(h2:cZ 223 d=true)(h:∀xs,d≠.lst xs):Gd n d:=⟨h1,h2,λP e=>Nd e<|h _⟩
theorem Bn.el(b:Bn n P)(h:r∈P):El n (aF r):=El.row<|(b.lf r h).mono (by decide)
theorem Lf.two(h:Lf 163 n r):Lf 168 n (r.map λx=>x*Rat.divInt 2 3):=by obtain⟨c,e,h1,h2,h3,h4,rfl⟩:=h.ex;refine⟨c.map (2 * ·),3*e,by rw[bG];exact h1,by omega,?_,λx hx=>?_,?_⟩;have:(3*e).natAbs=3*e.natAbs:=eW 3 e;rw[this,show(2:Nat)^168=32*2^163 by rw[show 168=5+163 by rfl,kS]];omega;obtain⟨y,hy,rfl⟩:=YbQ.mp hx;have h4:=h4 y hy;have:(2*y).natAbs=2*y.natAbs:=eW 2 y;rw[this,show(2:Nat)^168=32*2^163 by rw[show 168=5+163 by rfl,kS]];omega;rw[cY,cY];refine iO λx _=>?_;show Rat.divInt x e*Rat.divInt 2 3=Rat.divInt (2*x) (3*e);rw[uO,uP x 2,uP e 3]
theorem Lf.nul:Lf 168 n (List.replicate n 0):=⟨List.replicate n 0,1,nO,by decide,by decide,λx hx=>by rw [List.eq_of_mem_replicate hx];decide,by
 rw[yc];rfl⟩
end
theorem Mj:Rd z6 Da ZhG:=by
 rintro _ E Q ⟨⟨n,P⟩,rfl,⟨n1,n5,b⟩,q⟩;dsimp only at n1 n5 b q;have pl:=b.len;have pml:(P.map aF).length=n:=by rw[bG];exact pl
 have elP:∀x∈P.map aF,El n x:=λx hx=>by obtain⟨r,hr,rfl⟩:=YbQ.mp hx;exact b.el hr
 have elC:∀a c,∀x∈bB (P.map aF) a c,El n x:=λa c x hx=>elP x (by unfold bB at hx;exact mD<|pR hx);have lenC:∀a c,(bB (P.map aF) a c).length<=5:=λa c=>by have:=wy (xs:=P.map aF) (a:=a) (b:=c);omega
 show Da E _ [.d<|aS P,.d .pen,.un,.un,.un,.un];unfold Da;refine bU<|LP.set_rl (λd=>∃k:Nat,k<n/\d=.int k) (λP' hP=>?_) ?_
 show i4 [.pen,.int ((P.map aF).length:Nat)] E P';rw[pml];exact j5 (n:=n) (by omega) (by omega) λk hk=>hP _ ⟨k,hk,rfl⟩;rintro _ ⟨k,hk,rfl⟩;obtain⟨r,hr,ar⟩:∃r∈P,dW (P.map aF) (k:Int)=some (aF r):=⟨P[k],gu _,bQ (by rw[cH,bJ<|by omega];rfl)⟩;obtain⟨r2,hr2,ar2⟩:∃r∈P,dW (P.map aF) ((k:Int)-1)=some (aF r):=by by_cases z:k=0;subst z;refine⟨P[n-1],gu _,?_⟩;unfold dW jB;rw[ks<|by omega,oI<|by omega,show((0:Nat):Int)-1+((P.map aF).length:Int)=((n-1:Nat):Int) by omega,iN];show(P.map aF)[n-1]? = _;rw[cH,bJ<|by omega];rfl;refine⟨P[k-1],gu _,?_⟩;rw[show(k:Int)-1=((k-1:Nat):Int) by omega];exact bQ (by rw[cH,bJ<|by omega];rfl)
 have rl:r.length=n:=(b.lf r hr).len;dsimp only;refine bU<|LP.set_by (d:=aF r) (ρ':=[.d<|aS P,.d .pen,.d<|.int k,.d<|aF r,.un,.un]) (by rfl) (λP' hP=>⟨_,ar,hP⟩) ?_;dsimp only;refine bU ?_;simp only[bM,aY,aC,wF,aA,wN,db,de];refine(⟨r,rfl,⟨by omega,by omega,λy hy=>((b.lf r hr).sz y hy).mono<|by decide⟩,λd0 h0=>?_⟩:zZ [.pen,aF r] _ _);have z23:Sz 2 (Rat.divInt 2 3):=⟨by decide +kernel,by decide +kernel⟩
 have sh23:D.tup [.int 2,.int 3]=aN (Rat.divInt 2 3):=by rfl
 have e0:El n d0:=.inr ⟨h0.1,h0.2.1,λr' h'=>h0.2.2 r'<|by omega⟩;have e1:=b.el hr2;have e2:El n (aF<|List.replicate n 0):=El.row Lf.nul;have e3:El n (aF<|r.map λx=>x*Rat.divInt 2 3):=El.row<|Lf.two (b.lf r hr);have el4:∀x∈[d0,aF r2,aF<|List.replicate n 0,aF<|r.map λx=>x*Rat.divInt 2 3],El n x:=λx hx=>by
  simp only[Yan,eA,or_false]at hx;rcases hx with rfl|rfl|rfl|rfl
  exact e0;exact e1;exact e2;exact e3
 have er0:(List.replicate n [D.tup [.int 0,.int 1]]).flatten=(List.replicate n (0:Rat)).map aN:=by rw[List.flatten_replicate_singleton,yc];rfl
 generalize hd2:aF (List.replicate n 0)=d2 at el4;generalize hd3:aF (r.map λx=>x*Rat.divInt 2 3)=d3 at el4;walk_at "s";refine⟨_,ar2,by decide,by decide,by omega,by omega,by unfold small;omega,by decide,?_⟩;rw[rl,er0];change aG _ _ _ _ [.d<|aS P,.d .pen,.d<|.int k,.d<|aF r,.ow [d0,aF r2,aF<|List.replicate n 0],.un];rw[hd2];refine bU ?_;simp only[dk,wB,wL,aLC,iS,aC,aA,wN,db,de];show lcW _ _ _ (r.map aN) [.un] [] _;refine jW (g:=aN) (f:=λx=>aN<|x*Rat.divInt 2 3) r (λx hx Q hq=>?_) .un [] (du (by simp;omega)) ?_;walk_at "s";rw[sh23];exact⟨by decide,ul (B2.of ((b.lf r hr).sz x hx) z23<|by decide) hq⟩;rw[dC];have e3':D.tup (r.map λx=>aN<|x*Rat.divInt 2 3)=d3:=by rw[<-hd3];unfold aF;rw[cY];rfl
 change 3<small/\bD _ _ _ _ [.d<|aS P,.d .pen,.d<|.int k,.d<|aF r,.ow [d0,aF r2,d2,D.tup<|r.map λx=>aN<|x*Rat.divInt 2 3],.un];rw[e3'];refine⟨by decide,?_⟩;refine B.C.pub_by (ρ':=[.d<|aS P,.d .pen,.d<|.int k,.d<|aF r,.d<|.lst [d0,aF r2,d2,d3],.un]) rfl ?_;refine bU<|LP.set_rl (λd=>∃x y z,d=.lst [x,y,z]/\Gd n x/\Gd n y/\Gd n z) (λP' hP=>?_) ?_
 unfold aS;walk_at "s";refine j5 (n:=4) (by decide) (by decide) λj hj=>?_;obtain⟨o,ho,eo⟩:=tz (P:=El n) (xs:=[d0,aF r2,d2,d3]) (k:=j) (by simpa using hj) el4;refine⟨_,ho,?_⟩;have l1:=lenC none<|some (k:Int);have l2:=lenC (some<|(k:Int)+1) none;refine⟨by decide,du (by simp;omega),du (by simp;omega),du<|by omega,by decide,du (by simp;omega),by decide,?_⟩;refine hP _ ⟨_,_,_,rfl,Gd.lst n5 (by simp;omega) λx hx=>?_,Gd.lst n5 (by simp;omega) λx hx=>?_,Gd.lst n5 (by simp;omega) λx hx=>?_⟩
 simp only[Yao,Yan,eA,or_false]at hx;rcases hx with(hx|rfl)|hx
 exact elC _ _ x hx;exact eo;exact elC _ _ x hx;rcases Yao.mp hx with hx|hx
 exact elC _ _ x hx;exact elC _ _ x hx;rcases Yao.mp hx with hx|hx
 exact elP x hx;rw[Ycw.mp hx];exact b.el hr;rintro _ ⟨x,y,z,rfl,gx,gy,gz⟩;dsimp only;unfold aS;walk_at "s";refine jW (g:=aF) (f:=G.lq) P (λr hr Q hq=>?_) .un [] (du (by simp;omega)) ?_;unfold aF;walk_at "s";exact hq;rw[dC];refine⟨by decide,by decide,by decide,j5 (n:=10) (by decide) (by decide) λj hj=>?_⟩;have gP:∀x∈P.map aF,kd x=true/\cZ 223 x=true:=λx hx=>(elP x hx).gd n5;have gL:kd (D.lst<|P.map aF)=true/\cZ 223 (D.lst<|P.map aF)=true:=⟨vV (by omega) λx hx=>(gP x hx).1,by rw[cZ,oh];exact λx hx=>(gP x hx).2⟩;obtain ⟨o,ho,go⟩:=tz (P:=Gd n) (xs:=[x,y,z,D.tup<|List.map aF P,D.lst (List.map aF P).reverse,D.lst<|P.map G.lq,D.non,D.int 0,D.dic,D.lst [D.lst<|List.map aF P]]) (k:=j) (by simpa using hj) (by
  intro x' hx;simp only[Yan,eA,or_false]at hx;rcases hx with rfl|rfl|rfl|rfl|rfl|rfl|rfl|rfl|rfl|rfl
  .exact gx
  .exact gy
  .exact gz
  .exact Gd.no (lQ (by omega) λx hx=>(gP x hx).1) (by rw[cZ,oh];exact λx hx=>(gP x hx).2) λxs e=>nomatch e
  .exact Gd.lst n5 (by rw[uK];omega) λx hx=>elP x (Ycp.mp hx)
  .refine Gd.lst n5 (by rw[bG];omega) λx hx=>?_
   obtain⟨r',hr',rfl⟩:=YbQ.mp hx;have g:kd (aF r')=true/\cZ 223 (aF r')=true:=gP _ (mE hr');refine .inr ⟨vV (qt g.1).1 (qt g.1).2,?_,λr _ e=>nomatch e⟩;have:=g.2;unfold aF at this;rw[cZ]at this;unfold G.lq;rw[cZ];exact this
  .exact Gd.no (by rw[kd]) (by simp[cZ]) λxs e=>nomatch e
  .exact Gd.no (by rw[kd]) (by rw[cZ];exact Nh<|by decide) λxs e=>nomatch e
  .exact Gd.no (by rw[kd]) (by simp[cZ]) λxs e=>nomatch e
  .refine Gd.lst n5 (by simp) λx hx=>?_
   rw[Ycw.mp hx];exact .inr ⟨gL.1,gL.2,λr _ e=>nomatch e⟩)
 exact⟨o,ho,q o go⟩
theorem Mk{x:D}{e:Str}(h:rk x=.error e):e∈LX:=by unfold rk at h;refine KY (λe z=>?_) h;split at z;cases z;injection z with z;rw[<-z];simp
theorem Ml:Rd tK GW ZhA:=by rintro _ E Q ⟨⟨n,x,y⟩,rfl,h,q⟩;dsimp only at h q;unfold GW;simp only[f9];refine⟨λex=>ex∈LX/\Q (.str<|um ex),λex ⟨he,hq⟩=>⟨he,?_⟩,?_⟩;unfold uk;walk_at "s";exact J0 he hq;walk_at "n";unfold rq at q;by_cases hn:n=0;subst hn;rw[oI rfl]at q;rw[oI<|by rfl];exact⟨x,rfl,h.1,Cw (λe he=>Mk he) q⟩;rw[ks hn]at q;rw[ks<|by simpa using hn];walk_at "s";by_cases hn1:n=1;subst hn1;rw[oI rfl]at q;rw[oI<|by rfl];exact⟨(x,y),rfl,h,Cw (λe he=>L5 he) q⟩;rw[ks hn1]at q;rw[ks (by simp;omega)];exact⟨(x,y),rfl,h,Cw (λe he=>L6 he) q⟩
section
theorem GZ(n5:n<=5)(hl:P.length=n)(q:Q (.str (pd<|mx s n P).shown)):Zhk [mx s n P] Q:=by
 have b1:iI s n P<=5:=by unfold iI;exact gU (yi _ _) (by omega)
 have b2:j7 s n P<=5:=by unfold j7;exact gU (yi _ _) (by omega)
 refine LD (xs:=[(iI s n P:Int),(j7 s n P:Int),(P.length:Int)-(iI s n P:Int)-(j7 s n P:Int)]) (λx hx=>?_) (by simp) q;have:x.natAbs<=15:=by simp only[Yan,eA,or_false]at hx;rcases hx with rfl|rfl|rfl<;>omega
 exact rE this<|da (show 15<2^4 by decide) (lZ (by decide)<|by decide)
theorem Bn.gd(n5:n<=5)(b:Bn n P):Gd n (aS P):=Gd.lst n5 (by rw[bG];have:=b.len;omega) λx hx=>by obtain⟨r,hr,rfl⟩:=YbQ.mp hx;exact b.el hr
def Pa.bn(p:Pa s n P):Bn n P:=⟨p.len,p.lf⟩
theorem Pa.good(p:Pa s n P):jw s n (aS P)=true:=by unfold aS;rw[jw,bG,Nh p.len,uH,tQ,dQ];refine⟨Ybd.mpr λx hx=>?_,?_⟩;obtain⟨r,hr,rfl⟩:=YbQ.mp hx;have:=y0 r;rw[(p.lf r hr).len]at this;exact this;unfold uF;exact Nh ⟨Go (λr hr=>(p.lf r hr).len) p.fu,p.ap⟩
theorem Mm(n:Nat):Bn n ((List.range n).map λk=>(List.range n).map λj=>if j=k then(1:Rat) else 0):=by refine⟨by simp,λr hr=>?_⟩;obtain⟨k,_,rfl⟩:=YbQ.mp hr;refine⟨(List.range n).map λj=>if j=k then(1:Int) else 0,1,by simp,by decide,by decide +kernel,λx hx=>?_,?_⟩;obtain⟨j,_,rfl⟩:=YbQ.mp hx;split;decide +kernel;decide +kernel;rw[cY];refine iO λj _=>?_;show(if j=k then(1:Rat) else 0)=Rat.divInt (if j=k then 1 else 0) 1;split<;>rfl
theorem Mo(P:List (List Rat)):cW (aS P) 60=true:=ug (n:=59) λx hx=>by obtain⟨r,_,rfl⟩:=YbQ.mp hx;exact IZ r 57
def Mp(s:List Int)(n:Nat)(P:List (List Rat)):cW (mx s n P) 60=true:=qX [_,_,_] 59
end
theorem G0(h:IsSl s n)(g:Gd n y):Gx (aR s) y:=⟨h.kd,g.k,λs' n' e h'=>by
 have e1:s=s':=by rw[<-ii s,e,ii]
 subst e1;have h1:=h.len;have h2:=h'.len;have:n'=n:=by omega
 rw[this];exact g⟩
theorem Mq{x:D}(h:kd x=true):Gx x .non:=⟨h,by rw[kd],λs n _ _=>Gd.no (by rw[kd]) (by simp[cZ]) λxs e=>nomatch e⟩
theorem Mr(h:IsSl s n)(ev:s.reverse=s):eM (aR s) y=.ok (.bl<|jw s n y):=by unfold eM;rw[iY h];unfold ik;rw[ii,h.sN,Nh ev,oI rfl]
theorem Ms(h:IsSl s n)(ev:s.reverse=s):h8 (aR s) y=if jw s n y=true then .ok (mx s n<|xz y) else .error "NoRow" :=by unfold h8;rw[iY h];unfold ik;rw[ii,h.sN,Nh ev,oI rfl]
theorem Mu(b:Bool):D.tup [.int (if b then 1 else 0),.int 1]=aN (if b=true then 1 else 0):=by cases b<;>rfl
theorem Mv:Rd xF z7 GX:=by
 rintro _ E Q ⟨xs,rfl,hx,q⟩;dsimp only at hx q;show z7 E _ [.d<|.scr<|xs.map .int,.un,.un,.un,.un,.un,.un,.un,.un,.un,.un,.un,.un];generalize hS:D.scr (xs.map .int)=S;unfold z7;refine B.C.pub_by (ρ':=[.d S,.un,.un,.un,.un,.un,.un,.un,.un,.un,.un,.un,.un]) rfl ?_;refine bU ?_;simp only[bA];have ec:∃cs:List Int,bB (xs.map D.int) (some 1) (some 4)=cs.map D.int/\cs.length<=63:=by
  refine⟨bB xs (some 1)<|some 4,?_,?_⟩
  .unfold bB
   rw[bG,nX,qE]
  .unfold bB
   rw[jL,kR];omega
 obtain⟨cs,ec,hcs⟩:=ec;refine LP.for_seq (xs:=(xs.getD 0 0::cs).map D.int) (λP h=>?_) ?_
 .subst hS
  walk_at "s";refine JN (i:=0) ?_;walk_at "s";rw[ec];exact⟨by decide,by simp[small];omega,h⟩
 clear ec hcs;refine B5 (λρ=>∃s1 s2 s3 s4 s5 s6 s7 s8 s9 s10 s11 s12,ρ=[.d S,s1,s2,s3,s4,s5,s6,s7,s8,s9,s10,s11,s12]) _ ?_ ?_ _ ⟨_,_,_,_,_,_,_,_,_,_,_,_,rfl⟩
 rotate_left
 .rintro _ ⟨s1,s2,s3,s4,s5,s6,s7,s8,s9,s10,s11,s12,rfl⟩
  exact q
 clear q hS hx;rintro d hd _ ⟨s1,s2,s3,s4,s5,s6,s7,s8,s9,s10,s11,s12,rfl⟩ nx hnx;obtain⟨c,_,rfl⟩:=YbQ.mp hd;clear hd;show aG _ _ _ _ [.d S,.d<|.int c,s2,s3,s4,s5,s6,s7,s8,s9,s10,s11,s12];refine bU<|LP.set_by (d:=.pen) (ρ':=[.d S,.d<|.int c,.d .pen,s3,s4,s5,s6,s7,s8,s9,s10,s11,s12]) (by rfl) (λP h=>?_) ?_
 .walk_at "s"
  exact JO h
 dsimp only;refine bU<|LP.set_rl (λd=>∃s n,d=aR s/\IsSl s n/\s.reverse=s) (λP h=>?_) ?_
 .walk_at "s"
  exact LB λs n hs ev=>h _ ⟨s,n,rfl,hs,ev⟩
 rintro _ ⟨s,n,rfl,h,ev⟩;have n1:=h.n1;have n5:=h.n5;have hl:=h.len;have pa:=CF h ev;have bn:=Pa.bn pa;have gb:=Bn.gd n5 bn;have gg:=Pa.good pa;dsimp only;refine bU<|LP.set_by (d:=.int n) (ρ':=[.d S,.d<|.int c,.d .pen,.d<|aR s,.d<|.int n,s5,s6,s7,s8,s9,s10,s11,s12]) (by rfl) (λP hP=>G.V5.size_w h hP) ?_;dsimp only;refine bU<|LP.set_by (d:=aS<|gh s n) (ρ':=[.d S,.d<|.int c,.d .pen,.d<|aR s,.d<|.int n,.d<|aS<|gh s n,s6,s7,s8,s9,s10,s11,s12]) (by rfl) (λP hP=>?_) ?_
 .walk_at "s"
  exact F7 h ev hP
 dsimp only;have eev:ik (aR s)=true:=by unfold ik;rw[ii];simpa using ev
 refine bU<|j6 (b:=false) (λP hP=>?_) (λe=>nomatch e) λ_=>?_
 .simp only[e8,bS,wT,w2,wF,aC,aA,wN,db,de]
  refine GQ h ev gb ?_;rw[gg];simp only[i5,eP,dD,if_false];refine GR h pa.len (λr hr=>⟨(pa.lf r hr).len,λy hy=>((pa.lf r hr).sz y hy).mono<|by decide⟩) ?_;refine LC h ev<|ud (Mp _ _ _) ?_;simp only[i5,eP,dD,if_false];exact F7 h ev<|ud (Mo _) hP
 dsimp only;generalize hU:((List.range n).map λk=>(List.range n).map λj=>if j=k then(1:Rat) else 0)=U;have bu:Bn n U:=by rw[<-hU];exact Mm n
 refine bU<|B.C.own_by (xs:=U.map aF) (ρ':=[.d S,.d<|.int c,.d .pen,.d<|aR s,.d<|.int n,.d<|aS<|gh s n,.ow<|U.map aF,s7,s8,s9,s10,s11,s12]) rfl (λP hP=>?_) ?_
 .walk_at "s"
  refine⟨by omega,by omega,?_⟩;rw[jX];refine jW (g:=λk:Nat=>D.int (k:Int)) (f:=λk:Nat=>aF ((List.range n).map λj=>if j=k then(1:Rat) else 0)) (List.range n) (λk hk Q hq=>?_) .un [] (du (by simp;omega)) ?_
  .walk_at "s"
   refine⟨by omega,by omega,?_⟩;rw[jX];refine jW (g:=λi:Nat=>D.int (i:Int)) (f:=λi:Nat=>aN (if i=k then 1 else 0)) (List.range n) (λi hi Q hq=>?_) .un [] (du (by simp;omega)) ?_
   .walk_at "s"
    refine⟨by decide,?_⟩;rw[Mu,show((i:Int)==(k:Int))=decide (i=k) by rw[gM];simp;omega];simpa using hq
   .walk_at "s"
    unfold aF at hq;rw[cY]at hq;exact hq
  .rw[dC]
   rw[<-hU,cY]at hP;exact hP
 dsimp only;refine B.C.pub_by (ρ':=[.d S,.d<|.int c,.d .pen,.d<|aR s,.d<|.int n,.d<|aS<|gh s n,.d<|aS U,s7,s8,s9,s10,s11,s12]) rfl ?_;refine bU<|LP.set_rl (λd=>∃W,Bn n W/\d=.lst [aS<|gh s n,aS U,aS W]) (λP hP=>?_) ?_
 .walk_at "s"
  refine⟨by omega,by omega,?_⟩;refine Br (R:=λ_ y=>∃r:List Rat,y=aF r/\Lf 80 n r) (λd _ Q hq=>?_) .un [] (du (by unfold rng;simp;omega)) λys hl hy=>?_
  .walk_at "s"
   exact LV n5 λr h1=>hq _ ⟨r,rfl,h1⟩
  .rw[dC]
   have hyl:ys.length=n:=by rw[hl];unfold rng;simp
   have:∃W:List (List Rat),ys=W.map aF/\∀r∈W,Lf 80 n r:=by
    clear hl hyl hP
    induction ys with
    |nil=>exact⟨[],rfl,by simp⟩
    |cons y ys ih=>
     obtain⟨W,rfl,hW⟩:=ih λz hz=>hy z (by simp[hz]);obtain⟨_,_,r,rfl,hr⟩:=hy y (by simp);refine⟨r::W,rfl,λx hx=>?_⟩;rcases Yan.mp hx with rfl|hx
     .exact hr
     .exact hW x hx
   obtain⟨W,rfl,hW⟩:=this;rw[bG]at hyl;exact⟨by decide,hP _ ⟨W,⟨hyl,λr hr=>(hW r hr).mono<|by decide⟩,rfl⟩⟩
 rintro _ ⟨W,bw,rfl⟩;dsimp only;refine bU ?_;simp only[bA];show bP _ _ _ _ _ [.d S,.d<|.int c,.d .pen,.d<|aR s,.d<|.int n,.d<|aS<|gh s n,.d<|aS U,.d<|.lst [aS<|gh s n,aS U,aS W],s8,s9,s10,s11,s12];have b3:∀x∈[aS<|gh s n,aS U,aS W],∃P,x=aS P/\Bn n P:=λx hx=>by
  simp only[Yan,eA,or_false]at hx;rcases hx with rfl|rfl|rfl
  .exact⟨_,rfl,bn⟩
  .exact⟨_,rfl,bu⟩
  .exact⟨_,rfl,bw⟩
 have l3:[aS<|gh s n,aS U,aS W].length=3:=rfl;generalize [aS<|gh s n,aS U,aS W]=L3 at b3 l3;simp only[bP,iS,w2,wL,aLC,wN,db,de];refine⟨du<|by omega,?_⟩;show lcW _ _ _ (L3++L3) [.un,.d .pen] [] _;refine Br (R:=λ_ y=>Gd n y) (λd hd Q hq=>?_) .un [] (du (by simp;omega)) λys hl hy=>?_
 .have hd':d∈L3:=by rcases Yao.mp hd with z|z<;>exact z
  obtain⟨P,rfl,bp⟩:=b3 d hd';walk_at "s";exact LU n1 n5 bp λd g=>hq d g
 rw[dC];rw[dG]at hl;refine⟨du<|by omega,?_⟩;show Zbb _ _ _ _ (L3++ys) _;have gA:∀t∈L3++ys,Gd n t:=λt ht=>by
  rcases Yao.mp ht with z|z
  .obtain⟨P,rfl,bp⟩:=b3 t z
   exact Bn.gd n5 bp
  .obtain⟨_,_,g⟩:=hy t z
   exact g
 refine B5 (λρ=>∃s8 s9 s10,ρ=[.d S,.d<|.int c,.d .pen,.d<|aR s,.d<|.int n,.d<|aS<|gh s n,.d<|aS U,.d<|.lst L3,s8,s9,s10,s11,s12]) _ ?_ ?_ _ ⟨_,_,_,rfl⟩
 .rintro t ht _ ⟨s8,s9,s10,rfl⟩ nx3 hnx3
  have g:=gA t ht;simp only[gN,eY,eX];refine bU<|LP.set_by (d:=.bl<|jw s n t) (ρ':=[.d S,.d<|.int c,.d .pen,.d<|aR s,.d<|.int n,.d<|aS<|gh s n,.d<|aS U,.d<|.lst L3,.d t,.d<|.bl<|jw s n t,s10,s11,s12]) (by rfl) (λP hP=>GQ (E:=No) h ev g hP) ?_;dsimp only;refine bU<|LP.set_by (d:=.bl<|jw s n t) (ρ':=[.d S,.d<|.int c,.d .pen,.d<|aR s,.d<|.int n,.d<|aS<|gh s n,.d<|aS U,.d<|.lst L3,.d t,.d<|.bl<|jw s n t,.d<|.bl<|jw s n t,s11,s12]) (by rfl) (λP hP=>⟨(aR s,t),rfl,G0 h g,?_⟩) ?_
  .dsimp only
   rw[Mr h ev];exact hP
  dsimp only;refine bU<|j6 (b:=false) (λP hP=>?_) (λe=>nomatch e) λ_=>?_
  .cases jw s n t with
   |true=>
    walk_at "s";refine mn (by rw[kd]) (by decide) λt' ht'=>?_;cases ht';simp only[show fZ "bool" "bool" = true from rfl,eP,dD,if_false,i5];exact ud (by decide +kernel) hP
   |false=>
    walk_at "s";refine mn (by rw[kd]) (by decide) λt' ht'=>?_;cases ht';simp only[show fZ "bool" "bool" = true from rfl,eP,dD,if_false,i5];exact ud (by decide +kernel) hP
  dsimp only;refine j6 (b:=false) (λP hP=>?_) (λe=>nomatch e) λ_=>hnx3 _ ⟨_,_,_,rfl⟩;simp only[wT,w2,wB,wF,j4,aC,aA,wN,wC,db,de];refine GS (k:=2) (G0 h g) ?_;have e:nN (rq 2 (aR s) t)=if jw s n t=true then mx s n (xz t) else .str "row" :=by
   unfold rq;rw[ks<|by decide,ks<|by decide,Ms h ev];split<;>rfl
  rw[e];cases eg:jw s n t with
  |false=>
   simp only[dD,if_false,i5];exact E6 (by decide +kernel)<|E6 (by decide +kernel) (E7 hP)
  |true=>
   obtain⟨P',rfl,hl',hr',_,_⟩:=GY eg;have er:xz (aS P')=P':=uH P';simp only[if_true,i5,er];exact GZ n5 hl'<|GR h hl' (g.r170 hl' hr') (GZ n5 hl'<|E7 hP)
 rintro _ ⟨s8,s9,s10,rfl⟩;dsimp only;refine bU<|LP.set_rl (λd=>∃s n,d=aR s/\IsSl s n) (λP h=>?_) ?_
 .walk_at "s"
  exact EI λs n hs=>h _ ⟨s,n,rfl,hs⟩
 rintro _ ⟨o,m,rfl,ho⟩;dsimp only;have two:∀(x:D) (w:Str) (P:D->Prop),kd x=true->cW (.str w) 59=true->(∀k,nN (rq k x .non)=.str w)->P (.bl false)->∀(ρ:bZ) (i:Nat),ρ[i]? = some (.d x)->w2 (gEq true) (wL<|aLC (dU<|aC (wC<|.int<|3) aA) 1 [i] (gN 0) cE<|wF tK<|aC (wN 0)<|aC (wN 1)<|aC (wC D.non) aA) (w2 gMul (wL<|aY<|aC (wC<|D.str w) aA)<|wC<|.int<|3) No ρ P:=λx w P hk ho ha hP ρ i hi=>by
  simp only[w2,wL,aLC,dU,aC,aA,wC];refine⟨by decide,by decide,?_⟩;rw[show rng 0 (3:Int).toNat=(List.range 3).map λ(k:Nat)=>D.int (k:Int) from jX 3];show lcW _ _ _ _ (.un::[match ρ[i]? with|some (.d y)=>SV.d y|_=>.un]) [] _;rw[hi];refine jW (g:=λk:Nat=>D.int (k:Int)) (f:=λ_=>.str w) (List.range 3) (λk _ P' h'=>?_) .un [] (by decide) ?_
  .simp only[wF,aC,aA,wN,wC,db,de]
   refine GS (Mq hk) ?_;rw[ha k];exact h'
  .refine⟨du<|by simp,?_⟩
   refine⟨by decide,by decide,du<|by simp,?_⟩;refine ud (ug (n:=59) λy hy=>?_) hP;have:y=.str w:=by
    rw[dC]at hy;obtain⟨_,_,e⟩:=YbQ.mp hy;exact e.symm
   rw[this];exact ho
 refine bU<|j6 (b:=false) (λP hP=>?_) (λe=>nomatch e) λ_=>?_
 .by_cases eo:o.reverse=o
  .walk_at "s"
   refine n6 (qX _ 59) (qX _ 59) ?_;rw[Ce,eo];simp only[decide_true,eP,if_true,i5,dD,if_false];exact hP
  .simp only[dE,wT,w2,w1,wN,db,de]
   show gEq true (aR o) (.tup (o.map D.int).reverse) _;rw[<-rF];refine n6 (qX _ 59) (qX _ 59) ?_;rw[show iB (aR o) (.tup<|o.reverse.map D.int)=decide (o=o.reverse) from Ce _ _,Ni λz=>eo z.symm];simp only[if_true,l5,i5];refine two (aR o) "even" _ ho.kd (by decide +kernel) (λk=>?_) hP _ 11 rfl;have ne:ik (aR o)=false:=by unfold ik;rw[ii];simpa using eo
   unfold rq rk eM h8;rw[iY ho,iY ho,iY ho,ne];split
   .rfl
   .split<;>rfl
 dsimp only;refine bU<|LP.set_rl (λd=>kd d=true) (λP hP=>?_) ?_
 .walk_at "s"
  exact J1 h λd hd=>hP d hd
 intro bad kb;dsimp only;refine j6 (b:=false) (λP hP=>?_) (λe=>nomatch e) λ_=>hnx _ ⟨_,_,_,_,_,_,_,_,_,_,_,_,rfl⟩;simp only[dE,bS,wT,wF,aC,aA,wN,db,de];refine Zf kb ?_;cases eb:f8 bad with
 |true=>exact hP
 |false=>
  simp only[i5,l5,if_true];refine two bad "slants" _ kb (by decide +kernel) (λk=>?_) hP _ 12 rfl;unfold rq rk eM h8;rw[n9 eb,n9 eb,n9 eb];split
  .rfl
  .split<;>rfl
theorem Mw{ns:List Int}(hl:ns.length<=63)(hO:qo H)(hS:SqL K H a (ns.map V.int)):hJ K xF [.ref a] H (λv _=>v=.bl true) λ_ _ _=>False:=by
 have rv:∀W:Wd,Reps K W (ns.map V.int) (ns.map D.int):=λW=>by
  clear hl hS;induction ns with
  |nil=>exact .nil|cons n ns ih=>exact .cons (.int n) ih
 have ok:WOk ⟨H,λ_=>False⟩ H:=⟨λ_ _ e=>e,λ_ e=>e.elim⟩;refine⟨[.scr<|ns.map .int],⟨H,λ_=>False⟩,ok,.cons (.scr ?_<|rv _) .nil,ns,rfl,hl,λv W' H' _ r=>?_⟩;rcases hS with(h|h)|h
 rcases hO a with z|⟨o,xs,z⟩
 rw[h]at z;cases z;rw[h]at z;cases z;exact .inl h;exact .inr h;cases r;rfl
def top(i:Nat):Stmt:=PySem.Challenge.pw_slanttables_k50_sign_papers.main.body.getD i<|.Pass ⟨0,0,0,0⟩
structure Bs(K:Nb)(mg:Str->Option Value):Prop where
 aa:aU K mg "is_whole" (top 3)
 ab:aU K mg "is_within" (top 4)
 ac:aU K mg "are_within" (top 5)
 ad:aU K mg "common_divisor" (top 6)
 ae:aU K mg "is_share" (top 7)
 af:aU K mg "is_row_within" (top 8)
 ag:aU K mg "is_row" (top 9)
 ah:aU K mg "share_by" (top 10)
 ai:aU K mg "plus" (top 11)
 aj:aU K mg "minus" (top 12)
 ak:aU K mg "times" (top 13)
 al:aU K mg "by" (top 14)
 am:aU K mg "row_of" (top 15)
 an:aU K mg "one_at" (top 16)
 ao:aU K mg "row_by" (top 17)
 ap:aU K mg "row_less" (top 18)
 aq:aU K mg "sum_of_products" (top 19)
 ar:aU K mg "first_with" (top 21)
 as:aU K mg "without_place" (top 22)
 au:aU K mg "cleared" (top 23)
 av:aU K mg "are_independent" (top 24)
 aw:aU K mg "size_of" (top 40)
 ax:aU K mg "slants_good" (top 41)
 ay:aU K mg "need_slants" (top 42)
 az:aU K mg "table_of" (top 43)
 a0:aU K mg "turned_slants" (top 44)
 a1:aU K mg "row_good" (top 45)
 a2:aU K mg "share_rows" (top 46)
 a3:aU K mg "times_row" (top 47)
 a4:aU K mg "is_even" (top 49)
 a5:aU K mg "need_even" (top 50)
 a6:aU K mg "pair_at" (top 51)
 a7:aU K mg "lead_among" (top 52)
 a8:aU K mg "apart_from" (top 53)
 a9:aU K mg "apart_rows" (top 54)
 ba:aU K mg "form_at" (top 56)
 bb:aU K mg "are_apart" (top 57)
 bc:aU K mg "sign_paper_good" (top 58)
 bd:aU K mg "signs_by" (top 59)
 be:aU K mg "sign_paper" (top 60)
 bf:aU K mg "_law_cell_at" (top 62)
 bg:aU K mg "_law_next" (top 63)
 bh:aU K mg "_law_pen_of" (top 64)
 bi:aU K mg "_law_draw" (top 65)
 bj:aU K mg "_law_whole" (top 66)
 bk:aU K mg "_law_kind_of" (top 67)
 bl:aU K mg "_law_share" (top 68)
 bm:aU K mg "_law_add" (top 69)
 bn:aU K mg "_law_times" (top 70)
 bo:aU K mg "_law_made" (top 71)
 bp:aU K mg "_law_slants_by" (top 72)
 bq:aU K mg "_law_row_by" (top 73)
 br:aU K mg "_law_even_by" (top 74)
 bs:aU K mg "_law_form" (top 75)
 bt:aU K mg "_law_no_slants" (top 76)
 bu:aU K mg "_law_slants_good" (top 77)
 bv:aU K mg "_law_no_row" (top 78)
 bw:aU K mg "_law_row_good" (top 79)
 bx:aU K mg "_law_signs" (top 80)
 bz:aU K mg "_law_own" (top 81)
 b0:aU K mg "_law_good" (top 82)
 b1:aU K mg "_law_shown" (top 83)
 b2:aU K mg "_law_bent" (top 84)
 b3:aU K mg "_law_told" (top 85)
 b4:aU K mg "law" (top 86)
 b5:mg "len" = none
 b6:mg "list" = none
 b7:mg "abs" = none
 b8:mg "tuple" = none
 b9:mg "range" = none
 ca:mg "zip" = none
 cb:mg "bool" = none
 cd:mg "int" = none
 ce:mg "isinstance" = none
 cf:mg "all" = none
 cg:mg "max" = none
 ch:mg "ValueError" = none
 ci:CC K mg "NoLine"
 cj:CC K mg "NoNumber"
 ck:CC K mg "NoRow"
 cl:CC K mg "NoSlants"
 cm:CC K mg "NoText"
 cn:CC K mg "NotEven"
 co:CC K mg "NotFull"
 cp:CC K mg "NotStrong"
 cq:CC K mg "TooGreat"
 xi:XI K LX MX
 cr:CI mg "GREATEST_SIZE" (5)
 cs:CI mg "LEAST" (-50)
 ct:CI mg "MOST" (50)
 cu:XC K mg "NoSlants"
 cv:XC K mg "NotEven"
 cw:CT K mg "NOUGHT" [(D.int<|0),(D.int<|1)]
 cx:XC K mg "NoRow"
 cy:mg "enumerate" = none
 cz:CT K mg "ONE" [(D.int<|1),(D.int<|1)]
 c0:XT K mg "SlantError" LX
 c1:mg "repr" = none
section
variable{P:Program}{w:World}{base:Heap}(Z:Bs K mg)
include Z
def G1:Fp P w K mg base 1 "_law_next" (ZhB.take 1) wn:=cL JS Z.bg λsc hr hx hw=>aT (cM 0 (aW qT (aW cV (aE 0) aL) aL) sc)<|aX (bL<|aW qT (aW cV (aW cV (aW gF (aE 0)<|aE 0)<|aW gF aL<|aE 0) aL) aL)
def j8:Fp P w K mg base 2 "_law_draw" (ZhF.take 2) i4:=cL JU Z.bi λsc hr hx hw=>aT (dS (c8 (dZ hr.units) (bE vS (aE 0) aL) aL) (aT (cM 2 (aW qT (bE vS (aE 0) aL)<|aE 1) sc)<|aT (DT 0 0<|aW me (bE vS (aE 0) aL)<|aE 1)<|aX<|bL<|aE 2) dR)<|aT (DT 0 2<|aV (G1 Z) hr hx<|Za (aW cV (aV (G1 Z) hr hx<|Za (bE vS (aE 0) aL) aH) aL) aH) (aX<|bL<|aW qT (aW me (bE vS (aE 0) aL) aL)<|aE 1)
theorem Mx:Fp P w K mg base 3 "_law_no_row" (Zfu.take 2) zZ:=cL Md Z.bv λsc hr hx hw=>aT (cM 2 (aV (j8 Z) hr hx<|Za (aE 0)<|Za (cJ fk Z.b5 Np<|Za (aE 1) aH) aH) sc)<|aT (cM 3 (PXL.px<|dX<|Za (d9<|Za aL<|Za aL aH)<|Za (d9<|Za aL<|Za aL aH)<|Za (d9<|Za aL<|Za (yC yE aL) aH)<|Za (d9<|Za aL<|Za aL aH)<|Za (d9<|Za fM<|Za aL aH)<|Za (d9<|Za aL<|Za fM aH)<|Za aL<|Za nu<|Za (PXL.px<|dX<|Za aL<|Za aL aH)<|Za j3<|Za (d9<|Za aL aH)<|Za (d9<|Za aL<|Za aL<|Za aL aH) aH) sc) (aT (cM 3 (bE aP (aE 3)<|aV (j8 Z) hr hx<|Za (aE 0)<|Za aL aH) sc)<|aT (cM 4 (PXL.px<|dX<|Za (aW cV (aW cV (fY (aE 1) gT<|fh<|aE 2)<|d9<|Za (aE 3) aH)<|fY (aE 1) (fh<|aW cV (aE 2) aL) gT)<|Za (aW cV (aE 1)<|d9<|Za (aE 3) aH)<|Za (fY (aE 1) (fh aL) gT)<|Za (aW cV (aE 1)<|fY (aE 1) gT<|fh aL)<|Za (PXL.px<|tX t0 Z.b6 NF<|Za (aE 1) aH)<|Za nu<|Za aL<|Za BK<|Za (d9<|Za (aE 1) aH) aH) sc)<|aX<|bL<|bE aP (aE 4)<|aV (j8 Z) hr hx<|Za (aE 0)<|Za aL aH)
theorem uI:Fp P w K mg base 1 "_law_share" (Zgl.take 2) nG:=cL JV Z.bl λsc hr hx hw=>aT (Bo 2 3 sc<|Za (cJ Bl Z.b7 boot_abs<|Za (aE 0) aH)<|Za (cJ Bl Z.b7 boot_abs<|Za (aE 1) aH) aH)<|aT (ig<|yM PassesOwn.never (c8 (c9 hr.units) (aE 3) aL)<|aX<|Bo 2 3 sc<|Za (aE 3)<|Za (aW qT (aE 2)<|aE 3) aH) (aT (dS (c8 jV (aE 1) aL) (aX<|cM 2 (aW gk aL<|aE 2) sc) dR)<|aX<|bL<|d9<|Za (aW me (aE 0)<|aE 2)<|Za (aW me (aE 1)<|aE 2) aH)
def tL:Fp P w K mg base 2 "_law_times" (Zgj.take 2) jJ:=cL JX Z.bn λsc hr hx hw=>aX<|bL (aV (uI Z) hr hx<|Za (aW gF (bE aP (aE 0) aL)<|bE aP (aE 1) aL)<|Za (aW gF (bE aP (aE 0) aL)<|bE aP (aE 1) aL) aH)
theorem My:Fp P w K mg base 4 "_law_bent" (ZhG.take 2) z6:=cL Mj Z.b2 λsc hr hx hw=>aT (cM 2 (aV (j8 Z) hr hx<|Za (aE 1)<|Za (cJ fk Z.b5 Np<|Za (aE 0) aH) aH) sc)<|aT (cM 3 (bE aP (aE 0)<|aE 2) sc) (aT (mf 4 (dX<|Za (aV (Mx Z) hr hx<|Za (aE 1)<|Za (aE 3) aH)<|Za (bE aP (aE 0)<|aW gk (aE 2) aL)<|Za (aW y6 (d9<|Za (d9<|Za aL<|Za aL aH) aH)<|cJ fk Z.b5 Np<|Za (aE 3) aH) aH) sc)<|aT (vR 4<|kC nZ Z.b8 Nt<|Za (PXL.px<|e9 ["_law_one"] [] rfl (fE<|aE 3) (λ_ _ _=>(bY 0 (by decide +kernel:List.Nodup (["_law_one"]:List Str)))) (λ_ _ _=>eJ)<|λ_ _ _=>(aV (tL Z) hr cD<|Za (aE 0)<|Za (d9<|Za aL<|Za aL aH) aH)) aH)<|fN 4<|aT (cM 5 (PXL.px<|dX<|Za (aW cV (aW cV (fY (aE 0) gT<|fh<|aE 2)<|PXL.px<|dX<|Za (bE aP (aE 4)<|aV (j8 Z) hr hx<|Za (aE 1)<|Za aL aH) aH)<|fY (aE 0) (fh<|aW cV (aE 2) aL) gT)<|Za (aW cV (fY (aE 0) gT<|fh<|aE 2)<|fY (aE 0) (fh<|aW cV (aE 2) aL) gT)<|Za (aW cV (aE 0)<|PXL.px<|dX<|Za (aE 3) aH) aH) sc)<|aX<|bL<|bE aP (aW cV (aE 5)<|PXL.px<|dX<|Za (kC nZ Z.b8 Nt<|Za (aE 0) aH)<|Za (vM<|aE 0)<|Za (PXL.px<|e9 ["_law_one"] [] rfl (fE<|aE 0) (λ_ _ _=>(bY 0 (by decide +kernel:List.Nodup (["_law_one"]:List Str)))) (λ_ _ _=>eJ)<|λ_ _ _=>(PXL.px<|tX t0 Z.b6 NF<|Za (aE 0) aH))<|Za nu<|Za aL<|Za BK<|Za (PXL.px<|dX<|Za (aE 0) aH) aH)<|aV (j8 Z) hr hx<|Za (aE 1)<|Za aL aH)
def Mz:Fp P w K mg base 1 "_law_cell_at" (ZeP.take 2) y9:=cL JR Z.bf λsc hr hx hw=>aT (dS (c8 jV (aE 1)<|cJ fk Z.b5 Np<|Za (aE 0) aH) (aX<|bL<|bE aP (aE 0)<|aE 1) dR)<|aX (bL aL)
theorem G3:Fp P w K mg base 3 "_law_slants_by" (ZdV.take 1) wq:=cL JZ Z.bp λsc hr hx hw=>aT (cM 1 (aW cV aL<|aV (j8 Z) hr hx<|Za (aE 0)<|Za aL aH) sc)<|aT (cM 2 (aV (j8 Z) hr hx<|Za (aE 0)<|Za aL aH) sc) (aT (cM 3 (bE aP (PXL.px<|dX<|Za aL<|Za aL<|Za aL<|Za aL aH)<|aV (j8 Z) hr hx<|Za (aE 0)<|Za aL aH) sc)<|aT (sU 4 ["_law_place"] [0,3] rfl sc (jq Z.b9<|Za (aW gk (aW gF aL<|aE 1) aL) aH) (λ_ _ _=>(bY 0 (by decide +kernel:List.Nodup (["_law_place", "_law_pen", "_law_span"]:List Str)))) (λ_ _ _=>eJ)<|λ_ _ _=>(aW gk (aV (j8 Z) hr cD<|Za (aE 1)<|Za (aW cV (aW gF aL<|aE 2) aL) aH)<|aE 2))<|aT (dS (c8 (dZ hr.units) (aE 2) aL) (aX<|mf 4 (uc 4<|yO (fY (aE 4) gT<|fh<|aE 1)<|vM<|fY (aE 4) gT<|fh<|aW gk (aE 1) aL) sc) dR)<|aT (dS (c8 (dZ hr.units) (aE 2) aL) (aX<|mf 4 (uc 4<|yO (fY (aE 4) (fh aL)<|fh<|aE 1)<|fY (aE 4) gT<|fh<|aE 1) sc) dR)<|aT (dS (c8 (dZ hr.units) (aE 2) aL) (aX<|mf 4 (uc 4<|yO (fY (aE 4) gT<|fh<|aE 1)<|aW gF (PXL.px<|dX<|Za aL aH)<|aW gk (aE 1) aL) sc) dR)<|aT (dS (c8 (dZ hr.units) (aE 2) aL) (aX<|DS 4 (aW gk (aE 1) aL) aL) dR)<|aT (dS (c8 (dZ hr.units) (aE 2) aL) (aX<|mf 4 (uc 4<|IX (fY (aE 4) gT<|fh aL)<|aW gk (aW gF aL<|aE 1) aL) sc) dR)<|fN 4<|aX<|bL<|kC nZ Z.b8 Nt<|Za (aE 4) aH)
def Zh:Fp P w K mg base 4 "_law_even_by" (ZeO.take 1) zR:=cL LK Z.br λsc hr hx hw=>aT (cM 1 (aV (G3 Z) hr hx<|Za (aE 0) aH) sc)<|aT (cM 2 (aW me (aW cV (cJ fk Z.b5 Np<|Za (aE 1) aH) aL) aL) sc) (aX<|bL<|aW cV (fY (aE 1) gT<|fh<|aE 2)<|vM<|fY (aE 1) gT<|fh<|aW gk (aE 2) aL)
def uJ:Fp P w K mg base 2 "_law_add" (Zio.take 2) jI:=cL JW Z.bm λsc hr hx hw=>aX<|bL (aV (uI Z) hr hx<|Za (aW cV (aW gF (bE aP (aE 0) aL)<|bE aP (aE 1) aL)<|aW gF (bE aP (aE 1) aL)<|bE aP (aE 0) aL)<|Za (aW gF (bE aP (aE 0) aL)<|bE aP (aE 1) aL) aH)
theorem MA:Fp P w K mg base 3 "_law_made" (ZhC.take 2) zX:=cL LW Z.bo λsc hr hx hw=>aT (cM 2 (aW me (aW cV (cJ fk Z.b5 Np<|Za (aE 0) aH) aL) aL) sc)<|aT (mf 3 (dX aH) sc) (aT (ig<|kH PassesOwn.never rfl (jq Z.b9<|Za (aE 2) aH) (bY 4 sc)<|aT (cM 5 (d9<|Za aL<|Za aL aH) sc)<|aT (ig<|kH PassesOwn.never rfl (jq Z.b9<|Za (aE 2) aH) (bY 6 sc)<|aX<|cM 5 (aV (uJ Z) hr cD<|Za (aE 5)<|Za (aV (tL Z) hr cD<|Za (d9<|Za (bE aP (aE 0)<|aW gk (aW cV (aW gk (aE 6)<|aE 4)<|aE 2) aL)<|Za aL aH)<|Za (bE aP (aE 1)<|aE 6) aH) aH) sc)<|aX<|vR 3<|aE 5)<|fN 3<|aX<|bL<|kC nZ Z.b8 Nt<|Za (aE 3) aH)
def G4:Fp P w K mg base 4 "_law_form" (ZhE.take 3) xC:=cL LZ Z.bs λsc hr hx hw=>aT (cM 3 (d9<|Za aL<|Za aL aH) sc)<|aT (ig<|kH PassesOwn.never rfl (ub Z.ca<|Za (aE 1)<|Za (aV (MA Z) hr cD<|Za (aE 0)<|Za (aE 2) aH) aH) (lm rfl<|fO (bY 4 sc)<|fO (bY 5 sc) Zb)<|aX<|cM 3 (aV (uJ Z) hr cD<|Za (aE 3)<|Za (aV (tL Z) hr cD<|Za (aE 4)<|Za (aE 5) aH) aH) sc) (aX<|bL<|aE 3)
theorem MB:Fp P w K mg base 3 "_law_own" (Zin.take 1) zY:=cL Mc Z.bz λsc hr hx hw=>aT (mf 1 (e9 ["_law_row"] [] rfl (fE<|aE 0) (λ_ _ _=>(bY 0 (by decide +kernel:List.Nodup (["_law_row"]:List Str)))) (λ_ _ _=>eJ)<|λ_ _ _=>(PXL.px<|tX t0 Z.b6 NF<|Za (aE 0) aH)) sc)<|fN 3 (aT (ig<|kH PassesOwn.never rfl (jq Z.b9<|Za (yN 1<|cJ fk Z.b5 Np<|Za (aE 1) aH) aH) (bY 2 sc)<|aT (Kh 3 1 ["_law_place"] [1,2] rfl sc (jq Z.b9<|Za (cJ fk Z.b5 Np<|Za (bE aP (aE 1)<|aE 2) aH) aH) (λ_ _ _=>(bY 0 (by decide +kernel:List.Nodup (["_law_place", "_law_left", "_law_at"]:List Str)))) (λ_ _ _=>(Ze<|c8 (c9 hr.units) (bE aP (bE aP (bE aP (aE 1)<|aE 2)<|aE 0) aL) aL))<|λ_ _ _=>(aE 0))<|fN 3<|aT (dS (c8 (dZ hr.units) (aE 3)<|PXL.px<|dX aH) (aX<|bL fM) dR)<|fN 3<|aT (vQ (yN 1<|bE aP (bE aP (aE 1)<|aE 2)<|bE aP (aE 3) aL)<|lm rfl<|fO (bY 4 sc)<|fO (bY 5 sc) Zb)<|fN 3<|aX<|ig<|kH PassesOwn.never rfl (IR Z.b9<|Za (aW cV (aE 2) aL)<|Za (yN 1<|cJ fk Z.b5 Np<|Za (aE 1) aH) aH) (bY 6 sc)<|fN 3<|aT (cM 7 (yN 1<|aV (tL Z) hr cD<|Za (bE aP (bE aP (aE 1)<|aE 6)<|bE aP (aE 3) aL)<|Za (aV (uI Z) hr cD<|Za (aW gk aL<|aE 5)<|Za (aE 4) aH) aH) sc)<|aX<|DS 1 (aE 6)<|PXL.px<|uc 1<|e9 ["_law_one", "_law_two"] [7] rfl (ub Z.ca<|Za (bE aP (aE 1)<|aE 6)<|Za (bE aP (aE 1)<|aE 2) aH) (λ_ _ _=>(lm rfl<|fO (bY 0 (by decide +kernel:List.Nodup (["_law_one", "_law_two", "_law_part"]:List Str)))<|fO (bY 1 (by decide +kernel:List.Nodup (["_law_one", "_law_two", "_law_part"]:List Str))) Zb)) (λ_ _ _=>eJ)<|λ_ _ _=>(aV (uJ Z) hr cD<|Za (aE 0)<|Za (aV (tL Z) hr cD<|Za (aE 2)<|Za (aE 1) aH) aH))<|aX<|bL fM)
def Dc:Fp P w K mg base 1 "_law_whole" (Zgi.take 1) uo:=cL Ka Z.bj λsc hr hx hw=>aX<|bL (sS (cJ lO Z.ce Nj<|Za (aE 0)<|Za (lh Z.cd NO) aH)<|sR<|DL<|cJ lO Z.ce Nj<|Za (aE 0)<|Za (lh Z.cb boot_bool) aH)
theorem MC:Fp P w K mg base 2 "_law_row_good" (Zco.take 2) S__law_row_good:=cL rd__law_row_good Z.bw λsc hr hx hw=>aT (dS (PXW.pxt<|jU (gD<|gC<|cJ lO Z.ce Nj<|Za (aE 1)<|Za (lh Z.b8 Nt) aH)<|lb<|c8 (c9 hr.units) (cJ fk Z.b5 Np<|Za (aE 1) aH)<|aE 0) (aX<|bL fM) dR)<|aT (ig<|kH PassesOwn.never rfl (fE<|aE 1) (bY 2 sc)<|aT (dS (PXW.pxt<|jU (gD<|gC<|cJ lO Z.ce Nj<|Za (aE 2)<|Za (lh Z.b8 Nt) aH)<|jU (c8 (c9 hr.units) (cJ fk Z.b5 Np<|Za (aE 2) aH) aL)<|jU (gD<|gC<|aV (Dc Z) hr cD<|Za (bE aP (aE 2) aL) aH)<|lb<|gD<|gC<|aV (Dc Z) hr cD<|Za (bE aP (aE 2) aL) aH) (aX<|bL fM) dR)<|aX<|dS (PXW.pxt<|jU (c8 jV (bE aP (aE 2) aL) aL)<|lb<|c8 (c9 hr.units) (aV (uI Z) hr cD<|Za (bE aP (aE 2) aL)<|Za (bE aP (aE 2) aL) aH)<|aE 2) (aX<|bL fM) dR) (aX<|bL fM)
theorem G5:Fp P w K mg base 5 "_law_good" (ZhD.take 2) xD:=cL Mh Z.b0 λsc hr hx hw=>aT (cM 2 (aW me (aW cV (cJ fk Z.b5 Np<|Za (aE 0) aH) aL) aL) sc)<|aT (dS (PXW.pxt<|jU (gD<|gC<|cJ lO Z.ce Nj<|Za (aE 1)<|Za (lh Z.b6 NF) aH)<|lb<|c8 (c9 hr.units) (cJ fk Z.b5 Np<|Za (aE 1) aH)<|aE 2) (aX<|bL fM) dR) (aT (dS (PXW.pxt<|jU (gD<|gC<|cJ (t3 rfl) Z.cf boot_all<|Za (PXL.px<|e9 ["_law_row"] [2] rfl (fE<|aE 1) (λ_ _ _=>(bY 0 (by decide +kernel:List.Nodup (["_law_row", "_law_size"]:List Str)))) (λ_ _ _=>eJ)<|λ_ _ _=>(aV (MC Z) hr cD<|Za (aE 1)<|Za (aE 0) aH)) aH)<|lb<|gD<|gC<|aV (MB Z) hr hx<|Za (aE 1) aH) (aX<|bL fM) dR)<|aT (ig<|kH PassesOwn.never rfl (jq Z.b9<|Za (aE 2) aH) (bY 3 sc)<|aX<|dS (c8 (c9 hr.units) (PXL.px<|e9 ["_law_k"] [0,1,3] rfl (jq Z.b9<|Za (aE 3) aH) (λ_ _ _=>(bY 0 (by decide +kernel:List.Nodup (["_law_k", "_law_slants", "_law_thing", "_law_at"]:List Str)))) (λ_ _ _=>(Ze<|c8 (c9 hr.units) (bE aP (aV (G4 Z) hr cD<|Za (aE 1)<|Za (bE aP (aE 2)<|aE 3)<|Za (bE aP (aE 2)<|aE 0) aH) aL) aL))<|λ_ _ _=>(aE 0))<|PXL.px<|dX aH) (aX<|bL fM) dR)<|aX<|bL fM)
theorem MD:Fp P w K mg base 3 "_law_no_slants" (ZdW.take 2) zj:=cL Ke Z.bt λsc hr hx hw=>aT (cM 2 (aV (j8 Z) hr hx<|Za (aE 0)<|Za (aW cV (cJ fk Z.b5 Np<|Za (aE 1) aH) aL) aH) sc)<|aT (cM 3 (bE aP (PXL.px<|dX<|Za aL<|Za (yC yE aL)<|Za fM<|Za nu<|Za j3<|Za (d9<|Za aL aH)<|Za (aW Bi aL aL) aH)<|aV (j8 Z) hr hx<|Za (aE 0)<|Za aL aH) sc) (aT (cM 4 (PXL.px<|dX<|Za (aW cV (aW cV (aW cV (fY (aE 1) gT<|fh<|aE 2)<|d9<|Za (aE 3) aH)<|fY (aE 1) (fh<|aW cV (aE 2) aL) gT)<|aW y6 (d9<|Za (aE 3) aH)<|kC vO Z.cd NO<|Za (nw (dZ hr.units) (aE 2)<|cJ fk Z.b5 Np<|Za (aE 1) aH) aH)<|Za (aW cV (aE 1)<|d9<|Za aL aH)<|Za (PXL.px<|tX t0 Z.b6 NF<|Za (aE 1) aH) aH) sc)<|aT (cM 4 (aW cV (aE 4)<|PXL.px<|dX<|Za (d9 aH)<|Za (aW y6 (d9<|Za aL aH) aL)<|Za (aW y6 (d9<|Za aL aH) aL)<|Za nu<|Za aL<|Za BK<|Za j3<|Za (d9<|Za (aE 1) aH)<|Za (fY (aE 1) (fh aL) gT) aH) sc)<|aX<|bL<|bE aP (aE 4)<|aV (j8 Z) hr hx<|Za (aE 0)<|Za aL aH)
def ME:Fp P w K mg base 1 "_law_pen_of" (Zft.take 1) zd:=cL JT Z.bh λsc hr hx hw=>aT (cM 1 (cJ (vN rfl) Z.cg boot_max<|Za (aE 0)<|Za (aW gk aL<|aE 0) aH) sc)<|aX (bL<|IY<|dX<|Za (aE 1)<|Za (kC vO Z.cd NO<|Za (nw Bj (aE 1)<|aW Bi aL aL) aH)<|Za (aW qT (aE 1) aL) aH)
theorem MF:Fp P w K mg base 3 "_law_row_by" (Zfs.take 2) z5:=cL Mf Z.bq λsc hr hx hw=>aT (cM 2 (bE aP (PXL.px<|dX<|Za aL<|Za aL<|Za aL<|Za aL<|Za aL<|Za aL<|Za aL<|Za (aW Bi aL aL) aH)<|aV (j8 Z) hr hx<|Za (aE 0)<|Za aL aH) sc)<|aT (mf 3 (dX aH) sc) (aT (ig<|kH PassesOwn.never rfl (jq Z.b9<|Za (aE 1) aH) (bY 4 sc)<|aX<|vR 3<|aV (uI Z) hr cD<|Za (aW gF (aW gk (aV (j8 Z) hr cD<|Za (aE 0)<|Za aL aH) aL)<|aE 2)<|Za (aW cV aL<|aV (j8 Z) hr cD<|Za (aE 0)<|Za aL aH) aH)<|fN 3<|aX<|bL<|kC nZ Z.b8 Nt<|Za (aE 3) aH)
theorem G6:Fp P w K mg base 5 "_law_shown" (Zgk.take 2) xE:=cL Mi Z.b1 λsc hr hx hw=>aT (sU 2 ["_law_row"] [0] rfl sc (fE<|aE 1) (λ_ _ _=>(bY 0 (by decide +kernel:List.Nodup (["_law_row", "_law_slants"]:List Str)))) (λ_ _ _=>eJ)<|λ_ _ _=>(bE aP (aV (G4 Z) hr cD<|Za (aE 1)<|Za (aE 0)<|Za (aE 0) aH) aL))<|fN 2 (aT (cM 3 (cJ fk Z.b5 Np<|Za (PXL.px<|e9 ["_law_one"] [] rfl (fE<|aE 2) (λ_ _ _=>(bY 0 (by decide +kernel:List.Nodup (["_law_one"]:List Str)))) (λ_ _ _=>(Ze<|c8 sT (aE 0) aL))<|λ_ _ _=>(aE 0)) aH) sc)<|fN 2<|aX<|bL<|d9<|Za (aE 3)<|Za (cJ fk Z.b5 Np<|Za (PXL.px<|e9 ["_law_one"] [] rfl (fE<|aE 2) (λ_ _ _=>(bY 0 (by decide +kernel:List.Nodup (["_law_one"]:List Str)))) (λ_ _ _=>(Ze<|c8 jV (aE 0) aL))<|λ_ _ _=>(aE 0)) aH)<|Za (BG PySem.F.slot_list_count PySem.F.type_list_count Lc (aE 2)<|Za aL aH) aH)
theorem MG:Fp P w K mg base 3 "_law_signs" (ZcB.take 1) xm:=cL rd__law_signs Z.bx λsc hr hx hw=>aT (cM 1 (aW me (aW cV (cJ fk Z.b5 Np<|Za (aE 0) aH) aL) aL) sc)<|aT (xa 2 (Ls ["_law_i"] [0,1] rfl (jq Z.b9<|Za (aE 1) aH) (λ_ _ _=>(bY 0 (by decide +kernel:List.Nodup (["_law_i", "_law_slants", "_law_size"]:List Str)))) (λ_ _ _=>eJ)<|λ_ _ _=>(e9 ["_law_j"] [0,1,2] rfl (jq Z.b9<|Za (aE 2) aH) (λ_ _ _=>(bY 0 (by decide +kernel:List.Nodup (["_law_j", "_law_i", "_law_slants", "_law_size"]:List Str)))) (λ_ _ _=>eJ)<|λ_ _ _=>(d9<|Za (bE aP (aE 2)<|aW gk (aW cV (aW gk (aE 0)<|aE 1)<|aE 3) aL)<|Za aL aH))) sc) (aT (mf 3 (dX<|Za aL<|Za aL aH) sc)<|aT (mf 4 (Km Z.b6 Z.b9<|Za (aE 1) aH) sc)<|aT (ig<|yM PassesOwn.never (IW 4<|c8 (c9 hr.units) (aE 4)<|PXL.px<|dX aH)<|aT (LA 5 2 4 ["_law_at"] [2] rfl sc (fE<|aE 4) (λ_ _ _=>(bY 0 (by decide +kernel:List.Nodup (["_law_at", "_law_rows"]:List Str)))) (λ_ _ _=>(Ze<|c8 (c9 hr.units) (bE aP (bE aP (bE aP (aE 1)<|aE 0)<|aE 0) aL) aL))<|λ_ _ _=>(aE 0))<|fN 5<|aT (dS (c8 (dZ hr.units) (aE 5)<|PXL.px<|dX aH) (aT (cM 6 (PXL.px<|dX aH) sc)<|aT (ig<|GB 7 4 PassesOwn.never rfl sc<|Gz<|GA 6 (PXL.px<|CN 2<|uc 4<|yO (aE 6)<|PXL.px<|e9 ["_law_j"] [2,7] rfl (fE<|aE 4) (λ_ _ _=>(bY 0 (by decide +kernel:List.Nodup (["_law_j", "_law_rows", "_law_i"]:List Str)))) (λ_ _ _=>(Ze<|PXW.pxt<|Bf (c8 jV (aE 2)<|aE 0)<|Be<|c8 (c9 hr.units) (bE aP (bE aP (bE aP (aE 1)<|aE 2)<|aE 0) aL) aL))<|λ_ _ _=>(d9<|Za (aE 2)<|Za (aE 0) aH)) sc)<|aT (dS (c8 (dZ hr.units) (aE 6)<|PXL.px<|dX aH) (aX Lv) dR)<|aT (vQ (bE aP (aE 6) aL)<|lm rfl<|fO (bY 7 sc)<|fO (bY 8 sc) Zb)<|aT (Gy 2 (aE 7)<|CN 2<|e9 ["_law_one", "_law_other"] [] rfl (ub Z.ca<|Za (bE aP (aE 2)<|aE 7)<|Za (bE aP (aE 2)<|aE 8) aH) (λ_ _ _=>(lm rfl<|fO (bY 0 (by decide +kernel:List.Nodup (["_law_one", "_law_other"]:List Str)))<|fO (bY 1 (by decide +kernel:List.Nodup (["_law_one", "_law_other"]:List Str))) Zb)) (λ_ _ _=>eJ)<|λ_ _ _=>(aV (uJ Z) hr cD<|Za (aE 0)<|Za (aE 1) aH))<|aT (ig<|Lx 9 2 PassesOwn.never rfl sc (aE 7)<|aV (uJ Z) hr cD<|Za (bE aP (aE 9)<|aE 7)<|Za (bE aP (aE 9)<|aE 8) aH)<|aX<|cM 5 (PXL.px<|dX<|Za (aE 7) aH) sc) dR)<|fN 5<|aT (cM 10 (bE aP (aE 5) aL) sc)<|aT (vQ (Gv 2<|bE aP (bE aP (aE 2)<|aE 10)<|aE 10)<|lm rfl<|fO (bY 11 sc)<|fO (bY 12 sc) Zb)<|aT (Kk 3 (kC vO Z.cd NO<|Za (nw jV (aE 11) aL) aH) aL)<|aT (Lw 4<|aE 10)<|aX<|ig<|GB 13 4 PassesOwn.never rfl sc<|Ly (GA 14 (Gv 2<|aV (tL Z) hr cD<|Za (bE aP (bE aP (aE 2)<|aE 13)<|aE 10)<|Za (aV (uI Z) hr cD<|Za (aW gk aL<|aE 12)<|Za (aE 11) aH) aH) sc)<|Gz<|Lz 2 (aE 13)<|CN 2<|e9 ["_law_one", "_law_two"] [14] rfl (ub Z.ca<|Za (bE aP (aE 2)<|aE 13)<|Za (bE aP (aE 2)<|aE 10) aH) (λ_ _ _=>(lm rfl<|fO (bY 0 (by decide +kernel:List.Nodup (["_law_one", "_law_two", "_law_part"]:List Str)))<|fO (bY 1 (by decide +kernel:List.Nodup (["_law_one", "_law_two", "_law_part"]:List Str))) Zb)) (λ_ _ _=>eJ)<|λ_ _ _=>(aV (uJ Z) hr cD<|Za (aE 0)<|Za (aV (tL Z) hr cD<|Za (aE 2)<|Za (aE 1) aH) aH))<|fN 3<|aX<|bL<|d9<|Za (bE aP (aE 3) aL)<|Za (bE aP (aE 3) aL)<|Za (aW gk (aW gk (aE 1)<|bE aP (aE 3) aL)<|bE aP (aE 3) aL) aH)
theorem MH:Fp P w K mg base 2 "_law_slants_good" (ZcA.take 1) zk:=cL Kc Z.bu λsc hr hx hw=>aT (dS (PXW.pxt<|jU (gD<|gC<|cJ lO Z.ce Nj<|Za (aE 0)<|Za (lh Z.b8 Nt) aH)<|lb<|c8 wg (cJ fk Z.b5 Np<|Za (aE 0) aH)<|d9<|Za aL<|Za aL<|Za aL<|Za aL<|Za aL aH) (aX<|bL fM) dR)<|aX (bL<|cJ (t3 rfl) Z.cf boot_all<|Za (PXL.px<|e9 ["_law_one"] [] rfl (fE<|aE 0) (λ_ _ _=>(bY 0 (by decide +kernel:List.Nodup (["_law_one"]:List Str)))) (λ_ _ _=>eJ)<|λ_ _ _=>(sS (aV (Dc Z) hr cD<|Za (aE 0) aH)<|sR<|DN kE kE (yC yE aL) (aE 0) aL)) aH)
theorem MI:BF P w K mg base 1 "_law_kind_of" (Zdc.take 1) zg:=Cu (z:=BW) (N:=Zdc) Z.bk (λsc _ _ _ _ _ _ hr=>(aT (cM 1 (PXL.px<|dX<|Za (cJ (oa Z.xi) Z.ce Nj<|Za (aE 0)<|Za (qy Z.cl) aH)<|Za (cJ (oa Z.xi) Z.ce Nj<|Za (aE 0)<|Za (qy Z.ck) aH)<|Za (cJ (oa Z.xi) Z.ce Nj<|Za (aE 0)<|Za (qy Z.cj) aH)<|Za (cJ (oa Z.xi) Z.ce Nj<|Za (aE 0)<|Za (qy Z.ci) aH) aH) sc)<|aT (cM 1 (aW cV (aE 1)<|PXL.px<|dX<|Za (cJ (oa Z.xi) Z.ce Nj<|Za (aE 0)<|Za (qy Z.cn) aH)<|Za (cJ (oa Z.xi) Z.ce Nj<|Za (aE 0)<|Za (qy Z.co) aH)<|Za (cJ (oa Z.xi) Z.ce Nj<|Za (aE 0)<|Za (qy Z.cp) aH) aH) sc)<|aT (cM 1 (aW cV (aE 1)<|PXL.px<|dX<|Za (cJ (oa Z.xi) Z.ce Nj<|Za (aE 0)<|Za (qy Z.cm) aH)<|Za (cJ (oa Z.xi) Z.ce Nj<|Za (aE 0)<|Za (qy Z.cq) aH) aH) sc)<|aT (dS (PXW.pxt<|jU (gD<|gC<|cJ (oa Z.xi) Z.ce Nj<|Za (aE 0)<|Za (lh Z.ch Kf) aH)<|lb<|c8 (c9 hr.units) (BG PySem.F.slot_list_count PySem.F.type_list_count Jr (aE 1)<|Za fM aH) aL) (aX<|bL j3) dR)<|aX<|bL<|bE aP (PXL.px<|dX<|Za j3<|Za j3<|Za j3<|Za j3<|Za j3<|Za j3<|Za j3<|Za j3<|Za j3 aH)<|BG PySem.F.slot_list_index PySem.F.type_list_index Js (aE 1)<|Za fM aH)) Kb
def G7:Fp P w K mg base 1 "common_divisor" (ZdU.take 2) yQ:=cL Jv Z.ad λsc hr hx hw=>aT (ig<|yM PassesOwn.never (c8 (c9 hr.units) (aE 1) aL)<|aX<|Bo 0 1 sc<|Za (aE 1)<|Za (aW qT (aE 0)<|aE 1) aH)<|aX (bL<|cJ Bl Z.b7 boot_abs<|Za (aE 0) aH)
def z9:Fp P w K mg base 2 "share_by" (Zii.take 2) sV:=cL JA Z.ah λsc hr hx hw=>aT (IV<|c8 (c9 hr.units) (aE 1) aL)<|aT (cM 2 (aV (G7 Z) hr hx<|Za (aE 0)<|Za (aE 1) aH) sc) (aT (dS (c8 jV (aE 1) aL) (aX<|cM 2 (yC yE<|aE 2) sc) dR)<|aX<|bL<|d9<|Za (aW me (aE 0)<|aE 2)<|Za (aW me (aE 1)<|aE 2) aH)
theorem G8:Fp P w K mg base 3 "by" (N_by.take 2) nE:=cL wG Z.al λsc hr hx hw=>aX<|bL (aV (z9 Z) hr hx<|Za (aW gF (bE aP (aE 0) aL)<|bE aP (aE 1) aL)<|Za (aW gF (bE aP (aE 0) aL)<|bE aP (aE 1) aL) aH)
def Dd:Fp P w K mg base 1 "is_whole" (Zil.take 1) uh:=cL Ey Z.aa λsc hr hx hw=>aX<|bL (sS (cJ lO Z.ce Nj<|Za (aE 0)<|Za (lh Z.cd NO) aH)<|sR<|DL<|cJ lO Z.ce Nj<|Za (aE 0)<|Za (lh Z.cb boot_bool) aH)
def MJ:Fp P w K mg base 2 "is_within" (Zhy.take 3) Bz:=cL Jt Z.ab λsc hr hx hw=>aX<|bL (sS (aV (Dd Z) hr hx<|Za (aE 0) aH)<|sR<|DN kE kE (aE 1) (aE 0)<|aE 2)
theorem MK:Fp P w K mg base 3 "are_within" (Zgf.take 3) yP:=cL Ju Z.ac λsc hr hx hw=>aX<|bL (sS (cJ lO Z.ce Nj<|Za (aE 0)<|Za (lh Z.b8 Nt) aH)<|sR<|cJ (t3 rfl) Z.cf boot_all<|Za (PXL.px<|e9 ["number"] [1,2] rfl (fE<|aE 0) (λ_ _ _=>(bY 0 (by decide +kernel:List.Nodup (["number", "least", "most"]:List Str)))) (λ_ _ _=>eJ)<|λ_ _ _=>(aV (MJ Z) hr cD<|Za (aE 0)<|Za (aE 1)<|Za (aE 2) aH)) aH)
def xG:Fp P w K mg base 1 "size_of" (ZjT.take 1) qu:=cL JF Z.aw λsc hr hx hw=>aX<|bL (aW me (aW cV (cJ fk Z.b5 Np<|Za (aE 0) aH) aL) aL)
def ML:Fp P w K mg base 4 "slants_good" (Zfq.take 1) v6:=cL JG Z.ax λsc hr hx hw=>aT (dS (PXW.pxt<|jU (gD<|gC<|aV (MK Z) hr hx<|Za (aE 0)<|Za (Cv Z.cs)<|Za (Cv Z.ct) aH)<|lb<|c8 (dZ hr.units) (aW qT (cJ fk Z.b5 Np<|Za (aE 0) aH) aL) aL) (aX<|bL fM) dR)<|aX (bL<|nw kE (aV (xG Z) hr hx<|Za (aE 0) aH)<|Cv Z.cr)
def De:Fp P w K mg base 5 "need_slants" (Zfr.take 1) qZ:=cL JH Z.ay λsc hr hx hw=>aX<|dS (gD<|gC<|aV (ML Z) hr hx<|Za (aE 0) aH) (aX<|v8 hw Z.cu) dR
def MM:Fp P w K mg base 6 "turned_slants" (Zel.take 1) yV:=cL JJ Z.a0 λsc hr hx hw=>aT (t4<|aV (De Z) hr hx<|Za (aE 0) aH)<|aX (bL<|vM<|aE 0)
def MN:Fp P w K mg base 7 "is_even" (ZjV.take 1) Cd:=cL Ks Z.a4 λsc hr hx hw=>aX<|bL (nw (dZ hr.units) (aV (MM Z) hr hx<|Za (aE 0) aH)<|aE 0)
def Df:Fp P w K mg base 8 "need_even" (Zhx.take 1) ur:=cL Kt Z.a5 λsc hr hx hw=>aX<|dS (gD<|gC<|aV (MN Z) hr hx<|Za (aE 0) aH) (aX<|v8 hw Z.cv) dR
theorem MO:Fp P w K mg base 2 "is_share" (Zim.take 1) BA:=cL Jw Z.ae λsc hr hx hw=>aT (dS (PXW.pxt<|jU (gD<|gC<|cJ lO Z.ce Nj<|Za (aE 0)<|Za (lh Z.b8 Nt) aH)<|lb<|c8 (c9 hr.units) (cJ fk Z.b5 Np<|Za (aE 0) aH) aL) (aX<|bL fM) dR)<|aT (vQ (aE 0)<|lm rfl<|fO (bY 1 sc)<|fO (bY 2 sc) Zb) (aT (dS (PXW.pxt<|jU (gD<|gC<|aV (Dd Z) hr hx<|Za (aE 1) aH)<|lb<|gD<|gC<|aV (Dd Z) hr hx<|Za (aE 2) aH) (aX<|bL fM) dR)<|aX<|bL<|sS (nw sT (aE 2) aL)<|sR<|nw (dZ hr.units) (aV (G7 Z) hr hx<|Za (aE 1)<|Za (aE 2) aH) aL)
theorem MP:Fp P w K mg base 3 "is_row_within" (Zem.take 3) yR:=cL Jx Z.af λsc hr hx hw=>aT (dS (PXW.pxt<|jU (gD<|gC<|cJ lO Z.ce Nj<|Za (aE 0)<|Za (lh Z.b8 Nt) aH)<|lb<|gD<|IG kE kE (aE 1) (cJ fk Z.b5 Np<|Za (aE 0) aH)<|aE 2) (aX<|bL fM) dR)<|aX (bL<|cJ (t3 rfl) Z.cf boot_all<|Za (PXL.px<|e9 ["part"] [] rfl (fE<|aE 0) (λ_ _ _=>(bY 0 (by decide +kernel:List.Nodup (["part"]:List Str)))) (λ_ _ _=>eJ)<|λ_ _ _=>(aV (MO Z) hr cD<|Za (aE 0) aH)) aH)
def MQ:Fp P w K mg base 4 "is_row" (Zly.take 2) yS:=cL Jz Z.ag λsc hr hx hw=>aX<|bL (aV (MP Z) hr hx<|Za (aE 0)<|Za (aE 1)<|Za (aE 1) aH)
def Dg:Fp P w K mg base 6 "row_good" (Zik.take 2) sY:=cL JK Z.a1 λsc hr hx hw=>aT (t4<|aV (De Z) hr hx<|Za (aE 0) aH)<|aX (bL<|aV (MQ Z) hr hx<|Za (aE 1)<|Za (aV (xG Z) hr hx<|Za (aE 0) aH) aH)
def MR:Fp P w K mg base 3 "plus" (Zom.take 2) vZ:=cL EE Z.ai λsc hr hx hw=>aX<|bL (aV (z9 Z) hr hx<|Za (aW cV (aW gF (bE aP (aE 0) aL)<|bE aP (aE 1) aL)<|aW gF (bE aP (aE 1) aL)<|bE aP (aE 0) aL)<|Za (aW gF (bE aP (aE 0) aL)<|bE aP (aE 1) aL) aH)
def G9:Fp P w K mg base 3 "times" (Zm8.take 2) sW:=cL EF Z.ak λsc hr hx hw=>aX<|bL (aV (z9 Z) hr hx<|Za (aW gF (bE aP (aE 0) aL)<|bE aP (aE 1) aL)<|Za (aW gF (bE aP (aE 0) aL)<|bE aP (aE 1) aL) aH)
def Ha:Fp P w K mg base 4 "sum_of_products" (Zdr.take 2) v4:=cL JD Z.aq λsc hr hx hw=>aT (cM 2 (uw Z.cw) sc)<|aT (ig<|kH PassesOwn.never rfl (ub Z.ca<|Za (aE 0)<|Za (aE 1) aH) (lm rfl<|fO (bY 3 sc)<|fO (bY 4 sc) Zb)<|aX<|cM 2 (aV (MR Z) hr cD<|Za (aE 2)<|Za (aV (G9 Z) hr cD<|Za (aE 3)<|Za (aE 4) aH) aH) sc) (aX<|bL<|aE 2)
theorem Hb:Fp P w K mg base 1 "row_of" (Zlv.take 1) v3:=cL JC Z.am λsc hr hx hw=>aX<|bL (kC nZ Z.b8 Nt<|Za (PXL.px<|e9 ["number"] [] rfl (fE<|aE 0) (λ_ _ _=>(bY 0 (by decide +kernel:List.Nodup (["number"]:List Str)))) (λ_ _ _=>eJ)<|λ_ _ _=>(d9<|Za (aE 0)<|Za aL aH)) aH)
theorem MS:Fp P w K mg base 6 "table_of" (Zig.take 1) yU:=cL JI Z.az λsc hr hx hw=>aT (t4<|aV (De Z) hr hx<|Za (aE 0) aH)<|aT (cM 1 (aV (xG Z) hr hx<|Za (aE 0) aH) sc) (aX<|bL<|PXL.px<|e9 ["i"] [0,1] rfl (jq Z.b9<|Za (aE 1) aH) (λ_ _ _=>(bY 0 (by decide +kernel:List.Nodup (["i", "slants", "size"]:List Str)))) (λ_ _ _=>eJ)<|λ_ _ _=>(PXL.px<|tX t0 Z.b6 NF<|Za (fY (aE 1) (fh<|aW gk (aW gk (aE 2) aL)<|aE 0)<|fh<|aW gk (aW gk (aW gF aL<|aE 2) aL)<|aE 0) aH))
theorem MT:Fp P w K mg base 7 "share_rows" (Zgc.take 1) yW:=cL JL Z.a2 λsc hr hx hw=>aX<|bL (PXL.px<|e9 ["numbers"] [] rfl (fE<|aV (MS Z) hr hx<|Za (aE 0) aH) (λ_ _ _=>(bY 0 (by decide +kernel:List.Nodup (["numbers"]:List Str)))) (λ_ _ _=>eJ)<|λ_ _ _=>(aV (Hb Z) hr cD<|Za (aE 0) aH))
theorem MU:Fp P w K mg base 8 "times_row" (Zhw.take 2) yY:=cL JM Z.a3 λsc hr hx hw=>aT (dS (gD<|gC<|aV (Dg Z) hr hx<|Za (aE 0)<|Za (aE 1) aH) (aX<|v8 hw Z.cx) dR)<|aX (bL<|kC nZ Z.b8 Nt<|Za (PXL.px<|e9 ["line"] [1] rfl (fE<|aV (MT Z) hr hx<|Za (aE 0) aH) (λ_ _ _=>(bY 0 (by decide +kernel:List.Nodup (["line", "row"]:List Str)))) (λ_ _ _=>eJ)<|λ_ _ _=>(aV (Ha Z) hr cD<|Za (aE 0)<|Za (aE 1) aH)) aH)
def xH:Fp P w K mg base 9 "pair_at" (ZjU.take 3) nJ:=cL Ku Z.a6 λsc hr hx hw=>aT (t4<|aV (Df Z) hr hx<|Za (aE 0) aH)<|aT (dS (gD<|gC<|aV (Dg Z) hr hx<|Za (aE 0)<|Za (aE 1) aH) (aX<|v8 hw Z.cx) dR) (aX<|bL<|aV (Ha Z) hr hx<|Za (aE 1)<|Za (aV (MU Z) hr hx<|Za (aE 0)<|Za (aE 2) aH) aH)
def Hc:Fp P w K mg base 3 "minus" (Zm9.take 2) uj:=cL Ko Z.aj λsc hr hx hw=>aX<|bL (aV (z9 Z) hr hx<|Za (aW gk (aW gF (bE aP (aE 0) aL)<|bE aP (aE 1) aL)<|aW gF (bE aP (aE 1) aL)<|bE aP (aE 0) aL)<|Za (aW gF (bE aP (aE 0) aL)<|bE aP (aE 1) aL) aH)
theorem Dh:Fp P w K mg base 4 "row_less" (Zij.take 3) rj:=cL KG Z.ap λsc hr hx hw=>aX<|bL (kC nZ Z.b8 Nt<|Za (PXL.px<|e9 ["left", "right"] [1] rfl (ub Z.ca<|Za (aE 0)<|Za (aE 2) aH) (λ_ _ _=>(lm rfl<|fO (bY 0 (by decide +kernel:List.Nodup (["left", "right", "share"]:List Str)))<|fO (bY 1 (by decide +kernel:List.Nodup (["left", "right", "share"]:List Str))) Zb)) (λ_ _ _=>eJ)<|λ_ _ _=>(aV (Hc Z) hr cD<|Za (aE 0)<|Za (aV (G9 Z) hr cD<|Za (aE 2)<|Za (aE 1) aH) aH)) aH)
def MV:Fp P w K mg base 10 "apart_from" (Zgh.take 3) zL:=cL Ll Z.a8 λsc hr hx hw=>aX<|bL (aV (Dh Z) hr hx<|Za (aE 1)<|Za (aV (G8 Z) hr hx<|Za (aV (xH Z) hr hx<|Za (aE 0)<|Za (aE 1)<|Za (aE 2) aH)<|Za (aV (xH Z) hr hx<|Za (aE 0)<|Za (aE 2)<|Za (aE 2) aH) aH)<|Za (aE 2) aH)
theorem Hd:Fp P w K mg base 10 "lead_among" (Zgd.take 2) wW:=cL Lm Z.a7 λsc hr hx hw=>fN 4<|aT (ig<|kH PassesOwn.never rfl (Ca Z.cy<|Za (aE 1) aH) (lm rfl<|fO (bY 2 sc)<|fO (bY 3 sc) Zb)<|aT (sU 4 ["other"] [3] rfl sc (fE<|fY (aE 1) (fh<|aW cV (aE 2) aL) gT) (λ_ _ _=>(bY 0 (by decide +kernel:List.Nodup (["other", "row"]:List Str)))) (λ_ _ _=>eJ)<|λ_ _ _=>(aV (Dh Z) hr cD<|Za (aE 1)<|Za (aV (Hc Z) hr cD<|Za (uw Z.cw)<|Za (uw Z.cz) aH)<|Za (aE 0) aH))<|fN 4<|aX<|ig<|kH PassesOwn.never rfl (fE<|aW cV (PXL.px<|dX<|Za (aE 3) aH)<|aE 4) (bY 5 sc)<|aX<|dS (c8 (c9 hr.units) (aV (xH Z) hr cD<|Za (aE 0)<|Za (aE 5)<|Za (aE 5) aH)<|uw Z.cw) (aX<|bL<|d9<|Za (aE 2)<|Za (aE 5) aH) dR) (aX<|bL nu)
theorem MW:Fp P w K mg base 2 "one_at" (Zlx.take 2) zy:=cL Kx Z.an λsc hr hx hw=>aX<|bL (aV (Hb Z) hr hx<|Za (PXL.px<|e9 ["at"] [0] rfl (jq Z.b9<|Za (aE 1) aH) (λ_ _ _=>(bY 0 (by decide +kernel:List.Nodup (["at", "place"]:List Str)))) (λ_ _ _=>eJ)<|λ_ _ _=>(kC vO Z.cd NO<|Za (nw (dZ hr.units) (aE 0)<|aE 1) aH)) aH)
theorem MY:Fp P w K mg base 11 "apart_rows" (Zgg.take 1) wX:=cL Ln Z.a9 λsc hr hx hw=>aT (t4<|aV (Df Z) hr hx<|Za (aE 0) aH)<|aT (cM 1 (aV (xG Z) hr hx<|Za (aE 0) aH) sc) (aT (mf 2 (dX aH) sc)<|aT (sU 3 ["place"] [1] rfl sc (jq Z.b9<|Za (aE 1) aH) (λ_ _ _=>(bY 0 (by decide +kernel:List.Nodup (["place", "size"]:List Str)))) (λ_ _ _=>eJ)<|λ_ _ _=>(aV (MW Z) hr cD<|Za (aE 0)<|Za (aE 1) aH))<|fN 3<|aT (cM 4 (aV (Hd Z) hr hx<|Za (aE 0)<|Za (aE 3) aH) sc)<|fN 3<|aT (ig<|yM PassesOwn.never (c8 Fb (aE 4) nu)<|aT (vQ (aE 4)<|lm rfl<|fO (bY 5 sc)<|fO (bY 6 sc) Zb)<|aT (vR 2<|aE 6)<|fN 3<|aT (sU 3 ["row"] [0,6] rfl sc (fE<|aW cV (fY (aE 3) gT<|fh<|aE 5)<|fY (aE 3) (fh<|aW cV (aE 5) aL) gT) (λ_ _ _=>(bY 0 (by decide +kernel:List.Nodup (["row", "slants", "lead"]:List Str)))) (λ_ _ _=>eJ)<|λ_ _ _=>(aV (MV Z) hr cD<|Za (aE 1)<|Za (aE 0)<|Za (aE 2) aH))<|fN 3<|aX<|cM 4 (aV (Hd Z) hr cD<|Za (aE 0)<|Za (aE 3) aH) sc)<|fN 2<|fN 3<|aX<|bL<|aW cV (aE 2)<|aE 3)
def Di:Fp P w K mg base 12 "sign_paper" (Zgb.take 1) wY:=cL Lp Z.be λsc hr hx hw=>aX<|bL (aV (MY Z) hr hx<|Za (aE 0) aH)
theorem MZ:Fp P w K mg base 10 "are_apart" (Zhz.take 2) zN:=cL Lo Z.bb λsc hr hx hw=>aX<|bL (cJ (t3 rfl) Z.cf boot_all<|Za (PXL.px<|La ["at", "row", "other"] [0,1] rfl (Ca Z.cy<|Za (aE 1) aH) (λ_ _ _=>(lm rfl<|fO (bY 0 (by decide +kernel:List.Nodup (["at", "row", "other", "slants", "rows"]:List Str)))<|fO (bY 1 (by decide +kernel:List.Nodup (["at", "row", "other", "slants", "rows"]:List Str))) Zb)) (λ_ _ _=>eJ) (λ_ _ _=>(fE<|fY (aE 4) (fh<|aW cV (aE 0) aL) gT)) (λ_ _ _=>(bY 2 (by decide +kernel:List.Nodup (["at", "row", "other", "slants", "rows"]:List Str)))) (λ_ _ _=>eJ)<|λ_ _ _=>(nw (dZ hr.units) (aV (xH Z) hr cD<|Za (aE 3)<|Za (aE 1)<|Za (aE 2) aH)<|uw Z.cw)) aH)
def M0:Fp P w K mg base 1 "first_with" (Zge.take 2) zB:=cL KI Z.ar λsc hr hx hw=>aT (ig<|kH PassesOwn.never rfl (Ca Z.cy<|Za (aE 0) aH) (lm rfl<|fO (bY 2 sc)<|fO (bY 3 sc) Zb)<|aX<|dS (c8 (c9 hr.units) (bE aP (aE 3)<|aE 1)<|uw Z.cw) (aX<|bL<|aE 2) dR)<|aX (bL nu)
theorem M1:Fp P w K mg base 4 "row_by" (Zlw.take 2) zA:=cL Zm Z.ao λsc hr hx hw=>aX<|bL (kC nZ Z.b8 Nt<|Za (PXL.px<|e9 ["part"] [1] rfl (fE<|aE 0) (λ_ _ _=>(bY 0 (by decide +kernel:List.Nodup (["part", "share"]:List Str)))) (λ_ _ _=>eJ)<|λ_ _ _=>(aV (G8 Z) hr cD<|Za (aE 0)<|Za (aE 1) aH)) aH)
theorem He:Fp P w K mg base 5 "without_place" (Zek.take 3) wH:=cL KJ Z.as λsc hr hx hw=>aX<|bL (PXL.px<|e9 ["row"] [1,2] rfl (fE<|aE 0) (λ_ _ _=>(bY 0 (by decide +kernel:List.Nodup (["row", "lead", "place"]:List Str)))) (λ_ _ _=>eJ)<|λ_ _ _=>(aV (Dh Z) hr cD<|Za (aE 0)<|Za (bE aP (aE 0)<|aE 2)<|Za (aE 1) aH))
theorem M2:Fp P w K mg base 6 "cleared" (ZjX.take 2) Ch:=cL KN Z.au λsc hr hx hw=>aT (cM 2 (PXL.px<|dX aH) sc)<|aT (mf 3 (dX aH) sc) (aT (cM 4 (PXL.px<|tX t0 Z.b6 NF<|Za (aE 0) aH) sc)<|aT (ig<|kH PassesOwn.never rfl (jq Z.b9<|Za (aE 1) aH) (bY 5 sc)<|aT (cM 6 (aV (M0 Z) hr cD<|Za (aE 4)<|Za (aE 5) aH) sc)<|aX<|dS (c8 Fb (aE 6) nu) (aT (cM 7 (aV (M1 Z) hr cD<|Za (bE aP (aE 4)<|aE 6)<|Za (bE aP (bE aP (aE 4)<|aE 6)<|aE 5) aH) sc)<|aT (cM 2 (aW cV (aV (He Z) hr cD<|Za (aE 2)<|Za (aE 7)<|Za (aE 5) aH)<|PXL.px<|dX<|Za (aE 7) aH) sc)<|aT (cM 4 (aV (He Z) hr cD<|Za (aW cV (fY (aE 4) gT<|fh<|aE 6)<|fY (aE 4) (fh<|aW cV (aE 6) aL) gT)<|Za (aE 7)<|Za (aE 5) aH) sc)<|aX<|vR 3<|aE 5) dR)<|fN 3<|aX<|bL<|d9<|Za (aE 2)<|Za (aE 3) aH)
def M3:Fp P w K mg base 7 "are_independent" (Zdt.take 2) zK:=cL Lj Z.av λsc hr hx hw=>aX<|bL (nw (dZ hr.units) (cJ fk Z.b5 Np<|Za (bE aP (aV (M2 Z) hr hx<|Za (aE 0)<|Za (aE 1) aH) aL) aH)<|cJ fk Z.b5 Np<|Za (aE 0) aH)
theorem Dj:Fp P w K mg base 11 "sign_paper_good" (Zds.take 2) uG:=cL L4 Z.bc λsc hr hx hw=>aT (t4<|aV (Df Z) hr hx<|Za (aE 0) aH)<|aT (cM 2 (aV (xG Z) hr hx<|Za (aE 0) aH) sc) (aT (dS (PXW.pxt<|jU (gD<|gC<|cJ lO Z.ce Nj<|Za (aE 1)<|Za (lh Z.b6 NF) aH)<|lb<|c8 (c9 hr.units) (cJ fk Z.b5 Np<|Za (aE 1) aH)<|aE 2) (aX<|bL fM) dR)<|aT (dS (gD<|gC<|cJ (t3 rfl) Z.cf boot_all<|Za (PXL.px<|e9 ["row"] [0] rfl (fE<|aE 1) (λ_ _ _=>(bY 0 (by decide +kernel:List.Nodup (["row", "slants"]:List Str)))) (λ_ _ _=>eJ)<|λ_ _ _=>(aV (Dg Z) hr cD<|Za (aE 1)<|Za (aE 0) aH)) aH) (aX<|bL fM) dR)<|aX<|bL<|sS (aV (M3 Z) hr hx<|Za (aE 1)<|Za (aE 2) aH)<|sR<|aV (MZ Z) hr hx<|Za (aE 0)<|Za (aE 1) aH)
def M4:Fp P w K mg base 10 "form_at" (ZjW.take 2) zM:=cL Lk Z.ba λsc hr hx hw=>aX<|bL (aV (xH Z) hr hx<|Za (aE 0)<|Za (aE 1)<|Za (aE 1) aH)
theorem M5:Fp P w K mg base 12 "signs_by" (Zih.take 2) C5:=cL L7 Z.bd λsc hr hx hw=>aT (dS (gD<|gC<|aV (Dj Z) hr hx<|Za (aE 0)<|Za (aE 1) aH) (aX<|v8 hw Z.cx) dR)<|aT (sU 2 ["row"] [0] rfl sc (fE<|aE 1) (λ_ _ _=>(bY 0 (by decide +kernel:List.Nodup (["row", "slants"]:List Str)))) (λ_ _ _=>eJ)<|λ_ _ _=>(bE aP (aV (M4 Z) hr cD<|Za (aE 1)<|Za (aE 0) aH) aL)) (fN 2<|aT (cM 3 (cJ fk Z.b5 Np<|Za (PXL.px<|e9 ["top"] [] rfl (fE<|aE 2) (λ_ _ _=>(bY 0 (by decide +kernel:List.Nodup (["top"]:List Str)))) (λ_ _ _=>(Ze<|c8 sT (aE 0) aL))<|λ_ _ _=>(aE 0)) aH) sc)<|fN 2<|aT (cM 4 (cJ fk Z.b5 Np<|Za (PXL.px<|e9 ["top"] [] rfl (fE<|aE 2) (λ_ _ _=>(bY 0 (by decide +kernel:List.Nodup (["top"]:List Str)))) (λ_ _ _=>(Ze<|c8 jV (aE 0) aL))<|λ_ _ _=>(aE 0)) aH) sc)<|fN 2<|aX<|bL<|d9<|Za (aE 3)<|Za (aE 4)<|Za (aW gk (aW gk (cJ fk Z.b5 Np<|Za (aE 2) aH)<|aE 3)<|aE 4) aH)
def Dk:Fp P w K mg base 13 "_law_told" (ZhA.take 3) tK:=cL Ml Z.b3 λsc hr hx hw=>aX<|Jo LX 3 Z.c0 sc (λ_ _ _ hx1=>(aT (dS (c8 (dZ hr.units) (aE 0) aL) (aX<|bL<|aV (Di Z) hr hx1<|Za (aE 1) aH) dR)<|aX<|bL<|DM (c8 (dZ hr.units) (aE 0) aL) (aV (Dj Z) hr hx1<|Za (aE 1)<|Za (aE 2) aH)<|aV (M5 Z) hr hx1<|Za (aE 1)<|Za (aE 2) aH)) (λ_ _=>(aX<|bL<|Jp (MI Z) (hr.u.mark)<|Za (aE 3) aH))
theorem all_mk{l:PySem.W.OpenLaw}(hfa:mg "law" = some (.ref fa)):∃fd:FuncData,(∀(s:Shared) (v:Value),BindsTo s fd ⟨[v],[]⟩ [("_law_script",v)])/\∀base:Heap,K.In base->base.Ns mainGlobals mg->gv l.prog w K mg base (fL l.prog w) 14 fa fd ["_law_script"] (hJ K xF):=
 KW (z:=z7) (N:=GX) Z.b4 hfa (λ_ sc _ _ _ _ _ _ _ hr hx hw=>(fN 6<|aT (ig<|kH PassesOwn.never rfl (fE<|aW cV (PXL.px<|dX<|Za (aV (Mz Z) hr cD<|Za (aE 0)<|Za aL aH) aH)<|fY (aE 0) (fh aL)<|fh aL) (bY 1 sc)<|aT (cM 2 (aV (ME Z) hr cD<|Za (aE 1) aH) sc)<|aT (cM 3 (aV (Zh Z) hr cD<|Za (aE 2) aH) sc)<|aT (cM 4 (aW me (aW cV (cJ fk Z.b5 Np<|Za (aE 3) aH) aL) aL) sc)<|aT (cM 5 (aV (Di Z) hr cD<|Za (aE 3) aH) sc)<|aT (dS (PXW.pxt<|jU (gD<|gC<|aV (G5 Z) hr cD<|Za (aE 3)<|Za (aE 5) aH)<|jU (c8 (c9 hr.units) (aV (G6 Z) hr cD<|Za (aE 3)<|Za (aE 5) aH)<|aV (MG Z) hr cD<|Za (aE 3) aH)<|lb<|c8 (c9 hr.units) (aV (Di Z) hr cD<|Za (aE 3) aH)<|aE 5) (aX<|bL fM) dR)<|aT (sU 6 ["_law_place"] [4] rfl sc (jq Z.b9<|Za (aE 4) aH) (λ_ _ _=>(bY 0 (by decide +kernel:List.Nodup (["_law_place", "_law_size"]:List Str)))) (λ_ _ _=>eJ)<|λ_ _ _=>(kC nZ Z.b8 Nt<|Za (PXL.px<|e9 ["_law_at"] [0] rfl (jq Z.b9<|Za (aE 1) aH) (λ_ _ _=>(bY 0 (by decide +kernel:List.Nodup (["_law_at", "_law_place"]:List Str)))) (λ_ _ _=>eJ)<|λ_ _ _=>(d9<|Za (kC vO Z.cd NO<|Za (nw (dZ hr.units) (aE 0)<|aE 1) aH)<|Za aL aH)) aH))<|fN 6<|aT (cM 7 (PXL.px<|dX<|Za (aE 5)<|Za (aE 6)<|Za (PXL.px<|e9 ["_law_place"] [2,4] rfl (jq Z.b9<|Za (aE 4) aH) (λ_ _ _=>(bY 0 (by decide +kernel:List.Nodup (["_law_place", "_law_pen", "_law_size"]:List Str)))) (λ_ _ _=>eJ)<|λ_ _ _=>(aV (MF Z) hr cD<|Za (aE 1)<|Za (aE 2) aH)) aH) sc)<|aT (ig<|kH PassesOwn.never rfl (fE<|aW cV (aE 7)<|PXL.px<|e9 ["_law_rows"] [2] rfl (fE<|aW cV (aE 7)<|aE 7) (λ_ _ _=>(bY 0 (by decide +kernel:List.Nodup (["_law_rows", "_law_pen"]:List Str)))) (λ_ _ _=>eJ)<|λ_ _ _=>(aV (My Z) hr cD<|Za (aE 0)<|Za (aE 1) aH)) (bY 8 sc)<|aT (cM 9 (aV (G5 Z) hr cD<|Za (aE 3)<|Za (aE 8) aH) sc)<|aT (cM 10 (aV (Dj Z) hr cD<|Za (aE 3)<|Za (aE 8) aH) sc)<|aT (dS (PXW.pxt<|jU (gD<|gC<|cJ lO Z.ce Nj<|Za (aE 10)<|Za (lh Z.cb boot_bool) aH)<|lb<|c8 (c9 hr.units) (aE 10)<|aE 9) (aX<|bL fM) dR)<|aX<|dS (c8 wz (cJ (D8 hr.gd hr.units) Z.c1 E5<|Za (aV (Dk Z) hr cD<|Za aL<|Za (aE 3)<|Za (aE 8) aH) aH)<|cJ (D8 hr.gd hr.units) Z.c1 E5<|Za (DM (gC<|aE 9) (aV (G6 Z) hr cD<|Za (aE 3)<|Za (aE 8) aH) j3) aH) (aX<|bL fM) dR)<|aT (cM 11 (aV (G3 Z) hr cD<|Za (aE 2) aH) sc)<|aT (dS (PXW.pxt<|Bf (c8 (c9 hr.units) (aE 11)<|vM<|aE 11)<|Be<|c8 (c9 hr.units) (PXL.px<|e9 ["_law_way"] [11] rfl (jq Z.b9<|Za aL aH) (λ_ _ _=>(bY 0 (by decide +kernel:List.Nodup (["_law_way", "_law_other"]:List Str)))) (λ_ _ _=>eJ)<|λ_ _ _=>(aV (Dk Z) hr cD<|Za (aE 0)<|Za (aE 1)<|Za nu aH))<|aW gF (PXL.px<|dX<|Za j3 aH) aL) (aX<|bL fM) dR)<|aT (cM 12 (aV (MD Z) hr cD<|Za (aE 2)<|Za (aE 3) aH) sc)<|aX<|dS (PXW.pxt<|Bf (gD<|gC<|aV (MH Z) hr cD<|Za (aE 12) aH)<|Be<|c8 (c9 hr.units) (PXL.px<|e9 ["_law_way"] [12] rfl (jq Z.b9<|Za aL aH) (λ_ _ _=>(bY 0 (by decide +kernel:List.Nodup (["_law_way", "_law_bad"]:List Str)))) (λ_ _ _=>eJ)<|λ_ _ _=>(aV (Dk Z) hr cD<|Za (aE 0)<|Za (aE 1)<|Za nu aH))<|aW gF (PXL.px<|dX<|Za j3 aH) aL) (aX<|bL fM) dR)<|aX<|bL fM)) Mv
end
theorem walk{l:PySem.W.OpenLaw}{q:Program}{loose:List Str}{d:DefRec}{K:Params->Nb}(hn:l.most=some 63)(hdf:d.params.defaults=[])
  (hY:∀(w:World) (h:Heap),YP w h->(K w.params).In h)
  (F:∀ (w:World) (mg:Str->Option Value) (fa:Addr) (h:Heap),(K w.params).In h->h.Ns mainGlobals mg->mg d.name=some (.ref fa)->
   ∃fd:FuncData,(∀(s:Shared) (u:Value),BindsTo s fd ⟨[u],[]⟩ [("_law_script",u)])/\∀base:Heap,(K w.params).In base->base.Ns mainGlobals mg->gv l.prog w (K w.params) mg base (fL l.prog w) 14 fa fd ["_law_script"] (hJ (K w.params) xF)) :
  PySem.W.WalkO q loose XP YP l.row.toRowW d [] (λf vs=>PySem.call f vs):=
 L2.walk_of (n:=63) (k:=14) (x:= "_law_script") (CX:=λw=>fL l.prog w) (sp:=λw=>hJ (K w.params) xF) hn (by decide) hdf ⟨rfl,rfl,by decide,by decide⟩ hY F (λ_ _ a ns hl hO hS=>Mw hl hO hS) λ_ _ _ _ _ ⟨_,_,_,_,_,_,_,_,_,_,_,_,_,z⟩=>z
end I9.I0
end LP
namespace PySem.W.Fast
abbrev N:=Nat
def tw10280395534987129984:=N
def tw3361249476301246424:=N
def tw9925421811664423173:=N
def tw13995669606418338654:=N
def tw9899963777999009786:=N
def tw9868443908883800892:=N
def tw9510084741343010379:=N
def tw5294485734973299136:=N
def tw4008594524311477850:=N
def tw11588825399074805097:=N
def tw113336650534240334:=N
def tw8750328528491710995:=N
def tw6805302744767696726:=N
def tw16901660053993600462:=N
def tw6078521095908335441:=N
def tw2901337626475556668:=N
def tw16818941349237027987:=N
def tw18293752155915616165:=N
def tw415435643126801274:=N
def tw4857132649886161337:=N
def tw1218333526563808437:=N
def tw13726193895614304037:=N
def tw8159240650639708463:=N
def tw1700904869149400034:=N
def tw6218242296164018065:=N
def tw9537219343613981981:=N
def tw5814653619571795958:=N
def tw8878898039839561631:=N
def tw5522126207084543732:=N
def tw14769268686849882298:=N
def tw4399621175003416539:=N
def tw15401753676006970528:=N
def tw13879909872232105120:=N
def tw12523023953742436006:=N
def tw4515101850413253021:=N
def tw14723565464744438295:=N
def tw437300963626578327:=N
def tw10710948893221747737:=N
def tw11952793002912979533:=N
def tw18144763837204339595:=N
def tw15953516798404437011:=N
def tw13643694890301173215:=N
def tw5959746907494473379:=N
def tw9036529815848547850:=N
def tw6988621121006995426:=N
def tw8889114004459197736:=N
def tw3468201030152976534:=N
def tw13602902066838527964:=N
def tw15937362900424089884:=N
def tw15365968772899308030:=N
def tw14396955861480237505:=N
def tw8084825171649453314:=N
def tw8763275602667280725:=N
def tw16692070152005179307:=N
def tw8561320563462399203:=N
def tw14963587984471819178:=N
def tw10941643433311820375:=N
def tw4411460145220514450:=N
def tw5852233052708405814:=N
def tw10351022172761671883:=N
def tw16490983103050164304:=N
def tw15808965208953894938:=N
def tw13852701621571565166:=N
def tw12005341314135591224:=N
def tw12975183473422522916:=N
def tw4554810439467952731:=N
def tw5782073948926629726:=N
def tw8682061292590143644:=N
def tw14800850579114728268:=N
def tw14835475456542190072:=N
def tw15141740055654270268:=N
def tw6228837219518486846:=N
def tw17432406557034709504:=N
def tw7447183210824861964:=N
def tw16184384585240067762:=N
def tw14580003976579665392:=N
def tw11478100777781685319:=N
def tw15823034492211377698:=N
def tw2589960420914285596:=N
def tw1676871906414609096:=N
def tw5558331933291737017:=N
def tw9689943789739520422:=N
def tw6597658356099231460:=N
def tw2050391027144570478:=N
def tw10880626444586635182:=N
def tw8146887633142958082:=N
def tw15929921925653225564:=N
def tw7069018547035962546:=N
def tw10282025493374969064:=N
def tw15360899934431143090:=N
def tw9065113550773399209:=N
def tw5223083983107087849:=N
def tw15736101906015572607:=N
def tw14943643800762138385:=N
def tw17839802389465206441:=N
def tw16017349722193815292:=N
def tw14480864791618092566:=N
def tw11436362817715682901:=N
def tw12201615989844275296:=N
def tw18443576646110662923:=N
def tw7966545751667702495:=N
def tw2181739567774722194:=N
def tw12861952001469524257:=N
def tw15879889136052731347:=N
def tw6530783813468622680:=N
def tw2689442812968552557:=N
def tw16542021688212799175:=N
def tw12461278199747066092:=N
def tw16298398006974280760:=N
def tw387837998851655445:=N
def tw18321598620111457845:=N
def tw15721427099372664869:=N
def tw17432973620763095868:=N
def tw9161375390186299202:=N
def tw11089215504799687332:=N
def tw2401931100488200264:=N
def tw12006209080570483254:=N
def tw17052616553429767644:=N
def tw11373716281178739779:=N
def tw11302572422872507580:=N
def tw15918232214921511272:=N
def tw15866589496293770270:=N
def tw4003940600959292013:=N
def tw10506498256542699420:=N
def tw4472099236067588830:=N
def tw4567631163254398806:=N
def tw14723691613752629233:=N
def tw16216261057614788151:=N
def tw14275383511303040531:=N
def tw1441891271970952642:=N
def tw2073524636565859223:=N
def tw13081010173260592234:=N
def tw12804748119499186513:=N
def tw16029262985406770099:=N
def tw4956404766333500695:=N
def tw4528632170289084811:=N
def tw13783916977252963937:=N
def tw162648118872029939:=N
def tw14833518848262773607:=N
def tw12687921076007676968:=N
def tw16127735605108043984:=N
def tw16568684498581444504:=N
def tw4194023192613455165:=N
def tw11119399161725470995:=N
def tw13511661143602453701:=N
def tw15871274055984009216:=N
def tw8396249632576726007:=N
def tw13139970928051602828:=N
def tw8840379644238642345:=N
def tw15896558170520066616:=N
def tw14269225830967117685:=N
def tw1363279509611947635:=N
def tw1403035200147623536:=N
def tw6957251080994213049:=N
def tw13854633816763076972:=N
def tw10988255790843349144:=N
def tw3627547095640583218:=N
def tw8105907032588097138:=N
def tw18101222531313013083:=N
def tw3423810401013277155:=N
def tw5529343446670911886:=N
def tw2525807624793999205:=N
def tw11436371477904228158:=N
def tw5529812834091093117:=N
def tw11127377050197589952:=N
def tw954449665673153065:=N
def tw8290043380707821620:=N
def tw7518719879595677859:=N
def tw17537388008628393677:=N
def tw13996771737777127331:=N
def tw4886451716222417611:=N
def tw17021729218621366677:=N
def tw10890278989299641865:=N
def tw9807252953687917476:=N
def tw9175478816953351086:=N
def tw12013262973480513357:=N
def tw14446806164744561811:=N
def tw5902238428314796836:=N
def tw2417088367716315804:=N
def tw11197492234255062100:=N
def tw8561994976315169399:=N
def tw16672777786842444557:=N
def tw11052990602353155365:=N
def tw8634156928595347999:=N
def tw2107761090121327630:=N
def tw1441791157890204175:=N
def tw2997850613918466275:=N
def tw17271199537022742701:=N
def tw502163131745332015:=N
def tw8139358981844451320:=N
def tw2124648329557721663:=N
def tw15542581084929180420:=N
def tw9279616856933236422:=N
def tw16920469305845513221:=N
def tw14443699879990540615:=N
def tw6699309295655678965:=N
def tw7135501302274458434:=N
def tw582008016342621966:=N
def tw10554887585865786123:=N
def tw9942816665984740602:=N
def tw9478986820696767150:=N
def tw9406243618394208543:=N
def tw9208191266584787176:=N
def tw8569500519792900146:=N
def tw792496750281582427:=N
def tw7332168443439865067:=N
def tw6634909892970920724:=N
def tw6624739264430610631:=N
def tw616605107434913553:=N
def tw5554694360320017970:=N
def tw5112582408745885817:=N
def tw4595681538495498554:=N
def tw443338357842050873:=N
def tw4246437041970422667:=N
def tw2959917134213790036:=N
def tw2798056882153817850:=N
def tw1818074794895824140:=N
def tw18055188690607236681:=N
def tw17650695674179729491:=N
def tw1722992875890277133:=N
def tw16947828242036625896:=N
def tw16418690291150926971:=N
def tw16333288574266935862:=N
def tw16323256585100236894:=N
def tw16143294653830226760:=N
def tw16107225095090609302:=N
def tw15890505441539963500:=N
def tw1459119001653409801:=N
def tw1396190971116929792:=N
def tw13479802404868022635:=N
def tw12839648457949689917:=N
def tw12753675206773858961:=N
def tw12611614379856266502:=N
def tw12029694161658539825:=N
def tw10680306959920338794:=N
def tw10349686312049677438:=N
def tw4618320133260256181:=N
def tw4548195950723786468:=N
def tw9628989884231314325:=N
def tw5139863168306740693:=N
def tw17664272466244457614:=N
def tw17647132130376541202:=N
def tw10239408973731221793:=N
def tw16292196635378148054:=N
def tw9063339743187499519:=N
def tw9007355286042694934:=N
def tw7416736465535851737:=N
def tw6719432350679064649:=N
def tw6001865507350949223:=N
def tw4934599603890970607:=N
def tw4486639002215169378:=N
def tw2499873487027655977:=N
def tw2033293787236763748:=N
def tw16988179948716066482:=N
def tw16539085415402554656:=N
def tw16457031693168948573:=N
def tw15502535054618296840:=N
def tw1424760113077575089:=N
def tw14101285305754203852:=N
def tw11767805825155147301:=N
def tw1021867929145317570:=N
def tw10212666488520865483:=N
def tw1005993539932171350:=N
def tw8402717872638967296:=N
def tw7402017796696215360:=N
def tw4389257291029230770:=N
def tw10708390947414365119:=N
def tw10699316301198062338:=N
def tw6563873401120140108:=N
def tw14812940858192903293:=N
def tw12098125305052318307:=N
def tw10225588665595866022:=N
def tw220501466257224390:=N
def tw16473427470073942781:=N
def tw12908300511822374928:=N
def tw1169304938608011659:=N
def tw5603017065614941348:=N
def tw9525301142267923427:=N
def tw7913366188731519416:=N
def tw6738883600307216884:=N
def tw6432305810223534651:=N
def tw5874706234727195326:=N
def tw5499955993057205403:=N
def tw3153305189599656698:=N
def tw2100875138406690538:=N
def tw18126835670932667223:=N
def tw15414347923295669655:=N
def tw14978536358179006383:=N
def tw12753932568552926330:=N
def tw12340204717981007765:=N
def tw8738051503480365974:=N
def tw6113165510429694972:=N
def tw452377600788194679:=N
def tw1928514569758206654:=N
def tw17445249770031639445:=N
def tw11931967499511456495:=N
def tw10729859530083906782:=N
def tw7639783785181280425:=N
def tw7551228134592453601:=N
def tw7107442439190290440:=N
def tw5667783965610986857:=N
def tw16548519579286579279:=N
def tw13397496829545209109:=N
def tw11911801215108846089:=N
def tw11852181449929971191:=N
def tw11050136838747183594:=N
def tw10723943108426087087:=N
def tw8099653319975406368:=N
def tw5351998063248473831:=N
def tw3161124068399853804:=N
def tw16323134255578293408:=N
def tw13949330615208538281:=N
def tw1114928572038123587:=N
def tw9114037360016520697:=N
def tw12074241312253763423:=N
def tw9048997955853667029:=N
def tw8161643215806851141:=N
def tw5340741693907393509:=N
def tw15867285226367006207:=N
def tw12162333109528577672:=N
def tw12416075194314675858:=N
def tw9635140485915265407:=N
def tw3036728617198657041:=N
def tw16144328228931866570:=N
def tw13513431518264729518:=N
def tw16027794477661526282:=N
def tw8412843199762968716:=N
def tw6998586081584953956:=N
def tw6928477073281382856:=N
def tw563317301091794830:=N
def tw5205955626638837844:=N
def tw491420390376197621:=N
def tw15892755515051013684:=N
def tw15625721207762408004:=N
def tw12289272168518257715:=N
def tw12260114108837924772:=N
def tw18038829840136363473:=N
def tw17739509483057307736:=N
def tw17022644576290017166:=N
def tw14919332894866564736:=N
def tw9919129294575498596:=N
def tw6739879087724287525:=N
def tw6511907787257410299:=N
def tw1607482572858786875:=N
def tw14741928740546748617:=N
def tw14712145377761242141:=N
def tw13671928534865341490:=N
def tw10868473397447051285:=N
def tw10167385416366324385:=N
def tw4570032513466767816:=N
def tw9667322077029675628:=N
def tw2415632152217572460:=N
def tw15513537924081604866:=N
def tw6605875885527269065:=N
def tw12779645221513989349:=N
def tw9823796157963993689:=N
def tw8313844726875567712:=N
def tw8009814017183150386:=N
def tw769525101062792885:=N
def tw7361564910979863600:=N
def tw7012429728154906804:=N
def tw5152100106210669874:=N
def tw4952124320116068076:=N
def tw4091897273405163716:=N
def tw17553794658492692717:=N
def tw16735036318500346979:=N
def tw16392060343220272692:=N
def tw16215944890400806307:=N
def tw16209714781817973179:=N
def tw15332566462713423450:=N
def tw13302051092289888745:=N
def tw11164515827988531310:=N
def tw9801427051307710534:=N
def tw9210475573347867789:=N
def tw9098677042001336186:=N
def tw7813090591706179637:=N
def tw5598640157591658582:=N
def tw5042744419148540301:=N
def tw4780300163217884008:=N
def tw16064395285987776236:=N
def tw14423655170520114806:=N
def tw13733036294664155960:=N
def tw13679587658354839321:=N
def tw12931162467981516780:=N
def tw104338839735430043:=N
def tw9624695614074513103:=N
def tw8098587965881764596:=N
def tw6703594150471335455:=N
def tw6130537925192075511:=N
def tw547939186877269583:=N
def tw4862033582249191220:=N
def tw4728843759184309193:=N
def tw2743489024783767932:=N
def tw197156444990686817:=N
def tw17082767760008941024:=N
def tw16326447344362145221:=N
def tw16111628878213868746:=N
def tw15676427326800607922:=N
def tw1347052994584028432:=N
def tw13414908871565238037:=N
def tw13076045486560150017:=N
def tw12555868300626258463:=N
def tw10864596840860731325:=N
def tw10661205566393313651:=N
def tw7940211864483699733:=N
def tw7019744318384181261:=N
def tw6739577713733593191:=N
def tw428161009914378983:=N
def tw2188501063418277607:=N
def tw17773590262909435604:=N
def tw17083402214296610695:=N
def tw17028913213915927772:=N
def tw11585496718863127927:=N
def tw10977600586982674453:=N
def tw11552224702969825599:=N
def tw9722609581537908199:=N
def tw8940340759187763590:=N
def tw4748304590688758976:=N
def tw3381986708799591486:=N
def tw3114855448281345307:=N
def tw2656328592376268789:=N
def tw16702186220731527107:=N
def tw16295123273868066394:=N
def tw15029900114533519418:=N
def tw12345217237388361747:=N
def tw9824171460196253776:=N
def tw9804722171089125436:=N
def tw9636292709738796877:=N
def tw9481260130237430313:=N
def tw9185451305579476378:=N
def tw9096292999796300880:=N
def tw8789952862031382554:=N
def tw8693671012919570322:=N
def tw8628322424726111690:=N
def tw8378910344591295042:=N
def tw8315453819082847849:=N
def tw7714009658645796535:=N
def tw7485641972379781425:=N
def tw7370524137373315441:=N
def tw729099304694494679:=N
def tw7166641581082021469:=N
def tw6969594427778530330:=N
def tw6932011511356592749:=N
def tw6842708474575054151:=N
def tw6615674594283388880:=N
def tw6477681199553736163:=N
def tw6414024442100610948:=N
def tw6336011820029817910:=N
def tw6266777533970454795:=N
def tw5833611604720963710:=N
def tw5747207531388000200:=N
def tw5615020622136048531:=N
def tw5571845859462606146:=N
def tw5342412019598373990:=N
def tw5197873886205503703:=N
def tw5159402701614789464:=N
def tw5156096512083971832:=N
def tw5059663994901228985:=N
def tw5029773316331103290:=N
def tw5021982194316918651:=N
def tw4984490679355544541:=N
def tw4966184878197294115:=N
def tw4743090140287907664:=N
def tw4427409997051759328:=N
def tw4258619015911874636:=N
def tw4096367176940586677:=N
def tw3969578730190509184:=N
def tw392823404560956282:=N
def tw3847937789628052563:=N
def tw3757842868839678247:=N
def tw3757490202647049658:=N
def tw3749595855750023579:=N
def tw3670787673547753109:=N
def tw2986140448169089707:=N
def tw2833705391520314352:=N
def tw2559149393486890733:=N
def tw2119197975547232754:=N
def tw1910924628911146900:=N
def tw18435650131446881242:=N
def tw18250644308896508910:=N
def tw1822388475766764027:=N
def tw18081110123883789365:=N
def tw18025954176658123248:=N
def tw17904011033050393546:=N
def tw17858176890168437357:=N
def tw17620988843412451645:=N
def tw17607346818136460286:=N
def tw17405735097848663909:=N
def tw17284345550633177077:=N
def tw17089794161424565856:=N
def tw16899012442453786494:=N
def tw16864886408544718478:=N
def tw16487256222244156652:=N
def tw1646206504929289922:=N
def tw16457575670181067336:=N
def tw16427493555246161496:=N
def tw16347004802940245850:=N
def tw16056449108730692976:=N
def tw15988092513834104349:=N
def tw15890721650394236083:=N
def tw15855277677228967391:=N
def tw15740974153398339173:=N
def tw1571768414923216666:=N
def tw15701507263666937062:=N
def tw15499193761020314952:=N
def tw15497041094652525470:=N
def tw15493415879963035625:=N
def tw15460049887698306130:=N
def tw15293437140961907579:=N
def tw15292158726413992126:=N
def tw15235027639352218525:=N
def tw14599031612400745166:=N
def tw1453875146454106434:=N
def tw14166434979036204835:=N
def tw14043396990753384500:=N
def tw13971086926128000308:=N
def tw1393080226411258381:=N
def tw13849890038031633715:=N
def tw1374846395978908084:=N
def tw13634071737440692174:=N
def tw13536954943060033799:=N
def tw13534238687782971444:=N
def tw135224017889453060:=N
def tw13475336429352598497:=N
def tw13184447955297469739:=N
def tw12880104158810097565:=N
def tw12810693656718677027:=N
def tw12773885731064743173:=N
def tw1268929132379864372:=N
def tw12616275982003737848:=N
def tw12608145771396729257:=N
def tw1256913612322119011:=N
def tw12460739687053780738:=N
def tw12152932939235325803:=N
def tw12019303392866237395:=N
def tw12018556996941651864:=N
def tw11996623056083777103:=N
def tw11860706698849581965:=N
def tw11851394145206896102:=N
def tw11822915061645160131:=N
def tw11564151759091146397:=N
def tw11450910169260535014:=N
def tw11428603040540975651:=N
def tw11208263485233635423:=N
def tw11183896110147891507:=N
def tw11091986780713601797:=N
def tw11063550949764027409:=N
def tw10968691523912479840:=N
def tw10776050889760153844:=N
def tw10731683072156908787:=N
def tw10594155217172283223:=N
def tw10454681397561339265:=N
def tw10210138192291821995:=N
def tw10205102187691080176:=N
def tw1020322198684436784:=N
def tw10028319042461460308:=N
def tw9647754283942040130:=N
def tw9609390382552404720:=N
def tw9599960294633859469:=N
def tw942176363129383729:=N
def tw9143492756365148036:=N
def tw9104273681508926725:=N
def tw8443272422904180028:=N
def tw821585458543479876:=N
def tw7783791751178096940:=N
def tw7718415477882245760:=N
def tw7676555346102699645:=N
def tw7110972352914410147:=N
def tw7095205576209499392:=N
def tw7024975733937289760:=N
def tw6854443549618422448:=N
def tw6757225996907249936:=N
def tw6522369324826646773:=N
def tw6349308903702761416:=N
def tw6297464797627265501:=N
def tw6068501970756079383:=N
def tw5998144741407444412:=N
def tw5697816276524086423:=N
def tw5488982046636904917:=N
def tw5447096936319937916:=N
def tw5351017609692929493:=N
def tw4265809678834766401:=N
def tw4169732523942521630:=N
def tw3905257021262109071:=N
def tw3729767302408149380:=N
def tw368272931933647306:=N
def tw3619200880970680438:=N
def tw3362967329574929961:=N
def tw3213222824138376798:=N
def tw300764477987284195:=N
def tw2888424169369463813:=N
def tw2848291177054254350:=N
def tw2579083772324478637:=N
def tw2547881965831021341:=N
def tw2158487845718305717:=N
def tw18228472830660187794:=N
def tw18162751842623679478:=N
def tw18151906842054807390:=N
def tw18094497067679451553:=N
def tw17926020972276154669:=N
def tw17866688469806211296:=N
def tw1776747402310728523:=N
def tw17327653975514844040:=N
def tw17259684980830485542:=N
def tw16648254841259222839:=N
def tw15747839917681027421:=N
def tw15434373688974193188:=N
def tw15329236323360711168:=N
def tw15202302588406532160:=N
def tw15124413645793863946:=N
def tw14677736547628298563:=N
def tw14379217161840523609:=N
def tw13897804421007786672:=N
def tw13150136805283929901:=N
def tw13064296101058541116:=N
def tw12532539288541457620:=N
def tw12450167839523719443:=N
def tw12042137470569666742:=N
end PySem.W.Fast
open PySem PySem.W PyProof.Rows
set_option maxRecDepth 100000 in
set_option maxHeartbeats 0 in
theorem PySem.Challenge.cw_slanttables_k50_sign_papers_holds : PySem.Challenge.rw_slanttables_k50_sign_papers.Holds := by
  w_on;o_law;k_head;(case hw=>w_witness2)
  k_fill
  refine LP.I9.I0.walk (l:=PySem.Challenge.rw_slanttables_k50_sign_papers) rfl rfl (λw h Y=>PySem.W.kIn_of Y) ?F
  case F=>
    intro w mg fa h KX G hmg;refine LP.I9.I0.all_mk ?_ hmg;constructor
    all_goals first
      |(refine' LP.mkF KX G ?a ?l ?c ?k;(case a=>k_is);(case l=>k_is);(case c=>k_is);(case k=>k_is))
      |(refine' mg_none_of KX G ?a;case a=>k_is)
      |(refine' LP.mkC KX G ?a;case a=>k_is)
      |(refine' LP.mkI KX G ?a;case a=>k_is)
      |(refine' LP.mkT KX G ?a ?l;(case a=>k_is);(case l=>k_is))
      |(refine' LP.mkX KX G ?a ?e;(case a=>k_is);(case e=>k_exc))
      |(refine' LP.mkH KX G ?a ?e ?_;(case a=>k_is);(case e=>k_exc);intro n hn;simp only[LP.LX,Yan,eA,or_false] at hn;first|(rcases hn with rfl|rfl|rfl|rfl|rfl|rfl|rfl|rfl|rfl|rfl|rfl<;>(refine' LP.exD ?a ?b;(case a=>k_is);(case b=>k_is)))|(rcases hn with rfl|rfl|rfl|rfl|rfl|rfl<;>(refine' LP.exD ?a ?b;(case a=>k_is);(case b=>k_is)))|(rcases hn with rfl|rfl|rfl<;>(refine' LP.exD ?a ?b;(case a=>k_is);(case b=>k_is)))|(subst hn;refine' LP.exD ?a ?b;(case a=>k_is);(case b=>k_is)))
      | (refine ⟨λn hn=>?_⟩;simp only [LP.LX,Yan,eA,or_false] at hn;rcases hn with rfl | rfl | rfl | rfl | rfl | rfl<;>
         (refine' LP.exX ?a (LP.clsX_of ?g ?n ?b ?h ?c ?d ?t ?o) ?k ?_;(case a=>k_is);(case g=>k_is);(case n=>k_is);(case b=>k_is);(case h=>k_is);(case c=>k_is);(case d=>k_is);(case t=>k_is);(case o=>k_is);(case k=>kit_is)
          intro m hm;simp only[LP.MX,LP.LX,Yan,eA,or_false] at hm;rcases hm with rfl|rfl|rfl|rfl|rfl|rfl|rfl|rfl|rfl<;>
           (refine' LP.exC ?a ?b;(case a=>k_is);(case b=>first|(refine Eq.trans (b:=some true) ?_ (by decide +kernel);kit_is)|(refine Eq.trans (b:=some false) ?_ (by decide +kernel);kit_is)))))
