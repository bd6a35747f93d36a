import PyProof.Rows.All
import Wide.All
import OpenK.AllK
import Wide.FinOn
import PySem.Challenge.RW_slanttables_k44_whole_squares
abbrev RA(x:PySem.Str):Prop:=(x==("__debug__" : PySem.Str))=false
set_option hygiene false
local macro_rules | `(tactic| walk_at "v")=>`(tactic| first|exact Or.inl rfl|exact Or.inr (Or.inl rfl)|exact Or.inr<|Or.inr rfl)
local macro_rules | `(tactic| walk_at "u")=>`(tactic| first|exact .inl rfl|exact .inr rfl|assumption)
theorem sa{p:Prop}(h:p:=by decide +kernel):p:=h
theorem tv{p:Prop}(h:p:=by omega):p:=h
theorem wp{p:Prop}(h:p:=by decide):p:=h
theorem E1{p:Prop}(h:p:=by simp):p:=h
theorem RJ{p:Prop}(h:p:=by rfl):p:=h
theorem RK{p:Prop}(h:p:=by walk_at "u"):p:=h
theorem RL{p:Prop}(h:p:=by intro _;rfl):p:=h
theorem RM{p:Prop}(h:p:=by first|exact Or.inl rfl|exact Or.inr rfl):p:=h
theorem RN{p:Prop}(h:p:=by walk_at "v"):p:=h
theorem RO{p:Prop}(h:p:=by with_unfolding_all rfl):p:=h
theorem RP{p:Prop}(h:p:=by exact⟨rfl,rfl,rfl,sa,rfl,sa,sa⟩):p:=h
local macro_rules(kind:=«term{_}»)|`({$t})=>`(autoParam $t RJ._auto_1)
local macro_rules|`(($t :))=>`(autoParam $t wp._auto_1)
abbrev E8:=List (List Rat)
abbrev KE:=List (List Int)
abbrev K4:=List (PySem.Addr×PySem.Obj)
abbrev K5:=PySem.Value->PySem.Shared->Prop
abbrev K8:=PySem.Str->Option PySem.Value
abbrev K9:=List PySem.Value
abbrev Lb:=List Int
abbrev Mn:=List Rat
abbrev Rv:=List PySem.Str
abbrev Rx:=Nat->Rat
abbrev Ry:=List Nat
set_option genSizeOf false
set_option genInjectivity false
set_option genSizeOf false
set_option genInjectivity false
set_option compiler.extract_closed false
set_option Elab.async false
set_option linter.all false
set_option maxRecDepth 100000
set_option exponentiation.threshold 2000
set_option exponentiation.threshold 400
set_option maxHeartbeats 8000000
def jx:=@if_neg
def ks:=@if_pos
def dC:=@PySem.Heap.lt_size
def dP:=@Nat.lt_of_lt_of_le
def iJ:=@Nat.lt_irrefl
def BB:=@Array.append_assoc
def ip:=@Nat.ne_of_lt
def y6:=@Nat.lt_trans
def Yag:=@List.mem_filter
def Yah:=@List.mem_range
def gP:=@Nat.le_trans
def gY:=@Nat.le_of_lt
def y8:=@List.filterMap_cons
def lv:=@List.mem_cons_self
def jv:=@List.mem_cons_of_mem
def Yan:=@List.mem_cons
def Yao:=@List.mem_append
def Yap:=@List.getElem?_eq_some_iff
def fY:=@List.getElem?_set_self
def fc:=@List.getElem?_set_ne
def y9:=@Array.length_toList
def dM:=@PySem.Heap.get?_push_of_some
def oC:=@Bool.false_ne_true
def zd:=@Nat.ne_of_gt
def gZ:=@PySem.Heap.get?_push_size
def bU:=@Nat.le_refl
def Yay:=@List.mem_filterMap
def jf:=@List.mem_append_right
def fe:=@List.size_toArray
def qT:=@List.append_nil
def YaC:=@List.nodup_cons
def BC:=@List.of_mem_zip
def fZ:=@List.length_take
def ly:=@List.getElem?_append_right
def p8:=@List.getElem?_replicate
def mJ:=@List.getElem?_append_left
def cJ:=@List.getElem?_map
def iK:=@List.mem_of_getElem?
def dA:=@List.length_append
def aZ:=@List.length_map
def qU:=@List.length_replicate
theorem jO(n:Nat):(n:Int).toNat=n:=rfl
def iq:=@List.length_drop
def d9:=@Bool.and_eq_true
def ze:=@PySem.Heap.get?_update_self
def sh:=@PySem.Heap.get?_update_other
def fD:=@List.length_set
def vn:=@List.all_cons
def zg:=@List.any_cons
theorem iM{α}{a:α}{n}:List.replicate (n+1) a=a::List.replicate n a:=rfl
def uA:=@List.flatten_cons
def jP:=@List.append_assoc
def kf:=@List.length_singleton
def mK:=@Nat.succ_mul
def uB:=@Nat.add_comm
theorem dG{α}(l:List α):[]++l=l:=rfl
def f6:=@List.map_nil
def cN:=@List.map_cons
def BD:=@Nat.le_of_not_lt
def pE:=@List.lookup_cons
def uC:=@Bool.not_eq_true'
def BE:=@List.forIn_cons
def fg:=@Bool.false_eq_true
def p9:=@Option.map_some
def mL:=@PySem.Heap.size_push
def Ybb:=@List.all_eq_true
def BF:=@Bool.or_eq_true
def BG:=@Nat.le_of_succ_le
def gx:=@Nat.lt_or_ge
def aW:=@List.getD_eq_getElem?_getD
def jw:=@Nat.zero_le
def si:=@List.ext_getElem?
def iN:=@List.getElem?_range
def dX:=@List.getElem?_eq_none
def zj:=@List.reverse_cons
def vo:=@List.length_reverse
def Ybm:=@Array.getElem?_eq_some_iff
def iu:=@List.not_mem_nil
def BH:=@Int.toNat_of_nonneg
def vp:=@Nat.add_sub_cancel
def Ybq:=@Nat.le_zero
def bP:=@List.getElem?_eq_getElem
def BI:=@Nat.lt_succ_self
def vq:=@Nat.lt_succ_of_lt
def BJ:=@List.take_of_length_le
def Ybv:=@List.mem_iff_getElem
def lA:=@Bool.eq_iff_iff
def gQ:=@List.getElem_mem
def qV:=@List.drop_zero
def qW:=@List.drop_eq_getElem_cons
def zk:=@List.drop_of_length_le
def zm:=@List.getElem?_zipWith
def g6:=@List.length_zipWith
theorem dD{α}{a:α}{l:List α}:(a::l).length=l.length+1:=rfl
def lT:=@Nat.pow_le_pow_right
def BK:=@Int.mul_ediv_cancel_left
def eh:=@Int.natAbs_mul
theorem pF(n:Nat):(n:Int).natAbs=n:=rfl
def kj:=@Nat.pow_add
def zn:=@Nat.pow_pos
def lU:=@Nat.mul_le_mul_right
def BL:=@Nat.mul_ne_zero
def uD:=@Nat.pow_succ
def qX:=@Int.natAbs_add_le
def Ff:=@Int.sign_eq_neg_one_of_neg
def dH:=@Rat.div_def
def BM:=@Rat.num_intCast
def BN:=@Rat.den_intCast
def BO:=@Nat.one_lt_two_pow
def YbT:=@List.mem_map
def BP:=@Int.gcd_pos_of_ne_zero_right
def zp:=@Int.le_of_lt
def zq:=@Int.neg_mul_neg
def zt:=@Int.mul_fdiv_cancel_left
def uE:=@Int.one_mul
def zw:=@Int.mul_zero
def zx:=@Bool.and_true
def jg:=@List.map_congr_left
def zy:=@List.map_id
def uF:=@Rat.num_divInt_den
def BQ:=@List.contains_cons
theorem jh{α}:([]:List α).length=0:=rfl
theorem g9{α}{a:α}{l k:List α}:(a::l)++k=a::(l++k):=rfl
theorem dN{α}{a:α}{l:List α}:(a::l)[0]? = some a:=rfl
theorem eA{α}{a:α}{n:Nat}{l:List α}:(a::l)[n+1]? = l[n]? :=rfl
def lB:=@List.replicate_zero
def vt:=@List.all_map
def Fg:=@Int.fmod_eq_emod_of_nonneg
def gE:=@Bool.not_true
def lV:=@Nat.lt_of_le_of_lt
def BT:=@Rat.divInt_ofNat
def km:=@Rat.add_zero
theorem BU{α}{β}{γ}{f:α->β->γ}{a b l k}:List.zipWith f (a::l) (b::k)=f a b::List.zipWith f l k:=rfl
def vv:=@Rat.zero_add
def sj:=@Nat.min_eq_left
def BV:=@Int.fdiv_eq_ediv_of_nonneg
def oD:=@List.map_drop
def kJ:=@List.map_take
def lW:=@List.mem_of_mem_drop
def lX:=@List.mem_of_mem_take
def uG:=@List.map_reverse
def BW:=@Int.fmod_nonneg_of_pos
def kK:=@List.mem_map_of_mem
def dI:=@Rat.mul_zero
def BX:=@List.range_succ_eq_map
def uH:=@List.getElem?_drop
def Ycu:=@List.mem_reverse
def mM:=@Bool.not_false
def uI:=@Rat.divInt_mul_divInt
def lY:=@Int.mul_ne_zero
def fh:=@List.length_range
def uJ:=@List.map_replicate
def BY:=@List.mem_or_eq_of_mem_set
def gR:=@List.map_append
def oE:=@Nat.zero_add
def pG:=@Nat.mul_lt_mul''
def zA:=@Int.natAbs_sub_le
def zB:=@List.filter_cons_of_pos
def zC:=@List.filter_cons_of_neg
def hJ:=@Nat.mul_le_mul
def BZ:=@Rat.zero_divInt
def sr:=@Int.mul_comm
def zD:=@Rat.divInt_mul_right
def fH:=@Rat.zero_mul
def lC:=@List.getElem_zipWith
def vw:=@List.map_zipWith
def YcO:=@List.mem_singleton
def uK:=@List.filter_cons
def qY:=@List.getElem?_take
def uL:=@Nat.min_self
def qa:=@Option.getD_some
def B0:=@List.getElem_map
def uM:=@List.ext_getElem
def zE:=@List.flatten_replicate_singleton
def B4:=@List.reverse_append
def mO:=@Rat.mul_one
def jQ:=@Rat.mul_inv_cancel
def zF:=@Nat.sub_self
def ss:=@Rat.inv_mul_cancel
def Yc1:=@List.pairwise_append
def Yc2:=@List.pairwise_cons
def vz:=@List.getD_cons_zero
def uN:=@List.getD_cons_succ
def uO:=@Rat.intCast_add
def eY:=@Rat.intCast_mul
def lZ:=@Rat.mul_comm
def mP:=@Rat.one_mul
def Yc9:=@List.length_eq_zero_iff
def B5:=@Nat.add_sub_cancel_left
def B6:=@List.filter_map
def l3:=@Rat.divInt_eq_div
def Ydd:=@Rat.mul_eq_zero
def pH:=@Nat.le_succ
def pI:=@Rat.mul_nonneg
def qZ:=@Rat.intCast_sub
def B7:=@List.filter_congr
def Ydi:=@List.filter_eq_self
def Fh:=@List.countP_eq_length_filter
section
open PySem PySem.Spec PyProof.Rows PySem.W
def QP:=@wpAny_bind
def QQ:=@wpAny_pure
abbrev QR:=W.Frag
def QS:=@absurd
def QT:=@decide_eq_true
def QU:=@decide_eq_false
def QV:=@decide_eq_true_eq
def QW:=@Option.some.inj
def QX:=@Ne.symm
def QY:=@wpAny_mono
def QZ:=@boot_len
def Q4:=@wpAny_field
def Q5:=@wpAny_newObj_type
def Q6:=@PySem.mem_of_lookup
def Q7:=@wpAny_truthy_bool
def Q8:=@beq_self_eq_true
def Q9:=@wpAny_standAt
def Ra:=@boot_isinstance
def Rb:=@boot_tuple
def Rc:=@wpAny_holding
def Re:=@wpAny_call_entry
def Rf:=@wpAny_seqItems
def Rg:=@wpAny_setField_rec
def Rh:=@wpAny_passesOwn
def Ri:=@False.elim
def Rj:=@wpAny_rule
def Rk:=@decide_eq_decide
def Rl:=@wpAny_Call_Name_kw
def Rm:=@wpAny_comprehension_free
def Rn:=@wpAny_setField
def Ro:=@of_decide_eq_true
def Rp:=@wpAny_pyIter_enum
def Rq:=@wpAny_execs_nil
def Rr:=@wpAny_updateSeq_pair
def Rs:=@beq_iff_eq
def Rt:=@boot_all
def Ru:=@wpAny_onRaise
end
namespace L2
open PySem PySem.Spec PyProof.Rows
variable{κ:Type}{a b it dx:Addr}{o:Obj}{P:Program}{w:World}{h h' base:Heap}{u:Value}{x name qual:Str}{e c tg:Expr}{oI:K4}{s s':Shared}{g':Array GenState}{t' i j k n:Nat}{d':Drawn}{ch fp:List Addr}{N ps:Rv}{A:Around}{Q:K5}{f:Value->Value->Sem Value}{K:QR}{es:List Expr}{g:Int->Int->Int}{pos' p:Pos}{op:CmpOp}{body:List Stmt}{us:K9}{mA mg:K8}{fd:FuncData}{scope:Scope}{osl:Array (Option Value)}
abbrev ko:=Sum Int Str
def rc:ko->Value->Bool
 |.inl k,v=>Value.isInt k v|.inr x,v=>Value.isStrOf x v
def B8(w:World):ko->Int
 |.inl k=>hashInt k|.inr x=>hashStr w x
theorem bR:∀{k:ko} {v:Value},rc k v=true->(∃i t,k=Sum.inl i/\v=Value.int i t)\/(∃x t,k=Sum.inr x/\v=Value.str x t)
 |.inl i,v,h=>by obtain⟨t,e⟩:=Value.isInt_shape (k:=i) (v:=v) h;exact .inl ⟨i,t,rfl,e⟩
 |.inr x,v,h=>by obtain⟨t,e⟩:=Value.isStrOf_shape (x:=x) (v:=v) h;exact .inr ⟨x,t,rfl,e⟩
theorem su(a b:Int):decide ((Sum.inl a:ko)=Sum.inl b)=(a==b):=by by_cases e:a=b;subst e;simp;have h:¬(Sum.inl a:ko)=Sum.inl b:=λq=>e (Sum.inl.inj q);rw[QU h];exact(beq_eq_false_iff_ne.mpr e).symm
theorem sx(a b:Str):decide ((Sum.inr a:ko)=Sum.inr b)=decide (a=b):=by by_cases e:a=b;subst e;simp;have h:¬(Sum.inr a:ko)=Sum.inr b:=λq=>e (Sum.inr.inj q);rw[QU h,QU e]
theorem sC(a:Int)(b:Str):decide ((Sum.inl a:ko)=Sum.inr b)=false:=QU<|λq=>nomatch q
theorem sD(a:Str)(b:Int):decide ((Sum.inr a:ko)=Sum.inl b)=false:=QU<|λq=>nomatch q
def jy(prog:Program)(w:World):PySem.KeyKind prog w ko where
 is:=rc
 hash:=B8 w
 inj:=λv a b ha hb=>by
  rcases bR ha with⟨i,t,rfl,rfl⟩|⟨x,t,rfl,rfl⟩
  rcases bR hb with⟨j,u,rfl,e⟩|⟨y,u,rfl,e⟩
  injection e with e1 _;rw[e1]
  exact nomatch e;rcases bR hb with⟨j,u,rfl,e⟩|⟨y,u,rfl,e⟩
  exact nomatch e;injection e with e1 _;rw[e1]
 byValue:=λk v h=>by rcases bR h with⟨i,t,rfl,rfl⟩|⟨x,t,rfl,rfl⟩<;>rfl
 pyHash:=λhv h=>by
  rcases bR hv with⟨i,t,rfl,rfl⟩|⟨x,t,rfl,rfl⟩
  exact wpAny_pyHash_int h;exact wpAny_pyHash_str h
 eqBool:=λhu hv h=>by
  rcases bR hu with⟨i,t,rfl,rfl⟩|⟨x,t,rfl,rfl⟩
  rcases bR hv with⟨j,u,rfl,rfl⟩|⟨y,u,rfl,rfl⟩
  rw[su]at h;exact wpAny_eqBool_int h;rw[sC]at h;exact SeqAt.EqAt.int_str i t y u _ _ _ _ h;rcases bR hv with⟨j,u,rfl,rfl⟩|⟨y,u,rfl,rfl⟩
  rw[sD]at h;exact SeqAt.EqAt.str_int x t j u _ _ _ _ h;rw[sx]at h;exact wpAny_eqBool_str h
 «strs»:=λk x t v h=>by
  rcases bR h with⟨i,u,rfl,e⟩|⟨y,u,rfl,e⟩
  exact nomatch e;injection e with e1 _
  subst e1;cases v<;>rfl
set_option genInjectivity true in
set_option genInjectivity true in
inductive V where
 |non|bl (b:Bool)|int (i:Int)|str (x:Str)|byt (b:Array UInt8)|flt (b:UInt64)|ref (a:Addr)|ty (n:String)
 deriving DecidableEq
abbrev RH:=List V
variable{xs vs:RH}{gV:RH->RH->RH}
def RelV:V->Value->Prop
 |.non,u=>u=Value.none|.bl b,u=>u=Value.bool b|.int i,u=>∃t,u=Value.int i t|.str x,u=>∃t,u=Value.str x t|.byt b,u=>∃t,u=Value.bytes b t|.flt b,u=>∃t,u=Value.float b t|.ref a,u=>u=Value.ref a|.ty n,u=>u=Value.type n
abbrev Vals:RH->K9->Prop:=Paired RelV
theorem Vals.length{xs:RH}{us:K9}(r:Vals xs us):xs.length=us.length:=Paired.length r
theorem Vals.get:∀{xs:RH} {us:K9} {i:Nat} {x:V},Vals xs us->xs[i]? = some x->∃u,us[i]? = some u/\RelV x u
 |_,_,_,_,.nil,e=>by simp at e|_,_,0,_,.cons r _,e=>by simp at e;subst e;exact⟨_,rfl,r⟩|_,_,i+1,x,.cons _ t,e=>by obtain⟨u,h1,h2⟩:=Vals.get (i:=i) (x:=x) t (by simpa using e);exact⟨u,by simpa using h1,h2⟩
theorem Vals.set{x:V}{u:Value}(r:RelV x u):∀{xs:RH} {us:K9} (i:Nat),Vals xs us->Vals (xs.set i x) (us.set i u)
 |_,_,_,.nil=>.nil|_,_,0,.cons _ t=>.cons r t|_,_,i+1,.cons q t=>.cons q<|Vals.set r i t
theorem Vals.append:∀{xs ys:RH} {us ws:K9},Vals xs us->Vals ys ws->Vals (xs++ys) (us++ws)
 |_,_,_,_,.nil,s=>s|_,_,_,_,.cons r t,s=>.cons r<|Vals.append t s
theorem Vals.take:∀{xs:RH} {us:K9} (n:Nat),Vals xs us->Vals (xs.take n) (us.take n)
 |_,_,0,_=>.nil|_,_,_+1,.nil=>.nil|_,_,n+1,.cons r t=>.cons r<|Vals.take n t
theorem Vals.drop:∀{xs:RH} {us:K9} (n:Nat),Vals xs us->Vals (xs.drop n) (us.drop n)
 |_,_,0,r=>r|_,_,_+1,.nil=>.nil|_,_,n+1,.cons _ t=>Vals.drop n t
def vA:Option V->Option Value->Prop
 |some v,some u=>RelV v u|none,none=>True|_,_=>False
def KV:List (κ×V)->List (κ×Value)->Prop:=Paired λ(p:κ×V) (q:κ×Value)=>p.1=q.1/\RelV p.2 q.2
def kV:ko->V
 |.inl i=>.int i|.inr x=>.str x
set_option genInjectivity true in
set_option genInjectivity true in
inductive HO where
 |lst (xs:RH)
 |tup (xs:RH)
 |dK (kvs:List (ko×V))|dT (kvs:List (List ko×V))
 |set (S:Int->Bool) (n:Nat)
 |ins (C dx:Addr) (fs:List (Str×V))
 |own (x:Addr)
 |xd (fs:List (Str×V))
 |met (f x:Addr)
 |rng (lo hi:Int)
 |frz (o:Obj) (u:HO)
 |tbl (ps:Array Value)
 |ext (φ:Heap->Prop)
abbrev Hp:=Addr->Option HO
variable{H H':Hp}
def upd(H:Hp)(a:Addr)(o:HO):Hp:=λb=>if b=a then some o else H b
theorem aV{o:HO}:upd H a o a=some o:=by unfold upd;rw[ks rfl]
theorem aK{o:HO}(h:b≠a):upd H a o b=H b:=by unfold upd;rw[jx h]
theorem dE{o:HO}(h:H a=some o)(h':H b=none):a≠b:=by intro e;subst e;rw[h]at h';cases h'
section
variable(P:Program)(w:World)
def ObjOk(H:Hp)(h:Heap)(a:Addr):HO->Prop
 |.lst xs=>xs.length<=sizeLine/\∃(its:K9) (n:Nat),Vals xs its/\h.get? a=some { cls:=.type "list",data:=.seq its.toArray n }|.tup xs=>xs.length<=sizeLine/\∃its:K9,Vals xs its/\IsTup h a its.toArray|.dK kvs=>kvs.length<=sizeLine/\(a==sysModules)=false/\∃vs,KV kvs vs/\h.DictOf (jy P w) a vs
 |.dT kvs=>kvs.length<=sizeLine/\(a==sysModules)=false/\∃xs:List (List ko×Addr×Value),
   Paired (λ(p:List ko×V) (q:List ko×Addr×Value)=>p.1=q.1/\H q.2.1=some (.tup<|p.1.map kV)/\RelV p.2 q.2.2) kvs xs/\
   ∃o es ep,h.get? a=some o/\o.ExactDict/\o.data=.dict es ep/\es.toList=xs.map (entryOfKey<|tupleKind<|jy P w)/\(xs.map (·.1)).Nodup
 |.set S n=>h.SetOf (intKind P w) a S n
 |.ins C dx fs=>H dx=some (.own a)/\fs.length<=1000/\dx≠a/\h.get? a=some (W.instObj C dx)/\
   ∃mA,h.Ns1 dx mA/\(∀f,vA (fs.lookup f)<|mA f)/\PySem.Within mA (fs.map (·.1))
 |.own _=>∃o,h.get? a=some o|.xd fs=>∃mA,h.Ns1 a mA/\∀f,vA (fs.lookup f)<|mA f
 |.rng lo hi=>∃t u v,h.get? a=some { cls:=.type "range",data:=.fields #[.int lo t,.int hi u,.int 1 v] }|.frz o u=>h.get? a=some o/\ObjOk H h a u|.tbl ps=>h.get? a=some { cls:=.none,data:=.fields ps }|.met f x=>h.get? a=some (W.methodObj (.ref f)<|.ref x)|.ext φ=>φ h/\(∃o,h.get? a=some o)/\∀h1 h2:Heap,φ h1->(∀o,h1.get? a=some o->h2.get? a=some o)->φ h2
def HOk(H:Hp)(h:Heap):Prop:=∀a o,H a=some o->ObjOk P w H h a o
end
section
variable{o:HO}
theorem ObjOk.lt(x:ObjOk P w H h a o):a<h.objs.size:=by
 cases o with
 |lst xs=>obtain⟨_,_,_,_,e⟩:=x;exact dC e
 |tup xs=>obtain⟨_,_,_,p⟩:=x;exact p.lt
 |dK kvs=>obtain⟨_,_,_,_,o,_,_,e,_⟩:=x;exact dC e
 |dT kvs=>obtain⟨_,_,_,_,o,_,_,e,_⟩:=x;exact dC e
 |set S n=>obtain⟨o,_,_,_,e,_⟩:=x;exact dC e
 |ins C dx fs=>obtain⟨_,_,_,e,_⟩:=x;exact dC e
 |own y=>obtain⟨_,e⟩:=x;exact dC e
 |xd fs=>obtain⟨_,⟨_,_,_,e,_⟩,_⟩:=x;exact dC e
 |rng lo hi=>obtain⟨_,_,_,e⟩:=x;exact dC e
 |frz ob u=>obtain⟨e,_⟩:=x;exact dC e
 |tbl ps=>exact dC (show h.get? a=some _ from x)|met f y=>exact dC (show h.get? a=some _ from x)|ext φ=>obtain⟨_,⟨_,e⟩,_⟩:=x;exact dC e
theorem Paired.mapP{α β:Type}{F G:α->β->Prop}:∀{l₁:List α} {l₂:List β},Paired F l₁ l₂->(∀a b,F a b->G a b)->Paired G l₁ l₂
 |_,_,.nil,_=>.nil|_,_,.cons r t,f=>.cons (f _ _ r)<|Paired.mapP t f
theorem ObjOk.stay(x:ObjOk P w H h a o)(k:∀b u,(b=a\/H b=some (.own a))->h.get? b=some u->h'.get? b=some u)
  (ho:∀b,H b=some (.own a)->H' b=some (.own a)) (ht:∀b xs,H b=some (.tup xs)->H' b=some (.tup xs)):ObjOk P w H' h' a o:=by
 induction o with
 |lst xs=>obtain⟨z,its,n,r,e⟩:=x;exact⟨z,its,n,r,k _ _ (.inl rfl) e⟩
 |tup xs=>obtain⟨z,its,r,ob,e,c⟩:=x;exact⟨z,its,r,ob,k _ _ (.inl rfl) e,c⟩
 |dK kvs=>obtain⟨z,y,vs,r,ob,es,ep,e,c⟩:=x;exact⟨z,y,vs,r,ob,es,ep,k _ _ (.inl rfl) e,c⟩
 |dT kvs=>
  obtain⟨z,y,xs,r,ob,es,ep,e,c⟩:=x;exact⟨z,y,xs,Paired.mapP r λp q z=>⟨z.1,ht _ _ z.2.1,z.2.2⟩,ob,es,ep,k _ _ (.inl rfl) e,c⟩
 |set S n=>obtain⟨ob,es,ep,t,e,c⟩:=x;exact⟨ob,es,ep,t,k _ _ (.inl rfl) e,c⟩
 |ins C dx fs=>
  obtain⟨d,z,ne,e,mA,⟨od,es,ep,e2,c⟩,r⟩:=x;exact⟨ho _ d,z,ne,k _ _ (.inl rfl) e,mA,⟨od,es,ep,k _ _ (.inr d) e2,c⟩,r⟩
 |own y=>obtain⟨ob,e⟩:=x;exact⟨ob,k _ _ (.inl rfl) e⟩
 |xd fs=>obtain⟨mA,⟨od,es,ep,e,c⟩,r⟩:=x;exact⟨mA,⟨od,es,ep,k _ _ (.inl rfl) e,c⟩,r⟩
 |rng lo hi=>obtain⟨t,u,v,e⟩:=x;exact⟨t,u,v,k _ _ (.inl rfl) e⟩
 |frz ob u ih=>obtain⟨e,q⟩:=x;exact⟨k _ _ (.inl rfl) e,ih q⟩
 |tbl ps=>
  have e:h.get? a=some { cls:=.none,data:=.fields ps }:=x;show h'.get? a=some { cls:=.none,data:=.fields ps };exact k a _ (.inl rfl) e
 |met f y=>
  have e:h.get? a=some (W.methodObj (.ref f)<|.ref y):=x;show h'.get? a=some (W.methodObj (.ref f)<|.ref y);exact k a _ (.inl rfl) e
 |ext φ=>obtain⟨p,⟨o,e⟩,st⟩:=x;exact⟨st _ _ p λo q=>k _ _ (.inl rfl) q,⟨o,k _ _ (.inl rfl) e⟩,st⟩
theorem HOk.lt(x:HOk P w H h)(e:H a=some o):a<h.objs.size:=(x a o e).lt
theorem HOk.fresh(x:HOk P w H h)(e:h.objs.size<=a):H a=none:=by
 cases q:H a with
 |none=>rfl|some u=>exact QS (dP (x.lt q) e)<|iJ _
theorem HOk.kept(x:HOk P w H h)(k:∀b u,h.get? b=some u->h'.get? b=some u):HOk P w H h':=λa o e=>(x a o e).stay (λb u _ q=>k b u q) (λ_ q=>q) λ_ _ q=>q
theorem HOk.laid(x:HOk P w H h)(k:∀b u,h.get? b=some u->h'.get? b=some u)(hp:h.objs.size<=a)(new:ObjOk P w (upd H a o) h' a o):HOk P w (upd H a o) h':=λb u e=>by have hn:=x.fresh hp;by_cases hb:b=a;subst hb;rw[aV]at e;cases e;exact new;rw[aK hb]at e;exact(x b u e).stay (λc v _ q=>k c v q) (λc q=>by rw[aK<|dE q hn];exact q) λc xs q=>by rw[aK<|dE q hn];exact q
end
def Rd(H:Hp)(a:Addr)(u:HO):Prop:=H a=some u\/∃o,H a=some (.frz o u)
theorem Rd.ok{u:HO}(r:Rd H a u)(x:HOk P w H h):ObjOk P w H h a u:=by
 rcases r with r|⟨o,r⟩
 exact x a u r;obtain⟨_,q⟩:=x a _ r;exact q
def zG:Option HO->Prop
 |some (.lst _)=>True|some (.dK _)=>True|some (.dT _)=>True|some (.set _ _)=>True|some (.ins _ _ _)=>True|some (.ext _)=>True|_=>False
section
variable{x e:Addr}{o':HO}
theorem HOk.write(ok:HOk P w H h)(mu:zG (H x))(he:e=x\/H e=some (.own x))(k:∀b u,b≠e->h.get? b=some u->h'.get? b=some u)(heo:∃u,h'.get? e=some u)
  (new:ObjOk P w (upd H x o') h' x o'):HOk P w (upd H x o') h':=λb u q=>by
 have nown:∀c y,H c=some (.own y)->c≠x:=λc y r z=>by subst z;rw[r]at mu;exact mu
 have ntup:∀c xs,H c=some (.tup xs)->c≠x:=λc xs r z=>by subst z;rw[r]at mu;exact mu
 by_cases hb:b=x
 .subst hb;rw[aV]at q;cases q;exact new
 .rw[aK hb]at q
  by_cases hbe:b=e
  .have q':H b=some (.own x):=by
    rcases he with z|z
    .exact QS (hbe.trans z) hb
    .rw[hbe];exact z
   rw[q]at q';cases q';obtain⟨v,hv⟩:=heo;exact⟨v,by rw[hbe];exact hv⟩
  .refine(ok b u q).stay (λc v hc r=>k c v ?_ r) (λc r=>by rw[aK<|nown c b r];exact r) λc xs r=>by rw[aK<|ntup c xs r];exact r
   rcases hc with rfl|hc
   .exact hbe
   .rintro rfl
    rcases he with z|z
    .exact nown c b hc z
    .rw[hc]at z;cases z;exact hb rfl
end
structure Un(fs ex:List Addr)(H H':Hp)(h h':Heap):Prop where
 keep:∀b o,h.get? b=some o->H b=none->b∉fs->b∉ex->h'.get? b=some o
 slot:∀b o,h.get? b=some o->H b=none->b∈fs->b∉ex->∃sl,h'.get? b=some { o with slots:=sl }
 free:∀b o,h.get? b=some o->H b=none->b∉ex->H' b=none
 there:∀b o,h.get? b=some o->b∉ex->∃o',h'.get? b=some o'
 tups:∀b xs,H b=some (.tup xs)->H' b=some (.tup xs)
 frzs:∀b o u,H b=some (.frz o u)->H' b=some (.frz o u)
 tbls:∀b ps,H b=some (.tbl ps)->∃more,H' b=some (.tbl<|ps++more)
 sys:mainGlobals∉ex->(∃o,h.get? mainGlobals=some o)->(∀xs,H sysModules≠some (.lst xs))->∀xs,H' sysModules≠some (.lst xs)
section
variable{fs fs' ex ex':List Addr}{H1 H2:Hp}{h1 h2:Heap}{x e:Addr}{o:HO}
theorem Un.any(u:Un fs ex H H1 h h1){ob:Obj}(q:h.get? b=some ob)(n:H b=none)(hx:b∉ex):∃sl,h1.get? b=some { ob with slots:=sl }:=by by_cases hb:b∈fs;exact u.slot b ob q n hb hx;exact⟨ob.slots,u.keep b ob q n hb hx⟩
theorem Un.trans(a:Un fs ex H H1 h h1)(b:Un fs ex H1 H2 h1 h2):Un fs ex H H2 h h2 where
 keep:=λc ob q n hc hx=>b.keep c ob (a.keep c ob q n hc hx) (a.free c ob q n hx) hc hx
 slot:=λc ob q n hc hx=>by obtain⟨sl,e1⟩:=a.slot c ob q n hc hx;obtain⟨sl',e2⟩:=b.slot c _ e1 (a.free c ob q n hx) hc hx;exact⟨sl',e2⟩
 free:=λc ob q n hx=>by obtain⟨o',e1⟩:=a.there c ob q hx;exact b.free c o' e1 (a.free c ob q n hx) hx
 there:=λc ob q hx=>by obtain⟨o',e1⟩:=a.there c ob q hx;exact b.there c o' e1 hx
 tups:=λc xs q=>b.tups c xs<|a.tups c xs q
 frzs:=λc ob xs q=>b.frzs c ob xs<|a.frzs c ob xs q
 tbls:=λc ps q=>by obtain⟨m1,e1⟩:=a.tbls c ps q;obtain⟨m2,e2⟩:=b.tbls c _ e1;exact⟨m1++m2,by rw[e2,BB]⟩
 sys:=λhx ⟨o,e⟩ n=>b.sys hx (a.there _ o e hx)<|a.sys hx ⟨o,e⟩ n
theorem Un.kept(k:∀b u,h.get? b=some u->h'.get? b=some u):Un fs ex H H h h':=
 ⟨λb ob q _ _ _=>k b ob q,λb ob q _ _ _=>⟨ob.slots,k b ob q⟩,λ_ _ _ n _=>n,λb ob q _=>⟨ob,k b ob q⟩,λ_ _ q=>q,λ_ _ _ q=>q,λ_ ps q=>⟨#[],by rw[q];simp⟩,λ_ _ n=>n⟩
theorem Un.refl:Un fs ex H H h h:=Un.kept λ_ _ q=>q
theorem Un.laid(k:∀b u,h.get? b=some u->h'.get? b=some u)(hp:h.objs.size<=a)(hn:H a=none):Un fs ex H (upd H a o) h h' where
 keep:=λb u q _ _ _=>k b u q
 slot:=λb u q _ _ _=>⟨u.slots,k b u q⟩
 free:=λb u q n _=>by rw[aK<|ip<|dP (dC q) hp];exact n
 there:=λb u q _=>⟨u,k b u q⟩
 tups:=λb xs q=>by rw[aK<|dE q hn];exact q
 frzs:=λb u xs q=>by rw[aK<|dE q hn];exact q
 tbls:=λb ps q=>⟨#[],by rw[aK<|dE q hn,q];simp⟩
 sys:=λ_ ⟨_,q⟩ n=>by rw[aK<|ip<|dP (y6 wp<|dC q) hp];exact n
theorem Un.write(mu:zG (H x))(he:e=x\/H e=some (.own x))(k:∀b u,b≠e->h.get? b=some u->h'.get? b=some u)(heo:∃u,h'.get? e=some u)(hk:(∃us,H x=some (.lst us))\/∀us,o≠.lst us):Un fs ex H (upd H x o) h h':=by
 have hx:∀b,H b=none->b≠x:=λb n z=>by subst z;rw[n]at mu;exact mu
 have hb:∀b,H b=none->b≠e:=λb n z=>by
  subst z;rcases he with r|r
  exact hx b n r;rw[n]at r;cases r
 have hm:∀b u,H b=some u->¬zG (some u)->b≠x:=λb u q nm z=>by subst z;rw[q]at mu;exact nm mu
 refine ⟨λb u q n _ _=>k b u (hb b n) q,λb u q n _ _=>⟨u.slots,k b u (hb b n) q⟩,λb u q n _=>by rw [aK<|hx b n];exact n,λb u q _=>?_,
  λb xs q=>by rw[aK<|hm b _ q λz=>z];exact q,λb u xs q=>by rw[aK<|hm b _ q λz=>z];exact q,λb ps q=>⟨#[],by rw[aK<|hm b _ q λz=>z,q];simp⟩,λ_ _ n ys=>by
   by_cases z:sysModules=x
   .rw[z,aV]
    rcases hk with⟨us,hk⟩|hk
    .exact QS (z▸hk) (n us)
    .exact λy=>hk ys (QW y)
   .rw[aK z];exact n ys⟩
 by_cases hbe:b=e;subst hbe;exact heo;exact⟨u,k b u hbe q⟩
end
def zH(h:Heap)(H:Hp):List Addr:=(List.range h.objs.size).filter λa=>(H a).isSome
def jz(h:Heap)(H:Hp):Heap:=W.hideAll h<|zH h H
theorem l4(h:Heap)(H:Hp):(jz h H).objs.size=h.objs.size:=W.hideAll_size _ _
theorem oF(e:h.get? b=some o)(n:H b=none):(jz h H).get? b=some o:=
 W.hideAll_get _ e λhm=>by
  have q:(H b).isSome=true:=(Yag.mp hm).2;rw[n]at q;simp at q
theorem qb(e:(jz h H).get? b=some o):h.get? b=some o/\H b=none:=by
 have e':h.get? b=some o:=W.of_hideAll (zH h H) e;refine⟨e',?_⟩;cases q:H b with
 |none=>rfl|some x=>have hm:b∈zH h H:=Yag.mpr ⟨Yah.mpr<|dC e',by simp[q]⟩;have z:(jz h H).get? b=none:=W.hideAll_none (zH h H) hm;rw[z]at e;cases e
def qc(g h:Heap)(L:Addr):K4:=(List.range h.objs.size).filterMap λa=>if a=L\/(g.get? a).isSome=true then none else(h.get? a).map λo=>(a,o)
def rest(g h:Heap)(L d:Addr):K4:=(qc g h L).filter λp=>decide (p.1≠d)
structure Mod(K:QR)(mg:K8)(base:Heap):Prop where
 kin:K.In base
 glob:base.Ns mainGlobals mg
 blt:∃mb,base.Ns builtinsNs mb/\∀x:Str,x≠ "__name__" ->mb x=bootBuiltins x
 nolimit:base.NoLimit
structure Cx where
 prog:Program
 w:World
 K:QR
 mg:Str->Option Value
 base:Heap
 A:Around
 N:Rv
 s₀:Shared
 H₀:Hp
 env:Env
 outer:List Env
 stack:List Env
 ex:List Addr
 fn:Str->Bool
 calm:Bool
 pn:K4
 xe:Value->Shared->Prop
abbrev RB(X:Cx)(x:Str):Prop:=X.fn x=true\/X.env.scope.names.lookup x=some .local
abbrev RC(X:Cx)(e:Expr)(es:List Expr):Prop:=starEach (e::es) X.env=(false,eval e X.env)::starEach es X.env
abbrev RD(X:Cx)(pos:Pos)(es:List Expr):Prop:=(backTo pos<|starEach es X.env).any (·.1)=false
variable{X:Cx}
def eD(l:List Env):List Addr:=l.filterMap (·.frame)
abbrev Cx.fs(X:Cx):List Addr:=eD X.outer
def qd(sc:Scope)(x:Str):Prop:=sc.names.lookup x=some .local\/sc.names.lookup x=some .cell\/sc.names.lookup x=some .free
def mQ(sc:Scope)(x:Str):Prop:=sc.names.lookup x=some .local\/sc.names.lookup x=some .cell
def B9(env:Env)(h:Heap)(m:K8)(x:Str)(u:Value):Prop:=
 (env.kindOf x=some .local/\m x=some u)\/((env.kindOf x=some .cell\/env.kindOf x=some .free)/\∃c,env.cells.lookup x=some c/\h.IsCell c (some u))
structure Cx.Ok(X:Cx):Prop where
 mod:Mod X.K X.mg X.base
 kind:X.env.scope.kind=.function
 glob:X.env.globals=mainGlobals
 blt:X.env.builtins=builtinsNs
 above:X.s₀.heap.objs.size<=X.env.locals
 inj:∀x y c,X.env.cells.lookup x=some c->X.env.cells.lookup y=some c->x=y
 has:∀x,(X.env.kindOf x=some .cell\/X.env.kindOf x=some .free)->∃c,X.env.cells.lookup x=some c
 cab:∀x c,X.fn x=true->X.env.cells.lookup x=some c->X.s₀.heap.objs.size<=c
 hd:X.calm=true->X.A.handled=none
 frames:X.A.frames=some X.stack
 stk:X.stack=X.outer\/(X.stack=X.env::X.outer/\X.env.frame=some X.env.locals)
 exf:∀b∈X.ex,b≠X.env.locals/\∀x c,X.env.cells.lookup x=some c->c≠b
 bs:∀b o,X.base.get? b=some o->X.s₀.heap.get? b=some o/\X.H₀ b=none
 bsz:X.base.objs.size<=X.s₀.heap.objs.size
 noex:∀b o,X.base.get? b=some o->b∉X.ex
 exfs:∀b∈X.ex,b∉X.fs
 funs:X.s₀.heap.FunFrames X.base X.outer
 frf:∀b∈X.fs,X.H₀ b=none
 sys0:∀xs,X.H₀ sysModules≠some (.lst xs)
structure Inv(X:Cx)(oI:K4)(σ:List (Option V))(H:Hp)(s:Shared):Prop where
 ok:X.Ok
 os:s.os=X.s₀.os
 bare:AllBare s.gens
 base:Un X.fs X.ex X.H₀ H X.s₀.heap s.heap
 loc:∃m,s.heap.Ns X.env.locals m/\∀(i:Nat) (x:Str) (v:V),X.N[i]? = some x->σ[i]? = some (some v)->qd X.env.scope x->∃u,RelV v u/\B9 X.env s.heap m x u
 cell:∀x c,X.env.cells.lookup x=some c->∃v,s.heap.IsCell c v
 free:H X.env.locals=none
 freeC:∀x c,X.env.cells.lookup x=some c->H c=none
 pin:∀p∈X.pn++oI,s.heap.get? p.1=some p.2/\H p.1=none/\p.1≠X.env.locals/\p.1∉X.fs/\∀v,p.2.data≠.cell v
 hok:HOk X.prog X.w H s.heap
 len:σ.length=X.N.length
section
variable{σ:List (Option V)}
theorem Cx.Ok.nofr(ok:X.Ok)(e:X.base.get? b=some o):b∉X.fs:=λhb=>by have:=(ok.funs.mem hb).1;rw[e]at this;cases this
theorem Inv.bs(I:Inv X oI σ H s):∀b o,X.base.get? b=some o->s.heap.get? b=some o/\H b=none:=λb o e=>
 ⟨I.base.keep b o (I.ok.bs b o e).1 (I.ok.bs b o e).2 (I.ok.nofr e)<|I.ok.noex b o e,I.base.free b o (I.ok.bs b o e).1 (I.ok.bs b o e).2<|I.ok.noex b o e⟩
theorem Inv.bk(I:Inv X oI σ H s):∀b o,X.base.get? b=some o->s.heap.get? b=some o:=λb o e=>(I.bs b o e).1
theorem Inv.mod(I:Inv X oI σ H s):Mod X.K X.mg X.base:=I.ok.mod
theorem Inv.hasG(I:Inv X oI σ H s):∃o,s.heap.get? mainGlobals=some o:=by obtain⟨o,_,_,e,_⟩:=I.ok.mod.glob;exact⟨o,I.bk _ _ e⟩
theorem Inv.sysn(I:Inv X oI σ H s):∀xs,H sysModules≠some (.lst xs):=by obtain⟨o,_,_,e,_⟩:=I.ok.mod.glob;exact I.base.sys (I.ok.noex _ _ e) ⟨o,(I.ok.bs _ _ e).1⟩ I.ok.sys0
theorem Inv.kIn(I:Inv X oI σ H s):X.K.In s.heap:=I.ok.mod.kin.keeps I.bk
theorem Inv.lt(I:Inv X oI σ H s):X.env.locals<s.heap.objs.size:=let⟨_,hn,_⟩:=I.loc;hn.lt
theorem Inv.sz(I:Inv X oI σ H s):X.s₀.heap.objs.size<=s.heap.objs.size:=gP I.ok.above<|gY I.lt
theorem Inv.nofs(I:Inv X oI σ H s)(h:s.heap.objs.size<=a):a∉X.fs:=λhb=>by obtain⟨_,o,ho,_⟩:=I.ok.funs.mem hb;exact QS (dP (dC ho)<|gP I.sz h)<|iJ _
theorem Inv.cne(I:Inv X oI σ H s):∀x c,X.env.cells.lookup x=some c->c≠X.env.locals:=λx c e z=>by obtain⟨v,o,ho,hd⟩:=I.cell x c e;obtain⟨m,⟨o',es,ep,ho',hd',_⟩,_⟩:=I.loc;rw[z,ho']at ho;cases ho;rw[hd']at hd;cases hd
theorem Inv.funs(I:Inv X oI σ H s):s.heap.FunFrames X.base X.outer:=by
 have all:∀(l:List Env),(∀b∈eD l,b∈X.fs)->X.s₀.heap.FunFrames X.base l->s.heap.FunFrames X.base l:=by
  intro l;induction l with
  |nil=>intro _ _;trivial|cons env r ih=>intro hs hl;obtain⟨hk,⟨L,o,hf,hn,ho,hd⟩,hr⟩:=hl;have hL:L∈X.fs:=hs L (by unfold eD;rw[y8,hf];exact lv);obtain⟨sl,e⟩:=I.base.slot L o ho (I.ok.frf L hL) hL λz=>I.ok.exfs L z hL;exact⟨hk,⟨L,_,hf,hn,e,hd⟩,ih (λb hb=>hs b (by unfold eD;rw[y8,hf];exact jv _ hb)) hr⟩
 exact all X.outer (λ_ hb=>hb) I.ok.funs
theorem Inv.stack(I:Inv X oI σ H s):s.heap.FunFrames X.base X.stack:=by
 rcases I.ok.stk with e|⟨e,hf⟩
 rw[e];exact I.funs;rw[e];obtain⟨m,hn,_⟩:=I.loc;refine .cons (by rw[I.ok.kind];decide) hf hn ?_ I.funs;exact Heap.get?_none_of_le<|gP I.ok.bsz I.ok.above
theorem Inv.stkSub(I:Inv X oI σ H s):∀b∈eD X.stack,b∈X.env.locals::X.fs:=λb hb=>by
 rcases I.ok.stk with e|⟨e,hf⟩
 rw[e]at hb;exact jv _ hb;rw[e]at hb;unfold eD at hb;rw[y8,hf]at hb;exact hb
theorem Inv.stkFree(I:Inv X oI σ H s):∀b∈eD X.stack,H b=none:=λb hb=>by
 rcases Yan.mp (I.stkSub b hb) with e|hb
 rw[e];exact I.free;obtain⟨_,o,ho,_⟩:=I.ok.funs.mem hb;exact I.base.free b o ho (I.ok.frf b hb) λz=>I.ok.exfs b z hb
theorem Inv.step(I:Inv X oI σ H s)
  (hch:∀b∈ch,(b∈X.ex\/X.s₀.heap.objs.size<=b)/\b≠X.env.locals/\(∀x c,X.env.cells.lookup x=some c->c≠b)/\∀p∈X.pn++oI,p.1≠b)
  (keep:∀b o,b≠X.env.locals->b∉X.fs->b∉ch->s.heap.get? b=some o->H b=none->h'.get? b=some o)
  (slot:∀b o,b≠X.env.locals->b∈X.fs->b∉ch->s.heap.get? b=some o->H b=none->∃sl,h'.get? b=some { o with slots:=sl }) (free:∀b o,b∉ch->s.heap.get? b=some o->H b=none->H' b=none)
  (there:∀b o,b∉ch->s.heap.get? b=some o->∃o',h'.get? b=some o')
  (tups:∀b xs,H b=some (.tup xs)->H' b=some (.tup xs)) (frzs:∀b o u,H b=some (.frz o u)->H' b=some (.frz o u)) (tbls:∀b ps,H b=some (.tbl ps)->∃more,H' b=some (.tbl<|ps++more))
  (ns:∀m,s.heap.Ns X.env.locals m->h'.Ns X.env.locals m) (hok:HOk X.prog X.w H' h') (hg:AllBare g') (sy:(∀xs,H sysModules≠some (.lst xs))->∀xs,H' sysModules≠some (.lst xs)) :
  Inv X oI σ H' { s with heap:=h',gens:=g',drawn:=d',toks:=t' }:=by
 have neL:∀b o,X.s₀.heap.get? b=some o->b≠X.env.locals:=λb o e=>ip<|dP (dC e) I.ok.above;have neC:∀b o,X.s₀.heap.get? b=some o->b∉X.ex->b∉ch:=λb o e hx hb=>by
  rcases(hch b hb).1 with z|z
  .exact hx z
  .exact QS (dP (dC e) z)<|iJ _
 have cellK:∀x c,X.env.cells.lookup x=some c->∀v,s.heap.IsCell c v->h'.IsCell c v:=λx c e v ⟨o,ho,hd⟩=>by
  have nch:c∉ch:=λz=>(hch c z).2.2.1 x c e rfl
  by_cases hc:c∈X.fs
  .obtain⟨sl,q⟩:=slot c o (I.cne x c e) hc nch ho (I.freeC x c e)
   exact⟨_,q,hd⟩
  .exact⟨o,keep c o (I.cne x c e) hc nch ho<|I.freeC x c e,hd⟩
 refine⟨I.ok,I.os,hg,⟨λb o e n hb hx=>?_,λb o e n hb hx=>?_,λb o e n hx=>?_,λb o e hx=>?_,λb xs e=>tups b xs<|I.base.tups b xs e,λb o xs e=>frzs b o xs<|I.base.frzs b o xs e,λb ps e=>?_,λx0 e0 n=>sy<|I.base.sys x0 e0 n⟩,?_,λx c e=>?_,?_,λx c e=>?_,λp hp=>?_,hok,I.len⟩
 .exact keep b o (neL b o e) hb (neC b o e hx) (I.base.keep b o e n hb hx)<|I.base.free b o e n hx
 .obtain⟨sl,e1⟩:=I.base.slot b o e n hb hx
  obtain⟨sl',e2⟩:=slot b _ (neL b o e) hb (neC b o e hx) e1<|I.base.free b o e n hx;exact⟨sl',e2⟩
 .obtain⟨o',e1⟩:=I.base.there b o e hx
  exact free b o' (neC b o e hx) e1<|I.base.free b o e n hx
 .obtain⟨o',e1⟩:=I.base.there b o e hx
  exact there b o' (neC b o e hx) e1
 .obtain⟨m1,e1⟩:=I.base.tbls b ps e
  obtain⟨m2,e2⟩:=tbls b _ e1;exact⟨m1++m2,by rw[e2,BB]⟩
 .obtain⟨m,hn,hl⟩:=I.loc
  refine⟨m,ns m hn,λi x v e1 e2 e3=>?_⟩;obtain⟨u,r,l⟩:=hl i x v e1 e2 e3;refine⟨u,r,?_⟩;rcases l with l|⟨k,c,e,z⟩
  .exact .inl l
  .exact .inr ⟨k,c,e,cellK x c e _ z⟩
 .obtain⟨v,z⟩:=I.cell x c e
  exact⟨v,cellK x c e v z⟩
 .obtain⟨m,⟨o,_,_,ho,_⟩,_⟩:=I.loc
  exact free _ o (λz=>(hch _ z).2.1 rfl) ho I.free
 .obtain⟨v,o,ho,hd⟩:=I.cell x c e
  exact free c o (λz=>(hch c z).2.2.1 x c e rfl) ho<|I.freeC x c e
 .obtain⟨e,n,ne,nf,d⟩:=I.pin p hp
  have nch:p.1∉ch:=λz=>(hch p.1 z).2.2.2 p hp rfl;exact⟨keep p.1 p.2 ne nf nch e n,free p.1 p.2 nch e n,ne,nf,d⟩
theorem Inv.un(I:Inv X oI σ H s)(u:Un X.fs [] H H' s.heap h')(hok:HOk X.prog X.w H' h'):Inv X oI σ H' { s with heap:=h',toks:=t' }:=by
 obtain⟨m,⟨o,es,ep,ho,r⟩,_⟩:=id I.loc;obtain⟨sl,hL⟩:=u.any ho I.free E1;exact I.step (g':=s.gens) (d':=s.drawn) (ch:=[]) (λ_ z=>nomatch z) (λb o _ hb _ e n=>u.keep b o e n hb<|E1) (λb o _ hb _ e n=>u.slot b o e n hb<|E1) (λb o _ e n=>u.free b o e n<|E1) (λb o _ e=>u.there b o e<|E1) u.tups u.frzs u.tbls (λm' hm=>by
  obtain⟨o',es',ep',ho',r'⟩:=hm;rw[ho]at ho';cases ho';exact⟨_,es',ep',hL,r'⟩) hok I.bare<|u.sys E1 I.hasG
theorem Inv.call(I:Inv X oI σ H s)(u:Un (eD X.stack) ch H H' s.heap h')(hok:HOk X.prog X.w H' h')(hg:AllBare g')
  (hch:∀b∈ch,(b∈X.ex\/X.s₀.heap.objs.size<=b)/\b≠X.env.locals/\(∀x c,X.env.cells.lookup x=some c->c≠b)/\∀p∈X.pn++oI,p.1≠b) :
  Inv X oI σ H' { s with heap:=h',gens:=g',drawn:=d',toks:=t' }:=by
 obtain⟨m,⟨o,es,ep,ho,r⟩,_⟩:=id I.loc;obtain⟨sl,hL⟩:=u.any ho I.free λz=>(hch _ z).2.1 rfl;exact I.step (ch:=ch) hch (λb o hL hb hc e n=>u.keep b o e n (λz=>(Yan.mp<|I.stkSub b z).elim hL hb) hc) (λb o _ _ hc e n=>u.any e n hc) (λb o hc e n=>u.free b o e n hc) (λb o hc e=>u.there b o e hc) u.tups u.frzs u.tbls (λm' hm=>by
  obtain⟨o',es',ep',ho',r'⟩:=hm;rw[ho]at ho';cases ho';exact ⟨_,es',ep',hL,r'⟩) hok hg<|u.sys (λz=>by
   obtain⟨o0,_,_,e0,_⟩:=I.ok.mod.glob;rcases(hch _ z).1 with y|y
   .exact I.ok.noex _ _ e0 y
   .exact QS (dP (dC (I.ok.bs _ _ e0).1) y)<|iJ _) I.hasG
theorem Inv.turned(I:Inv X oI σ H s)(k:∀b o,b≠it->s.heap.get? b=some o->h'.get? b=some o)(hn:H it=none)(hL:it≠X.env.locals)
  (h1:it∈X.ex\/X.s₀.heap.objs.size<=it) (h2:∀x c,X.env.cells.lookup x=some c->c≠it) (h3:∀p∈X.pn++oI,p.1≠it):Inv X oI σ H { s with heap:=h',toks:=t' }:=by
 have nit:∀b u,H b=some u->b≠it:=λb u e z=>by rw[z,hn]at e;cases e
 refine I.step (g':=s.gens) (d':=s.drawn) (ch:=[it]) (λb hb=>?_) (λb o _ _ hc e _=>k b o (λz=>hc<|by simp[z]) e) (λb o _ _ hc e _=>⟨o.slots,k b o (λz=>hc<|by simp[z]) e⟩) (λ_ _ _ _ n=>n)
  (λb o hc e=>⟨o,k b o (λz=>hc<|by simp[z]) e⟩) (λ_ _ e=>e) (λ_ _ _ e=>e) (λb ps e=>⟨#[],by rw[e];simp⟩) (λm hm=>?_) (λb u e=>?_) I.bare (λn=>n)
 .have e:b=it:=by simpa using hb
  subst e;exact⟨h1,hL,h2,h3⟩
 .obtain⟨o,es,ep,ho,r⟩:=hm
  exact⟨o,es,ep,k _ o (QX hL) ho,r⟩
 .refine(I.hok b u e).stay (λc v hc q=>k c v ?_ q) (λ_ q=>q) λ_ _ q=>q
  rcases hc with z|z
  .rw[z];exact nit b u e
  .exact nit c _ z
theorem Inv.tok(I:Inv X oI σ H s)(t:Nat):Inv X oI σ H { s with toks:=t }:=I.un (h':=s.heap) (t':=t) Un.refl I.hok
theorem Inv.kept{t':Nat}(I:Inv X oI σ H s)(k:∀b u,s.heap.get? b=some u->h'.get? b=some u):Inv X oI σ H { s with heap:=h',toks:=t' }:=I.un (Un.kept k)<|I.hok.kept k
theorem Inv.laid{a:Addr}{o:HO}{t':Nat}(I:Inv X oI σ H s)(k:∀b u,s.heap.get? b=some u->h'.get? b=some u)(hp:s.heap.objs.size<=a)(new:ObjOk X.prog X.w (upd H a o) h' a o) :
  Inv X oI σ (upd H a o) { s with heap:=h',toks:=t' }:=I.un (Un.laid k hp<|I.hok.fresh hp)<|I.hok.laid k hp new
theorem Inv.write{x e:Addr}{o:HO}{t':Nat}(I:Inv X oI σ H s)(mu:zG (H x))(he:e=x\/H e=some (.own x))(k:∀b u,b≠e->s.heap.get? b=some u->h'.get? b=some u)(heo:∃u,h'.get? e=some u)
  (new:ObjOk X.prog X.w (upd H x o) h' x o) (hk:(∃us,H x=some (.lst us))\/∀us,o≠.lst us):Inv X oI σ (upd H x o) { s with heap:=h',toks:=t' }:=I.un (Un.write mu he k heo hk)<|I.hok.write mu he k heo new
theorem Inv.pins_of{pins':K4}(I:Inv X oI σ H s)(h:∀p∈pins',s.heap.get? p.1=some p.2/\H p.1=none/\p.1≠X.env.locals/\p.1∉X.fs/\∀v,p.2.data≠.cell v):Inv X pins' σ H s:=
 ⟨I.ok,I.os,I.bare,I.base,I.loc,I.cell,I.free,I.freeC,λp hp=>(Yao.mp hp).elim (λz=>I.pin p<|List.mem_append_left _ z)<|h p,I.hok,I.len⟩
theorem jV(hN:N.Nodup)(a:N[i]? = some x)(b:N[j]? = some x):i=j:=by obtain⟨h1,e1⟩:=Yap.mp a;obtain⟨h2,e2⟩:=Yap.mp b;exact(List.getElem_inj hN).mp<|e1.trans e2.symm
theorem ji{M:Model}{E:K5}{v:V}{Q:Unit->Shared->Prop}(I:Inv X oI σ H s)(hN:X.N.Nodup)(hi:X.N[i]? = some x)(hx:mQ X.env.scope x)(r:RelV v u)
  (h:∀s',Inv X oI (σ.set i<|some v) H s'->(∃a,Heap.SameBut a s.heap s'.heap/\(a=X.env.locals\/X.env.cells.lookup x=some a))->Q () s') (hf:autoParam (RB X x) RK._auto_1):wpAny M A (storeName X.env x u) Q E s:=by
 obtain⟨m,hn,hl⟩:=id I.loc;have hcls:(X.env.scope.kind==.class||(X.env.scope.kind==.module&&X.env.locals != X.env.globals))=false:=by rw[I.ok.kind];rfl
 have hiσ:i<σ.length:=by rw[I.len];exact(Yap.mp hi).1
 have cne:=I.cne;have tracked:∀{a:Addr} {h':Heap},(∃o,s.heap.get? a=some o/\H a=none)->Heap.SameBut a s.heap h'->HOk X.prog X.w H h':=λ{a h'} ha hs b ob e=>by
  obtain⟨_,_,hfree⟩:=ha;refine(I.hok b ob e).stay (λc w' hc q=>(hs.2 c ?_).trans q) (λ_ q=>q) λ_ _ q=>q;rintro rfl;rcases hc with rfl|hc
  .rw[hfree]at e;cases e
  .rw[hfree]at hc;cases hc
 rcases hx with hk|hk
 .refine wpAny_storeName_local hk hn (λh' hn' hs=>?_) hcls
  obtain⟨oL,_,_,hoL,_⟩:=id hn;refine h _ ⟨I.ok,I.os,I.bare,⟨λb o e n hb hx=>?_,λb o e n hb hx=>?_,I.base.free,λb o e hx=>?_,I.base.tups,I.base.frzs,I.base.tbls,I.base.sys⟩,⟨_,hn',λj y v' e1 e2 e3=>?_⟩,λy c e=>?_,I.free,I.freeC,λp hp=>?_,tracked ⟨oL,hoL,I.free⟩ hs,by simpa using I.len⟩ ⟨_,hs,.inl rfl⟩
  .exact(hs.2 b<|ip<|dP (dC e) I.ok.above).trans (I.base.keep b o e n hb hx)
  .obtain⟨sl,e1⟩:=I.base.slot b o e n hb hx
   exact⟨sl,(hs.2 b<|ip<|dP (dC e) I.ok.above).trans e1⟩
  .obtain⟨o',e1⟩:=I.base.there b o e hx
   exact⟨o',(hs.2 b<|ip<|dP (dC e) I.ok.above).trans e1⟩
  .by_cases hj:j=i
   .subst hj
    rw[hi]at e1;cases e1;rw[fY hiσ]at e2;cases e2;exact⟨u,r,.inl ⟨hk,E1⟩⟩
   .rw[fc<|QX hj]at e2
    obtain⟨u',r',q⟩:=hl j y v' e1 e2 e3;refine⟨u',r',?_⟩;rcases q with⟨k,e⟩|⟨k,c,e,z⟩
    .refine .inl ⟨k,?_⟩
     have:y≠x:=λe=>hj<|jV hN e1 (e▸hi);simp[this,e]
    .exact .inr ⟨k,c,e,z.sameBut hs<|cne y c e⟩
  .obtain⟨w',z⟩:=I.cell y c e
   exact⟨w',z.sameBut hs<|cne y c e⟩
  .obtain⟨e,n,ne,nf,d⟩:=I.pin p hp
   exact⟨(hs.2 p.1 ne).trans e,n,ne,nf,d⟩
 .have hfn:X.fn x=true:=by
   rcases hf with z|z
   .exact z
   .rw[z]at hk;cases hk
  obtain⟨c,hc⟩:=I.ok.has x<|.inl hk;obtain⟨w',z⟩:=I.cell x c hc;refine wpAny_storeName_cell I.ok.kind hk hc z<|λh' hc' hs=>?_;obtain⟨oc,hoc,hocd⟩:=id z;refine h { s with heap:=h' } ⟨I.ok,I.os,I.bare,⟨λb o e n hb hx=>?_,λb o e n hb hx=>?_,I.base.free,λb o e hx=>?_,I.base.tups,I.base.frzs,I.base.tbls,I.base.sys⟩,⟨m,hn.sameBut hs<|QX<|cne x c hc,λj y v' e1 e2 e3=>?_⟩,λy c' e=>?_,I.free,I.freeC,λp hp=>?_,tracked ⟨oc,hoc,I.freeC x c hc⟩ hs,by simpa using I.len⟩ ⟨c,hs,.inr hc⟩
  .exact(hs.2 b<|ip<|dP (dC e)<|I.ok.cab x c hfn hc).trans (I.base.keep b o e n hb hx)
  .obtain⟨sl,e1⟩:=I.base.slot b o e n hb hx
   exact⟨sl,(hs.2 b<|ip<|dP (dC e)<|I.ok.cab x c hfn hc).trans e1⟩
  .obtain⟨o',e1⟩:=I.base.there b o e hx
   exact⟨o',(hs.2 b<|ip<|dP (dC e)<|I.ok.cab x c hfn hc).trans e1⟩
  .by_cases hj:j=i
   .subst hj
    rw[hi]at e1;cases e1;rw[fY hiσ]at e2;cases e2;exact⟨u,r,.inr ⟨.inl hk,c,hc,hc'⟩⟩
   .rw[fc<|QX hj]at e2
    obtain⟨u',r',q⟩:=hl j y v' e1 e2 e3;refine⟨u',r',?_⟩;rcases q with q|⟨k,c',e,z'⟩
    .exact .inl q
    .refine .inr ⟨k,c',e,z'.sameBut hs ?_⟩
     rintro rfl;exact hj<|jV hN e1 (I.ok.inj _ _ _ e hc▸hi)
  .by_cases hcc:c'=c
   .subst hcc;exact⟨_,hc'⟩
   .obtain⟨w2,z2⟩:=I.cell y c' e
    exact⟨w2,z2.sameBut hs hcc⟩
  .obtain⟨e,n,ne,nf,d⟩:=I.pin p hp
   refine⟨(hs.2 p.1 ?_).trans e,n,ne,nf,d⟩;intro q;rw[q,hoc]at e;have q':oc=p.2:=QW e;exact d w' (by rw[<-q'];exact hocd)
theorem eP{M:Model}{E:K5}{v:V}{Q:Unit->Shared->Prop}(I:Inv X oI σ H s)(hN:X.N.Nodup)(hi:X.N[i]? = some x)(hx:mQ X.env.scope x)(r:RelV v u)
  (h:∀s',Inv X oI (σ.set i<|some v) H s'->Q () s') (hf:autoParam (RB X x) RK._auto_1):wpAny M A (storeName X.env x u) Q E s:=
 ji I hN hi hx r (λs' I' _=>h s' I') hf
theorem Inv.call'(I:Inv X oI σ H s)(ho:s'.os=s.os)(u:Un (eD X.stack) ch H H' s.heap s'.heap)(hok:HOk X.prog X.w H' s'.heap)(hg:AllBare s'.gens)
  (hch:∀b∈ch,(b∈X.ex\/X.s₀.heap.objs.size<=b)/\b≠X.env.locals/\(∀x c,X.env.cells.lookup x=some c->c≠b)/\∀p∈X.pn++oI,p.1≠b):Inv X oI σ H' s':=by
 obtain⟨h',g',d',t',o'⟩:=s';have e:o'=s.os:=ho;subst e;exact I.call (g':=g') (t':=t') (d':=d') u hok hg hch
end
abbrev XK:=Value->Option Addr->Hp->Prop
abbrev St:=List<|Option V
variable{σ:St}
abbrev VK:=V->Hp->Prop
abbrev TE:=St->Hp->VK->Prop
variable{ta te:TE}
abbrev TT:=St->Hp->(Bool->Hp->Prop)->Prop
variable{tc:TT}
abbrev TA:=St->Hp->(RH->Hp->Prop)->Prop
variable{t:TA}
structure l6 where
 nx:St->Hp->Prop
 rt:VK
 bk:St->Hp->Prop:=λ_ _=>False
 ct:St->Hp->Prop:=λ_ _=>False
abbrev TS:=l6->St->Hp->Prop
def EP(X:Cx)(oI:K4)(σ:St)(Q:VK)(u:Value)(s':Shared):Prop:=∃v H',Inv X oI σ H' s'/\RelV v u/\Q v H'
def TP(X:Cx)(oI:K4)(σ:St)(Q:Bool->Hp->Prop)(b:Bool)(s':Shared):Prop:=∃H',Inv X oI σ H' s'/\Q b H'
def AP(X:Cx)(oI:K4)(σ:St)(Q:RH->Hp->Prop)(us:K9)(s':Shared):Prop:=∃vs H',Inv X oI σ H' s'/\Vals vs us/\Q vs H'
def SP(X:Cx)(oI:K4)(D:l6)(f:Flow)(s':Shared):Prop:=
 match f with
 |.next=>∃σ' H',Inv X oI σ' H' s'/\D.nx σ' H'|.brk=>∃σ' H',Inv X oI σ' H' s'/\D.bk σ' H'|.cont=>∃σ' H',Inv X oI σ' H' s'/\D.ct σ' H'|.ret u=>∃v σ' H',Inv X oI σ' H' s'/\RelV v u/\D.rt v H'
def PE(X:Cx)(e:Expr)(t:TE):Prop:=
 ∀(oI:K4) (s:Shared) (σ:St) (H:Hp) (Q:VK),Inv X oI σ H s->t σ H Q->wpAny (model X.prog X.w) X.A (eval e X.env) (EP X oI σ Q) X.xe s
def PT(X:Cx)(e:Expr)(t:TT):Prop:=
 ∀(oI:K4) (s:Shared) (σ:St) (H:Hp) (Q:Bool->Hp->Prop),Inv X oI σ H s->t σ H Q->wpAny (model X.prog X.w) X.A (isTrue e X.env<|eval e X.env) (TP X oI σ Q) X.xe s
def PW(X:Cx)(e:Expr)(t:TT):Prop:=
 ∀(whole:Sem Value) (oI:K4) (s:Shared) (σ:St) (H:Hp) (Q:Bool->Hp->Prop),Inv X oI σ H s->t σ H Q->wpAny (model X.prog X.w) X.A (isTrue e X.env whole) (TP X oI σ Q) X.xe s
theorem PW.pt{t:TT}(h:PW X e t):PT X e t:=h _
def PA(X:Cx)(es:List Expr)(t:TA):Prop:=
 ∀(pos:Pos) (oI:K4) (s:Shared) (σ:St) (H:Hp) (Q:RH->Hp->Prop),Inv X oI σ H s->t σ H Q->wpAny (model X.prog X.w) X.A (spliced<|backTo pos<|starEach es X.env) (AP X oI σ Q) X.xe s
def PS(X:Cx)(st:Stmt)(t:TS):Prop:=
 ∀(oI:K4) (s:Shared) (σ:St) (H:Hp) (D:l6),Inv X oI σ H s->t D σ H->wpAny (model X.prog X.w) X.A (exec st X.env) (SP X oI D) X.xe s
def pJ(X:Cx)(st:List Stmt)(t:TS):Prop:=
 ∀(oI:K4) (s:Shared) (σ:St) (H:Hp) (D:l6),Inv X oI σ H s->t D σ H->wpAny (model X.prog X.w) X.A (execs st X.env) (SP X oI D) X.xe s
theorem bK{α:Type}{t:Sem α}{Q Q':α->Shared->Prop}{M:Model}{E:K5}(h:wpAny M A t Q E s)(hQ:∀a s,Q a s->Q' a s):wpAny M A t Q' E s:=QY h hQ λ_ _ x=>x
section
theorem QF{a b:Expr}{tb:TE}(ha:PE X a ta)(hb:PE X b tb){R:V->V->Hp->Prop}(I:Inv X oI σ H s)(h:ta σ H λx H1=>tb σ H1 λy H2=>R x y H2)
  {α:Type} {Q:α->Shared->Prop} {f:Value->Value->Sem α}
  (hf:∀v u s2 x y H2,Inv X oI σ H2 s2->RelV x v->RelV y u->R x y H2->wpAny (model X.prog X.w) X.A (f v u) Q X.xe s2) :
  wpAny (model X.prog X.w) X.A (eval a X.env) (λv s₁=>wpAny (model X.prog X.w) X.A (eval b X.env) (λu s₂=>wpAny (model X.prog X.w) X.A (f v u) Q X.xe s₂) X.xe s₁) X.xe s:=by
 refine bK (ha oI s σ H _ I h) λv s1 ⟨x,H1,I1,r1,q1⟩=>?_;refine bK (hb oI s1 σ H1 _ I1 q1) λu s2 ⟨y,H2,I2,r2,q2⟩=>?_;exact hf v u s2 x y H2 I2 r1 r2 q2
def vB(i:Nat):TE:=λσ H Q=>∃v,σ[i]? = some (some v)/\Q v H
def tC(v:V):TE:=λ_ H Q=>Q v H
theorem hU{pos:Pos}(hN:X.N[i]? = some x)(hv:qd X.env.scope x)(hd:(RA x:))(hcd:((x==("__classdict__" : Str))=false:)):PE X (.Name x pos) (vB i):=by
 intro oI s σ H Q I h;obtain⟨v,e,h⟩:=h;obtain⟨m,hn,hl⟩:=I.loc;obtain⟨u,r,l⟩:=hl i x v hN e hv;have fin:EP X oI σ Q u s:=⟨v,H,I,r,h⟩;rcases l with⟨hk,hm⟩|⟨hk,c,hc,hcell⟩
 exact wpAny_Name (wpAny_loadName_local I.ok.kind hk hn hm fin) hd;rcases hk with hk|hk
 exact wpAny_Name (wpAny_loadName_cell I.ok.kind hk hc hcell fin) hd;exact wpAny_Name (wpAny_loadName_free I.ok.kind hk hc hcell fin hcd) hd
theorem kL{i j pos}:PE X (.Constant (.int i) j pos) (tC<|.int i):=λ_ _ _ H _ I h=>wpAny_Constant_int ⟨.int i,H,I.tok _,⟨_,rfl⟩,h⟩
theorem vC{b j pos}:PE X (.Constant (.bool b) j pos) (tC<|.bl b):=λ_ _ _ H _ I h=>Constant_bool ⟨.bl b,H,I,rfl,h⟩
theorem sE{j pos}:PE X (.Constant .none j pos) (tC .non):=λ_ _ _ H _ I h=>Constant_none ⟨.non,H,I,rfl,h⟩
theorem sF{x j pos}:PE X (.Constant (.str x) j pos) (tC<|.str x):=λ_ _ _ H _ I h=>Calls.Constant_str ⟨.str x,H,I.tok _,⟨_,rfl⟩,h⟩
def Gl(X:Cx)(x:Str):Prop:=X.env.kindOf x=some .globalImplicit
theorem jA{E:K5}{pos:Pos}(I:Inv X oI σ H s)(hg:Gl X x)(hm:X.mg x=some u)(h:Q u s)
  (hd:(RA x:)):wpAny (model X.prog X.w) X.A (eval (.Name x pos) X.env) Q E s:=
 Calls.Name_function_global I.ok.kind hg (Calls.loadGlobal_global (by rw[I.ok.glob];exact I.mod.glob.keeps I.bk) hm h) hd
theorem eQ{E:K5}{pos:Pos}(I:Inv X oI σ H s)(hg:Gl X x)(hm:X.mg x=none)(hv:bootBuiltins x=some u)(h:Q u s)
  (hn:(x≠ "__name__":)) (hd:(RA x:)):wpAny (model X.prog X.w) X.A (eval (.Name x pos) X.env) Q E s:=by
 obtain⟨mb,h1,h2⟩:=I.mod.blt;exact Calls.Name_function_global I.ok.kind hg (Calls.loadGlobal_builtin (by rw[I.ok.glob];exact I.mod.glob.keeps I.bk) hm (by rw[I.ok.blt];exact h1.keeps I.bk) ((h2 x hn).trans hv) h) hd
theorem qe{v:V}{pos:Pos}(hg:Gl X x)(hm:X.mg x=some u)(r:RelV v u)(hd:(RA x:)):PE X (.Name x pos) (tC v):=
 λ_ _ _ H _ I h=>jA I hg hm ⟨v,H,I,r,h⟩ hd
theorem qf{v:V}{pos:Pos}(hg:Gl X x)(hm:X.mg x=none)(hv:bootBuiltins x=some u)(r:RelV v u)(hn:(x≠ "__name__":))(hd:(RA x:)):PE X (.Name x pos) (tC v):=
 λ_ _ _ H _ I h=>eQ I hg hm hv ⟨v,H,I,r,h⟩ hn hd
variable{a b:Expr}{tb:TE}{pos:Pos}
variable{tA tB':TT}{rest:List Expr}
def Ca(t u:TT):TT:=λσ H Q=>t σ H λc H1=>if c=true then u σ H1 Q else Q false H1
def JK(t u:TT):TT:=λσ H Q=>t σ H λc H1=>if c=true then Q true H1 else u σ H1 Q
def Cc(t:TT):TT:=λσ H Q=>t σ H λc H1=>Q (!c) H1
theorem qg(ha:PT X a tA):PW X (.BoolOp .And [a] pos) tA:=by
 intro wh oI s σ H Q I h;refine isTrue_and<|bK (ha oI s σ H Q I h) λc s1 e=>?_;cases c with
 |true=>exact isTrue_and_nil e|false=>exact e
theorem sG(ha:PT X a tA):PW X (.BoolOp .Or [a] pos) tA:=by
 intro wh oI s σ H Q I h;refine isTrue_or<|bK (ha oI s σ H Q I h) λc s1 e=>?_;cases c with
 |false=>exact isTrue_or_nil e|true=>exact e
theorem sH(ha:PT X a tA)(hb:PW X (.BoolOp .And (b::rest) pos) tB'):PW X (.BoolOp .And (a::b::rest) pos) (Ca tA tB'):=by
 intro wh oI s σ H Q I h;refine isTrue_and<|bK (ha oI s σ H _ I h) λc s1 ⟨H1,I1,q1⟩=>?_;cases c with
 |true=>exact hb wh oI s1 σ H1 Q I1 q1|false=>exact⟨H1,I1,q1⟩
theorem vD(ha:PT X a tA)(hb:PW X (.BoolOp .Or (b::rest) pos) tB'):PW X (.BoolOp .Or (a::b::rest) pos) (JK tA tB'):=by
 intro wh oI s σ H Q I h;refine isTrue_or<|bK (ha oI s σ H _ I h) λc s1 ⟨H1,I1,q1⟩=>?_;cases c with
 |true=>exact⟨H1,I1,q1⟩|false=>exact hb wh oI s1 σ H1 Q I1 q1
theorem sJ(ha:PT X a tA):PT X (.UnaryOp .Not a pos) (Cc tA):=by intro oI s σ H Q I h;exact isTrue_not<|ha oI s σ H (λc H1=>Q (!c) H1) I h
def vE(ta tb:TE):TE:=λσ H Q=>ta σ H λx H1=>∃c,x=.bl c/\if c=true then tb σ H1 Q else Q (.bl false) H1
def Cd(ta tb:TE):TE:=λσ H Q=>ta σ H λx H1=>∃c,x=.bl c/\if c=true then Q (.bl true) H1 else tb σ H1 Q
def vF(ta:TE):TE:=λσ H Q=>ta σ H λx H1=>∃c,x=.bl c/\Q (.bl (!c)) H1
theorem sK{op}{t:TE}(h:PE X a t):PE X (.BoolOp op [a] pos) t:=λoI s σ H Q I hw=>BoolOp_one<|h oI s σ H Q I hw
theorem sL(ha:PE X a ta)(hb:PE X (.BoolOp .And (b::rest) pos) tb):PE X (.BoolOp .And (a::b::rest) pos) (vE ta tb):=by
 intro oI s σ H Q I h;refine BoolOp_and<|bK (ha oI s σ H _ I h) λv s1 ⟨x,H1,I1,r1,q1⟩=>?_;obtain⟨c,rfl,q1⟩:=q1;cases r1;refine Q7 ?_;cases c with
 |true=>exact hb oI s1 σ H1 Q I1 q1|false=>exact⟨.bl false,H1,I1,rfl,q1⟩
theorem vG(ha:PE X a ta)(hb:PE X (.BoolOp .Or (b::rest) pos) tb):PE X (.BoolOp .Or (a::b::rest) pos) (Cd ta tb):=by
 intro oI s σ H Q I h;refine BoolOp_or<|bK (ha oI s σ H _ I h) λv s1 ⟨x,H1,I1,r1,q1⟩=>?_;obtain⟨c,rfl,q1⟩:=q1;cases r1;refine Q7 ?_;cases c with
 |false=>exact hb oI s1 σ H1 Q I1 q1|true=>exact⟨.bl true,H1,I1,rfl,q1⟩
theorem sM(ha:PE X a ta):PE X (.UnaryOp .Not a pos) (vF ta):=by intro oI s σ H Q I h;refine UnaryOp_<|bK (ha oI s σ H _ I h) λv s1 ⟨x,H1,I1,r1,q1⟩=>?_;obtain⟨c,rfl,q1⟩:=q1;cases r1;exact not_of<|Q7 ⟨.bl (!c),H1,I1,rfl,q1⟩
def JL(t:TT)(ta tb:TE):TE:=λσ H Q=>t σ H λc H1=>if c=true then ta σ H1 Q else tb σ H1 Q
theorem oG(hc:PT X c tA)(ha:PE X a ta)(hb:PE X b tb):PE X (.IfExp c a b pos) (JL tA ta tb):=by
 intro oI s σ H Q I h;refine wpAny_IfExp<|bK (hc oI s σ H _ I h) λd s1 ⟨H1,I1,q1⟩=>?_;cases d with
 |true=>exact ha oI s1 σ H1 Q I1 q1|false=>exact hb oI s1 σ H1 Q I1 q1
end
def SqL(K:QR)(H:Hp)(a:Addr)(xs:RH):Prop:=
 Rd H a (.lst xs)\/
  ∃(o:Obj) (its:Array Value) (n:Nat),K.lookup a=some o/\o.cls=.type "list" /\o.dict=none/\o.data=.seq its n/\its.size<=sizeLine/\Vals xs its.toList
def SqT(K:QR)(H:Hp)(a:Addr)(xs:RH):Prop:=
 Rd H a (.tup xs)\/
  ∃(o:Obj) (its:Array Value) (n:Nat),K.lookup a=some o/\o.cls=.type "tuple" /\o.data=.seq its n/\its.size<=sizeLine/\Vals xs its.toList
def Ce:Value->Option V
 |.none=>some .non|.bool b=>some<|.bl b
 |.int i _=>some<|.int i
 |.str x _=>some<|.str x
 |.bytes b _=>some<|.byt b
 |.float b _=>some<|.flt b
 |.ref a=>some<|.ref a
 |.type n=>some<|.ty n
 |_=>none
theorem RelV.abs{x:V}(r:RelV x u):Ce u=some x:=by
 cases x with
 |non=>cases r;rfl
 |bl _=>cases r;rfl
 |int _=>obtain⟨t,rfl⟩:=r;rfl
 |str _=>obtain⟨t,rfl⟩:=r;rfl
 |byt _=>obtain⟨t,rfl⟩:=r;rfl
 |flt _=>obtain⟨t,rfl⟩:=r;rfl
 |ref _=>cases r;rfl
 |ty _=>cases r;rfl
theorem RelV.inj{x y:V}{u:Value}(r:RelV x u)(q:RelV y u):x=y:=QW<|r.abs.symm.trans q.abs
theorem Vals.inj:∀{xs ys:RH} {us:K9},Vals xs us->Vals ys us->xs=ys
 |_,_,_,.nil,.nil=>rfl|_,_,_,.cons r t,.cons r' t'=>by rw[r.inj r',Vals.inj t t']
section
variable{ys:RH}
theorem SqL.of(h:H a=some (.lst xs)):SqL K H a xs:=.inl<|.inl h
theorem SqT.of(h:H a=some (.tup xs)):SqT K H a xs:=.inl<|.inl h
theorem Inv.list(I:Inv X oI σ H s)(h:SqL X.K H a xs):∃its:K9,Vals xs its/\PlainL s.heap a its.toArray/\xs.length<=sizeLine:=by
 rcases h with h|⟨o,its,n,hk,hc,hd,hs,hz,r⟩
 obtain⟨z,its,n,r,e⟩:=h.ok I.hok;exact⟨its,r,⟨_,n,e,rfl,rfl,rfl⟩,z⟩;refine⟨its.toList,r,⟨o,n,I.kIn a o hk,hc,hd,by simpa using hs⟩,?_⟩;have e:=r.length;simp only[y9]at e;omega
theorem Inv.tuple(I:Inv X oI σ H s)(h:SqT X.K H a xs):∃its:K9,Vals xs its/\IsTup s.heap a its.toArray/\xs.length<=sizeLine:=by
 rcases h with h|⟨o,its,n,hk,hc,hs,hz,r⟩
 obtain⟨z,its,r,p⟩:=h.ok I.hok;exact⟨its,r,p,z⟩;refine⟨its.toList,r,⟨o,I.kIn a o hk,hc,n,by simpa using hs⟩,?_⟩;have e:=r.length;simp only[y9]at e;omega
theorem Inv.list_inj(I:Inv X oI σ H s)(h:SqL X.K H a xs)(h':SqL X.K H a ys):xs=ys:=by
 obtain⟨its,r,⟨o,n,e,_,_,d⟩,_⟩:=I.list h;obtain⟨its',r',⟨o',n',e',_,_,d'⟩,_⟩:=I.list h';rw[e]at e';cases e';rw[d]at d';injection d' with d1 _
 have:its=its':=by simpa using congrArg Array.toList d1
 subst this;exact r.inj r'
theorem Inv.tuple_inj(I:Inv X oI σ H s)(h:SqT X.K H a xs)(h':SqT X.K H a ys):xs=ys:=by
 obtain⟨its,r,⟨o,e,_,n,d⟩,_⟩:=I.tuple h;obtain⟨its',r',⟨o',e',_,n',d'⟩,_⟩:=I.tuple h';rw[e]at e';cases e';rw[d]at d';injection d' with d1 _
 have:its=its':=by simpa using congrArg Array.toList d1
 subst this;exact r.inj r'
end
abbrev Cx.wish(X:Cx)(E:K5):Cx:={ X with xe:=E }
abbrev Cx.nox(X:Cx):Cx:=X.wish λ_ _=>False
theorem Cx.Ok.wish{X:Cx}(ok:X.Ok)(E:K5):(X.wish E).Ok:=
 ⟨ok.mod,ok.kind,ok.glob,ok.blt,ok.above,ok.inj,ok.has,ok.cab,ok.hd,ok.frames,ok.stk,ok.exf,ok.bs,ok.bsz,ok.noex,ok.exfs,ok.funs,ok.frf,ok.sys0⟩
theorem Cx.Ok.unwish{E:K5}(ok:(X.wish E).Ok):X.Ok:=
 ⟨ok.mod,ok.kind,ok.glob,ok.blt,ok.above,ok.inj,ok.has,ok.cab,ok.hd,ok.frames,ok.stk,ok.exf,ok.bs,ok.bsz,ok.noex,ok.exfs,ok.funs,ok.frf,ok.sys0⟩
section
variable{E:K5}
theorem Inv.wish(I:Inv X oI σ H s)(E:K5):Inv (X.wish E) oI σ H s:=⟨I.ok.wish E,I.os,I.bare,I.base,I.loc,I.cell,I.free,I.freeC,I.pin,I.hok,I.len⟩
theorem Inv.unwish(I:Inv (X.wish E) oI σ H s):Inv X oI σ H s:=⟨I.ok.unwish,I.os,I.bare,I.base,I.loc,I.cell,I.free,I.freeC,I.pin,I.hok,I.len⟩
theorem SP.unwish{D:l6}{f:Flow}{s':Shared}(h:SP (X.wish E) oI D f s'):SP X oI D f s':=by
 cases f with
 |next=>obtain⟨σ',H',I,q⟩:=h;exact⟨σ',H',I.unwish,q⟩
 |brk=>obtain⟨σ',H',I,q⟩:=h;exact⟨σ',H',I.unwish,q⟩
 |cont=>obtain⟨σ',H',I,q⟩:=h;exact⟨σ',H',I.unwish,q⟩
 |ret u=>obtain⟨v,σ',H',I,r,q⟩:=h;exact⟨v,σ',H',I.unwish,r,q⟩
end
section
variable{st:Stmt}{rest:List Stmt}{t u:TS}{pos:Pos}
def vH:TS:=λD σ H=>D.nx σ H
def Cf(t u:TS):TS:=λD σ H=>t { D with nx:=u D } σ H
theorem qh:pJ X [] vH:=λ_ _ σ H _ I h=>Rq ⟨σ,H,I,h⟩
theorem oH(h1:PS X st t)(h2:pJ X rest u):pJ X (st::rest) (Cf t u):=by
 intro oI s σ H D I h;refine wpAny_execs_cons<|bK (h1 oI s σ H { D with nx:=u D } I h) λf s1 q=>?_;cases f with
 |next=>obtain⟨σ',H',I',q⟩:=q;exact h2 oI s1 σ' H' D I' q
 |ret v=>exact q|brk=>exact q|cont=>exact q
theorem qi(h1:PS X st t):pJ X [st] t:=by
 intro oI s σ H D I h;refine wpAny_execs_cons<|bK (h1 oI s σ H D I h) λf s1 q=>?_;cases f with
 |next=>exact Rq q|ret v=>exact q|brk=>exact q|cont=>exact q
theorem Inv.quiet(I:Inv X oI σ H s):interactive X.env=false:=by simp[interactive,I.ok.kind]
def vI(te:TE):TS:=λD σ H=>te σ H λ_ H1=>D.nx σ H1
theorem lD(he:PE X e te)(hs:{swapsWith e none pos.line X.env=pure false}):PS X (.Expr e pos) (vI te):=by intro oI s σ H D I h;exact wpAny_Expr_any (bK (he oI s σ H _ I h) λv s1 ⟨x,H1,I1,r1,q1⟩=>⟨σ,H1,I1,q1⟩) I.quiet hs
def Cg(te:TE):TS:=λD σ H=>te σ H D.rt
theorem sO(he:PE X e te):PS X (.Return (some e) pos) (Cg te):=by intro oI s σ H D I h;exact wpAny_Return_some<|bK (he oI s σ H _ I h) λv s1 ⟨x,H1,I1,r1,q1⟩=>⟨x,σ,H1,I1,r1,q1⟩
def Ch(c:TT)(t u:TS):TS:=λD σ H=>c σ H λb H1=>if b=true then t D σ H1 else u D σ H1
theorem vJ{a b:List Stmt}(hc:PT X c tc)(ha:pJ X a t)(hb:pJ X b u):PS X (.If c a b pos) (Ch tc t u):=by
 intro oI s σ H D I h;refine wpAny_If<|bK (hc oI s σ H _ I h) λd s1 ⟨H1,I1,q1⟩=>?_;cases d with
 |true=>exact ha oI s1 σ H1 D I1 q1|false=>exact hb oI s1 σ H1 D I1 q1
def sP:TS:=λ_ _ _=>False
theorem oJ:PS X st sP:=λ_ _ _ _ _ _ h=>h.elim
end
abbrev TG:=V->St->Hp->(St->Hp->Prop)->Prop
abbrev sQ:=RH->St->Hp->(St->Hp->Prop)->Prop
def PG(X:Cx)(target:Expr)(t:TG):Prop:=
 ∀(oI:K4) (s:Shared) (σ:St) (H:Hp) (v:V) (u:Value) (Q:St->Hp->Prop),Inv X oI σ H s->RelV v u->t v σ H Q->
  wpAny (model X.prog X.w) X.A (assign target X.env u) (λ_ s'=>∃σ' H',Inv X oI σ' H' s'/\Q σ' H') X.xe s
def vK(X:Cx)(ts:List Expr)(t:sQ):Prop:=
 ∀(oI:K4) (s:Shared) (σ:St) (H:Hp) (vs:RH) (us:K9) (Q:St->Hp->Prop),Inv X oI σ H s->Vals vs us->t vs σ H Q->
  wpAny (model X.prog X.w) X.A (assignInOrder ((assignEach ts X.env).map (·.2)) us) (λ_ s'=>∃σ' H',Inv X oI σ' H' s'/\Q σ' H') X.xe s
abbrev sR:=V->V->V->Hp->(Hp->Prop)->Prop
def vL(X:Cx)(t:sR):Prop:=
 ∀(oI:K4) (s:Shared) (σ:St) (H:Hp) (o i v:V) (ov iv u:Value) (Q:Hp->Prop),Inv X oI σ H s->RelV o ov->RelV i iv->RelV v u->t o i v H Q->
  wpAny (model X.prog X.w) X.A (setItem ov iv u) (λ_ s'=>∃H',Inv X oI σ H' s'/\Q H') X.xe s
abbrev zI:=V->V->Hp->VK->Prop
def Fi(X:Cx)(op:Operator)(t:zI):Prop:=
 ∀(oI:K4) (s:Shared) (σ:St) (H:Hp) (x y:V) (v u:Value) (Q:VK),Inv X oI σ H s->RelV x v->RelV y u->t x y H Q->
  wpAny (model X.prog X.w) X.A (inplaceOp op v u) (EP X oI σ Q) X.xe s
section
variable{pos:Pos}
def lE(i:Nat):TG:=λv σ H Q=>Q (σ.set i<|some v) H
theorem qj(hN:X.N.Nodup)(hi:X.N[i]? = some x)(hx:mQ X.env.scope x)(hf:autoParam (RB X x) RK._auto_1):PG X (.Name x pos) (lE i):=by intro oI s σ H v u Q I r h;exact wpAny_assign_Name<|eP I hN hi hx r (λs' I'=>⟨_,H,I',h⟩) hf
def Ci:sQ:=λvs σ H Q=>vs=[]/\Q σ H
def vM(t:TG)(u:sQ):sQ:=λvs σ H Q=>∃v r,vs=v::r/\t v σ H λσ' H'=>u r σ' H' Q
theorem qk:vK X [] Ci:=by intro oI s σ H vs us Q I r h;obtain⟨e,h⟩:=h;subst e;cases r;exact assignInOrder_nil ⟨σ,H,I,h⟩
theorem oK{t:TG}{u:sQ}(h1:PG X e t)(h2:vK X es u)
  (hs:{(assignEach (e::es) X.env).map (·.2)=assign e X.env::(assignEach es X.env).map (·.2)}):vK X (e::es) (vM t u):=by
 intro oI s σ H vs us Q I r h;obtain⟨v,vr,e1,h⟩:=h;subst e1;cases r with
 |cons r rr=>
  rw[hs];refine assignInOrder_cons<|bK (h1 oI s σ H _ _ _ I r h) λ_ s1 ⟨σ1,H1,I1,q1⟩=>?_;exact h2 oI s1 σ1 H1 _ _ Q I1 rr q1
def Cj(K:QR)(n:Nat)(t:sQ):TG:=λv σ H Q=>∃a xs,v=.ref a/\SqT K H a xs/\xs.length=n/\t xs σ H Q
theorem sS{t:sQ}(hc:X.calm=true)(h:vK X es t)
  (hn:{(assignEach es X.env).length=n}) (hst:{(assignEach es X.env).findIdx? (·.1)=none}):PG X (.Tuple es k pos) (Cj X.K n t):=by
 intro oI s σ H v u Q I r hw;obtain⟨a,xs,e1,hq,hl,hw⟩:=hw;subst e1;cases r;obtain⟨its,rv,ht,hz⟩:=I.tuple hq;refine assign_Tuple_tuple (I.ok.hd hc) ht (by simp[hn,<-hl,rv.length]) hst λh' hx=>?_;have I1:Inv X oI σ H { s with heap:=h' }:=I.kept (t':=s.toks) λb o e=>hx b o (ip<|dC e) e;exact h oI _ σ H xs _ Q I1 (by simpa using rv) hw
def Ck(to ti:TE)(t:sR):TG:=λv σ H Q=>to σ H λo H1=>ti σ H1 λi H2=>t o i v H2 λH3=>Q σ H3
theorem oM{o i:Expr}{to ti:TE}{t:sR}(ho:PE X o to)(hi:PE X i ti)(hs:vL X t)
  (ha:autoParam (∀ v,assign (.Subscript o i pos) X.env v=(do
   let ov <-holding [v] (eval o X.env)
   let iv <-holding [v,ov] (eval i X.env)
   standAt pos
   holding [v,ov,iv] (setItem ov iv v)
   release [v,ov,iv] [])) RL._auto_1):PG X (.Subscript o i pos) (Ck to ti t):=by
 intro oI s σ H v u Q I r h;rw[ha];refine QP<|Rc (bK (ho oI s σ H _ I h) λov s1 ⟨x,H1,I1,r1,q1⟩=>?_);refine QP<|Rc (bK (hi oI s1 σ H1 _ I1 q1) λiv s2 ⟨y,H2,I2,r2,q2⟩=>?_);refine QP<|Q9 (QP<|Rc<|bK (hs oI s2 σ H2 x y v ov iv u _ I2 r1 r2 r q2) λ_ s3 ⟨H3,I3,q3⟩=>?_);exact wpAny_release ⟨σ,H3,I3,q3⟩
def sT(te:TE)(g:TG):TS:=λD σ H=>te σ H λx H1=>g x σ H1 D.nx
theorem kM{g:TG}(he:PE X e te)(hg:PG X tg g)(hs:{swapsWithSole [tg] e pos.line X.env=pure false})(hw:{swappedStores [tg] e X.env=pure none})
  (h1:{(assignEach [tg] X.env).map (·.2)=[assign tg X.env]}):PS X (.Assign [tg] e pos) (sT te g):=by
 intro oI s σ H D I h;refine wpAny_Assign_stores (bK (he oI s σ H _ I h) λv s1 ⟨x,H1,I1,r1,q1⟩=>?_) hs hw;rw[h1];exact bK (hg oI s1 σ H1 x v _ I1 r1 q1) λ_ s2 q=>q
theorem oN(hN:X.N.Nodup)(hi:X.N[i]? = some x)(hx:mQ X.env.scope x)(he:PE X e te)(hs:{swapsWith e (some<|.Name x pos') pos.line X.env=pure false})(hf:autoParam (RB X x) RK._auto_1) :
  PS X (.Assign [.Name x pos'] e pos) (sT te<|lE i):=by
 intro oI s σ H D I h;refine wpAny_Assign_Name (bK (he oI s σ H _ I h) λv s1 ⟨y,H1,I1,r1,q1⟩=>?_) hs;exact eP I1 hN hi hx r1 (λs2 I2=>⟨_,H1,I2,q1⟩) hf
def Cm(i j:Nat)(ta:TA):TS:=λD σ H=>ta σ H λvs H1=>∃v w,vs=[v,w]/\D.nx ((σ.set i<|some v).set j<|some w) H1
theorem sU{y:Str}{a b:Expr}{ta:TA}{px py pt:Pos}{kt k2 pt2}(hc:X.calm=true)(hN:X.N.Nodup)(hi:X.N[i]? = some x)(hj:X.N[j]? = some y)(hij:i≠j)
  (hx:X.env.scope.names.lookup x=some .local) (hy:X.env.scope.names.lookup y=some .local) (ha:PA X [a,b] ta)
  (hw:swappedStores [.Tuple [.Name x px,.Name y py] kt pt] (.Tuple [a,b] k2 pt2) X.env=pure (some [x,y]))
  (hs:{swapsWithSole [.Tuple [.Name x px,.Name y py] kt pt] (.Tuple [a,b] k2 pt2) pos.line X.env=pure false}) :
  PS X (.Assign [.Tuple [.Name x px,.Name y py] kt pt] (.Tuple [a,b] k2 pt2) pos) (Cm i j ta):=by
 intro oI s σ H D I h;rw[exec_Assign_arm];refine QP<|Q9 ?_;rw[hs];refine QP<|QQ ?_;rw[jx<|wp];refine QP<|Tuple_ (bK (ha _ oI s σ H _ I h) λus s1 ⟨vs,H1,I1,r1,q1⟩=>?_);obtain⟨v,w,e1,q1⟩:=q1;subst e1;obtain⟨u1,u2,rfl,rv,rw'⟩:∃u1 u2,us=[u1,u2]/\RelV v u1/\RelV w u2:=by
  cases r1 with
  |cons p q=>
   cases q with
   |cons p' q'=>
    cases q';exact⟨_,_,rfl,p,p'⟩
 refine Q5 ?_ (by show 2<=sizeLine;decide);have I2:Inv X oI σ H1 { s1 with heap:=s1.heap.push { cls:=.type "tuple",data:=.seq [u1,u2].toArray } }:=I1.kept (t':=s1.toks) λb o e=>dM _ e;rw[hw];refine QP<|QQ ?_;show wpAny (model X.prog X.w) X.A (do rule "assign.swapped-stores";let items <-unpackItems (.ref s1.heap.objs.size) 2 none;assignInOrder [λv=>bindName X.env y v,λv=>bindName X.env x v] items.reverse;pure Flow.next) _ _ _;refine QP<|Rj (QP<|unpackItems_tuple (items:=#[u1,u2]) (I.ok.hd hc) (IsTup.new s1.heap _) λh' hx'=>?_);have I3:=I2.kept (h':=h') (t':=s1.toks) λb o e=>hx' b o (ip<|dC e) e;show wpAny _ _ (assignInOrder [λv=>bindName X.env y v,λv=>bindName X.env x v] [u2,u1] >>= λ_=>pure Flow.next) _ _ _;refine QP<|assignInOrder_cons (wpAny_bindName<|eP I3 hN hj (.inl hy) rw' (λs2 I4=>?_)<|.inr hy);refine assignInOrder_cons<|wpAny_bindName (eP I4 hN hi (.inl hx) rv (λs3 I5=>assignInOrder_nil<|QQ ?_)<|.inr hx);rw[List.set_comm _ _<|QX hij]at I5;exact⟨_,H1,I5,q1⟩
def Cn(i:Nat)(te:TE)(ti:zI):TS:=λD σ H=>∃x,σ[i]? = some (some x)/\te σ H λy H1=>ti x y H1 λz H2=>D.nx (σ.set i<|some z) H2
theorem sV{op:Operator}{ti:zI}(hN:X.N.Nodup)(hi:X.N[i]? = some x)(hx:mQ X.env.scope x)(he:PE X e te)(ho:Fi X op ti)(hf:autoParam (RB X x) RK._auto_1) :
  PS X (.AugAssign (.Name x pos') op e pos) (Cn i te ti):=by
 intro oI s σ H D I h;obtain⟨v,e1,h⟩:=h;obtain⟨m,hn,hl⟩:=I.loc;have vis:qd X.env.scope x:=by rcases hx with k|k;exact .inl k;exact .inr<|.inl k
 obtain⟨u,r,l⟩:=hl i x v hi e1 vis;refine wpAny_AugAssign_Name ?_;have go:wpAny (model X.prog X.w) X.A (eval e X.env) (λw s₂=>wpAny (model X.prog X.w) X.A (inplaceOp op u w) (λr s₃=>wpAny (model X.prog X.w) X.A (storeName X.env x r) (λ_=>SP X oI D .next) X.xe s₃) X.xe s₂) X.xe s:=by
  refine bK (he oI s σ H _ I h) λw s1 ⟨y,H1,I1,r1,q1⟩=>?_;refine bK (ho oI s1 σ H1 v y u w _ I1 r r1 q1) λz s2 ⟨zv,H2,I2,r2,q2⟩=>?_;exact eP I2 hN hi hx r2 (λs3 I3=>⟨_,H2,I3,q2⟩) hf
 rcases l with⟨hk,hm⟩|⟨hk,c,hc,hcell⟩
 .exact wpAny_loadName_local I.ok.kind hk hn hm go
 .rcases hk with hk|hk
  .exact wpAny_loadName_cell I.ok.kind hk hc hcell go
  .rcases hx with k|k
   .have:X.env.scope.names.lookup x=some .free:=hk
    rw[k]at this;cases this
   .have:X.env.scope.names.lookup x=some .free:=hk
    rw[k]at this;cases this
def JM(f:Int->Int->Int):zI:=λx y H Q=>∃i j,x=.int i/\y=.int j/\Q (.int<|f i j) H
theorem sW:Fi X .Add (JM λi j=>i+j):=by intro oI s σ H x y v u Q I r1 r2 h;obtain⟨i,j,e1,e2,q⟩:=h;subst e1;subst e2;obtain⟨t,rfl⟩:=r1;obtain⟨t',rfl⟩:=r2;exact iadd_int ⟨.int _,H,I.tok _,⟨_,rfl⟩,q⟩
end
section
variable{pos:Pos}
def sX(c:TT)(tb:TS):TS:=λD σ H=>∃W:Nat->St->Hp->Prop,(∃m,W m σ H)/\∀m σ H,W m σ H->
 c σ H λb H1=>if b=true then∃N:St->Hp->Prop,(∀σ' H',N σ' H'->∃m',m'<m/\W m' σ' H')/\tb { D with nx:=N,ct:=N,bk:=D.nx } σ H1 else D.nx σ H1
theorem oO{tb:TS}(hp:PassesOwn (model X.prog X.w) X.A X.env X.xe)(hc:PT X c tc)(hb:pJ X body tb):PS X (.While c body [] pos) (sX tc tb):=by
 intro oI s σ H D I h;obtain⟨W,⟨m0,w0⟩,turn⟩:=h;refine wpAny_While<|codeAny_whileLoop (λn s'=>∃σ' H',Inv X oI σ' H' s'/\W n σ' H') ?_ m0 ⟨σ,H,I,w0⟩;rintro n s1 ⟨σ1,H1,I1,w1⟩;refine Rh hp<|bK (hc oI s1 σ1 H1 _ I1<|turn n σ1 H1 w1) λb s2 ⟨H2,I2,q2⟩=>?_;cases b with
 |true=>
  obtain⟨N,hN,q2⟩:=q2;rw[ks rfl];refine Rh hp<|bK (hb oI s2 σ1 H2 _ I2 q2) λf s3 q3=>?_;cases f with
  |next=>
   obtain⟨σ3,H3,I3,n3⟩:=q3;obtain⟨m',hm,w3⟩:=hN σ3 H3 n3;exact⟨m',hm,σ3,H3,I3,w3⟩
  |cont=>
   obtain⟨σ3,H3,I3,n3⟩:=q3;obtain⟨m',hm,w3⟩:=hN σ3 H3 n3;exact⟨m',hm,σ3,H3,I3,w3⟩
  |brk=>exact q3|ret v=>exact q3
 |false=>rw[jx oC];exact Rq ⟨σ1,H2,I2,q2⟩
end
structure It where
 go:Nat->Hp->Prop
 yld:Nat->Hp->V->Hp->Prop
 stop:Nat->Hp->Prop
def dY(X:Cx)(oI:K4)(H:Hp)(b:Addr):Prop:=
 H b=none/\b≠X.env.locals/\b∉X.fs/\(b∈X.ex\/X.s₀.heap.objs.size<=b)/\(∀x c,X.env.cells.lookup x=some c->c≠b)/\∀p∈X.pn++oI,p.1≠b
theorem Inv.fpOk(I:Inv X oI σ H s)(hb:s.heap.objs.size<=b)(hn:H' b=none):dY X oI H' b:=by
 refine⟨hn,zd<|dP I.lt hb,I.nofs hb,.inr<|gP I.sz hb,λx c e z=>?_,λp hp z=>?_⟩;obtain⟨v,q⟩:=I.cell x c e;exact QS (dP q.lt (by rw[z];exact hb))<|iJ _
 exact QS (dP (dC (I.pin p hp).1) (by rw[z];exact hb))<|iJ _
structure iO(P:Program)(w:World)(K:QR)(tg:Expr)(J:It)(fp:List Addr)(it:Addr)(tn:Nat->Heap->Prop):Prop where
 mem:it∈fp
 obj:∀i h,tn i h->∀b∈fp,∃o,h.get? b=some o/\∀v,o.data≠.cell v
 keep:∀i h h',tn i h->(∀b∈fp,∀o,h.get? b=some o->h'.get? b=some o)->tn i h'
 item:∀(X:Cx),X.prog=P->X.w=w->X.K=K->X.calm=true->∀(i:Nat) (oI:K4) (s:Shared) (σ:St) (H:Hp) (E:K5),Inv X oI σ H s->(∀b∈fp,dY X oI H b)->tn i s.heap->J.go i H->
  wpAny (model P w) X.A (pyNext<|.ref it) (λr s1=>∃ u,r=some u/\
   wpAny (model P w) X.A (letOwnedTupleGo tg (.ref it) u) (λ_ s2=>∃x H',Inv X oI σ H' s2/\RelV x u/\J.yld i H x H'/\tn (i+1) s2.heap/\∀b∈fp,H' b=none) E s1) E s
 done:∀(X:Cx),X.prog=P->X.w=w->X.K=K->X.calm=true->∀(i:Nat) (oI:K4) (s:Shared) (σ:St) (H:Hp) (E:K5),Inv X oI σ H s->(∀b∈fp,dY X oI H b)->tn i s.heap->J.stop i H->
  wpAny (model P w) X.A (pyNext<|.ref it) (λr s1=>r=none/\Inv X oI σ H s1) E s
 self:∀(A:Around) (i:Nat) (s:Shared) (Q:K5) (E:K5),tn i s.heap->Q (.ref it) s->wpAny (model P w) A (pyIter<|.ref it) Q E s
abbrev TI:=St->Hp->(It->Hp->Prop)->Prop
def Fj(X:Cx)(oI:K4)(σ:St)(tg:Expr)(R:It->Hp->Prop)(itv:Value)(s2:Shared):Prop:=
 ∃(it:Addr) (fp:List Addr) (tn:Nat->Heap->Prop) (J:It) (H':Hp),itv=.ref it/\Inv X oI σ H' s2/\iO X.prog X.w X.K tg J fp it tn/\tn 0 s2.heap/\(∀b∈fp,dY X oI H' b)/\R J H'
def PI(X:Cx)(tg iter:Expr)(wi:TI):Prop:=
 ∀(oI:K4) (s:Shared) (σ:St) (H:Hp) (R:It->Hp->Prop),Inv X oI σ H s->wi σ H R->
  wpAny (model X.prog X.w) X.A (eval iter X.env) (λv s1=>wpAny (model X.prog X.w) X.A (pyIter v) (Fj X oI σ tg R) X.xe s1) X.xe s
theorem oP{M:Model}{E:K5}{n:String}{vs:Array Value}{Q:Unit->Shared->Prop}(ho:s.heap.get? it=some o)(hc:o.cls = .type n)(hd:o.data = .fields vs)
    (hn:["enumerate", "zip", "dict_itemiterator", "dict_reverseitemiterator", "odict_iterator", "itertools.zip_longest", "itertools.pairwise"].contains n=false) (hQ:Q () s):wpAny M A (letOwnedTupleGo tg (.ref it) u) Q E s:=by
  unfold letOwnedTupleGo;cases tg<;>first
    |exact QQ hQ
    | (cases u<;>first
        |exact QQ hQ
        | (refine QP (wpAny_load ho ?_)
           rw[hc,hd];show wpAny M A (if(["enumerate", "zip", "dict_itemiterator", "dict_reverseitemiterator", "odict_iterator", "itertools.zip_longest", "itertools.pairwise"].contains n&&vs[0]? == some (rawInt _))=true then _ else _) Q E s;rw[jx (by intro h;rw[hn,Bool.false_and]at h;cases h)];exact QQ hQ))
def Fk(K:QR)(a:Addr):It:=
 ⟨λi H=>∃xs x,SqL K H a xs/\xs[i]? = some x,λi H x H'=>H'=H/\∀xs,SqL K H a xs->xs[i]? = some x,λi H=>∃xs,SqL K H a xs/\xs.length<=i⟩
def Co(K:QR)(a:Addr):It:=
 ⟨λi H=>∃xs x,SqT K H a xs/\xs[i]? = some x,λi H x H'=>H'=H/\∀xs,SqT K H a xs->xs[i]? = some x,λi H=>∃xs,SqT K H a xs/\xs.length<=i⟩
def vN(lo:Int)(n:Nat):It:=⟨λi _=>i<n,λi H x H'=>H'=H/\x=.int (lo+i),λi _=>n<=i⟩
theorem l7(a it:Addr):iO P w K tg (Fk K a) [it] it (λi h=>h.IsListIter it a i) where
 mem:=E1
 obj:=λi h st b hb=>by
  have e:b=it:=by simpa using hb
  subst e;obtain⟨o,e,c,d⟩:=st;exact⟨o,e,λv z=>by rw[d]at z;cases z⟩
 keep:=λi h h' st k=>st.at λo e=>k it E1 o e
 item:=by intro X hP hw hK hc i oI s σ H E I hf st hg;subst hP hw hK;obtain⟨xs,x,hq,hx⟩:=hg;obtain⟨its,rv,p,hz⟩:=I.list hq;obtain⟨u,hu,ru⟩:=rv.get hx;obtain⟨f0,f1,f2,f3,f4,f5⟩:=hf it E1;refine wpAny_pyNext_list_item st p.isList (x:=u) (by simpa using hu) λh' st' sb=>?_;have I1:Inv X oI σ H { s with heap:=h' }:=I.turned (t':=s.toks) (λb o hb e=>(sb.2 b hb).trans e) f0 f1 f3 f4 f5;obtain⟨o,e,c,d⟩:=id st';exact⟨u,rfl,oP (s:={ s with heap:=h' }) e c d wp ⟨x,H,I1,ru,⟨rfl,λys hy=>by rw[I.list_inj hy hq];exact hx⟩,st',λb hb=>(hf b hb).1⟩⟩
 done:=by intro X hP hw hK hc i oI s σ H E I hf st hg;subst hP hw hK;obtain⟨xs,hq,hx⟩:=hg;obtain⟨its,rv,p,hz⟩:=I.list hq;obtain⟨f0,f1,f2,f3,f4,f5⟩:=hf it E1;have hl:=rv.length;exact wpAny_pyNext_list_end (I.ok.hd hc) st p.isList (by simp;omega) λh' eb=>⟨rfl,I.turned (t':=s.toks) (λb o hb e=>eb b o hb e) f0 f1 f3 f4 f5⟩
 self:=λ_ _ _ _ _ st h=>wpAny_pyIter_listiter st h
theorem kN(a it:Addr):iO P w K tg (Co K a) [it] it (λi h=>h.IsTupleIter it a i) where
 mem:=E1
 obj:=λi h st b hb=>by
  have e:b=it:=by simpa using hb
  subst e;obtain⟨o,e,c,d⟩:=st;exact⟨o,e,λv z=>by rw[d]at z;cases z⟩
 keep:=λi h h' st k=>st.at λo e=>k it E1 o e
 item:=by intro X hP hw hK hc i oI s σ H E I hf st hg;subst hP hw hK;obtain⟨xs,x,hq,hx⟩:=hg;obtain⟨its,rv,p,hz⟩:=I.tuple hq;obtain⟨u,hu,ru⟩:=rv.get hx;obtain⟨f0,f1,f2,f3,f4,f5⟩:=hf it E1;refine wpAny_pyNext_tuple_item st (show s.heap.IsTuple a its.toArray from p) (x:=u) (by simpa using hu) λh' st' sb=>?_;have I1:Inv X oI σ H { s with heap:=h' }:=I.turned (t':=s.toks) (λb o hb e=>(sb.2 b hb).trans e) f0 f1 f3 f4 f5;obtain⟨o,e,c,d⟩:=id st';exact⟨u,rfl,oP (s:={ s with heap:=h' }) e c d wp ⟨x,H,I1,ru,⟨rfl,λys hy=>by rw[I.tuple_inj hy hq];exact hx⟩,st',λb hb=>(hf b hb).1⟩⟩
 done:=by intro X hP hw hK hc i oI s σ H E I hf st hg;subst hP hw hK;obtain⟨xs,hq,hx⟩:=hg;obtain⟨its,rv,p,hz⟩:=I.tuple hq;obtain⟨f0,f1,f2,f3,f4,f5⟩:=hf it E1;have hl:=rv.length;exact wpAny_pyNext_tuple_end (I.ok.hd hc) st (show s.heap.IsTuple a its.toArray from p) (by simp;omega) λh' eb=>⟨rfl,I.turned (t':=s.toks) (λb o hb e=>eb b o hb e) f0 f1 f3 f4 f5⟩
 self:=λ_ _ _ _ _ st h=>wpAny_pyIter_tupleiter st h
theorem kO(it:Addr)(lo:Int)(n:Nat):iO P w K tg (vN lo n) [it] it (λi h=>IsRangeIter h it (lo+(i:Nat)*1) ((n:Int)-(i:Nat)) 1) where
 mem:=E1
 obj:=λi h st b hb=>by
  have e:b=it:=by simpa using hb
  subst e;exact ⟨_,st,λv z=>by
   have z':Data.fields _=Data.cell v:=z;cases z'⟩
 keep:=λi h h' st k=>k it E1 _ st
 item:=by intro X hP hw hK hc i oI s σ H E I hf st hg;subst hP hw hK;obtain⟨f0,f1,f2,f3,f4,f5⟩:=hf it E1;have W:=Walks.range (prog:=X.prog) (w:=X.w) (I.ok.hd hc) it lo 1 n;refine W.item i s _ _ hg st λv h' tk hv st' kk=>?_;obtain⟨t,rfl⟩:=hv;have I1:Inv X oI σ H { s with heap:=h',toks:=tk }:=I.turned (λb o hb e=>kk b o (by simpa using hb) e) f0 f1 f3 f4 f5;refine⟨_,rfl,oP (s:={ s with heap:=h',toks:=tk }) (n:= "range_iterator") st' rfl rfl wp ⟨.int<|lo+i,H,I1,⟨t,?_⟩,⟨rfl,rfl⟩,st',λb hb=>(hf b hb).1⟩⟩;rw[Int.mul_one]
 done:=by intro X hP hw hK hc i oI s σ H E I hf st hg;subst hP hw hK;obtain⟨f0,f1,f2,f3,f4,f5⟩:=hf it E1;exact wpAny_pyNext_range_end (I.ok.hd hc) st (by have:n<=i:=hg;omega) λh' eb=>⟨rfl,I.turned (t':=s.toks) (λb o hb e=>eb b o hb e) f0 f1 f3 f4 f5⟩
 self:=λ_ _ _ _ _ st h=>wpAny_pyIter_rangeiter st h
section
theorem jW{R:It->Hp->Prop}{E:K5}{lo hi:Int}{t u v:Tok}{tk:Nat}(I:Inv X oI σ H s)(h1:-(2^62)<=lo)(h2:lo<2^62)(h3:-(2^62)<=hi)(h4:hi<2^62)
  (q:R (vN lo (hi-lo).toNat) H):wpAny (model X.prog X.w) X.A (pyIter<|.ref s.heap.objs.size) (Fj X oI σ tg R) E { s with heap:=s.heap.push { cls:=.type "range",data:=.fields #[.int lo t,.int hi u,.int 1 v] },toks:=tk }:=by
 refine wpAny_pyIter_range (IsRange.new ..) (small_one h1 h2 h3 h4) ?_;have I1:Inv X oI σ H { s with heap:=s.heap.push { cls:=.type "range",data:=.fields #[.int lo t,.int hi u,.int 1 v] },toks:=tk }:=I.kept λb o e=>dM _ e;refine ⟨(s.heap.push { cls:=.type "range",data:=.fields #[.int lo t,.int hi u,.int 1 v] }).objs.size,[(s.heap.push { cls:=.type "range",data:=.fields #[.int lo t,.int hi u,.int 1 v] }).objs.size],_,_,H,rfl,
  I1.kept (t':=tk) λb o e=>dM _ e,kO _ lo (hi-lo).toNat,?_,λb hb=>?_,q⟩
 .have e1:lo+((0:Nat):Int)*1=lo:=E1
  have e2:(((hi-lo).toNat:Nat):Int)-((0:Nat):Int)=Builtin.Range.rangeSize lo hi 1:=by rw[rangeSize_one];split<;>omega
  show IsRangeIter _ _ (lo+((0:Nat):Int)*1) ((((hi-lo).toNat:Nat):Int)-((0:Nat):Int)) 1;rw[e1,e2];exact gZ _ rfl
 .have e:b=(s.heap.push { cls:=.type "range",data:=.fields #[.int lo t,.int hi u,.int 1 v] }).objs.size:=by simpa using hb
  subst e;exact I1.fpOk (bU _)<|I1.hok.fresh (bU _)
def vO(ta:TA):TI:=λσ H R=>ta σ H λvs H1=>∃j:Int,vs=[.int j]/\-(2^62)<=j/\j<2^62/\R (vN 0 j.toNat) H1
def vP(ta:TA):TI:=λσ H R=>ta σ H λvs H1=>∃i j:Int,vs=[.int i,.int j]/\(-(2^62)<=i/\i<2^62/\-(2^62)<=j/\j<2^62)/\R (vN i (j-i).toNat) H1
theorem l8{a:Expr}{ta:TA}{pos:Pos}(hg:Gl X "range")(hm:X.mg "range" = none)(ha:PA X [a] ta)(hs:{starEach [a] X.env=[(false,eval a X.env)]}):PI X tg (.Call (.Name "range" p) [a] [] pos) (vO ta):=by
 intro oI s σ H R I h;refine Call_<|eQ I hg hm boot_range (PyProof.Rows.callWith_type1 (bK (ha pos oI s σ H _ I h) λus s1 ⟨vs,H1,I1,r1,q1⟩=>?_) hs rfl);obtain⟨j,e,q1,q2,q⟩:=q1;subst e;cases r1 with
 |cons r rr=>cases rr;obtain⟨t,rfl⟩:=r;exact call_range_1<|jW I1 tv tv q1 q2 (by simpa using q)
theorem md{a b:Expr}{ta:TA}{pos:Pos}(hg:Gl X "range")(hm:X.mg "range" = none)(ha:PA X [a,b] ta)(hs:{starEach [a,b] X.env=[(false,eval a X.env),(false,eval b X.env)]})(hs2:{starEach [b] X.env=[(false,eval b X.env)]}) :
  PI X tg (.Call (.Name "range" p) [a,b] [] pos) (vP ta):=by
 intro oI s σ H R I h;refine Call_<|eQ I hg hm boot_range (PyProof.Rows.callWith_type1 (bK (ha pos oI s σ H _ I h) λus s1 ⟨vs,H1,I1,r1,q1⟩=>?_) (by rw[hs,hs2]) (by rw[hs2];rfl));obtain⟨i,j,e,⟨q1,q2,q3,q4⟩,q⟩:=q1;subst e;cases r1 with
 |cons r rr=>
  cases rr with
  |cons r' rr=>
   cases rr;obtain⟨t,rfl⟩:=r;obtain⟨t',rfl⟩:=r';exact call_range_2<|jW I1 q1 q2 q3 q4 q
def Cp(wi:TI)(g:TG)(tb:TS):TS:=λD σ H=>wi σ H λJ H1=>∃W:Nat->Nat->St->Hp->Prop,(∃m,W 0 m σ H1)/\∀i m σ H,W i m σ H->
 (J.stop i H/\D.nx σ H)\/(J.go i H/\∃N:St->Hp->Prop,(∀σ' H',N σ' H'->∃m',m'<m/\W (i+1) m' σ' H')/\∀x H',J.yld i H x H'->g x σ H' λσ2 H2=>tb { D with nx:=N,ct:=N,bk:=D.nx } σ2 H2)
def eR(fp:List Addr)(h:Heap):K4:=fp.filterMap λb=>(h.get? b).map λo=>(b,o)
theorem cK(hb:b∈fp)(e:h.get? b=some o):(b,o)∈eR fp h:=Yay.mpr ⟨b,hb,by rw[e];rfl⟩
theorem me{p:Addr×Obj}(hp:p∈eR fp h):p.1∈fp/\h.get? p.1=some p.2:=by
 obtain⟨b,hb,e⟩:=Yay.mp hp;cases q:h.get? b with
 |none=>rw[q]at e;cases e
 |some o=>rw[q]at e;have e':(b,o)=p:=QW e;subst e';exact⟨hb,q⟩
theorem Inv.pinned(I:Inv X oI σ H s)(hf:∀b∈fp,dY X oI H b)(ho:∀b∈fp,∃o,s.heap.get? b=some o/\∀v,o.data≠.cell v):Inv X (oI++eR fp s.heap) σ H s:=
 I.pins_of λp hp=>(Yao.mp hp).elim (λz=>I.pin p<|jf _ z) λz=>by
  obtain⟨hb,e⟩:=me z;obtain⟨f0,f1,f2,_⟩:=hf p.1 hb;obtain⟨o,e',d⟩:=ho p.1 hb;rw[e]at e';cases e';exact⟨e,f0,f1,f2,d⟩
theorem Inv.unpinned{pl:K4}(I:Inv X (oI++pl) σ H s):Inv X oI σ H s:=I.pins_of λp hp=>I.pin p<|jf _ (List.mem_append_left _ hp)
theorem sY{iter:Expr}{wi:TI}{g:TG}{tb:TS}{pos:Pos}(hp:PassesOwn (model X.prog X.w) X.A X.env X.xe)(hc:X.calm=true)(hi:PI X tg iter wi)(hg:PG X tg g)(hb:pJ X body tb)
  (hs:autoParam (∀x,foldedSetIterable iter X.env x=pure x) RL._auto_1):PS X (.For tg iter body [] pos) (Cp wi g tb):=by
 intro oI s σ H D I h;refine wpAny_For (bK (hi oI s σ H _ I h) λv s1 h1=>bK h1 λitv s2 h2=>?_) hs;obtain⟨it,fp,tn,J,H2,e,I2,T,st2,f2,W,⟨m0,w0⟩,turn⟩:=h2;subst e
 have stat:∀{H':Hp},(∀b∈fp,H' b=none)->∀b∈fp,dY X oI H' b:=λhn b hb=>⟨hn b hb,(f2 b hb).2⟩;refine codeAny_forLoop_any (λn s'=>∃i σ' H',Inv X oI σ' H' s'/\tn i s'.heap/\(∀b∈fp,H' b=none)/\W i n σ' H') ?_ m0 ⟨0,σ,H2,I2,st2,λb hb=>(f2 b hb).1,w0⟩;rintro n s3 ⟨i,σ3,H3,I3,st3,fr3,w3⟩;rcases turn i n σ3 H3 w3 with⟨stop,qn⟩|⟨go,N,hN,step⟩
 .refine Rh hp (bK (T.done X rfl rfl rfl hc i oI s3 σ3 H3 X.xe I3 (stat fr3) st3 stop) λr s4 ⟨hr,I4⟩=>?_)
  subst hr;exact Rq ⟨σ3,H3,I4,qn⟩
 .refine Rh hp (bK (T.item X rfl rfl rfl hc i oI s3 σ3 H3 X.xe I3 (stat fr3) st3 go) λr s4 ⟨u,hr,h4⟩=>?_)
  subst hr;refine Rh hp<|bK h4 λ_ s5 ⟨x,H5,I5,r5,y5,st5,fr5⟩=>?_;have I5':=I5.pinned (stat fr5)<|T.obj _ _ st5;refine Rh hp<|bK (hg _ s5 σ3 H5 x u _ I5' r5<|step x H5 y5) λ_ s6 ⟨σ6,H6,I6,q6⟩=>?_;refine Rh hp<|bK (hb _ s6 σ6 H6 _ I6 q6) λf s7 q7=>?_;have again:∀{σ7:St} {H7:Hp},Inv X (oI++eR fp s5.heap) σ7 H7 s7->N σ7 H7->∃m,m<n/\∃i σ' H',Inv X oI σ' H' s7/\tn i s7.heap/\(∀b∈fp,H' b=none)/\W i m σ' H':=λ{σ7 H7} I7 n7=>by
   obtain⟨m',hm,w7⟩:=hN σ7 H7 n7;refine⟨m',hm,i+1,σ7,H7,I7.unpinned,T.keep _ _ _ st5 λb hb o e=>(I7.pin (b,o)<|jf _<|jf _<|cK hb e).1,λb hb=>?_,w7⟩;obtain⟨o,e,d⟩:=T.obj _ _ st5 b hb;exact(I7.pin (b,o)<|jf _<|jf _<|cK hb e).2.1
  cases f with
  |next=>obtain⟨σ7,H7,I7,n7⟩:=q7;exact again I7 n7
  |cont=>obtain⟨σ7,H7,I7,n7⟩:=q7;exact again I7 n7
  |brk=>obtain⟨σ7,H7,I7,q7⟩:=q7;exact⟨σ7,H7,I7.unpinned,q7⟩
  |ret v=>obtain⟨x7,σ7,H7,I7,r7,q7⟩:=q7;exact⟨x7,σ7,H7,I7.unpinned,r7,q7⟩
end
abbrev R2:=V->V->Hp->VK->Prop
variable{r r':R2}
def OpR(X:Cx)(f:Value->Value->Sem Value)(r:R2):Prop:=
 ∀(oI:K4) (s:Shared) (σ:St) (H:Hp) (x y:V) (v u:Value) (Q:VK),Inv X oI σ H s->RelV x v->RelV y u->r x y H Q->
  wpAny (model X.prog X.w) X.A (f v u) (EP X oI σ Q) X.xe s
def zJ(X:Cx)(f:Value->Sem Value)(r:V->Hp->VK->Prop):Prop:=
 ∀(oI:K4) (s:Shared) (σ:St) (H:Hp) (x:V) (v:Value) (Q:VK),Inv X oI σ H s->RelV x v->r x H Q->
  wpAny (model X.prog X.w) X.A (f v) (EP X oI σ Q) X.xe s
def dZ(X:Cx)(f:Value)(r:RH->Hp->VK->Prop):Prop:=
 ∀(oI:K4) (s:Shared) (σ:St) (H:Hp) (xs:RH) (us:K9) (Q:VK),Inv X oI σ H s->Vals xs us->r xs H Q->
  wpAny (model X.prog X.w) X.A (call f us) (EP X oI σ Q) X.xe s
def Cq(X:Cx)(r:V->Hp->(Bool->Hp->Prop)->Prop):Prop:=
 ∀(oI:K4) (s:Shared) (σ:St) (H:Hp) (x:V) (v:Value) (Q:Bool->Hp->Prop),Inv X oI σ H s->RelV x v->r x H Q->
  wpAny (model X.prog X.w) X.A (truthy v) (TP X oI σ Q) X.xe s
def zK(r:R2)(ta tb:TE):TE:=λσ H Q=>ta σ H λx H1=>tb σ H1 λy H2=>r x y H2 Q
def JN(r:V->Hp->VK->Prop)(ta:TE):TE:=λσ H Q=>ta σ H λx H1=>r x H1 Q
def rI(C:Int->Int->Prop)(g:Int->Int->V):R2:=λx y H Q=>∃i j,x=.int i/\y=.int j/\C i j/\Q (g i j) H
def ql(g:Int->Int->V):R2:=λx y H Q=>∃i j,x=.int i/\y=.int j/\Q (g i j) H
def rU(g:Int->V):V->Hp->VK->Prop:=λx H Q=>∃i,x=.int i/\Q (g i) H
section
variable{a b:Expr}{tb tc:TE}{pos:Pos}
theorem sZ(ha:PE X a ta)(hb:PE X b tb){R:V->V->Hp->Prop}(I:Inv X oI σ H s)
  (h:ta σ H λx H1=>tb σ H1 λy H2=>R x y H2)
  (hf:∀v u s2 x y H2,Inv X oI σ H2 s2->RelV x v->RelV y u->R x y H2->wpAny (model X.prog X.w) X.A (f v u) Q X.xe s2) :
  wpAny (model X.prog X.w) X.A (eval a X.env) (λv s₁=>wpAny (model X.prog X.w) X.A (eval b X.env) (λu s₂=>wpAny (model X.prog X.w) X.A (f v u) Q X.xe s₂) X.xe s₁) X.xe s:=by
 refine bK (ha oI s σ H _ I h) λv s1 ⟨x,H1,I1,r1,q1⟩=>?_;refine bK (hb oI s1 σ H1 _ I1 q1) λu s2 ⟨y,H2,I2,r2,q2⟩=>?_;exact hf v u s2 x y H2 I2 r1 r2 q2
theorem re{op:Operator}(ho:OpR X (binaryOp op) r)(ha:PE X a ta)(hb:PE X b tb):PE X (.BinOp a op b pos) (zK r ta tb):=by intro oI s σ H Q I h;exact wpAny_BinOp<|sZ ha hb I h λv u s2 x y H2 I2 rx ry q=>ho oI s2 σ H2 x y v u Q I2 rx ry q
theorem rf{op:UnaryOp}{r:V->Hp->VK->Prop}(ho:zJ X (unaryOp op) r)(ha:PE X a ta):PE X (.UnaryOp op a pos) (JN r ta):=by intro oI s σ H Q I h;exact UnaryOp_<|bK (ha oI s σ H _ I h) λv s1 ⟨x,H1,I1,r1,q1⟩=>ho oI s1 σ H1 x v Q I1 r1 q1
theorem zL{C:Int->Int->Prop}
  (rule:∀(i j:Int) (t u:Tok) (s:Shared) (Q:K5) (E:K5),C i j->Q (.int (g i j) s.toks) { s with toks:=s.toks+1 }->wpAny (model X.prog X.w) X.A (f (.int i t)<|.int j u) Q E s) :
  OpR X f (rI C λi j=>.int<|g i j):=by
 intro oI s σ H x y v u Q I rx ry h;obtain⟨i,j,rfl,rfl,hc,q⟩:=h;obtain⟨t,rfl⟩:=rx;obtain⟨t',rfl⟩:=ry;exact rule i j t t' s _ _ hc ⟨.int<|g i j,H,I.tok _,⟨_,rfl⟩,q⟩
theorem vQ
  (rule:∀(i j:Int) (t u:Tok) (s:Shared) (Q:K5) (E:K5),Q (.int (g i j) s.toks) { s with toks:=s.toks+1 }->wpAny (model X.prog X.w) X.A (f (.int i t)<|.int j u) Q E s) :
  OpR X f (ql λi j=>.int<|g i j):=by
 intro oI s σ H x y v u Q I rx ry h;obtain⟨i,j,rfl,rfl,q⟩:=h;obtain⟨t,rfl⟩:=rx;obtain⟨t',rfl⟩:=ry;exact rule i j t t' s _ _ ⟨.int<|g i j,H,I.tok _,⟨_,rfl⟩,q⟩
theorem qm{g:Int->Int->Bool}
  (rule:∀(i j:Int) (t u:Tok) (s:Shared) (Q:K5) (E:K5),Q (.bool<|g i j) s->wpAny (model X.prog X.w) X.A (f (.int i t)<|.int j u) Q E s) :
  OpR X f (ql λi j=>.bl<|g i j):=by
 intro oI s σ H x y v u Q I rx ry h;obtain⟨i,j,rfl,rfl,q⟩:=h;obtain⟨t,rfl⟩:=rx;obtain⟨t',rfl⟩:=ry;exact rule i j t t' s _ _ ⟨.bl<|g i j,H,I,rfl,q⟩
def td(i j:Int):Prop:=0<=j/\j<=1000000/\i.natAbs<2^64
theorem tp:OpR X (binaryOp .Add) (ql λi j=>.int<|i+j):=vQ λ_ _ _ _ _ _ _ q=>add_int q
theorem tu:OpR X (binaryOp .Sub) (ql λi j=>.int<|i-j):=vQ λ_ _ _ _ _ _ _ q=>sub_int q
theorem qo:OpR X (binaryOp .Mod) (rI (λ_ j=>j≠0) λi j=>.int<|i.fmod j):=zL λ_ _ _ _ _ _ _ hc q=>mod_int' hc q
theorem tw:OpR X (binaryOp .Pow) (rI td λi j=>.int<|i^j.toNat):=zL λ_ _ _ _ _ _ _ hc q=>pow_int_small hc.1 hc.2.1 hc.2.2 q
theorem JO{f:Value->Sem Value}{g:Int->Int}
  (rule:∀(i:Int) (t:Tok) (s:Shared) (Q:K5) (E:K5),Q (.int (g i) s.toks) { s with toks:=s.toks+1 }->wpAny (model X.prog X.w) X.A (f<|.int i t) Q E s) :
  zJ X f (rU λi=>.int<|g i):=by
 intro oI s σ H x v Q I rx h;obtain⟨i,rfl,q⟩:=h;obtain⟨t,rfl⟩:=rx;exact rule i t s _ _ ⟨.int<|g i,H,I.tok _,⟨_,rfl⟩,q⟩
theorem oQ:zJ X (unaryOp .USub) (rU λi=>.int (-i)):=JO λ_ _ _ _ _ q=>neg_int q
end
section
variable{a b:Expr}{tb tc:TE}{pos:Pos}
theorem tx{Q:VK}{k k':Bool}(I:Inv X oI σ H s)(q:Q (.bl k) H)(e:k=k'):EP X oI σ Q (.bool k') s:=by subst e;exact⟨.bl k,H,I,rfl,q⟩
theorem OpR.or(h:OpR X f r)(h':OpR X f r'):OpR X f (λx y H Q=>r x y H Q\/r' x y H Q):=by
 intro oI s σ H x y v u Q I rx ry q;rcases q with q|q
 exact h oI s σ H x y v u Q I rx ry q;exact h' oI s σ H x y v u Q I rx ry q
theorem oR(b:Expr)(h:(op≠.In:))(h2:(op≠.NotIn:)):behindInMarks op b=false:=by
 have e1:(op==CmpOp.In)=false:=by cases op<;>first|rfl|exact QS rfl h
 have e2:(op==CmpOp.NotIn)=false:=by cases op<;>first|rfl|exact QS rfl h2
 cases b<;>simp[behindInMarks,e1,e2]
theorem qp(ho:OpR X (compareOp op) r)(ha:PE X a ta)(hb:PE X b tb)(hm:behindInMarks op b=false):PE X (.Compare a [op] [b] pos) (zK r ta tb):=by intro oI s σ H Q I h;exact wpAny_Compare1 (sZ ha hb I h λv u s2 x y H2 I2 rx ry q=>ho oI s2 σ H2 x y v u Q I2 rx ry q) hm
def rg(t:TE):TT:=λσ H Q=>t σ H λx H'=>∃k,x=.bl k/\Q k H'
theorem qq(ho:OpR X (compareOp op) r)(ha:PE X a ta)(hb:PE X b tb)(hm:behindInMarks op b=false):PT X (.Compare a [op] [b] pos) (rg<|zK r ta tb):=by
 intro oI s σ H Q I h;refine wpAny_isTrue_Compare1 (bK (ha oI s σ H _ I h) λv s1 ⟨x,H1,I1,r1,q1⟩=>bK (hb oI s1 σ H1 _ I1 q1) λu s2 ⟨y,H2,I2,r2,q2⟩=>
  bK (ho oI s2 σ H2 x y v u _ I2 r1 r2 q2) λc s3 ⟨z,H3,I3,r3,k,e,q3⟩=>?_) hm
 subst e;cases r3;exact Q7 ⟨H3,I3,q3⟩
def oS(r r':R2)(ta tb tc:TE):TE:=λσ H Q=>ta σ H λx H1=>tb σ H1 λy H2=>r x y H2 λz H3=>∃k,z=.bl k/\
 (if k=true then tc σ H3 λw' H4=>r' y w' H4 Q else Q (.bl false) H3)
theorem oU{op':CmpOp}(ho:OpR X (compareOp op) r)(ho':OpR X (compareOp op') r')(ha:PE X a ta)(hb:PE X b tb)(hc:PE X c tc)
  (hm:autoParam (lastMarks [op,op'] [b,c]=false) RO._auto_1):PE X (.Compare a [op,op'] [b,c] pos) (oS r r' ta tb tc):=by
 intro oI s σ H Q I h;refine Compare_chain (bK (ha oI s σ H _ I h) λv s1 ⟨x,H1,I1,r1,q1⟩=>chain_link (bK (hb oI s1 σ H1 _ I1 q1) λu s2 ⟨y,H2,I2,r2,q2⟩=>
  bK (ho oI s2 σ H2 x y v u _ I2 r1 r2 q2) λd s3 ⟨z,H3,I3,r3,k,e,q3⟩=>?_)) hm
 subst e;cases r3;refine Q7 ?_;cases k with
 |false=>exact ite_ff ⟨.bl false,H3,I3,rfl,q3⟩|true=>exact ite_tt<|chain_last (bK (hc oI s3 σ H3 _ I3 q3) λw' s4 ⟨z',H4,I4,r4,q4⟩=>ho' oI s4 σ H4 y z' u w' Q I4 r2 r4 q4)
theorem oV{op':CmpOp}(ho:OpR X (compareOp op) r)(ho':OpR X (compareOp op') r')(ha:PE X a ta)(hb:PE X b tb)(hc:PE X c tc)
  (hm:autoParam (lastMarks [op,op'] [b,c]=false) RO._auto_1):PT X (.Compare a [op,op'] [b,c] pos) (rg<|oS r r' ta tb tc):=by
 intro oI s σ H Q I h;refine isTrue_chain (bK (ha oI s σ H _ I h) λv s1 ⟨x,H1,I1,r1,q1⟩=>test_link (bK (hb oI s1 σ H1 _ I1 q1) λu s2 ⟨y,H2,I2,r2,q2⟩=>
  bK (ho oI s2 σ H2 x y v u _ I2 r1 r2 q2) λd s3 ⟨z,H3,I3,r3,k,e,q3⟩=>?_)) hm
 subst e;cases r3;refine Q7 ?_;cases k with
 |false=>
  obtain⟨k',e',q'⟩:=q3;cases e';exact ite_ff ⟨H3,I3,q'⟩
 |true=>
  refine ite_tt<|test_last (bK (hc oI s3 σ H3 _ I3 q3) λw' s4 ⟨z',H4,I4,r4,q4⟩=>bK (ho' oI s4 σ H4 y z' u w' _ I4 r2 r4 q4) λd' s5 ⟨z2,H5,I5,r5,k2,e2,q5⟩=>?_);subst e2;cases r5;exact Q7 ⟨H5,I5,q5⟩
def vR(K:QR)(x:V)(H:Hp)(k:Bool):Prop:=
 match x with
 |.non=>k=false|.bl b=>k=b|.int i=>k=(i != 0)|.str y=>y.length<=sizeLine/\k=((y.length:Int) != 0)|.byt y=>y.size<=sizeLine/\k=((y.size:Int) != 0)|.ref p=>(∃xs,SqL K H p xs/\k = !xs.isEmpty)\/(∃xs,SqT K H p xs/\k = !xs.isEmpty)\/∃kvs,H p=some (.dK kvs)/\k = !kvs.isEmpty|_=>False
theorem kP{kvs:List (κ×V)}{vs:List (κ×Value)}(r:KV kvs vs):(!vs.isEmpty) = !kvs.isEmpty:=by cases r<;>rfl
theorem hV{its:K9}(r:Vals xs its):(!its.toArray.isEmpty) = !xs.isEmpty:=by cases r<;>simp
theorem gh:(sizeLine:Nat)<2^63:=by rw[sizeLine_eq];decide
theorem tz:Cq X (λx H Q=>∃k,vR X.K x H k/\Q k H):=by
 intro oI s σ H x v Q I rx h;obtain⟨k,e,q⟩:=h;have hl:=gh;have hs:sizeLine=16777216:=sizeLine_eq;cases x with
 |non=>cases rx;have e':k=false:=e;subst e';exact truthy_none ⟨H,I,q⟩
 |bl b=>cases rx;have e':k=b:=e;subst e';exact Q7 ⟨H,I,q⟩
 |int i=>obtain⟨t,rfl⟩:=rx;have e':k=(i != 0):=e;subst e';exact PySem.P.truthy_int ⟨H,I,q⟩
 |str y=>obtain⟨t,rfl⟩:=rx;obtain⟨hy,e'⟩:y.length<=sizeLine/\k=((y.length:Int) != 0):=e;subst e';exact PySem.P.truthy_str tv ⟨H,I.tok _,q⟩
 |byt y=>obtain⟨t,rfl⟩:=rx;obtain⟨hy,e'⟩:y.size<=sizeLine/\k=((y.size:Int) != 0):=e;subst e';exact W.truthy_bytes tv ⟨H,I.tok _,q⟩
 |ref p=>
  cases rx;have e':(∃xs,SqL X.K H p xs/\k = !xs.isEmpty)\/(∃xs,SqT X.K H p xs/\k = !xs.isEmpty)\/∃kvs,H p=some (.dK kvs)/\k = !kvs.isEmpty:=e;rcases e' with⟨xs,hx,e'⟩|⟨xs,hx,e'⟩|⟨kvs,hx,e'⟩
  subst e';obtain⟨its,r,pl,hz⟩:=I.list hx;have hlen:=r.length;exact wpAny_truthy_list pl.isList (by simp only[fe];omega) ⟨H,I.tok _,by rw[hV r];exact q⟩;subst e';obtain⟨its,r,pl,hz⟩:=I.tuple hx;have hlen:=r.length;exact truthy_tuple pl (by simp only[fe];omega) ⟨H,I.tok _,by rw[hV r];exact q⟩;subst e';obtain⟨hz,hS,vs,r,m⟩:kvs.length<=sizeLine/\(p==sysModules)=false/\∃vs,KV kvs vs/\s.heap.DictOf (jy X.prog X.w) p vs:=I.hok p _ hx;have hlen:kvs.length=vs.length:=Paired.length r;exact wpAny_truthy_dict hS m tv ⟨H,I.tok _,by rw[kP r];exact q⟩
 |_=>exact(show False from e).elim
theorem oW(ha:PE X a ta)(he:∀whole,isTrue a X.env whole=(do let v <-whole;standAt a.pos;holding [v] (truthy v))) :
  PT X a (λσ H Q=>ta σ H λx H'=>∃k,vR X.K x H' k/\Q k H'):=by
 intro oI s σ H Q I h;exact isTrue_plain (bK (ha oI s σ H _ I h) λv s1 ⟨x,H1,I1,r1,q1⟩=>tz oI s1 σ H1 x v Q I1 r1 q1)<|he _
theorem fP{x:V}(r:Vals [x] us):∃u,us=[u]/\RelV x u:=by
 cases r with
 |cons r1 r2=>cases r2;exact⟨_,rfl,r1⟩
theorem rh{x y:V}(r:Vals [x,y] us):∃u w',us=[u,w']/\RelV x u/\RelV y w':=by
 cases r with
 |cons r1 r2=>
  cases r2 with
  |cons r3 r4=>cases r4;exact⟨_,_,rfl,r1,r3⟩
theorem oX:dZ X (.builtin "abs") (λxs H Q=>∃i,xs=[.int i]/\Q (.int (if i<0 then -i else i)) H):=by intro oI s σ H xs us Q I r h;obtain⟨i,rfl,q⟩:=h;obtain⟨u,rfl,t,rfl⟩:=fP r;exact call_abs_int λu tk=>⟨.int (if i<0 then -i else i),H,I.tok _,⟨_,rfl⟩,q⟩
theorem mf(hc:X.calm=true):dZ X (.builtin "max") (λxs H Q=>∃i j,xs=[.int i,.int j]/\Q (.int (if j>i then j else i)) H):=by intro oI s σ H xs us Q I r h;obtain⟨i,j,rfl,q⟩:=h;obtain⟨u,w',rfl,⟨t,rfl⟩,⟨t',rfl⟩⟩:=rh r;refine max_two_ints (I.ok.hd hc) λh' tk k=>⟨_,H,I.kept k,?_,q⟩;by_cases hj:j>i;rw[ks hj,ks hj];exact⟨_,rfl⟩;rw[jx hj,jx hj];exact⟨_,rfl⟩
theorem mh:dZ X (.type "int") (λxs H Q=>(∃i,xs=[.int i]/\Q (.int i) H)\/∃k,xs=[.bl k]/\Q (.int (if k then 1 else 0)) H):=by
 intro oI s σ H xs us Q I r h;rcases h with⟨i,rfl,q⟩|⟨k,rfl,q⟩
 obtain⟨u,rfl,t,rfl⟩:=fP r;exact call_int_int ⟨.int i,H,I,⟨_,rfl⟩,q⟩;obtain⟨u,rfl,r1⟩:=fP r;cases r1;exact call_int_bool ⟨.int (if k then 1 else 0),H,I.tok _,⟨_,rfl⟩,q⟩
end
structure Room(k:Nat)(A:Around):Prop where
 hd:A.handled=none
 gd:A.guards=some []
 dp:A.depth+3*k+5<recursionLimit
 un:A.units+16*k+200<cLine
theorem Room.mono(r:Room k A)(h:j<=k):Room j A:=⟨r.hd,r.gd,by have:=r.dp;omega,by have:=r.un;omega⟩
theorem Room.deeper{k:Nat}{A:Around}(r:Room (k+1) A)(env:Env):Room k (A.deeper env):=
 ⟨r.hd,r.gd,by have:=r.dp;show A.depth+1+3*k+5<_;omega,by have:=r.un;show A.units+3+16*k+200<_;omega⟩
theorem Room.depth{k:Nat}{A:Around}(r:Room k A):A.depth<recursionLimit:=by have:=r.dp;omega
theorem Room.units{k:Nat}{A:Around}(r:Room k A):A.units+64<cLine:=by have:=r.un;omega
def Cr:TA:=λ_ H Q=>Q [] H
def vS(ta:TE)(tr:TA):TA:=λσ H Q=>ta σ H λx H1=>tr σ H1 λxs H2=>Q (x::xs) H2
section
variable{pos:Pos}
theorem oY:PA X [] Cr:=λ_ _ _ _ H Q I h=>Calls.spliced_nil ⟨[],H,I,.nil,h⟩
theorem lF(ha:PE X e te)(hr:PA X es t)(hs:{starEach (e::es) X.env=(false,eval e X.env)::starEach es X.env}):PA X (e::es) (vS te t):=by intro pos oI s σ H Q I h;rw[hs];show wpAny _ _ (spliced ((false,eval e X.env)::backTo pos (starEach es X.env))) _ _ s;refine Calls.spliced_cons<|bK (ha oI s σ H _ I h) λu s1 ⟨x,H1,I1,r1,q1⟩=>?_;exact bK (hr pos oI s1 σ H1 _ I1 q1) λus s2 ⟨xs,H2,I2,r2,q2⟩=>⟨x::xs,H2,I2,.cons r1 r2,q2⟩
def Cs(t:TA):TE:=λσ H Q=>t σ H λxs H1=>xs.length<=sizeLine/\∀p,H1 p=none->Q (.ref p) (upd H1 p<|.tup xs)
def Ct(t:TA):TE:=λσ H Q=>t σ H λxs H1=>xs.length<=sizeLine/\∀p,H1 p=none->Q (.ref p) (upd H1 p<|.lst xs)
theorem tB{x1}(h:PA X es t):PE X (.Tuple es x1 pos) (Cs t):=by intro oI s σ H Q I hq;refine wpAny_Tuple_spliced<|bK (h pos oI s σ H _ I hq) λus s1 ⟨xs,H1,I1,r,z,q⟩=>⟨by rw[<-r.length];exact z,?_⟩;have hf:H1 s1.heap.objs.size=none:=I1.hok.fresh<|bU _;refine⟨.ref s1.heap.objs.size,upd H1 s1.heap.objs.size<|.tup xs,I1.laid (t':=s1.toks) (λb u e=>dM _ e) (bU _) ?_,rfl,q _ hf⟩;exact⟨z,us,r,⟨_,gZ _ rfl,rfl,_,rfl⟩⟩
theorem tD(h:PA X es t):PE X (.List es pos) (Ct t):=by intro oI s σ H Q I hq;refine wpAny_List_spliced<|bK (h pos oI s σ H _ I hq) λus s1 ⟨xs,H1,I1,r,z,q⟩=>⟨by rw[<-r.length];exact z,?_⟩;have hf:H1 s1.heap.objs.size=none:=I1.hok.fresh<|bU _;refine⟨.ref s1.heap.objs.size,upd H1 s1.heap.objs.size<|.lst xs,I1.laid (t':=s1.toks) (λb u e=>dM _ e) (bU _) ?_,rfl,q _ hf⟩;exact⟨z,us,0,r,gZ _ rfl⟩
end
abbrev Sp:=RH->Hp->VK->XK->Prop
abbrev pK:=List Env->Hp->Shared->XK->Value->Shared->Prop
variable{CX:pK}
structure qr(P:Program)(w:World)(K:QR)(mg:K8)(base:Heap)(A:Around)(outer:List Env)(s:Shared)(H:Hp):Prop where
 frames:A.frames=some outer
 mod:Mod K mg base
 bs:∀b o,base.get? b=some o->s.heap.get? b=some o/\H b=none
 bsz:base.objs.size<=s.heap.objs.size
 funs:s.heap.FunFrames base outer
 frf:∀b∈eD outer,H b=none
 hok:HOk P w H s.heap
 bare:AllBare s.gens
 sysn:∀xs,H sysModules≠some (.lst xs)
def CE(outer:List Env)(P:Program)(w:World)(H:Hp)(s:Shared)(Q:VK)(u:Value)(s':Shared):Prop:=
 ∃v H',s'.os=s.os/\AllBare s'.gens/\Un (eD outer) [] H H' s.heap s'.heap/\HOk P w H' s'.heap/\RelV v u/\Q v H'
def CR(CX:pK)(outer:List Env)(P:Program)(w:World)(H:Hp)(s:Shared)(Q:VK)(E:XK)(r:Result)(s':Shared):Prop:=
 match r with
 |.ok (.ret u)=>CE outer P w H s Q u s'|.ok _=>False|.error e=>CX outer H s E e s'
structure gF(P:Program)(w:World)(K:QR)(mg:K8)(base:Heap)(CX:pK)(k:Nat)(f:Addr)(fd:FuncData)(ps:Rv)(sp:Sp):Prop where
 len:∀vs H Q E,sp vs H Q E->vs.length=ps.length
 run:∀(A:Around) (outer:List Env) (s:Shared) (H:Hp) (args:Args) (us:K9) (vs:RH) (Q:VK) (E:XK),Room k A->qr P w K mg base A outer s H->BindsTo s fd args (ps.zip us)->Vals vs us->sp vs H Q E->
  codeAny (model P w) A (.call (.ref f) args) (CR CX outer P w H s Q E) s
section
theorem Inv.env0(I:Inv X oI σ H s):qr X.prog X.w X.K X.mg X.base X.A X.stack s H:=
 ⟨I.ok.frames,I.ok.mod,I.bs,gP I.ok.bsz I.sz,I.stack,I.stkFree,I.hok,I.bare,I.sysn⟩
theorem Inv.after{Q:VK}(I:Inv X oI σ H s)(h:CE X.stack X.prog X.w H s Q u s'):EP X oI σ Q u s':=by obtain⟨v,H',os,bare,un,hok,r,q⟩:=h;obtain⟨hh,g,d,t,os'⟩:=s';obtain rfl:os'=s.os:=os;exact⟨v,H',I.call (h':=hh) (g':=g) (d':=d) (t':=t) (ch:=[]) un hok bare<|λb z=>QS z<|E1,r,q⟩
end
def vT(sp:Sp)(dvs:RH)(E:XK)(t:TA):TE:=λσ H Q=>t σ H λvs H1=>sp (vs++dvs) H1 Q E
def Binds(K:QR)(fd:FuncData)(ps:Rv)(ds:K9):Prop:=
 ∀(s:Shared) (us:K9),K.In s.heap->(us++ds).length=ps.length->BindsTo s fd ⟨us,[]⟩ (ps.zip<|us++ds)
theorem Binds.all(h:∀us:K9,us.length=ps.length->bindArgs fd ⟨us,[]⟩=pure (ps.zip us)):Binds K fd ps []:=λs us _ hl=>by rw[qT]at hl ⊢;exact .of_eq<|h us hl
def dQ(CX:pK)(X:Cx)(E:XK):Prop:=∀(oI:K4) (σ:St) (H:Hp) (s:Shared) (e:Value) (s':Shared),Inv X oI σ H s->CX X.stack H s E e s'->X.xe e s'
section
variable{f C:Addr}{sp:Sp}{dvs:RH}{ds:K9}{E:XK}{m:Str}{pos apos:Pos}{o:Expr}
theorem tE{Q:VK}(F:gF X.prog X.w X.K X.mg X.base CX k f fd ps sp)(hr:Room k X.A)(hb:Binds X.K fd ps ds)(hd:Vals dvs ds)(hx:dQ CX X E)
  (I:Inv X oI σ H s) (r:Vals vs us) (h:sp (vs++dvs) H Q E):wpAny (model X.prog X.w) X.A (call (.ref f) us) (EP X oI σ Q) X.xe s:=by
 have r2:Vals (vs++dvs) (us++ds):=r.append hd;have hl:(us++ds).length=ps.length:=by rw[<-r2.length];exact F.len _ _ _ _ h
 refine wpAny_call<|codeAny_mono (F.run X.A X.stack s H ⟨us,[]⟩ (us++ds) (vs++dvs) Q E hr I.env0 (hb s us I.kIn hl) r2 h) λr s' hq=>?_;cases r with
 |error e=>exact hx oI σ H s e s' I hq
 |ok fl=>
  cases fl with
  |ret u=>exact I.after hq|next=>exact Ri hq|brk=>exact Ri hq|cont=>exact Ri hq
theorem qs(F:gF X.prog X.w X.K X.mg X.base CX k f fd ps sp)(hr:Room k X.A)(hg:Gl X x)(hm:X.mg x=some (.ref f))(hk:W.keepIn X.K (.ref f)=true)(hb:Binds X.K fd ps ds)(hd:Vals dvs ds)(hx:dQ CX X E)
  (ha:PA X (e::es) t) (hdb:(RA x:)) (he:{RC X e es}) (hpl:{RD X pos es}) :
  PE X (.Call (.Name x p) (e::es) [] pos) (vT sp dvs E t):=by
 intro oI s σ H Q I h;refine Rl<|jA I hg hm ?_ hdb;refine W.callWith_K (h₀:=X.base) I.ok.mod.kin hk (bK (ha pos oI s σ H _ I h) λus s1 ⟨vs,H1,I1,r,q⟩=>⟨I1.kIn,?_⟩) he hpl;exact tE F hr hb hd hx I1 r q
end
structure eZ(N P:Rv)(sc:Scope):Prop where
 kind:sc.kind=.function
 co:sc.isCoroutine=false
 gen:sc.isGenerator=false
 nd:N.Nodup
 pre:N.take P.length=P
 par:∀x∈P,sc.names.lookup x=some .local\/sc.names.lookup x=some .cell
 nofree:∀y∈sc.names,y.2≠.free
theorem jj{kindOf:Str->Option NameKind}{x:Str}:∀{binds:List (Str×Value)} {m:K8},(∀v,(x,v)∉binds)->bindL kindOf binds m x=m x
 |[],_,_=>rfl
 |(n,v)::r,m,h=>by
  unfold bindL;rw[jj λw hw=>h w<|jv _ hw];split;have:x≠n:=by rintro rfl;exact h v lv
  simp[this];rfl
theorem jl{kindOf:Str->Option NameKind}{x:Str}:∀{binds:List (Str×Value)} {m:K8},(∀v,(x,v)∉binds)->bindC kindOf binds m x=m x
 |[],_,_=>rfl
 |(n,v)::r,m,h=>by
  unfold bindC;rw[jl λw hw=>h w<|jv _ hw];split;rfl;have:x≠n:=by rintro rfl;exact h v lv
  simp[this]
theorem jm{kindOf:Str->Option NameKind}{x:Str}{v:Value}:∀{P:Rv} {vs:K9} {i:Nat} {m:K8},P.Nodup->P[i]? = some x->vs[i]? = some v->kindOf x=some .local->
  bindL kindOf (P.zip vs) m x=some v
 |[],_,_,_,_,h,_,_=>by simp at h|_::_,[],_,_,_,_,h,_=>by simp at h
 |p::P,w::vs,0,m,nd,h1,h2,hk=>by
  simp at h1 h2;subst h1;subst h2;show bindL kindOf ((p,w)::P.zip vs) m p=_;unfold bindL;rw[jj λv hv=>(YaC.mp nd).1 (BC hv).1,ks hk];simp
 |p::P,w::vs,i+1,m,nd,h1,h2,hk=>by
  show bindL kindOf ((p,w)::P.zip vs) m x=_;unfold bindL;exact jm (i:=i) (YaC.mp nd).2 (by simpa using h1) (by simpa using h2) hk
theorem jn{kindOf:Str->Option NameKind}{x:Str}{v:Value}:∀{P:Rv} {vs:K9} {i:Nat} {m:K8},P.Nodup->P[i]? = some x->vs[i]? = some v->kindOf x≠some .local->
  bindC kindOf (P.zip vs) m x=some v
 |[],_,_,_,_,h,_,_=>by simp at h|_::_,[],_,_,_,_,h,_=>by simp at h
 |p::P,w::vs,0,m,nd,h1,h2,hk=>by
  simp at h1 h2;subst h1;subst h2;show bindC kindOf ((p,w)::P.zip vs) m p=_;unfold bindC;rw[jl λv hv=>(YaC.mp nd).1 (BC hv).1,jx hk];simp
 |p::P,w::vs,i+1,m,nd,h1,h2,hk=>by
  show bindC kindOf ((p,w)::P.zip vs) m x=_;unfold bindC;exact jn (i:=i) (YaC.mp nd).2 (by simpa using h1) (by simpa using h2) hk
def start(N:Rv)(vs:RH):St:=vs.map some++List.replicate (N.length-vs.length) none
def ei(CX:pK)(P:Program)(w:World)(K:QR)(mg:K8)(base:Heap)(N:Rv)(qual:Str)(scope:Scope)(f:Addr)(cd:Value)(A:Around)(outer:List Env)(s:Shared)(H:Hp)(E:XK):Cx where
 prog:=P
 w:=w
 K:=K
 mg:=mg
 base:=base
 A:=A.deeper<|envOfC qual scope s.heap.objs.size f cd
 N:=N
 s₀:=s
 H₀:=H
 env:=envOfC qual scope s.heap.objs.size f cd
 outer:=outer
 stack:=envOfC qual scope s.heap.objs.size f cd::outer
 ex:=[]
 calm:=true
 fn:=λ_=>true
 pn:=[]
 xe:=λe s'=>wpAny (model P w) (A.deeper<|envOfC qual scope s.heap.objs.size f cd) (leaving (envOfC qual scope s.heap.objs.size f cd) e) (λ_ s''=>CX outer H s E e s'') (λe' s''=>CX outer H s E e' s'') s'
theorem hW{sc:Scope}(h:sc.names.lookup x=some .cell):∃c,(cellsFrom n sc.names []).lookup x=some c:=by have q:=W.cellsFrom_some sc.names n []<|.inl h;exact Option.isSome_iff_exists.mp q
theorem mi{f:Addr}{cd:Value}{outer:List Env}{s1:Shared}{E:XK}
  (S:eZ N ps scope) (hd:A.handled=none) (e0:qr P w K mg base A outer s H) (hl:vs.length=ps.length) (r:Vals vs us)
  (x:InCallC s s.heap.objs.size (bindL (envOfC qual scope s.heap.objs.size f cd).kindOf (ps.zip us) λ_=>none) (cellsFrom (s.heap.objs.size+1) scope.names []) (bindC (envOfC qual scope s.heap.objs.size f cd).kindOf (ps.zip us) λ_=>none) s1) :
  Inv (ei CX P w K mg base N qual scope f cd A outer s H E) [] (start N vs) H s1:=by
 have hpl:ps.length<=N.length:=by have:=congrArg List.length S.pre;rw[fZ]at this;omega
 obtain⟨h1,tk,rfl,hk⟩:=x.done;have noA:∀b:Addr,b∉(ei CX P w K mg base N qual scope f cd A outer s H E).ex:=λb z=>QS (show b∈([]:List Addr) from z) E1;refine ⟨⟨e0.mod,S.kind,rfl,rfl,bU _,λy z c h1 h2=>?_,λy hy=>?_,λy c _ h=>?_,λ_=>hd,Around.frames_deeper e0.frames,.inr ⟨rfl,rfl⟩,λb z=>QS z<|noA b,e0.bs,e0.bsz,λb _ _=>noA b,λb z=>QS z<|noA b,e0.funs,e0.frf,e0.sysn⟩,
  rfl,e0.bare,Un.kept hk,⟨_,x.toInCall.ns,λi y v h1 h2 h3=>?_⟩,λy c h=>⟨_,x.cell y c h⟩,e0.hok.fresh<|bU _,λy c h=>?_,λp hp=>QS (show p∈([]:K4) from hp)<|E1,e0.hok.kept hk,?_⟩
 .exact name_of_addr x.apart (Q6 h1)<|Q6 h2
 .have hy:scope.names.lookup y=some .cell\/scope.names.lookup y=some .free:=hy
  rcases hy with hy|hy
  .exact hW hy
  .exact QS rfl<|S.nofree _ (Q6 hy)
 .exact gY<|x.above y c (Q6 h)
 .have hi:i<vs.length:=by
   unfold start at h2
   by_cases hi:i<vs.length
   .exact hi
   .rw[ly<|by simpa using hi]at h2
    rw[p8]at h2;split at h2<;>cases h2
  have ha:vs[i]? = some v:=by
   unfold start at h2;rw[mJ<|by simpa using hi,cJ]at h2;cases e:vs[i]? with
   |none=>rw[e]at h2;cases h2
   |some a=>rw[e]at h2;cases h2;rfl
  obtain⟨u,hu,rv⟩:=r.get ha;have hp:ps[i]? = some y:=by
   rw[<-S.pre,List.getElem?_take_of_lt<|tv];exact h1
  have ndP:ps.Nodup:=by rw[<-S.pre];exact S.nd.sublist<|List.take_sublist _ _
  refine⟨u,rv,?_⟩;rcases S.par y (iK hp) with k|k
  .exact .inl ⟨k,jm ndP hp hu k⟩
  .obtain⟨c,e⟩:=hW (n:=s.heap.objs.size+1) k
   refine .inr ⟨.inl k,c,e,?_⟩;have q:=x.cell y c e;rw[jn ndP hp hu (by show scope.names.lookup y≠_;rw[k];decide)]at q;exact q
 .exact e0.hok.fresh<|gY (x.above y c<|Q6 h)
 .unfold start
  show _=N.length;rw[dA,aZ,qU];omega
theorem vU{f:Addr}{params:Arguments}{dV kV doc pm cdv ct oc:Value}{an od:Option Addr}
 {sp:Sp} (lk:K.lookup f=some ⟨oc,od,.func<|W.fnOf name qual params body scope dV kV doc pm an cdv ct,osl⟩) (hcd:W.codeIn K cdv qual=true) (S:eZ N ps scope)
  (len:∀vs H Q E,sp vs H Q E->vs.length=ps.length)
  (hbody:∀ (A:Around) (outer:List Env) (s:Shared) (H:Hp) (vs:RH) (Q:VK) (E:XK),Room k (A.deeper<|envOfC qual scope s.heap.objs.size f cdv)->sp vs H Q E->
   ∃t,pJ (ei CX P w K mg base N qual scope f cdv A outer s H E) body t/\t { nx:=λ_ H'=>Q .non H',rt:=Q } (start N vs) H) :
  gF P w K mg base CX (k+1) f (W.fnOf name qual params body scope dV kV doc pm an cdv ct) ps sp:=by
 refine⟨len,λA outer s H args us vs Q E hr e0 hb r hsp=>?_⟩;have hl:=len _ _ _ _ hsp;have KX:K.In s.heap:=e0.mod.kin.keeps λb o e=>(e0.bs b o e).1;have lim:s.heap.NoLimit:=e0.mod.nolimit.keeps λb o e=>(e0.bs b o e).1;have hkind:∀y∈ps.zip us,scope.names.lookup y.1=some .local\/(scope.names.lookup y.1=some .cell/\((cellsFrom (s.heap.objs.size+1) scope.names []).lookup y.1).isSome=true):=λ⟨n,v⟩ hy=>by
  rcases S.par n (BC hy).1 with q|q
  .exact .inl q
  .exact .inr ⟨q,W.cellsFrom_some _ _ _<|.inl q⟩
 refine codeAny_call_function hr.depth (KX _ _ lk) rfl S.co S.gen rfl (W.codeRec_of KX hcd)<|hb _ _ _ _ ?_;refine wpAny_newFunctionEnv_cells S.kind hkind λenv he s1 x=>?_;subst he;refine⟨lim.keeps x.toInCall.keep,codeAny_func ?_⟩;obtain⟨t,ht,hq⟩:=hbody A outer s H vs Q E (hr.deeper _) hsp;have I:Inv (ei CX P w K mg base N qual scope f cdv A outer s H E) [] (start N vs) H s1:=mi S hr.hd e0 hl r x;refine QY (ht [] s1 (start N vs) H _ I hq) (λfl s' hs=>?_) λe s' hs=>hs;have fin:∀{σ':St} {H':Hp} {v:V} {u:Value},Inv (ei CX P w K mg base N qual scope f cdv A outer s H E) [] σ' H' s'->RelV v u->Q v H'->CE outer P w H s Q u s':=
  λ{σ' H' v u} J rv q=>⟨v,H',J.os,J.bare,J.base,J.hok,rv,q⟩
 cases fl with
 |ret u=>
  obtain⟨v,σ',H',J,rv,q⟩:=hs;exact fin J rv q
 |next=>
  obtain⟨σ',H',J,q⟩:=hs;exact fin (v:=V.non) (u:=Value.none) J rfl q
 |brk=>
  obtain⟨_,_,_,q⟩:=hs;exact Ri q
 |cont=>
  obtain⟨_,_,_,q⟩:=hs;exact Ri q
section
variable{pos:Pos}{id T:String}{r:RH->Hp->VK->Prop}
def Fm(r:RH->Hp->VK->Prop)(t:TA):TE:=λσ H Q=>t σ H λvs H1=>r vs H1 Q
theorem oZ(hc:dZ X (.builtin id) r)(hg:Gl X x)(hm:X.mg x=none)(hv:bootBuiltins x=some (.builtin id))(ha:PA X (e::es) t)(hn:(x≠ "__name__":))(hdb:(RA x:))
  (he:{RC X e es}) (hpl:{RD X pos es}):PE X (.Call (.Name x p) (e::es) [] pos) (Fm r t):=by
 intro oI s σ H Q I h;refine Rl<|eQ I hg hm hv ?_ hn hdb;exact PyProof.Rows.callWith_builtin1 (bK (ha pos oI s σ H _ I h) λus s1 ⟨vs,H1,I1,r1,q1⟩=>hc oI s1 σ H1 vs us Q I1 r1 q1) he hpl
theorem jo(hc:dZ X (.type T) r)(hg:Gl X x)(hm:X.mg x=none)(hv:bootBuiltins x=some (.type T))(ha:PA X (e::es) t)(hn:(x≠ "__name__":))(hdb:(RA x:))
  (he:{RC X e es}) (hpl:{RD X pos es}):PE X (.Call (.Name x p) (e::es) [] pos) (Fm r t):=by
 intro oI s σ H Q I h;refine Rl<|eQ I hg hm hv ?_ hn hdb;exact PyProof.Rows.callWith_type1 (bK (ha pos oI s σ H _ I h) λus s1 ⟨vs,H1,I1,r1,q1⟩=>hc oI s1 σ H1 vs us Q I1 r1 q1) he hpl
end
end L2
namespace HT
open PySem PyProof.Rows
section
variable{prog:Program}{w:World}{A:Around}{E:K5}{s:Shared}
theorem cat_tup{t b:Addr}{vs ws:K9}{Q:K5}(ht:IsTup s.heap t vs.toArray)(hb:IsTup s.heap b ws.toArray)(hv:vs≠[])
  (h1:ws=[]->Q (.ref t) s) (h2:ws≠[]->Q (.ref s.heap.objs.size) { s with heap:=s.heap.push { cls:=.type "tuple",data:=.seq (vs++ws).toArray } })
  (hsz:vs.length+ws.length<=sizeLine):wpAny (model prog w) A (binaryOp .Add (.ref t)<|.ref b) Q E s:=by
 obtain⟨⟨cls,dd,data,sl⟩,ho,hc,n,hd⟩:=id ht;obtain⟨⟨cls2,dd2,data2,sl2⟩,ho2,hc2,n2,hd2⟩:=id hb;simp only at hc hd hc2 hd2;subst hc hd hc2 hd2;have e:vs.toArray++ws.toArray=(vs++ws).toArray:=E1
 by_cases hw:ws=[]
 .exact concat_meets ⟨_,ho,rfl⟩ ⟨_,ho2,rfl⟩ noFill_tuple_add seq_tuple_add F.slot_tuple_add F.entry_tuple_add (F.args_tuple_add_2 _ _)
   (tuple_addW1 t b vs.toArray ws.toArray n n2 dd dd2 sl sl2 (by simpa using hv)<|by simp[hw]) ⟨ho,ho2,h1 hw⟩
 .refine concat_meets ⟨_,ho,rfl⟩ ⟨_,ho2,rfl⟩ noFill_tuple_add seq_tuple_add F.slot_tuple_add F.entry_tuple_add (F.args_tuple_add_2 _ _)
   (tuple_addW2 t b vs.toArray ws.toArray n n2 dd dd2 sl sl2 (by simpa using hv) (by simpa using hw) (by rw[fe,fe];exact hsz)) ⟨ho,ho2,?_⟩
  rw[e];exact h2 hw
def sIx(n d:Nat):Option Int->Nat
 |none=>d|some v=>if v<0 then(v+(n:Int)).toNat else min v.toNat n
theorem sIx_none(n d:Nat):sIx n d none=d:=rfl
theorem sIx_nat(n d k:Nat):sIx n d (some (k:Int))=min k n:=by show(if(k:Int)<0 then((k:Int)+(n:Int)).toNat else min (k:Int).toNat n)=min k n;rw[jx<|tv,jO]
theorem tF(n d:Nat)(hd:d<=n)(o:Option Int):sIx n d o<=n:=by
 cases o with
 |none=>exact hd|some v=>show(if v<0 then(v+(n:Int)).toNat else min v.toNat n)<=n;by_cases hv:v<0;rw[ks hv];omega;rw[jx hv];exact Nat.min_le_right _ _
theorem lG(v:Int)(n d:Nat):(if v<0 then max (v+(n:Int)) 0 else min v (n:Int))=((sIx n d (some v):Nat):Int):=by show(if v<0 then max (v+(n:Int)) 0 else min v (n:Int))=(((if v<0 then(v+(n:Int)).toNat else min v.toNat n):Nat):Int);by_cases hv:v<0;simp only[ks hv];omega;simp only[jx hv];omega
theorem kQ(lo hi:Option Int)(n:Nat):Builtin.Slice.sliceAdjust lo hi 1 (n:Int)=(((sIx n 0 lo:Nat):Int),((sIx n n hi:Nat):Int)):=by
 have h1:¬((1:Int)<0):=tv
 unfold Builtin.Slice.sliceAdjust;simp only[h1,if_false];refine Prod.ext ?_ ?_;cases lo with
 |none=>rfl|some v=>exact lG v n 0
 cases hi with
 |none=>rfl|some v=>exact lG v n n
theorem kR(i j:Nat):Builtin.Slice.slicePlaces (i:Int) (j:Int) 1=j-i:=by
 unfold Builtin.Slice.slicePlaces;have h1:(1:Int)>0:=tv
 simp only[h1,if_true,Int.ediv_one];split<;>omega
theorem hX{v:Value}{o:Option Int}{Q:Option Int->Shared->Prop}(p:IsPart v o)(h:Q o s):wpAny (model prog w) A (Builtin.Slice.slicePartIndex v) Q E s:=by
 cases p with
 |none=>exact slicePart_none h|int i t=>exact slicePart_int h
theorem d6{sl:Addr}{vl vu:Value}{lo hi:Option Int}{n:Nat}{Q:Int×Int×Nat->Shared->Prop}(hs:s.heap.IsSliceOf sl vl vu .none)(pl:IsPart vl lo)(pu:IsPart vu hi)
  (h:Q (((sIx n 0 lo:Nat):Int),1,sIx n n hi-sIx n 0 lo) s):wpAny (model prog w) A (Builtin.Slice.sliceApplied (.ref sl)<|pure (n:Int)) Q E s:=by
 obtain⟨os,hos,hcs,hds⟩:=id hs;unfold Builtin.Slice.sliceApplied Builtin.Slice.sliceFields;refine QP<|QP (Q4 hos hds (x:=vl) rfl<|QP<|Q4 hos hds (x:=vu) rfl<|QP<|Q4 hos hds (x:=.none) rfl<|QQ ?_);refine QP<|slicePart_none ?_;show wpAny _ _ (if((1:Int)==0)=true then _ else _) _ _ s;rw[jx<|wp];refine QP<|hX pl (QP<|hX pu<|QP<|QQ ?_);show wpAny _ _ (match Builtin.Slice.sliceAdjust lo hi 1 (n:Int) with|(lo,hi)=>pure (lo,(1:Int),Builtin.Slice.slicePlaces lo hi 1)) _ _ s;rw[kQ lo hi n];show wpAny _ _ (pure (((sIx n 0 lo:Nat):Int),(1:Int),Builtin.Slice.slicePlaces ((sIx n 0 lo:Nat):Int) ((sIx n n hi:Nat):Int) 1)) _ _ s;rw[kR];exact QQ h
theorem o1(xs:Array Value)(i k:Nat):((List.range k).filterMap λ(m:Nat)=>xs[((i:Int)+(m:Int)*1).toNat]?).toArray=((xs.toList.drop i).take k).toArray:=by
 have e:(λ(m:Nat)=>xs[((i:Int)+(m:Int)*1).toNat]?)=λm=>xs[i+m]?:=by
  funext m;have:((i:Int)+(m:Int)*1).toNat=i+m:=tv
  rw[this]
 rw[e];have:=pick_run xs i k;rw[List.filterMap_map]at this;have e2:((λx=>xs[x]?)∘λx=>i+x)=λm=>xs[i+m]?:=rfl;rw[e2]at this;rw[this]
theorem getItem_tuple_cut{t sl:Addr}{items:Array Value}{vl vu:Value}{lo hi:Option Int}{Q:K5}(ht:IsTup s.heap t items)(hs:s.heap.IsSliceOf sl vl vu .none)(pl:IsPart vl lo)(pu:IsPart vu hi)
  (hw:¬(sIx items.size 0 lo=0/\sIx items.size items.size hi=items.size))
  (h:Q (.ref s.heap.objs.size) { s with heap:=s.heap.push { cls:=.type "tuple",data:=.seq ((items.toList.drop<|sIx items.size 0 lo).take<|sIx items.size items.size hi-sIx items.size 0 lo).toArray } })
  (hsz:items.size<=sizeLine):wpAny (model prog w) A (getItem (.ref t)<|.ref sl) Q E s:=by
 have htake:sizeOk (.seq ((items.toList.drop<|sIx items.size 0 lo).take<|sIx items.size items.size hi-sIx items.size 0 lo).toArray):=by
  show((items.toList.drop<|sIx items.size 0 lo).take<|sIx items.size items.size hi-sIx items.size 0 lo).toArray.size<=sizeLine;rw[fe,fZ,iq,y9];omega
 have hj:sIx items.size items.size hi<=items.size:=tF _ _ (bU _) hi;obtain⟨os,hos,hcs,hds⟩:=id hs;have hTs:s.TypeIs (.ref sl) "slice" :=⟨os,hos,hcs⟩
 unfold getItem
 try with_reducible refine Rc ?_
 first|refine QP (QQ ?_)|skip
 refine QP<|wpAny_sequenceKey ht.typeIs wp ?_;refine QP (wpAny_callSpecial?_slot (name:=Str.ofString "__getitem__") ht.typeIs PyProof.Rows.slot_tuple_getitem
  (Re PyProof.Rows.slot_tuple_getitem ht.typeIs entry_tuple_getitem ?_<|args_tuple_getitem _ _))
 show wpAny _ _ (Builtin.Tuple.tupleItemsOf (.ref t) >>= _) _ _ s;refine QP<|tupleItemsOf_ ht ?_;refine QP<|wpAny_typeOf hTs ?_;rw[ks<|wp];refine QP<|d6 hs pl pu ?_;have hno:¬((((sIx items.size 0 lo:Nat):Int)==0&&(1:Int)==1&&(sIx items.size items.size hi-sIx items.size 0 lo)==items.size)=true):=by
  intro q;rw[d9,d9]at q;have q1:((sIx items.size 0 lo:Nat):Int)=0:=eq_of_beq q.1.1;have q2:sIx items.size items.size hi-sIx items.size 0 lo=items.size:=eq_of_beq q.2;exact hw ⟨tv,tv⟩
 show wpAny _ _ (if(((sIx items.size 0 lo:Nat):Int)==0&&(1:Int)==1&&(sIx items.size items.size hi-sIx items.size 0 lo)==items.size)=true then _ else _) _ _ s;rw[jx hno,o1]
 first
  |exact QP (m:=Builtin.Tuple.tupleExact _)<|Q5 (QQ ⟨_,rfl,QQ h⟩) htake
  |exact QP (m:=Builtin.Tuple.tupleExact _)<|Q5 (QP<|QQ<|QQ ⟨_,rfl,QQ h⟩) htake
  |exact QP<|QP (m:=Builtin.Tuple.tupleExact _) (Q5 (QQ<|QQ ⟨_,rfl,QQ h⟩) htake)
  |exact QP<|QP (m:=Builtin.Tuple.tupleExact _) (Q5 (QQ ⟨_,rfl,QQ h⟩) htake)
end
end HT
namespace L2
open PySem PySem.Spec PyProof.Rows
variable{X:Cx}{e:Expr}{r:V->Option Int->Option Int->Hp->VK->Prop}{xs:RH}{n j t':Nat}{i:Int}{oI:K4}{σ:St}{H:Hp}{s:Shared}{its':K9}{f:Array Value->Array Value}{A:Around}{x:V}{u:Value}
abbrev TO:=St->Hp->(Option Int->Hp->Prop)->Prop
def PO(X:Cx)(e:Option Expr)(t:TO):Prop:=
 ∀(oI:K4) (s:Shared) (σ:St) (H:Hp) (Q:Option Int->Hp->Prop),Inv X oI σ H s->t σ H Q->
  wpAny (model X.prog X.w) X.A (evalPart e X.env) (λu s'=>∃o H',Inv X oI σ H' s'/\IsPart u o/\Q o H') X.xe s
def qt:TO:=λ_ H Q=>Q none H
def vV(t:TE):TO:=λσ H Q=>t σ H λx H1=>∃i,x=.int i/\Q (some i) H1
section
variable{te:TE}{lo hi:Option Expr}{tl th:TO}{pos p2:Pos}
theorem qu:PO X none qt:=by intro oI s σ H Q I h;rw[evalPart_none];exact QQ ⟨none,H,I,.none,h⟩
theorem qv(h:PE X e te):PO X (some e) (vV te):=by intro oI s σ H Q I hw;rw[evalPart_some];refine bK (h oI s σ H _ I hw) λu s1 ⟨x,H1,I1,r1,q1⟩=>?_;obtain⟨i,rfl,q⟩:=q1;obtain⟨t,rfl⟩:=r1;exact⟨some i,H1,I1,.int i t,q⟩
def SlR(X:Cx)(r:V->Option Int->Option Int->Hp->VK->Prop):Prop:=
 ∀(oI:K4) (s:Shared) (σ:St) (H:Hp) (x:V) (v vl vu:Value) (lo hi:Option Int) (sl:Addr) (Q:VK),Inv X oI σ H s->RelV x v->s.heap.IsSliceOf sl vl vu .none->IsPart vl lo->IsPart vu hi->r x lo hi H Q->
  ∃T id,typeLookup (.type T) "__getitem__" = pure (some<|.builtin id)/\s.TypeIs v T/\wpAny (model X.prog X.w) X.A (getItem v<|.ref sl) (EP X oI σ Q) X.xe s
theorem SlR.or{r':V->Option Int->Option Int->Hp->VK->Prop}(h:SlR X r)(h':SlR X r'):SlR X (λx lo hi H Q=>r x lo hi H Q\/r' x lo hi H Q):=by
 intro oI s σ H x v vl vu lo hi sl Q I rx hs pl pu q;rcases q with q|q
 exact h oI s σ H x v vl vu lo hi sl Q I rx hs pl pu q;exact h' oI s σ H x v vl vu lo hi sl Q I rx hs pl pu q
def JP(r:V->Option Int->Option Int->Hp->VK->Prop)(te:TE)(tl th:TO):TE:=λσ H Q=>te σ H λx H1=>tl σ H1 λl H2=>th σ H2 λu H3=>r x l u H3 Q
theorem jX(hr:SlR X r)(he:PE X e te)(hl:PO X lo tl)(hu:PO X hi th):PE X (.Subscript e (.Slice lo hi none p2) pos) (JP r te tl th):=by intro oI s σ H Q I h;refine Subscript_<|bK (he oI s σ H _ I h) λv s1 ⟨x,H1,I1,r1,q1⟩=>?_;refine wpAny_Slice<|bK (hl oI s1 σ H1 _ I1 q1) λvl s2 ⟨l,H2,I2,pl,q2⟩=>bK (hu oI s2 σ H2 _ I2 q2) λvu s3 ⟨u,H3,I3,pu,q3⟩=>?_;rw[evalPart_none];refine QQ ?_;have I4:Inv X oI σ H3 { s3 with heap:=s3.heap.push { cls:=.type "slice",data:=.fields #[vl,vu,.none] } }:=I3.kept (t':=s3.toks) λb ob q=>dM _ q;obtain⟨T,id,hT,ht,hg⟩:=hr oI { s3 with heap:=s3.heap.push { cls:=.type "slice",data:=.fields #[vl,vu,.none] } } σ H3 x v vl vu l u s3.heap.objs.size Q I4 r1 (Heap.IsSliceOf.new ..) pl pu q3;show wpAny (model X.prog X.w) X.A (subscriptTail e (.Slice lo hi none p2) v<|.ref s3.heap.objs.size) (EP X oI σ Q) X.xe { s3 with heap:=s3.heap.push { cls:=.type "slice",data:=.fields #[vl,vu,.none] } };exact tail_any (ops:=[.ref s3.heap.objs.size,v]) ht hT hg (by with_unfolding_all rfl)
def jY(xs:RH)(lo hi:Option Int):RH:=(xs.drop<|HT.sIx xs.length 0 lo).take<|HT.sIx xs.length xs.length hi-HT.sIx xs.length 0 lo
theorem gy(xs:RH)(lo hi:Option Int):(jY xs lo hi).length<=xs.length:=by unfold jY;rw[fZ,iq];omega
def Cu(K:QR):V->Option Int->Option Int->Hp->VK->Prop:=λx lo hi H Q=>∃a xs,x=.ref a/\SqT K H a xs/\
 ¬(HT.sIx xs.length 0 lo=0/\HT.sIx xs.length xs.length hi=xs.length)/\∀p,H p=none->Q (.ref p) (upd H p<|.tup<|jY xs lo hi)
theorem sl_tup:SlR X (Cu X.K):=by
 intro oI s σ H x v vl vu lo hi sl Q I rx hs pl pu h;obtain⟨a,xs,rfl,hx,hw,q⟩:=h;cases rx;obtain⟨its,r,ht,hz⟩:=I.tuple hx;have hlen:its.toArray.size=xs.length:=by rw[fe];exact r.length.symm
 refine⟨"tuple",_,PyProof.Rows.slot_tuple_getitem.lookup,ht.typeIs,?_⟩;refine HT.getItem_tuple_cut ht hs pl pu (by rw[hlen];exact hw) ?_ (by rw[hlen];exact hz);rw[hlen];refine⟨.ref s.heap.objs.size,_,I.laid (t':=s.toks) (o:=.tup<|jY xs lo hi) (λb ob q=>dM _ q) (bU _) ?_,rfl,q _<|I.hok.fresh<|bU _⟩;exact⟨gP (gy xs lo hi) hz,_,(r.drop<|HT.sIx xs.length 0 lo).take<|HT.sIx xs.length xs.length hi-HT.sIx xs.length 0 lo,IsTup.new _ _⟩
def vW(K:QR):R2:=λx y H Q=>∃a b xs ys,x=.ref a/\y=.ref b/\SqT K H a xs/\SqT K H b ys/\xs≠[]/\xs.length+ys.length<=sizeLine/\
 (ys=[]->Q (.ref a) H)/\(ys≠[]->∀p,H p=none->Q (.ref p) (upd H p<|.tup<|xs++ys))
theorem Vals.nil_iff{us:K9}(r:Vals xs us):us=[]↔xs=[]:=by
 cases r with
 |nil=>simp|cons _ _=>simp
theorem qw:OpR X (binaryOp .Add) (vW X.K):=by intro oI s σ H x y v u Q I rx ry h;obtain⟨a,b,xs,ys,rfl,rfl,ha,hb,hx,hz,q1,q2⟩:=h;cases rx;cases ry;obtain⟨its,r1,p1,_⟩:=I.tuple ha;obtain⟨its2,r2,p2,_⟩:=I.tuple hb;refine HT.cat_tup p1 p2 (λz=>hx<|r1.nil_iff.mp z) (λz=>⟨.ref a,H,I,rfl,q1<|r2.nil_iff.mp z⟩) (λz=>?_) (by rw[<-r1.length,<-r2.length];exact hz);refine⟨.ref s.heap.objs.size,_,I.laid (t':=s.toks) (o:=.tup<|xs++ys) (λb ob q=>dM _ q) (bU _) ?_,rfl,q2 (λw=>z<|r2.nil_iff.mpr w) _<|I.hok.fresh<|bU _⟩;exact⟨by rw[dA];exact hz,_,r1.append r2,IsTup.new _ _⟩
end
def kS(n:Nat)(i:Int):Option Nat:=if 0<=i then(if i<n then some i.toNat else none) else if -(n:Int)<=i then some (i+n).toNat else none
def et{α:Type}(xs:List α)(i:Int):Option α:=(kS xs.length i).bind λj=>xs[j]?
theorem lH(h:kS n i=some j):seqIndex? i n=some j/\j<n/\-(n:Int)<=i/\i<n:=by unfold kS at h;by_cases h0:0<=i;rw[ks h0]at h;by_cases h1:i<n;rw[ks h1]at h;have e:i.toNat=j:=QW h;exact⟨by rw[seqIndex_of h0 h1,e],tv,tv,h1⟩;rw[jx h1]at h;cases h;rw[jx h0]at h;by_cases h1:-(n:Int)<=i;rw[ks h1]at h;have e:(i+n).toNat=j:=QW h;exact⟨by rw[seqIndex_neg tv h1,e],tv,h1,tv⟩;rw[jx h1]at h;cases h
theorem jB{α:Type}{xs:List α}{v:α}(h:et xs i=some v):∃j,seqIndex? i xs.length=some j/\xs[j]? = some v/\j<xs.length/\-(xs.length:Int)<=i/\i<xs.length:=by
 unfold et at h;cases e:kS xs.length i with
 |none=>rw[e]at h;cases h
 |some j=>rw[e]at h;obtain⟨h1,h2,h3,h4⟩:=lH e;exact⟨j,h1,h,h2,h3,h4⟩
theorem bY{α:Type}{xs:List α}{v:α}(h:xs[j]? = some v):et xs (j:Int)=some v:=by
 have hj:j<xs.length:=(Yap.mp h).1;have e:kS xs.length (j:Int)=some j:=by unfold kS;rw[ks<|tv,ks<|tv];simp
 unfold et;rw[e];exact h
theorem jZ{α:Type}(xs:List α)(v:α):et (xs++[v]) (-1)=some v:=by
 have hl:(xs++[v]).length=xs.length+1:=E1
 have e:kS (xs++[v]).length (-1)=some xs.length:=by unfold kS;rw[hl,jx<|wp,ks<|tv];congr 1;omega
 unfold et;rw[e];show(xs++[v])[xs.length]? = some v;simp
def lI(b:Expr):Prop:=∀o i,subscripted b false o i=operate [o,i] (getItem o i)
def IxR(X:Cx)(r:R2):Prop:=
 ∀(value slice:Expr) (oI:K4) (s:Shared) (σ:St) (H:Hp) (x y:V) (v u:Value) (Q:VK),Inv X oI σ H s->RelV x v->RelV y u->r x y H Q->
  subscripted slice false v u=operate [v,u] (getItem v u)->wpAny (model X.prog X.w) X.A (subscriptTail value slice v u) (EP X oI σ Q) X.xe s
def Fn(X:Cx)(id:String)(r:V->RH->Hp->VK->Prop):Prop:=
 ∀(oI:K4) (s:Shared) (σ:St) (H:Hp) (x:V) (xs:RH) (v:Value) (us:K9) (Q:VK),Inv X oI σ H s->RelV x v->Vals xs us->r x xs H Q->
  wpAny (model X.prog X.w) X.A (call (.builtin id) (v::us)) (EP X oI σ Q) X.xe s
section
variable{a b:Expr}{ta tb:TE}{pos:Pos}
theorem IxR.or{r r':R2}(h:IxR X r)(h':IxR X r'):IxR X (λx y H Q=>r x y H Q\/r' x y H Q):=by
 intro value slice oI s σ H x y v u Q I rx ry q hs;rcases q with q|q
 exact h value slice oI s σ H x y v u Q I rx ry q hs;exact h' value slice oI s σ H x y v u Q I rx ry q hs
theorem vX{r:R2}(hr:IxR X r)(ha:PE X a ta)(hb:PE X b tb)(hs:lI b):PE X (.Subscript a b pos) (zK r ta tb):=by intro oI s σ H Q I h;exact Subscript_<|sZ ha hb I h λv u s2 x y H2 I2 rx ry q=>hr a b oI s2 σ H2 x y v u Q I2 rx ry q (hs _ _)
def vY(K:QR):R2:=λx y H Q=>∃p xs i v,x=.ref p/\y=.int i/\SqL K H p xs/\et xs i=some v/\Q v H
def vZ(K:QR):R2:=λx y H Q=>∃p xs i v,x=.ref p/\y=.int i/\SqT K H p xs/\et xs i=some v/\Q v H
def v3:R2:=λx y H Q=>∃z i c,x=.str z/\y=.int i/\z.length<=sizeLine/\et z.cps.toList i=some c/\Q (.str ⟨#[c]⟩) H
theorem ix_list:IxR X (vY X.K):=by
 intro value slice oI s σ H x y v u Q I rx ry h hs;obtain⟨p,xs,i,z,rfl,rfl,hq,he,q⟩:=h;cases rx;obtain⟨t,rfl⟩:=ry;obtain⟨its,r,pl,hz⟩:=I.list hq;obtain⟨j,h1,h2,h3,h4,h5⟩:=jB he;obtain⟨w,ew,rw'⟩:=r.get h2;have hl:=r.length;have hn:=gh;have fin:EP X oI σ Q w s:=⟨z,H,I,rw',q⟩;by_cases h0:0<=i;have hj:i.toNat=j:=by rw[seqIndex_of h0 h5]at h1;exact QW h1
 exact item_listR pl.isList h0 tv (by rw[hj];simpa using ew) fin hs;have hj:(i+(its.toArray.size:Int)).toNat=j:=by rw[seqIndex_neg tv h4]at h1;rw[fe,<-hl];exact QW h1
 exact subscriptTail_builtinR (x:=w) pl.isList.typeIs slot_list_getitem.lookup
  (wpAny_getItem_list_neg (Q:=λr s'=>r=w/\EP X oI σ Q r s') pl.isList tv (by rw[fe]<;>omega) tv (by rw[hj];simpa using ew) ⟨rfl,fin⟩) hs
theorem ix_tup:IxR X (vZ X.K):=by
 intro value slice oI s σ H x y v u Q I rx ry h hs;obtain⟨p,xs,i,z,rfl,rfl,hq,he,q⟩:=h;cases rx;obtain⟨t,rfl⟩:=ry;obtain⟨its,r,pl,hz⟩:=I.tuple hq;obtain⟨j,h1,h2,h3,h4,h5⟩:=jB he;obtain⟨w,ew,rw'⟩:=r.get h2;have hl:=r.length;have hn:=gh;have fin:EP X oI σ Q w s:=⟨z,H,I,rw',q⟩;exact subscriptTail_builtinR (x:=w) pl.typeIs slot_tuple_getitem.lookup
  (getItem_tuple (j:=j) (Q:=λr s'=>r=w/\EP X oI σ Q r s') pl tv tv (by rw[fe,<-hl];exact h1) (by simpa using ew) ⟨rfl,fin⟩) hs
theorem tG:IxR X v3:=by
 intro value slice oI s σ H x y v u Q I rx ry h hs;obtain⟨z,i,c,rfl,rfl,hz,he,q⟩:=h;obtain⟨t,rfl⟩:=rx;obtain⟨t',rfl⟩:=ry;obtain⟨j,h1,h2,h3,h4,h5⟩:=jB he;have hl:z.cps.toList.length=z.length:=by simp[Str.length]
 rw[hl]at h1 h4 h5;have hn:=gh;exact tail_any (typeIs_str s z t) slot_str_getitem.lookup (getItem_str (c:=c) (by
  have e1:decide (i < -(2^63:Int))=false:=QU tv;have e2:decide (i ≥ 2^63)=false:=QU tv;rw[e1,e2,Bool.or_false]) (by rw[h1];simpa using h2) ⟨.str ⟨#[c]⟩,H,I.tok _,⟨_,rfl⟩,q⟩) hs
def Fo(K:QR):R2:=λx y H Q=>vY K x y H Q\/vZ K x y H Q\/v3 x y H Q
theorem o4:IxR X (Fo X.K):=ix_list.or<|ix_tup.or tG
theorem kT(its:K9)(n j:Nat)(u:Value):Obj.mapSeq (·.setIfInBounds j u) { cls:=.type "list",data:=.seq its.toArray n }={ cls:=.type "list",data:=.seq (its.set j u).toArray n }:=by simp[Obj.mapSeq]
theorem Inv.lst{oI:K4}{σ:St}{H:Hp}{s:Shared}{p:Addr}{xs:RH}(I:Inv X oI σ H s)(h:H p=some (.lst xs)) :
  ∃(its:K9) (n:Nat),Vals xs its/\s.heap.get? p=some { cls:=.type "list",data:=.seq its.toArray n }/\xs.length<=sizeLine:=by
 obtain⟨z,its,n,r,e⟩:=I.hok p _ h;exact⟨its,n,r,e,z⟩
theorem Inv.lstUpd{p:Addr}{ys:RH}{its:K9}{n':Nat}{f:Obj->Obj}(I:Inv X oI σ H s)(h:H p=some (.lst xs))
  (ho:s.heap.get? p=some { cls:=.type "list",data:=.seq its.toArray n }) (hf:f { cls:=.type "list",data:=.seq its.toArray n }={ cls:=.type "list",data:=.seq its'.toArray n' }) (r:Vals ys its') (hz:ys.length<=sizeLine) (t:Nat) :
  Inv X oI σ (upd H p<|.lst ys) { s with heap:=s.heap.update p f,toks:=t }:=by
 have e:(s.heap.update p f).get? p=some { cls:=.type "list",data:=.seq its'.toArray n' }:=by
  rw[ze f ho (by rw[hf]<;>rfl),hf]
 refine I.write (x:=p) (e:=p) (by rw[h];trivial) (.inl rfl) (λb u hb q=>(sh _ _<|QX hb).trans q) ⟨_,e⟩ ?_<|.inl ⟨_,h⟩;exact⟨hz,its',n',r,e⟩
def v4:V->V->V->Hp->(Hp->Prop)->Prop:=λo i v H Q=>∃p xs k j,o=.ref p/\i=.int k/\H p=some (.lst xs)/\kS xs.length k=some j/\Q (upd H p<|.lst<|xs.set j v)
theorem j0:vL X v4:=by
 intro oI s σ H o i v ov iv u Q I ro ri rv h;obtain⟨p,xs,k,j,rfl,rfl,hp,hj,q⟩:=h;cases ro;obtain⟨t,rfl⟩:=ri;obtain⟨its,n,r,ho,hz⟩:=I.lst hp;obtain⟨h1,h2,h3,h4⟩:=lH hj;have hl:=r.length;have hn:=gh;have I':Inv X oI σ (upd H p<|.lst<|xs.set j v) { s with heap:=s.heap.update p (Obj.mapSeq (·.setIfInBounds j u)) }:=
  I.lstUpd hp ho (kT its n j u) (r.set rv j) (by rw[fD];exact hz) s.toks
 by_cases h0:0<=k;have hk:k.toNat=j:=by rw[seqIndex_of h0 h4]at h1;exact QW h1
 exact W.ki_setAt ho h0 tv (by rw[fe,<-hl];exact h4) (by rw[hk];exact⟨_,I',q⟩);have hk:(k+(its.toArray.size:Int)).toNat=j:=by rw[seqIndex_neg tv h3]at h1;rw[fe,<-hl];exact QW h1
 exact W.ki_setBack ho tv (by rw[fe,<-hl];exact h3) tv (by rw[hk];exact⟨_,I',q⟩)
theorem jC(lo hi:Option Int)(n:Nat):(sliceBounds lo hi none n).1=((HT.sIx n 0 lo:Nat):Int)/\(sliceBounds lo hi none n).2.1=((HT.sIx n n hi:Nat):Int)/\(sliceBounds lo hi none n).2.2=1:=by
 refine⟨?_,?_,rfl⟩;cases lo with
 |none=>simp[sliceBounds,HT.sIx]|some i=>simp only[sliceBounds,HT.sIx,Option.getD_none,show(1:Int)>0 by decide,if_true];by_cases h:i<0;simp only[h,if_true]<;>omega;simp only[h,if_false]<;>omega
 cases hi with
 |none=>simp[sliceBounds,HT.sIx]|some i=>simp only[sliceBounds,HT.sIx,Option.getD_none,show(1:Int)>0 by decide,if_true];by_cases h:i<0;simp only[h,if_true]<;>omega;simp only[h,if_false]<;>omega
theorem iP(its:K9)(lo hi:Option Int):slicePick its.toArray lo hi none=((its.drop<|HT.sIx its.length 0 lo).take<|HT.sIx its.length its.length hi-HT.sIx its.length 0 lo).toArray:=by obtain⟨h1,h2,h3⟩:=jC lo hi its.toArray.size;unfold slicePick;rw[h1,h2,h3];simp only[sliceRange_one,pick_run,fe]<;>rfl
def Cv(K:QR):V->Option Int->Option Int->Hp->VK->Prop:=λx lo hi H Q=>∃a xs,x=.ref a/\SqL K H a xs/\∀p,H p=none->Q (.ref p) (upd H p<|.lst<|jY xs lo hi)
theorem sl_list:SlR X (Cv X.K):=by intro oI s σ H x v vl vu lo hi sl Q I rx hs pl pu h;obtain⟨a,xs,rfl,hx,q⟩:=h;cases rx;obtain⟨its,r,ht,hz⟩:=I.list hx;have hlen:=r.length;refine⟨"list",_,slot_list_getitem.lookup,ht.isList.typeIs,?_⟩;refine wpAny_getItem_list_slice ht.isList hs pl pu .none E1 ?_ (by rw[fe]<;>omega);rw[iP,<-hlen];refine⟨.ref s.heap.objs.size,_,I.laid (t':=s.toks) (o:=.lst<|jY xs lo hi) (λb ob q=>dM _ q) (bU _) ?_,rfl,q _<|I.hok.fresh<|bU _⟩;exact⟨gP (gy xs lo hi) hz,_,0,(r.drop<|HT.sIx xs.length 0 lo).take<|HT.sIx xs.length xs.length hi-HT.sIx xs.length 0 lo,gZ _ rfl⟩
def fQ:V->Bool
 |.non=>true|.bl _=>true|.int _=>true|.str _=>true|_=>false
def rj:V->V->Bool
 |.non,.non=>true|.bl a,.bl b=>a==b|.bl a,.int b=>(if a then 1 else 0)==b|.int a,.bl b=>a==(if b then 1 else 0)|.int a,.int b=>a==b|.str a,.str b=>a==b|_,_=>false
theorem tH{y:V}{v:Value}(ry:RelV y u)(rx:RelV x v)(fy:fQ y=true)(fx:fQ x=true):SeqAt.EqAt A s u v (rj y x):=by
 cases y with
 |non=>
  cases ry;cases x with
  |non=>cases rx;exact SeqAt.EqAt.same _
  |bl b=>cases rx;exact SeqAt.EqAt.none_bool b
  |int b=>obtain⟨t,rfl⟩:=rx;exact SeqAt.EqAt.none_int b t
  |str b=>obtain⟨t,rfl⟩:=rx;exact SeqAt.EqAt.none_str b t
  |_=>exact QS (show false=true from fx) oC
 |bl a=>
  cases ry;cases x with
  |non=>cases rx;exact SeqAt.EqAt.bool_none a
  |bl b=>cases rx;exact SeqAt.EqAt.bool_bool a b
  |int b=>obtain⟨t,rfl⟩:=rx;exact SeqAt.EqAt.bool_int a b t
  |str b=>obtain⟨t,rfl⟩:=rx;exact SeqAt.EqAt.bool_str a b t
  |_=>exact QS (show false=true from fx) oC
 |int a=>
  obtain⟨t',rfl⟩:=ry;cases x with
  |non=>cases rx;exact SeqAt.EqAt.int_none a t'
  |bl b=>cases rx;exact SeqAt.EqAt.int_bool a t' b
  |int b=>obtain⟨t,rfl⟩:=rx;exact SeqAt.EqAt.int_int a t' b t
  |str b=>obtain⟨t,rfl⟩:=rx;exact SeqAt.EqAt.int_str a t' b t
  |_=>exact QS (show false=true from fx) oC
 |str a=>
  obtain⟨t',rfl⟩:=ry;cases x with
  |non=>cases rx;exact SeqAt.EqAt.str_none a t'
  |bl b=>cases rx;exact SeqAt.EqAt.str_bool a t' b
  |int b=>obtain⟨t,rfl⟩:=rx;exact SeqAt.EqAt.str_int a t' b t
  |str b=>obtain⟨t,rfl⟩:=rx;exact SeqAt.EqAt.str_str a t' b t
  |_=>exact QS (show false=true from fx) oC
 |_=>exact QS (show false=true from fy) oC
def kU(x:V)(u:Value):Bool:=match u with|.none=>rj .non x|.bool b=>rj (.bl b) x|.int i _=>rj (.int i) x|.str z _=>rj (.str z) x|_=>false
theorem o5{y:V}(r:RelV y u)(f:fQ y=true):kU x u=rj y x:=by
 cases y with
 |non=>cases r;rfl
 |bl b=>cases r;rfl
 |int i=>obtain⟨t,rfl⟩:=r;rfl
 |str z=>obtain⟨t,rfl⟩:=r;rfl
 |_=>exact QS (show false=true from f) oC
theorem fS{x:V}:∀{xs:RH} {us:K9},Vals xs us->xs.all fQ=true->us.any (kU x)=xs.any λy=>rj y x
 |_,_,.nil,_=>rfl|y::xs,u::us,.cons r t,f=>by rw[vn,d9]at f;rw[zg,zg,o5 r f.1,fS t f.2]
theorem eT{A:Around}{s:Shared}{x:V}{v:Value}(rx:RelV x v)(fx:fQ x=true):∀{xs:RH} {us:K9},Vals xs us->xs.all fQ=true->∀u∈us,SeqAt.EqAt A s u v (kU x u)
 |_,_,.nil,_=>λu hu=>by cases hu
 |y::xs,u::us,.cons r t,f=>λu' hu=>by
  rw[vn,d9]at f;rcases Yan.mp hu with rfl|hu
  rw[o5 r f.1];exact tH r rx f.1 fx;exact eT rx fx t f.2 u' hu
def zM(x:V)(xs:RH):Bool:=xs.any λy=>rj y x
def Cw(K:QR)(neg:Bool):R2:=λx y H Q=>∃p xs,y=.ref p/\(SqL K H p xs\/SqT K H p xs)/\fQ x=true/\xs.all fQ=true/\Q (.bl (if neg then !zM x xs else zM x xs)) H
theorem mj:OpR X (compareOp .In) (Cw X.K false):=by
 intro oI s σ H x y v u Q I rx ry h;obtain⟨p,xs,rfl,hq,fx,fs,q⟩:=h;cases ry;rcases hq with hq|hq
 obtain⟨its,r,pl,hz⟩:=I.list hq;refine SeqAt.in_listAt (kU x) pl.isList (λw hw=>eT rx fx r fs w<|by simpa using hw) ⟨.bl _,H,I,rfl,?_⟩;rw[show its.toArray.any (kU x)=its.any (kU x) by simp,fS r fs];exact q;obtain⟨its,r,pl,hz⟩:=I.tuple hq;refine SeqAt.in_tupleAt (kU x) pl (λw hw=>eT rx fx r fs w<|by simpa using hw) ⟨.bl _,H,I,rfl,?_⟩;rw[show its.toArray.any (kU x)=its.any (kU x) by simp,fS r fs];exact q
theorem jD:OpR X (compareOp .NotIn) (Cw X.K true):=by
 intro oI s σ H x y v u Q I rx ry h;obtain⟨p,xs,rfl,hq,fx,fs,q⟩:=h;cases ry;rcases hq with hq|hq
 obtain⟨its,r,pl,hz⟩:=I.list hq;refine SeqAt.notIn_listAt (kU x) pl.isList (λw hw=>eT rx fx r fs w<|by simpa using hw) ⟨.bl _,H,I,rfl,?_⟩;rw[show its.toArray.any (kU x)=its.any (kU x) by simp,fS r fs];exact q;obtain⟨its,r,pl,hz⟩:=I.tuple hq;refine SeqAt.notIn_tupleAt (kU x) pl (λw hw=>eT rx fx r fs w<|by simpa using hw) ⟨.bl _,H,I,rfl,?_⟩;rw[show its.toArray.any (kU x)=its.any (kU x) by simp,fS r fs];exact q
theorem jE:dZ X (.builtin "len") (λxs H Q=>∃p ys,xs=[.ref p]/\(SqL X.K H p ys\/SqT X.K H p ys)/\Q (.int ys.length) H):=by
 intro oI s σ H xs us Q I r h;obtain⟨p,ys,rfl,hq,q⟩:=h;obtain⟨u,rfl,rx⟩:=fP r;cases rx;have hn:=gh;rcases hq with hq|hq
 obtain⟨its,r',pl,hz⟩:=I.list hq;have hlen:=r'.length;exact Calls.call_len_list pl.isList (by simp only[fe]<;>omega) ⟨.int ys.length,H,I.tok _,⟨s.toks+1,by rw[fe,hlen]⟩,q⟩;obtain⟨its,r',pl,hz⟩:=I.tuple hq;have hlen:=r'.length;exact len_tuple pl (by simp only[fe]<;>omega) ⟨.int ys.length,H,I.tok _,⟨s.toks+1,by rw[fe,hlen]⟩,q⟩
theorem jF:dZ X (.type "list") (λxs H Q=>∃p ys,xs=[.ref p]/\(SqL X.K H p ys\/SqT X.K H p ys)/\∀l,H l=none->Q (.ref l) (upd H l<|.lst ys)):=by
 intro oI s σ H xs us Q I r h;obtain⟨p,ys,rfl,hq,q⟩:=h;obtain⟨u,rfl,rx⟩:=fP r;cases rx;have fin:∀(its:K9),Vals ys its->ys.length<=sizeLine->∀(h':Heap) (c':Nat),(∀b o',s.heap.get? b=some o'->h'.get? b=some o')->
   h'.get? s.heap.objs.size=some { cls:=.type "list",dict:=none,data:=.seq its.toArray c',slots:=#[] }->EP X oI σ Q (.ref s.heap.objs.size) { s with heap:=h' }:=λits r' hz h' c' kp e=>
  ⟨.ref s.heap.objs.size,_,I.laid (t':=s.toks) kp (bU _) (show ObjOk X.prog X.w _ h' _ (.lst ys) from⟨hz,its,c',r',e⟩),rfl,q _<|I.hok.fresh<|bU _⟩
 rcases hq with hq|hq
 obtain⟨its,r',pl,hz⟩:=I.list hq;have hlen:=r'.length;obtain⟨o,ho,hc,n,hd⟩:=pl.isList;exact call_list_seq p (.inl rfl) ho hc hd (λh' c' kp e=>fin its r' hz h' c' kp e) (by simp only[fe]<;>omega);obtain⟨its,r',pl,hz⟩:=I.tuple hq;have hlen:=r'.length;obtain⟨o,ho,hc,n,hd⟩:=pl;exact call_list_seq p (.inr rfl) ho hc hd (λh' c' kp e=>fin its r' hz h' c' kp e) (by simp only[fe]<;>omega)
theorem iQ:dZ X (.type "tuple") (λxs H Q=>∃p ys,xs=[.ref p]/\((SqL X.K H p ys/\∀l,H l=none->Q (.ref l) (upd H l<|.tup ys))\/(SqT X.K H p ys/\Q (.ref p) H))):=by
 intro oI s σ H xs us Q I r h;obtain⟨p,ys,rfl,h⟩:=h;obtain⟨u,rfl,rx⟩:=fP r;cases rx;rcases h with⟨hq,q⟩|⟨hq,q⟩
 obtain⟨its,r',pl,hz⟩:=I.list hq;have hlen:=r'.length;refine call_tuple_list pl.isList (λh' kp=>?_) (by simp only[fe]<;>omega);have I1:Inv X oI σ H { s with heap:=h' }:=I.kept (t':=s.toks) kp;have I2:Inv X oI σ (upd H h'.objs.size<|.tup ys) { s with heap:=h'.push { cls:=.type "tuple",data:=.seq its.toArray } }:=
  I1.laid (t':=s.toks) (λb o e=>dM _ e) (bU _) (show ObjOk X.prog X.w _ _ _ (.tup ys) from⟨hz,its,r',IsTup.new _ _⟩)
 exact⟨.ref h'.objs.size,_,I2,rfl,q _<|I1.hok.fresh<|bU _⟩;obtain⟨its,r',pl,hz⟩:=I.tuple hq;exact call_tuple_same pl ⟨.ref p,H,I,rfl,q⟩
def Fq(K:QR)(T:String)(x:V)(H:Hp):Prop:=match x with
 |.str _=>T = "str"|.int _=>T = "int"
 |.ref p=>(T = "list" /\∃xs,SqL K H p xs)\/(T = "tuple" /\∃o,K.lookup p=some o/\o.cls=.type "tuple" /\o.dict=none)\/
   (T = "dict" /\((∃kvs,H p=some (.dK kvs))\/∃kvs,H p=some (.dT kvs)))\/(T = "set" /\∃S n,H p=some (.set S n))
 |_=>False
theorem tI{T:String}{v:Value}(I:Inv X oI σ H s)(r:RelV x v)(ty:Fq X.K T x H) :
  s.TypeIs v T/\∀a,v=.ref a->∃ob,s.heap.get? a=some ob/\ob.dict=none:=by
 cases x with
 |str z=>
  obtain⟨t,rfl⟩:=r;cases(show T = "str" from ty);exact⟨typeIs_str s z t,λ_ e=>nomatch e⟩
 |int i=>
  obtain⟨t,rfl⟩:=r;cases(show T = "int" from ty);exact⟨typeIs_int s i t,λ_ e=>nomatch e⟩
 |ref p=>
  cases r;rcases ty with⟨rfl,xs,hq⟩|⟨rfl,o,hk,hc,hd⟩|⟨rfl,hk⟩|⟨rfl,S,n,hk⟩
  .obtain⟨its,_,pl,_⟩:=I.list hq
   refine⟨pl.isList.typeIs,λa e=>?_⟩;cases e;obtain⟨o,n,e,c,hd,_⟩:=pl;exact⟨o,e,hd⟩
  .refine⟨⟨o,I.kIn p o hk,hc⟩,λa e=>?_⟩
   cases e;exact⟨o,I.kIn _ o hk,hd⟩
  .have z:∃o,s.heap.get? p=some o/\o.ExactDict:=by
    rcases hk with⟨kvs,hk⟩|⟨kvs,hk⟩
    .obtain⟨_,_,_,_,o,_,_,e,ex,_⟩:=I.hok p _ hk
     exact⟨o,e,ex⟩
    .obtain⟨_,_,_,_,o,_,_,e,ex,_⟩:=I.hok p _ hk
     exact⟨o,e,ex⟩
   obtain⟨o,e,ex⟩:=z;refine⟨⟨o,e,ex.1⟩,λa e2=>?_⟩;cases e2;exact⟨o,e,ex.2.1⟩
  .obtain⟨o,_,_,_,e,ex,_⟩:=I.hok p _ hk
   refine⟨⟨o,e,ex.1⟩,λa e2=>?_⟩;cases e2;exact⟨o,e,ex.2.1⟩
 |_=>exact Ri ty
def JQ(K:QR)(T:String)(r:V->RH->Hp->VK->Prop)(to:TE)(t:TA):TE:=λσ H Q=>to σ H λx H1=>Fq K T x H1/\t σ H1 λxs H2=>r x xs H2 Q
variable{o:Expr}{es:List Expr}{to:TE}{t:TA}{name:Str}{apos cpos:Pos}{T id:String}{r:V->RH->Hp->VK->Prop}
theorem v6(pa:PlainAttrs T)(slot:Slot T name id)(hty:typeOf (.builtin id)=pure (.type "method_descriptor"))(hm:Fn X id r)(ho:PE X o to)(ha:PA X (e::es) t)
  (hbase:{attributeBase o name X.env (eval o X.env)=eval o X.env})
  (hfew:{((backTo cpos<|starEach (e::es) X.env).all (λx=>!x.1) && (backToKw cpos<|keywordEach [] X.env).all (λx=>x.1.isSome)
   && decide ((e::es).length+([]:List Keyword).length+(if([]:List Keyword).isEmpty then 0 else 1)<30))=true})
  (hline:{(apos.endLine==cpos.line)=true}) (hs:{starEach (e::es) X.env=(false,eval e X.env)::starEach es X.env}) (hplain:{(backTo cpos<|starEach es X.env).any (·.1)=false}) :
  PE X (.Call (.Attribute o name apos) (e::es) [] cpos) (JQ X.K T r to t):=by
 intro oI s σ H Q I h;refine wpAny_Call_method_late hbase hfew hline rfl<|bK (ho oI s σ H _ I h) λv s1 ⟨x,H1,I1,r1,ty,q1⟩=>?_;obtain⟨h1,h2⟩:=tI I1 r1 ty;refine⟨T,id,pa,slot,hty,h1,h2,?_⟩;have hA:=ha cpos oI s1 σ H1 _ I1 q1;rw[hs]at hA ⊢;refine Calls.callWith_builtin (by show(false||(backTo cpos<|starEach es X.env).any (·.1))=false;rw[hplain]<;>rfl)<|Calls.evalArgs_plain ?_;exact bK hA λus s2 ⟨vs,H2,I2,r2,q2⟩=>hm oI s2 σ H2 x vs v us Q I2 r1 r2 q2
/- xs.append(e),list.index on a module's tuple .. are Fn facts of 06m -/
end
def JR(X:Cx)(id:String)(r:V->RH->Hp->VK->Prop):Prop:=
 ∀(oI:K4) (s:Shared) (σ:St) (H:Hp) (x:V) (xs:RH) (v:Value) (us:K9) (Q:VK),Inv X oI σ H s->RelV x v->Vals xs us->r x xs H Q->
  wpAny (model X.prog X.w) X.A (call (.builtin id) (v::us)) (EP X oI σ Q) X.xe s
theorem Vals.one:∀{x:V} {us:K9},Vals [x] us->∃u,us=[u]/\RelV x u
 |_,_,.cons r .nil=>⟨_,rfl,r⟩
theorem Vals.rep{xs:RH}{us:K9}(h:Vals xs us):∀k:Nat,Vals (List.replicate k xs).flatten (List.replicate k us).flatten
 |0=>.nil|k+1=>by rw[iM,iM,uA,uA];exact Vals.append h<|Vals.rep h k
theorem e7(its:K9):∀(k:Nat) (acc:K9),
  List.foldl (λx1 x2=>x1++x2) acc.toArray (List.replicate k its.toArray)=(acc++(List.replicate k its).flatten).toArray
 |0,acc=>E1
 |k+1,acc=>by
  have e:acc.toArray++its.toArray=(acc++its).toArray:=E1
  have e2:(acc++its)++(List.replicate k its).flatten=acc++(List.replicate (k+1) its).flatten:=by
   rw[iM,uA,jP]
  rw[<-e2,<-e7 its k (acc++its),<-e,iM,List.foldl_cons]
section
variable{l b:Addr}{ys zs:RH}
theorem Inv.lset{its:K9}(I:Inv X oI σ H s)(hH:H l=some (.lst xs))
  (e:s.heap.get? l=some { cls:=.type "list",data:=.seq its.toArray n }) (hf:f its.toArray=its'.toArray) (hv:Vals ys its') (hz:ys.length<=sizeLine) :
  Inv X oI σ (upd H l<|.lst ys) { s with heap:=s.heap.update l<|Obj.mapSeq f,toks:=t' }:=by
 have q:=PySem.IsL.update e f;rw[hf]at q;refine I.write (x:=l) (e:=l) (by rw[hH];exact trivial) (.inl rfl) (λb' u hb hu=>(sh s.heap (Obj.mapSeq f)<|QX hb).trans hu) ⟨_,q⟩ ?_<|.inl ⟨_,hH⟩;exact⟨hz,its',_,hv,q⟩
theorem Inv.lnew{its:K9}(I:Inv X oI σ H s)(hv:Vals ys its)(hz:ys.length<=sizeLine) :
  Inv X oI σ (upd H s.heap.objs.size<|.lst ys) { s with heap:=s.heap.push { cls:=.type "list",data:=.seq its.toArray },toks:=t' }:=
 I.laid (λ_ _ q=>dM _ q) (bU _) ⟨hz,its,0,hv,gZ _ rfl⟩
theorem Inv.fresh(I:Inv X oI σ H s):H s.heap.objs.size=none:=I.hok.fresh<|bU _
theorem Inv.lstM(I:Inv X oI σ H s)(hH:H l=some (.lst xs)):xs.length<=sizeLine/\∃(its:K9) (n:Nat),Vals xs its/\xs.length=its.length/\s.heap.get? l=some { cls:=.type "list",data:=.seq its.toArray n }:=by obtain⟨z,its,n,r,e⟩:=I.hok l _ hH;exact⟨z,its,n,r,r.length,e⟩
theorem o6(h:n<=sizeLine):Builtin.List.listTooLong n=false:=by unfold Builtin.List.listTooLong;exact QU tv
end
section
def qx:V->RH->Hp->VK->Prop:=λx vs H Q=>∃l xs y,x=.ref l/\vs=[y]/\H l=some (.lst xs)/\xs.length<sizeLine/\Q .non (upd H l<|.lst<|xs++[y])
theorem ml:JR X "list.append" qx:=by intro oI s σ H x vs v us Q I rx rv h;obtain⟨l,xs,y,rfl,rfl,hH,hz,q⟩:=h;cases rx;obtain⟨u,rfl,ru⟩:=rv.one;obtain⟨z,its,n,r,hl,e⟩:=I.lstM hH;refine call_meets F.slot_list_append ⟨_,e,rfl⟩ F.entry_list_append (F.args_list_append_2 _ _) (PySem.list_append l its.toArray n u (by rw[fe];omega)) ⟨e,?_⟩;refine⟨.non,_,I.lset (its':=its++[u]) hH e E1 (r.append<|.cons ru .nil) ?_,rfl,q⟩;rw[dA,kf];omega
def Cy:R2:=λx y H Q=>∃l k xs,x=.ref l/\y=.int k/\H l=some (.lst xs)/\-(2^63)<=k/\k<2^63/\xs.length*k.toNat<=sizeLine/\
 ∀p,H p=none->Q (.ref p) (upd H p<|.lst (List.replicate k.toNat xs).flatten)
theorem jG{α:Type}(xs:List α)(k:Nat):(List.replicate k xs).flatten.length=k*xs.length:=by
 induction k with
 |zero=>simp|succ k ih=>rw[iM,uA,dA,ih,mK,uB]
theorem tJ:OpR X (binaryOp .Mult) Cy:=by
 intro oI s σ H x y v u Q I rx ry h;obtain⟨l,k,xs,rfl,rfl,hH,h1,h2,hz,q⟩:=h;cases rx;obtain⟨t,rfl⟩:=ry;obtain⟨z,its,n,r,hl,e⟩:=I.lstM hH;have hlen:its.toArray.size*k.toNat<=sizeLine:=by rw[fe,<-hl];exact hz
 have hcap:¬its.toArray.size*k.toNat>(2^63-1)/8:=by
  have:(sizeLine:Nat)<=(2^63-1)/8:=wp
  omega
 have hfit:¬(!Builtin.List.listFitsIndex k)=true:=by rw[fitsIndex_both h1 h2];exact oC
 have hlong:¬Builtin.List.listTooLong (its.toArray.size*k.toNat)=true:=by rw[o6 hlen];exact oC
 have hnew:List.foldl (λx1 x2=>x1++x2) #[] (List.replicate (if its.toArray.isEmpty=true then 0 else k.toNat) its.toArray)=(List.replicate k.toNat its).flatten.toArray:=by
  have f0:∀m:Nat,List.foldl (λx1 x2=>x1++x2) #[] (List.replicate m its.toArray)=(List.replicate m its).flatten.toArray:=λm=>by have:=e7 its m [];rw[dG]at this;exact this
  rw[f0];cases its with
  |nil=>simp|cons a r'=>rw[jx<|E1]
 refine wpAny_binaryOp_repeat_ref (T:= "list") (U:= "int") wp ⟨_,e,rfl⟩ (λs'=>typeIs_int s' k t) noFill_list_mul F.fills_int_mul F.slot_int_rmul repeat_list F.slot_int_index.lookup
  (call_meets F.slot_int_rmul (typeIs_int s k t) F.entry_int_rmul (F.args_int_rmul_2 _ _) (int___rmul___int_list k t l its.toArray n)
   ⟨e,rfl,⟨_,e,rfl⟩,call_meets F.slot_list_mul ⟨_,e,rfl⟩ F.entry_list_mul (F.args_list_mul_2 _ _) (AutoListH.list___mul___list_int_3 l its.toArray n k t hfit hcap hlong) ⟨e,?_⟩⟩)
 rw[hnew];exact⟨.ref _,_,I.lnew (t':=s.toks) (r.rep k.toNat) (by rw[jG,Nat.mul_comm];exact hz),rfl,q _ I.fresh⟩
end
end L2
namespace Att
open PySem PySem.W PySem.Calls PyProof.Rows
theorem gG{P:Params}{h:Heap}:∀(ns:Lb) (vs:K9),WellAll P h vs (ns.map WData.int)->IntsAre vs ns:=by
 intro ns;induction ns with
 |nil=>intro vs w;rw[f6]at w;cases w;exact .nil
 |cons n ns ih=>
  intro vs w;rw[cN]at w;cases w with
  |cons a b=>
   cases a;exact .cons _ _<|ih _ b
theorem mn{l:OpenLaw}{n:Nat}(hn:l.most=some n){P:Params}{h:Heap}{args:List WData}{vals:K9}
  (hpre:l.row.toRowW.claim.pre args=true) (hwl:WellAll P h vals args) :
  ∃a vs ns,vals=[Value.ref a]/\args=[WData.list<|ns.map WData.int]/\h.get? a=some { cls:=.type "list",data:=.seq vs.toArray }/\IntsAre vs ns/\ns.length<=n:=by
 have hsh:WShape.hasAll [] args [.list .int]=true:=(pre_splitW hpre).1;have hc:l.pre.holds [] { args:=args }=true:=(pre_splitW hpre).2;obtain⟨d,r,rfl,h1,h2⟩:=hasAllW_cons hsh;obtain rfl:=hasAllW_nil h2;obtain⟨xs,rfl,h3⟩:=hasW_list h1;obtain⟨ns,rfl⟩:=items_int h3;have hlen:ns.length<=n:=by
  unfold OpenLaw.pre at hc;have h4:(WTm.not<|.lt (.lit<|.int (n:Int))<|.len<|.arg 0).holds [] { args:=[.list<|ns.map .int] }=true:=by
   have h4:=(holds_andW hc).1;rw[hn]at h4;exact h4
  have h5:=condW_of h4<|w_not (w_lt w_lit<|w_len_list<|w_arg rfl);rw[aZ]at h5;refine BD λq=>?_;have q':(n:Int)<((ns.length:Nat):Int):=tv
  first
   |(rw[QT q']at h5;exact QS h5<|wp)
   |(simp at h5;omega)
 cases hwl with
 |cons w1 w2=>
  cases w2;cases w1 with
  |list ho hall=>exact⟨_,_,ns,rfl,rfl,ho,gG ns _ hall,hlen⟩
theorem mo(l:OpenLaw)(args:List WData):l.row.toRowW.claim.post args (.bool true) args=true:=
 postW_of (r:=l.row.toRowW) (X:=(true==true))
  (show WShape.has [] (.bool true) .bool=true by first|rfl|decide|simp[WShape.has,WShape.arms,WShape.armsAll])
  (show(WTm.eq .res<|.lit<|.bool true).value [] { args:=args,res:=some<|.bool true,after:=args }=some (.bool<|true==true) from w_eq_bool (w_res rfl) w_lit) rfl
theorem attach_call{l:OpenLaw}{n:Nat}{q:Program}{loose:Rv}{XP:(K8)->Heap->Prop}{YP:World->Heap->Prop}{d:DefRec}
  (hn:l.most=some n) (hdf:d.params.defaults=[])
  (call:∀ (w:World) (s₀ s₁:Shared) (mg mb:K8) (fa:Addr) (o:Obj) (pm cd doc:Value) (a:Addr) (vs:K9) (ns:Lb),
   Ground q loose [] XP w s₀ mg mb s₁.heap->YP w s₁.heap->
   s₁.heap.get? fa=some o->o.data=.func (docDef d.name d.params d.body d.scope pm cd doc)->s₁.heap.CodeRec cd d.name->mg d.name=some (.ref fa)->
   s₁.heap.get? a=some { cls:=.type "list",data:=.seq vs.toArray }->IntsAre vs ns->ns.length<=n->(a==sysModules)=false->s₁.gens = #[]->
   codeAny (model l.prog w) callerA (.call (.ref fa) ⟨[.ref a],[]⟩) (λr s'=>r=.ok (.ret<|.bool true)/\OldK s₁.heap s'.heap/\s'.os=s₁.os/\AllBare s'.gens) s₁) :
  WalkO q loose XP YP l.row.toRowW d [] (λf vs=>PySem.call f vs):=by
 intro w s₀ s₁ mg mb G Y fa o pm cd doc dV kV ho hd hcd hD hmg hg args vals as hpre hlay hrd hwl hlo;obtain rfl:dV=.none:=Dflts.none hD hdf;obtain rfl:kV=.none:=Dflts.noKw hD;obtain⟨a,vs,ns,rfl,rfl,hobj,hints,hlen⟩:=mn hn hpre hwl;have hsy:(a == sysModules)=false:=hlo a (by
  cases hrd with
  |cons h1 h2=>cases h1;simp)
 refine enter_call<|codeAny_mono (call w s₀ s₁ mg mb fa o pm cd doc a vs ns G Y ho (fd_plain hd) hcd hmg hobj hints hlen hsy hg) λr s' hq=>?_;obtain⟨rfl,h2,h3,h4⟩:=hq;exact⟨.inl ⟨.bool true,.bool true,[],rfl,λ_=>rfl,.bool true,mo l _,λ_=>⟨List.Pairwise.nil,λ_ hm=>(nomatch hm)⟩⟩,h2,h3,h4⟩
end Att
namespace L2
open PySem PySem.Spec PyProof.Rows
variable{P:Program}{w:World}{K:QR}{mg:K8}{k:Nat}{fd:FuncData}{x:Str}{l:W.OpenLaw}{XP:(K8)->Heap->Prop}{YP:World->Heap->Prop}{st:Stmt}{f:Addr}{osl:Array (Option Value)}{X:Cx}{scope sc:Scope}{env:Env}{A:Around}{s:Shared}{Q:Env->Shared->Prop}{oI:K4}{σ:St}{vars:Rv}{sel:Ry}{fp:List Addr}{tn:Nat->Heap->Prop}{wi:TI}
theorem jp:∀{vs:K9} {ns:Lb},IntsAre vs ns->Vals (ns.map V.int) vs
 |_,_,.nil=>.nil|_,_,.cons n t h=>.cons ⟨t,rfl⟩<|jp h
def qy(H:Hp):Prop:=∀b,H b=none\/∃o xs,H b=some (.frz o<|.lst xs)
theorem o7{mb:K8}{CX:pK}{fa a:Addr}{sp:Sp}{s₁:Shared}{vs:K9}{ns:Lb}
  (KX:K.In s₁.heap) (hns:s₁.heap.Ns mainGlobals mg) (hb:s₁.heap.Ns builtinsNs mb) (hbb:∀x:Str,x≠ "__name__" ->mb x=bootBuiltins x) (hlim:s₁.heap.NoLimit) (hg:s₁.gens = #[])
  (ha:s₁.heap.get? a=some { cls:=.type "list",data:=.seq vs.toArray }) (hi:IntsAre vs ns) (hl:ns.length<=sizeLine) (hsy:(a==sysModules)=false) (hr:Room k callerA)
  (F:∀base:Heap,K.In base->base.Ns mainGlobals mg->gF P w K mg base CX k fa fd [x] sp) (hbind:∀(s:Shared) (u:Value),BindsTo s fd ⟨[u],[]⟩ [(x,u)])
  (hsp:∀H:Hp,qy H->SqL K H a (ns.map V.int)->sp [.ref a] H (λv _=>v=.bl true) λ_ _ _=>False)
  (hCX:∀H e s',CX [] H s₁ (λ_ _ _=>False) e s'->False) :
  codeAny (model P w) callerA (.call (.ref fa) ⟨[.ref a],[]⟩) (λr s'=>r=.ok (.ret<|.bool true)/\OldK s₁.heap s'.heap/\s'.os=s₁.os/\AllBare s'.gens) s₁:=by
 have rv:=jp hi;have lenV:=hi.length
 have core:∀H:Hp,qy H->SqL K H a (ns.map V.int)->HOk P w H s₁.heap->(∀b,H b≠none->b=a)->(H a≠none->K.lookup a=none)->
   codeAny (model P w) callerA (.call (.ref fa) ⟨[.ref a],[]⟩) (λr s'=>r=.ok (.ret<|.bool true)/\OldK s₁.heap s'.heap/\s'.os=s₁.os/\AllBare s'.gens) s₁:=by
  intro H hO hS hok hA hK;have base_of:∀{b:Addr} {o:Obj},s₁.heap.get? b=some o->H b=none->(jz s₁.heap H).get? b=some o:=λe n=>oF e n;have noA:∀{b:Addr} {o:Obj} {es:Array DictEntry} {ep:Nat},s₁.heap.get? b=some o->o.data=.dict es ep->H b=none:=λ{b o es ep} e d=>by
   cases q:H b with
   |none=>rfl
   |some u=>
    have e':b=a:=hA b (by rw[q];simp);subst e';rw[ha]at e;cases e;have d':Data.seq vs.toArray _=Data.dict es ep:=d;cases d'
  have nsK:∀{b:Addr} {m:K8},s₁.heap.Ns b m->(jz s₁.heap H).Ns b m:=λ{b m} ⟨o,es,ep,e,d,r⟩=>⟨o,es,ep,base_of e<|noA e d,d,r⟩;have hKb:K.In (jz s₁.heap H):=λb o e=>base_of (KX b o e) (by
   cases q:H b with
   |none=>rfl
   |some u=>
    have e':b=a:=hA b (by rw[q];simp);subst e';rw[hK (by rw[q];simp)]at e;cases e)
  have hM:Mod K mg (jz s₁.heap H):=⟨hKb,nsK hns,⟨mb,nsK hb,hbb⟩,let⟨mc,h1,h2⟩:=hlim;⟨mc,nsK h1,h2⟩⟩
  have e0:qr P w K mg (jz s₁.heap H) callerA [] s₁ H:=⟨rfl,hM,λb o e=>qb e,Nat.le_of_eq<|l4 _ _,trivial,λb hb=>QS (show b∈([]:List Addr) from hb)<|E1,hok,.of_eq hg,λxs q=>QS (hA sysModules (by rw[q];simp)).symm (beq_eq_false_iff_ne.mp hsy)⟩
  refine codeAny_mono ((F _ hKb<|nsK hns).run callerA [] s₁ H ⟨[.ref a],[]⟩ [.ref a] [.ref a] _ _ hr e0 (hbind s₁<|.ref a) (.cons rfl .nil)<|hsp H hO hS) λr s' h=>?_;cases r with
  |error e=>exact(hCX H e s' h).elim
  |ok fl=>
   cases fl with
   |next=>exact Ri h|brk=>exact Ri h|cont=>exact Ri h
   |ret u=>
    obtain⟨v,H',os,bare,un,hok',r',q⟩:=h;have q':v=.bl true:=q;subst q';obtain rfl:u=Value.bool true:=r';refine⟨rfl,OldK.of_keep λb o e=>?_,os,bare⟩;cases q:H b with
    |none=>exact un.keep b o e q (by intro z;exact QS (show b∈([]:List Addr) from z)<|E1) E1
    |some u=>
     rcases hO b with z|⟨ob,xs,z⟩
     .rw[q]at z;cases z
     .have z2:=un.frzs b ob _ z
      obtain⟨e1,_⟩:=hok b _ z;obtain⟨e2,_⟩:=hok' b _ z2;rw[e]at e1;cases e1;exact e2
 cases hk:K.lookup a with
 |some o=>
  have e:=KX a o hk;rw[ha]at e;cases e;refine core (λ_=>none) (λ_=>.inl rfl) (.inr ⟨_,vs.toArray,_,hk,rfl,rfl,rfl,by rw[fe,lenV];exact hl,by simpa using rv⟩) (λb u z=>by have z':(none:Option HO)=some u:=z;cases z') (λb z=>QS rfl z) λz=>QS rfl z
 |none=>
  refine core (λb=>if b=a then some (.frz { cls:=.type "list",data:=.seq vs.toArray }<|.lst<|ns.map V.int) else none) (λb=>?_) (.inl<|.inr ⟨{ cls:=.type "list",data:=.seq vs.toArray },ks rfl⟩) (λb u z=>?_) (λb z=>?_) λ_=>hk
  .by_cases hb:b=a
   .exact .inr ⟨_,_,ks hb⟩
   .exact .inl<|jx hb
  .by_cases hb:b=a
   .have z':=(ks hb).symm.trans z
    cases z';subst hb;exact⟨ha,by rw[aZ];exact hl,vs,_,rv,ha⟩
   .have z':=(jx hb).symm.trans z
    cases z'
  .by_cases hb:b=a
   .exact hb
   .exact QS (jx hb) z
theorem walk_of{n:Nat}{q:Program}{loose:Rv}{d:DefRec}{K:Params->QR}{CX:World->pK}{sp:World->Sp}
  (hn:l.most=some n) (hn2:n<=sizeLine) (hdf:d.params.defaults=[]) (hr:Room k callerA)
  (hY:∀(w:World) (h:Heap),YP w h->(K w.params).In h)
  (F:∀ (w:World) (mg:K8) (fa:Addr) (h:Heap),(K w.params).In h->h.Ns mainGlobals mg->mg d.name=some (.ref fa)->
   ∃fd:FuncData,(∀(s:Shared) (u:Value),BindsTo s fd ⟨[u],[]⟩ [(x,u)])/\
    ∀base:Heap,(K w.params).In base->base.Ns mainGlobals mg->gF l.prog w (K w.params) mg base (CX w) k fa fd [x] (sp w))
  (hsp:∀(w:World) (H:Hp) (a:Addr) (ns:Lb),ns.length<=n->qy H->SqL (K w.params) H a (ns.map V.int)->sp w [.ref a] H (λv _=>v=.bl true) λ_ _ _=>False)
  (hCX:∀(w:World) (H:Hp) (s:Shared) (e:Value) (s':Shared),CX w [] H s (λ_ _ _=>False) e s'->False) :
  W.WalkO q loose XP YP l.row.toRowW d [] (λf vs=>PySem.call f vs):=by
 refine Att.attach_call hn hdf λw s₀ s₁ mg mb fa o pm cd doc a vs ns G Y ho hd hcd hmg hobj hints hlen hsy hg=>?_;have KX:=hY w _ Y;obtain⟨fd,hb,hF⟩:=F w mg fa _ KX G.T.g hmg;exact o7 KX G.T.g G.T.b G.T.builtins G.T.nolimit hg hobj hints (gP hlen hn2) hsy hr hF hb (λH hO hS=>hsp w H a ns hlen hO hS) λH e s'=>hCX w H s₁ e s'
def dm(s:Stmt):Arguments:=match s with|.FunctionDef _ a _ _ _ _ _ _ _ _=>a|_=>{ posonlyargs:=[],args:=[],vararg:=none,kwonlyargs:=[],kw_defaults:=[],kwarg:=none,defaults:=[] }
def cI(s:Stmt):List Stmt:=match s with|.FunctionDef _ _ b _ _ _ _ _ _ _=>b|_=>[]
def aP(s:Stmt):Scope:=match s with|.FunctionDef _ _ _ _ _ _ sc _ _ _=>sc|_=>{ kind:=.function,names:=[],isGenerator:=false,isCoroutine:=false }
abbrev E0:XK:=λ_ _ _=>False
structure Fun(K:QR)(x qual:Str)(st:Stmt)(f:Addr)(fd:FuncData):Prop where
 ex:∃(oc:Value) (od:Option Addr) (kV doc pm:Value) (an:Option Addr) (cdv ct:Value) (osl:Array (Option Value)),
  fd=W.fnOf x qual (dm st) (cI st) (aP st) .none kV doc pm an cdv ct/\K.lookup f=some ⟨oc,od,.func fd,osl⟩/\W.codeIn K cdv qual=true
 kp:W.keepIn K (.ref f)=true
section
variable{base:Heap}
theorem Fun.binds{qual:Str}{ps:Rv}(F:Fun K x qual st f fd)
  (h:∀(kV doc pm:Value) (an:Option Addr) (cdv ct:Value) (us:K9),us.length=ps.length->bindArgs (W.fnOf x qual (dm st) (cI st) (aP st) .none kV doc pm an cdv ct) ⟨us,[]⟩=pure (ps.zip us)):Binds K fd ps []:=by
 obtain⟨oc,od,kV,doc,pm,an,cdv,ct,osl,rfl,lk,hcd⟩:=F.ex;exact .all<|h kV doc pm an cdv ct
theorem tK{qual:Str}{oc:Value}{od an:Option Addr}{kV doc pm cdv ct:Value}(l:K.lookup f=some ⟨oc,od,.func<|W.fnOf x qual (dm st) (cI st) (aP st) .none kV doc pm an cdv ct,osl⟩)
  (c:W.codeIn K cdv qual=true) (k:W.keepIn K (.ref f)=true):Fun K x qual st f (W.fnOf x qual (dm st) (cI st) (aP st) .none kV doc pm an cdv ct):=⟨⟨oc,od,kV,doc,pm,an,cdv,ct,osl,rfl,l,c⟩,k⟩
end
section
theorem pv(i:Nat){pos:Pos}(hN:{X.N[i]? = some x})(hv:autoParam (qd X.env.scope x) RN._auto_1)(hd:(RA x:))
  (hcd:((x==("__classdict__" : Str))=false:)):PE X (.Name x pos) (vB i):=hU hN hv hd hcd
end
def rm:List (Str×NameKind)->Bool
 |[]=>true|(n,_)::r=>!(r.any λy=>y.1==n)&&rm r
def kq(sc outer:Scope):Bool:=
 decide (sc.kind=.function)&&rm sc.names&&sc.names.all λy=>!decide (y.2=.free)||(decide (outer.names.lookup y.1=some .cell)||decide (outer.names.lookup y.1=some .free))
theorem Cz{α:Type}:∀{l:List (Str×α)} {n:Str},(l.any λy=>y.1==n)=false->l.lookup n=none
 |[],_,_=>rfl
 |(k,v)::r,n,h=>by
  simp only[zg,Bool.or_eq_false_iff]at h;have e:(n==k)=false:=by have:=h.1;simp only[beq_eq_false_iff_ne]at this ⊢;exact λz=>this z.symm
  rw[pE,e];exact Cz h.2
theorem zN:∀{l:List (Str×NameKind)} {n:Str} {k:NameKind},rm l=true->(n,k)∈l->l.lookup n=some k
 |(m,j)::r,n,k,nd,h=>by
  simp only[rm,d9,uC]at nd;rcases Yan.mp h with e|h2
  cases e;simp;have hm:n≠m:=by rintro rfl;have:(r.any λy=>y.1==n)=true:=List.any_eq_true.mpr ⟨_,h2,E1⟩;rw[nd.1]at this;cases this
  rw[pE,beq_eq_false_iff_ne.mpr hm];exact zN nd.2 h2
def dB(cells:List (Str×Addr)):List (Str×NameKind)->List (Str×Addr)->List (Str×Addr)
 |[],acc=>acc|(n,k)::r,acc=>if k==.free then dB cells r ((n,(cells.lookup n).getD 0)::acc) else dB cells r acc
theorem v7{cells:List (Str×Addr)}{x:Str}:∀{names:List (Str×NameKind)} {acc:List (Str×Addr)},rm names=true->
  ((names.lookup x=some .free->∃c,(dB cells names acc).lookup x=some c/\(cells.lookup x).getD 0=c)/\(names.lookup x≠some .free->(dB cells names acc).lookup x=acc.lookup x))
 |[],acc,_=>⟨λh=>by simp at h,λ_=>rfl⟩
 |(m,k)::r,acc,nd=>by
  simp only[rm,d9,uC]at nd
  by_cases hm:x=m
  .subst hm
   have hr:r.lookup x=none:=Cz nd.1;rw[show List.lookup x ((x,k)::r)=some k by simp];have ih:=@v7 cells x r
   by_cases hk:k=.free
   .subst hk
    refine⟨λ_=>⟨_,?_,rfl⟩,λh=>QS rfl h⟩;show(dB cells r ((x,_)::acc)).lookup x=_;rw[(ih nd.2).2 (by rw[hr];simp)];simp
   .refine⟨λh=>QS (QW h) hk,λ_=>?_⟩
    have:dB cells ((x,k)::r) acc=dB cells r acc:=by
     show(if k==.free then _ else _)=_;rw[jx<|by simpa using hk]
    rw[this,(ih nd.2).2 (by rw[hr];simp)]
  .have e:List.lookup x ((m,k)::r)=r.lookup x:=by rw[pE,beq_eq_false_iff_ne.mpr hm]
   rw[e]
   by_cases hk:k=.free
   .subst hk
    have ih:=@v7 cells x r ((m,(cells.lookup m).getD 0)::acc) nd.2;have e2:List.lookup x ((m,(cells.lookup m).getD 0)::acc)=acc.lookup x:=by rw[pE,beq_eq_false_iff_ne.mpr hm]
    rw[e2]at ih;exact ih
   .have:dB cells ((m,k)::r) acc=dB cells r acc:=by
     show(if k==.free then _ else _)=_;rw[jx<|by simpa using hk]
    rw[this];exact @v7 cells x r acc nd.2
theorem CA(h:∀y∈scope.names,y.2=.free->∃c,env.cells.lookup y.1=some c):closureFor scope env=pure (dB env.cells scope.names []):=by
 have gen:∀ (names:List (Str×NameKind)) (acc:List (Str×Addr)),(∀ y∈names,y.2 = .free->∃ c,env.cells.lookup y.1=some c)->
     (forIn names acc (fun (x:Str×NameKind) (r:List (Str×Addr))=>(if (x.2 == NameKind.free)=true then (do
       let c <-cellOf env x.1
       pure (ForInStep.yield ((x.1,c)::r))) else pure (ForInStep.yield r):Sem (ForInStep<|List<|Str×Addr))))=(pure (dB env.cells names acc):Sem (List<|Str×Addr)):=by
   intro names
   induction names with
   |nil=>intro acc _;rfl
   |cons y r ih=>
     intro acc hh;obtain⟨n,k⟩:=y;rw[BE]
     by_cases hk:k=.free
     · subst hk
       obtain⟨c,hc⟩:=hh (n,.free) lv rfl;have hc':env.cells.lookup n=some c:=hc;have e:cellOf env n=pure c:=by unfold cellOf;rw[hc']
       simp only[Q8,if_true,e];have:=ih ((n,c)::acc) λy hy=>hh y<|jv _ hy;have e3:dB env.cells ((n,.free)::r) acc=dB env.cells r ((n,c)::acc):=by
         show(if _ then _ else _)=_;rw[hc'];rfl
       rw[e3,<-this];rfl
     · have hb:(k==NameKind.free)=false:=by simpa using hk
       simp only[hb,fg,if_false];have:=ih acc λy hy=>hh y<|jv _ hy;have e3:dB env.cells ((n,k)::r) acc=dB env.cells r acc:=by
         show(if _ then _ else _)=_;rw[jx<|by simpa using hk]
       rw[e3,<-this];rfl
 unfold closureFor;have:=gen scope.names [] h;first
  |exact this
  | (show (forIn scope.names [] _ >>= λcs=>pure cs)=_
     refine Eq.trans (congrArg (· >>= λcs=>pure cs) this) rfl)
theorem rn{x:Str}:∀(names:List (Str×NameKind)) (n:Nat) (acc acc':List (Str×Addr)),rm names=true->
  ((names.lookup x=some .cell->(cellsFrom n names acc).lookup x=(cellsFrom n names acc').lookup x)/\(names.lookup x≠some .cell->(cellsFrom n names acc).lookup x=acc.lookup x))
 |[],_,_,_,_=>⟨λh=>by simp at h,λ_=>rfl⟩
 |(m,k)::r,n,acc,acc',nd=>by
  simp only[rm,d9,uC]at nd
  by_cases hm:x=m
  .subst hm
   have hr:r.lookup x=none:=Cz nd.1;rw[show List.lookup x ((x,k)::r)=some k by simp]
   by_cases hk:k=.cell
   .subst hk
    refine⟨λ_=>?_,λh=>QS rfl h⟩;have a:=(@rn x r (n+1) ((x,n)::acc) acc' nd.2).2 (by rw[hr];simp);have b:=(@rn x r (n+1) ((x,n)::acc') acc' nd.2).2 (by rw[hr];simp);show(cellsFrom (n+1) r ((x,n)::acc)).lookup x=(cellsFrom (n+1) r ((x,n)::acc')).lookup x;rw[a,b];simp
   .refine⟨λh=>QS (QW h) hk,λ_=>?_⟩
    have e:cellsFrom n ((x,k)::r) acc=cellsFrom n r acc:=by
     show(if k==.cell then _ else _)=_;rw[jx<|by simpa using hk]
    rw[e,(@rn x r n acc acc' nd.2).2 (by rw[hr];simp)]
  .have e:List.lookup x ((m,k)::r)=r.lookup x:=by rw[pE,beq_eq_false_iff_ne.mpr hm]
   rw[e]
   by_cases hk:k=.cell
   .subst hk
    have ih:=@rn x r (n+1) ((m,n)::acc) ((m,n)::acc') nd.2;have e2:List.lookup x ((m,n)::acc)=acc.lookup x:=by rw[pE,beq_eq_false_iff_ne.mpr hm]
    rw[e2]at ih;exact ih
   .have e3:∀a:List (Str×Addr),cellsFrom n ((m,k)::r) a=cellsFrom n r a:=λa=>by
     show(if k==.cell then _ else _)=_;rw[jx<|by simpa using hk]
    rw[e3,e3];exact @rn x r n acc acc' nd.2
theorem Fr:(relabel sc env).names.lookup x=(sc.names.lookup x).map λk=>if(k==NameKind.free&&env.scope.kind==.function&&env.kindOf x==some .cell)=true then .cell else k:=by
 show List.lookup x (sc.names.map _)=_;generalize sc.names=l;induction l with
 |nil=>rfl|cons y r ih=>obtain⟨m,k⟩:=y;by_cases hx:x=m;subst hx;simp only[cN];by_cases hc:(k==NameKind.free&&env.scope.kind==.function&&env.kindOf x==some .cell)=true;rw[ks hc];simp only[pE,Q8,p9];rw[ks hc];rw[jx hc];simp only[pE,Q8,p9];rw[jx hc];have hb:(x==m)=false:=beq_eq_false_iff_ne.mpr hx;simp only[cN];by_cases hc:(k==NameKind.free&&env.scope.kind==.function&&env.kindOf m==some .cell)=true;rw[ks hc];simp only[pE,hb];exact ih;rw[jx hc];simp only[pE,hb];exact ih
def jq(sc:Scope)(env:Env)(C:Addr):Env:=
 { scope:=relabel sc env,locals:=C,globals:=env.globals,cells:=cellsFrom (C+1) sc.names<|dB env.cells sc.names [],qual:=env.qual,func:=none,code:=env.code,frame:=env.frame,builtins:=env.builtins }
theorem Fs{M:Model}{E:K5}
  (h:Q { scope:=sc,locals:=s.heap.objs.size,globals:=env.globals,cells:=cellsFrom (s.heap.objs.size+1) sc.names<|dB env.cells sc.names [],qual:=env.qual,func:=none,code:=env.code,frame:=env.frame,builtins:=env.builtins }
   { s with heap:=pushCells (s.heap.push { cls:=.type "dict",data:=.dict #[] }) sc.names }) :
  wpAny M A (newFunctionEnv sc env.globals (dB env.cells sc.names []) [] env.qual none .none<|some env) Q E s:=by
 simp only[newFunctionEnv,Option.isSome_some,if_true];refine QP<|wpAny_alloc ?_;refine QP<|wpAny_layCells _ (λname kind cells=>by cases hkc:kind==NameKind.cell<;>simp[hkc]) _ _ _ _ ?_;rw[show({ s with heap:=s.heap.push { cls:=.type "dict",data:=.dict #[] } }:Shared).heap.objs.size=s.heap.objs.size+1 from mL ..];exact QP<|QQ (QQ h)
def Cx.lc(X:Cx)(sc:Scope)(vars:Rv)(sel:Ry)(s:Shared)(H:Hp)(fp:List Addr):Cx where
 prog:=X.prog
 w:=X.w
 K:=X.K
 mg:=X.mg
 base:=X.base
 A:=X.A
 N:=vars++sel.map λj=>X.N.getD j ""
 s₀:=s
 H₀:=H
 env:=jq sc X.env s.heap.objs.size
 outer:=X.stack
 stack:=X.stack
 ex:=fp
 fn:=λx=>decide (sc.names.lookup x=some .cell)
 calm:=X.calm
 pn:=[]
 xe:=λ_ _=>False
def pL(N:Rv)(sc:Scope)(sel:Ry):Bool:=sel.all λj=>match N[j]? with|some x=>decide (sc.names.lookup x=some .free)|none=>false
def gH(nv:Nat)(sel:Ry)(σ:St):St:=List.replicate nv none++sel.map λj=>(σ[j]?).getD none
section
variable{H:Hp}
theorem zO(I:Inv X oI σ H s)(ok:kq sc X.env.scope=true):∀y∈sc.names,y.2=.free->∃c,X.env.cells.lookup y.1=some c:=λy hy hk=>by
 simp only[kq,d9,Ybb,BF,uC,QV,decide_eq_false_iff_not]at ok;rcases ok.2 y hy with z|z
 exact QS hk z;exact I.ok.has y.1 z
theorem Ft(I:Inv X oI σ H s)(ok:kq sc X.env.scope=true)(so:pL X.N sc sel=true)(hf:∀b∈fp,dY X oI H b)(ho:∀b∈fp,∃o,s.heap.get? b=some o)(ha:{X.env.scope.kind=.function}) :
  Inv (X.lc sc vars sel s H fp) [] (gH vars.length sel σ) H { s with heap:=pushCells (s.heap.push { cls:=.type "dict",data:=.dict #[] }) sc.names }:=by
 have hcl:=zO I ok;have ok':=ok;simp only[kq,d9,Ybb,BF,uC,QV,decide_eq_false_iff_not]at ok';obtain⟨⟨hk,nd⟩,hfree⟩:=ok';have szp:(s.heap.push { cls:=.type "dict",data:=.dict #[] }).objs.size=s.heap.objs.size+1:=mL ..;have keep:∀b o,s.heap.get? b=some o->(pushCells (s.heap.push { cls:=.type "dict",data:=.dict #[] }) sc.names).get? b=some o:=λb o e=>pushCells_keeps _ _ _ _<|dM _ e;have okc:=cellsFrom_ok sc.names (s.heap.push { cls:=.type "dict",data:=.dict #[] }) (s.heap.objs.size+1) [] ⟨λ_ _ hm=>(nomatch hm),List.Pairwise.nil⟩ (by rw[szp];exact bU _);rw[szp]at okc
 have own:∀x,sc.names.lookup x=some .cell->∃c,(jq sc X.env s.heap.objs.size).cells.lookup x=some c/\(x,c)∈cellsFrom (s.heap.objs.size+1) sc.names []:=λx hx=>by
  have e:=(rn sc.names (s.heap.objs.size+1) (dB X.env.cells sc.names []) [] nd).1 hx;obtain⟨c,hc⟩:=hW (sc:=sc) (n:=s.heap.objs.size+1) hx;exact⟨c,by show(cellsFrom _ _ _).lookup x=_;rw[e];exact hc,Q6 hc⟩
 have clo:∀x,sc.names.lookup x=some .free->∃c,(jq sc X.env s.heap.objs.size).cells.lookup x=some c/\X.env.cells.lookup x=some c:=λx hx=>by
  have e:=(rn sc.names (s.heap.objs.size+1) (dB X.env.cells sc.names []) [] nd).2 (by rw[hx];decide);obtain⟨c,h1,h2⟩:=(@v7 X.env.cells x sc.names [] nd).1 hx;obtain⟨c',h3⟩:=hcl (x,.free) (Q6 hx) rfl;have h3':X.env.cells.lookup x=some c':=h3;rw[h3']at h2;have h4:c'=c:=h2;subst h4;exact⟨c',by show(cellsFrom _ _ _).lookup x=_;rw[e];exact h1,h3'⟩
 have oth:∀x c,(jq sc X.env s.heap.objs.size).cells.lookup x=some c->sc.names.lookup x=some .cell\/sc.names.lookup x=some .free:=λx c hc=>by
  by_cases h1:sc.names.lookup x=some .cell
  .exact .inl h1
  .by_cases h2:sc.names.lookup x=some .free
   .exact .inr h2
   .have e:=(rn sc.names (s.heap.objs.size+1) (dB X.env.cells sc.names []) [] nd).2 h1
    have e2:=(@v7 X.env.cells x sc.names [] nd).2 h2;have hc':(cellsFrom (s.heap.objs.size+1) sc.names<|dB X.env.cells sc.names []).lookup x=some c:=hc;rw[e,e2]at hc';simp at hc'
 have ownC:∀x c,(x,c)∈cellsFrom (s.heap.objs.size+1) sc.names []->(pushCells (s.heap.push { cls:=.type "dict",data:=.dict #[] }) sc.names).IsCell c none/\s.heap.objs.size+1<=c:=λx c h=>okc.empty x c h;have cloLt:∀x c,X.env.cells.lookup x=some c->c<s.heap.objs.size:=λx c h=>by
  obtain⟨v,q⟩:=I.cell x c h;exact q.lt
 have noA:∀b∈fp,b<s.heap.objs.size:=λb hb=>by obtain⟨o,e⟩:=ho b hb;exact dC e
 refine ⟨⟨I.ok.mod,hk,I.ok.glob,I.ok.blt,bU _,λx y c h1 h2=>?_,λx hx=>?_,λx c hx h=>?_,I.ok.hd,I.ok.frames,.inl rfl,λb hb=>⟨ip<|noA b hb,λx c h=>?_⟩,I.bs,gP I.ok.bsz I.sz,λb o e hb=>?_,λb hb hq=>?_,I.stack,I.stkFree,I.sysn⟩,
  rfl,I.bare,Un.kept keep,⟨λ_=>none,?_,λi x v h1 h2 h3=>?_⟩,λx c h=>?_,I.hok.fresh<|bU _,λx c h=>?_,λp hp=>QS (show p∈([]:K4) from hp)<|E1,I.hok.kept keep,?_⟩
 ·-- inj
  replace h1:(jq sc X.env s.heap.objs.size).cells.lookup x=some c:=h1;replace h2:(jq sc X.env s.heap.objs.size).cells.lookup y=some c:=h2;rcases oth x c h1 with k1|k1<;>rcases oth y c h2 with k2|k2
  .obtain⟨c1,e1,m1⟩:=own x k1
   obtain⟨c2,e2,m2⟩:=own y k2;rw[h1]at e1;rw[h2]at e2;cases e1;cases e2;exact name_of_addr okc.apart m1 m2
  .obtain⟨c1,e1,m1⟩:=own x k1
   obtain⟨c2,e2,m2⟩:=clo y k2;rw[h1]at e1;rw[h2]at e2;cases e1;cases e2;exact QS (dP (cloLt y c m2)<|BG (ownC x c m1).2)<|iJ _
  .obtain⟨c1,e1,m1⟩:=clo x k1
   obtain⟨c2,e2,m2⟩:=own y k2;rw[h1]at e1;rw[h2]at e2;cases e1;cases e2;exact QS (dP (cloLt x c m1)<|BG (ownC y c m2).2)<|iJ _
  .obtain⟨c1,e1,m1⟩:=clo x k1
   obtain⟨c2,e2,m2⟩:=clo y k2;rw[h1]at e1;rw[h2]at e2;cases e1;cases e2;exact I.ok.inj x y c m1 m2
 ·-- has
  have hx':(relabel sc X.env).names.lookup x=some .cell\/(relabel sc X.env).names.lookup x=some .free:=hx;rw[Fr]at hx';cases q:sc.names.lookup x with
  |none=>rw[q]at hx';simp at hx'
  |some k=>
   cases k with
   |cell=>obtain⟨c,e,_⟩:=own x q;exact⟨c,e⟩
   |free=>obtain⟨c,e,_⟩:=clo x q;exact⟨c,e⟩
   | «local»=>rw[q]at hx';simp at hx'|globalExplicit=>rw[q]at hx';simp at hx'|globalImplicit=>rw[q]at hx';simp at hx'
 .have hx':sc.names.lookup x=some .cell:=Ro hx
  obtain⟨c1,e1,m1⟩:=own x hx';have h':(jq sc X.env s.heap.objs.size).cells.lookup x=some c:=h;rw[h']at e1;cases e1;have:=(ownC x c m1).2;show s.heap.objs.size<=c;omega
 .rcases oth x c h with k|k
  .obtain⟨c1,e1,m1⟩:=own x k
   rw[show(jq sc X.env s.heap.objs.size).cells.lookup x=some c from h]at e1;cases e1;exact λz=>QS (dP (noA b hb)<|BG (ownC x c m1).2) (by rw[z];exact iJ _)
  .obtain⟨c1,e1,m1⟩:=clo x k
   rw[show(jq sc X.env s.heap.objs.size).cells.lookup x=some c from h]at e1;cases e1;exact(hf b hb).2.2.2.2.1 x c m1
 .have q:=(hf b hb).2.2.2.1
  rcases q with q|q
  .exact I.ok.noex b o e q
  .exact QS (dP (dC (I.ok.bs b o e).1) q)<|iJ _
 .rcases Yan.mp (I.stkSub b hq) with z|z
  .exact(hf b hb).2.1 z
  .exact(hf b hb).2.2.1 z
 ·-- the names' dict
  refine Heap.Ns.keeps (h:=s.heap.push { cls:=.type "dict",data:=.dict #[] }) ?_<|λb o e=>pushCells_keeps _ _ _ _ e;exact⟨_,#[],_,gZ _ rfl,rfl,λe he=>QS he<|E1,λ_=>rfl⟩
 ·-- what is seen
  have hi:vars.length<=i:=by
   rcases gx i vars.length with z|z
   .exfalso
    unfold gH at h2;rw[mJ<|by simpa using z,p8]at h2;split at h2<;>cases h2
   .exact z
  unfold gH at h2;rw[ly<|by simpa using hi,qU,cJ]at h2;have h1':(vars++sel.map λj=>X.N.getD j "")[i]? = some x:=h1;rw[ly hi,cJ]at h1';cases q:sel[i-vars.length]? with
  |none=>rw[q]at h2;cases h2
  |some j=>
   rw[q]at h1' h2;have e1:X.N.getD j "" = x:=QW h1';have e2:(σ[j]?).getD none=some v:=QW h2;have hj:∃y,X.N[j]? = some y/\sc.names.lookup y=some .free:=by
    have:=Ybb.mp so j<|iK q;cases z:X.N[j]? with
    |none=>rw[z]at this;cases this
    |some y=>rw[z]at this;exact⟨y,rfl,Ro this⟩
   obtain⟨y,hy,hyf⟩:=hj;have:y=x:=by
    rw[<-e1,aW,hy];rfl
   subst this;have e3:σ[j]? = some (some v):=by
    cases z:σ[j]? with
    |none=>rw[z]at e2;cases e2
    |some w=>rw[z]at e2;exact congrArg some e2
   obtain⟨c,k1,k2⟩:=clo y hyf;have vis:qd X.env.scope y:=by
    rcases hfree (y,.free) (Q6 hyf) with z|z|z
    .exact QS rfl z
    .exact .inr<|.inl z
    .exact .inr<|.inr z
   obtain⟨m,hn,hl⟩:=I.loc;obtain⟨u,r,l⟩:=hl j y v hy e3 vis;refine⟨u,r,?_⟩;have notloc:X.env.kindOf y≠some .local:=by
    rcases hfree (y,.free) (Q6 hyf) with z|z|z
    .exact QS rfl z
    .show X.env.scope.names.lookup y≠_;rw[z];decide
    .show X.env.scope.names.lookup y≠_;rw[z];decide
   rcases l with⟨z,_⟩|⟨_,c',e',q'⟩
   .exact QS z notloc
   .rw[k2]at e';cases e'
    have kk:(jq sc X.env s.heap.objs.size).kindOf y=some .cell\/(jq sc X.env s.heap.objs.size).kindOf y=some .free:=by
     show(relabel sc X.env).names.lookup y=_\/(relabel sc X.env).names.lookup y=_;rw[Fr,hyf];simp only[p9];split
     .exact .inl rfl
     .exact .inr rfl
    exact .inr ⟨kk,c,k1,q'.keeps keep⟩
 .rcases oth x c h with k|k
  .obtain⟨c1,e1,m1⟩:=own x k
   rw[show(jq sc X.env s.heap.objs.size).cells.lookup x=some c from h]at e1;cases e1;exact⟨none,(ownC x c m1).1⟩
  .obtain⟨c1,e1,m1⟩:=clo x k
   rw[show(jq sc X.env s.heap.objs.size).cells.lookup x=some c from h]at e1;cases e1;obtain⟨v,q⟩:=I.cell x c m1;exact⟨v,q.keeps keep⟩
 .rcases oth x c h with k|k
  .obtain⟨c1,e1,m1⟩:=own x k
   rw[show(jq sc X.env s.heap.objs.size).cells.lookup x=some c from h]at e1;cases e1;exact I.hok.fresh (by have:=(ownC x c m1).2;omega)
  .obtain⟨c1,e1,m1⟩:=clo x k
   rw[show(jq sc X.env s.heap.objs.size).cells.lookup x=some c from h]at e1;cases e1;exact I.freeC x c m1
 .show(gH vars.length sel σ).length=(vars++sel.map _).length
  unfold gH;simp
end
def PF(X:Cx)(ifs:List Expr)(t:TT):Prop:=
 ∀(oI:K4) (s:Shared) (σ:St) (H:Hp) (Q:Bool->Hp->Prop),Inv X oI σ H s->t σ H Q->
  wpAny (model X.prog X.w) X.A (forIn ifs true λc r=>if r=true then do let ok <-isTrue c X.env (eval c X.env);pure (ForInStep.yield ok) else pure (ForInStep.yield r)) (TP X oI σ Q) X.xe s
def v8:TT:=λ_ H Q=>Q true H
theorem JS:PF X [] v8:=λ_ _ _ H _ I h=>wpAny_tests_nil ⟨H,I,h⟩
theorem JT{c:Expr}{t:TT}(h:PT X c t):PF X [c] t:=λoI s σ H Q I q=>wpAny_tests_one<|h oI s σ H Q I q
def v9(g:TG)(tf:TT)(te:TE)(J:It)(D:Addr)(Q:Hp->Prop)(W:Nat->Nat->RH->St->Hp->Prop):Prop:=
 ∀ i m ys σ2 H2,W i m ys σ2 H2->H2 D=some (.lst ys)/\((J.stop i H2/\Q H2)\/(J.go i H2/\∀ x H3,J.yld i H2 x H3->g x σ2 H3 λσ4 H4=>tf σ4 H4 λb H5=>
  if b=true then te σ4 H5 λv H6=>H6 D=some (.lst ys)/\ys.length<sizeLine/\∃m',m'<m/\W (i+1) m' (ys++[v]) σ4 (upd H6 D<|.lst<|ys++[v]) else∃m',m'<m/\W (i+1) m' ys σ4 H5))
def CB(wi:TI)(nv:Nat)(sel:Ry)(g:TG)(tf:TT)(te:TE):TE:=λσ H Q=>wi σ H λJ H1=>∀D,H1 D=none->
 ∃W:Nat->Nat->RH->St->Hp->Prop,(∃m,W 0 m [] (gH nv sel σ)<|upd H1 D<|.lst [])/\v9 g tf te J D (Q<|.ref D) W
section
variable{H1:Hp}{s2:Shared}{elt target iter:Expr}{ifs:List Expr}{pos:Pos}{g:TG}{tf:TT}{te:TE}
theorem JU{prog:Program}{R:Result->Shared->Prop}{it acc:Value}(I:Nat->Shared->Prop)
  (turn:∀ n s,I n s->wpAny (model prog w) A (pyNext it) (λr s₁=>match r with
   |none=>R (.ok .next) s₁
   | some v=>wpAny (model prog w) A (letOwnedTupleGo target it v) (λ_ s₁'=>wpAny (model prog w) A (assign target env v) (λ_ s₂=>
     wpAny (model prog w) A (forIn ifs true λc r=>if r=true then do let ok <- isTrue c env (eval c env);pure (ForInStep.yield ok) else pure (ForInStep.yield r)) (λok s₃=>
      if ok=true then wpAny (model prog w) A (eval elt env) (λx s₄=>
       wpAny (model prog w) A (call (.builtin "list.append") [acc,x]) (λ_ s₅=>∃m,m<n/\I m s₅) (λ_ _=>False) s₄) (λ_ _=>False) s₃
      else∃m,m<n/\I m s₃) (λ_ _=>False) s₂) (λ_ _=>False) s₁') (λ_ _=>False) s₁) (λ_ _=>False) s)
  (n:Nat) (h:I n s) :
  codeAny (model prog w) A (.compLoop (.ListComp elt [⟨target,iter,ifs,0⟩] scope pos) 0 it acc env) R s:=by
 refine codeAny_loop rfl I (λn s hI=>?_) n h;show wpAny _ A ((compTurn (.ListComp elt [⟨target,iter,ifs,0⟩] scope pos) 0 it acc env).onRaise (λx=>do noteFrame x env;theTreesLotGoes x)) _ _ s;refine wpAny_noted ?_;rw[compTurn_list];refine QP<|Q9 (QP<|QY (turn n s hI) (λr s₁ h₁=>?_) λ_ _ h'=>h'.elim);cases r with
 |none=>exact QQ h₁
 |some v=>
  refine QP<|QY h₁ (λ_ s₁' h₁'=>?_) λ_ _ h'=>h'.elim;refine QP<|QY h₁' (λ_ s₂ h₂=>QP<|QY h₂ (λok s₃ h₃=>?_) λ_ _ h'=>h'.elim) λ_ _ h'=>h'.elim;cases ok with
  |false=>exact QQ ⟨rfl,h₃⟩
  |true=>
   exact QP<|QP (QY h₃ (λx s₄ h₄=>QP<|QY h₄ (λ_ s₅ h₅=>QQ<|QQ ⟨rfl,h₅⟩) λ_ _ h'=>h'.elim) λ_ _ h'=>h'.elim)
theorem Fu{J:It}{it:Addr}{Q:VK}{E:K5}{R:Value->Addr->Result->Shared->Prop}(hc:X.calm=true)
  (hg:∀s H fp,PG (X.lc sc vars sel s H fp) target g) (hf:∀s H fp,PF (X.lc sc vars sel s H fp) ifs tf) (he:∀s H fp,PE (X.lc sc vars sel s H fp) elt te)
  (ok:kq sc X.env.scope=true) (so:pL X.N sc sel=true)
  (I2:Inv X oI σ H1 s2) (T:iO X.prog X.w X.K target J fp it tn) (st2:tn 0 s2.heap) (f2:∀b∈fp,dY X oI H1 b)
  (q:∀D,H1 D=none->∃W:Nat->Nat->RH->St->Hp->Prop,(∃m,W 0 m [] (gH vars.length sel σ)<|upd H1 D<|.lst [])/\v9 g tf te J D (Q<|.ref D) W)
  (hR:∀D C H' s',Inv X oI σ H' s'->Q (.ref D) H'->(∃m,s'.heap.Ns C m)->dY X oI H' C->R (.ref D) C (.ok .next) s') :
  wpAny (model X.prog X.w) X.A (newList []) (λacc s₃=>wpAny (model X.prog X.w) X.A (newFunctionEnv sc X.env.globals (dB X.env.cells sc.names []) [] X.env.qual none .none<|some X.env) (λcenv s₄=>
   codeAny (model X.prog X.w) X.A (.compStart (.ListComp elt [⟨target,iter,ifs,0⟩] sc pos) 0 (.ref it) acc { cenv with scope:=relabel sc X.env }) (R acc cenv.locals) s₄) E s₃) E s2:=by
 refine Q5 ?_;have hD0:H1 s2.heap.objs.size=none:=I2.hok.fresh<|bU _;obtain⟨W,⟨m0,w0⟩,turn⟩:=q _ hD0;have I3:Inv X oI σ (upd H1 s2.heap.objs.size<|.lst []) { s2 with heap:=s2.heap.push { cls:=.type "list",data:=.seq ([]:K9).toArray },toks:=s2.toks }:=I2.lnew (ys:=[]) .nil<|jw _;have ho2:∀b∈fp,∃o,s2.heap.get? b=some o/\∀v,o.data≠.cell v:=T.obj _ _ st2;have lt2:∀b∈fp,b<s2.heap.objs.size:=λb hb=>by obtain⟨o,e,_⟩:=ho2 b hb;exact dC e
 have f3:∀b∈fp,dY X oI (upd H1 s2.heap.objs.size<|.lst []) b:=λb hb=>⟨by rw[aK<|ip<|lt2 b hb];exact(f2 b hb).1,(f2 b hb).2⟩;have ho3:∀b∈fp,∃o,(s2.heap.push { cls:=.type "list",data:=.seq ([]:K9).toArray }).get? b=some o:=λb hb=>by obtain⟨o,e,_⟩:=ho2 b hb;exact⟨o,dM _ e⟩
 refine Fs (s:={ s2 with heap:=s2.heap.push { cls:=.type "list",data:=.seq ([]:K9).toArray },toks:=s2.toks }) ?_;generalize hs3:({ s2 with heap:=s2.heap.push { cls:=.type "list",data:=.seq ([]:K9).toArray },toks:=s2.toks }:Shared)=s3 at I3 ⊢;have kp23:∀b o,s2.heap.get? b=some o->s3.heap.get? b=some o:=λb o e=>by rw[<-hs3];exact dM _ e
 have sz3:s3.heap.objs.size=s2.heap.objs.size+1:=by rw[<-hs3];exact mL ..
 have os3:s3.os=s2.os:=by rw[<-hs3]
 have ho3':∀b∈fp,∃o,s3.heap.get? b=some o:=λb hb=>by rw[<-hs3];exact ho3 b hb
 have I4:=Ft (vars:=vars) I3 ok so f3 ho3' I2.ok.kind;have kp4:∀b o,s3.heap.get? b=some o->(pushCells (s3.heap.push { cls:=.type "dict",data:=.dict #[] }) sc.names).get? b=some o:=λb o e=>pushCells_keeps _ _ _ _<|dM _ e;have st4:tn 0 (pushCells (s3.heap.push { cls:=.type "dict",data:=.dict #[] }) sc.names):=T.keep _ _ _ st2 λb hb o e=>kp4 b o<|kp23 b o e
 have stat:∀{H':Hp},(∀b∈fp,H' b=none)->∀b∈fp,dY (X.lc sc vars sel s3 (upd H1 s2.heap.objs.size<|.lst []) fp) [] H' b:=λ{H'} hn b hb=>by
  refine⟨hn b hb,(I4.ok.exf b hb).1,I4.ok.exfs b hb,.inl hb,λx c e z=>(I4.ok.exf b hb).2 x c e z,λp hp=>QS (show p∈([]:K4) from hp)<|E1⟩
 have loop:codeAny (model X.prog X.w) X.A (.compLoop (.ListComp elt [⟨target,iter,ifs,0⟩] sc pos) 0 (.ref it) (.ref s2.heap.objs.size)<|jq sc X.env s3.heap.objs.size)
   (R (.ref s2.heap.objs.size) s3.heap.objs.size) { s3 with heap:=pushCells (s3.heap.push { cls:=.type "dict",data:=.dict #[] }) sc.names }:=by
  refine JU (λn s'=>∃i ys σ' H',Inv (X.lc sc vars sel s3 (upd H1 s2.heap.objs.size<|.lst []) fp) [] σ' H' s'/\tn i s'.heap/\(∀b∈fp,H' b=none)/\W i n ys σ' H') ?_ m0
   ⟨0,[],_,_,I4,st4,λb hb=>(f3 b hb).1,w0⟩
  rintro n s5 ⟨i,ys,σ5,H5,I5,st5,fr5,w5⟩;obtain⟨hD,⟨stop,qn⟩|⟨go,step⟩⟩:=turn i n ys σ5 H5 w5
  .refine bK (T.done (X.lc sc vars sel s3 (upd H1 s2.heap.objs.size<|.lst []) fp) rfl rfl rfl hc i [] s5 σ5 H5 _ I5 (stat fr5) st5 stop) λr s6 ⟨hr,I6⟩=>?_
   subst hr;have un:Un (eD X.stack) fp H1 H5 s2.heap s6.heap:=by
    have a:Un (eD X.stack) fp H1 (upd H1 s2.heap.objs.size<|.lst []) s2.heap s3.heap:=Un.laid kp23 (bU _) hD0;exact a.trans I6.base
   have I7:Inv X oI σ H5 s6:=I2.call' (ch:=fp) (I6.os.trans os3) un I6.hok I6.bare λb hb=>⟨(f2 b hb).2.2.2.1,(f2 b hb).2.1,(f2 b hb).2.2.2.2.1,(f2 b hb).2.2.2.2.2⟩;refine hR _ _ H5 s6 I7 qn ?_ ?_
   .obtain⟨m,hn,_⟩:=I6.loc
    exact⟨m,hn⟩
   .exact I3.fpOk (bU _) I6.free
  .refine bK (T.item (X.lc sc vars sel s3 (upd H1 s2.heap.objs.size<|.lst []) fp) rfl rfl rfl hc i [] s5 σ5 H5 _ I5 (stat fr5) st5 go) λr s6 ⟨u,hr,h6⟩=>?_
   subst hr;refine bK h6 λ_ s7 ⟨x,H7,I7,r7,y7,st7,fr7⟩=>?_;have I7':=I7.pinned (stat fr7)<|T.obj _ _ st7;refine bK (hg _ _ _ _ s7 σ5 H7 x u _ I7' r7<|step x H7 y7) λ_ s8 ⟨σ8,H8,I8,q8⟩=>?_;refine bK (hf _ _ _ _ s8 σ8 H8 _ I8 q8) λb s9 ⟨H9,I9,q9⟩=>?_;have back:∀{σ':St} {H':Hp} {s':Shared},Inv (X.lc sc vars sel s3 (upd H1 s2.heap.objs.size<|.lst []) fp) ([]++eR fp s7.heap) σ' H' s'->tn (i+1) s'.heap/\∀b∈fp,H' b=none:=λ{σ' H' s'} I'=>by
    refine⟨T.keep _ _ _ st7 λb hb o e=>(I'.pin (b,o)<|jf _<|jf _<|cK hb e).1,λb hb=>?_⟩;obtain⟨o,e,d⟩:=T.obj _ _ st7 b hb;exact(I'.pin (b,o)<|jf _<|jf _<|cK hb e).2.1
   cases b with
   |false=>
    rw[jx<|wp]at q9 ⊢;obtain⟨m',hm,w9⟩:=q9;exact⟨m',hm,i+1,ys,σ8,H9,I9.unpinned,(back I9).1,(back I9).2,w9⟩
   |true=>
    rw[ks rfl]at q9 ⊢;refine bK (he _ _ _ _ s9 σ8 H9 _ I9 q9) λv sA ⟨y,HA,IA,rA,hDA,hz,m',hm,wA⟩=>?_;obtain⟨z,its,nn,rr,hl,e⟩:=IA.lstM hDA;refine call_meets F.slot_list_append ⟨_,e,rfl⟩ F.entry_list_append (F.args_list_append_2 _ _) (PySem.list_append _ its.toArray nn v (by rw[fe];omega)) ⟨e,?_⟩;have IB:=IA.lset (its':=its++[v]) (f:=(·.push v)) (t':=sA.toks) hDA e E1 (rr.append<|.cons rA .nil) (by rw[dA,kf];omega);exact⟨m',hm,i+1,ys++[y],σ8,_,IB.unpinned,(back IB).1,(back IB).2,wA⟩
 exact codeAny_compStart_list loop<|T.self _ 0 _ _ _ st4 loop
theorem wd(vars:Rv)(sel:Ry)(hc:X.calm=true)(hi:PI X target iter wi)
  (ok:kq sc X.env.scope=true) (so:pL X.N sc sel=true)
  (hg:∀s H fp,PG (X.lc sc vars sel s H fp) target g) (hf:∀s H fp,PF (X.lc sc vars sel s H fp) ifs tf) (he:∀s H fp,PE (X.lc sc vars sel s H fp) elt te)
  (hs:autoParam (∀x,foldedSetIterable iter X.env x=pure x) RL._auto_1):PE X (.ListComp elt [⟨target,iter,ifs,0⟩] sc pos) (CB wi vars.length sel g tf te):=by
 intro oI s σ H Q I h;rw[eval_ListComp];have ok':=ok;simp only[kq,d9,QV]at ok';refine Rm (use:=none) rfl hs (CA<|zO I ok) ok'.1.1 (λx hx hl=>?_) ?_
 .obtain⟨n,k⟩:=x
  have hl':k=.local:=hl;subst hl';exact zN ok'.1.2 hx
 .refine bK (hi oI s σ H _ I h) λv s1 h1=>bK h1 λitv s2 h2=>?_
  obtain⟨it,fp,tn,J,H2,e,I2,T,st2,f2,q⟩:=h2;subst e;refine Fu (Q:=Q) hc hg hf he ok so I2 T st2 f2 q λD C H' s' I' q' hn fC=>?_;obtain⟨m,hn⟩:=hn;refine⟨m,hn,λh' hs'=>?_⟩;obtain⟨f0,f1,f2,f3,f4,f5⟩:=fC;exact⟨.ref D,H',I'.turned (t':=s'.toks) (λb o hb e=>(hs'.2 b hb).trans e) f0 f1 f3 f4 f5,rfl,q'⟩
theorem Fv{i:Nat}{pos' spos:Pos}(vars:Rv)(sel:Ry)(hc:X.calm=true)(hN:X.N.Nodup)(hix:X.N[i]? = some x)(hx:mQ X.env.scope x)(hi:PI X target iter wi)
  (ok:kq sc X.env.scope=true) (so:pL X.N sc sel=true)
  (hg:∀s H fp,PG (X.lc sc vars sel s H fp) target g) (hf:∀s H fp,PF (X.lc sc vars sel s H fp) ifs tf) (he:∀s H fp,PE (X.lc sc vars sel s H fp) elt te)
  (hsw:swapsWith (.ListComp elt [⟨target,iter,ifs,0⟩] sc pos) (some<|.Name x pos') spos.line X.env=pure true)
  (hs:autoParam (∀x,foldedSetIterable iter X.env x=pure x) RL._auto_1) (hfn:autoParam (RB X x) RK._auto_1) :
  PS X (.Assign [.Name x pos'] (.ListComp elt [⟨target,iter,ifs,0⟩] sc pos) spos) (sT (CB wi vars.length sel g tf te)<|lE i):=by
 intro oI s σ H D I h;rw[exec_Assign_Name_used _ _ _ _ hsw];refine QP<|Q9 (QP ?_);show wpAny _ X.A (do let _ <-comprehension (.ListComp elt [⟨target,iter,ifs,0⟩] sc pos) sc X.env _ (newList []) false (eval iter X.env) (some<|assign (.Name x pos') X.env)) _ _ s;have ok':=ok;simp only[kq,d9,QV]at ok';refine QP<|QY (Rm (use:=some<|assign (.Name x pos') X.env) (Q:=λ_ s'=>SP X oI D .next s') rfl hs (CA<|zO I ok) ok'.1.1 (λx hx hl=>?_) ?_) (λ_ s' q=>QQ<|QQ q) λ_ _ e=>e
 .obtain⟨n,k⟩:=x
  have hl':k=.local:=hl;subst hl';exact zN ok'.1.2 hx
 .refine bK (hi oI s σ H _ I h) λv s1 h1=>bK h1 λitv s2 h2=>?_
  obtain⟨it,fp,tn,J,H2,e,I2,T,st2,f2,q⟩:=h2;subst e;refine Fu (Q:=λv H'=>lE i v σ H' D.nx) hc hg hf he ok so I2 T st2 f2 q λD' C H' s' I' q' hn fC=>?_;obtain⟨m,hn⟩:=hn;obtain⟨f0,f1,f2,f3,f4,f5⟩:=id fC;refine wpAny_assign_Name<|ji I' hN hix hx (v:=.ref D') rfl (λs'' I'' ⟨a,sb,ha⟩=>?_) hfn;have hCa:C≠a:=by
   rcases ha with z|z
   .rw[z];exact f1
   .exact QX<|f4 x a z
  refine⟨m,hn.sameBut sb hCa,λh' hs'=>?_⟩;exact⟨_,H',I''.turned (t':=s''.toks) (λb o hb e=>(hs'.2 b hb).trans e) f0 f1 f3 f4 f5,q'⟩
end
end L2
namespace HT
open PySem PySem.Spec PyProof.Rows
section
variable{prog:Program}{w:World}{A:Around}{E:K5}{s:Shared}
theorem getItem_tuple_whole{t sl:Addr}{items:Array Value}{vl vu:Value}{lo hi:Option Int}{Q:K5}(ht:IsTup s.heap t items)(hs:s.heap.IsSliceOf sl vl vu .none)(pl:IsPart vl lo)(pu:IsPart vu hi)
  (hw:sIx items.size 0 lo=0/\sIx items.size items.size hi=items.size) (h:Q (.ref t) s):wpAny (model prog w) A (getItem (.ref t)<|.ref sl) Q E s:=by
 obtain⟨os,hos,hcs,hds⟩:=id hs;have hTs:s.TypeIs (.ref sl) "slice" :=⟨os,hos,hcs⟩
 unfold getItem
 try with_reducible refine Rc ?_
 first|refine QP (QQ ?_)|skip
 refine QP<|wpAny_sequenceKey ht.typeIs wp ?_;refine QP (wpAny_callSpecial?_slot (name:=Str.ofString "__getitem__") ht.typeIs PyProof.Rows.slot_tuple_getitem
  (Re PyProof.Rows.slot_tuple_getitem ht.typeIs entry_tuple_getitem ?_<|args_tuple_getitem _ _))
 show wpAny _ _ (Builtin.Tuple.tupleItemsOf (.ref t) >>= _) _ _ s;refine QP<|tupleItemsOf_ ht ?_;refine QP<|wpAny_typeOf hTs ?_;rw[ks<|wp];refine QP<|d6 hs pl pu ?_;have hyes:(((sIx items.size 0 lo:Nat):Int)==0&&(1:Int)==1&&(sIx items.size items.size hi-sIx items.size 0 lo)==items.size)=true:=by
  rw[hw.1,hw.2];simp
 show wpAny _ _ (if(((sIx items.size 0 lo:Nat):Int)==0&&(1:Int)==1&&(sIx items.size items.size hi-sIx items.size 0 lo)==items.size)=true then _ else _) _ _ s;rw[ks hyes];have ex:Builtin.Tuple.tupleIsExact (.ref t)=(do return(<-typeOf (.ref t))==.type "tuple"):=rfl;rw[ex];refine QP<|QP (wpAny_typeOf ht.typeIs<|QQ ?_);rw[ks<|wp]
 first
  |exact QP<|Rj (QP<|QQ<|QQ ⟨_,rfl,QQ h⟩)
  |exact QP<|Rj (QQ ⟨_,rfl,QQ h⟩)
  |exact QP<|Rj (QP<|QQ ⟨_,rfl,QQ h⟩)
theorem JV{sl:Addr}{tk:Tok}{n:Nat}{Q:Int×Int×Nat->Shared->Prop}(hs:s.heap.IsSliceOf sl .none .none (.int (-1) tk))
  (h:Q ((n:Int)-1,-1,n) s):wpAny (model prog w) A (Builtin.Slice.sliceApplied (.ref sl)<|pure (n:Int)) Q E s:=by
 obtain⟨os,hos,hcs,hds⟩:=id hs;unfold Builtin.Slice.sliceApplied Builtin.Slice.sliceFields;refine QP<|QP (Q4 hos hds (x:=.none) rfl<|QP<|Q4 hos hds (x:=.none) rfl<|QP<|Q4 hos hds (x:=.int (-1) tk) rfl<|QQ ?_);refine QP<|slicePart_int ?_;show wpAny _ _ (if((-1:Int)==0)=true then _ else _) _ _ s;rw[jx<|wp];refine QP<|slicePart_none (QP<|slicePart_none<|QP<|QQ ?_);show wpAny _ _ (match Builtin.Slice.sliceAdjust none none (-1) (n:Int) with|(lo,hi)=>pure (lo,(-1:Int),Builtin.Slice.slicePlaces lo hi (-1))) _ _ s;have e:Builtin.Slice.sliceAdjust none none (-1) (n:Int)=((n:Int)-1,-1):=by
  unfold Builtin.Slice.sliceAdjust;simp
 rw[e];have e2:Builtin.Slice.slicePlaces ((n:Int)-1) (-1) (-1)=n:=by
  unfold Builtin.Slice.slicePlaces;simp
  try omega
 show wpAny _ _ (pure ((n:Int)-1,(-1:Int),Builtin.Slice.slicePlaces ((n:Int)-1) (-1) (-1))) _ _ s;rw[e2];exact QQ h
theorem pick_rev(xs:Array Value):((List.range xs.size).filterMap λ(m:Nat)=>xs[((xs.size:Int)-1+(m:Int)*(-1)).toNat]?)=xs.toList.reverse:=by
 refine si λi=>?_;have gen:∀(l:Ry),(∀m∈l,m<xs.size)->(l.filterMap λ(m:Nat)=>xs[((xs.size:Int)-1+(m:Int)*(-1)).toNat]?)=l.map λm=>xs.toList.getD (xs.size-1-m) .none:=by
  intro l;induction l with
  |nil=>intro _;rfl
  |cons m r ih=>
   intro hm;have h1:m<xs.size:=hm m lv;have h2:((xs.size:Int)-1+(m:Int)*(-1)).toNat=xs.size-1-m:=tv
   have h3:xs.size-1-m<xs.size:=tv
   rw[y8,h2,Array.getElem?_eq_getElem h3,cN,ih λk hk=>hm k<|jv _ hk];simp[aW,h3]
 rw[gen _ λm hm=>Yah.mp hm];by_cases hi:i<xs.size;rw[cJ,iN hi,List.getElem?_reverse<|by simpa using hi];simp[aW];rw[Array.getElem?_eq_getElem<|tv];simp;rw[dX (by simp;omega),dX (by simp;omega)]
theorem getItem_tuple_rev{t sl:Addr}{items:Array Value}{tk:Tok}{Q:K5}(ht:IsTup s.heap t items)(hs:s.heap.IsSliceOf sl .none .none (.int (-1) tk))(hsz:items.size<=sizeLine)
  (h:Q (.ref s.heap.objs.size) { s with heap:=s.heap.push { cls:=.type "tuple",data:=.seq items.toList.reverse.toArray } }):wpAny (model prog w) A (getItem (.ref t)<|.ref sl) Q E s:=by
 have htake:sizeOk (.seq items.toList.reverse.toArray):=by
  show items.toList.reverse.toArray.size<=sizeLine;simpa using hsz
 obtain⟨os,hos,hcs,hds⟩:=id hs;have hTs:s.TypeIs (.ref sl) "slice" :=⟨os,hos,hcs⟩
 unfold getItem
 try with_reducible refine Rc ?_
 first|refine QP (QQ ?_)|skip
 refine QP<|wpAny_sequenceKey ht.typeIs wp ?_;refine QP (wpAny_callSpecial?_slot (name:=Str.ofString "__getitem__") ht.typeIs PyProof.Rows.slot_tuple_getitem
  (Re PyProof.Rows.slot_tuple_getitem ht.typeIs entry_tuple_getitem ?_<|args_tuple_getitem _ _))
 show wpAny _ _ (Builtin.Tuple.tupleItemsOf (.ref t) >>= _) _ _ s;refine QP<|tupleItemsOf_ ht ?_;refine QP<|wpAny_typeOf hTs ?_;rw[ks<|wp];refine QP<|JV hs ?_;show wpAny _ _ (if((((items.size:Int)-1)==0&&(-1:Int)==1&&items.size==items.size)=true) then _ else _) _ _ s;rw[jx<|E1,pick_rev]
 first
  |exact QP (m:=Builtin.Tuple.tupleExact _)<|Q5 (QQ ⟨_,rfl,QQ h⟩) htake
  |exact QP (m:=Builtin.Tuple.tupleExact _)<|Q5 (QP<|QQ<|QQ ⟨_,rfl,QQ h⟩) htake
  |exact QP<|QP (m:=Builtin.Tuple.tupleExact _) (Q5 (QQ<|QQ ⟨_,rfl,QQ h⟩) htake)
  |exact QP<|QP (m:=Builtin.Tuple.tupleExact _) (Q5 (QQ ⟨_,rfl,QQ h⟩) htake)
end
end HT
namespace L2
open PySem PySem.Spec PyProof.Rows
variable{X:Cx}{e b tg:Expr}{xs vs ys:Array Value}{A:Around}{s:Shared}{P prog:Program}{base h h':Heap}{env:Env}{outer:List Env}{l N a f:Addr}{Q:K5}{oe:Obj}{w:World}{g:Array GenState}{d:Drawn}{t t' i n1:Nat}{os:OsState}{nm q x:Str}{bm bmB:K9}{hdct ab κ κ':Bool}{sn ns:Rv}{col:Option Bool}{dd:Option Addr}{newId:String}{mN mg:K8}{H:Hp}{K:QR}{oI:K4}{σ:St}{es:List Expr}{ps p:Pos}{ta:TA}
section
variable{te:TE}{pos p2:Pos}
def wg(K:QR):V->Option Int->Option Int->Hp->VK->Prop:=λx lo hi H Q=>∃a xs,x=.ref a/\SqT K H a xs/\
 (HT.sIx xs.length 0 lo=0/\HT.sIx xs.length xs.length hi=xs.length)/\Q (.ref a) H
theorem Zr:SlR X (wg X.K):=by
 intro oI s σ H x v vl vu lo hi sl Q I rx hs pl pu h;obtain⟨a,xs,rfl,hx,hw,q⟩:=h;cases rx;obtain⟨its,r,ht,hz⟩:=I.tuple hx;have hlen:its.toArray.size=xs.length:=by rw[fe];exact r.length.symm
 refine⟨"tuple",_,PyProof.Rows.slot_tuple_getitem.lookup,ht.typeIs,?_⟩;exact HT.getItem_tuple_whole ht hs pl pu (by rw[hlen];exact hw) ⟨.ref a,H,I,rfl,q⟩
def CD(r:V->Hp->VK->Prop)(te:TE):TE:=λσ H Q=>te σ H λx H1=>r x H1 Q
def CF(K:QR):V->Hp->VK->Prop:=λx H Q=>∃a xs,x=.ref a/\((SqT K H a xs/\∀p,H p=none->Q (.ref p) (upd H p<|.tup xs.reverse))\/(SqL K H a xs/\∀p,H p=none->Q (.ref p) (upd H p<|.lst xs.reverse)))
theorem Vals.rev{xs:RH}{us:K9}(r:Vals xs us):Vals xs.reverse us.reverse:=by
 induction xs generalizing us with
 |nil=>cases r;exact .nil
 |cons x xs ih=>cases r with|cons r t=>rw[zj,zj];exact(ih t).append<|.cons r .nil
theorem JW(its:K9):slicePick its.toArray none none (some (-1))=its.reverse.toArray:=by
 have e:slicePick its.toArray none none (some (-1))=((sliceRange ((its.length:Int)-1) (-1) (-1)).filterMap (its.toArray[·]?)).toArray:=by unfold slicePick sliceBounds;simp
 rw[e];congr 1;have h:=HT.pick_rev its.toArray;rw[fe]at h;have h':its.toArray.toList.reverse=its.reverse:=E1
 rw[h']at h;rw[<-h];unfold sliceRange;simp only[show¬((-1:Int)>0) by decide,if_false];have hn:(if(-1:Int)<(its.length:Int)-1 then(its.length:Int) else 0).toNat=its.length:=by split<;>omega
 simp;rw[hn];rfl
theorem JX{j pos3 pos4}(he:PE X e te):PE X (.Subscript e (.Slice none none (some<|.UnaryOp .USub (.Constant (.int 1) j pos3) pos4) p2) pos) (CD (CF X.K) te):=by
 intro oI s σ H Q I h;refine Subscript_<|bK (he oI s σ H _ I h) λv s1 ⟨x,H1,I1,r1,a,xs,ex,q1⟩=>?_;subst ex;cases r1;refine wpAny_Slice ?_;rw[evalPart_none];refine QQ<|QQ ?_;rw[evalPart_some];refine bK (rf (oQ (X:=X)) kL oI s1 σ H1 (λx H'=>x=.int (-1)/\H'=H1) I1 ⟨1,rfl,rfl,rfl⟩) λu s3 ⟨y,H3,I3,r3,e3,e4⟩=>?_;subst e3;obtain rfl:=e4.symm;obtain⟨tk,rfl⟩:=r3;have I4:Inv X oI σ H1 { s3 with heap:=s3.heap.push { cls:=.type "slice",data:=.fields #[.none,.none,.int (-1) tk] } }:=I3.kept (t':=s3.toks) λb ob q=>dM _ q;show wpAny (model X.prog X.w) X.A (subscriptTail e (.Slice none none (some<|.UnaryOp .USub (.Constant (.int 1) j pos3) pos4) p2) (.ref a)<|.ref s3.heap.objs.size) (EP X oI σ Q) X.xe { s3 with heap:=s3.heap.push { cls:=.type "slice",data:=.fields #[.none,.none,.int (-1) tk] } };rcases q1 with⟨hx,q1⟩|⟨hx,q1⟩
 obtain⟨its,r,ht,hz⟩:=I4.tuple hx;have hlen:=r.length;refine tail_any (ops:=[.ref a,.ref s3.heap.objs.size]) ht.typeIs PyProof.Rows.slot_tuple_getitem.lookup (HT.getItem_tuple_rev ht (Heap.IsSliceOf.new ..) (by rw[fe];omega) ?_) (by with_unfolding_all rfl);refine⟨.ref _,_,I4.laid (t':=s3.toks) (o:=.tup xs.reverse) (λb ob q=>dM _ q) (bU _) ?_,rfl,q1 _<|I4.hok.fresh<|bU _⟩;exact⟨by rw[vo];exact hz,_,r.rev,IsTup.new _ _⟩;obtain⟨its,r,ht,hz⟩:=I4.list hx;have hlen:=r.length;refine tail_any (ops:=[.ref a,.ref s3.heap.objs.size]) ht.isList.typeIs slot_list_getitem.lookup (wpAny_getItem_list_slice ht.isList (Heap.IsSliceOf.new ..) .none .none (.int (-1) tk) E1 ?_ (by rw[fe];omega)) (by with_unfolding_all rfl);rw[JW];refine⟨.ref _,_,I4.laid (t':=s3.toks) (o:=.lst xs.reverse) (λb ob q=>dM _ q) (bU _) ?_,rfl,q1 _<|I4.hok.fresh<|bU _⟩;exact⟨by rw[vo];exact hz,_,0,r.rev,gZ _ rfl⟩
end
namespace Fl
def mq(P:Obj->Prop):Prop:=∀(o:Obj) f,P o->P (o.mapFields f)
theorem JY(o:Obj)(f:Array Value->Array Value):(o.mapFields f).dict=o.dict:=by unfold Obj.mapFields;split<;>rfl
def Is(cls:Value)(dx:Option Addr)(o:Obj):Prop:=o.cls=cls/\o.dict=dx
theorem Is.firm{cls:Value}{dx:Option Addr}:mq (Is cls dx):=λo f h=>⟨(Obj.cls_mapFields o f).trans h.1,(JY o f).trans h.2⟩
def Tr(P:Obj->Prop)(base:Heap)(e:Addr)(fl:Value)(h:Heap):Prop:=
 ∃(oe:Obj) (vs:Array Value) (T:Addr) (oT:Obj) (ts:Array Value),h.get? e=some oe/\P oe/\oe.data=.fields vs/\vs[1]? = some (.ref T)/\base.get? T=none/\T≠e/\h.get? T=some oT/\oT.data=.fields ts/\ts[3]? = some fl
structure Up(P:Obj->Prop)(base:Heap)(l:List Env)(e:Addr)(fl:Value)(h:Heap):Prop where
 st:base.StaysIn h
 new:base.get? e=none
 fr:h.FunFrames base l
 tr:Tr P base e fl h
section
variable{M:Model}{E:K5}{P:Obj->Prop}{l:List Env}{L e:Addr}{fl:Value}{Q:Unit->Shared->Prop}
theorem rp(hP:mq P){head:Value}{b:Bool}(hA:A.frames=some (env::outer))(hl:s.heap.FunFrames base (env::outer))(hf:env.frame=some L)(he:s.heap.get? e=some oe)(hp:P oe)
  (st:base.StaysIn s.heap) (new:base.get? e=none) (hd:oe.data=.fields vs) (hz:1<vs.size) (k:∀h',Up P base (env::outer) e (rawInt L) h'->s.heap.UpToSlots h'->Q () { s with heap:=h' }) :
  wpAny M A (do let a <-frameOf env;let pl <-entryPlaceOf L b;let c <-EntryCells.newEntry head a .none (rawInt L) .none pl;setField (.ref e) 1 c) Q E s:=by
 have out:e∉(env::outer).filterMap (·.frame):=λz=>by
  obtain⟨_,o,ho,nf⟩:=hl.mem z;cases he.symm.trans ho;exact nf vs hd
 refine QP<|wpAny_frameOf_fun hA hl hf λh1 so=>?_;refine QP<|wpAny_entryPlaceOf λpl place=>?_;unfold EntryCells.newEntry newFields;refine QP<|Q5 ?_ (place.sizeOk5 _ _ _ _ _);generalize ho:({ cls:=.type "traceback",dict:=none,data:=.fields ([head,.ref L,.none,rawInt L,.none]++(if pl.isEmpty then List.replicate 6 Value.none else pl)).toArray }:Obj)=ob;have e1:h1.get? e=some oe:=(so.2.1 e out).trans he;have ne:h1.objs.size≠e:=zd<|dC e1;have e2:(h1.push ob).get? e=some oe:=dM ob e1;have fr0:ob.isFreed=false:=by rw[<-ho];exact Obj.isFreed_of_fields rfl
 refine Rn e2 hd hz<|k _ ?_ ?_
 .have e3:=ze (Obj.mapFields (·.setIfInBounds 1 (Value.ref h1.objs.size))) e2 (Obj.isFreed_of_fields<|Obj.data_mapFields hd _)
  have oth:∀{c o},c≠e->h1.get? c=some o->((h1.push ob).update e (Obj.mapFields (·.setIfInBounds 1 (Value.ref h1.objs.size)))).get? c=some o:=λne hc=>(sh _ _<|QX ne).trans (dM ob hc);refine⟨λc o hc=>?_,new,hl.of_keeps λc o hc nf=>?_,_,_,h1.objs.size,ob,_,e3,hP _ _ hp,Obj.data_mapFields hd _,by simp[hz],?_,ne,(sh _ _<|QX ne).trans (gZ h1 fr0),by rw[<-ho],?_⟩
  .exact oth (λz=>by rw[z,new]at hc;cases hc)<|(so.2.1 c λz=>by rw[(hl.mem z).1]at hc;cases hc).trans (st c o hc)
  .obtain⟨sl,hs⟩:=so.2.2 c o hc
   exact⟨_,oth (λz=>by rw[z,he]at hc;cases hc;exact nf vs hd) hs,rfl⟩
  .cases q:base.get? h1.objs.size with
   |none=>rfl
   |some o=>
    have:h1.get? h1.objs.size=some o:=(so.2.1 _ λz=>by rw[(hl.mem z).1]at q;cases q).trans (st _ o q);exact QS (dC this)<|iJ _
  .rcases place with rfl|⟨_,_,_,_,_,_,_,rfl⟩<;>simp
 .intro c o hc nf
  obtain⟨sl,hs⟩:=so.2.2 c o hc;exact⟨sl,(sh _ _ (QX λz=>by rw[z,he]at hc;cases hc;exact nf vs hd)).trans (dM ob hs)⟩
theorem JZ(hP:mq P)(hA:A.frames=some (env::outer))(hl:s.heap.FunFrames base (env::outer))(hf:env.frame=some L)(he:s.heap.get? e=some oe)(hp:P oe)
  (st:base.StaysIn s.heap) (new:base.get? e=none) (hd:oe.data=.fields vs) (h1:vs[1]? = some .none) (k:∀h',Up P base (env::outer) e (rawInt L) h'->s.heap.UpToSlots h'->Q () { s with heap:=h' }) :
  wpAny M A (noteFrame (.ref e) env) Q E s:=by
 unfold noteFrame;simp only[hf];refine QP<|Q4 he hd h1 ?_;rw[jx<|wp];exact rp hP hA hl hf he hp st new hd (Ybm.mp h1).1 k
theorem CG(hP:mq P)(hA:A.frames=some (env::outer))(hf:env.frame=some L)(u:Up P base (env::outer) e .none s.heap)
  (k:∀h',Up P base (env::outer) e (rawInt L) h'->s.heap.UpToSlots h'->Q () { s with heap:=h' }):wpAny M A (noteFrame (.ref e) env) Q E s:=by
 obtain⟨st,new,fr,oe,vs,T,oT,ts,he,hp,hd,h1,nT,Te,hT,dT,h3⟩:=u;unfold noteFrame;simp only[hf];refine QP<|Q4 he hd h1 ?_;rw[ks (show(Value.ref T != Value.none)=true from E1)];refine QP<|Q4 hT dT h3 ?_;rw[jx<|by simp[rawInt]];refine QP<|Rn hT dT (Ybm.mp h3).1 ?_;have oth:∀{c o},c≠T->s.heap.get? c=some o->(s.heap.update T (Obj.mapFields (·.setIfInBounds 3 Value.none))).get? c=some o:=λne hc=>(sh _ _<|QX ne).trans hc;have notT:∀{c o},s.heap.get? c=some o->(∀vs,o.data≠.fields vs)->c≠T:=λhc nf z=>by
  rw[z,hT]at hc;cases hc;exact nf ts dT
 refine rp hP hA (fr.of_keeps λc o hc nf=>⟨o,oth (notT hc nf) hc,rfl⟩) hf (oth (QX Te) he) hp (λc o hc=>oth (λz=>by rw[z,nT]at hc;cases hc)<|st c o hc) new hd (Ybm.mp h1).1 λh' u' up=>k h' u' λc o hc nf=>up c o (oth (notT hc nf) hc) nf
theorem Fw(u:Up P base l e fl s.heap)(k:∀h',Up P base l e .none h'->s.heap.UpToSlots h'->Q () { s with heap:=h' }):wpAny M A (setFlight (.ref e) none) Q E s:=by
 obtain⟨st,new,fr,oe,vs,T,oT,ts,he,hp,hd,h1,nT,Te,hT,dT,h3⟩:=u;have oth:∀{c o},c≠T->s.heap.get? c=some o->(s.heap.update T (Obj.mapFields (·.setIfInBounds 3 ((none:Option Addr).elim Value.none λf=>rawInt f)))).get? c=some o:=λne hc=>(sh _ _<|QX ne).trans hc;have notT:∀{c o},s.heap.get? c=some o->(∀vs,o.data≠.fields vs)->c≠T:=λhc nf z=>by rw[z,hT]at hc;cases hc;exact nf ts dT
 have z3:=(Ybm.mp h3).1;unfold setFlight;refine QP<|Q4 he hd h1 ?_;rw[ks (show(Value.ref T != Value.none)=true from E1)];refine Rn hT dT z3<|k _ ⟨λc o hc=>oth (λz=>by rw[z,nT]at hc;cases hc)<|st c o hc,new,fr.of_keeps λc o hc nf=>⟨o,oth (notT hc nf) hc,rfl⟩,oe,vs,T,_,_,oth (QX Te) he,hp,hd,h1,nT,Te,ze _ hT<|Obj.isFreed_of_fields<|Obj.data_mapFields dT _,Obj.data_mapFields dT _,by simp[z3]⟩ λc o hc nf=>⟨o.slots,oth (notT hc nf) hc⟩
theorem leaves(hP:mq P)(hA:A.frames=some (env::outer))(hf:env.frame=some L)(u:Up P base (env::outer) e .none s.heap)(k:∀h',Up P base outer e .none h'->s.heap.UpToSlots h'->Q () { s with heap:=h' }) :
  wpAny M A (leaving env<|.ref e) Q E s:=by
 unfold leaving;exact QP<|CG hP hA hf u λh1 u1 up1=>Fw (s:={ s with heap:=h1 }) u1 λh2 u2 up2=>k h2 ⟨u2.st,u2.new,u2.fr.2.2,u2.tr⟩ (up1.trans up2)
theorem leaves_new(hP:mq P)(hA:A.frames=some (env::outer))(hl:s.heap.FunFrames base (env::outer))(hf:env.frame=some L)(he:s.heap.get? e=some oe)(hp:P oe)
  (st:base.StaysIn s.heap) (new:base.get? e=none) (hd:oe.data=.fields vs) (h1:vs[1]? = some .none) (k:∀h',Up P base outer e .none h'->s.heap.UpToSlots h'->Q () { s with heap:=h' }):wpAny M A (leaving env<|.ref e) Q E s:=by
 unfold leaving;exact QP<|JZ hP hA hl hf he hp st new hd h1 λh1 u1 up1=>Fw (s:={ s with heap:=h1 }) u1 λh2 u2 up2=>k h2 ⟨u2.st,u2.new,u2.fr.2.2,u2.tr⟩ (up1.trans up2)
end
end Fl
def fM(P:Program)(w:World):pK:=λouter H s E e s'=>∃(ea:Addr) (cls:Value) (dx:Option Addr) (H':Hp) (B:Heap),e=.ref ea/\Fl.Up (Fl.Is cls dx) B outer ea .none s'.heap/\s'.os=s.os/\AllBare s'.gens/\Un (eD outer) [] H H' s.heap s'.heap/\HOk P w H' s'.heap/\
 (∀b o,s.heap.get? b=some o->b∉eD outer->∃o',B.get? b=some o')/\(∀b u,H' b=some u->∃o,B.get? b=some o)/\E cls dx H'
theorem cM:dQ (fM P w) X E0:=λ_ _ _ _ _ _ _ ⟨_,_,_,_,_,_,_,_,_,_,_,_,_,z⟩=>z.elim
theorem HOk.through{B h2:Heap}(hok:HOk P w H h)(hT:∀ b u,H b=some u->∃ o,B.get? b=some o)(s1:B.StaysIn h)(s2:B.StaysIn h2):HOk P w H h2:=λa o e=>(hok a o e).stay (λb u hb q=>by
  have hb':∃v,H b=some v:=by
   rcases hb with rfl|hb
   .exact⟨_,e⟩
   .exact⟨_,hb⟩
  obtain⟨v,hv⟩:=hb';obtain⟨o',eB⟩:=hT b v hv;have:=s1 b o' eB;rw[q]at this;cases this;exact s2 b _ eB) (λ_ z=>z) λ_ _ z=>z
section
variable{N:Rv}{qual:Str}{scope:Scope}{cd:Value}{E:XK}
theorem CH{l:List Env}{b:Addr}(h:b∈eD l):b∈eD (env::l):=by unfold eD at h ⊢;obtain⟨e,h1,h2⟩:=Yay.mp h;exact Yay.mpr ⟨e,jv _ h1,h2⟩
theorem J0:dQ (fM P w) (ei (fM P w) P w K mg base N qual scope f cd A outer s H E) E:=by
 rintro oI σ H1 s1 _ s' I ⟨ea,cls,dx,H',B,rfl,fl,hos,hbare,un,hok,hB,hT,hE⟩;have nostk:∀b o,s.heap.get? b=some o->b∉eD outer->b∉eD (envOfC qual scope s.heap.objs.size f cd::outer):=λb o e hb hm=>by
  rcases Yan.mp (I.stkSub b hm) with z|z
  have l1:=dC e;have l2:s.heap.objs.size<=(envOfC qual scope s.heap.objs.size f cd).locals:=I.ok.above;have z':b=(envOfC qual scope s.heap.objs.size f cd).locals:=z;rw[<-z']at l2;exact QS (dP l1 l2)<|iJ _
  exact hb z
 have ib:Un (eD outer) [] H H1 s.heap s1.heap:=I.base;show wpAny (model P w) (A.deeper<|envOfC qual scope s.heap.objs.size f cd) (leaving (envOfC qual scope s.heap.objs.size f cd)<|.ref ea) (λ_ s''=>fM P w outer H s E (.ref ea) s'') _ s';refine Fl.leaves Fl.Is.firm I.ok.frames rfl fl λh2 fl2 up=>?_;have frm:∀b,b∈eD (envOfC qual scope s.heap.objs.size f cd::outer)->∃o,s'.heap.get? b=some o/\∀vs,o.data≠.fields vs:=λb hb=>(fl.fr.mem hb).2;refine⟨ea,cls,dx,H',B,rfl,fl2,hos.trans I.os,hbare,⟨λb o e n hb _=>?_,λb o e n hb _=>?_,λb o e n _=>?_,λb o e _=>?_,λb xs e=>un.tups b xs<|ib.tups b xs e,λb o xs e=>un.frzs b o xs<|ib.frzs b o xs e,λb ps e=>?_,λ_ ⟨o,e⟩ n=>un.sys E1 (ib.there _ o e<|E1)<|ib.sys E1 ⟨o,e⟩ n⟩,hok.through hT fl.st fl2.st,λb o e hb=>?_,hT,hE⟩;have e1:=ib.keep b o e n hb E1;have n1:=ib.free b o e n E1;have e2:=un.keep b o e1 n1 (nostk b o e hb) E1;obtain⟨o',eB⟩:=hB b o e1<|nostk b o e hb;have:=fl.st b o' eB;rw[e2]at this;cases this;exact fl2.st b _ eB
 obtain⟨sl,e1⟩:=ib.slot b o e n hb E1;have n1:=ib.free b o e n E1;obtain⟨sl',e2⟩:=un.slot b _ e1 n1 (CH hb) E1;obtain⟨o3,e3,nf⟩:=frm b<|CH hb;rw[e2]at e3;cases e3;obtain⟨sl3,e4⟩:=up b _ e2 nf;exact⟨sl3,e4⟩
 obtain⟨o',e1⟩:=ib.there b o e E1;exact un.free b o' e1 (ib.free b o e n<|E1) E1;obtain⟨o',e1⟩:=ib.there b o e E1;by_cases hb:b∈eD (envOfC qual scope s.heap.objs.size f cd::outer);obtain⟨o3,e3,nf⟩:=frm b hb;obtain⟨sl3,e4⟩:=up b _ e3 nf;exact⟨_,e4⟩;obtain⟨o2,eB⟩:=hB b o' e1 hb;exact⟨o2,fl2.st b _ eB⟩;obtain⟨m1,e1⟩:=ib.tbls b ps e;obtain⟨m2,e2⟩:=un.tbls b _ e1;exact⟨m1++m2,by rw[e2,BB]⟩;obtain⟨o',e1⟩:=ib.there b o e E1;exact hB b o' e1<|nostk b o e hb
def kW(X:Cx)(E:XK):Prop:=∀(oI:K4) (σ:St) (H:Hp) (s:Shared) (h':Heap) (e:Addr) (cls:Value) (args:K9),Inv X oI σ H s->Heap.MadeExcOf s.heap h' e cls args->E cls none H->X.xe (.ref e) { s with heap:=h' }
theorem J1:kW (ei (fM P w) P w K mg base N qual scope f cd A outer s H E) E:=by
 intro oI σ H1 s1 h2 e cls args I hx hE;have ib:Un (eD outer) [] H H1 s.heap s1.heap:=I.base;have neL:∀b o,s.heap.get? b=some o->b∉eD outer->b∉eD (envOfC qual scope s.heap.objs.size f cd::outer):=λb o e hb hm=>by
  rcases Yan.mp (I.stkSub b hm) with z|z
  have l1:=dC e;have l2:s.heap.objs.size<=(envOfC qual scope s.heap.objs.size f cd).locals:=I.ok.above;have z':b=(envOfC qual scope s.heap.objs.size f cd).locals:=z;rw[<-z']at l2;exact QS (dP l1 l2)<|iJ _
  exact hb z
 have stk:s1.heap.FunFrames base (envOfC qual scope s.heap.objs.size f cd::outer):=I.stack;have frm:∀b,b∈eD (envOfC qual scope s.heap.objs.size f cd::outer)->∃o,s1.heap.get? b=some o/\∀vs,o.data≠.fields vs:=λb hb=>(stk.mem hb).2;have inB:∀{b o},s1.heap.get? b=some o->b∉eD (envOfC qual scope s.heap.objs.size f cd::outer)->(W.hideAll s1.heap<|eD (envOfC qual scope s.heap.objs.size f cd::outer)).get? b=some o:=λe hb=>W.hideAll_get _ e hb;have hT:∀b u,H1 b=some u->∃o,(W.hideAll s1.heap<|eD (envOfC qual scope s.heap.objs.size f cd::outer)).get? b=some o:=λb u hu=>by
  have hb:b∉eD (envOfC qual scope s.heap.objs.size f cd::outer):=λhm=>by have:=I.stkFree b hm;rw[hu]at this;cases this
  have l:=I.hok.lt hu;have:∃o,s1.heap.get? b=some o:=by
   have q:=I.hok b u hu;cases u with
   |lst xs=>obtain⟨_,_,_,_,e⟩:=q;exact⟨_,e⟩
   |tup xs=>obtain⟨_,_,_,o,e,_⟩:=q;exact⟨_,e⟩
   |dK kvs=>obtain⟨_,_,_,_,o,_,_,e,_⟩:=q;exact⟨_,e⟩
   |dT kvs=>obtain⟨_,_,_,_,o,_,_,e,_⟩:=q;exact⟨_,e⟩
   |set S n=>obtain⟨o,_,_,_,e,_⟩:=q;exact⟨_,e⟩
   |ins C dx fs=>obtain⟨_,_,_,e,_⟩:=q;exact⟨_,e⟩
   |own y=>obtain⟨o,e⟩:=q;exact⟨_,e⟩
   |xd fs=>obtain⟨_,⟨o,_,_,e,_⟩,_⟩:=q;exact⟨_,e⟩
   |rng lo hi=>obtain⟨_,_,_,e⟩:=q;exact⟨_,e⟩
   |frz ob u=>obtain⟨e,_⟩:=q;exact⟨_,e⟩
   |tbl ps=>exact⟨_,(show s1.heap.get? b=some _ from q)⟩|met f y=>exact⟨_,(show s1.heap.get? b=some _ from q)⟩|ext φ=>obtain⟨_,⟨o,e⟩,_⟩:=q;exact⟨_,e⟩
  obtain⟨o,e⟩:=this;exact⟨o,inB e hb⟩
 show wpAny (model P w) (A.deeper<|envOfC qual scope s.heap.objs.size f cd) (leaving (envOfC qual scope s.heap.objs.size f cd)<|.ref e) (λ_ s''=>fM P w outer H s E (.ref e) s'') _ _;obtain⟨tt,he,_,_⟩:=hx.there;have newB:(W.hideAll s1.heap<|eD (envOfC qual scope s.heap.objs.size f cd::outer)).get? e=none:=by
  cases q:(W.hideAll s1.heap<|eD (envOfC qual scope s.heap.objs.size f cd::outer)).get? e with
  |none=>rfl|some o=>have:=W.of_hideAll _ q;rw[hx.new]at this;cases this
 refine Fl.leaves_new (P:=Fl.Is cls none) (base:=W.hideAll s1.heap<|eD (envOfC qual scope s.heap.objs.size f cd::outer)) Fl.Is.firm I.ok.frames ((W.funFrames_hide stk λenv he b hb=>Yay.mpr ⟨env,he,hb⟩).of_keeps λb o hb _=>⟨o,hx.keeps b o hb,rfl⟩) rfl he ⟨rfl,rfl⟩
  (λb o q=>hx.keeps b o<|W.of_hideAll _ q) newB rfl rfl λh3 fl up=>?_
 have st1:(W.hideAll s1.heap<|eD (envOfC qual scope s.heap.objs.size f cd::outer)).StaysIn s1.heap:=λb o q=>W.of_hideAll _ q;refine⟨e,cls,none,H1,_,rfl,fl,I.os,I.bare,⟨λb o e n hb _=>?_,λb o e n hb _=>?_,λb o e n _=>ib.free b o e n<|E1,λb o e _=>?_,λb xs e=>ib.tups b xs e,λb o xs e=>ib.frzs b o xs e,λb ps e=>ib.tbls b ps e,λ_ eg n=>ib.sys E1 eg n⟩,I.hok.through hT st1 fl.st,λb o e hb=>?_,hT,hE⟩;exact fl.st b o<|inB (ib.keep b o e n hb<|E1) (neL b o e hb)
 obtain⟨sl,e1⟩:=ib.slot b o e n hb E1;obtain⟨o3,e3,nf⟩:=frm b<|CH hb;rw[e1]at e3;cases e3;obtain⟨sl3,e4⟩:=up b _ (hx.keeps b _ e1) nf;exact⟨sl3,e4⟩
 obtain⟨o',e1⟩:=ib.there b o e E1;by_cases hb:b∈eD (envOfC qual scope s.heap.objs.size f cd::outer);obtain⟨o3,e3,nf⟩:=frm b hb;obtain⟨sl3,e4⟩:=up b _ (hx.keeps b _ e3) nf;exact⟨_,e4⟩;exact⟨o',fl.st b o'<|inB e1 hb⟩;obtain⟨o',e1⟩:=ib.there b o e E1;exact⟨o',inB e1<|neL b o e hb⟩
end
section
def CJ(K:QR)(tl:TE):TI:=λσ H R=>tl σ H λx H1=>∃a,x=.ref a/\(((∃xs,SqL K H1 a xs)/\R (Fk K a) H1)\/((∃xs,SqT K H1 a xs)/\R (Co K a) H1))
theorem J3{l:Expr}{tl:TE}(hl:PE X l tl):PI X tg l (CJ X.K tl):=by
 intro oI s σ H R I h;refine bK (hl oI s σ H _ I h) λv s1 ⟨x,H1,I1,r1,q1⟩=>?_;obtain⟨a,e,⟨⟨xs,hq⟩,q⟩|⟨⟨xs,hq⟩,q⟩⟩:=q1;subst e;cases r1;obtain⟨its,rv,p,hz⟩:=I1.list hq;refine wpAny_pyIter_list p.isList ?_;refine⟨s1.heap.objs.size,[s1.heap.objs.size],_,_,H1,rfl,I1.kept (t':=s1.toks) λb o e=>dM _ e,l7 a _,⟨_,gZ _ rfl,rfl,rfl⟩,λb hb=>?_,q⟩;have e:b=s1.heap.objs.size:=by simpa using hb
 subst e;exact I1.fpOk (bU _)<|I1.hok.fresh (bU _)
 subst e;cases r1;obtain⟨its,rv,p,hz⟩:=I1.tuple hq;refine wpAny_pyIter_tuple (show s1.heap.IsTuple a its.toArray from p) ?_;refine⟨s1.heap.objs.size,[s1.heap.objs.size],_,_,H1,rfl,I1.kept (t':=s1.toks) λb o e=>dM _ e,kN a _,⟨_,gZ _ rfl,rfl,rfl⟩,λb hb=>?_,q⟩;have e:b=s1.heap.objs.size:=by simpa using hb
 subst e;exact I1.fpOk (bU _)<|I1.hok.fresh (bU _)
end
theorem Inv.turnedL(ts:List Addr)(I:Inv X oI σ H s)(k:∀b o,b∉ts->s.heap.get? b=some o->h'.get? b=some o)
  (hf:∀b∈ts,dY X oI H b):Inv X oI σ H { s with heap:=h',toks:=t' }:=by
 refine I.step (g':=s.gens) (d':=s.drawn) (ch:=ts) (λb hb=>?_) (λb o _ _ hc e _=>k b o hc e) (λb o _ _ hc e _=>⟨o.slots,k b o hc e⟩) (λ_ _ _ _ n=>n)
  (λb o hc e=>⟨o,k b o hc e⟩) (λ_ _ e=>e) (λ_ _ _ e=>e) (λb ps e=>⟨#[],by rw[e];simp⟩) (λm hm=>?_) (λb u e=>?_) I.bare (λn=>n)
 .obtain⟨_,f1,_,f3,f4,f5⟩:=hf b hb
  exact⟨f3,f1,f4,f5⟩
 .obtain⟨o,es,ep,ho,r⟩:=hm
  exact⟨o,es,ep,k _ o (λz=>(hf _ z).2.1 rfl) ho,r⟩
 .have nt:∀c v,H c=some v->c∉ts:=λc v q z=>by rw[(hf c z).1]at q;cases q
  refine(I.hok b u e).stay (λc v hc q=>k c v ?_ q) (λ_ q=>q) λ_ _ q=>q;rcases hc with z|z
  .rw[z];exact nt b u e
  .exact nt c _ z
def SIt(κ:Bool)(h:Heap)(it l:Addr)(i:Nat):Prop:=match κ with|true=>h.IsTupleIter it l i|false=>h.IsListIter it l i
def SSq(κ:Bool)(h:Heap)(l:Addr)(xs:Array Value):Prop:=match κ with|true=>h.IsTuple l xs|false=>h.IsList l xs
section
variable{it:Addr}
theorem SIt.keep(x:SIt κ h it l i)(k:∀o,h.get? it=some o->h'.get? it=some o):SIt κ h' it l i:=by cases κ;exact Heap.IsListIter.at x k;exact Heap.IsTupleIter.at x k
theorem SIt.obj(x:SIt κ h it l i):∃o,h.get? it=some o/\(∀v,o.data≠.cell v):=by
 cases κ;all_goals
  obtain⟨o,e,_,d⟩:=x;exact⟨o,e,λv z=>by rw[d]at z;cases z⟩
theorem SSq.keep(x:SSq κ h l xs)(k:∀o,h.get? l=some o->h'.get? l=some o):SSq κ h' l xs:=by
 cases κ;all_goals
  obtain⟨o,e,r⟩:=x;exact⟨o,k o e,r⟩
end
section
variable{E:K5}{it:Addr}{x:Value}
theorem wj(hi:SIt κ s.heap it l i)(hl:SSq κ s.heap l xs)(hx:xs[i]? = some x)(q:∀h',SIt κ h' it l (i+1)->Heap.SameBut it s.heap h'->Q x { s with heap:=h' }) :
  wpAny (model prog w) A (Builtin.SmallTypes.nextOf<|.ref it) Q E s:=by
 cases κ with
 |false=>exact wpAny_nextOf_list_item hi hl hx q
 |true=>
  have ht:s.heap.IsTupleIter it l i:=hi;obtain⟨ob,hob,hcl,hda⟩:=id ht;obtain⟨sq,hsq,_,nn,hds⟩:=(show s.heap.IsTuple l xs from hl)
  unfold Builtin.SmallTypes.nextOf;refine QP<|wpAny_callSpecial?_slot (name:=Str.ofString "__next__") ht.typeIs F.slot_tuple_iterator_next (Re F.slot_tuple_iterator_next ht.typeIs F.entry_tuple_iterator_next ?_<|F.args_tuple_iterator_next_1 _);show wpAny _ _ (field (.ref it) 0 >>= _) _ E s;refine QP<|Q4 hob hda (x:=.ref l) rfl ?_;show wpAny _ _ (if(Value.ref l==Value.none)=true then _ else _) _ E s;rw[jx (show¬((Value.ref l==Value.none)=true) by exact oC)];show wpAny _ _ (field (.ref it) 1 >>= _) _ E s;refine QP<|Q4 hob hda (x:=.int i 0) rfl ?_;show wpAny _ _ (seqItems? (.ref l) >>= _) _ E s;refine QP<|Rf hsq hds ?_;simp only[jO,hx];refine QP<|Rn hob hda E1 (QQ ⟨x,rfl,QQ<|q _ ?_<|Heap.SameBut.update ..⟩);exact⟨_,ze _ hob<|Obj.isFreed_of_fields<|Obj.data_mapFields hda _,(Obj.cls_mapFields ..).trans hcl,by rw[Obj.data_mapFields hda];simp[rawInt]⟩
theorem uP(hh:A.handled=none)(hi:SIt κ s.heap it l i)(hl:SSq κ s.heap l xs)(hx:xs[i]? = none)
  (q:∀h' e,Heap.ExtBut it s.heap h'->(∃o,h'.get? e=some o/\o.cls=.type "StopIteration")->E (.ref e) { s with heap:=h' }) :
  wpAny (model prog w) A (Builtin.SmallTypes.nextOf<|.ref it) Q E s:=by
 cases κ with
 |false=>exact wpAny_nextOf_list_end hh hi hl hx q
 |true=>
  have ht:s.heap.IsTupleIter it l i:=hi;obtain⟨ob,hob,hcl,hda⟩:=id ht;obtain⟨sq,hsq,_,nn,hds⟩:=(show s.heap.IsTuple l xs from hl)
  unfold Builtin.SmallTypes.nextOf;refine QP<|wpAny_callSpecial?_slot (name:=Str.ofString "__next__") ht.typeIs F.slot_tuple_iterator_next (Re F.slot_tuple_iterator_next ht.typeIs F.entry_tuple_iterator_next ?_<|F.args_tuple_iterator_next_1 _);show wpAny _ _ (field (.ref it) 0 >>= _) _ E s;refine QP<|Q4 hob hda (x:=.ref l) rfl ?_;show wpAny _ _ (if(Value.ref l==Value.none)=true then _ else _) _ E s;rw[jx (show¬((Value.ref l==Value.none)=true) by exact oC)];show wpAny _ _ (field (.ref it) 1 >>= _) _ E s;refine QP<|Q4 hob hda (x:=.int i 0) rfl ?_;show wpAny _ _ (seqItems? (.ref l) >>= _) _ E s;refine QP<|Rf hsq hds ?_;simp only[jO,hx];refine QP<|Rj (QP<|Rn hob hda E1 ?_);show wpAny _ _ (newExc (.type "StopIteration") [] >>= _) _ E _;refine QP ?_;simp only[newExc,newTuple];refine QP<|Q5 ?_ (by size_fits);refine QP (m:=firstArgMember _ _)<|wpAny_of_eq (a:=Value.none) (by first|rfl|(rw[firstArgMember];rfl)) (Q5 ?_<|by size_fits);simp only[raiseNew];refine QP<|wpAny_handled ?_;rw[show A.in1.handled=none from hh];exact QP<|QQ (wpAny_throw<|q _ _ (((Heap.SameBut.update ..).extBut.push _).push _) ⟨_,gZ _ rfl,rfl⟩)
end
structure wk(z TI TO j1 j2:Addr):Prop where
 a:TI≠z
 b:TO≠z
 c:j1≠z
 d:j2≠z
 e:TI≠TO
 f:TI≠j1
 g:TI≠j2
 h:TO≠j1
 i:TO≠j2
 j:j1≠j2
def uQ(z TI TO j1 j2 l:Addr):Prop:=l≠z/\l≠TI/\l≠TO/\l≠j1/\l≠j2
section
variable{E:K5}{z TI TO j1 j2 l1 l2:Addr}{x y a b:Value}
theorem J4(D:wk z TI TO j1 j2)(d1:uQ z TI TO j1 j2 l1)(d2:uQ z TI TO j1 j2 l2)
  (zz:IsZip s.heap z TI TO .none) (zi:IsPair s.heap TI (.ref j1) (.ref j2)) (zo:IsPair s.heap TO a b) (u1:SIt κ s.heap j1 l1 i) (u2:SIt κ' s.heap j2 l2 i) (v1:SSq κ s.heap l1 xs) (v2:SSq κ' s.heap l2 ys) (ex:xs[i]? = some x) (ey:ys[i]? = some y)
  (q:∀ h',IsZip h' z TI TO (rawInt s.heap.objs.size)->IsPair h' TO x y->SIt κ h' j1 l1 (i+1)->SIt κ' h' j2 l2 (i+1)->IsPair h' s.heap.objs.size x y->h'.objs.size=s.heap.objs.size+1->
   (∀c o,c≠z->c≠TO->c≠j1->c≠j2->s.heap.get? c=some o->h'.get? c=some o)->Q (.ref s.heap.objs.size) { s with heap:=h' }) :
  wpAny (model prog w) A (Builtin.«zip.__next__» ⟨[.ref z],[]⟩) (λfin s'=>∃v,fin=.done (.ret v)/\Q v s') E s:=by
 obtain⟨o1z,_,o1O,o11,o12⟩:=d1;obtain⟨o2z,_,o2O,o21,o22⟩:=d2;show wpAny _ _ (field (.ref z) 2 >>= _) _ E _;refine QP<|Q4 zz rfl (x:=.bool false) rfl ?_;show wpAny _ _ (field (.ref z) 3 >>= _) _ E _;refine QP<|Q4 zz rfl (x:=.ref TI) rfl (QP<|Rf zi rfl ?_);show wpAny _ _ (Builtin.SmallTypes.ownedTupleIsFree (.ref z) >>= _) _ E _;refine QP ?_;unfold Builtin.SmallTypes.ownedTupleIsFree;refine QP<|Q4 zz rfl (x:=.none) rfl (QQ ?_);simp only[if_true];refine QP<|Rj (QP<|Q4 zz rfl (x:=.ref TO) rfl<|QP<|Rg zz E1 λg1 zz1 k1=>?_);replace zz1:IsZip g1 z TI TO .ellipsis:=zz1;refine QP ?_;simp only[List.zipIdx_cons,List.zipIdx_nil,BE,List.forIn_nil];refine QP<|QP (Ru ?_);show wpAny _ _ (Builtin.SmallTypes.nextOf (.ref j1) >>= _) _ _ _;refine QP<|wj (u1.keep λo e=>k1.extBut _ o D.c e) (v1.keep λo e=>k1.extBut _ o o1z e) ex λg2 u1' k2=>QQ ?_;have zo2:IsPair g2 TO a b:=k2.extBut _ _ D.h<|k1.extBut _ _ D.b zo;refine QP<|Rf zo2 rfl (QP<|Rr zo2 λg3 zo3 k3=>?_);replace zo3:IsPair g3 TO x b:=zo3;refine QP<|wpAny_letGo (QQ ?_);refine QP<|QP (Ru ?_);show wpAny _ _ (Builtin.SmallTypes.nextOf (.ref j2) >>= _) _ _ _;refine QP<|wj (u2.keep λo e=>k3.extBut _ o D.i.symm<|k2.extBut _ o D.j.symm<|k1.extBut _ o D.d e) (v2.keep λo e=>k3.extBut _ o o2O<|k2.extBut _ o o21<|k1.extBut _ o o2z e) ey λg4 u2' k4=>QQ ?_;have zo4:IsPair g4 TO x b:=k4.extBut _ _ D.i zo3;refine QP<|Rf zo4 rfl (QP<|Rr zo4 λg5 zo5 k5=>?_);replace zo5:IsPair g5 TO x y:=zo5;refine QP<|wpAny_letGo (QQ<|QQ<|QP<|Rf zo5 rfl<|QP<|wpAny_newTuple ?_);have sz:g5.objs.size=s.heap.objs.size:=by rw[k5.1,k4.1,k3.1,k2.1,k1.1]
 have zz5:IsZip g5 z TI TO .ellipsis:=k5.extBut _ _ D.b.symm<|k4.extBut _ _ D.d.symm (k3.extBut _ _ D.b.symm<|k2.extBut _ _ D.c.symm zz1);have kk:∀c o,c≠z->c≠TO->c≠j1->c≠j2->s.heap.get? c=some o->g5.get? c=some o:=λc o c1 c2 c3 c4 e=>k5.extBut _ _ c2<|k4.extBut _ _ c4 (k3.extBut _ _ c2<|k2.extBut _ _ c3<|k1.extBut _ _ c1 e);have r1:SIt κ g5 j1 l1 (i+1):=u1'.keep λo e=>k5.extBut _ o D.h.symm<|k4.extBut _ o D.j (k3.extBut _ o D.h.symm e);have r2:SIt κ' g5 j2 l2 (i+1):=u2'.keep λo e=>k5.extBut _ o D.i.symm e;have zlt:z<g5.objs.size:=dC zz5;show wpAny _ _ (Builtin.SmallTypes.ownedTupleHandOut (.ref z) (.ref g5.objs.size) >>= _) _ E _;refine QP ?_;unfold Builtin.SmallTypes.ownedTupleHandOut;have zz6:IsZip (g5.push { cls:=.type "tuple",data:=.seq #[x,y] }) z TI TO .ellipsis:=dM _ zz5;refine QP<|Rg zz6 E1 λg7 zz7 k7=>?_;replace zz7:IsZip g7 z TI TO (rawInt g5.objs.size):=zz7;refine Rg zz7 E1 λg8 zz8 k8=>?_;replace zz8:IsZip g8 z TI TO (rawInt g5.objs.size):=zz8;have up:∀c o,c≠z->g5.get? c=some o->g8.get? c=some o:=λc o c1 e=>k8.extBut _ _ c1<|k7.extBut _ _ c1 (dM _ e);have tt8:IsPair g8 g5.objs.size x y:=k8.extBut _ _ (zd zlt)<|k7.extBut _ _ (zd zlt) (gZ _ rfl);have sz8:g8.objs.size=g5.objs.size+1:=by rw[k8.1,k7.1,mL]
 rw[sz]at zz8 tt8 sz8;refine QQ ⟨_,rfl,?_⟩;show Q (.ref g5.objs.size) _;rw[sz];exact q g8 zz8 (up _ _ D.b zo5) (r1.keep λo e=>up _ o D.c e) (r2.keep λo e=>up _ o D.d e) tt8 sz8 λc o c1 c2 c3 c4 e=>up c o c1<|kk c o c1 c2 c3 c4 e
theorem J5{Q:Fin->Shared->Prop}(hh:A.handled=none)(D:wk z TI TO j1 j2)(d1:uQ z TI TO j1 j2 l1)(d2:uQ z TI TO j1 j2 l2)
  (zz:IsZip s.heap z TI TO .none) (zi:IsPair s.heap TI (.ref j1) (.ref j2)) (zo:IsPair s.heap TO a b) (u1:SIt κ s.heap j1 l1 i) (u2:SIt κ' s.heap j2 l2 i) (v1:SSq κ s.heap l1 xs) (v2:SSq κ' s.heap l2 ys) (en:xs[i]? = none\/ys[i]? = none)
  (q:∀h' e,(∀c o,c≠z->c≠TO->c≠j1->c≠j2->s.heap.get? c=some o->h'.get? c=some o)->(∃o,h'.get? e=some o/\o.cls=.type "StopIteration")->E (.ref e) { s with heap:=h' }) :
  wpAny (model prog w) A (Builtin.«zip.__next__» ⟨[.ref z],[]⟩) Q E s:=by
 obtain⟨o1z,_,o1O,o11,o12⟩:=d1;obtain⟨o2z,_,o2O,o21,o22⟩:=d2;show wpAny _ _ (field (.ref z) 2 >>= _) _ E _;refine QP<|Q4 zz rfl (x:=.bool false) rfl ?_;show wpAny _ _ (field (.ref z) 3 >>= _) _ E _;refine QP<|Q4 zz rfl (x:=.ref TI) rfl (QP<|Rf zi rfl ?_);show wpAny _ _ (Builtin.SmallTypes.ownedTupleIsFree (.ref z) >>= _) _ E _;refine QP ?_;unfold Builtin.SmallTypes.ownedTupleIsFree;refine QP<|Q4 zz rfl (x:=.none) rfl (QQ ?_);simp only[if_true];refine QP<|Rj (QP<|Q4 zz rfl (x:=.ref TO) rfl<|QP<|Rg zz E1 λg1 zz1 k1=>?_);replace zz1:IsZip g1 z TI TO .ellipsis:=zz1;refine QP ?_;simp only[List.zipIdx_cons,List.zipIdx_nil,BE,List.forIn_nil];refine QP<|QP (Ru ?_);show wpAny _ _ (Builtin.SmallTypes.nextOf (.ref j1) >>= _) _ _ _;cases ex:xs[i]? with
 |none=>
  refine QP<|uP hh (u1.keep λo e=>k1.extBut _ o D.c e) (v1.keep λo e=>k1.extBut _ o o1z e) ex λg2 e k2 ⟨oe,e1,e2⟩=>?_;have zz2:IsZip g2 z TI TO .ellipsis:=k2 _ _ D.c.symm zz1;have ne:e≠z:=λr=>by subst r;rw[zz2]at e1;cases e1;simp at e2
  exact Rg zz2 E1 λg3 _ k3=>q g3 e (λc o c1 _ c3 _ r=>k3.extBut _ _ c1<|k2 _ _ c3<|k1.extBut _ _ c1 r) ⟨oe,k3.extBut _ _ ne e1,e2⟩
 |some x=>
  have ey:ys[i]? = none:=en.elim (λh=>by rw[ex]at h;cases h) id;refine QP<|wj (u1.keep λo e=>k1.extBut _ o D.c e) (v1.keep λo e=>k1.extBut _ o o1z e) ex λg2 u1' k2=>QQ ?_;have zo2:IsPair g2 TO a b:=k2.extBut _ _ D.h<|k1.extBut _ _ D.b zo;refine QP<|Rf zo2 rfl (QP<|Rr zo2 λg3 zo3 k3=>?_);refine QP<|wpAny_letGo (QQ ?_);refine QP<|QP (Ru ?_);show wpAny _ _ (Builtin.SmallTypes.nextOf (.ref j2) >>= _) _ _ _;refine QP<|uP hh (u2.keep λo e=>k3.extBut _ o D.i.symm<|k2.extBut _ o D.j.symm<|k1.extBut _ o D.d e) (v2.keep λo e=>k3.extBut _ o o2O<|k2.extBut _ o o21<|k1.extBut _ o o2z e) ey λg4 e k4 ⟨oe,e1,e2⟩=>?_;have zz4:IsZip g4 z TI TO .ellipsis:=k4 _ _ D.d.symm<|k3.extBut _ _ D.b.symm (k2.extBut _ _ D.c.symm zz1);have ne:e≠z:=λr=>by subst r;rw[zz4]at e1;cases e1;simp at e2
  exact Rg zz4 E1 λg5 _ k5=>q g5 e (λc o c1 c2 c3 c4 r=>k5.extBut _ _ c1<|k4 _ _ c4<|k3.extBut _ _ c2<|k2.extBut _ _ c3<|k1.extBut _ _ c1 r) ⟨oe,k5.extBut _ _ ne e1,e2⟩
end
section
theorem Inv.turnedN{o:HO}(ts:List Addr)(I:Inv X oI σ H s)(k:∀b o,b∉ts->s.heap.get? b=some o->h'.get? b=some o)
  (hf:∀b∈ts,dY X oI H b) (hp:s.heap.objs.size<=a) (new:ObjOk X.prog X.w (upd H a o) h' a o):Inv X oI σ (upd H a o) { s with heap:=h',toks:=t' }:=by
 have hn:H a=none:=I.hok.fresh hp;have nea:∀b u,H b=some u->b≠a:=λb u e z=>by rw[z,hn]at e;cases e
 have neb:∀b u,s.heap.get? b=some u->b≠a:=λb u e z=>by subst z;exact QS (dP (dC e) hp)<|iJ _
 refine I.step (g':=s.gens) (d':=s.drawn) (ch:=ts) (λb hb=>?_) (λb o _ _ hc e _=>k b o hc e) (λb o _ _ hc e _=>⟨o.slots,k b o hc e⟩) (λb u _ e n=>by rw[aK<|neb b u e];exact n)
  (λb o hc e=>⟨o,k b o hc e⟩) (λb xs e=>by rw [aK<|nea _ _ e];exact e) (λb _ _ e=>by rw [aK<|nea _ _ e];exact e) (λb ps e=>⟨#[],by rw [aK<|nea _ _ e,e];simp⟩) (λm hm=>?_) (λb u e=>?_) I.bare (λn ys=>by
   obtain⟨og,eg⟩:=I.hasG;rw[aK<|ip<|dP (y6 wp<|dC eg) hp];exact n ys)
 .obtain⟨_,f1,_,f3,f4,f5⟩:=hf b hb
  exact⟨f3,f1,f4,f5⟩
 .obtain⟨o,es,ep,ho,r⟩:=hm
  exact⟨o,es,ep,k _ o (λz=>(hf _ z).2.1 rfl) ho,r⟩
 .by_cases hb:b=a
  .subst hb;rw[aV]at e;cases e;exact new
  .rw[aK hb]at e
   have nt:∀c v,H c=some v->c∉ts:=λc v q z=>by rw[(hf c z).1]at q;cases q
   refine(I.hok b u e).stay (λc v hc q=>k c v ?_ q) (λc q=>by rw[aK<|nea _ _ q];exact q) λc _ q=>by rw[aK<|nea _ _ q];exact q
   rcases hc with z|z
   .rw[z];exact nt b u e
   .exact nt c _ z
def Sq(K:QR)(κ:Bool)(H:Hp)(a:Addr)(xs:RH):Prop:=match κ with|true=>SqT K H a xs|false=>SqL K H a xs
theorem Inv.sq{xs:RH}(I:Inv X oI σ H s)(h:Sq X.K κ H a xs):∃its:K9,Vals xs its/\SSq κ s.heap a its.toArray/\xs.length<=sizeLine:=by
 cases κ with
 |false=>obtain⟨its,r,p,hz⟩:=I.list h;exact⟨its,r,p.isList,hz⟩
 |true=>obtain⟨its,r,p,hz⟩:=I.tuple h;exact⟨its,r,(show s.heap.IsTuple a its.toArray from p),hz⟩
theorem Inv.sq_inj{xs ys:RH}(I:Inv X oI σ H s)(h:Sq X.K κ H a xs)(h':Sq X.K κ H a ys):xs=ys:=by
 cases κ with
 |false=>exact I.list_inj h h'|true=>exact I.tuple_inj h h'
theorem Inv.sq_out{b:Addr}{xs:RH}(I:Inv X oI σ H s)(h:Sq X.K κ H a xs)(f:dY X oI H b):a≠b:=by
 rintro rfl;have hk:∀o,X.K.lookup a=some o->False:=λo e=>by
  have e1:=I.ok.mod.kin a o e;rcases f.2.2.2.1 with z|z
  exact I.ok.noex a o e1 z;exact QS (dP (dC (I.ok.bs a o e1).1) z)<|iJ _
 have hr:∀u,Rd H a u->False:=λu r=>by
  rcases r with r|⟨o,r⟩
  rw[f.1]at r;cases r;rw[f.1]at r;cases r
 cases κ with
 |false=>
  rcases h with h|⟨o,_,_,e,_⟩
  exact hr _ h;exact hk o e
 |true=>
  rcases h with h|⟨o,_,_,e,_⟩
  exact hr _ h;exact hk o e
end
def Fx(K:QR)(κ κ':Bool)(a b:Addr):It:=
  ⟨λi H=>∃ xs ys x y,Sq K κ H a xs/\Sq K κ' H b ys/\xs[i]? = some x/\ys[i]? = some y,
   λi H v H'=>∃p x y,v=.ref p/\H p=none/\H'=upd H p (.tup [x,y])/\(∀xs,Sq K κ H a xs->xs[i]? = some x)/\(∀ys,Sq K κ' H b ys->ys[i]? = some y),
   λi H=>∃xs ys,Sq K κ H a xs/\Sq K κ' H b ys/\(xs.length<=i\/ys.length<=i)⟩
theorem J6(a b z TI TO j1 j2:Addr)(D:wk z TI TO j1 j2) :
  iO P w K (.Tuple es n1 ps) (Fx K κ κ' a b) [z,TI,TO,j1,j2] z (λi h=>IsZip h z TI TO .none/\IsPair h TI (.ref j1) (.ref j2)/\(∃u v,IsPair h TO u v)/\SIt κ h j1 a i/\SIt κ' h j2 b i) where
 mem:=E1
 obj:=λi h ⟨q1,q2,⟨u,v,q3⟩,q4,q5⟩ c hc=>by
  simp only[Yan,iu,or_false]at hc;rcases hc with rfl|rfl|rfl|rfl|rfl
  .exact⟨_,q1,λv e=>by cases e⟩
  .exact⟨_,q2,λv e=>by cases e⟩
  .exact⟨_,q3,λv e=>by cases e⟩
  .exact q4.obj
  .exact q5.obj
 keep:=λi h h' ⟨q1,q2,⟨u,v,q3⟩,q4,q5⟩ k=>
  ⟨k z E1 _ q1,k TI E1 _ q2,⟨u,v,k TO E1 _ q3⟩,q4.keep λo e=>k j1 E1 o e,q5.keep λo e=>k j2 E1 o e⟩
 item:=by
  intro X hP hw hK hc i oI s σ H E I hf ⟨q1,q2,⟨u,v,q3⟩,q4,q5⟩ hg;subst hP hw hK;obtain⟨xs,ys,x,y,hx,hy,ex,ey⟩:=hg;obtain⟨its,rv,p,hz⟩:=I.sq hx;obtain⟨its',rv',p',hz'⟩:=I.sq hy;obtain⟨ux,hux,rux⟩:=rv.get ex;obtain⟨uy,huy,ruy⟩:=rv'.get ey;have out:∀{κ:Bool} {c:Addr} {xs:RH},Sq X.K κ H c xs->uQ z TI TO j1 j2 c:=λhq=>
   ⟨I.sq_out hq<|hf z<|E1,I.sq_out hq<|hf TI<|E1,I.sq_out hq<|hf TO<|E1,I.sq_out hq<|hf j1<|E1,I.sq_out hq<|hf j2<|E1⟩
  have hT:s.TypeIs (.ref z) "zip" :=⟨_,q1,rfl⟩
  unfold pyNext;refine QP<|wpAny_attempt (wpAny_callSpecial?_slot (name:=Str.ofString "__next__") hT F.slot_zip_next (Re F.slot_zip_next hT F.entry_zip_next
   (J4 D (out hx) (out hy) q1 q2 q3 q4 q5 p p' (x:=ux) (y:=uy) (by simpa using hux) (by simpa using huy) λh' a1 a2 a3 a4 a5 a6 a7=>QQ ⟨_,rfl,?_⟩) (F.args_zip_next_1 _)))
  refine wpAny_letOwnedTupleGo_zip (s:={ s with heap:=h' }) a1 λh2 b1 b2=>?_;have lt:∀{c o},s.heap.get? c=some o->c≠s.heap.objs.size:=λe=>ip<|dC e;have zl:=lt q1;have up:∀c o,c∉[z,TI,TO,j1,j2]->s.heap.get? c=some o->h2.get? c=some o:=λc o hc e=>by
   simp only[Yan,iu,or_false,not_or]at hc;exact b2.extBut _ _ hc.1<|a7 c o hc.1 hc.2.2.1 hc.2.2.2.1 hc.2.2.2.2 e
  refine⟨.ref s.heap.objs.size,upd H s.heap.objs.size<|.tup [x,y],Inv.turnedN (s:=s) (t':=s.toks) [z,TI,TO,j1,j2] I up hf (bU _) ?_,rfl,⟨s.heap.objs.size,x,y,rfl,I.fresh,rfl,λxs' h'=>by rw[I.sq_inj h' hx];exact ex,λys' h'=>by rw[I.sq_inj h' hy];exact ey⟩,?_,λc hc=>?_⟩
  .refine⟨by rw[sizeLine_eq];simp,[ux,uy],.cons rux<|.cons ruy .nil,?_⟩
   exact⟨_,b2.extBut _ _ (QX zl) a5,rfl,_,rfl⟩
  .exact⟨b1,b2.extBut _ _ D.a<|a7 _ _ D.a D.e D.f D.g q2,⟨_,_,b2.extBut _ _ D.b a2⟩,a3.keep λo e=>b2.extBut _ o D.c e,a4.keep λo e=>b2.extBut _ o D.d e⟩
  .have he:∃o,s.heap.get? c=some o:=by
    simp only[Yan,iu,or_false]at hc;rcases hc with rfl|rfl|rfl|rfl|rfl
    .exact⟨_,q1⟩
    .exact⟨_,q2⟩
    .exact⟨_,q3⟩
    .obtain⟨o,e,_⟩:=q4.obj;exact⟨o,e⟩
    .obtain⟨o,e,_⟩:=q5.obj;exact⟨o,e⟩
   obtain⟨o,e⟩:=he;rw[aK<|lt e];exact(hf c hc).1
 done:=by
  intro X hP hw hK hc i oI s σ H E I hf ⟨q1,q2,⟨u,v,q3⟩,q4,q5⟩ hg;subst hP hw hK;obtain⟨xs,ys,hx,hy,en⟩:=hg;obtain⟨its,rv,p,hz⟩:=I.sq hx;obtain⟨its',rv',p',hz'⟩:=I.sq hy;have l1:=rv.length;have l2:=rv'.length;have out:∀{κ:Bool} {c:Addr} {xs:RH},Sq X.K κ H c xs->uQ z TI TO j1 j2 c:=λhq=>
   ⟨I.sq_out hq<|hf z<|E1,I.sq_out hq<|hf TI<|E1,I.sq_out hq<|hf TO<|E1,I.sq_out hq<|hf j1<|E1,I.sq_out hq<|hf j2<|E1⟩
  have hT:s.TypeIs (.ref z) "zip" :=⟨_,q1,rfl⟩
  unfold pyNext;refine QP<|wpAny_attempt (wpAny_callSpecial?_slot (name:=Str.ofString "__next__") hT F.slot_zip_next (Re F.slot_zip_next hT F.entry_zip_next
   (J5 (I.ok.hd hc) D (out hx) (out hy) q1 q2 q3 q4 q5 p p' (by rcases en with z|z;exact .inl (by simp;omega);exact .inr (by simp;omega)) λh' e k ⟨o,e1,e2⟩=>?_) (F.args_zip_next_1 _)))
  refine QP<|wpAny_isInstance (s:={ s with heap:=h' }) (T:= "StopIteration") (b:=true) ⟨o,e1,e2⟩ isSubtype_stop (QQ ⟨rfl,?_⟩);refine I.turnedL (t':=s.toks) [z,TI,TO,j1,j2] (λc o hc e=>?_) hf;simp only[Yan,iu,or_false,not_or]at hc;exact k c o hc.1 hc.2.2.1 hc.2.2.2.1 hc.2.2.2.2 e
 self:=λ_ _ _ _ _ st h=>wpAny_pyIter_zip st.1 h
def io(κ:Bool)(l:Addr):Obj:={ cls:=.type (match κ with|true=> "tuple_iterator" |false=> "list_iterator"),data:=.fields #[.ref l,.int 0 0] }
theorem zP{j:Addr}(e:h.get? j=some (io κ l)):SIt κ h j l 0:=by cases κ;all_goals exact⟨_,e,rfl,rfl⟩
theorem tL{E:K5}(hl:SSq κ s.heap l xs)(q:Q (.ref s.heap.objs.size) { s with heap:=s.heap.push (io κ l) }) :
  wpAny (model prog w) A (pyIter<|.ref l) Q E s:=by
 cases κ with
 |false=>exact wpAny_pyIter_list hl q|true=>exact wpAny_pyIter_tuple hl q
abbrev wm(κ:Bool)(h:Heap)(l1:Addr):Heap:=h.push<|io κ l1
abbrev wn(κ κ':Bool)(h:Heap)(l1 l2:Addr):Heap:=(wm κ h l1).push<|io κ' l2
abbrev wq(κ κ':Bool)(h:Heap)(l1 l2:Addr):Heap:=(wn κ κ' h l1 l2).push { cls:=.type "tuple",data:=.seq #[.ref h.objs.size,.ref (wm κ h l1).objs.size] }
abbrev wu(κ κ':Bool)(h:Heap)(l1 l2:Addr):Heap:=(wq κ κ' h l1 l2).push { cls:=.type "tuple",data:=.seq #[.none,.none] }
abbrev pM(κ κ':Bool)(h:Heap)(l1 l2:Addr):Heap:=(wu κ κ' h l1 l2).push { cls:=.type "zip",data:=.fields #[.none,.bool false,.bool false,.ref (wn κ κ' h l1 l2).objs.size,.ref (wq κ κ' h l1 l2).objs.size] }
theorem J7(κ κ':Bool)(l1 l2:Addr)(xs ys:Array Value) :
  Meets (Builtin.«zip.__new__» ⟨[.type "zip",.ref l1,.ref l2],[]⟩) (λ_ R s=>SSq κ s.heap l1 xs/\SSq κ' s.heap l2 ys/\R (.ok<|.ret<|.ref (wu κ κ' s.heap l1 l2).objs.size) { s with heap:=pM κ κ' s.heap l1 l2 }):=
 .of_wp λprog w A R s h=>by
  obtain⟨hp,g,d,tk,os⟩:=s;obtain⟨hl1,hl2,h⟩:=h;have hsub:=sub_zip;have L1:SSq κ (Shared.heap ⟨hp,g,d,tk,os⟩) l1 xs:=hl1;have L2':SSq κ' (Shared.heap ⟨hp.push<|io κ l1,g,d,tk,os⟩) l2 ys:=hl2.keep λo e=>dM _ e
  wp_walk using tL L1,tL L2'
  exact⟨_,rfl,h⟩
theorem J8{E:K5}{l1 l2:Addr}(hl1:SSq κ s.heap l1 xs)(hl2:SSq κ' s.heap l2 ys)
  (h:∀ h',IsZip h' (s.heap.objs.size+4) (s.heap.objs.size+2) (s.heap.objs.size+3) .none->IsPair h' (s.heap.objs.size+2) (.ref s.heap.objs.size) (.ref<|s.heap.objs.size+1)->
   IsPair h' (s.heap.objs.size+3) .none .none->SIt κ h' s.heap.objs.size l1 0->SIt κ' h' (s.heap.objs.size+1) l2 0->
   (∀c o,s.heap.get? c=some o->h'.get? c=some o)->Q (.ref<|s.heap.objs.size+4) { s with heap:=h' }) :
  wpAny (model prog w) A (call (.type "zip") [.ref l1,.ref l2]) Q E s:=by
 refine callType_new F.called_zip wp (F.typeCall_zip_2 _ _) (F.newCall_zip_2 _ _) (λobj=>F.args_object_init_3 obj _ _) F.entry_zip_new (J7 κ κ' l1 l2 xs ys) ⟨hl1,hl2,?_⟩;have z1:(wm κ s.heap l1).objs.size=s.heap.objs.size+1:=mL ..;have z2:(wn κ κ' s.heap l1 l2).objs.size=s.heap.objs.size+2:=by rw[mL,z1]
 have z3:(wq κ κ' s.heap l1 l2).objs.size=s.heap.objs.size+3:=by rw[mL,z2]
 have z4:(wu κ κ' s.heap l1 l2).objs.size=s.heap.objs.size+4:=by rw[mL,z3]
 have up5:∀{c o},(wu κ κ' s.heap l1 l2).get? c=some o->(pM κ κ' s.heap l1 l2).get? c=some o:=λe=>dM _ e;have up4:∀{c o},(wq κ κ' s.heap l1 l2).get? c=some o->(pM κ κ' s.heap l1 l2).get? c=some o:=λe=>up5<|dM _ e;have up3:∀{c o},(wn κ κ' s.heap l1 l2).get? c=some o->(pM κ κ' s.heap l1 l2).get? c=some o:=λe=>up4<|dM _ e;have up2:∀{c o},(wm κ s.heap l1).get? c=some o->(pM κ κ' s.heap l1 l2).get? c=some o:=λe=>up3<|dM _ e;have ob:∀κ l,(io κ l).isFreed=false:=λκ l=>rfl;have g5:(pM κ κ' s.heap l1 l2).get? (wu κ κ' s.heap l1 l2).objs.size=some _:=gZ _ rfl;have g4:(pM κ κ' s.heap l1 l2).get? (wq κ κ' s.heap l1 l2).objs.size=some _:=up5<|gZ _ rfl;have g3:(pM κ κ' s.heap l1 l2).get? (wn κ κ' s.heap l1 l2).objs.size=some _:=up4<|gZ _ rfl;have g2:(pM κ κ' s.heap l1 l2).get? (wm κ s.heap l1).objs.size=some _:=up3<|gZ _ (ob κ' l2);have g1:(pM κ κ' s.heap l1 l2).get? s.heap.objs.size=some _:=up2<|gZ _ (ob κ l1);show _/\_;rw[z2,z3,z4]at g5;rw[z1,z2]at g3;rw[z3]at g4;rw[z1]at g2;rw[z4];exact⟨⟨_,g5,rfl⟩,h _ g5 g3 g4 (zP g1) (zP g2) λc o x=>up2<|dM _ x⟩
theorem J9(n:Nat):wk (n+4) (n+2) (n+3) n (n+1):=
 ⟨(by omega:n+2≠n+4),(by omega:n+3≠n+4),(by omega:n≠n+4),(by omega:n+1≠n+4),(by omega:n+2≠n+3),(by omega:n+2≠n),(by omega:n+2≠n+1),(by omega:n+3≠n),(by omega:n+3≠n+1),(by omega:n≠n+1)⟩
theorem CK(n b:Nat)(h:b=n+4\/b=n+2\/b=n+3\/b=n\/b=n+1):n<=b:=tv
section
def CL(K:QR)(ta:TA):TI:=λσ H R=>ta σ H λvs H1=>∃κ κ' a b,vs=[.ref a,.ref b]/\(∃xs,Sq K κ H1 a xs)/\(∃ys,Sq K κ' H1 b ys)/\R (Fx K κ κ' a b) H1
theorem Ka{a:Expr}{pos:Pos}(hg:Gl X "zip")(hm:X.mg "zip" = none)(ha:PA X [a,b] ta)(hs:{starEach [a,b] X.env=[(false,eval a X.env),(false,eval b X.env)]})(hs2:{starEach [b] X.env=[(false,eval b X.env)]}) :
  PI X (.Tuple es n1 ps) (.Call (.Name "zip" p) [a,b] [] pos) (CL X.K ta):=by
 intro oI s σ H R I h;refine Call_<|eQ I hg hm boot_zip (PyProof.Rows.callWith_type1 (bK (ha pos oI s σ H _ I h) λus s1 ⟨vs,H1,I1,r1,q1⟩=>?_) (by rw[hs,hs2]) (by rw[hs2];rfl));obtain⟨κ,κ',l1,l2,e,⟨xs,hx⟩,⟨ys,hy⟩,q⟩:=q1;subst e;cases r1 with
 |cons r rr=>
  cases rr with
  |cons r' rr=>
   cases rr;cases r;cases r';obtain⟨its,rv,p1,hz⟩:=I1.sq hx;obtain⟨its',rv',p2,hz'⟩:=I1.sq hy;refine J8 p1 p2 λh' a1 a2 a3 a4 a5 k=>wpAny_pyIter_zip (s:={ s1 with heap:=h' }) a1 ?_;have D:wk (s1.heap.objs.size+4) (s1.heap.objs.size+2) (s1.heap.objs.size+3) s1.heap.objs.size (s1.heap.objs.size+1):=J9 _;refine⟨_,[s1.heap.objs.size+4,s1.heap.objs.size+2,s1.heap.objs.size+3,s1.heap.objs.size,s1.heap.objs.size+1],_,_,H1,rfl,I1.kept (t':=s1.toks) k,J6 (κ:=κ) (κ':=κ') l1 l2 _ _ _ _ _ D,⟨a1,a2,⟨_,_,a3⟩,a4,a5⟩,λb hb=>?_,q⟩;have hb':s1.heap.objs.size<=b:=by
    simp only[Yan,iu,or_false]at hb;exact CK _ _ hb
   exact I1.fpOk hb'<|I1.hok.fresh hb'
end
theorem Kb{C:Addr}(X:K.In h)(q:W.excIn K C bmB newId=true) :
  ∃(bm:K9) (N:Addr) (nm qn:Str) (bs:K9) (hd:Bool) (sn:Rv) (sub:K9) (ab:Bool) (col:Option Bool) (dd:Option Addr) (k0 k1 k2 k3 k5:Option Value) (mN:K8),
   h.get? C=some (excClassObj nm qn C N bs bm hd sn sub ab col dd k0 k1 k2 k3 k5 newId)/\h.Ns N mN/\mN "__init__" = none/\OwnTail h bmB bm:=by
 unfold W.excIn at q;split at q
 .rename_i dd cd sl ho
  split at q
  .rename_i C' bm k0 k1 k2 k3 n k5 hm hs
   simp only[d9,Rs,uC]at q;obtain⟨⟨⟨⟨⟨rfl,rfl⟩,hdel⟩,ht⟩,hok⟩,hni⟩:=q;obtain⟨nm,bs,mro,ns,qn,hd,sn,sub,ab,col,del⟩:=cd;dsimp only at hm hdel hok hni;subst hm hdel;have hsl:sl = #[k0,k1,k2,k3,some<|.builtin n,k5]:=by
    cases sl with
    |mk l=>exact congrArg Array.mk hs
   subst hsl;exact⟨bm,ns,nm,qn,bs,hd,sn,sub,ab,col,dd,k0,k1,k2,k3,k5,_,X _ _ ho,.of_isNs<|W.isNs_of_in X hok,W.nsMap_none_of_in X hok hni,W.tail_of_in X ht⟩
  .cases q
 .cases q
section
variable{EX:XK}{C:Addr}{np cpos pos:Pos}{B initId:String}
theorem Kc(hr:kW X EX)(hc:X.calm=true)(hm:X.mg x=some (.ref C))(hq:W.excIn X.K C bmB newId=true)(FB:ExcBaseFacts B newId initId bmB)(hg:{Gl X x})(hd:(RA x:)) :
  PS X (.Raise (some<|.Call (.Name x np) [] [] cpos) none pos) (λ_ _ H=>EX (.ref C) none H):=by
 intro oI s σ H D I h;obtain⟨bm,N,nm,qn,bs,hdc,sn,sub,ab,col,dd,k0,k1,k2,k3,k5,mN,hC,hN,hni,T⟩:=Kb I.kIn hq;refine wpAny_Raise_call_subT (C:=C) (nm:=nm) (q:=qn) (N:=N) (bs:=bs) (bm:=bm) (hdct:=hdc) (sn:=sn) (sub:=sub) (ab:=ab) (col:=col) (dd:=dd) (k0:=k0) (k1:=k1) (k2:=k2) (k3:=k3) (k5:=k5)
  FB (mN:=mN) (T.hasType FB.hasBase) (I.ok.hd hc) rfl hni (jA I hg hm ⟨rfl,?_⟩ hd)
 exact evalArgs_empty ⟨rfl,jw _,hC,hN,T,λh' e hx=>hr oI σ H s h' e (.ref C) [] I hx h⟩
end
section
open PySem PySem.Spec PySem.Calls PyProof.Rows PySem.W Builtin Builtin.ObjectAttr Builtin.Getset_descriptor
structure tM(K:Frag)(D:Addr):Prop where
 ga:findIn K (.ref D) "__getattribute__" = some (some<|.builtin "BaseException.__getattribute__")
 gn:findIn K (.ref D) "__getattr__" = some none
 be:mroIn K D (.type "BaseException")=some true
 is:(clsIn K D).isSome=true
 at':findIn K (.ref D) "__class__" = some (some<|.builtin "object.__class__")
 gt:specialIn K (.builtin "object.__class__") "__get__" = some (some<|.builtin "getset_descriptor.__get__")
 tk:takesIn K (.builtin "object.__class__")=some true
 ob:mroIn K D (.type "object")=some true
end
theorem Kd:fillsNumberSlot (.type "tuple") "mul" = pure false:=
 PySem.fillsNumberSlot_seq (id:= "tuple.__mul__") (r:=some<|.builtin "tuple.__rmul__") F.slot_tuple_mul.lookup sa F.slot_tuple_rmul.lookup sa
theorem Ke:seqRepeat? (.type "tuple")=pure (some<|.builtin "tuple.__mul__"):=by unfold seqRepeat?;rw[PySem.seqSlot_of (T:= "tuple") (name:= "__mul__") (id:= "tuple.__mul__") F.slot_tuple_mul.lookup<|sa,PySem.seqSlot_of (T:= "tuple") (name:= "__rmul__") (id:= "tuple.__rmul__") F.slot_tuple_rmul.lookup<|sa];rfl
theorem Kf(a:Int)(t:Tok)(l:Addr)(items:Array Value)(n:Nat)(dd:Option Addr)(sl:Array (Option Value)) :
  Meets (Builtin.«int.__rmul__» ⟨[.int a t,.ref l],[]⟩) (λ_ R s=>s.heap.get? l=some { cls:=.type "tuple",dict:=dd,data:=.seq items n,slots:=sl }/\R (.ok<|.ret Value.notImplemented) s):=
 .of_wp λprog w A R s h=>by obtain⟨hp,g,d,tk,os⟩:=s;obtain⟨hl,h⟩:=h;wp_walk;exact⟨_,rfl,h⟩
theorem Kg(l:Addr)(items:Array Value)(n:Nat)(dd:Option Addr)(sl:Array (Option Value))(k:Int)(t:Tok)(h1:-(2^63)<=k)(h1':k<2^63)(h2:(items.isEmpty||k==1)=true) :
  Meets (Builtin.«tuple.__mul__» ⟨[.ref l,.int k t],[]⟩) (λ_ R s=>s.heap.get? l=some { cls:=.type "tuple",dict:=dd,data:=.seq items n,slots:=sl }/\R (.ok<|.ret<|Value.ref l) s):=by
 intro prog w A R s h;obtain⟨hp,g,d,tk,os⟩:=s;obtain⟨hl,h⟩:=h;have f1:=AutoSeq1.idx_int;have c1:¬(decide (k < -2^63)||decide (k ≥ 2^63))=true:=by simp;omega
 unfold Builtin.«tuple.__mul__»
 wp_walk using wpAny_loadPart' hl
 rw[jx c1]
 wp_walk using wpAny_loadPart' hl
 exact h
theorem Kh(l:Addr)(items:Array Value)(n:Nat)(dd:Option Addr)(sl:Array (Option Value))(k:Int)(t:Tok)(h1:-(2^63)<=k)(h1':k<2^63)(h2:¬(items.isEmpty||k==1)=true)(h3:k<=0) :
  Meets (Builtin.«tuple.__mul__» ⟨[.ref l,.int k t],[]⟩) (λ_ R s=>s.heap.get? l=some { cls:=.type "tuple",dict:=dd,data:=.seq items n,slots:=sl }/\R (.ok<|.ret<|Value.ref s.heap.objs.size) { s with heap:=s.heap.push { cls:=Value.type "tuple",data:=Data.seq #[] } }):=by
 intro prog w A R s h;obtain⟨hp,g,d,tk,os⟩:=s;obtain⟨hl,h⟩:=h;have f1:=AutoSeq1.idx_int;have c1:¬(decide (k < -2^63)||decide (k ≥ 2^63))=true:=by simp;omega
 have c2:(decide (k<=0)||items.isEmpty)=true:=by simp[h3]
 unfold Builtin.«tuple.__mul__»
 wp_walk using wpAny_loadPart' hl
 rw[jx c1]
 wp_walk using wpAny_loadPart' hl
 exact h
theorem Ki(l:Addr)(items:Array Value)(n:Nat)(dd:Option Addr)(sl:Array (Option Value))(k:Int)(t:Tok)(h1:-(2^63)<=k)(h1':k<2^63)(h2:¬(items.isEmpty||k==1)=true)(h3:0<k)(h4:items.size*k.toNat<=sizeLine) :
  Meets (Builtin.«tuple.__mul__» ⟨[.ref l,.int k t],[]⟩) (λ_ R s=>s.heap.get? l=some { cls:=.type "tuple",dict:=dd,data:=.seq items n,slots:=sl }/\R (.ok<|.ret<|Value.ref s.heap.objs.size) { s with heap:=s.heap.push { cls:=Value.type "tuple",data:=Data.seq (List.foldl (λx1 x2=>x1++x2) #[] (List.replicate k.toNat items)) } }):=by
 intro prog w A R s h;obtain⟨hp,g,d,tk,os⟩:=s;obtain⟨hl,h⟩:=h;have f1:=AutoSeq1.idx_int;have c1:¬(decide (k < -2^63)||decide (k ≥ 2^63))=true:=by simp;omega
 have c2:¬(decide (k<=0)||items.isEmpty)=true:=by
  have:items.isEmpty=false:=by cases q:items.isEmpty<;>simp_all
  simp[this];omega
 have hk:(items.size:Int)*k=((items.size*k.toNat:Nat):Int):=by rw[Int.natCast_mul,BH<|tv]
 have hsl:(sizeLine:Nat)=2^24:=rfl;have c3:¬((items.size:Int)*k>(2^63-1)/8):=by rw[hk];omega
 have c4:¬Builtin.Tuple.tupleTooMany ((items.size:Int)*k)=true:=λz=>by have z':=Ro z;rw[hk]at z';omega
 unfold Builtin.«tuple.__mul__»
 wp_walk using wpAny_loadPart' hl
 rw[jx c1]
 wp_walk using wpAny_loadPart' hl
 rw[jx c3]
 wp_walk using wpAny_loadPart' hl
 rw[jx c4]
 wp_walk using wpAny_loadPart' hl
 have hnew:List.foldl (λx1 x2=>x1++x2) #[] (List.replicate k.toNat items)=(List.replicate k.toNat items.toList).flatten.toArray:=by
  have:=e7 items.toList k.toNat [];rw[dG]at this;simpa using this
 have c5:¬((List.foldl (λx1 x2=>x1++x2) #[] (List.replicate k.toNat items)).size>sizeLine):=by
  rw[hnew,fe,jG,y9,Nat.mul_comm];omega
 rw[jx c5]
 wp_walk using wpAny_loadPart' hl
 exact h
section
theorem Inv.tnew{ys:RH}{its:K9}(I:Inv X oI σ H s)(hv:Vals ys its)(hz:ys.length<=sizeLine) :
  Inv X oI σ (upd H s.heap.objs.size<|.tup ys) { s with heap:=s.heap.push { cls:=.type "tuple",data:=.seq its.toArray },toks:=t' }:=
 I.laid (λ_ _ q=>dM _ q) (bU _) ⟨hz,its,hv,IsTup.new _ _⟩
def ww(K:QR):R2:=λx y H Q=>∃l k xs,x=.ref l/\y=.int k/\SqT K H l xs/\-(2^63)<=k/\k<2^63/\xs.length*k.toNat<=sizeLine/\
 ((xs=[]\/k=1)->Q (.ref l) H)/\∀p,H p=none->Q (.ref p) (upd H p<|.tup (List.replicate k.toNat xs).flatten)
theorem Kj:OpR X (binaryOp .Mult) (ww X.K):=by
 intro oI s σ H x y v u Q I rx ry h;obtain⟨l,k,xs,rfl,rfl,hq,h1,h2,hz,q1,q2⟩:=h;cases rx;obtain⟨t,rfl⟩:=ry;obtain⟨its,r,pl,_⟩:=I.tuple hq;have hl:xs.length=its.length:=r.length;obtain⟨⟨cls,dd,data,sl⟩,ho,hc,n,hd⟩:=id pl;simp only at hc hd;subst hc hd;refine wpAny_binaryOp_repeat_ref (T:= "tuple") (U:= "int") wp ⟨_,ho,rfl⟩ (λs'=>typeIs_int s' k t) Kd F.fills_int_mul F.slot_int_rmul Ke F.slot_int_index.lookup
  (call_meets F.slot_int_rmul (typeIs_int s k t) F.entry_int_rmul (F.args_int_rmul_2 _ _) (Kf k t l its.toArray n dd sl) ⟨ho,rfl,⟨_,ho,rfl⟩,?_⟩)
 by_cases hs:(its.toArray.isEmpty||k==1)=true;refine call_meets F.slot_tuple_mul ⟨_,ho,rfl⟩ F.entry_tuple_mul (F.args_tuple_mul_2 _ _) (Kg l its.toArray n dd sl k t h1 h2 hs) ⟨ho,⟨.ref l,H,I,rfl,q1 ?_⟩⟩;rw[BF]at hs;rcases hs with hs|hs
 exact .inl<|r.nil_iff.mp (by simpa using hs)
 exact .inr<|beq_iff_eq.mp hs
 by_cases h3:k<=0;refine call_meets F.slot_tuple_mul ⟨_,ho,rfl⟩ F.entry_tuple_mul (F.args_tuple_mul_2 _ _) (Kh l its.toArray n dd sl k t h1 h2 hs h3) ⟨ho,⟨.ref _,_,I.tnew (its:=[]) (ys:=(List.replicate k.toNat xs).flatten) (t':=s.toks) ?_ ?_,rfl,q2 _ I.fresh⟩⟩;rw[show k.toNat=0 by omega];exact .nil;rw[show k.toNat=0 by omega];exact jw _;have hnew:List.foldl (λx1 x2=>x1++x2) #[] (List.replicate k.toNat its.toArray)=(List.replicate k.toNat its).flatten.toArray:=by have:=e7 its k.toNat [];rw[dG]at this;exact this
 refine call_meets F.slot_tuple_mul ⟨_,ho,rfl⟩ F.entry_tuple_mul (F.args_tuple_mul_2 _ _) (Ki l its.toArray n dd sl k t h1 h2 hs tv (by rw[fe,<-hl];exact hz)) ⟨ho,?_⟩;rw[hnew];exact⟨.ref _,_,I.tnew (t':=s.toks) (r.rep k.toNat) (by rw[jG,Nat.mul_comm];exact hz),rfl,q2 _ I.fresh⟩
end
theorem Kk(hh:A.handled=none)(it l:Addr)(hne:l≠it)(xs:Array Value):Draws prog w A it [it,l] xs.size (λi v=>xs[i]? = some v) (λi h=>SIt κ h it l i/\SSq κ h l xs) where
 live:=λ_ _ st=>let⟨o,ho,_⟩:=st.1.obj;⟨o,ho⟩
 frame:=λ_ _ _ st hk=>⟨st.1.keep λo e=>hk it E1 o e,st.2.keep λo e=>hk l E1 o e⟩
 item:=λi s Q E hi st hQ=>wj st.1 st.2 (x:=xs[i]) (by simp[hi]) λh' hit' hs'=>hQ _ h' s.toks (by simp[hi]) ⟨hit',st.2.keep λo e=>hs'.extBut l o hne e⟩ hs'
 done:=λs Q E st hE=>uP hh st.1 st.2 E1 hE
theorem Kl(hh:A.handled=none)(it l:Addr)(xs:Array Value)(n:Nat)(hn:xs[n]? = none):Draws prog w A it [it,l] n (λ_ _=>False) (λj h=>j=n/\SIt κ h it l n/\SSq κ h l xs) where
 live:=λ_ _ st=>let⟨o,ho,_⟩:=st.2.1.obj;⟨o,ho⟩
 frame:=λ_ _ _ st hk=>⟨st.1,st.2.1.keep λo e=>hk it E1 o e,st.2.2.keep λo e=>hk l E1 o e⟩
 item:=λi s Q E hi st hQ=>QS st.1<|ip hi
 done:=λs Q E st hE=>uP hh st.2.1 st.2.2 hn hE
abbrev pN(κ:Bool)(h:Heap)(l:Addr):Heap:=h.push<|io κ l
abbrev CM(κ:Bool)(h:Heap)(l:Addr):Heap:=(pN κ h l).push { cls:=.type "enumerate",data:=.fields #[.none,.bool false,.ref h.objs.size,rawInt 0,.none,.none] }
theorem Km(l:Addr)(xs:Array Value)(n:Nat)(dct:Option Addr)(sl:Array (Option Value)) :
  Meets (Builtin.«enumerate.__new__» ⟨[.type "enumerate",.ref l],[]⟩) (λ_ R s=>s.heap.get? l=some { cls:=.type "tuple",dict:=dct,data:=.seq xs n,slots:=sl }/\R (.ok<|.ret<|.ref (pN true s.heap l).objs.size) { s with heap:=CM true s.heap l }):=
 .of_wp λprog w A R s h=>by
  obtain⟨hp,g,d,tk,os⟩:=s;obtain⟨hl,h⟩:=h;have hsub:=sub_enumerate;have hT:SSq true (Shared.heap ⟨hp,g,d,tk,os⟩) l xs:=(show Heap.IsTuple _ l xs from⟨_,hl,rfl,n,rfl⟩)
  wp_walk using AutoSeq1.wpAny_loadPart' hl
  refine wpAny_stack_any λst=>(QQ ?_);split
  .rename_i c _ _ _ _ _
   cases(c==Value.type "enumerate")<;>(wp_walk using AutoSeq1.wpAny_loadPart' hl,tL hT;exact⟨_,rfl,h⟩)
  .wp_walk using AutoSeq1.wpAny_loadPart' hl,tL hT
   exact⟨_,rfl,h⟩
theorem Kn{E:K5}(hL:SSq κ s.heap l xs)
  (h:∀h',IsEnum h' (s.heap.objs.size+1) s.heap.objs.size 0 .none->SIt κ h' s.heap.objs.size l 0->(∀b o,s.heap.get? b=some o->h'.get? b=some o)->Q (.ref<|s.heap.objs.size+1) { s with heap:=h' }) :
  wpAny (model prog w) A (call (.type "enumerate") [.ref l]) Q E s:=by
 cases κ with
 |false=>exact call_enumerate_list hL λh' he hi _ hk=>h h' he hi hk
 |true=>
  obtain⟨⟨c,dct,dt,sl⟩,hl,hc,n,hd⟩:=(show s.heap.IsTuple l xs from hL)
  replace hc:c=.type "tuple" :=hc;replace hd:dt=.seq xs n:=hd;subst hc hd;refine callType_new F.called_enumerate wp (F.typeCall_enumerate_1 _) (F.newCall_enumerate_1 _) (λobj=>F.args_object_init_2 obj _) F.entry_enumerate_new (Km l xs n dct sl) ⟨hl,?_⟩;have hz:(pN true s.heap l).objs.size=s.heap.objs.size+1:=mL ..;have g2:(CM true s.heap l).get? (pN true s.heap l).objs.size=some _:=gZ _ rfl;have g1:(CM true s.heap l).get? s.heap.objs.size=some _:=dM _<|gZ _ rfl;show _/\_;rw[hz]at g2 ⊢;exact⟨⟨_,g2,rfl⟩,h _ g2 (zP g1) λb o x=>dM _<|dM _ x⟩
def Fy(K:QR)(κ:Bool)(a:Addr):It:=
  ⟨λi H=>∃ xs x,Sq K κ H a xs/\xs[i]? = some x,
   λi H v H'=>∃p x,v=.ref p/\H p=none/\H'=upd H p (.tup [.int i,x])/\∀xs,Sq K κ H a xs->xs[i]? = some x,
   λi H=>∃xs,Sq K κ H a xs/\xs.length<=i⟩
theorem Ko(a e it:Addr)(hne:e≠it) :
  iO P w K (.Tuple es n1 ps) (Fy K κ a) [e,it] e (λi h=>(∃old,IsEnum h e it i old)/\SIt κ h it a i) where
 mem:=E1
 obj:=λi h ⟨⟨old,q1⟩,q2⟩ c hc=>by
  simp only[Yan,iu,or_false]at hc;rcases hc with rfl|rfl
  .exact⟨_,q1,λv e=>by cases e⟩
  .exact q2.obj
 keep:=λi h h' ⟨⟨old,q1⟩,q2⟩ k=>⟨⟨old,k e E1 _ q1⟩,q2.keep λo x=>k it E1 o x⟩
 item:=by
  intro X hP hw hK hc i oI s σ H E I hf ⟨⟨old,q1⟩,q2⟩ hg;subst hP hw hK;obtain⟨xs,x,hx,ex⟩:=hg;obtain⟨its,rv,p,hz⟩:=I.sq hx;obtain⟨ux,hux,rux⟩:=rv.get ex;have oe:=I.sq_out hx<|hf e E1;have oi:=I.sq_out hx<|hf it E1;have hi:i<its.toArray.size:=by have:=(Yap.mp hux).1;simpa using this
  refine wpAny_pyNext_enum_itemD (Kk (κ:=κ) (A:=X.A.in1) (I.ok.hd hc) it a oi its.toArray) q1 ⟨q2,p⟩ hi hne (by simp[hne,QX oe]) λy h' tk b1 b2 b3 b4 b5 b6=>⟨_,rfl,?_⟩;have ey:y=ux:=by
   have:its[i]? = some y:=by simpa using b1
   rw[hux]at this;exact(QW this).symm
  subst ey;refine wpAny_letOwnedTupleGo_enum (s:={ s with heap:=h',toks:=tk+1 }) b2 λh2 c1 c2=>?_;have lt:∀{c o},s.heap.get? c=some o->c≠s.heap.objs.size:=λz=>ip<|dC z;have el:=lt q1;have up:∀c o,c∉[e,it]->s.heap.get? c=some o->h2.get? c=some o:=λc o hc z=>by
   simp only[Yan,iu,or_false,not_or]at hc;exact c2.extBut _ _ hc.1<|b6 c o hc.1 hc.2 z
  refine⟨.ref s.heap.objs.size,upd H s.heap.objs.size<|.tup [.int i,x],Inv.turnedN (s:=s) (t':=tk+1) [e,it] I up hf (bU _) ?_,rfl,⟨s.heap.objs.size,x,rfl,I.fresh,rfl,λxs' h'=>by rw[I.sq_inj h' hx];exact ex⟩,?_,λc hc=>?_⟩
  .refine⟨by rw[sizeLine_eq];simp,[.int i tk,y],.cons ⟨_,rfl⟩<|.cons rux .nil,?_⟩
   exact⟨_,c2.extBut _ _ (QX el) b4,rfl,_,rfl⟩
  .exact⟨⟨_,by simpa using c1⟩,b3.1.keep λo z=>c2.extBut _ o (QX hne) z⟩
  .have he:∃o,s.heap.get? c=some o:=by
    simp only[Yan,iu,or_false]at hc;rcases hc with rfl|rfl
    .exact⟨_,q1⟩
    .obtain⟨o,z,_⟩:=q2.obj;exact⟨o,z⟩
   obtain⟨o,z⟩:=he;rw[aK<|lt z];exact(hf c hc).1
 done:=by
  intro X hP hw hK hc i oI s σ H E I hf ⟨⟨old,q1⟩,q2⟩ hg;subst hP hw hK;obtain⟨xs,hx,en⟩:=hg;obtain⟨its,rv,p,hz⟩:=I.sq hx;have l1:=rv.length;have oi:=I.sq_out hx<|hf it E1;refine wpAny_pyNext_enum_endD (Kl (κ:=κ) (A:=X.A.in1) (I.ok.hd hc) it a its.toArray i (by simp;omega)) q1 ⟨rfl,q2,p⟩ λh' k=>⟨rfl,?_⟩;refine I.turnedL (t':=s.toks) [e,it] (λc o hc z=>?_) hf;simp only[Yan,iu,or_false,not_or]at hc;exact k c o hc.2 z
 self:=λ_ _ _ _ _ st h=>let⟨⟨_,q⟩,_⟩:=st;Rp q h
theorem Fz(n b:Nat)(h:b=n+1\/b=n):n<=b:=tv
section
def wx(K:QR)(ta:TA):TI:=λσ H R=>ta σ H λvs H1=>∃κ a,vs=[.ref a]/\(∃xs,Sq K κ H1 a xs)/\R (Fy K κ a) H1
theorem Kp{a:Expr}{pos:Pos}(hg:Gl X "enumerate")(hm:X.mg "enumerate" = none)(ha:PA X [a] ta)(hs:{starEach [a] X.env=[(false,eval a X.env)]}) :
  PI X (.Tuple es n1 ps) (.Call (.Name "enumerate" p) [a] [] pos) (wx X.K ta):=by
 intro oI s σ H R I h;refine Call_<|eQ I hg hm boot_enumerate (PyProof.Rows.callWith_type1 (bK (ha pos oI s σ H _ I h) λus s1 ⟨vs,H1,I1,r1,q1⟩=>?_) hs rfl);obtain⟨κ,l,rfl,⟨xs,hx⟩,q⟩:=q1;cases r1 with
 |cons r rr=>
  cases rr;cases r;obtain⟨its,rv,p1,hz⟩:=I1.sq hx;refine Kn p1 λh' a1 a2 k=>Rp (s:={ s1 with heap:=h' }) a1 ?_;refine⟨_,[s1.heap.objs.size+1,s1.heap.objs.size],_,_,H1,rfl,I1.kept (t':=s1.toks) k,Ko (κ:=κ) l _ _<|Nat.succ_ne_self _,⟨⟨_,a1⟩,a2⟩,λb hb=>?_,q⟩;have hb':s1.heap.objs.size<=b:=by
   simp only[Yan,iu,or_false]at hb;exact Fz _ _ hb
  exact I1.fpOk hb'<|I1.hok.fresh hb'
end
end L2
namespace PySem
theorem Kq{prog:Program}{w:World}{A:Around}{E:K5}{s:Shared}{T newId initId:String}{Bn Bi:Builtin}{args:K9}{kw:List (Str×Value)}{S:Spec}{Q Q₁:K5}(ft:TypeCalled T newId initId)
  (hct:checkTypeCall T ⟨args,kw⟩=pure ()) (hcn:checkBuiltinCall newId ⟨.type T::args,kw⟩=pure ())
  (entryN:entryFor table newId=some Bn) (entryI:entryFor table initId=some Bi) (g:Meets (Bn ⟨.type T::args,kw⟩) S)
  (h:S A.in1 (wants Q₁ E) s)
  (hnext:∀obj s₁,Q₁ obj s₁->s₁.TypeIs obj T/\argsOk initId ⟨obj::args,kw⟩/\∃Si,Meets (Bi ⟨obj::args,kw⟩) Si/\Si A.in1 (wants (λr s₂=>r=.none/\Q obj s₂) E) s₁) :
  wpAny (model prog w) A (call (.type T) args kw) Q E s:=by
 obtain⟨c,tl,hmro⟩:=ft.mro;have hmade:=ft.made;have hsub:=ft.sub;refine wpAny_call<|codeAny_of_tree ?_;show wpAny _ _ (callAny (.type T) _) _ _ _;refine QQ ⟨Code.quiet_builtin _<|sa,codeAny_builtin F.entry_type_call ?_⟩;rw[Around.under_plain (weight_type_call_type T args kw)<|units_type_call_type T args kw];have h1:=ft.notType;have h2:=ft.canCreate
 repeat (any_goals (first|assumption|wp_step))
 refine codeAny_mono (codeAny_call_builtin ft.plain entryN<|wpAny_of_eq hcn<|g prog w A.in1 _ s h) λr s₁ hr=>?_;cases r with
 |error e=>exact hr
 |ok fl=>
  cases fl with
  |ret obj=>
   obtain⟨hT,hok,Si,gi,hsi⟩:=hnext _ _ hr;have hli:=ft.init.lookup;have hbi:=ft.init.bind obj
   repeat (any_goals (first|assumption|wp_step))
   refine codeAny_mono (codeAny_call_builtin ft.init.plain entryI<|ft.init.check _ _ _ _ _ _ _ _ hT hok<|gi prog w A.in1 _ s₁ hsi) λr₂ s₂ hr₂=>?_;cases r₂ with
   |error e=>exact hr₂
   |ok fl₂=>
    cases fl₂ with
    |ret r=>
     obtain⟨rfl,hq⟩:=hr₂
     repeat (any_goals (first|assumption|wp_step))
    |_=>exact hr₂.elim
  |_=>exact hr.elim
theorem Kr{T newId:String}{self:Value}{rest:K9}{kw:List (Str×Value)}(hl:typeLookup (.type T) "__init__" = pure (some<|.builtin "object.__init__"))
  (hm:Bind.madeBy (.type T)=pure (some newId)) (hne:(some newId != some "object.__new__")=true) :
  Meets (Builtin.«object.__init__» ⟨self::rest,kw⟩) (λ_ R s=>s.TypeIs self T/\R (.ok<|.ret .none) s):=by
 refine Meets.of_wp λprog w A R s hs=>?_;obtain⟨hT,hq⟩:=hs;cases rest with
 |nil=>
  cases kw with
  |nil=>exact QQ ⟨_,rfl,hq⟩
  |cons k kw=>
   repeat (any_goals (first|assumption|wp_step))
   exact⟨_,rfl,hq⟩
 |cons a rest=>
  repeat (any_goals (first|assumption|wp_step))
  exact⟨_,rfl,hq⟩
theorem Ks{M:Model}{A:Around}{E:K5}{s:Shared}{env:Env}{pos:Pos}{T:String}{e:Expr}{rest:List Expr}{kws:List Keyword}{Q:K5}
  (h:wpAny M A (spliced<|backTo pos<|starEach (e::rest) env) (λvs s₁=>wpAny M A (evalAll ((backToKw pos<|keywordEach kws env).map (·.2)))
   (λkvs s₂=>wpAny M A (call (.type T) vs (((backToKw pos<|keywordEach kws env).filterMap (·.1)).zip kvs)) Q E s₂) E s₁) E s)
  (he:{backTo pos (starEach (e::rest) env)=(false,eval e env)::backTo pos (starEach rest env)})
  (hplain:{(backTo pos<|starEach (e::rest) env).any (·.1)=false})
  (hall:{(backToKw pos<|keywordEach kws env).all (·.1.isSome)=true})
  (hkw:{(backToKw pos<|keywordEach kws env).any (·.1.isNone)=false}) :
  wpAny M A (callWith pos (.type T) [] (backTo pos<|starEach (e::rest) env)<|backToKw pos<|keywordEach kws env) Q E s:=by
 rw[he]at h hplain ⊢;unfold callWith;refine QP<|Rc (QY (PyProof.Rows.evalArgs_kwB (Q:=λa s₁=>wpAny M A (call (.type T) ([]++a.pos) a.kw) Q E s₁) hall h) (λa s₁ h₁=>QP<|Q9 ?_) λ_ _ x=>x);simp only[hplain,hkw,Bool.or_false];refine QP<|QQ ?_;exact QP<|QY h₁ (λr s₂ hr=>QP<|Rc<|wpAny_point<|QQ hr) λ_ _ x=>x
end PySem
namespace L2
open PySem PySem.Spec PyProof.Rows
variable{prog P:Program}{w:World}{A:Around}{s:Shared}{Q:RH->St->Hp->Prop}{K:QR}{es ifs:List Expr}{n1:Nat}{ps:Pos}{X:Cx}{a elt:Expr}{mg:K8}{scope sc:Scope}{f:Str}{H H1:Hp}{it:Addr}{oI:K4}{σ:St}{vars:Rv}{sel:Ry}{te:TE}{wi2:TI}{J:It}{fp:List Addr}{tn:Nat->Heap->Prop}
theorem Kt(a b:Value):checkTypeCall "enumerate" ⟨[a],[("start",b)]⟩=pure ():=by kernel_rfl
theorem Ku(a b:Value):checkBuiltinCall "enumerate.__new__" ⟨[.type "enumerate",a],[("start",b)]⟩=pure ():=by kernel_rfl
theorem Kv(o a b:Value):argsOk "object.__init__" ⟨[o,a],[("start",b)]⟩:=by unfold argsOk;kernel_rfl
theorem Kw(l:Addr)(xs:Array Value)(n:Nat)(t:Tok)(dct:Option Addr)(sl:Array (Option Value)) :
  Meets (Builtin.«enumerate.__new__» ⟨[.type "enumerate",.ref l],[("start",.int 1 t)]⟩) (λ_ R s=>s.heap.get? l=some { cls:=.type "list",dict:=dct,data:=.seq xs n,slots:=sl }/\
   R (.ok<|.ret<|.ref (pN false s.heap l).objs.size) { s with heap:=(pN false s.heap l).push { cls:=.type "enumerate",data:=.fields #[.none,.bool false,.ref s.heap.objs.size,rawInt 1,.none,.none] } }):=
 .of_wp λprog w A R s h=>by
  obtain⟨hp,g,d,tk,os⟩:=s;obtain⟨hl,h⟩:=h;have hsub:=sub_enumerate;have hT:SSq false (Shared.heap ⟨hp,g,d,tk,os⟩) l xs:=(show Heap.IsList _ l xs from⟨_,hl,rfl,n,rfl⟩)
  wp_walk using AutoSeq1.wpAny_loadPart' hl
  refine wpAny_stack_any λst=>(QQ ?_);split
  .rename_i c _ _ _ _ _
   cases(c==Value.type "enumerate")
   .wp_walk using AutoSeq1.wpAny_loadPart' hl,tL hT
    exact⟨_,rfl,h⟩
   .wp_walk using AutoSeq1.wpAny_loadPart' hl,tL hT
    exact⟨_,rfl,h⟩
  .wp_walk using AutoSeq1.wpAny_loadPart' hl,tL hT
   exact⟨_,rfl,h⟩
theorem Kx{E:K5}{l:Addr}{t:Tok}{xs:Array Value}{Q:K5}(hL:SSq false s.heap l xs)
  (h:∀h',IsEnum h' (s.heap.objs.size+1) s.heap.objs.size 1 .none->SIt false h' s.heap.objs.size l 0->(∀b o,s.heap.get? b=some o->h'.get? b=some o)->Q (.ref<|s.heap.objs.size+1) { s with heap:=h' }) :
  wpAny (model prog w) A (call (.type "enumerate") [.ref l] [("start",.int 1 t)]) Q E s:=by
 obtain⟨⟨c,dct,dt,sl⟩,hl,hc,n,hd⟩:=(show s.heap.IsList l xs from hL)
 replace hc:c=.type "list" :=hc;replace hd:dt=.seq xs n:=hd;subst hc hd;refine Kq (Q₁:=λobj s₁=>s₁.TypeIs obj "enumerate" /\Q obj s₁) F.called_enumerate (Kt _ _) (Ku _ _) F.entry_enumerate_new F.entry_object_init (Kw l xs n t dct sl) ⟨hl,?_⟩ λobj _ hq=>⟨hq.1,Kv obj _ _,_,Kr F.called_enumerate.init.lookup F.called_enumerate.made<|wp,hq.1,rfl,hq.2⟩;have hz:(pN false s.heap l).objs.size=s.heap.objs.size+1:=mL ..;have g2:((pN false s.heap l).push { cls:=.type "enumerate",data:=.fields #[.none,.bool false,.ref s.heap.objs.size,rawInt 1,.none,.none] }).get? (pN false s.heap l).objs.size=some _:=gZ _ rfl;have g1:((pN false s.heap l).push { cls:=.type "enumerate",data:=.fields #[.none,.bool false,.ref s.heap.objs.size,rawInt 1,.none,.none] }).get? s.heap.objs.size=some _:=dM _<|gZ _ rfl;show _/\_;rw[hz]at g2 ⊢;exact⟨⟨_,g2,rfl⟩,h _ g2 (zP g1) λb o x=>dM _<|dM _ x⟩
theorem Ky(hh:A.handled=none)(it l:Addr)(hne:l≠it)(xs:Array Value):Draws prog w A it [it,l] (xs.size+1) (λi v=>xs[i-1]? = some v) (λi h=>1<=i/\SIt false h it l (i-1)/\SSq false h l xs) where
 live:=λ_ _ st=>let⟨o,ho,_⟩:=st.2.1.obj;⟨o,ho⟩
 frame:=λ_ _ _ st hk=>⟨st.1,st.2.1.keep λo e=>hk it E1 o e,st.2.2.keep λo e=>hk l E1 o e⟩
 item:=λi s Q E hi st hQ=>by
  have h2:=st.1;have hi':i-1<xs.size:=tv
  exact wj st.2.1 st.2.2 (x:=xs[i-1]) (by simp[hi']) λh' hit' hs'=>hQ _ h' s.toks (by simp[hi']) ⟨tv,by rw[show i+1-1=i-1+1 by omega];exact hit',st.2.2.keep λo e=>hs'.extBut l o hne e⟩ hs'
 done:=λs Q E st hE=>uP hh st.2.1 st.2.2 E1 hE
theorem Kz(hh:A.handled=none)(it l:Addr)(xs:Array Value)(n:Nat)(hn:xs[n]? = none):Draws prog w A it [it,l] (n+1) (λ_ _=>False) (λj h=>j=n+1/\SIt false h it l n/\SSq false h l xs) where
 live:=λ_ _ st=>let⟨o,ho,_⟩:=st.2.1.obj;⟨o,ho⟩
 frame:=λ_ _ _ st hk=>⟨st.1,st.2.1.keep λo e=>hk it E1 o e,st.2.2.keep λo e=>hk l E1 o e⟩
 item:=λi s Q E hi st hQ=>QS st.1<|ip hi
 done:=λs Q E st hE=>uP hh st.2.1 st.2.2 hn hE
def wy(K:QR)(a:Addr):It:=
  ⟨λi H=>∃ xs x,Sq K false H a xs/\xs[i]? = some x,
   λi H v H'=>∃p x,v=.ref p/\H p=none/\H'=upd H p (.tup [.int ((i+1:Nat):Int),x])/\∀xs,Sq K false H a xs->xs[i]? = some x,
   λi H=>∃xs,Sq K false H a xs/\xs.length<=i⟩
theorem KA(a e it:Addr)(hne:e≠it) :
  iO P w K (.Tuple es n1 ps) (wy K a) [e,it] e (λi h=>(∃old,IsEnum h e it ((i+1:Nat):Int) old)/\SIt false h it a i) where
 mem:=E1
 obj:=λi h ⟨⟨old,q1⟩,q2⟩ c hc=>by
  simp only[Yan,iu,or_false]at hc;rcases hc with rfl|rfl
  .exact⟨_,q1,λv e=>by cases e⟩
  .exact q2.obj
 keep:=λi h h' ⟨⟨old,q1⟩,q2⟩ k=>⟨⟨old,k e E1 _ q1⟩,q2.keep λo x=>k it E1 o x⟩
 item:=by
  intro X hP hw hK hc i oI s σ H E I hf ⟨⟨old,q1⟩,q2⟩ hg;subst hP hw hK;obtain⟨xs,x,hx,ex⟩:=hg;obtain⟨its,rv,p,hz⟩:=I.sq hx;obtain⟨ux,hux,rux⟩:=rv.get ex;have oe:=I.sq_out hx<|hf e E1;have oi:=I.sq_out hx<|hf it E1;have hi:i<its.toArray.size:=by have:=(Yap.mp hux).1;simpa using this
  refine wpAny_pyNext_enum_itemD (i:=i+1) (Ky (A:=X.A.in1) (I.ok.hd hc) it a oi its.toArray) q1 ⟨tv,by rw[vp];exact q2,p⟩ tv hne (by simp[hne,QX oe]) λy h' tk b1 b2 b3 b4 b5 b6=>⟨_,rfl,?_⟩;have ey:y=ux:=by
   have:its[i]? = some y:=by simpa using b1
   rw[hux]at this;exact(QW this).symm
  subst ey;refine wpAny_letOwnedTupleGo_enum (s:={ s with heap:=h',toks:=tk+1 }) b2 λh2 c1 c2=>?_;have lt:∀{c o},s.heap.get? c=some o->c≠s.heap.objs.size:=λz=>ip<|dC z;have el:=lt q1;have up:∀c o,c∉[e,it]->s.heap.get? c=some o->h2.get? c=some o:=λc o hc z=>by
   simp only[Yan,iu,or_false,not_or]at hc;exact c2.extBut _ _ hc.1<|b6 c o hc.1 hc.2 z
  refine⟨.ref s.heap.objs.size,upd H s.heap.objs.size<|.tup [.int ((i+1:Nat):Int),x],Inv.turnedN (s:=s) (t':=tk+1) [e,it] I up hf (bU _) ?_,rfl,⟨s.heap.objs.size,x,rfl,I.fresh,rfl,λxs' h'=>by rw[I.sq_inj h' hx];exact ex⟩,?_,λc hc=>?_⟩
  .refine⟨by rw[sizeLine_eq];simp,[.int ((i+1:Nat):Int) tk,y],.cons ⟨_,rfl⟩<|.cons rux .nil,?_⟩
   exact⟨_,c2.extBut _ _ (QX el) b4,rfl,_,rfl⟩
  .refine⟨⟨y,?_⟩,?_⟩
   .have e1:(((i+1+1:Nat)):Int)=((i+1:Nat):Int)+1:=tv
    rw[e1];exact c1
   .have:=b3.2.1.keep (h':=h2) λo z=>c2.extBut _ o (QX hne) z
    rwa [show i+1+1-1=i+1 by omega]at this
  .have he:∃o,s.heap.get? c=some o:=by
    simp only[Yan,iu,or_false]at hc;rcases hc with rfl|rfl
    .exact⟨_,q1⟩
    .obtain⟨o,z,_⟩:=q2.obj;exact⟨o,z⟩
   obtain⟨o,z⟩:=he;rw[aK<|lt z];exact(hf c hc).1
 done:=by
  intro X hP hw hK hc i oI s σ H E I hf ⟨⟨old,q1⟩,q2⟩ hg;subst hP hw hK;obtain⟨xs,hx,en⟩:=hg;obtain⟨its,rv,p,hz⟩:=I.sq hx;have l1:=rv.length;have oi:=I.sq_out hx<|hf it E1;refine wpAny_pyNext_enum_endD (Kz (A:=X.A.in1) (I.ok.hd hc) it a its.toArray i (by simp;omega)) q1 ⟨rfl,q2,p⟩ λh' k=>⟨rfl,?_⟩;refine I.turnedL (t':=s.toks) [e,it] (λc o hc z=>?_) hf;simp only[Yan,iu,or_false,not_or]at hc;exact k c o hc.2 z
 self:=λ_ _ _ _ _ st h=>let⟨⟨_,q⟩,_⟩:=st;Rp q h
section
def KB(K:QR)(ta:TA):TI:=λσ H R=>ta σ H λvs H1=>∃a,vs=[.ref a]/\(∃xs,Sq K false H1 a xs)/\R (wy K a) H1
theorem KC{ta:TA}{p pos kp cp:Pos}{j:Nat}(hg:Gl X "enumerate")(hm:X.mg "enumerate" = none)(ha:PA X [a] ta)(hs:{starEach [a] X.env=[(false,eval a X.env)]}) :
  PI X (.Tuple es n1 ps) (.Call (.Name "enumerate" p) [a] [⟨some "start",.Constant (.int 1) j cp,kp⟩] pos) (KB X.K ta):=by
 intro oI s σ H R I h;refine Rl<|eQ I hg hm boot_enumerate ?_;refine Ks (bK (ha pos oI s σ H _ I h) λus s1 ⟨vs,H1,I1,r1,q1⟩=>?_) (by rw[hs];rfl) (by rw[hs];rfl);obtain⟨l,rfl,⟨xs,hx⟩,q⟩:=q1;cases r1 with
 |cons r rr=>
  cases rr;cases r;refine PyProof.Rows.kws_cons<|wpAny_Constant_int (PyProof.Rows.kws_nil ?_);obtain⟨its,rv,p1,hz⟩:=I1.sq hx;refine Kx (s:={ s1 with toks:=s1.toks+1 }) p1 λh' a1 a2 k=>Rp (s:={ s1 with heap:=h',toks:=s1.toks+1 }) a1 ?_;refine⟨_,[s1.heap.objs.size+1,s1.heap.objs.size],_,_,H1,rfl,I1.kept (t':=s1.toks+1) k,KA l _ _<|Nat.succ_ne_self _,⟨⟨_,a1⟩,a2⟩,λb hb=>?_,q⟩;have hb':s1.heap.objs.size<=b:=by
   simp only[Yan,iu,or_false]at hb;exact Fz _ _ hb
  exact I1.fpOk hb'<|I1.hok.fresh hb'
end
namespace Fl
def quiet(f:Str):Rv:=["__setattr__", "__getattribute__", "__getattr__",f]
def FA(K:QR)(ns:Rv)(bmB:K9):K9->Bool
 |[]=>bmB==[]
 |v::r=>(v::r)==bmB||match v with
  | .ref a=>(match K.lookup a with
   |some ⟨_,_,.cls cd,_⟩=>W.nsOkIn K cd.ns&&ns.all (λn=>W.nsIn K cd.ns n==some none)&&FA K ns bmB r
   |_=>false)
  |_=>false
def clsF(K:QR)(C:Addr)(bmB:K9)(newId:String)(f:Str)(fI:Addr):Bool:=match K.lookup C with
 | some ⟨.type "type",_,.cls cd,sl⟩=>(match cd.mro,sl.toList with
  |.ref C'::bm,[_,_,_,_,some<|.builtin n,_]=>C'==C&&n==newId && !cd.hasDel&&cd.hasDict&&FA K ("__init__" ::quiet f) bmB bm&&W.nsOkIn K cd.ns&&W.nsIn K cd.ns "__init__" == some (some<|.ref fI)&&(quiet f).all (λn=>W.nsIn K cd.ns n==some none)
  |_,_=>false)
 |_=>false
abbrev bmV:K9:=[.type "ValueError",.type "Exception",.type "BaseException",.type "object"]
end Fl
section
variable{E:K5}{R:Result->Shared->Prop}{t1 i1 t2 i2:Expr}{f1 f2:List Expr}{pos:Pos}{it acc:Value}{env:Env}
theorem KD:compTurn (.ListComp elt [⟨t1,i1,f1,0⟩,⟨t2,i2,f2,0⟩] scope pos) 0 it acc env=(do
   standAt i1.pos
   match<-pyNext it with
   |none=>pure (.done .next)
   |some v=>
    letOwnedTupleGo t1 it v
    assign t1 env v
    let mut ok:=true
    for c in f1 do
     if ok then ok <-isTrue c env (eval c env)
    if ok then
     let x <-eval i2 env
     standAt i2.pos
     let x <-foldedSetIterable i2 env x
     let _ <-runOwn (.compStart (.ListComp elt [⟨t1,i1,f1,0⟩,⟨t2,i2,f2,0⟩] scope pos) 1 (<-holding [x] (pyIter x)) acc env) env
    again (.compLoop (.ListComp elt [⟨t1,i1,f1,0⟩,⟨t2,i2,f2,0⟩] scope pos) 0 it acc env)):=by rfl
theorem KF:compTurn (.ListComp elt [⟨t1,i1,f1,0⟩,⟨t2,i2,f2,0⟩] scope pos) 1 it acc env=(do
   standAt i2.pos
   match<-pyNext it with
   |none=>pure (.done .next)
   |some v=>
    letOwnedTupleGo t2 it v
    assign t2 env v
    let mut ok:=true
    for c in f2 do
     if ok then ok <-isTrue c env (eval c env)
    if ok then
     (do let _ <-call (.builtin "list.append") [acc,<-eval elt env])
    again (.compLoop (.ListComp elt [⟨t1,i1,f1,0⟩,⟨t2,i2,f2,0⟩] scope pos) 1 it acc env)):=by rfl
theorem KG
  (h0:codeAny (model prog w) A (.compLoop (.ListComp elt [⟨t1,i1,f1,0⟩,⟨t2,i2,f2,0⟩] scope pos) 1 it acc env) R s)
  (h:wpAny (model prog w) A (pyIter it) (λit' s'=>codeAny (model prog w) A (.compLoop (.ListComp elt [⟨t1,i1,f1,0⟩,⟨t2,i2,f2,0⟩] scope pos) 1 it' acc env) R s')
   (notedBy (model prog w) A env λx s'=>R (.error x) s') s) :
  codeAny (model prog w) A (.compStart (.ListComp elt [⟨t1,i1,f1,0⟩,⟨t2,i2,f2,0⟩] scope pos) 1 it acc env) R s:=by
 refine codeAny_of_tree ?_;show wpAny _ _ ((compStart (.ListComp elt [⟨t1,i1,f1,0⟩,⟨t2,i2,f2,0⟩] scope pos) 1 it acc env).onRaise (λx=>do noteFrame x env;standAt theWindowsPlace)) _ _ s;refine wpAny_notedAt ?_;unfold compStart;show wpAny _ _ (ask >>= _) _ _ s;refine QP<|wpAny_askSetting (wpAny_ite ?_);split
 .first
   |exact QP<|QQ (QQ<|And.intro rfl h0)
   |exact QQ<|And.intro rfl h0
 .first
   |exact QP<|Rj (QP<|Q9<|QP<|QY h (λit' s' h'=>QQ<|And.intro rfl h') λ_ _ x=>x)
   |(refine QP (Rj ?_);show wpAny _ _ (standAt i2.pos >>= _) _ _ s;exact QP<|Q9<|QP<|QY h (λit' s' h'=>QQ<|And.intro rfl h') λ_ _ x=>x)
theorem KH(I:Nat->Shared->Prop)
  (turn:∀ n s,I n s->wpAny (model prog w) A (pyNext it) (λr s₁=>match r with
   |none=>R (.ok .next) s₁
   | some v=>wpAny (model prog w) A (letOwnedTupleGo t2 it v) (λ_ s₁'=>wpAny (model prog w) A (assign t2 env v) (λ_ s₂=>
     wpAny (model prog w) A (forIn f2 true λc r=>if r=true then do let ok <- isTrue c env (eval c env);pure (ForInStep.yield ok) else pure (ForInStep.yield r)) (λok s₃=>
      if ok=true then wpAny (model prog w) A (eval elt env) (λx s₄=>
       wpAny (model prog w) A (call (.builtin "list.append") [acc,x]) (λ_ s₅=>∃m,m<n/\I m s₅) (λ_ _=>False) s₄) (λ_ _=>False) s₃
      else∃m,m<n/\I m s₃) (λ_ _=>False) s₂) (λ_ _=>False) s₁') (λ_ _=>False) s₁) (λ_ _=>False) s)
  (n:Nat) (h:I n s) :
  codeAny (model prog w) A (.compLoop (.ListComp elt [⟨t1,i1,f1,0⟩,⟨t2,i2,f2,0⟩] scope pos) 1 it acc env) R s:=by
 refine codeAny_loop rfl I (λn s hI=>?_) n h;show wpAny _ A ((compTurn (.ListComp elt [⟨t1,i1,f1,0⟩,⟨t2,i2,f2,0⟩] scope pos) 1 it acc env).onRaise (λx=>do noteFrame x env;theTreesLotGoes x)) _ _ s;refine wpAny_noted ?_;rw[KF];refine QP<|Q9 (QP<|QY (turn n s hI) (λr s₁ h₁=>?_) λ_ _ h'=>h'.elim);cases r with
 |none=>exact QQ h₁
 |some v=>
  refine QP<|QY h₁ (λ_ s₁' h₁'=>?_) λ_ _ h'=>h'.elim;refine QP<|QY h₁' (λ_ s₂ h₂=>QP<|QY h₂ (λok s₃ h₃=>?_) λ_ _ h'=>h'.elim) λ_ _ h'=>h'.elim;cases ok with
  |false=>exact QQ ⟨rfl,h₃⟩
  |true=>
   exact QP<|QP (QY h₃ (λx s₄ h₄=>QP<|QY h₄ (λ_ s₅ h₅=>QQ<|QQ ⟨rfl,h₅⟩) λ_ _ h'=>h'.elim) λ_ _ h'=>h'.elim)
theorem KI(I:Nat->Shared->Prop)(hs:∀x,foldedSetIterable i2 env x=pure x)
  (turn:∀ n s,I n s->wpAny (model prog w) A (pyNext it) (λr s₁=>match r with
   |none=>R (.ok .next) s₁
   | some v=>wpAny (model prog w) A (letOwnedTupleGo t1 it v) (λ_ s₁'=>wpAny (model prog w) A (assign t1 env v) (λ_ s₂=>
     wpAny (model prog w) A (forIn f1 true λc r=>if r=true then do let ok <- isTrue c env (eval c env);pure (ForInStep.yield ok) else pure (ForInStep.yield r)) (λok s₃=>
      if ok=true then wpAny (model prog w) A (eval i2 env) (λx s₄=>
       wpAny (model prog w) A (pyIter x) (λitv s₅=>codeAny (model prog w) A (.compStart (.ListComp elt [⟨t1,i1,f1,0⟩,⟨t2,i2,f2,0⟩] scope pos) 1 itv acc env)
        (λr s₆=>r=.ok .next/\∃m,m<n/\I m s₆) s₅) (λ_ _=>False) s₄) (λ_ _=>False) s₃
      else∃m,m<n/\I m s₃) (λ_ _=>False) s₂) (λ_ _=>False) s₁') (λ_ _=>False) s₁) (λ_ _=>False) s)
  (n:Nat) (h:I n s) :
  codeAny (model prog w) A (.compLoop (.ListComp elt [⟨t1,i1,f1,0⟩,⟨t2,i2,f2,0⟩] scope pos) 0 it acc env) R s:=by
 refine codeAny_loop rfl I (λn s hI=>?_) n h;show wpAny _ A ((compTurn (.ListComp elt [⟨t1,i1,f1,0⟩,⟨t2,i2,f2,0⟩] scope pos) 0 it acc env).onRaise (λx=>do noteFrame x env;theTreesLotGoes x)) _ _ s;refine wpAny_noted ?_;rw[KD];refine QP<|Q9 (QP<|QY (turn n s hI) (λr s₁ h₁=>?_) λ_ _ h'=>h'.elim);cases r with
 |none=>exact QQ h₁
 |some v=>
  refine QP<|QY h₁ (λ_ s₁' h₁'=>?_) λ_ _ h'=>h'.elim;refine QP<|QY h₁' (λ_ s₂ h₂=>QP<|QY h₂ (λok s₃ h₃=>?_) λ_ _ h'=>h'.elim) λ_ _ h'=>h'.elim;cases ok with
  |false=>exact QQ ⟨rfl,h₃⟩
  |true=>
   refine QP<|QY h₃ (λx s₄ h₄=>QP<|Q9<|QP<|wpAny_of_eq (hs x) ?_) λ_ _ h'=>h'.elim;refine QP<|Rc (QY h₄ (λitv s₅ h₅=>?_) λ_ _ h'=>h'.elim);refine QP<|wpAny_runOwn (codeAny_mono h₅ λr s₆ h₆=>?_);obtain⟨rfl,h₆⟩:=h₆;exact QQ ⟨rfl,h₆⟩
end
def wD(g:TG)(tf:TT)(te:TE)(J:It)(D:Addr)(Q:RH->St->Hp->Prop)(W:Nat->Nat->RH->St->Hp->Prop):Prop:=
 ∀ i m ys σ2 H2,W i m ys σ2 H2->H2 D=some (.lst ys)/\((J.stop i H2/\Q ys σ2 H2)\/(J.go i H2/\∀ x H3,J.yld i H2 x H3->g x σ2 H3 λσ4 H4=>tf σ4 H4 λb H5=>
  if b=true then te σ4 H5 λv H6=>H6 D=some (.lst ys)/\ys.length<sizeLine/\∃m',m'<m/\W (i+1) m' (ys++[v]) σ4 (upd H6 D<|.lst<|ys++[v]) else∃m',m'<m/\W (i+1) m' ys σ4 H5))
def FC(g:TG)(tf:TT)(wi2:TI)(g2:TG)(tf2:TT)(te:TE)(J:It)(D:Addr)(Q:Hp->Prop)(W:Nat->Nat->RH->St->Hp->Prop):Prop:=
 ∀ i m ys σ2 H2,W i m ys σ2 H2->H2 D=some (.lst ys)/\((J.stop i H2/\Q H2)\/(J.go i H2/\∀ x H3,J.yld i H2 x H3->g x σ2 H3 λσ4 H4=>tf σ4 H4 λb H5=>
  if b=true then wi2 σ4 H5 λJ2 H6=>∃W2:Nat->Nat->RH->St->Hp->Prop,(∃k,W2 0 k ys σ4 H6)/\wD g2 tf2 te J2 D (λys' σ' H'=>∃m',m'<m/\W (i+1) m' ys' σ' H') W2 else∃m',m'<m/\W (i+1) m' ys σ4 H5))
def CN(wi:TI)(nv:Nat)(sel:Ry)(g:TG)(tf:TT)(wi2:TI)(g2:TG)(tf2:TT)(te:TE):TE:=λσ H Q=>wi σ H λJ H1=>∀D,H1 D=none->
 ∃W:Nat->Nat->RH->St->Hp->Prop,(∃m,W 0 m [] (gH nv sel σ)<|upd H1 D<|.lst [])/\FC g tf wi2 g2 tf2 te J D (Q<|.ref D) W
section
variable{s2:Shared}{target iter t2 i2:Expr}{f2:List Expr}{pos:Pos}{g g2:TG}{tf tf2:TT}
theorem KJ{Y:Cx}{D:Addr}{R:Result->Shared->Prop}{ys:RH}{m0:Nat}{W:Nat->Nat->RH->St->Hp->Prop}
  (hc:Y.calm=true) (hxe:Y.xe=λ_ _=>False) (hg:PG Y t2 g2) (hf:PF Y f2 tf2) (he:PE Y elt te) (I:Inv Y oI σ H s) (T:iO Y.prog Y.w Y.K t2 J fp it tn) (st:tn 0 s.heap) (f:∀b∈fp,dY Y oI H b)
  (w0:W 0 m0 ys σ H) (turn:wD g2 tf2 te J D Q W) (hR:∀ys' σ' H' s',Inv Y oI σ' H' s'->Q ys' σ' H'->R (.ok .next) s') :
  codeAny (model Y.prog Y.w) Y.A (.compStart (.ListComp elt [⟨target,iter,ifs,0⟩,⟨t2,i2,f2,0⟩] sc pos) 1 (.ref it) (.ref D) Y.env) R s:=by
 have stat:∀{σ':St} {H':Hp} {s':Shared},(∀b∈fp,H' b=none)->∀b∈fp,dY Y oI H' b:=λ{σ' H' s'} hn b hb=>⟨hn b hb,(f b hb).2⟩;have loop:codeAny (model Y.prog Y.w) Y.A (.compLoop (.ListComp elt [⟨target,iter,ifs,0⟩,⟨t2,i2,f2,0⟩] sc pos) 1 (.ref it) (.ref D) Y.env) R s:=by
  refine KH (λn s'=>∃i ys σ' H',Inv Y oI σ' H' s'/\tn i s'.heap/\(∀b∈fp,H' b=none)/\W i n ys σ' H') ?_ m0 ⟨0,ys,_,_,I,st,λb hb=>(f b hb).1,w0⟩;rintro n s5 ⟨i,ys,σ5,H5,I5,st5,fr5,w5⟩;obtain⟨hD,⟨stop,qn⟩|⟨go,step⟩⟩:=turn i n ys σ5 H5 w5
  .refine bK (T.done Y rfl rfl rfl hc i oI s5 σ5 H5 _ I5 (stat (σ':=σ5) (s':=s5) fr5) st5 stop) λr s6 ⟨hr,I6⟩=>?_
   subst hr;exact hR _ _ H5 s6 I6 qn
  .refine bK (T.item Y rfl rfl rfl hc i oI s5 σ5 H5 _ I5 (stat (σ':=σ5) (s':=s5) fr5) st5 go) λr s6 ⟨u,hr,h6⟩=>?_
   subst hr;refine bK h6 λ_ s7 ⟨x,H7,I7,r7,y7,st7,fr7⟩=>?_;have I7':=I7.pinned (stat (σ':=σ5) (s':=s7) fr7)<|T.obj _ _ st7;have hg':=hg (oI++eR fp s7.heap) s7 σ5 H7 x u _ I7' r7<|step x H7 y7;rw[hxe]at hg';refine bK hg' λ_ s8 ⟨σ8,H8,I8,q8⟩=>?_;have hf':=hf _ s8 σ8 H8 _ I8 q8;rw[hxe]at hf';refine bK hf' λb s9 ⟨H9,I9,q9⟩=>?_;have back:∀{σ':St} {H':Hp} {s':Shared},Inv Y (oI++eR fp s7.heap) σ' H' s'->tn (i+1) s'.heap/\∀b∈fp,H' b=none:=λ{σ' H' s'} I'=>by
    refine⟨T.keep _ _ _ st7 λb hb o e=>(I'.pin (b,o)<|jf _<|jf _<|cK hb e).1,λb hb=>?_⟩;obtain⟨o,e,d⟩:=T.obj _ _ st7 b hb;exact(I'.pin (b,o)<|jf _<|jf _<|cK hb e).2.1
   cases b with
   |false=>
    rw[jx<|wp]at q9 ⊢;obtain⟨m',hm,w9⟩:=q9;exact⟨m',hm,i+1,ys,σ8,H9,I9.unpinned,(back I9).1,(back I9).2,w9⟩
   |true=>
    rw[ks rfl]at q9 ⊢;have he':=he _ s9 σ8 H9 _ I9 q9;rw[hxe]at he';refine bK he' λv sA ⟨y,HA,IA,rA,hDA,hz,m',hm,wA⟩=>?_;obtain⟨z,its,nn,rr,hl,e⟩:=IA.lstM hDA;refine call_meets F.slot_list_append ⟨_,e,rfl⟩ F.entry_list_append (F.args_list_append_2 _ _) (PySem.list_append _ its.toArray nn v (by rw[fe];omega)) ⟨e,?_⟩;have IB:=IA.lset (its':=its++[v]) (f:=(·.push v)) (t':=sA.toks) hDA e E1 (rr.append<|.cons rA .nil) (by rw[dA,kf];omega);exact⟨m',hm,i+1,ys++[y],σ8,_,IB.unpinned,(back IB).1,(back IB).2,wA⟩
 exact KG loop<|T.self _ 0 _ _ _ st loop
end
section
variable{s2:Shared}{target iter t2 i2:Expr}{fz:List Expr}{pos:Pos}{g g2:TG}{tf tf2:TT}
theorem KK{Q:VK}{E:K5}{R:Value->Addr->Result->Shared->Prop}(hc:X.calm=true)
  (hg:∀s H fp,PG (X.lc sc vars sel s H fp) target g) (hf:∀s H fp,PF (X.lc sc vars sel s H fp) ifs tf) (hi2:∀s H fp,PI (X.lc sc vars sel s H fp) t2 i2 wi2) (hg2:∀s H fp,PG (X.lc sc vars sel s H fp) t2 g2) (hf2:∀s H fp,PF (X.lc sc vars sel s H fp) fz tf2) (he:∀s H fp,PE (X.lc sc vars sel s H fp) elt te) (hs2:∀a x,foldedSetIterable i2 (jq sc X.env a) x=pure x)
  (ok:kq sc X.env.scope=true) (so:pL X.N sc sel=true)
  (I2:Inv X oI σ H1 s2) (T:iO X.prog X.w X.K target J fp it tn) (st2:tn 0 s2.heap) (f2:∀b∈fp,dY X oI H1 b)
  (q:∀D,H1 D=none->∃W:Nat->Nat->RH->St->Hp->Prop,(∃m,W 0 m [] (gH vars.length sel σ)<|upd H1 D<|.lst [])/\FC g tf wi2 g2 tf2 te J D (Q<|.ref D) W)
  (hR:∀D C H' s',Inv X oI σ H' s'->Q (.ref D) H'->(∃m,s'.heap.Ns C m)->dY X oI H' C->R (.ref D) C (.ok .next) s') :
  wpAny (model X.prog X.w) X.A (newList []) (λacc s₃=>wpAny (model X.prog X.w) X.A (newFunctionEnv sc X.env.globals (dB X.env.cells sc.names []) [] X.env.qual none .none<|some X.env) (λcenv s₄=>
   codeAny (model X.prog X.w) X.A (.compStart (.ListComp elt [⟨target,iter,ifs,0⟩,⟨t2,i2,fz,0⟩] sc pos) 0 (.ref it) acc { cenv with scope:=relabel sc X.env }) (R acc cenv.locals) s₄) E s₃) E s2:=by
 refine Q5 ?_;have hD0:H1 s2.heap.objs.size=none:=I2.hok.fresh<|bU _;obtain⟨W,⟨m0,w0⟩,turn⟩:=q _ hD0;have I3:Inv X oI σ (upd H1 s2.heap.objs.size<|.lst []) { s2 with heap:=s2.heap.push { cls:=.type "list",data:=.seq ([]:K9).toArray },toks:=s2.toks }:=I2.lnew (ys:=[]) .nil<|jw _;have ho2:∀b∈fp,∃o,s2.heap.get? b=some o/\∀v,o.data≠.cell v:=T.obj _ _ st2;have lt2:∀b∈fp,b<s2.heap.objs.size:=λb hb=>by obtain⟨o,e,_⟩:=ho2 b hb;exact dC e
 have f3:∀b∈fp,dY X oI (upd H1 s2.heap.objs.size<|.lst []) b:=λb hb=>⟨by rw[aK<|ip<|lt2 b hb];exact(f2 b hb).1,(f2 b hb).2⟩;have ho3:∀b∈fp,∃o,(s2.heap.push { cls:=.type "list",data:=.seq ([]:K9).toArray }).get? b=some o:=λb hb=>by obtain⟨o,e,_⟩:=ho2 b hb;exact⟨o,dM _ e⟩
 refine Fs (s:={ s2 with heap:=s2.heap.push { cls:=.type "list",data:=.seq ([]:K9).toArray },toks:=s2.toks }) ?_;generalize hs3:({ s2 with heap:=s2.heap.push { cls:=.type "list",data:=.seq ([]:K9).toArray },toks:=s2.toks }:Shared)=s3 at I3 ⊢;have kp23:∀b o,s2.heap.get? b=some o->s3.heap.get? b=some o:=λb o e=>by rw[<-hs3];exact dM _ e
 have sz3:s3.heap.objs.size=s2.heap.objs.size+1:=by rw[<-hs3];exact mL ..
 have os3:s3.os=s2.os:=by rw[<-hs3]
 have ho3':∀b∈fp,∃o,s3.heap.get? b=some o:=λb hb=>by rw[<-hs3];exact ho3 b hb
 have I4:=Ft (vars:=vars) I3 ok so f3 ho3' I2.ok.kind;have kp4:∀b o,s3.heap.get? b=some o->(pushCells (s3.heap.push { cls:=.type "dict",data:=.dict #[] }) sc.names).get? b=some o:=λb o e=>pushCells_keeps _ _ _ _<|dM _ e;have st4:tn 0 (pushCells (s3.heap.push { cls:=.type "dict",data:=.dict #[] }) sc.names):=T.keep _ _ _ st2 λb hb o e=>kp4 b o<|kp23 b o e
 have stat:∀{H':Hp},(∀b∈fp,H' b=none)->∀b∈fp,dY (X.lc sc vars sel s3 (upd H1 s2.heap.objs.size<|.lst []) fp) [] H' b:=λ{H'} hn b hb=>by
  refine⟨hn b hb,(I4.ok.exf b hb).1,I4.ok.exfs b hb,.inl hb,λx c e z=>(I4.ok.exf b hb).2 x c e z,λp hp=>QS (show p∈([]:K4) from hp)<|E1⟩
 have loop:codeAny (model X.prog X.w) X.A (.compLoop (.ListComp elt [⟨target,iter,ifs,0⟩,⟨t2,i2,fz,0⟩] sc pos) 0 (.ref it) (.ref s2.heap.objs.size)<|jq sc X.env s3.heap.objs.size)
   (R (.ref s2.heap.objs.size) s3.heap.objs.size) { s3 with heap:=pushCells (s3.heap.push { cls:=.type "dict",data:=.dict #[] }) sc.names }:=by
  refine KI (λn s'=>∃i ys σ' H',Inv (X.lc sc vars sel s3 (upd H1 s2.heap.objs.size<|.lst []) fp) [] σ' H' s'/\tn i s'.heap/\(∀b∈fp,H' b=none)/\W i n ys σ' H') (hs2 _) ?_ m0
   ⟨0,[],_,_,I4,st4,λb hb=>(f3 b hb).1,w0⟩
  rintro n s5 ⟨i,ys,σ5,H5,I5,st5,fr5,w5⟩;obtain⟨hD,⟨stop,qn⟩|⟨go,step⟩⟩:=turn i n ys σ5 H5 w5
  .refine bK (T.done (X.lc sc vars sel s3 (upd H1 s2.heap.objs.size<|.lst []) fp) rfl rfl rfl hc i [] s5 σ5 H5 _ I5 (stat fr5) st5 stop) λr s6 ⟨hr,I6⟩=>?_
   subst hr;have un:Un (eD X.stack) fp H1 H5 s2.heap s6.heap:=by
    have a:Un (eD X.stack) fp H1 (upd H1 s2.heap.objs.size<|.lst []) s2.heap s3.heap:=Un.laid kp23 (bU _) hD0;exact a.trans I6.base
   have I7:Inv X oI σ H5 s6:=I2.call' (ch:=fp) (I6.os.trans os3) un I6.hok I6.bare λb hb=>⟨(f2 b hb).2.2.2.1,(f2 b hb).2.1,(f2 b hb).2.2.2.2.1,(f2 b hb).2.2.2.2.2⟩;refine hR _ _ H5 s6 I7 qn ?_ ?_
   .obtain⟨m,hn,_⟩:=I6.loc
    exact⟨m,hn⟩
   .exact I3.fpOk (bU _) I6.free
  .refine bK (T.item (X.lc sc vars sel s3 (upd H1 s2.heap.objs.size<|.lst []) fp) rfl rfl rfl hc i [] s5 σ5 H5 _ I5 (stat fr5) st5 go) λr s6 ⟨u,hr,h6⟩=>?_
   subst hr;refine bK h6 λ_ s7 ⟨x,H7,I7,r7,y7,st7,fr7⟩=>?_;have I7':=I7.pinned (stat fr7)<|T.obj _ _ st7;refine bK (hg _ _ _ _ s7 σ5 H7 x u _ I7' r7<|step x H7 y7) λ_ s8 ⟨σ8,H8,I8,q8⟩=>?_;refine bK (hf _ _ _ _ s8 σ8 H8 _ I8 q8) λb s9 ⟨H9,I9,q9⟩=>?_;have back:∀{σ':St} {H':Hp} {s':Shared},Inv (X.lc sc vars sel s3 (upd H1 s2.heap.objs.size<|.lst []) fp) ([]++eR fp s7.heap) σ' H' s'->tn (i+1) s'.heap/\∀b∈fp,H' b=none:=λ{σ' H' s'} I'=>by
    refine⟨T.keep _ _ _ st7 λb hb o e=>(I'.pin (b,o)<|jf _<|jf _<|cK hb e).1,λb hb=>?_⟩;obtain⟨o,e,d⟩:=T.obj _ _ st7 b hb;exact(I'.pin (b,o)<|jf _<|jf _<|cK hb e).2.1
   cases b with
   |false=>
    rw[jx<|wp]at q9 ⊢;obtain⟨m',hm,w9⟩:=q9;exact⟨m',hm,i+1,ys,σ8,H9,I9.unpinned,(back I9).1,(back I9).2,w9⟩
   |true=>
    rw[ks rfl]at q9 ⊢;refine bK (hi2 _ _ _ _ s9 σ8 H9 _ I9 q9) λv sA hA=>bK hA λitv sB hB=>?_;obtain⟨it2,fp2,tn2,J2,HB,e2,IB,T2,stB,fB,W2,⟨k0,wB⟩,tr2⟩:=hB;subst e2;exact KJ (Y:=X.lc sc vars sel s3 (upd H1 s2.heap.objs.size<|.lst []) fp) hc rfl (hg2 _ _ _) (hf2 _ _ _) (he _ _ _) IB T2 stB fB wB tr2 λys' σ' H' s' I' ⟨m',hm,w'⟩=>⟨rfl,m',hm,i+1,ys',σ',H',I'.unpinned,(back I').1,(back I').2,w'⟩
 exact codeAny_compStart_list loop<|T.self _ 0 _ _ _ st4 loop
theorem KM{wi:TI}(vars:Rv)(sel:Ry)(hc:X.calm=true)(hi:PI X target iter wi)
  (ok:kq sc X.env.scope=true) (so:pL X.N sc sel=true)
  (hg:∀s H fp,PG (X.lc sc vars sel s H fp) target g) (hf:∀s H fp,PF (X.lc sc vars sel s H fp) ifs tf) (hi2:∀s H fp,PI (X.lc sc vars sel s H fp) t2 i2 wi2) (hg2:∀s H fp,PG (X.lc sc vars sel s H fp) t2 g2) (hf2:∀s H fp,PF (X.lc sc vars sel s H fp) fz tf2) (he:∀s H fp,PE (X.lc sc vars sel s H fp) elt te) (hs2:∀a x,foldedSetIterable i2 (jq sc X.env a) x=pure x)
  (hs:autoParam (∀x,foldedSetIterable iter X.env x=pure x) RL._auto_1):PE X (.ListComp elt [⟨target,iter,ifs,0⟩,⟨t2,i2,fz,0⟩] sc pos) (CN wi vars.length sel g tf wi2 g2 tf2 te):=by
 intro oI s σ H Q I h;rw[eval_ListComp];have ok':=ok;simp only[kq,d9,QV]at ok';refine Rm (use:=none) rfl hs (CA<|zO I ok) ok'.1.1 (λx hx hl=>?_) ?_
 .obtain⟨n,k⟩:=x
  have hl':k=.local:=hl;subst hl';exact zN ok'.1.2 hx
 .refine bK (hi oI s σ H _ I h) λv s1 h1=>bK h1 λitv s2 h2=>?_
  obtain⟨it,fp,tn,J,H2,e,I2,T,st2,f2,q⟩:=h2;subst e;refine KK (Q:=Q) hc hg hf hi2 hg2 hf2 he hs2 ok so I2 T st2 f2 q λD C H' s' I' q' hn fC=>?_;obtain⟨m,hn⟩:=hn;refine⟨m,hn,λh' hs'=>?_⟩;obtain⟨f0,f1,f2,f3,f4,f5⟩:=fC;exact⟨.ref D,H',I'.turned (t':=s'.toks) (λb o hb e=>(hs'.2 b hb).trans e) f0 f1 f3 f4 f5,rfl,q'⟩
end
theorem FD(f:Nat->Int):∀k,argBest (λi j=>decide (f i<f j)) k<=k/\∀j,j<=k->f (argBest (λi j=>decide (f i<f j)) k)<=f j
 |0=>⟨bU _,λj hj=>by rw[Ybq.mp hj];exact Int.le_refl _⟩
 |k+1=>by
  obtain⟨h1,h2⟩:=FD f k;rw[argBest];by_cases z:f (k+1)<f (argBest (λi j=>decide (f i<f j)) k);rw[ks<|QT z];refine⟨bU _,λj hj=>?_⟩;rcases Nat.eq_or_lt_of_le hj with rfl|hj
  exact Int.le_refl _;have:=h2 j tv;omega;rw[jx<|by simpa using z];refine⟨tv,λj hj=>?_⟩;rcases Nat.eq_or_lt_of_le hj with rfl|hj
  omega;exact h2 j tv
section
theorem KN(hc:X.calm=true):dZ X (.builtin "min") (λxs H Q=>∃(p:Addr) (ns:Lb),xs=[.ref p]/\SqL X.K H p (ns.map V.int)/\ns≠[]/\∀m∈ns,(∀x∈ns,m<=x)->Q (.int m) H):=by
 intro oI s σ H xs us Q I r h;obtain⟨p,ns,rfl,hq,hne,q⟩:=h;obtain⟨u,rfl,ru⟩:=fP r;cases ru;obtain⟨its,rv,pl,hz⟩:=I.list hq;have hits:∃ps:List (Int×Tok),its=ps.map (λp=>Value.int p.1 p.2)/\ps.map (·.1)=ns:=by
  clear hz pl hq q hne;induction ns generalizing its with
  |nil=>cases rv;exact⟨[],rfl,rfl⟩
  |cons n ns ih=>
   cases rv with
   |cons r1 r2=>
    obtain⟨t,rfl⟩:=r1;obtain⟨ps,rfl,e⟩:=ih _ r2;exact⟨(n,t)::ps,rfl,by rw[cN,e]⟩
 obtain⟨ps,rfl,e⟩:=hits;have hl:s.heap.IsList p (intItems ps.toArray):=by have:=pl.isList;simpa[intItems] using this
 have h0:0<ps.length:=by
  cases ps with
  |nil=>rw[<-e]at hne;exact QS rfl hne|cons _ _=>simp
 refine min_intList (I.ok.hd hc) hl (by simpa using h0) λv h' tk hv k=>?_;obtain⟨b1,b2⟩:=FD (numAt ps.toArray)<|ps.toArray.size-1;generalize argBest (λi j=>decide (numAt ps.toArray i<numAt ps.toArray j)) (ps.toArray.size-1)=a at hv b1 b2;have ha:a<ps.length:=by simp at b1;omega
 have na:∀j,j<ps.length->ns[j]? = some (numAt ps.toArray j):=λj hj=>by rw[<-e,cJ,bP hj];simp[numAt,hj]
 have ev:v=.int (numAt ps.toArray a) (ps[a]'ha).2:=by rw[show(intItems ps.toArray)[a]? = some (Value.int (ps[a]'ha).1 (ps[a]'ha).2) by simp[intItems,ha]]at hv;rw[<-QW hv];simp[numAt,ha]
 refine⟨.int<|numAt ps.toArray a,H,I.kept k,⟨_,ev⟩,q _ (iK<|na a ha) λx hx=>?_⟩;obtain⟨j,hj⟩:=List.mem_iff_getElem?.mp hx;have hj':j<ps.length:=by have:=(Yap.mp hj).1;rw[<-e]at this;simpa using this
 rw[na j hj']at hj;rw[<-QW hj];exact b2 j (by simp;omega)
end
end L2
namespace PySem
section
variable{prog:Program}{w:World}{A:Around}{E:K5}{s:Shared}{l:Addr}{xs:Array (Int×Tok)}
theorem KO{Q:K5}(hh:A.handled=none)(hl:s.heap.IsTuple l (intItems xs))
  (h:∀h' tk t',(∀b o,s.heap.get? b=some o->h'.get? b=some o)->Q (.int (preSum (numAt xs) xs.size) t') { s with heap:=h',toks:=tk }) :
  wpAny (model prog w) A (call (.builtin "sum") [.ref l]) Q E s:=by
 have ne:l≠s.heap.objs.size:=by
  obtain⟨o,e,_⟩:=hl;exact ip<|dC e
 refine call_sum_walkG<|wpAny_pyIter_tuple hl ?_;refine⟨_,[_,l],[_],_,_,_,numAt xs,rfl,Walks.tuple (A:=A.in1) hh _ l ne<|intItems xs,⟨⟨_,gZ _ rfl,rfl,rfl⟩,hl.push _⟩,λc hc=>?_,(λ_ _=>intItems_at),λh' tk t' hk=>?_⟩
 .show c<(s.heap.push _).objs.size
  rw[mL];rcases Yan.mp hc with rfl|hc
  .exact BI _
  .rcases Yan.mp hc with rfl|hc
   .obtain⟨o,e,_⟩:=hl
    exact vq<|dC e
   .cases hc
 .have:=h h' tk t' λb o e=>hk b o (λhm=>by
   rcases Yan.mp hm with e1|hm
   .have:=dC e;rw[e1]at this;exact iJ _ this
   .cases hm)<|dM _ e
  simpa[intItems] using this
end
end PySem
namespace L2
open PySem PySem.Spec PyProof.Rows
section
variable{X:Cx}
theorem KP(hc:X.calm=true):dZ X (.builtin "sum") (λxs H Q=>∃(p:Addr) (ns:Lb),xs=[.ref p]/\SqT X.K H p (ns.map V.int)/\Q (.int ns.sum) H):=by
 intro oI s σ H xs us Q I r h;obtain⟨p,ns,rfl,hq,q⟩:=h;obtain⟨u,rfl,ru⟩:=fP r;cases ru;obtain⟨its,rv,pl,hz⟩:=I.tuple hq;have hits:∃ps:List (Int×Tok),its=ps.map (λp=>Value.int p.1 p.2)/\ps.map (·.1)=ns:=by
  clear hz pl hq q;induction ns generalizing its with
  |nil=>cases rv;exact⟨[],rfl,rfl⟩
  |cons n ns ih=>
   cases rv with
   |cons r1 r2=>
    obtain⟨t,rfl⟩:=r1;obtain⟨ps,rfl,e⟩:=ih _ r2;exact⟨(n,t)::ps,rfl,by rw[cN,e]⟩
 obtain⟨ps,rfl,e⟩:=hits;have hl:s.heap.IsTuple p (intItems ps.toArray):=by obtain⟨o,h1,h2,n,h3⟩:=pl;exact⟨o,h1,h2,n,by simpa[intItems] using h3⟩
 refine KO (I.ok.hd hc) hl λh' tk t' k=>⟨.int ns.sum,H,I.kept k,?_,q⟩;refine⟨t',?_⟩;rw[preSum_eq,BJ<|E1,e]
end
end L2
namespace LP
open PySem PySem.Spec PyProof.Rows L2
variable{n a k b i j n1 m:Nat}{dx od an:Option Addr}{K:QR}{vs us:RH}{e c tg elt target iter ix:Expr}{H H1 H2 H0:Hp}{o:HO}{σ:L2.St}{X:Cx}{EX:XK}{x name:Str}{u r l row:Mn}{op:CmpOp}{p p2 pos' spos apos cpos:Pos}{es ifs:List Expr}{t:KE}{f P:E8}{fd:FuncData}{ps vars L:Rv}{oI:K4}{s:Lb}{lo hi:Option Expr}{st:Stmt}{sts body:List Stmt}{sc:Scope}{sel:Ry}{mg:K8}{base h:Heap}{q q0:Rat}{A:Nat->Nat->Int}{osl sl:Array (Option Value)}{fa:Addr}{v':Nat->Int}{U T':Nat->Rx}{XP:(K8)->Heap->Prop}{YP:World->Heap->Prop}
set_option genInjectivity true in
set_option genInjectivity true in
inductive D where
 |non|bl (b:Bool)|int (i:Int)|str (x:Str)|tup (xs:List D)|lst (xs:List D)|dic|pen|cls (n:Str)|exc (n:Str)|ty (n:String)|scr (xs:List D)|pl (k:Nat) (b:Addr)
abbrev RF:=List D
abbrev RG:=D->Prop
variable{ds xs ys:RF}{d y:D}{xss:List RF}{Q:RG}{Q' QL:RF->Prop}
structure Wd where
 G:Hp
 Pn:Addr->Prop
variable{W' W1 W2 W0:Wd}
def KT(K:QR)(a:Addr)(vs:RH):Prop:=
 ∃(o:Obj) (its:Array Value) (n:Nat),K.lookup a=some o/\o.cls=.type "tuple" /\o.data=.seq its n/\its.size<=sizeLine/\Vals vs its.toList
def ku(K:QR)(n:Str):Option Addr:=match W.nsIn K mainGlobals n with|some (some<|.ref a)=>some a|_=>none
def xtab:List (Str×Str×Str×Int):=[("NotStrong1", "NotStrong", "size",1),("NotStrong2", "NotStrong", "size",2),("NotStrong3", "NotStrong", "size",3),("NotStrong4", "NotStrong", "size",4),("NotStrong5", "NotStrong", "size",5),("NoText0", "NoText", "row",0),("NoText1", "NoText", "row",1),("NoText2", "NoText", "row",2),("NoText3", "NoText", "row",3),("NoText4", "NoText", "row",4),("NoText5", "NoText", "row",5),("NoText6", "NoText", "row",6),("NoText7", "NoText", "row",7),("NoText8", "NoText", "row",8),("NoText9", "NoText", "row",9),("NoText10", "NoText", "row",10),("NoText11", "NoText", "row",11),("NoText12", "NoText", "row",12),("NoText13", "NoText", "row",13),("NoText14", "NoText", "row",14),("NoText15", "NoText", "row",15)]
def o8(n:Str):Option (Str×Str×Int):=(xtab.find? λr=>r.1==n).map (·.2)
def uR(n:Str):Str:=match o8 n with|some r=>r.1|none=>n
def CO(C a:Addr)(dx:Option Addr):HO:=.ext λh=>∃oe,h.get? a=some oe/\oe.cls=.ref C/\W.notCls oe=true/\oe.dict=dx/\∃vs,oe.data=.fields vs
def XD(W:Wd)(n:Str)(dx:Option Addr):Prop:=∀c f k,o8 n=some (c,f,k)->∃d,dx=some d/\W.G d=some (.xd [(f,.int k)])
theorem XD.none{W:Wd}{n:Str}(h:o8 n=none):XD W n dx:=λc f k e=>by rw[h]at e;cases e
theorem XD.mono{W:Wd}{n:Str}(g:∀a o,W.G a=some o->W'.G a=some o)(h:XD W n dx):XD W' n dx:=λc f k e=>let⟨d,e1,e2⟩:=h c f k e;⟨d,e1,g _ _ e2⟩
theorem KQ{n:Str}(h:o8 n=none):uR n=n:=by unfold uR;rw[h]
def AtR(K:QR)(W:Wd)(a:Addr)(k:Nat)(b:Addr):Prop:=match k with|0=>a=b|1=>∃C dx,W.G a=some (.ins C dx [("standing",.ref b)])/\ku K "Desk" = some C|_=>∃C dx,W.G a=some (CO C a<|some dx)/\ku K "TooGreat" = some C/\W.G dx=some (.xd [("many",.int 7),("most",.int 5)])
theorem AtR.keep{W:Wd}{a:Addr}{b:Addr}(g:∀a o,W.G a=some o->(∀us,o≠.lst us)->W'.G a=some o)(h:AtR K W a k b):AtR K W' a k b:=by unfold AtR at h ⊢;split;exact h;obtain⟨C,dx,h1,h2⟩:=h;exact⟨C,dx,g _ _ h1<|λ_ z=>HO.noConfusion z,h2⟩;rename_i h0 h1;split at h;exact QS rfl h0;exact QS rfl h1;obtain⟨C,dx,q1,q2,q3⟩:=h;exact⟨C,dx,g _ _ q1 (λ_ z=>by unfold CO at z;cases z),q2,g _ _ q3 λ_ z=>by cases z⟩
def KL(K:QR)(a:Addr)(vs:RH):Prop:=
 ∃(o:Obj) (its:Array Value) (n:Nat),K.lookup a=some o/\o.cls=.type "list" /\o.dict=none/\o.data=.seq its n/\its.size<=sizeLine/\Vals vs its.toList
mutual
inductive Rep (K:QR) (W:Wd):V->D->Prop
 |non:Rep K W .non .non
 |bl (b:Bool):Rep K W (.bl b) (.bl b)
 |int (i:Int):Rep K W (.int i) (.int i)
 |str (x:Str):Rep K W (.str x) (.str x)
 |tup {a:Addr} {vs:RH} {ds:RF}:W.G a=some (.tup vs)->Reps K W vs ds->Rep K W (.ref a) (.tup ds)
 |ktup {a:Addr} {vs:RH} {ds:RF}:KT K a vs->Reps K W vs ds->Rep K W (.ref a) (.tup ds)
 |lst {a:Addr} {vs:RH} {ds:RF}:W.G a=some (.lst vs)->Reps K W vs ds->Rep K W (.ref a) (.lst ds)
 |scr {a:Addr} {vs:RH} {ds:RF}:((∃o,W.G a=some (.frz o<|.lst vs))\/KL K a vs)->Reps K W vs ds->Rep K W (.ref a) (.scr ds)
 |dic {a:Addr}:W.G a=some (.dK [])->Rep K W (.ref a) .dic
 |pen {a:Addr}:W.Pn a->Rep K W (.ref a) .pen
 |cls {a:Addr} {n:Str}:ku K n=some a->Rep K W (.ref a) (.cls n)
 |exc {a C:Addr} {n:Str} {dx:Option Addr}:W.G a=some (CO C a dx)->ku K (uR n)=some C->XD W n dx->Rep K W (.ref a) (.exc n)
 |ty (n:String):Rep K W (.ty n) (.ty n)
 |pl {a:Addr} {k:Nat} {b:Addr}:AtR K W a k b->Rep K W (.ref a) (.pl k b)
inductive Reps (K:QR) (W:Wd):RH->RF->Prop
 |nil:Reps K W [] []
 |cons {v:V} {d:D} {vs:RH} {ds:RF}:Rep K W v d->Reps K W vs ds->Reps K W (v::vs) (d::ds)
end
section
variable{W:Wd}
mutual
theorem Rep.mono(g:∀a o,W.G a=some o->W'.G a=some o)(p:∀a,W.Pn a->W'.Pn a):∀{v:V} {d:D},Rep K W v d->Rep K W' v d
 |_,_,.non=>.non|_,_,.bl b=>.bl b|_,_,.int i=>.int i|_,_,.str x=>.str x|_,_,.tup e r=>.tup (g _ _ e)<|Reps.mono g p r
 |_,_,.ktup e r=>.ktup e<|Reps.mono g p r
 |_,_,.lst e r=>.lst (g _ _ e)<|Reps.mono g p r
 |_,_,.scr e r=>.scr (e.elim (λ⟨o,z⟩=>.inl ⟨o,g _ _ z⟩) .inr)<|Reps.mono g p r
 |_,_,.dic e=>.dic<|g _ _ e
 |_,_,.pen e=>.pen<|p _ e
 |_,_,.cls e=>.cls e|_,_,.exc e h x=>.exc (g _ _ e) h<|x.mono g
 |_,_,.ty n=>.ty n|_,_,.pl h=>.pl<|h.keep λa o e _=>g a o e
theorem Reps.mono(g:∀a o,W.G a=some o->W'.G a=some o)(p:∀a,W.Pn a->W'.Pn a):∀{vs:RH} {ds:RF},Reps K W vs ds->Reps K W' vs ds
 |_,_,.nil=>.nil|_,_,.cons r t=>.cons (Rep.mono g p r)<|Reps.mono g p t
end
theorem Reps.length:∀{vs:RH} {ds:RF},Reps K W vs ds->vs.length=ds.length
 |_,_,.nil=>rfl|_,_,.cons _ t=>by simp[Reps.length t]
theorem Reps.get:∀{vs:RH} {ds:RF} {i:Nat} {d:D},Reps K W vs ds->ds[i]? = some d->∃v,vs[i]? = some v/\Rep K W v d
 |_,_,_,_,.nil,e=>by simp at e|_,_,0,_,.cons r _,e=>by simp at e;subst e;exact⟨_,rfl,r⟩|_,_,i+1,d,.cons _ t,e=>by obtain⟨u,h1,h2⟩:=Reps.get (i:=i) (d:=d) t (by simpa using e);exact⟨u,by simpa using h1,h2⟩
theorem Reps.append:∀{vs us:RH} {ds es:RF},Reps K W vs ds->Reps K W us es->Reps K W (vs++us) (ds++es)
 |_,_,_,_,.nil,s=>s|_,_,_,_,.cons r t,s=>.cons r<|Reps.append t s
theorem Reps.take:∀{vs:RH} {ds:RF} (n:Nat),Reps K W vs ds->Reps K W (vs.take n) (ds.take n)
 |_,_,0,_=>.nil|_,_,_+1,.nil=>.nil|_,_,n+1,.cons r t=>.cons r<|Reps.take n t
theorem Reps.drop:∀{vs:RH} {ds:RF} (n:Nat),Reps K W vs ds->Reps K W (vs.drop n) (ds.drop n)
 |_,_,0,r=>r|_,_,_+1,.nil=>.nil|_,_,n+1,.cons _ t=>Reps.drop n t
theorem Reps.set{v:V}{d:D}(r:Rep K W v d):∀{vs:RH} {ds:RF} (i:Nat),Reps K W vs ds->Reps K W (vs.set i v) (ds.set i d)
 |_,_,_,.nil=>.nil|_,_,0,.cons _ t=>.cons r t|_,_,i+1,.cons q t=>.cons q<|Reps.set r i t
theorem Reps.rev(r:Reps K W vs ds):Reps K W vs.reverse ds.reverse:=by
 induction vs generalizing ds with
 |nil=>cases r;exact .nil
 |cons v vs ih=>cases r with|cons r t=>rw[zj,zj];exact(ih t).append<|.cons r .nil
theorem Reps.one(r:Reps K W us [d]):∃v,us=[v]/\Rep K W v d:=by cases r with|cons r t=>cases t;exact⟨_,rfl,r⟩
theorem Reps.two{e:D}(r:Reps K W us [d,e]):∃v u,us=[v,u]/\Rep K W v d/\Rep K W u e:=by cases r with|cons r t=>cases t with|cons r' t=>cases t;exact⟨_,_,rfl,r,r'⟩
end
def Zr1(H:Hp)(a:Addr):Prop:=∃i j k:Int,H a=some (.lst [.int i,.int j,.int k])
structure WOk(W:Wd)(H:Hp):Prop where
 g:∀a o,W.G a=some o->H a=some o
 p:∀a,W.Pn a->Zr1 H a/\W.G a=none
structure Ext(W:Wd)(H:Hp)(W':Wd)(H':Hp):Prop where
 ok:WOk W' H'
 g:∀a o,W.G a=some o->W'.G a=some o
 p:∀a,W.Pn a->W'.Pn a
 gf:∀a,W.G a=none->W'.G a≠none->H a=none
 pf:∀a,¬W.Pn a->W'.Pn a->H a=none
 h:∀a o,H a=some o->¬W.Pn a->H' a=some o
section
variable{W:Wd}
theorem Ext.refl(ok:WOk W H):Ext W H W H:=⟨ok,λ_ _ e=>e,λ_ e=>e,λ_ e n=>QS e n,λ_ n e=>QS e n,λ_ _ e _=>e⟩
theorem Zr1.ne{a:Addr}(p:Zr1 H a):H a≠none:=by obtain⟨_,_,_,e⟩:=p;rw[e];simp
theorem Ext.isN(x:Ext W H W1 H1){a:Addr}(h:H1 a=none):H a=none:=by
 cases q:H a with
 |none=>rfl
 |some o=>
  by_cases hp:W.Pn a;exact QS h<|(x.ok.p a<|x.p a hp).1.ne
  rw[x.h a o q hp]at h;cases h
theorem Ext.trans(x:Ext W H W1 H1)(y:Ext W1 H1 W2 H2):Ext W H W2 H2 where
 ok:=y.ok
 g:=λa o e=>y.g a o<|x.g a o e
 p:=λa e=>y.p a<|x.p a e
 gf:=λa e n=>by
  cases q:W1.G a with
  |none=>exact x.isN<|y.gf a q n
  |some o=>exact x.gf a e (by rw[q];simp)
 pf:=λa e n=>by by_cases q:W1.Pn a;exact x.pf a e q;exact x.isN<|y.pf a q n
 h:=λa o e n=>y.h a o (x.h a o e n) λq=>by have:=x.pf a n q;rw[e]at this;cases this
theorem Ext.rep(x:Ext W H W1 H1){v:V}(r:Rep K W v d):Rep K W1 v d:=r.mono x.g x.p
theorem Ext.reps(x:Ext W H W1 H1){v:RH}{d:RF}(r:Reps K W v d):Reps K W1 v d:=r.mono x.g x.p
def Wd.put(W:Wd)(a:Addr)(o:HO):Wd:=⟨upd W.G a o,W.Pn⟩
theorem Ext.put{a:Addr}{o:HO}(ok:WOk W H)(h:H a=none):Ext W H (W.put a o) (upd H a o) where
 ok:=⟨λb u e=>by
   unfold Wd.put at e;dsimp only at e
   by_cases hb:b=a
   .subst hb;rw[aV]at e ⊢;exact e
   .rw[aK hb]at e ⊢;exact ok.g b u e,
  λb hb=>by
   have⟨p1,p2⟩:=ok.p b hb;have hne:b≠a:=λz=>p1.ne (by rw[z];exact h);refine⟨?_,by unfold Wd.put;dsimp only;rw[aK hne];exact p2⟩;obtain⟨i,j,k,e⟩:=p1;exact⟨i,j,k,by rw[aK hne];exact e⟩⟩
 g:=λb u e=>by
  have:b≠a:=λz=>by have:=ok.g b u e;rw[z,h]at this;cases this
  unfold Wd.put;dsimp only;rw[aK this];exact e
 p:=λb e=>e
 gf:=λb e n=>by by_cases hb:b=a;rw[hb];exact h;unfold Wd.put at n;dsimp only at n;rw[aK hb]at n;exact QS e n
 pf:=λb n e=>QS e n
 h:=λb u e _=>by
  have:b≠a:=λz=>by rw[z,h]at e;cases e
  rw[aK this];exact e
theorem Ext.new{a:Addr}(ok:WOk W H)(h:H a=none):Ext W H W (upd H a o) where
 ok:=⟨λb u e=>by
   have q:=ok.g b u e;have:b≠a:=λz=>by rw[z,h]at q;cases q
   rw[aK this];exact q,
  λb hb=>by
   have⟨p1,p2⟩:=ok.p b hb;have hne:b≠a:=λz=>p1.ne (by rw[z];exact h);obtain⟨i,j,k,e⟩:=p1;exact⟨⟨i,j,k,by rw[aK hne];exact e⟩,p2⟩⟩
 g:=λ_ _ e=>e
 p:=λ_ e=>e
 gf:=λ_ e n=>QS e n
 pf:=λ_ n e=>QS e n
 h:=λb u e _=>by
  have:b≠a:=λz=>by rw[z,h]at e;cases e
  rw[aK this];exact e
theorem WOk.fresh(ok:WOk W H){a:Addr}(h:H a=none):W.G a=none/\¬W.Pn a:=by
 refine⟨?_,λp=>(ok.p a p).1.ne h⟩;cases q:W.G a with
 |none=>rfl|some o=>have:=ok.g a o q;rw[h]at this;cases this
theorem Ext.pub{a:Addr}(x:Ext W H W1 H1)(h:H a=none)(e:H1 a=some o)(n:¬W1.Pn a)(ng:W1.G a=none):Ext W H (W1.put a o) H1 where
 ok:=⟨λb u q=>by
   unfold Wd.put at q
   by_cases hb:b=a
   .subst hb;dsimp only at q;rw[aV]at q;cases q;exact e
   .dsimp only at q;rw[aK hb]at q;exact x.ok.g b u q,
  λb hb=>by
   have⟨p1,p2⟩:=x.ok.p b hb;have hne:b≠a:=λz=>n (by rw[<-z];exact hb);exact⟨p1,by unfold Wd.put;dsimp only;rw[aK hne];exact p2⟩⟩
 g:=λb u q=>by
  have q1:=x.g b u q;have:b≠a:=λz=>by rw[z,ng]at q1;cases q1
  unfold Wd.put;dsimp only;rw[aK this];exact q1
 p:=x.p
 gf:=λb q m=>by by_cases hb:b=a;rw[hb];exact h;unfold Wd.put at m;dsimp only at m;rw[aK hb]at m;exact x.gf b q m
 pf:=x.pf
 h:=x.h
theorem qz{a:Addr}(ng:W.G a=none):∀b u,W.G b=some u->(W.put a o).G b=some u:=λb u q=>by
 have:b≠a:=λz=>by rw[z,ng]at q;cases q
 unfold Wd.put;dsimp only;rw[aK this];exact q
theorem Ext.chg{a:Addr}{o':HO}(x:Ext W H W1 H1)(h:H a=none)(e:H1 a=some o)(n:¬W1.Pn a)(ng:W1.G a=none):Ext W H W1 (upd H1 a o') where
 ok:=⟨λb u q=>by
   have:b≠a:=λz=>by rw[z,ng]at q;cases q
   rw[aK this];exact x.ok.g b u q,
  λb hb=>by
   have⟨p1,p2⟩:=x.ok.p b hb;have hne:b≠a:=λz=>n (by rw[<-z];exact hb);obtain⟨i,j,k,e⟩:=p1;exact⟨⟨i,j,k,by rw[aK hne];exact e⟩,p2⟩⟩
 g:=x.g
 p:=x.p
 gf:=x.gf
 pf:=x.pf
 h:=λb u q m=>by
  have:b≠a:=λz=>by rw[z,h]at q;cases q
  rw[aK this];exact x.h b u q m
end
inductive SV where
 |un|d (x:D)|ow (xs:RF)|oo (xss:List RF)
abbrev cS:=List SV
variable{ρ ρ':cS}
def Own1(K:QR)(H0:Hp)(W:Wd)(H:Hp)(b:Addr)(xs:RF):Prop:=∃vs,H b=some (HO.lst vs)/\W.G b=none/\¬W.Pn b/\H0 b=none/\Reps K W vs xs
structure OwnT(K:QR)(H0:Hp)(W:Wd)(H:Hp)(a:Addr)(bs:List Addr)(xss:List RF):Prop where
 a1:H a=some (HO.lst<|bs.map V.ref)
 a2:W.G a=none
 a3:¬W.Pn a
 a4:H0 a=none
 nd:(a::bs).Nodup
 len:bs.length=xss.length
 row:∀(i:Nat) b,bs[i]? = some b->∃xs,xss[i]? = some xs/\Own1 K H0 W H b xs
structure OOs(K:QR)(H0:Hp)(W:Wd)(σ:L2.St)(H:Hp)(ρ:cS):Prop where
 t:∀(i:Nat) xss,ρ[i]? = some (SV.oo xss)->∃a bs,σ[i]? = some (some<|V.ref a)/\OwnT K H0 W H a bs xss/\∀(j:Nat) ys c,ρ[j]? = some (SV.ow ys)->σ[j]? = some (some<|V.ref c)->c∉a::bs
 u:∀(i j:Nat) xss yss,ρ[i]? = some (SV.oo xss)->ρ[j]? = some (SV.oo yss)->i=j
structure SOk(K:QR)(W0:Wd)(H0:Hp)(W:Wd)(σ:L2.St)(H:Hp)(ρ:cS):Prop where
 ext:Ext W0 H0 W H
 len:ρ.length=σ.length
 d:∀(i:Nat) x,ρ[i]? = some (SV.d x)->∃v:V,σ[i]? = some (some v)/\Rep K W v x
 o:∀(i:Nat) xs,ρ[i]? = some (SV.ow xs)->∃a vs,σ[i]? = some (some<|V.ref a)/\H a=some (HO.lst vs)/\W.G a=none/\¬W.Pn a/\H0 a=none/\Reps K W vs xs
 ne:∀(i j:Nat) xs ys a,i≠j->ρ[i]? = some (SV.ow xs)->ρ[j]? = some (SV.ow ys)->σ[i]? = some (some<|V.ref a)->σ[j]?≠some (some<|V.ref a)
 oo:OOs K H0 W σ H ρ
section
variable{W:Wd}
theorem SOk.ok(s:SOk K W0 H0 W σ H ρ):WOk W H:=s.ext.ok
theorem Own1.step{b:Addr}(o:Own1 K H0 W H b xs)(x:Ext W H W1 H1):Own1 K H0 W1 H1 b xs:=by
 obtain⟨vs,e2,e3,e4,e5,r⟩:=o;refine⟨vs,x.h b _ e2 e4,?_,λq=>?_,e5,x.reps r⟩;cases q:W1.G b with
 |none=>rfl|some o=>have:=x.gf b e3 (by rw[q];simp);rw[e2]at this;cases this
 have:=x.pf b e4 q;rw[e2]at this;cases this
theorem OwnT.step{a:Addr}{bs:List Addr}{xss:List RF}(o:OwnT K H0 W H a bs xss)(x:Ext W H W1 H1):OwnT K H0 W1 H1 a bs xss:=by
 refine⟨x.h a _ o.a1 o.a3,?_,λq=>?_,o.a4,o.nd,o.len,λi b e=>let⟨xs,e1,q⟩:=o.row i b e;⟨xs,e1,q.step x⟩⟩;cases q:W1.G a with
 |none=>rfl|some u=>have:=x.gf a o.a2 (by rw[q];simp);rw[o.a1]at this;cases this
 have:=x.pf a o.a3 q;rw[o.a1]at this;cases this
theorem OwnT.here{a c:Addr}{bs:List Addr}(o:OwnT K H0 W H a bs xss)(h:H c=none):c∉a::bs:=λq=>by
 rcases Yan.mp q with rfl|q
 rw[o.a1]at h;cases h;obtain⟨i,hi,rfl⟩:=Ybv.mp q;obtain⟨xs,_,vs,e,_⟩:=o.row i _<|bP hi;rw[e]at h;cases h
theorem OwnT.noPen{a c:Addr}{bs:List Addr}(o:OwnT K H0 W H a bs xss)(h:W.Pn c):c∉a::bs:=λq=>by
 rcases Yan.mp q with rfl|q
 exact o.a3 h;obtain⟨i,hi,rfl⟩:=Ybv.mp q;obtain⟨xs,_,vs,_,_,e,_⟩:=o.row i _<|bP hi;exact e h
theorem OwnT.upd{a c:Addr}{o':HO}{bs:List Addr}{xss:List RF}(o:OwnT K H0 W H a bs xss)(h:c∉a::bs):OwnT K H0 W (upd H c o') a bs xss:=by have ha:a≠c:=λz=>h (by rw[z];simp);refine⟨by rw[aK ha];exact o.a1,o.a2,o.a3,o.a4,o.nd,o.len,λi b e=>?_⟩;obtain⟨xs,e1,vs,q⟩:=o.row i b e;have hb:b≠c:=λz=>h (by rw[<-z];exact jv _<|iK e);exact⟨xs,e1,vs,by rw[aK hb];exact q⟩
theorem OwnT.put{a c:Addr}{o':HO}{bs:List Addr}{xss:List RF}(o:OwnT K H0 W H a bs xss)(h:c∉a::bs)(hc:W.G c=none):OwnT K H0 (W.put c o') H a bs xss:=by have ha:a≠c:=λz=>h (by rw[z];simp);refine⟨o.a1,by unfold Wd.put;dsimp only;rw[aK ha];exact o.a2,o.a3,o.a4,o.nd,o.len,λi b e=>?_⟩;obtain⟨xs,e1,vs,q1,q2,q3,q4,q5⟩:=o.row i b e;have hb:b≠c:=λz=>h (by rw[<-z];exact jv _<|iK e);exact⟨xs,e1,vs,q1,by unfold Wd.put;dsimp only;rw[aK hb];exact q2,q3,q4,q5.mono (qz hc) λ_ z=>z⟩
theorem OOs.none(h:∀(i:Nat) xss,ρ[i]?≠some (SV.oo xss)):OOs K H0 W σ H ρ:=⟨λi xss e=>QS e<|h i xss,λi j xss yss e=>QS e<|h i xss⟩
theorem OOs.step(o:OOs K H0 W σ H ρ)(x:Ext W H W1 H1):OOs K H0 W1 σ H1 ρ:=⟨λi xss e=>let⟨a,bs,e1,q,n⟩:=o.t i xss e;⟨a,bs,e1,q.step x,n⟩,o.u⟩
theorem OOs.set{σ':L2.St}(o:OOs K H0 W σ H ρ){i:Nat}{y:SV}(hy:∀xss,y≠.oo xss)(hσ:∀j,i≠j->σ'[j]? = σ[j]?)(hw:∀ys c,y=.ow ys->σ'[i]? = some (some<|V.ref c)->∀(j:Nat) xss a bs,i≠j->ρ[j]? = some (SV.oo xss)->σ[j]? = some (some<|V.ref a)->OwnT K H0 W H a bs xss->(∀(j:Nat) ys c,ρ[j]? = some (SV.ow ys)->σ[j]? = some (some<|V.ref c)->c∉a::bs)->c∉a::bs):OOs K H0 W σ' H (ρ.set i y):=by
 have nt:∀{j:Nat} {xss:List RF},(ρ.set i y)[j]? = some (SV.oo xss)->i≠j/\ρ[j]? = some (SV.oo xss):=λ{j xss} e=>by
  by_cases h:i=j;subst h;by_cases hi:i<ρ.length;rw[fY hi]at e;cases e;exact QS rfl<|hy xss
  rw[dX (by rw[fD];omega)]at e;cases e;rw[fc h]at e;exact⟨h,e⟩
 refine⟨λj xss e=>?_,λj k xss yss e1 e2=>o.u j k xss yss (nt e1).2 (nt e2).2⟩;obtain⟨h,e'⟩:=nt e;clear e;obtain⟨a,bs,e1,q,n⟩:=o.t j xss e';refine⟨a,bs,by rw[hσ j h];exact e1,q,λk ys c ek ec=>?_⟩;by_cases hk:i=k;subst hk;by_cases hi:i<ρ.length;rw[fY hi]at ek;cases ek;exact hw ys c rfl ec j xss a bs h e' e1 q n;rw[dX (by rw[fD];omega)]at ek;cases ek;rw[fc hk]at ek;rw[hσ k hk]at ec;exact n k ys c ek ec
theorem SOk.step(s:SOk K W0 H0 W σ H ρ)(x:Ext W H W1 H1):SOk K W0 H0 W1 σ H1 ρ where
 ext:=s.ext.trans x
 len:=s.len
 d:=λi y e=>let⟨v,e1,r⟩:=s.d i y e;⟨v,e1,x.rep r⟩
 o:=λi ys e=>by
  obtain⟨a,vs,e1,e2,e3,e4,e5,r⟩:=s.o i ys e;refine⟨a,vs,e1,x.h a _ e2 e4,?_,λq=>?_,e5,x.reps r⟩;cases q:W1.G a with
  |none=>rfl|some o=>have:=x.gf a e3 (by rw[q];simp);rw[e2]at this;cases this
  have:=x.pf a e4 q;rw[e2]at this;cases this
 ne:=s.ne
 oo:=s.oo.step x
end
abbrev Ex:=Str
abbrev RE:=Ex->Prop
def CP(K:QR)(W:Wd)(_:Hp)(cls:Value)(dx:Option Addr)(ex:Ex):Prop:=∃C,ku K (uR ex)=some C/\cls=.ref C/\XD W ex dx
def kv(K:QR)(W0:Wd)(H0:Hp)(E:RE)(EX:XK):Prop:=∀ex W' H' cls dx,E ex->Ext W0 H0 W' H'->CP K W' H' cls dx ex->EX cls dx H'
abbrev WE:=(RE)->cS->(RG)->Prop
variable{wa wb wc w w' we wv wo:WE}
abbrev WT:=(RE)->cS->(Bool->Prop)->Prop
variable{wt wf:WT}
abbrev WA:=(RE)->cS->(RF->Prop)->Prop
variable{wi:WA}
def RQ(K:QR)(W:Wd)(H:Hp)(Q:VK)(d:D):Prop:=∀v W' H',Ext W H W' H'->Rep K W' v d->Q v H'
structure PX(X:Cx)(EX:XK)(e:Expr)(w:WE):Prop where
 t:∃t,PE X e t/\∀W0 H0 W σ H ρ E Q,SOk X.K W0 H0 W σ H ρ->kv X.K W0 H0 E EX->w E ρ (RQ X.K W H Q)->t σ H Q
 mono:∀E ρ P P',(∀d,P d->P' d)->w E ρ P->w E ρ P'
structure kX(X:Cx)(EX:XK)(e:Expr)(w:WT):Prop where
 t:∃t,PT X e t/\∀W0 H0 W σ H ρ E Q,SOk X.K W0 H0 W σ H ρ->kv X.K W0 H0 E EX->w E ρ (λb=>∀W' H',Ext W H W' H'->Q b H')->t σ H Q
 mono:∀E ρ P P',(∀d,P d->P' d)->w E ρ P->w E ρ P'
structure kx(X:Cx)(EX:XK)(es:List Expr)(w:WA):Prop where
 t:∃t,PA X es t/\∀W0 H0 W σ H ρ E Q,SOk X.K W0 H0 W σ H ρ->kv X.K W0 H0 E EX->w E ρ (λds=>∀vs W' H',Ext W H W' H'->Reps X.K W' vs ds->Q vs H')->t σ H Q
 mono:∀E ρ P P',(∀d,P d->P' d)->w E ρ P->w E ρ P'
structure PXL(X:Cx)(EX:XK)(e:Expr)(w:WA):Prop where
 t:∃t,PE X e t/\∀W0 H0 W σ H ρ E Q,SOk X.K W0 H0 W σ H ρ->kv X.K W0 H0 E EX->
  w E ρ (λds=>∀a vs W' H',Ext W H W' H'->H' a=some (.lst vs)->W'.G a=none->¬W'.Pn a->H a=none->Reps X.K W' vs ds->Q (.ref a) H')->t σ H Q
 mono:∀E ρ P P',(∀d,P d->P' d)->w E ρ P->w E ρ P'
structure Nds where
 nx:cS->Prop
 rt:D->Prop
 bk:cS->Prop:=λ_=>False
 ct:cS->Prop:=λ_=>False
variable{N:Nds}
structure Wle(F W:Wd):Prop where
 g:∀a o,F.G a=some o->W.G a=some o
 p:∀a,F.Pn a->W.Pn a
theorem Wle.refl(F:Wd):Wle F F:=⟨λ_ _ e=>e,λ_ e=>e⟩
theorem Wle.trans{F W V:Wd}(a:Wle F W)(b:Wle W V):Wle F V:=⟨λx o e=>b.g x o<|a.g x o e,λx e=>b.p x<|a.p x e⟩
theorem Wle.ext{F W:Wd}(a:Wle F W)(x:Ext W H W1 H1):Wle F W1:=a.trans ⟨x.g,x.p⟩
structure FE(K:QR)(W0:Wd)(H0:Hp)(F:Wd)(Dn:l6)(N:Nds):Prop where
 nx:∀W σ H ρ,SOk K W0 H0 W σ H ρ->Wle F W->N.nx ρ->Dn.nx σ H
 rt:∀d v W H,Ext W0 H0 W H->Rep K W v d->N.rt d->Dn.rt v H
 bk:∀W σ H ρ,SOk K W0 H0 W σ H ρ->Wle F W->N.bk ρ->Dn.bk σ H
 ct:∀W σ H ρ,SOk K W0 H0 W σ H ρ->Wle F W->N.ct ρ->Dn.ct σ H
structure Nds.le(N N':Nds):Prop where
 nx:∀ρ,N.nx ρ->N'.nx ρ
 rt:∀d,N.rt d->N'.rt d
 bk:∀ρ,N.bk ρ->N'.bk ρ
 ct:∀ρ,N.ct ρ->N'.ct ρ
abbrev WS:=(RE)->Nds->cS->Prop
variable{z' zb:WS}
structure PZ(X:Cx)(EX:XK)(st:Stmt)(z:WS):Prop where
 t:∃t,PS X st t/\∀W0 H0 F W σ H ρ E Dn N,SOk X.K W0 H0 W σ H ρ->Wle F W->kv X.K W0 H0 E EX->FE X.K W0 H0 F Dn N->z E N ρ->t Dn σ H
 mono:∀E ρ N N',N.le N'->z E N ρ->z E N' ρ
structure lJ(X:Cx)(EX:XK)(st:List Stmt)(z:WS):Prop where
 t:∃t,pJ X st t/\∀W0 H0 F W σ H ρ E Dn N,SOk X.K W0 H0 W σ H ρ->Wle F W->kv X.K W0 H0 E EX->FE X.K W0 H0 F Dn N->z E N ρ->t Dn σ H
 mono:∀E ρ N N',N.le N'->z E N ρ->z E N' ρ
section
variable{W:Wd}{Q:VK}
theorem RQ.ext(h:RQ K W H Q d)(x:Ext W H W1 H1):RQ K W1 H1 Q d:=λv W' H' y r=>h v W' H' (x.trans y) r
theorem RQ.now(h:RQ K W H Q d)(ok:WOk W H){v:V}(r:Rep K W v d):Q v H:=h v W H (.refl ok) r
theorem RQ.tup{vs:RH}{ds:RF}(h:RQ K W H Q (.tup ds))(ok:WOk W H)(r:Reps K W vs ds){p:Addr}(hp:H p=none):Q (.ref p) (upd H p<|.tup vs):=by have x:=Ext.put (o:=.tup vs) ok hp;exact h _ _ _ x<|.tup (by unfold Wd.put;dsimp only;rw[aV]) (x.reps r)
theorem RQ.lst{vs:RH}{ds:RF}(h:RQ K W H Q (.lst ds))(ok:WOk W H)(r:Reps K W vs ds){p:Addr}(hp:H p=none):Q (.ref p) (upd H p<|.lst vs):=by have x:=Ext.put (o:=.lst vs) ok hp;exact h _ _ _ x<|.lst (by unfold Wd.put;dsimp only;rw[aV]) (x.reps r)
theorem Rep.sqt{a:V}(r:Rep K W a (.tup ds))(ok:WOk W H):∃p vs,a=.ref p/\SqT K H p vs/\Reps K W vs ds:=by
 cases r with
 |tup e r=>exact⟨_,_,rfl,.inl<|.inl<|ok.g _ _ e,r⟩|ktup e r=>exact⟨_,_,rfl,.inr e,r⟩
theorem Rep.sql{a:V}(r:Rep K W a (.lst ds))(ok:WOk W H):∃p vs,a=.ref p/\SqL K H p vs/\Reps K W vs ds:=by
 cases r with
 |lst e r=>exact⟨_,_,rfl,.inl<|.inl<|ok.g _ _ e,r⟩
theorem Rep.sqs{a:V}(r:Rep K W a (.scr ds))(ok:WOk W H):∃p vs,a=.ref p/\SqL K H p vs/\Reps K W vs ds:=by
 cases r with
 |scr e r=>exact⟨_,_,rfl,e.elim (λ⟨o,e⟩=>.inl<|.inr ⟨o,ok.g _ _ e⟩) .inr,r⟩
end
section
variable{pos:Pos}
def wN(i:Nat):WE:=λ_ ρ Q=>match ρ[i]? with|some (.d x)=>Q x|_=>False
theorem aD(i:Nat)(hN:{X.N[i]? = some x})(hv:autoParam (qd X.env.scope x) RN._auto_1)(hd:(RA x:))
  (hcd:((x==("__classdict__" : Str))=false:)):PX X EX (.Name x pos) (wN i):=by
 refine⟨⟨_,hU hN hv hd hcd,λW0 H0 W σ H ρ E Q s _ h=>?_⟩,λE ρ P P' hp h=>?_⟩
 .unfold wN at h
  split at h
  .rename_i x e
   obtain⟨v,e1,r⟩:=s.d i x e;exact⟨v,e1,h.now s.ok r⟩
  .exact h.elim
 .unfold wN at h ⊢
  split at h
  .exact hp _ h
  .exact h.elim
def wC(d:D):WE:=λ_ _ Q=>Q d
theorem wC.mono:∀(E:RE) ρ P P',(∀d,P d->P' d)->wC d E ρ P->wC d E ρ P':=λ_ _ _ _ hp h=>hp _ h
theorem aL{i j}:PX X EX (.Constant (.int i) j pos) (wC<|.int i):=⟨⟨_,kL,λ_ _ _ _ _ _ _ _ s _ h=>RQ.now h s.ok<|.int i⟩,wC.mono⟩
theorem hZ{b j}:PX X EX (.Constant (.bool b) j pos) (wC<|.bl b):=⟨⟨_,vC,λ_ _ _ _ _ _ _ _ s _ h=>RQ.now h s.ok<|.bl b⟩,wC.mono⟩
theorem tN{j}:PX X EX (.Constant .none j pos) (wC .non):=⟨⟨_,sE,λ_ _ _ _ _ _ _ _ s _ h=>RQ.now h s.ok .non⟩,wC.mono⟩
theorem uS{x j}:PX X EX (.Constant (.str x) j pos) (wC<|.str x):=⟨⟨_,sF,λ_ _ _ _ _ _ _ _ s _ h=>RQ.now h s.ok<|.str x⟩,wC.mono⟩
theorem FF{v:V}{u:Value}(hm:X.mg x=some u)(r:RelV v u)(rd:∀W,Rep X.K W v d)(hg:{Gl X x})(hd:(RA x:)):PX X EX (.Name x pos) (wC d):=
 ⟨⟨_,qe hg hm r hd,λ_ _ _ _ _ _ _ _ s _ h=>RQ.now h s.ok<|rd _⟩,wC.mono⟩
theorem KR{v:V}{u:Value}(hm:X.mg x=none)(hv:bootBuiltins x=some u)(r:RelV v u)(rd:∀W,Rep X.K W v d)(hg:{Gl X x})(hn:(x≠ "__name__":))(hd:(RA x:)):PX X EX (.Name x pos) (wC d):=
 ⟨⟨_,qf hg hm hv r hn hd,λ_ _ _ _ _ _ _ _ s _ h=>RQ.now h s.ok<|rd _⟩,wC.mono⟩
end
abbrev G2:=D->D->(RG)->Prop
structure gS(X:Cx)(f:Value->Value->Sem Value)(g:G2):Prop where
 t:∃r,OpR X f r/\∀W H x y dx dy Q,WOk W H->Rep X.K W x dx->Rep X.K W y dy->g dx dy (RQ X.K W H Q)->r x y H Q
 mono:∀x y P P',(∀d,P d->P' d)->g x y P->g x y P'
section
variable{pos:Pos}{a b:Expr}
def w2(g:G2)(wa wb:WE):WE:=λE ρ Q=>wa E ρ λx=>wb E ρ λy=>g x y Q
theorem w2.mono{g:G2}(ha:PX X EX a wa)(hb:PX X EX b wb)(hg:∀x y P P',(∀d,P d->P' d)->g x y P->g x y P'):∀E ρ P P',(∀d,P d->P' d)->w2 g wa wb E ρ P->w2 g wa wb E ρ P':=
 λE ρ P P' hp h=>ha.mono E ρ _ _ (λx hx=>hb.mono E ρ _ _ (λy hy=>hg x y _ _ hp hy) hx) h
theorem ms{ta tb:TE}{R:V->V->Hp->Prop}{G:D->RG}{W:Wd}{E:RE}(hma:∀E ρ P P',(∀d,P d->P' d)->wa E ρ P->wa E ρ P')(hmb:∀E ρ P P',(∀d,P d->P' d)->wb E ρ P->wb E ρ P')
  (ka:∀W0 H0 W σ H ρ E Q,SOk X.K W0 H0 W σ H ρ->kv X.K W0 H0 E EX->wa E ρ (RQ X.K W H Q)->ta σ H Q) (kb:∀W0 H0 W σ H ρ E Q,SOk X.K W0 H0 W σ H ρ->kv X.K W0 H0 E EX->wb E ρ (RQ X.K W H Q)->tb σ H Q)
  (s:SOk X.K W0 H0 W σ H ρ) (eo:kv X.K W0 H0 E EX) (h:wa E ρ λx=>wb E ρ λy=>G x y)
  (k:∀W2 H2 x y dx dy,Ext W H W2 H2->Rep X.K W2 x dx->Rep X.K W2 y dy->G dx dy->R x y H2):ta σ H λx H1=>tb σ H1 λy H2=>R x y H2:=
 ka W0 H0 W σ H ρ E _ s eo (hma E ρ _ _ (λdx hx v W1 H1 x1 r1=>kb W0 H0 W1 σ H1 ρ E _ (s.step x1) eo<|hmb E ρ _ _ (λdy hy u W2 H2 x2 r2=>k W2 H2 v u dx dy (x1.trans x2) (x2.rep r1) r2 hy) hx) h)
theorem bB{op:Operator}{g:G2}(ho:gS X (binaryOp op) g)(ha:PX X EX a wa)(hb:PX X EX b wb):PX X EX (.BinOp a op b pos) (w2 g wa wb):=by obtain⟨ta,pa,ka⟩:=ha.t;obtain⟨tb,pb,kb⟩:=hb.t;obtain⟨r,pr,kr⟩:=ho.t;refine⟨⟨_,re pr pa pb,λW0 H0 W σ H ρ E Q s eo h=>?_⟩,w2.mono ha hb ho.mono⟩;exact ms ha.mono hb.mono ka kb s eo h λW2 H2 x y dx dy x2 rx ry hg=>kr W2 H2 x y dx dy Q x2.ok rx ry<|ho.mono _ _ _ _ (λd hd=>RQ.ext hd x2) hg
theorem iR{g:G2}(ho:gS X (compareOp op) g)(ha:PX X EX a wa)(hb:PX X EX b wb)(hm:behindInMarks op b=false:=by first|exact oR _|with_unfolding_all rfl):PX X EX (.Compare a [op] [b] pos) (w2 g wa wb):=by obtain⟨ta,pa,ka⟩:=ha.t;obtain⟨tb,pb,kb⟩:=hb.t;obtain⟨r,pr,kr⟩:=ho.t;refine⟨⟨_,qp pr pa pb hm,λW0 H0 W σ H ρ E Q s eo h=>?_⟩,w2.mono ha hb ho.mono⟩;exact ms ha.mono hb.mono ka kb s eo h λW2 H2 x y dx dy x2 rx ry hg=>kr W2 H2 x y dx dy Q x2.ok rx ry<|ho.mono _ _ _ _ (λd hd=>RQ.ext hd x2) hg
def isB(Q:Bool->Prop):D->Prop
 |.bl b=>Q b|_=>False
theorem isB.mono{Q Q':Bool->Prop}(h:∀b,Q b->Q' b):∀d,isB Q d->isB Q' d
 |.bl b,z=>h b z|.non,z=>z|.int _,z=>z|.str _,z=>z|.tup _,z=>z|.lst _,z=>z|.dic,z=>z|.pen,z=>z|.cls _,z=>z|.exc _,z=>z|.ty _,z=>z|.scr _,z=>z|.pl _ _,z=>z
def wT(w:WE):WT:=λE ρ Q=>w E ρ<|isB Q
theorem rq{Q:Bool->Prop}(h:isB Q d):∃b,d=.bl b/\Q b:=by
 cases d with
 |bl b=>exact⟨b,rfl,h⟩|_=>exact h.elim
theorem wT.mono{w:WE}(h:∀E ρ P P',(∀d,P d->P' d)->w E ρ P->w E ρ P'):∀E ρ P P',(∀d,P d->P' d)->wT w E ρ P->wT w E ρ P':=λE ρ _ _ hp z=>h E ρ _ _ (isB.mono hp) z
theorem du{g:G2}(ho:gS X (compareOp op) g)(ha:PX X EX a wa)(hb:PX X EX b wb)(hm:behindInMarks op b=false:=by first|exact oR _|with_unfolding_all rfl):kX X EX (.Compare a [op] [b] pos) (wT<|w2 g wa wb):=by obtain⟨ta,pa,ka⟩:=ha.t;obtain⟨tb,pb,kb⟩:=hb.t;obtain⟨r,pr,kr⟩:=ho.t;refine⟨⟨_,qq pr pa pb hm,λW0 H0 W σ H ρ E Q s eo h=>?_⟩,wT.mono<|w2.mono ha hb ho.mono⟩;refine ms ha.mono hb.mono ka kb s eo h λW2 H2 x y dx dy x2 rx ry hg=>kr W2 H2 x y dx dy _ x2.ok rx ry<|ho.mono _ _ _ _ (λd hd v W' H' x' r'=>?_) hg;obtain⟨b,rfl,q⟩:=rq hd;cases r';exact⟨b,rfl,q W' H'<|x2.trans x'⟩
theorem gz(ha:PX X EX a wa)(he:autoParam (∀whole,isTrue a X.env whole=(do let v <-whole;standAt a.pos;holding [v] (truthy v))) RL._auto_1):kX X EX a (wT wa):=by obtain⟨ta,pa,ka⟩:=ha.t;refine⟨⟨_,oW pa he,λW0 H0 W σ H ρ E Q s eo h=>?_⟩,wT.mono ha.mono⟩;refine ka W0 H0 W σ H ρ E _ s eo<|ha.mono _ _ _ _ (λd hd v W' H' x' r'=>?_) h;obtain⟨b,rfl,q⟩:=rq hd;cases r';exact⟨b,rfl,q W' H' x'⟩
def bW(w:WT):WT:=λE ρ Q=>w E ρ λb=>Q (!b)
theorem gA{w:WT}(ha:kX X EX a w):kX X EX (.UnaryOp .Not a pos) (bW w):=by obtain⟨ta,pa,ka⟩:=ha.t;refine⟨⟨_,sJ pa,λW0 H0 W σ H ρ E Q s eo h=>?_⟩,λE ρ P P' hp h=>ha.mono _ _ _ _ (λb hb=>hp _ hb) h⟩;exact ka W0 H0 W σ H ρ E _ s eo h
structure PXW(X:Cx)(EX:XK)(e:Expr)(w:WT):Prop where
 t:∃t,PW X e t/\∀W0 H0 W σ H ρ E Q,SOk X.K W0 H0 W σ H ρ->kv X.K W0 H0 E EX->w E ρ (λb=>∀W' H',Ext W H W' H'->Q b H')->t σ H Q
 mono:∀E ρ P P',(∀d,P d->P' d)->w E ρ P->w E ρ P'
theorem PXW.pxt{w:WT}(h:PXW X EX a w):kX X EX a w:=let⟨t,p,k⟩:=h.t;⟨⟨t,p.pt,k⟩,h.mono⟩
variable{rest:List Expr}
def fi(w w':WT):WT:=λE ρ Q=>w E ρ λb=>if b=true then w' E ρ Q else Q false
def fJ(w w':WT):WT:=λE ρ Q=>w E ρ λb=>if b=true then Q true else w' E ρ Q
theorem KS{w:WT}(ha:kX X EX a w):PXW X EX (.BoolOp .And [a] pos) w:=let⟨t,p,k⟩:=ha.t;⟨⟨t,qg p,k⟩,ha.mono⟩
theorem lK{w:WT}(ha:kX X EX a w):PXW X EX (.BoolOp .Or [a] pos) w:=let⟨t,p,k⟩:=ha.t;⟨⟨t,sG p,k⟩,ha.mono⟩
theorem KU{w w':WT}(ha:kX X EX a w)(hb:PXW X EX (.BoolOp .And (b::rest) pos) w'):PXW X EX (.BoolOp .And (a::b::rest) pos) (fi w w'):=by
 obtain⟨ta,pa,ka⟩:=ha.t;obtain⟨tb,pb,kb⟩:=hb.t;refine⟨⟨_,sH pa pb,λW0 H0 W σ H ρ E Q s eo h=>?_⟩,λE ρ P P' hp h=>ha.mono _ _ _ _ (λb hb'=>?_) h⟩;refine ka W0 H0 W σ H ρ E _ s eo (ha.mono _ _ _ _ (λb hb' W1 H1 x1=>?_) h);cases b with
 |true=>rw[ks rfl]at hb' ⊢;exact kb W0 H0 W1 σ H1 ρ E _ (s.step x1) eo<|hb.mono _ _ _ _ (λb hq W' H' x'=>hq W' H'<|x1.trans x') hb'
 |false=>rw[jx<|wp]at hb' ⊢;exact hb' W1 H1 x1
 cases b with
 |true=>rw[ks rfl]at hb' ⊢;exact hb.mono _ _ _ _ hp hb'|false=>rw[jx<|wp]at hb' ⊢;exact hp _ hb'
theorem kY{w w':WT}(ha:kX X EX a w)(hb:PXW X EX (.BoolOp .Or (b::rest) pos) w'):PXW X EX (.BoolOp .Or (a::b::rest) pos) (fJ w w'):=by
 obtain⟨ta,pa,ka⟩:=ha.t;obtain⟨tb,pb,kb⟩:=hb.t;refine⟨⟨_,vD pa pb,λW0 H0 W σ H ρ E Q s eo h=>?_⟩,λE ρ P P' hp h=>ha.mono _ _ _ _ (λb hb'=>?_) h⟩;refine ka W0 H0 W σ H ρ E _ s eo (ha.mono _ _ _ _ (λb hb' W1 H1 x1=>?_) h);cases b with
 |true=>rw[ks rfl]at hb' ⊢;exact hb' W1 H1 x1|false=>rw[jx<|wp]at hb' ⊢;exact kb W0 H0 W1 σ H1 ρ E _ (s.step x1) eo<|hb.mono _ _ _ _ (λb hq W' H' x'=>hq W' H'<|x1.trans x') hb'
 cases b with
 |true=>rw[ks rfl]at hb' ⊢;exact hp _ hb'|false=>rw[jx<|wp]at hb' ⊢;exact hb.mono _ _ _ _ hp hb'
end
section
variable{pos:Pos}{a b:Expr}{rest:List Expr}
def gB(wa wb:WE):WE:=λE ρ Q=>wa E ρ (isB λb=>if b=true then wb E ρ Q else Q (.bl false))
def fj(wa wb:WE):WE:=λE ρ Q=>wa E ρ (isB λb=>if b=true then Q (.bl true) else wb E ρ Q)
def ky(wa:WE):WE:=λE ρ Q=>wa E ρ<|isB λb=>Q (.bl (!b))
theorem pO{op}(h:PX X EX a wa):PX X EX (.BoolOp op [a] pos) wa:=let⟨t,q,k⟩:=h.t;⟨⟨t,sK q,k⟩,h.mono⟩
theorem pP(ha:PX X EX a wa)(hb:PX X EX (.BoolOp .And (b::rest) pos) wb):PX X EX (.BoolOp .And (a::b::rest) pos) (gB wa wb):=by
 obtain⟨ta,pa,ka⟩:=ha.t;obtain⟨tb,pb,kb⟩:=hb.t;refine⟨⟨_,sL pa pb,λW0 H0 W σ H ρ E Q s eo h=>?_⟩,λE ρ P P' hp h=>ha.mono _ _ _ _ (isB.mono λb hb'=>?_) h⟩;refine ka W0 H0 W σ H ρ E _ s eo (ha.mono _ _ _ _ (λd hd v W1 H1 x1 r1=>?_) h);obtain⟨b,rfl,q⟩:=rq hd;cases r1;refine⟨b,rfl,?_⟩;cases b with
 |true=>rw[ks rfl]at q ⊢;exact kb W0 H0 W1 σ H1 ρ E _ (s.step x1) eo<|hb.mono _ _ _ _ (λd hd=>RQ.ext hd x1) q
 |false=>rw[jx<|wp]at q ⊢;exact q _ W1 H1 x1<|.bl false
 cases b with
 |true=>rw[ks rfl]at hb' ⊢;exact hb.mono _ _ _ _ hp hb'|false=>rw[jx<|wp]at hb' ⊢;exact hp _ hb'
theorem wE(ha:PX X EX a wa)(hb:PX X EX (.BoolOp .Or (b::rest) pos) wb):PX X EX (.BoolOp .Or (a::b::rest) pos) (fj wa wb):=by
 obtain⟨ta,pa,ka⟩:=ha.t;obtain⟨tb,pb,kb⟩:=hb.t;refine⟨⟨_,vG pa pb,λW0 H0 W σ H ρ E Q s eo h=>?_⟩,λE ρ P P' hp h=>ha.mono _ _ _ _ (isB.mono λb hb'=>?_) h⟩;refine ka W0 H0 W σ H ρ E _ s eo (ha.mono _ _ _ _ (λd hd v W1 H1 x1 r1=>?_) h);obtain⟨b,rfl,q⟩:=rq hd;cases r1;refine⟨b,rfl,?_⟩;cases b with
 |true=>rw[ks rfl]at q ⊢;exact q _ W1 H1 x1<|.bl true
 |false=>rw[jx<|wp]at q ⊢;exact kb W0 H0 W1 σ H1 ρ E _ (s.step x1) eo<|hb.mono _ _ _ _ (λd hd=>RQ.ext hd x1) q
 cases b with
 |true=>rw[ks rfl]at hb' ⊢;exact hp _ hb'|false=>rw[jx<|wp]at hb' ⊢;exact hb.mono _ _ _ _ hp hb'
theorem KW(ha:PX X EX a wa):PX X EX (.UnaryOp .Not a pos) (ky wa):=by obtain⟨ta,pa,ka⟩:=ha.t;refine⟨⟨_,sM pa,λW0 H0 W σ H ρ E Q s eo h=>?_⟩,λE ρ P P' hp h=>ha.mono _ _ _ _ (isB.mono λb hb'=>hp _ hb') h⟩;refine ka W0 H0 W σ H ρ E _ s eo<|ha.mono _ _ _ _ (λd hd v W1 H1 x1 r1=>?_) h;obtain⟨b,rfl,q⟩:=rq hd;cases r1;exact⟨b,rfl,q _ W1 H1 x1<|.bl _⟩
def kz(wt:WT)(wa wb:WE):WE:=λE ρ Q=>wt E ρ λb=>if b=true then wa E ρ Q else wb E ρ Q
theorem wG(hc:kX X EX c wt)(ha:PX X EX a wa)(hb:PX X EX b wb):PX X EX (.IfExp c a b pos) (kz wt wa wb):=by
 obtain⟨ta,pa,ka⟩:=ha.t;obtain⟨tb,pb,kb⟩:=hb.t;obtain⟨tc,pc,kc⟩:=hc.t;refine⟨⟨_,oG pc pa pb,λW0 H0 W σ H ρ E Q s eo h=>?_⟩,λE ρ P P' hp h=>hc.mono _ _ _ _ (λb hb'=>?_) h⟩;refine kc W0 H0 W σ H ρ E _ s eo (hc.mono _ _ _ _ (λb q W1 H1 x1=>?_) h);cases b with
 |true=>rw[ks rfl]at q ⊢;exact ka W0 H0 W1 σ H1 ρ E _ (s.step x1) eo<|ha.mono _ _ _ _ (λd hd=>RQ.ext hd x1) q
 |false=>rw[jx<|wp]at q ⊢;exact kb W0 H0 W1 σ H1 ρ E _ (s.step x1) eo<|hb.mono _ _ _ _ (λd hd=>RQ.ext hd x1) q
 cases b with
 |true=>rw[ks rfl]at hb' ⊢;exact ha.mono _ _ _ _ hp hb'|false=>rw[jx<|wp]at hb' ⊢;exact hb.mono _ _ _ _ hp hb'
def ZbE(g g':G2)(wa wb wc:WE):WE:=λE ρ Q=>wa E ρ λx=>wb E ρ λy=>g x y (isB λk=>if k=true then wc E ρ λz=>g' y z Q else Q (.bl false))
theorem ZbE.mono{g g':G2}(ha:PX X EX a wa)(hb:PX X EX b wb)(hc:PX X EX c wc)(hg:∀x y P P',(∀d,P d->P' d)->g x y P->g x y P')(hg':∀x y P P',(∀d,P d->P' d)->g' x y P->g' x y P') :
  ∀E ρ P P',(∀d,P d->P' d)->ZbE g g' wa wb wc E ρ P->ZbE g g' wa wb wc E ρ P':=λE ρ P P' hp h=>
 ha.mono _ _ _ _ (λx hx=>hb.mono _ _ _ _ (λy hy=>hg x y _ _ (isB.mono λk hk=>by
  cases k with
  |true=>rw[ks rfl]at hk ⊢;exact hc.mono _ _ _ _ (λz hz=>hg' y z _ _ hp hz) hk
  |false=>rw[jx<|wp]at hk ⊢;exact hp _ hk) hy) hx) h
theorem KY{op':CmpOp}{g g':G2}(ho:gS X (compareOp op) g)(ho':gS X (compareOp op') g')(ha:PX X EX a wa)(hb:PX X EX b wb)(hc:PX X EX c wc)
  (hm:autoParam (lastMarks [op,op'] [b,c]=false) RO._auto_1):PX X EX (.Compare a [op,op'] [b,c] pos) (ZbE g g' wa wb wc):=by
 obtain⟨ta,pa,ka⟩:=ha.t;obtain⟨tb,pb,kb⟩:=hb.t;obtain⟨tc,pc,kc⟩:=hc.t;obtain⟨r,pr,kr⟩:=ho.t;obtain⟨r',pr',kr'⟩:=ho'.t;refine⟨⟨_,oU pr pr' pa pb pc hm,λW0 H0 W σ H ρ E Q s eo h=>?_⟩,ZbE.mono ha hb hc ho.mono ho'.mono⟩;refine ms ha.mono hb.mono ka kb s eo h λW2 H2 x y dx dy x2 rx ry hg=>kr W2 H2 x y dx dy _ x2.ok rx ry<|ho.mono _ _ _ _ (λd hd v W3 H3 x3 r3=>?_) hg;obtain⟨k,rfl,q⟩:=rq hd;cases r3;refine⟨k,rfl,?_⟩;cases k with
 |true=>
  rw[ks rfl]at q ⊢;refine kc W0 H0 W3 σ H3 ρ E _ (s.step<|x2.trans x3) eo<|hc.mono _ _ _ _ (λdz hz w W4 H4 x4 r4=>?_) q;exact kr' W4 H4 y w dy dz Q x4.ok (x4.rep<|x3.rep ry) r4<|ho'.mono _ _ _ _ (λd hd=>RQ.ext hd<|x2.trans<|x3.trans x4) hz
 |false=>rw[jx<|wp]at q ⊢;exact q _ W3 H3 (x2.trans x3)<|.bl false
theorem KZ{op':CmpOp}{g g':G2}(ho:gS X (compareOp op) g)(ho':gS X (compareOp op') g')(ha:PX X EX a wa)(hb:PX X EX b wb)(hc:PX X EX c wc)
  (hm:autoParam (lastMarks [op,op'] [b,c]=false) RO._auto_1):kX X EX (.Compare a [op,op'] [b,c] pos) (wT<|ZbE g g' wa wb wc):=by
 obtain⟨ta,pa,ka⟩:=ha.t;obtain⟨tb,pb,kb⟩:=hb.t;obtain⟨tc,pc,kc⟩:=hc.t;obtain⟨r,pr,kr⟩:=ho.t;obtain⟨r',pr',kr'⟩:=ho'.t;refine⟨⟨_,oV pr pr' pa pb pc hm,λW0 H0 W σ H ρ E Q s eo h=>?_⟩,wT.mono<|ZbE.mono ha hb hc ho.mono ho'.mono⟩;refine ms ha.mono hb.mono ka kb s eo h λW2 H2 x y dx dy x2 rx ry hg=>kr W2 H2 x y dx dy _ x2.ok rx ry<|ho.mono _ _ _ _ (λd hd v W3 H3 x3 r3=>?_) hg;obtain⟨k,rfl,q⟩:=rq hd;cases r3;refine⟨k,rfl,?_⟩;cases k with
 |true=>
  rw[ks rfl]at q ⊢;refine kc W0 H0 W3 σ H3 ρ E _ (s.step<|x2.trans x3) eo<|hc.mono _ _ _ _ (λdz hz w W4 H4 x4 r4=>?_) q;refine kr' W4 H4 y w dy dz _ x4.ok (x4.rep<|x3.rep ry) r4<|ho'.mono _ _ _ _ (λd hd v5 W5 H5 x5 r5=>?_) hz;obtain⟨b,rfl,q'⟩:=rq hd;cases r5;exact⟨b,rfl,q' W5 H5<|x2.trans<|x3.trans<|x4.trans x5⟩
 |false=>rw[jx<|wp]at q ⊢;exact⟨false,rfl,q W3 H3<|x2.trans x3⟩
def aA:WA:=λ_ _ Q=>Q []
def aC(w:WE)(t:WA):WA:=λE ρ Q=>w E ρ λx=>t E ρ λxs=>Q (x::xs)
theorem aF:kx X EX [] aA:=⟨⟨_,oY,λ_ _ W _ H _ _ _ s _ h=>h [] W H (.refl s.ok) .nil⟩,λ_ _ _ _ hp h=>hp _ h⟩
theorem Za{t:WA}(ha:PX X EX e w)(hr:kx X EX es t)(hs:{starEach (e::es) X.env=(false,eval e X.env)::starEach es X.env}):kx X EX (e::es) (aC w t):=by obtain⟨ta,pa,ka⟩:=ha.t;obtain⟨tr,pr,kr⟩:=hr.t;refine⟨⟨_,lF pa pr hs,λW0 H0 W σ H ρ E Q s eo h=>?_⟩,λE ρ P P' hp h=>ha.mono _ _ _ _ (λd hd=>hr.mono _ _ _ _ (λds hds=>hp _ hds) hd) h⟩;refine ka W0 H0 W σ H ρ E _ s eo<|ha.mono _ _ _ _ (λd hd v W1 H1 x1 r1=>?_) h;exact kr W0 H0 W1 σ H1 ρ E _ (s.step x1) eo<|hr.mono _ _ _ _ (λds hds vs W2 H2 x2 r2=>hds _ W2 H2 (x1.trans x2)<|.cons (x2.rep r1) r2) hd
def aO:Nat:=10000
theorem pQ(h:n<=aO):n<=sizeLine:=gP h (by rw[sizeLine_eq];decide)
def bO(t:WA):WE:=λE ρ Q=>t E ρ λxs=>xs.length<=aO/\Q (.tup xs)
def cF(t:WA):WA:=λE ρ Q=>t E ρ λxs=>xs.length<=aO/\Q xs
theorem f8{t:WA}{x1}(h:kx X EX es t):PX X EX (.Tuple es x1 pos) (bO t):=by obtain⟨ta,pa,ka⟩:=h.t;refine⟨⟨_,tB pa,λW0 H0 W σ H ρ E Q s eo hw=>?_⟩,λE ρ P P' hp z=>h.mono _ _ _ _ (λds hds=>⟨hds.1,hp _ hds.2⟩) z⟩;refine ka W0 H0 W σ H ρ E _ s eo<|h.mono _ _ _ _ (λds hds vs W1 H1 x1 r1=>?_) hw;refine⟨by rw[r1.length];exact pQ hds.1,λq hq=>?_⟩;exact(RQ.ext hds.2 x1).tup x1.ok r1 hq
theorem iU{t:WA}(h:kx X EX es t):PXL X EX (.List es pos) (cF t):=by obtain⟨ta,pa,ka⟩:=h.t;refine⟨⟨_,tD pa,λW0 H0 W σ H ρ E Q s eo hw=>?_⟩,λE ρ P P' hp z=>h.mono _ _ _ _ (λds hds=>⟨hds.1,hp _ hds.2⟩) z⟩;refine ka W0 H0 W σ H ρ E _ s eo<|h.mono _ _ _ _ (λds hds vs W1 H1 x1 r1=>?_) hw;refine⟨by rw[r1.length];exact pQ hds.1,λq hq=>?_⟩;exact hds.2 q vs W1 _ (x1.trans<|.new x1.ok hq) aV (x1.ok.fresh hq).1 (x1.ok.fresh hq).2 (x1.isN hq) r1
def wL(t:WA):WE:=λE ρ Q=>t E ρ λds=>Q<|.lst ds
theorem PXL.px{t:WA}(h:PXL X EX e t):PX X EX e (wL t):=by obtain⟨ta,pa,ka⟩:=h.t;refine⟨⟨_,pa,λW0 H0 W σ H ρ E Q s eo hw=>?_⟩,λE ρ P P' hp z=>h.mono _ _ _ _ (λds hds=>hp _ hds) z⟩;refine ka W0 H0 W σ H ρ E _ s eo<|h.mono _ _ _ _ (λds hds a vs W1 H1 x1 e1 e2 e3 e4 r1=>?_) hw;refine hds _ _ _ (x1.pub e4 e1 e3 e2)<|.lst (by unfold Wd.put;dsimp only;rw[aV]) (r1.mono (qz e2) λ_ z=>z)
structure eU(X:Cx)(f:Value)(g:RF->(RG)->Prop):Prop where
 t:∃r,dZ X f r/\∀W H vs ds Q,WOk W H->Reps X.K W vs ds->g ds (RQ X.K W H Q)->r vs H Q
 mono:∀ds P P',(∀d,P d->P' d)->g ds P->g ds P'
structure rz(X:Cx)(f:Value)(g:RF->(RF->Prop)->Prop):Prop where
 t:∃r,dZ X f r/\∀W H vs ds Q,WOk W H->Reps X.K W vs ds->g ds (λes=>∀a us,H a=none->Reps X.K W us es->Q (.ref a) (upd H a<|.lst us))->r vs H Q
 mono:∀ds P P',(∀d,P d->P' d)->g ds P->g ds P'
def wB(g:RF->(RG)->Prop)(t:WA):WE:=λE ρ Q=>t E ρ λds=>g ds Q
def aB(g:RF->(RF->Prop)->Prop)(t:WA):WA:=λE ρ Q=>t E ρ λds=>g ds Q
variable{id T:String}{t:WA}
theorem dq{g:RF->(RG)->Prop}(hc:eU X (.builtin id) g)(hm:X.mg x=none)(hv:bootBuiltins x=some (.builtin id))(ha:kx X EX (e::es) t)(hg:{Gl X x})(hn:(x≠ "__name__":))(hdb:(RA x:))
  (he:{RC X e es}) (hpl:{RD X pos es}):PX X EX (.Call (.Name x p) (e::es) [] pos) (wB g t):=by
 obtain⟨ta,pa,ka⟩:=ha.t;obtain⟨r,pr,kr⟩:=hc.t;refine⟨⟨_,oZ pr hg hm hv pa hn hdb he hpl,λW0 H0 W σ H ρ E Q s eo h=>?_⟩,λE ρ P P' hp z=>ha.mono _ _ _ _ (λds hds=>hc.mono _ _ _ hp hds) z⟩;exact ka W0 H0 W σ H ρ E _ s eo<|ha.mono _ _ _ _ (λds hds vs W1 H1 x1 r1=>kr W1 H1 vs ds Q x1.ok r1<|hc.mono _ _ _ (λd hd=>RQ.ext hd x1) hds) h
theorem Zc{g:RF->(RG)->Prop}(hc:eU X (.type T) g)(hm:X.mg x=none)(hv:bootBuiltins x=some (.type T))(ha:kx X EX (e::es) t)(hg:{Gl X x})(hn:(x≠ "__name__":))(hdb:(RA x:))
  (he:{RC X e es}) (hpl:{RD X pos es}):PX X EX (.Call (.Name x p) (e::es) [] pos) (wB g t):=by
 obtain⟨ta,pa,ka⟩:=ha.t;obtain⟨r,pr,kr⟩:=hc.t;refine⟨⟨_,jo pr hg hm hv pa hn hdb he hpl,λW0 H0 W σ H ρ E Q s eo h=>?_⟩,λE ρ P P' hp z=>ha.mono _ _ _ _ (λds hds=>hc.mono _ _ _ hp hds) z⟩;exact ka W0 H0 W σ H ρ E _ s eo<|ha.mono _ _ _ _ (λds hds vs W1 H1 x1 r1=>kr W1 H1 vs ds Q x1.ok r1<|hc.mono _ _ _ (λd hd=>RQ.ext hd x1) hds) h
theorem CQ{g:RF->(RF->Prop)->Prop}(hc:rz X (.type T) g)(hm:X.mg x=none)(hv:bootBuiltins x=some (.type T))(ha:kx X EX (e::es) t)(hg:{Gl X x})(hn:(x≠ "__name__":))(hdb:(RA x:))
  (he:{RC X e es}) (hpl:{RD X pos es}):PXL X EX (.Call (.Name x p) (e::es) [] pos) (aB g t):=by
 obtain⟨ta,pa,ka⟩:=ha.t;obtain⟨r,pr,kr⟩:=hc.t;refine⟨⟨_,jo pr hg hm hv pa hn hdb he hpl,λW0 H0 W σ H ρ E Q s eo h=>?_⟩,λE ρ P P' hp z=>ha.mono _ _ _ _ (λds hds=>hc.mono _ _ _ hp hds) z⟩;refine ka W0 H0 W σ H ρ E _ s eo<|ha.mono _ _ _ _ (λds hds vs W1 H1 x1 r1=>kr W1 H1 vs ds Q x1.ok r1<|hc.mono _ _ _ (λes' hd a us hn' r2=>?_) hds) h;exact hd a us W1 _ (x1.trans<|.new x1.ok hn') aV (x1.ok.fresh hn').1 (x1.ok.fresh hn').2 (x1.isN hn') r2
abbrev bN:=RF->(RE)->(RG)->Prop
def rC(S:bN):Prop:=∀ds E E' Q Q',(∀ex,E ex->E' ex)->(∀d,Q d->Q' d)->S ds E Q->S ds E' Q'
def jH(K:QR)(S:bN):Sp:=λvs H Q EX=>∃ds W,WOk W H/\Reps K W vs ds/\S ds (λex=>∀W' H' cls dx,Ext W H W' H'->CP K W' H' cls dx ex->EX cls dx H') (RQ K W H Q)
def wF(S:bN)(t:WA):WE:=λE ρ Q=>t E ρ λds=>S ds E Q
theorem K0{CX:pK}{f:Addr}{S:bN}(F:gF X.prog X.w X.K X.mg X.base CX k f fd ps (jH X.K S))(hS:rC S)(hr:Room k X.A)(hm:X.mg x=some (.ref f))(hk:PySem.W.keepIn X.K (.ref f)=true)(hb:Binds X.K fd ps [])
  (hx:dQ CX X EX) (ha:kx X EX (e::es) t) (hg:{Gl X x}) (hdb:(RA x:)) (he:{RC X e es}) (hpl:{RD X pos es}) :
  PX X EX (.Call (.Name x p) (e::es) [] pos) (wF S t):=by
 obtain⟨ta,pa,ka⟩:=ha.t;refine⟨⟨_,qs F hr hg hm hk hb .nil hx pa hdb he hpl,λW0 H0 W σ H ρ E Q s eo h=>?_⟩,λE ρ P P' hp z=>ha.mono _ _ _ _ (λds hds=>hS _ _ _ _ _ (λ_ q=>q) hp hds) z⟩;refine ka W0 H0 W σ H ρ E _ s eo<|ha.mono _ _ _ _ (λds hds vs W1 H1 x1 r1=>?_) h;refine⟨ds,W1,x1.ok,by rw[qT];exact r1,hS _ _ _ _ _ (λex hex W' H' cls dx x' r'=>?_) (λd hd=>RQ.ext hd x1) hds⟩;exact eo ex W' H' cls dx hex (s.ext.trans<|x1.trans x') r'
structure CU(X:Cx)(g:G2):Prop where
 t:∃r,IxR X r/\∀W H x y dx dy Q,WOk W H->Rep X.K W x dx->Rep X.K W y dy->g dx dy (RQ X.K W H Q)->r x y H Q
 mono:∀x y P P',(∀d,P d->P' d)->g x y P->g x y P'
theorem cE{g:G2}(ho:CU X g)(ha:PX X EX a wa)(hb:PX X EX b wb)(hs:lI b:=by exact λ_ _=>rfl):PX X EX (.Subscript a b pos) (w2 g wa wb):=by obtain⟨ta,pa,ka⟩:=ha.t;obtain⟨tb,pb,kb⟩:=hb.t;obtain⟨r,pr,kr⟩:=ho.t;refine⟨⟨_,vX pr pa pb hs,λW0 H0 W σ H ρ E Q s eo h=>?_⟩,w2.mono ha hb ho.mono⟩;exact ms ha.mono hb.mono ka kb s eo h λW2 H2 x y dx dy x2 rx ry hg=>kr W2 H2 x y dx dy Q x2.ok rx ry<|ho.mono _ _ _ _ (λd hd=>RQ.ext hd x2) hg
structure FG(X:Cx)(f:Value->Sem Value)(g:D->(RG)->Prop):Prop where
 t:∃r,zJ X f r/\∀W H x dx Q,WOk W H->Rep X.K W x dx->g dx (RQ X.K W H Q)->r x H Q
 mono:∀x P P',(∀d,P d->P' d)->g x P->g x P'
def w1(g:D->(RG)->Prop)(wa:WE):WE:=λE ρ Q=>wa E ρ λx=>g x Q
theorem mR{op:UnaryOp}{g:D->(RG)->Prop}(ho:FG X (unaryOp op) g)(ha:PX X EX a wa):PX X EX (.UnaryOp op a pos) (w1 g wa):=by obtain⟨ta,pa,ka⟩:=ha.t;obtain⟨r,pr,kr⟩:=ho.t;refine⟨⟨_,rf pr pa,λW0 H0 W σ H ρ E Q s eo h=>?_⟩,λE ρ P P' hp z=>ha.mono _ _ _ _ (λd hd=>ho.mono _ _ _ hp hd) z⟩;exact ka W0 H0 W σ H ρ E _ s eo<|ha.mono _ _ _ _ (λd hd v W1 H1 x1 r1=>kr W1 H1 v d Q x1.ok r1<|ho.mono _ _ _ (λd hd=>RQ.ext hd x1) hd) h
structure rD(X:Cx)(EX:XK)(e:Option Expr)(w:(RE)->cS->(Option Int->Prop)->Prop):Prop where
 t:∃t,PO X e t/\∀W0 H0 W σ H ρ E Q,SOk X.K W0 H0 W σ H ρ->kv X.K W0 H0 E EX->w E ρ (λo=>∀W' H',Ext W H W' H'->Q o H')->t σ H Q
 mono:∀E ρ P P',(∀d,P d->P' d)->w E ρ P->w E ρ P'
def isI(Q:Int->Prop):D->Prop
 |.int i=>Q i|_=>False
theorem isI.mono{Q Q':Int->Prop}(h:∀b,Q b->Q' b):∀d,isI Q d->isI Q' d
 |.int b,z=>h b z|.non,z=>z|.bl _,z=>z|.str _,z=>z|.tup _,z=>z|.lst _,z=>z|.dic,z=>z|.pen,z=>z|.cls _,z=>z|.exc _,z=>z|.ty _,z=>z|.scr _,z=>z|.pl _ _,z=>z
theorem uT{Q:Int->Prop}(h:isI Q d):∃b,d=.int b/\Q b:=by
 cases d with
 |int b=>exact⟨b,rfl,h⟩|_=>exact h.elim
def eL:(RE)->cS->(Option Int->Prop)->Prop:=λ_ _ Q=>Q none
def dW(w:WE):(RE)->cS->(Option Int->Prop)->Prop:=λE ρ Q=>w E ρ<|isI λi=>Q (some i)
theorem jI:rD X EX none eL:=⟨⟨_,qu,λ_ _ W _ H _ _ _ s _ h=>h W H<|.refl s.ok⟩,λ_ _ _ _ hp h=>hp _ h⟩
theorem gI(ha:PX X EX a wa):rD X EX (some a) (dW wa):=by obtain⟨ta,pa,ka⟩:=ha.t;refine⟨⟨_,qv pa,λW0 H0 W σ H ρ E Q s eo h=>?_⟩,λE ρ P P' hp z=>ha.mono _ _ _ _ (isI.mono λi hi=>hp _ hi) z⟩;refine ka W0 H0 W σ H ρ E _ s eo<|ha.mono _ _ _ _ (λd hd v W1 H1 x1 r1=>?_) h;obtain⟨i,rfl,q⟩:=uT hd;cases r1;exact⟨i,rfl,q W1 H1 x1⟩
def cL{α:Type}(xs:List α)(lo hi:Option Int):List α:=(xs.drop<|HT.sIx xs.length 0 lo).take<|HT.sIx xs.length xs.length hi-HT.sIx xs.length 0 lo
def gCut(x:D)(lo hi:Option Int)(Q:RG):Prop:=match x with
 |.tup xs=>Q<|.tup (cL xs lo hi)
 |.lst xs=>Q<|.lst (cL xs lo hi)
 |.scr xs=>Q<|.lst (cL xs lo hi)
 |_=>False
end
variable{S:bN}
def Bd(i:Int):Prop:=i.natAbs<2^8990
theorem Bd.log{i:Int}(h:Bd i):i.natAbs.log2<8990:=by by_cases h0:i.natAbs=0;rw[h0];decide;exact(Nat.log2_lt h0).mpr h
theorem Bd.bits{i:Int}(h:Bd i):Builtin.Int.intBits i<=2^20:=by
 unfold Builtin.Int.intBits;have:=h.log;have e:(2:Nat)^20=1048576:=wp
 split<;>omega
def rE(i j:Int):Prop:=Bd i/\Bd j
def CV(_ j:Int):Prop:=j≠0/\Bd j
section
variable{pos:Pos}
theorem Zro:OpR X (binaryOp .Mult) (rI rE λi j=>.int<|i*j):=zL λ_ _ _ _ _ _ _ hc q=>mul_int q<|IntMulOk.of_bits hc.1.bits hc.2.bits
theorem K1:OpR X (binaryOp .FloorDiv) (rI CV λi j=>.int<|i.fdiv j):=zL λ_ _ _ _ _ _ _ hc q=>floordiv_int hc.1 q<|.inl (PyProof.noPylong_of_log2 (by have:=hc.2.log;omega))
def gI2(C:Int->Int->Prop)(kd:Int->Int->D):G2:=λx y Q=>match x,y with|.int i,.int j=>C i j/\Q (kd i j)|_,_=>False
theorem gI2.mono{C:Int->Int->Prop}{kd:Int->Int->D}:∀x y P P',(∀d,P d->P' d)->gI2 C kd x y P->gI2 C kd x y P':=λx y P P' hp hg=>by unfold gI2 at hg ⊢;split at hg;exact⟨hg.1,hp _ hg.2⟩;exact hg.elim
theorem gI2.get{C:Int->Int->Prop}{kd:Int->Int->D}{x:D}(h:gI2 C kd x y Q):∃i j,x=.int i/\y=.int j/\C i j/\Q (kd i j):=by unfold gI2 at h;split at h;exact⟨_,_,rfl,rfl,h.1,h.2⟩;exact h.elim
theorem rF{f:Value->Value->Sem Value}{C:Int->Int->Prop}{k:Int->Int->V}{kd:Int->Int->D}(h:OpR X f (rI C k))(hk:∀W i j,Rep X.K W (k i j)<|kd i j):gS X f (gI2 C kd):=
 ⟨⟨_,h,λW H x y dx dy Q ok rx ry hg=>by
  obtain⟨i,j,rfl,rfl,hc,q⟩:=hg.get;cases rx;cases ry;exact⟨_,_,rfl,rfl,hc,q.now ok<|hk _ _ _⟩⟩,gI2.mono⟩
theorem uU{f:Value->Value->Sem Value}{k:Int->Int->V}(h:OpR X f (ql k)):OpR X f (rI (λ_ _=>True) k):=λoI s σ H x y v u Q I rx ry ⟨i,j,e1,e2,_,q⟩=>h oI s σ H x y v u Q I rx ry ⟨i,j,e1,e2,q⟩
theorem iV:gS X (binaryOp .Sub) (gI2 (λ_ _=>True) λi j=>.int<|i-j):=rF (uU tu) λ_ _ _=>.int _
theorem rG:gS X (binaryOp .Mod) (gI2 (λ_ j=>j≠0) λi j=>.int<|i.fmod j):=rF qo λ_ _ _=>.int _
theorem pR:gS X (binaryOp .FloorDiv) (gI2 CV λi j=>.int<|i.fdiv j):=rF K1 λ_ _ _=>.int _
theorem wH:gS X (binaryOp .Pow) (gI2 td λi j=>.int<|i^j.toNat):=rF tw λ_ _ _=>.int _
theorem K2:OpR X (compareOp .Lt) (ql λi j=>.bl<|decide (i<j)):=qm λ_ _ _ _ _ _ _ q=>lt_int q
theorem K3:OpR X (compareOp .LtE) (ql λi j=>.bl<|decide (i<=j)):=qm λ_ _ _ _ _ _ _ q=>le_int q
theorem K6:OpR X (compareOp .Gt) (ql λi j=>.bl<|decide (i>j)):=qm λ_ _ _ _ _ _ _ q=>gt_int q
theorem K7:OpR X (compareOp .GtE) (ql λi j=>.bl<|decide (i ≥ j)):=qm λ_ _ _ _ _ _ _ q=>ge_int q
theorem qA:gS X (compareOp .Lt) (gI2 (λ_ _=>True) λi j=>.bl<|decide (i<j)):=rF (uU K2) λ_ _ _=>.bl _
theorem kZ:gS X (compareOp .LtE) (gI2 (λ_ _=>True) λi j=>.bl<|decide (i<=j)):=rF (uU K3) λ_ _ _=>.bl _
theorem j3:gS X (compareOp .Gt) (gI2 (λ_ _=>True) λi j=>.bl<|decide (i>j)):=rF (uU K6) λ_ _ _=>.bl _
theorem CW:gS X (compareOp .GtE) (gI2 (λ_ _=>True) λi j=>.bl<|decide (i ≥ j)):=rF (uU K7) λ_ _ _=>.bl _
theorem mS:FG X (unaryOp .USub) (λx Q=>isI (λi=>Q<|.int (-i)) x):=
 ⟨⟨_,oQ,λW H x dx Q ok rx hg=>by
  obtain⟨i,rfl,q⟩:=uT hg;cases rx;exact⟨i,rfl,q.now ok<|.int _⟩⟩,λx P P' hp h=>isI.mono (λi hi=>hp _ hi) x h⟩
mutual
def iX:D->Option PyData
 |.non=>some .none|.bl b=>some<|.bool b
 |.int i=>some<|.int i
 |.str x=>some<|.str x
 |.tup xs=>(gj xs).map .tuple|.lst xs=>(gj xs).map .list|.dic=>none|.pen=>none|.cls _=>none|.exc _=>none|.ty _=>none|.pl _ _=>none|.scr _=>none
def gj:RF->Option (List PyData)
 |[]=>some []
 |x::r=>match iX x,gj r with
  |some a,some b=>some (a::b)|_,_=>none
end
variable{s:Shared}{W:Wd}
mutual
theorem wI(I:Inv X oI σ H s)(ok:WOk W H):∀{v:V} {d:D} {u:Value} {p:PyData},Rep X.K W v d->RelV v u->iX d=some p->∃as,Reads s.heap u p as
 |_,_,u,p,.non,r,e=>by cases e;cases r;exact⟨_,.none⟩
 |_,_,u,p,.bl b,r,e=>by cases e;cases r;exact⟨_,.bool b⟩
 |_,_,u,p,.int i,r,e=>by cases e;obtain⟨t,rfl⟩:=r;exact⟨_,.int i t⟩
 |_,_,u,p,.str x,r,e=>by cases e;obtain⟨t,rfl⟩:=r;exact⟨_,.str x t⟩
 |.ref a,.tup ds,u,p,.tup e0 rs,r,e=>by
  cases r;cases q:gj ds with
  |none=>rw[iX,q]at e;cases e
  |some ps=>rw[iX,q]at e;cases e;obtain⟨its,rv,⟨o,h1,h2,n,h3⟩,_⟩:=I.tuple (xs:=_)<|SqT.of (ok.g _ _ e0);obtain⟨as,ra⟩:=zQ I ok rs rv q;exact⟨_,.tuple h1 h2 h3<|by simpa using ra⟩
 |.ref a,.tup ds,u,p,.ktup e0 rs,r,e=>by
  cases r;cases q:gj ds with
  |none=>rw[iX,q]at e;cases e
  |some ps=>rw[iX,q]at e;cases e;obtain⟨its,rv,⟨o,h1,h2,n,h3⟩,_⟩:=I.tuple (xs:=_)<|.inr e0;obtain⟨as,ra⟩:=zQ I ok rs rv q;exact⟨_,.tuple h1 h2 h3<|by simpa using ra⟩
 |.ref a,.lst ds,u,p,.lst e0 rs,r,e=>by
  cases r;cases q:gj ds with
  |none=>rw[iX,q]at e;cases e
  |some ps=>rw[iX,q]at e;cases e;obtain⟨its,rv,⟨o,n,h1,h2,h3,h4⟩,_⟩:=I.list (xs:=_)<|SqL.of (ok.g _ _ e0);obtain⟨as,ra⟩:=zQ I ok rs rv q;exact⟨_,.list h1 h2 h4<|by simpa using ra⟩
 |_,_,u,p,.dic _,r,e=>by rw[iX]at e;cases e
 |_,_,u,p,.pen _,r,e=>by rw[iX]at e;cases e
 |_,_,u,p,.cls _,r,e=>by rw[iX]at e;cases e
 |_,_,u,p,.exc _ _ _,r,e=>by rw[iX]at e;cases e
 |_,_,u,p,.ty _,r,e=>by rw[iX]at e;cases e
 |_,_,u,p,.pl _,r,e=>by rw[iX]at e;cases e
 |_,_,u,p,.scr _ _,r,e=>by rw[iX]at e;cases e
theorem zQ(I:Inv X oI σ H s)(ok:WOk W H):∀{vs:RH} {ds:RF} {us:K9} {ps:List PyData},Reps X.K W vs ds->Vals vs us->gj ds=some ps->∃as,ReadsAll s.heap us ps as
 |_,_,us,ps,.nil,r,e=>by rw[gj]at e;cases e;cases r;exact⟨_,.nil⟩
 |_,d::ds,us,ps,.cons rd rs,r,e=>by
  rw[gj]at e;cases q1:iX d with
  |none=>rw[q1]at e;cases e
  |some a=>
   cases q2:gj ds with
   |none=>rw[q1,q2]at e;cases e
   |some b=>
    rw[q1,q2]at e;cases e;cases r with
    |cons r1 r2=>
     obtain⟨as,ra⟩:=wI I ok rd r1 q1;obtain⟨bs,rb⟩:=zQ I ok rs r2 q2;exact⟨_,.cons ra rb⟩
end
def gEq(neg:Bool):G2:=λx y Q=>∃p q,iX x=some p/\iX y=some q/\PySem.SeqAt.shaped p=true/\PySem.SeqAt.shaped q=true/\Q (.bl (if neg then !PyData.eqv p q else PyData.eqv p q))
theorem gEq.mono{neg:Bool}:∀x y P P',(∀d,P d->P' d)->gEq neg x y P->gEq neg x y P':=λx y P P' hp ⟨p,q,h1,h2,h3,h4,h5⟩=>⟨p,q,h1,h2,h3,h4,hp _ h5⟩
theorem cX(hu:X.A.units+64<cLine):gS X (compareOp .Eq) (gEq false):=by refine⟨⟨λx y H Q=>∃W dx dy,WOk W H/\Rep X.K W x dx/\Rep X.K W y dy/\gEq false dx dy (RQ X.K W H Q),?_,λW H x y dx dy Q ok rx ry hg=>⟨W,dx,dy,ok,rx,ry,hg⟩⟩,gEq.mono⟩;rintro oI s σ H x y v u Q I rx ry ⟨W,dx,dy,ok,r1,r2,p,q,h1,h2,h3,h4,h5⟩;obtain⟨as,ra⟩:=wI I ok r1 rx h1;obtain⟨bs,rb⟩:=wI I ok r2 ry h2;exact eq_dataH ra rb h3 h4 hu ⟨.bl _,H,I,rfl,h5.now ok<|.bl _⟩
theorem dR(hu:X.A.units+64<cLine):gS X (compareOp .NotEq) (gEq true):=by refine⟨⟨λx y H Q=>∃W dx dy,WOk W H/\Rep X.K W x dx/\Rep X.K W y dy/\gEq true dx dy (RQ X.K W H Q),?_,λW H x y dx dy Q ok rx ry hg=>⟨W,dx,dy,ok,rx,ry,hg⟩⟩,gEq.mono⟩;rintro oI s σ H x y v u Q I rx ry ⟨W,dx,dy,ok,r1,r2,p,q,h1,h2,h3,h4,h5⟩;obtain⟨as,ra⟩:=wI I ok r1 rx h1;obtain⟨bs,rb⟩:=wI I ok r2 ry h2;exact ne_dataH ra rb h3 h4 hu ⟨.bl _,H,I,rfl,h5.now ok<|.bl _⟩
end
section
variable{pos:Pos}{a:Expr}
def gAdd:G2:=λx y Q=>match x,y with
 |.int i,.int j=>Q<|.int (i+j)
 |.lst xs,.lst ys=>xs.length+ys.length<=aO/\Q (.lst<|xs++ys)|.tup xs,.tup ys=>xs.length+ys.length<=aO/\Q (.tup<|xs++ys)|_,_=>False
theorem gAdd.mono:∀x y P P',(∀d,P d->P' d)->gAdd x y P->gAdd x y P':=λx y P P' hp hg=>by unfold gAdd at hg ⊢;split at hg;exact hp _ hg;exact⟨hg.1,hp _ hg.2⟩;exact⟨hg.1,hp _ hg.2⟩;exact hg.elim
def wJ(K:QR):R2:=λx y H Q=>∃l b xs zs,x=.ref l/\y=.ref b/\SqL K H l xs/\SqL K H b zs/\xs.length+zs.length<=sizeLine/\∀p,H p=none->Q (.ref p) (upd H p<|.lst<|xs++zs)
theorem ZoG:OpR X (binaryOp .Add) (wJ X.K):=by
 intro oI s σ H x y v u Q I rx ry h;obtain⟨l,b,xs,zs,rfl,rfl,hH,hB,hz,q⟩:=h;cases rx;cases ry;obtain⟨its,r,pl,z⟩:=I.list hH;obtain⟨its2,r2,DR,z2⟩:=I.list hB;have hl:=r.length;have hl2:=r2.length;obtain⟨⟨cls,dd,data,sl⟩,n,ho,hc,_,hd⟩:=pl;obtain⟨⟨cls2,dd2,data2,sl2⟩,n2,ho2,hc2,_,hd2⟩:=DR;simp only at hc hd hc2 hd2;subst hc hd hc2 hd2;have e:its.toArray++its2.toArray=(its++its2).toArray:=E1
 refine concat_meets ⟨_,ho,rfl⟩ ⟨_,ho2,rfl⟩ noFill_list_add seq_list_add PySem.F.slot_list_add PySem.F.entry_list_add (PySem.F.args_list_add_2 _ _) (list_addW l b its.toArray its2.toArray n n2 dd dd2 sl sl2 (by simp;omega)) ⟨ho,ho2,?_⟩;rw[e];exact⟨.ref _,_,I.lnew (t':=s.toks) (r.append r2) (by rw[dA];omega),rfl,q _ I.fresh⟩
def La(K:QR):R2:=λx y H Q=>∃a b xs ys,x=.ref a/\y=.ref b/\SqT K H a xs/\SqT K H b ys/\xs.length+ys.length<=sizeLine/\
 (xs=[]->Q (.ref b) H)/\(ys=[]->Q (.ref a) H)/\∀p,H p=none->Q (.ref p) (upd H p<|.tup<|xs++ys)
theorem Lc:OpR X (binaryOp .Add) (La X.K):=by
 intro oI s σ H x y v u Q I rx ry h;obtain⟨a,b,xs,ys,rfl,rfl,ha,hb,hz,q1,q2,q3⟩:=h;by_cases hx:xs=[];cases rx;cases ry;obtain⟨its,r1,p1,_⟩:=I.tuple ha;obtain⟨its2,r2,p2,_⟩:=I.tuple hb;have hi:its=[]:=r1.nil_iff.mpr hx;obtain⟨⟨cls,dd,data,sl⟩,ho,hc,n,hd⟩:=id p1;obtain⟨⟨cls2,dd2,data2,sl2⟩,ho2,hc2,n2,hd2⟩:=id p2;simp only at hc hd hc2 hd2;subst hc hd hc2 hd2;exact concat_meets ⟨_,ho,rfl⟩ ⟨_,ho2,rfl⟩ noFill_tuple_add seq_tuple_add PySem.F.slot_tuple_add PySem.F.entry_tuple_add (PySem.F.args_tuple_add_2 _ _)
  (tuple_addW0 a b its.toArray its2.toArray n n2 dd dd2 sl sl2<|by simp[hi]) ⟨ho,ho2,⟨.ref b,H,I,rfl,q1 hx⟩⟩
 exact qw oI s σ H _ _ v u Q I rx ry ⟨a,b,xs,ys,rfl,rfl,ha,hb,hx,hz,q2,λ_=>q3⟩
theorem eE:gS X (binaryOp .Add) gAdd:=by
 refine⟨⟨_,(uU tp).or<|ZoG.or Lc,λW H x y dx dy Q ok rx ry hg=>?_⟩,gAdd.mono⟩;unfold gAdd at hg;split at hg;cases rx;cases ry;exact .inl ⟨_,_,rfl,rfl,trivial,hg.now ok<|.int _⟩;obtain⟨p,vs,rfl,h1,r1⟩:=rx.sql ok;obtain⟨q,us,rfl,h2,r2⟩:=ry.sql ok;refine .inr<|.inl ⟨p,q,vs,us,rfl,rfl,h1,h2,by rw[r1.length,r2.length];exact pQ hg.1,λa ha=>hg.2.lst ok (r1.append r2) ha⟩
 obtain⟨p,vs,rfl,h1,r1⟩:=rx.sqt ok;obtain⟨q,us,rfl,h2,r2⟩:=ry.sqt ok;rename_i xs ys;refine .inr<|.inr ⟨p,q,vs,us,rfl,rfl,h1,h2,by rw[r1.length,r2.length];exact pQ hg.1,λe=>?_,λe=>?_,λa ha=>hg.2.tup ok (r1.append r2) ha⟩
 subst e;cases r1;exact hg.2.now ok ry;subst e;cases r2;rw[qT]at hg;exact hg.2.now ok rx;exact hg.elim
def gMul:G2:=λx y Q=>match x,y with|.int i,.int j=>rE i j/\Q (.int<|i*j)|.lst xs,.int k=>k<1000/\-1000<k/\xs.length*k.toNat<=aO/\Q (.lst (List.replicate k.toNat xs).flatten)|_,_=>False
theorem gMul.mono:∀x y P P',(∀d,P d->P' d)->gMul x y P->gMul x y P':=λx y P P' hp hg=>by unfold gMul at hg ⊢;split at hg;exact⟨hg.1,hp _ hg.2⟩;exact⟨hg.1,hg.2.1,hg.2.2.1,hp _ hg.2.2.2⟩;exact hg.elim
theorem FH{W:Wd}(r:Reps K W vs ds)(n:Nat):Reps K W (List.replicate n vs).flatten (List.replicate n ds).flatten:=by
 induction n with
 |zero=>exact .nil|succ n ih=>rw[iM,iM,uA,uA];exact r.append ih
theorem ee:gS X (binaryOp .Mult) gMul:=by
 refine⟨⟨_,Zro.or tJ,λW H x y dx dy Q ok rx ry hg=>?_⟩,gMul.mono⟩;unfold gMul at hg;split at hg;cases rx;cases ry;exact .inl ⟨_,_,rfl,rfl,hg.1,hg.2.now ok<|.int _⟩;cases ry;cases rx with
 | @lst l vs _ e r=>refine .inr ⟨l,_,vs,rfl,rfl,ok.g _ _ e,tv,tv,?_,λp hp=>hg.2.2.2.lst ok (FH r _) hp⟩;rw[r.length];exact pQ hg.2.2.1
 exact hg.elim
theorem CY{W:Wd}(r:Reps K W vs xs){i:Int}(h:et xs i=some d):∃v,et vs i=some v/\Rep K W v d:=by
 unfold et at h ⊢;rw[r.length];cases q:kS xs.length i with
 |none=>rw[q]at h;cases h
 |some k=>rw[q]at h;obtain⟨v,e,rv⟩:=r.get (show xs[k]? = some d from h);exact⟨v,e,rv⟩
def gIx:G2:=λx y Q=>isI (λi=>match x with
 |.tup xs=>∃d,et xs i=some d/\Q d|.lst xs=>∃d,et xs i=some d/\Q d|.scr xs=>∃d,et xs i=some d/\Q d
 |_=>False) y
theorem gIx.mono:∀ x y P P',(∀ d,P d->P' d)->gIx x y P->gIx x y P':=λx y P P' hp hg=>isI.mono (λi h=>by
 split at h
 .obtain⟨d,e,q⟩:=h;exact⟨d,e,hp _ q⟩
 .obtain⟨d,e,q⟩:=h;exact⟨d,e,hp _ q⟩
 .obtain⟨d,e,q⟩:=h;exact⟨d,e,hp _ q⟩
 .exact h.elim) y hg
theorem aU:CU X gIx:=by
 refine⟨⟨_,o4,λW H x y dx dy Q ok rx ry hg=>?_⟩,gIx.mono⟩;obtain⟨i,rfl,h⟩:=uT hg;cases ry;split at h;obtain⟨d,e,q⟩:=h;obtain⟨p,vs,rfl,h1,r1⟩:=rx.sqt ok;obtain⟨v,e1,rv⟩:=CY r1 e;exact .inr<|.inl ⟨p,vs,i,v,rfl,rfl,h1,e1,q.now ok rv⟩
 obtain⟨d,e,q⟩:=h;obtain⟨p,vs,rfl,h1,r1⟩:=rx.sql ok;obtain⟨v,e1,rv⟩:=CY r1 e;exact .inl ⟨p,vs,i,v,rfl,rfl,h1,e1,q.now ok rv⟩;obtain⟨d,e,q⟩:=h;obtain⟨p,vs,rfl,h1,r1⟩:=rx.sqs ok;obtain⟨v,e1,rv⟩:=CY r1 e;exact .inl ⟨p,vs,i,v,rfl,rfl,h1,e1,q.now ok rv⟩;exact h.elim
theorem Reps.cut{W:Wd}(r:Reps K W vs ds)(lo hi:Option Int):Reps K W (jY vs lo hi) (cL ds lo hi):=by unfold jY cL;rw[r.length];exact(r.drop _).take _
theorem Le{lo hi:Option Int}(h:HT.sIx xs.length 0 lo=0/\HT.sIx xs.length xs.length hi=xs.length):cL xs lo hi=xs:=by unfold cL;rw[h.1,h.2];simp
theorem gCut.mono{lo hi:Option Int}:∀x P P',(∀d,P d->P' d)->gCut x lo hi P->gCut x lo hi P':=λx P P' hp hg=>by unfold gCut at hg ⊢;split at hg;exact hp _ hg;exact hp _ hg;exact hp _ hg;exact hg.elim
def cG(wa:WE)(wl wh:(RE)->cS->(Option Int->Prop)->Prop):WE:=λE ρ Q=>wa E ρ λx=>wl E ρ λl=>wh E ρ λh=>gCut x l h Q
theorem iY{wl wh}(ha:PX X EX a wa)(hl:rD X EX lo wl)(hh:rD X EX hi wh):PX X EX (.Subscript a (.Slice lo hi none p2) pos) (cG wa wl wh):=by
 obtain⟨ta,pa,ka⟩:=ha.t;obtain⟨tl,pl,kl⟩:=hl.t;obtain⟨th,ph,kh⟩:=hh.t;refine⟨⟨_,jX (sl_list.or<|sl_tup.or Zr) pa pl ph,λW0 H0 W σ H ρ E Q s eo h=>?_⟩,λE ρ P P' hp h=>ha.mono _ _ _ _ (λx hx=>hl.mono _ _ _ _ (λl hl'=>hh.mono _ _ _ _ (λu hu=>gCut.mono x _ _ hp hu) hl') hx) h⟩;refine ka W0 H0 W σ H ρ E _ s eo<|ha.mono _ _ _ _ (λdx hx v W1 H1 x1 r1=>?_) h;refine kl W0 H0 W1 σ H1 ρ E _ (s.step x1) eo<|hl.mono _ _ _ _ (λl hl' W2 H2 x2=>?_) hx;refine kh W0 H0 W2 σ H2 ρ E _ ((s.step x1).step x2) eo<|hh.mono _ _ _ _ (λu hu W3 H3 x3=>?_) hl';have r3:=(x2.trans x3).rep r1;have hu':=gCut.mono dx _ _ (λd hd=>RQ.ext hd<|x1.trans<|x2.trans x3) hu;unfold gCut at hu';split at hu'
 obtain⟨p,vs,rfl,h1,rr⟩:=r3.sqt x3.ok;rename_i xs;by_cases hw:HT.sIx vs.length 0 l=0/\HT.sIx vs.length vs.length u=vs.length;refine .inr (.inr ⟨p,vs,rfl,h1,hw,?_⟩);rw[rr.length]at hw;rw[Le hw]at hu';exact hu'.now x3.ok r3;exact .inr<|.inl ⟨p,vs,rfl,h1,hw,λq hq=>hu'.tup x3.ok (rr.cut l u) hq⟩
 obtain⟨p,vs,rfl,h1,rr⟩:=r3.sql x3.ok;exact .inl ⟨p,vs,rfl,h1,λq hq=>hu'.lst x3.ok (rr.cut l u) hq⟩;obtain⟨p,vs,rfl,h1,rr⟩:=r3.sqs x3.ok;exact .inl ⟨p,vs,rfl,h1,λq hq=>hu'.lst x3.ok (rr.cut l u) hq⟩;exact hu'.elim
def gRev:D->(RG)->Prop:=λx Q=>match x with
 |.tup xs=>Q<|.tup xs.reverse
 |.lst xs=>Q<|.lst xs.reverse
 |_=>False
theorem gRev.mono:∀x P P',(∀d,P d->P' d)->gRev x P->gRev x P':=λx P P' hp hg=>by unfold gRev at hg ⊢;split at hg;exact hp _ hg;exact hp _ hg;exact hg.elim
theorem CZ{j pos3 pos4}(ha:PX X EX a wa):PX X EX (.Subscript a (.Slice none none (some<|.UnaryOp .USub (.Constant (.int 1) j pos3) pos4) p2) pos) (w1 gRev wa):=by
 obtain⟨ta,pa,ka⟩:=ha.t;refine⟨⟨_,JX pa,λW0 H0 W σ H ρ E Q s eo h=>?_⟩,λE ρ P P' hp h=>ha.mono _ _ _ _ (λx hx=>gRev.mono x _ _ hp hx) h⟩;refine ka W0 H0 W σ H ρ E _ s eo<|ha.mono _ _ _ _ (λdx hx v W1 H1 x1 r1=>?_) h;have hu':=gRev.mono dx _ _ (λd hd=>RQ.ext hd x1) hx;unfold gRev at hu';split at hu'
 obtain⟨p,vs,rfl,h1,rr⟩:=r1.sqt x1.ok;exact⟨p,vs,rfl,.inl ⟨h1,λq hq=>hu'.tup x1.ok rr.rev hq⟩⟩;obtain⟨p,vs,rfl,h1,rr⟩:=r1.sql x1.ok;exact⟨p,vs,rfl,.inr ⟨h1,λq hq=>hu'.lst x1.ok rr.rev hq⟩⟩;exact hu'.elim
def bZ:RF->(RG)->Prop:=λds Q=>match ds with
 |[.tup xs]=>Q<|.int xs.length
 |[.lst xs]=>Q<|.int xs.length
 |[.scr xs]=>Q<|.int xs.length
 |_=>False
theorem fE:eU X (.builtin "len") bZ:=by refine⟨⟨_,jE,λW H vs ds Q ok r hg=>?_⟩,λds P P' hp hg=>?_⟩;unfold bZ at hg;split at hg;obtain⟨v,rfl,rv⟩:=r.one;obtain⟨p,us,rfl,h1,rr⟩:=rv.sqt ok;exact⟨p,us,rfl,.inr h1,by rw[rr.length];exact hg.now ok<|.int _⟩;obtain⟨v,rfl,rv⟩:=r.one;obtain⟨p,us,rfl,h1,rr⟩:=rv.sql ok;exact⟨p,us,rfl,.inl h1,by rw[rr.length];exact hg.now ok<|.int _⟩;obtain⟨v,rfl,rv⟩:=r.one;obtain⟨p,us,rfl,h1,rr⟩:=rv.sqs ok;exact⟨p,us,rfl,.inl h1,by rw[rr.length];exact hg.now ok<|.int _⟩;exact hg.elim;unfold bZ at hg ⊢;split at hg;exact hp _ hg;exact hp _ hg;exact hp _ hg;exact hg.elim
def h7{α:Type}:RF->(RF->Prop)->Prop:=λds Q=>match ds with|[.tup xs]=>Q xs|[.lst xs]=>Q xs|[.scr xs]=>Q xs|_=>False
theorem C0:rz X (.type "list") (h7 (α:=Unit)):=by refine⟨⟨_,jF,λW H vs ds Q ok r hg=>?_⟩,λds P P' hp hg=>?_⟩;unfold h7 at hg;split at hg;obtain⟨v,rfl,rv⟩:=r.one;obtain⟨p,us,rfl,h1,rr⟩:=rv.sqt ok;exact⟨p,us,rfl,.inr h1,λl hl=>hg l us hl rr⟩;obtain⟨v,rfl,rv⟩:=r.one;obtain⟨p,us,rfl,h1,rr⟩:=rv.sql ok;exact⟨p,us,rfl,.inl h1,λl hl=>hg l us hl rr⟩;obtain⟨v,rfl,rv⟩:=r.one;obtain⟨p,us,rfl,h1,rr⟩:=rv.sqs ok;exact⟨p,us,rfl,.inl h1,λl hl=>hg l us hl rr⟩;exact hg.elim;unfold h7 at hg ⊢;split at hg;exact hp _ hg;exact hp _ hg;exact hp _ hg;exact hg.elim
def kC:RF->(RG)->Prop:=λds Q=>match ds with
 |[.tup xs]=>Q<|.tup xs
 |[.lst xs]=>Q<|.tup xs
 |_=>False
theorem rH:eU X (.type "tuple") kC:=by refine⟨⟨_,iQ,λW H vs ds Q ok r hg=>?_⟩,λds P P' hp hg=>?_⟩;unfold kC at hg;split at hg;obtain⟨v,rfl,rv⟩:=r.one;obtain⟨p,us,rfl,h1,rr⟩:=rv.sqt ok;exact⟨p,us,rfl,.inr ⟨h1,hg.now ok rv⟩⟩;obtain⟨v,rfl,rv⟩:=r.one;obtain⟨p,us,rfl,h1,rr⟩:=rv.sql ok;exact⟨p,us,rfl,.inl ⟨h1,λl hl=>hg.tup ok rr hl⟩⟩;exact hg.elim;unfold kC at hg ⊢;split at hg;exact hp _ hg;exact hp _ hg;exact hg.elim
def jJ:RF->(RG)->Prop:=λds Q=>match ds with
 |[.int i]=>Q<|.int (if i<0 then -i else i)
 |_=>False
theorem C1:eU X (.builtin "abs") jJ:=by refine⟨⟨_,oX,λW H vs ds Q ok r hg=>?_⟩,λds P P' hp hg=>?_⟩;unfold jJ at hg;split at hg;obtain⟨v,rfl,rv⟩:=r.one;cases rv;exact⟨_,rfl,hg.now ok<|.int _⟩;exact hg.elim;unfold jJ at hg ⊢;split at hg;exact hp _ hg;exact hg.elim
def k6:RF->(RG)->Prop:=λds Q=>match ds with
 |[.int i,.int j]=>Q<|.int (if j>i then j else i)
 |_=>False
theorem wK(hc:X.calm=true):eU X (.builtin "max") k6:=by refine⟨⟨_,mf hc,λW H vs ds Q ok r hg=>?_⟩,λds P P' hp hg=>?_⟩;unfold k6 at hg;split at hg;obtain⟨v,u,rfl,rv,ru⟩:=r.two;cases rv;cases ru;exact⟨_,_,rfl,hg.now ok<|.int _⟩;exact hg.elim;unfold k6 at hg ⊢;split at hg;exact hp _ hg;exact hg.elim
def i4:RF->(RG)->Prop:=λds Q=>match ds with
 |[.int i]=>Q<|.int i
 |[.bl b]=>Q<|.int (if b then 1 else 0)
 |_=>False
theorem C2:eU X (.type "int") i4:=by refine⟨⟨_,mh,λW H vs ds Q ok r hg=>?_⟩,λds P P' hp hg=>?_⟩;unfold i4 at hg;split at hg;obtain⟨v,rfl,rv⟩:=r.one;cases rv;exact .inl ⟨_,rfl,hg.now ok<|.int _⟩;obtain⟨v,rfl,rv⟩:=r.one;cases rv;exact .inr ⟨_,rfl,hg.now ok<|.int _⟩;exact hg.elim;unfold i4 at hg ⊢;split at hg;exact hp _ hg;exact hp _ hg;exact hg.elim
end
section
variable{pos:Pos}{a:Expr}
def zR:D->Option String
 |.non=>some "NoneType" |.bl _=>some "bool" |.int _=>some "int" |.str _=>some "str" |.tup _=>some "tuple" |.lst _=>some "list" |.dic=>some "dict"
 |.pen=>none|.cls _=>none|.exc _=>none|.ty _=>none|.scr _=>none|.pl _ _=>none
def j4(t T:String):Bool:=t==T||(t == "bool" && T == "int")
def zS:List String:=["int", "bool", "str", "tuple", "list"]
theorem Lg(K:QR){t T:String}(ht:zR d=some t)(hT:T∈zS):PySem.W.kitOne K (.type t) (.type T)=some (j4 t T):=by
 simp only[zS,Yan,iu,or_false]at hT;cases d<;>first
  |(cases ht;done)
  |(cases ht;rcases hT with rfl|rfl|rfl|rfl|rfl<;>rfl)
def gIs:RF->(RG)->Prop:=λds Q=>match ds with|[x,.ty T]=>∃t,zR x=some t/\T∈zS/\Q (.bl<|j4 t T)|_=>False
theorem gIs.mono:∀ds P P',(∀d,P d->P' d)->gIs ds P->gIs ds P':=λds P P' hp hg=>by unfold gIs at hg ⊢;split at hg;obtain⟨t,h1,h2,h3⟩:=hg;exact⟨t,h1,h2,hp _ h3⟩;exact hg.elim
theorem qB:eU X (.builtin "isinstance") gIs:=by
 refine⟨⟨λvs H Q=>∃W ds,WOk W H/\Reps X.K W vs ds/\gIs ds (RQ X.K W H Q),?_,λW H vs ds Q ok r hg=>⟨W,ds,ok,r,hg⟩⟩,gIs.mono⟩;rintro oI s σ H vs us Q I rv ⟨W,ds,ok,rs,hg⟩;unfold gIs at hg;split at hg;rename_i x T;obtain⟨t,h1,h2,q⟩:=hg;obtain⟨v,w',rfl,r1,r2⟩:=rs.two;cases r2;obtain⟨u,u2,rfl,ru,ru2⟩:=rh rv;obtain rfl:u2=Value.type T:=ru2;have e:=Lg X.K h1 h2;have fin:∀tk,EP X oI σ Q (.bool<|j4 t T) { s with toks:=tk }:=λtk=>⟨.bl _,H,I.tok tk,rfl,q.now ok<|.bl _⟩;cases r1 with
 |non=>cases h1;cases ru;exact PySem.W.kia_one PySem.W.kitx_none I.kIn True.intro e (λz=>nomatch z) fin
 |bl b=>cases h1;cases ru;exact PySem.W.kia_one PySem.W.kitx_bool I.kIn True.intro e (λz=>nomatch z) fin
 |int i=>cases h1;obtain⟨t',rfl⟩:=ru;exact PySem.W.kia_one PySem.W.kitx_int I.kIn True.intro e (λz=>nomatch z) fin
 |str i=>cases h1;obtain⟨t',rfl⟩:=ru;exact PySem.W.kia_one PySem.W.kitx_str I.kIn True.intro e (λz=>nomatch z) fin
 |tup e0 rr=>cases h1;cases ru;obtain⟨its,_,⟨o,h1,h2,_⟩,_⟩:=I.tuple<|SqT.of (ok.g _ _ e0);exact PySem.W.kia_one PySem.W.kitx_tuple I.kIn ⟨o,h1,h2⟩ e (λz=>nomatch z) fin
 |ktup e0 rr=>cases h1;cases ru;obtain⟨its,_,⟨o,h1,h2,_⟩,_⟩:=I.tuple<|.inr e0;exact PySem.W.kia_one PySem.W.kitx_tuple I.kIn ⟨o,h1,h2⟩ e (λz=>nomatch z) fin
 |lst e0 rr=>cases h1;cases ru;obtain⟨its,_,⟨o,n,h1,h2,_⟩,_⟩:=I.list<|SqL.of (ok.g _ _ e0);exact PySem.W.kia_one PySem.W.kitx_list I.kIn ⟨o,h1,h2⟩ e (λz=>nomatch z) fin
 | @dic a e0=>cases h1;cases ru;obtain⟨_,_,vs,_,p⟩:=(show ObjOk X.prog X.w H s.heap a (.dK []) from I.hok a _ (ok.g _ _ e0));obtain⟨o,es,ep,h1,h2,_⟩:=p;exact PySem.W.kia_one PySem.W.kitx_dict I.kIn ⟨o,h1,h2.1⟩ e (λz=>nomatch z) fin
 |pen _=>cases h1
 |cls _=>cases h1
 |exc _ _=>cases h1
 |ty _=>cases h1
 |pl _=>cases h1
 |scr _ _=>cases h1
 exact hg.elim
theorem Lh(hc:X.calm=true):dZ X (.builtin "all") (λxs H Q=>∃(p:Addr) (bs:List Bool),xs=[.ref p]/\SqL X.K H p (bs.map V.bl)/\Q (.bl<|bs.all id) H):=by
 intro oI s σ H xs us Q I r h;obtain⟨p,bs,rfl,hq,q⟩:=h;obtain⟨u,rfl,ru⟩:=fP r;cases ru;obtain⟨its,rv,pl,hz⟩:=I.list hq;have hpl:p<s.heap.objs.size:=by obtain⟨o,n,e,_⟩:=pl;exact dC e
 have hits:its=bs.map Value.bool:=by
  clear hz pl hq q;induction bs generalizing its with
  |nil=>cases rv;rfl
  |cons b bs ih=>
   cases rv with
   |cons r1 r2=>
    obtain rfl:_=Value.bool b:=r1;rw[cN,ih _ r2]
 subst hits;refine call_all_walk<|wpAny_pyIter_list pl.isList ?_;have hh:X.A.in1.handled=none:=I.ok.hd hc;refine⟨s.heap.objs.size,_,_,_,_,_,λi=>(bs[i]?).getD true,rfl,Walks.list hh _ p (ip hpl) (bs.map Value.bool).toArray,⟨⟨_,gZ _ rfl,rfl,rfl⟩,pl.isList.at λo e=>dM _ e⟩,λi v s' Q' E' hP hQ=>?_,λh' tk hk=>?_⟩
 have hP':(bs.map Value.bool)[i]? = some v:=by simpa using hP
 rw[cJ]at hP';cases e:bs[i]? with
 |none=>rw[e]at hP';cases hP'
 |some b=>
  rw[e]at hP';have:v=Value.bool b:=(QW hP').symm;subst this;refine Q7 ?_;have e2:(bs[i]?).getD true=b:=by rw[e];rfl
  dsimp only at hQ;rw[e2]at hQ;exact hQ
 have e:((List.range (bs.map Value.bool).toArray.size).all λi=>(bs[i]?).getD true)=bs.all id:=by
  rw[fe,aZ,lA,Ybb,Ybb];constructor;intro h b hb;obtain⟨i,hi,e⟩:=Ybv.mp hb;have:=h i<|Yah.mpr hi;rw[bP hi]at this;rw[<-e];exact this
  intro h i hi;have hi':=Yah.mp hi;rw[bP hi'];exact h _<|gQ hi'
 rw[e];refine⟨.bl<|bs.all id,H,?_,rfl,q⟩;refine I.kept λb o e=>hk b o ?_<|dM _ e;intro z;have:b=s.heap.objs.size:=by simpa using z
 exact QS (dC e) (by rw[this];exact iJ _)
def h8:RF->(RG)->Prop:=λds Q=>match ds with|[.lst xs]=>∃bs:List Bool,xs=bs.map D.bl/\Q (.bl<|bs.all id)|_=>False
theorem FI{K:QR}{W:Wd}:∀{vs:RH} {bs:List Bool},Reps K W vs (bs.map D.bl)->vs=bs.map V.bl
 |_,[],.nil=>rfl|_,b::bs,.cons r t=>by cases r;rw[cN,FI t]
theorem tO(hc:X.calm=true):eU X (.builtin "all") h8:=by refine⟨⟨_,Lh hc,λW H vs ds Q ok r hg=>?_⟩,λds P P' hp hg=>?_⟩;unfold h8 at hg;split at hg;obtain⟨bs,rfl,q⟩:=hg;obtain⟨v,rfl,rv⟩:=r.one;obtain⟨p,us,rfl,h1,rr⟩:=rv.sql ok;rw[FI rr]at h1;exact⟨p,bs,rfl,h1,q.now ok<|.bl _⟩;exact hg.elim;unfold h8 at hg ⊢;split at hg;obtain⟨bs,e,q⟩:=hg;exact⟨bs,e,hp _ q⟩;exact hg.elim
end
section
variable{W:Wd}
theorem SOk.set(s:SOk K W0 H0 W σ H ρ){i:Nat}{v:V}{x:D}(r:Rep K W v x):SOk K W0 H0 W (σ.set i<|some v) H (ρ.set i<|.d x) where
 ext:=s.ext
 len:=by rw[fD,fD];exact s.len
 d:=λj y e=>by by_cases h:i=j;subst h;by_cases hi:i<ρ.length;rw[fY hi]at e;cases e;exact⟨v,fY (by rw[<-s.len];exact hi),r⟩;rw[dX (by rw[fD];omega)]at e;cases e;rw[fc h]at e ⊢;exact s.d j y e
 o:=λj ys e=>by by_cases h:i=j;subst h;by_cases hi:i<ρ.length;rw[fY hi]at e;cases e;rw[dX (by rw[fD];omega)]at e;cases e;rw[fc h]at e ⊢;exact s.o j ys e
 ne:=λj k xs ys a hjk e1 e2 e3=>by
  have nj:i≠j:=λh=>by subst h;by_cases hi:i<ρ.length;rw[fY hi]at e1;cases e1;rw[dX (by rw[fD];omega)]at e1;cases e1
  have nk:i≠k:=λh=>by subst h;by_cases hi:i<ρ.length;rw[fY hi]at e2;cases e2;rw[dX (by rw[fD];omega)]at e2;cases e2
  rw[fc nj]at e1 e3;rw[fc nk]at e2 ⊢;exact s.ne j k xs ys a hjk e1 e2 e3
 oo:=s.oo.set (λ_ h=>by cases h) (λj h=>fc h) λ_ _ h=>by cases h
theorem SOk.own(s1:SOk K W0 H0 W1 σ H1 ρ)(x:Ext W1 H1 W H){a:Addr}(hz:H1 a=none)(h1:H a=some (.lst vs))(h2:W.G a=none)(h3:¬W.Pn a)(r:Reps K W vs xs):SOk K W0 H0 W (σ.set i<|some<|.ref a) H (ρ.set i<|.ow xs):=by
 have s:=s1.step x;have h4:H0 a=none:=s1.ext.isN hz;have hn:∀(j:Nat) ys b,j≠i->ρ[j]? = some (SV.ow ys)->σ[j]? = some (some<|V.ref b)->b≠a:=λj ys b _ ej eb q=>by obtain⟨b',us,q1,q2,_⟩:=s1.o j ys ej;rw[eb]at q1;cases q1;rw[q,hz]at q2;cases q2
 exact{
  ext:=s.ext
  len:=by rw[fD,fD];exact s.len
  d:=λj y e=>by
    by_cases h:i=j
    · subst h
      by_cases hi:i<ρ.length
      · rw[fY hi]at e;cases e
      · rw[dX (by rw[fD];omega)]at e;cases e
    · rw[fc h]at e ⊢;exact s.d j y e
  o:=λj ys e=>by
    by_cases h:i=j
    · subst h
      by_cases hi:i<ρ.length
      · rw[fY hi]at e
        cases e;exact⟨a,vs,fY (by rw[<-s.len];exact hi),h1,h2,h3,h4,r⟩
      · rw[dX (by rw[fD];omega)]at e;cases e
    · rw[fc h]at e ⊢;exact s.o j ys e
  ne:=λj k ys zs b hjk e1 e2 e3 e4=>by
    by_cases hj:i=j
    · subst hj
      by_cases hi:i<ρ.length
      · rw[fY (by rw[<-s.len];exact hi)]at e3
        cases e3;rw[fc hjk]at e2 e4;exact hn k zs _ (QX hjk) e2 e4 rfl
      · rw[dX (by rw[fD];omega)]at e1;cases e1
    · by_cases hk:i=k
      · subst hk
        by_cases hi:i<ρ.length
        · rw[fY (by rw[<-s.len];exact hi)]at e4
          cases e4;rw[fc hj]at e1 e3;exact hn j ys _ (QX hj) e1 e3 rfl
        · rw[dX (by rw[fD];omega)]at e2;cases e2
      · rw[fc hj]at e1 e3
        rw[fc hk]at e2 e4;exact s.ne j k ys zs b hjk e1 e2 e3 e4
  oo:=by
    refine⟨λj xss e=>?_,λj k xss yss e1 e2=>?_⟩
    · have h:i≠j:=λh=>by
        subst h
        by_cases hi:i<ρ.length
        · rw[fY hi]at e;cases e
        · rw[dX (by rw[fD];omega)]at e;cases e
      rw[fc h]at e;obtain⟨a',bs,e1,q,n⟩:=s1.oo.t j xss e;refine⟨a',bs,by rw[fc h];exact e1,q.step x,λk ys c ek ec=>?_⟩
      by_cases hk:i=k
      · subst hk
        by_cases hi:i<ρ.length
        · rw[fY (by rw[<-s.len];exact hi)]at ec
          cases ec;exact q.here hz
        · rw[dX (by rw[fD];omega)]at ek;cases ek
      · rw[fc hk]at ek ec
        exact n k ys c ek ec
    · have g:∀ {j:Nat} {xss:List RF},(ρ.set i<|.ow xs)[j]? = some (SV.oo xss)->ρ[j]? = some (SV.oo xss):=fun {j xss} e=>by
        by_cases h:i=j
        · subst h
          by_cases hi:i<ρ.length
          · rw[fY hi]at e;cases e
          · rw[dX (by rw[fD];omega)]at e;cases e
        · rw[fc h]at e;exact e
      exact s.oo.u j k xss yss (g e1) (g e2) }
def pub(i:Nat)(ρ:cS):cS:=match ρ[i]? with
 |some (.ow xs)=>ρ.set i<|.d (.lst xs)
 |_=>ρ
theorem SOk.pub(s:SOk K W0 H0 W σ H ρ)(i:Nat):∃W',SOk K W0 H0 W' σ H (LP.pub i ρ)/\Wle W W':=by
 unfold LP.pub;split;rename_i xs e;obtain⟨a,vs,e1,e2,e3,e4,e5,r⟩:=s.o i xs e;have hi:i<ρ.length:=(Yap.mp e).1;refine⟨W.put a<|.lst vs,⟨s.ext.pub e5 e2 e4 e3,by rw[fD];exact s.len,λj y ej=>?_,λj ys ej=>?_,λj k ys zs b hjk ej ek e6=>?_,?_⟩,⟨qz e3,λ_ z=>z⟩⟩;by_cases h:i=j;subst h;rw[fY hi]at ej;cases ej;exact⟨_,e1,.lst (by unfold Wd.put;dsimp only;rw[aV])<|r.mono (qz e3) λ_ z=>z⟩;rw[fc h]at ej;obtain⟨v,q1,q2⟩:=s.d j y ej;exact⟨v,q1,q2.mono (qz e3) λ_ z=>z⟩;have h:i≠j:=λh=>by subst h;rw[fY hi]at ej;cases ej
 rw[fc h]at ej;obtain⟨b,us,q1,q2,q3,q4,q5,rr⟩:=s.o j ys ej;have hba:b≠a:=λz=>s.ne i j xs ys a h e ej e1 (by rw[<-z];exact q1);refine⟨b,us,q1,q2,?_,q4,q5,rr.mono (qz e3) λ_ z=>z⟩;unfold Wd.put;dsimp only;rw[aK hba];exact q3;have h:i≠j:=λh=>by subst h;rw[fY hi]at ej;cases ej
 have h':i≠k:=λh=>by subst h;rw[fY hi]at ek;cases ek
 rw[fc h]at ej;rw[fc h']at ek;exact s.ne j k ys zs b hjk ej ek e6;exact OOs.set ⟨λj xss ej=>let⟨a',bs,q1,q,n⟩:=s.oo.t j xss ej;⟨a',bs,q1,q.put (n i xs a e e1) e3,n⟩,s.oo.u⟩ (λ_ h=>by cases h) (λ_ _=>rfl) λ_ _ h=>by cases h
 exact⟨W,s,.refl W⟩
theorem SOk.chg(s:SOk K W0 H0 W σ H ρ){i:Nat}{a:Addr}{xs ys:RF}{us:RH}(e:ρ[i]? = some (.ow xs))(e1:σ[i]? = some (some<|.ref a))(r:Reps K W us ys):SOk K W0 H0 W σ (upd H a<|.lst us) (ρ.set i<|.ow ys):=by
 obtain⟨a',vs,q1,q2,q3,q4,q5,rr⟩:=s.o i xs e;rw[e1]at q1;cases q1;have hi:i<ρ.length:=(Yap.mp e).1;refine⟨s.ext.chg q5 q2 q4 q3,by rw[fD];exact s.len,λj y ej=>?_,λj zs ej=>?_,λj k ys' zs b hjk ej ek e6=>?_,OOs.set ⟨λj xss ej=>let⟨a',bs,p1,q,n⟩:=s.oo.t j xss ej;⟨a',bs,p1,q.upd<|n i xs a e e1,n⟩,s.oo.u⟩ (λ_ h=>by cases h) (λ_ _=>rfl) λys c _ ec j xss a' bs _ ej ea _ n=>n i xs c e ec⟩;have h:i≠j:=λh=>by subst h;rw[fY hi]at ej;cases ej
 rw[fc h]at ej;exact s.d j y ej;by_cases h:i=j;subst h;rw[fY hi]at ej;cases ej;exact⟨a,us,e1,aV,q3,q4,q5,r⟩;rw[fc h]at ej;obtain⟨b,ws,p1,p2,p3,p4,p5,pr⟩:=s.o j zs ej;have hba:b≠a:=λz=>s.ne i j xs zs a h e ej e1 (by rw[<-z];exact p1);exact⟨b,ws,p1,by rw[aK hba];exact p2,p3,p4,p5,pr⟩;by_cases h:i=j;subst h;rw[fc hjk]at ek;exact s.ne i k xs zs b hjk e ek e6;rw[fc h]at ej;by_cases h':i=k;subst h';intro z;exact s.ne i j xs ys' b h e ej z e6;rw[fc h']at ek;exact s.ne j k ys' zs b hjk ej ek e6
end
section
variable{pos:Pos}{rest:List Stmt}{a b:Expr}{z:WS}
def cR:WS:=λ_ N ρ=>N.nx ρ
def aH(z z':WS):WS:=λE N ρ=>z E { N with nx:=z' E N } ρ
theorem Nds.le_nx{N':Nds}(h:N.le N'){n n':cS->Prop}(hn:∀ρ,n ρ->n' ρ):Nds.le { N with nx:=n } { N' with nx:=n' }:=⟨hn,h.rt,h.bk,h.ct⟩
theorem dv:lJ X EX [] cR:=⟨⟨_,qh,λ_ _ _ W σ H ρ _ Dn N s fl _ no h=>no.nx W σ H ρ s fl h⟩,λ_ _ _ _ hl h=>hl.nx _ h⟩
theorem aS(h1:PZ X EX st z)(h2:lJ X EX rest z'):lJ X EX (st::rest) (aH z z'):=by obtain⟨t1,p1,k1⟩:=h1.t;obtain⟨t2,p2,k2⟩:=h2.t;refine⟨⟨_,oH p1 p2,λW0 H0 F W σ H ρ E Dn N s fl eo no h=>?_⟩,λE ρ N N' hl h=>h1.mono _ _ _ _ (Nds.le_nx hl λρ' h'=>h2.mono _ _ _ _ hl h') h⟩;exact k1 W0 H0 F W σ H ρ E _ { N with nx:=z' E N } s fl eo ⟨λW1 σ1 H1 ρ1 s1 f1 hn=>k2 W0 H0 F W1 σ1 H1 ρ1 E Dn N s1 f1 eo no hn,no.rt,no.bk,no.ct⟩ h
theorem aT(h1:PZ X EX st z):lJ X EX [st] z:=by obtain⟨t1,p1,k1⟩:=h1.t;exact⟨⟨_,qi p1,k1⟩,h1.mono⟩
def cc(i:Nat)(z:WS):WS:=λE N ρ=>z E N<|pub i ρ
theorem iw(i:Nat)(h:lJ X EX sts z):lJ X EX sts (cc i z):=by obtain⟨t,p,k⟩:=h.t;refine⟨⟨t,p,λW0 H0 F W σ H ρ E Dn N s fl eo no h=>?_⟩,λE ρ N N' hl q=>h.mono _ _ _ _ hl q⟩;obtain⟨W',s',f'⟩:=s.pub i;exact k W0 H0 F W' σ H _ E Dn N s' (fl.trans f') eo no h
theorem Li:PZ X EX st (λ_ _ _=>False):=⟨⟨_,oJ,λ_ _ _ _ _ _ _ _ _ _ _ _ _ _ h=>h.elim⟩,λ_ _ _ _ _ h=>h⟩
def fK(w:WE):WS:=λE N ρ=>w E ρ λ_=>N.nx ρ
theorem lL(he:PX X EX e w)(hs:{swapsWith e none pos.line X.env=pure false}):PZ X EX (.Expr e pos) (fK w):=by obtain⟨t,p,k⟩:=he.t;refine⟨⟨_,lD p hs,λW0 H0 F W σ H ρ E Dn N s fl eo no h=>?_⟩,λE ρ N N' hl q=>he.mono _ _ _ _ (λ_=>hl.nx ρ) q⟩;exact k W0 H0 W σ H ρ E _ s eo<|he.mono _ _ _ _ (λd hd v W1 H1 x1 r1=>no.nx W1 σ H1 ρ (s.step x1) (fl.ext x1) hd) h
def aI(w:WE):WS:=λE N ρ=>w E ρ N.rt
theorem bC(he:PX X EX e w):PZ X EX (.Return (some e) pos) (aI w):=by obtain⟨t,p,k⟩:=he.t;refine⟨⟨_,sO p,λW0 H0 F W σ H ρ E Dn N s fl eo no h=>?_⟩,λE ρ N N' hl q=>he.mono _ _ _ _ hl.rt q⟩;exact k W0 H0 W σ H ρ E _ s eo<|he.mono _ _ _ _ (λd hd v W1 H1 x1 r1=>no.rt d v W1 H1 (s.ext.trans x1) r1 hd) h
def cP(w:WT)(z z':WS):WS:=λE N ρ=>w E ρ λb=>if b=true then z E N ρ else z' E N ρ
theorem dw{w:WT}{as bs:List Stmt}(hc:kX X EX c w)(ha:lJ X EX as z)(hb:lJ X EX bs z'):PZ X EX (.If c as bs pos) (cP w z z'):=by
 obtain⟨t,p,k⟩:=hc.t;obtain⟨ta,pa,ka⟩:=ha.t;obtain⟨tb,pb,kb⟩:=hb.t;refine⟨⟨_,vJ p pa pb,λW0 H0 F W σ H ρ E Dn N s fl eo no h=>?_⟩,λE ρ N N' hl q=>hc.mono _ _ _ _ (λb hb'=>?_) q⟩;refine k W0 H0 W σ H ρ E _ s eo (hc.mono _ _ _ _ (λb hb' W1 H1 x1=>?_) h);cases b with
 |true=>rw[ks rfl]at hb' ⊢;exact ka W0 H0 F W1 σ H1 ρ E Dn N (s.step x1) (fl.ext x1) eo no hb'|false=>rw[jx<|wp]at hb' ⊢;exact kb W0 H0 F W1 σ H1 ρ E Dn N (s.step x1) (fl.ext x1) eo no hb'
 cases b with
 |true=>rw[ks rfl]at hb' ⊢;exact ha.mono _ _ _ _ hl hb'|false=>rw[jx<|wp]at hb' ⊢;exact hb.mono _ _ _ _ hl hb'
def aQ(i:Nat)(w:WE):WS:=λE N ρ=>w E ρ λx=>N.nx<|ρ.set i (.d x)
theorem cC(i:Nat)(he:PX X EX e w)(hN:X.N.Nodup)(hi:{X.N[i]? = some x})(hx:autoParam (mQ X.env.scope x) RM._auto_1)(hs:{swapsWith e (some<|.Name x pos') pos.line X.env=pure false})
  (hf:autoParam (RB X x) RK._auto_1):PZ X EX (.Assign [.Name x pos'] e pos) (aQ i w):=by
 obtain⟨t,p,k⟩:=he.t;refine⟨⟨_,oN hN hi hx p hs hf,λW0 H0 F W σ H ρ E Dn N s fl eo no h=>?_⟩,λE ρ N N' hl q=>he.mono _ _ _ _ (λ_=>hl.nx _) q⟩;exact k W0 H0 W σ H ρ E _ s eo<|he.mono _ _ _ _ (λd hd v W1 H1 x1 r1=>no.nx W1 _ H1 _ ((s.step x1).set r1) (fl.ext x1) hd) h
def cH(i:Nat)(t:WA):WS:=λE N ρ=>t E ρ λxs=>N.nx<|ρ.set i (.ow xs)
theorem qC(i:Nat){t:WA}(he:PXL X EX e t)(hN:X.N.Nodup)(hi:{X.N[i]? = some x})(hx:autoParam (mQ X.env.scope x) RM._auto_1)(hs:{swapsWith e (some<|.Name x pos') pos.line X.env=pure false})
  (hf:autoParam (RB X x) RK._auto_1):PZ X EX (.Assign [.Name x pos'] e pos) (cH i t):=by
 obtain⟨t,p,k⟩:=he.t;refine⟨⟨_,oN hN hi hx p hs hf,λW0 H0 F W σ H ρ E Dn N s fl eo no h=>?_⟩,λE ρ N N' hl q=>he.mono _ _ _ _ (λ_=>hl.nx _) q⟩;refine k W0 H0 W σ H ρ E _ s eo<|he.mono _ _ _ _ (λxs hd a vs W1 H1 x1 e1 e2 e3 e4 r1=>no.nx W1 _ H1 _ (s.own x1 e4 e1 e2 e3 r1) (fl.ext x1) hd) h
end
def o9(K:QR)(W:Wd)(J:It)(ds:RF):Prop:=
 ∀W2 H2 (i:Nat),(∀a o,W.G a=some o->W2.G a=some o)->(∀a,W.Pn a->W2.Pn a)->WOk W2 H2->
  (∀d,ds[i]? = some d->J.go i H2/\∀x H3,J.yld i H2 x H3->∃W3,Ext W2 H2 W3 H3/\Rep K W3 x d)/\(ds.length<=i->J.stop i H2)
structure lM(X:Cx)(EX:XK)(tg iter:Expr)(w:WA):Prop where
 t:∃t,PI X tg iter t/\∀W0 H0 W σ H ρ E R,SOk X.K W0 H0 W σ H ρ->kv X.K W0 H0 E EX->w E ρ (λds=>∀W' H' J,Ext W H W' H'->o9 X.K W' J ds->R J H')->t σ H R
 mono:∀E ρ P P',(∀d,P d->P' d)->w E ρ P->w E ρ P'
section
variable{pos:Pos}{a b:Expr}
def isL(Q:RF->Prop):D->Prop
 |.lst xs=>Q xs|_=>False
theorem C3{Q:RF->Prop}(h:isL Q d):∃xs,d=.lst xs/\Q xs:=by
 cases d with
 |lst xs=>exact⟨xs,rfl,h⟩|_=>exact h.elim
theorem isL.mono{Q:RF->Prop}(h:∀b,Q b->Q' b):∀d,isL Q d->isL Q' d:=λd z=>by obtain⟨xs,rfl,q⟩:=C3 z;exact h _ q
def zT(Q:RF->Prop):D->Prop
 |.tup xs=>Q xs|_=>False
def iL(w:WE):WA:=λE ρ Q=>w E ρ<|isL Q
def iT(w:WE):WA:=λE ρ Q=>w E ρ<|zT Q
def rng(lo:Int)(n:Nat):RF:=(List.range n).map λ(k:Nat)=>D.int<|lo+k
theorem FJ{W:Wd}(lo:Int)(n:Nat):o9 K W (vN lo n) (rng lo n):=by
 intro W2 H2 i g2 p2 ok2;refine⟨λd hd=>?_,λhi=>?_⟩;unfold rng at hd;rw[cJ]at hd;by_cases hi:i<n;rw[iN hi]at hd;cases hd;refine⟨hi,λx H3 y=>?_⟩;obtain⟨rfl,rfl⟩:=y;exact⟨W2,.refl ok2,.int _⟩;rw[dX<|by simpa using hi]at hd;cases hd;have:(rng lo n).length=n:=by unfold rng;simp
 rw[this]at hi;exact hi
def i1(Q:RF->Prop):RF->Prop
 |[.int j]=>-10000<=j/\j<10000/\Q (rng 0 j.toNat)|_=>False
def i2(Q:RF->Prop):RF->Prop
 |[.int i,.int j]=>(-10000<=i/\i<10000/\-10000<=j/\j<10000)/\Q (rng i (j-i).toNat)|_=>False
theorem i1.mono{Q:RF->Prop}(h:∀b,Q b->Q' b):∀d,i1 Q d->i1 Q' d:=λd z=>by unfold i1 at z ⊢;split at z;exact⟨z.1,z.2.1,h _ z.2.2⟩;exact z.elim
theorem i2.mono{Q:RF->Prop}(h:∀b,Q b->Q' b):∀d,i2 Q d->i2 Q' d:=λd z=>by unfold i2 at z ⊢;split at z;exact⟨z.1,h _ z.2⟩;exact z.elim
def iy(t:WA):WA:=λE ρ Q=>t E ρ<|i1 Q
def jr(t:WA):WA:=λE ρ Q=>t E ρ<|i2 Q
theorem tP{t:WA}(hm:X.mg "range" = none)(ha:kx X EX [a] t)(hg:{Gl X "range"})(hs:{starEach [a] X.env=[(false,eval a X.env)]}):lM X EX tg (.Call (.Name "range" p) [a] [] pos) (iy t):=by
 obtain⟨t,q,k⟩:=ha.t;refine⟨⟨_,l8 hg hm q hs,λW0 H0 W σ H ρ E R s eo h=>?_⟩,λE ρ P P' hp h=>ha.mono _ _ _ _ (i1.mono hp) h⟩;refine k W0 H0 W σ H ρ E _ s eo<|ha.mono _ _ _ _ (λds hd vs W1 H1 x1 r1=>?_) h;unfold i1 at hd;split at hd
 obtain⟨v,rfl,rv⟩:=r1.one;cases rv;exact⟨_,rfl,tv,tv,hd.2.2 W1 H1 _ x1<|FJ _ _⟩;exact hd.elim
theorem C4{t:WA}(hm:X.mg "range" = none)(ha:kx X EX [a,b] t)(hg:{Gl X "range"})(hs:{starEach [a,b] X.env=[(false,eval a X.env),(false,eval b X.env)]})(hs2:{starEach [b] X.env=[(false,eval b X.env)]}) :
  lM X EX tg (.Call (.Name "range" p) [a,b] [] pos) (jr t):=by
 obtain⟨t,q,k⟩:=ha.t;refine⟨⟨_,md hg hm q hs hs2,λW0 H0 W σ H ρ E R s eo h=>?_⟩,λE ρ P P' hp h=>ha.mono _ _ _ _ (i2.mono hp) h⟩;refine k W0 H0 W σ H ρ E _ s eo<|ha.mono _ _ _ _ (λds hd vs W1 H1 x1 r1=>?_) h;unfold i2 at hd;split at hd
 .obtain⟨v,u,rfl,rv,ru⟩:=r1.two
  cases rv;cases ru;exact⟨_,_,rfl,⟨tv,tv,tv,tv⟩,hd.2 W1 H1 _ x1<|FJ _ _⟩
 .exact hd.elim
end
abbrev WG:=D->cS->(cS->Prop)->Prop
variable{g:WG}
def Zh7(ρ:cS):Prop:=∀(i:Nat),(∀xs,ρ[i]?≠some (SV.ow xs))/\∀xss,ρ[i]?≠some (SV.oo xss)
structure pj(X:Cx)(tg:Expr)(g:WG):Prop where
 t:∃t,PG X tg t/\∀W0 H0 W σ H ρ d v Q,SOk X.K W0 H0 W σ H ρ->Rep X.K W v d->g d ρ (λρ'=>∀σ',SOk X.K W0 H0 W σ' H ρ'->Q σ' H)->t v σ H Q
 mono:∀d ρ P P',(∀r,P r->P' r)->g d ρ P->g d ρ P'
 own:∀d ρ P,Zh7 ρ->g d ρ P->g d ρ (λr=>Zh7 r/\P r)
section
variable{pos:Pos}
theorem Zh7.set{ρ:cS}(h:Zh7 ρ)(i:Nat)(d:D):Zh7 (ρ.set i<|.d d):=λj=>by by_cases hj:i=j;subst hj;by_cases hi:i<ρ.length;rw[fY hi];exact⟨λ_ e=>(by cases e),λ_ e=>(by cases e)⟩;rw[dX (by rw[fD];omega)];exact⟨λ_ e=>(by cases e),λ_ e=>(by cases e)⟩;rw[fc hj];exact h j
def gN(i:Nat):WG:=λd ρ k=>k<|ρ.set i (.d d)
theorem bQ(i:Nat)(hN:X.N.Nodup)(hi:{X.N[i]? = some x})(hx:autoParam (mQ X.env.scope x) RM._auto_1)(hf:autoParam (RB X x) RK._auto_1) :
  pj X (.Name x pos) (gN i):=
 ⟨⟨_,qj hN hi hx hf,λW0 H0 W σ H ρ d v Q s r h=>h _<|s.set r⟩,λd ρ P P' hp h=>hp _ h,λd ρ P ho h=>⟨ho.set i d,h⟩⟩
theorem RI{i:Nat}(hd:{decide X.N.Nodup=true})(hi:{X.N[i]? = some x})(hx:autoParam (mQ X.env.scope x) RM._auto_1)(hf:autoParam (RB X x) RK._auto_1) :
  pj X (.Name x pos) (gN i):=bQ i (of_decide_eq_true hd) hi hx hf
end
def Zb2(nv:Nat)(sel:Ry)(ρ:cS):cS:=List.replicate nv .un++sel.map λj=>match ρ[j]? with|some (.d x)=>.d x|_=>.un
theorem Zb2.own(nv:Nat)(sel:Ry)(ρ:cS):Zh7 (Zb2 nv sel ρ):=λi=>by
 have key:∀sv,(Zb2 nv sel ρ)[i]? = some sv->sv=.un\/∃x,sv=.d x:=λsv e=>by
  unfold Zb2 at e;rcases gx i nv with h|h
  rw[mJ<|by simpa using h,p8]at e;rw[ks h]at e;cases e;exact .inl rfl;rw[ly<|by simpa using h,cJ]at e;cases q:sel[i-(List.replicate nv SV.un).length]? with
  |none=>rw[q]at e;cases e
  |some j=>rw[q]at e;have e':=QW e;dsimp only at e';split at e';exact .inr ⟨_,e'.symm⟩;exact .inl e'.symm
 refine⟨λxs e=>?_,λxs e=>?_⟩;rcases key _ e with z|⟨x,z⟩<;>cases z
 rcases key _ e with z|⟨x,z⟩<;>cases z
def No:Ex->Prop:=λ_=>False
def lcW(g:WG)(wf:WT)(we:WE):RF->cS->RF->(RF->Prop)->Prop
 |[],_,acc,Q=>Q acc|d::ds,ρ,acc,Q=>g d ρ λρ2=>wf No ρ2 λb=>if b=true then we No ρ2 λy=>acc.length<aO/\lcW g wf we ds ρ2 (acc++[y]) Q else lcW g wf we ds ρ2 acc Q
structure rJ(X:Cx)(EX:XK)(ifs:List Expr)(w:WT):Prop where
 t:∃t,PF X ifs t/\∀W0 H0 W σ H ρ E Q,SOk X.K W0 H0 W σ H ρ->kv X.K W0 H0 E EX->w E ρ (λb=>∀W' H',Ext W H W' H'->Q b H')->t σ H Q
 mono:∀E ρ P P',(∀d,P d->P' d)->w E ρ P->w E ρ P'
def cU:WT:=λ_ _ Q=>Q true
section
variable{pos:Pos}
theorem fG:rJ X EX [] cU:=⟨⟨_,JS,λ_ _ W _ H _ _ _ s _ h=>h W H<|.refl s.ok⟩,λ_ _ _ _ hp h=>hp _ h⟩
theorem Zh(h:kX X EX c wf):rJ X EX [c] wf:=let⟨t,q,k⟩:=h.t;⟨⟨t,JT q,k⟩,h.mono⟩
theorem lcW.mono(hg:∀d ρ P P',(∀r,P r->P' r)->g d ρ P->g d ρ P')(hf:∀E ρ P P',(∀d,P d->P' d)->wf E ρ P->wf E ρ P')(he:∀E ρ P P',(∀d,P d->P' d)->we E ρ P->we E ρ P') :
  ∀ds ρ acc P P',(∀xs,P xs->P' xs)->lcW g wf we ds ρ acc P->lcW g wf we ds ρ acc P'
 |[],_,acc,P,P',hp,h=>hp _ h
 | d::ds,ρ,acc,P,P',hp,h=>hg _ _ _ _ (λr hr=>hf _ _ _ _ (λb hb=>by
   cases b with
   |true=>rw[ks rfl]at hb ⊢;exact he _ _ _ _ (λy hy=>⟨hy.1,lcW.mono hg hf he ds r _ P P' hp hy.2⟩) hb
   |false=>rw[jx<|wp]at hb ⊢;exact lcW.mono hg hf he ds r _ P P' hp hb) hr) h
def aLC(wi:WA)(nv:Nat)(sel:Ry)(g:WG)(wf:WT)(we:WE):WA:=λE ρ Q=>wi E ρ λds=>lcW g wf we ds (Zb2 nv sel ρ) [] Q
theorem aLC.mono(hi:lM X EX target iter wi)(hg:∀d ρ P P',(∀r,P r->P' r)->g d ρ P->g d ρ P')(hf:∀E ρ P P',(∀d,P d->P' d)->wf E ρ P->wf E ρ P')(he:∀E ρ P P',(∀d,P d->P' d)->we E ρ P->we E ρ P') :
  ∀E ρ P P',(∀d,P d->P' d)->aLC wi vars.length sel g wf we E ρ P->aLC wi vars.length sel g wf we E ρ P':=λE ρ P P' hp h=>hi.mono _ _ _ _ (λds hds=>lcW.mono hg hf he ds _ _ _ _ hp hds) h
theorem SOk.lc{W:Wd}(s:SOk X.K W0 H0 W σ H ρ)(nv:Nat)(sel:Ry):SOk X.K W0 H0 W (gH nv sel σ) H (Zb2 nv sel ρ) where
 ext:=s.ext
 len:=by unfold Zb2 gH;simp
 d:=λi x e=>by
  unfold Zb2 at e;rcases gx i nv with h|h
  rw[mJ<|by simpa using h,p8]at e;split at e<;>cases e;rw[ly<|by simpa using h,cJ,qU]at e;cases q:sel[i-nv]? with
  |none=>rw[q]at e;cases e
  |some j=>rw[q]at e;have e':=QW e;dsimp only at e';split at e';rename_i y ey;cases e';obtain⟨v,ev,r⟩:=s.d j x ey;refine⟨v,?_,r⟩;unfold gH;rw[ly<|by simpa using h,qU,cJ,q];show some ((σ[j]?).getD none)=_;rw[ev];rfl;cases e'
 o:=λi xs e=>QS e<|(Zb2.own nv sel ρ i).1 xs
 ne:=λi j xs ys a _ e=>QS e<|(Zb2.own nv sel ρ i).1 xs
 oo:=.none λi=>(Zb2.own nv sel ρ i).2
theorem SOk.chgD{W:Wd}{a:Addr}{o':HO}(s:SOk K W0 H0 W σ H ρ)(ho:Zh7 ρ)(h0:H0 a=none)(h1:H a=some o)(h2:¬W.Pn a)(h3:W.G a=none):SOk K W0 H0 W σ (upd H a o') ρ:=
 ⟨s.ext.chg h0 h1 h2 h3,s.len,s.d,λi xs e=>QS e<|(ho i).1 xs,λi j xs ys a _ e=>QS e<|(ho i).1 xs,.none λi=>(ho i).2⟩
theorem C5(hi:lM X EX target iter wi)(hg:∀s H fp,pj (X.lc sc vars sel s H fp) target g)(hf:∀s H fp,rJ (X.lc sc vars sel s H fp) E0 ifs wf)(he:∀s H fp,PX (X.lc sc vars sel s H fp) E0 elt we) :
  ∃(ti:TI) (tg:TG) (tf:TT) (te:TE),PI X target iter ti/\(∀s H fp,PG (X.lc sc vars sel s H fp) target tg)/\(∀s H fp,PF (X.lc sc vars sel s H fp) ifs tf)/\(∀s H fp,PE (X.lc sc vars sel s H fp) elt te)/\
   ∀W0 H0 W σ H ρ E Q,SOk X.K W0 H0 W σ H ρ->kv X.K W0 H0 E EX->
    aLC wi vars.length sel g wf we E ρ (λds=>∀a vs W' H',Ext W H W' H'->H' a=some (.lst vs)->W'.G a=none->¬W'.Pn a->H a=none->Reps X.K W' vs ds->Q (.ref a) H')->CB ti vars.length sel tg tf te σ H Q:=by
 obtain⟨ti,pi,ki⟩:=hi.t;refine ⟨ti,λv σ H Q=>∃ W0 H0 W ρ d,SOk X.K W0 H0 W σ H ρ/\Rep X.K W v d/\g d ρ (λρ'=>∀ σ',SOk X.K W0 H0 W σ' H ρ'->Q σ' H),
  λσ H Q=>∃W0 H0 W ρ,SOk X.K W0 H0 W σ H ρ/\wf No ρ (λb=>∀W' H',Ext W H W' H'->Q b H'),
  λσ H Q=>∃W0 H0 W ρ,SOk X.K W0 H0 W σ H ρ/\we No ρ (RQ X.K W H Q),pi,λs1 H1 fp=>?_,λs1 H1 fp=>?_,λs1 H1 fp=>?_,?_⟩
 .obtain⟨t,q,k⟩:=(hg s1 H1 fp).t
  rintro oI s σ H v u Q I r ⟨W0,H0,W,ρ,d,s',r',h⟩;exact q oI s σ H v u Q I r<|k W0 H0 W σ H ρ d v Q s' r' h
 .obtain⟨t,q,k⟩:=(hf s1 H1 fp).t
  rintro oI s σ H Q I ⟨W0,H0,W,ρ,s',h⟩;exact q oI s σ H Q I<|k W0 H0 W σ H ρ No Q s' (λ_ _ _ _ _ z=>z.elim) h
 .obtain⟨t,q,k⟩:=(he s1 H1 fp).t
  rintro oI s σ H Q I ⟨W0,H0,W,ρ,s',h⟩;exact q oI s σ H Q I<|k W0 H0 W σ H ρ No Q s' (λ_ _ _ _ _ z=>z.elim) h
 .have gm:=(hg {} (λ_=>none) []).mono
  have go:=(hg {} (λ_=>none) []).own;have fm:=(hf {} (λ_=>none) []).mono;have em:=(he {} (λ_=>none) []).mono;intro W0 H0 W σ H ρ E Q s eo h;refine ki W0 H0 W σ H ρ E _ s eo<|hi.mono _ _ _ _ (λds hds W1 H1 J x1 it D hD=>?_) h;have hDf:=x1.ok.fresh hD;have hD0:H0 D=none:=s.ext.isN<|x1.isN hD;refine ⟨λi m ys σ2 H2=>m=ds.length - i/\i<=ds.length/\∃ W2 ρ2 acc,Ext W1 H1 W2 H2/\SOk X.K W0 H0 W2 σ2 H2 ρ2/\Zh7 ρ2/\H2 D=some (.lst ys)/\W2.G D=none/\¬ W2.Pn D/\Reps X.K W2 ys acc/\
   lcW g wf we (ds.drop i) ρ2 acc (λds=>∀a vs W' H',Ext W H W' H'->H' a=some (.lst vs)->W'.G a=none->¬W'.Pn a->H a=none->Reps X.K W' vs ds->Q (.ref a) H'),⟨_,rfl,jw _,W1,_,[],.new x1.ok hD,?_,Zb2.own _ _ ρ,aV,hDf.1,hDf.2,.nil,by rw[qV];exact hds⟩,?_⟩
  .exact(((s.step x1).step<|.new x1.ok hD).lc vars.length sel)
  .rintro i m ys σ2 H2 ⟨rfl,hi',W2,ρ2,acc,x2,s2,no2,hD2,g2,p2,r2,q2⟩
   refine⟨hD2,?_⟩;obtain⟨itg,its⟩:=it W2 H2 i x2.g x2.p x2.ok;rcases gx i ds.length with hlt|hge
   .have hd:ds[i]? = some ds[i]:=bP hlt
    obtain⟨go',yl⟩:=itg _ hd;refine .inr ⟨go',λx H3 y=>?_⟩;obtain⟨W3,x3,r3⟩:=yl x H3 y;rw[qW hlt]at q2;have keepD:∀{W' H'},Ext W2 H2 W' H'->H' D=some (.lst ys)/\W'.G D=none/\¬W'.Pn D:=λ{W' H'} x'=>by
     refine⟨x'.h D _ hD2 p2,?_,λz=>?_⟩
     .cases q:W'.G D with|none=>rfl|some o=>have:=x'.gf D g2 (by rw[q];simp);rw[hD2]at this;cases this
     .have:=x'.pf D p2 z;rw[hD2]at this;cases this
    refine⟨W0,H0,W3,ρ2,ds[i],s2.step x3,r3,gm _ _ _ _ (λρ4 hr σ4 s4=>?_)<|go _ _ _ no2 q2⟩;obtain⟨no4,hr⟩:=hr;refine⟨W0,H0,W3,ρ4,s4,fm _ _ _ _ (λb hb W5 H5 x5=>?_) hr⟩;cases b with
    |false=>
     rw[jx<|wp]at hb ⊢;have kD:=keepD<|x3.trans x5;exact⟨ds.length-(i+1),tv,rfl,hlt,W5,ρ4,acc,x2.trans<|x3.trans x5,s4.step x5,no4,kD.1,kD.2.1,kD.2.2,(x3.trans x5).reps r2,hb⟩
    |true=>
     rw[ks rfl]at hb ⊢;refine⟨W0,H0,W5,ρ4,s4.step x5,em _ _ _ _ (λy hy v W6 H6 x6 r6=>?_) hb⟩;have xx:=x3.trans<|x5.trans x6;have kD:=keepD xx;have hl:ys.length=acc.length:=r2.length;refine⟨kD.1,by rw[hl];exact dP hy.1<|pQ<|bU _,ds.length-(i+1),tv,rfl,hlt,W6,ρ4,acc++[y],(x2.trans xx).chg hD kD.1 kD.2.2 kD.2.1,?_,no4,aV,kD.2.1,kD.2.2,(xx.reps r2).append<|.cons r6 .nil,hy.2⟩;exact((s4.step x5).step x6).chgD no4 hD0 kD.1 kD.2.2 kD.2.1
   .have e:i=ds.length:=tv
    refine .inl ⟨its hge,?_⟩;rw[zk hge]at q2;exact q2 D ys W2 H2 (x1.trans x2) hD2 g2 p2 (x1.isN hD) r2
theorem f9(vars:Rv)(sel:Ry)(hc:X.calm=true)(hi:lM X EX target iter wi)(hg:∀s H fp,pj (X.lc sc vars sel s H fp) target g)(hf:∀s H fp,rJ (X.lc sc vars sel s H fp) E0 ifs wf)(he:∀s H fp,PX (X.lc sc vars sel s H fp) E0 elt we)
  (ok:{kq sc X.env.scope=true}) (so:{pL X.N sc sel=true}) (hs:autoParam (∀x,foldedSetIterable iter X.env x=pure x) RL._auto_1):PXL X EX (.ListComp elt [⟨target,iter,ifs,0⟩] sc pos) (aLC wi vars.length sel g wf we):=by
 obtain⟨ti,tg,tf,te,pi,pg,pf,pe,k⟩:=C5 hi hg hf he;exact⟨⟨_,wd vars sel hc pi ok so pg pf pe hs,k⟩,aLC.mono hi (hg {} (λ_=>none) []).mono (hf {} (λ_=>none) []).mono (he {} (λ_=>none) []).mono⟩
theorem tQ(i:Nat)(vars:Rv)(sel:Ry)(hc:X.calm=true)(hN:X.N.Nodup)(hi:lM X EX target iter wi)(hg:∀s H fp,pj (X.lc sc vars sel s H fp) target g)(hf:∀s H fp,rJ (X.lc sc vars sel s H fp) E0 ifs wf)(he:∀s H fp,PX (X.lc sc vars sel s H fp) E0 elt we)
  (hix:{X.N[i]? = some x}) (hx:autoParam (mQ X.env.scope x) RM._auto_1)
  (hsw:{swapsWith (.ListComp elt [⟨target,iter,ifs,0⟩] sc pos) (some<|.Name x pos') spos.line X.env=pure true})
  (ok:{kq sc X.env.scope=true}) (so:{pL X.N sc sel=true}) (hs:autoParam (∀x,foldedSetIterable iter X.env x=pure x) RL._auto_1) (hfn:autoParam (RB X x) RK._auto_1) :
  PZ X EX (.Assign [.Name x pos'] (.ListComp elt [⟨target,iter,ifs,0⟩] sc pos) spos) (cH i<|aLC wi vars.length sel g wf we):=by
 obtain⟨ti,tg,tf,te,pi,pg,pf,pe,k⟩:=C5 hi hg hf he;have am:=aLC.mono (vars:=vars) (sel:=sel) hi (hg {} (λ_=>none) []).mono (hf {} (λ_=>none) []).mono (he {} (λ_=>none) []).mono;refine⟨⟨_,Fv vars sel hc hN hix hx pi ok so pg pf pe hsw hs hfn,λW0 H0 F W σ H ρ E Dn N s fl eo no h=>?_⟩,λE ρ N N' hl q=>am _ _ _ _ (λ_=>hl.nx _) q⟩;refine k W0 H0 W σ H ρ E _ s eo<|am _ _ _ _ (λxs hd a vs W1 H1 x1 e1 e2 e3 e4 r1=>no.nx W1 _ H1 _ (s.own x1 e4 e1 e2 e3 r1) (fl.ext x1) hd) h
def Zbh(g:WG)(zb:WS)(E:RE)(N:Nds):RF->cS->Prop
 |[],ρ=>N.nx ρ|d::ds,ρ=>g d ρ λρ1=>zb E { nx:=Zbh g zb E N ds,rt:=N.rt,bk:=N.nx,ct:=Zbh g zb E N ds } ρ1
def bS(wi:WA)(g:WG)(zb:WS):WS:=λE N ρ=>wi E ρ λds=>Zbh g zb E N ds ρ
theorem Zbh.mono{zb:WS}(hg:∀d ρ P P',(∀r,P r->P' r)->g d ρ P->g d ρ P')(hb:∀E ρ N N',N.le N'->zb E N ρ->zb E N' ρ){E:RE}{N N':Nds}(hl:N.le N'):∀ds ρ,Zbh g zb E N ds ρ->Zbh g zb E N' ds ρ
 |[],ρ,h=>hl.nx _ h|d::ds,ρ,h=>hg _ _ _ _ (λr hr=>hb E r { nx:=Zbh g zb E N ds,rt:=N.rt,bk:=N.nx,ct:=Zbh g zb E N ds } _ ⟨Zbh.mono hg hb hl ds,hl.rt,hl.nx,Zbh.mono hg hb hl ds⟩ hr) h
theorem iz(hp:PassesOwn (model X.prog X.w) X.A X.env X.xe)(hc:X.calm=true)(hi:lM X EX target iter wi)(hg:pj X target g)(hb:lJ X EX body zb)
  (hs:autoParam (∀x,foldedSetIterable iter X.env x=pure x) RL._auto_1):PZ X EX (.For target iter body [] pos) (bS wi g zb):=by
 obtain⟨ti,pi,ki⟩:=hi.t;obtain⟨tg,pg,kg⟩:=hg.t;obtain⟨tb,pb,kb⟩:=hb.t;refine⟨⟨_,sY hp hc pi pg pb hs,λW0 H0 F W σ H ρ E Dn N s fl eo no h=>?_⟩,λE ρ N N' hl q=>hi.mono _ _ _ _ (λds hds=>Zbh.mono hg.mono hb.mono hl ds ρ hds) q⟩;refine ki W0 H0 W σ H ρ E _ s eo<|hi.mono _ _ _ _ (λds hds W1 H1 J x1 it=>?_) h;refine⟨λi m σ2 H2=>m=ds.length-i/\i<=ds.length/\∃W2 ρ2,SOk X.K W0 H0 W2 σ2 H2 ρ2/\Wle W1 W2/\Zbh g zb E N (ds.drop i) ρ2,⟨_,rfl,jw _,W1,ρ,s.step x1,.refl W1,by rw[qV];exact hds⟩,?_⟩;rintro i m σ2 H2 ⟨rfl,hi',W2,ρ2,s2,f2,q2⟩;obtain⟨itg,its⟩:=it W2 H2 i f2.g f2.p s2.ok;have fF:∀{V:Wd},Wle W1 V->Wle F V:=λf=>(fl.ext x1).trans f;rcases gx i ds.length with hlt|hge
 .have hd:ds[i]? = some ds[i]:=bP hlt
  obtain⟨go',yl⟩:=itg _ hd;rw[qW hlt]at q2;refine .inr ⟨go',λσ3 H3=>∃W3 ρ3,SOk X.K W0 H0 W3 σ3 H3 ρ3/\Wle W1 W3/\Zbh g zb E N (ds.drop<|i+1) ρ3,λσ3 H3 ⟨W3,ρ3,s3,f3,q3⟩=>⟨ds.length-(i+1),tv,rfl,hlt,W3,ρ3,s3,f3,q3⟩,λx H3 y=>?_⟩;obtain⟨W3,x3,r3⟩:=yl x H3 y;refine kg W0 H0 W3 σ2 H3 ρ2 ds[i] x _ (s2.step x3) r3<|hg.mono _ _ _ _ (λρ4 hr σ4 s4=>?_) q2;refine kb W0 H0 W1 W3 σ4 H3 ρ4 E _ { nx:=Zbh g zb E N<|ds.drop<|i+1,rt:=N.rt,bk:=N.nx,ct:=Zbh g zb E N (ds.drop<|i+1) } s4 (f2.ext x3) eo ⟨λW5 σ5 H5 ρ5 s5 f5 h5=>⟨W5,ρ5,s5,f5,h5⟩,no.rt,λW5 σ5 H5 ρ5 s5 f5 h5=>no.nx W5 σ5 H5 ρ5 s5 (fF f5) h5,λW5 σ5 H5 ρ5 s5 f5 h5=>⟨W5,ρ5,s5,f5,h5⟩⟩ hr
 .have e:i=ds.length:=tv
  refine .inl ⟨its hge,?_⟩;rw[zk hge]at q2;exact no.nx W2 σ2 H2 ρ2 s2 (fF f2) q2
end
def fL(N:Rv)(ds:RF):cS:=ds.map .d++List.replicate (N.length-ds.length) .un
abbrev Rd(S:RF->(RE)->(RG)->Prop)(z:WS)(N:Rv):Prop:=∀ds E Q,S ds E Q->z E { nx:=λ_=>Q .non,rt:=Q } (fL N ds)
theorem Lj{W:Wd}{N:Rv}(ok:WOk W H)(r:Reps K W vs ds):SOk K W H W (start N vs) H (fL N ds) where
 ext:=.refl ok
 len:=by unfold fL L2.start;simp[r.length]
 d:=λi x e=>by
  unfold fL at e;rcases gx i ds.length with h|h
  rw[mJ<|by simpa using h,cJ]at e;cases q:ds[i]? with
  |none=>rw[q]at e;cases e
  |some y=>rw[q]at e;cases e;obtain⟨v,ev,rv⟩:=r.get q;refine⟨v,?_,rv⟩;unfold L2.start;rw[mJ (by rw[aZ,r.length];exact h),cJ,ev];rfl
  rw[ly<|by simpa using h,p8]at e;split at e<;>cases e
 o:=λi xs e=>by
  unfold fL at e;rcases gx i ds.length with h|h
  rw[mJ<|by simpa using h,cJ]at e;cases q:ds[i]? with
  |none=>rw[q]at e;cases e
  |some y=>rw[q]at e;cases e
  rw[ly<|by simpa using h,p8]at e;split at e<;>cases e
 ne:=λi j xs ys a _ e=>by
  unfold fL at e;rcases gx i ds.length with h|h
  rw[mJ<|by simpa using h,cJ]at e;cases q:ds[i]? with
  |none=>rw[q]at e;cases e
  |some y=>rw[q]at e;cases e
  rw[ly<|by simpa using h,p8]at e;split at e<;>cases e
 oo:=.none λi xs e=>by
  unfold fL at e;rcases gx i ds.length with h|h
  rw[mJ<|by simpa using h,cJ]at e;cases q:ds[i]? with
  |none=>rw[q]at e;cases e
  |some y=>rw[q]at e;cases e
  rw[ly<|by simpa using h,p8]at e;split at e<;>cases e
section
variable{P:Program}{w:World}
theorem tR{qual:Str}{f:Addr}{N:Rv}{z:WS}(F:Fun K x qual st f fd)(sc:eZ N ps (aP st))(len:∀ds E Q,S ds E Q->ds.length=ps.length)
  (hbody:∀ (cdv:Value) (A:Around) (outer:List Env) (s:Shared) (H:Hp) (E:XK),Room k (A.deeper<|envOfC qual (aP st) s.heap.objs.size f cdv)->
   dQ (fM P w) (ei (fM P w) P w K mg base N qual (aP st) f cdv A outer s H E) E->kW (ei (fM P w) P w K mg base N qual (aP st) f cdv A outer s H E) E->
   lJ (ei (fM P w) P w K mg base N qual (aP st) f cdv A outer s H E) E (cI st) z)
  (h:∀ds E Q,S ds E Q->z E { nx:=λ_=>Q .non,rt:=Q } (fL N ds)):gF P w K mg base (fM P w) (k+1) f fd ps (jH K S):=by
 obtain⟨oc,od,kV,doc,pm,an,cdv,ct,osl,rfl,lk,hcd⟩:=F.ex;refine vU lk hcd sc (λvs H Q E hs=>?_) λA outer s H vs Q E hr hs=>?_
 .obtain⟨ds,W,_,r,hS⟩:=hs
  rw[r.length];exact len _ _ _ hS
 .obtain⟨ds,W,ok,r,hS⟩:=hs
  obtain⟨t,p,k⟩:=(hbody cdv A outer s H E hr J0 J1).t;refine ⟨t,p,k W H W W (start N vs) H (fL N ds) (λex=>∀ W' H' cls dx,Ext W H W' H'->CP K W' H' cls dx ex->E cls dx H') _ { nx:=λ_=>RQ K W H Q .non,rt:=RQ K W H Q } (Lj ok r) (.refl W) (λex W' H' cls dx he x r=>he W' H' cls dx x r)
   ⟨λW1 σ1 H1 ρ1 s1 _ q=>q _ W1 H1 s1.ext .non,λd v W1 H1 x1 r1 q=>q v W1 H1 x1 r1,λ_ _ _ _ _ _ q=>q.elim,λ_ _ _ _ _ _ q=>q.elim⟩ (h ds _ _ hS)⟩
end
structure Fp(P:Program)(w:World)(K:QR)(mg:K8)(base:Heap)(k:Nat)(x:Str)(ps:Rv)(S:bN):Prop where
 ok:∃f fd,gF P w K mg base (fM P w) k f fd ps (jH K S)/\mg x=some (.ref f)/\PySem.W.keepIn K (.ref f)=true/\Binds K fd ps []
 mono:rC S
section
variable{pos:Pos}{t:WA}
theorem aM(G:Fp X.prog X.w X.K X.mg X.base k x ps S)(hr:Room j X.A)(hx:dQ (fM X.prog X.w) X EX)(ha:kx X EX (e::es) t)(hk:(k<=j:))(hg:{Gl X x})(hdb:(RA x:))(he:{RC X e es})(hpl:{RD X pos es}) :
  PX X EX (.Call (.Name x p) (e::es) [] pos) (wF S t):=by
 obtain⟨f,fd,F,hm,kp,hb⟩:=G.ok;exact K0 F G.mono (hr.mono hk) hm kp hb hx ha hg hdb he hpl
def bH(z:WS):WS:=λ_ N ρ=>z No N ρ
theorem gT{z:WS}(h:PZ X.nox E0 st z):PZ X EX st (bH z):=by obtain⟨t,p,k⟩:=h.t;refine⟨⟨t,λoI s σ H D I hw=>QY (p oI s σ H D (I.wish _) hw) (λ_ _ q=>q.unwish) λ_ _ z=>Ri z,λW0 H0 F W σ H ρ E Dn N s fl eo no q=>k W0 H0 F W σ H ρ No Dn N s fl (λ_ _ _ _ _ z=>z.elim) no q⟩,λE ρ N N' hl q=>h.mono _ _ _ _ hl q⟩
end
section
variable{pos:Pos}{a b:Expr}
def isS(Q:RF->Prop):D->Prop
 |.lst xs=>Q xs|.tup xs=>Q xs|_=>False
theorem isS.mono{Q:RF->Prop}(h:∀b,Q b->Q' b):∀d,isS Q d->isS Q' d:=λd z=>by cases d<;>first|exact h _ z|exact z
def iS(w:WE):WA:=λE ρ Q=>w E ρ<|isS Q
theorem fk(he:PX X EX e w):lM X EX tg e (iS w):=by
 obtain⟨t,q,k⟩:=he.t;refine⟨⟨_,J3 q,λW0 H0 W σ H ρ E R s eo h=>?_⟩,λE ρ P P' hp h=>he.mono _ _ _ _ (isS.mono hp) h⟩;refine k W0 H0 W σ H ρ E _ s eo<|he.mono _ _ _ _ (λd hd v W1 H1 x1 r1=>?_) h;have keyT:∀{l:Addr} {vs:RH} {xs:RF},(∀W' H' J,Ext W H W' H'->o9 X.K W' J xs->R J H')->(∀W2 H2,(∀a o,W1.G a=some o->W2.G a=some o)->WOk W2 H2->SqT X.K H2 l vs)->Reps X.K W1 vs xs->(∃ys,SqT X.K H1 l ys)/\R (Co X.K l) H1:=by intro l vs xs hq sq rr;refine⟨⟨vs,sq W1 H1 (λ_ _ z=>z) x1.ok⟩,hq W1 H1 _ x1 λW2 H2 i g2 p2 ok2=>⟨λd hd=>?_,λhi=>⟨vs,sq W2 H2 g2 ok2,by rw[rr.length];exact hi⟩⟩⟩;obtain⟨v,ev,rv⟩:=rr.get hd;refine⟨⟨vs,v,sq W2 H2 g2 ok2,ev⟩,λx H3 y=>?_⟩;obtain⟨rfl,y⟩:=y;have:=y vs<|sq W2 _ g2 ok2;rw[ev]at this;cases this;exact⟨W2,.refl ok2,rv.mono g2 p2⟩
 cases r1 with
 | @lst l vs xs e1 rr=>have hq:∀W' H' J,Ext W H W' H'->o9 X.K W' J xs->R J H':=hd;refine⟨l,rfl,.inl ⟨⟨vs,SqL.of<|x1.ok.g _ _ e1⟩,hq W1 H1 _ x1 λW2 H2 i g2 p2 ok2=>⟨λd hd=>?_,λhi=>⟨vs,SqL.of<|ok2.g _ _<|g2 _ _ e1,by rw[rr.length];exact hi⟩⟩⟩⟩;obtain⟨v,ev,rv⟩:=rr.get hd;have sq:SqL X.K H2 l vs:=SqL.of<|ok2.g _ _ (g2 _ _ e1);refine⟨⟨vs,v,sq,ev⟩,λx H3 y=>?_⟩;obtain⟨rfl,y⟩:=y;have:=y vs sq;rw[ev]at this;cases this;exact⟨W2,.refl ok2,rv.mono g2 p2⟩
 |tup e1 rr=>exact⟨_,rfl,.inr<|keyT hd (λW2 H2 g2 ok2=>SqT.of<|ok2.g _ _<|g2 _ _ e1) rr⟩|ktup e1 rr=>exact⟨_,rfl,.inr<|keyT hd (λW2 H2 g2 ok2=>.inr e1) rr⟩|non=>exact hd.elim|bl _=>exact hd.elim|int _=>exact hd.elim|str _=>exact hd.elim|dic _=>exact hd.elim|pen _=>exact hd.elim|cls _=>exact hd.elim|exc _ _=>exact hd.elim|ty _=>exact hd.elim|pl _=>exact hd.elim|scr _ _=>exact hd.elim
theorem qD{T:String}(hm:X.mg x=none)(hv:bootBuiltins x=some (.type T))(hg:{Gl X x})(hn:(x≠ "__name__":))(hd:(RA x:)):PX X EX (.Name x pos) (wC<|.ty T):=
 KR (v:=.ty T) hm hv rfl (λ_=>.ty T) hg hn hd
theorem Lk{i:Int}{t:Tok}(hm:X.mg x=some (.int i t))(hg:{Gl X x})(hd:(RA x:)):PX X EX (.Name x pos) (wC<|.int i):=
 FF (v:=.int i) hm ⟨t,rfl⟩ (λ_=>.int i) hg hd
theorem Ll{a:Addr}(hm:X.mg x=some (.ref a))(hk:KT X.K a vs)(hr:∀W,Reps X.K W vs ds)(hg:{Gl X x})(hd:(RA x:)):PX X EX (.Name x pos) (wC<|.tup ds):=
 FF (v:=.ref a) hm rfl (λW=>.ktup hk<|hr W) hg hd
end
theorem Lm{neg:Bool}{i j:Int}(h:Q (.bl (if neg then !(i==j) else i==j))):gEq neg (.int i) (.int j) Q:=by refine⟨.int i,.int j,rfl,rfl,rfl,rfl,?_⟩;exact h
theorem k9{neg:Bool}{i j:Int}:gEq neg (.int i) (.int j) Q↔Q (.bl (if neg then !(i==j) else i==j)):=
 ⟨λ⟨p,q,h1,h2,_,_,h⟩=>by cases h1;cases h2;exact h,Lm⟩
section
variable{pos:Pos}{a b:Expr}
abbrev tS:=RF->cS->(cS->Prop)->Prop
structure qE(X:Cx)(ts:List Expr)(g:tS):Prop where
 t:∃t,vK X ts t/\∀W0 H0 W σ H ρ ds vs Q,SOk X.K W0 H0 W σ H ρ->Reps X.K W vs ds->g ds ρ (λρ'=>∀σ',SOk X.K W0 H0 W σ' H ρ'->Q σ' H)->t vs σ H Q
 mono:∀d ρ P P',(∀r,P r->P' r)->g d ρ P->g d ρ P'
 own:∀d ρ P,Zh7 ρ->g d ρ P->g d ρ (λr=>Zh7 r/\P r)
def cV:tS:=λds ρ k=>match ds with|[]=>k ρ|_=>False
def bL(g:WG)(gs:tS):tS:=λds ρ k=>match ds with
 |d::ds=>g d ρ λρ'=>gs ds ρ' k
 |_=>False
theorem gb:qE X [] cV:=by
 refine⟨⟨_,qk,λW0 H0 W σ H ρ ds vs Q s r h=>?_⟩,λd ρ P P' hp h=>?_,λd ρ P ho h=>?_⟩;cases r with
 |nil=>exact⟨rfl,h σ s⟩|cons _ _=>exact h.elim
 cases d with
 |nil=>exact hp _ h|cons _ _=>exact h.elim
 cases d with
 |nil=>exact⟨ho,h⟩|cons _ _=>exact h.elim
theorem dc{gs:tS}(h1:pj X e g)(h2:qE X es gs)(hs:{(assignEach (e::es) X.env).map (·.2)=assign e X.env::(assignEach es X.env).map (·.2)}):qE X (e::es) (bL g gs):=by
 obtain⟨t1,p1,k1⟩:=h1.t;obtain⟨t2,p2,k2⟩:=h2.t;refine⟨⟨_,oK p1 p2 hs,λW0 H0 W σ H ρ ds vs Q s r h=>?_⟩,λd ρ P P' hp h=>?_,λd ρ P ho h=>?_⟩;cases r with
 |nil=>exact h.elim|cons r rr=>exact⟨_,_,rfl,k1 W0 H0 W σ H ρ _ _ _ s r<|h1.mono _ _ _ _ (λρ' h' σ' s'=>k2 W0 H0 W σ' H ρ' _ _ Q s' rr h') h⟩
 cases d with
 |nil=>exact h.elim|cons d ds=>exact h1.mono _ _ _ _ (λr hr=>h2.mono _ _ _ _ hp hr) h
 cases d with
 |nil=>exact h.elim|cons d ds=>exact h1.mono _ _ _ _ (λr hr=>h2.own _ _ _ hr.1 hr.2)<|h1.own _ _ _ ho h
def de(n:Nat)(gs:tS):WG:=λd ρ k=>match d with|.tup xs=>xs.length=n/\gs xs ρ k|_=>False
theorem ge{gs:tS}(hc:X.calm=true)(h:qE X es gs)(hn:{(assignEach es X.env).length=n})(hst:{(assignEach es X.env).findIdx? (·.1)=none}):pj X (.Tuple es k pos) (de n gs):=by obtain⟨t,p,kk⟩:=h.t;refine⟨⟨_,sS hc p hn hst,λW0 H0 W σ H ρ d v Q s r q=>?_⟩,λd ρ P P' hp q=>?_,λd ρ P ho q=>?_⟩;unfold de at q;split at q;obtain⟨a,vs,rfl,h1,rr⟩:=r.sqt s.ok;exact⟨a,vs,rfl,h1,rr.length.trans q.1,kk W0 H0 W σ H ρ _ _ Q s rr q.2⟩;exact q.elim;unfold de at q ⊢;split at q;exact⟨q.1,h.mono _ _ _ _ hp q.2⟩;exact q.elim;unfold de at q ⊢;split at q;exact⟨q.1,h.own _ _ _ ho q.2⟩;exact q.elim
def eu(w:WE)(g:WG):WS:=λE N ρ=>w E ρ λd=>g d ρ N.nx
theorem C6(he:PX X EX e w)(hg:pj X tg g)(hs:{swapsWithSole [tg] e pos.line X.env=pure false})(hw:{swappedStores [tg] e X.env=pure none})
  (h1:{(assignEach [tg] X.env).map (·.2)=[assign tg X.env]}):PZ X EX (.Assign [tg] e pos) (eu w g):=by
 obtain⟨t,p,k⟩:=he.t;obtain⟨t2,p2,k2⟩:=hg.t;refine⟨⟨_,kM p p2 hs hw h1,λW0 H0 F W σ H ρ E Dn N s fl eo no h=>?_⟩,λE ρ N N' hl q=>he.mono _ _ _ _ (λd hd=>hg.mono _ _ _ _ hl.nx hd) q⟩;refine k W0 H0 W σ H ρ E _ s eo<|he.mono _ _ _ _ (λd hd v W1 H1 x1 r1=>?_) h;exact k2 W0 H0 W1 σ H1 ρ d v _ (s.step x1) r1<|hg.mono _ _ _ _ (λρ' h' σ' s'=>no.nx W1 σ' H1 ρ' s' (fl.ext x1) h') hd
def ez(i j:Nat)(t:WA):WS:=λE N ρ=>t E ρ λds=>match ds with
 |[x,y]=>N.nx<|(ρ.set i<|.d x).set j (.d y)
 |_=>False
theorem C7(i j:Nat){y:Str}{t:WA}{px py pt:Pos}{kt k2 pt2}(hN:X.N.Nodup)(ha:kx X EX [a,b] t)(hc:{X.calm=true})(hi:{X.N[i]? = some x})(hj:{X.N[j]? = some y})(hij:(i≠j:))
  (hx:{X.env.scope.names.lookup x=some .local}) (hy:{X.env.scope.names.lookup y=some .local})
  (hw:{swappedStores [.Tuple [.Name x px,.Name y py] kt pt] (.Tuple [a,b] k2 pt2) X.env=pure (some [x,y])})
  (hs:{swapsWithSole [.Tuple [.Name x px,.Name y py] kt pt] (.Tuple [a,b] k2 pt2) pos.line X.env=pure false}) :
  PZ X EX (.Assign [.Tuple [.Name x px,.Name y py] kt pt] (.Tuple [a,b] k2 pt2) pos) (ez i j t):=by
 obtain⟨ta,p,k⟩:=ha.t;refine⟨⟨_,sU hc hN hi hj hij hx hy p hw hs,λW0 H0 F W σ H ρ E Dn N s fl eo no h=>?_⟩,λE ρ N N' hl q=>ha.mono _ _ _ _ (λds hd=>?_) q⟩
 .refine k W0 H0 W σ H ρ E _ s eo (ha.mono _ _ _ _ (λds hd vs W1 H1 x1 r1=>?_) h)
  split at hd
  .obtain⟨v,u,rfl,rv,ru⟩:=r1.two
   exact⟨v,u,rfl,no.nx W1 _ H1 _ (((s.step x1).set rv).set ru) (fl.ext x1) hd⟩
  .exact hd.elim
 .split at hd
  .exact hl.nx _ hd
  .exact hd.elim
def Zl(c:WT)(zb:WS):WS:=λE N ρ=>∃I:Nat->cS->Prop,(∃m,I m ρ)/\∀m ρ,I m ρ->c E ρ λb=>
 if b=true then zb E { nx:=λρ'=>∃m',m'<m/\I m' ρ',rt:=N.rt,bk:=N.nx,ct:=λρ'=>∃m',m'<m/\I m' ρ' } ρ else N.nx ρ
theorem C8(hp:PassesOwn (model X.prog X.w) X.A X.env X.xe)(hc:kX X EX c wt)(hb:lJ X EX body zb):PZ X EX (.While c body [] pos) (Zl wt zb):=by
 obtain⟨tc,pc,kc⟩:=hc.t;obtain⟨tb,pb,kb⟩:=hb.t;refine⟨⟨_,oO hp pc pb,λW0 H0 F W σ H ρ E Dn N s fl eo no h=>?_⟩,λE ρ N N' hl q=>?_⟩;obtain⟨I,⟨m0,i0⟩,turn⟩:=h;refine⟨λm σ H=>∃W ρ,SOk X.K W0 H0 W σ H ρ/\Wle F W/\I m ρ,⟨m0,W,ρ,s,fl,i0⟩,?_⟩;rintro m σ2 H2 ⟨W2,ρ2,s2,f2,i2⟩;refine kc W0 H0 W2 σ2 H2 ρ2 E _ s2 eo<|hc.mono _ _ _ _ (λb hb' W3 H3 x3=>?_) (turn m ρ2 i2);cases b with
 |true=>
  rw[ks rfl]at hb' ⊢;refine⟨λσ4 H4=>∃m',m'<m/\∃W ρ,SOk X.K W0 H0 W σ4 H4 ρ/\Wle F W/\I m' ρ,λσ4 H4 ⟨m',hm,q⟩=>⟨m',hm,q⟩,?_⟩;exact kb W0 H0 F W3 σ2 H3 ρ2 E _ { nx:=λρ'=>∃m',m'<m/\I m' ρ',rt:=N.rt,bk:=N.nx,ct:=λρ'=>∃m',m'<m/\I m' ρ' } (s2.step x3) (f2.ext x3) eo
   ⟨λW5 σ5 H5 ρ5 s5 f5 ⟨m',hm,q⟩=>⟨m',hm,W5,ρ5,s5,f5,q⟩,no.rt,λW5 σ5 H5 ρ5 s5 f5 q=>no.nx W5 σ5 H5 ρ5 s5 f5 q,λW5 σ5 H5 ρ5 s5 f5 ⟨m',hm,q⟩=>⟨m',hm,W5,ρ5,s5,f5,q⟩⟩ hb'
 |false=>rw[jx<|wp]at hb' ⊢;exact no.nx W3 σ2 H3 ρ2 (s2.step x3) (f2.ext x3) hb'
 obtain⟨I,i0,turn⟩:=q;refine⟨I,i0,λm ρ i=>hc.mono _ _ _ _ (λb hb'=>?_)<|turn m ρ i⟩;cases b with
 |true=>rw[ks rfl]at hb' ⊢;exact hb.mono E ρ { nx:=λρ'=>∃m',m'<m/\I m' ρ',rt:=N.rt,bk:=N.nx,ct:=λρ'=>∃m',m'<m/\I m' ρ' } _ ⟨λ_ z=>z,hl.rt,hl.nx,λ_ z=>z⟩ hb'|false=>rw[jx<|wp]at hb' ⊢;exact hl.nx _ hb'
theorem Ln{tc:TT}(hc:PT X c tc)(hs:{exec (.Assert c none pos) X.env=(do standAt pos;if<-isTrue c X.env (eval c X.env) then pure .next else assertFails c.pos (evalOpt none X.env))}):PS X (.Assert c none pos) (λD σ H=>tc σ H λb H1=>b=true/\D.nx σ H1):=by intro oI s σ H D I h;rw[hs];refine QP<|Q9 (QP<|bK (hc oI s σ H _ I h) λb s1 ⟨H1,I1,e,q⟩=>?_);subst e;rw[ks rfl];exact QQ ⟨σ,H1,I1,q⟩
def kE(c:WT):WS:=λE N ρ=>c E ρ λb=>b=true/\N.nx ρ
theorem Lo(hc:kX X EX c wt)(hs:{exec (.Assert c none pos) X.env=(do standAt pos;if<-isTrue c X.env (eval c X.env) then pure .next else assertFails c.pos (evalOpt none X.env))}):PZ X EX (.Assert c none pos) (kE wt):=by obtain⟨tc,pc,kc⟩:=hc.t;refine⟨⟨_,Ln pc hs,λW0 H0 F W σ H ρ E Dn N s fl eo no h=>?_⟩,λE ρ N N' hl q=>hc.mono _ _ _ _ (λb hb=>⟨hb.1,hl.nx _ hb.2⟩) q⟩;exact kc W0 H0 W σ H ρ E _ s eo<|hc.mono _ _ _ _ (λb hb W1 H1 x1=>⟨hb.1,no.nx W1 σ H1 ρ (s.step x1) (fl.ext x1) hb.2⟩) h
def df(i:Nat)(w:WE):WS:=λE N ρ=>match ρ[i]? with
 |some (.ow xs)=>w E ρ λd=>xs.length<aO/\N.nx (ρ.set i<|.ow<|xs++[d])
 |_=>False
theorem uV(i:Nat)(he:PX X EX e w)(hN:{X.N[i]? = some x})(hv:autoParam (qd X.env.scope x) RN._auto_1)(hd:(RA x:))
  (hcd:((x==("__classdict__" : Str))=false:)) (hbase:{attributeBase (.Name x p) "append" X.env (eval (.Name x p) X.env)=eval (.Name x p) X.env})
  (hfew:{((backTo cpos<|starEach [e] X.env).all (λx=>!x.1)&&(backToKw cpos<|keywordEach [] X.env).all (λx=>x.1.isSome)&&decide ([e].length+([]:List Keyword).length+(if([]:List Keyword).isEmpty then 0 else 1)<30))=true})
  (hline:{(apos.endLine==cpos.line)=true}) (hs:{starEach [e] X.env=(false,eval e X.env)::starEach [] X.env}) (hplain:{(backTo cpos<|starEach [] X.env).any (·.1)=false})
  (hsw:{swapsWith (.Call (.Attribute (.Name x p) "append" apos) [e] [] cpos) none pos.line X.env=pure false}):PZ X EX (.Expr (.Call (.Attribute (.Name x p) "append" apos) [e] [] cpos) pos) (df i w):=by
 obtain⟨t,pe,k⟩:=he.t;refine⟨⟨_,lD (v6 PySem.F.plainAttrs_list PySem.F.slot_list_append PySem.F.type_list_append ml (hU hN hv hd hcd) (lF pe oY hs) hbase hfew hline hs hplain) hsw,λW0 H0 F W σ H ρ E Dn N s fl eo no h=>?_⟩,λE ρ N N' hl q=>?_⟩
 .unfold df at h
  split at h
  .rename_i xs ex
   obtain⟨a,vs,e1,e2,e3,e4,e5,r⟩:=s.o i xs ex;refine⟨_,e1,.inl ⟨rfl,vs,SqL.of e2⟩,?_⟩;refine k W0 H0 W σ H ρ E _ s eo<|he.mono _ _ _ _ (λd hd v W1 H1 x1 r1=>?_) h;have e2':=x1.h a _ e2 e4;refine⟨a,vs,v,rfl,rfl,e2',by rw[r.length];exact dP hd.1<|pQ<|bU _,?_⟩;exact no.nx W1 σ _ _ ((s.step x1).chg ex e1<|(x1.reps r).append<|.cons r1 .nil) (fl.ext x1) hd.2
  .exact h.elim
 .unfold df at q ⊢
  split at q
  .exact he.mono _ _ _ _ (λd hd=>⟨hd.1,hl.nx _ hd.2⟩) q
  .exact q.elim
end
section
variable{pos ps:Pos}{a b:Expr}
theorem Rep.sq{W:Wd}{v:V}{Q:RF->Prop}(r:Rep K W v d)(h:isS Q d):∃κ l vs xs,v=.ref l/\Reps K W vs xs/\Q xs/\∀W2 H2,(∀a o,W.G a=some o->W2.G a=some o)->WOk W2 H2->Sq K κ H2 l vs:=by
 cases r with
 |lst e1 rr=>exact⟨false,_,_,_,rfl,rr,h,λW2 H2 g ok=>SqL.of<|ok.g _ _<|g _ _ e1⟩|tup e1 rr=>exact⟨true,_,_,_,rfl,rr,h,λW2 H2 g ok=>SqT.of<|ok.g _ _<|g _ _ e1⟩|ktup e1 rr=>exact⟨true,_,_,_,rfl,rr,h,λW2 H2 g ok=>.inr e1⟩|_=>exact h.elim
def cQ(xs ys:RF):RF:=List.zipWith (λx y=>.tup [x,y]) xs ys
def iZ(t:WA):WA:=λE ρ Q=>t E ρ λds=>match ds with|[x,y]=>isS (λxs=>isS (λys=>Q<|cQ xs ys) y) x|_=>False
theorem uW{t:WA}(hm:X.mg "zip" = none)(ha:kx X EX [a,b] t)(hg:{Gl X "zip"})(hs:{starEach [a,b] X.env=[(false,eval a X.env),(false,eval b X.env)]})(hs2:{starEach [b] X.env=[(false,eval b X.env)]}) :
  lM X EX (.Tuple es n1 ps) (.Call (.Name "zip" p) [a,b] [] pos) (iZ t):=by
 obtain⟨t,q,k⟩:=ha.t;refine⟨⟨_,Ka hg hm q hs hs2,λW0 H0 W σ H ρ E R s eo h=>?_⟩,λE ρ P P' hp h=>ha.mono _ _ _ _ (λds hd=>?_) h⟩
 .refine k W0 H0 W σ H ρ E _ s eo (ha.mono _ _ _ _ (λds hd vs W1 H1 x1 r1=>?_) h)
  split at hd
  .obtain⟨v,u,rfl,rv,ru⟩:=r1.two
   obtain⟨κ,l,vs,xs,rfl,rr,hd,sq⟩:=rv.sq hd;obtain⟨κ',l',us,ys,rfl,rr',hd,sq'⟩:=ru.sq hd;refine⟨κ,κ',l,l',rfl,⟨vs,sq W1 H1 (λ_ _ z=>z) x1.ok⟩,⟨us,sq' W1 H1 (λ_ _ z=>z) x1.ok⟩,hd W1 H1 _ x1 λW2 H2 i g2 p2 ok2=>⟨λd hd=>?_,λhi=>?_⟩⟩
   .have s1:=sq W2 H2 g2 ok2
    have s2:=sq' W2 H2 g2 ok2;unfold cQ at hd;rw[zm]at hd;cases ex:xs[i]? with
    |none=>rw[ex]at hd;cases hd
    |some x=>
     cases ey:ys[i]? with
     |none=>rw[ex,ey]at hd;cases hd
     |some y=>
      rw[ex,ey]at hd;cases hd;obtain⟨vx,evx,rvx⟩:=rr.get ex;obtain⟨vy,evy,rvy⟩:=rr'.get ey;refine⟨⟨vs,us,vx,vy,s1,s2,evx,evy⟩,λz H3 hy=>?_⟩;obtain⟨q,x',y',rfl,hq,rfl,e1,e2⟩:=hy;have e1:=e1 _ s1;have e2:=e2 _ s2;rw[evx]at e1;rw[evy]at e2;cases e1;cases e2;have xt:=Ext.put (o:=.tup [vx,vy]) ok2 hq;exact⟨_,xt,.tup (by unfold Wd.put;dsimp only;rw[aV])<|.cons (xt.rep<|rvx.mono g2 p2)<|.cons (xt.rep<|rvy.mono g2 p2) .nil⟩
   .refine⟨vs,us,sq W2 H2 g2 ok2,sq' W2 H2 g2 ok2,?_⟩
    rw[rr.length,rr'.length];unfold cQ at hi;rw[g6]at hi;omega
  .exact hd.elim
 .split at hd
  .exact isS.mono (λxs h1=>isS.mono (λys h2=>hp _ h2) _ h1) _ hd
  .exact hd.elim
def iA(i:Nat)(wi wv:WE):WS:=λE N ρ=>match ρ[i]? with
 |some (.ow xs)=>wv E ρ λd=>wi E ρ (isI λk=>∃j,kS xs.length k=some j/\N.nx (ρ.set i<|.ow<|xs.set j d))
 |_=>False
theorem FK(i:Nat){wi:WE}(hix:PX X EX ix wi)(he:PX X EX e wv)(hN:{X.N[i]? = some x})(hv:autoParam (qd X.env.scope x) RN._auto_1)(hd:(RA x:))
  (hcd:((x==("__classdict__" : Str))=false:))
  (ha:autoParam (∀ v,assign (.Subscript (.Name x p) ix spos) X.env v=(do
   let ov <-holding [v] (eval (.Name x p) X.env)
   let iv <-holding [v,ov] (eval ix X.env)
   standAt spos
   holding [v,ov,iv] (setItem ov iv v)
   release [v,ov,iv] [])) RL._auto_1)
  (hs:{swapsWithSole [.Subscript (.Name x p) ix spos] e pos.line X.env=pure false}) (hw:{swappedStores [.Subscript (.Name x p) ix spos] e X.env=pure none})
  (h1:{(assignEach [.Subscript (.Name x p) ix spos] X.env).map (·.2)=[assign (.Subscript (.Name x p) ix spos) X.env]}):PZ X EX (.Assign [.Subscript (.Name x p) ix spos] e pos) (iA i wi wv):=by
 obtain⟨t,pe,k⟩:=he.t;obtain⟨ti,pi,ki⟩:=hix.t;refine⟨⟨_,kM pe (oM (hU hN hv hd hcd) pi j0 ha) hs hw h1,λW0 H0 F W σ H ρ E Dn N s fl eo no h=>?_⟩,λE ρ N N' hl q=>?_⟩
 .unfold iA at h
  split at h
  .rename_i xs ex
   obtain⟨a,vs,e1,e2,e3,e4,e5,r⟩:=s.o i xs ex;refine k W0 H0 W σ H ρ E _ s eo<|he.mono _ _ _ _ (λd hd v W1 H1 x1 r1=>⟨_,e1,?_⟩) h;refine ki W0 H0 W1 σ H1 ρ E _ (s.step x1) eo<|hix.mono _ _ _ _ (λdi hdi vi W2 H2 x2 r2=>?_) hd;obtain⟨kk,rfl,j,hj,hn⟩:=uT hdi;cases r2;have xx:=x1.trans x2;have e2':=xx.h a _ e2 e4;refine⟨a,vs,kk,j,rfl,rfl,e2',by rw[r.length];exact hj,?_⟩;exact no.nx W2 σ _ _ ((s.step xx).chg ex e1<|Reps.set (x2.rep r1) j<|xx.reps r) (fl.ext xx) hn
  .exact h.elim
 .unfold iA at q ⊢
  split at q
  .exact he.mono _ _ _ _ (λd hd=>hix.mono _ _ _ _ (isI.mono λkk ⟨j,hj,hn⟩=>⟨j,hj,hl.nx _ hn⟩) hd) q
  .exact q.elim
end
mutual
def gk:D->Bool
 |.lst _=>false|.scr _=>false|.dic=>false|.tup xs=>pk xs|.non=>true|.bl _=>true|.int _=>true|.str _=>true|.pen=>true|.cls _=>true|.exc _=>true|.ty _=>true|.pl _ _=>true
def pk:RF->Bool
 |[]=>true|x::r=>gk x&&pk r
end
def Wd.rem(W:Wd)(a:Addr):Wd:=⟨λb=>if b=a then none else W.G b,W.Pn⟩
section
variable{W:Wd}{a:Addr}
theorem Wd.rem_ne{b:Addr}(h:b≠a):(W.rem a).G b=W.G b:=by unfold Wd.rem;dsimp only;rw[jx h]
theorem Wd.rem_same:(W.rem a).G a=none:=by unfold Wd.rem;dsimp only;rw[ks rfl]
mutual
theorem Rep.rem(h:W.G a=some (.lst us)):∀{v:V} {d:D},Rep K W v d->gk d=true->Rep K (W.rem a) v d
 |_,_,.non,_=>.non|_,_,.bl b,_=>.bl b|_,_,.int i,_=>.int i|_,_,.str x,_=>.str x|_,_,.tup e r,f=>.tup (by rw[Wd.rem_ne (λz=>by rw[z,h]at e;cases e)];exact e)<|Reps.rem h r (by rw[gk]at f;exact f)
 |_,_,.ktup e r,f=>.ktup e<|Reps.rem h r (by rw[gk]at f;exact f)
 |_,_,.lst e r,f=>by rw[gk]at f;cases f
 |_,_,.scr e r,f=>by rw[gk]at f;cases f
 |_,_,.dic e,f=>by rw[gk]at f;cases f
 |_,_,.pen e,_=>.pen e|_,_,.cls e,_=>.cls e|_,_,.exc e n x,_=>.exc (by rw[Wd.rem_ne (λz=>by rw[z,h]at e;cases e)];exact e) n λc f k q=>let⟨d,e1,e2⟩:=x c f k q;⟨d,e1,by rw[Wd.rem_ne (λz=>by rw[z,h]at e2;cases e2)];exact e2⟩
 |_,_,.ty n,_=>.ty n|_,_,.pl q,_=>.pl (q.keep λc o e m=>by rw[Wd.rem_ne λz=>m us (by rw[z,h]at e;cases e;rfl)];exact e)
theorem Reps.rem(h:W.G a=some (.lst us)):∀{vs:RH} {ds:RF},Reps K W vs ds->pk ds=true->Reps K (W.rem a) vs ds
 |_,_,.nil,_=>.nil|_,_,.cons r t,f=>by rw[pk,d9]at f;exact .cons (Rep.rem h r f.1)<|Reps.rem h t f.2
end
theorem Ext.bor(x:Ext (W.put a<|.lst us) H W2 H2)(hg:W.G a=none):Ext W H (W2.rem a) H2 where
 ok:=⟨λb o e=>by
   by_cases hb:b=a
   .subst hb;rw[Wd.rem_same]at e;cases e
   .rw[Wd.rem_ne hb]at e;exact x.ok.g b o e,
  λb hb=>⟨(x.ok.p b hb).1,by
   by_cases hba:b=a
   .subst hba;exact Wd.rem_same
   .rw[Wd.rem_ne hba];exact(x.ok.p b hb).2⟩⟩
 g:=λb o e=>by
  have hb:b≠a:=λz=>by rw[z,hg]at e;cases e
  rw[Wd.rem_ne hb];exact x.g b o (by unfold Wd.put;dsimp only;rw[aK hb];exact e)
 p:=x.p
 gf:=λb e n=>by by_cases hb:b=a;subst hb;exact QS Wd.rem_same n;rw[Wd.rem_ne hb]at n;exact x.gf b (by unfold Wd.put;dsimp only;rw[aK hb];exact e) n
 pf:=x.pf
 h:=x.h
theorem SOk.pubAt(s:SOk K W0 H0 W σ H ρ)(e:ρ[i]? = some (.ow xs))(e1:σ[i]? = some (some<|V.ref a))(e2:H a=some (.lst us))(e3:W.G a=none)(e4:¬W.Pn a)(e5:H0 a=none)(r:Reps K W us xs) :
  SOk K W0 H0 (W.put a<|.lst us) σ H (LP.pub i ρ):=by
 have ep:LP.pub i ρ=ρ.set i (.d<|.lst xs):=by unfold LP.pub;rw[e]
 rw[ep];have hi:i<ρ.length:=(Yap.mp e).1;refine⟨s.ext.pub e5 e2 e4 e3,by rw[fD];exact s.len,λj y ej=>?_,λj ys ej=>?_,λj k ys zs b hjk ej ek e6=>?_,OOs.set ⟨λj xss ej=>let⟨a',bs,q1,q,n⟩:=s.oo.t j xss ej;⟨a',bs,q1,q.put (n i xs a e e1) e3,n⟩,s.oo.u⟩ (λ_ h=>by cases h) (λ_ _=>rfl) λ_ _ h=>by cases h⟩
 .by_cases h:i=j
  .subst h
   rw[fY hi]at ej;cases ej;exact⟨_,e1,.lst (by unfold Wd.put;dsimp only;rw[aV])<|r.mono (qz e3) λ_ z=>z⟩
  .rw[fc h]at ej
   obtain⟨v,q1,q2⟩:=s.d j y ej;exact⟨v,q1,q2.mono (qz e3) λ_ z=>z⟩
 .have h:i≠j:=λh=>by subst h;rw[fY hi]at ej;cases ej
  rw[fc h]at ej;obtain⟨b,us',q1,q2,q3,q4,q5,rr⟩:=s.o j ys ej;have hba:b≠a:=λz=>s.ne i j xs ys a h e ej e1 (by rw[<-z];exact q1);refine⟨b,us',q1,q2,?_,q4,q5,rr.mono (qz e3) λ_ z=>z⟩;unfold Wd.put;dsimp only;rw[aK hba];exact q3
 .have h:i≠j:=λh=>by subst h;rw[fY hi]at ej;cases ej
  have h':i≠k:=λh=>by subst h;rw[fY hi]at ek;cases ek
  rw[fc h]at ej;rw[fc h']at ek;exact s.ne j k ys zs b hjk ej ek e6
theorem SOk.lend(s:SOk K W0 H0 W σ H ρ)(i:Nat):(LP.pub i ρ=ρ)\/∃a us,SOk K W0 H0 (W.put a<|.lst us) σ H (LP.pub i ρ)/\W.G a=none/\H a=some (.lst us)/\(W.put a<|.lst us).G a=some (.lst us):=by
 cases e:ρ[i]? with
 |none=>exact .inl (by unfold LP.pub;rw[e])
 |some sv=>
  cases sv with
  |un=>exact .inl (by unfold LP.pub;rw[e])|d x=>exact .inl (by unfold LP.pub;rw[e])|oo xss=>exact .inl (by unfold LP.pub;rw[e])
  |ow xs=>
   obtain⟨a,us,e1,e2,e3,e4,e5,r⟩:=s.o i xs e;exact .inr ⟨a,us,s.pubAt e e1 e2 e3 e4 e5 r,e3,e2,by unfold Wd.put;dsimp only;rw[aV]⟩
end
section
variable{pos ps:Pos}{a b:Expr}
def eH(i:Nat)(w:WE):WE:=λE ρ Q=>w E (pub i ρ) λd=>gk d=true/\Q d
theorem Lp(i:Nat)(he:PX X EX e w):PX X EX e (eH i w):=by
 obtain⟨t,q,k⟩:=he.t;refine⟨⟨t,q,λW0 H0 W σ H ρ E Q s eo h=>?_⟩,λE ρ P P' hp h=>he.mono _ _ _ _ (λd hd=>⟨hd.1,hp _ hd.2⟩) h⟩;unfold eH at h;rcases s.lend i with ep|⟨a,us,s',e3,e2,e6⟩
 rw[ep]at h;exact k W0 H0 W σ H ρ E Q s eo<|he.mono _ _ _ _ (λd hd=>hd.2) h
 exact k W0 H0 _ σ H _ E Q s' eo<|he.mono _ _ _ _ (λd hd v W2 H2 x2 r2=>hd.2 v _ H2 (x2.bor e3)<|r2.rem (x2.g _ _ e6) hd.1) h
def fT(i:Nat)(w:WT):WT:=λE ρ Q=>w E (pub i ρ) Q
def dJ(i:Nat)(t:WA):WA:=λE ρ Q=>t E (pub i ρ) λds=>pk ds=true/\Q ds
theorem FL(i:Nat){t:WA}(he:PXL X EX e t):PXL X EX e (dJ i t):=by
 obtain⟨t,q,k⟩:=he.t;refine⟨⟨t,q,λW0 H0 W σ H ρ E Q s eo h=>?_⟩,λE ρ P P' hp h=>he.mono _ _ _ _ (λd hd=>⟨hd.1,hp _ hd.2⟩) h⟩;unfold dJ at h;rcases s.lend i with ep|⟨a,us,s',e3,e2,e6⟩
 rw[ep]at h;exact k W0 H0 W σ H ρ E Q s eo<|he.mono _ _ _ _ (λd hd=>hd.2) h
 refine k W0 H0 _ σ H _ E Q s' eo (he.mono _ _ _ _ (λd hd b vs W2 H2 x2 h1 h2 h3 h4 r2=>?_) h);have hb:b≠a:=λz=>by rw[z,e2]at h4;cases h4
 exact hd.2 b vs _ H2 (x2.bor e3) h1 (by rw[Wd.rem_ne hb];exact h2) h3 h4<|r2.rem (x2.g _ _ e6) hd.1
def fU(i:Nat)(wb:WE):WE:=λE ρ Q=>match ρ[i]? with|some (.ow xs)=>wb E ρ (isI λk=>∃d,et xs k=some d/\Q d)|_=>False
def NL(K:QR)(W:Wd)(H:Hp)(Q:VK)(ds:RF):Prop:=∀a vs W' H',Ext W H W' H'->H' a=some (.lst vs)->W'.G a=none->¬W'.Pn a->H a=none->Reps K W' vs ds->Q (.ref a) H'
theorem NL.new{K:QR}{W W1:Wd}{H H1:Hp}{Q:VK}{ds:RF}{vs:RH}(h:NL K W H Q ds)(x1:Ext W H W1 H1)(r:Reps K W1 vs ds){q:Addr}(hq:H1 q=none):Q (.ref q) (upd H1 q<|.lst vs):=
 h q vs W1 _ (x1.trans<|.new x1.ok hq) aV (x1.ok.fresh hq).1 (x1.ok.fresh hq).2 (x1.isN hq) r
def fo(wa wb:WE):WA:=λE ρ Q=>wa E ρ<|isL λxs=>wb E ρ (isL λys=>xs.length+ys.length<=aO/\Q (xs++ys))
theorem Lq(ha:PX X EX a wa)(hb:PX X EX b wb):PXL X EX (.BinOp a .Add b pos) (fo wa wb):=by obtain⟨ta,pa,ka⟩:=ha.t;obtain⟨tb,pb,kb⟩:=hb.t;refine⟨⟨_,re ZoG pa pb,λW0 H0 W σ H ρ E Q s eo h=>?_⟩,λE ρ P P' hp h=>ha.mono _ _ _ _ (isL.mono λxs hx=>hb.mono _ _ _ _ (isL.mono λys hy=>⟨hy.1,hp _ hy.2⟩) hx) h⟩;refine ka W0 H0 W σ H ρ E _ s eo<|ha.mono _ _ _ _ (λd hd v W1 H1 x1 r1=>?_) h;obtain⟨xs,rfl,hd⟩:=C3 hd;refine kb W0 H0 W1 σ H1 ρ E _ (s.step x1) eo<|hb.mono _ _ _ _ (λd hd u W2 H2 x2 r2=>?_) hd;obtain⟨ys,rfl,hd⟩:=C3 hd;obtain⟨p,vs,rfl,h1,q1⟩:=(x2.rep r1).sql x2.ok;obtain⟨q,us,rfl,h2,q2⟩:=r2.sql x2.ok;exact⟨p,q,vs,us,rfl,rfl,h1,h2,by rw[q1.length,q2.length];exact pQ hd.1,λa ha=>NL.new hd.2 (x1.trans x2) (q1.append q2) ha⟩
def fV(wa wb:WE):WA:=λE ρ Q=>wa E ρ<|isL λxs=>wb E ρ (isI λk=>k<1000/\-1000<k/\xs.length*k.toNat<=aO/\Q (List.replicate k.toNat xs).flatten)
def aCut(wa:WE)(wl wh:(RE)->cS->(Option Int->Prop)->Prop):WA:=λE ρ Q=>wa E ρ λx=>wl E ρ λl=>wh E ρ λh=>match x with
 |.lst xs=>Q<|cL xs l h
 |.scr xs=>Q<|cL xs l h
 |_=>False
theorem aCut.mono{wl wh}{lo hi:Option Expr}(ha:PX X EX a wa)(hl:rD X EX lo wl)(hh:rD X EX hi wh):∀E ρ P P',(∀d,P d->P' d)->aCut wa wl wh E ρ P->aCut wa wl wh E ρ P':=
 λE ρ P P' hp h=>ha.mono _ _ _ _ (λx hx=>hl.mono _ _ _ _ (λl hl'=>hh.mono _ _ _ _ (λu hu=>by
  split at hu
  .exact hp _ hu
  .exact hp _ hu
  .exact hu.elim) hl') hx) h
theorem Lr{wl wh}(ha:PX X EX a wa)(hl:rD X EX lo wl)(hh:rD X EX hi wh):PXL X EX (.Subscript a (.Slice lo hi none p2) pos) (aCut wa wl wh):=by
 obtain⟨ta,pa,ka⟩:=ha.t;obtain⟨tl,pl,kl⟩:=hl.t;obtain⟨th,ph,kh⟩:=hh.t;refine⟨⟨_,jX sl_list pa pl ph,λW0 H0 W σ H ρ E Q s eo h=>?_⟩,aCut.mono ha hl hh⟩;refine ka W0 H0 W σ H ρ E _ s eo<|ha.mono _ _ _ _ (λdx hx v W1 H1 x1 r1=>?_) h;refine kl W0 H0 W1 σ H1 ρ E _ (s.step x1) eo<|hl.mono _ _ _ _ (λl hl' W2 H2 x2=>?_) hx;refine kh W0 H0 W2 σ H2 ρ E _ ((s.step x1).step x2) eo<|hh.mono _ _ _ _ (λu hu W3 H3 x3=>?_) hl';have r3:=(x2.trans x3).rep r1;split at hu
 obtain⟨p,vs,rfl,h1,rr⟩:=r3.sql x3.ok;exact⟨p,vs,rfl,h1,λq hq=>NL.new hu (x1.trans<|x2.trans x3) (rr.cut l u) hq⟩;obtain⟨p,vs,rfl,h1,rr⟩:=r3.sqs x3.ok;exact⟨p,vs,rfl,h1,λq hq=>NL.new hu (x1.trans<|x2.trans x3) (rr.cut l u) hq⟩;exact hu.elim
end
section
variable{W:Wd}{a:Addr}{i j k:Int}
def Wd.pen(W:Wd)(a:Addr):Wd:=⟨W.G,λb=>b=a\/W.Pn b⟩
theorem Ext.pen(x:Ext W H W1 H1)(h:H a=none)(e:H1 a=some (.lst [.int i,.int j,.int k]))(ng:W1.G a=none):Ext W H (W1.pen a) H1 where
 ok:=⟨x.ok.g,λb hb=>by
  rcases hb with rfl|hb
  .exact⟨⟨i,j,k,e⟩,ng⟩
  .exact x.ok.p b hb⟩
 g:=x.g
 p:=λb hb=>.inr<|x.p b hb
 gf:=x.gf
 pf:=λb n hb=>by
  rcases hb with rfl|hb
  exact h;exact x.pf b n hb
 h:=x.h
theorem Ext.ink(x:Ext W H W1 H1)(hp:W1.Pn a):Ext W H W1 (upd H1 a<|.lst [.int i,.int j,.int k]) where
 ok:=⟨λb o e=>by
   have hb:b≠a:=λz=>by rw[z,(x.ok.p a hp).2]at e;cases e
   rw[aK hb];exact x.ok.g b o e,
  λb hb=>by
   by_cases hba:b=a
   .subst hba;exact⟨⟨i,j,k,aV⟩,(x.ok.p b hb).2⟩
   .obtain⟨⟨i',j',k',e⟩,n⟩:=x.ok.p b hb
    exact⟨⟨i',j',k',by rw[aK hba];exact e⟩,n⟩⟩
 g:=x.g
 p:=x.p
 gf:=x.gf
 pf:=x.pf
 h:=λb o e n=>by
  have q:=x.h b o e n;have hb:b≠a:=λz=>by subst z;have:=x.pf b n hp;rw[e]at this;cases this
  rw[aK hb];exact q
theorem SOk.ink(s:SOk K W0 H0 W σ H ρ)(hp:W.Pn a):SOk K W0 H0 W σ (upd H a<|.lst [.int i,.int j,.int k]) ρ where
 ext:=s.ext.ink hp
 len:=s.len
 d:=s.d
 o:=λn ys e=>by obtain⟨b,vs,e1,e2,e3,e4,e5,r⟩:=s.o n ys e;exact⟨b,vs,e1,by rw[aK<|λz=>e4 (by rw[z];exact hp)];exact e2,e3,e4,e5,r⟩
 ne:=s.ne
 oo:=⟨λn xss e=>let⟨a',bs,e1,q,m⟩:=s.oo.t n xss e;⟨a',bs,e1,q.upd<|q.noPen hp,m⟩,s.oo.u⟩
end
section
variable{pos ps:Pos}{a b:Expr}
def fq(t:WA):WE:=λE ρ Q=>t E ρ λds=>(∃i j k,ds=[.int i,.int j,.int k])/\Q .pen
theorem Ls{t:WA}(he:PXL X EX e t):PX X EX e (fq t):=by
 obtain⟨t,q,k⟩:=he.t;refine⟨⟨t,q,λW0 H0 W σ H ρ E Q s eo h=>?_⟩,λE ρ P P' hp h=>he.mono _ _ _ _ (λd hd=>⟨hd.1,hp _ hd.2⟩) h⟩;refine k W0 H0 W σ H ρ E Q s eo<|he.mono _ _ _ _ (λds hd a vs W1 H1 x1 e1 e2 e3 e4 r1=>?_) h;obtain⟨⟨i,j,k,rfl⟩,hd⟩:=hd;have ev:vs=[.int i,.int j,.int k]:=by cases r1 with|cons r t=>cases r;cases t with|cons r t=>cases r;cases t with|cons r t=>cases r;cases t;rfl
 subst ev;exact hd _ _ _ (x1.pen e4 e1 e2)<|.pen (.inl rfl)
def d7:G2:=λx y Q=>x=.pen/\(y=.int 0\/y=.int 1\/y=.int 2)/\∀n,Q<|.int n
theorem wO:CU X d7:=by
 refine⟨⟨_,o4,λW H x y dx dy Q ok rx ry hg=>?_⟩,λx y P P' hp h=>⟨h.1,h.2.1,λn=>hp _<|h.2.2 n⟩⟩;obtain⟨rfl,hy,hq⟩:=hg;cases rx with
 | @pen a hp=>
  obtain⟨⟨i,j,k,e⟩,ng⟩:=ok.p a hp;have key:∀(m:Int) (v:V),et [V.int i,.int j,.int k] m=some v->(∃n,v=.int n)->Fo X.K (.ref a) (.int m) H Q:=λm v hv ⟨n,hn⟩=>by subst hn;exact .inl ⟨a,_,m,_,rfl,rfl,SqL.of e,hv,(hq n).now ok<|.int n⟩
  rcases hy with rfl|rfl|rfl
  cases ry;exact key 0 (.int i) rfl ⟨i,rfl⟩;cases ry;exact key 1 (.int j) rfl ⟨j,rfl⟩;cases ry;exact key 2 (.int k) rfl ⟨k,rfl⟩
def eV(i:Nat)(wv:WE):WS:=λE N ρ=>ρ[i]? = some (.d .pen)/\wv E ρ (isI λ_=>N.nx ρ)
theorem FM(i:Nat)(m:Int){j}{ipos:Pos}(he:PX X EX e wv)(hm:(m=0\/m=1\/m=2:))(hN:{X.N[i]? = some x})(hv:autoParam (qd X.env.scope x) RN._auto_1)(hd:(RA x:))
  (hcd:((x==("__classdict__" : Str))=false:))
  (ha:autoParam (∀ v,assign (.Subscript (.Name x p) (.Constant (.int m) j ipos) spos) X.env v=(do
   let ov <-holding [v] (eval (.Name x p) X.env)
   let iv <-holding [v,ov] (eval (.Constant (.int m) j ipos) X.env)
   standAt spos
   holding [v,ov,iv] (setItem ov iv v)
   release [v,ov,iv] [])) RL._auto_1)
  (hs:{swapsWithSole [.Subscript (.Name x p) (.Constant (.int m) j ipos) spos] e pos.line X.env=pure false}) (hw:{swappedStores [.Subscript (.Name x p) (.Constant (.int m) j ipos) spos] e X.env=pure none})
  (h1:{(assignEach [.Subscript (.Name x p) (.Constant (.int m) j ipos) spos] X.env).map (·.2)=[assign (.Subscript (.Name x p) (.Constant (.int m) j ipos) spos) X.env]}):PZ X EX (.Assign [.Subscript (.Name x p) (.Constant (.int m) j ipos) spos] e pos) (eV i wv):=by
 obtain⟨t,pe,k⟩:=he.t;refine⟨⟨_,kM pe (oM (hU hN hv hd hcd) kL j0 ha) hs hw h1,λW0 H0 F W σ H ρ E Dn N s fl eo no h=>?_⟩,λE ρ N N' hl q=>⟨q.1,he.mono _ _ _ _ (isI.mono λ_ hn=>hl.nx _ hn) q.2⟩⟩;obtain⟨hpen,h⟩:=h;obtain⟨v0,e0,r0⟩:=s.d i .pen hpen;cases r0 with
 | @pen a hp=>
  refine k W0 H0 W σ H ρ E _ s eo<|he.mono _ _ _ _ (λd hd v W1 H1 x1 r1=>⟨_,e0,?_⟩) h;obtain⟨n,rfl,hn⟩:=uT hd;cases r1;have hp1:=x1.p a hp;obtain⟨⟨i',j',k',e'⟩,ng⟩:=x1.ok.p a hp1;rcases hm with rfl|rfl|rfl
  .exact⟨a,_,0,0,rfl,rfl,e',rfl,no.nx W1 σ _ ρ ((s.step x1).ink hp1) (fl.ext x1) hn⟩
  .exact⟨a,_,1,1,rfl,rfl,e',rfl,no.nx W1 σ _ ρ ((s.step x1).ink hp1) (fl.ext x1) hn⟩
  .exact⟨a,_,2,2,rfl,rfl,e',rfl,no.nx W1 σ _ ρ ((s.step x1).ink hp1) (fl.ext x1) hn⟩
end
abbrev i6:G2:=gI2 (λ_ _=>True) λi j=>.int<|i-j
abbrev rK:G2:=gI2 (λ_ j=>j≠0) λi j=>.int<|i.fmod j
abbrev h9:G2:=gI2 CV λi j=>.int<|i.fdiv j
abbrev wP:G2:=gI2 td λi j=>.int<|i^j.toNat
abbrev pp:G2:=gI2 (λ_ _=>True) λi j=>.bl<|decide (i<j)
abbrev lb:G2:=gI2 (λ_ _=>True) λi j=>.bl<|decide (i<=j)
abbrev jK:G2:=gI2 (λ_ _=>True) λi j=>.bl<|decide (i>j)
abbrev C9:G2:=gI2 (λ_ _=>True) λi j=>.bl<|decide (i ≥ j)
abbrev j5:D->(RG)->Prop:=λx Q=>isI (λi=>Q<|.int (-i)) x
abbrev lg:WS:=λ_ _ _=>False
def fnS{α:Type}(enc:α->RF)(dom:α->Prop)(val:α->D):bN:=λds _ Q=>∃a,ds=enc a/\dom a/\Q (val a)
theorem fnS.mono{α:Type}{enc:α->RF}{dom:α->Prop}{val:α->D}:rC (fnS enc dom val):=λds E E' Q Q' _ hQ ⟨a,h1,h2,h3⟩=>⟨a,h1,h2,hQ _ h3⟩
theorem fnS.len{α:Type}{enc:α->RF}{dom:α->Prop}{val:α->D}(hp:∀a,(enc a).length=ps.length):∀ds E Q,fnS enc dom val ds E Q->ds.length=ps.length:=λds E Q ⟨a,h1,_⟩=>by rw[h1];exact hp a
def exQ(E:RE)(Q:RG):Except Str D->Prop
 |.ok v=>Q v|.error e=>E e
theorem exQ.mono{E E':RE}{Q':RG}(hE:∀e,E e->E' e)(hQ:∀d,Q d->Q' d):∀r,exQ E Q r->exQ E' Q' r
 |.ok v,h=>hQ v h|.error e,h=>hE e h
def xS{α:Type}(enc:α->RF)(dom:α->Prop)(res:α->Except Str D):bN:=λds E Q=>∃a,ds=enc a/\dom a/\exQ E Q (res a)
theorem xS.mono{α:Type}{enc:α->RF}{dom:α->Prop}{res:α->Except Str D}:rC (xS enc dom res):=λds E E' Q Q' hE hQ ⟨a,h1,h2,h3⟩=>⟨a,h1,h2,exQ.mono hE hQ _ h3⟩
theorem xS.ok{α:Type}{enc:α->RF}{dom:α->Prop}{res:α->Except Str D}{E:RE}{v:D}(a:α)(h:ds=enc a)(hd:dom a)(e:res a=.ok v)(q:Q v):xS enc dom res ds E Q:=⟨a,h,hd,by rw[e];exact q⟩
theorem xS.err{α:Type}{enc:α->RF}{dom:α->Prop}{res:α->Except Str D}{E:RE}{n:Str}(a:α)(h:ds=enc a)(hd:dom a)(e:res a=.error n)(q:E n):xS enc dom res ds E Q:=⟨a,h,hd,by rw[e];exact q⟩
theorem xS.len{α:Type}{enc:α->RF}{dom:α->Prop}{res:α->Except Str D}(hp:∀a,(enc a).length=ps.length):∀ds E Q,xS enc dom res ds E Q->ds.length=ps.length:=λds E Q ⟨a,h1,_⟩=>by rw[h1];exact hp a
def rlS{α:Type}(enc:α->RF)(dom:α->Prop)(rel:α->RG):bN:=λds _ Q=>∃a,ds=enc a/\dom a/\∀d,rel a d->Q d
theorem rlS.mono{α:Type}{enc:α->RF}{dom:α->Prop}{rel:α->RG}:rC (rlS enc dom rel):=λds E E' Q Q' _ hQ ⟨a,h1,h2,h3⟩=>⟨a,h1,h2,λd r=>hQ _<|h3 d r⟩
theorem rlS.len{α:Type}{enc:α->RF}{dom:α->Prop}{rel:α->RG}(hp:∀a,(enc a).length=ps.length):∀ds E Q,rlS enc dom rel ds E Q->ds.length=ps.length:=λds E Q ⟨a,h1,_⟩=>by rw[h1];exact hp a
theorem Fp.of{P:Program}{w:World}{f:Addr}(h:gF P w K mg base (fM P w) k f fd ps (jH K S))(m:rC S)(hm:mg x=some (.ref f))(kp:PySem.W.keepIn K (.ref f)=true)(hb:Binds K fd ps []) :
  Fp P w K mg base k x ps S:=⟨⟨f,fd,h,hm,kp,hb⟩,m⟩
section
variable{tail:cS}{Q:RF->Prop}
theorem uX{f:D->D}(h:∀d∈ds,∀Q:D->Prop,Q (f d)->we No (.d d::tail) Q):∀(sv:SV) (acc:RF),acc.length+ds.length<=aO->Q (acc++ds.map f)->lcW (gN 0) cU we ds (sv::tail) acc Q:=by
 induction ds with
 |nil=>intro sv acc _ hq;simpa[lcW] using hq|cons d ds ih=>intro sv acc hl hq;rw[lcW];show we No (SV.d d::tail) _;refine h d (lv ..) _ ⟨?_,?_⟩;rw[dD]at hl;omega;refine ih (λd hd=>h d<|jv _ hd) (.d d) _ ?_ ?_;rw[dA,kf];rw[dD]at hl;omega;rw[jP];exact hq
theorem FN{R:D->RG}(h:∀d∈ds,∀Q:D->Prop,(∀y,R d y->Q y)->we No (.d d::tail) Q):∀(sv:SV) (acc:RF),acc.length+ds.length<=aO->(∀ys,ys.length=ds.length->(∀y∈ys,∃d,d∈ds/\R d y)->Q (acc++ys))->lcW (gN 0) cU we ds (sv::tail) acc Q:=by
 induction ds with
 |nil=>intro sv acc _ hq;simpa[lcW] using hq [] rfl E1
 |cons d ds ih=>
  intro sv acc hl hq;rw[lcW];show we No (SV.d d::tail) _;refine h d (lv ..) _ λy hy=>⟨?_,?_⟩;rw[dD]at hl;omega;refine ih (λd hd=>h d<|jv _ hd) (.d d) _ ?_ λys hl' hys=>?_;rw[dA,kf];rw[dD]at hl;omega;rw[jP];refine hq (y::ys) (by rw[dD,dD,hl']) λz hz=>?_;rcases Yan.mp hz with rfl|hz
  exact⟨d,lv ..,hy⟩;obtain⟨d',h1,h2⟩:=hys z hz;exact⟨d',jv _ h1,h2⟩
end
mutual
def eM:D->Nat->Bool
 |.non,_=>true|.bl _,_=>true|.int _,_=>true|.str x,_=>PyData.canLay0<|.str x
 |.tup xs,n=>decide (0<n)&&j6 xs (n-1)|.lst xs,n=>decide (0<n)&&j6 xs (n-1)|.dic,_=>false|.pen,_=>false|.cls _,_=>false|.exc _,_=>false|.ty _,_=>false|.pl _ _,_=>false|.scr _,_=>false
def j6:RF->Nat->Bool
 |[],_=>true|x::r,n=>eM x n&&j6 r n
end
mutual
def pd:D->PyData
 |.non=>.none|.bl b=>.bool b|.int i=>.int i|.str x=>.str x|.tup xs=>.tuple<|gU xs
 |.lst xs=>.list<|gU xs
 |.dic=>.none|.pen=>.none|.cls _=>.none|.exc _=>.none|.ty _=>.none|.pl _ _=>.none|.scr _=>.none
def gU:RF->List PyData
 |[]=>[]|x::r=>pd x::gU r
end
mutual
theorem zW:∀(x:D) (n:Nat),eM x n=true->iX x=some (pd x)/\(pd x).canLay0=true/\(pd x).depth<=n
 |.non,n,_=>⟨rfl,rfl,by rw[pd,PyData.depth];exact jw _⟩|.bl _,n,_=>⟨rfl,rfl,by rw[pd,PyData.depth];exact jw _⟩|.int _,n,_=>⟨rfl,rfl,by rw[pd,PyData.depth];exact jw _⟩|.str x,n,h=>⟨rfl,by rw[eM]at h;exact h,by rw[pd,PyData.depth];exact jw _⟩|.tup xs,n,h=>by rw[eM,d9,QV]at h;obtain⟨h1,h2,h3⟩:=Da xs (n-1) h.2;refine⟨by rw[iX,h1,pd];rfl,by rw[pd,PyData.canLay0];exact h2,by rw[pd,PyData.depth];omega⟩
 |.lst xs,n,h=>by rw[eM,d9,QV]at h;obtain⟨h1,h2,h3⟩:=Da xs (n-1) h.2;refine⟨by rw[iX,h1,pd];rfl,by rw[pd,PyData.canLay0];exact h2,by rw[pd,PyData.depth];omega⟩
 |.dic,n,h=>by rw[eM]at h;cases h
 |.pen,n,h=>by rw[eM]at h;cases h
 |.cls _,n,h=>by rw[eM]at h;cases h
 |.exc _,n,h=>by rw[eM]at h;cases h
 |.ty _,n,h=>by rw[eM]at h;cases h
 |.pl _ _,n,h=>by rw[eM]at h;cases h
 |.scr _,n,h=>by rw[eM]at h;cases h
theorem Da:∀(xs:RF) (n:Nat),j6 xs n=true->gj xs=some (gU xs)/\PyData.canLayAll0 (gU xs)=true/\PyData.depthAll (gU xs)<=n
 |[],n,_=>⟨by rw[gj,gU],by rw[gU,PyData.canLayAll0],by rw[gU,PyData.depthAll];exact jw _⟩|x::r,n,h=>by rw[j6,d9]at h;obtain⟨h1,h2,h3⟩:=zW x n h.1;obtain⟨q1,q2,q3⟩:=Da r n h.2;exact⟨by rw[gj,h1,q1,gU],by rw[gU,PyData.canLayAll0,h2,q2];rfl,by rw[gU,PyData.depthAll];omega⟩
end
def gC(x y:D):Bool:=PyData.eqv (pd x)<|pd y
theorem mx{x:D}{neg:Bool}(hx:eM x 60=true)(hy:eM y 60=true)(h:Q (.bl (if neg then !gC x y else gC x y))):gEq neg x y Q:=by obtain⟨a1,a2,a3⟩:=zW x 60 hx;obtain⟨b1,b2,b3⟩:=zW y 60 hy;refine⟨pd x,pd y,a1,b1,?_,?_,h⟩;unfold PySem.SeqAt.shaped;rw[a2,QT<|tv];rfl;unfold PySem.SeqAt.shaped;rw[b2,QT<|tv];rfl
mutual
theorem FO:∀p:PyData,p.canLay0=true->PyData.eqv p p=true
 |.none,_=>by rw[PyData.eqv]|.bool b,_=>by rw[PyData.eqv];exact Q8 b|.int i,_=>by rw[PyData.eqv];exact Q8 i|.str x,_=>by rw[PyData.eqv];exact Q8 x|.list xs,h=>by rw[PyData.eqv];exact Db xs (by rw[PyData.canLay0]at h;exact h)|.tuple xs,h=>by rw[PyData.eqv];exact Db xs (by rw[PyData.canLay0]at h;exact h)|.dict _,h=>by rw[PyData.canLay0]at h;cases h
theorem Db:∀ps:List PyData,PyData.canLayAll0 ps=true->PyData.eqvAll ps ps=true
 |[],_=>by rw[PyData.eqvAll]|p::ps,h=>by rw[PyData.canLayAll0,d9]at h;rw[PyData.eqvAll,FO p h.1,Db ps h.2];rfl
end
theorem Lu{x:D}(h:eM x n=true):gC x x=true:=FO _ (zW x n h).2.1
theorem zX{x:D}{neg:Bool}(hx:eM x 60=true)(h:Q (.bl (!neg))):gEq neg x x Q:=by refine mx hx hx ?_;rw[Lu hx];cases neg<;>exact h
theorem FP(h:∀x∈xs,eM x n=true):j6 xs n=true:=by
 induction xs with
 |nil=>rw[j6]|cons x xs ih=>rw[j6,h x<|lv ..,ih λy hy=>h y<|jv _ hy];rfl
theorem zY(h:∀x∈xs,eM x n=true):eM (.tup xs) (n+1)=true:=by rw[eM,FP (n:=n+1-1) h];simp
theorem Dc(h:∀x∈xs,eM x n=true):eM (.lst xs) (n+1)=true:=by rw[eM,FP (n:=n+1-1) h];simp
def aN(q:Rat):D:=.tup [.int q.num,.int (q.den:Int)]
def aE(r:Mn):D:=.tup<|r.map aN
def Sz(n:Nat)(q:Rat):Prop:=q.num.natAbs<2^n/\q.den<2^n
theorem Sz.mono(l:n<=m)(h:Sz n q):Sz m q:=
 have:=lT (n:=2) wp l
 ⟨dP h.1 this,dP h.2 this⟩
theorem FQ{a:Int}{g:Nat}(hg:g≠0)(h:(g:Int)∣a):(a/(g:Int)).natAbs<=a.natAbs:=by
 obtain⟨c,rfl⟩:=h;have hg':(g:Int)≠0:=by exact_mod_cast hg
 rw[BK _ hg',eh,pF];exact Nat.le_mul_of_pos_left _ tv
theorem FR(a:Int)(hb:b≠0):(mkRat a b).num.natAbs<=a.natAbs/\(mkRat a b).den<=b:=by rw[Rat.num_mkRat,Rat.den_mkRat,jx hb,jx hb];refine⟨FQ (λz=>?_)<|Int.ofNat_dvd_left.mpr<|Nat.gcd_dvd_right ..,Nat.div_le_self _ _⟩;rw[Nat.gcd_eq_zero_iff]at z;exact hb z.1
theorem tU(h:a<2^n)(h':b<2^m):a*b<2^(n+m):=by
 rw[kj];rcases Nat.eq_zero_or_pos a with rfl|ha
 rw[Nat.zero_mul];exact Nat.mul_pos (zn<|wp)<|zn wp
 exact dP (Nat.mul_lt_mul_of_pos_left h' ha)<|lU _ (gY h)
theorem Sz.add{p:Rat}(h:Sz n p)(h':Sz m q):Sz (n+m+1) (p+q):=by
 rw[Rat.add_def'];have z:p.den*q.den≠0:=BL p.den_nz q.den_nz;have:=FR (p.num*q.den+q.num*p.den) z;have a1:=tU h.1 h'.2;have a2:=tU h'.1 h.2;have a3:=tU h.2 h'.2;rw[uB m n]at a2;have e:2^(n+m+1)=2^(n+m)+2^(n+m):=by rw[uD];omega
 have t:=qX (p.num*q.den)<|q.num*p.den;rw[eh,eh,pF,pF]at t;exact⟨tv,tv⟩
theorem Sz.neg{p:Rat}(h:Sz n p):Sz n (-p):=⟨by rw[Rat.neg_num,Int.natAbs_neg];exact h.1,h.2⟩
theorem Sz.sub{p:Rat}(h:Sz n p)(h':Sz m q):Sz (n+m+1) (p-q):=by rw[Rat.sub_eq_add_neg];exact h.add h'.neg
theorem Sz.mul{p:Rat}(h:Sz n p)(h':Sz m q):Sz (n+m) (p*q):=by rw[Rat.mul_def'];have z:p.den*q.den≠0:=BL p.den_nz q.den_nz;have:=FR (p.num*q.num) z;have a1:=tU h.1 h'.1;have a3:=tU h.2 h'.2;rw[eh]at this;exact⟨tv,tv⟩
theorem Sz.inv{p:Rat}(h:Sz n p):Sz n p⁻¹:=by
 unfold Sz;rw[Rat.num_inv,Rat.den_inv,eh,pF];have:=p.den_pos;have h1:=h.1;have h2:=h.2;constructor;rcases Int.lt_trichotomy p.num 0 with z|z|z
 rw[Ff z];simpa using h2;rw[z];simp;omega;rw[Int.sign_eq_one_of_pos z];simpa using h2;split;omega;exact h1
theorem Sz.div{p:Rat}(h:Sz n p)(h':Sz m q):Sz (n+m) (p/q):=by rw[dH];exact h.mul h'.inv
theorem Sz.int(i:Int)(hn:0<n)(h:i.natAbs<2^n):Sz n (i:Rat):=⟨by rw[BM];exact h,by rw[BN];exact BO<|tv⟩
theorem Sz.zero(hn:0<n):Sz n (0:Rat):=⟨by rw[Rat.zero_num];exact Nat.two_pow_pos n,by rw[Rat.zero_den];exact BO<|tv⟩
theorem Sz.bd(h:Sz n q)(l:n<=8990):Bd q.num/\Bd (q.den:Int):=by have:=h.mono l;exact⟨this.1,by unfold Bd;rw[pF];exact this.2⟩
def B2(p q:Rat):Prop:=∃n m,Sz n p/\Sz m q/\n+m<8990
theorem B2.of{p:Rat}(h:Sz n p)(h':Sz m q)(l:n+m<8990):B2 p q:=⟨n,m,h,h',l⟩
theorem B2.mul{p:Rat}(h:B2 p q):rE p.num q.den/\rE q.num p.den/\rE p.den q.den/\rE p.num q.num/\Bd ((p.den:Int)*q.den)/\(p.den:Int)*q.den≠0/\rE p.den q.num/\(Bd<|(p.den:Int)*q.num):=by
 obtain⟨n,m,h1,h2,l⟩:=h;have b1:=h1.bd tv;have b2:=h2.bd tv;refine⟨⟨b1.1,b2.2⟩,⟨b2.1,b1.2⟩,⟨b1.2,b2.2⟩,⟨b1.1,b2.1⟩,?_,?_,⟨b1.2,b2.1⟩,?_⟩;have:=tU h1.2 h2.2;unfold Bd;rw[eh,pF,pF];exact dP this<|lT wp tv
 have:=BL p.den_nz q.den_nz;exact_mod_cast this;have:=tU h1.2 h2.1;unfold Bd;rw[eh,pF];exact dP this<|lT wp tv
def bD:Mn->Mn->Rat
 |[],_=>0|_::_,[]=>0|x::xs,y::ys=>x*y+bD xs ys
theorem qF(q:Rat)(n:Nat):eM (aN q) (n+1)=true:=zY (by simp[eM])
theorem zZ(r:Mn)(n:Nat):eM (aE r) (n+2)=true:=zY λx hx=>by obtain⟨q,_,rfl⟩:=YbT.mp hx;exact qF q n
def aJ(xs:Lb):D:=.tup<|xs.map .int
def eG(xs:Lb):D:=.lst<|xs.map .int
theorem z5(xs:Lb)(n:Nat):eM (aJ xs) (n+1)=true:=zY λx hx=>by obtain⟨i,_,rfl⟩:=YbT.mp hx;rw[eM]
theorem FS{t b:Int}(hb:b≠0):(t.fdiv (if b<0 then -(Int.gcd t b:Int) else(Int.gcd t b:Int))=(Rat.divInt t b).num)/\(b.fdiv (if b<0 then -(Int.gcd t b:Int) else(Int.gcd t b:Int))=((Rat.divInt t b).den:Int)):=by
 have hg:0<Int.gcd t b:=BP _ hb;have hg':(0:Int)<(Int.gcd t b:Int):=by exact_mod_cast hg
 obtain⟨c,hc⟩:=Int.gcd_dvd_left (a:=t) (b:=b);obtain⟨d,hd⟩:=Int.gcd_dvd_right (a:=t) (b:=b);rw[Rat.num_divInt,Rat.den_divInt,jx hb,Int.gcd_comm b t];generalize Int.gcd t b=g at *;subst hc hd;have gne:(g:Int)≠0:=tv
 split;rename_i h;have hd:d<0:=by
  rcases Int.lt_or_le d 0 with z|z
  exact z;have:=Int.mul_nonneg (zp hg') z;omega
 rw[Ff h];constructor;rw[show(g:Int)*c=(-(g:Int))*(-c) by rw[zq],zt _<|tv,zq,show(-1:Int)*((g:Int)*c)=(g:Int)*(-c) by rw[Int.neg_mul,uE,Int.mul_neg],BK _ gne];rw[show(g:Int)*d=(-(g:Int))*(-d) by rw[zq],zt _<|tv,zq,eh,pF,Nat.mul_div_cancel_left _ hg];omega;rename_i h;have hd:0<d:=by
  rcases Int.lt_or_le 0 d with z|z
  exact z;exfalso;have h1:(g:Int)*d<=0:=by
   have:=Int.mul_le_mul_of_nonneg_left z<|zp hg'
   rwa [zw]at this
  omega
 have hp:0<(g:Int)*d:=Int.mul_pos hg' hd;rw[Int.sign_eq_one_of_pos hp,uE];constructor;rw[zt _ gne,BK _ gne];rw[zt _ gne,eh,pF,Nat.mul_div_cancel_left _ hg];omega
mutual
def kd:D->Bool
 |.tup xs=>decide (xs.length<=5000)&&rL xs|.lst xs=>decide (xs.length<=5000)&&rL xs|.non=>true|.bl _=>true|.int _=>true|.str _=>true|.dic=>true|.pen=>false|.cls _=>false|.exc _=>false|.ty _=>false|.pl _ _=>false|.scr _=>false
def rL:RF->Bool
 |[]=>true|x::r=>kd x&&rL r
end
theorem Dd:∀{xs:RF},rL xs=true->∀x∈xs,kd x=true
 |x::r,h,y,hy=>by
  rw[rL,d9]at h;rcases Yan.mp hy with rfl|hy
  exact h.1;exact Dd h.2 y hy
theorem De:∀{xs:RF},(∀x∈xs,kd x=true)->rL xs=true
 |[],_=>by rw[rL]|x::r,h=>by rw[rL,h x<|lv ..,De λy hy=>h y<|jv _ hy];rfl
theorem wQ(h:kd (.tup xs)=true):xs.length<=5000/\∀x∈xs,kd x=true:=by rw[kd,d9,QV]at h;exact⟨h.1,Dd h.2⟩
theorem Lv(h:kd (.lst xs)=true):xs.length<=5000/\∀x∈xs,kd x=true:=by rw[kd,d9,QV]at h;exact⟨h.1,Dd h.2⟩
theorem wS(h1:xs.length<=5000)(h2:∀x∈xs,kd x=true):kd (.tup xs)=true:=by rw[kd,QT h1,De h2];rfl
theorem FT(h1:xs.length<=5000)(h2:∀x∈xs,kd x=true):kd (.lst xs)=true:=by rw[kd,QT h1,De h2];rfl
theorem wU{x:D}(h:kd x=true):∃t,zR x=some t:=by
 cases x<;>first
  |exact⟨_,rfl⟩
  |(rw[kd]at h;cases h)
theorem Df(q:Rat):kd (aN q)=true:=wS E1 (by simp[kd])
theorem rM(h:r.length<=5000):kd (aE r)=true:=wS (by simpa using h) λx hx=>by obtain⟨q,_,rfl⟩:=YbT.mp hx;exact Df q
theorem FU{r:Lb}(h:r.length<=5000):kd (aJ r)=true:=wS (by simpa using h) λx hx=>by obtain⟨q,_,rfl⟩:=YbT.mp hx;rw[kd]
def tV:D->Bool
 |.int _=>true|_=>false
def lh(l m:Int):D->Bool
 |.int i=>decide (l<=i)&&decide (i<=m)|_=>false
def my(l m:Int):D->Bool
 |.tup xs=>xs.all<|lh l m
 |_=>false
def dL:D->Bool
 |.tup [.int t,.int b]=>decide (0<b)&&(Int.gcd t b==1)|_=>false
def jt(n:Int):D->Bool
 |.tup xs=>((xs.length:Int)==n)&&xs.all dL|_=>false
def wV(l m:Int):D->Bool
 |.tup xs=>decide (l<=(xs.length:Int))&&decide ((xs.length:Int)<=m)&&xs.all dL|_=>false
def wW:bN:=fnS (λx:D=>[x]) (λx=>kd x=true) λx=>.bl<|tV x
def wX:bN:=fnS (λx:D×Int×Int=>[x.1,.int x.2.1,.int x.2.2]) (λx=>kd x.1=true) λx=>.bl<|lh x.2.1 x.2.2 x.1
def z6:bN:=fnS (λx:D×Int×Int=>[x.1,.int x.2.1,.int x.2.2]) (λx=>kd x.1=true) λx=>.bl<|my x.2.1 x.2.2 x.1
def wY:bN:=fnS (λx:Int×Int=>[.int x.1,.int x.2]) (λ_=>True) λx=>.int<|Int.gcd x.1 x.2
def wZ:bN:=fnS (λx:D=>[x]) (λx=>kd x=true) λx=>.bl<|dL x
def z7:bN:=fnS (λx:D×Int×Int=>[x.1,.int x.2.1,.int x.2.2]) (λx=>kd x.1=true) λx=>.bl<|wV x.2.1 x.2.2 x.1
def w4:bN:=fnS (λx:D×Int=>[x.1,.int x.2]) (λx=>kd x.1=true) λx=>.bl<|jt x.2 x.1
def tW:bN:=fnS (λx:Int×Int=>[.int x.1,.int x.2]) (λx=>x.2≠0/\Bd x.2) λx=>aN<|Rat.divInt x.1 x.2
def z8:bN:=fnS (λx:Rat×Rat=>[aN x.1,aN x.2]) (λx=>B2 x.1 x.2) λx=>aN<|x.1+x.2
def qG:bN:=fnS (λx:Rat×Rat=>[aN x.1,aN x.2]) (λx=>B2 x.1 x.2) λx=>aN<|x.1-x.2
def qH:bN:=fnS (λx:Rat×Rat=>[aN x.1,aN x.2]) (λx=>B2 x.1 x.2) λx=>aN<|x.1*x.2
def mz:bN:=fnS (λx:Rat×Rat=>[aN x.1,aN x.2]) (λx=>B2 x.1 x.2/\x.2≠0) λx=>aN<|x.1/x.2
def ia(b:Bool)(xs:RF):D:=if b then .tup xs else .lst xs
def tX:bN:=fnS (λx:Bool×Lb=>[ia x.1<|x.2.map .int]) (λx=>x.2.length<=5000) λx=>aE<|x.2.map λ(i:Int)=>(i:Rat)
def BR(p q:Mn):Prop:=∃n m,(∀x∈p,Sz n x)/\(∀x∈q,Sz m x)/\p.length*(n+m+1)+(n+m)+1<8990
def w6:bN:=fnS (λx:(Bool×Bool)×Mn×Mn=>[ia x.1.1<|x.2.1.map aN,ia x.1.2<|x.2.2.map aN]) (λx=>BR x.2.1 x.2.2) λx=>aN<|bD x.2.1 x.2.2
structure IsSl(s:Lb)(n:Nat):Prop where
 len:s.length+1=2*n
 n1:1<=n
 n5:n<=5
 b:∀x∈s,-50<=x/\x<=50
def tbl(s:Lb)(n:Nat):KE:=(List.range n).map λi=>(s.drop<|n-1-i).take n
def jL(s:Lb)(n:Nat):D:=.lst<|(tbl s n).map eG
def e8:D->Bool
 |.tup xs=>xs.all (lh (-50) 50)&&decide (xs.length%2=1)&&decide (xs.length<=9)|_=>false
abbrev SL:=Lb×Nat
def jR:bN:=fnS (λx:RF=>[.tup x]) (λx=>x.length<=5000) λx=>.int<|((x.length:Int)+1)/2
def z9:bN:=fnS (λx:D=>[x]) (λx=>kd x=true) λx=>.bl<|e8 x
def uY:D->Int
 |.int i=>i|_=>0
def sI:D->Lb
 |.tup xs=>xs.map uY|_=>[]
def sN(x:D):Nat:=((sI x).length+1)/2
def gg(x:D)(v:Except Str D):Except Str D:=if e8 x=true then v else .error "NoSlants"
def mT:bN:=xS (λx:D=>[x]) (λx=>kd x=true) λx=>gg x<|.ok .non
def w8:bN:=xS (λx:D=>[x]) (λx=>kd x=true) λx=>gg x<|.ok (jL (sI x)<|sN x)
def hd(r:Lb):Int:=r.headD 0
def Aa:bN:=xS (λx:D=>[x]) (λx=>kd x=true) λx=>gg x<|.ok (aJ (sI x).reverse)
def cor(s:Lb)(n k:Nat):Lb:=(s.drop<|n-k).take<|2*k-1
def rN:bN:=xS (λx:D×D=>[x.1,x.2]) (λx=>kd x.1=true/\kd x.2=true) λx=>gg x.1 (if lh 1 (sN x.1) x.2=true then .ok (aJ<|cor (sI x.1) (sN x.1) (uY x.2).toNat) else .error "NoNumber")
def rO:bN:=xS (λx:D×D=>[x.1,x.2]) (λx=>kd x.1=true/\kd x.2=true) λx=>gg x.1<|.ok (.bl<|jt (sN x.1) x.2)
def dg(r:Lb):Mn:=r.map λ(i:Int)=>(i:Rat)
def tY:bN:=fnS (λx:SL=>[aJ x.1]) (λx=>IsSl x.1 x.2) λx=>.lst<|(tbl x.1 x.2).map λr=>aE (dg r)
def bJ(s:Lb)(n:Nat)(r:Mn):Mn:=(tbl s n).map λline=>bD (dg line) r
def BS(r:Mn):Prop:=∃m,(∀x∈r,Sz m x)/\m<=1400
def tZ:D->Rat
 |.tup [.int t,.int b]=>Rat.divInt t b|_=>0
def rQ:D->Mn
 |.tup xs=>xs.map tZ|_=>[]
def rP:bN:=xS (λx:D×D=>[x.1,x.2]) (λx=>kd x.1=true/\kd x.2=true/\∀r,x.2=aE r->BS r) λx=>gg x.1 (if jt (sN x.1) x.2=true then .ok (aE<|bJ (sI x.1) (sN x.1)<|rQ x.2) else .error "NoRow")
section
variable{E:RE}{x:D}{l m a b:Int}{p:Rat}
theorem Lw(h:kd x=true)(q:Q (.bl<|lh l m x)):wX [x,.int l,.int m] E Q:=⟨(x,l,m),rfl,h,q⟩
theorem Lx(h:kd x=true)(q:Q (.bl<|my l m x)):z6 [x,.int l,.int m] E Q:=⟨(x,l,m),rfl,h,q⟩
theorem Ly(h:kd x=true)(q:Q (.bl<|dL x)):wZ [x] E Q:=⟨x,rfl,h,q⟩
theorem Lz(h:kd x=true)(q:Q (.bl<|wV l m x)):z7 [x,.int l,.int m] E Q:=⟨(x,l,m),rfl,h,q⟩
theorem FV(h:kd x=true)(q:Q (.bl<|jt a x)):w4 [x,.int a] E Q:=⟨(x,a),rfl,h,q⟩
theorem Ab(h:B2 p q)(z:Q (aN<|p-q)):qG [aN p,aN q] E Q:=⟨(p,q),rfl,h,z⟩
theorem Dg(h:B2 p q)(z:Q (aN<|p*q)):qH [aN p,aN q] E Q:=⟨(p,q),rfl,h,z⟩
theorem t7(h:B2 p q)(h':q≠0)(z:Q (aN<|p/q)):mz [aN p,aN q] E Q:=⟨(p,q),rfl,⟨h,h'⟩,z⟩
theorem FW{xs:Lb}(h:xs.length<=5000)(q:Q (aE<|dg xs)):tX [eG xs] E Q:=⟨(false,xs),rfl,h,q⟩
theorem LA{xs:Lb}(h:xs.length<=5000)(q:Q (aE<|dg xs)):tX [aJ xs] E Q:=⟨(true,xs),rfl,h,q⟩
theorem FX{p q:Mn}(h:BR p q)(z:Q (aN<|bD p q)):w6 [aE p,aE q] E Q:=⟨((true,true),p,q),rfl,h,z⟩
theorem IsSl.l9(h:IsSl s n):s.length<=9:=by have:=h.len;have:=h.n5;omega
theorem Dh(h:xs.length<=5000)(q:Q (.int<|((xs.length:Int)+1)/2)):jR [.tup xs] E Q:=⟨xs,rfl,h,q⟩
theorem mU(h:IsSl s n)(q:Q (.int n)):jR [aJ s] E Q:=by
 have:=h.l9;have:=h.len;refine Dh (by simp;omega) ?_;have e:(((s.map D.int).length:Int)+1)/2=n:=by rw[aZ];omega
 rw[e];exact q
theorem LB(h:kd x=true)(q:Q (.bl<|e8 x)):z9 [x] E Q:=⟨x,rfl,h,q⟩
theorem FY(h:IsSl s n):e8 (aJ s)=true:=by unfold e8 aJ;simp only[aZ];have hl:=h.len;have h5:=h.n5;have h1:=h.n1;rw[QT (by omega:s.length%2=1),QT (by omega:s.length<=9),zx,zx,Ybb];intro x hx;obtain⟨i,hi,rfl⟩:=YbT.mp hx;have:=h.b i hi;simp[lh,this.1,this.2]
theorem IsSl.kd{s:Lb}{n:Nat}(h:IsSl s n):kd (aJ s)=true:=FU (by have:=h.l9;omega)
theorem Di(q:Rat):dL (aN q)=true:=by
 unfold dL aN;have h1:(0:Int)<(q.den:Int):=by exact_mod_cast q.den_pos
 have h2:Int.gcd q.num (q.den:Int)=1:=q.reduced;simp[h2,q.den_pos]
theorem t8(r:Mn):jt r.length (aE r)=true:=by unfold jt aE;simp[Di]
theorem d8(s:Lb):sI (aJ s)=s:=by show(s.map D.int).map uY=s;rw[List.map_map];exact(jg λ_ _=>rfl).trans (zy _)
theorem IsSl.sN(h:IsSl s n):sN (aJ s)=n:=by unfold LP.sN;rw[d8];have:=h.len;omega
theorem Zb(h:IsSl s n){v:Except Str D}:gg (aJ s) v=v:=by unfold gg;rw[FY h,ks rfl]
theorem lN{v:Except Str D}(h:e8 x=false):gg x v=.error "NoSlants" :=by unfold gg;rw[h,jx<|wp]
theorem kF(h:e8 x=true):∃s n,x=aJ s/\IsSl s n:=by
 cases x<;>try (cases h;done)
 rename_i xs;simp only[e8,d9,QV,Ybb]at h;obtain⟨⟨h1,h2⟩,h3⟩:=h;have e:xs=(xs.map uY).map D.int:=by rw[List.map_map];refine((jg λx hx=>?_).trans (zy _)).symm;have:=h1 x hx;cases x<;>first|rfl|cases this
 refine⟨xs.map uY,(xs.length+1)/2,by unfold aJ;rw[<-e],⟨by rw[aZ];omega,tv,tv,λi hi=>?_⟩⟩;obtain⟨x,hx,rfl⟩:=YbT.mp hi;have:=h1 x hx;cases x<;>first|(cases this;done)|skip
 simp only[lh,d9,QV]at this;exact this
theorem uZ(q:Rat):tZ (aN q)=q:=by unfold tZ aN;exact uF q
theorem qI(r:Mn):rQ (aE r)=r:=by show(r.map aN).map tZ=r;rw[List.map_map];exact(jg λq _=>uZ q).trans (zy _)
theorem LC{r':Mn}(h:aE r=aE r'):r=r':=by rw[<-qI r,h,qI]
theorem Dj(h:dL d=true):∃q,d=aN q:=by
 unfold dL at h;split at h;rename_i t b;simp only[d9,QV,Rs]at h;have hb:((b.toNat:Nat):Int)=b:=BH tv;refine⟨⟨t,b.toNat,tv,?_⟩,?_⟩;have:b.natAbs=b.toNat:=tv
 have h2:=h.2;unfold Int.gcd at h2;rw[this]at h2;exact h2;unfold aN;rw[hb];cases h
theorem FZ:∀{xs:RF},xs.all dL=true->∃r:Mn,xs=r.map aN
 |[],_=>⟨[],rfl⟩|x::xs,h=>by rw[vn,d9]at h;obtain⟨q,rfl⟩:=Dj h.1;obtain⟨r,rfl⟩:=FZ h.2;exact⟨q::r,rfl⟩
theorem Ac{a:Int}(h:jt a x=true):∃r,x=aE r/\(r.length:Int)=a:=by
 cases x<;>try (cases h;done)
 rename_i xs;simp only[jt,d9,Rs]at h;obtain⟨r,rfl⟩:=FZ h.2;exact⟨r,rfl,by simpa using h.1⟩
theorem Ad(h:IsSl s n)(q:Q .non):mT [aJ s] E Q:=xS.ok (aJ s) rfl h.kd (Zb h) q
theorem Ae(h:kd x=true)(hb:e8 x=false)(e:E "NoSlants"):mT [x] E Q:=xS.err x rfl h (lN hb) e
theorem F0(h:IsSl s n)(q:Q (jL s n)):w8 [aJ s] E Q:=xS.ok (aJ s) rfl h.kd (by(try dsimp only);rw[Zb h,d8,h.sN]) q
theorem LD(h:IsSl s n)(q:Q (aJ s.reverse)):Aa [aJ s] E Q:=xS.ok (aJ s) rfl h.kd (by(try dsimp only);rw[Zb h,d8]) q
theorem Af(h:IsSl s n)(h1:1<=k)(h2:k<=n)(q:Q (aJ<|cor s n k)):rN [aJ s,.int k] E Q:=xS.ok (aJ s,.int k) rfl ⟨h.kd,by rw [kd]⟩ (by
 have e:lh 1 (n:Int) (.int k)=true:=by simp[lh];omega
 dsimp only;rw[Zb h,h.sN,d8,e,ks rfl];rfl) q
theorem Ag(h:IsSl s n)(hk:kd x=true)(q:Q (.bl<|jt n x)):rO [aJ s,x] E Q:=xS.ok (aJ s,x) rfl ⟨h.kd,hk⟩ (by(try dsimp only);rw[Zb h,h.sN]) q
theorem LE(h:kd x=true)(hk:kd y=true)(hb:e8 x=false)(e:E "NoSlants"):rO [x,y] E Q:=xS.err (x,y) rfl ⟨h,hk⟩ (lN hb) e
theorem Dk(h:IsSl s n)(q:Q (.lst<|(tbl s n).map λr=>aE<|dg r)):tY [aJ s] E Q:=⟨(s,n),rfl,h,q⟩
theorem xa(h:IsSl s n)(hl:r.length=n)(hb:BS r)(q:Q (aE<|bJ s n r)):rP [aJ s,aE r] E Q:=xS.ok (aJ s,aE r) rfl ⟨h.kd,rM (by have:=h.n5;omega),λr' e=>by rw [<- LC e];exact hb⟩ (by
 have er:jt n (aE r)=true:=by rw[<-hl];exact t8 r
 dsimp only;rw[Zb h,h.sN,d8,er,ks rfl,qI]) q
end
theorem t9{C:Addr}(h:PySem.W.nsIn K mainGlobals x=some (some<|.ref C)):ku K x=some C:=by unfold ku;rw[h]
section
variable{C:Addr}{np pos:Pos}{newId initId:String}{bmB:K9}
def i7(x:Str):WS:=λE _ _=>E x
structure XC(K:QR)(mg:K8)(x:Str):Prop where
 h:∃(C:Addr) (newId initId:String) (bmB:K9),ku K x=some C/\mg x=some (.ref C)/\PySem.W.excIn K C bmB newId=true/\ExcBaseFacts "ValueError" newId initId bmB
theorem u0(hr:kW X EX)(hx:XC X.K X.mg x)(hc:{X.calm=true})(hxn:(o8 x=none:))(hg:{Gl X x})(hd:(RA x:)) :
  PZ X EX (.Raise (some<|.Call (.Name x np) [] [] cpos) none pos) (i7 x):=by
 obtain⟨C,newId,initId,bmB,h1,h2,h3,h4⟩:=hx.h;exact⟨⟨_,Kc hr hc h2 h3 h4 hg hd,λW0 H0 F W σ H ρ E Dn N s fl eo no q=>eo x W H (.ref C) none q s.ext ⟨C,by rw[KQ hxn];exact h1,rfl,.none hxn⟩⟩,λE ρ N N' hl q=>q⟩
end
def xb(n i:Nat)(ex:Str):cS:=(List.replicate n SV.un).set i<|.d (.exc ex)
structure XT(K:QR)(mg:K8)(x:Str)(L:Rv):Prop where
 h:∃(C:Addr) (newId:String) (bmB:K9),mg x=some (.ref C)/\PySem.W.excIn K C bmB newId=true/\bmB.contains (.type "BaseException")=true/\∀n∈L,∀D,ku K (uR n)=some D->PySem.W.mroIn K D (.ref C)=some true
section
def ic(L:Rv)(n i:Nat)(zb zh:WS):WS:=λ_ N ρ=>∃E':Ex->Prop,(∀ex,E' ex->ex∈L/\zh No { nx:=λ_=>False,rt:=N.rt } (xb n i ex))/\zb E' N ρ
end
def wM(g:D->RF->(RG)->Prop)(wo:WE)(t:WA):WE:=λE ρ Q=>wo E ρ λx=>(∃xs,x=.lst xs)/\t E ρ λds=>g x ds Q
section
def ZdL:G2:=λx y Q=>match x,y with|.tup xs,.int k=>k<1000/\-1000<k/\xs.length*k.toNat<=aO/\Q (.tup (List.replicate k.toNat xs).flatten)|_,_=>False
theorem ZdL.mono:∀x y P P',(∀d,P d->P' d)->ZdL x y P->ZdL x y P':=λx y P P' hp hg=>by unfold ZdL at hg ⊢;split at hg;exact⟨hg.1,hg.2.1,hg.2.2.1,hp _ hg.2.2.2⟩;exact hg.elim
theorem Dl:gS X (binaryOp .Mult) ZdL:=by
 refine⟨⟨_,Kj,λW H x y dx dy Q ok rx ry hg=>?_⟩,ZdL.mono⟩;unfold ZdL at hg;split at hg;obtain⟨p,vs,rfl,h1,r1⟩:=rx.sqt ok;cases ry;rename_i xs k;refine⟨p,k,vs,rfl,rfl,h1,tv,tv,by rw[r1.length];exact pQ hg.2.2.1,λe=>?_,λa ha=>hg.2.2.2.tup ok (FH r1 _) ha⟩;have e':(List.replicate k.toNat xs).flatten=xs:=by
  rcases e with e|e
  subst e;cases r1;simp;subst e;simp
 have q:=hg.2.2.2;rw[e']at q;exact q.now ok rx;exact hg.elim
end
section
variable{pos:Pos}
def its(js:Lb):RF:=js.map .int
def gIn(neg:Bool):G2:=λx y Q=>∃i js,x=.int i/\(y=.lst (its js)\/y=.tup (its js))/\Q (.bl (if neg then !js.contains i else js.contains i))
theorem gIn.mono{neg:Bool}:∀x y P P',(∀d,P d->P' d)->gIn neg x y P->gIn neg x y P':=λx y P P' hp ⟨i,js,h1,h2,h3⟩=>⟨i,js,h1,h2,hp _ h3⟩
theorem xc{K:QR}{W:Wd}:∀{js:Lb} {vs:RH},Reps K W vs (its js)->vs=js.map V.int
 |[],_,.nil=>rfl|j::js,_,.cons r t=>by cases r;rw[xc t];rfl
theorem Dm(i:Int):∀js:Lb,zM (.int i) (js.map V.int)=js.contains i
 |[]=>rfl|j::js=>by have ih:=Dm i js;unfold zM at ih ⊢;rw[cN,zg,ih,BQ];congr 1;show(j==i)=(i==j);rw[lA,Rs,Rs];exact⟨Eq.symm,Eq.symm⟩
theorem Do:∀js:Lb,(js.map V.int).all fQ=true
 |[]=>rfl|j::js=>by rw[cN,vn,Do js];rfl
theorem F1{neg:Bool}{W:Wd}{x y:V}{dx dy:D}{Q:VK}(ok:WOk W H)(rx:Rep X.K W x dx)(ry:Rep X.K W y dy)(hg:gIn neg dx dy (RQ X.K W H Q)):Cw X.K neg x y H Q:=by
 obtain⟨i,js,rfl,h,q⟩:=hg;cases rx;rcases h with rfl|rfl
 obtain⟨p,vs,rfl,h1,r1⟩:=ry.sql ok;obtain rfl:=xc r1;exact⟨p,_,rfl,.inl h1,rfl,Do js,by rw[Dm];exact q.now ok<|.bl _⟩;obtain⟨p,vs,rfl,h1,r1⟩:=ry.sqt ok;obtain rfl:=xc r1;exact⟨p,_,rfl,.inr h1,rfl,Do js,by rw[Dm];exact q.now ok<|.bl _⟩
theorem Dp:gS X (compareOp .In) (gIn false):=⟨⟨_,mj,λW H x y dx dy Q ok rx ry hg=>F1 ok rx ry hg⟩,gIn.mono⟩
theorem xg:gS X (compareOp .NotIn) (gIn true):=⟨⟨_,jD,λW H x y dx dy Q ok rx ry hg=>F1 ok rx ry hg⟩,gIn.mono⟩
end
abbrev Zj8:Rv:=["thing"]
def F2:WS:=(aI<|gB (wB gIs<|aC (wN 0)<|aC (wC<|.ty "int") aA)<|ky<|wB gIs<|aC (wN 0)<|aC (wC<|.ty "bool") aA)
abbrev Zjf:Rv:=["thing", "least", "most"]
def F3:WS:=(aI<|gB (wF wW<|aC (wN 0) aA)<|ZbE lb lb (wN 1) (wN 0)<|wN 2)
abbrev ZhM:Rv:=["thing", "least", "most"]
def F5:WS:=(aI<|gB (wB gIs<|aC (wN 0)<|aC (wC<|.ty "tuple") aA)<|wB h8<|aC (wL<|aLC (iS<|wN 0) 1 [1,2] (gN 0) cU<|wF wX<|aC (wN 0)<|aC (wN 1)<|aC (wN 2) aA) aA)
abbrev Ze8:Rv:=["one", "other"]
def F6:WS:=(aH (bH<|Zl (wT<|w2 (gEq true) (wN 1)<|wC<|.int<|0)<|ez 0 1<|aC (wN 1)<|aC (w2 rK (wN 0)<|wN 1) aA)<|aI<|wB jJ<|aC (wN 0) aA)
abbrev Zj9:Rv:=["thing", "top", "bottom"]
def F7:WS:=(aH (cP (fJ (bW<|wT<|wB gIs<|aC (wN 0)<|aC (wC<|.ty "tuple") aA)<|wT<|w2 (gEq true) (wB bZ<|aC (wN 0) aA)<|wC<|.int<|2) (aI<|wC<|D.bl false) cR)<|aH (eu (wN 0)<|de 2<|bL (gN 1)<|bL (gN 2) cV)<|aH (cP (fJ (bW<|wT<|wF wW<|aC (wN 1) aA)<|bW<|wT<|wF wW<|aC (wN 2) aA) (aI<|wC<|D.bl false) cR)<|aI<|gB (w2 jK (wN 2)<|wC<|.int<|0)<|w2 (gEq false) (wF wY<|aC (wN 1)<|aC (wN 2) aA)<|wC<|.int<|1)
abbrev ZfG:Rv:=["thing", "least", "most"]
def F8:WS:=(aH (cP (fJ (bW<|wT<|wB gIs<|aC (wN 0)<|aC (wC<|.ty "tuple") aA)<|bW<|wT<|ZbE lb lb (wN 1) (wB bZ<|aC (wN 0) aA)<|wN 2) (aI<|wC<|D.bl false) cR)<|aI<|wB h8<|aC (wL<|aLC (iS<|wN 0) 1 [] (gN 0) cU<|wF wZ<|aC (wN 0) aA) aA)
abbrev ZnA:Rv:=["thing", "many"]
def F9:WS:=(aI<|wF z7<|aC (wN 0)<|aC (wN 1)<|aC (wN 1) aA)
abbrev Zj5:Rv:=["top", "bottom", "divisor"]
def Ga:WS:=(aH (kE<|wT<|w2 (gEq true) (wN 1)<|wC<|.int<|0)<|aH (aQ 2<|wF wY<|aC (wN 0)<|aC (wN 1) aA)<|aH (cP (wT<|w2 pp (wN 1)<|wC<|.int<|0) (aQ 2<|w1 j5<|wN 2) cR)<|aI<|bO<|aC (w2 h9 (wN 0)<|wN 2)<|aC (w2 h9 (wN 1)<|wN 2) aA)
abbrev ZqW:Rv:=["one", "other"]
def Gb:WS:=(aI<|wF tW<|aC (w2 gAdd (w2 gMul (w2 gIx (wN 0)<|wC<|.int<|0)<|w2 gIx (wN 1)<|wC<|.int<|1)<|w2 gMul (w2 gIx (wN 1)<|wC<|.int<|0)<|w2 gIx (wN 0)<|wC<|.int<|1)<|aC (w2 gMul (w2 gIx (wN 0)<|wC<|.int<|1)<|w2 gIx (wN 1)<|wC<|.int<|1) aA)
abbrev Zpu:Rv:=["one", "other"]
def Gc:WS:=(aI<|wF tW<|aC (w2 gMul (w2 gIx (wN 0)<|wC<|.int<|0)<|w2 gIx (wN 1)<|wC<|.int<|0)<|aC (w2 gMul (w2 gIx (wN 0)<|wC<|.int<|1)<|w2 gIx (wN 1)<|wC<|.int<|1) aA)
abbrev Znx:Rv:=["numbers"]
def Gd:WS:=(aI<|wB kC<|aC (wL<|aLC (iS<|wN 0) 1 [] (gN 0) cU<|bO<|aC (wN 0)<|aC (wC<|.int<|1) aA) aA)
abbrev Zek:Rv:=["one", "other", "total", "left", "right"]
def Ge:WS:=(aH (aQ 2<|wC<|D.tup [(D.int<|0),(D.int<|1)])<|aH (bH<|bS (iZ<|aC (wN 0)<|aC (wN 1) aA) (de 2<|bL (gN 3)<|bL (gN 4) cV)<|aQ 2<|wF z8<|aC (wN 2)<|aC (wF qH<|aC (wN 3)<|aC (wN 4) aA) aA)<|aI<|wN 2)
abbrev ZlU:Rv:=["slants"]
def Gf:WS:=(aI<|w2 h9 (w2 gAdd (wB bZ<|aC (wN 0) aA)<|wC<|.int<|1)<|wC<|.int<|2)
abbrev ZgQ:Rv:=["thing"]
def Gg:WS:=(aH (cP (fJ (bW<|wT<|wF z6<|aC (wN 0)<|aC (wC<|.int (-50))<|aC (wC<|.int<|50) aA)<|wT<|w2 (gEq false) (w2 rK (wB bZ<|aC (wN 0) aA)<|wC<|.int<|2)<|wC<|.int<|0) (aI<|wC<|D.bl false) cR)<|aI<|w2 lb (wF jR<|aC (wN 0) aA)<|wC<|.int<|5)
abbrev ZgS:Rv:=["thing"]
def Gh:WS:=(cP (bW<|wT<|wF z9<|aC (wN 0) aA) (i7<|PySem.Str.ofString "NoSlants") cR)
abbrev Zj1:Rv:=["slants", "size"]
def Gi:WS:=(aH (fK<|wF mT<|aC (wN 0) aA)<|aH (aQ 1<|wF jR<|aC (wN 0) aA)<|aI<|wL<|aLC (iy<|aC (wN 1) aA) 1 [0,1] (gN 0) cU<|wL<|aB (h7 (α:=Unit))<|aC (cG (wN 1) (dW<|w2 i6 (w2 i6 (wN 2)<|wC<|.int<|1)<|wN 0)<|dW<|w2 i6 (w2 i6 (w2 gMul (wC<|.int<|2)<|wN 2)<|wC<|.int<|1)<|wN 0) aA)
abbrev ZfD:Rv:=["slants"]
def Gj:WS:=(aH (fK<|wF mT<|aC (wN 0) aA)<|aI<|w1 gRev<|wN 0)
abbrev ZnB:Rv:=["slants", "size", "whole_size"]
def Gk:WS:=(aH (fK<|wF mT<|aC (wN 0) aA)<|aH (aQ 2<|wF jR<|aC (wN 0) aA)<|aH (cP (bW<|wT<|wF wX<|aC (wN 1)<|aC (wC<|.int<|1)<|aC (wN 2) aA) (i7<|PySem.Str.ofString "NoNumber") cR)<|aI<|cG (wN 0) (dW<|w2 i6 (wN 2)<|wN 1)<|dW<|w2 i6 (w2 gAdd (wN 2)<|wN 1)<|wC<|.int<|1)
abbrev Zj7:Rv:=["slants", "thing"]
def Gm:WS:=(aH (fK<|wF mT<|aC (wN 0) aA)<|aI<|wF w4<|aC (wN 1)<|aC (wF jR<|aC (wN 0) aA) aA)
abbrev ZhG:Rv:=["slants"]
def Gn:WS:=(aI<|wL<|aLC (iS<|wF w8<|aC (wN 0) aA) 1 [] (gN 0) cU<|wF tX<|aC (wN 0) aA)
abbrev Zjc:Rv:=["slants", "row"]
def Go:WS:=(aH (cP (bW<|wT<|wF rO<|aC (wN 0)<|aC (wN 1) aA) (i7<|PySem.Str.ofString "NoRow") cR)<|aI<|wB kC<|aC (wL<|aLC (iS<|wF tY<|aC (wN 0) aA) 1 [1] (gN 0) cU<|wF w6<|aC (wN 0)<|aC (wN 1) aA) aA)
local macro_rules | `(tactic| walk_at "w")=>`(tactic| simp only[aI,cP,aQ,cR,fK,cc,cH,bS,kE,ez,eu,df,iA,eV,lg,bH,i7,gB,fj,ky,fi,fJ,bW,wT,kz,w1,w2,wB,wF,wL,bO,cG,ZbE,aB,cF,aC,aA,aLC,Zb2,cU,iS,iL,iT,iy,jr,iZ,i1,i2,isS,isL,zT,isB,isI,eL,dW,wN,wC,gN,de,bL,cV,gI2,gAdd,gMul,gIx,d7,gCut,gRev,bZ,h7,kC,jJ,k6,i4,k9,fq,eH,fT,dJ,fU,fo,fV,aCut,fL,pub,cN,f6,dD,jh,g9,dG,List.replicate,dN,eA,List.set_cons_zero,List.set_cons_succ,Nat.reduceSub,Nat.reduceAdd,iM,lB,true_and,fg,if_true,if_false,ite_true,ite_false])
local macro_rules | `(tactic| walk_at "g")=>`(tactic| ((try dsimp only at *);repeat (first|walk_at "w"|simp only[aH]);(try dsimp only)))
theorem ua{x:D}{T:String}(h:kd x=true)(hT:T∈zS)(q:∀t,zR x=some t->Q (.bl<|j4 t T)):gIs [x,.ty T] Q:=by obtain⟨t,ht⟩:=wU h;exact⟨t,ht,hT,q t ht⟩
theorem LF:Rd wW F2 Zj8:=by
 rintro _ E Q ⟨x,rfl,hk,q⟩;unfold F2;((try simp only[aH]);(try walk_at "w"));refine ua hk wp λt ht=>?_;cases x<;>cases ht<;>first
  |exact q
  |exact ua hk wp λt ht=>by cases ht;exact q
theorem LG:Rd wX F3 Zjf:=by
 rintro _ E Q ⟨⟨x,l,m⟩,rfl,hk,q⟩;unfold F3;walk_at "g";refine⟨x,rfl,hk,?_⟩;cases x<;>try exact q
 rename_i i;simp only[tV,isB,if_true,gI2,true_and];by_cases h:l<=i;simp only[h,decide_true,if_true];simpa[lh,h] using q;simp only[h,decide_false,if_false,fg];simpa[lh,h] using q
theorem LH:Rd z6 F5 ZhM:=by
 rintro _ E Q ⟨⟨x,l,m⟩,rfl,hk,q⟩;unfold F5;walk_at "g";refine ua hk wp λt ht=>?_;cases x<;>cases ht<;>try exact q
 rename_i xs;obtain⟨hl,hx⟩:=wQ hk;show lcW _ _ _ xs _ _ _;refine uX (f:=λd=>.bl<|lh l m d) (λd hd Q hq=>?_) .un [] (by simp[aO];omega) ?_;walk_at "g";exact⟨(d,l,m),rfl,hx d hd,hq⟩;refine⟨xs.map<|lh l m,E1,?_⟩;simpa[vt,Function.comp_def,my] using q
theorem Gp(a b:Int):Int.gcd b (a.fmod b)=Int.gcd a b:=by
 have e:a.fmod b=a-b*a.fdiv b:=by have:=Int.mul_fdiv_add_fmod a b;omega
 rw[e,Int.gcd_sub_mul_left_right,Int.gcd_comm]
theorem Gq(a:Int){b:Int}(h:b≠0):(a.fmod b).natAbs<b.natAbs:=by
 have key:∀a b:Int,0<b->0<=a.fmod b/\a.fmod b<b:=λa b z=>by rw[Fg _<|zp z];exact⟨Int.emod_nonneg _<|tv,Int.emod_lt_of_pos _ z⟩
 rcases Int.lt_or_lt_of_ne h with z|z
 have h1:=key (-a) (-b) tv;rw[Int.neg_fmod_neg]at h1;omega;have h1:=key a b z;omega
theorem LJ:Rd wY F6 Ze8:=by
 rintro _ E Q ⟨⟨a,b⟩,rfl,_,q⟩;unfold F6;walk_at "g";refine⟨λm ρ=>∃x y:Int,m=y.natAbs/\ρ=[.d<|.int x,.d<|.int y]/\Int.gcd x y=Int.gcd a b,⟨_,a,b,rfl,rfl,rfl⟩,?_⟩;rintro m _ ⟨x,y,rfl,rfl,hg⟩;walk_at "g";by_cases hy:y=0;subst hy;simp only[Q8,gE,fg,if_false];rw[Int.gcd_zero_right]at hg;rw[<-hg]at q;have:(if x<0 then -x else x)=((x.natAbs:Nat):Int):=by split<;>omega
 rw[this];exact q;rw[ks<|by simpa using hy];exact⟨hy,_,Gq x hy,_,_,rfl,rfl,by rw[Gp];exact hg⟩
theorem LK(h:xs.length≠2):dL (.tup xs)=false:=by unfold dL;split;rename_i e;cases e;exact QS rfl h;rfl
theorem LL{a b:D}(h:tV a=false):dL (.tup [a,b])=false:=by unfold dL;split;rename_i e;cases e;cases h;rfl
theorem LM{a b:D}(h:tV b=false):dL (.tup [a,b])=false:=by unfold dL;split;rename_i e;cases e;cases h;rfl
theorem Gr{a:D}(h:tV a=true):∃i,a=.int i:=by
 cases a<;>first
  |exact⟨_,rfl⟩
  |cases h
theorem LN:Rd wZ F7 Zj9:=by
 rintro _ E Q ⟨x,rfl,hk,q⟩;unfold F7;walk_at "g";refine ua hk wp λt ht=>?_;cases x<;>cases ht<;>try exact q
 rename_i xs;obtain⟨hl,hx⟩:=wQ hk;walk_at "g";simp only[show j4 "tuple" "tuple" = true from rfl,gE,fg,if_false]
 by_cases h2:xs.length=2
 .match xs,h2,hx,q with
  |[a,b],_,hx,q=>
  rw[jx<|E1];walk_at "g";refine⟨a,rfl,hx a<|E1,?_⟩;walk_at "g";cases ha:tV a with
  |false=>rw[LL ha]at q;exact q
  |true=>
   obtain⟨i,rfl⟩:=Gr ha;simp only[gE,fg,if_false];refine⟨b,rfl,hx b<|E1,?_⟩;walk_at "g";cases hb:tV b with
   |false=>rw[LM hb]at q;exact q
   |true=>
    obtain⟨j,rfl⟩:=Gr hb;simp only[gE,fg,if_false];walk_at "g"
    by_cases h:0<j
    .simp only[show j>0 from h,decide_true,if_true]
     refine⟨(i,j),rfl,trivial,?_⟩;walk_at "g";have:dL (.tup [.int i,.int j])=(((Int.gcd i j:Nat):Int)==1):=by
      simp only[dL,h,decide_true,Bool.true_and];rw[lA];simp;omega
     rw[this]at q;simpa using q
    .have h':¬j>0:=h
     simp only[h',decide_false,if_false,fg];simpa[dL,h] using q
 .rw[LK h2]at q
  rw[ks<|by simpa using λz=>h2<|by exact_mod_cast z];exact q
theorem LO:Rd z7 F8 ZfG:=by
 rintro _ E Q ⟨⟨x,l,m⟩,rfl,hk,q⟩;unfold F8;walk_at "g";refine ua hk wp λt ht=>?_;cases x<;>cases ht<;>try exact q
 rename_i xs;obtain⟨hl,hx⟩:=wQ hk;walk_at "g";simp only[show j4 "tuple" "tuple" = true from rfl,gE,fg,if_false];simp only[wV]at q;cases h1:decide (l<=(xs.length:Int)) with
 |false=>rw[h1]at q;simpa using q
 |true=>
  cases h2:decide ((xs.length:Int)<=m) with
  |false=>rw[h1,h2]at q;simpa using q
  |true=>
   simp only[if_true,gE,fg,if_false];walk_at "g";refine uX (f:=λd=>.bl<|dL d) (λd hd Q hq=>?_) .un [] (by simp[aO];omega) ?_
   .walk_at "g"
    exact⟨d,rfl,hx d hd,hq⟩
   .refine⟨xs.map dL,E1,?_⟩
    rw[h1,h2]at q;simpa[vt,Function.comp_def] using q
theorem LQ(n:Int)(x:D):wV n n x=jt n x:=by
 cases x<;>try rfl
 rename_i xs;simp only[wV,jt];congr 1;rw[lA];simp;omega
theorem LR:Rd w4 F9 ZnA:=by rintro _ E Q ⟨⟨x,n⟩,rfl,hk,q⟩;unfold F9;walk_at "g";refine Lz hk ?_;rw[LQ];exact q
theorem Bd.le{i j:Int}(h:i.natAbs<=j.natAbs)(b:Bd j):Bd i:=lV h b
theorem LS:Rd tW Ga Zj5:=by
 rintro _ E Q ⟨⟨t,b⟩,rfl,⟨hb,hd⟩,q⟩;unfold Ga;walk_at "g";refine⟨by simpa using hb,(t,b),rfl,trivial,?_⟩;walk_at "g";have hg:0<Int.gcd t b:=BP _ hb;have hle:Int.gcd t b<=b.natAbs:=Nat.le_of_dvd tv<|Int.gcd_dvd_natAbs_right ..;obtain⟨e1,e2⟩:=FS (t:=t) hb;unfold aN at q;rw[<-e1,<-e2]at q
 by_cases h:b<0;simp only[h,decide_true,if_true]at q ⊢;refine⟨⟨tv,Bd.le tv hd⟩,⟨tv,Bd.le tv hd⟩,by simp[aO],q⟩;simp only[h,decide_false,if_false,fg]at q ⊢;refine⟨⟨tv,Bd.le tv hd⟩,⟨tv,Bd.le tv hd⟩,by simp[aO],q⟩
theorem pS(h:Q (.int q.num)):gIx (aN q) (.int 0) Q:=⟨_,rfl,h⟩
theorem kG(h:Q (.int q.den)):gIx (aN q) (.int 1) Q:=⟨_,rfl,h⟩
theorem LT:Rd z8 Gb ZqW:=by
 rintro _ E Q ⟨⟨p,q⟩,rfl,hb,h⟩;obtain⟨b1,b2,b3,b4,b5,b6,b7,b8⟩:=hb.mul;unfold Gb;simp only[aI,wF,aC,w2,wN,wC,fL,cN,g9,dN,eA];refine pS<|kG ⟨b1,pS<|kG ⟨b2,kG<|kG ⟨b3,?_⟩⟩⟩;refine⟨(_,_),rfl,⟨b6,b5⟩,?_⟩;dsimp only at h ⊢;have e:Rat.divInt (p.num*q.den+q.num*p.den) ((p.den:Int)*q.den)=p+q:=by rw[Rat.add_def',<-BT];rfl
 rw[e];exact h
theorem LU:Rd qH Gc Zpu:=by
 rintro _ E Q ⟨⟨p,q⟩,rfl,hb,h⟩;obtain⟨b1,b2,b3,b4,b5,b6,b7,b8⟩:=hb.mul;unfold Gc;simp only[aI,wF,aC,w2,wN,wC,fL,cN,g9,dN,eA];refine pS<|pS ⟨b4,kG<|kG ⟨b3,?_⟩⟩;refine⟨(_,_),rfl,⟨b6,b5⟩,?_⟩;dsimp only at h ⊢;have e:Rat.divInt (p.num*q.num) ((p.den:Int)*q.den)=p*q:=by rw[Rat.mul_def',<-BT];rfl
 rw[e];exact h
theorem LV{b:Bool}{Q:RF->Prop}(h:Q xs):isS Q (ia b xs):=by cases b<;>exact h
theorem Dq(i:Int):aN (i:Rat)=.tup [.int i,.int 1]:=by unfold aN;rw[BM,BN];rfl
theorem LW:Rd tX Gd Znx:=by
 rintro _ E Q ⟨⟨b,xs⟩,rfl,hl,q⟩;dsimp only at hl q;unfold Gd;simp only[aI,wB,aC,aA,wL,aLC,iS,wN,fL,Zb2,List.replicate,cN,f6,g9,dG,dN];refine LV<|uX (f:=λd=>.tup [d,.int 1]) (λd hd Q hq=>?_) .un [] (by simp[aO];omega) ?_
 walk_at "g";exact⟨by simp[aO],hq⟩;have e:(xs.map D.int).map (λd=>D.tup [d,.int 1])=(xs.map λ(i:Int)=>(i:Rat)).map aN:=by rw[List.map_map,List.map_map];exact jg λi _=>(Dq i).symm
 rw[dG,e];exact q
theorem Gu{n m:Nat}:∀(p q:Mn) {k:Nat},(∀x∈p,Sz n x)->(∀x∈q,Sz m x)->p.length<=k->Sz (k*(n+m+1)+1) (bD p q)
 |[],_,k,_,_,_=>by rw[bD];exact Sz.zero tv|_::_,[],k,_,_,_=>by rw[bD];exact Sz.zero tv|x::p,y::q,0,_,_,h=>by simp at h|x::p,y::q,k+1,h1,h2,hk=>by rw[bD];have a:=(h1 x<|E1).mul<|h2 y E1;have b:=Gu p q (k:=k) (λz hz=>h1 z<|by simp[hz]) (λz hz=>h2 z<|by simp[hz]) (by simpa using hk);refine(a.add b).mono ?_;rw[mK];omega
theorem LY:Rd w6 Ge Zek:=by
 rintro _ E Q ⟨⟨⟨b1,b2⟩,p,q⟩,rfl,⟨n,m,hp,hq,hb⟩,h⟩;dsimp only at hp hq hb h;unfold Ge;simp only[aH,aQ,wC,fL,cN,f6,dD,jh,g9,dG,List.replicate,List.set_cons_succ,List.set_cons_zero,bH,bS,iZ,aC,aA,wN,dN,eA,Nat.reduceSub,Nat.reduceAdd];have key:∀(p' q':Mn) (s:Rat) (sv sv':SV) (j:Nat),(∀x∈p',Sz n x)->(∀x∈q',Sz m x)->Sz (j*(n+m+1)+1) s->j+p'.length<=p.length->s+bD p' q'=bD p q->
   Zbh (de 2<|bL (gN 3)<|bL (gN 4) cV) (aQ 2<|wF z8<|aC (wN 2)<|aC (wF qH<|aC (wN 3)<|aC (wN 4) aA) aA) No { nx:=aI (wN 2) E { nx:=λ_=>Q .non,rt:=Q },rt:=Q,bk:=λ_=>False,ct:=λ_=>False }
    (cQ (p'.map aN)<|q'.map aN) [.d<|ia b1<|p.map aN,.d<|ia b2<|q.map aN,.d<|aN s,sv,sv']:=by
  intro p'
  induction p' with
  |nil=>
   intro q' s sv sv' j _ _ _ _ he;rw[bD,km]at he;simp only[cQ,f6,List.zipWith_nil_left,Zbh];show Q (aN s);rw[he];exact h
  |cons x p' ih=>
   intro q' s sv sv' j h1 h2 h3 h4 he;cases q' with
   |nil=>
    rw[bD,km]at he;simp only[cQ,f6,List.zipWith_nil_right,Zbh];show Q (aN s);rw[he];exact h
   |cons y q'=>
    have hx:=h1 x E1;have hy:=h2 y E1;rw[dD]at h4;have hj:j*(n+m+1)<=p.length*(n+m+1):=lU _ tv;have hj':(j+1)*(n+m+1)<=p.length*(n+m+1):=lU _ tv;rw[mK]at hj';simp only[cQ,cN,BU,Zbh];refine⟨rfl,?_⟩;simp only[bL,cV,gN,aQ,wF,aC,aA,wN,dN,eA,List.set_cons_succ,List.set_cons_zero];refine⟨(x,y),rfl,B2.of hx hy<|tv,?_⟩;refine⟨(s,x*y),rfl,B2.of h3 (hx.mul hy)<|tv,?_⟩;refine ih q' (s+x*y) _ _ (j+1) (λz hz=>h1 z<|by simp[hz]) (λz hz=>h2 z<|by simp[hz]) ?_ tv ?_
    .refine(h3.add<|hx.mul hy).mono ?_
     rw[mK];omega
    .rw[bD]at he
     rw[Rat.add_assoc];exact he
 have e0:D.tup [D.int 0,D.int 1]=aN 0:=rfl;rw[e0];have k:=key p q 0 .un .un 0 hp hq (Sz.zero<|tv) tv<|vv _;cases b1<;>cases b2<;>exact k
theorem li{α:Type}{we:WE}{tail:cS}{Q:RF->Prop}{g f:α->D}:∀(L:List α),(∀a∈L,∀Q:D->Prop,Q (f a)->we No (.d (g a)::tail) Q)->∀(sv:SV) (acc:RF),acc.length+L.length<=aO->Q (acc++L.map f)->lcW (gN 0) cU we (L.map g) (sv::tail) acc Q
 |[],_,sv,acc,_,hq=>by simpa[lcW] using hq|a::L,h,sv,acc,hl,hq=>by rw[cN,lcW];show we No (SV.d (g a)::tail) _;rw[dD]at hl;refine h a (lv ..) _ ⟨tv,li L (λd hd=>h d<|jv _ hd) _ _ ?_ ?_⟩;rw[dA,kf];omega;rw[jP];exact hq
theorem LZ{α:Type}{xs:List α}{i:Int}{x:α}(hi:i=k)(h:xs[k]? = some x):et xs i=some x:=by rw[hi];exact bY h
theorem L0{α:Type}{xs:List α}(h:a<=b)(hb:b<=xs.length):cL xs (some (a:Int)) (some (b:Int))=(xs.drop a).take (b-a):=by unfold cL;rw[HT.sIx_nat,HT.sIx_nat,sj hb,sj<|gP h hb]
theorem Gv{α:Type}{xs:List α}{i j:Int}(hi:i=a)(hj:j=b)(h:a<=b)(hb:b<=xs.length):cL xs (some i) (some j)=(xs.drop a).take (b-a):=by rw[hi,hj];exact L0 h hb
theorem ub{α:Type}{xs:List α}(h:a<=xs.length):cL xs (some (a:Int)) none=xs.drop a:=by unfold cL;rw[HT.sIx_nat,HT.sIx_none,sj h,<-iq,List.take_length]
theorem pT{α:Type}{xs:List α}{i:Int}(hi:i=b):cL xs none (some i)=xs.take b:=by
 unfold cL;rw[hi,HT.sIx_nat,HT.sIx_none,qV,Nat.sub_zero];rcases Nat.le_total b xs.length with h|h
 rw[sj h];rw[Nat.min_eq_right h,List.take_length,BJ h]
theorem iB{i:Int}(h:i.natAbs<2^n)(l:n<=8990):Bd i:=dP h<|lT wp l
theorem L3:Rd jR Gf ZlU:=by rintro _ E Q ⟨x,rfl,hl,q⟩;unfold Gf;walk_at "g";refine⟨⟨wp,iB (n:=2) wp<|tv⟩,?_⟩;rw[BV _<|wp];exact q
theorem L4:Rd z9 Gg ZgQ:=by
 rintro _ E Q ⟨x,rfl,hk,q⟩;unfold Gg;walk_at "g";refine Lx hk ?_;walk_at "g";cases ha:my (-50) 50 x with
 |false=>
  have:e8 x=false:=by
   cases x<;>try rfl
   simp only[my]at ha;simp only[e8,ha,Bool.false_and]
  rw[this]at q;simpa using q
 |true=>
  cases x<;>try (cases ha;done)
  rename_i xs;obtain⟨hl,hx⟩:=wQ hk;walk_at "g";simp only[gE,fg,if_false];refine⟨wp,?_⟩;simp only[my]at ha;simp only[e8,ha,Bool.true_and]at q;rw[Fg _<|wp];by_cases h:xs.length%2=1;rw[jx (by simp;omega)];walk_at "g";refine Dh hl ?_;walk_at "g";rw[QT h,Bool.true_and]at q;have e:decide (((xs.length:Int)+1)/2<=5)=decide (xs.length<=9):=by rw[Rk];omega
  rw[e];exact q;rw[ks (by simp;omega)];rw[QU h,Bool.false_and]at q;exact q
theorem L5:Rd mT Gh ZgS:=by
 rintro _ E Q ⟨x,rfl,h,q⟩;unfold Gh;walk_at "g";refine LB h ?_;walk_at "g";unfold gg at q;cases e:e8 x with
 |false=>rw[e]at q;exact q|true=>rw[e]at q;exact q
theorem Ah{x:D}{E:RE}(h:kd x=true)(hb:e8 x=false->E "NoSlants")(hg:∀s n,x=aJ s->IsSl s n->Q .non):mT [x] E Q:=by
 cases e:e8 x with
 |false=>exact Ae h e<|hb e
 |true=>obtain⟨s,n,rfl,hs⟩:=kF e;exact Ad hs<|hg s n rfl hs
theorem jM{x:D}{v:Except Str D}{E:RE}(e:e8 x=false)(q:exQ E Q (gg x v)):E "NoSlants" :=by rw[lN e]at q;exact q
theorem jN{v:Except Str D}{E:RE}(h:IsSl s n)(q:exQ E Q (gg (aJ s) v)):exQ E Q v:=by rw[Zb h]at q;exact q
theorem L6:Rd w8 Gi Zj1:=by
 rintro _ E Q ⟨x,rfl,hk,q⟩;unfold Gi;walk_at "g";refine Ah hk (λe=>jM e q) λs n e h=>?_;subst e;replace q:Q (jL s n):=by have:=jN h q;rw[d8,h.sN]at this;exact this
 refine mU h ?_;walk_at "g";have h5:=h.n5;have hl:=h.len;refine⟨tv,tv,?_⟩;rw[jO];refine uX (f:=λd=>match d with|.int i=>eG ((s.drop<|n-1-i.toNat).take n)|_=>.non) (λd hd Q hq=>?_) .un [] (by simp[rng,aO];omega) ?_;obtain⟨i,hi,rfl⟩:=YbT.mp hd;rw[Yah]at hi;walk_at "g";refine⟨⟨iB (n:=2) wp<|tv,iB (n:=10) tv<|tv⟩,?_⟩;have e:cL (s.map D.int) (some<|(n:Int)-1-(0+(i:Int))) (some<|2*(n:Int)-1-(0+(i:Int)))=((s.drop<|n-1-i).take n).map D.int:=by rw[Gv (a:=n-1-i) (b:=2*n-1-i) tv tv tv (by rw[aZ];omega),show 2*n-1-i-(n-1-i)=n by omega,<-oD,<-kJ]
 show Q (D.lst<|cL (s.map D.int) _ _);rw[e];have e2:(0+(i:Int)).toNat=i:=tv
 rw[e2]at hq;exact hq;have e:(rng 0 n).map (λd=>match d with|.int i=>eG ((s.drop<|n-1-i.toNat).take n)|_=>.non)=(tbl s n).map eG:=by unfold rng tbl;rw[List.map_map,List.map_map];refine jg λi _=>?_;simp
 rw[dG,e];exact q
theorem gW(s:Lb)(n:Nat):(tbl s n).length=n:=by simp[tbl]
theorem jS(h:IsSl s n):∀r∈tbl s n,r.length=n/\∀x∈r,-50<=x/\x<=50:=by intro r hr;unfold tbl at hr;obtain⟨i,hi,rfl⟩:=YbT.mp hr;rw[Yah]at hi;have hl:=h.len;refine⟨by rw[fZ,iq];omega,λx hx=>h.b x<|lW<|lX hx⟩
theorem L7:Rd Aa Gj ZfD:=by
 rintro _ E Q ⟨x,rfl,hk,q⟩;unfold Gj;walk_at "g";refine Ah hk (λe=>jM e q) λs n e h=>?_;subst e;replace q:Q (aJ s.reverse):=by have:=jN h q;rw[d8]at this;exact this
 unfold aJ;walk_at "g";rw[<-uG];exact q
theorem L8:Rd rN Gk ZnB:=by
 rintro _ E Q ⟨⟨x,k⟩,rfl,⟨hk,hk2⟩,q⟩;dsimp only at hk hk2 q;unfold Gk;walk_at "g";refine Ah hk (λe=>jM e q) λs n e h=>?_;subst e;replace q:=jN h q;rw[h.sN,d8]at q;have hl:=h.len;refine mU h ?_;walk_at "g";refine Lw hk2 ?_;walk_at "g";cases e:lh 1 (n:Int) k with
 |false=>rw[e]at q;exact q
 |true=>
  rw[e]at q;have q:Q (aJ<|cor s n (uY k).toNat):=q;obtain⟨i,rfl⟩:∃i,k=.int i:=by cases k<;>first|exact⟨_,rfl⟩|cases e
  simp only[lh,d9,QV]at e;obtain⟨k,rfl⟩:∃k:Nat,i=k:=⟨i.toNat,tv⟩;simp only[gE,fg,if_false];unfold aJ;walk_at "g";rw[Gv (a:=n-k) (b:=n+k-1) tv tv tv (by rw[aZ];omega),show n+k-1-(n-k)=2*k-1 by omega,<-oD,<-kJ];exact q
theorem L9:Rd rO Gm Zj7:=by rintro _ E Q ⟨⟨x,y⟩,rfl,⟨hk,hk2⟩,q⟩;dsimp only at hk hk2 q;unfold Gm;walk_at "g";refine Ah hk (λe=>jM e q) λs n e h=>?_;subst e;replace q:=jN h q;rw[h.sN]at q;exact mU h<|FV hk2 q
theorem Ma:Rd tY Gn ZhG:=by
 rintro _ E Q ⟨⟨s,n⟩,rfl,h,q⟩;have h5:=h.n5;unfold Gn;walk_at "g";refine F0 h ?_;unfold jL;walk_at "g";refine uX (f:=λd=>match d with|.lst xs=>.tup (xs.map λx=>.tup [x,.int 1])|_=>.non) (λd hd Q hq=>?_) .un [] (by simp[gW,aO];omega) ?_;obtain⟨r,hr,rfl⟩:=YbT.mp hd;walk_at "g";have:=(jS h r hr).1;refine FW tv ?_;have e:aE (dg r)=.tup ((r.map D.int).map λx=>.tup [x,.int 1]):=by unfold aE dg;rw[List.map_map,List.map_map];exact congrArg D.tup<|jg λi _=>Dq i
 rw[e];exact hq;have e:((tbl s n).map eG).map (λd=>match d with|.lst xs=>.tup (xs.map λx=>.tup [x,.int 1])|_=>.non)=(tbl s n).map λr=>aE (dg r):=by rw[List.map_map];refine jg λr _=>?_;unfold aE dg;simp only[Function.comp_apply,eG];rw[List.map_map,List.map_map];exact congrArg D.tup<|jg λi _=>(Dq i).symm
 rw[dG,e];exact q
theorem Ai{x:Int}(h:-50<=x/\x<=50):Sz 6 (x:Rat):=Sz.int x tv tv
theorem Mb:Rd rP Go Zjc:=by
 rintro _ E Q ⟨⟨x,y⟩,rfl,⟨hk,hk2,hbs⟩,q⟩;dsimp only at hk hk2 hbs q;unfold Go;walk_at "g";cases e:e8 x with
 |false=>exact LE hk hk2 e<|jM e q
 |true=>
 obtain⟨s,n,rfl,h⟩:=kF e;have h5:=h.n5;refine Ag h hk2 ?_;replace q:=jN h q;rw[h.sN,d8]at q;walk_at "g";cases er:jt n y with
 |false=>rw[er]at q;exact q
 |true=>
 rw[er]at q;obtain⟨r,rfl,hl'⟩:=Ac er;have hl:r.length=n:=tv
 have q:Q (aE<|bJ s n<|rQ<|aE r):=q;rw[qI]at q;obtain⟨m,hm,hb⟩:=hbs r rfl;simp only[gE,fg,if_false];refine Dk h ?_;walk_at "g";have key:∀line∈tbl s n,BR (dg line) r:=λline hline=>by
  obtain⟨h1,h2⟩:=jS h line hline;refine⟨6,m,λx hx=>?_,hm,?_⟩
  .obtain⟨i,hi,rfl⟩:=YbT.mp hx
   exact Ai<|h2 i hi
  .have:(dg line).length=n:=by unfold dg;rw[aZ];exact h1
   rw[this];have:n*(6+m+1)<=5*(6+m+1):=lU _ h5;omega
 refine li (g:=λline=>aE<|dg line) (f:=λline=>aN<|bD (dg line) r) (tbl s n) (λline hl' Q hq=>?_) .un [] (by simp[gW,aO];omega) ?_
 .walk_at "g"
  exact FX (key line hl') hq
 .have e:(tbl s n).map (λline=>aN<|bD (dg line) r)=(bJ s n r).map aN:=by
   unfold bJ;rw[List.map_map];rfl
  rw[dG,e];exact q
def Aj:bN:=fnS (λx:Lb×Nat=>[.scr<|x.1.map .int,.int x.2]) (λ_=>True) λx=>.int<|x.1.getD x.2 0
def xh:bN:=rlS (λx:Int=>[.int x]) (λ_=>True) λ_ d=>∃j:Int,d=.int j
def Ak:bN:=fnS (λx:Int=>[.int x]) (λ_=>True) λ_=>.pen
def kH:bN:=rlS (λm:Nat=>[.pen,.int m]) (λm=>0<m/\m<2^30) λm d=>∃k:Nat,d=.int k/\k<m
def rR:bN:=tW
def Gw:bN:=rlS (λ_:Unit=>[.pen]) (λ_=>True) λ_ d=>∃s n,IsSl s n/\d=aJ s
section
variable{E:RE}{x:D}{l m a b:Int}{p:Rat}
theorem Mc{xs:Lb}(q:Q (.int<|xs.getD i 0)):Aj [.scr<|xs.map .int,.int i] E Q:=⟨(xs,i),rfl,trivial,q⟩
theorem Gx(q:∀j:Int,Q<|.int j):xh [.int a] E Q:=⟨a,rfl,trivial,λd ⟨j,hd⟩=>by rw[hd];exact q j⟩
theorem Md(q:Q .pen):Ak [.int a] E Q:=⟨a,rfl,trivial,q⟩
theorem mB(h:0<n)(h':n<2^30)(q:∀k:Nat,k<n->Q (.int k)):kH [.pen,.int n] E Q:=⟨n,rfl,⟨h,h'⟩,λd ⟨k,hd,hk⟩=>by rw[hd];exact q k hk⟩
theorem xi(h:b≠0)(h':Bd b)(q:Q (aN<|Rat.divInt a b)):rR [.int a,.int b] E Q:=⟨(a,b),rfl,⟨h,h'⟩,q⟩
theorem Me(q:∀s n,IsSl s n->Q (aJ s)):Gw [.pen] E Q:=⟨(),rfl,trivial,λd ⟨s,n,h,hd⟩=>by rw[hd];exact q s n h⟩
end
abbrev Zf6:Rv:=["_law_script", "_law_k"]
def Gy:WS:=(aH (cP (wT<|w2 pp (wN 1)<|wB bZ<|aC (wN 0) aA) (aI<|w2 gIx (wN 0)<|wN 1) cR)<|aI<|wC<|.int<|0)
abbrev Zjk:Rv:=["_law_seed"]
def Gz:WS:=(aH (aQ 0<|w2 rK (w2 gAdd (wN 0)<|wC<|.int<|7919)<|wC<|.int<|2147483647)<|aI<|w2 rK (w2 gAdd (w2 gAdd (w2 gMul (wN 0)<|wN 0)<|w2 gMul (wC<|.int<|48271)<|wN 0)<|wC<|.int<|12345)<|wC<|.int<|2147483629)
abbrev ZgW:Rv:=["_law_cell", "_law_left"]
def GA:WS:=(aH (aQ 1<|wB k6<|aC (wN 0)<|aC (w2 i6 (wC<|.int<|0)<|wN 0) aA)<|aI<|fq<|cF<|aC (wN 1)<|aC (wB i4<|aC (w2 C9 (wN 1)<|w2 wP (wC<|.int<|10)<|wC<|.int<|18) aA)<|aC (w2 rK (wN 1)<|wC<|.int<|1000003) aA)
abbrev Zjl:Rv:=["_law_pen", "_law_many", "_law_found"]
def GB:WS:=(aH (cP (wT<|w2 (gEq false) (w2 d7 (wN 0)<|wC<|.int<|1)<|wC<|.int<|1) (aH (aQ 2<|w2 rK (w2 d7 (wN 0)<|wC<|.int<|0)<|wN 1)<|aH (eV 0<|w2 h9 (w2 d7 (wN 0)<|wC<|.int<|0)<|wN 1)<|aI<|wN 2) cR)<|aH (eV 0<|wF xh<|aC (w2 gAdd (wF xh<|aC (w2 d7 (wN 0)<|wC<|.int<|2) aA)<|wC<|.int<|7) aA)<|aI<|w2 rK (w2 h9 (w2 d7 (wN 0)<|wC<|.int<|2)<|wC<|.int<|64)<|wN 1)
theorem Mf:Rd Aj Gy Zf6:=by rintro _ E Q ⟨⟨xs,i⟩,rfl,_,q⟩;unfold Gy;walk_at "g";by_cases h:i<xs.length;rw[ks<|by simp[h]];refine⟨.int<|xs.getD i 0,LZ rfl ?_,q⟩;rw[cJ,aW,bP h];rfl;rw[jx (by simp;omega)];rw[aW,dX<|tv]at q;exact q
theorem Mg:Rd xh Gz Zjk:=by rintro _ E Q ⟨x,rfl,_,q⟩;unfold Gz;walk_at "g";have h1:=BW (x+7919) (show(0:Int)<2147483647 by decide);have h2:=Int.fmod_lt_of_pos (x+7919) (show(0:Int)<2147483647 by decide);have b:Bd ((x+7919).fmod 2147483647):=iB (n:=32) tv tv;exact⟨wp,⟨b,b⟩,⟨iB (n:=32) wp<|tv,b⟩,wp,q _ ⟨_,rfl⟩⟩
theorem Mh:Rd Ak GA ZgW:=by rintro _ E Q ⟨x,rfl,_,q⟩;unfold GA;walk_at "g";exact⟨⟨wp,wp,wp⟩,wp,wp,⟨_,_,_,rfl⟩,q⟩
theorem Mi:Rd kH GB Zjl:=by
 rintro _ E Q ⟨m,rfl,⟨h0,h1⟩,q⟩;have hb:Bd (m:Int):=iB (n:=30) tv tv;have fin:∀x:Int,Q (.int<|x.fmod m):=λx=>by have h1:=BW x (show(0:Int)<m by omega);have h2:=Int.fmod_lt_of_pos x (show(0:Int)<m by omega);exact q _ ⟨(x.fmod m).toNat,by rw[BH h1],tv⟩
 unfold GB;walk_at "g";refine⟨E1,λj=>?_⟩;walk_at "g";split;refine⟨E1,λi=>⟨tv,?_⟩⟩;walk_at "g";exact⟨E1,λi'=>⟨⟨tv,hb⟩,fin i⟩⟩;refine⟨E1,λk=>Gx λk1=>?_⟩;walk_at "g";refine Gx λk2=>?_;walk_at "g";exact⟨E1,λk3=>⟨⟨wp,iB (n:=7) wp<|tv⟩,tv,fin _⟩⟩
theorem GC(x:Int):(if x<0 then -x else x)=((x.natAbs:Nat):Int):=by split<;>omega
theorem u3{t b:Int}(hb:b≠0)(h1:t.natAbs<2^n)(h2:b.natAbs<2^n):Sz n (Rat.divInt t b):=by
 unfold Sz;rw[Rat.num_divInt,Rat.den_divInt,jx hb];have hg:Int.gcd b t≠0:=by have:=Int.gcd_pos_of_ne_zero_left t hb;omega
 refine⟨lV (FQ hg ?_) ?_,lV (Nat.div_le_self _ _) h2⟩;exact Int.dvd_mul_of_dvd_right<|Int.gcd_dvd_right ..
 rw[eh,Int.natAbs_sign_of_ne_zero hb,Nat.one_mul];exact h1
local macro_rules | `(tactic| ext)=>`(tactic| ((try dsimp only at *);(try walk_at "w");(try dsimp only)))
theorem cB{z:WS}{E:RE}(h:z E { N with nx:=z' E N } ρ):aH z z' E N ρ:=h
theorem xj{z:WS}{E:RE}(I:cS->Prop)(hz:∀nx:cS->Prop,(∀ρ,I ρ->nx ρ)->z E { N with nx:=nx } ρ)(hr:∀ρ,I ρ->z' E N ρ):aH z z' E N ρ:=hz _ hr
theorem gp{c:WT}{E:RE}{b:Bool}(hc:∀Q:Bool->Prop,Q b->c E ρ Q)(h1:b=true->zb E N ρ)(h2:b=false->N.nx ρ):cP c zb cR E N ρ:=by
 refine hc _ ?_;cases b with
 |true=>rw[ks rfl];exact h1 rfl|false=>rw[jx<|wp];exact h2 rfl
theorem Dr(xs:Lb):pk (xs.map D.int)=true:=by
 induction xs with
 |nil=>rfl|cons x xs ih=>rw[cN,pk,ih];rfl
theorem GD(h:∀y∈ys,∃i:Int,y=.int i/\-50<=i/\i<=50):∃s:Lb,ys=s.map D.int/\∀x∈s,-50<=x/\x<=50:=by
 induction ys with
 |nil=>exact⟨[],rfl,E1⟩
 |cons y ys ih=>
  obtain⟨s,rfl,hs⟩:=ih λz hz=>h z (by simp[hz]);obtain⟨i,rfl,h1,h2⟩:=h y E1;exact ⟨i::s,rfl,λx hx=>by
   rcases Yan.mp hx with rfl|hx
   .exact⟨h1,h2⟩
   .exact hs x hx⟩
abbrev LX:Rv:=["NoSlants", "NoRow", "NoNumber", "NoLine", "NotEven", "NotFull"]
abbrev MX:Rv:=["NoSlants", "NoRow", "NoNumber", "NoLine", "NotEven", "NotFull", "NotStrong", "NoText", "TooGreat"]
mutual
def iC(m:Nat):D->Bool
 |.int i=>decide (i.natAbs<2^m)|.tup xs=>eI m xs|.lst xs=>eI m xs|_=>true
def eI(m:Nat):RF->Bool
 |[]=>true|x::r=>iC m x&&eI m r
end
theorem xk{m:Nat}:∀{xs:RF},eI m xs=true↔∀x∈xs,iC m x=true
 |[]=>by simp[eI]|x::r=>by rw[eI,d9,xk];simp
theorem ZiH:iC m (aN q)=true↔Sz m q:=by unfold aN Sz;rw[iC,eI,eI,eI,iC,iC];simp
theorem Zco:iC m (aE r)=true↔∀x∈r,Sz m x:=by
 unfold aE;rw[iC,xk];constructor;intro h x hx;exact ZiH.mp<|h _ (kK hx)
 intro h x hx;obtain⟨q,hq,rfl⟩:=YbT.mp hx;exact ZiH.mpr<|h q hq
def sm:Nat->(Rx)->Rat
 |0,_=>0|n+1,f=>f 0+sm n λi=>f<|i+1
theorem Al:∀{n:Nat} {f g:Rx},(∀i,i<n->f i=g i)->sm n f=sm n g
 |0,_,_,_=>rfl|n+1,f,g,h=>by rw[sm,sm,h 0<|tv,Al λi hi=>h (i+1)<|tv]
theorem GE:∀(n:Nat) (f g:Rx),sm n (λi=>f i+g i)=sm n f+sm n g
 |0,_,_=>by rw[sm,sm,sm,km]|n+1,f,g=>by rw[sm,sm,sm,GE n (λi=>f<|i+1) λi=>g<|i+1];grind
theorem Ds:∀(n:Nat) (c:Rat) (f:Rx),c*sm n f=sm n λi=>c*f i
 |0,c,_=>by rw[sm,sm,dI]|n+1,c,f=>by rw[sm,sm,<-Ds n c λi=>f<|i+1];grind
theorem GF:∀{n:Nat} {f:Rx},(∀i,i<n->f i=0)->sm n f=0
 |0,_,_=>rfl|n+1,f,h=>by rw[sm,h 0<|tv,GF λi hi=>h (i+1)<|tv,km]
theorem GG(m:Nat):∀(n:Nat) (f:Nat->Rx),(sm n λi=>sm m λj=>f i j)=sm m λj=>sm n λi=>f i j
 |0,f=>by rw[sm];exact(GF λ_ _=>rfl).symm|n+1,f=>by rw[sm,GG m n λi j=>f (i+1) j,<-GE];rfl
theorem Am:∀(n:Nat) (f g:Rx),bD ((List.range n).map f) ((List.range n).map g)=sm n λi=>f i*g i
 |0,_,_=>rfl|n+1,f,g=>by rw[BX,cN,cN,List.map_map,List.map_map,bD,sm,<-Am n (λi=>f<|i+1) λi=>g<|i+1];rfl
theorem Du{α:Type}(r:List α)(d:α):r=(List.range r.length).map λi=>r.getD i d:=by
 refine si λi=>?_;rcases gx i r.length with h|h
 rw[cJ,iN h,p9,aW,bP h];rfl;rw[dX h,dX<|by simpa using h]
theorem GH{α:Type}{f g:Nat->α}(h:∀i,i<n->f i=g i):(List.range n).map f=(List.range n).map g:=
 jg λi hi=>h i<|Yah.mp hi
def ent(s:Lb)(n i j:Nat):Int:=s.getD (n-1-i+j) 0
theorem GI(h:IsSl s n):tbl s n=(List.range n).map λi=>(List.range n).map λj=>ent s n i j:=by
 unfold tbl;refine GH λi hi=>si λj=>?_;have hl:=h.len;rcases gx j n with hj|hj
 rw[List.getElem?_take_of_lt hj,uH,cJ,iN hj,bP<|tv];unfold ent;rw[p9,aW,bP<|tv];rfl;rw[dX (by rw[fZ];omega),dX<|by simpa using hj]
theorem IsSl.rev(h:IsSl s n):IsSl s.reverse n:=⟨by rw[vo];exact h.len,h.n1,h.n5,λx hx=>h.b x<|Ycu.mp hx⟩
theorem Mj(h:IsSl s n)(hi:i<n)(hj:j<n):ent s.reverse n i j=ent s n j i:=by have hl:=h.len;unfold ent;rw[aW,aW,List.getElem?_reverse<|tv];congr 2;omega
theorem iD(h:IsSl s n)(h1:1<=k)(h2:k<=n):IsSl (cor s n k) k:=by have hl:=h.len;have h5:=h.n5;refine⟨?_,h1,tv,λx hx=>h.b x<|lW<|lX hx⟩;unfold cor;rw[fZ,iq];omega
theorem GJ(h:IsSl s n)(hr:r.length=n):bJ s n r=(List.range n).map λi=>sm n λj=>(ent s n i j:Rat)*r.getD j 0:=by
 unfold bJ;rw[GI h,List.map_map];refine GH λi hi=>?_;show bD (dg<|(List.range n).map λj=>ent s n i j) r=_;unfold dg;rw[List.map_map];conv=>lhs;rw[Du r 0,hr]
 exact Am n _ _
theorem GK{o:Mn}(h:IsSl s n)(hr:r.length=n)(ho:o.length=n):bD o (bJ s n r)=bD r (bJ s.reverse n o):=by
 rw[GJ h hr,GJ h.rev ho];conv=>lhs;rw[Du o 0,ho]
 conv=>rhs;rw[Du r 0,hr]
 rw[Am,Am];have e1:(sm n λi=>o.getD i 0*sm n λj=>(ent s n i j:Rat)*r.getD j 0)=sm n λi=>sm n λj=>o.getD i 0*((ent s n i j:Rat)*r.getD j 0):=Al λi _=>Ds _ _ _;rw[e1,GG];refine Al λj hj=>?_;rw[Ds];refine Al λi hi=>?_;rw[Mj h hj hi];grind
def bG(n p:Nat):Mn:=(List.range n).map λj=>if j=p then 1 else 0
theorem Dv{g:WG}{zb:WS}{E:RE}{N:Nds}(I:cS->Prop):∀(ds:RF),(∀d∈ds,∀ρ,I ρ->∀nx:cS->Prop,(∀ρ,I ρ->nx ρ)->g d ρ λρ1=>zb E { nx:=nx,rt:=N.rt,bk:=N.nx,ct:=nx } ρ1)->(∀ρ,I ρ->N.nx ρ)->∀ρ,I ρ->Zbh g zb E N ds ρ
 |[],_,hn,ρ,i=>hn ρ i|d::ds,h,hn,ρ,i=>h d (lv ..) ρ i _<|Dv I ds (λd hd=>h d<|jv _ hd) hn
theorem uc{g:WG}{zb:WS}{E:RE}{N:Nds}(I:RF->cS->Prop)(h:∀d ds ρ,I (d::ds) ρ->∀nx:cS->Prop,(∀ρ,I ds ρ->nx ρ)->g d ρ λρ1=>zb E { nx:=nx,rt:=N.rt,bk:=N.nx,ct:=nx } ρ1)(hn:∀ρ,I [] ρ->N.nx ρ):∀(ds:RF) ρ,I ds ρ->Zbh g zb E N ds ρ
 |[],ρ,i=>hn ρ i|d::ds,ρ,i=>h d ds ρ i _<|uc I h hn ds
theorem ud(n:Nat):rng 0 n=(List.range n).map λ(k:Nat)=>D.int (k:Int):=by unfold rng;exact jg λk _=>by rw[Int.zero_add]
section
variable{QI:Int->Prop}{QB:Bool->Prop}{i j:Int}{b:Bool}{o o':Option Int}
theorem lO:isB QB (.bl b)=QB b:=rfl
theorem mV:isI QI (.int i)=QI i:=rfl
theorem mW:isL QL (.lst xs)=QL xs:=rfl
theorem mX:isL QL (eG s)=QL (s.map .int):=rfl
theorem mY:isL QL (jL s n)=QL ((tbl s n).map eG):=rfl
theorem Zi:zT QL (.tup xs)=QL xs:=rfl
theorem mZ:isS QL (.lst xs)=QL xs:=rfl
theorem m6:isS QL (.tup xs)=QL xs:=rfl
theorem m7:isS QL (aE r)=QL (r.map aN):=rfl
theorem m8:isS QL (aJ s)=QL (s.map .int):=rfl
theorem m9:isS QL (eG s)=QL (s.map .int):=rfl
theorem nb:isS QL (jL s n)=QL ((tbl s n).map eG):=rfl
theorem nh:bZ [.tup xs] Q=Q (.int xs.length):=rfl
theorem nq:bZ [.lst xs] Q=Q (.int xs.length):=rfl
theorem nr:bZ [.scr xs] Q=Q (.int xs.length):=rfl
theorem nu:bZ [aE r] Q=Q (.int r.length):=by show Q (.int ((r.map aN).length:Int))=_;rw[aZ]
theorem nw:bZ [aJ s] Q=Q (.int s.length):=by show Q (.int ((s.map D.int).length:Int))=_;rw[aZ]
theorem ny:bZ [eG s] Q=Q (.int s.length):=by show Q (.int ((s.map D.int).length:Int))=_;rw[aZ]
theorem nA:bZ [jL s n] Q=Q (.int n):=by show Q (.int (((tbl s n).map eG).length:Int))=_;rw[aZ,gW]
theorem nB:gIx (.tup xs) (.int i) Q = ∃d,et xs i=some d/\Q d:=rfl
theorem nC:gIx (.lst xs) (.int i) Q = ∃d,et xs i=some d/\Q d:=rfl
theorem nD:gIx (.scr xs) (.int i) Q = ∃d,et xs i=some d/\Q d:=rfl
theorem nE:gIx (aE r) (.int i) Q = ∃d,et (r.map aN) i=some d/\Q d:=rfl
theorem nF:gIx (aJ s) (.int i) Q = ∃d,et (s.map .int) i=some d/\Q d:=rfl
theorem nG:gIx (eG s) (.int i) Q = ∃d,et (s.map .int) i=some d/\Q d:=rfl
theorem nH:gIx (jL s n) (.int i) Q = ∃d,et ((tbl s n).map eG) i=some d/\Q d:=rfl
theorem nI:gCut (.tup xs) o o' Q=Q (.tup<|cL xs o o'):=rfl
theorem nJ:gCut (.lst xs) o o' Q=Q (.lst<|cL xs o o'):=rfl
theorem nK:gCut (.scr xs) o o' Q=Q (.lst<|cL xs o o'):=rfl
theorem nL:gCut (aE r) o o' Q=Q (.tup<|cL (r.map aN) o o'):=rfl
theorem nM:gCut (aJ s) o o' Q=Q (.tup<|cL (s.map .int) o o'):=rfl
theorem nN:gCut (eG s) o o' Q=Q (.lst<|cL (s.map .int) o o'):=rfl
theorem nO:gCut (jL s n) o o' Q=Q (.lst<|cL ((tbl s n).map eG) o o'):=rfl
theorem nP:gRev (.tup xs) Q=Q (.tup xs.reverse):=rfl
theorem nQ:gRev (.lst xs) Q=Q (.lst xs.reverse):=rfl
theorem nR:gRev (aE r) Q=Q (aE r.reverse):=by show Q (.tup (r.map aN).reverse)=_;rw[<-uG];rfl
theorem nS:gRev (aJ s) Q=Q (aJ s.reverse):=by show Q (.tup (s.map D.int).reverse)=_;rw[<-uG];rfl
theorem nU:gRev (eG s) Q=Q (eG s.reverse):=by show Q (.lst (s.map D.int).reverse)=_;rw[<-uG];rfl
theorem nV{α:Type}:h7 (α:=α) [.tup xs] QL=QL xs:=rfl
theorem nX{α:Type}:h7 (α:=α) [.lst xs] QL=QL xs:=rfl
theorem nY{α:Type}:h7 (α:=α) [aJ s] QL=QL (s.map .int):=rfl
theorem nZ:kC [.tup xs] Q=Q (.tup xs):=rfl
theorem n0:kC [.lst xs] Q=Q (.tup xs):=rfl
theorem n4:kC [eG s] Q=Q (aJ s):=rfl
theorem n6:gAdd (.int i) (.int j) Q=Q (.int<|i+j):=rfl
theorem n8:gAdd (.lst xs) (.lst ys) Q=(xs.length+ys.length<=aO/\Q (.lst<|xs++ys)):=rfl
theorem n9:gAdd (.tup xs) (.tup ys) Q=(xs.length+ys.length<=aO/\Q (.tup<|xs++ys)):=rfl
theorem oa:gMul (.int i) (.int j) Q=(rE i j/\Q (.int<|i*j)):=rfl
theorem oh:gMul (.lst xs) (.int j) Q=(j<1000/\-1000<j/\xs.length*j.toNat<=aO/\Q (.lst (List.replicate j.toNat xs).flatten)):=rfl
theorem gu{C:Int->Int->Prop}{kd:Int->Int->D}:gI2 C kd (.int i) (.int j) Q=(C i j/\Q (kd i j)):=rfl
theorem oj:jJ [.int i] Q=Q (.int (if i<0 then -i else i)):=rfl
theorem ol:k6 [.int i,.int j] Q=Q (.int (if j>i then j else i)):=rfl
theorem om:i4 [.bl b] Q=Q (.int (if b then 1 else 0)):=rfl
theorem oq:i4 [.int i] Q=Q (.int i):=rfl
theorem ot:h8 [.lst xs] Q = ∃bs:List Bool,xs=bs.map D.bl/\Q (.bl<|bs.all id):=rfl
theorem gJ:i1 QL [.int j]=(-10000<=j/\j<10000/\QL (rng 0 j.toNat)):=rfl
theorem gK:i2 QL [.int i,.int j]=((-10000<=i/\i<10000/\-10000<=j/\j<10000)/\QL (rng i (j-i).toNat)):=rfl
end
def dF:Nat->RF->RF
 |_,[]=>[]|i,x::xs=>.tup [.int i,x]::dF (i+1) xs
def iE(t:WA):WA:=λE ρ Q=>t E ρ λds=>match ds with|[x]=>isS (λxs=>Q<|dF 0 xs) x|_=>False
def DV(i:Nat)(t:WA):WS:=λE N ρ=>match ρ[i]? with
 |some (.ow xs)=>t E ρ λys=>xs.length+ys.length<=aO/\N.nx (ρ.set i<|.ow<|xs++ys)
 |_=>False
def Nz(wt:WT)(wa wb:WA):WA:=λE ρ Q=>wt E ρ λk=>if k=true then wa E ρ Q else wb E ρ Q
local macro_rules | `(tactic| walk_at "w")=>`(tactic| simp only[iE,aI,cP,aQ,cR,fK,cc,cH,bS,kE,ez,eu,df,iA,eV,lg,bH,i7,ic,wM,ZdL,gB,fj,ky,fi,fJ,bW,wT,kz,w1,w2,wB,wF,wL,bO,cG,ZbE,aB,cF,aC,aA,aLC,Zb2,cU,iS,iL,iT,iy,jr,iZ,eL,dW,wN,wC,gN,de,bL,cV,d7,k9,fq,eH,fT,dJ,fU,fo,fV,aCut,fL,pub,cN,f6,dD,jh,g9,dG,List.replicate,dN,eA,List.set_cons_zero,List.set_cons_succ,Nat.reduceSub,Nat.reduceAdd,iM,lB,true_and,fg,if_true,if_false,ite_true,ite_false,jO,gE,mM,lO,mV,mW,mX,mY,Zi,mZ,m6,m7,m8,m9,nb,nh,nq,nr,nu,nw,ny,nA,nB,nC,nD,nE,nF,nG,nH,nI,nJ,nK,nL,nM,nN,nO,nP,nQ,nR,nS,nU,nV,nX,nY,nZ,n0,n4,n6,n8,n9,oa,oh,gu,oj,ol,om,oq,ot,gJ,gK,DV,Nz])
local macro_rules | `(tactic| walk_at "n")=>`(tactic| ((try dsimp only);(refine cB ?_);ext))
theorem Mk(a b c d:Int):gC (.tup [.int a,.int b]) (.tup [.int c,.int d])=(a==c&&b==d):=by simp[gC,pd,gU,PyData.eqv,PyData.eqvAll]
theorem Ml(h:xs.length+ys.length<=aO)(q:Q (.tup<|xs++ys)):gAdd (.tup xs) (.tup ys) Q:=⟨h,q⟩
theorem eJ(h:n<=5000):n<=aO:=by unfold aO;omega
theorem GL{E:RE}(I:Nat->cS->Prop)(n:Nat)(h:∀k,k<n->∀ρ,I k ρ->∀nx:cS->Prop,(∀ρ,I (k+1) ρ->nx ρ)->g (.int k) ρ λρ1=>zb E { nx:=nx,rt:=N.rt,bk:=N.nx,ct:=nx } ρ1)(hn:∀ρ,I n ρ->N.nx ρ)(ρ:cS)(h0:I 0 ρ):Zbh g zb E N (rng 0 n) ρ:=by
 refine uc (λds ρ=>∃k,k<=n/\ds=(rng 0 n).drop k/\I k ρ) ?_ ?_ _ ρ ⟨0,jw _,by rw[qV],h0⟩;rintro d ds ρ ⟨k,hk,e,i⟩ nx hnx;have hlen:(rng 0 n).length=n:=by unfold rng;simp
 have hkn:k<n:=by
  rcases gx k n with z|z
  exact z;rw[List.drop_eq_nil_of_le<|tv]at e;cases e
 rw[qW<|tv]at e;injection e with e1 e2
 have e3:(rng 0 n)[k]' tv=.int k:=by unfold rng;simp
 rw[e1,e3];exact h k hkn ρ i nx λρ' i'=>hnx ρ' ⟨k+1,hkn,e2,i'⟩;rintro ρ ⟨k,hk,e,i⟩;have hlen:(rng 0 n).length=n:=by unfold rng;simp
 have hkn:k=n:=by
  rcases gx k n with z|z
  rw[qW<|tv]at e;cases e;omega
 subst hkn;exact hn ρ i
theorem An{D:Addr}(g:PySem.W.findIn K (.ref D) "__getattribute__" = some (some<|.builtin "BaseException.__getattribute__"))(gn:PySem.W.findIn K (.ref D) "__getattr__" = some none)(be:PySem.W.mroIn K D (.type "BaseException")=some true)(h:PySem.W.hasDictIn K D=true)(a:PySem.W.findIn K (.ref D) "__class__" = some (some<|.builtin "object.__class__"))(gt:PySem.W.specialIn K (.builtin "object.__class__") "__get__" = some (some<|.builtin "getset_descriptor.__get__"))(tk:PySem.W.takesIn K (.builtin "object.__class__")=some true)(ob:PySem.W.mroIn K D (.type "object")=some true):tM K D:=
 ⟨g,gn,be,by obtain⟨cd,hc,_⟩:=PySem.W.any_some h;rw[hc];rfl,a,gt,tk,ob⟩
section
variable{pos:Pos}
def Dw:WE:=λ_ _ _=>False
theorem Mm:PX X EX e Dw:=⟨⟨λ_ _ _=>False,λ_ _ _ _ _ _ h=>h.elim,λ_ _ _ _ _ _ _ _ _ _ h=>h.elim⟩,λ_ _ _ _ _ h=>h⟩
theorem Mo{t:WA}{T:TE}(k:∀W0 H0 W σ H ρ E Q,SOk X.K W0 H0 W σ H ρ->kv X.K W0 H0 E EX->t E ρ (λds=>∀a vs W' H',Ext W H W' H'->H' a=some (.lst vs)->W'.G a=none->¬W'.Pn a->H a=none->Reps X.K W' vs ds->Q (.ref a) H')->T σ H Q)
  (m:∀E ρ P P',(∀d,P d->P' d)->t E ρ P->t E ρ P') (i:Nat):∀W0 H0 W σ H ρ E Q,SOk X.K W0 H0 W σ H ρ->kv X.K W0 H0 E EX->dJ i t E ρ (λds=>∀a vs W' H',Ext W H W' H'->H' a=some (.lst vs)->W'.G a=none->¬W'.Pn a->H a=none->Reps X.K W' vs ds->Q (.ref a) H')->T σ H Q:=by
 intro W0 H0 W σ H ρ E Q s eo h;unfold dJ at h;rcases s.lend i with ep|⟨a,us,s',e3,e2,e6⟩
 .rw[ep]at h
  exact k W0 H0 W σ H ρ E Q s eo<|m _ _ _ _ (λd hd=>hd.2) h
 .refine k W0 H0 _ σ H _ E Q s' eo (m _ _ _ _ (λd hd b vs W2 H2 x2 h1 h2 h3 h4 r2=>?_) h)
  have hb:b≠a:=λz=>by rw[z,e2]at h4;cases h4
  exact hd.2 b vs _ H2 (x2.bor e3) h1 (by rw[Wd.rem_ne hb];exact h2) h3 h4<|r2.rem (x2.g _ _ e6) hd.1
theorem Mp(i j:Nat)(vars:Rv)(sel:Ry)(hc:X.calm=true)(hN:X.N.Nodup)(hi:lM X EX target iter wi)(hg:∀s H fp,pj (X.lc sc vars sel s H fp) target g)(hf:∀s H fp,rJ (X.lc sc vars sel s H fp) E0 ifs wf)(he:∀s H fp,PX (X.lc sc vars sel s H fp) E0 elt we)
  (hix:{X.N[i]? = some x}) (hx:autoParam (mQ X.env.scope x) RM._auto_1)
  (hsw:{swapsWith (.ListComp elt [⟨target,iter,ifs,0⟩] sc pos) (some<|.Name x pos') spos.line X.env=pure true})
  (ok:{kq sc X.env.scope=true}) (so:{pL X.N sc sel=true}) (hs:autoParam (∀x,foldedSetIterable iter X.env x=pure x) RL._auto_1) (hfn:autoParam (RB X x) RK._auto_1) :
  PZ X EX (.Assign [.Name x pos'] (.ListComp elt [⟨target,iter,ifs,0⟩] sc pos) spos) (cH i<|dJ j<|aLC wi vars.length sel g wf we):=by
 obtain⟨ti,tg,tf,te,pi,pg,pf,pe,k⟩:=C5 hi hg hf he;have am:=aLC.mono (vars:=vars) (sel:=sel) hi (hg {} (λ_=>none) []).mono (hf {} (λ_=>none) []).mono (he {} (λ_=>none) []).mono;refine⟨⟨_,Fv vars sel hc hN hix hx pi ok so pg pf pe hsw hs hfn,λW0 H0 F W σ H ρ E Dn N s fl eo no h=>?_⟩,λE ρ N N' hl q=>am _ _ _ _ (λ_ hq=>⟨hq.1,hl.nx _ hq.2⟩) q⟩;refine Mo k am j W0 H0 W σ H ρ E _ s eo<|am _ _ _ _ (λxs hd=>⟨hd.1,λa vs W1 H1 x1 e1 e2 e3 e4 r1=>no.nx W1 _ H1 _ (s.own x1 e4 e1 e2 e3 r1) (fl.ext x1) hd.2⟩) h
def GM:D->Bool
 |.non=>true|.bl _=>true|_=>false
def Dx:D->D->Bool
 |.non,.non=>true|.bl a,.bl b=>a==b|_,_=>false
def gIsC(neg:Bool):G2:=λx y Q=>GM y=true/\Q (.bl (if neg then !Dx x y else Dx x y))
theorem gIsC.mono{neg:Bool}:∀x y P P',(∀d,P d->P' d)->gIsC neg x y P->gIsC neg x y P':=λ_ _ _ _ hp h=>⟨h.1,hp _ h.2⟩
theorem Mq{W:Wd}{x y:V}{v u:Value}{dx dy:D}(r1:Rep K W x dx)(r2:Rep K W y dy)(rx:RelV x v)(ry:RelV y u)(h:GM dy=true):plainIs v u=true/\(v==u)=Dx dx dy:=by
 cases r2<;>first
  |(cases h;done)
  | (cases ry;cases r1<;>first
      |(cases rx;first|exact⟨rfl,rfl⟩|(rename_i a b;cases a<;>cases b<;>exact⟨rfl,rfl⟩))
      |(obtain⟨t,rfl⟩:=rx;exact⟨rfl,rfl⟩))
theorem Ao:gS X (compareOp .IsNot) (gIsC true):=by refine⟨⟨λx y H Q=>∃W dx dy,WOk W H/\Rep X.K W x dx/\Rep X.K W y dy/\gIsC true dx dy (RQ X.K W H Q),?_,λW H x y dx dy Q ok rx ry hg=>⟨W,dx,dy,ok,rx,ry,hg⟩⟩,gIsC.mono⟩;rintro oI s σ H x y v u Q I rx ry ⟨W,dx,dy,ok,r1,r2,h1,h2⟩;obtain⟨p,e⟩:=Mq r1 r2 rx ry h1;exact wpAny_isNot_plain p<|tx I (h2.now ok<|.bl _) (by rw[e];rfl)
end
mutual
def Mr:D->Option PyData
 |.non=>some .none|.bl b=>some<|.bool b
 |.int i=>some<|.int i
 |.str x=>some<|.str x
 |.tup xs=>(ue xs).map .tuple|.lst xs=>(ue xs).map .list|.dic=>some<|.dict []
 |_=>none
def ue:RF->Option (List PyData)
 |[]=>some []
 |x::r=>match Mr x,ue r with
  |some a,some b=>some (a::b)|_,_=>none
end
mutual
def GN:D->Bool
 |.lst _=>false|.tup xs=>xm xs|_=>true
def xm:RF->Bool
 |[]=>true|x::r=>GN x&&xm r
end
mutual
def GO:D->Bool
 |.dic=>false|.tup xs=>uf xs|.lst xs=>uf xs|_=>true
def uf:RF->Bool
 |[]=>true|x::r=>GO x&&uf r
end
def dl(x:D):Bool:=GN x||GO x
def mC(B:E8)(j:Nat):Mn:=B.map λl=>l.getD j 0
section
variable{E:RE}{x:D}
theorem GP(B:E8)(j:Nat):(mC B j).length=B.length:=by unfold mC;rw[aZ]
end
namespace B
def Aq:bN:=wY
def Ar:bN:=Gw
section
variable{E:RE}{x:D}{a b:Int}
theorem Ms(q:Q (.int<|Int.gcd a b)):Aq [.int a,.int b] E Q:=⟨(a,b),rfl,trivial,q⟩
theorem Mu(q:∀s n,IsSl s n->Q (aJ s)):Ar [.pen] E Q:=Me q
end
abbrev Zkb:Rv:=["_law_one", "_law_other"]
def GQ:WS:=(aH (aQ 0<|wB jJ<|aC (wN 0) aA)<|aH (aQ 1<|wB jJ<|aC (wN 1) aA)<|aH (bH<|Zl (wT<|w2 (gEq true) (wN 1)<|wC<|.int<|0)<|ez 0 1<|aC (wN 1)<|aC (w2 rK (wN 0)<|wN 1) aA)<|aI<|wN 0)
abbrev ZhQ:Rv:=["_law_top", "_law_bottom", "_law_both"]
def GR:WS:=(aH (aQ 2<|wF Aq<|aC (wN 0)<|aC (wN 1) aA)<|aH (cP (wT<|w2 pp (wN 1)<|wC<|.int<|0) (aQ 2<|w1 j5<|wN 2) cR)<|aI<|bO<|aC (w2 h9 (wN 0)<|wN 2)<|aC (w2 h9 (wN 1)<|wN 2) aA)
abbrev Ze9:Rv:=["_law_pen", "_law_size", "_law_most", "_law_found", "_law_way", "_law_step"]
def GS:WS:=(aH (aQ 1<|w2 gAdd (wC<|.int<|1)<|wF kH<|aC (wN 0)<|aC (wC<|.int<|5) aA)<|aH (aQ 2<|w2 gIx (wL<|cF<|aC (wC<|.int<|1)<|aC (wC<|.int<|2)<|aC (wC<|.int<|3)<|aC (wC<|.int<|9)<|aC (wC<|.int<|50) aA)<|wF kH<|aC (wN 0)<|aC (wC<|.int<|5) aA)<|aH (cH 3<|aLC (iy<|aC (w2 i6 (w2 gMul (wC<|.int<|2)<|wN 1)<|wC<|.int<|1) aA) 1 [0,2] (gN 0) cU<|w2 i6 (wF kH<|aC (wN 1)<|aC (w2 gAdd (w2 gMul (wC<|.int<|2)<|wN 2)<|wC<|.int<|1) aA)<|wN 2)<|aH (aQ 4<|wF kH<|aC (wN 0)<|aC (wC<|.int<|10) aA)<|aH (aQ 5<|w2 gAdd (wC<|.int<|1)<|wF kH<|aC (wN 0)<|aC (wC<|.int<|3) aA)<|aH (cP (wT<|w2 (gEq false) (wN 4)<|wC<|.int<|0) (cH 3<|dJ 3<|aCut (w2 gMul (cG (wN 3) eL<|dW<|wN 5)<|wC<|.int<|9) eL<|dW<|wB bZ<|aC (wN 3) aA) cR)<|aH (cP (wT<|w2 (gEq false) (wN 4)<|wC<|.int<|1) (iA 3 (w2 i6 (wN 1)<|wC<|.int<|1)<|w2 gIx (wL<|cF<|aC (wC<|.int<|50)<|aC (w1 j5<|wC<|.int<|50)<|aC (wC<|.int<|0) aA)<|wF kH<|aC (wN 0)<|aC (wC<|.int<|3) aA) cR)<|aH (cP (wT<|w2 (gEq false) (wN 4)<|wC<|.int<|2) (cH 3<|dJ 3<|aLC (iS<|wN 3) 1 [0] (gN 0) cU<|w2 gMul (wN 0)<|wB i4<|aC (w2 (gEq false) (wF kH<|aC (wN 1)<|aC (wC<|.int<|3) aA)<|wC<|.int<|0) aA) cR)<|aH (cP (wT<|w2 (gIn false) (wN 4)<|bO<|aC (wC<|.int<|3)<|aC (wC<|.int<|4)<|aC (wC<|.int<|5) aA) (cH 3<|dJ 3<|fo (cG (wN 3) eL<|dW<|wN 1)<|w1 gRev<|cG (wN 3) eL<|dW<|w2 i6 (wN 1)<|wC<|.int<|1) cR)<|cc 3<|aI<|wB kC<|aC (wN 3) aA)
abbrev ZgV:Rv:=["_law_pen", "_law_size", "_law_found", "_law_turn", "_law_top"]
def GT:WS:=(aH (cH 2<|cF aA)<|aH (bH<|bS (iy<|aC (wN 1) aA) (gN 3)<|aH (aQ 4<|wF kH<|aC (wN 0)<|aC (w2 gIx (wL<|cF<|aC (wC<|.int<|3)<|aC (wC<|.int<|9)<|aC (wC<|.int<|41) aA)<|wF kH<|aC (wN 0)<|aC (wC<|.int<|3) aA) aA)<|df 2<|wF rR<|aC (w2 gMul (wN 4)<|w2 i6 (wC<|.int<|1)<|w2 gMul (wC<|.int<|2)<|wF kH<|aC (wN 0)<|aC (wC<|.int<|2) aA)<|aC (w2 gAdd (wC<|.int<|1)<|wF kH<|aC (wN 0)<|aC (w2 gIx (wL<|cF<|aC (wC<|.int<|1)<|aC (wC<|.int<|3)<|aC (wC<|.int<|9) aA)<|wF kH<|aC (wN 0)<|aC (wC<|.int<|3) aA) aA) aA)<|cc 2<|aI<|wB kC<|aC (wN 2) aA)
theorem Mv:Rd Aq GQ Zkb:=by
 rintro _ E Q ⟨⟨a,b⟩,rfl,_,q⟩;unfold GQ;walk_at "n";walk_at "n";refine cB ?_;rw[GC,GC];simp only[bH,Zl];refine⟨λm ρ=>∃x y:Int,m=y.natAbs/\ρ=[.d<|.int x,.d<|.int y]/\0<=x/\0<=y/\Int.gcd x y=Int.gcd a b,⟨_,_,_,rfl,rfl,tv,tv,by simp[Int.gcd]⟩,?_⟩;rintro m _ ⟨x,y,rfl,rfl,hx,hy0,hg⟩;ext;by_cases hy:y=0;subst hy;simp only[Q8,gE,fg,if_false];rw[Int.gcd_zero_right]at hg;rw[<-hg]at q;have:x=((x.natAbs:Nat):Int):=tv
 rw[<-this]at q;exact q;rw[ks<|by simpa using hy];refine⟨hy,?_⟩;ext;exact⟨_,Gq x hy,_,_,rfl,rfl,hy0,BW _<|tv,by rw[Gp];exact hg⟩
theorem Mw:Rd rR GR ZhQ:=by
 rintro _ E Q ⟨⟨t,b⟩,rfl,⟨hb,hd⟩,q⟩;have hg:0<Int.gcd t b:=BP _ hb;have hle:Int.gcd t b<=b.natAbs:=Nat.le_of_dvd tv<|Int.gcd_dvd_natAbs_right ..;obtain⟨e1,e2⟩:=FS (t:=t) hb;unfold aN at q;dsimp only at q e1 e2;rw[<-e1,<-e2]at q;unfold GR;walk_at "n";refine Ms ?_;walk_at "n"
 by_cases h:b<0;simp only[h,decide_true,if_true]at q ⊢;ext;refine⟨⟨tv,Bd.le tv hd⟩,⟨tv,Bd.le tv hd⟩,by simp[aO],q⟩;simp only[h,decide_false,if_false,fg]at q ⊢;ext;refine⟨⟨tv,Bd.le tv hd⟩,⟨tv,Bd.le tv hd⟩,by simp[aO],q⟩
theorem bd_le{i:Int}(h:i.natAbs<=2^k)(l:k<8990):Bd i:=lV h<|Nat.pow_lt_pow_right wp l
theorem dot_step{t b:Int}{x y:Rat}(hb:b≠0):Rat.divInt (t*(x.den:Int)*(y.den:Int)+x.num*y.num*b) (b*(x.den:Int)*(y.den:Int))=Rat.divInt t b+x*y:=by
 have hx:((x.den:Int))≠0:=by have:=x.den_nz;omega
 have hy:((y.den:Int))≠0:=by have:=y.den_nz;omega
 conv=>rhs;rw[<-uF x,<-uF y]
 rw[uI,Rat.divInt_add_divInt _ _ hb<|lY hx hy,Int.mul_assoc,Int.mul_assoc b]
theorem GU{c:Nat}(h:k<3):∃g:Nat,(g=a\/g=b\/g=c)/\et [D.int (a:Int),D.int (b:Int),D.int (c:Int)] (k:Int)=some (.int (g:Int)):=by
 have:k=0\/k=1\/k=2:=tv
 rcases this with rfl|rfl|rfl
 exact⟨a,.inl rfl,rfl⟩;exact⟨b,.inr<|.inl rfl,rfl⟩;exact⟨c,.inr<|.inr rfl,rfl⟩
theorem nm_at{E:RE}(h:ρ[i]? = some (.d d)):∀P:D->Prop,P d->wN i E ρ P:=λP q=>by unfold wN;rw[h];exact q
theorem Mx:Rd Ar GS Ze9:=by
 rintro _ E Q ⟨_,rfl,_,q⟩;have fin:∀(s:Lb) (n:Nat),s.length+1=2*n->1<=n->n<=5->(∀x∈s,-50<=x/\x<=50)->Q (D.tup<|s.map D.int):=λs n h1 h2 h3 h4=>q _ ⟨s,n,⟨h1,h2,h3,h4⟩,rfl⟩;unfold GS;walk_at "n";refine mB (n:=5) wp wp λk hk=>?_;ext;walk_at "n";refine⟨wp,mB (n:=5) wp wp λsp hsp=>?_⟩;have hgr:∃g:Nat,(1<=g/\g<=50)/\et [D.int 1,D.int 2,D.int 3,D.int 9,D.int 50] (sp:Int)=some (.int g):=by
  have:sp=0\/sp=1\/sp=2\/sp=3\/sp=4:=tv
  rcases this with rfl|rfl|rfl|rfl|rfl
  exact⟨1,wp,rfl⟩;exact⟨2,wp,rfl⟩;exact⟨3,wp,rfl⟩;exact⟨9,wp,rfl⟩;exact⟨50,wp,rfl⟩
 obtain⟨g,hg,hat⟩:=hgr;refine⟨_,hat,?_⟩;walk_at "n";refine⟨⟨iB (n:=2) wp<|tv,iB (n:=10) tv<|tv⟩,tv,tv,?_⟩;refine FN (R:=λ_ y=>∃i:Int,y=.int i/\-50<=i/\i<=50) (λd hd Q hq=>?_) .un [] (by simp[rng,aO];omega) λys hl hys=>?_;ext;refine⟨⟨iB (n:=2) wp<|tv,iB (n:=10) tv<|tv⟩,?_⟩;have e:(2:Int)*(g:Int)+1=((2*g+1:Nat):Int):=tv
 rw[e];refine mB tv tv λj hj=>?_;ext;exact hq _ ⟨_,rfl,tv,tv⟩;obtain⟨s,rfl,hs⟩:=GD λy hy=>let⟨_,_,h⟩:=hys y hy;h;simp only[rng,aZ,fh]at hl;rw[dG];have hm:∀x∈s,-50<=x/\x<=50:=hs;have hsl:s.length+1=2*(1+k):=tv
 have hn:(1:Int)+(k:Int)=((1+k:Nat):Int):=tv
 generalize 1+k=n at hn hsl;have n1:1<=n:=tv
 have n5:n<=5:=tv
 rw[hn];clear hl hys hat hsp hk q hn;walk_at "n";refine mB (n:=10) wp wp λway hw=>?_;walk_at "n";refine mB (n:=3) wp wp λst hst=>?_;ext;have c1:∀{s:Lb},s.length+1=2*n->cL (s.map D.int) none (some (n:Int))=(s.take n).map D.int:=λ_=>by rw[pT rfl,kJ]
 have c2:∀{s:Lb},s.length+1=2*n->cL (s.map D.int) none (some<|(n:Int)-1)=(s.take<|n-1).map D.int:=λ_=>by rw[pT (b:=n-1)<|tv,kJ]
 have c3:∀{s:Lb},cL (s.map D.int) none (some<|1+(st:Int))=(s.take<|1+st).map D.int:=λ{s}=>by rw[pT (b:=1+st)<|tv,kJ]
 have mt:∀{s:Lb} {j:Nat},(∀x∈s,-50<=x/\x<=50)->∀x∈s.take j,-50<=x/\x<=50:=λh x hx=>h x<|lX hx;have fl:∀(m:Nat) (l:Lb),(List.replicate m<|l.map D.int).flatten=(List.replicate m l).flatten.map D.int:=λm l=>by rw[List.map_flatten,uJ]
 refine xj (λρ=>∃s:Lb,ρ=[.d .pen,.d<|.int n,.d<|.int g,.ow<|s.map .int,.d<|.int way,.d<|.int<|1+(st:Int)]/\s.length+1=2*n/\∀x∈s,-50<=x/\x<=50) (λnx hnx=>?_) ?_;ext;split;have hlt:(s.take<|1+st).length<=9:=by rw[fZ];omega
 rw[c3,fl,pT (b:=s.length)<|by rw[aZ],<-kJ];refine⟨wp,wp,?_,Dr _,hnx _ ⟨_,rfl,?_,λx hx=>?_⟩⟩;rw[aZ,fZ];have:(9:Int).toNat=9:=rfl;rw[this];unfold aO;omega;rw[fZ,List.length_flatten,uJ,List.sum_replicate_nat,fZ];have e9:(9:Int).toNat=9:=rfl;rw[e9];have:9*1<=9*min (1+st) s.length:=Nat.mul_le_mul_left _ tv;omega;have:=lX hx;rw[List.mem_flatten]at this;obtain⟨l,hl,hxl⟩:=this;rw[(List.mem_replicate.mp hl).2]at hxl;exact mt hm x hxl;exact hnx _ ⟨s,rfl,hsl,hm⟩;clear hs hm hsl s;rintro _ ⟨s,rfl,hsl,hm⟩;refine xj (λρ=>∃s:Lb,ρ=[.d .pen,.d<|.int n,.d<|.int g,.ow<|s.map .int,.d<|.int way,.d<|.int<|1+(st:Int)]/\s.length+1=2*n/\∀x∈s,-50<=x/\x<=50) (λnx hnx=>?_) ?_;ext;split;refine⟨wp,mB (n:=3) wp wp λk3 hk3=>?_⟩;have hv:∃i:Int,(-50<=i/\i<=50)/\et [D.int 50,D.int (-50),D.int 0] (k3:Int)=some (.int i):=by
  have:k3=0\/k3=1\/k3=2:=tv
  rcases this with rfl|rfl|rfl
  exact⟨50,wp,rfl⟩;exact⟨-50,wp,rfl⟩;exact⟨0,wp,rfl⟩
 obtain⟨i,hi,hat⟩:=hv;refine⟨_,hat,?_⟩;ext;refine⟨n-1,?_,hnx _ ⟨s.set (n-1) i,by rw[List.map_set],by rw[fD];exact hsl,λx hx=>?_⟩⟩;unfold kS;rw[ks<|tv,ks (by rw[aZ];omega),show((n:Int)-1).toNat=n-1 by omega];rcases BY hx with hx|rfl
 exact hm x hx;exact hi;exact hnx _ ⟨s,rfl,hsl,hm⟩;clear hm hsl s;rintro _ ⟨s,rfl,hsl,hm⟩;refine xj (λρ=>∃s:Lb,ρ=[.d .pen,.d<|.int n,.d<|.int g,.ow<|s.map .int,.d<|.int way,.d<|.int<|1+(st:Int)]/\s.length+1=2*n/\∀x∈s,-50<=x/\x<=50) (λnx hnx=>?_) ?_;ext;split;refine FN (R:=λ_ y=>∃i:Int,y=.int i/\-50<=i/\i<=50) (λd hd Q hq=>?_) .un [] (by simp[aO];omega) λys hl hys=>?_;obtain⟨i,hi,rfl⟩:=YbT.mp hd;have hi':=hm i hi;ext;refine mB (n:=3) wp wp λk3 hk3=>?_;ext;refine⟨⟨iB (n:=10) tv<|tv,?_⟩,hq _ ⟨_,rfl,?_⟩⟩;split<;>exact iB (n:=2) wp tv;split<;>omega;obtain⟨s',rfl,hs'⟩:=GD λy hy=>let⟨_,_,h⟩:=hys y hy;h;rw[dG];rw[aZ,aZ]at hl;exact⟨Dr _,hnx _ ⟨s',rfl,tv,hs'⟩⟩;exact hnx _ ⟨s,rfl,hsl,hm⟩;clear hm hsl s;rintro _ ⟨s,rfl,hsl,hm⟩;refine xj (λρ=>∃s:Lb,ρ=[.d .pen,.d<|.int n,.d<|.int g,.ow<|s.map .int,.d<|.int way,.d<|.int<|1+(st:Int)]/\s.length+1=2*n/\∀x∈s,-50<=x/\x<=50) (λnx hnx=>?_) ?_;ext;refine⟨wp,way,[3,4,5],rfl,.inr rfl,?_⟩;ext;split;rw[c1 hsl,c2 hsl,<-uG,<-gR];refine⟨?_,Dr _,hnx _ ⟨_,rfl,?_,λx hx=>?_⟩⟩;simp[aO];omega;simp only[dA,vo,fZ];omega;rcases Yao.mp hx with hx|hx
 exact mt hm x hx;exact mt hm x<|Ycu.mp hx
 exact hnx _ ⟨s,rfl,hsl,hm⟩;clear hm hsl s;rintro _ ⟨s,rfl,hsl,hm⟩;ext;exact fin s n hsl n1 n5 hm
end B
section
variable{pos ps:Pos}{a b:Expr}
theorem Dy:∀(i:Nat) (xs:RF),(dF i xs).length=xs.length
 |_,[]=>rfl|i,x::xs=>by rw[dF,dD,dD,Dy]
theorem DA:∀(i j:Nat) (xs:RF) (d:D),(dF i xs)[j]? = some d->∃x,xs[j]? = some x/\d=.tup [.int ((i+j:Nat):Int),x]
 |_,_,[],_,h=>by simp[dF]at h|i,0,x::xs,d,h=>by rw[dF,dN]at h;exact⟨x,rfl,(QW h).symm⟩|i,j+1,x::xs,d,h=>by rw[dF,eA]at h;obtain⟨y,e1,e2⟩:=DA (i+1) j xs d h;exact⟨y,by rw[eA];exact e1,by rw[e2,show i+1+j=i+(j+1) by omega]⟩
theorem pV{t:WA}(hm:X.mg "enumerate" = none)(ha:kx X EX [a] t)(hg:{Gl X "enumerate"})(hs:{starEach [a] X.env=[(false,eval a X.env)]}) :
  lM X EX (.Tuple es n1 ps) (.Call (.Name "enumerate" p) [a] [] pos) (iE t):=by
 obtain⟨t,q,k⟩:=ha.t;refine⟨⟨_,Kp hg hm q hs,λW0 H0 W σ H ρ E R s eo h=>?_⟩,λE ρ P P' hp h=>ha.mono _ _ _ _ (λds hd=>?_) h⟩
 .refine k W0 H0 W σ H ρ E _ s eo (ha.mono _ _ _ _ (λds hd vs W1 H1 x1 r1=>?_) h)
  split at hd
  .obtain⟨v,rfl,rv⟩:=r1.one
   obtain⟨κ,l,vs,xs,rfl,rr,hd,sq⟩:=rv.sq hd;refine⟨κ,l,rfl,⟨vs,sq W1 H1 (λ_ _ z=>z) x1.ok⟩,hd W1 H1 _ x1 λW2 H2 i g2 p2 ok2=>⟨λd hd=>?_,λhi=>?_⟩⟩
   .have s1:=sq W2 H2 g2 ok2
    obtain⟨x,ex,rfl⟩:=DA 0 i xs d hd;obtain⟨vx,evx,rvx⟩:=rr.get ex;refine⟨⟨vs,vx,s1,evx⟩,λz H3 hy=>?_⟩;obtain⟨q,x',rfl,hq,rfl,e1⟩:=hy;have e1:=e1 _ s1;rw[evx]at e1;cases e1;have xt:=Ext.put (o:=.tup [.int i,vx]) ok2 hq;rw[oE];exact⟨_,xt,.tup (by unfold Wd.put;dsimp only;rw[aV])<|.cons (.int _)<|.cons (xt.rep<|rvx.mono g2 p2) .nil⟩
   .refine⟨vs,sq W2 H2 g2 ok2,?_⟩
    rw[rr.length];rw[Dy]at hi;omega
  .exact hd.elim
 .split at hd
  .exact isS.mono (λxs h1=>hp _ h1) _ hd
  .exact hd.elim
end
theorem My:bootBuiltins "sum" = some (.builtin "sum"):=sa
theorem Mz:bootBuiltins "min" = some (.builtin "min"):=sa
def GV(f l:Mn)(i j k:Nat):Rat:=f.getD (i-k) 0*l.getD (f.length-1-j+k) 0
def MA(f l:Mn)(i j k:Nat):Rat:=l.getD (i-k-1) 0*f.getD (f.length-j+k) 0
def sp(f l:Mn)(i j:Nat):Nat->Rat
 |0=>0|k+1=>if k<min i j then sp f l i j k+GV f l i j k-MA f l i j k else sp f l i j k+GV f l i j k
abbrev Zpv:Rv:=["one", "other"]
def GW:WS:=(aI<|wF tW<|aC (w2 i6 (w2 gMul (w2 gIx (wN 0)<|wC<|.int<|0)<|w2 gIx (wN 1)<|wC<|.int<|1)<|w2 gMul (w2 gIx (wN 1)<|wC<|.int<|0)<|w2 gIx (wN 0)<|wC<|.int<|1)<|aC (w2 gMul (w2 gIx (wN 0)<|wC<|.int<|1)<|w2 gIx (wN 1)<|wC<|.int<|1) aA)
abbrev N_by:Rv:=["one", "other"]
def xo:WS:=(aI<|wF tW<|aC (w2 gMul (w2 gIx (wN 0)<|wC<|.int<|0)<|w2 gIx (wN 1)<|wC<|.int<|1)<|aC (w2 gMul (w2 gIx (wN 0)<|wC<|.int<|1)<|w2 gIx (wN 1)<|wC<|.int<|0) aA)
namespace B
theorem set_by{E:RE}(e:ρ.set i (.d d)=ρ')(hw:∀P:D->Prop,P d->w E ρ P)(h:N.nx ρ'):aQ i w E N ρ:=hw _ (by rw[e];exact h)
end B
theorem MB:Rd qG GW Zpv:=by
 rintro _ E Q ⟨⟨p,q⟩,rfl,hb,h⟩;obtain⟨b1,b2,b3,b4,b5,b6,b7,b8⟩:=hb.mul;unfold GW;simp only[aI,wF,aC,w2,wN,wC,fL,cN,g9,dN,eA];refine pS<|kG ⟨b1,pS<|kG ⟨b2,?_⟩⟩;dsimp only;simp only[gu,true_and];refine kG<|kG ⟨b3,?_⟩;refine⟨(_,_),rfl,⟨b6,b5⟩,?_⟩;dsimp only at h ⊢;have e:Rat.divInt (p.num*q.den-q.num*p.den) ((p.den:Int)*q.den)=p-q:=by rw[Rat.sub_def',<-BT];rfl
 rw[e];exact h
theorem xp:Rd mz xo N_by:=by
 rintro _ E Q ⟨⟨p,q⟩,rfl,⟨hb,h0⟩,h⟩;dsimp only at hb h0 h;obtain⟨b1,b2,b3,b4,b5,b6,b7,b8⟩:=hb.mul;unfold xo;simp only[aI,wF,aC,w2,wN,wC,fL,cN,g9,dN,eA];refine pS<|kG ⟨b1,kG<|pS ⟨b7,?_⟩⟩;have hq:q.num≠0:=λz=>h0<|Rat.num_eq_zero.mp z;refine⟨(_,_),rfl,⟨lY (by exact_mod_cast p.den_nz) hq,b8⟩,?_⟩;dsimp only at h ⊢;have e:Rat.divInt (p.num*q.den) ((p.den:Int)*q.num)=p/q:=by
  rw[dH,Rat.inv_def];have:p*Rat.divInt (q.den:Int) q.num=Rat.divInt p.num p.den*Rat.divInt (q.den:Int) q.num:=by rw[uF]
  rw[this,uI]
 rw[e];exact h
theorem As(p q:Rat):gC (aN p) (aN q)=decide (p=q):=by unfold aN;rw[Mk,lA];simp only[d9,Rs,QV];constructor;rintro⟨h1,h2⟩;exact Rat.ext h1 (by exact_mod_cast h2);rintro rfl;exact⟨rfl,rfl⟩
theorem xq:aN 0=.tup [.int 0,.int 1]:=rfl
namespace B.C
def ga(r:Lb)(k:Nat):Int:=r.getD k 0
def gr(t:KE)(k:Nat):Lb:=t.getD k []
def j7(row here:Lb)(a:Nat)(last:Int):Lb:=(List.range row.length).map λj=>(ga row j*ga here a-ga row a*ga here j).fdiv last
def mD(t:KE)(a:Nat):Ry:=((List.range<|t.length-a).map (a + ·)).filter λk=>ga (gr t k) a != 0
def eW(t:KE)(a g:Nat):KE:=(t.set a<|gr t g).set g<|gr t a
def dh(t:KE)(a k:Nat)(last:Int):KE:=(List.range t.length).map λi=>if a<i/\i<k then j7 (gr t i) (gr t a) a last else gr t i
structure ug where
 t:KE
 s:Int
 l:Int
def lj(a:Nat)(x:ug):Option ug:=match mD x.t a with
 |[]=>none
 |g::_=>let t1:=eW x.t a g
  let t2:=dh t1 a t1.length x.l
  some ⟨t2,x.s*(1-2*(if g=a then 0 else 1)),ga (gr t2 a) a⟩
def fW(t:KE):Nat->Option ug
 |0=>some ⟨t,1,1⟩|a+1=>(fW t a).bind<|lj a
def i8(t:KE):Int:=match fW t t.length with|none=>0|some x=>x.s*x.l
def GX(c:Nat):Nat->Nat
 |0=>c|a+1=>2*GX c a+1
abbrev bt:Nat->Nat:=GX 6
structure Sm(b n:Nat)(t:KE):Prop where
 len:t.length=n
 row:∀r∈t,r.length=n
 sm:∀r∈t,∀x∈r,x.natAbs<2^b
theorem MC{a b:Int}(h:b≠0):(a.fdiv b).natAbs<=a.natAbs:=Int.natAbs_fdiv_le_natAbs a b
theorem Sm.gr{b n k:Nat}{t:KE}(h:Sm b n t)(hk:k<n):t[k]? = some (gr t k)/\(C.gr t k).length=n/\∀x∈C.gr t k,x.natAbs<2^b:=by
 have e:=h.len;have:t[k]? = some (C.gr t k):=by unfold C.gr;rw[aW,bP<|tv];rfl
 have hm:=iK this;exact⟨this,h.row _ hm,h.sm _ hm⟩
theorem ga_lt{r:Lb}(h:∀x∈r,x.natAbs<2^b):(ga r k).natAbs<2^b:=by
 unfold ga;rw[aW];cases e:r[k]? with
 |none=>exact Nat.two_pow_pos b|some v=>exact h _<|iK e
theorem ga_get{r:Lb}(h:r.length=n)(hk:k<n):r[k]? = some (ga r k):=by unfold ga;rw[aW,bP<|tv];rfl
theorem MD{w x y z:Int}(h1:w.natAbs<2^b)(h2:x.natAbs<2^b)(h3:y.natAbs<2^b)(h4:z.natAbs<2^b):(w*x-y*z).natAbs<2^(2*b+1):=by
 have m1:(w*x).natAbs<2^b*2^b:=by rw[eh];exact pG h1 h2
 have m2:(y*z).natAbs<2^b*2^b:=by rw[eh];exact pG h3 h4
 have:=zA (w*x)<|y*z;rw[uD,show 2*b=b+b by omega,kj];omega
theorem ME{row here:Lb}{last:Int}(h1:row.length=n)(h2:∀x∈row,x.natAbs<2^b)(h3:∀x∈here,x.natAbs<2^b)(hl:last≠0):(j7 row here a last).length=n/\∀x∈j7 row here a last,x.natAbs<2^(2*b+1):=by refine⟨by unfold j7;rw[aZ,fh];exact h1,λx hx=>?_⟩;obtain⟨j,_,rfl⟩:=YbT.mp hx;exact lV (MC hl)<|MD (ga_lt h2) (ga_lt h3) (ga_lt h2) (ga_lt h3)
theorem At{r:Lb}(h:i<t.length):gr (t.set i r) k=if k=i then r else gr t k:=by unfold gr;rw[aW,List.getElem?_set,aW];by_cases e:i=k;subst e;rw[ks rfl,ks rfl,ks h];rfl;rw[jx e,jx<|QX e]
theorem MF{g:Nat}(h:Sm b n t)(ha:a<n)(hg:g<n):Sm b n (eW t a g):=by
 have e:=h.len;have m:∀r∈eW t a g,r∈t:=λr hr=>by
  unfold eW at hr;rcases BY hr with hr|rfl
  rcases BY hr with hr|rfl
  exact hr;exact iK (h.gr hg).1;exact iK (h.gr ha).1
 exact⟨by unfold eW;rw[fD,fD];exact e,λr hr=>h.row r<|m r hr,λr hr=>h.sm r<|m r hr⟩
theorem GY{g:Nat}(h:Sm b n t)(ha:a<n)(hg:g<n):gr (eW t a g) a=gr t g:=by have e:=h.len;unfold eW;rw[At (by rw[fD];omega)];by_cases z:a=g;subst z;rw[ks rfl];rw[jx z,At<|tv,ks rfl]
theorem MG{g:Nat}(h:Sm b n t)(hg:g∈mD t a):a<=g/\g<n/\ga (gr t g) a≠0:=by have e:=h.len;unfold mD at hg;obtain⟨h1,h2⟩:=Yag.mp hg;obtain⟨k,hk,rfl⟩:=YbT.mp h1;rw[Yah]at hk;exact⟨tv,tv,by simpa using h2⟩
theorem DB{l:Int}(hi:i<t.length):gr (dh t a k l) i=if a<i/\i<k then j7 (gr t i) (gr t a) a l else gr t i:=by show(dh t a k l).getD i []=_;unfold dh;rw[aW,cJ,iN hi];rfl
theorem MH{l:Int}(h:Sm b n t)(ha:a<n)(hl:l≠0):Sm (2*b+1) n (dh t a k l):=by
 have e:=h.len;have key:∀r∈dh t a k l,r.length=n/\∀x∈r,x.natAbs<2^(2*b+1):=λr hr=>by
  unfold dh at hr;obtain⟨i,hi,rfl⟩:=YbT.mp hr;have hi':i<n:=by rw[<-e];simpa using hi
  split;exact ME (h.gr hi').2.1 (h.gr hi').2.2 (h.gr ha).2.2 hl;exact⟨(h.gr hi').2.1,λx hx=>dP ((h.gr hi').2.2 x hx)<|lT wp<|tv⟩
 exact⟨by unfold dh;rw[aZ,fh];exact e,λr hr=>(key r hr).1,λr hr=>(key r hr).2⟩
def tabD(t:KE):D:=.lst<|t.map eG
theorem bd_of{x:Int}(h:x.natAbs<2^b)(hb:b<=8990):Bd x:=dP h<|lT wp hb
end B.C
theorem MI{E:RE}(lo:Int)(I:Nat->cS->Prop)(n:Nat)(h:∀k,k<n->∀ρ,I k ρ->∀nx:cS->Prop,(∀ρ,I (k+1) ρ->nx ρ)->g (.int<|lo+k) ρ λρ1=>zb E { nx:=nx,rt:=N.rt,bk:=N.nx,ct:=nx } ρ1)(hn:∀ρ,I n ρ->N.nx ρ)(ρ:cS)(h0:I 0 ρ):Zbh g zb E N (rng lo n) ρ:=by
 refine uc (λds ρ=>∃k,k<=n/\ds=(rng lo n).drop k/\I k ρ) ?_ ?_ _ ρ ⟨0,jw _,by rw[qV],h0⟩;rintro d ds ρ ⟨k,hk,e,i⟩ nx hnx;have hlen:(rng lo n).length=n:=by unfold rng;simp
 rcases gx k n with hkn|hkn
 rw[qW<|tv]at e;injection e with e1 e2
 have e3:d=.int (lo+k):=by rw[e1];unfold rng;simp
 rw[e3];exact h k hkn ρ i nx λρ' i'=>hnx ρ' ⟨k+1,tv,e2,i'⟩;rw[List.drop_eq_nil_of_le<|tv]at e;cases e;rintro ρ ⟨k,hk,e,i⟩;have hlen:(rng lo n).length=n:=by unfold rng;simp
 have:k=n:=by have:=congrArg List.length e;rw[iq,hlen]at this;simp at this;omega
 subst this;exact hn ρ i
theorem DC{α:Type}{wf:WT}{tail:cS}{Q:RF->Prop}{g:α->D}{p:α->Bool}:∀(L:List α),(∀a∈L,∀P:Bool->Prop,P (p a)->wf No (.d (g a)::tail) P)->∀(sv:SV) (acc:RF),acc.length+L.length<=aO->Q (acc++(L.filter p).map g)->lcW (gN 0) wf (wN 0) (L.map g) (sv::tail) acc Q
 |[],_,sv,acc,_,hq=>by simpa[lcW] using hq
 |a::L,h,sv,acc,hl,hq=>by
  rw[cN,lcW];show wf No (SV.d (g a)::tail) _;rw[dD]at hl;refine h a E1 _ ?_;cases e:p a with
  |true=>rw[ks rfl];refine⟨tv,DC L (λb hb=>h b<|by simp[hb]) _ _ (by rw[dA,kf];omega) ?_⟩;rw[zB e,cN]at hq;rw[jP];exact hq|false=>rw[jx<|wp];refine DC L (λb hb=>h b<|by simp[hb]) _ _ tv ?_;rw[zC (by rw[e];decide)]at hq;exact hq
namespace B.C
theorem own_by{t:WA}{E:RE}(e:ρ.set i (.ow xs)=ρ')(ht:∀P:RF->Prop,P xs->t E ρ P)(h:N.nx ρ'):cH i t E N ρ:=ht _ (by rw[e];exact h)
theorem pub_by{z:WS}{E:RE}(e:pub i ρ=ρ')(h:z E N ρ'):cc i z E N ρ:=by unfold cc;rw[e];exact h
theorem ixN_nat(h:k<n):kS n (k:Int)=some k:=by unfold kS;rw[ks<|tv,ks<|tv,jO]
theorem gr_map{a:Int}(hk:k<t.length)(ea:a=k):et (t.map eG) a=some (eG<|gr t k):=by subst ea;refine bY ?_;rw[cJ];unfold gr;rw[aW,bP hk];rfl
def Dz:Nat->Mn->Mn->Prop
 |_,[],_=>True|_,_::_,[]=>True|N,x::p,y::q=>∃n m,Sz n x/\Sz m y/\n+m+1<=N/\Dz (N-(n+m+1)) p q
def u4:bN:=fnS (λx:(Bool×Bool)×Mn×Mn=>[ia x.1.1<|x.2.1.map aN,ia x.1.2<|x.2.2.map aN]) (λx=>Dz 8989 x.2.1 x.2.2) λx=>aN<|bD x.2.1 x.2.2
abbrev Zkc:Rv:=["_law_one", "_law_other", "_law_top", "_law_bottom", "_law_left", "_law_right"]
def GZ:WS:=(aH (aQ 2<|wC<|.int<|0)<|aH (aQ 3<|wC<|.int<|1)<|aH (bH<|bS (iZ<|aC (wN 0)<|aC (wN 1) aA) (de 2<|bL (gN 4)<|bL (gN 5) cV)<|aH (aQ 2<|w2 gAdd (w2 gMul (w2 gMul (wN 2)<|w2 gIx (wN 4)<|wC<|.int<|1)<|w2 gIx (wN 5)<|wC<|.int<|1)<|w2 gMul (w2 gMul (w2 gIx (wN 4)<|wC<|.int<|0)<|w2 gIx (wN 5)<|wC<|.int<|0)<|wN 3)<|aQ 3<|w2 gMul (w2 gMul (wN 3)<|w2 gIx (wN 4)<|wC<|.int<|1)<|w2 gIx (wN 5)<|wC<|.int<|1)<|aI<|wF rR<|aC (wN 2)<|aC (wN 3) aA)
theorem xi{a b:Int}{E:RE}(h:b≠0)(h':Bd b)(q:Q (aN<|Rat.divInt a b)):rR [.int a,.int b] E Q:=⟨(a,b),rfl,⟨h,h'⟩,q⟩
def cutL(r:Lb)(i:Nat):Lb:=r.take i++r.drop (i+1)
def uh(t:KE)(i j:Nat):KE:=(t.take j++t.drop (j+1)).map λr=>cutL r i
def sgn(i j:Nat):Int:=1-2*(((i:Int)+j)%2)
theorem cut_mem{α:Type}{r:List α}{x:α}(h:x∈r.take i++r.drop (i+1)):x∈r:=by
 rcases Yao.mp h with h|h
 exact lX h;exact lW h
theorem prt_sm(h:Sm 6 n t)(hi:i<n)(hj:j<n):Sm 6 (n-1) (uh t i j):=by
 have e:=h.len;refine⟨?_,λr hr=>?_,λr hr x hx=>?_⟩;unfold uh;simp only[aZ,dA,fZ,iq];omega;obtain⟨r',hr',rfl⟩:=YbT.mp hr;have:=h.row r'<|cut_mem hr';unfold cutL;simp only[dA,fZ,iq];omega
 obtain⟨r',hr',rfl⟩:=YbT.mp hr;exact h.sm r' (cut_mem hr') x<|cut_mem hx
theorem sgn_one(i j:Nat):sgn i j=1\/sgn i j = -1:=by unfold sgn;omega
end B.C
def gD(x:D):Bool:=decide ((sI x).reverse=sI x)
def G0(x:D):Except Str D:=gg x<|.ok (.bl<|gD x)
def DD(s:Lb)(n:Nat)(y z:D):Except Str D:=if jt n y=true/\jt n z=true then .ok (aN<|bD (rQ y)<|bJ s n<|rQ z) else .error "NoRow"
def Au(x y z:D):Except Str D:=gg x (if gD x=true then DD (sI x) (sN x) y z else .error "NotEven")
def Av:bN:=xS (λx:D=>[x]) (λx=>kd x=true) G0
def qJ:bN:=xS (λx:D=>[x]) (λx=>kd x=true) λx=>gg x (if gD x=true then .ok .non else .error "NotEven")
def iF:bN:=xS (λx:D×D×D=>[x.1,x.2.1,x.2.2]) (λx=>kd x.1=true/\kd x.2.1=true/\kd x.2.2=true/\iC 170 x.2.1=true/\iC 170 x.2.2=true) λx=>Au x.1 x.2.1 x.2.2
abbrev ZlX:Rv:=["slants"]
def G1:WS:=(aI<|w2 (gEq false) (wF Aa<|aC (wN 0) aA)<|wN 0)
abbrev Zje:Rv:=["slants"]
def G3:WS:=(cP (bW<|wT<|wF Av<|aC (wN 0) aA) (i7<|PySem.Str.ofString "NotEven") cR)
abbrev ZlV:Rv:=["slants", "one", "other"]
def G4:WS:=(aH (fK<|wF qJ<|aC (wN 0) aA)<|aH (cP (bW<|wT<|wF rO<|aC (wN 0)<|aC (wN 1) aA) (i7<|PySem.Str.ofString "NoRow") cR)<|aI<|wF w6<|aC (wN 1)<|aC (wF rP<|aC (wN 0)<|aC (wN 2) aA) aA)
theorem G5(a b:Lb):gC (aJ a) (aJ b)=decide (a=b):=by
 unfold gC aJ;rw[pd,pd,PyData.eqv];induction a generalizing b with
 |nil=>cases b<;>simp[gU,PyData.eqvAll]
 |cons x a ih=>
  cases b with
  |nil=>simp[gU,PyData.eqvAll]
  |cons y b=>
   rw[cN,cN,gU,gU,PyData.eqvAll,ih b,pd,pd,PyData.eqv,lA];simp
theorem MJ(h:IsSl s n)(hm:∀x∈r,Sz m x):∀x∈bJ s n r,Sz (5*(6+m+1)+1) x:=by intro x hx;unfold bJ at hx;obtain⟨line,hl,rfl⟩:=YbT.mp hx;obtain⟨h1,h2⟩:=jS h line hl;refine Gu _ _ (λx hx=>?_) hm (by unfold dg;rw[aZ,h1];exact h.n5);obtain⟨i,hi,rfl⟩:=YbT.mp hx;exact Ai<|h2 i hi
theorem DE{p:Mn}(h:IsSl s n)(hp:p.length=n)(h1:∀x∈p,Sz 170 x)(h2:∀x∈r,Sz 170 x):BR p (bJ s n r):=by refine⟨170,_,h1,MJ h h2,?_⟩;rw[hp];have h5:=h.n5;have:n*(170+(5*(6+170+1)+1)+1)<=5*(170+(5*(6+170+1)+1)+1):=lU _ h5;omega
theorem MK:Rd Av G1 ZlX:=by
 rintro _ E Q ⟨x,rfl,hk,q⟩;unfold G1;ext;cases e:e8 x with
 |false=>exact xS.err x rfl hk (lN e)<|jM e q
 |true=>obtain⟨s,n,rfl,h⟩:=kF e;refine LD h<|mx (z5 _ 59) (z5 _ 59) ?_;replace q:=jN h q;unfold gD at q;rw[d8]at q;simp only[fg,if_false];rw[G5];exact q
theorem ML:Rd qJ G3 Zje:=by
 rintro _ E Q ⟨x,rfl,hk,q⟩;unfold G3;ext;cases e:e8 x with
 |false=>exact xS.err x rfl hk (lN e)<|jM e q
 |true=>
  obtain⟨s,n,rfl,h⟩:=kF e;replace q:=jN h q;refine xS.ok (aJ s) rfl hk (Zb h) ?_;ext;cases ev:gD (aJ s) with
  |true=>rw[ev]at q;simpa[exQ] using q|false=>rw[ev]at q;simpa[exQ] using q
theorem MM:Rd iF G4 ZlV:=by
 rintro _ E Q ⟨⟨x,y,z⟩,rfl,⟨hk,hk1,hk2,hs1,hs2⟩,q⟩;dsimp only at hk hk1 hk2 hs1 hs2 q;unfold G4;walk_at "n";cases e:e8 x with
 |false=>exact xS.err x rfl hk (lN e)<|jM e q
 |true=>
 obtain⟨s,n,rfl,h⟩:=kF e;replace q:=jN h q;cases ev:gD (aJ s) with
 |false=>
  rw[ev]at q;exact xS.err (aJ s) rfl hk (by(try dsimp only);rw[Zb h,ev];rfl) q
 |true=>
 rw[ev,d8,h.sN]at q;simp only[if_true]at q;refine xS.ok (aJ s) rfl hk (v:=.non) (by(try dsimp only);rw[Zb h,ev];rfl) ?_;walk_at "n";refine Ag h hk1 ?_;ext;unfold DD at q;cases e1:jt n y with
 |false=>rw[e1]at q;simpa[exQ] using q
 |true=>
 obtain⟨p,rfl,hp'⟩:=Ac e1;have hp:p.length=n:=tv
 simp only[gE,fg,if_false];rw[e1]at q;cases e2:jt n z with
 |false=>
  rw[e2]at q;exact xS.err (aJ s,z) rfl ⟨hk,hk2,λr er=>⟨170,Zco.mp (by rw[<-er];exact hs2),wp⟩⟩ (by(try dsimp only);rw[Zb h,h.sN,e2];rfl) (by simpa[exQ] using q)
 |true=>
 obtain⟨r,rfl,hr'⟩:=Ac e2;have hr:r.length=n:=tv
 rw[e2,qI,qI]at q;refine xa h hr ⟨170,Zco.mp hs2,wp⟩<|FX (DE h hp (Zco.mp hs1)<|Zco.mp hs2) ?_;simpa[exQ] using q
namespace B.C
mutual
def bx(b:Nat):D->Nat->Bool
 |.non,_=>true|.bl _,_=>true|.int i,_=>decide (i.natAbs<2^300)|.str x,_=>decide (x.cps.size<=4)&&x.cps.toList.all λc=>decide (c<16^8)
 |.dic,_=>true|.tup xs,n=>decide (0<n)&&decide (xs.length<=b)&&DF b xs (n-1)|.lst xs,n=>decide (0<n)&&decide (xs.length<=b)&&DF b xs (n-1)|.pen,_=>false|.cls _,_=>false|.exc _,_=>false|.ty _,_=>false|.pl _ _,_=>false|.scr _,_=>false
def DF(b:Nat):RF->Nat->Bool
 |[],_=>true|x::r,n=>bx b x n&&DF b r n
end
end B.C
namespace B.C
theorem and_by{E:RE}{b:Bool}(hw:∀P:D->Prop,P (.bl b)->w E ρ P){P:RG}(h1:b=true->w' E ρ P)(h2:b=false->P (.bl false)):gB w w' E ρ P:=by
 refine hw _ ?_;show if b=true then _ else _;cases b with
 |true=>rw[ks rfl];exact h1 rfl|false=>rw[jx<|wp];exact h2 rfl
theorem or_by{w w':WT}{E:RE}{b c:Bool}(hw:∀ P:Bool->Prop,P b->w E ρ P)(hw':∀ P:Bool->Prop,P c->w' E ρ P):∀ P:Bool->Prop,P (b || c)->fJ w w' E ρ P:=λP h=>hw _ (by
 cases b with
 |true=>rw[ks rfl];exact h
 |false=>rw[jx<|wp];exact hw' _ h)
theorem for_seq{E:RE}(hw:∀P:D->Prop,P (.lst xs)->w E ρ P)(h:Zbh g zb E N xs ρ):bS (iS w) g zb E N ρ:=hw _ h
theorem tbl_Sm(h:IsSl s n):Sm 6 n (tbl s n):=⟨gW s n,λr hr=>(jS h r hr).1,λr hr x hx=>by
 have:=(jS h r hr).2 x hx;show x.natAbs<64;omega⟩
set_option maxHeartbeats 2000000 in
theorem MN:Rd u4 GZ Zkc:=by
 rintro _ E Q ⟨⟨⟨b1,b2⟩,p,q⟩,rfl,hd,h⟩;dsimp only at hd h;obtain⟨N0,hN0,hd⟩:∃N,N<8990/\Dz N p q:=⟨8989,wp,hd⟩;unfold GZ;have key:∀(p' q':Mn) (t b:Int) (sv sv':SV) (j:Nat),Dz (N0-j) p' q'->t.natAbs<=2^j->b.natAbs<=2^j->b≠0->j<=N0->Rat.divInt t b+bD p' q'=bD p q->
   Zbh (de 2<|bL (gN 4)<|bL (gN 5) cV) (aH (aQ 2<|w2 gAdd (w2 gMul (w2 gMul (wN 2)<|w2 gIx (wN 4)<|wC<|.int<|1)<|w2 gIx (wN 5)<|wC<|.int<|1)<|w2 gMul (w2 gMul (w2 gIx (wN 4)<|wC<|.int<|0)<|w2 gIx (wN 5)<|wC<|.int<|0)<|wN 3)<|aQ 3<|w2 gMul (w2 gMul (wN 3)<|w2 gIx (wN 4)<|wC<|.int<|1)<|w2 gIx (wN 5)<|wC<|.int<|1)
    No { nx:=aI (wF rR<|aC (wN 2)<|aC (wN 3) aA) E { nx:=λ_=>Q .non,rt:=Q },rt:=Q,bk:=λ_=>False,ct:=λ_=>False }
    (cQ (p'.map aN)<|q'.map aN) [.d<|ia b1<|p.map aN,.d<|ia b2<|q.map aN,.d<|.int t,.d<|.int b,sv,sv']:=by
  intro p'
  induction p' with
  |nil=>
   intro q' t b sv sv' j _ h3 h4 h5 h6 he;rw[bD,km]at he;simp only[cQ,f6,List.zipWith_nil_left,Zbh];ext;exact xi h5 (B.bd_le h4<|tv) (by rw[he];exact h)
  |cons x p' ih=>
   intro q' t b sv sv' j hz h3 h4 h5 h6 he;cases q' with
   |nil=>
    rw[bD,km]at he;simp only[cQ,f6,List.zipWith_nil_right,Zbh];ext;exact xi h5 (B.bd_le h4<|tv) (by rw[he];exact h)
   |cons y q'=>
    obtain⟨n,m,hx,hy,hnm,hz'⟩:=hz;simp only[cQ,cN,BU,Zbh];refine⟨rfl,?_⟩;ext;walk_at "n";have xd:((x.den:Int)).natAbs<=2^n:=by simpa using gY hx.2
    have yd:((y.den:Int)).natAbs<=2^m:=by simpa using gY hy.2
    have xn:x.num.natAbs<=2^n:=gY hx.1;have yn:y.num.natAbs<=2^m:=gY hy.1;have mm:∀{i k:Int} {c d:Nat},i.natAbs<=2^c->k.natAbs<=2^d->(i*k).natAbs<=2^(c+d):=λh h'=>by
     rw[eh,kj];exact hJ h h'
    have t1:=mm h3 xd;have t2:=mm t1 yd;have t3:=mm xn yn;have t4:=mm t3 h4;have t5:=mm h4 xd;have t6:=mm t5 yd;refine kG ⟨⟨B.bd_le h3<|tv,B.bd_le xd<|tv⟩,kG ⟨⟨B.bd_le t1<|tv,B.bd_le yd<|tv⟩,pS<|pS ⟨⟨B.bd_le xn<|tv,B.bd_le yn<|tv⟩,⟨⟨B.bd_le t3<|tv,B.bd_le h4<|tv⟩,?_⟩⟩⟩⟩;ext;refine kG ⟨⟨B.bd_le h4<|tv,B.bd_le xd<|tv⟩,kG ⟨⟨B.bd_le t5<|tv,B.bd_le yd<|tv⟩,?_⟩⟩;refine ih q' _ _ _ _ (j+(n+m+1)) (by rw[Nat.sub_add_eq];exact hz') ?_ ?_ ?_ tv ?_
    .refine gP (qX _ _) ?_
     rw[show j+(n+m+1)=(j+n+m)+1 by omega,uD];have t4':(x.num*y.num*b).natAbs<=2^(j+n+m):=by rw[show j+n+m=n+m+j by omega];exact t4
     omega
    .exact gP t6<|lT wp tv
    .exact lY (lY h5 (by have:=x.den_nz;omega)) (by have:=y.den_nz;omega)
    .rw[B.dot_step h5,Rat.add_assoc]
     rw[bD]at he;exact he
 walk_at "n";walk_at "n";have k:=key p q 0 1 .un .un 0 hd E1 E1 wp tv (by rw[BZ,vv]);cases b1<;>cases b2<;>exact k
end B.C
def xr:bN:=fnS (λx:Nat×Nat=>[.int x.1,.int x.2]) (λx=>x.2<=5) λx=>aE<|bG x.2 x.1
section
variable{E:RE}{x:D}
theorem G6(h:n<=5)(q:Q (aE<|bG n k)):xr [.int k,.int n] E Q:=⟨(k,n),rfl,h,q⟩
end
theorem DG{α:Type}[DecidableEq α]{f:α->D}(h:∀a b,gC (f a) (f b)=decide (a=b)):∀xs ys:List α,PyData.eqvAll (gU<|xs.map f) (gU<|ys.map f)=decide (xs=ys)
 |[],[]=>by simp[gU,PyData.eqvAll]|[],_::_=>by simp[gU,PyData.eqvAll]|_::_,[]=>by simp[gU,PyData.eqvAll]|x::xs,y::ys=>by have:=h x y;unfold gC at this;rw[cN,cN,gU,gU,PyData.eqvAll,this,DG h xs ys,lA];simp
theorem MO{α:Type}[DecidableEq α]{f:α->D}(h:∀a b,gC (f a) (f b)=decide (a=b))(xs ys:List α):gC (.tup<|xs.map f) (.tup<|ys.map f)=decide (xs=ys):=by unfold gC;rw[pd,pd,PyData.eqv,DG h]
theorem MP{α:Type}[DecidableEq α]{f:α->D}(h:∀a b,gC (f a) (f b)=decide (a=b))(xs ys:List α):gC (.lst<|xs.map f) (.lst<|ys.map f)=decide (xs=ys):=by unfold gC;rw[pd,pd,PyData.eqv,DG h]
theorem G7(a b:Mn):gC (aE a) (aE b)=decide (a=b):=MO As a b
abbrev Znz:Rv:=["place", "many"]
def G8:WS:=(aI<|wF tX<|aC (wL<|aLC (iy<|aC (wN 1) aA) 1 [0] (gN 0) cU<|wB i4<|aC (w2 (gEq false) (wN 0)<|wN 1) aA) aA)
theorem jT(n k:Nat):(bG n k).length=n:=by unfold bG;rw[aZ,fh]
theorem G9(n k:Nat):dg ((List.range n).map λi:Nat=>if(i:Int)=(k:Int) then(1:Int) else 0)=bG n k:=by unfold dg bG;rw[List.map_map];refine jg λi _=>?_;show(((if(i:Int)=(k:Int) then(1:Int) else 0):Int):Rat)=_;by_cases e:i=k;rw[ks<|tv,ks e];rfl;rw[jx<|tv,jx e];rfl
theorem MQ:Rd xr G8 Znz:=by rintro _ E Q ⟨⟨k,n⟩,rfl,h,q⟩;dsimp only at h q;unfold G8;ext;refine⟨tv,tv,?_⟩;rw[ud];refine li (g:=λi:Nat=>D.int (i:Int)) (f:=λi:Nat=>D.int (if(i:Int)=(k:Int) then 1 else 0)) (List.range n) (λi hi Q hq=>?_) .un [] (by simp[aO];omega) ?_;ext;by_cases e:(i:Int)=(k:Int);rw[ks e]at hq;simpa[e] using hq;rw[jx e]at hq;simpa[e] using hq;have:=FW (E:=E) (Q:=Q) (xs:=(List.range n).map λi:Nat=>if(i:Int)=(k:Int) then(1:Int) else 0) (by simp;omega) (by rw[G9];exact q);unfold eG at this;rw[List.map_map]at this;exact this
def aX(a:Mn)(s:Rat)(c:Mn):Mn:=List.zipWith (λl r=>l-s*r) a c
def dS(a:Mn)(s:Rat):Mn:=a.map λx=>x/s
def dj:E8->Nat->Option Nat
 |[],_=>none|r::R,p=>if r.getD p 0=0 then(dj R p).map (· + 1) else some 0
def bM(R:E8)(lead:Mn)(p:Nat):E8:=R.map λr=>aX r (r.getD p 0) lead
structure Cl where
 ld:E8
 pl:Ry
 rs:E8
def iG(R:E8)(a p:Nat):Mn:=dS (R.getD a [])<|(R.getD a []).getD p 0
def pW(p:Nat)(x:Cl):Cl:=match dj x.rs p with|none=>x|some a=>⟨bM x.ld (iG x.rs a p) p++[iG x.rs a p],x.pl++[p],bM (x.rs.take a++x.rs.drop (a+1)) (iG x.rs a p) p⟩
def bX(R:E8):Nat->Cl
 |0=>⟨[],[],R⟩|p+1=>pW p<|bX R p
structure Lf(b m:Nat)(row:Mn):Prop where
 ex:∃(c:Lb) (e:Int),c.length=m/\e≠0/\e.natAbs<2^b/\(∀x∈c,x.natAbs<2^b)/\row=c.map λx=>Rat.divInt x e
theorem Lf.len(h:Lf b m row):row.length=m:=by obtain⟨c,e,h1,_,_,_,rfl⟩:=h.ex;rw[aZ];exact h1
theorem Lf.mono{b':Nat}(l:b<=b')(h:Lf b m row):Lf b' m row:=by obtain⟨c,e,h1,h2,h3,h4,h5⟩:=h.ex;have p:2^b<=2^b':=lT wp l;exact⟨c,e,h1,h2,dP h3 p,λx hx=>dP (h4 x hx) p,h5⟩
theorem Lf.sz(h:Lf b m row):∀x∈row,Sz b x:=by obtain⟨c,e,h1,h2,h3,h4,rfl⟩:=h.ex;intro x hx;obtain⟨y,hy,rfl⟩:=YbT.mp hx;exact u3 h2 (h4 y hy) h3
theorem Lf.int{c:Lb}(hb:0<b)(h:∀x∈c,x.natAbs<2^b):Lf b c.length (dg c):=by refine⟨c,1,rfl,wp,?_,h,?_⟩;show 1<2^b;exact BO tv;unfold dg;exact jg λx _=>by have:=uF (x:Rat);rw[BM,BN]at this;exact this.symm
theorem MR{c e:Int}(he:e≠0):Rat.divInt c e≠0↔c≠0:=by
 constructor;rintro h rfl;exact h<|BZ e
 intro h z;have e1:Rat.divInt c e*Rat.divInt e c=1:=by rw[uI,sr e c];have:=zD (n:=1) (d:=1)<|lY h he;rw[uE]at this;rw[this];rfl
 rw[z,fH]at e1;exact QS e1 wp
theorem Lf.norm{p:Nat}(h:Lf b m row)(hp:p<m)(h0:row.getD p 0≠0):Lf b m (dS row<|row.getD p 0):=by
 obtain⟨c,e,h1,h2,h3,h4,rfl⟩:=h.ex;have hc:c[p]? = some (c.getD p 0):=by rw[aW,bP<|tv];rfl
 have eg:(c.map λx=>Rat.divInt x e).getD p 0=Rat.divInt (c.getD p 0) e:=by rw[aW,cJ,hc];rfl
 rw[eg]at h0 ⊢;have hc0:c.getD p 0≠0:=(MR h2).mp h0;refine⟨c,c.getD p 0,h1,hc0,h4 _<|iK hc,h4,?_⟩;unfold dS;rw[List.map_map];refine jg λx _=>?_;show Rat.divInt x e/(Rat.divInt (c.getD p 0) e)=Rat.divInt x (c.getD p 0);rw[dH,Rat.inv_divInt,uI _ _ ,sr e];exact zD h2
theorem MS{w x y z:Int}(h1:w.natAbs<2^b)(h2:x.natAbs<2^b)(h3:y.natAbs<2^b)(h4:z.natAbs<2^b):(w*x-y*z).natAbs<2^(2*b+1):=by
 have m1:(w*x).natAbs<2^b*2^b:=by rw[eh];exact pG h1 h2
 have m2:(y*z).natAbs<2^b*2^b:=by rw[eh];exact pG h3 h4
 have:=zA (w*x)<|y*z;rw[uD,show 2*b=b+b by omega,kj];omega
theorem Lf.less{p:Nat}{piv:Mn}(h:Lf b m row)(hq:Lf b m piv)(hp:p<m):Lf (2*b+1) m (aX row (row.getD p 0) piv):=by
 obtain⟨c,e,h1,h2,h3,h4,rfl⟩:=h.ex;obtain⟨d,f,g1,g2,g3,g4,rfl⟩:=hq.ex;have hc:c[p]? = some (c.getD p 0):=by rw[aW,bP<|tv];rfl
 have eg:(c.map λx=>Rat.divInt x e).getD p 0=Rat.divInt (c.getD p 0) e:=by rw[aW,cJ,hc];rfl
 rw[eg];have bc:(c.getD p 0).natAbs<2^b:=h4 _<|iK hc;refine⟨List.zipWith (λx y=>x*f-c.getD p 0*y) c d,e*f,by rw[g6];omega,lY h2 g2,?_,λz hz=>?_,?_⟩
 rw[eh,uD,show 2*b=b+b by omega,kj];have:=pG h3 g3;omega;obtain⟨i,hi,e1⟩:=Ybv.mp hz;rw[lC]at e1;rw[<-e1];exact MS (h4 _<|gQ _) g3 bc<|g4 _ (gQ _)
 unfold aX;rw[List.zipWith_map,vw];refine congrArg (λg=>List.zipWith g c d) ?_;funext x y;rw[uI,Rat.divInt_sub_divInt _ _ h2<|lY h2 g2];rw[show x*(e*f)-c.getD p 0*y*e=(x*f-c.getD p 0*y)*e by grind,sr e<|e*f];exact(zD h2)
def bq(b:Nat):Nat->Nat
 |0=>b|k+1=>2*bq b k+1
theorem Zd{b:Nat}:∀{k k':Nat},k<=k'->bq b k<=bq b k'
 |k,0,h=>by rw[Ybq.mp h];exact bU _|k,k'+1,h=>by by_cases e:k=k'+1;rw[e];exact bU _;have:=Zd (b:=b) (k:=k) (k':=k') tv;rw[bq];omega
theorem pX:∀{R:E8} {p a:Nat},dj R p=some a->a<R.length/\(R.getD a []).getD p 0≠0
 |[],_,_,h=>nomatch h
 |r::R,p,a,h=>by
  rw[dj]at h;split at h;cases e:dj R p with
  |none=>rw[e]at h;cases h
  |some b=>
   rw[e]at h;have h':b+1=a:=by simpa using h
   subst h';obtain⟨h1,h2⟩:=pX e;exact⟨by simpa using h1,by simpa using h2⟩
  rename_i h0;have h':0=a:=by simpa using h
  subst h';exact⟨E1,by simpa using h0⟩
structure pq(b w p m:Nat)(x:Cl):Prop where
 ld:∀r∈x.ld,Lf (bq b p) w r
 rs:∀r∈x.rs,Lf (bq b p) w r
 ln:x.ld.length+x.rs.length=m
 pl:x.pl.length=x.ld.length
 lt:∀a∈x.pl,a<p
theorem fv{R:E8}(h:a<R.length):R.getD a []∈R:=by rw[aW,bP h];exact gQ _
theorem ju{α:Type}{R:List α}{r:α}(h:r∈R.take a++R.drop (a+1)):r∈R:=by
 rcases Yao.mp h with h|h
 exact lX h;exact lW h
theorem Ha{w p:Nat}{x:Cl}(h:pq b w p m x)(hp:p<w)(e:dj x.rs p=some a):Lf (bq b p) w (iG x.rs a p):=by obtain⟨h1,h2⟩:=pX e;exact(h.rs _<|fv h1).norm hp h2
theorem MT{w p:Nat}{x:Cl}(h:pq b w p m x)(hp:p<w):pq b w (p+1) m (pW p x):=by
 have up:bq b p<=bq b (p+1):=Zd tv;unfold pW;split;exact⟨λr hr=>(h.ld r hr).mono up,λr hr=>(h.rs r hr).mono up,h.ln,h.pl,λa ha=>vq<|h.lt a ha⟩;rename_i a e;have hl:=Ha h hp e;obtain⟨h1,h2⟩:=pX e;have ln:=h.ln;refine⟨λr hr=>?_,λr hr=>?_,?_,?_,λc hc=>?_⟩;rcases Yao.mp hr with hr|hr
 unfold bM at hr;obtain⟨r0,hr0,rfl⟩:=YbT.mp hr;exact(h.ld r0 hr0).less hl hp;rw[YcO.mp hr];exact hl.mono up;unfold bM at hr;obtain⟨r0,hr0,rfl⟩:=YbT.mp hr;exact(h.rs r0<|ju hr0).less hl hp;show(bM _ _ _++[_]).length+(bM _ _ _).length=m;unfold bM;simp only[dA,aZ,kf,fZ,iq];omega;show(x.pl++[p]).length=(bM _ _ _++[_]).length;unfold bM;rw[dA,dA,aZ,h.pl];rfl;rcases Yao.mp hc with hc|hc
 exact vq<|h.lt c hc
 rw[YcO.mp hc];exact BI p
theorem Aw{b w:Nat}{R:E8}(h:∀r∈R,Lf b w r):∀{p:Nat},p<=w->pq b w p R.length (bX R p)
 |0,_=>⟨(λr hr=>by cases hr),h,(by simp[bX]),rfl,(λa ha=>by cases ha)⟩|p+1,hp=>MT (Aw h<|tv) tv
def bE(R:E8):D:=.lst<|R.map aE
def kI(xs:Ry):D:=.lst<|xs.map λ(k:Nat)=>D.int (k:Int)
def qK:Option Nat->D
 |none=>.non|some a=>.int (a:Int)
def Rz(b w:Nat)(R:E8):Prop:=∀r∈R,r.length=w/\∀x∈r,Sz b x
def rS:bN:=fnS (λx:Nat×Mn×Rat=>[aE x.2.1,aN x.2.2]) (λx=>2*x.1<8990/\x.2.1.length<=1000/\(∀y∈x.2.1,Sz x.1 y)/\Sz x.1 x.2.2/\x.2.2≠0) λx=>aE<|dS x.2.1 x.2.2
def ou:bN:=fnS (λx:(Nat×Nat×Nat)×Mn×Rat×Mn=>[aE x.2.1,aN x.2.2.1,aE x.2.2.2]) (λx=>x.1.1+x.1.2.1+x.1.2.2<8990/\x.2.1.length<=1000/\(∀y∈x.2.1,Sz x.1.1 y)/\Sz x.1.2.1 x.2.2.1/\∀y∈x.2.2.2,Sz x.1.2.2 y) λx=>aE<|aX x.2.1 x.2.2.1 x.2.2.2
def Ax:bN:=fnS (λx:Nat×E8=>[bE x.2,.int x.1]) (λx=>x.2.length<=1000/\∀r∈x.2,x.1<r.length) λx=>qK<|dj x.2 x.1
def xu:bN:=fnS (λx:((Nat×Nat)×Nat)×E8×Mn=>[bE x.2.1,aE x.2.2,.int x.1.2]) (λx=>3*x.1.1.1<8990/\x.1.1.2<=1000/\x.2.1.length<=1000/\x.1.2<x.1.1.2/\Rz x.1.1.1 x.1.1.2 x.2.1/\∀y∈x.2.2,Sz x.1.1.1 y) λx=>bE<|bM x.2.1 x.2.2 x.1.2
structure ClIn(b w m:Nat)(R:E8):Prop where
 mw:m<=w
 w1:w<=1000
 len:R.length<=1000
 bits:3*bq b (m-1)<8990
 lf:∀r∈R,Lf b w r
structure xv(w m:Nat)(R:E8):Prop where
 mw:m<=w
 w1:w<=1000
 len:R.length<=1000
 ln:∀p,p<m->(bX R p).ld.length+(bX R p).rs.length=R.length/\(bX R p).pl.length=(bX R p).ld.length
 rl:∀p,p<m->∀r∈(bX R p).rs,r.length=w
 st:∀p,p<m->∀a,dj (bX R p).rs p=some a->(∃B,2*B<8990/\∀y∈(bX R p).rs.getD a [],Sz B y)/\(∃B,3*B<8990/\Rz B w (bX R p).ld/\∀y∈iG (bX R p).rs a p,Sz B y)/\∃B,3*B<8990/\Rz B w ((bX R p).rs.take a++(bX R p).rs.drop (a+1))/\∀y∈iG (bX R p).rs a p,Sz B y
theorem ClIn.z{w:Nat}{R:E8}(h:ClIn b w m R):xv w m R:=by
 have mw:=h.mw;have ok:∀p,p<m->pq b w p R.length (bX R p):=λp hp=>Aw h.lf tv;refine⟨h.mw,h.w1,h.len,λp hp=>⟨(ok p hp).ln,(ok p hp).pl⟩,λp hp r hr=>((ok p hp).rs r hr).len,λp hp a e=>?_⟩;have o:=ok p hp;obtain⟨a1,a2⟩:=pX e;have hbp:3*bq b p<8990:=by have:=Zd (b:=b) (show p<=m-1 by omega);have:=h.bits;omega
 have hlead:=Ha o (show p<w by omega) e;exact⟨⟨bq b p,tv,(o.rs _<|fv a1).sz⟩,⟨bq b p,hbp,λr hr=>⟨(o.ld r hr).len,(o.ld r hr).sz⟩,hlead.sz⟩,bq b p,hbp,λr hr=>⟨(o.rs r<|ju hr).len,(o.rs r<|ju hr).sz⟩,hlead.sz⟩
def xw:bN:=fnS (λx:(Nat×Nat)×E8=>[bE x.2,.int x.1.2]) (λx=>xv x.1.1 x.1.2 x.2) λx=>.tup [bE (bX x.2 x.1.2).ld,kI (bX x.2 x.1.2).pl]
def mE(place n:Nat)(L:E8)(pl:Ry):Mn:=(L.zip pl).foldl (λrow x=>row.set x.2<|0-x.1.getD place 0)<|bG n place
def fb(s:Lb)(n:Nat):E8:=(tbl s n).map dg
def dk(s:Lb)(n:Nat):Cl:=bX (fb s n) n
def dU(s:Lb)(n:Nat):E8:=((List.range n).filter λp=>!(dk s n).pl.contains p).map λp=>mE p n (dk s n).ld (dk s n).pl
def i9(n:Nat):Nat->E8->E8
 |_,[]=>[]|k,r::R=>(r++bG n k)::i9 n (k+1) R
def fX(s:Lb)(n:Nat):E8:=i9 n 0<|fb s n
def rT(s:Lb)(n:Nat):E8:=(bX (fX s n) n).ld.map λr=>r.drop n
def Ay:bN:=fnS (λx:(Nat×Nat)×E8×Ry=>[.int x.1.1,.int x.1.2,bE x.2.1,kI x.2.2]) (λx=>x.1.1<x.1.2/\x.1.2<=5/\x.2.1.length<=5/\(∀r∈x.2.1,r.length=x.1.2/\∀y∈r,Sz 223 y)/\∀a∈x.2.2,a<x.1.2) λx=>aE<|mE x.1.1 x.1.2 x.2.1 x.2.2
def Az(x:D):Except Str D:=gg x<|.ok (bE<|dU (sI x)<|sN x)
def DH(x:D):Except Str D:=gg x<|.ok (.int ((dU (sI x)<|sN x).length:Int))
def xy:bN:=xS (λx:D=>[x]) (λx=>kd x=true) Az
def AA:bN:=xS (λx:D=>[x]) (λx=>kd x=true) DH
section
variable{E:RE}{x:D}{w p:Nat}{t lead:Mn}{R L:E8}{pl:Ry}
theorem xC(h1:2*b<8990)(h2:r.length<=1000)(h3:∀y∈r,Sz b y)(h4:Sz b q0)(h5:q0≠0)(q:Q (aE<|dS r q0)):rS [aE r,aN q0] E Q:=⟨(b,r,q0),rfl,⟨h1,h2,h3,h4,h5⟩,q⟩
theorem Hb{c:Nat}(h0:a+b+c<8990)(h1:r.length<=1000)(h2:∀y∈r,Sz a y)(h3:Sz b q0)(h4:∀y∈t,Sz c y)(q:Q (aE<|aX r q0 t)):ou [aE r,aN q0,aE t] E Q:=⟨((a,b,c),r,q0,t),rfl,⟨h0,h1,h2,h3,h4⟩,q⟩
theorem xD(h1:3*b<8990)(h2:r.length<=1000)(h3:∀y∈r,Sz b y)(h4:Sz b q0)(h5:∀y∈t,Sz b y)(q:Q (aE<|aX r q0 t)):ou [aE r,aN q0,aE t] E Q:=Hb (a:=b) (b:=b) (c:=b) tv h2 h3 h4 h5 q
theorem MU(h1:R.length<=1000)(h2:∀r∈R,p<r.length)(q:Q (qK<|dj R p)):Ax [bE R,.int p] E Q:=⟨(p,R),rfl,⟨h1,h2⟩,q⟩
theorem Hc(h1:3*b<8990)(h2:w<=1000)(h3:R.length<=1000)(h4:p<w)(h5:Rz b w R)(h6:∀y∈lead,Sz b y)(q:Q (bE<|bM R lead p)):xu [bE R,aE lead,.int p] E Q:=⟨(((b,w),p),R,lead),rfl,⟨h1,h2,h3,h4,h5,h6⟩,q⟩
theorem MV(h:ClIn b w m R)(q:Q (.tup [bE (bX R m).ld,kI (bX R m).pl])):xw [bE R,.int m] E Q:=⟨((w,m),R),rfl,h.z,q⟩
theorem MW(h1:p<n)(h2:n<=5)(h3:L.length<=5)(h4:∀r∈L,r.length=n/\∀y∈r,Sz 223 y)(h5:∀a∈pl,a<n)(q:Q (aE<|mE p n L pl)):Ay [.int p,.int n,bE L,kI pl] E Q:=⟨((p,n),L,pl),rfl,⟨h1,h2,h3,h4,h5⟩,q⟩
end
abbrev Zny:Rv:=["row", "share"]
def DI:WS:=(aI<|wB kC<|aC (wL<|aLC (iS<|wN 0) 1 [1] (gN 0) cU<|wF mz<|aC (wN 0)<|aC (wN 1) aA) aA)
abbrev Zj6:Rv:=["one", "share", "other"]
def DJ:WS:=(aI<|wB kC<|aC (wL<|aLC (iZ<|aC (wN 0)<|aC (wN 2) aA) 2 [1] (de 2<|bL (gN 0)<|bL (gN 1) cV) cU<|wF qG<|aC (wN 0)<|aC (wF qH<|aC (wN 2)<|aC (wN 1) aA) aA) aA)
abbrev ZhJ:Rv:=["rows", "place", "at", "row"]
def DK:WS:=(aH (bH<|bS (iE<|aC (wN 0) aA) (de 2<|bL (gN 2)<|bL (gN 3) cV)<|cP (wT<|w2 (gEq true) (w2 gIx (wN 3)<|wN 1)<|wC<|D.tup [(D.int<|0),(D.int<|1)]) (aI<|wN 2) cR)<|aI<|wC D.non)
abbrev ZfC:Rv:=["rows", "lead", "place"]
def DL:WS:=(aI<|wL<|aLC (iS<|wN 0) 1 [1,2] (gN 0) cU<|wF ou<|aC (wN 0)<|aC (w2 gIx (wN 0)<|wN 2)<|aC (wN 1) aA)
abbrev ZlZ:Rv:=["rows", "many", "leading", "places", "rest", "place", "at", "lead"]
def DM:WS:=(aH (aQ 2<|wL<|cF aA)<|aH (cH 3<|cF aA)<|aH (aQ 4<|wL<|aB (h7 (α:=Unit))<|aC (wN 0) aA)<|aH (bH<|bS (iy<|aC (wN 1) aA) (gN 5)<|aH (aQ 6<|wF Ax<|aC (wN 4)<|aC (wN 5) aA)<|cP (wT<|w2 (gIsC true) (wN 6)<|wC D.non) (aH (aQ 7<|wF rS<|aC (w2 gIx (wN 4)<|wN 6)<|aC (w2 gIx (w2 gIx (wN 4)<|wN 6)<|wN 5) aA)<|aH (aQ 2<|w2 gAdd (wF xu<|aC (wN 2)<|aC (wN 7)<|aC (wN 5) aA)<|wL<|cF<|aC (wN 7) aA)<|aH (aQ 4<|wF xu<|aC (w2 gAdd (cG (wN 4) eL<|dW<|wN 6)<|cG (wN 4) (dW<|w2 gAdd (wN 6)<|wC<|.int<|1) eL)<|aC (wN 7)<|aC (wN 5) aA)<|df 3<|wN 5) cR)<|cc 3<|aI<|bO<|aC (wN 2)<|aC (wN 3) aA)
abbrev Zka:Rv:=["place", "size", "leading", "places", "row", "lead", "at"]
def DN:WS:=(aH (cH 4<|aB (h7 (α:=Unit))<|aC (wF xr<|aC (wN 0)<|aC (wN 1) aA) aA)<|aH (bH<|bS (iZ<|aC (wN 2)<|aC (wN 3) aA) (de 2<|bL (gN 5)<|bL (gN 6) cV)<|iA 4 (wN 6)<|wF qG<|aC (wC<|D.tup [(D.int<|0),(D.int<|1)])<|aC (w2 gIx (wN 5)<|wN 0) aA)<|cc 4<|aI<|wB kC<|aC (wN 4) aA)
abbrev Zjg:Rv:=["slants", "size", "leading", "places"]
def Hd:WS:=(aH (fK<|wF mT<|aC (wN 0) aA)<|aH (aQ 1<|wF jR<|aC (wN 0) aA)<|aH (eu (wF xw<|aC (wF tY<|aC (wN 0) aA)<|aC (wN 1) aA)<|de 2<|bL (gN 2)<|bL (gN 3) cV)<|aI<|wL<|aLC (iy<|aC (wN 1) aA) 1 [1,2,3] (gN 0) (wT<|w2 (gIn true) (wN 0)<|wN 3)<|wF Ay<|aC (wN 0)<|aC (wN 1)<|aC (wN 2)<|aC (wN 3) aA)
abbrev Zjh:Rv:=["slants"]
def He:WS:=(aI<|wB bZ<|aC (wF xy<|aC (wN 0) aA) aA)
theorem MY:Rd rS DI Zny:=by rintro _ E Q ⟨⟨b,r,q0⟩,rfl,⟨h1,h2,h3,h4,h5⟩,q⟩;dsimp only at h1 h2 h3 h4 h5 q;show DI E _ [.d<|aE r,.d<|aN q0];unfold DI aE;ext;refine li (g:=aN) (f:=λx:Rat=>aN<|x/q0) r (λx hx Q hq=>?_) .un [] (by simp[aO];omega) ?_;ext;exact t7 (B2.of (h3 x hx) h4<|tv) h5 hq;ext;unfold aE dS at q;rw[List.map_map]at q;exact q
theorem Hf{we:WE}{tail:cS}{Q:RF->Prop}{f:Rat->Rat->D}:∀(A C:Mn),(∀x∈A,∀y∈C,∀Q:D->Prop,Q (f x y)->we No (.d (aN x)::.d (aN y)::tail) Q)->∀(sv sv':SV) (acc:RF),acc.length+A.length<=aO->Q (acc++List.zipWith f A C)->lcW (de 2<|bL (gN 0)<|bL (gN 1) cV) cU we (cQ (A.map aN)<|C.map aN) (sv::sv'::tail) acc Q
 |[],C,_,sv,sv',acc,_,hq=>by simpa[lcW,cQ] using hq|x::A,[],_,sv,sv',acc,_,hq=>by simpa[lcW,cQ] using hq
 |x::A,y::C,h,sv,sv',acc,hl,hq=>by
  have e:cQ ((x::A).map aN) ((y::C).map aN)=.tup [aN x,aN y]::cQ (A.map aN) (C.map aN):=by simp[cQ]
  rw[e,lcW];refine⟨rfl,?_⟩;rw[dD]at hl;refine h x E1 y E1 _ ⟨tv,Hf A C (λa ha c hc=>h a (by simp[ha]) c<|by simp[hc]) _ _ _ (by simp;omega) ?_⟩;rw[jP];simpa using hq
theorem MZ:Rd ou DJ Zj6:=by
 rintro _ E Q ⟨⟨⟨a,b,c⟩,r,q0,t⟩,rfl,⟨h1,h2,h3,h4,h5⟩,q⟩;dsimp only at h1 h2 h3 h4 h5 q;show DJ E _ [.d<|aE r,.d<|aN q0,.d<|aE t];unfold DJ aE;ext;refine Hf (f:=λx y=>aN<|x-q0*y) r t (λx hx y hy Q hq=>?_) .un .un [] (by simp[aO];omega) ?_;ext;exact Dg (B2.of h4 (h5 y hy)<|tv)<|Ab (B2.of (h3 x hx) (h4.mul<|h5 y hy)<|tv) hq
 ext;unfold aE aX at q;rw[vw]at q;exact q
theorem M0(q:Rat):(if true=true then !gC (aN q) (.tup [.int 0,.int 1]) else gC (aN q) (.tup [.int 0,.int 1])) = !decide (q=0):=by rw[ks rfl,<-xq,As]
theorem Hg{p:Nat}{Q:RG}{E:RE}{N:Nds}{s0:SV}(hN:N.rt=Q):∀(R:E8) (k:Nat) (s2 s3:SV),(∀r∈R,p<r.length)->(∀a,dj R p=some a->Q (.int ((k+a:Nat):Int)))->(dj R p=none->∀s2 s3,N.nx [s0,.d<|.int p,s2,s3])->Zbh (de 2<|bL (gN 2)<|bL (gN 3) cV) (cP (wT<|w2 (gEq true) (w2 gIx (wN 3)<|wN 1)<|wC<|D.tup [(D.int<|0),(D.int<|1)]) (aI<|wN 2) cR) E N (dF k<|R.map aE) [s0,.d<|.int p,s2,s3]
 |[],k,s2,s3,_,_,h2=>h2 rfl s2 s3
 |r::R,k,s2,s3,hp,h1,h2=>by
  rw[cN,dF,Zbh];refine⟨rfl,?_⟩;simp only[bL,cV,gN,List.set_cons_succ,List.set_cons_zero];have hr:=hp r E1;have e1:(r.map aN)[p]? = some (aN<|r.getD p 0):=by rw[cJ,aW,bP hr];rfl
  refine gp (b:=!decide (r.getD p 0=0)) (λP hP=>?_) (λe=>?_) λe=>?_;unfold aE;ext;refine⟨_,bY e1,mx (qF _ 59) sa ?_⟩;rw[M0];exact hP;have e0:¬r.getD p 0=0:=by simpa using e
  have:=h1 0 (by rw[dj,jx e0]);rw[<-hN]at this;exact this;have e0:r.getD p 0=0:=by simpa using e
  refine Hg hN R (k+1) _ _ (λx hx=>hp x<|by simp[hx]) (λa ha=>?_) λhn=>?_;have:=h1 (a+1) (by rw[dj,ks e0,ha];rfl);rw[show k+1+a=k+(a+1) by omega];exact this;exact h2 (by rw[dj,ks e0,hn];rfl)
theorem M1:Rd Ax DK ZhJ:=by rintro _ E Q ⟨⟨p,R⟩,rfl,⟨h1,h2⟩,q⟩;dsimp only at h1 h2 q;show DK E _ [.d<|bE R,.d<|.int p,.un,.un];unfold DK bE;refine cB ?_;simp only[bH,bS,iE,aC,aA,wN,dN];refine Hg (Q:=Q) rfl R 0 .un .un h2 (λa ha=>?_) λhn s2 s3=>?_;rw[ha]at q;rw[oE];exact q;rw[hn]at q;exact q
theorem M2:Rd xu DL ZfC:=by
 rintro _ E Q ⟨⟨⟨⟨b,w⟩,p⟩,R,lead⟩,rfl,⟨h1,h2,h3,h4,h5,h6⟩,q⟩;dsimp only at h1 h2 h3 h4 h5 h6 q;show DL E _ [.d<|bE R,.d<|aE lead,.d<|.int p];unfold DL bE;ext;refine li (g:=aE) (f:=λr:Mn=>aE<|aX r (r.getD p 0) lead) R (λr hr Q hq=>?_) .un [] (by simp[aO];omega) ?_;obtain⟨hl,hs⟩:=h5 r hr;have e0:r[p]? = some (r.getD p 0):=by rw[aW,bP<|tv];rfl
 have e1:(r.map aN)[p]? = some (aN<|r.getD p 0):=by rw[cJ,e0];rfl
 simp only[wF,aC,aA,wN,w2,dN,eA];exact⟨_,bY e1,xD h1 tv hs (hs _<|iK e0) h6 hq⟩;unfold bE bM at q;rw[List.map_map]at q;exact q
theorem ig{E:RE}(e:ρ.set i (.d d)=ρ')(hw:∀P:D->Prop,P d->w E ρ P)(h:N.nx ρ'):aQ i w E N ρ:=hw _ (by rw[e];exact h)
theorem qL{E:RE}(e:ρ[i]? = some (.ow xs))(hl:xs.length<aO)(e2:ρ.set i (.ow<|xs++[d])=ρ')(hw:∀P:D->Prop,P d->w E ρ P)(h:N.nx ρ'):df i w E N ρ:=by unfold df;rw[e];exact hw _ ⟨hl,by rw[e2];exact h⟩
theorem Hh{R:E8}(h:k<R.length):et (R.map aE) (k:Int)=some (aE<|R.getD k []):=by refine bY ?_;rw[cJ,aW,bP h];rfl
theorem AB(h:k<r.length):et (r.map aN) (k:Int)=some (aN<|r.getD k 0):=by refine bY ?_;rw[cJ,aW,bP h];rfl
theorem M3{p:Nat}(h:p<r.length):r.getD p 0∈r:=by rw[aW,bP h];exact gQ _
theorem M4:Rd xw DM ZlZ:=by
 rintro _ E Q ⟨⟨⟨w,m⟩,R⟩,rfl,h,q⟩;dsimp only at h q;obtain⟨mw,w1,hl,hln,hrl,hst⟩:=h;show DM E _ [.d<|bE R,.d<|.int m,.un,.un,.un,.un,.un,.un];unfold DM;refine cB<|ig (d:=bE []) (ρ':=[.d<|bE R,.d<|.int m,.d<|bE [],.un,.un,.un,.un,.un]) (by rfl) (λP hP=>⟨wp,hP⟩) ?_;dsimp only;refine cB<|B.C.own_by (xs:=[]) (ρ':=[.d<|bE R,.d<|.int m,.d<|bE [],.ow [],.un,.un,.un,.un]) (by rfl) (λP hP=>⟨wp,hP⟩) ?_;dsimp only;refine cB<|ig (d:=bE R) (ρ':=[.d<|bE R,.d<|.int m,.d<|bE [],.ow [],.d<|bE R,.un,.un,.un]) (by rfl) (λP hP=>?_) ?_
 .unfold bE
  ext;exact hP
 dsimp only;refine cB ?_;simp only[bH,bS];ext;refine⟨tv,tv,?_⟩;refine GL (λp ρ=>∃s5 s6 s7,ρ=[.d<|bE R,.d<|.int m,.d<|bE (bX R p).ld,.ow<|(bX R p).pl.map λ(k:Nat)=>D.int (k:Int),.d<|bE (bX R p).rs,s5,s6,s7]) m ?_ ?_ _ ⟨_,_,_,rfl⟩
 rotate_left
 .rintro _ ⟨s5,s6,s7,rfl⟩
  dsimp only;refine B.C.pub_by (ρ':=[.d<|bE R,.d<|.int m,.d<|bE (bX R m).ld,.d<|kI (bX R m).pl,.d<|bE (bX R m).rs,s5,s6,s7]) rfl ?_;ext;exact⟨wp,q⟩
 rintro p hp _ ⟨s5,s6,s7,rfl⟩ nx hnx;obtain⟨ln,lp⟩:=hln p hp;have rl:=hrl p hp;have hst:=hst p hp;rw[show bX R (p+1)=pW p (bX R p) from rfl]at hnx;generalize bX R p=x at ln lp rl hst hnx;show aH _ _ _ _ [.d<|bE R,.d<|.int m,.d<|bE x.ld,.ow<|x.pl.map λ(k:Nat)=>D.int (k:Int),.d<|bE x.rs,.d<|.int p,s6,s7];refine cB<|ig (d:=qK<|dj x.rs p) (ρ':=[.d<|bE R,.d<|.int m,.d<|bE x.ld,.ow<|x.pl.map λ(k:Nat)=>D.int (k:Int),.d<|bE x.rs,.d<|.int p,.d<|qK<|dj x.rs p,s7]) (by rfl) (λP hP=>?_) ?_
 .simp only[wF,aC,aA,wN,dN,eA]
  exact MU tv (λr hr=>by rw[rl r hr];omega) hP
 dsimp only;unfold pW at hnx;cases e:dj x.rs p with
 |none=>rw[e]at hnx;refine gp (b:=false) (λP hP=>?_) (λe=>nomatch e) λ_=>hnx _ ⟨_,_,_,rfl⟩;ext;exact⟨rfl,hP⟩
 |some a=>
  rw[e]at hnx;dsimp only at hnx;obtain⟨a1,a2⟩:=pX e;obtain⟨⟨B1,b1,la⟩,⟨B2,b2,ld2,hl2⟩,B3,b3,rs3,hl3⟩:=hst a e;refine gp (b:=true) (λP hP=>?_) (λ_=>?_) λe=>nomatch e
  .ext
   exact⟨rfl,hP⟩
  have hpa:p<(x.rs.getD a []).length:=by rw[rl _<|fv a1];omega
  refine cB<|ig (d:=aE<|iG x.rs a p) (ρ':=[.d<|bE R,.d<|.int m,.d<|bE x.ld,.ow<|x.pl.map λ(k:Nat)=>D.int (k:Int),.d<|bE x.rs,.d<|.int p,.d<|.int a,.d<|aE<|iG x.rs a p]) (by rfl) (λP hP=>?_) ?_
  .show wF _ _ No [.d<|bE R,.d<|.int m,.d<|bE x.ld,.ow<|x.pl.map λ(k:Nat)=>D.int (k:Int),.d<|.lst<|x.rs.map aE,.d<|.int p,.d<|.int a,s7] P
   simp only[wF,aC,aA,wN,w2,dN,eA];refine⟨_,Hh a1,_,Hh a1,_,AB hpa,?_⟩;exact xC (b:=B1) b1 (by rw[rl _<|fv a1];omega) la (la _<|M3 hpa) a2 hP
  dsimp only;generalize iG x.rs a p=lead at hl2 hl3 hnx;refine cB<|ig (d:=bE<|bM x.ld lead p++[lead]) (ρ':=[.d<|bE R,.d<|.int m,.d<|bE<|bM x.ld lead p++[lead],.ow<|x.pl.map λ(k:Nat)=>D.int (k:Int),.d<|bE x.rs,.d<|.int p,.d<|.int a,.d<|aE lead]) (by rfl) (λP hP=>?_) ?_
  .simp only[wF,aC,aA,wN,w2,wL,cF,dN,eA]
   refine Hc (b:=B2) (w:=w) b2 w1 tv tv ld2 hl2 ⟨eJ<|E1,?_⟩;unfold bE at hP ⊢;rw[gR]at hP;exact⟨eJ (by unfold bM;simp;omega),hP⟩
  dsimp only;have hcut:∀(b1:Nat),(x.rs.take a++x.rs.drop (a+1)).length<=1000:=λ_=>by rw[dA,fZ,iq];omega
  refine cB<|ig (d:=bE<|bM (x.rs.take a++x.rs.drop (a+1)) lead p) (ρ':=[.d<|bE R,.d<|.int m,.d<|bE<|bM x.ld lead p++[lead],.ow<|x.pl.map λ(k:Nat)=>D.int (k:Int),.d<|bE<|bM (x.rs.take a++x.rs.drop (a+1)) lead p,.d<|.int p,.d<|.int a,.d<|aE lead]) (by rfl) (λP hP=>?_) ?_
  .show wF _ _ No [.d<|bE R,.d<|.int m,.d<|bE<|bM x.ld lead p++[lead],.ow<|x.pl.map λ(k:Nat)=>D.int (k:Int),.d<|.lst<|x.rs.map aE,.d<|.int p,.d<|.int a,.d<|aE lead] P
   ext;rw[pT (b:=a) rfl,show((a:Int)+1)=((a+1:Nat):Int) by omega,ub (by rw[aZ];omega),<-kJ,<-oD];refine⟨eJ (by simp;omega),?_⟩;rw[<-gR];exact Hc (b:=B3) (w:=w) b3 w1 (hcut 0) tv rs3 hl3 hP
  dsimp only;refine qL (d:=.int p) rfl (dP (show _<2000 by rw[aZ];omega)<|wp) rfl (B.nm_at rfl)<|hnx _ ⟨.d<|.int p,.d<|.int a,.d<|aE lead,?_⟩;rw[gR];rfl
theorem xE{wi:WE}{E:RE}(e:ρ[i]? = some (.ow xs))(hk:k<xs.length)(e2:ρ.set i (.ow<|xs.set k d)=ρ')(hv:∀P:D->Prop,P d->wv E ρ P)(hi:∀P:D->Prop,P (.int k)->wi E ρ P)(h:N.nx ρ'):iA i wi wv E N ρ:=by unfold iA;rw[e];exact hv _<|hi _ ⟨k,B.C.ixN_nat hk,by rw[e2];exact h⟩
theorem M5(s:Lb)(n:Nat):D.lst ((tbl s n).map λr=>aE<|dg r)=bE (fb s n):=by unfold bE fb;rw[List.map_map];rfl
theorem pY(h:IsSl s n):∀r∈fb s n,Lf 6 n r:=λr hr=>by
 unfold fb at hr;obtain⟨t,ht,rfl⟩:=YbT.mp hr;obtain⟨h1,h2⟩:=jS h t ht;have:=Lf.int (b:=6) (c:=t) wp λx hx=>by have:=h2 x hx;show _<64;omega
 rw[h1]at this;exact this
theorem ox:(fb s n).length=n:=by unfold fb;rw[aZ,gW]
theorem M6(h:IsSl s n):ClIn 6 n n (fb s n):=by
 have n5:=h.n5;refine⟨bU _,tv,by rw[ox];omega,?_,pY h⟩;have:=Zd (b:=6) (show n-1<=5 by omega);have e:bq 6 5=223:=wp
 omega
theorem M7(h:n<=5):bq 6 n<=223:=by
 have:=Zd (b:=6) h;have e:bq 6 5=223:=wp
 omega
theorem M8(h:IsSl s n):(∀r∈(dk s n).ld,r.length=n/\∀y∈r,Sz 223 y)/\(dk s n).ld.length<=5/\(∀a∈(dk s n).pl,a<n)/\(dk s n).pl.length=(dk s n).ld.length:=by have ok:=Aw (pY h) (p:=n)<|bU _;have l:=ok.ln;rw[ox]at l;have n5:=h.n5;exact⟨λr hr=>⟨(ok.ld r hr).len,λy hy=>((ok.ld r hr).sz y hy).mono<|M7 n5⟩,by unfold dk;omega,ok.lt,ok.pl⟩
def dr(place:Nat):E8->Ry->Mn->Mn
 |l::L,a::pl,row=>dr place L pl<|row.set a (0-l.getD place 0)
 |_,_,row=>row
theorem DO(place:Nat):∀(L:E8) (pl:Ry) (row:Mn),(L.zip pl).foldl (λrow x=>row.set x.2<|0-x.1.getD place 0) row=dr place L pl row
 |[],_,_=>by simp[dr]|_::_,[],_=>by simp[dr]|l::L,a::pl,row=>by rw[List.zip_cons_cons,List.foldl_cons,dr];exact DO place L pl _
theorem Hi{place n:Nat}{E:RE}{N:Nds}(hpn:place<n):∀(L:E8) (pl:Ry) (row:Mn) (s0 s2 s3 s5 s6:SV),row.length=n->(∀r∈L,r.length=n/\∀y∈r,Sz 223 y)->(∀a∈pl,a<n)->(∀s5 s6,N.nx [.d<|.int place,s0,s2,s3,.ow<|(dr place L pl row).map aN,s5,s6])->Zbh (de 2<|bL (gN 5)<|bL (gN 6) cV) (iA 4 (wN 6)<|wF qG<|aC (wC<|D.tup [(D.int<|0),(D.int<|1)])<|aC (w2 gIx (wN 5)<|wN 0) aA) E N (cQ (L.map aE)<|pl.map λ(k:Nat)=>D.int (k:Int)) [.d<|.int place,s0,s2,s3,.ow<|row.map aN,s5,s6]
 |[],pl,row,s0,s2,s3,s5,s6,_,_,_,h=>by simpa[cQ,Zbh,dr] using h s5 s6|l::L,[],row,s0,s2,s3,s5,s6,_,_,_,h=>by simpa[cQ,Zbh,dr] using h s5 s6
 |l::L,a::pl,row,s0,s2,s3,s5,s6,hr,hL,hp,h=>by
  have e:cQ ((l::L).map aE) ((a::pl).map λ(k:Nat)=>D.int (k:Int))=.tup [aE l,.int (a:Int)]::cQ (L.map aE) (pl.map λ(k:Nat)=>D.int (k:Int)):=by simp[cQ]
  rw[e,Zbh];refine⟨rfl,?_⟩;simp only[bL,cV,gN,List.set_cons_succ,List.set_cons_zero];obtain⟨ll,ls⟩:=hL l E1;have ha:=hp a E1;have e0:l[place]? = some (l.getD place 0):=by rw[aW,bP<|tv];rfl
  refine xE (xs:=row.map aN) (k:=a) (d:=aN<|0-l.getD place 0) (ρ':=[.d<|.int place,s0,s2,s3,.ow<|(row.set a<|0-l.getD place 0).map aN,.d<|aE l,.d<|.int a]) rfl (by rw[aZ];omega) (by rw[List.map_set];rfl) (λP hP=>?_) (B.nm_at rfl) ?_;simp only[wF,aC,aA,wN,wC,w2,dN,eA];refine⟨_,AB<|tv,?_⟩;have:=Ab (E:=No) (Q:=P) (B2.of (Sz.zero (n:=1)<|wp) (ls _<|iK e0)<|wp) hP;rw[xq]at this;exact this;rw[dr]at h;exact Hi hpn L pl _ _ _ _ _ _ (by rw[fD];exact hr) (λr hr=>hL r<|by simp[hr]) (λc hc=>hp c<|by simp[hc]) h
theorem M9:Rd Ay DN Zka:=by
 rintro _ E Q ⟨⟨⟨p,n⟩,L,pl⟩,rfl,⟨h1,h2,h3,h4,h5⟩,q⟩;dsimp only at h1 h2 h3 h4 h5 q;show DN E _ [.d<|.int p,.d<|.int n,.d<|bE L,.d<|kI pl,.un,.un,.un];unfold DN;refine cB<|B.C.own_by (xs:=(bG n p).map aN) (ρ':=[.d<|.int p,.d<|.int n,.d<|bE L,.d<|kI pl,.ow<|(bG n p).map aN,.un,.un]) (by rfl) (λP hP=>?_) ?_
 simp only[aB,wF,aC,aA,wN,dN,eA];exact G6 h2 hP;dsimp only;refine cB ?_;simp only[bH,bS,iZ,aC,aA,wN,dN,eA];refine Hi (N:=_) h1 L pl (bG n p) _ _ _ _ _ (jT n p) h4 h5 λs5 s6=>?_;rw[<-DO];dsimp only;refine B.C.pub_by (ρ':=[.d<|.int p,.d<|.int n,.d<|bE L,.d<|kI pl,.d<|.lst<|(mE p n L pl).map aN,s5,s6]) rfl ?_;ext;exact q
theorem AC{α:Type}{wf:WT}{we:WE}{tail:cS}{Q:RF->Prop}{g f:α->D}{p:α->Bool}:∀(L:List α),(∀a∈L,∀P:Bool->Prop,P (p a)->wf No (.d (g a)::tail) P)->(∀a∈L,∀P:D->Prop,P (f a)->we No (.d (g a)::tail) P)->∀(sv:SV) (acc:RF),acc.length+L.length<=aO->Q (acc++(L.filter p).map f)->lcW (gN 0) wf we (L.map g) (sv::tail) acc Q
 |[],_,_,sv,acc,_,hq=>by simpa[lcW] using hq
 |a::L,h,h',sv,acc,hl,hq=>by
  rw[cN,lcW];rw[dD]at hl;refine h a E1 _ ?_;cases e:p a with
  |true=>rw[ks rfl];refine h' a E1 _ ⟨tv,AC L (λx hx=>h x<|by simp[hx]) (λx hx=>h' x<|by simp[hx]) _ _ (by simp;omega) ?_⟩;rw[uK,e,ks rfl]at hq;rw[jP];exact hq|false=>rw[jx<|wp];refine AC L (λx hx=>h x<|by simp[hx]) (λx hx=>h' x<|by simp[hx]) _ _ tv ?_;rw[uK,e,jx<|wp]at hq;exact hq
theorem Na(pl:Ry)(p:Nat):(pl.map λ(k:Nat)=>(k:Int)).contains (p:Int)=pl.contains p:=by
 induction pl with
 |nil=>rfl|cons a pl ih=>rw[cN,BQ,BQ,ih];congr 1;rw[lA];simp;exact_mod_cast Iff.rfl
theorem Nb:Rd xy Hd Zjg:=by
 rintro _ E Q ⟨x,rfl,hk,q⟩;unfold Hd;walk_at "n";unfold Az at q;cases e:e8 x with
 |false=>exact Ae hk e<|jM e q
 |true=>
 obtain⟨s,n,rfl,h⟩:=kF e;have n1:=h.n1;have n5:=h.n5;replace q:=jN h q;rw[d8,h.sN]at q;replace q:Q (bE<|dU s n):=q;refine Ad h ?_;walk_at "n";refine mU h ?_;walk_at "n";refine Dk h ?_;rw[M5];refine MV (M6 h) ?_;refine⟨rfl,?_⟩;obtain⟨c1,c2,c3,c4⟩:=M8 h;unfold dU at q;show -10000<=(n:Int)/\(n:Int)<10000/\lcW _ _ _ (rng 0 n) [.un,.d<|.int n,.d<|bE (dk s n).ld,.d<|kI (dk s n).pl] [] _;generalize dk s n=c at c1 c2 c3 c4 q;refine⟨tv,tv,?_⟩;rw[ud];refine AC (f:=λp=>aE<|mE p n c.ld c.pl) (p:=λp=>!c.pl.contains p) (List.range n) (λp hp P hP=>?_) (λp hp P hP=>?_) .un [] (by simp[aO];omega) ?_
 .refine⟨_,c.pl.map λ(k:Nat)=>(k:Int),rfl,.inl ?_,?_⟩
  .show kI c.pl=.lst ((c.pl.map λ(k:Nat)=>(k:Int)).map .int)
   unfold kI;rw[List.map_map];rfl
  .rw[Na]
   exact hP
 .rw[Yah]at hp
  simp only[wF,aC,aA,wN,dN,eA];exact MW hp n5 c2 c1 c3 hP
 .rw[dG]
  unfold bE at q;rw[List.map_map]at q;exact q
theorem Nc{E:RE}(h:IsSl s n)(q:Q (bE<|dU s n)):xy [aJ s] E Q:=xS.ok (aJ s) rfl h.kd (by(try dsimp only);unfold Az;rw[Zb h,d8,h.sN]) q
theorem Nd{E:RE}{x:D}(h:kd x=true)(e:e8 x=false)(q:E "NoSlants"):xy [x] E Q:=⟨x,rfl,h,by(try dsimp only);unfold Az;rw[lN e];exact q⟩
theorem Nf:Rd AA He Zjh:=by
 rintro _ E Q ⟨x,rfl,hk,q⟩;unfold He;ext;unfold DH at q;cases e:e8 x with
 |false=>exact Nd hk e<|jM e q
 |true=>
 obtain⟨s,n,rfl,h⟩:=kF e;replace q:=jN h q;rw[d8,h.sN]at q;refine Nc h ?_;unfold bE;ext;rw[aZ];exact q
theorem Ng{E:RE}(h:IsSl s n)(q:Q (.int ((dU s n).length:Int))):AA [aJ s] E Q:=xS.ok (aJ s) rfl h.kd (by(try dsimp only);unfold DH;rw[Zb h,d8,h.sN]) q
theorem Hj(n:Nat):∀(R:E8) (k:Nat),(i9 n k R).length=R.length
 |[],_=>rfl|r::R,k=>by rw[i9,dD,Hj n R<|k+1];rfl
theorem Nh(n k:Nat):∃c:Lb,bG n k=dg c/\c.length=n/\∀x∈c,x.natAbs<2^6:=by refine⟨(List.range n).map λi:Nat=>if(i:Int)=(k:Int) then(1:Int) else 0,(G9 n k).symm,E1,λx hx=>?_⟩;obtain⟨i,_,rfl⟩:=YbT.mp hx;split<;>decide
theorem Hk{n m:Nat}:∀(T:KE) (k:Nat),(∀r∈T,r.length=m/\∀x∈r,x.natAbs<2^6)->∀r∈i9 n k (T.map dg),Lf 6 (m+n) r
 |[],_,_,r,hr=>nomatch hr
 |t::T,k,h,r,hr=>by
  rw[cN,i9]at hr;rcases Yan.mp hr with rfl|hr
  obtain⟨c,e,cl,cb⟩:=Nh n k;obtain⟨t1,t2⟩:=h t E1;have:=Lf.int (b:=6) (c:=t++c) wp λx hx=>by
   rcases Yao.mp hx with hx|hx
   exact t2 x hx;exact cb x hx
  rw[dA,t1,cl]at this;rw[e];unfold dg at this ⊢;rw[gR]at this;exact this;exact Hk T (k+1) (λr hr=>h r<|by simp[hr]) r hr
theorem Ni(h:IsSl s n):∀r∈fX s n,Lf 6 (n+n) r:=by unfold fX fb;refine Hk _ _ λr hr=>?_;obtain⟨h1,h2⟩:=jS h r hr;exact⟨h1,λx hx=>by have:=h2 x hx;show _<64;omega⟩
theorem DP(s:Lb)(n:Nat):(fX s n).length=n:=by unfold fX;rw[Hj,ox]
theorem DQ{p:Nat}(h:p<n):(r.take n).getD p 0=r.getD p 0:=by rw[aW,aW,qY,ks h]
theorem Hl{n p:Nat}(h:p<n):∀R:E8,dj (R.map<|List.take n) p=dj R p
 |[]=>rfl|r::R=>by rw[cN,dj,dj,DQ h,Hl h R]
theorem Zs(a c:Mn)(q:Rat)(n:Nat):aX (a.take n) q (c.take n)=(aX a q c).take n:=by unfold aX;rw[List.take_zipWith]
theorem Hm{p:Nat}(h:p<n)(R:E8)(c:Mn):bM (R.map<|List.take n) (c.take n) p=(bM R c p).map (List.take n):=by unfold bM;rw[List.map_map,List.map_map];refine jg λr _=>?_;show aX (r.take n) ((r.take n).getD p 0) (c.take n)=(aX r (r.getD p 0) c).take n;rw[DQ h,Zs]
theorem Nj(R:E8)(a n:Nat):(R.map<|List.take n).getD a []=(R.getD a []).take n:=by
 rw[aW,aW,cJ];cases R[a]? with
 |none=>simp|some r=>rfl
theorem Nk{p:Nat}(h:p<n)(R:E8)(a:Nat):iG (R.map<|List.take n) a p=(iG R a p).take n:=by unfold iG;rw[Nj,DQ h];unfold dS;rw[kJ]
theorem Hn{n:Nat}(A:E8):∀p:Nat,p<=n->(bX (A.map<|List.take n) p).ld=(bX A p).ld.map (List.take n)/\(bX (A.map<|List.take n) p).pl=(bX A p).pl/\(bX (A.map<|List.take n) p).rs=(bX A p).rs.map (List.take n)
 |0,_=>⟨rfl,rfl,rfl⟩
 |p+1,h=>by
  obtain⟨h1,h2,h3⟩:=Hn (n:=n) A p tv;rw[bX,bX];generalize bX (A.map<|List.take n) p=y at h1 h2 h3;generalize bX A p=x at h1 h2 h3;obtain⟨yl,yp,yr⟩:=y;try dsimp only at h1 h2 h3
  subst h1 h2 h3;unfold pW;dsimp only;have hp:p<n:=tv
  rw[Hl hp];cases e:dj x.rs p with
  |none=>exact⟨rfl,rfl,rfl⟩|some a=>dsimp only;rw[Nk hp,Hm hp,<-kJ,<-oD,<-gR,Hm hp,gR];exact⟨rfl,rfl,rfl⟩
theorem Ho{n:Nat}:∀(R:E8) (k:Nat),(∀r∈R,r.length=n)->(i9 n k R).map (List.take n)=R
 |[],_,_=>rfl|r::R,k,h=>by rw[i9,cN,Ho R (k+1)<|λx hx=>h x<|by simp[hx],<-h r E1,List.take_left'];rfl
theorem Nl(h:IsSl s n):(fX s n).map (List.take n)=fb s n:=Ho _ _ λr hr=>(pY h r hr).len
section
namespace Dt
abbrev R:=Nat->Int
def m2(a b:R)(p q:Nat):Int:=a p*b q-a q*b p
def m3(a b c:R)(p q r:Nat):Int:=c r*m2 a b p q-c q*m2 a b p r+c p*m2 a b q r
def m4(a b c d:R)(p q r s:Nat):Int:=d s*m3 a b c p q r-d r*m3 a b c p q s+d q*m3 a b c p r s-d p*m3 a b c q r s
def m5(a b c d e:R)(p q r s t:Nat):Int:=e t*m4 a b c d p q r s-e s*m4 a b c d p q r t+e r*m4 a b c d p q s t-e q*m4 a b c d p r s t+e p*m4 a b c d q r s t
section
variable(a b c d e:R)(p q r s t j:Nat)
theorem s0:m2 a b p j*1=b j*a p-b p*a j:=by unfold m2;grind
theorem s1:m3 a b c p q j*a p=m2 a c p j*m2 a b p q-m2 a c p q*m2 a b p j:=by unfold m3 m2;grind
theorem s2:m4 a b c d p q r j*m2 a b p q=m3 a b d p q j*m3 a b c p q r-m3 a b d p q r*m3 a b c p q j:=by unfold m4 m3 m2;grind
theorem pl:m3 a b c p q r*m3 a b c p s j=m3 a b c p q s*m3 a b c p r j-m3 a b c p q j*m3 a b c p r s:=by unfold m3 m2;grind
theorem DR:m3 a b c p q r*m3 a b c q s j=m3 a b c p q s*m3 a b c q r j-m3 a b c p q j*m3 a b c q r s:=by unfold m3 m2;grind
theorem Nm:m3 a b c p q r*m3 a b c r s j=m3 a b c p r s*m3 a b c q r j-m3 a b c p r j*m3 a b c q r s:=by unfold m3 m2;grind
theorem s3:m5 a b c d e p q r s j*m3 a b c p q r=m4 a b c e p q r j*m4 a b c d p q r s-m4 a b c e p q r s*m4 a b c d p q r j:=by have h1:=pl a b c p q r s j;have h2:=DR a b c p q r s j;have h3:=Nm a b c p q r s j;unfold m5 m4;generalize m3 a b c p q r=x1 at *;generalize m3 a b c p q s=x2 at *;generalize m3 a b c p q j=x3 at *;generalize m3 a b c p r s=x4 at *;generalize m3 a b c p r j=x5 at *;generalize m3 a b c p s j=x6 at *;generalize m3 a b c q r s=x7 at *;generalize m3 a b c q r j=x8 at *;generalize m3 a b c q s j=x9 at *;generalize m3 a b c r s j=y1 at *;generalize d p=d1;generalize d q=d2;generalize d r=d3;generalize d s=d4;generalize d j=d5;generalize e p=e1;generalize e q=e2;generalize e r=e3;generalize e s=e4;generalize e j=e5;grind
theorem xF:m2 b a p q = - m2 a b p q:=by unfold m2;grind
theorem xG:m3 b a c p q r = - m3 a b c p q r:=by unfold m3 m2;grind
theorem xH:m3 a c b p q r = - m3 a b c p q r:=by unfold m3 m2;grind
theorem xI:m3 c b a p q r = - m3 a b c p q r:=by unfold m3 m2;grind
theorem xJ:m4 b a c d p q r s = - m4 a b c d p q r s:=by unfold m4 m3 m2;grind
theorem xK:m4 a c b d p q r s = - m4 a b c d p q r s:=by unfold m4 m3 m2;grind
theorem xL:m4 c b a d p q r s = - m4 a b c d p q r s:=by unfold m4 m3 m2;grind
theorem xM:m4 a b d c p q r s = - m4 a b c d p q r s:=by unfold m4 m3 m2;grind
theorem xN:m4 a d c b p q r s = - m4 a b c d p q r s:=by unfold m4 m3 m2;grind
theorem xO:m4 d b c a p q r s = - m4 a b c d p q r s:=by unfold m4 m3 m2;grind
theorem xP:m5 b a c d e p q r s t = - m5 a b c d e p q r s t:=by unfold m5 m4 m3 m2;grind
theorem xQ:m5 a c b d e p q r s t = - m5 a b c d e p q r s t:=by unfold m5 m4 m3 m2;grind
theorem xR:m5 c b a d e p q r s t = - m5 a b c d e p q r s t:=by unfold m5 m4 m3 m2;grind
theorem xT:m5 a b d c e p q r s t = - m5 a b c d e p q r s t:=by unfold m5 m4 m3 m2;grind
theorem xW:m5 a d c b e p q r s t = - m5 a b c d e p q r s t:=by unfold m5 m4 m3 m2;grind
theorem xX:m5 d b c a e p q r s t = - m5 a b c d e p q r s t:=by unfold m5 m4 m3 m2;grind
theorem xY:m5 a b c e d p q r s t = - m5 a b c d e p q r s t:=by unfold m5 m4 m3 m2;grind
theorem xZ:m5 a b e d c p q r s t = - m5 a b c d e p q r s t:=by unfold m5 m4 m3 m2;grind
theorem ya:m5 a e c d b p q r s t = - m5 a b c d e p q r s t:=by unfold m5 m4 m3 m2;grind
theorem yb:m5 e b c d a p q r s t = - m5 a b c d e p q r s t:=by unfold m5 m4 m3 m2;grind
end
def M(A:Nat->R):Nat->Nat->R
 |0,i,j=>A i j|1,i,j=>m2 (A 0) (A i) 0 j|2,i,j=>m3 (A 0) (A 1) (A i) 0 1 j|3,i,j=>m4 (A 0) (A 1) (A 2) (A i) 0 1 2 j|4,i,j=>m5 (A 0) (A 1) (A 2) (A 3) (A i) 0 1 2 3 j|_,_,_=>0
def dt(A:Nat->R):Nat->Int
 |0=>1|k+1=>M A k k k
theorem Nn(A:Nat->R)(hk:k<4)(i j:Nat):M A (k+1) i j*dt A k=M A k i j*M A k k k-M A k i k*M A k k j:=by
 match k,hk with
 |0,_=>exact s0 _ _ _ _|1,_=>exact s1 _ _ _ _ _ _|2,_=>exact s2 _ _ _ _ _ _ _ _|3,_=>exact s3 _ _ _ _ _ _ _ _ _ _
theorem DS{A B:Nat->R}{i':Nat}(h:∀l,l<k->A l=B l)(hi:A i=B i'):M A k i j=M B k i' j:=by
 match k with
 |0=>show A i j=B i' j;rw[hi]|1=>show m2 _ _ _ _=m2 _ _ _ _;rw[hi,h 0<|tv]|2=>show m3 _ _ _ _ _ _=m3 _ _ _ _ _ _;rw[hi,h 0<|tv,h 1<|tv]|3=>show m4 _ _ _ _ _ _ _ _=m4 _ _ _ _ _ _ _ _;rw[hi,h 0<|tv,h 1<|tv,h 2<|tv]|4=>show m5 _ _ _ _ _ _ _ _ _ _=m5 _ _ _ _ _ _ _ _ _ _;rw[hi,h 0<|tv,h 1<|tv,h 2<|tv,h 3<|tv]|_+5=>rfl
def sw(A:Nat->R)(x y:Nat):Nat->R:=λi=>if i=x then A y else if i=y then A x else A i
theorem DT(A:Nat->R){x y:Nat}(hn:n<=5)(hxy:x<y)(hy:y<n):dt (sw A x y) n = - dt A n:=by
 match n,hn,y,hy,x,hxy with
 |1,_,0,_,x,h=>exact QS h<|Nat.not_lt_zero x
 |2,_,1,_,0,_=>exact xF _ _ _ _|3,_,1,_,0,_=>exact xG _ _ _ _ _ _|3,_,2,_,0,_=>exact xI _ _ _ _ _ _|3,_,2,_,1,_=>exact xH _ _ _ _ _ _|4,_,1,_,0,_=>exact xJ _ _ _ _ _ _ _ _|4,_,2,_,0,_=>exact xL _ _ _ _ _ _ _ _|4,_,2,_,1,_=>exact xK _ _ _ _ _ _ _ _|4,_,3,_,0,_=>exact xO _ _ _ _ _ _ _ _|4,_,3,_,1,_=>exact xN _ _ _ _ _ _ _ _|4,_,3,_,2,_=>exact xM _ _ _ _ _ _ _ _|5,_,1,_,0,_=>exact xP _ _ _ _ _ _ _ _ _ _|5,_,2,_,0,_=>exact xR _ _ _ _ _ _ _ _ _ _|5,_,2,_,1,_=>exact xQ _ _ _ _ _ _ _ _ _ _|5,_,3,_,0,_=>exact xX _ _ _ _ _ _ _ _ _ _|5,_,3,_,1,_=>exact xW _ _ _ _ _ _ _ _ _ _|5,_,3,_,2,_=>exact xT _ _ _ _ _ _ _ _ _ _|5,_,4,_,0,_=>exact yb _ _ _ _ _ _ _ _ _ _|5,_,4,_,1,_=>exact ya _ _ _ _ _ _ _ _ _ _|5,_,4,_,2,_=>exact xZ _ _ _ _ _ _ _ _ _ _|5,_,4,_,3,_=>exact xY _ _ _ _ _ _ _ _ _ _
end Dt
end
section
namespace Dt
def sumI(f:Nat->Int):Nat->Int
 |0=>0|n+1=>sumI f n+f n
theorem ui{f g:Nat->Int}:∀{n:Nat},(∀i,i<n->f i=g i)->sumI f n=sumI g n
 |0,_=>rfl|n+1,h=>by rw[sumI,sumI,ui<|λi hi=>h i<|tv,h n<|tv]
theorem AD{f:Nat->Int}:∀{n:Nat},(∀i,i<n->f i=0)->sumI f n=0
 |0,_=>rfl|n+1,h=>by rw[sumI,AD<|λi hi=>h i<|tv,h n<|tv];rfl
theorem Hq(f g:Nat->Int):∀n:Nat,sumI (λi=>f i+g i) n=sumI f n+sumI g n
 |0=>rfl|n+1=>by rw[sumI,sumI,sumI,Hq f g n];omega
theorem DU(f:Nat->Int)(c:Int):∀n:Nat,sumI (λi=>c*f i) n=c*sumI f n
 |0=>by simp[sumI]|n+1=>by rw[sumI,sumI,DU f c n,Int.mul_add]
theorem Hr(f:Nat->Nat->Int)(m:Nat):∀n:Nat,sumI (λi=>sumI (λj=>f i j) m) n=sumI (λj=>sumI (λi=>f i j) n) m
 |0=>by rw[sumI];exact(AD λ_ _=>rfl).symm|n+1=>by rw[sumI,Hr f m n,<-Hq];rfl
theorem Hs{f:Nat->Int}{k:Nat}:∀{n:Nat},k<n->(∀i,i<n->i≠k->f i=0)->sumI f n=f k
 |0,h,_=>by omega|n+1,h,h0=>by rw[sumI];by_cases e:k=n;subst e;rw[AD<|λi hi=>h0 i tv<|tv,Int.zero_add];rw[Hs (k:=k) tv<|λi hi hk=>h0 i tv hk,h0 n tv<|QX e,Int.add_zero]
def sk(k i:Nat):Nat:=if i<k then i else i+1
def cut(A:Nat->R)(k j:Nat):Nat->R:=λi l=>A (sk k i)<|sk j l
def sg(n:Nat):Int:=if n%2=0 then 1 else -1
def fN(A:Nat->R)(n k j:Nat):Int:=sg (k+j)*dt (cut A k j) (n-1)
def rep(A:Nat->R)(k:Nat)(x:R):Nat->R:=λi=>if i=k then x else A i
theorem yc(A:Nat->R)(x:R)(hn:n<=5)(hk:k<n):sumI (λj=>x j*fN A n k j) n=dt (rep A k x) n:=by
 match n,hn,k,hk with
 |1,_,0,_=>show 0+x 0*(1*1)=x 0;grind|2,_,0,_=>show 0+x 0*(1*(A 1) 1)+x 1*(-1*(A 1) 0)=m2 x (A 1) 0 1;unfold m2;grind|2,_,1,_=>show 0+x 0*(-1*(A 0) 1)+x 1*(1*(A 0) 0)=m2 (A 0) x 0 1;unfold m2;grind|3,_,0,_=>show 0+x 0*(1*m2 (A 1) (A 2) 1 2)+x 1*(-1*m2 (A 1) (A 2) 0 2)+x 2*(1*m2 (A 1) (A 2) 0 1)=m3 x (A 1) (A 2) 0 1 2;unfold m3 m2;grind|3,_,1,_=>show 0+x 0*(-1*m2 (A 0) (A 2) 1 2)+x 1*(1*m2 (A 0) (A 2) 0 2)+x 2*(-1*m2 (A 0) (A 2) 0 1)=m3 (A 0) x (A 2) 0 1 2;unfold m3 m2;grind|3,_,2,_=>show 0+x 0*(1*m2 (A 0) (A 1) 1 2)+x 1*(-1*m2 (A 0) (A 1) 0 2)+x 2*(1*m2 (A 0) (A 1) 0 1)=m3 (A 0) (A 1) x 0 1 2;unfold m3 m2;grind|4,_,0,_=>show 0+x 0*(1*m3 (A 1) (A 2) (A 3) 1 2 3)+x 1*(-1*m3 (A 1) (A 2) (A 3) 0 2 3)+x 2*(1*m3 (A 1) (A 2) (A 3) 0 1 3)+x 3*(-1*m3 (A 1) (A 2) (A 3) 0 1 2)=m4 x (A 1) (A 2) (A 3) 0 1 2 3;unfold m4 m3 m2;grind|4,_,1,_=>show 0+x 0*(-1*m3 (A 0) (A 2) (A 3) 1 2 3)+x 1*(1*m3 (A 0) (A 2) (A 3) 0 2 3)+x 2*(-1*m3 (A 0) (A 2) (A 3) 0 1 3)+x 3*(1*m3 (A 0) (A 2) (A 3) 0 1 2)=m4 (A 0) x (A 2) (A 3) 0 1 2 3;unfold m4 m3 m2;grind|4,_,2,_=>show 0+x 0*(1*m3 (A 0) (A 1) (A 3) 1 2 3)+x 1*(-1*m3 (A 0) (A 1) (A 3) 0 2 3)+x 2*(1*m3 (A 0) (A 1) (A 3) 0 1 3)+x 3*(-1*m3 (A 0) (A 1) (A 3) 0 1 2)=m4 (A 0) (A 1) x (A 3) 0 1 2 3;unfold m4 m3 m2;grind|4,_,3,_=>show 0+x 0*(-1*m3 (A 0) (A 1) (A 2) 1 2 3)+x 1*(1*m3 (A 0) (A 1) (A 2) 0 2 3)+x 2*(-1*m3 (A 0) (A 1) (A 2) 0 1 3)+x 3*(1*m3 (A 0) (A 1) (A 2) 0 1 2)=m4 (A 0) (A 1) (A 2) x 0 1 2 3;unfold m4 m3 m2;grind|5,_,0,_=>show 0+x 0*(1*m4 (A 1) (A 2) (A 3) (A 4) 1 2 3 4)+x 1*(-1*m4 (A 1) (A 2) (A 3) (A 4) 0 2 3 4)+x 2*(1*m4 (A 1) (A 2) (A 3) (A 4) 0 1 3 4)+x 3*(-1*m4 (A 1) (A 2) (A 3) (A 4) 0 1 2 4)+x 4*(1*m4 (A 1) (A 2) (A 3) (A 4) 0 1 2 3)=m5 x (A 1) (A 2) (A 3) (A 4) 0 1 2 3 4;unfold m5 m4 m3 m2;grind|5,_,1,_=>show 0+x 0*(-1*m4 (A 0) (A 2) (A 3) (A 4) 1 2 3 4)+x 1*(1*m4 (A 0) (A 2) (A 3) (A 4) 0 2 3 4)+x 2*(-1*m4 (A 0) (A 2) (A 3) (A 4) 0 1 3 4)+x 3*(1*m4 (A 0) (A 2) (A 3) (A 4) 0 1 2 4)+x 4*(-1*m4 (A 0) (A 2) (A 3) (A 4) 0 1 2 3)=m5 (A 0) x (A 2) (A 3) (A 4) 0 1 2 3 4;unfold m5 m4 m3 m2;grind|5,_,2,_=>show 0+x 0*(1*m4 (A 0) (A 1) (A 3) (A 4) 1 2 3 4)+x 1*(-1*m4 (A 0) (A 1) (A 3) (A 4) 0 2 3 4)+x 2*(1*m4 (A 0) (A 1) (A 3) (A 4) 0 1 3 4)+x 3*(-1*m4 (A 0) (A 1) (A 3) (A 4) 0 1 2 4)+x 4*(1*m4 (A 0) (A 1) (A 3) (A 4) 0 1 2 3)=m5 (A 0) (A 1) x (A 3) (A 4) 0 1 2 3 4;unfold m5 m4 m3 m2;grind|5,_,3,_=>show 0+x 0*(-1*m4 (A 0) (A 1) (A 2) (A 4) 1 2 3 4)+x 1*(1*m4 (A 0) (A 1) (A 2) (A 4) 0 2 3 4)+x 2*(-1*m4 (A 0) (A 1) (A 2) (A 4) 0 1 3 4)+x 3*(1*m4 (A 0) (A 1) (A 2) (A 4) 0 1 2 4)+x 4*(-1*m4 (A 0) (A 1) (A 2) (A 4) 0 1 2 3)=m5 (A 0) (A 1) (A 2) x (A 4) 0 1 2 3 4;unfold m5 m4 m3 m2;grind|5,_,4,_=>show 0+x 0*(1*m4 (A 0) (A 1) (A 2) (A 3) 1 2 3 4)+x 1*(-1*m4 (A 0) (A 1) (A 2) (A 3) 0 2 3 4)+x 2*(1*m4 (A 0) (A 1) (A 2) (A 3) 0 1 3 4)+x 3*(-1*m4 (A 0) (A 1) (A 2) (A 3) 0 1 2 4)+x 4*(1*m4 (A 0) (A 1) (A 2) (A 3) 0 1 2 3)=m5 (A 0) (A 1) (A 2) (A 3) x 0 1 2 3 4;unfold m5 m4 m3 m2;grind
theorem Np(A:Nat->R)(k:Nat):rep A k (A k)=A:=by funext i;unfold rep;split;rename_i h;rw[h];rfl
theorem Ht(A:Nat->R)(hn:n<=5)(hi:i<n)(hk:k<n)(ne:i≠k):dt (rep A k<|A i) n=0:=by
 have e:∀x y,(x=i/\y=k)\/(x=k/\y=i)->sw (rep A k<|A i) x y=rep A k (A i):=λx y h=>by
  funext l;unfold sw rep;rcases h with⟨rfl,rfl⟩|⟨rfl,rfl⟩
  by_cases h1:l=x;subst h1;simp[ne];by_cases h2:l=y;subst h2;simp[h1,ne];simp[h1,h2];by_cases h1:l=x;subst h1;simp[ne];by_cases h2:l=y;subst h2;simp[h1];simp[h1,h2]
 rcases Nat.lt_or_gt_of_ne ne with h|h
 have:=DT (rep A k<|A i) hn h hk;rw[e _ _<|.inl ⟨rfl,rfl⟩]at this;omega;have:=DT (rep A k<|A i) hn h hi;rw[e _ _<|.inr ⟨rfl,rfl⟩]at this;omega
theorem Hu(A:Nat->R)(hn:n<=5):dt (λi j=>A j i) n=dt A n:=by
 match n,hn with
 |0,_=>rfl|1,_=>rfl|2,_=>show m2 (λj=>A j 0) (λj=>A j 1) 0 1=m2 (A 0) (A 1) 0 1;unfold m2;grind|3,_=>show m3 (λj=>A j 0) (λj=>A j 1) (λj=>A j 2) 0 1 2=m3 (A 0) (A 1) (A 2) 0 1 2;unfold m3 m2;grind|4,_=>show m4 (λj=>A j 0) (λj=>A j 1) (λj=>A j 2) (λj=>A j 3) 0 1 2 3=m4 (A 0) (A 1) (A 2) (A 3) 0 1 2 3;unfold m4 m3 m2;grind|5,_=>show m5 (λj=>A j 0) (λj=>A j 1) (λj=>A j 2) (λj=>A j 3) (λj=>A j 4) 0 1 2 3 4=m5 (A 0) (A 1) (A 2) (A 3) (A 4) 0 1 2 3 4;unfold m5 m4 m3 m2;grind
theorem uj(A:Nat->R)(hn:n<=5)(hi:i<n)(hk:k<n):sumI (λj=>A i j*fN A n k j) n=if i=k then dt A n else 0:=by rw[yc A (A i) hn hk];split;rename_i h;rw[h,Np];rename_i h;exact Ht A hn hi hk h
theorem ye(A:Nat->R)(hn:n<=5)(hi:i<n)(hj:j<n):sumI (λk=>A k i*fN A n k j) n=if i=j then dt A n else 0:=by have:=uj (λi j=>A j i) hn hi hj;rw[Hu A hn]at this;rw[<-this];refine ui λk _=>?_;unfold fN;rw[<-Hu (cut A k j) tv,uB];rfl
theorem Nq(A:Nat->R)(hn:n<=5){w:Nat->Int}(h:∀i,i<n->sumI (λj=>A i j*w j) n=0)(hj:j<n):dt A n*w j=0:=by
 have e:sumI (λk=>fN A n k j*sumI (λl=>A k l*w l) n) n=dt A n*w j:=by
  rw[ui (g:=λk=>sumI (λl=>fN A n k j*(A k l*w l)) n)<|λk _=>(DU _ _ n).symm,Hr];rw [ui (g:=λl=>w l*sumI (λk=>A k l*fN A n k j) n) (λl _=>by
   rw[<-DU];exact ui λk _=>by rw[sr<|w l,<-Int.mul_assoc,sr<|fN A n k j])]
  rw[Hs (k:=j) hj<|λi hi ne=>by rw[ye A hn hi hj,jx ne,zw],ye A hn hj hj,ks rfl,sr]
 rw[<-e];exact AD λk hk=>by rw[h k hk,zw]
end Dt
end
namespace Dt
open B.C
def tA(t:KE):Nat->R:=λi j=>ga (gr t i) j
theorem yf(P:Nat->R)(ha:a<=4)(hk:k<a)(j:Nat):M P a k j=0:=by
 have z:=Ht (λl c=>P l (if c<a then c else j)) (n:=a+1) (i:=k) (k:=a) tv tv tv tv;rw[<-z];have h1:a=1\/a=2\/a=3\/a=4:=tv
 rcases h1 with rfl|rfl|rfl|rfl<;>rfl
def nv(P:Nat->R)(a:Nat):Nat->Int:=λj=>match a,j with|0,0=>1|1,0=>- P 0 1|1,1=>P 0 0|2,0=>m2 (P 0) (P 1) 1 2|2,1=>- m2 (P 0) (P 1) 0 2|2,2=>m2 (P 0) (P 1) 0 1|3,0=>- m3 (P 0) (P 1) (P 2) 1 2 3|3,1=>m3 (P 0) (P 1) (P 2) 0 2 3|3,2=>- m3 (P 0) (P 1) (P 2) 0 1 3|3,3=>m3 (P 0) (P 1) (P 2) 0 1 2|4,0=>m4 (P 0) (P 1) (P 2) (P 3) 1 2 3 4|4,1=>- m4 (P 0) (P 1) (P 2) (P 3) 0 2 3 4|4,2=>m4 (P 0) (P 1) (P 2) (P 3) 0 1 3 4|4,3=>- m4 (P 0) (P 1) (P 2) (P 3) 0 1 2 4|4,4=>m4 (P 0) (P 1) (P 2) (P 3) 0 1 2 3|_,_=>0
theorem Nr(P:Nat->R)(ha:a<=4)(h:a<j):nv P a j=0:=by
 match a,ha,j,h with
 |0,_,_+1,_=>rfl|1,_,_+2,_=>rfl|2,_,_+3,_=>rfl|3,_,_+4,_=>rfl|4,_,_+5,_=>rfl
theorem yg(P:Nat->R)(ha:a<=4):nv P a a=dt P a:=by
 match a,ha with
 |0,_=>rfl|1,_=>rfl|2,_=>rfl|3,_=>rfl|4,_=>rfl
theorem Hv{f:Nat->Int}{m:Nat}:∀{n:Nat},m<=n->(∀j,m<=j->f j=0)->sumI f n=sumI f m
 |0,h,_=>by rw[Ybq.mp h]|n+1,h,h0=>by by_cases e:m=n+1;rw[e];rw[sumI,h0 n<|tv,Int.add_zero];exact Hv tv h0
theorem Nt(P:Nat->R)(ha:a<=4)(hn:a<n):sumI (λj=>P k j*nv P a j) n=M P a k a:=by
 rw[Hv (m:=a+1) tv<|λj hj=>by rw[Nr P ha<|tv,zw]]
 match a,ha with
 |0,_=>show 0+P k 0*1=P k 0;omega|1,_=>show 0+P k 0*(- P 0 1)+P k 1*P 0 0=m2 (P 0) (P k) 0 1;unfold m2;grind|2,_=>show 0+P k 0*m2 (P 0) (P 1) 1 2+P k 1*(- m2 (P 0) (P 1) 0 2)+P k 2*m2 (P 0) (P 1) 0 1=m3 (P 0) (P 1) (P k) 0 1 2;unfold m3;grind|3,_=>show 0+P k 0*(- m3 (P 0) (P 1) (P 2) 1 2 3)+P k 1*m3 (P 0) (P 1) (P 2) 0 2 3+P k 2*(- m3 (P 0) (P 1) (P 2) 0 1 3)+P k 3*m3 (P 0) (P 1) (P 2) 0 1 2=m4 (P 0) (P 1) (P 2) (P k) 0 1 2 3;unfold m4;grind|4,_=>show 0+P k 0*m4 (P 0) (P 1) (P 2) (P 3) 1 2 3 4+P k 1*(- m4 (P 0) (P 1) (P 2) (P 3) 0 2 3 4)+P k 2*m4 (P 0) (P 1) (P 2) (P 3) 0 1 3 4+P k 3*(- m4 (P 0) (P 1) (P 2) (P 3) 0 1 2 4)+P k 4*m4 (P 0) (P 1) (P 2) (P 3) 0 1 2 3=m5 (P 0) (P 1) (P 2) (P 3) (P k) 0 1 2 3 4;unfold m5;grind
structure Br(A:Nat->R)(n a:Nat)(x:ug)(P:Nat->R):Prop where
 sm:∃b,Sm b n x.t
 l0:x.l≠0
 sgn:dt A n=x.s*dt P n
 last:x.l=dt P a
 ent:∀i,a<=i->i<n->∀j,j<n->ga (gr x.t i) j=M P a i j
 row:∀i,i<n->∃i',i'<n/\A i=P i'
theorem Nu{A B:Nat->R}(h:∀l,l<k->A l=B l):dt A k=dt B k:=by
 cases k with
 |zero=>rfl|succ k=>exact DS (λl hl=>h l<|tv)<|h k tv
theorem Nv{row here:Lb}{l:Int}(hj:j<row.length):ga (j7 row here a l) j=(ga row j*ga here a-ga row a*ga here j).fdiv l:=by show(j7 row here a l).getD j 0=_;unfold j7;rw[aW,cJ,iN hj];rfl
theorem Br.step{A:Nat->R}{x y:ug}{P:Nat->R}(h:Br A n a x P)(hn:n<=5)(ha:a<n)(e:lj a x=some y):∃P',Br A n (a+1) y P':=by
 obtain⟨b,sm⟩:=h.sm;have xl:=sm.len;unfold lj at e;split at e;cases e;rename_i g gs eg;cases e;obtain⟨g1,g2,g3⟩:=MG sm (g:=g) (by rw[eg];simp);have w:=MF sm ha g2;have wl:=w.len;have swr:∀k,k<n->gr (eW x.t a g) k=if k=g then gr x.t a else if k=a then gr x.t g else gr x.t k:=λk hk=>by unfold eW;rw[At (by rw[fD];omega),At<|tv]
 refine⟨sw P a g,⟨_,MH (k:=(eW x.t a g).length) w ha h.l0⟩,?_,?_,?_,λi hi hin j hj=>?_,λi hi=>?_⟩;show ga (gr (dh (eW x.t a g) a (eW x.t a g).length x.l) a) a≠0;rw[DB<|tv,jx<|tv,GY sm ha g2];exact g3;show dt A n=x.s*(1-2*(if g=a then 0 else 1))*dt (sw P a g) n;rw[h.sgn];by_cases e:g=a;subst e;rw[ks rfl,show sw P g g=P from by funext i;unfold sw;split<;>simp_all];grind;rw[jx e,DT P hn (by omega:a<g) g2];grind;show ga (gr (dh (eW x.t a g) a (eW x.t a g).length x.l) a) a=M (sw P a g) a a a;rw[DB<|tv,jx<|tv,GY sm ha g2,h.ent g g1 g2 a ha];exact(DS (λl hl=>by unfold sw;rw[jx<|tv,jx<|tv]) (by unfold sw;rw[ks rfl])).symm;have hai:a<i:=tv
 have hA:∀k,a<=k->k<n->∀j,j<n->ga (gr (eW x.t a g) k) j=M (sw P a g) a k j:=λk hk hkn j hj=>by have mv:∀k',a<=k'->k'<n->P k'=sw P a g k->M P a k' j=M (sw P a g) a k j:=λk' h1 h2 h3=>DS (λl hl=>by unfold sw;rw[jx<|tv,jx<|tv]) h3;rw[swr k hkn];by_cases e1:k=g;subst e1;rw[ks rfl,h.ent a (bU _) ha j hj];refine mv a (bU _) ha ?_;unfold sw;by_cases e2:k=a;subst e2;rw[ks rfl];rw[jx e2,ks rfl];rw[jx e1];by_cases e2:k=a;subst e2;rw[ks rfl,h.ent g g1 g2 j hj];refine mv g g1 g2 ?_;unfold sw;rw[ks rfl];rw[jx e2,h.ent k hk hkn j hj];refine mv k hk hkn ?_;unfold sw;rw[jx e2,jx e1]
 show ga (gr (dh (eW x.t a g) a (eW x.t a g).length x.l) i) j=M (sw P a g) (a+1) i j;rw[DB<|tv,ks ⟨hai,tv⟩,Nv (by rw[(w.gr hin).2.1];exact hj),hA i tv hin j hj,hA a (bU _) ha a ha,hA i tv hin a ha,hA a (bU _) ha j hj,<-Nn (sw P a g) (k:=a) tv i j];have el:dt (sw P a g) a=x.l:=by rw[h.last];exact Nu λl hl=>by unfold sw;rw[jx<|tv,jx<|tv]
 rw[el];exact Int.mul_fdiv_cancel _ h.l0;obtain⟨i',h1,h2⟩:=h.row i hi;by_cases e1:i'=a;subst e1;refine⟨g,g2,?_⟩;rw[h2];unfold sw;by_cases e2:g=i';subst e2;rw[ks rfl];rw[jx e2,ks rfl];by_cases e2:i'=g;subst e2;refine⟨a,ha,?_⟩;rw[h2];unfold sw;rw[ks rfl];refine⟨i',h1,?_⟩;rw[h2];unfold sw;rw[jx e1,jx e2]
theorem Br.run{b n:Nat}{t:KE}(h:Sm b n t)(hn:n<=5):∀{a:Nat},a<=n->∀{x:ug},fW t a=some x->∃P,Br (tA t) n a x P
 |0,_,x,e=>by cases e;exact⟨tA t,⟨b,h⟩,show(1:Int)≠0 by decide,by show _=1*_;rw[uE],rfl,λi _ _ j _=>rfl,λi hi=>⟨i,hi,rfl⟩⟩
 |a+1,ha,x,e=>by
  rw[fW]at e;cases e1:fW t a with
  |none=>rw[e1]at e;cases e
  |some y=>rw[e1]at e;obtain⟨P,hP⟩:=Br.run h hn tv e1;exact hP.step hn tv e
theorem Hw{t:KE}:∀{n:Nat},fW t n=none->∃a x,a<n/\fW t a=some x/\mD x.t a=[]
 |0,e=>by cases e
 |n+1,e=>by
  rw[fW]at e;cases e1:fW t n with
  |none=>obtain⟨a,x,h1,h2,h3⟩:=Hw e1;exact⟨a,x,tv,h2,h3⟩
  |some x=>rw[e1]at e;refine⟨n,x,tv,e1,?_⟩;have e:lj n x=none:=e;unfold lj at e;split at e;assumption;cases e
theorem Hx(h:Sm b n t)(hn:n<=5):(i8 t=dt (tA t) n/\i8 t≠0/\∃x,fW t n=some x)\/(i8 t=0/\∃w:Nat->Int,(∃a,a<n/\w a≠0)/\∀i,i<n->sumI (λj=>tA t i j*w j) n=0):=by
 unfold i8;rw[h.len];cases e:fW t n with
 |some x=>
  obtain⟨P,hP⟩:=Br.run h hn (bU _) e;refine .inl ⟨?_,?_,x,rfl⟩;show x.s*x.l=_;rw[hP.last,hP.sgn];show x.s*x.l≠0;refine lY ?_ hP.l0;have:∀{a:Nat} {x:ug},fW t a=some x->x.s≠0:=λ{a}=>by
   induction a with
   |zero=>intro x e;cases e;exact show(1:Int)≠0 by decide
   |succ a ih=>
    intro x e;rw[fW]at e;cases e1:fW t a with
    |none=>rw[e1]at e;cases e
    |some y=>
     rw[e1]at e;have e:lj a y=some x:=e;unfold lj at e;split at e
     .cases e
     .cases e
      exact lY (ih e1) (by split<;>decide)
  exact this e
 |none=>
  obtain⟨a,x,ha,ea,eg⟩:=Hw e;obtain⟨P,hP⟩:=Br.run h hn (gY ha) ea;obtain⟨b',sm⟩:=hP.sm;have xl:=sm.len;have z:∀k,k<n->M P a k a=0:=λk hk=>by
   by_cases hka:k<a;exact yf P tv hka a;rw[<-hP.ent k tv hk a ha];refine Classical.byContradiction λc=>?_;have:k∈mD x.t a:=by unfold mD;refine Yag.mpr ⟨YbT.mpr ⟨k-a,Yah.mpr<|tv,tv⟩,by simpa using c⟩
   rw[eg]at this;cases this
  refine .inr ⟨rfl,nv P a,⟨a,ha,?_⟩,λi hi=>?_⟩;rw[yg P<|tv,<-hP.last];exact hP.l0;obtain⟨i',h1,h2⟩:=hP.row i hi;rw[h2,Nt P tv ha];exact z i' h1
theorem yh(h:Sm b n t)(hn:n<=5):i8 t=dt (tA t) n:=by
 rcases Hx h hn with⟨e,_⟩|⟨e,w,⟨a,ha,wa⟩,hw⟩
 exact e;rw[e];rcases Int.mul_eq_zero.mp (Nq (tA t) hn hw ha) with z|z
 exact z.symm;exact QS z wa
theorem Nw(h:Sm b n t)(hn:n<=5)(e:i8 t=0):∃w:Nat->Int,(∃a,a<n/\w a≠0)/\∀i,i<n->sumI (λj=>tA t i j*w j) n=0:=by
 rcases Hx h hn with⟨_,z,_⟩|⟨_,hw⟩
 exact QS e z;exact hw
end Dt
def aR(K:QR)(mg:K8)(x:Str)(st:Stmt):Prop:=∃f fd,Fun K x x st f fd/\mg x=some (.ref f)/\ku K x=some f
def CC(K:QR)(mg:K8)(x:Str):Prop:=∃a,mg x=some (.ref a)/\ku K x=some a
def CI(mg:K8)(x:Str)(i:Int):Prop:=∃t,mg x=some (.int i t)
def CT(K:QR)(mg:K8)(x:Str)(ds:RF):Prop:=∃a vs,mg x=some (.ref a)/\KT K a vs/\∀W,Reps K W vs ds
section
theorem mkF(X:K.In h)(G:h.Ns mainGlobals mg){f:Addr}{oc:Value}{kV doc pm cdv ct:Value}(a:PySem.W.nsIn K mainGlobals x=some (some<|.ref f))(l:K.lookup f=some ⟨oc,od,.func<|PySem.W.fnOf x x (dm st) (cI st) (aP st) .none kV doc pm an cdv ct,osl⟩)
  (c:PySem.W.codeIn K cdv x=true) (k:PySem.W.keepIn K (.ref f)=true):aR K mg x st:=⟨f,_,tK l c k,PySem.W.mg_of X G a,t9 a⟩
theorem QG(X:K.In h)(G:h.Ns mainGlobals mg){f:Addr}(a:PySem.W.nsIn K mainGlobals x=some (some<|.ref f)):CC K mg x:=⟨f,PySem.W.mg_of X G a,t9 a⟩
theorem mkI(X:K.In h)(G:h.Ns mainGlobals mg){i:Int}{t:Tok}(a:PySem.W.nsIn K mainGlobals x=some (some<|.int i t)):CI mg x i:=⟨t,PySem.W.mg_of X G a⟩
theorem mkT(X:K.In h)(G:h.Ns mainGlobals mg){f:Addr}{d:Option Addr}{i j:Int}{t u:Tok}(a:PySem.W.nsIn K mainGlobals x=some (some<|.ref f))(l:K.lookup f=some ⟨.type "tuple",d,.seq #[.int i t,.int j u] n,sl⟩):CT K mg x [.int i,.int j]:=
 ⟨f,[.int i,.int j],PySem.W.mg_of X G a,⟨_,_,_,l,rfl,rfl,(by show 2<=sizeLine;decide),.cons ⟨_,rfl⟩<|.cons ⟨_,rfl⟩ .nil⟩,λ_=>.cons (.int _)<|.cons (.int _) .nil⟩
theorem mkX(X:K.In h)(G:h.Ns mainGlobals mg){f:Addr}(a:PySem.W.nsIn K mainGlobals x=some (some<|.ref f))(e:PySem.W.excIn K f [.type "ValueError",.type "Exception",.type "BaseException",.type "object"] "ValueError.__new__" = true):XC K mg x:=
 ⟨f,_,_,_,t9 a,PySem.W.mg_of X G a,e,PySem.F.excBase_ValueError⟩
theorem QH(X:K.In h)(G:h.Ns mainGlobals mg){f:Addr}(a:PySem.W.nsIn K mainGlobals x=some (some<|.ref f))(e:PySem.W.excIn K f [.type "ValueError",.type "Exception",.type "BaseException",.type "object"] "ValueError.__new__" = true)
  (m:∀n∈L,∃D,PySem.W.nsIn K mainGlobals (uR n)=some (some<|.ref D)/\PySem.W.mroIn K D (.ref f)=some true):XT K mg x L:=
 ⟨f,_,_,PySem.W.mg_of X G a,e,sa,λn hn D hD=>by
  obtain⟨D',e1,e2⟩:=m n hn;rw[t9 e1]at hD;cases hD;exact e2⟩
end
section
variable{P:Program}{w:World}{N:Rv}{z:WS}
universe u
theorem Hy{α:Sort u}{F G:K9->α}(h:∀a,F [a]=G [a]):∀us:K9,us.length=1->F us=G us
 |[_],_=>h _
theorem Hz{α:Sort u}{F G:K9->α}(h:∀a b,F [a,b]=G [a,b]):∀us:K9,us.length=2->F us=G us
 |[_,_],_=>h _ _
theorem HC{α:Sort u}{F G:K9->α}(h:∀a b c,F [a,b,c]=G [a,b,c]):∀us:K9,us.length=3->F us=G us
 |[_,_,_],_=>h _ _ _
theorem HD{α:Sort u}{F G:K9->α}(h:∀a b c d,F [a,b,c,d]=G [a,b,c,d]):∀us:K9,us.length=4->F us=G us
 |[_,_,_,_],_=>h _ _ _ _
theorem u5(h:aR K mg x st)
  (hbody:∀ (sc:N.Nodup) (f:Addr) (cdv:Value) (A:Around) (outer:List Env) (s:Shared) (H:Hp) (E:XK),Room k (A.deeper<|envOfC x (aP st) s.heap.objs.size f cdv)->
   dQ (fM P w) (ei (fM P w) P w K mg base N x (aP st) f cdv A outer s H E) E->kW (ei (fM P w) P w K mg base N x (aP st) f cdv A outer s H E) E->
   lJ (ei (fM P w) P w K mg base N x (aP st) f cdv A outer s H E) E (cI st) z)
  (rd:Rd S z N)
  (sc:autoParam (eZ N ps (aP st)) RP._auto_1)
  (len:∀ds E Q,S ds E Q->ds.length=ps.length:=by first|exact fnS.len λ_=>rfl|exact xS.len λ_=>rfl|exact rlS.len λ_=>rfl)
  (hb:∀ (kV doc pm:Value) (an:Option Addr) (cdv ct:Value) (us:K9),us.length=ps.length->bindArgs (PySem.W.fnOf x x (dm st) (cI st) (aP st) .none kV doc pm an cdv ct) ⟨us,[]⟩=pure (ps.zip us):=by
   intro _ _ _ _ _ _;(first|refine Hy ?_|refine Hz ?_|refine HC ?_|refine HD ?_);intros;rfl)
  (mono:rC S:=by first|exact fnS.mono|exact rlS.mono|exact xS.mono):Fp P w K mg base (k+1) x ps S:=by
 obtain⟨f,fd,F,m,q⟩:=h;exact Fp.of (tR (z:=z) F sc len (λcdv A outer s H E hr hx hw=>hbody sc.nd f cdv A outer s H E hr hx hw) rd) mono m F.kp<|F.binds hb
theorem cD(rd:Rd S z N)(h:aR K mg x st)
  (hbody:∀ {f:Addr} {cdv:Value} {A:Around} {outer:List Env} {s:Shared} {H:Hp} {E:XK} (sc:N.Nodup),Room k (A.deeper<|envOfC x (aP st) s.heap.objs.size f cdv)->
   dQ (fM P w) (ei (fM P w) P w K mg base N x (aP st) f cdv A outer s H E) E->kW (ei (fM P w) P w K mg base N x (aP st) f cdv A outer s H E) E->
   lJ (ei (fM P w) P w K mg base N x (aP st) f cdv A outer s H E) E (cI st) z)
  (sc:autoParam (eZ N ps (aP st)) RP._auto_1)
  (len:∀ds E Q,S ds E Q->ds.length=ps.length:=by first|exact fnS.len λ_=>rfl|exact xS.len λ_=>rfl|exact rlS.len λ_=>rfl)
  (hb:∀ (kV doc pm:Value) (an:Option Addr) (cdv ct:Value) (us:K9),us.length=ps.length->bindArgs (PySem.W.fnOf x x (dm st) (cI st) (aP st) .none kV doc pm an cdv ct) ⟨us,[]⟩=pure (ps.zip us):=by
   intro _ _ _ _ _ _;(first|refine Hy ?_|refine Hz ?_|refine HC ?_|refine HD ?_);intros;rfl)
  (mono:rC S:=by first|exact fnS.mono|exact rlS.mono|exact xS.mono):Fp P w K mg base (k+1) x ps S:=by
 obtain⟨f,fd,F,m,q⟩:=h;exact Fp.of (tR (z:=z) F sc len (λcdv A outer s H E hr hx hw=>hbody sc.nd hr hx hw) rd) mono m F.kp<|F.binds hb
theorem Nx{l:PySem.W.OpenLaw}(h:aR K mg x st)(hfa:mg x=some (.ref fa))
  (hbody:∀ (base:Heap) (sc:N.Nodup) (f:Addr) (cdv:Value) (A:Around) (outer:List Env) (s:Shared) (H:Hp) (E:XK),Room k (A.deeper<|envOfC x (aP st) s.heap.objs.size f cdv)->
   dQ (fM l.prog w) (ei (fM l.prog w) l.prog w K mg base N x (aP st) f cdv A outer s H E) E->kW (ei (fM l.prog w) l.prog w K mg base N x (aP st) f cdv A outer s H E) E->
   lJ (ei (fM l.prog w) l.prog w K mg base N x (aP st) f cdv A outer s H E) E (cI st) z)
  (rd:Rd S z N)
  (sc:autoParam (eZ N ["_law_script"] (aP st)) RP._auto_1)
  (len:∀ds E Q,S ds E Q->ds.length=1:=by exact fnS.len (ps:=["_law_script"]) λ_=>rfl)
  (hb:∀(kV doc pm:Value) (an:Option Addr) (cdv ct:Value) (s:Shared) (v:Value),BindsTo s (PySem.W.fnOf x x (dm st) (cI st) (aP st) .none kV doc pm an cdv ct) ⟨[v],[]⟩ [("_law_script",v)]:=by exact λ_ _ _ _ _ _ _ _=>.of_eq rfl) :
  ∃fd:FuncData,(∀(s:Shared) (v:Value),BindsTo s fd ⟨[v],[]⟩ [("_law_script",v)])/\∀base:Heap,K.In base->base.Ns mainGlobals mg->gF l.prog w K mg base (fM l.prog w) (k+1) fa fd ["_law_script"] (jH K S):=by
 obtain⟨f,fd,F,m,q⟩:=h;rw[m]at hfa;cases hfa;refine⟨fd,?_,λbase _ _=>tR (z:=z) F sc len (λcdv A outer s H E hr hx hw=>hbody base sc.nd _ cdv A outer s H E hr hx hw) rd⟩;obtain⟨_,_,_,_,_,_,_,_,_,rfl,_⟩:=F.ex;exact hb _ _ _ _ _ _
end
section
variable{pos:Pos}{l:List (Str×bN)}
theorem AE{i:Int}(h:CI X.mg x i)(hg:{Gl X x})(hd:(RA x:)):PX X EX (.Name x pos) (wC<|.int i):=let⟨_,m⟩:=h;Lk m hg hd
theorem j8(h:CT X.K X.mg x ds)(hg:{Gl X x})(hd:(RA x:)):PX X EX (.Name x pos) (wC<|.tup ds):=let⟨_,_,m,k,r⟩:=h;Ll m k r hg hd
end
section
variable{n m:Str}{D C f:Addr}{M:Rv}
theorem QJ(a:PySem.W.nsIn K mainGlobals n=some (some<|.ref D))(b:PySem.W.mroIn K D (.ref f)=some true):∃D,PySem.W.nsIn K mainGlobals n=some (some<|.ref D)/\PySem.W.mroIn K D (.ref f)=some true:=⟨D,a,b⟩
theorem QK(a:PySem.W.nsIn K mainGlobals n=some (some<|.ref D))(c:tM K D)(k:PySem.W.kitOne K (.ref D) (.type "ValueError")=some true)(h:∀m∈M,∃C,ku K m=some C/\PySem.W.kitOne K (.ref D) (.ref C)=some (n==m)) :
  ∃D,ku K n=some D/\tM K D/\PySem.W.kitOne K (.ref D) (.type "ValueError")=some true/\∀m∈M,∃C,ku K m=some C/\PySem.W.kitOne K (.ref D) (.ref C)=some (n==m):=⟨D,t9 a,c,k,h⟩
theorem QM(a:PySem.W.nsIn K mainGlobals m=some (some<|.ref C))(b:PySem.W.kitOne K (.ref D) (.ref C)=some (n==m)):∃C,ku K m=some C/\PySem.W.kitOne K (.ref D) (.ref C)=some (n==m):=⟨C,t9 a,b⟩
end
abbrev HE:=RF->(RE)->(RF->Prop)->Prop
abbrev Ny:=(RE)->(RF->Prop)->cS->Prop
section
variable{pos:Pos}
def pz(i:Nat)(w:WE):WS:=λE N ρ=>match ρ[i]? with
 |some (.d<|.int c)=>w E ρ<|isI λd=>N.nx (ρ.set i<|.d<|.int<|c+d)
 |_=>False
theorem u6(i:Nat)(he:PX X EX e w)(hN:X.N.Nodup)(hi:{X.N[i]? = some x})(hx:autoParam (mQ X.env.scope x) RM._auto_1)
  (hf:autoParam (RB X x) RK._auto_1):PZ X EX (.AugAssign (.Name x pos') .Add e pos) (pz i w):=by
 obtain⟨t,p,k⟩:=he.t;refine⟨⟨_,sV hN hi hx p sW hf,λW0 H0 F W σ H ρ E Dn N s fl eo no h=>?_⟩,λE ρ N N' hl q=>?_⟩
 .unfold pz at h
  split at h
  .rename_i c ec
   obtain⟨v,e1,r⟩:=s.d i _ ec;cases r;refine⟨_,e1,k W0 H0 W σ H ρ E _ s eo<|he.mono _ _ _ _ (λd hd v W1 H1 x1 r1=>?_) h⟩;obtain⟨dn,rfl,hn⟩:=uT hd;cases r1;exact⟨c,dn,rfl,rfl,no.nx W1 _ H1 _ ((s.step x1).set<|.int _) (fl.ext x1) hn⟩
  .exact h.elim
 .unfold pz at q ⊢
  split at q
  .exact he.mono _ _ _ _ (λd hd=>isI.mono (λn hn=>hl.nx _ hn) _ hd) q
  .exact q.elim
end
section
variable{pos:Pos}
end
section
variable{pos:Pos}{a b:Expr}
end
namespace B.C.Q0
abbrev Pr:=Rat×Mn
def gX(p:Pr):D:=.tup [aN p.1,aE p.2]
def cY(ps:List Pr):D:=.lst<|ps.map gX
structure Pq(b n:Nat)(p:Pr):Prop where
 l:p.2.length=n
 w:Sz b p.1
 r:∀y∈p.2,Sz b y
def eX(n:Int):D->Bool
 |.tup [w,r]=>dL w&&(!decide (tZ w=0))&&jt n r|_=>false
def DW(n:Int):D->Bool
 |.lst xs=>decide (xs.length<=10)&&xs.all (eX n)|_=>false
def DX:D->Pr
 |.tup [w,r]=>(tZ w,rQ r)|_=>(0,[])
def sqs:D->List Pr
 |.lst xs=>xs.map DX|_=>[]
def gs:List Pr->Nat->Nat->Rat
 |[],_,_=>0|p::ps,i,j=>p.1*(p.2.getD i 0*p.2.getD j 0)+gs ps i j
def tT(s:Lb)(n i j:Nat):Int:=ga (gr (tbl s n) i) j
def pZ(s:Lb)(n:Nat)(ps:List Pr):Prop:=∀i,i<n->∀j,j<n->gs ps i j=(tT s n i j:Rat)
instance(s:Lb)(n:Nat)(ps:List Pr):Decidable (pZ s n ps):=by unfold pZ;infer_instance
def uk(s:Lb)(n:Nat)(x:D):Bool:=DW n x&&decide (pZ s n<|sqs x)
def AF(s:Lb)(n:Nat)(x:D):Except Str D:=if s.reverse=s then .ok (.bl<|uk s n x) else .error "NotEven"
def cZ(R:E8):List Pr->E8
 |[]=>R|p::ps=>cZ (List.zipWith (λrow share=>aX row (p.1*share) p.2) R p.2) ps
def qM(t:KE)(k:Nat):KE:=(t.take k).map (·.take k)
def AG:bN:=fnS (λx:D×Int=>[x.1,.int x.2]) (λx=>kd x.1=true) λx=>.bl<|eX x.2 x.1
def u7(b k:Nat):Prop:=7+(3*b+1)*k+3*b<8990
def qN(b:Nat)(x:D):Prop:=∀xs,x=.lst xs->xs.length<=10->u7 b xs.length
def AH:bN:=fnS (λx:(Nat×SL)×List Pr=>[aJ x.1.2.1,cY x.2]) (λx=>IsSl x.1.2.1 x.1.2.2/\u7 x.1.1 x.2.length/\∀p∈x.2,Pq x.1.1 x.1.2.2 p) λx=>.lst<|(cZ ((tbl x.1.2.1 x.1.2.2).map dg) x.2).map aE
def AI:bN:=xS (λx:(Nat×SL)×D=>[aJ x.1.2.1,x.2]) (λx=>IsSl x.1.2.1 x.1.2.2/\kd x.2=true/\iC x.1.1 x.2=true/\qN x.1.1 x.2) λx=>AF x.1.2.1 x.1.2.2 x.2
def AJ:bN:=rlS (λ_:Unit=>[.pen]) (λ_=>True) λ_ d=>∃s n,IsSl s n/\s.reverse=s/\d=aJ s
section
variable{E:RE}{x:D}{c:Nat}{i:Int}{t:Mn}{ps:List Pr}
theorem NA(h:kd x=true)(q:Q (.bl<|eX i x)):AG [x,.int i] E Q:=⟨(x,i),rfl,h,q⟩
theorem NB(h:IsSl s n)(h1:u7 b ps.length)(h2:∀p∈ps,Pq b n p)(q:Q (.lst<|(cZ ((tbl s n).map dg) ps).map aE)):AH [aJ s,cY ps] E Q:=⟨((b,s,n),ps),rfl,⟨h,h1,h2⟩,q⟩
theorem NC(q:∀s n,IsSl s n->s.reverse=s->Q (aJ s)):AJ [.pen] E Q:=⟨(),rfl,trivial,λd ⟨s,n,h,h1,e⟩=>by rw[e];exact q s n h h1⟩
end
abbrev ZhI:Rv:=["thing", "many"]
def HF:WS:=(aH (cP (fJ (bW<|wT<|wB gIs<|aC (wN 0)<|aC (wC<|.ty "tuple") aA)<|wT<|w2 (gEq true) (wB bZ<|aC (wN 0) aA)<|wC<|.int<|2) (aI<|wC<|D.bl false) cR)<|aI<|gB (wF wZ<|aC (w2 gIx (wN 0)<|wC<|.int<|0) aA)<|gB (w2 (gEq true) (w2 gIx (wN 0)<|wC<|.int<|0)<|wC<|D.tup [(D.int<|0),(D.int<|1)])<|wF w4<|aC (w2 gIx (wN 0)<|wC<|.int<|1)<|aC (wN 1) aA)
abbrev ZlW:Rv:=["slants", "squares", "rows", "weight", "square"]
def HG:WS:=(aH (aQ 2<|wF tY<|aC (wN 0) aA)<|cc 2<|aH (bH<|bS (iS<|wN 1) (de 2<|bL (gN 3)<|bL (gN 4) cV)<|cc 2<|cH 2<|aLC (iZ<|aC (wN 2)<|aC (wN 4) aA) 2 [3,4] (de 2<|bL (gN 0)<|bL (gN 1) cV) cU<|wF ou<|aC (wN 0)<|aC (wF qH<|aC (wN 2)<|aC (wN 1) aA)<|aC (wN 3) aA)<|cc 2<|aI<|wN 2)
abbrev Zf3:Rv:=["slants", "thing", "size"]
def HH:WS:=(aH (fK<|wF qJ<|aC (wN 0) aA)<|aH (aQ 2<|wF jR<|aC (wN 0) aA)<|aH (cP (fJ (bW<|wT<|wB gIs<|aC (wN 1)<|aC (wC<|.ty "list") aA)<|wT<|w2 jK (wB bZ<|aC (wN 1) aA)<|wC<|.int<|10) (aI<|wC<|D.bl false) cR)<|aH (cP (bW<|wT<|wB h8<|aC (wL<|aLC (iS<|wN 1) 1 [2] (gN 0) cU<|wF AG<|aC (wN 0)<|aC (wN 1) aA) aA) (aI<|wC<|D.bl false) cR)<|aI<|w2 (gEq false) (wF AH<|aC (wN 0)<|aC (wN 1) aA)<|w2 gMul (wL<|cF<|aC (w2 ZdL (bO<|aC (wC<|D.tup [(D.int<|0),(D.int<|1)]) aA)<|wN 2) aA)<|wN 2)
abbrev Zf5:Rv:=["_law_pen", "_law_found", "_law_size"]
def HI:WS:=(aH (aQ 1<|wF Ar<|aC (wN 0) aA)<|aH (aQ 2<|w2 h9 (w2 gAdd (wB bZ<|aC (wN 1) aA)<|wC<|.int<|1)<|wC<|.int<|2)<|aH (cP (wT<|w2 (gEq false) (wF kH<|aC (wN 0)<|aC (wC<|.int<|4) aA)<|wC<|.int<|0) (aQ 1<|w2 gAdd (cG (wN 1) eL<|dW<|w2 i6 (wN 2)<|wC<|.int<|1)<|bO<|aC (wC<|.int<|50) aA) cR)<|aI<|w2 gAdd (cG (wN 1) eL<|dW<|wN 2)<|w1 gRev<|cG (wN 1) eL<|dW<|w2 i6 (wN 2)<|wC<|.int<|1)
theorem ND(q:Rat):gC (aN q) (.tup [.int 0,.int 1])=decide (q=0):=by rw[<-xq,As]
theorem NE:Rd AG HF ZhI:=by
 rintro _ E Q ⟨⟨x,n⟩,rfl,hk,q⟩;dsimp only at hk q;unfold HF;walk_at "n";refine ua hk wp λt ht=>?_;cases x<;>cases ht<;>try exact q
 rename_i xs;obtain⟨hl,hx⟩:=wQ hk;ext;simp only[show j4 "tuple" "tuple" = true from rfl,gE,fg,if_false]
 match xs,hl,hx,q with
 |[],_,_,q=>ext;exact q|[a],_,_,q=>ext;exact q|a::b::c::r,_,_,q=>ext;rw[ks (by simp;omega)];exact q
 |[a,b],_,hx,q=>
  ext;rw[jx<|E1];refine⟨_,rfl,Ly (hx a<|E1) ?_⟩;cases ha:dL a with
  |false=>ext;rw[eX,ha]at q;simpa using q
  |true=>
   obtain⟨p,rfl⟩:=Dj ha;rw[eX,ha,uZ]at q;ext;refine⟨_,rfl,mx (qF _ _) wp ?_⟩;rw[ks rfl,ND];cases hp:decide (p=0) with
   |true=>rw[hp]at q;ext;simpa using q
   |false=>
    rw[hp]at q;ext;refine⟨_,rfl,FV (hx b<|E1) ?_⟩;simpa using q
theorem HJ{m:Nat}:∀(ps:List Pr) (R:E8),R.length=m->(∀r∈R,r.length=m)->(∀p∈ps,p.2.length=m)->(cZ R ps).length=m/\∀r∈cZ R ps,r.length=m
 |[],R,h1,h2,_=>⟨h1,h2⟩|p::ps,R,h1,h2,h3=>by rw[cZ];have hp:=h3 p E1;refine HJ ps _ (by rw[g6,h1,hp,uL]) (λr hr=>?_) λq hq=>h3 q (by simp[hq]);obtain⟨k,hk,rfl⟩:=Ybv.mp hr;rw[lC,aX,g6,hp,h2 _<|gQ _,uL]
def en(R:E8)(i j:Nat):Rat:=(R.getD i []).getD j 0
theorem DY{m:Nat}:∀(ps:List Pr) (R:E8) (i j:Nat),i<m->j<m->R.length=m->(∀r∈R,r.length=m)->(∀p∈ps,p.2.length=m)->en (cZ R ps) i j=en R i j-gs ps i j
 |[],R,i,j,_,_,_,_,_=>by rw[cZ,gs];grind
 |p::ps,R,i,j,hi,hj,h1,h2,h3=>by
  have hp:=h3 p E1;have hr:(R.getD i []).length=m:=by rw[aW,bP<|tv];exact h2 _<|gQ _
  rw[cZ,gs,DY ps _ i j hi hj (by rw[g6,h1,hp,uL]) (λr hr=>?_) λq hq=>h3 q<|by simp[hq]];have e:en (List.zipWith (λrow share=>aX row (p.1*share) p.2) R p.2) i j=en R i j-p.1*p.2.getD i 0*p.2.getD j 0:=by unfold en;simp only[aW];rw[bP (l:=List.zipWith _ R p.2) (i:=i) (by rw[g6];omega),lC,bP (l:=R)<|tv,bP (l:=p.2) (i:=i)<|tv];rw[aW,bP<|tv]at hr;simp only[qa]at hr ⊢;unfold aX;rw[bP (l:=List.zipWith _ _ p.2) (by rw[g6];omega),lC,bP (l:=R[i])<|tv,bP (l:=p.2)<|tv];rfl
  rw[e];grind;obtain⟨k,hk,rfl⟩:=Ybv.mp hr;rw[lC,aX,g6,hp,h2 _<|gQ _,uL]
theorem DZ{α β:Type}{g1:α->D}{g2:β->D}{f:α->β->D}{we:WE}{tail:cS}{Q:RF->Prop}:∀(A:List α) (C:List β),(∀x∈A,∀y∈C,∀Q:D->Prop,Q (f x y)->we No (.d (g1 x)::.d (g2 y)::tail) Q)->∀(sv sv':SV) (acc:RF),acc.length+A.length<=aO->Q (acc++List.zipWith f A C)->lcW (de 2<|bL (gN 0)<|bL (gN 1) cV) cU we (cQ (A.map g1)<|C.map g2) (sv::sv'::tail) acc Q
 |[],C,_,sv,sv',acc,_,hq=>by
  have e:cQ (([]:List α).map g1) (C.map g2)=[]:=by simp[cQ]
  rw[e,lcW];simpa using hq
 |x::A,[],_,sv,sv',acc,_,hq=>by
  have e:cQ ((x::A).map g1) (([]:List β).map g2)=[]:=by simp[cQ]
  rw[e,lcW];simpa using hq
 |x::A,y::C,h,sv,sv',acc,hl,hq=>by
  have e:cQ ((x::A).map g1) ((y::C).map g2)=.tup [g1 x,g2 y]::cQ (A.map g1) (C.map g2):=by simp[cQ]
  rw[e,lcW];refine⟨rfl,?_⟩;show we No (SV.d (g1 x)::SV.d (g2 y)::tail) _;rw[dD]at hl;refine h x E1 y E1 _ ⟨tv,DZ A C (λa ha c hc=>h a (by simp[ha]) c<|by simp[hc]) _ _ _ (by simp;omega) ?_⟩;rw[jP];simpa using hq
def LI(b:Nat)(s:Lb)(n:Nat)(al:List Pr)(T:E8)(ds:RF)(ρ:cS):Prop:=∃(ps:List Pr) (R:E8) (k:Nat) (s2 s3 s4:SV),ds=ps.map gX/\(∀p∈ps,Pq b n p)/\u7 b (k+ps.length)/\cZ R ps=T/\R.length=n/\(∀r∈R,r.length=n/\∀y∈r,Sz (7+(3*b+1)*k) y)/\(s2=.d (.lst<|R.map aE)\/s2=.ow (R.map aE))/\ρ=[.d<|aJ s,.d<|cY al,s2,s3,s4]
theorem NF:Rd AH HG ZlW:=by
 rintro _ E Q ⟨⟨⟨b,s,n⟩,ps⟩,rfl,⟨h,hl,hp⟩,q⟩;dsimp only at h hl hp q;have h5:=h.n5;unfold HG;refine cB<|set_by (ρ':=[.d<|aJ s,.d<|cY ps,.d<|.lst<|((tbl s n).map dg).map aE,.un,.un]) rfl (λP hP=>?_) ?_
 show wF tY (aC (wN 0) aA) E [.d<|aJ s,.d<|cY ps,.un,.un,.un] P;simp only[wF,aC,aA,wN,dN];refine Dk h ?_;rw[List.map_map]at hP;exact hP;dsimp only;show aH _ _ E _ (pub 2 _);rw[show pub 2 [.d<|aJ s,.d<|cY ps,.d<|.lst<|((tbl s n).map dg).map aE,.un,.un]=[.d<|aJ s,.d<|cY ps,.d<|.lst<|((tbl s n).map dg).map aE,.un,.un] from rfl];refine cB ?_;show bS _ _ _ _ _ _;refine for_seq (xs:=ps.map gX) (nm_at rfl) ?_;refine uc (LI b s n ps<|cZ ((tbl s n).map dg) ps) ?_ ?_ _ _ ⟨ps,(tbl s n).map dg,0,_,.un,.un,rfl,hp,by rw[oE];exact hl,rfl,by simp[gW],λr hr=>?_,.inl rfl,rfl⟩;rintro d ds _ ⟨ps',R,k,s2,s3,s4,e,hpp,hk,hT,hRl,hR,hs2,rfl⟩ nx hnx;cases ps' with
 |nil=>cases e
 |cons p ps'=>
  rw[cN]at e;injection e with e1 e2
  subst e1 e2;have hp0:=hpp p E1;rw[dD]at hk;have hk':7+(3*b+1)*(k+(ps'.length+1))+3*b<8990:=hk;rw[Nat.mul_add,Nat.mul_succ]at hk';have key:cH 2 (aLC (iZ<|aC (wN 2)<|aC (wN 4) aA) 2 [3,4] (de 2<|bL (gN 0)<|bL (gN 1) cV) cU<|wF ou<|aC (wN 0)<|aC (wF qH<|aC (wN 2)<|aC (wN 1) aA)<|aC (wN 3) aA) (λ_=>False) { nx:=nx,rt:=Q,bk:=cc 2 (aI<|wN 2) E { nx:=λ_=>Q .non,rt:=Q },ct:=nx } [.d<|aJ s,.d<|cY ps,.d<|.lst<|R.map aE,.d<|aN p.1,.d<|aE p.2]:=by
   refine own_by (xs:=List.zipWith (λrow share=>aE<|aX row (p.1*share) p.2) R p.2) rfl (λP hP=>?_)<|hnx _ ⟨ps',List.zipWith (λrow share=>aX row (p.1*share) p.2) R p.2,k+1,_,_,_,rfl,λq hq=>hpp q<|by simp[hq],by rw[show k+1+ps'.length=k+(ps'.length+1) by omega];exact hk,hT,by rw[g6,hRl,hp0.l,uL],λr hr=>?_,.inr<|by rw[vw],rfl⟩
   unfold aE;ext;show lcW _ _ _ (cQ (R.map λr=>D.tup<|r.map aN)<|p.2.map aN) _ _ _;refine DZ (g1:=λr=>D.tup<|r.map aN) (g2:=aN) (f:=λrow share=>aE<|aX row (p.1*share) p.2) R p.2 (λr hr y hy Q hq=>?_) .un .un [] (by simp[aO];omega) (by simpa using hP);ext;refine Dg (B2.of hp0.w (hp0.r y hy)<|tv)<|Hb (a:=7+(3*b+1)*k) (b:=b+b) (c:=b) tv (by rw[(hR r hr).1];omega) (hR r hr).2 (hp0.w.mul<|hp0.r y hy) hp0.r hq
   obtain⟨j,hj,rfl⟩:=Ybv.mp hr;rw[lC];rw[g6]at hj;have hrj:=hR _<|gQ (show j<R.length by omega);refine⟨by rw[aX,g6,hp0.l,hrj.1,uL],λy hy=>?_⟩;unfold aX at hy;obtain⟨m,hm,rfl⟩:=Ybv.mp hy;rw[g6]at hm;rw[lC];exact((hrj.2 _<|gQ _).sub<|(hp0.w.mul<|hp0.r _<|gQ _).mul<|hp0.r _<|gQ _).mono (by rw[Nat.mul_succ];omega)
  rcases hs2 with rfl|rfl
  refine⟨rfl,?_⟩;exact key;refine⟨rfl,?_⟩;exact key
 rintro _ ⟨ps',R,k,s2,s3,s4,e,hpp,hk,hT,hRl,hR,hs2,rfl⟩;cases ps' with
 |cons p ps'=>cases e
 |nil=>
  rw[cZ]at hT;rw[<-hT]at q;rcases hs2 with rfl|rfl
  exact q;exact q
 obtain⟨r,hr',rfl⟩:=YbT.mp hr;refine⟨by unfold dg;rw[aZ];exact(jS h r hr').1,λy hy=>?_⟩;obtain⟨i,hi,rfl⟩:=YbT.mp hy;have:=(jS h r hr').2 i hi;rw[Nat.mul_zero,Nat.add_zero];exact Sz.int i wp (by show i.natAbs<128;omega)
theorem NG{x:D}(h:eX n x=true):∃p:Pr,x=gX p/\p.2.length=n/\p.1≠0:=by unfold eX at h;split at h;rename_i w r;rw[d9,d9]at h;obtain⟨p,rfl⟩:=Dj h.1.1;obtain⟨t,rfl,ht⟩:=Ac h.2;exact⟨(p,t),rfl,by exact_mod_cast ht,by simpa[uZ] using h.1.2⟩;cases h
theorem NH(p:Pr):DX (gX p)=p:=by show(tZ<|aN p.1,rQ<|aE p.2)=p;rw[uZ,qI]
theorem HK{n:Nat}:∀{xs:RF},xs.all (eX n)=true->∃ps:List Pr,xs=ps.map gX/\∀p∈ps,p.2.length=n/\p.1≠0
 |[],_=>⟨[],rfl,λ_ h=>nomatch h⟩|x::r,h=>by rw[vn,d9]at h;obtain⟨p,rfl,hp⟩:=NG h.1;obtain⟨ps,rfl,hps⟩:=HK h.2;exact⟨p::ps,rfl,λq hq=>by rcases Yan.mp hq with rfl|hq;exact hp;exact hps q hq⟩
theorem D0(ps:List Pr):sqs (cY ps)=ps:=by show(ps.map gX).map DX=ps;rw[List.map_map];exact(jg λp _=>NH p).trans (zy _)
theorem yi{ps:List Pr}(h:iC b (cY ps)=true)(hn:∀p∈ps,p.2.length=n):∀p∈ps,Pq b n p:=λp hp=>by unfold cY at h;rw[iC,xk]at h;have:=h _<|kK hp;unfold gX at this;rw[iC,eI,eI,eI,d9,d9,ZiH,Zco]at this;exact⟨hn p hp,this.1,this.2.1⟩
theorem NI{ps:List Pr}(h:IsSl s n)(hp:∀p∈ps,p.2.length=n):(cZ ((tbl s n).map dg) ps=List.replicate n (List.replicate n (0:Rat)))↔pZ s n ps:=by
 have hR:((tbl s n).map dg).length=n:=by simp[gW]
 have hr:∀r∈(tbl s n).map dg,r.length=n:=λr hr=>by obtain⟨r,hr',rfl⟩:=YbT.mp hr;unfold dg;rw[aZ];exact(jS h r hr').1
 have L:=HJ ps _ hR hr hp;have en0:∀i j,i<n->j<n->en ((tbl s n).map dg) i j=(tT s n i j:Rat):=λi j hi hj=>by
  unfold en tT ga gr;have hl:=gW s n;have hi':i<(tbl s n).length:=tv
  have hj':=(jS h _<|gQ hi').1;simp only[aW];rw[bP (l:=tbl s n) hi',bP (l:=(tbl s n).map dg)<|tv,B0];simp only[qa];unfold dg;rw[cJ,bP<|tv];rfl
 constructor;intro e i hi j hj;have:=DY ps _ i j hi hj hR hr hp;rw[e,en0 i j hi hj]at this;have z:en (List.replicate n<|List.replicate n (0:Rat)) i j=0:=by unfold en;simp[aW,p8,hi,hj]
 rw[z]at this;grind;intro e;refine uM (by rw[L.1,qU]) λi h1 h2=>?_;rw[List.getElem_replicate];have hl:=L.2 _<|gQ h1;refine uM (by rw[hl,qU]) λj h3 h4=>?_;rw[List.getElem_replicate];have:=DY ps _ i j tv tv hR hr hp;rw[en0 i j tv<|tv,e i tv j<|tv]at this;unfold en at this;simp only[aW]at this;rw[bP h1]at this;simp only[qa]at this;rw[bP h3]at this;simp only[qa]at this;rw[this];grind
theorem NJ:Rd AI HH Zf3:=by
 rintro _ E Q ⟨⟨⟨b,s,n⟩,x⟩,rfl,⟨h,hk,hz,hf⟩,q⟩;dsimp only at h hk hz hf q;have h5:=h.n5;have hsl:=h.len;unfold AF at q;unfold HH;walk_at "n";refine⟨aJ s,rfl,FU<|tv,?_⟩;dsimp only;unfold gg;rw[ks<|FY h];unfold gD;rw[d8];by_cases he:s.reverse=s;rw[ks<|by simpa using he];rw[ks he]at q;replace q:Q (.bl<|uk s n x):=q;dsimp only[exQ];unfold aJ;walk_at "n";refine Dh (by simpa using(by omega:s.length<=5000)) ?_;rw[aZ,show((s.length:Int)+1)/2=n by omega];walk_at "n";refine ua hk wp λt ht=>?_;cases x<;>cases ht<;>try exact q
 rename_i xs;obtain⟨hl,hx⟩:=Lv hk;ext;simp only[show j4 "list" "list" = true from rfl,gE,fg,if_false];ext;by_cases h10:xs.length<=10;rw[jx (by simp;omega)];show aH _ _ _ _ _;walk_at "n";refine uX (f:=λd=>.bl<|eX n d) (λd hd Q hq=>?_) .un [] (by simp[aO];omega) ?_;ext;exact NA (hx d hd) hq;refine⟨xs.map<|eX n,E1,?_⟩;rw[vt,show(id∘eX (n:Int))=eX (n:Int) from rfl];replace q:Q (.bl ((decide (xs.length<=10)&&xs.all (eX n))&&decide (pZ s n<|sqs<|.lst xs))):=q;cases ha:xs.all (eX n) with
 |false=>rw[ha]at q;simpa using q
 |true=>
  obtain⟨ps,rfl,hps⟩:=HK ha;rw[ha,QT h10,show sqs (.lst<|ps.map gX)=ps from D0 ps]at q;have hf:=hf _ rfl h10;rw[aZ]at h10 hf;rw[jx<|E1];refine NB h hf (yi hz λp hp=>(hps p hp).1) ⟨wp,tv,tv,by simp[aO];omega,wp,tv,tv,by simp[aO];omega,?_⟩;have e1:(List.replicate n [D.tup [D.int 0,D.int 1]]).flatten=(List.replicate n (0:Rat)).map aN:=by rw[uJ,show aN 0=D.tup [D.int 0,D.int 1] from xq,zE]
  have e2:(List.replicate n [D.tup (List.replicate n [D.tup [D.int 0,D.int 1]]).flatten]).flatten=(List.replicate n<|List.replicate n (0:Rat)).map aE:=by rw[e1,uJ (f:=aE),zE];rfl
  rw[e2];refine mx (Dc λx hx=>?_) (Dc λx hx=>?_) ?_;obtain⟨r,_,rfl⟩:=YbT.mp hx;exact zZ r _;obtain⟨r,_,rfl⟩:=YbT.mp hx;exact zZ r _;rw[jx<|E1,MP G7,decide_eq_decide.mpr<|NI h λp hp=>(hps p hp).1];simpa using q
 rw[ks (by simp;omega)];replace q:Q (.bl ((decide (xs.length<=10)&&xs.all (eX n))&&decide (pZ s n<|sqs<|.lst xs))):=q;rw[QU h10]at q;exact q;rw[jx<|by simpa using he];rw[jx he]at q;exact q
theorem NK:Rd AJ HI Zf5:=by
 rintro _ E Q ⟨_,rfl,_,q⟩;have fin:∀ (s:Lb) (n:Nat),s.length=n->1<=n->n<=5->(∀ x∈s,-50<=x/\x<=50)->Q (D.tup<|(s.map D.int)++((s.take<|n - 1).map D.int).reverse):=λs n h1 h2 h3 h4=>q _ ⟨s++(s.take<|n - 1).reverse,n,⟨by simp;omega,h2,h3,λx hx=>by
  rcases Yao.mp hx with hx|hx
  .exact h4 x hx
  .exact h4 x<|lX<|Ycu.mp hx⟩,by
   rw[B4,List.reverse_reverse];have:s=s.take (n-1)++s.drop (n-1):=(List.take_append_drop _ _).symm;have hd:∃a,s.drop (n-1)=[a]:=List.length_eq_one_iff.mp (by rw[iq];omega);obtain⟨a,ha⟩:=hd;rw[ha]at this;have t:s.take (n-1)=(s.take (n-1)++[a]).take (n-1):=by rw[<-this]
   generalize s.take (n-1)=u at *;subst this;simp,by unfold aJ;rw[gR,uG]⟩
 unfold HI;walk_at "n";refine Mu λs n h=>?_;have h1:=h.n1;have h5:=h.n5;have hsl:=h.len;have hb:=h.b;unfold aJ;walk_at "n";refine⟨⟨wp,iB (n:=2) wp<|tv⟩,?_⟩;rw[aZ,BV _<|wp,show((s.length:Int)+1)/2=n by omega];have c1:∀{l:Lb},cL (l.map D.int) none (some (n:Int))=(l.take n).map D.int:=λ{l}=>by rw[pT rfl,kJ]
 have c2:∀{l:Lb},cL (l.map D.int) none (some<|(n:Int)-1)=(l.take<|n-1).map D.int:=λ{l}=>by rw[pT (b:=n-1)<|tv,kJ]
 refine xj (λρ=>∃l:Lb,ρ=[.d .pen,.d<|.tup<|l.map .int,.d<|.int n]/\n<=l.length/\l.length<=10/\∀x∈l,-50<=x/\x<=50) (λnx hnx=>?_) ?_;ext;refine mB (n:=4) wp wp λk hk=>?_;ext;split;rw[c2];refine⟨wp,eJ (by simp;omega),?_⟩;exact hnx _ ⟨s.take (n - 1)++[50],E1,by simp;omega,by simp;omega,λx hx=>by
  rcases Yao.mp hx with hx|hx
  .exact hb x (lX hx)
  .rw[YcO.mp hx];decide⟩
 exact hnx _ ⟨s,rfl,tv,tv,hb⟩;rintro _ ⟨l,rfl,hl1,hl2,hlb⟩;ext;rw[c1,c2];refine Ml (eJ (by simp;omega)) ?_;have:=fin (l.take n) n (by simp;omega) h1 h5 λx hx=>hlb x<|lX hx;rw[List.take_take,sj<|tv]at this;exact this
end B.C.Q0
namespace B.C.Q0
theorem NM{E:RE}(R:RG)(hw:∀P:D->Prop,(∀d,R d->P d)->w E ρ P)(h:∀d,R d->N.nx (ρ.set i<|.d d)):aQ i w E N ρ:=hw _ h
end B.C.Q0
def aG(f:Rx):Nat->Rat
 |0=>0|n+1=>aG f n+f n
theorem bV{f g:Rx}:∀{n:Nat},(∀i,i<n->f i=g i)->aG f n=aG g n
 |0,_=>rfl|n+1,h=>by rw[aG,aG,bV<|λi hi=>h i<|tv,h n<|tv]
theorem jU{f:Rx}:∀{n:Nat},(∀i,i<n->f i=0)->aG f n=0
 |0,_=>rfl|n+1,h=>by rw[aG,jU<|λi hi=>h i<|tv,h n<|tv,km]
theorem gL{f:Rx}{k:Nat}:∀{n:Nat},k<n->(∀i,i<n->i≠k->f i=0)->aG f n=f k
 |0,h,_=>by omega|n+1,h,h0=>by rw[aG];by_cases e:k=n;subst e;rw[jU<|λi hi=>h0 i tv<|tv,vv];rw[gL (k:=k) tv<|λi hi hk=>h0 i tv hk,h0 n tv<|QX e,km]
theorem p6(f g:Rx):∀n:Nat,aG (λi=>f i-g i) n=aG f n-aG g n
 |0=>by simp only[aG];grind|n+1=>by rw[aG,aG,aG,p6 f g n];grind
theorem u8(f:Rx):∀n:Nat,aG f (n+1)=f 0+aG (λi=>f<|i+1) n
 |0=>by simp only[aG];grind|n+1=>by rw[aG,u8 f n,aG];grind
theorem iH:∀(r x:Mn) (n:Nat),r.length=n->x.length=n->bD r x=aG (λj=>r.getD j 0*x.getD j 0) n
 |[],[],_,h,_=>by subst h;rfl|[],_::_,n,h,h'=>by simp at h h';omega|_::_,[],n,h,h'=>by simp at h h';omega|a::r,y::x,n,h,h'=>by subst h;rw[bD,iH r x r.length rfl<|by simpa using h',dD,u8];rfl
theorem NN{x:Mn}(hr:r.length=n)(hx:x.length=n):bD (dS r q) x=bD r x/q:=by
 clear hr hx;unfold dS;induction r generalizing x with
 |nil=>show(0:Rat)=0/q;rw[dH,fH]
 |cons a r ih=>
  cases x with
  |nil=>show(0:Rat)=0/q;rw[dH,fH]
  |cons y x=>
   rw[cN,bD,bD,ih,dH,dH,dH];grind
theorem u9{c x:Mn}(h:r.length=c.length):bD (aX r q c) x=bD r x-q*bD c x:=by
 unfold aX;induction r generalizing c x with
 |nil=>
  cases c with
  |nil=>show(0:Rat)=0-q*0;grind|cons _ _=>simp at h
 |cons a r ih=>
  cases c with
  |nil=>simp at h
  |cons b c=>
   cases x with
   |nil=>show(0:Rat)=0-q*0;grind
   |cons y x=>
    rw[BU,bD,bD,bD,ih<|by simpa using h];grind
theorem NO(hr:r.length=n)(hk:k<n):bD r (bG n k)=r.getD k 0:=by rw[iH r (bG n k) n hr<|jT n k,gL hk];rw[unit_at' hk,ks rfl,mO];intro i hi e;rw[unit_at' hi,jx e,dI]
where
 unit_at' {n k i:Nat} (hi:i<n):(bG n k).getD i 0=if i=k then 1 else 0:=by unfold bG;rw[aW,cJ,iN hi];rfl
theorem j9(hi:i<n):(bG n k).getD i 0=if i=k then 1 else 0:=by unfold bG;rw[aW,cJ,iN hi];rfl
theorem AK{x:Mn}{v:Rat}(ha:a<x.length):(x.set a v).getD i 0=if i=a then v else x.getD i 0:=by rw[aW,List.getElem?_set,aW];by_cases e:a=i;subst e;rw[ks rfl,ks rfl,ks ha];rfl;rw[jx e,jx<|QX e]
theorem NP{x:Mn}{v:Rat}(hr:r.length=n)(hx:x.length=n)(ha:a<n)(h0:x.getD a 0=0):bD r (x.set a v)=bD r x+r.getD a 0*v:=by
 rw[iH r _ n hr (by rw[fD];exact hx),iH r x n hr hx];have:aG (λj=>r.getD j 0*(x.set a v).getD j 0-r.getD j 0*x.getD j 0) n=r.getD a 0*v:=by rw[gL ha];rw[AK<|tv,ks rfl,h0,dI];grind;intro i hi e;rw[AK<|tv,jx e];grind
 rw[p6]at this;grind
structure Ec(n:Nat)(R:E8)(p:Nat)(ld:E8)(pl:Ry)(rs:E8):Prop where
 wl:∀r∈ld,r.length=n
 ws:∀r∈rs,r.length=n
 ll:ld.length=pl.length
 nul:∀x:Mn,x.length=n->((∀r∈R,bD r x=0)↔(∀r∈ld,bD r x=0)/\∀r∈rs,bD r x=0)
 lt:∀a∈pl,a<p
 asc:pl.Pairwise (· < ·)
 one:∀i j,i<ld.length->j<pl.length->(ld.getD i []).getD (pl.getD j 0) 0=if i=j then 1 else 0
 low:∀i,i<ld.length->∀q,q<pl.getD i 0->(ld.getD i []).getD q 0=0
 zer:∀r∈rs,∀q,q<p->r.getD q 0=0
theorem Ec.start{R:E8}(h:∀r∈R,r.length=n):Ec n R 0 [] [] R:=⟨E1,h,rfl,λx _=>E1,E1,.nil,λi j hi=>by simp at hi,λi hi=>by simp at hi,λr _ q hq=>tv⟩
theorem Ec.skip{p:Nat}{R ld rs:E8}{pl:Ry}(h:Ec n R p ld pl rs)(h0:∀r∈rs,r.getD p 0=0):Ec n R (p+1) ld pl rs:=
 ⟨h.wl,h.ws,h.ll,h.nul,λa ha=>vq<|h.lt a ha,h.asc,h.one,h.low,λr hr q hq=>by
  by_cases e:q=p
  .rw[e];exact h0 r hr
  .exact h.zer r hr q<|tv⟩
theorem Ec.pivot{p:Nat}{R ld rs rs1 rs2:E8}{pl:Ry}{lead:Mn}(h:Ec n R p ld pl rs)(hp:p<n)(hr0:r.getD p 0≠0)(hrs:∀t,t∈rs↔t=r\/t∈rs1)(hld:lead=dS r (r.getD p 0))(h2:∀t,t∈rs2↔∃u∈rs1,t=aX u (u.getD p 0) lead):Ec n R (p+1) (bM ld lead p++[lead]) (pl++[p]) rs2:=by
 have rr:r∈rs:=(hrs r).mpr<|.inl rfl;have rl:=h.ws r rr;have ll:lead.length=n:=by rw[hld];unfold dS;rw[aZ];exact rl
 have lat:∀j,lead.getD j 0=r.getD j 0/r.getD p 0:=λj=>by
  rw[hld];unfold dS;rw[aW,cJ,aW (i:=j)];cases r[j]? with
  |none=>show(0:Rat)=0/_;rw[dH,fH]|some x=>rfl
 have lp:lead.getD p 0=1:=by rw[lat,dH,jQ _ hr0]
 have lz:∀q,q<p->lead.getD q 0=0:=λq hq=>by rw[lat,h.zer r rr q hq,dH,fH]
 have lesL:∀(u:Mn) (z:Rat),u.length=n->(aX u z lead).length=n:=λu z hu=>by unfold aX;rw[g6];omega
 have lesA:∀(u:Mn) (z:Rat) (j:Nat),u.length=n->(aX u z lead).getD j 0=u.getD j 0-z*lead.getD j 0:=λu z j hu=>by unfold aX;simp only[aW];by_cases hj:j<n;rw[bP (by rw[g6];omega),bP<|tv,bP<|tv,lC];rfl;rw[dX (by rw[g6];omega),dX<|tv,dX<|tv];show(0:Rat)=0-z*0;grind
 have wlen:(bM ld lead p).length=ld.length:=by unfold bM;rw[aZ]
 have wat:∀i,i<ld.length->(bM ld lead p++[lead]).getD i []=aX (ld.getD i []) ((ld.getD i []).getD p 0) lead:=λi hi=>by rw[aW,mJ<|tv];unfold bM;rw[cJ,aW,bP hi];rfl
 have wlast:(bM ld lead p++[lead]).getD ld.length []=lead:=by rw[aW,ly<|tv,wlen,zF];rfl
 have plat:∀i,i<pl.length->(pl++[p]).getD i 0=pl.getD i 0:=λi hi=>by rw[aW,mJ hi,aW]
 have plast:(pl++[p]).getD pl.length 0=p:=by rw[aW,ly<|bU _,zF];rfl
 have plt:∀i,i<pl.length->pl.getD i 0<p:=λi hi=>by rw[aW,bP hi];exact h.lt _<|gQ _
 have ldm:∀i,i<ld.length->ld.getD i []∈ld:=λi hi=>fv hi;have hll:=h.ll;refine⟨λt ht=>?_,λt ht=>?_,?_,λx hx=>?_,λa ha=>?_,?_,λi j hi hj=>?_,λi hi q hq=>?_,λt ht q hq=>?_⟩;rcases Yao.mp ht with ht|ht
 unfold bM at ht;obtain⟨u,hu,rfl⟩:=YbT.mp ht;exact lesL u _<|h.wl u hu
 rw[YcO.mp ht];exact ll;obtain⟨u,hu,rfl⟩:=(h2 t).mp ht;exact lesL u _<|h.ws u ((hrs u).mpr<|.inr hu)
 rw[dA,dA,wlen,hll];rfl;rw[h.nul x hx];have dl:bD lead x=bD r x/r.getD p 0:=by rw[hld];exact NN rl hx
 constructor;rintro⟨g1,g2⟩;have z:bD lead x=0:=by rw[dl,g2 r rr,dH,fH]
 refine⟨λt ht=>?_,λt ht=>?_⟩;rcases Yao.mp ht with ht|ht
 unfold bM at ht;obtain⟨u,hu,rfl⟩:=YbT.mp ht;rw[u9<|by rw[h.wl u hu,ll],g1 u hu,z];grind;rw[YcO.mp ht];exact z;obtain⟨u,hu,rfl⟩:=(h2 t).mp ht;have hu':=(hrs u).mpr<|.inr hu;rw[u9<|by rw[h.ws u hu',ll],g2 u hu',z];grind
 rintro⟨g1,g2⟩;have z:bD lead x=0:=g1 lead E1;have zr:bD r x=0:=by
  rw[dl,dH]at z;have:bD r x*(r.getD p 0)⁻¹*r.getD p 0=0:=by rw[z,fH]
  rw[Rat.mul_assoc,ss _ hr0,mO]at this;exact this
 refine⟨λt ht=>?_,λt ht=>?_⟩;have:=g1 (aX t (t.getD p 0) lead) (Yao.mpr<|.inl (by unfold bM;exact kK (f:=λr=>aX r (r.getD p 0) lead) ht));rw[u9<|by rw[h.wl t ht,ll],z]at this;grind;rcases(hrs t).mp ht with rfl|hu
 exact zr;have:=g2 (aX t (t.getD p 0) lead) ((h2 _).mpr ⟨t,hu,rfl⟩);rw[u9<|by rw[h.ws t ht,ll],z]at this;grind;rcases Yao.mp ha with ha|ha
 exact vq<|h.lt a ha
 rw[YcO.mp ha];exact BI p;refine Yc1.mpr ⟨h.asc,E1,λa ha b hb=>?_⟩;rw[YcO.mp hb];exact h.lt a ha;rw[dA,wlen,kf]at hi;rw[dA,kf]at hj;by_cases hi':i<ld.length;have hw:=h.wl _ (ldm i hi');rw[wat i hi',lesA _ _ _ hw];by_cases hj':j<pl.length;rw[plat j hj',h.one i j hi' hj',lz _<|plt j hj'];grind;obtain rfl:j=pl.length:=tv
 rw[plast,lp,jx<|tv];grind;obtain rfl:i=ld.length:=tv
 rw[wlast];by_cases hj':j<pl.length;rw[plat j hj',lz _<|plt j hj',jx<|tv];obtain rfl:j=pl.length:=tv
 rw[plast,lp,ks hll];rw[dA,wlen,kf]at hi;by_cases hi':i<ld.length;have hw:=h.wl _ (ldm i hi');rw[plat i<|tv]at hq;rw[wat i hi',lesA _ _ _ hw,h.low i hi' q hq,lz q (by have:=plt i tv;omega)];grind;obtain rfl:i=ld.length:=tv
 rw[hll,plast]at hq;rw[wlast];exact lz q hq;obtain⟨u,hu,rfl⟩:=(h2 t).mp ht;have hu':=(hrs u).mpr<|.inr hu;rw[lesA _ _ _<|h.ws u hu']
 by_cases e:q=p;rw[e,lp];grind;rw[h.zer u hu' q<|tv,lz q<|tv];grind
def gM(r:Mn)(q:Nat):E8->Ry->Rat
 |l::L,a::P=>r.getD a 0*l.getD q 0+gM r q L P|_,_=>0
theorem HL(q:Nat):∀(L:E8) (P:Ry) (row:Mn),(dr q L P row).length=row.length
 |[],_,_=>by simp[dr]|_::_,[],_=>by simp[dr]|l::L,a::P,row=>by rw[dr,HL q L P,fD]
theorem yj{q t:Nat}:∀(L:E8) (P:Ry) (row:Mn),(∀a∈P,a<row.length)->t∉P->(dr q L P row).getD t 0=row.getD t 0
 |[],_,_,_,_=>by simp[dr]|_::_,[],_,_,_=>by simp[dr]|l::L,a::P,row,h,ht=>by rw[dr,yj L P _ (λb hb=>by rw[fD];exact h b<|by simp[hb])<|λhb=>ht<|by simp[hb],AK<|h a<|E1,jx<|λe=>ht<|by simp[e]]
theorem HM{r:Mn}{q n:Nat}(hr:r.length=n):∀(L:E8) (P:Ry) (row:Mn),row.length=n->(∀a∈P,a<n)->P.Pairwise (· < ·)->(∀a∈P,row.getD a 0=0)->bD r (dr q L P row)=bD r row-gM r q L P
 |[],_,row,_,_,_,_=>by simp only[dr,gM];grind|_::_,[],row,_,_,_,_=>by simp only[dr,gM];grind
 |l::L,a::P,row,hw,hn,ha,h0=>by
  obtain⟨h1,h2⟩:=Yc2.mp ha;rw [dr,HM hr L P _ (by rw [fD];exact hw) (λb hb=>hn b<|by simp [hb]) h2 (λb hb=>by
   rw[AK (by rw[hw];exact hn a<|E1),jx (by have:=h1 b hb;omega)];exact h0 b<|by simp[hb]),NP hr hw (hn a<|E1)<|h0 a<|E1,gM]
  grind
theorem HN{r:Mn}{q:Nat}:∀(L:E8) (P:Ry),(∀j,j<P.length->j<L.length->r.getD (P.getD j 0) 0*(L.getD j []).getD q 0=0)->gM r q L P=0
 |[],_,_=>by simp[gM]|_::_,[],_=>by simp[gM]|l::L,a::P,h=>by rw[gM,HN L P<|λj h1 h2=>by simpa using h (j+1) (by simpa using h1) (by simpa using h2)];have:=h 0 E1 E1;rw[vz,vz]at this;rw[this,km]
theorem HP{r:Mn}{q:Nat}:∀(L:E8) (P:Ry) (i:Nat),i<L.length->L.length=P.length->(∀j,j<P.length->r.getD (P.getD j 0) 0=if i=j then 1 else 0)->gM r q L P=(L.getD i []).getD q 0
 |[],_,i,hi,_,_=>by simp at hi|_::_,[],i,_,hl,_=>by simp at hl
 |l::L,a::P,0,hi,hl,h=>by
  have h0:=h 0 E1;rw[vz,ks rfl]at h0;rw [gM,h0,HN L P (λj h1 h2=>by
   have:=h (j+1) (by simpa using h1);rw[uN,jx<|tv]at this;rw[this,fH]),vz]
  grind
 |l::L,a::P,i+1,hi,hl,h=>by
  have h0:=h 0 E1;rw[vz,jx<|tv]at h0;rw [gM,h0,HP L P i (by simpa using hi) (by simpa using hl) (λj hj=>by
   have:=h (j+1) (by simpa using hj);rw[uN]at this;rw[this]
   by_cases e:i=j
   .rw[ks e,ks<|tv]
   .rw[jx e,jx<|tv]),uN]
  grind
theorem Ec.free{q:Nat}{R ld rs:E8}{pl:Ry}(h:Ec n R n ld pl rs)(hq:q<n)(hn:q∉pl):(dr q ld pl<|bG n q).length=n/\∀r∈R,bD r (dr q ld pl<|bG n q)=0:=by
 have l:(dr q ld pl<|bG n q).length=n:=by rw[HL,jT]
 have z0:∀a∈pl,(bG n q).getD a 0=0:=λa ha=>by rw[j9<|h.lt a ha,jx (show¬a=q from λe=>hn (by rw[<-e];exact ha))]
 refine⟨l,(h.nul _ l).mpr ⟨λr hr=>?_,λr hr=>?_⟩⟩;obtain⟨i,hi,e⟩:=Ybv.mp hr;have e':ld.getD i []=r:=by rw[aW,bP hi];exact e
 rw[HM (h.wl r hr) ld pl _ (jT n q) h.lt h.asc z0,NO (h.wl r hr) hq,HP ld pl i hi h.ll (λj hj=>by rw[<-e'];exact h.one i j hi hj),e'];grind;rw[iH r _ n (h.ws r hr) l];exact jU λj hj=>by rw[h.zer r hr j hj,fH]
theorem ul:∀{a b:Ry},a.Pairwise (· < ·)->b.Pairwise (· < ·)->(∀x,x∈a↔x∈b)->a=b
 |[],[],_,_,_=>rfl|[],y::b,_,_,h=>by have:=(h y).mpr E1;simp at this|x::a,[],_,_,h=>by have:=(h x).mp E1;simp at this
 |x::a,y::b,ha,hb,h=>by
  obtain⟨a1,a2⟩:=Yc2.mp ha;obtain⟨b1,b2⟩:=Yc2.mp hb;have hx:=(h x).mp E1;have hy:=(h y).mpr E1;have e:x=y:=by
   rcases Yan.mp hx with e|hx
   exact e;rcases Yan.mp hy with e|hy
   exact e.symm;have:=a1 y hy;have:=b1 x hx;omega
  subst e;rw[ul a2 b2 λz=>?_];constructor;intro hz;rcases Yan.mp ((h z).mp<|by simp[hz]) with e|e
  have:=a1 z hz;omega;exact e;intro hz;rcases Yan.mp ((h z).mpr<|by simp[hz]) with e|e
  have:=b1 z hz;omega;exact e
theorem HQ:∀{R:E8} {p:Nat},dj R p=none->∀r∈R,r.getD p 0=0
 |[],_,_,r,hr=>by cases hr
 |t::R,p,h,r,hr=>by
  rw[dj]at h;by_cases e:t.getD p 0=0;rw[ks e]at h;rcases Yan.mp hr with rfl|hr
  exact e;exact HQ (by cases e2:dj R p with
   |none=>rfl
   |some a=>rw[e2]at h;cases h) r hr
  rw[jx e]at h;cases h
theorem HR{R:E8}(h:a<R.length)(t:Mn):t∈R↔t=R.getD a []\/t∈R.take a++R.drop (a+1):=by
 have e:R=R.take a++R.getD a []::R.drop (a+1):=by
  conv=>lhs;rw[<-List.take_append_drop a R]
  rw[qW h,aW,bP h];rfl
 conv=>lhs;rw[e]
 simp only[Yao,Yan];constructor;rintro(h|h|h);exact .inr<|.inl h
 exact .inl h;exact .inr<|.inr h
 rintro(h|h|h);exact .inr<|.inl h
 exact .inl h;exact .inr<|.inr h
theorem rV{n:Nat}{R:E8}(hR:∀r∈R,r.length=n):∀p,p<=n->Ec n R p (bX R p).ld (bX R p).pl (bX R p).rs
 |0,_=>Ec.start hR
 |p+1,hp=>by
  have ih:=rV hR p tv;rw[bX];generalize bX R p=x at ih;unfold pW;cases e:dj x.rs p with
  |none=>exact ih.skip<|HQ e
  |some a=>obtain⟨a1,a2⟩:=pX e;exact ih.pivot (r:=x.rs.getD a []) (rs1:=x.rs.take a++x.rs.drop (a+1)) tv a2 (HR a1) rfl λt=>by unfold bM;rw[YbT];constructor;rintro⟨u,hu,rfl⟩;exact⟨u,hu,rfl⟩;rintro⟨u,hu,rfl⟩;exact⟨u,hu,rfl⟩
namespace Dt
open B.C
theorem ym(f g:Rx):∀n:Nat,aG (λi=>f i+g i) n=aG f n+aG g n
 |0=>by simp only[aG];grind|n+1=>by rw[aG,aG,aG,ym f g n];grind
theorem sumN_mul(f:Rx)(c:Rat):∀n:Nat,aG (λi=>c*f i) n=c*aG f n
 |0=>by simp only[aG];grind|n+1=>by rw[aG,aG,sumN_mul f c n];grind
theorem sumN_swap(f:Nat->Rx)(m:Nat):∀n:Nat,aG (λi=>aG (λj=>f i j) m) n=aG (λj=>aG (λi=>f i j) n) m
 |0=>by rw[aG];exact(jU λ_ _=>rfl).symm|n+1=>by rw[aG,sumN_swap f m n,<-ym];rfl
theorem qO(f:Nat->Int):∀n:Nat,aG (λi=>((f i:Int):Rat)) n=((sumI f n:Int):Rat)
 |0=>rfl|n+1=>by rw[aG,sumI,qO f n,uO]
theorem NQ(A:Nat->R)(hn:n<=5){w:Rx}(h:∀i,i<n->aG (λj=>(A i j:Rat)*w j) n=0)(hj:j<n):(dt A n:Rat)*w j=0:=by
 have e:aG (λk=>(fN A n k j:Rat)*aG (λl=>(A k l:Rat)*w l) n) n=(dt A n:Rat)*w j:=by
  rw[bV (g:=λk=>aG (λl=>(fN A n k j:Rat)*((A k l:Rat)*w l)) n)<|λk _=>(sumN_mul _ _ n).symm,sumN_swap];rw [bV (g:=λl=>w l*((sumI (λk=>A k l*fN A n k j) n:Int):Rat)) (λl _=>by
   rw[<-qO,<-sumN_mul];exact bV λk _=>by rw[eY];grind)]
  rw[gL (k:=j) hj (λi hi ne=>by rw[ye A hn hi hj,jx ne];exact dI _),ye A hn hj hj,ks rfl,lZ]
 rw[<-e];exact jU λk hk=>by rw[h k hk,dI]
theorem rW{A B:Nat->R}(h:∀i,i<n->∀j,j<n->A i j=B i j):dt A n=dt B n:=by
 induction n generalizing A B with
 |zero=>rfl
 |succ k ih=>
  rcases gx 4 k with hk|hk
  obtain⟨k,rfl⟩:=Nat.exists_eq_add_of_lt hk;rw[show 4+k+1=k+5 by omega];rfl;have a:=uj A (n:=k+1) (i:=k) (k:=k) tv tv tv;rw[ks rfl,ui (g:=λj=>B k j*fN B (k+1) k j) λj hj=>?_,uj B tv tv<|tv,ks rfl]at a;exact a.symm;unfold fN;rw[h k tv j hj,vp,ih (A:=cut A k j) (B:=cut B k j) λi hi l hl=>?_];unfold cut sk;exact h _ (by split<;>omega) _ (by split<;>omega)
theorem HS(h:IsSl s n)(hi:i<n):((fb s n).getD i []).getD j 0=(tA (tbl s n) i j:Rat):=by
 have l:=gW s n;unfold fb tA gr ga;have e:(tbl s n)[i]? = some ((tbl s n).getD i []):=by rw[aW,bP<|tv];rfl
 rw[aW (l:=List.map dg<|tbl s n),cJ,e];show(dg<|(tbl s n).getD i []).getD j 0=_;unfold dg;rw[aW,cJ,aW (l:=(tbl s n).getD i [])];cases((tbl s n).getD i [])[j]? with
 |none=>rfl|some v=>rfl
def pA(n:Nat)(f:Rx):Mn:=(List.range n).map f
theorem um(n:Nat)(f:Rx):(pA n f).length=n:=by unfold pA;simp
theorem AL{f:Rx}(h:j<n):(pA n f).getD j 0=f j:=by unfold pA;rw[aW,cJ,iN h];rfl
theorem NR(hr:r∈fb s n):∃i,i<n/\(fb s n).getD i []=r:=by obtain⟨i,hi,e⟩:=Ybv.mp hr;rw[ox]at hi;exact⟨i,hi,by rw[aW,bP (by rw[ox];exact hi)];exact e⟩
theorem AM{x:Mn}(h:IsSl s n)(hi:i<n)(hx:x.length=n):bD ((fb s n).getD i []) x=aG (λj=>(tA (tbl s n) i j:Rat)*x.getD j 0) n:=by have hm:(fb s n).getD i []∈fb s n:=fv (by rw[ox];exact hi);rw[iH _ x n (pY h _ hm).len hx];exact bV λj _=>by rw[HS h hi]
theorem va(n:Nat):(List.range n).Pairwise (· < ·):=List.pairwise_lt_range
theorem D1(h:IsSl s n):dU s n=[]↔(dk s n).pl=List.range n:=by
 have ec:=rV (n:=n) (R:=fb s n) (λr hr=>(pY h r hr).len) n<|bU _;have ec:Ec n (fb s n) n (dk s n).ld (dk s n).pl (dk s n).rs:=ec;unfold dU;rw[List.map_eq_nil_iff,List.filter_eq_nil_iff];constructor
 intro e;refine ul ec.asc (va n) λx=>⟨λhx=>Yah.mpr<|ec.lt x hx,λhx=>?_⟩;have:=e x hx;simpa using this;intro e a ha;rw[e];simpa using ha
theorem rX(h:IsSl s n):dU s n=[]↔dt (tA<|tbl s n) n≠0:=by
 have hsm:Sm 6 n (tbl s n):=⟨gW s n,λr hr=>(jS h r hr).1,λr hr x hx=>by
  have:=(jS h r hr).2 x hx;show x.natAbs<64;omega⟩
 have ec:Ec n (fb s n) n (dk s n).ld (dk s n).pl (dk s n).rs:=rV (n:=n) (R:=fb s n) (λr hr=>(pY h r hr).len) n<|bU _;constructor
 intro e z;rw[<-yh hsm h.n5]at z;obtain⟨w,⟨a,ha,wa⟩,hw⟩:=Nw hsm h.n5 z;have pl:=(D1 h).mp e;have nul:=(ec.nul (pA n λj=>(w j:Rat))<|um _ _).mp (λr hr=>by
  obtain⟨i,hi,rfl⟩:=NR hr;rw[AM h hi<|um _ _];have:=hw i hi;have c:=qO (λj=>tA (tbl s n) i j*w j) n;rw[this]at c;refine Eq.trans (bV λj hj=>?_) c;rw[AL hj,eY])
 have al:a<(dk s n).ld.length:=by rw[ec.ll,pl,fh];exact ha
 have one:∀j,j<n->((dk s n).ld.getD a []).getD j 0=if a=j then 1 else 0:=λj hj=>by have:=ec.one a j al (by rw[pl,fh];exact hj);rw[pl]at this;rw[show(List.range n).getD j 0=j from by rw[aW,iN hj];rfl]at this;exact this
 have d:=nul.1 _<|fv al;rw[iH _ _ n (ec.wl _<|fv al)<|um _ _,gL (k:=a) ha<|λj hj ne=>by rw[one j hj,jx<|QX ne,fH],one a ha,ks rfl,AL ha,mP]at d;exact wa (by exact_mod_cast d)
 intro z;rw[D1 h];refine ul ec.asc (va n) λx=>⟨λhx=>Yah.mpr<|ec.lt x hx,λhx=>?_⟩;rw[Yah]at hx;refine Classical.byContradiction λhn=>?_;obtain⟨fl,f0⟩:=ec.free hx hn;have:=NQ (tA<|tbl s n) h.n5 (w:=λj=>(dr x (dk s n).ld (dk s n).pl<|bG n x).getD j 0) (λi hi=>by
  rw[<-AM h hi fl];exact f0 _<|fv (by rw[ox];exact hi)) hx
 rw[yj _ _ _ (by rw[jT];exact ec.lt) hn,j9 hx,ks rfl,mO]at this;exact z (by exact_mod_cast this)
theorem HU{n:Nat}:∀(R:E8) (k i:Nat),i<R.length->(i9 n k R).getD i []=R.getD i []++bG n (k+i)
 |[],_,_,h=>by simp at h|r::R,k,0,_=>rfl|r::R,k,i+1,h=>by rw[i9,uN,HU R (k+1) i<|by simpa using h,uN,show k+1+i=k+(i+1) by omega]
theorem yo{a b:Mn}:(a++b).getD j 0=if j<a.length then a.getD j 0 else b.getD (j-a.length) 0:=by split;rename_i h;rw[aW,mJ h,aW];rename_i h;rw[aW,ly<|tv,aW]
theorem vb(f:Rx)(n:Nat):∀m:Nat,aG f (n+m)=aG f n+aG (λj=>f<|n+j) m
 |0=>by rw[aG,Nat.add_zero,km]|m+1=>by rw[<-Nat.add_assoc,aG,vb f n m,aG];grind
theorem qP(h:IsSl s n)(e:dU s n=[]):(rT s n).length=n/\∀i k,i<n->k<n->((rT s n).getD i []).getD k 0=(fN (tA<|tbl s n) n k i:Rat)/(dt (tA<|tbl s n) n:Rat):=by
 have dz:=(rX h).mp e;have pl:=(D1 h).mp e;have alf:=Ni h;have ec:=rV (n:=n+n) (R:=fX s n) (λr hr=>(alf r hr).len) n tv;obtain⟨t1,t2,t3⟩:=Hn (n:=n) (fX s n) n<|bU _;rw[Nl h]at t1 t2 t3;have pl':(bX (fX s n) n).pl=List.range n:=by rw[<-t2];exact pl
 have ok:=Aw alf (p:=n) tv;have okn:=ok.ln;rw[DP]at okn;have ldl:(bX (fX s n) n).ld.length=n:=by rw[ec.ll,pl',fh]
 have rs0:(bX (fX s n) n).rs=[]:=Yc9.mp tv;unfold rT;generalize bX (fX s n) n=c at ec pl' ldl rs0;refine⟨by rw[aZ];exact ldl,λi k hi hk=>?_⟩;let x:Nat->Rat:=λj=>(fN (tA<|tbl s n) n k j:Rat)/(dt (tA<|tbl s n) n:Rat);have hx:∀r,r<n->aG (λj=>(tA (tbl s n) r j:Rat)*x j) n=if r=k then 1 else 0:=λr hr=>by
  have a:=uj (tA<|tbl s n) h.n5 hr hk;have dz':(dt (tA<|tbl s n) n:Rat)≠0:=by exact_mod_cast dz
  rw[bV (g:=λj=>(dt (tA<|tbl s n) n:Rat)⁻¹*((tA (tbl s n) r j*fN (tA<|tbl s n) n k j:Int):Rat)) (λj _=>by show _*(_/_)=_;rw[eY,dH];grind),sumN_mul,qO,a];split;exact ss _ dz';exact dI _
 have zl:(pA n x++pA n λj=>if j=k then -1 else 0).length=n+n:=by rw[dA,um,um]
 have za:∀j,j<n->(pA n x++pA n λj=>if j=k then -1 else 0).getD j 0=x j:=λj hj=>by rw[yo,um,ks hj,AL hj]
 have zb:∀j,j<n->(pA n x++pA n λj=>if j=k then -1 else 0).getD (n+j) 0=if j=k then -1 else 0:=λj hj=>by rw[yo,um,jx<|tv,B5,AL hj]
 have nul:=(ec.nul _ zl).mp (λr hr=>by
  obtain⟨a,ha,ea⟩:=Ybv.mp hr;rw[DP]at ha;have er:(fX s n).getD a []=r:=by rw[aW,bP (by rw[DP];exact ha)];exact ea
  unfold fX at er;rw[HU _ _ _ (by rw[ox];exact ha),oE]at er;have rl:=(pY h _<|fv (R:=fb s n) (a:=a) (by rw[ox];exact ha)).len;rw[iH r _ (n+n) (alf r hr).len zl,vb,<-er];rw[bV (n:=n) (g:=λj=>(tA (tbl s n) a j:Rat)*x j)<|λj hj=>by rw[za j hj,yo,rl,ks hj,HS h ha],hx a ha];rw [bV (n:=n) (g:=λj=>if j=a then (if j=k then -1 else 0) else 0) (λj hj=>by
   rw[zb j hj,yo,rl,jx<|tv,B5,j9 hj];split
   .rw[mP]
   .rw[fH])]
  rw[gL (k:=a) ha<|λj hj ne=>by rw[jx ne],ks rfl];split<;>grind)
 have il:i<c.ld.length:=tv
 have one:∀j,j<n->(c.ld.getD i []).getD j 0=if i=j then 1 else 0:=λj hj=>by have:=ec.one i j il (by rw[pl',fh];exact hj);rw[pl']at this;rw[show(List.range n).getD j 0=j from by rw[aW,iN hj];rfl]at this;exact this
 have d:=nul.1 _<|fv il;rw[iH _ _ (n+n) (ec.wl _<|fv il) zl,vb]at d;rw[gL (n:=n) (k:=i) hi<|λj hj ne=>by rw[one j hj,jx<|QX ne,fH],one i hi,ks rfl,za i hi]at d;rw[gL (n:=n) (k:=k) hk<|λj hj ne=>by rw[zb j hj,jx ne,dI],zb k hk,ks rfl]at d;have eg:((c.ld.map λr=>r.drop n).getD i []).getD k 0=(c.ld.getD i []).getD (n+k) 0:=by rw[aW (l:=c.ld.map _),cJ,aW (l:=c.ld),bP il];show(List.drop n<|c.ld[i]).getD k 0=(c.ld[i]).getD (n+k) 0;rw[aW,uH,aW]
 rw[eg];show _=x i;grind
end Dt
namespace B.C.Q0
theorem HV(hs:IsSl s n)(ha:a<n):Sm 10 (a+1) (qM (tbl s n)<|a+1):=by
 have hl:=gW s n;exact ⟨by unfold qM;simp [hl];omega,λr hr=>by
  unfold qM at hr;obtain⟨r0,hr0,rfl⟩:=YbT.mp hr;have:=(jS hs r0<|lX hr0).1;rw[fZ];omega,λr hr x hx=>by
  unfold qM at hr;obtain⟨r0,hr0,rfl⟩:=YbT.mp hr;have:=(jS hs r0<|lX hr0).2 x (lX hx);show x.natAbs<1024;omega⟩
theorem vc{we:WE}{tail:cS}{Q:RF->Prop}{f:Pr->D}:∀(L:List Pr),(∀p∈L,∀Q:D->Prop,Q (f p)->we No (.d (aN p.1)::.d (aE p.2)::tail) Q)->∀(sv sv':SV) (acc:RF),acc.length+L.length<=aO->Q (acc++L.map f)->lcW (de 2<|bL (gN 0)<|bL (gN 1) cV) cU we (L.map gX) (sv::sv'::tail) acc Q
 |[],_,sv,sv',acc,_,hq=>by rw[f6,lcW];simpa using hq|p::L,h,sv,sv',acc,hl,hq=>by rw[cN,lcW];refine⟨rfl,?_⟩;show we No (SV.d (aN p.1)::SV.d (aE p.2)::tail) _;rw[dD]at hl;refine h p E1 _ ⟨tv,vc L (λa ha=>h a<|by simp[ha]) _ _ _ (by simp;omega) ?_⟩;rw[jP];simpa using hq
theorem HW(i j:Nat):∀ps:List Pr,bD (ps.map (·.1)) (ps.map λp=>p.2.getD i 0*p.2.getD j 0)=gs ps i j
 |[]=>rfl|p::ps=>by rw[cN,cN,bD,gs,HW i j ps]
end B.C.Q0
namespace Dt
open B.C
theorem HX{r:Lb}{l:Nat}(hi:i<=r.length):ga (cutL r i) l=ga r (sk i l):=by unfold cutL ga sk;rw[aW,aW,List.getElem?_append,fZ,sj hi];by_cases h:l<i;rw[ks h,ks h,qY,ks h];rw[jx h,jx h,uH,show i+1+(l-i)=l+1 by omega]
theorem NS(h:t.length=n)(hj:j<=n)(hk:k+1<n):gr (uh t i j) k=cutL (gr t<|sk j k) i:=by
 have e:(t.take j++t.drop (j+1))[k]? = some (gr t<|sk j k):=by unfold gr sk;rw[List.getElem?_append,fZ,h,sj hj];by_cases hh:k<j;rw[ks hh,ks hh,qY,ks hh,aW,bP<|tv];rfl;rw[jx hh,jx hh,uH,show j+1+(k-j)=k+1 by omega,aW,bP<|tv];rfl
 show(uh t i j).getD k []=_;unfold uh;rw[aW,cJ,e];rfl
theorem NT(h:Sm 6 n t)(hn:n<=5)(hi:i<n)(hj:j<n):i8 (uh t i j)*sgn i j=fN (tA t) n j i:=by
 unfold fN;rw[yh (prt_sm h hi hj)<|tv,sr];have e1:sgn i j=sg (j+i):=by unfold sgn sg;split<;>omega
 rw[e1];congr 1;refine rW λa ha b hb=>?_;show ga (gr (uh t i j) a) b=ga (gr t<|sk j a) (sk i b);have ha':sk j a<n:=by unfold sk;split<;>omega
 rw[NS h.len tv<|tv,HX (by rw[(h.gr ha').2.1];omega)]
end Dt
namespace Gs
open Dt
def dl(i j:Nat):Rat:=if i=j then 1 else 0
theorem rY(i:Nat):dl i i=1:=ks rfl
theorem rZ(h:i≠j):dl i j=0:=jx h
theorem HY(f:Rx)(hk:k<n):aG (λi=>dl k i*f i) n=f k:=by rw[gL hk<|λi _ ne=>by rw[rZ<|QX ne,fH],rY,mP]
theorem NU(f:Rx)(hk:k<n):aG (λi=>f i*dl i k) n=f k:=by rw[gL hk<|λi _ ne=>by rw[rZ ne,dI],rY,mO]
theorem HZ(f:Rx):∀n:Nat,aG (λk=>f<|n-1-k) n=aG f n
 |0=>rfl|n+1=>by rw[u8,aG];rw[bV (g:=λk=>f<|n-1-k) (λi hi=>by show f (n+1-1-(i+1))=_;congr 1;omega),HZ f n];show f (n+1-1-0)+_=_;rw[show n+1-1-0=n by omega];grind
structure Bk(n:Nat)(T B:Nat->Rx):Prop where
 tb:∀i j,i<n->j<n->aG (λk=>T i k*B k j) n=dl i j
 bt:∀i j,i<n->j<n->aG (λk=>B i k*T k j) n=dl i j
theorem Bk.uniq{T B:Nat->Rx}(h:Bk n T B){X:Rx}(hj:j<n)(e:∀i,i<n->aG (λk=>T i k*X k) n=dl i j)(hk:k<n):X k=B k j:=by
 rw[<-HY X hk];rw [bV (g:=λi=>aG (λm=>B k m*(T m i*X i)) n) (λi hi=>by
  rw[<-h.bt k i hk hi,lZ,<-sumN_mul];exact bV λm _=>by grind),sumN_swap]
 rw[bV (g:=λm=>B k m*dl m j)<|λm hm=>by rw[sumN_mul,e m hm]];exact NU (λm=>B k m) hj
theorem yq(h:IsSl s n)(e:dU s n=[]):Bk n (λi j=>(tA (tbl s n) i j:Rat)) (λi j=>((rT s n).getD i []).getD j 0):=by
 obtain⟨_,b⟩:=qP h e;have dz:(dt (tA<|tbl s n) n:Rat)≠0:=by exact_mod_cast (rX h).mp e
 constructor;intro i j hi hj;rw[bV (g:=λk=>(dt (tA<|tbl s n) n:Rat)⁻¹*((tA (tbl s n) i k*fN (tA<|tbl s n) n j k:Int):Rat)) (λk hk=>by rw[b k j hk hj,eY,dH];grind),sumN_mul,qO,uj _ h.n5 hi hj];unfold dl;split;exact ss _ dz;exact dI _;intro i j hi hj;rw[bV (g:=λk=>(dt (tA<|tbl s n) n:Rat)⁻¹*((tA (tbl s n) k j*fN (tA<|tbl s n) n k i:Int):Rat)) (λk hk=>by rw[b i k hi hk,eY,dH];grind),sumN_mul,qO,ye _ h.n5 hj hi];unfold dl;by_cases z:j=i;rw[ks z,ks z.symm];exact ss _ dz;rw[jx z,jx<|QX z];exact dI _
theorem tA_ent(h:IsSl s n)(hi:i<n)(hj:j<n):tA (tbl s n) i j=ent s n i j:=by unfold tA B.C.gr B.C.ga;rw[GI h,aW (l:=List.map _ _),cJ,iN hi];show((List.range n).map λj=>ent s n i j).getD j 0=_;rw[aW,cJ,iN hj];rfl
structure Tz(n:Nat)(T:Nat->Rx):Prop where
 sl:∀i j i' j',i<n->j<n->i'<n->j'<n->i+j'=i'+j->T i j=T i' j'
theorem yt(h:IsSl s n):Tz n (λi j=>(tA (tbl s n) i j:Rat)):=⟨λi j i' j' hi hj hi' hj' e=>by
 show((tA (tbl s n) i j:Int):Rat)=((tA (tbl s n) i' j':Int):Rat)
 rw[tA_ent h hi hj,tA_ent h hi' hj'];unfold ent;rw[show n-1-i+j=n-1-i'+j' by omega]⟩
theorem Bk.per{T B:Nat->Rx}(h:Bk n T B)(t:Tz n T)(hi:i<n)(hj:j<n):B (n-1-j) (n-1-i)=B i j:=by
 refine h.uniq (X:=λk=>B (n-1-j)<|n-1-k) hj (λi hi=>?_) hi;rw [bV (g:=λk=>(λm=>B (n - 1 - j) m*T m (n - 1 - i))<|n - 1 - k) (λk hk=>by
  show T i k*_=_*T (n-1-k) (n-1-i);rw[t.sl i k (n-1-k) (n-1-i) hi hk tv tv<|tv,lZ]),HZ<|λm=>B (n-1-j) m*T m (n-1-i),h.bt _ _ tv<|tv]
 unfold dl;by_cases z:i=j;rw[ks z,ks<|tv];rw[jx z,jx<|tv]
end Gs
theorem set_by{E:RE}(e:ρ.set i (.d d)=ρ')(hw:∀P:D->Prop,P d->w E ρ P)(h:N.nx ρ'):aQ i w E N ρ:=hw _ (by rw[e];exact h)
theorem ret_by{E:RE}(hw:∀P:D->Prop,P d->w E ρ P)(h:N.rt d):aI w E N ρ:=hw _ h
theorem pair_at{w1 w2:WE}{E:RE}{a b:D}(h1:∀P:D->Prop,P a->w1 E ρ P)(h2:∀P:D->Prop,P b->w2 E ρ P):∀P:D->Prop,P (.tup [a,b])->bO (aC w1<|aC w2 aA) E ρ P:=λP h=>h1 _<|h2 _ ⟨show 2<=aO by decide,h⟩
theorem own_by{t:WA}{E:RE}(e:ρ.set i (.ow xs)=ρ')(ht:∀P:RF->Prop,P xs->t E ρ P)(h:N.nx ρ'):cH i t E N ρ:=ht _ (by rw[e];exact h)
theorem nm_at{E:RE}(h:ρ[i]? = some (.d d)):∀P:D->Prop,P d->wN i E ρ P:=λP q=>by unfold wN;rw[h];exact q
theorem c_at{E:RE}:∀P:D->Prop,P d->wC d E ρ P:=λ_ h=>h
namespace Gs
open Dt
section
theorem Ia{B:E8}(hk:k<B.length):(mC B j).getD k 0=(B.getD k []).getD j 0:=by unfold mC;rw[aW (l:=List.map _ _),cJ,bP hk,aW (l:=B),bP hk];rfl
end
end Gs
section
variable{o a b:Expr}{t:WA}{pos:Pos}{id:String}{g:Str->RF->(RG)->Prop}
def CS(mg:K8)(x y:Str):Prop:=∃t,mg x=some (.str y t)
theorem QN{y:Str}(X:K.In h)(G:h.Ns mainGlobals mg){t:Tok}(a:PySem.W.nsIn K mainGlobals x=some (some<|.str y t)):CS mg x y:=⟨t,PySem.W.mg_of X G a⟩
end
section
variable{pos ps kp cp:Pos}{a:Expr}
def D2(t:WA):WA:=λE ρ Q=>t E ρ λds=>∃xs,ds=[.lst xs]/\Q (dF 1 xs)
theorem NV{t:WA}(hm:X.mg "enumerate" = none)(ha:kx X EX [a] t)(hg:{Gl X "enumerate"})(hs:{starEach [a] X.env=[(false,eval a X.env)]}) :
  lM X EX (.Tuple es n1 ps) (.Call (.Name "enumerate" p) [a] [⟨some "start",.Constant (.int 1) j cp,kp⟩] pos) (D2 t):=by
 obtain⟨t,q,k⟩:=ha.t;refine⟨⟨_,KC hg hm q hs,λW0 H0 W σ H ρ E R s eo h=>?_⟩,λE ρ P P' hp h=>ha.mono _ _ _ _ (λds ⟨xs,e,z⟩=>⟨xs,e,hp _ z⟩) h⟩;refine k W0 H0 W σ H ρ E _ s eo<|ha.mono _ _ _ _ (λds ⟨xs,e,hd⟩ vs W1 H1 x1 r1=>?_) h;subst e;obtain⟨v,rfl,rv⟩:=r1.one;cases rv with
 | @lst l vs _ e1 rr=>
  have sq:∀W2 H2,(∀a o,W1.G a=some o->W2.G a=some o)->WOk W2 H2->Sq X.K false H2 l vs:=λW2 H2 g ok=>SqL.of<|ok.g _ _ (g _ _ e1);refine⟨l,rfl,⟨vs,sq W1 H1 (λ_ _ z=>z) x1.ok⟩,hd W1 H1 _ x1 λW2 H2 i g2 p2 ok2=>⟨λd hd=>?_,λhi=>?_⟩⟩
  .have s1:=sq W2 H2 g2 ok2
   obtain⟨x,ex,rfl⟩:=DA 1 i xs d hd;obtain⟨vx,evx,rvx⟩:=rr.get ex;refine⟨⟨vs,vx,s1,evx⟩,λz H3 hy=>?_⟩;obtain⟨q,x',rfl,hq,rfl,e1⟩:=hy;have e1:=e1 _ s1;rw[evx]at e1;cases e1;have xt:=Ext.put (o:=.tup [.int ((i+1:Nat):Int),vx]) ok2 hq;rw[uB 1 i];exact⟨_,xt,.tup (by unfold Wd.put;dsimp only;rw[aV])<|.cons (.int _)<|.cons (xt.rep<|rvx.mono g2 p2) .nil⟩
  .refine⟨vs,sq W2 H2 g2 ok2,?_⟩
   rw[rr.length];rw[Dy]at hi;omega
end
open Dt
abbrev tabD:=B.C.tabD
abbrev Sm:=B.C.Sm
def ii(t:KE)(j:Nat):KE:=(t.drop 1).map λr=>B.C.cutL r j
def bT(t:KE):Int:=dt (tA t) t.length
def fw(s:Lb)(n:Nat):Lb:=(List.range n).map λk=>bT<|tbl (cor s n<|k+1) (k+1)
def lm(s:Lb)(n:Nat):Ry:=((List.range n).filter λk=>bT (tbl (cor s n<|k+1)<|k+1)==0).map (· + 1)
def AN:bN:=fnS (λx:Nat×KE=>[tabD x.2,.int x.1]) (λx=>x.2.length<=5/\(∀r∈x.2,r.length=x.2.length)/\x.1<x.2.length) λx=>tabD<|ii x.2 x.1
def lq(i:Nat):bN:=fnS (λt:KE=>[tabD t]) (λt=>Sm 10 t.length t/\t.length<=i/\i<=5) λt=>.int<|bT t
def D3:bN:=lq 5
def D4(x:D):Except Str D:=gg x<|.ok (.int<|bT<|tbl (sI x)<|sN x)
def D5(x:D):Except Str D:=gg x<|.ok (.lst<|(fw (sI x)<|sN x).map .int)
def D6(x:D):Except Str D:=gg x<|.ok (kI<|lm (sI x)<|sN x)
def yu:bN:=xS (λx:D=>[x]) (λx=>kd x=true) D4
def uo:bN:=xS (λx:D=>[x]) (λx=>kd x=true) D5
def AO:bN:=xS (λx:D=>[x]) (λx=>kd x=true) D6
section
variable{E:RE}{x:D}
theorem NW(h1:t.length<=5)(h2:∀r∈t,r.length=t.length)(h3:k<t.length)(q:Q (tabD<|ii t k)):AN [tabD t,.int k] E Q:=⟨(k,t),rfl,⟨h1,h2,h3⟩,q⟩
theorem NX(h:Sm 10 t.length t)(h5:t.length<=5)(q:Q (.int<|bT t)):D3 [tabD t] E Q:=⟨t,rfl,⟨h,h5,bU _⟩,q⟩
theorem NY(h:IsSl s n)(q:Q (.int<|bT<|tbl s n)):yu [aJ s] E Q:=xS.ok (aJ s) rfl h.kd (by(try dsimp only);unfold D4;rw[Zb h,d8,h.sN]) q
theorem D7(h:IsSl s n)(q:Q (.lst<|(fw s n).map .int)):uo [aJ s] E Q:=xS.ok (aJ s) rfl h.kd (by(try dsimp only);unfold D5;rw[Zb h,d8,h.sN]) q
theorem NZ(h:kd x=true)(hb:e8 x=false)(e:E "NoSlants"):uo [x] E Q:=xS.err x rfl h (lN hb) e
theorem N1(h:IsSl s n)(q:Q (kI<|lm s n)):AO [aJ s] E Q:=xS.ok (aJ s) rfl h.kd (by(try dsimp only);unfold D6;rw[Zb h,d8,h.sN]) q
end
theorem AQ(t:KE)(j:Nat):(ii t j).length=t.length-1:=by unfold ii;rw[aZ,iq]
theorem D8(h:Sm b n t)(hj:j<n):Sm b (n-1) (ii t j):=by
 refine⟨by rw[AQ,h.len],λr hr=>?_,λr hr x hx=>?_⟩;obtain⟨r',hr',rfl⟩:=YbT.mp hr;have:=h.row r'<|lW hr';unfold B.C.cutL;simp only[dA,fZ,iq];omega
 obtain⟨r',hr',rfl⟩:=YbT.mp hr;exact h.sm r' (lW hr') x<|B.C.cut_mem hx
theorem N2(h:Sm b n t)(hj:j<n):bT (ii t j)=dt (cut (tA t) 0 j) (n-1):=by
 have e:=h.len;unfold bT;rw[AQ,e];refine rW λi hi k hk=>?_;show B.C.ga (B.C.gr (ii t j) i) k=B.C.ga (B.C.gr t<|sk 0 i) (sk j k);have e1:B.C.gr (ii t j) i=B.C.cutL (B.C.gr t<|i+1) j:=by show(ii t j).getD i []=_;unfold ii B.C.gr;rw[aW,cJ,uH,aW,uB 1 i,bP<|tv];rfl
 rw[e1,show sk 0 i=i+1 from rfl,HX (by rw[(h.gr (k:=i+1)<|tv).2.1];omega)]
theorem Ib(h:Sm b n t)(n1:1<=n)(hn:n<=5):sumI (λj=>tA t 0 j*(sg j*bT (ii t j))) n=bT t:=by have:=uj (tA t) hn (i:=0) (k:=0) tv tv;rw[ks rfl]at this;rw[show bT t=dt (tA t) n from by unfold bT;rw[h.len],<-this];refine ui λj hj=>?_;unfold fN;rw[N2 h hj,oE]
theorem Ic{f:Nat->Int}{B:Nat}:∀{n:Nat},(∀j,j<n->(f j).natAbs<=B)->(sumI f n).natAbs<=n*B
 |0,_=>by simp[sumI]|n+1,h=>by rw[sumI,mK];have h1:=Ic (n:=n) λj hj=>h j tv;have h2:=h n tv;have:=qX (sumI f n)<|f n;omega
theorem D9(j:Nat):(sg j).natAbs=1:=by unfold sg;split<;>rfl
theorem N3{Z:Nat}(h:Sm b n t)(n1:1<=n)(hB:(bT<|ii t j).natAbs<=Z):(tA t 0 j*(sg j*bT (ii t j))).natAbs<=2^b*Z:=by rw[eh,eh,D9,Nat.one_mul];exact hJ (gY<|B.C.ga_lt (h.gr (k:=0)<|tv).2.2) hB
theorem AR{b:Nat}:∀{n:Nat} {t:KE},Sm b n t->n<=5->(bT t).natAbs<=2^(n*(b+3))
 |0,t,h,_=>by unfold bT;rw[h.len,Nat.zero_mul];exact bU 1|n+1,t,h,hn=>by rw[<-Ib h tv hn];refine gP (Ic (B:=2^b*2^(n*(b+3))) λj hj=>N3 h tv<|AR (D8 h hj)<|tv) ?_;rw[show(n+1)*(b+3)=3+(b+n*(b+3)) from by rw[mK];omega,kj,<-kj 2 b];exact hJ tv<|bU _
theorem Zj(h:IsSl s n)(hk:k<=n)(hi:i<k)(hj:j<k):ent (cor s n k) k i j=ent s n i j:=by unfold ent cor;rw[aW,qY,ks<|tv,uH,aW,show n-k+(k-1-i+j)=n-1-i+j by omega]
theorem N4(h:IsSl s n):Sm 10 n (tbl s n):=⟨gW s n,λr hr=>(jS h r hr).1,λr hr x hx=>by
 have:=(jS h r hr).2 x hx;show x.natAbs<1024;omega⟩
abbrev ZfE:Rv:=["table", "column"]
def Ea:WS:=(aI<|wL<|aLC (iS<|cG (wN 0) (dW<|wC<|.int<|1) eL) 1 [1] (gN 0) cU<|w2 gAdd (cG (wN 0) eL<|dW<|wN 1)<|cG (wN 0) (dW<|w2 gAdd (wN 1)<|wC<|.int<|1) eL)
abbrev r9:Rv:=["table", "total", "sign", "column", "number"]
abbrev uq:Rv:=["table"]
def oy(W:WA->WE):WS:=(aH (cP (wT<|w2 (gEq false) (wB bZ<|aC (wN 0) aA)<|wC<|.int<|0) (aI<|wC<|.int<|1) cR)<|aH (aQ 1<|wC<|.int<|0)<|aH (aQ 2<|wC<|.int<|1)<|aH (bH<|bS (iE<|aC (w2 gIx (wN 0)<|wC<|.int<|0) aA) (de 2<|bL (gN 3)<|bL (gN 4) cV)<|aH (pz 1<|w2 gMul (w2 gMul (wN 2)<|wN 4)<|W<|aC (wF AN<|aC (wN 0)<|aC (wN 3) aA) aA)<|aQ 2<|w1 j5<|wN 2)<|aI<|wN 1)
abbrev Zjd:Rv:=["slants"]
def Eb:WS:=(aI<|wF D3<|aC (wF w8<|aC (wN 0) aA) aA)
abbrev Ze7:Rv:=["slants"]
def Ed:WS:=(aH (fK<|wF mT<|aC (wN 0) aA)<|aI<|wL<|aLC (jr<|aC (wC<|.int<|1)<|aC (w2 gAdd (wF jR<|aC (wN 0) aA)<|wC<|.int<|1) aA) 1 [0] (gN 0) cU<|wF yu<|aC (wF rN<|aC (wN 1)<|aC (wN 0) aA) aA)
abbrev ZhD:Rv:=["slants"]
def Zf:WS:=(aI<|wL<|aLC (D2<|aC (wF uo<|aC (wN 0) aA) aA) 2 [] (de 2<|bL (gN 0)<|bL (gN 1) cV) (wT<|w2 (gEq false) (wN 1)<|wC<|.int<|0)<|wN 0)
theorem Ee{g:WG}{zb:WS}{E:RE}{N:Nds}(I:Nat->cS->Prop):∀(xs:RF) (k0:Nat),(∀k d,xs[k]? = some d->∀ρ,I (k0+k) ρ->∀nx:cS->Prop,(∀ρ,I (k0+k+1) ρ->nx ρ)->g (.tup [.int ((k0+k:Nat):Int),d]) ρ λρ1=>zb E { nx:=nx,rt:=N.rt,bk:=N.nx,ct:=nx } ρ1)->(∀ρ,I (k0+xs.length) ρ->N.nx ρ)->∀ρ,I k0 ρ->Zbh g zb E N (dF k0 xs) ρ
 |[],k0,_,hn,ρ,i=>hn ρ i
 | x::xs,k0,h,hn,ρ,i=>h 0 x rfl ρ i _<|Ee I xs (k0+1) (λk d hd ρ hi nx hnx=>by
   have:=h (k+1) d hd ρ (by rw[show k0+(k+1)=k0+1+k by omega];exact hi) nx (λρ hρ=>hnx ρ (by rw[show k0+1+k+1=k0+(k+1)+1 by omega];exact hρ));rw[show k0+1+k=k0+(k+1) by omega];exact this) (λρ hρ=>hn ρ (by rw[dD,show k0+(xs.length+1)=k0+1+xs.length by omega];exact hρ))
theorem N5:Rd AN Ea ZfE:=by rintro _ E Q ⟨⟨k,t⟩,rfl,⟨h5,hr,hk⟩,q⟩;dsimp only at h5 hr hk q;show Ea E _ [.d<|.lst<|t.map eG,.d<|.int k];unfold Ea;ext;rw[show cL (t.map eG) (some 1) none=(t.map eG).drop 1 from ub (a:=1) (by rw[aZ];omega),<-oD];refine li (g:=eG) (f:=λr=>eG<|B.C.cutL r k) (t.drop 1) (λr hr' Q hq=>?_) .un [] (eJ (by simp;omega)) ?_;have rl:=hr r (lW hr');unfold eG at hq ⊢;ext;rw[pT (b:=k) rfl,show((k:Int)+1)=((k+1:Nat):Int) from rfl,ub (by rw[aZ];omega)];unfold B.C.cutL at hq;rw[gR,kJ,oD]at hq;exact⟨eJ (by simp;omega),hq⟩;unfold tabD B.C.tabD ii at q;rw[List.map_map]at q;exact q
theorem AS{x:Int}(h:x.natAbs<=2^b)(hb:b<8990):Bd x:=lV h<|Nat.pow_lt_pow_right wp hb
theorem N6:∀ds E Q,lq 0 ds E Q->oy (λ_=>Dw) E { nx:=λ_=>Q .non,rt:=Q } (fL r9 ds):=by
 rintro _ E Q ⟨t,rfl,⟨h,h0,_⟩,q⟩;dsimp only at h h0 q;have e:t=[]:=Yc9.mp tv;subst e;show oy _ E _ [.d<|.lst [],.un,.un,.un,.un];unfold oy;refine cB<|gp (b:=true) (λP hP=>?_) (λ_=>?_) λe=>nomatch e
 ext;exact hP;exact q
theorem yv(i:Nat):∀ds E Q,lq (i+1) ds E Q->oy (wF<|lq i) E { nx:=λ_=>Q .non,rt:=Q } (fL r9 ds):=by
 rintro _ E Q ⟨t,rfl,⟨h,hi,i5⟩,q⟩;dsimp only at h hi i5 q;show oy _ E _ [.d<|.lst<|t.map eG,.un,.un,.un,.un];unfold oy;by_cases t0:t=[];subst t0;refine cB<|gp (b:=true) (λP hP=>?_) (λ_=>?_) λe=>nomatch e
 ext;exact hP;exact q;generalize hn:t.length=n at h hi;have n1:1<=n:=by rw[<-hn];exact List.length_pos_iff.mpr t0
 refine cB<|gp (b:=false) (λP hP=>?_) (λe=>nomatch e) λ_=>?_
 ext;rw[aZ,hn,show((n:Int)==0)=false from by rw[beq_eq_false_iff_ne];omega];exact hP;dsimp only;refine cB<|LP.set_by (d:=.int 0) (ρ':=[.d<|.lst<|t.map eG,.d<|.int 0,.un,.un,.un]) (by rfl) LP.c_at ?_;dsimp only;refine cB<|LP.set_by (d:=.int 1) (ρ':=[.d<|.lst<|t.map eG,.d<|.int 0,.d<|.int 1,.un,.un]) (by rfl) LP.c_at ?_;dsimp only;refine cB ?_;simp only[bH,bS];obtain⟨g1,g2,g3⟩:=h.gr (k:=0) tv;ext;refine⟨eG<|B.C.gr t 0,B.C.gr_map (k:=0) tv rfl,?_⟩;have s5:∀k,k<n->(bT<|ii t k).natAbs<=2^((n-1)*(10+3)):=λk hk=>AR (D8 h hk) tv;refine Ee (λk ρ=>∃s3 s4,ρ=[.d<|.lst<|t.map eG,.d<|.int<|sumI (λj=>tA t 0 j*(sg j*bT (ii t j))) k,.d<|.int<|sg k,s3,s4]) _ 0 ?_ ?_ _ ⟨_,_,rfl⟩
 rintro k d hd _ ⟨s3,s4,rfl⟩ nx hnx;rw[oE]at hnx ⊢;have hk:k<n:=by have:=(Yap.mp hd).1;rw[aZ,g2]at this;exact this
 have ed:d=.int (tA t 0 k):=by rw[cJ,B.C.ga_get g2 hk]at hd;exact(QW hd).symm
 subst ed;refine⟨rfl,?_⟩;simp only[bL,cV,gN,List.set_cons_succ,List.set_cons_zero];show aH _ _ _ _ [.d<|.lst<|t.map eG,.d<|.int<|sumI (λj=>tA t 0 j*(sg j*bT (ii t j))) k,.d<|.int<|sg k,.d<|.int k,.d<|.int<|tA t 0 k];generalize hS:sumI (λj=>tA t 0 j*(sg j*bT (ii t j))) k=Sk;have eS:sumI (λj=>tA t 0 j*(sg j*bT (ii t j))) (k+1)=Sk+sg k*tA t 0 k*bT (ii t k):=by rw[sumI,hS];grind
 have ba:(tA t 0 k).natAbs<=2^10:=gY<|B.C.ga_lt g3;have bs:(sg k).natAbs<=2^0:=by rw[D9];exact bU 1
 refine cB ?_;simp only[pz,eA,dN,w2,wN];refine⟨⟨AS bs<|wp,AS ba<|wp⟩,?_⟩;simp only[wF,aC,aA,wN,eA,dN];refine NW (t:=t) tv (λr hr=>by rw[h.row r hr,hn]) tv ?_;refine⟨ii t k,rfl,⟨?_,?_,tv⟩,?_⟩;rw[AQ,hn];exact D8 h hk;rw[AQ,hn];omega;have hb4:(n-1)*(10+3)<8990:=lV (hJ (show n-1<=4 by omega)<|bU<|10+3) wp;have b1:(sg k*tA t 0 k).natAbs<=2^10:=by rw[eh,D9,Nat.one_mul];exact ba
 refine⟨⟨AS b1<|wp,AS (s5 k hk) hb4⟩,?_⟩;try dsimp only
 show aQ 2 (w1 j5<|wN 2) _ _ [.d<|.lst<|t.map eG,.d<|.int<|Sk+sg k*tA t 0 k*bT (ii t k),.d<|.int<|sg k,.d<|.int k,.d<|.int<|tA t 0 k];refine LP.set_by (d:=.int<|sg<|k+1) (ρ':=[.d<|.lst<|t.map eG,.d<|.int<|Sk+sg k*tA t 0 k*bT (ii t k),.d<|.int<|sg<|k+1,.d<|.int k,.d<|.int<|tA t 0 k]) (by rfl) (λP hP=>?_)<|hnx _ ⟨_,_,by rw[eS]⟩;have:sg (k+1) = - sg k:=by unfold sg;by_cases z:k%2=0;rw[ks z,jx<|tv];rw[jx z,ks<|tv];rfl
 rw[this]at hP;exact hP;rintro _ ⟨s3,s4,rfl⟩;rw[aZ,g2,oE,Ib h n1<|tv];exact q
theorem N7:Rd yu Eb Zjd:=by
 rintro _ E Q ⟨x,rfl,hk,q⟩;show Eb E _ [.d x];unfold Eb;ext;unfold D4 at q;cases e:e8 x with
 |false=>exact xS.err x rfl hk (lN e)<|jM e q
 |true=>
 obtain⟨s,n,rfl,h⟩:=kF e;replace q:=jN h q;rw[d8,h.sN]at q;have:=N4 h;exact F0 h<|NX (t:=tbl s n) (by rw[gW];exact this) (by rw[gW];exact h.n5) q
theorem N8(h:IsSl s n){Q:RF->Prop}(q:Q ((fw s n).map .int)):lcW (gN 0) cU (wF yu<|aC (wF rN<|aC (wN 1)<|aC (wN 0) aA) aA) (rng 1 n) [.un,.d<|aJ s] [] Q:=by
 have n5:=h.n5;have e:rng 1 n=(List.range n).map λ(k:Nat)=>D.int ((k+1:Nat):Int):=by unfold rng;exact jg λk _=>by simp;omega
 rw[e];refine li (g:=λk:Nat=>D.int ((k+1:Nat):Int)) (f:=λk=>D.int<|bT<|tbl (cor s n<|k+1)<|k+1) (List.range n) (λk hk Q hq=>?_) .un [] (eJ (by simp;omega)) ?_;rw[Yah]at hk;ext;exact Af h tv tv<|NY (iD h tv<|tv) hq
 unfold fw at q;rw[List.map_map]at q;exact q
theorem N9:Rd uo Ed Ze7:=by
 rintro _ E Q ⟨x,rfl,hk,q⟩;show Ed E _ [.d x];unfold Ed;refine cB ?_;simp only[fK,wF,aC,aA,wN,dN];unfold D5 at q;cases e:e8 x with
 |false=>exact Ae hk e<|jM e q
 |true=>
 obtain⟨s,n,rfl,h⟩:=kF e;replace q:=jN h q;rw[d8,h.sN]at q;have n5:=h.n5;refine Ad h ?_;simp only[aI,wL,aLC,jr,wF,aC,aA,wN,wC,w2,Zb2,dN,cN,f6,List.replicate,g9,dG];refine mU h ?_;ext;refine⟨tv,?_⟩;rw[show((n:Int)+1-1).toNat=n by omega];exact N8 h q
theorem Ef{Q:RF->Prop}(f:Nat->Int)(P:Nat->Bool)(hP:∀k,P k=(f k==0)):∀(n k0:Nat) (sv sv':SV) (acc:RF),acc.length+n<=5000->Q (acc++(((List.range n).filter λk=>P<|k0+k).map λk=>D.int ((k0+k+1:Nat):Int)))->lcW (de 2<|bL (gN 0)<|bL (gN 1) cV) (wT<|w2 (gEq false) (wN 1)<|wC<|.int<|0) (wN 0) (dF (k0+1)<|(List.range n).map λk=>D.int<|f<|k0+k) (sv::sv'::[]) acc Q
 |0,k0,sv,sv',acc,_,hq=>by simpa[lcW,dF] using hq
 |n+1,k0,sv,sv',acc,hl,hq=>by
  rw[BX,cN,List.map_map,dF,lcW];refine⟨rfl,?_⟩;show wT (w2 (gEq false) (wN 1)<|wC<|.int 0) No (SV.d (.int ((k0+1:Nat):Int))::SV.d (.int<|f<|k0+0)::[]) _;simp only[wT,w2,wN,wC,eA,dN,k9];have eq1:(λk=>D.int<|f<|k0+k)∘Nat.succ=λk=>D.int (f<|k0+1+k):=by funext k;show D.int (f<|k0+(k+1))=_;rw[show k0+(k+1)=k0+1+k by omega]
  rw[eq1];have eq2:((List.map Nat.succ<|List.range n).filter λk=>P<|k0+k).map (λk=>D.int ((k0+k+1:Nat):Int))=((List.range n).filter λk=>P<|k0+1+k).map λk=>D.int ((k0+1+k+1:Nat):Int):=by
   rw[B6,List.map_map];have:((λk=>P<|k0+k)∘Nat.succ)=λk=>P (k0+1+k):=by funext k;show P (k0+(k+1))=_;rw[show k0+(k+1)=k0+1+k by omega]
   rw[this];exact jg λk _=>by show D.int ((k0+(k+1)+1:Nat):Int)=_;rw[show k0+(k+1)+1=k0+1+k+1 by omega]
  rw[BX]at hq;have b0:(f (k0+0)==0)=P (k0+0):=(hP _).symm;cases e:P (k0+0) with
  |true=>rw[zB<|by exact e,cN,eq2]at hq;rw[lO,b0,e,ks (show(if false=true then !true else true)=true from rfl)];show acc.length<aO/\_;refine⟨by unfold aO;omega,?_⟩;exact Ef f P hP n (k0+1) _ _ _ (by simp;omega) (by rw[jP];exact hq)|false=>rw[zC (by rw[e];decide),eq2]at hq;rw[lO,b0,e,jx (show¬(if false=true then !false else false)=true by decide)];exact Ef f P hP n (k0+1) _ _ _ tv hq
theorem Oa(h:IsSl s n){Q:RF->Prop}(q:Q ((lm s n).map λ(k:Nat)=>D.int (k:Int))):lcW (de 2<|bL (gN 0)<|bL (gN 1) cV) (wT<|w2 (gEq false) (wN 1)<|wC<|.int<|0) (wN 0) (dF 1<|(fw s n).map .int) (.un::.un::[]) [] Q:=by
 have n5:=h.n5;unfold fw;rw[List.map_map];have:=Ef (Q:=Q) (λk=>bT<|tbl (cor s n<|k+1)<|k+1) (λk=>bT (tbl (cor s n<|k+1)<|k+1) == 0) (λ_=>rfl) n 0 .un .un [] (by simp;omega) (by
  unfold lm at q;rw[List.map_map]at q;simp only[oE,dG];exact q)
 simp only[oE]at this;exact this
theorem Ob:Rd AO Zf ZhD:=by
 rintro _ E Q ⟨x,rfl,hk,q⟩;show Zf E _ [.d x];unfold Zf;simp only[aI,wL,aLC,D2,wF,aC,aA,wN,Zb2,dN,cN,f6,List.replicate,g9,dG];unfold D6 at q;cases e:e8 x with
 |false=>exact NZ hk e<|jM e q
 |true=>
 obtain⟨s,n,rfl,h⟩:=kF e;replace q:=jN h q;rw[d8,h.sN]at q;refine D7 h ⟨_,rfl,?_⟩;exact Oa h q
namespace Gs
section
variable{T B:Nat->Rx}
theorem Bk.solve(h:Bk n T B){X y:Rx}(e:∀i,i<n->aG (λk=>T i k*X k) n=y i)(hk:k<n):X k=aG (λm=>B k m*y m) n:=by
 rw[<-HY X hk];rw [bV (g:=λi=>aG (λm=>B k m*(T m i*X i)) n) (λi hi=>by
  rw[<-h.bt k i hk hi,lZ,<-sumN_mul];exact bV λm _=>by grind),sumN_swap]
 exact bV λm hm=>by rw[sumN_mul,e m hm]
end
theorem Id{a c:Mn}(h:a.length=c.length):(aX a q c).getD j 0=a.getD j 0-q*c.getD j 0:=by unfold aX;simp only[aW];by_cases hj:j<a.length;rw[bP (by rw[g6];omega),bP hj,bP<|tv,lC];rfl;rw[dX (by rw[g6];omega),dX<|tv,dX<|tv];show(0:Rat)=0-q*0;grind
theorem oA{a c:Mn}(h:a.length=c.length):(aX a q c).length=a.length:=by unfold aX;rw[g6];omega
theorem by_at{a:Mn}:(dS a q).getD j 0=a.getD j 0/q:=by
 unfold dS;rw[aW,cJ,aW];cases a[j]? with
 |none=>show(0:Rat)=0/_;rw[dH,fH]|some x=>rfl
theorem Ie{a:Mn}:(dS a q).length=a.length:=by unfold dS;rw[aZ]
theorem Eg{a b:Mn}(ha:a.length=n)(hb:b.length=n)(h:∀k,k<n->a.getD k 0=b.getD k 0):a=b:=by
 refine uM (by rw[ha,hb]) λt h1 h2=>?_;have e1:a[t]=a.getD t 0:=by rw[aW,bP h1];rfl
 have e2:b[t]=b.getD t 0:=by rw[aW,bP h2];rfl
 rw[e1,e2];exact h t tv
section
theorem cor_cor(hk:k<=n)(hj:j<=k)(j1:1<=j)(h:IsSl s n):cor (cor s n k) k j=cor s n j:=by have hl:=h.len;unfold cor;rw[List.drop_take,List.drop_drop,List.take_take];congr 1;omega;congr 1;omega
def Stg(s:Lb)(n:Nat):Prop:=∀k,1<=k->k<=n->dU (cor s n k) k=[]
theorem wk_stg(h:IsSl s n):lm s n=[]↔Stg s n:=by
 unfold lm Stg;rw[List.map_eq_nil_iff,List.filter_eq_nil_iff];constructor;intro e k k1 kn;have:=e (k-1)<|Yah.mpr tv;rw[show k-1+1=k by omega]at this;refine(rX<|iD h k1 kn).mpr λz=>this ?_;unfold bT;rw[gW,z];rfl
 intro e a ha z;rw[Yah]at ha;have:=(rX<|iD h tv<|tv).mp<|e (a+1) tv tv;apply this;have z':bT (tbl (cor s n<|a+1)<|a+1)=0:=by simpa using z
 unfold bT at z';rw[gW]at z';exact z'
theorem Stg.cor(h:IsSl s n)(g:Stg s n)(k1:1<=k)(kn:k<=n):Stg (cor s n k) k:=λj j1 jk=>by rw[cor_cor kn jk j1 h];exact g j j1 tv
theorem Oc(h:IsSl s n):LP.cor s n n=s:=by have:=h.len;unfold LP.cor;rw[zF,qV,BJ<|tv]
theorem Stg.full(h:IsSl s n)(g:Stg s n):dU s n=[]:=by have:=g n h.n1<|bU _;rw[Oc h]at this;exact this
def fA(s:Lb)(n:Nat):Mn:=mC (rT s n) 0
def lstF(s:Lb)(n:Nat):Mn:=mC (rT s n)<|n-1
def bq(s:Lb)(n i j:Nat):Rat:=((rT s n).getD i []).getD j 0
def tq(s:Lb)(n i j:Nat):Rat:=(tA (tbl s n) i j:Rat)
theorem bkq(h:IsSl s n)(e:dU s n=[]):Bk n (tq s n) (bq s n):=yq h e
theorem tzq(h:IsSl s n):Tz n (tq s n):=yt h
theorem qQ(h:IsSl s n)(e:dU s n=[]):(fA s n).length=n:=by unfold fA;rw[GP,(qP h e).1]
theorem lst_len(h:IsSl s n)(e:dU s n=[]):(lstF s n).length=n:=by unfold lstF;rw[GP,(qP h e).1]
theorem yw(h:IsSl s n)(e:dU s n=[])(hk:k<n):(fA s n).getD k 0=bq s n k 0:=Ia (by rw[(qP h e).1];exact hk)
theorem lst_at'(h:IsSl s n)(e:dU s n=[])(hk:k<n):(lstF s n).getD k 0=bq s n k (n-1):=Ia (by rw[(qP h e).1];exact hk)
theorem Ig(h:IsSl s n)(k1:1<=k)(hk:k<=n)(hi:i<k)(hj:j<k):tq (cor s n k) k i j=tq s n i j:=by unfold tq;rw[tA_ent (iD h k1 hk) hi hj,tA_ent h tv<|tv,Zj h hk hi hj]
theorem Od(h:IsSl s n)(hi:i<n)(hj:j<n):(fN (tA<|tbl s n) n j i).natAbs<=2^36:=by
 have hs:=B.C.tbl_Sm h;have n5:=h.n5;have p:=B.C.prt_sm hs hi hj;rw[<-NT hs n5 hi hj,eh];have e:(B.C.sgn i j).natAbs=1:=by rcases B.C.sgn_one i j with z|z<;>rw[z]<;>rfl
 rw[e,Nat.mul_one,yh p<|tv];have:=AR p tv;unfold bT at this;rw[p.len]at this;refine gP this<|lT wp ?_;have:n-1<=4:=tv
 exact gP (hJ this<|bU<|6+3) wp
theorem dt_sz(h:IsSl s n):(dt (tA<|tbl s n) n).natAbs<=2^45:=by have hs:=B.C.tbl_Sm h;have:=AR hs h.n5;unfold bT at this;rw[gW]at this;exact gP this<|lT wp (gP (hJ h.n5<|bU<|6+3)<|wp)
theorem Zt(h:IsSl s n)(e:dU s n=[])(hi:i<n)(hj:j<n):Sz 50 (bq s n i j):=by unfold bq;rw[(qP h e).2 i j hi hj,<-l3];have a:=Od h hi hj;have b:=dt_sz h;exact u3 ((rX h).mp e) (lV a<|wp)<|lV b wp
theorem Oe(h:IsSl s n)(e:dU s n=[]):∀x∈fA s n,Sz 50 x:=λx hx=>by
 obtain⟨i,hi,ex⟩:=Ybv.mp hx;rw[qQ h e]at hi;have:(fA s n).getD i 0=x:=by rw[aW,bP (by rw[qQ h e];exact hi)];exact ex
 rw[<-this,yw h e hi];exact Zt h e hi tv
theorem lst_sz(h:IsSl s n)(e:dU s n=[]):∀x∈lstF s n,Sz 50 x:=λx hx=>by
 obtain⟨i,hi,ex⟩:=Ybv.mp hx;rw[lst_len h e]at hi;have:(lstF s n).getD i 0=x:=by rw[aW,bP (by rw[lst_len h e];exact hi)];exact ex
 rw[<-this,lst_at' h e hi];exact Zt h e hi (by have:=h.n1;omega)
theorem tims_len(r:Mn):(bJ s n r).length=n:=by unfold bJ;rw[aZ,gW]
theorem tims_at(h:IsSl s n)(hr:r.length=n)(hi:i<n):(bJ s n r).getD i 0=aG (λj=>tq s n i j*r.getD j 0) n:=by
 have e1:bJ s n r=(fb s n).map λl=>bD l r:=by unfold bJ fb;rw[List.map_map];rfl
 rw[e1,aW,cJ];have:(fb s n)[i]? = some ((fb s n).getD i []):=by rw[aW,bP (by rw[ox];exact hi)];rfl
 rw[this];exact AM h hi hr
theorem bq00(h:IsSl s n)(e:dU s n=[])(e':n=1\/2<=n/\dU (cor s n<|n-1) (n-1)=[]):bq s n 0 0≠0:=by
 have n1:=h.n1;unfold bq;rw[(qP h e).2 0 0 tv<|tv];have dz:(dt (tA<|tbl s n) n:Rat)≠0:=by exact_mod_cast (rX h).mp e
 have cz:(fN (tA<|tbl s n) n 0 0:Rat)≠0:=by
  have:fN (tA<|tbl s n) n 0 0≠0:=by
   unfold fN;rw[show sg (0+0)=1 from rfl,uE];rcases e' with rfl|⟨n2',e'⟩
   exact show(1:Int)≠0 by decide
   have n2:1<=n-1:=tv
   have c:=iD h n2<|Nat.sub_le n 1;have:=(rX c).mp e';rw[<-rW (A:=tA<|tbl (cor s n<|n-1)<|n-1) (B:=cut (tA<|tbl s n) 0 0) λi hi j hj=>?_]
   exact this;show _=tA (tbl s n) (i+1) (j+1);rw[tA_ent c hi hj,Zj h (Nat.sub_le n 1) hi hj,tA_ent h tv<|tv];unfold ent;rw[show n-1-i+j=n-1-(i+1)+(j+1) by omega]
  exact_mod_cast this
 intro z;rw[dH]at z;rcases Ydd.mp z with z|z
 exact cz z;have:=jQ _ dz;rw[z,dI]at this;exact QS this wp
end
section
theorem Eh{a:Mn}:(a++[0]).getD k 0=a.getD k 0:=by
 rw[yo];split;rfl;rename_i h;have:a.getD k 0=0:=by rw[aW,dX<|tv];rfl
 rw[this];cases k-a.length<;>rfl
theorem Of{a:Mn}:((0:Rat)::a).getD (k+1) 0=a.getD k 0:=uN
def cO(s:Lb)(n:Nat):Mn:=fA (cor s (n+1) n) n++[0]
def cW(s:Lb)(n:Nat):Mn:=0::lstF (cor s (n+1) n) n
def gv(s:Lb)(n:Nat):Rat:=(bJ s (n+1)<|cO s n).getD n 0
def ij(s:Lb)(n:Nat):Rat:=(bJ s (n+1)<|cW s n).getD 0 0
def cZ(s:Lb)(n:Nat):Rat:=1-gv s n*ij s n
theorem Ei(h:IsSl s (n+1))(n1:1<=n)(ec:dU (cor s (n+1) n) n=[])(hi:i<n+1):aG (λk=>tq s (n+1) i k*(cO s n).getD k 0) (n+1)=if i=n then gv s n else dl i 0:=by
 have c:=iD h n1<|pH n;have bl:(cO s n).length=n+1:=by unfold cO;rw[dA,qQ c ec];rfl
 split;rename_i e;subst e;rw[<-tims_at h bl hi];rfl;rename_i e;have hi':i<n:=tv
 rw[aG];have z:(cO s n).getD n 0=0:=by unfold cO;rw[Eh,aW,dX (by rw[qQ c ec];exact bU _)];rfl
 rw[z,dI,km,<-(bkq c ec).tb i 0 hi' tv];refine bV λk hk=>?_;unfold cO;rw[Eh,yw c ec hk,Ig h n1 (pH n) hi' hk]
theorem Ej(h:IsSl s (n+1))(n1:1<=n)(ec:dU (cor s (n+1) n) n=[])(hi:i<n+1):aG (λk=>tq s (n+1) i k*(cW s n).getD k 0) (n+1)=if i=0 then ij s n else dl i n:=by
 have c:=iD h n1<|pH n;have bl:(cW s n).length=n+1:=by unfold cW;rw[dD,lst_len c ec]
 split;rename_i e;subst e;rw[<-tims_at h bl hi];rfl;rename_i e;obtain⟨i',rfl⟩:∃i',i=i'+1:=⟨i-1,tv⟩;rw[u8];have z:(cW s n).getD 0 0=0:=rfl;rw[z,dI,vv];have:dl (i'+1) n=dl i' (n-1):=by unfold dl;by_cases q:i'+1=n;rw[ks q,ks<|tv];rw[jx q,jx<|tv]
 rw[this,<-(bkq c ec).tb i' (n-1) tv tv];refine bV λk hk=>?_;unfold cW;rw[Of,lst_at' c ec hk,Ig h n1 (pH n) tv hk,(tzq h).sl (i'+1) (k+1) i' k tv tv tv tv<|tv]
theorem Ek(h:IsSl s (n+1))(n1:1<=n)(e:dU s (n+1)=[])(ec:dU (cor s (n+1) n) n=[])(e2:n=1\/2<=n/\dU (cor s (n+1)<|n-1) (n-1)=[]):cZ s n≠0:=by
 intro z;have c:=iD h n1<|pH n;have b0:bq (cor s (n+1) n) n 0 0≠0:=bq00 c ec<|e2.imp id λ⟨a,b⟩=>⟨a,by rw[cor_cor (pH n) (Nat.sub_le n 1) tv h];exact b⟩;have x:=(bkq h e).solve (X:=λk=>(cO s n).getD k 0 - gv s n*(cW s n).getD k 0) (y:=λ_=>0) (λi hi=>by
  rw[bV (g:=λk=>tq s (n+1) i k*(cO s n).getD k 0-gv s n*(tq s (n+1) i k*(cW s n).getD k 0))<|λk _=>by grind,p6,sumN_mul,Ei h n1 ec hi,Ej h n1 ec hi];unfold cZ at z
  by_cases i0:i=0
  .subst i0
   rw[jx<|tv,ks rfl,rY];exact z
  .rw[jx i0]
   by_cases i2:i=n
   .subst i2;rw[ks rfl,rY];grind
   .rw[jx i2,rZ i2,rZ i0];grind) (k:=0) tv
 rw[jU<|λm _=>dI _]at x;have:(cO s n).getD 0 0=bq (cor s (n+1) n) n 0 0:=by unfold cO;rw[Eh,yw c ec<|tv]
 rw[this]at x;have z2:(cW s n).getD 0 0=0:=rfl;rw[z2]at x;exact b0 (by grind)
theorem Og(h:IsSl s (n+1))(n1:1<=n)(e:dU s (n+1)=[])(ec:dU (cor s (n+1) n) n=[])(e2:n=1\/2<=n/\dU (cor s (n+1)<|n-1) (n-1)=[]):dS (aX (cO s n) (gv s n)<|cW s n) (cZ s n)=fA s (n+1):=by
 have c:=iD h n1<|pH n;have lz:=Ek h n1 e ec e2;have bl:(cO s n).length=n+1:=by unfold cO;rw[dA,qQ c ec];rfl
 have el:(cW s n).length=n+1:=by unfold cW;rw[dD,lst_len c ec]
 refine Eg (n:=n+1) (by rw[Ie,oA<|tv,bl]) (qQ h e) λk hk=>?_;rw[yw h e hk];refine(bkq h e).uniq (X:=λk=>(dS (aX (cO s n) (gv s n)<|cW s n)<|cZ s n).getD k 0) tv (λi hi=>?_) hk;rw[bV (g:=λk=>(cZ s n)⁻¹*(tq s (n+1) i k*(cO s n).getD k 0-gv s n*(tq s (n+1) i k*(cW s n).getD k 0))) (λk _=>by rw[by_at,Id<|tv,dH];grind),sumN_mul,p6,sumN_mul,Ei h n1 ec hi,Ej h n1 ec hi];by_cases i0:i=0;subst i0;rw[jx<|tv,ks rfl,rY];exact ss _ lz;rw[jx i0,rZ i0];by_cases i2:i=n;subst i2;rw[ks rfl,rY];grind;rw[jx i2,rZ i2];grind
theorem Oh(h:IsSl s (n+1))(n1:1<=n)(e:dU s (n+1)=[])(ec:dU (cor s (n+1) n) n=[])(e2:n=1\/2<=n/\dU (cor s (n+1)<|n-1) (n-1)=[]):dS (aX (cW s n) (ij s n)<|cO s n) (cZ s n)=lstF s (n+1):=by
 have c:=iD h n1<|pH n;have lz:=Ek h n1 e ec e2;have bl:(cO s n).length=n+1:=by unfold cO;rw[dA,qQ c ec];rfl
 have el:(cW s n).length=n+1:=by unfold cW;rw[dD,lst_len c ec]
 refine Eg (n:=n+1) (by rw[Ie,oA<|tv,el]) (lst_len h e) λk hk=>?_;rw[lst_at' h e hk,show n+1-1=n by omega];refine(bkq h e).uniq (X:=λk=>(dS (aX (cW s n) (ij s n)<|cO s n)<|cZ s n).getD k 0) tv (λi hi=>?_) hk;rw[bV (g:=λk=>(cZ s n)⁻¹*(tq s (n+1) i k*(cW s n).getD k 0-ij s n*(tq s (n+1) i k*(cO s n).getD k 0))) (λk _=>by rw[by_at,Id<|tv,dH];grind),sumN_mul,p6,sumN_mul,Ei h n1 ec hi,Ej h n1 ec hi];by_cases i2:i=n;subst i2;rw[jx<|tv,ks rfl,rY];have:(cZ s i)⁻¹*cZ s i=1:=ss _ lz;unfold cZ at this ⊢;rw[lZ<|ij s i];exact this;rw[jx i2,rZ i2];by_cases i0:i=0;subst i0;rw[ks rfl,rY];grind;rw[jx i0,rZ i0];grind
end
end Gs
open Gs
theorem Ih(R:E8):∀p:Nat,(bX R p).ld.length+(bX R p).rs.length=R.length
 |0=>by simp[bX]|p+1=>by have ih:=Ih R p;rw[bX];generalize bX R p=x at ih;unfold pW;split;exact ih;rename_i a e;obtain⟨h1,_⟩:=pX e;show(bM _ _ _++[_]).length+(bM _ _ _).length=_;unfold bM;simp only[dA,aZ,kf,fZ,iq];omega
theorem Ec.zero{R ld rs:E8}{pl:Ry}(h:Ec n R n ld pl rs){x:Mn}(lx:x.length=n)(x0:∀r∈R,bD r x=0)(xf:∀t,t<n->t∉pl->x.getD t 0=0):∀t,t<n->x.getD t 0=0:=λt ht=>by
 by_cases hm:t∈pl;obtain⟨i,hi,e⟩:=Ybv.mp hm;have e':pl.getD i 0=t:=by rw[aW,bP hi];exact e
 have hi':i<ld.length:=by rw[h.ll];exact hi
 have wl:=h.wl _<|fv hi';have d1:=((h.nul _ lx).mp x0).1 _<|fv hi';rw[iH _ x n wl lx,gL (k:=t) ht]at d1
 have o:=h.one i i hi' hi;rw[e',ks rfl]at o;rw[o,mP]at d1;exact d1;intro j hj ne;by_cases hm2:j∈pl;obtain⟨k,hk,ek⟩:=Ybv.mp hm2;have ek':pl.getD k 0=j:=by rw[aW,bP hk];exact ek
 have oz:=h.one i k hi' hk;rw[ek',jx<|λz=>ne<|by rw[<-ek',<-z,e']]at oz;rw[oz,fH];rw[xf j hj hm2,dI];exact xf t ht hm
theorem Oi{R:E8}(hR:∀r∈R,r.length=m)(hl:R.length<m):∃c:Mn,c.length=m/\(∃k,k<m/\c.getD k 0≠0)/\∀r∈R,bD r c=0:=by
 have ec:=rV hR m<|bU _;have cn:=Ih R m;have:∃k,k<m/\k∉(bX R m).pl:=by refine Classical.byContradiction λhc=>?_;have all:∀k,k<m->k∈(bX R m).pl:=λk hk=>Classical.byContradiction λz=>hc ⟨k,hk,z⟩;have e:(bX R m).pl=List.range m:=ul ec.asc (va m) λx=>⟨λhx=>Yah.mpr<|ec.lt x hx,λhx=>all x<|Yah.mp hx⟩;have l:=ec.ll;rw[e,fh]at l;omega
 obtain⟨k,hk,hn⟩:=this;obtain⟨l,f0⟩:=ec.free hk hn;refine⟨_,l,⟨k,hk,?_⟩,f0⟩;rw[yj _ _ _ (by rw[jT];exact ec.lt) hn,j9 hk,ks rfl];decide +kernel
section
def yx(s:Lb)(n:Nat):Ry:=(dk s n).pl
def El(s:Lb)(n:Nat):Ry:=(List.range n).filter λp=>!(yx s n).contains p
theorem Oj(h:IsSl s n):Ec n (fb s n) n (dk s n).ld (yx s n) (dk s n).rs:=rV (n:=n) (R:=fb s n) (λr hr=>(pY h r hr).len) n<|bU _
theorem Ol:dU s n=(El s n).map λp=>dr p (dk s n).ld (yx s n) (bG n p):=by unfold dU El yx mE;exact jg λp _=>DO _ _ _ _
def HB(k:Nat)(e:Int)(x:Rat):Prop:=∃a:Int,a.natAbs<=k*2^228/\x=Rat.divInt a (6*e)
end
def iI(s:Lb)(n:Nat):D:=.tup [aE<|fA s n,aE<|lstF s n]
def Ii:Ry->D
 |[]=>.non|k::_=>.int (k:Int)
def Em(x:D):Except Str D:=gg x<|.ok (Ii<|lm (sI x)<|sN x)
def yy:bN:=xS (λx:D=>[x]) (λx=>kd x=true) Em
def AT:bN:=fnS (λx:SL=>[aJ x.1]) (λx=>IsSl x.1 x.2/\Stg x.1 x.2) λ_=>.non
def AU:bN:=fnS (λx:SL=>[aJ x.1]) (λx=>IsSl x.1 x.2/\Stg x.1 x.2) λx=>iI (cor x.1 x.2 1) 1
def AV:bN:=fnS (λx:SL=>[aJ x.1,iI (cor x.1 (x.2+1) x.2) x.2]) (λx=>IsSl x.1 (x.2+1)/\1<=x.2/\Stg x.1 (x.2+1)) λx=>iI x.1<|x.2+1
def AW:bN:=fnS (λx:SL=>[aJ x.1]) (λx=>IsSl x.1 x.2/\Stg x.1 x.2) λx=>.lst<|(List.range x.2).map λk=>iI (cor x.1 x.2<|k+1) (k+1)
section
variable{E:RE}{x:D}{r:Lb}
theorem Ij(h:IsSl s n)(q:Q (Ii<|lm s n)):yy [aJ s] E Q:=xS.ok (aJ s) rfl h.kd (by(try dsimp only);unfold Em;rw[Zb h,d8,h.sN]) q
theorem Om(h:IsSl s n)(g:Stg s n)(q:Q .non):AT [aJ s] E Q:=⟨(s,n),rfl,⟨h,g⟩,q⟩
theorem On(h:IsSl s n)(g:Stg s n)(q:Q (iI (cor s n 1) 1)):AU [aJ s] E Q:=⟨(s,n),rfl,⟨h,g⟩,q⟩
theorem Oo(h:IsSl s (n+1))(n1:1<=n)(g:Stg s (n+1))(q:Q (iI s<|n+1)):AV [aJ s,iI (cor s (n+1) n) n] E Q:=⟨(s,n),rfl,⟨h,n1,g⟩,q⟩
theorem Op(h:IsSl s n)(g:Stg s n)(q:Q (.lst<|(List.range n).map λk=>iI (cor s n<|k+1)<|k+1)):AW [aJ s] E Q:=⟨(s,n),rfl,⟨h,g⟩,q⟩
end
abbrev ZhK:Rv:=["slants", "sizes"]
def En:WS:=(aH (aQ 1<|wF AO<|aC (wN 0) aA)<|aI<|kz (wT<|w2 jK (wB bZ<|aC (wN 1) aA)<|wC<|.int<|0) (w2 gIx (wN 1)<|wC<|.int<|0)<|wC D.non)
abbrev ZgR:Rv:=["slants", "size"]
def Eo:WS:=(aH (aQ 1<|wF yy<|aC (wN 0) aA)<|cP (wT<|w2 (gIsC true) (wN 1)<|wC D.non) lg cR)
abbrev ZhL:Rv:=["slants", "row"]
def Ep:WS:=(aH (aQ 1<|wF rS<|aC (bO<|aC (wC<|D.tup [(D.int<|1),(D.int<|1)]) aA)<|aC (w2 gIx (wF tX<|aC (wF rN<|aC (wN 0)<|aC (wC<|.int<|1) aA) aA)<|wC<|.int<|0) aA)<|aI<|bO<|aC (wN 1)<|aC (wN 1) aA)
abbrev ZgT:Rv:=["slants", "step", "first", "last", "below", "above", "left"]
def Er:WS:=(aH (aQ 2<|w2 gAdd (w2 gIx (wN 1)<|wC<|.int<|0)<|bO<|aC (wC<|D.tup [(D.int<|0),(D.int<|1)]) aA)<|aH (aQ 3<|w2 gAdd (bO<|aC (wC<|D.tup [(D.int<|0),(D.int<|1)]) aA)<|w2 gIx (wN 1)<|wC<|.int<|1)<|aH (aQ 4<|w2 gIx (wF rP<|aC (wN 0)<|aC (wN 2) aA)<|w1 j5<|wC<|.int<|1)<|aH (aQ 5<|w2 gIx (wF rP<|aC (wN 0)<|aC (wN 3) aA)<|wC<|.int<|0)<|aH (aQ 6<|wF qG<|aC (wC<|D.tup [(D.int<|1),(D.int<|1)])<|aC (wF qH<|aC (wN 4)<|aC (wN 5) aA) aA)<|aI<|bO<|aC (wF rS<|aC (wF ou<|aC (wN 2)<|aC (wN 4)<|aC (wN 3) aA)<|aC (wN 6) aA)<|aC (wF rS<|aC (wF ou<|aC (wN 3)<|aC (wN 5)<|aC (wN 2) aA)<|aC (wN 6) aA) aA)
abbrev Zj2:Rv:=["slants", "steps", "size"]
def Es:WS:=(aH (fK<|wF AT<|aC (wN 0) aA)<|aH (cH 1<|cF<|aC (wF AU<|aC (wN 0) aA) aA)<|aH (bH<|bS (jr<|aC (wC<|.int<|2)<|aC (w2 gAdd (wF jR<|aC (wN 0) aA)<|wC<|.int<|1) aA) (gN 2)<|df 1<|eH 1<|wF AV<|aC (wF rN<|aC (wN 0)<|aC (wN 2) aA)<|aC (w2 gIx (wN 1)<|w1 j5<|wC<|.int<|1) aA)<|cc 1<|aI<|wN 1)
section
theorem Zp{b:Nat}:∀{a c:Mn},(∀x∈a,Sz 7 x)->(∀x∈c,Sz b x)->Sz (a.length*(b+8)+1) (bD a c)
 |[],c,_,_=>by unfold bD;exact Sz.zero tv|_::_,[],_,_=>by unfold bD;exact Sz.zero tv|x::a,y::c,ha,hc=>by rw[bD];have ih:=Zp (a:=a) (c:=c) (b:=b) (λz hz=>ha z<|by simp[hz]) λz hz=>hc z (by simp[hz]);exact(((ha x<|E1).mul<|hc y<|E1).add ih).mono (by rw[dD,mK];omega)
theorem Zo(h:IsSl s n)(hr:∀x∈r,Sz b x):∀x∈bJ s n r,Sz (5*(b+8)+1) x:=λx hx=>by
 unfold bJ at hx;obtain⟨l,hl,rfl⟩:=YbT.mp hx;obtain⟨h1,h2⟩:=jS h l hl;have:=Zp (a:=dg l) (c:=r) (b:=b) (λz hz=>by
  obtain⟨i,hi,rfl⟩:=YbT.mp hz;exact(Ai<|h2 i hi).mono<|wp) hr
 have e:(dg l).length=n:=by unfold dg;rw[aZ];exact h1
 rw[e]at this;exact this.mono (by have:=hJ h.n5 (bU<|b+8);omega)
theorem Ik(h:IsSl s n)(hr:∀x∈r,Sz b x)(hi:i<n):(bJ s n r)[i]? = some ((bJ s n r).getD i 0)/\Sz (5*(b+8)+1) ((bJ s n r).getD i 0):=by
 have e:(bJ s n r)[i]? = some ((bJ s n r).getD i 0):=by rw[aW,bP (by rw[tims_len];exact hi)];rfl
 exact⟨e,Zo h hr _<|iK e⟩
theorem Oq(hn:r.length=n)(h:1<=n):et (r.map aN) (-1)=some (aN<|r.getD (n-1) 0):=by unfold et kS;rw[aZ,hn,jx<|wp,ks<|tv,show(-1+(n:Int)).toNat=n-1 by omega];show(r.map aN)[n-1]? = _;rw[cJ,aW,bP<|tv];rfl
end
theorem Os:Rd yy En ZhK:=by
 rintro _ E Q ⟨x,rfl,hk,q⟩;show En E _ [.d x,.un];unfold En;unfold Em at q;cases e:e8 x with
 |false=>
  refine cB ?_;ext;exact xS.err x rfl hk (lN e)<|jM e q
 |true=>
 obtain⟨s,n,rfl,h⟩:=kF e;replace q:=jN h q;rw[d8,h.sN]at q;refine cB<|LP.set_by (d:=kI<|lm s n) (ρ':=[.d<|aJ s,.d<|kI<|lm s n]) (by rfl) (λP hP=>?_) ?_
 .ext
  exact N1 h hP
 dsimp only;generalize lm s n=W at q;unfold kI;cases W with
 |nil=>
  ext;exact q
 |cons k W=>
  ext;rw[QT<|E1];simp only[if_true];exact⟨_,bY (j:=0) rfl,q⟩
theorem Ot:Rd AT Eo ZgR:=by
 rintro _ E Q ⟨⟨s,n⟩,rfl,⟨h,g⟩,q⟩;dsimp only at h g q;show Eo E _ [.d<|aJ s,.un];unfold Eo;refine cB<|LP.set_by (d:=.non) (ρ':=[.d<|aJ s,.d .non]) (by rfl) (λP hP=>?_) ?_
 ext;refine Ij h ?_;rw[(wk_stg h).mpr g];exact hP;dsimp only;refine gp (b:=false) (λP hP=>?_) (λe=>nomatch e) λ_=>q;ext;exact⟨rfl,hP⟩
theorem Ou(h:IsSl s 1)(e:dU s 1=[]):s.getD 0 0≠0/\dS [1] (s.getD 0 0:Rat)=fA s 1:=by
 have hl:=h.len;have d:dt (tA<|tbl s 1) 1=s.getD 0 0:=by show tA (tbl s 1) 0 0=_;rw[tA_ent h wp<|wp];rfl
 refine⟨by rw[<-d];exact(rX h).mp e,?_⟩;refine Eg (n:=1) rfl (qQ h e) λk hk=>?_;obtain rfl:k=0:=tv
 rw[yw h e<|wp];unfold Gs.bq;rw[(qP h e).2 0 0 wp<|wp,d];rfl
theorem Ov:Rd AU Ep ZhL:=by
 rintro _ E Q ⟨⟨s,n⟩,rfl,⟨h,g⟩,q⟩;dsimp only at h g q;have n1:=h.n1;have c:=iD h (bU 1) n1;have ec:=g 1 (bU _) n1;obtain⟨z,ef⟩:=Ou c ec;have cl:=c.len;have c5:(cor s n 1).length<=5000:=tv
 have q':Q (.tup [aE<|fA (cor s n 1) 1,aE<|fA (cor s n 1) 1]):=q;clear q;show Ep E _ [.d<|aJ s,.un];unfold Ep;refine cB<|LP.set_by (d:=aE<|fA (cor s n 1) 1) (ρ':=[.d<|aJ s,.d<|aE<|fA (cor s n 1) 1]) (by rfl) (λP hP=>?_) ?_
 ext;refine⟨wp,?_⟩;refine Af h (bU 1) n1<|LA (xs:=cor s n 1) c5 ?_;have c0:(dg<|cor s n 1).getD 0 0=((cor s n 1).getD 0 0:Rat):=by unfold dg;rw[aW,cJ,aW,bP<|tv];rfl
 refine⟨_,AB (r:=dg<|cor s n 1) (k:=0) (by unfold dg;rw[aZ];omega),?_⟩;rw[c0];rw[<-ef]at hP;have b0:-50<=(cor s n 1).getD 0 0/\(cor s n 1).getD 0 0<=50:=by refine c.b _ ?_;rw[aW,bP<|tv];exact gQ _
 exact xC (b:=10) (r:=[1]) wp wp (λy hy=>by rw[YcO.mp hy];exact Sz.int (n:=10) 1 wp<|wp) ((Ai b0).mono<|wp) (by exact_mod_cast z) hP;dsimp only;ext;exact⟨wp,q'⟩
theorem Ow:Rd AV Er ZgT:=by
 rintro _ E Q ⟨⟨s,n⟩,rfl,⟨h,n1,g⟩,q⟩;dsimp only at h n1 g q;have n5:=h.n5;have c:=iD h n1<|pH n;have ec:=g n n1<|pH n;have e:=g.full h;have e2:n=1\/2<=n/\dU (cor s (n+1)<|n-1) (n-1)=[]:=by
  rcases gx n 2 with z|z
  exact .inl tv;exact .inr ⟨z,g (n-1) tv<|tv⟩
 have lz:=Ek h n1 e ec e2;have lf:=Og h n1 e ec e2;have ll:=Oh h n1 e ec e2;have fl:=qQ c ec;have el:=lst_len c ec;have bl:(cO s n).length=n+1:=by unfold cO;rw[dA,fl];rfl
 have nl:(cW s n).length=n+1:=by unfold cW;rw[dD,el]
 have bs:∀x∈cO s n,Sz 50 x:=λx hx=>by
  unfold cO at hx;rcases Yao.mp hx with hx|hx
  exact Oe c ec x hx;rw[YcO.mp hx];exact Sz.zero wp
 have es:∀x∈cW s n,Sz 50 x:=λx hx=>by
  unfold cW at hx;rcases Yan.mp hx with rfl|hx
  exact Sz.zero wp;exact lst_sz c ec x hx
 obtain⟨g1,z1⟩:=Ik (i:=n) h bs tv;obtain⟨g2,z2⟩:=Ik (i:=0) h es tv;have zb:Sz 291 (gv s n):=z1;have za:Sz 291 (ij s n):=z2;have zl:Sz 600 (cZ s n):=((Sz.int (n:=1) 1 wp<|wp).sub<|zb.mul za).mono wp;have q':Q (.tup [aE<|fA s<|n+1,aE<|lstF s<|n+1]):=q;clear q;have hb:D.tup ((fA (cor s (n+1) n) n).map aN++[D.tup [.int 0,.int 1]])=aE (cO s n):=by unfold cO aE;rw[gR];rfl
 have he:D.tup ([D.tup [.int 0,.int 1]]++(lstF (cor s (n+1) n) n).map aN)=aE (cW s n):=rfl;show Er E _ [.d<|aJ s,.d<|iI (cor s (n+1) n) n,.un,.un,.un,.un,.un];unfold Er;refine cB<|LP.set_by (d:=aE<|cO s n) (ρ':=[.d<|aJ s,.d<|iI (cor s (n+1) n) n,.d<|aE<|cO s n,.un,.un,.un,.un]) (by rfl) (λP hP=>?_) ?_
 unfold iI;ext;refine⟨_,bY (j:=0) rfl,wp,?_⟩;rw[<-hb]at hP;exact⟨eJ (by simp;omega),hP⟩;dsimp only;refine cB<|LP.set_by (d:=aE<|cW s n) (ρ':=[.d<|aJ s,.d<|iI (cor s (n+1) n) n,.d<|aE<|cO s n,.d<|aE<|cW s n,.un,.un,.un]) (by rfl) (λP hP=>?_) ?_
 unfold iI;ext;refine⟨wp,_,bY (j:=1) rfl,?_⟩;rw[<-he]at hP;exact⟨eJ (by simp;omega),hP⟩;dsimp only;refine cB<|LP.set_by (d:=aN<|gv s n) (ρ':=[.d<|aJ s,.d<|iI (cor s (n+1) n) n,.d<|aE<|cO s n,.d<|aE<|cW s n,.d<|aN<|gv s n,.un,.un]) (by rfl) (λP hP=>?_) ?_
 ext;refine xa h bl ⟨50,bs,wp⟩ ⟨_,Oq (tims_len _)<|tv,?_⟩;exact hP;dsimp only;refine cB<|LP.set_by (d:=aN<|ij s n) (ρ':=[.d<|aJ s,.d<|iI (cor s (n+1) n) n,.d<|aE<|cO s n,.d<|aE<|cW s n,.d<|aN<|gv s n,.d<|aN<|ij s n,.un]) (by rfl) (λP hP=>?_) ?_
 ext;refine xa h nl ⟨50,es,wp⟩ ⟨_,AB (k:=0) (by rw[tims_len];omega),?_⟩;exact hP;dsimp only;refine cB<|LP.set_by (d:=aN<|cZ s n) (ρ':=[.d<|aJ s,.d<|iI (cor s (n+1) n) n,.d<|aE<|cO s n,.d<|aE<|cW s n,.d<|aN<|gv s n,.d<|aN<|ij s n,.d<|aN<|cZ s n]) (by rfl) (λP hP=>?_) ?_
 ext;refine Dg (B2.of zb za<|wp) ?_;have:=Ab (E:=E) (Q:=P) (p:=1) (q:=gv s n*ij s n) (B2.of (Sz.int (n:=1) 1 wp<|wp) (zb.mul za)<|wp) hP;exact this;dsimp only;refine LP.ret_by (d:=.tup [aE<|fA s<|n+1,aE<|lstF s<|n+1]) (LP.pair_at (λP hP=>?_)<|λP hP=>?_) q';ext;refine xD (b:=291) wp tv (λy hy=>(bs y hy).mono<|wp) zb (λy hy=>(es y hy).mono<|wp) ?_;rw[<-lf]at hP;refine xC (b:=700) wp (by rw[oA<|tv];omega) (λy hy=>?_) (zl.mono<|wp) lz hP;unfold aX at hy;obtain⟨i,hi,ey⟩:=Ybv.mp hy;rw[lC]at ey;rw[<-ey];exact((bs _<|gQ _).sub<|zb.mul<|es _<|gQ _).mono wp;ext;refine xD (b:=291) wp tv (λy hy=>(es y hy).mono<|wp) za (λy hy=>(bs y hy).mono<|wp) ?_;rw[<-ll]at hP;refine xC (b:=700) wp (by rw[oA<|tv];omega) (λy hy=>?_) (zl.mono<|wp) lz hP;unfold aX at hy;obtain⟨i,hi,ey⟩:=Ybv.mp hy;rw[lC]at ey;rw[<-ey];exact((es _<|gQ _).sub<|za.mul<|bs _<|gQ _).mono wp
theorem Il(r:Mn):gk (aE r)=true:=by
 unfold aE;rw[gk];induction r with
 |nil=>rfl|cons a r ih=>rw[cN,pk,ih];rfl
theorem Ox(s:Lb)(n:Nat):gk (iI s n)=true:=by unfold iI;rw[gk,pk,pk,pk,Il,Il];rfl
theorem Oy:et (xs++[d]) (-1)=some d:=jZ xs d
theorem Oz:Rd AW Es Zj2:=by
 rintro _ E Q ⟨⟨s,n⟩,rfl,⟨h,g⟩,q⟩;dsimp only at h g q;have n1:=h.n1;have n5:=h.n5;show Es E _ [.d<|aJ s,.un,.un];unfold Es;refine cB ?_;simp only[fK,wF,aC,aA,wN,dN];refine Om h g ?_;let f:Nat->D:=λk=>iI (cor s n<|k+1)<|k+1
 refine cB<|LP.own_by (xs:=(List.range 1).map f) (ρ':=[.d<|aJ s,.ow<|(List.range 1).map f,.un]) (by rfl) (λP hP=>?_) ?_
 simp only[cF,wF,aC,aA,wN,dN];exact On h g ⟨show 1<=aO by decide,hP⟩;dsimp only;refine cB ?_;simp only[bH,bS,jr,aC,aA,wC,w2,wF,wN,dN];refine mU h ?_;ext;refine⟨tv,?_⟩;rw[show((n:Int)+1-2).toNat=n-1 by omega];refine MI 2 (λk ρ=>∃s2,ρ=[.d<|aJ s,.ow<|(List.range<|k+1).map f,s2]) (n-1) ?_ ?_ _ ⟨_,rfl⟩;rintro k hk _ ⟨s2,rfl⟩ nx hnx;have c:=iD h (show 1<=k+2 by omega) (show k+2<=n by omega);have gc:=g.cor h (show 1<=k+2 by omega) (show k+2<=n by omega);simp only[gN,List.set_cons_succ,List.set_cons_zero];show df _ _ _ _ [.d<|aJ s,.ow<|(List.range<|k+1).map f,.d<|.int<|2+k];rw[List.range_succ,gR]at hnx;have hl:((List.range<|k+1).map f).length=k+1:=E1
 have ha:et ((List.range<|k+1).map f) (-1)=some (iI (cor s n<|k+1)<|k+1):=by rw[List.range_succ,gR];exact Oy
 generalize (List.range<|k+1).map f=L at hl ha hnx;simp only[df,eH,pub,wF,aC,aA,wN,w2,w1,wC,dN,eA,List.set_cons_succ,List.set_cons_zero];have eC:(2+(k:Int))=((k+2:Nat):Int):=tv
 rw[eC];refine Af h (show 1<=k+2 by omega) (show k+2<=n by omega) ?_;ext;refine⟨_,ha,?_⟩;have:=Oo (E:=No) (Q:=λd=>gk d=true/\L.length<aO/\nx [.d<|aJ s,.ow<|L++[d],.d<|.int ((k+2:Nat):Int)]) c (show 1<=k+1 by omega) gc ⟨Ox _ _,by rw[hl];unfold aO;omega,hnx _ ⟨_,rfl⟩⟩;rw[Gs.cor_cor (show k+2<=n by omega) (show k+1<=k+2 by omega) tv h]at this;exact this;rintro _ ⟨s2,rfl⟩;rw[show n-1+1=n by omega];dsimp only;refine B.C.pub_by (ρ':=[.d<|aJ s,.d<|.lst<|(List.range n).map f,s2]) rfl ?_;exact q
namespace F4
def Et(x:D):Except Str D:=gg x<|.ok (.int<|(sN x:Int)-((dU (sI x)<|sN x).length:Int))
def S_rank_of:bN:=xS (λx:D=>[x]) (λx=>kd x=true) Et
section
variable{E:RE}{x:D}
theorem u_rank_of(h:IsSl s n)(q:Q (.int<|(n:Int)-((dU s n).length:Int))):S_rank_of [aJ s] E Q:=xS.ok (aJ s) rfl h.kd (by(try dsimp only);unfold Et;rw[Zb h,d8,h.sN]) q
end
abbrev N_rank_of:Rv:=["slants"]
abbrev ps_rank_of:Rv:=["slants"]
def z_rank_of:WS:=(aH (fK<|wF mT<|aC (wN 0) aA)<|aI<|w2 i6 (wF jR<|aC (wN 0) aA)<|wF AA<|aC (wN 0) aA)
theorem rd_rank_of:Rd S_rank_of z_rank_of N_rank_of:=by
 rintro _ E Q ⟨x,rfl,hk,q⟩;unfold z_rank_of;walk_at "n";unfold Et at q;cases e:e8 x with
 |false=>exact Ae hk e<|jM e q
 |true=>
 obtain⟨s,n,rfl,h⟩:=kF e;replace q:=jN h q;rw[d8,h.sN]at q;refine Ad h ?_;ext;refine mU h<|Ng h ?_;ext;exact q
end F4
namespace G.V5
theorem size_w(h:IsSl s n){P:RG}(hP:P (.int n)):bZ [aJ s] λx=>gAdd x (.int 1) λy=>h9 y (.int 2) P:=by have hl:=h.len;unfold aJ;ext;rw[aZ];refine⟨⟨wp,B.C.bd_of (b:=3) wp<|wp⟩,?_⟩;rw[show((s.length:Int)+1).fdiv 2=n from by rw[BV _<|wp];omega];exact hP
end G.V5
section
theorem OA(h:IsSl s n)(k1:1<=k)(kn:k<=n):cor s.reverse n k=(cor s n k).reverse:=by have hl:=h.len;unfold cor;refine uM E1 λi h1 h2=>?_;simp only[fZ,iq,vo]at h1;simp only[List.getElem_take,List.getElem_drop,List.getElem_reverse,fZ,iq];congr 1;omega
end
structure OB(K:QR)(mg:K8)(x qual f:Str)(st:Stmt):Prop where
 h:∃(C fI:Addr) (od:Option Addr) (osl:Array (Option Value)) (kV doc pm:Value) (an:Option Addr) (cdv ct:Value),ku K x=some C/\mg x=some (.ref C)/\Fl.clsF K C Fl.bmV "ValueError.__new__" f fI=true/\
  K.lookup fI=some ⟨.type "function",od,.func<|PySem.W.fnOf "__init__" qual (dm st) (cI st) (aP st) .none kV doc pm an cdv ct,osl⟩/\PySem.W.codeIn K cdv qual=true/\PySem.W.keepIn K (.ref fI)=true
section
variable{P:Program}{w:World}{qual f:Str}
theorem OC{hp:Heap}(X:K.In hp)(G:hp.Ns mainGlobals mg){C fI:Addr}{kV doc pm cdv ct:Value}{dd:Option Addr}{cd:ClassData}(a:PySem.W.nsIn K mainGlobals x=some (some<|.ref C))(lc:K.lookup C=some ⟨.type "type",dd,.cls cd,sl⟩)(ni:PySem.W.nsIn K cd.ns "__init__" = some (some<|.ref fI))(q:Fl.clsF K C Fl.bmV "ValueError.__new__" f fI=true)
  (l:K.lookup fI=some ⟨.type "function",od,.func<|PySem.W.fnOf "__init__" qual (dm st) (cI st) (aP st) .none kV doc pm an cdv ct,osl⟩) (c:PySem.W.codeIn K cdv qual=true) (kp:PySem.W.keepIn K (.ref fI)=true):OB K mg x qual f st:=
 ⟨C,fI,od,osl,kV,doc,pm,an,cdv,ct,t9 a,PySem.W.mg_of X G a,q,l,c,kp⟩
end
abbrev QO:Rv:=["NoSlants", "NoRow", "NoNumber", "NoLine", "NotEven", "NotFull", "NotStrong1", "NotStrong2", "NotStrong3", "NotStrong4", "NotStrong5"]
namespace G.V9.W
def sg2(x y:Int):Int:=if 0<x*y then 1 else -1
def cgF(s:Lb)(n:Nat):Lb:=List.zipWith sg2 (1::fw s n)<|fw s n
end G.V9.W
def bf(T:Nat->Rx)(n:Nat)(u v:Rx):Rat:=aG (λi=>u i*aG (λj=>T i j*v j) n) n
def dO(c:Rx)(U:Nat->Rx)(m:Nat):Nat->Rat:=λk=>aG (λa=>c a*U a k) m
theorem vb(f:Rx)(n:Nat):∀m:Nat,aG f (n+m)=aG f n+aG (λj=>f<|n+j) m
 |0=>by simp only[aG,Nat.add_zero];grind|m+1=>by rw[Nat.add_succ,aG,vb f n m,aG];grind
theorem AX{f:Rx}:∀{n:Nat},(∀i,i<n->0<=f i)->0<=aG f n
 |0,_=>by simp only[aG];grind|n+1,h=>by have h1:=AX (f:=f) (n:=n) λi hi=>h i tv;have h2:=h n tv;rw[aG];grind
theorem Eu{f:Rx}:∀{n:Nat},(∀i,i<n->0<=f i)->aG f n<=0->∀i,i<n->f i=0
 |0,_,_,i,hi=>by omega|n+1,h,h0,i,hi=>by have h1:=AX (f:=f) (n:=n) λi hi=>h i tv;have h2:=h n tv;rw[aG]at h0;by_cases e:i=n;subst e;grind;exact Eu (n:=n) (λi hi=>h i<|tv) (by grind) i tv
section
variable{T:Nat->Rx}
theorem oB{u v u' v':Rx}(hu:∀i,i<n->u i=u' i)(hv:∀i,i<n->v i=v' i):bf T n u v=bf T n u' v':=
 bV λi hi=>by rw[hu i hi,bV (g:=λj=>T i j*v' j) λj hj=>by rw[hv j hj]]
theorem pB(hT:∀i j,i<n->j<n->T i j=T j i)(u v:Rx):bf T n u v=bf T n v u:=by unfold bf;rw[bV (g:=λi=>aG (λj=>u i*(T i j*v j)) n) λi _=>by rw[sumN_mul],sumN_swap];refine bV λj hj=>?_;rw[<-sumN_mul];exact bV λi hi=>by rw[hT i j hi hj];grind
theorem lP(u:Rx)(c:Rx)(U:Nat->Rx):∀m:Nat,bf T n u (dO c U m)=aG (λa=>c a*bf T n u (U a)) m
 |0=>by rw[aG];refine jU λi _=>?_;rw[jU λj _=>by show T i j*0=0;rw[dI],dI]
 |m+1=>by rw[aG,<-lP u c U m];unfold bf;rw[<-sumN_mul,<-ym];refine bV λi _=>?_;rw[bV (g:=λj=>T i j*dO c U m j+c m*(T i j*U m j)) λj _=>by show T i j*(dO c U m j+c m*U m j)=_;grind,ym,sumN_mul];grind
theorem vd(u v w:Rx)(q:Rat):bf T n u (λk=>v k-q*w k)=bf T n u v-q*bf T n u w:=by unfold bf;rw[<-sumN_mul,<-p6];refine bV λi _=>?_;rw[bV (g:=λj=>T i j*v j-q*(T i j*w j)) λj _=>by grind,p6,sumN_mul];grind
structure Ap(T:Nat->Rx)(n:Nat)(U:Nat->Rx):Prop where
 ap:∀a b,a<n->b<n->a≠b->bf T n (U a) (U b)=0
 fu:∀x:Nat->Rat,(∀a,a<n->aG (λk=>U a k*x k) n=0)->∀k,k<n->x k=0
def dh(m:Nat)(f:Rx):Mn:=(List.range m).map f
theorem qR(m:Nat)(f:Rx):(dh m f).length=m:=by unfold dh;rw[aZ,fh]
theorem ur(f:Rx)(hk:k<m):(dh m f).getD k 0=f k:=by unfold dh;rw[aW,cJ,iN hk];rfl
theorem OD(f:Rx){c:Mn}(hc:c.length=m):bD (dh m f) c=aG (λj=>f j*c.getD j 0) m:=by rw[iH _ c m (qR m f) hc];exact bV λj hj=>by rw[ur f hj]
theorem wish(m:Nat)(L:List Rx)(hl:L.length<m):∃x:Nat->Rat,(∃k,k<m/\x k≠0)/\∀f∈L,aG (λj=>f j*x j) m=0:=by obtain⟨c,h1,h2,h3⟩:=Oi (m:=m) (R:=L.map<|dh m) (λr hr=>by obtain⟨f,_,rfl⟩:=YbT.mp hr;exact qR m f) (by rw[aZ];exact hl);exact⟨λk=>c.getD k 0,h2,λf hf=>by have:=h3 _ (kK hf);rwa [OD f h1]at this⟩
def gO(a:Nat):Nat->Rat:=λj=>if j=a then 1 else 0
theorem sd(x:Rx)(ha:a<m):aG (λj=>gO a j*x j) m=x a:=by rw[gL ha λi _ ne=>by unfold gO;rw[jx ne,fH]];unfold gO;rw[ks rfl,mP]
theorem Ap.ind(h:Ap T n U){c:Rx}(h0:∀k,k<n->dO c U n k=0):∀a,a<n->c a=0:=λt ht=>by
 refine Classical.byContradiction λhc=>?_;obtain ⟨x,⟨k,hk,hx⟩,hz⟩:=wish n (((List.range n).filter λa=>decide (a≠t)).map U) (by
  rw[aZ];have:=List.length_filter_lt_length_iff_exists (p:=λa=>decide (a≠t)) (l:=List.range n);rw[fh]at this;exact this.mpr ⟨t,Yah.mpr ht,E1⟩)
 have oth:∀a,a<n->a≠t->aG (λk=>U a k*x k) n=0:=λa ha ne=>hz _<|kK (Yag.mpr ⟨Yah.mpr ha,by simpa using ne⟩);have s:aG (λa=>c a*aG (λk=>U a k*x k) n) n=0:=by rw[bV (g:=λa=>aG (λk=>c a*(U a k*x k)) n) λa _=>by rw[sumN_mul],sumN_swap];refine jU λk hk=>?_;rw[bV (g:=λa=>x k*(c a*U a k)) λa _=>by grind,sumN_mul];have:=h0 k hk;unfold dO at this;rw[this,dI]
 rw[gL ht λa ha ne=>by rw[oth a ha ne,dI]]at s;have z:aG (λk=>U t k*x k) n=0:=by
  rcases Ydd.mp s with e|e
  exact QS e hc;exact e
 have al:∀a,a<n->aG (λk=>U a k*x k) n=0:=λa ha=>by by_cases e:a=t;rw[e];exact z;exact oth a ha e
 exact hx<|h.fu x al k hk
theorem Ap.diag(h:Ap T n U)(hT:∀i j,i<n->j<n->T i j=T j i)(c:Rx):bf T n (dO c U n) (dO c U n)=aG (λa=>c a*(c a*bf T n (U a) (U a))) n:=by rw[lP];refine bV λa ha=>?_;rw[pB hT,lP,gL ha λb hb ne=>by rw[h.ap a b ha hb<|QX ne,dI]]
def eO(n:Nat)(p:Nat->Bool):Nat:=((List.range n).filter p).length
theorem Im{α:Type}(p:α->Bool):∀l:List α,(l.filter λa=>!p a).length+(l.filter p).length=l.length
 |[]=>rfl|a::l=>by have:=Im p l;cases e:p a<;>simp[uK,e]<;>omega
theorem Ev(n:Nat)(p:Nat->Bool):eO n (λa=>!p a)+eO n p=n:=by have:=Im p<|List.range n;rw[fh]at this;exact this
def eK(T:Nat->Rx)(n:Nat)(σ:Rat)(U:Nat->Rx)(a:Nat):Bool:=decide (0<σ*bf T n (U a) (U a))
theorem Ap.le{V:Nat->Rx}(hT:∀i j,i<n->j<n->T i j=T j i)(h:Ap T n U)(h':Ap T n V)(σ:Rat):eO n (eK T n σ U)<=eO n (eK T n σ V):=by
 refine Classical.byContradiction λhlt=>?_;have c1:=Ev n<|eK T n σ U;obtain ⟨x,⟨k0,hk0,hx0⟩,hz⟩:=wish (n+n) ((List.range n).map (λk j=>if j < n then U j k else V (j - n) k)++(((List.range n).filter λa=>!eK T n σ U a).map gO++((List.range n).filter<|eK T n σ V).map λb=>gO<|n+b)) (by
  rw[dA,dA,aZ,aZ,aZ,fh];unfold eO at *;omega)
 have z1:∀k,k<n->dO x U n k+dO (λb=>x<|n+b) V n k=0:=λk hk=>by
  have:=hz (λj=>if j<n then U j k else V (j-n) k)<|Yao.mpr (.inl<|YbT.mpr ⟨k,Yah.mpr hk,rfl⟩);rw[vb]at this;unfold dO;rw[<-this];congr 1
  exact bV λj hj=>by rw[ks hj];grind
  exact bV λj hj=>by rw[jx<|tv,B5];grind
 have zU:∀a,a<n->eK T n σ U a=false->x a=0:=λa ha hp=>by
  have:=hz (gO a)<|Yao.mpr (.inr<|Yao.mpr<|.inl<|kK<|Yag.mpr ⟨Yah.mpr ha,by rw[hp];rfl⟩)
  rwa [sd x<|tv]at this
 have zV:∀b,b<n->eK T n σ V b=true->x (n+b)=0:=λb hb hp=>by
  have:=hz (gO<|n+b)<|Yao.mpr (.inr<|Yao.mpr<|.inr<|YbT.mpr ⟨b,Yag.mpr ⟨Yah.mpr hb,hp⟩,rfl⟩)
  rwa [sd x<|tv]at this
 have d1:=h.diag hT x;have d2:=h'.diag hT λb=>x<|n+b;have e12:bf T n (dO x U n) (dO x U n)=bf T n (dO (λb=>x<|n+b) V n) (dO (λb=>x<|n+b) V n):=by
  have neg:∀k,k<n->dO x U n k = -dO (λb=>x<|n+b) V n k:=λk hk=>by have:=z1 k hk;grind
  unfold bf;refine bV λi hi=>?_;rw[neg i hi,bV (g:=λj=>-1*(T i j*dO (λb=>x<|n+b) V n j)) (λj hj=>by rw[neg j hj];grind),sumN_mul];grind
 have p1:∀a,a<n->0<=x a*(x a*(σ*bf T n (U a) (U a))):=λa ha=>by
  cases hp:eK T n σ U a with
  |false=>rw[zU a ha hp,fH];grind
  |true=>
   have:0<σ*bf T n (U a) (U a):=by unfold eK at hp;simpa using hp
   have sq:0<=x a*x a:=by
    rcases Rat.le_total (a:=0) (b:=x a) with q|q
    exact pI q q;have:=pI (show(0:Rat)<=-x a by grind) (show(0:Rat)<=-x a by grind);grind
   have:=pI sq<|Rat.le_of_lt this;grind
 have p2:aG (λb=>x (n+b)*(x (n+b)*(σ*bf T n (V b) (V b)))) n<=0:=by
  have:0<=aG (λb=>-(x (n+b)*(x (n+b)*(σ*bf T n (V b) (V b))))) n:=AX λb hb=>by
   cases hp:eK T n σ V b with
   |true=>rw[zV b hb hp,fH];grind
   |false=>
    have:σ*bf T n (V b) (V b)<=0:=by unfold eK at hp;have:=of_decide_eq_false hp;grind
    have sq:0<=x (n+b)*x (n+b):=by
     rcases Rat.le_total (a:=0) (b:=x<|n+b) with q|q
     exact pI q q;have:=pI (show(0:Rat)<=-x (n+b) by grind) (show(0:Rat)<=-x (n+b) by grind);grind
    have:=pI sq (show(0:Rat)<=-(σ*bf T n (V b) (V b)) by grind);grind
  have e:aG (λb=>-(x (n+b)*(x (n+b)*(σ*bf T n (V b) (V b))))) n = -1*aG (λb=>x (n+b)*(x (n+b)*(σ*bf T n (V b) (V b)))) n:=by rw[<-sumN_mul];exact bV λb _=>by grind
  grind
 have q1:aG (λa=>x a*(x a*(σ*bf T n (U a) (U a)))) n=σ*bf T n (dO x U n) (dO x U n):=by rw[d1,<-sumN_mul];exact bV λa _=>by grind
 have q2:aG (λb=>x (n+b)*(x (n+b)*(σ*bf T n (V b) (V b)))) n=σ*bf T n (dO (λb=>x<|n+b) V n) (dO (λb=>x<|n+b) V n):=by rw[d2,<-sumN_mul];exact bV λa _=>by grind
 have a0:=Eu p1 (by rw[q1,e12,<-q2];exact p2);have xU:∀a,a<n->x a=0:=λa ha=>by
  cases hp:eK T n σ U a with
  |false=>exact zU a ha hp
  |true=>
   have hpos:0<σ*bf T n (U a) (U a):=by unfold eK at hp;simpa using hp
   rcases Ydd.mp (a0 a ha) with e|e
   exact e;rcases Ydd.mp e with e|e
   exact e;rw[e]at hpos;exact QS hpos wp
 have xV:=h'.ind (c:=λb=>x<|n+b) λk hk=>by have:=z1 k hk;rw[show dO x U n k=0 from jU λa ha=>by rw[xU a ha,fH]]at this;grind
 refine hx0 ?_;by_cases hkn:k0<n;exact xU k0 hkn;have:=xV (k0-n) tv;rwa [show n+(k0-n)=k0 by omega]at this
theorem Ap.eq{V:Nat->Rx}(hT:∀i j,i<n->j<n->T i j=T j i)(h:Ap T n U)(h':Ap T n V)(σ:Rat):eO n (eK T n σ U)=eO n (eK T n σ V):=Nat.le_antisymm (h.le hT h' σ)<|h'.le hT h σ
end
def tq(R:E8)(i j:Nat):Rat:=(R.getD i []).getD j 0
def nul(T:Nat->Rx)(n:Nat)(U:Nat->Rx)(a:Nat):Bool:=decide (bf T n (U a) (U a)=0)
theorem OE{T:Nat->Rx}:eO n (nul T n U)+eO n (eK T n 1 U)+eO n (eK T n (-1) U)=n:=by
 unfold eO;have key:∀l:Ry,(l.filter<|nul T n U).length+(l.filter<|eK T n 1 U).length+(l.filter<|eK T n (-1) U).length=l.length:=λl=>by
  induction l with
  |nil=>rfl
  |cons a l ih=>
   have h1:nul T n U a=decide (bf T n (U a) (U a)=0):=rfl;have h2:eK T n 1 U a=decide (0<1*bf T n (U a) (U a)):=rfl;have h3:eK T n (-1) U a=decide (0 < -1*bf T n (U a) (U a)):=rfl;generalize bf T n (U a) (U a)=q at h1 h2 h3;simp only[uK];have tri:q<0\/q=0\/0<q:=by grind
   rcases tri with z|z|z
   rw[h1,h2,h3,QU<|by grind,QU<|by grind,QT<|by grind];simp;omega;rw[h1,h2,h3,QT<|by grind,QU<|by grind,QU<|by grind];simp;omega;rw[h1,h2,h3,QU<|by grind,QT<|by grind,QU<|by grind];simp;omega
 have:=key<|List.range n
 rwa [fh]at this
section
variable{R ld rs:E8}{pl:Ry}
theorem OF(hlt:∀a∈pl,a<n)(asc:pl.Pairwise (· < ·)):eO n (λp=>!pl.contains p)+pl.length=n:=by
 have e:(List.range n).filter (λp=>pl.contains p)=pl:=ul ((va n).filter _) asc λx=>by rw[Yag,Yah];constructor;rintro⟨_,h⟩;simpa using h;intro h;exact⟨hlt x h,by simpa using h⟩
 have:=Ev n λp=>pl.contains p;unfold eO at *;rw[e]at this;exact this
theorem Ew(hR:∀r∈R,r.length=n)(hi:i<R.length)(x:Rx):bD (R.getD i []) (dh n x)=aG (λj=>tq R i j*x j) n:=by rw[iH _ _ n (hR _<|fv hi)<|qR n x];exact bV λj hj=>by rw[ur x hj];rfl
theorem Ap.none_cnt(h:Ap (tq R) n U)(hl:R.length=n)(hR:∀r∈R,r.length=n)(ec:Ec n R n ld pl rs):eO n (nul (tq R) n U)=eO n (λp=>!pl.contains p):=by
 have c1:=Ev n<|nul (tq R) n U;have c2:=OF ec.lt ec.asc;have all:∀x:Nat->Rat,(∀i,i<n->aG (λj=>tq R i j*x j) n=0)↔∀r∈R,bD r (dh n x)=0:=λx=>by
  constructor;intro hx r hr;obtain⟨i,hi,e⟩:=Ybv.mp hr;have e':R.getD i []=r:=by rw[aW,bP hi];exact e
  rw[<-e',Ew hR hi];exact hx i tv;intro hx i hi;rw[<-Ew hR tv];exact hx _<|fv tv
 refine Nat.le_antisymm (BD λhlt=>?_)<|BD λhlt=>?_
 obtain ⟨x,⟨k0,hk0,hx0⟩,hz⟩:=wish n (((List.range n).filter λa=>!nul (tq R) n U a).map gO++((List.range n).filter λp=>!pl.contains p).map λt a=>U a t) (by
  rw[dA,aZ,aZ];unfold eO at *;omega)
 have zU:∀a,a<n->nul (tq R) n U a=false->x a=0:=λa ha hp=>by
  have:=hz (gO a)<|Yao.mpr (.inl<|kK<|Yag.mpr ⟨Yah.mpr ha,by rw[hp];rfl⟩)
  rwa [sd x ha]at this
 have zf:∀t,t<n->t∉pl->dO x U n t=0:=λt ht hn=>by have:=hz (λa=>U a t)<|Yao.mpr (.inr<|YbT.mpr ⟨t,Yag.mpr ⟨Yah.mpr ht,by simpa using hn⟩,rfl⟩);unfold dO;rw[<-this];exact bV λa _=>by grind
 have y0:=h.fu (λi=>aG (λj=>tq R i j*dO x U n j) n) λb hb=>by
  have:=lP (T:=tq R) (n:=n) (U b) x U n;unfold bf at this;rw[this];refine jU λa ha=>?_;cases hp:nul (tq R) n U a with
  |false=>rw[zU a ha hp,fH]
  |true=>
   have h0:bf (tq R) n (U a) (U a)=0:=by unfold nul at hp;simpa using hp
   by_cases e:a=b;subst e;unfold bf at h0;rw[h0,dI];have:=h.ap b a hb ha (QX e);unfold bf at this;rw[this,dI]
 have x0:=h.ind (c:=x) λk hk=>by have:=ec.zero (x:=dh n<|dO x U n) (qR _ _) ((all _).mp y0) (λt ht hn=>by rw[ur _ ht];exact zf t ht hn) k hk;rwa [ur _ hk]at this
 exact hx0<|x0 k0 hk0
 have hll:=ec.ll;obtain ⟨x,⟨k0,hk0,hx0⟩,hz⟩:=wish n (ld.map (λr a=>aG (λk=>r.getD k 0*U a k) n)++((List.range n).filter<|nul (tq R) n U).map gO) (by
  rw[dA,aZ,aZ];unfold eO at *;omega)
 have zU:∀a,a<n->nul (tq R) n U a=true->x a=0:=λa ha hp=>by
  have:=hz (gO a)<|Yao.mpr (.inr<|kK<|Yag.mpr ⟨Yah.mpr ha,hp⟩)
  rwa [sd x ha]at this
 have zl:∀r∈ld,bD r (dh n<|dO x U n)=0:=λr hr=>by have:=hz _<|Yao.mpr (.inl<|kK (f:=λr a=>aG (λk=>r.getD k 0*U a k) n) hr);refine Eq.trans ?_ this;rw[iH _ _ n (ec.wl r hr)<|qR _ _,bV (g:=λk=>aG (λa=>r.getD k 0*(x a*U a k)) n) (λk hk=>by rw[ur _ hk,sumN_mul];rfl),sumN_swap];exact bV λa _=>by rw[lZ,<-sumN_mul];exact bV λk _=>by grind
 have T0:=(all<|dO x U n).mpr<|(ec.nul _<|qR _ _).mpr ⟨zl,λr hr=>by
  rw[iH _ _ n (ec.ws r hr)<|qR _ _];exact jU λj hj=>by rw[ec.zer r hr j hj,fH]⟩
 refine hx0 ?_;cases hp:nul (tq R) n U k0 with
 |true=>exact zU k0 hk0 hp
 |false=>
  have h0:bf (tq R) n (U k0) (U k0)≠0:=by unfold nul at hp;simpa using hp
  have:=lP (T:=tq R) (n:=n) (U k0) x U n;rw[show bf (tq R) n (U k0) (dO x U n)=0 from jU λi hi=>by rw[T0 i hi,dI],gL hk0 λb hb ne=>by rw[h.ap k0 b hk0 hb<|QX ne,dI]]at this;rcases Ydd.mp this.symm with e|e
  exact e;exact QS e h0
end
section
def ke(A:Nat->Nat->Int)(i k:Nat):Rat:=if k<=i then((fN A (i+1) i k:Int):Rat) else 0
theorem AY{f:Rx}{m:Nat}:∀{n:Nat},m<=n->(∀i,m<=i->i<n->f i=0)->aG f n=aG f m
 |0,h,_=>by rw[Ybq.mp h]|n+1,h,h0=>by by_cases e:m=n+1;rw[e];rw[aG,AY tv<|λi h1 h2=>h0 i h1<|tv,h0 n tv<|tv,km]
theorem yz(hn:n<=5)(hi:i<n)(hk:k<=i):aG (λl=>((A k l:Int):Rat)*ke A i l) n=if k=i then((dt A (i+1):Int):Rat) else 0:=by rw[AY (m:=i+1) tv λl h1 h2=>by unfold ke;rw[jx<|tv,dI],bV (g:=λl=>((A k l*fN A (i+1) i l:Int):Rat)) (λl hl=>by unfold ke;rw[ks<|tv,eY]),qO,uj A tv tv<|tv];split<;>rfl
theorem AZ(hn:n<=5)(hi:i<n):ke A i i=((dt A i:Int):Rat):=by
 unfold ke fN;rw[ks<|bU i];have h1:sg (i+i)=1:=by unfold sg;rw[ks<|tv]
 have h2:dt (cut A i i) (i+1-1)=dt A i:=by
  have:∀a b,a<i->b<i->cut A i i a b=A a b:=λa b ha hb=>by unfold cut sk;rw[ks ha,ks hb]
  rw[vp];exact rW λa ha b hb=>this a b ha hb
 rw[h1,h2,uE]
theorem yA(hn:n<=5)(hi:i<n)(hj:j<=i):bf (λa b=>((A a b:Int):Rat)) n (ke A j) (ke A i)=if j=i then((dt A i*dt A (i+1):Int):Rat) else 0:=by unfold bf;rw[AY (m:=j+1) tv λk h1 h2=>by unfold ke;rw[jx<|tv,fH],bV (g:=λk=>ke A j k*(if k=i then((dt A (i+1):Int):Rat) else 0)) λk hk=>by rw[yz hn hi<|tv]];by_cases e:j=i;subst e;rw[ks rfl,gL (k:=j) tv λk hk ne=>by rw[jx ne,dI],ks rfl,AZ hn hi,eY];rw[jx e];exact jU λk hk=>by rw[jx<|tv,dI]
theorem Io(hn:n<=5)(hs:∀a b,a<n->b<n->A a b=A b a)(h0:∀i,i<n->dt A i≠0):Ap (λa b=>((A a b:Int):Rat)) n (ke A):=by
 refine⟨λa b ha hb ne=>?_,λx hx=>?_⟩;rcases gx a b with l|l
 rw[yA hn hb<|tv,jx ne];rw[pB<|λi j hi hj=>by rw[hs i j hi hj],yA hn ha l,jx<|QX ne];intro k;induction k using Nat.strongRecOn with
 |ind k ih=>
  intro hk;have:=hx k hk;rw[AY (m:=k+1) tv λl h1 h2=>by unfold ke;rw[jx<|tv,fH],gL (k:=k) tv λl hl ne=>by rw[ih l tv<|tv,dI],AZ hn hk]at this;rcases Ydd.mp this with e|e
  exact QS (by exact_mod_cast e)<|h0 k hk
  exact e
end
namespace Pj
def tb:Nat->Nat->Nat
 |_,0=>0|b,1=>b|b,2=>2*b+1|b,r+3=>b+tb (2*b+1) (r+2)+4
theorem Ip{a:Nat->Int}{x:Rx}{b t:Nat}:∀{r:Nat},(∀k,k<r->(a k).natAbs<2^b)->(∀k,k<r->∃z:Int,z.natAbs<=2^t/\x k=z)->∃z:Int,z.natAbs<=r*2^(b+t)/\aG (λk=>(a k:Rat)*x k) r=z
 |0,_,_=>⟨0,E1,rfl⟩
 |r+1,ha,h=>by
  obtain⟨z,z1,hz⟩:=Ip (a:=a) (r:=r) (λk hk=>ha k<|tv) λk hk=>h k tv;obtain⟨y,y1,hy⟩:=h r tv;refine⟨z+a r*y,?_,?_⟩;have h1:(a r*y).natAbs<=2^(b+t):=by rw[eh,kj];exact hJ (gY<|ha r<|tv) y1
  have:=qX z<|a r*y;rw[mK];omega
  rw[aG,hz,hy,uO,eY]
theorem A0{r:Nat}{a:Nat->Nat->Int}(hu:∀y:Nat->Rat,(∀i,i<m->aG (λk=>(a i k:Rat)*y k) (r+1)=0)->∀k,k<r+1->y k=0):∃i,i<m/\a i r≠0:=by
 apply Classical.byContradiction;intro hn;have:=hu (λk=>if k=r then 1 else 0) (λi hi=>by
  rw[gL (k:=r) tv λj hj hjr=>by rw[jx hjr,dI]];have:a i r=0:=Classical.byContradiction λz=>hn ⟨i,hi,z⟩;rw[this,ks rfl];rw[mO];rfl) r tv
 rw[ks rfl]at this;exact QS this wp
theorem Iq{r i0:Nat}{a:Nat->Nat->Int}{c:Nat->Int}{x:Rx}(hi0:i0<m)(hh:a i0 r≠0)(hx:∀i,i<m->aG (λk=>(a i k:Rat)*x k) (r+1)=(c i:Rat))(hu:∀y:Nat->Rat,(∀i,i<m->aG (λk=>(a i k:Rat)*y k) (r+1)=0)->∀k,k<r+1->y k=0) :
  (∀i,i<m->aG (λk=>((a i k*a i0 r-a i r*a i0 k:Int):Rat)*x k) r=((c i*a i0 r-a i r*c i0:Int):Rat))/\∀y:Nat->Rat,(∀i,i<m->aG (λk=>((a i k*a i0 r-a i r*a i0 k:Int):Rat)*y k) r=0)->∀k,k<r->y k=0:=by
 have hq:((a i0 r:Int):Rat)≠0:=λz=>hh (by exact_mod_cast z);have split:∀(y:Rx) (i:Nat),aG (λk=>((a i k*a i0 r-a i r*a i0 k:Int):Rat)*y k) r=(a i0 r:Rat)*aG (λk=>(a i k:Rat)*y k) r-(a i r:Rat)*aG (λk=>(a i0 k:Rat)*y k) r:=λy i=>by
  rw[<-sumN_mul,<-sumN_mul,<-p6];refine bV λk hk=>?_;rw[qZ,eY,eY];grind
 refine⟨λi hi=>?_,λy hy k hk=>?_⟩
 .rw[split]
  have e1:=hx i hi;have e2:=hx i0 hi0;rw[aG]at e1 e2;rw[qZ,eY,eY,<-e1,<-e2];grind
 .have:=hu (λk=>if k=r then -(aG (λk=>(a i0 k:Rat)*y k) r) / (a i0 r:Rat) else y k) (λi hi=>by
   rw[aG,ks rfl,bV (g:=λk=>(a i k:Rat)*y k) λk hk=>by rw[jx<|tv]];have:=hy i hi;rw[split]at this;grind) k tv
  rw[jx<|tv]at this;exact this
theorem yB{x y z w:Int}(h1:x.natAbs<2^b)(h2:y.natAbs<2^b)(h3:z.natAbs<2^b)(h4:w.natAbs<2^b):(x*y-z*w).natAbs<2^(2*b+1):=by
 have p1:(x*y).natAbs<2^(2*b):=by rw[eh,show 2*b=b+b by omega,kj];exact pG h1 h2
 have p2:(z*w).natAbs<2^(2*b):=by rw[eh,show 2*b=b+b by omega,kj];exact pG h3 h4
 rw[uD];omega
theorem yC:∀(r b m:Nat) (a:Nat->Nat->Int) (c:Nat->Int) (x:Rx),r<=8->(∀i,i<m->∀k,k<r->(a i k).natAbs<2^b)->(∀i,i<m->(c i).natAbs<2^b)->(∀i,i<m->aG (λk=>(a i k:Rat)*x k) r=(c i:Rat))->(∀y:Nat->Rat,(∀i,i<m->aG (λk=>(a i k:Rat)*y k) r=0)->∀k,k<r->y k=0)->∃D:Int,D≠0/\D.natAbs<=2^tb b r/\∀k,k<r->∃z:Int,z.natAbs<=2^tb b r/\(D:Rat)*x k=(z:Rat)
 |0,b,m,a,c,x,_,_,_,_,_=>⟨1,wp,by simp[tb],λk hk=>tv⟩|1,b,m,a,c,x,_,hb,hc,hx,hu=>by obtain⟨i0,hi0,hh⟩:=A0 hu;refine⟨a i0 0,hh,gY<|hb i0 hi0 0<|tv,λk hk=>⟨c i0,gY<|hc i0 hi0,?_⟩⟩;have:=hx i0 hi0;rw[show k=0 by omega];simp only[aG]at this;grind
 |2,b,m,a,c,x,_,hb,hc,hx,hu=>by obtain⟨i0,hi0,hh⟩:=A0 hu;obtain⟨h1,h2⟩:=Iq hi0 hh hx hu;obtain⟨i1,hi1,hh1⟩:=A0 (a:=λi k=>a i k*a i0 1-a i 1*a i0 k) h2;have e0:=hx i0 hi0;have e1:=hx i1 hi1;simp only[aG]at e0 e1;refine⟨a i1 0*a i0 1-a i1 1*a i0 0,hh1,gY<|yB (hb _ hi1 _<|tv) (hb _ hi0 _<|tv) (hb _ hi1 _<|tv)<|hb _ hi0 _<|tv,λk hk=>?_⟩;by_cases hk0:k=0;refine⟨c i1*a i0 1-a i1 1*c i0,gY<|yB (hc _ hi1) (hb _ hi0 _<|tv) (hb _ hi1 _<|tv)<|hc _ hi0,?_⟩;rw[hk0,qZ,eY,eY,qZ,eY,eY,<-e0,<-e1];grind;refine⟨a i1 0*c i0-a i0 0*c i1,gY<|yB (hb _ hi1 _<|tv) (hc _ hi0) (hb _ hi0 _<|tv)<|hc _ hi1,?_⟩;rw[show k=1 by omega,qZ,eY,eY,qZ,eY,eY,<-e0,<-e1];grind
 |r+3,b,m,a,c,x,hr,hb,hc,hx,hu=>by
  obtain⟨i0,hi0,hh⟩:=A0 hu;obtain⟨h1,h2⟩:=Iq hi0 hh hx hu;obtain⟨D,d0,dl,dx⟩:=yC (r+2) (2*b+1) m (λi k=>a i k*a i0 (r+2)-a i (r+2)*a i0 k) (λi=>c i*a i0 (r+2)-a i (r+2)*c i0) x tv (λi hi k hk=>yB (hb _ hi _<|tv) (hb _ hi0 _<|tv) (hb _ hi _<|tv)<|hb _ hi0 _<|tv) (λi hi=>yB (hc _ hi) (hb _ hi0 _<|tv) (hb _ hi _<|tv)<|hc _ hi0) h1 h2;have hmul:∀y z:Int,y.natAbs<=2^tb (2*b+1) (r+2)->z.natAbs<2^b->(y*z).natAbs<=2^(b+tb (2*b+1) (r+2)):=λy z hy hz=>by rw[eh,uB,kj];exact hJ hy<|gY hz
  have h16:2^(b+tb (2*b+1) (r+2)+4)=2^(b+tb (2*b+1) (r+2))*16:=by rw[kj]
  refine⟨D*a i0 (r+2),lY d0 hh,?_,λk hk=>?_⟩;have:=hmul D _ dl (hb i0 hi0 (r+2)<|tv);rw[tb,h16];omega;by_cases e:k=r+2;subst e;obtain⟨z,z1,hz⟩:=Ip (a:=a i0) (x:=λk=>(D:Rat)*x k) (r:=r+2) (λk hk=>hb i0 hi0 k<|tv) dx;refine⟨D*c i0-z,?_,?_⟩;have h3:=hmul D _ dl (hc i0 hi0);have h4:=zA (D*c i0) z;have h5:(r+2)*2^(b+tb (2*b+1) (r+2))<=8*2^(b+tb (2*b+1) (r+2)):=lU _ tv;rw[tb,h16];omega;have e2:=hx i0 hi0;rw[aG]at e2;have:aG (λj=>(a i0 j:Rat)*((D:Rat)*x j)) (r+2)=(D:Rat)*aG (λj=>(a i0 j:Rat)*x j) (r+2):=by rw[<-sumN_mul];exact bV λj _=>by grind
  rw[this]at hz;rw[qZ,eY,eY,<-hz,<-e2];grind;obtain⟨z,z1,hz⟩:=dx k tv;refine⟨z*a i0 (r+2),?_,?_⟩;have:=hmul z _ z1 (hb i0 hi0 (r+2)<|tv);rw[tb,h16];omega;rw[eY,eY,<-hz];grind
def bI(A:Nat->Nat->Int)(n:Nat)(u v:Nat->Int):Int:=sumI (λi=>u i*sumI (λj=>A i j*v j) n) n
theorem bI_cast(A:Nat->Nat->Int)(n:Nat)(u v:Nat->Int):bf (λa b=>((A a b:Int):Rat)) n (λi=>(u i:Rat)) (λi=>(v i:Rat))=((bI A n u v:Int):Rat):=by unfold bf bI;rw[<-qO];refine bV λi _=>?_;rw[eY,<-qO];congr 1;exact bV λj _=>by rw[eY]
theorem sumI_bd{f:Nat->Int}{c:Nat}:∀{n:Nat},(∀i,i<n->(f i).natAbs<=c)->(sumI f n).natAbs<=n*c
 |0,_=>by simp[sumI]|n+1,h=>by have h1:=sumI_bd (f:=f) (n:=n) λi hi=>h i tv;have h2:=h n tv;have h3:=qX (sumI f n)<|f n;rw[sumI,mK];omega
theorem Ir{u v:Nat->Int}(hn:n<=5)(hA:∀i j,i<n->j<n->(A i j).natAbs<=50)(hu:∀i,i<n->(u i).natAbs<=2)(hv:∀i,i<n->(v i).natAbs<=2):(bI A n u v).natAbs<2^13:=by
 have h1:∀i,i<n->(sumI (λj=>A i j*v j) n).natAbs<=500:=λi hi=>by
  have:=sumI_bd (f:=λj=>A i j*v j) (c:=100) (n:=n) λj hj=>by rw[eh];exact hJ (hA i j hi hj)<|hv j hj
  have:n*100<=5*100:=lU _ hn;omega
 have:=sumI_bd (f:=λi=>u i*sumI (λj=>A i j*v j) n) (c:=1000) (n:=n) λi hi=>by rw[eh];exact hJ (hu i hi)<|h1 i hi
 have:n*1000<=5*1000:=lU _ hn;unfold bI;omega
theorem Ey:∀{k:Nat},k<=4->tb 13 k<=159
 |0,_=>by decide|1,_=>by decide|2,_=>by decide|3,_=>by decide|4,_=>by decide|k+5,h=>tv
structure Mt(A:Nat->Nat->Int)(n k:Nat)(M:Nat->Nat->Int):Prop where
 sz:∀i,i<k->∀j,j<n->(M i j).natAbs<=2
 one:∀y:Nat->Rat,(∀i,i<k->aG (λj=>((bI A n (M i) (M j):Int):Rat)*y j) k=0)->∀j,j<k->y j=0
def Lt(A:Nat->Nat->Int)(n k:Nat)(M:Nat->Nat->Int)(v:Nat->Int)(r:Rx):Prop:=
 (∃x:Nat->Rat,∀j,j<n->r j=(v j:Rat)-aG (λi=>x i*(M i j:Rat)) k)/\∀i,i<k->bf (λa b=>((A a b:Int):Rat)) n (λj=>(M i j:Rat)) r=0
section
variable{M:Nat->Nat->Int}
theorem Lt.lf(hn:n<=5)(hA:∀i j,i<n->j<n->(A i j).natAbs<=50)(mt:Mt A n k M)(hk:k<=4){v:Nat->Int}(hv:∀j,j<n->(v j).natAbs<=2){r:Rx}(h:Lt A n k M v r):Lf 163 n (dh n r):=by
 obtain⟨⟨x,hx⟩,h0⟩:=h;have sys:∀i,i<k->aG (λj=>((bI A n (M i) (M j):Int):Rat)*x j) k=((bI A n (M i) v:Int):Rat):=λi hi=>by
  have e:=h0 i hi;rw[oB (u':=λj=>(M i j:Rat)) (v':=λj=>(v j:Rat)-1*dO x (λi j=>(M i j:Rat)) k j) (λ_ _=>rfl) (λj hj=>by rw[hx j hj];unfold dO;grind),vd,lP,bI_cast]at e;have e2:aG (λj=>((bI A n (M i) (M j):Int):Rat)*x j) k=aG (λa=>x a*bf (λa b=>((A a b:Int):Rat)) n (λj=>(M i j:Rat)) λj=>(M a j:Rat)) k:=bV λa _=>by rw[bI_cast];grind
  rw[e2];grind
 obtain⟨D,d0,dl,dx⟩:=yC k 13 k (λi j=>bI A n (M i)<|M j) (λi=>bI A n (M i) v) x tv (λi hi j hj=>Ir hn hA (mt.sz i hi)<|mt.sz j hj) (λi hi=>Ir hn hA (mt.sz i hi) hv) sys mt.one;have tb4:=Ey hk;have p2:2^tb 13 k<=2^159:=lT wp tb4;have e163:2^163=2^159*16:=wp
 have hz:∀j,j<n->∃z:Int,z.natAbs<2^163/\r j=Rat.divInt z D:=λj hj=>by
  have hD:((D:Int):Rat)≠0:=λz=>d0 (by exact_mod_cast z);obtain⟨z,z1,z2⟩:∃z:Int,z.natAbs<=k*(2^159*2)/\(D:Rat)*aG (λi=>x i*(M i j:Rat)) k=(z:Rat):=by
   have:∀m,m<=k->∃z:Int,z.natAbs<=m*(2^159*2)/\(D:Rat)*aG (λi=>x i*(M i j:Rat)) m=(z:Rat):=λm=>by
    induction m with
    |zero=>exact λ_=>⟨0,E1,by simp[aG]⟩
    |succ m ih=>
     intro hm;obtain⟨z,z1,z2⟩:=ih tv;obtain⟨w,w1,w2⟩:=dx m tv;refine⟨z+w*M m j,?_,?_⟩;have:=qX z (w*M m j);have h2:(w*M m j).natAbs<=2^159*2:=by rw[eh];exact hJ (gP w1 p2)<|mt.sz m tv j hj
     rw[mK];omega;rw[aG,uO,eY,<-z2,<-w2];grind
   exact this k<|bU _
  refine⟨D*v j-z,?_,?_⟩;have h1:=zA (D*v j) z;have h2:(D*v j).natAbs<=2^159*2:=by rw[eh];exact hJ (gP dl p2)<|hv j hj
  have h3:k*(2^159*2)<=4*(2^159*2):=lU _ hk;omega;rw[hx j hj,l3,qZ,eY,<-z2,dH];have:=jQ _ hD;grind
 obtain⟨c,hc⟩:∃c:Nat->Int,∀j,j<n->(c j).natAbs<2^163/\r j=Rat.divInt (c j) D:=⟨λj=>if h:j<n then Classical.choose (hz j h) else 0,λj hj=>by dsimp only;rw[dif_pos hj];exact Classical.choose_spec<|hz j hj⟩;refine⟨(List.range n).map c,D,E1,d0,lV (gP dl p2)<|tv,λy hy=>?_,?_⟩;obtain⟨j,hj,rfl⟩:=YbT.mp hy;exact(hc j<|Yah.mp hj).1;unfold dh;rw[List.map_map];exact jg λj hj=>(hc j<|Yah.mp hj).2
end
section
variable{M:Nat->Nat->Int}
abbrev cA(A:Nat->Nat->Int):Nat->Nat->Rat:=λa b=>((A a b:Int):Rat)
def nxt(M:Nat->Nat->Int)(k:Nat)(v:Nat->Int):Nat->Nat->Int:=λi=>if i<k then M i else v
theorem Lt.v{v:Nat->Int}{l:Rx}(h:Lt A n k M v l)(hs:∀i j,i<n->j<n->A i j=A j i){w:Rx}(hw:∀i,i<k->bf (cA A) n (λj=>(M i j:Rat)) w=0):bf (cA A) n (λj=>(v j:Rat)) w=bf (cA A) n l w:=by
 obtain⟨⟨x,hx⟩,_⟩:=h;have sy:∀i j,i<n->j<n->cA A i j=cA A j i:=λi j hi hj=>by show((A i j:Int):Rat)=_;rw[hs i j hi hj]
 rw[pB sy l w,oB (u:=w) (u':=w) (v:=l) (v':=λj=>(v j:Rat)-1*dO x (λi j=>(M i j:Rat)) k j) (λ_ _=>rfl) (λj hj=>by rw[hx j hj];unfold dO;grind),vd,lP,jU λa ha=>by rw[pB sy,hw a ha,dI],pB sy];grind
theorem Mt.next(m:Mt A n k M)(hs:∀i j,i<n->j<n->A i j=A j i){v:Nat->Int}(hv:∀j,j<n->(v j).natAbs<=2){l:Rx}(h:Lt A n k M v l)(h0:bf (cA A) n l l≠0):Mt A n (k+1) (nxt M k v):=by
 have sy:∀i j,i<n->j<n->cA A i j=cA A j i:=λi j hi hj=>by show((A i j:Int):Rat)=_;rw[hs i j hi hj]
 refine⟨λi hi j hj=>?_,λy hy=>?_⟩;unfold nxt;split;exact m.sz i ‹_› j hj;exact hv j hj;have hw:∀i,i<k+1->bf (cA A) n (λj=>(nxt M k v i j:Rat)) (dO y (λi j=>(nxt M k v i j:Rat))<|k+1)=0:=λi hi=>by rw[lP,<-hy i hi];exact bV λj _=>by rw[bI_cast];grind
 have old:∀i,i<k->nxt M k v i=M i:=λi hi=>by unfold nxt;rw[ks hi]
 have new:nxt M k v k=v:=by unfold nxt;rw[jx<|iJ k]
 have e1:=h.v hs (w:=dO y (λi j=>(nxt M k v i j:Rat))<|k+1) λi hi=>by have:=hw i tv;rwa [old i hi]at this
 have e2:=hw k tv;rw[new,e1,lP,aG,jU λa ha=>by rw[old a ha,pB sy,h.2 a ha,dI],new,pB sy l,h.v hs h.2]at e2;have yk:y k=0:=by
  rcases Ydd.mp (show y k*bf (cA A) n l l=0 by grind) with e|e
  exact e;exact QS e h0
 have rest:=m.one y λi hi=>by have:=hy i tv;rw[aG,yk,dI,km]at this;rw[<-this];exact bV λj hj=>by rw[old i hi,old j hj]
 intro j hj;by_cases e:j=k;rw[e];exact yk;exact rest j tv
theorem Lt.next{v:Nat->Int}{l r:Rx}(h:Lt A n k M v l)(h':Lt A n k M v' r)(hs:∀i j,i<n->j<n->A i j=A j i)(h0:bf (cA A) n l l≠0):Lt A n (k+1) (nxt M k v) v' (λj=>r j-bf (cA A) n r l/bf (cA A) n l l*l j):=by
 have sy:∀i j,i<n->j<n->cA A i j=cA A j i:=λi j hi hj=>by show((A i j:Int):Rat)=_;rw[hs i j hi hj]
 have old:∀i,i<k->nxt M k v i=M i:=λi hi=>by unfold nxt;rw[ks hi]
 have new:nxt M k v k=v:=by unfold nxt;rw[jx<|iJ k]
 have z:∀i,i<k->bf (cA A) n (λj=>(M i j:Rat)) (λj=>r j-bf (cA A) n r l/bf (cA A) n l l*l j)=0:=λi hi=>by rw[vd,h.2 i hi,h'.2 i hi];grind
 refine⟨?_,λi hi=>?_⟩;obtain⟨x,hx⟩:=h.1;obtain⟨x',hx'⟩:=h'.1;refine⟨λi=>if i<k then x' i-bf (cA A) n r l/bf (cA A) n l l*x i else bf (cA A) n r l/bf (cA A) n l l,λj hj=>?_⟩;rw[aG];dsimp only;generalize bf (cA A) n r l/bf (cA A) n l l=q;rw[jx<|iJ k,new,bV (g:=λi=>x' i*(M i j:Rat)-q*(x i*(M i j:Rat))) (λi hi=>by rw[ks hi,old i hi];grind),p6,sumN_mul,hx j hj,hx' j hj];grind;by_cases e:i=k;subst e;rw[new];refine(h.v hs z).trans ?_;rw[vd,pB sy l r];have:=jQ _ h0;rw[dH];grind;rw[old i<|tv];exact z i tv
theorem Lt.add{v:Nat->Int}{l r:Rx}(h:Lt A n k M v l)(h':Lt A n k M v' r):Lt A n k M (λj=>v j+v' j) (λj=>l j - -1*r j):=by refine⟨?_,λi hi=>by rw[vd,h.2 i hi,h'.2 i hi];grind⟩;obtain⟨x,hx⟩:=h.1;obtain⟨x',hx'⟩:=h'.1;refine⟨λi=>x i - -1*x' i,λj hj=>?_⟩;dsimp only;rw[bV (g:=λi=>x i*(M i j:Rat) - -1*(x' i*(M i j:Rat)))<|λi hi=>by grind,p6,sumN_mul,hx j hj,hx' j hj,uO];grind
end
end Pj
def bA(s:Lb)(n:Nat)(u v:Mn):Rat:=bD u<|bJ s n v
def mF(s:Lb)(n:Nat):E8->Option Mn
 |[]=>none|l::L=>if bA s n l l=0 then mF s n L else some l
def ik(s:Lb)(n:Nat):Nat->E8->Option (Nat×Mn)
 |_,[]=>none
 |k,r::R=>match mF s n (r::R.map λo=>aX r (-1) o) with
  |some l=>some (k,l)|none=>ik s n (k+1) R
def jb(s:Lb)(n:Nat)(l r:Mn):Mn:=aX r (bA s n r l/bA s n l l) l
def ut(s:Lb)(n:Nat):Nat->E8->E8->E8
 |0,f,R=>f++R
 |k+1,f,R=>match ik s n 0 R with
  |none=>f++R|some (a,l)=>ut s n k (f++[l])<|(R.take a++R.drop (a+1)).map (jb s n l)
def aY(s:Lb)(n:Nat):E8:=ut s n n []<|(List.range n).map (bG n)
theorem Iu{s:Lb}{n:Nat}:∀{L:E8},mF s n L=none->∀l∈L,bA s n l l=0
 |[],_,l,hl=>by cases hl
 |x::L,h,l,hl=>by
  rw[mF]at h;split at h;rcases Yan.mp hl with rfl|hl
  assumption;exact Iu h l hl;cases h
theorem Iv{s:Lb}{n:Nat}{l:Mn}:∀{L:E8},mF s n L=some l->l∈L/\bA s n l l≠0
 |[],h=>by cases h
 |x::L,h=>by rw[mF]at h;split at h;obtain⟨h1,h2⟩:=Iv h;exact⟨jv _ h1,h2⟩;rename_i hx;cases h;exact⟨lv ..,hx⟩
theorem Zn{s:Lb}{n:Nat}:∀{k:Nat} {R:E8},ik s n k R=none->(∀r∈R,bA s n r r=0)/\R.Pairwise λr o=>bA s n (aX r (-1) o) (aX r (-1) o)=0
 |_,[],_=>⟨E1,.nil⟩
 |k,r::R,h=>by
  rw[ik]at h;cases e:mF s n (r::R.map λo=>aX r (-1) o) with
  |some l=>rw[e]at h;cases h
  |none=>
   rw[e]at h;obtain⟨h1,h2⟩:=Zn (k:=k+1) (R:=R) h;have z:=Iu e;refine⟨λx hx=>?_,Yc2.mpr ⟨λo ho=>z _<|jv _<|kK ho,h2⟩⟩;rcases Yan.mp hx with rfl|hx
   exact z _<|lv ..
   exact h1 x hx
theorem Iw{s:Lb}{n:Nat}{a:Nat}{l:Mn}:∀{k:Nat} {R:E8},ik s n k R=some (a,l)->∃i,a=k+i/\i<R.length/\(l=R.getD i []\/∃o∈R.drop (i+1),l=aX (R.getD i []) (-1) o)/\bA s n l l≠0
 |_,[],h=>by cases h
 |k,r::R,h=>by
  rw[ik]at h;cases e:mF s n (r::R.map λo=>aX r (-1) o) with
  |some l'=>
   rw[e]at h;cases h;obtain⟨h1,h2⟩:=Iv e;refine⟨0,rfl,E1,?_,h2⟩;rcases Yan.mp h1 with e1|h1
   exact .inl e1;obtain⟨o,ho,e1⟩:=YbT.mp h1;exact .inr ⟨o,ho,e1.symm⟩
  |none=>rw[e]at h;obtain⟨i,h1,h2,h3,h4⟩:=Iw (k:=k+1) (R:=R) h;exact⟨i+1,tv,by simpa using h2,by simpa using h3,h4⟩
def gq(r:Mn):Nat->Rat:=λj=>r.getD j 0
abbrev sA(s:Lb)(n:Nat):Nat->Nat->Int:=tA<|tbl s n
section
theorem jc(h:IsSl s n){v:Mn}(hu:u.length=n)(hv:v.length=n):bA s n u v=bf (Pj.cA<|sA s n) n (gq u) (gq v):=by unfold bA;rw[iH u _ n hu<|Gs.tims_len v];exact bV λi hi=>by rw[Gs.tims_at h hv hi];rfl
theorem oA{o:Mn}(hr:r.length=n)(ho:o.length=n):(aX r q o).length=n:=by unfold aX;rw[g6];omega
theorem A1{o:Mn}(hr:r.length=n)(ho:o.length=n):∀j,j<n->gq (aX r q o) j=gq r j-q*gq o j:=λj hj=>by unfold gq aX;simp only[aW];rw[bP (by rw[g6];omega),bP<|tv,bP<|tv,lC];rfl
theorem A2(hr:r.length=n):dh n (gq r)=r:=by
 refine si λi=>?_;unfold dh gq;rw[cJ];rcases gx i n with hi|hi
 rw[iN hi,bP<|tv];show some (r.getD i 0)=_;rw[aW,bP<|tv];rfl;rw[dX (by rw[fh];exact hi),dX<|tv];rfl
theorem ve(h:IsSl s n)(ev:s.reverse=s):∀i j,i<n->j<n->sA s n i j=sA s n j i:=λi j hi hj=>by
 have e1:=jc h (jT n i)<|jT n j;have e2:=jc h (jT n j)<|jT n i;have e3:bA s n (bG n i) (bG n j)=bA s n (bG n j) (bG n i):=by unfold bA;rw[GK h (jT n j)<|jT n i,ev]
 have key:∀a b,a<n->b<n->bf (Pj.cA<|sA s n) n (gq<|bG n a) (gq<|bG n b)=((sA s n a b:Int):Rat):=λa b ha hb=>by unfold bf;rw[gL ha λi hi ne=>by show(bG n a).getD i 0*_=0;rw[j9 hi,jx ne,fH],gL hb λj hj ne=>by show _*(bG n b).getD j 0=0;rw[j9 hj,jx ne,dI]];show(bG n a).getD a 0*(_*(bG n b).getD b 0)=_;rw[j9 ha,j9 hb,ks rfl,ks rfl,mP,mO]
 rw[e1,e2,key i j hi hj,key j i hj hi]at e3;exact_mod_cast e3
theorem yD(h:IsSl s n):∀i j,i<n->j<n->(sA s n i j).natAbs<=50:=λi j hi hj=>by show(tA (tbl s n) i j).natAbs<=50;rw[Gs.tA_ent h hi hj];have hl:=h.len;unfold ent;rw[aW,bP<|tv];have:=h.b _<|gQ (l:=s) (n:=n-1-i+j) tv;show(s[n-1-i+j]).natAbs<=50;omega
structure Sg(s:Lb)(n:Nat)(f R:E8):Prop where
 len:f.length+R.length=n
 wf:∀r∈f,r.length=n
 wR:∀r∈R,r.length=n
 ex:∃M,Pj.Mt (sA s n) n f.length M/\∀r∈R,∃v:Nat->Int,(∀j,j<n->(v j).natAbs<=1)/\Pj.Lt (sA s n) n f.length M v (gq r)
 lf:∀r∈f,Lf 163 n r
 ff:f.Pairwise λu v=>bA s n u v=0
 fR:∀u∈f,∀r∈R,bA s n u r=0
 fu:∀x:Mn,x.length=n->(∀r∈f++R,bD r x=0)->∀k,k<n->x.getD k 0=0
theorem Sg.rows(h:IsSl s n){R:E8}(g:Sg s n f R):∀r∈R,Lf 163 n r:=λr hr=>by obtain⟨M,m,hM⟩:=g.ex;obtain⟨v,hv,l⟩:=hM r hr;have hl:=g.len;have:0<R.length:=List.length_pos_of_mem hr;have:=l.lf h.n5 (yD h) m (by have:=h.n5;omega) λj hj=>gP (hv j hj) wp;rwa [A2<|g.wR r hr]at this
theorem Sg.start(h:IsSl s n):Sg s n [] ((List.range n).map<|bG n):=by refine⟨E1,E1,λr hr=>?_,⟨λ_ _=>0,⟨λi hi=>by simp at hi,λy _ j hj=>by simp at hj⟩,λr hr=>?_⟩,E1,.nil,E1,λx hx h0 k hk=>?_⟩;obtain⟨k,_,rfl⟩:=YbT.mp hr;exact jT n k;obtain⟨k,hk,rfl⟩:=YbT.mp hr;refine⟨λj=>if j=k then 1 else 0,λj hj=>by dsimp only;split<;>decide,⟨λ_=>0,λj hj=>?_⟩,λi hi=>by simp at hi⟩;show(bG n k).getD j 0=_;rw[j9 hj];simp only[jh,aG];split<;>grind;have:=h0 (bG n k) (by simp;exact⟨k,hk,rfl⟩);rw[iH _ x n (jT n k) hx,gL hk λi hi ne=>by rw[j9 hi,jx ne,fH],j9 hk,ks rfl,mP]at this;exact this
end
section
theorem yE(h:IsSl s n)(ev:s.reverse=s){v:Mn}(hu:u.length=n)(hv:v.length=n):bA s n u v=bA s n v u:=by unfold bA;rw[GK h hv hu,ev]
theorem vf(h:IsSl s n){v w:Mn}(hu:u.length=n)(hv:v.length=n)(hw:w.length=n):bA s n u (aX v q w)=bA s n u v-q*bA s n u w:=by rw[jc h hu<|oA hv hw,jc h hu hv,jc h hu hw,oB (u':=gq u) (v':=λj=>gq v j-q*gq w j) (λ_ _=>rfl)<|A1 hv hw,vd]
structure Ld(s:Lb)(n:Nat)(f R:E8)(a:Nat)(l:Mn):Prop where
 at_:a<R.length
 len:l.length=n
 le:l=R.getD a []\/∃o∈R.take a++R.drop (a+1),l=aX (R.getD a []) (-1) o
 nz:bA s n l l≠0
theorem Sg.ld{R:E8}(g:Sg s n f R)(e:ik s n 0 R=some (a,l)):Ld s n f R a l:=by
 obtain⟨i,h1,h2,h3,h4⟩:=Iw e;obtain rfl:a=i:=tv
 have ha:=g.wR _<|fv h2;rcases h3 with rfl|⟨o,ho,rfl⟩
 exact⟨h2,ha,.inl rfl,h4⟩;exact⟨h2,oA ha<|g.wR _<|lW ho,.inr ⟨o,jf _ ho,rfl⟩,h4⟩
theorem Ld.lt(h:IsSl s n){R:E8}(g:Sg s n f R)(d:Ld s n f R a l){M:Nat->Nat->Int}(hM:∀r∈R,∃v:Nat->Int,(∀j,j<n->(v j).natAbs<=1)/\Pj.Lt (sA s n) n f.length M v (gq r)):∃v:Nat->Int,(∀j,j<n->(v j).natAbs<=2)/\Pj.Lt (sA s n) n f.length M v (gq l):=by
 obtain⟨v,hv,hl⟩:=hM _<|fv d.at_;rcases d.le with e|⟨o,ho,e⟩
 rw[e];exact⟨v,λj hj=>gP (hv j hj)<|wp,hl⟩;obtain⟨v',hv',hl'⟩:=hM o (ju ho);refine⟨λj=>v j+v' j,λj hj=>?_,?_⟩;have:=qX (v j) (v' j);have:=hv j hj;have:=hv' j hj;dsimp only;omega;have:=hl.add hl';obtain⟨⟨x,hx⟩,h2⟩:=this;have eq:=A1 (q:=-1) (g.wR _<|fv d.at_)<|g.wR _ (ju ho);rw[<-e]at eq;exact⟨⟨x,λj hj=>(eq j hj).trans (hx j hj)⟩,λi hi=>by rw[oB (λ_ _=>rfl) eq];exact h2 i hi⟩
theorem Ld.lf(h:IsSl s n){f R:E8}(g:Sg s n f R){a:Nat}{l:Mn}(d:Ld s n f R a l):Lf 163 n l:=by obtain⟨M,m,hM⟩:=g.ex;obtain⟨v,hv,hl⟩:=d.lt h g hM;have:=d.at_;have:=g.len;have:=hl.lf h.n5 (yD h) m (by have:=h.n5;omega) hv;rwa [A2 d.len]at this
theorem OG(hr:r.length=n)(hl:l.length=n):(jb s n l r).length=n:=oA hr hl
theorem Ld.out(h:IsSl s n)(ev:s.reverse=s){R:E8}(g:Sg s n f R)(d:Ld s n f R a l):∀u∈f,bA s n u l=0:=λu hu=>by
 have e1:=g.fR u hu _<|fv d.at_;rcases d.le with e|⟨o,ho,e⟩
 rw[e];exact e1;rw[e,vf h (g.wf u hu) (g.wR _<|fv d.at_)<|g.wR _<|ju ho,e1,g.fR u hu o<|ju ho];grind
theorem Sg.step(h:IsSl s n)(ev:s.reverse=s){R:E8}(g:Sg s n f R)(d:Ld s n f R a l):Sg s n (f++[l]) ((R.take a++R.drop (a+1)).map<|jb s n l):=by
 have hlen:=g.len;have ha:=d.at_;have ra:=g.wR _<|fv d.at_;have hl:=d.len;have sy:=ve h ev;have nz:bf (Pj.cA<|sA s n) n (gq l) (gq l)≠0:=by rw[<-jc h hl hl];exact d.nz
 have wa:∀r∈R,(jb s n l r).length=n:=λr hr=>OG (g.wR r hr) hl;have own:∀r∈R,bA s n l (jb s n l r)=0:=λr hr=>by unfold jb;rw[vf h hl (g.wR r hr) hl,yE h ev hl<|g.wR r hr,dH];have:=jQ _ d.nz;grind
 refine⟨by simp;omega,λr hr=>?_,λr hr=>?_,?_,λr hr=>?_,?_,λu hu r hr=>?_,λx hx h0=>?_⟩;rcases Yao.mp hr with hr|hr
 exact g.wf r hr;rw[YcO.mp hr];exact hl;obtain⟨r0,h0,rfl⟩:=YbT.mp hr;exact wa r0<|ju h0
 obtain⟨M,m,hM⟩:=g.ex;obtain⟨v,hv,lt⟩:=d.lt h g hM;refine⟨Pj.nxt M f.length v,?_,λr hr=>?_⟩;rw[dA,kf];exact m.next sy hv lt nz;obtain⟨r0,h0,rfl⟩:=YbT.mp hr;obtain⟨v',hv',lt'⟩:=hM r0<|ju h0;rw[dA,kf];obtain⟨⟨x,hx⟩,h2⟩:=lt.next lt' sy nz;have eq:∀j,j<n->gq (jb s n l r0) j=gq r0 j-bf (Pj.cA<|sA s n) n (gq r0) (gq l)/bf (Pj.cA<|sA s n) n (gq l) (gq l)*gq l j:=λj hj=>by unfold jb;rw[A1 (g.wR r0<|ju h0) hl j hj,jc h (g.wR r0<|ju h0) hl,jc h hl hl]
 exact⟨v',hv',⟨x,λj hj=>(eq j hj).trans (hx j hj)⟩,λi hi=>by rw[oB (λ_ _=>rfl) eq];exact h2 i hi⟩;rcases Yao.mp hr with hr|hr
 exact g.lf r hr;rw[YcO.mp hr];exact d.lf h g;exact Yc1.mpr ⟨g.ff,E1,λu hu v hv=>by rw[YcO.mp hv];exact d.out h ev g u hu⟩;obtain⟨r0,h0,rfl⟩:=YbT.mp hr;rcases Yao.mp hu with hu|hu
 unfold jb;rw[vf h (g.wf u hu) (g.wR r0<|ju h0) hl,g.fR u hu r0<|ju h0,d.out h ev g u hu];grind;rw[YcO.mp hu];exact own r0<|ju h0
 have zl:bD l x=0:=h0 l E1;have zc:∀r∈R.take a++R.drop (a+1),bD r x=0:=λr hr=>by have:=h0 (jb s n l r)<|jf _ (kK hr);unfold jb at this;rw[u9<|by rw[g.wR r<|ju hr,hl],zl]at this;grind
 refine g.fu x hx λr hr=>?_;rcases Yao.mp hr with hr|hr
 exact h0 r (by simp[hr]);rcases(HR ha r).mp hr with rfl|hr
 rcases d.le with e|⟨o,ho,e⟩
 rw[<-e];exact zl;rw[e,u9<|by rw[ra,g.wR o<|ju ho],zc o ho]at zl;grind;exact zc r hr
structure Pa(s:Lb)(n:Nat)(P:E8):Prop where
 len:P.length=n
 lf:∀r∈P,Lf 163 n r
 ap:P.Pairwise λu v=>bA s n u v=0
 fu:∀x:Mn,x.length=n->(∀r∈P,bD r x=0)->∀k,k<n->x.getD k 0=0
theorem Sg.fin(h:IsSl s n)(ev:s.reverse=s){R:E8}(g:Sg s n f R)(e:ik s n 0 R=none):Pa s n (f++R):=by
 obtain⟨h1,h2⟩:=Zn e;refine⟨by rw[dA];exact g.len,λr hr=>?_,Yc1.mpr ⟨g.ff,?_,g.fR⟩,g.fu⟩;rcases Yao.mp hr with hr|hr
 exact g.lf r hr;exact g.rows h r hr;refine h2.imp_of_mem λ{r o} hr ho hz=>?_;have wr:=g.wR r hr;have wo:=g.wR o ho;rw[vf h (oA wr wo) wr wo,yE h ev (oA wr wo) wr,yE h ev (oA wr wo) wo,vf h wr wr wo,vf h wo wr wo,h1 r hr,h1 o ho,yE h ev wo wr]at hz;grind
theorem Ix(h:IsSl s n)(ev:s.reverse=s):∀(k:Nat) {f R:E8},Sg s n f R->R.length<=k->Pa s n (ut s n k f R)
 |0,f,R,g,hk=>by have:R=[]:=Yc9.mp tv;subst this;exact g.fin h ev rfl
 |k+1,f,R,g,hk=>by
  rw[ut];cases e:ik s n 0 R with
  |none=>exact g.fin h ev e|some al=>obtain⟨a,l⟩:=al;have d:=g.ld e;have ha:=d.at_;exact Ix h ev k (g.step h ev d) (by rw[aZ,dA,fZ,iq];omega)
theorem lu(h:IsSl s n)(ev:s.reverse=s):Pa s n (aY s n):=Ix h ev n (Sg.start h) E1
def pU(P:E8):Nat->Nat->Rat:=λa=>gq<|P.getD a []
theorem Pa.ap'(h:IsSl s n)(ev:s.reverse=s)(p:Pa s n P):Ap (Pj.cA<|sA s n) n (pU P):=by
 have wl:∀a,a<n->(P.getD a []).length=n:=λa ha=>(p.lf _<|fv (by rw[p.len];exact ha)).len;refine⟨λa b ha hb ne=>?_,λx hx k hk=>?_⟩;have key:∀a b,a<b->b<n->bf (Pj.cA<|sA s n) n (pU P a) (pU P b)=0:=λa b hab hb=>by have hp:=List.pairwise_iff_getElem.mp p.ap a b (by rw[p.len];omega) (by rw[p.len];exact hb) hab;unfold pU;rw[<-jc h (wl a<|tv) (wl b hb),aW,aW,bP (by rw[p.len];omega),bP (by rw[p.len];exact hb)];exact hp
 rcases gx a b with l|l
 exact key a b l hb;rw[pB λi j hi hj=>by show((sA s n i j:Int):Rat)=_;rw[ve h ev i j hi hj]];exact key b a tv ha;have:=p.fu (dh n x) (qR n x) (λr hr=>?_) k hk;rwa [ur x hk]at this;obtain⟨a,ha,e⟩:=Ybv.mp hr;have e':P.getD a []=r:=by rw[aW,bP ha];exact e
 rw[p.len]at ha;have:=hx a ha;refine Eq.trans ?_ this;rw[<-e',iH _ _ n (wl a ha)<|qR n x];exact bV λj hj=>by rw[ur x hj];rfl
theorem Pa.ind(h:IsSl s n)(p:Pa s n P):(bX P n).ld.length=n:=by
 have hR:∀r∈P,r.length=n:=λr hr=>(p.lf r hr).len;have ec:=rV hR n<|bU _;have:∀q,q<n->q∈(bX P n).pl:=λq hq=>Classical.byContradiction λhn=>by obtain⟨l,f0⟩:=ec.free hq hn;have:=p.fu _ l f0 q hq;rw[yj _ _ _ (by rw[jT];exact ec.lt) hn,j9 hq,ks rfl]at this;exact QS this wp
 have e:(bX P n).pl=List.range n:=ul ec.asc (va n) λx=>⟨λhx=>Yah.mpr<|ec.lt x hx,λhx=>this x<|Yah.mp hx⟩;rw[ec.ll,e,fh]
end
def lcV(g:WG)(wf:WT)(we:WE):RF->cS->RF->(cS->RF->Prop)->Prop
 |[],ρ,acc,Q=>Q ρ acc|d::ds,ρ,acc,Q=>g d ρ λρ2=>wf No ρ2 λb=>if b=true then we No ρ2 λy=>acc.length<aO/\lcV g wf we ds ρ2 (acc++[y]) Q else lcV g wf we ds ρ2 acc Q
def lcW2(g:WG)(wf:WT)(wi2:WA)(g2:WG)(wf2:WT)(we:WE):RF->cS->RF->(RF->Prop)->Prop
 |[],_,acc,Q=>Q acc|d::ds,ρ,acc,Q=>g d ρ λρ2=>wf No ρ2 λb=>if b=true then wi2 No ρ2 λds2=>lcV g2 wf2 we ds2 ρ2 acc λρ3 acc'=>lcW2 g wf wi2 g2 wf2 we ds ρ3 acc' Q else lcW2 g wf wi2 g2 wf2 we ds ρ2 acc Q
def yF(wi:WA)(nv:Nat)(sel:Ry)(g:WG)(wf:WT)(wi2:WA)(g2:WG)(wf2:WT)(we:WE):WA:=λE ρ Q=>wi E ρ λds=>lcW2 g wf wi2 g2 wf2 we ds (Zb2 nv sel ρ) [] Q
section
variable{pos:Pos}{t2 i2:Expr}{fz:List Expr}{g2:WG}{wf2:WT}{wi2:WA}
theorem lcV.mono(hg:∀d ρ P P',(∀r,P r->P' r)->g d ρ P->g d ρ P')(hf:∀E ρ P P',(∀d,P d->P' d)->wf E ρ P->wf E ρ P')(he:∀E ρ P P',(∀d,P d->P' d)->we E ρ P->we E ρ P') :
  ∀ds ρ acc P P',(∀r xs,P r xs->P' r xs)->lcV g wf we ds ρ acc P->lcV g wf we ds ρ acc P'
 |[],_,acc,P,P',hp,h=>hp _ _ h
 | d::ds,ρ,acc,P,P',hp,h=>hg _ _ _ _ (λr hr=>hf _ _ _ _ (λb hb=>by
   cases b with
   |false=>rw[jx<|wp]at hb ⊢;exact lcV.mono hg hf he ds r acc P P' hp hb
   |true=>rw[ks rfl]at hb ⊢;exact he _ _ _ _ (λy hy=>⟨hy.1,lcV.mono hg hf he ds r _ P P' hp hy.2⟩) hb) hr) h
theorem lcW2.mono(hg:∀d ρ P P',(∀r,P r->P' r)->g d ρ P->g d ρ P')(hf:∀E ρ P P',(∀d,P d->P' d)->wf E ρ P->wf E ρ P')(hi2:∀E ρ P P',(∀d,P d->P' d)->wi2 E ρ P->wi2 E ρ P')(hg2:∀d ρ P P',(∀r,P r->P' r)->g2 d ρ P->g2 d ρ P')(hf2:∀E ρ P P',(∀d,P d->P' d)->wf2 E ρ P->wf2 E ρ P')(he:∀E ρ P P',(∀d,P d->P' d)->we E ρ P->we E ρ P') :
  ∀ds ρ acc P P',(∀xs,P xs->P' xs)->lcW2 g wf wi2 g2 wf2 we ds ρ acc P->lcW2 g wf wi2 g2 wf2 we ds ρ acc P'
 |[],_,acc,P,P',hp,h=>hp _ h
 | d::ds,ρ,acc,P,P',hp,h=>hg _ _ _ _ (λr hr=>hf _ _ _ _ (λb hb=>by
   cases b with
   |false=>rw[jx<|wp]at hb ⊢;exact lcW2.mono hg hf hi2 hg2 hf2 he ds r acc P P' hp hb
   |true=>rw[ks rfl]at hb ⊢;exact hi2 _ _ _ _ (λds2 h2=>lcV.mono hg2 hf2 he ds2 r acc _ _ (λr' xs hx=>lcW2.mono hg hf hi2 hg2 hf2 he ds r' xs P P' hp hx) h2) hb) hr) h
theorem OH(vars:Rv)(sel:Ry)(hc:X.calm=true)(hi:lM X EX target iter wi)(hg:∀s H fp,pj (X.lc sc vars sel s H fp) target g)(hf:∀s H fp,rJ (X.lc sc vars sel s H fp) E0 ifs wf)
  (hi2:∀s H fp,lM (X.lc sc vars sel s H fp) E0 t2 i2 wi2) (hg2:∀s H fp,pj (X.lc sc vars sel s H fp) t2 g2) (hf2:∀s H fp,rJ (X.lc sc vars sel s H fp) E0 fz wf2) (he:∀s H fp,PX (X.lc sc vars sel s H fp) E0 elt we)
  (ok:{kq sc X.env.scope=true}) (so:{pL X.N sc sel=true}) (hs:autoParam (∀x,foldedSetIterable iter X.env x=pure x) RL._auto_1) (hs2:∀a x,foldedSetIterable i2 (jq sc X.env a) x=pure x:=by intro _ _;rfl) :
  PXL X EX (.ListComp elt [⟨target,iter,ifs,0⟩,⟨t2,i2,fz,0⟩] sc pos) (yF wi vars.length sel g wf wi2 g2 wf2 we):=by
 have gm:=(hg {} (λ_=>none) []).mono;have go:=(hg {} (λ_=>none) []).own;have fm:=(hf {} (λ_=>none) []).mono;have im:=(hi2 {} (λ_=>none) []).mono;have gm2:=(hg2 {} (λ_=>none) []).mono;have go2:=(hg2 {} (λ_=>none) []).own;have fm2:=(hf2 {} (λ_=>none) []).mono;have em:=(he {} (λ_=>none) []).mono;refine⟨?_,λE ρ P P' hp h=>hi.mono _ _ _ _ (λds hds=>lcW2.mono gm fm im gm2 fm2 em ds _ _ _ _ hp hds) h⟩;obtain⟨ti,pi,ki⟩:=hi.t;refine ⟨_,KM (wi:=ti) (g:=λv σ H Q=>∃ W0 H0 W ρ d,SOk X.K W0 H0 W σ H ρ/\Rep X.K W v d/\g d ρ (λρ'=>∀ σ',SOk X.K W0 H0 W σ' H ρ'->Q σ' H))
  (tf:=λσ H Q=>∃W0 H0 W ρ,SOk X.K W0 H0 W σ H ρ/\wf No ρ (λb=>∀W' H',Ext W H W' H'->Q b H'))
  (wi2:=λσ H R=>∃W0 H0 W ρ,SOk X.K W0 H0 W σ H ρ/\wi2 No ρ (λds=>∀W' H' J,Ext W H W' H'->o9 X.K W' J ds->R J H'))
  (g2:=λv σ H Q=>∃W0 H0 W ρ d,SOk X.K W0 H0 W σ H ρ/\Rep X.K W v d/\g2 d ρ (λρ'=>∀σ',SOk X.K W0 H0 W σ' H ρ'->Q σ' H))
  (tf2:=λσ H Q=>∃W0 H0 W ρ,SOk X.K W0 H0 W σ H ρ/\wf2 No ρ (λb=>∀W' H',Ext W H W' H'->Q b H'))
  (te:=λσ H Q=>∃W0 H0 W ρ,SOk X.K W0 H0 W σ H ρ/\we No ρ (RQ X.K W H Q)) vars sel hc pi ok so (λs1 H1 fp=>?_) (λs1 H1 fp=>?_) (λs1 H1 fp=>?_) (λs1 H1 fp=>?_) (λs1 H1 fp=>?_) (λs1 H1 fp=>?_) hs2 hs,?_⟩
 .obtain⟨t,q,k⟩:=(hg s1 H1 fp).t
  rintro oI s σ H v u Q I r ⟨W0,H0,W,ρ,d,s',r',h⟩;exact q oI s σ H v u Q I r<|k W0 H0 W σ H ρ d v Q s' r' h
 .obtain⟨t,q,k⟩:=(hf s1 H1 fp).t
  rintro oI s σ H Q I ⟨W0,H0,W,ρ,s',h⟩;exact q oI s σ H Q I<|k W0 H0 W σ H ρ No Q s' (λ_ _ _ _ _ z=>z.elim) h
 .obtain⟨t,q,k⟩:=(hi2 s1 H1 fp).t
  rintro oI s σ H R I ⟨W0,H0,W,ρ,s',h⟩;exact q oI s σ H R I<|k W0 H0 W σ H ρ No R s' (λ_ _ _ _ _ z=>z.elim) h
 .obtain⟨t,q,k⟩:=(hg2 s1 H1 fp).t
  rintro oI s σ H v u Q I r ⟨W0,H0,W,ρ,d,s',r',h⟩;exact q oI s σ H v u Q I r<|k W0 H0 W σ H ρ d v Q s' r' h
 .obtain⟨t,q,k⟩:=(hf2 s1 H1 fp).t
  rintro oI s σ H Q I ⟨W0,H0,W,ρ,s',h⟩;exact q oI s σ H Q I<|k W0 H0 W σ H ρ No Q s' (λ_ _ _ _ _ z=>z.elim) h
 .obtain⟨t,q,k⟩:=(he s1 H1 fp).t
  rintro oI s σ H Q I ⟨W0,H0,W,ρ,s',h⟩;exact q oI s σ H Q I<|k W0 H0 W σ H ρ No Q s' (λ_ _ _ _ _ z=>z.elim) h
 intro W0 H0 W σ H ρ E Q s eo h;refine ki W0 H0 W σ H ρ E _ s eo<|hi.mono _ _ _ _ (λds hds W1 H1 J x1 it D hD=>?_) h;have hDf:=x1.ok.fresh hD;have hD0:H0 D=none:=s.ext.isN<|x1.isN hD;refine ⟨λi m ys σ2 H2=>m=ds.length - i/\i<=ds.length/\∃ W2 ρ2 acc,Ext W1 H1 W2 H2/\SOk X.K W0 H0 W2 σ2 H2 ρ2/\Zh7 ρ2/\H2 D=some (.lst ys)/\W2.G D=none/\¬ W2.Pn D/\Reps X.K W2 ys acc/\
  lcW2 g wf wi2 g2 wf2 we (ds.drop i) ρ2 acc (λds=>∀a vs W' H',Ext W H W' H'->H' a=some (.lst vs)->W'.G a=none->¬W'.Pn a->H a=none->Reps X.K W' vs ds->Q (.ref a) H'),⟨_,rfl,jw _,W1,_,[],.new x1.ok hD,?_,Zb2.own _ _ ρ,aV,hDf.1,hDf.2,.nil,by rw[qV];exact hds⟩,?_⟩
 .exact(((s.step x1).step<|.new x1.ok hD).lc vars.length sel)
 rintro i m ys σ2 H2 ⟨rfl,hi',W2,ρ2,acc,x2,s2,no2,hD2,g2',p2,r2,q2⟩;refine⟨hD2,?_⟩;obtain⟨itg,its⟩:=it W2 H2 i x2.g x2.p x2.ok;have kpD:∀{V0:Wd} {G:Hp} {zs:RH} {W':Wd} {H':Hp},G D=some (.lst zs)->V0.G D=none->¬V0.Pn D->Ext V0 G W' H'->H' D=some (.lst zs)/\W'.G D=none/\¬W'.Pn D:=λ{V0 G zs W' H'} hG hg' hp' x'=>by
  refine⟨x'.h D _ hG hp',?_,λz=>?_⟩
  .cases q:W'.G D with|none=>rfl|some o=>have:=x'.gf D hg' (by rw[q];simp);rw[hG]at this;cases this
  .have:=x'.pf D hp' z;rw[hG]at this;cases this
 rcases gx i ds.length with hlt|hge
 .have hd:ds[i]? = some ds[i]:=bP hlt
  obtain⟨go',yl⟩:=itg _ hd;refine .inr ⟨go',λx H3 y=>?_⟩;obtain⟨W3,x3,r3⟩:=yl x H3 y;rw[qW hlt]at q2;refine⟨W0,H0,W3,ρ2,ds[i],s2.step x3,r3,gm _ _ _ _ (λρ4 hr σ4 s4=>?_)<|go _ _ _ no2 q2⟩;obtain⟨no4,hr⟩:=hr;refine⟨W0,H0,W3,ρ4,s4,fm _ _ _ _ (λb hb W5 H5 x5=>?_) hr⟩;have kD:=kpD hD2 g2' p2<|x3.trans x5;cases b with
  |false=>
   rw[jx<|wp]at hb;show ite _ _ _;rw[jx<|wp];exact⟨ds.length-(i+1),tv,rfl,hlt,W5,ρ4,acc,x2.trans<|x3.trans x5,s4.step x5,no4,kD.1,kD.2.1,kD.2.2,(x3.trans x5).reps r2,hb⟩
  |true=>
   rw[ks rfl]at hb;show ite _ _ _;rw[ks rfl];refine⟨W0,H0,W5,ρ4,s4.step x5,im _ _ _ _ (λds2 hds2 W6 H6 J2 x6 it2=>?_) hb⟩;have kD6:=kpD hD2 g2' p2<|x3.trans (x5.trans x6);refine ⟨λi2 k zs σ7 H7=>k=ds2.length - i2/\i2<=ds2.length/\∃ W7 ρ7 acc7,Wle W6 W7/\Ext W1 H1 W7 H7/\SOk X.K W0 H0 W7 σ7 H7 ρ7/\Zh7 ρ7/\H7 D=some (.lst zs)/\W7.G D=none/\¬ W7.Pn D/\Reps X.K W7 zs acc7/\
    lcV g2 wf2 we (ds2.drop i2) ρ7 acc7 (λρ3 acc'=>lcW2 g wf wi2 g2 wf2 we (ds.drop<|i+1) ρ3 acc' (λds=>∀a vs W' H',Ext W H W' H'->H' a=some (.lst vs)->W'.G a=none->¬W'.Pn a->H a=none->Reps X.K W' vs ds->Q (.ref a) H')),
    ⟨_,rfl,jw _,W6,ρ4,acc,.refl W6,x2.trans<|x3.trans<|x5.trans x6,(s4.step x5).step x6,no4,kD6.1,kD6.2.1,kD6.2.2,(x3.trans<|x5.trans x6).reps r2,by rw[qV];exact hds2⟩,?_⟩
   rintro i2 k zs σ7 H7 ⟨rfl,hi2',W7,ρ7,acc7,f7,x7,s7,no7,hD7,g7,p7,r7,q7⟩;refine⟨hD7,?_⟩;obtain⟨itg2,its2⟩:=it2 W7 H7 i2 f7.g f7.p s7.ok;rcases gx i2 ds2.length with hlt2|hge2
   .have hd2:ds2[i2]? = some ds2[i2]:=bP hlt2
    obtain⟨go2',yl2⟩:=itg2 _ hd2;refine .inr ⟨go2',λx H8 y=>?_⟩;obtain⟨W8,x8,r8⟩:=yl2 x H8 y;rw[qW hlt2]at q7;refine⟨W0,H0,W8,ρ7,ds2[i2],s7.step x8,r8,gm2 _ _ _ _ (λρ9 hr9 σ9 s9=>?_)<|go2 _ _ _ no7 q7⟩;obtain⟨no9,hr9⟩:=hr9;refine⟨W0,H0,W8,ρ9,s9,fm2 _ _ _ _ (λb hb WA HA xA=>?_) hr9⟩;cases b with
    |false=>
     rw[jx<|wp]at hb;show ite _ _ _;rw[jx<|wp];have kA:=kpD hD7 g7 p7<|x8.trans xA;exact⟨ds2.length-(i2+1),tv,rfl,hlt2,WA,ρ9,acc7,f7.ext<|x8.trans xA,x7.trans<|x8.trans xA,s9.step xA,no9,kA.1,kA.2.1,kA.2.2,(x8.trans xA).reps r7,hb⟩
    |true=>
     rw[ks rfl]at hb;show ite _ _ _;rw[ks rfl];refine⟨W0,H0,WA,ρ9,s9.step xA,em _ _ _ _ (λy hy v WB HB xB rB=>?_) hb⟩;have xx:=x8.trans<|xA.trans xB;have kB:=kpD hD7 g7 p7 xx;have hl:zs.length=acc7.length:=r7.length;refine⟨kB.1,by rw[hl];exact dP hy.1<|pQ<|bU _,ds2.length-(i2+1),tv,rfl,hlt2,WB,ρ9,acc7++[y],f7.ext xx,(x7.trans xx).chg hD kB.1 kB.2.2 kB.2.1,?_,no9,aV,kB.2.1,kB.2.2,(xx.reps r7).append<|.cons rB .nil,hy.2⟩;exact((s9.step xA).step xB).chgD no9 hD0 kB.1 kB.2.2 kB.2.1
   .refine .inl ⟨its2 hge2,?_⟩
    rw[zk hge2]at q7;exact⟨ds.length-(i+1),tv,rfl,hlt,W7,ρ7,acc7,x7,s7,no7,hD7,g7,p7,r7,q7⟩
 .refine .inl ⟨its hge,?_⟩
  rw[zk hge]at q2;exact q2 D ys W2 H2 (x1.trans x2) hD2 g2' p2 (x1.isN hD) r2
end
def jd:Option (Nat×Mn)->D
 |none=>.non|some (a,l)=>.tup [.int (a:Int),aE l]
def vg(x:D):Except Str D:=gg x (if gD x=true then .ok (bE<|aY (sI x)<|sN x) else .error "NotEven")
def fO(s:Lb)(n:Nat)(P:E8):Nat:=(P.filter λr=>decide (0<bA s n r r)).length
def je(s:Lb)(n:Nat)(P:E8):Nat:=(P.filter λr=>decide (bA s n r r<0)).length
def pC(s:Lb)(n:Nat)(P:E8):D:=.tup [.int (fO s n P:Int),.int (je s n P:Int),.int<|(P.length:Int)-(fO s n P:Int)-(je s n P:Int)]
def Ez(x:D):Except Str D:=gg x (if gD x=true then .ok (pC (sI x) (sN x)<|aY (sI x)<|sN x) else .error "NotEven")
structure EA(n:Nat)(r:Mn):Prop where
 len:r.length=n
 sz:∀y∈r,Sz 170 y
structure Pq0(s:Lb)(n:Nat)(P:E8):Prop where
 sl:IsSl s n
 ev:s.reverse=s
 len:P.length=n
 lf:∀r∈P,EA n r
 cz:xv n n P
def yG:bN:=fnS (λx:(Nat×Nat)×E8=>[bE x.2,.int x.1.2]) (λx=>xv x.1.1 x.1.2 x.2) λx=>.bl<|decide ((bX x.2 x.1.2).ld.length=x.2.length)
def yH:bN:=fnS (λx:SL×E8×E8=>[aJ x.1.1,bE x.2.2]) (λx=>IsSl x.1.1 x.1.2/\x.1.1.reverse=x.1.1/\Sg x.1.1 x.1.2 x.2.1 x.2.2) λx=>jd<|ik x.1.1 x.1.2 0 x.2.2
def A3:bN:=fnS (λx:SL×Mn×Mn=>[aJ x.1.1,aE x.2.1,aE x.2.2]) (λx=>IsSl x.1.1 x.1.2/\x.1.1.reverse=x.1.1/\Lf 163 x.1.2 x.2.1/\Lf 163 x.1.2 x.2.2/\bA x.1.1 x.1.2 x.2.2 x.2.2≠0) λx=>aE<|jb x.1.1 x.1.2 x.2.2 x.2.1
def uu:bN:=xS (λx:D=>[x]) (λx=>kd x=true) vg
def A4:bN:=xS (λx:D×D=>[x.1,x.2]) (λx=>kd x.1=true/\kd x.2=true/\iC 170 x.2=true) λx=>Au x.1 x.2 x.2
def A5:bN:=fnS (λx:SL×E8=>[aJ x.1.1,bE x.2]) (λx=>Pq0 x.1.1 x.1.2 x.2) λx=>.bl<|decide (x.2.Pairwise λu v=>bA x.1.1 x.1.2 u v=0)
def A6:bN:=fnS (λx:SL×E8=>[aJ x.1.1,bE x.2]) (λx=>Pq0 x.1.1 x.1.2 x.2) λx=>.bl<|decide ((bX x.2 x.1.2).ld.length=x.2.length/\x.2.Pairwise λu v=>bA x.1.1 x.1.2 u v=0)
def A7:bN:=fnS (λx:SL×E8=>[aJ x.1.1,bE x.2]) (λx=>Pq0 x.1.1 x.1.2 x.2/\(bX x.2 x.1.2).ld.length=x.2.length/\x.2.Pairwise λu v=>bA x.1.1 x.1.2 u v=0) λx=>pC x.1.1 x.1.2 x.2
def EB:bN:=uu
def yI:bN:=xS (λx:D=>[x]) (λx=>kd x=true) Ez
section
variable{E:RE}{x z:D}{w:Nat}{v:Mn}{R:E8}
theorem Iy(h:IsSl s n)(ev:s.reverse=s)(g:Sg s n f R)(q:Q (jd<|ik s n 0 R)):yH [aJ s,bE R] E Q:=⟨((s,n),f,R),rfl,⟨h,ev,g⟩,q⟩
theorem OI(h:IsSl s n)(ev:s.reverse=s)(h1:Lf 163 n r)(h2:Lf 163 n l)(h3:bA s n l l≠0)(q:Q (aE<|jb s n l r)):A3 [aJ s,aE r,aE l] E Q:=⟨((s,n),r,l),rfl,⟨h,ev,h1,h2,h3⟩,q⟩
theorem A8(h:IsSl s n)(ev:s.reverse=s)(q:Q .non):qJ [aJ s] E Q:=xS.ok (aJ s) rfl h.kd (by(try dsimp only);rw[Zb h];unfold gD;rw[d8,QT ev];rfl) q
theorem EC(h:IsSl s n)(ev:s.reverse=s)(q:Q (bE<|aY s n)):uu [aJ s] E Q:=xS.ok (aJ s) rfl h.kd (by(try dsimp only);unfold vg;rw[Zb h];unfold gD;rw[d8,QT ev,h.sN];rfl) q
theorem Iz(h:IsSl s n)(ev:s.reverse=s)(q:Q (pC s n<|aY s n)):yI [aJ s] E Q:=xS.ok (aJ s) rfl h.kd (by(try dsimp only);unfold Ez;rw[Zb h];unfold gD;rw[d8,QT ev,h.sN];rfl) q
theorem IC(h:IsSl s n)(ev:s.reverse=s)(hu:u.length=n)(hv:v.length=n):Au (aJ s) (aE u) (aE v)=.ok (aN<|bA s n u v):=by
 unfold Au DD;rw[Zb h];unfold gD;have e1:jt n (aE u)=true:=by have:=t8 u;rwa [hu]at this
 have e2:jt n (aE v)=true:=by have:=t8 v;rwa [hv]at this
 rw[d8,QT ev,h.sN,e1,e2,qI,qI];rfl
theorem Ze(h:IsSl s n)(ev:s.reverse=s)(hu:u.length=n)(hv:v.length=n)(zu:∀x∈u,Sz 170 x)(zv:∀x∈v,Sz 170 x)(q:Q (aN<|bA s n u v)):iF [aJ s,aE u,aE v] E Q:=
 xS.ok (aJ s,aE u,aE v) rfl ⟨h.kd,rM (by have:=h.n5;omega),rM (by have:=h.n5;omega),Zco.mpr zu,Zco.mpr zv⟩ (IC h ev hu hv) q
theorem OJ(h:IsSl s n)(ev:s.reverse=s)(hu:u.length=n)(zu:∀x∈u,Sz 170 x)(q:Q (aN<|bA s n u u)):A4 [aJ s,aE u] E Q:=
 xS.ok (aJ s,aE u) rfl ⟨h.kd,rM (by have:=h.n5;omega),Zco.mpr zu⟩ (IC h ev hu hu) q
theorem OK(h:Pq0 s n P)(q:Q (.bl<|decide (P.Pairwise λu v=>bA s n u v=0))):A5 [aJ s,bE P] E Q:=⟨((s,n),P),rfl,h,q⟩
theorem OL(h:Pq0 s n P)(q:Q (.bl<|decide ((bX P n).ld.length=P.length/\P.Pairwise λu v=>bA s n u v=0))):A6 [aJ s,bE P] E Q:=⟨((s,n),P),rfl,h,q⟩
theorem OM(h:Pq0 s n P)(h1:(bX P n).ld.length=P.length)(h2:P.Pairwise λu v=>bA s n u v=0)(q:Q (pC s n P)):A7 [aJ s,bE P] E Q:=⟨((s,n),P),rfl,⟨h,h1,h2⟩,q⟩
end
theorem yJ:∀{m:Nat},m<=4->3*bq 168 m<8990:=λ{m} h=>by
 have:=Zd (b:=168) h;have e:bq 168 4=2703:=wp
 omega
theorem Pq0.of(h:IsSl s n)(ev:s.reverse=s)(hl:P.length=n)(lf:∀r∈P,Lf 168 n r):Pq0 s n P:=⟨h,ev,hl,λr hr=>⟨(lf r hr).len,λy hy=>((lf r hr).sz y hy).mono<|wp⟩,ClIn.z (b:=168) ⟨bU _,by have:=h.n5;omega,by rw[hl];have:=h.n5;omega,yJ (by have:=h.n5;omega),lf⟩⟩
theorem yK(h:IsSl s n){v:Mn}(hu:Lf b n u)(hv:Lf b n v):Sz (2*b+11) (bA s n u v):=by
 rw[jc h hu.len hv.len];obtain⟨c,e,h1,h2,h3,h4,rfl⟩:=hu.ex;obtain⟨d,g,g1,g2,g3,g4,rfl⟩:=hv.ex;have gc:∀(c:Lb) (e:Int) j,gq (c.map λx=>Rat.divInt x e) j=Rat.divInt (c.getD j 0) e:=λc e j=>by
  unfold gq;rw[aW,cJ,aW];cases c[j]? with
  |none=>show(0:Rat)=Rat.divInt 0 e;rw[BZ]|some x=>rfl
 have key:bf (Pj.cA<|sA s n) n (gq<|c.map λx=>Rat.divInt x e) (gq<|d.map λx=>Rat.divInt x g)=Rat.divInt (Pj.bI (sA s n) n (λj=>c.getD j 0) λj=>d.getD j 0) (e*g):=by
  have ie:((e*g:Int):Rat)⁻¹=((e:Int):Rat)⁻¹*((g:Int):Rat)⁻¹:=by have ne:((e:Int):Rat)≠0:=λz=>h2 (by exact_mod_cast z);have ng:((g:Int):Rat)≠0:=λz=>g2 (by exact_mod_cast z);have a1:=jQ _ ne;have a2:=jQ _ ng;have a3:=jQ (((e:Int):Rat)*((g:Int):Rat)) (λz=>by rcases Ydd.mp z with z|z;exact ne z;exact ng z);rw[eY];generalize (((e:Int):Rat)*((g:Int):Rat))⁻¹=x at *;grind
  rw[l3,<-Pj.bI_cast,dH,lZ,ie];unfold bf;rw[<-Dt.sumN_mul];refine bV λi _=>?_;rw[gc,l3,bV (g:=λj=>((g:Int):Rat)⁻¹*((sA s n i j:Rat)*((d.getD j 0:Int):Rat))) (λj _=>by rw[gc,l3,dH];grind),Dt.sumN_mul,dH];grind
 rw[key];have m5:=h.n5;have cz:∀(c:Lb) (j:Nat),(∀x∈c,x.natAbs<2^b)->(c.getD j 0).natAbs<=2^b:=λc j hc=>by
  rw[aW];cases e:c[j]? with
  |none=>exact jw _|some x=>exact gY<|hc x (iK e)
 refine u3 (lY h2 g2) ?_ ?_;have h1:∀i,i<n->(Dt.sumI (λj=>sA s n i j*d.getD j 0) n).natAbs<=n*(50*2^b):=λi hi=>Pj.sumI_bd λj hj=>by rw[eh];exact hJ (yD h i j hi hj)<|cz d j g4
 have h2:=Pj.sumI_bd (f:=λi=>c.getD i 0*Dt.sumI (λj=>sA s n i j*d.getD j 0) n) (c:=2^b*(n*(50*2^b))) (n:=n) λi hi=>by rw[eh];exact hJ (cz c i h4)<|h1 i hi
 have h3:n*(2^b*(n*(50*2^b)))<=5*(2^b*(5*(50*2^b))):=hJ m5<|Nat.mul_le_mul_left _ (lU _ m5);have e1:2^(2*b+11)=2^b*2^b*2048:=by rw[kj,show 2*b=b+b by omega,kj]
 have e2:5*(2^b*(5*(50*2^b)))=1250*(2^b*2^b):=by grind
 have e3:0<2^b*2^b:=Nat.mul_pos (zn<|wp)<|zn wp;unfold Pj.bI;dsimp only;omega
 rw[eh,kj,show 2*b=b+b by omega,kj];have:=pG h3 g3;omega
abbrev Zem:Rv:=["rows", "many"]
def ID:WS:=(aI<|w2 (gEq false) (wB bZ<|aC (w2 gIx (wF xw<|aC (wN 0)<|aC (wN 1) aA)<|wC<|.int<|0) aA)<|wB bZ<|aC (wN 0) aA)
abbrev ZhH:Rv:=["slants", "rows", "at", "row", "sums", "lead"]
def ED:WS:=(cc 4<|aH (bH<|bS (iE<|aC (wN 1) aA) (de 2<|bL (gN 2)<|bL (gN 3) cV)<|aH (cH 4<|aLC (iS<|cG (wN 1) (dW<|w2 gAdd (wN 2)<|wC<|.int<|1) eL) 1 [3] (gN 0) cU<|wF ou<|aC (wN 1)<|aC (wF qG<|aC (wC<|D.tup [(D.int<|0),(D.int<|1)])<|aC (wC<|D.tup [(D.int<|1),(D.int<|1)]) aA)<|aC (wN 0) aA)<|cc 4<|bH<|bS (iS<|w2 gAdd (wL<|cF<|aC (wN 3) aA)<|wN 4) (gN 5)<|cP (wT<|w2 (gEq true) (wF iF<|aC (wN 0)<|aC (wN 5)<|aC (wN 5) aA)<|wC<|D.tup [(D.int<|0),(D.int<|1)]) (aI<|bO<|aC (wN 2)<|aC (wN 5) aA) cR)<|aI<|wC D.non)
abbrev ZhO:Rv:=["slants", "row", "lead"]
def IE:WS:=(aI<|wF ou<|aC (wN 1)<|aC (wF mz<|aC (wF iF<|aC (wN 0)<|aC (wN 1)<|aC (wN 2) aA)<|aC (wF iF<|aC (wN 0)<|aC (wN 2)<|aC (wN 2) aA) aA)<|aC (wN 2) aA)
abbrev ZhN:Rv:=["slants", "size", "found", "rest", "place_and_lead", "at", "lead"]
def EE:WS:=(aH (fK<|wF qJ<|aC (wN 0) aA)<|aH (aQ 1<|wF jR<|aC (wN 0) aA)<|aH (cH 2<|cF aA)<|aH (cH 3<|aLC (iy<|aC (wN 1) aA) 1 [1] (gN 0) cU<|wF xr<|aC (wN 0)<|aC (wN 1) aA)<|cc 3<|aH (aQ 4<|wF yH<|aC (wN 0)<|aC (wN 3) aA)<|cc 3<|aH (bH<|Zl (wT<|w2 (gIsC true) (wN 4)<|wC D.non)<|aH (eu (wN 4)<|de 2<|bL (gN 5)<|bL (gN 6) cV)<|aH (df 2<|wN 6)<|cc 3<|aH (cH 3<|aLC (iS<|w2 gAdd (cG (wN 3) eL<|dW<|wN 5)<|cG (wN 3) (dW<|w2 gAdd (wN 5)<|wC<|.int<|1) eL) 1 [0,6] (gN 0) cU<|wF A3<|aC (wN 1)<|aC (wN 0)<|aC (wN 2) aA)<|cc 3<|aQ 4<|wF yH<|aC (wN 0)<|aC (wN 3) aA)<|cc 2<|cc 3<|aI<|w2 gAdd (wN 2)<|wN 3)
abbrev ZlY:Rv:=["slants", "row"]
def IF:WS:=(aI<|wF iF<|aC (wN 0)<|aC (wN 1)<|aC (wN 1) aA)
abbrev Zji:Rv:=["slants", "rows"]
def EF:WS:=(aI<|wB h8<|aC (wL<|yF (iE<|aC (wN 1) aA) 3 [0,1] (de 2<|bL (gN 0)<|bL (gN 1) cV) cU (iS<|cG (wN 4) (dW<|w2 gAdd (wN 0)<|wC<|.int<|1) eL) (gN 2) cU<|w2 (gEq false) (wF iF<|aC (wN 3)<|aC (wN 1)<|aC (wN 2) aA)<|wC<|D.tup [(D.int<|0),(D.int<|1)]) aA)
abbrev Zel:Rv:=["slants", "thing", "size"]
def EG:WS:=(aH (fK<|wF qJ<|aC (wN 0) aA)<|aH (aQ 2<|wF jR<|aC (wN 0) aA)<|aH (cP (fJ (bW<|wT<|wB gIs<|aC (wN 1)<|aC (wC<|.ty "list") aA)<|wT<|w2 (gEq true) (wB bZ<|aC (wN 1) aA)<|wN 2) (aI<|wC<|D.bl false) cR)<|aH (cP (bW<|wT<|wB h8<|aC (wL<|aLC (iS<|wN 1) 1 [0] (gN 0) cU<|wF rO<|aC (wN 1)<|aC (wN 0) aA) aA) (aI<|wC<|D.bl false) cR)<|aI<|gB (wF yG<|aC (wN 1)<|aC (wN 2) aA)<|wF A5<|aC (wN 0)<|aC (wN 1) aA)
abbrev Zj4:Rv:=["slants", "paper", "tops", "above", "below"]
def EH:WS:=(aH (cP (bW<|wT<|wF A6<|aC (wN 0)<|aC (wN 1) aA) (i7<|PySem.Str.ofString "NoRow") cR)<|aH (cH 2<|aLC (iS<|wN 1) 1 [0] (gN 0) cU<|w2 gIx (wF A4<|aC (wN 1)<|aC (wN 0) aA)<|wC<|.int<|0)<|cc 2<|aH (aQ 3<|wB bZ<|aC (wL<|aLC (iS<|wN 2) 1 [] (gN 0) (wT<|w2 jK (wN 0)<|wC<|.int<|0)<|wN 0) aA)<|cc 2<|aH (aQ 4<|wB bZ<|aC (wL<|aLC (iS<|wN 2) 1 [] (gN 0) (wT<|w2 pp (wN 0)<|wC<|.int<|0)<|wN 0) aA)<|cc 2<|aI<|bO<|aC (wN 3)<|aC (wN 4)<|aC (w2 i6 (w2 i6 (wB bZ<|aC (wN 2) aA)<|wN 3)<|wN 4) aA)
abbrev ZhF:Rv:=["slants"]
def IG:WS:=(aI<|wF uu<|aC (wN 0) aA)
abbrev Zj3:Rv:=["slants"]
def IH:WS:=(aI<|wF A7<|aC (wN 0)<|aC (wF EB<|aC (wN 0) aA) aA)
theorem ON:Rd yG ID Zem:=by rintro _ E Q ⟨⟨⟨w,m⟩,R⟩,rfl,h,q⟩;dsimp only at h q;unfold ID;ext;refine⟨((w,m),R),rfl,h,?_⟩;refine⟨_,rfl,?_⟩;unfold bE;ext;rw[aZ,aZ,show((((bX R m).ld.length:Nat):Int)==((R.length:Nat):Int))=decide ((bX R m).ld.length=R.length) by rw[lA];simp;exact Int.ofNat_inj];exact q
theorem OO:Rd A4 IF ZlY:=by rintro _ E Q ⟨⟨x,y⟩,rfl,⟨h1,h2,h3⟩,q⟩;dsimp only at h1 h2 h3 q;unfold IF;ext;exact⟨(x,y,y),rfl,⟨h1,h2,h2,h3,h3⟩,q⟩
theorem OP:Rd A3 IE ZhO:=by rintro _ E Q ⟨⟨⟨s,n⟩,r,l⟩,rfl,⟨h,ev,hr,hl,h0⟩,q⟩;dsimp only at h ev hr hl h0 q;unfold IE;ext;have up:∀x:Rat,Sz 163 x->Sz 170 x:=λx hx=>hx.mono wp;have z1:=yK h hr hl;have z2:=yK h hl hl;refine Ze h ev hr.len hl.len (λx hx=>up x<|hr.sz x hx) (λx hx=>up x<|hl.sz x hx)<|Ze h ev hl.len hl.len (λx hx=>up x<|hl.sz x hx) (λx hx=>up x<|hl.sz x hx) (t7 (B2.of z1 z2<|wp) h0 ?_);exact xD (b:=674) wp (by rw[hr.len];have:=h.n5;omega) (λy hy=>(hr.sz y hy).mono<|wp) ((z1.div z2).mono<|wp) (λy hy=>(hl.sz y hy).mono<|wp) q
theorem EI{neg:Bool}{P:RG}(h:P (.bl (if neg then !decide (q=0) else decide (q=0)))):gEq neg (aN q) (.tup [.int 0,.int 1]) P:=by
 refine mx (qF _ 59) sa ?_;have e:gC (aN q) (.tup [.int 0,.int 1])=decide (q=0):=by rw[<-xq,As]
 rw[e];exact h
theorem II{s:Lb}{n:Nat}{Q:RG}{E:RE}{N:Nds}{s1 s3 s4:SV}{k:Nat}(h:IsSl s n)(ev:s.reverse=s)(hN:N.rt=Q):∀(L:E8) (s5:SV),(∀r∈L,Lf 163 n r)->(∀l,mF s n L=some l->Q (.tup [.int k,aE l]))->(mF s n L=none->∀s5,N.nx [.d<|aJ s,s1,.d<|.int k,s3,s4,s5])->Zbh (gN 5) (cP (wT<|w2 (gEq true) (wF iF<|aC (wN 0)<|aC (wN 5)<|aC (wN 5) aA)<|wC<|D.tup [(D.int<|0),(D.int<|1)]) (aI<|bO<|aC (wN 2)<|aC (wN 5) aA) cR) E N (L.map aE) [.d<|aJ s,s1,.d<|.int k,s3,s4,s5]
 |[],s5,_,_,h2=>h2 rfl s5
 |r::L,s5,hl,h1,h2=>by
  rw[cN,Zbh];simp only[gN,List.set_cons_succ,List.set_cons_zero];have hr:=hl r E1;have up:∀x∈r,Sz 170 x:=λx hx=>(hr.sz x hx).mono wp;refine gp (b:=!decide (bA s n r r=0)) (λP hP=>?_) (λe=>?_) λe=>?_;ext;exact Ze h ev hr.len hr.len up up<|EI hP
  have e0:¬bA s n r r=0:=by simpa using e
  have:=h1 r (by rw[mF,jx e0]);rw[<-hN]at this;ext;exact⟨wp,this⟩;have e0:bA s n r r=0:=by simpa using e
  exact II h ev hN L _ (λx hx=>hl x<|by simp[hx]) (λl hl'=>h1 l (by rw[mF,ks e0];exact hl')) λhn=>h2 (by rw[mF,ks e0];exact hn)
theorem Sg.sums(h:IsSl s n){R:E8}(g:Sg s n f R):∀r∈R,∀o∈R,Lf 163 n (aX r (-1) o):=λr hr o ho=>by
 obtain⟨M,m,hM⟩:=g.ex;obtain⟨v,hv,hl⟩:=hM r hr;obtain⟨v',hv',hl'⟩:=hM o ho;obtain⟨⟨x,hx⟩,h2⟩:=hl.add hl';have eq:=A1 (q:=-1) (g.wR r hr)<|g.wR o ho;have hlen:=g.len;have:0<R.length:=List.length_pos_of_mem hr;have lt:Pj.Lt (sA s n) n f.length M (λj=>v j+v' j) (gq<|aX r (-1) o):=⟨⟨x,λj hj=>(eq j hj).trans (hx j hj)⟩,λi hi=>by rw[oB (λ_ _=>rfl) eq];exact h2 i hi⟩
 have:=lt.lf h.n5 (yD h) m (by have:=h.n5;omega) λj hj=>by have:=qX (v j)<|v' j;have:=hv j hj;have:=hv' j hj;omega
 rwa [A2<|oA (g.wR r hr)<|g.wR o ho]at this
theorem IJ{s:Lb}{n:Nat}{Q:RG}{E:RE}{N:Nds}{f R:E8}(h:IsSl s n)(ev:s.reverse=s)(g:Sg s n f R)(hN:N.rt=Q):∀(R':E8) (k:Nat) (s2 s3 s4 s5:SV),R.drop k=R'->k+R'.length=R.length->(∀a l,ik s n k R'=some (a,l)->Q (.tup [.int (a:Int),aE l]))->(ik s n k R'=none->∀s2 s3 s4 s5,N.nx [.d<|aJ s,.d<|bE R,s2,s3,s4,s5])->Zbh (de 2<|bL (gN 2)<|bL (gN 3) cV) (aH (cH 4<|aLC (iS<|cG (wN 1) (dW<|w2 gAdd (wN 2)<|wC<|.int<|1) eL) 1 [3] (gN 0) cU<|wF ou<|aC (wN 1)<|aC (wF qG<|aC (wC<|D.tup [(D.int<|0),(D.int<|1)])<|aC (wC<|D.tup [(D.int<|1),(D.int<|1)]) aA)<|aC (wN 0) aA)<|cc 4<|bH<|bS (iS<|w2 gAdd (wL<|cF<|aC (wN 3) aA)<|wN 4) (gN 5)<|cP (wT<|w2 (gEq true) (wF iF<|aC (wN 0)<|aC (wN 5)<|aC (wN 5) aA)<|wC<|D.tup [(D.int<|0),(D.int<|1)]) (aI<|bO<|aC (wN 2)<|aC (wN 5) aA) cR) E N (dF k<|R'.map aE) [.d<|aJ s,.d<|bE R,s2,s3,s4,s5]
 |[],k,s2,s3,s4,s5,_,_,_,h2=>h2 rfl s2 s3 s4 s5
 |r::R',k,s2,s3,s4,s5,hd,hk,h1,h2=>by
  rw[cN,dF,Zbh];refine⟨rfl,?_⟩;simp only[bL,cV,gN,List.set_cons_succ,List.set_cons_zero];have n5:=h.n5;have gl:=g.len;have hr:r∈R:=lW (i:=k) (by rw[hd];simp);have hR':∀o∈R',o∈R:=λo ho=>lW (i:=k) (by rw[hd];simp[ho]);have tl:R.drop (k+1)=R':=by rw[<-List.drop_drop,hd];rfl
  simp only[dD]at hk;have lr:=g.rows h r hr;refine cB<|B.C.own_by (xs:=(R'.map λo=>aX r (-1) o).map aE) (ρ':=[.d<|aJ s,.d<|bE R,.d<|.int k,.d<|aE r,.ow<|(R'.map λo=>aX r (-1) o).map aE,s5]) rfl (λP hP=>?_) ?_
  unfold bE;ext;rw[show(k:Int)+1=((k+1:Nat):Int) by omega,ub (by rw[aZ];omega),<-oD,tl];refine li (g:=aE) (f:=λo=>aE<|aX r (-1) o) R' (λo ho P hP=>?_) .un [] (eJ (by simp;omega)) ?_;ext;refine Ab (p:=0) (q:=1) (B2.of (n:=1) (m:=1) (Sz.zero<|wp) (Sz.int 1 wp<|wp)<|wp) ?_;rw[show(0:Rat)-1 = -1 from sa];have lo:=g.rows h o<|hR' o ho;exact xD (b:=163) wp (by rw[lr.len];omega) lr.sz (Sz.mono (n:=2) wp ⟨wp,wp⟩) lo.sz hP
  rw[dG,List.map_map] at *;exact hP;dsimp only;refine B.C.pub_by (ρ':=[.d<|aJ s,.d<|bE R,.d<|.int k,.d<|aE r,.d<|.lst<|(R'.map λo=>aX r (-1) o).map aE,s5]) rfl ?_;simp only[bH];refine B.C.for_seq (xs:=(r::R'.map λo=>aX r (-1) o).map aE) (λP hP=>?_) ?_;ext;exact⟨wp,eJ (by simp;omega),hP⟩;refine II (Q:=Q) h ev (by exact hN) _ _ (λo ho=>?_) (λl hl=>h1 k l<|by rw[ik,hl]) λhn s5'=>?_;rcases Yan.mp ho with rfl|ho
  exact lr;obtain⟨o',ho',rfl⟩:=YbT.mp ho;exact g.sums h r hr o'<|hR' o' ho'
  exact IJ h ev g hN R' (k+1) _ _ _ _ tl tv (λa l hl=>h1 a l (by rw[ik,hn];exact hl)) λhn2=>h2 (by rw[ik,hn];exact hn2)
theorem OQ:Rd yH ED ZhH:=by rintro _ E Q ⟨⟨⟨s,n⟩,f,R⟩,rfl,⟨h,ev,g⟩,q⟩;dsimp only at h ev g q;show ED E _ [.d<|aJ s,.d<|bE R,.un,.un,.un,.un];unfold ED;refine B.C.pub_by (ρ':=[.d<|aJ s,.d<|bE R,.un,.un,.un,.un]) rfl ?_;refine cB ?_;simp only[bH,bS];show iE _ _ [.d<|aJ s,.d<|.lst<|R.map aE,.un,.un,.un,.un] _;simp only[iE,aC,aA,wN,dN,eA];refine IJ (Q:=Q) h ev g rfl R 0 .un .un .un .un E1 E1 (λa l e=>?_) λe s2 s3 s4 s5=>?_;rw[e]at q;exact q;rw[e]at q;exact q
theorem IK{E:RE}{b:Bool}{P:Bool->Prop}(hw:∀P:D->Prop,P (.bl b)->w E ρ P)(h:P b):wT w E ρ P:=hw _ h
theorem OR{E:RE}{x:D}(hw:∀P:D->Prop,P (.tup [x,y])->w E ρ P)(e:(ρ.set i<|.d x).set j (.d y)=ρ')(h:N.nx ρ'):eu w (de 2<|bL (gN i)<|bL (gN j) cV) E N ρ:=hw _ ⟨rfl,by rw[<-e]at h;exact h⟩
theorem OS:Rd uu EE ZhN:=by
 rintro _ E Q ⟨x,rfl,hk,q⟩;show EE E _ [.d x,.un,.un,.un,.un,.un,.un];unfold EE;walk_at "n";unfold vg at q;cases e:e8 x with
 |false=>exact xS.err x rfl hk (lN e)<|jM e q
 |true=>
 obtain⟨s,n,rfl,h⟩:=kF e;replace q:=jN h q;cases ev:gD (aJ s) with
 |false=>
  rw[ev]at q;exact xS.err (aJ s) rfl hk (by(try dsimp only);rw[Zb h,ev];rfl) q
 |true=>
 rw[ev,d8,h.sN]at q;simp only[if_true]at q;have ev':s.reverse=s:=by unfold gD at ev;rw[d8]at ev;simpa using ev
 have n5:=h.n5;refine A8 h ev' ?_;walk_at "n";refine mU h ?_;show aH _ _ _ _ [.d<|aJ s,.d<|.int n,.un,.un,.un,.un,.un];refine cB<|B.C.own_by (xs:=[]) (ρ':=[.d<|aJ s,.d<|.int n,.ow [],.un,.un,.un,.un]) rfl (λP hP=>⟨wp,hP⟩) ?_;dsimp only;refine cB<|B.C.own_by (xs:=((List.range n).map<|bG n).map aE) (ρ':=[.d<|aJ s,.d<|.int n,.ow [],.ow<|((List.range n).map<|bG n).map aE,.un,.un,.un]) rfl (λP hP=>?_) ?_
 .ext
  refine⟨tv,tv,?_⟩;rw[ud];refine li (g:=λk:Nat=>D.int (k:Int)) (f:=λk=>aE<|bG n k) (List.range n) (λk hk P hP=>?_) .un [] (eJ (by simp;omega)) ?_
  .ext
   exact G6 n5 hP
  .rw[dG,List.map_map] at *
   exact hP
 dsimp only;refine B.C.pub_by (ρ':=[.d<|aJ s,.d<|.int n,.ow [],.d<|bE<|(List.range n).map<|bG n,.un,.un,.un]) rfl ?_;have g0:=Sg.start h;refine cB<|ig (d:=jd<|ik s n 0<|(List.range n).map<|bG n) (ρ':=[.d<|aJ s,.d<|.int n,.ow [],.d<|bE<|(List.range n).map<|bG n,.d<|jd<|ik s n 0<|(List.range n).map<|bG n,.un,.un]) rfl (λP hP=>?_) ?_
 .ext
  exact Iy h ev' g0 hP
 dsimp only;refine B.C.pub_by (ρ':=[.d<|aJ s,.d<|.int n,.ow [],.d<|bE<|(List.range n).map<|bG n,.d<|jd<|ik s n 0<|(List.range n).map<|bG n,.un,.un]) rfl ?_;refine cB ?_;simp only[bH];refine⟨λm ρ=>∃f R s5 s6 k,m=R.length/\Sg s n f R/\R.length<=k/\ut s n k f R=aY s n/\ρ=[.d<|aJ s,.d<|.int n,.ow<|f.map aE,.d<|bE R,.d<|jd<|ik s n 0 R,s5,s6],⟨_,[],_,.un,.un,n,rfl,g0,E1,rfl,rfl⟩,?_⟩;rintro m _ ⟨f,R,s5,s6,k,rfl,g,hkR,hap,rfl⟩;have gl:=g.len;cases el:ik s n 0 R with
 |none=>
  rw[show jd (none:Option (Nat×Mn))=.non from rfl];refine IK (b:=false) (λP hP=>⟨rfl,hP⟩) ?_;rw[jx<|wp];have efin:f++R=aY s n:=by
   rw[<-hap];cases k with
   |zero=>rfl
   |succ k=>rw[ut,el]
  dsimp only;refine B.C.pub_by (ρ':=[.d<|aJ s,.d<|.int n,.d<|.lst<|f.map aE,.d<|bE R,.d .non,s5,s6]) rfl ?_;refine B.C.pub_by (ρ':=[.d<|aJ s,.d<|.int n,.d<|.lst<|f.map aE,.d<|.lst<|R.map aE,.d .non,s5,s6]) rfl ?_;ext;refine⟨eJ (by simp;omega),?_⟩;rw[<-gR,efin];exact q
 |some al=>
  obtain⟨a,l⟩:=al;have d:=g.ld el;have ha:=d.at_;have hl:=d.lf h g;rw[show jd (some (a,l))=.tup [.int (a:Int),aE l] from rfl];refine IK (b:=true) (λP hP=>⟨rfl,hP⟩) ?_;rw[ks rfl];refine cB<|OR (x:=.int (a:Int)) (y:=aE l) (nm_at rfl) (ρ':=[.d<|aJ s,.d<|.int n,.ow<|f.map aE,.d<|bE R,.d<|.tup [.int (a:Int),aE l],.d<|.int (a:Int),.d<|aE l]) rfl ?_;dsimp only;refine cB<|qL (xs:=f.map aE) (d:=aE l) (ρ':=[.d<|aJ s,.d<|.int n,.ow<|(f++[l]).map aE,.d<|bE R,.d<|.tup [.int (a:Int),aE l],.d<|.int (a:Int),.d<|aE l]) rfl (dP (show _<2000 by rw[aZ];omega)<|wp) (by rw[gR];rfl) (nm_at rfl) ?_;dsimp only;refine B.C.pub_by (ρ':=[.d<|aJ s,.d<|.int n,.ow<|(f++[l]).map aE,.d<|.lst<|R.map aE,.d<|.tup [.int (a:Int),aE l],.d<|.int (a:Int),.d<|aE l]) rfl ?_;refine cB<|B.C.own_by (xs:=((R.take a++R.drop (a+1)).map<|jb s n l).map aE) (ρ':=[.d<|aJ s,.d<|.int n,.ow<|(f++[l]).map aE,.ow<|((R.take a++R.drop (a+1)).map<|jb s n l).map aE,.d<|.tup [.int (a:Int),aE l],.d<|.int (a:Int),.d<|aE l]) rfl (λP hP=>?_) ?_
  .ext
   rw[pT (b:=a) rfl,show((a:Int)+1)=((a+1:Nat):Int) by omega,ub (by rw[aZ];omega),<-kJ,<-oD];refine⟨eJ (by simp;omega),?_⟩;rw[<-gR];refine li (g:=aE) (f:=λr=>aE<|jb s n l r) (R.take a++R.drop (a+1)) (λr hr P hP=>?_) .un [] (eJ (by simp;omega)) ?_
   .ext
    exact OI h ev' (g.rows h r<|ju hr) hl d.nz hP
   .rw[dG,List.map_map] at *
    exact hP
  dsimp only;have g':=g.step h ev' d;refine B.C.pub_by (ρ':=[.d<|aJ s,.d<|.int n,.ow<|(f++[l]).map aE,.d<|bE<|(R.take a++R.drop (a+1)).map<|jb s n l,.d<|.tup [.int (a:Int),aE l],.d<|.int (a:Int),.d<|aE l]) rfl ?_;refine ig (d:=jd<|ik s n 0<|(R.take a++R.drop (a+1)).map<|jb s n l) (ρ':=[.d<|aJ s,.d<|.int n,.ow<|(f++[l]).map aE,.d<|bE<|(R.take a++R.drop (a+1)).map<|jb s n l,.d<|jd<|ik s n 0<|(R.take a++R.drop (a+1)).map<|jb s n l,.d<|.int (a:Int),.d<|aE l]) rfl (λP hP=>?_) ?_
  .ext
   exact Iy h ev' g' hP
  have len':((R.take a++R.drop (a+1)).map<|jb s n l).length=R.length-1:=by rw[aZ,dA,fZ,iq];omega
  refine⟨_,?_,f++[l],_,_,_,k-1,rfl,g',by rw[len'];omega,?_,rfl⟩
  .rw[len'];omega
  .rw[<-hap]
   cases k with
   |zero=>omega
   |succ k=>rw[ut,el];rfl
theorem ZkS:(q.num>0↔0<q)/\(q.num<0↔q<0):=by
 have h1:=Rat.num_nonneg (q:=q);have h2:=Rat.num_eq_zero (q:=q);constructor;constructor;intro h;have a:=h1.mp tv;have:q≠0:=λz=>by have:=h2.mpr z;omega
 grind;intro h;have a:=h1.mpr (by grind);have:q.num≠0:=λz=>by have:=h2.mp z;grind
 omega;constructor;intro h;have:¬0<=q:=λz=>by have:=h1.mpr z;omega
 grind;intro h;have:¬0<=q.num:=λz=>by have:=h1.mp z;grind
 omega
def se(s:Lb)(n:Nat):E8->List Bool
 |[]=>[]|r::R=>(R.map λo=>decide (bA s n r o=0))++se s n R
theorem IL{s:Lb}{n:Nat}:∀R:E8,(se s n R).all id=decide (R.Pairwise λu v=>bA s n u v=0)
 |[]=>by simp[se]|r::R=>by rw[se,List.all_append,IL R,lA];simp
theorem IM{a b:SV}{tail:cS}{we:WE}{f:Mn->D}:∀(L:E8) (sv:SV) (acc:RF) (Q:cS->RF->Prop),(∀o∈L,∀P:D->Prop,P (f o)->we No (a::b::.d (aE o)::tail) P)->acc.length+L.length<=aO->(∀sv,Q (a::b::sv::tail)<|acc++L.map f)->lcV (gN 2) cU we (L.map aE) (a::b::sv::tail) acc Q
 |[],sv,acc,Q,_,_,hq=>by have:=hq sv;rw[f6,qT]at this;exact this|o::L,sv,acc,Q,h,hl,hq=>by rw[cN,lcV];simp only[gN,List.set_cons_succ,List.set_cons_zero,cU];rw[ks trivial];simp only[dD]at hl;refine h o E1 _ ⟨tv,IM L _ _ Q (λo' ho'=>h o'<|by simp[ho']) (by simp;omega) λsv=>?_⟩;have:=hq sv;rw[cN]at this;rw[jP];exact this
theorem IN{s:Lb}{n:Nat}{P:E8}{Q:RF->Prop}(p:Pq0 s n P):∀(R:E8) (k:Nat) (s0 s1 s2:SV) (acc:RF),P.drop k=R->k+R.length=P.length->acc.length+R.length*R.length<=100->Q (acc++(se s n R).map D.bl)->lcW2 (de 2<|bL (gN 0)<|bL (gN 1) cV) cU (iS<|cG (wN 4) (dW<|w2 gAdd (wN 0)<|wC<|.int<|1) eL) (gN 2) cU (w2 (gEq false) (wF iF<|aC (wN 3)<|aC (wN 1)<|aC (wN 2) aA)<|wC<|D.tup [(D.int<|0),(D.int<|1)]) (dF k<|R.map aE) [s0,s1,s2,.d<|aJ s,.d<|bE P] acc Q
 |[],k,s0,s1,s2,acc,_,_,_,hq=>by rw[f6,dF,lcW2];rw[se,f6,qT]at hq;exact hq
 |r::R,k,s0,s1,s2,acc,hd,hk,ha,hq=>by
  rw[cN,dF,lcW2];refine⟨rfl,?_⟩;simp only[bL,cV,gN,List.set_cons_succ,List.set_cons_zero,cU];rw[ks trivial];have n5:=p.sl.n5;have pl:=p.len;simp only[dD]at hk ha;have hr:r∈P:=lW (i:=k) (by rw[hd];simp);have hR:∀o∈R,o∈P:=λo ho=>lW (i:=k) (by rw[hd];simp[ho]);have tl:P.drop (k+1)=R:=by rw[<-List.drop_drop,hd];rfl
  have up:∀o∈P,∀x∈o,Sz 170 x:=λo ho x hx=>((p.lf o ho).sz x hx).mono wp;unfold bE;ext;rw[show(k:Int)+1=((k+1:Nat):Int) by omega,ub (by rw[aZ];omega),<-oD,tl];rw[mK,Nat.mul_succ]at ha;refine IM (f:=λo=>.bl<|decide (bA s n r o=0)) R _ _ _ (λo ho P' hP=>?_) (eJ<|tv) λsv=>?_;ext;exact Ze p.sl p.ev (p.lf r hr).len (p.lf o<|hR o ho).len (up r hr) (up o<|hR o ho)<|EI hP
  refine IN p R (k+1) _ _ _ _ tl tv (by rw[dA,aZ];omega) ?_;rw[se,gR,List.map_map]at hq;rw[jP];exact hq
theorem OT:Rd A5 EF Zji:=by rintro _ E Q ⟨⟨⟨s,n⟩,P⟩,rfl,p,q⟩;dsimp only at p q;show EF E _ [.d<|aJ s,.d<|bE P];unfold EF;have n5:=p.sl.n5;have pl:=p.len;show lcW2 _ _ _ _ _ _ (dF 0<|P.map aE) [.un,.un,.un,.d<|aJ s,.d<|bE P] [] _;refine IN p P 0 _ _ _ [] E1 E1 ?_ ?_;rw[pl];have:n*n<=5*5:=hJ n5 n5;simp;omega;refine⟨se s n P,rfl,?_⟩;rw[IL];exact q
theorem OU:Rd A6 EG Zel:=by
 rintro _ E Q ⟨⟨⟨s,n⟩,P⟩,rfl,p,q⟩;dsimp only at p q;have n5:=p.sl.n5;have pl:=p.len;show EG E _ [.d<|aJ s,.d<|bE P,.un];unfold EG;walk_at "n";refine A8 p.sl p.ev ?_;walk_at "n";refine mU p.sl ?_;show aH _ _ _ _ [.d<|aJ s,.d<|.lst<|P.map aE,.d<|.int n];refine cB<|gp (b:=false) (B.C.or_by (b:=false) (c:=false) (λP' h=>?_) λP' h=>?_) (λe=>nomatch e) λ_=>?_
 ext;refine⟨"list",rfl,wp,?_⟩;ext;exact h;ext;rw[aZ,pl];simpa using h;dsimp only;refine cB<|gp (b:=false) (λP' h=>?_) (λe=>nomatch e) λ_=>?_
 ext;refine li (g:=aE) (f:=λ_=>.bl true) P (λr hr P'' hP=>?_) .un [] (eJ (by simp;omega)) ?_;ext;refine Ag p.sl (rM (by rw[(p.lf r hr).len];omega)) ?_;have:=t8 r;rw[(p.lf r hr).len]at this;rw[this];exact hP;refine⟨P.map λ_=>true,by rw[dG,List.map_map];rfl,?_⟩;rw[show(P.map λ_=>true).all id=true by simp];exact h;dsimp only;show aI _ _ _ [.d<|aJ s,.d<|bE P,.d<|.int n];ext;refine(⟨((n,n),P),rfl,p.cz,?_⟩:yG [bE P,.int n] _ _);dsimp only;by_cases h1:(bX P n).ld.length=P.length;rw[QT h1];ext;refine OK p ?_;rw[show decide (P.Pairwise λu v=>bA s n u v=0)=decide ((bX P n).ld.length=P.length/\P.Pairwise λu v=>bA s n u v=0) by rw[lA];simp[h1]];exact q;rw[QU h1];rw[QU<|λz=>h1 z.1]at q;exact q
theorem OV:Rd EB IG ZhF:=by rintro _ E Q ⟨x,rfl,hk,q⟩;unfold IG;ext;exact⟨x,rfl,hk,q⟩
theorem OW:Rd A7 EH Zj4:=by
 rintro _ E Q ⟨⟨⟨s,n⟩,P⟩,rfl,⟨p,h1,h2⟩,q⟩;dsimp only at p h1 h2 q;have n5:=p.sl.n5;have pl:=p.len;show EH E _ [.d<|aJ s,.d<|bE P,.un,.un,.un];unfold EH;refine cB<|gp (b:=false) (λP' h=>?_) (λe=>nomatch e) λ_=>?_
 ext;refine OL p ?_;rw[QT ⟨h1,h2⟩];exact h;dsimp only;refine cB<|B.C.own_by (xs:=(P.map λr=>(bA s n r r).num).map D.int) (ρ':=[.d<|aJ s,.d<|bE P,.ow<|(P.map λr=>(bA s n r r).num).map D.int,.un,.un]) rfl (λP' h=>?_) ?_
 show lcW _ _ _ (P.map aE) [.un,.d<|aJ s] [] _;refine li (g:=aE) (f:=λr=>.int (bA s n r r).num) P (λr hr P'' hP=>?_) .un [] (eJ (by simp;omega)) ?_;ext;refine OJ p.sl p.ev (p.lf r hr).len (λx hx=>((p.lf r hr).sz x hx).mono<|wp) ?_;exact⟨_,rfl,hP⟩;rw[dG];rw[List.map_map]at h;exact h;dsimp only;refine B.C.pub_by (ρ':=[.d<|aJ s,.d<|bE P,.d<|.lst<|(P.map λr=>(bA s n r r).num).map D.int,.un,.un]) rfl ?_;have eO:∀(c:Int->Bool) (d:Rat->Bool) (w:WT),(∀q:Rat,c q.num=d q)->(∀(i:Int) (P':Bool->Prop),P' (c i)->w No [.d<|.int i] P')->∀(ρ:cS) (P':RG),P' (.int (((P.filter λr=>d<|bA s n r r).length:Nat):Int))->wB bZ (aC (wL<|aLC (iS<|wC<|.lst<|(P.map λr=>(bA s n r r).num).map D.int) 1 [] (gN 0) w<|wN 0) aA) E ρ P':=λc d w hc hw ρ P' hP=>by show lcW _ _ _ ((P.map λr=>(bA s n r r).num).map D.int) [.un] [] _;rw[List.map_map];refine AC (g:=λr=>D.int (bA s n r r).num) (f:=λr=>D.int (bA s n r r).num) (p:=λr=>d<|bA s n r r) P (λr hr P'' h=>?_) (λr hr P'' h=>h) .un [] (eJ (by simp;omega)) ?_;exact hw _ _ (by rw[hc];exact h);ext;rw[aZ];exact hP
 refine cB<|ig (d:=.int (fO s n P:Int)) (ρ':=[.d<|aJ s,.d<|bE P,.d<|.lst<|(P.map λr=>(bA s n r r).num).map D.int,.d<|.int (fO s n P:Int),.un]) rfl (λP' h=>?_) ?_
 refine eO (λi=>decide (i>0)) (λq=>decide (0<q)) (wT<|w2 jK (wN 0)<|wC<|.int<|0) (λq=>by rw[lA,QV,QV];exact ZkS.1) (λi P'' h=>?_) _ P' h;ext;exact h;dsimp only;refine B.C.pub_by (ρ':=[.d<|aJ s,.d<|bE P,.d<|.lst<|(P.map λr=>(bA s n r r).num).map D.int,.d<|.int (fO s n P:Int),.un]) rfl ?_;refine cB<|ig (d:=.int (je s n P:Int)) (ρ':=[.d<|aJ s,.d<|bE P,.d<|.lst<|(P.map λr=>(bA s n r r).num).map D.int,.d<|.int (fO s n P:Int),.d<|.int (je s n P:Int)]) rfl (λP' h=>?_) ?_
 refine eO (λi=>decide (i<0)) (λq=>decide (q<0)) (wT<|w2 pp (wN 0)<|wC<|.int<|0) (λq=>by rw[lA,QV,QV];exact ZkS.2) (λi P'' h=>?_) _ P' h;ext;exact h;dsimp only;refine B.C.pub_by (ρ':=[.d<|aJ s,.d<|bE P,.d<|.lst<|(P.map λr=>(bA s n r r).num).map D.int,.d<|.int (fO s n P:Int),.d<|.int (je s n P:Int)]) rfl ?_;ext;rw[aZ,aZ];exact⟨wp,q⟩
theorem OX:Rd yI IH Zj3:=by
 rintro _ E Q ⟨x,rfl,hk,q⟩;unfold IH;ext;unfold Ez at q;cases e:e8 x with
 |false=>exact xS.err x rfl hk (lN e)<|jM e q
 |true=>
 obtain⟨s,n,rfl,h⟩:=kF e;replace q:=jN h q;cases ev:gD (aJ s) with
 |false=>
  rw[ev]at q;exact xS.err (aJ s) rfl hk (by(try dsimp only);unfold vg;rw[Zb h,ev];rfl) q
 |true=>
 rw[ev,d8,h.sN]at q;simp only[if_true]at q;have ev':s.reverse=s:=by unfold gD at ev;rw[d8]at ev;simpa using ev
 have pa:=lu h ev';refine EC h ev' ?_;exact OM (Pq0.of h ev' pa.len λr hr=>(pa.lf r hr).mono<|wp) (by rw[pa.ind h,pa.len]) pa.ap q
section
theorem uv{T:Nat->Rx}(h:∀i j,i<n->j<n->T i j=T' i j)(u v:Rx):bf T n u v=bf T' n u v:=
 bV λi hi=>by rw[bV (g:=λj=>T' i j*v j) λj hj=>by rw[h i j hi hj]]
theorem Ap.T{T:Nat->Rx}(a:Ap T n U)(h:∀i j,i<n->j<n->T i j=T' i j):Ap T' n U:=⟨λx y hx hy ne=>by rw[<-uv h];exact a.ap x y hx hy ne,a.fu⟩
theorem IO(hl:P.length=n)(f:Mn->Bool):(P.filter f).length=eO n λa=>f (P.getD a []):=by
 have e:P=(List.range n).map λa=>P.getD a []:=by
  refine si λi=>?_;rw[cJ];rcases gx i n with hi|hi
  rw[iN hi,bP<|tv];show _=some (P.getD i []);rw[aW,bP<|tv];rfl;rw[dX<|tv,dX (by rw[fh];exact hi)];rfl
 unfold eO;conv=>lhs;rw[e]
 rw[B6,aZ];rfl
theorem A9{p q:Nat->Bool}(h:∀a,a<n->p a=q a):eO n p=eO n q:=by unfold eO;rw[B7 λa ha=>h a<|Yah.mp ha]
theorem IP(h:IsSl s n)(hl:P.length=n)(hw:∀r∈P,r.length=n):fO s n P=eO n (eK (Pj.cA<|sA s n) n 1<|pU P):=by unfold fO;rw[IO hl];refine A9 λa ha=>?_;have w:=hw _<|fv (R:=P) (a:=a) tv;unfold eK pU;rw[jc h w w,mP]
theorem IQ(h:IsSl s n)(hl:P.length=n)(hw:∀r∈P,r.length=n):je s n P=eO n (eK (Pj.cA<|sA s n) n (-1)<|pU P):=by unfold je;rw[IO hl];refine A9 λa ha=>?_;have w:=hw _<|fv (R:=P) (a:=a) tv;unfold eK pU;rw[jc h w w,lA,QV,QV];constructor<;>intro z<;>grind
theorem EJ(h:IsSl s n)(ev:s.reverse=s):fO s n (aY s n)+je s n (aY s n)+(dU s n).length=n:=by
 have pa:=lu h ev;have hw:∀r∈aY s n,r.length=n:=λr hr=>(pa.lf r hr).len;have T:∀i j,i<n->j<n->Pj.cA (sA s n) i j=LP.tq (fb s n) i j:=λi j hi hj=>by have e1:=Ew (R:=fb s n) (n:=n) (λr hr=>(pY h r hr).len) (i:=i) (by rw[ox];exact hi)<|gq (bG n j);have e2:=AM h hi<|jT n j;rw[A2<|jT n j,e2]at e1;rw[gL hj λk hk ne=>by rw[j9 hk,jx ne,dI],j9 hj,ks rfl,mO,gL hj λk hk ne=>by show _*(bG n j).getD k 0=0;rw[j9 hk,jx ne,dI]]at e1;show((sA s n i j:Int):Rat)=_;rw[show gq (bG n j) j=(bG n j).getD j 0 from rfl,j9 hj,ks rfl,mO]at e1;exact e1
 have c3:=OE (T:=LP.tq<|fb s n) (n:=n) (U:=pU<|aY s n);have nc:=((pa.ap' h ev).T T).none_cnt ox (λr hr=>(pY h r hr).len)<|Oj h;rw[IP h pa.len hw,IQ h pa.len hw,Ol,aZ];have e1:eO n (eK (Pj.cA<|sA s n) n 1<|pU<|aY s n)=eO n (eK (LP.tq<|fb s n) n 1<|pU<|aY s n):=A9 λa _=>by unfold eK;rw[uv T]
 have e2:eO n (eK (Pj.cA<|sA s n) n (-1)<|pU<|aY s n)=eO n (eK (LP.tq<|fb s n) n (-1)<|pU<|aY s n):=A9 λa _=>by unfold eK;rw[uv T]
 rw[e1,e2];have e3:(El s n).length=eO n λp=>!(yx s n).contains p:=rfl;rw[e3,<-nc];omega
theorem OY{a b:Rat}(ha:0<a):0<a*b↔0<b:=by
 constructor;intro h;have:¬b<=0:=λz=>by have:=pI (Rat.le_of_lt ha) (show(0:Rat)<=-b by grind);grind
 grind;exact Rat.mul_pos ha
theorem OZ(hR:∀r∈P,r.length=n)(fu:∀x:Mn,x.length=n->(∀r∈P,bD r x=0)->∀k,k<n->x.getD k 0=0):(bX P n).ld.length=n:=by
 have ec:=rV hR n<|bU _;have:∀q,q<n->q∈(bX P n).pl:=λq hq=>Classical.byContradiction λhn=>by obtain⟨l,f0⟩:=ec.free hq hn;have:=fu _ l f0 q hq;rw[yj _ _ _ (by rw[jT];exact ec.lt) hn,j9 hq,ks rfl]at this;exact QS this wp
 have e:(bX P n).pl=List.range n:=ul ec.asc (va n) λx=>⟨λhx=>Yah.mpr<|ec.lt x hx,λhx=>this x<|Yah.mp hx⟩;rw[ec.ll,e,fh]
end
theorem IR(x:Rat):0<=x*x:=by
 rcases Rat.le_total (a:=0) (b:=x) with q|q
 exact pI q q;have:=pI (show(0:Rat)<=-x by grind) (show(0:Rat)<=-x by grind);grind
section
variable{T:Nat->Rx}
theorem Ap.made(h:Ap T n U)(x:Rx):∃c:Nat->Rat,∀k,k<n->x k=dO c U n k:=by
 obtain⟨y,⟨k0,hk0,hy0⟩,hz⟩:=wish (n+1) ((List.range n).map λk j=>if j<n then U j k else x k) (by rw[aZ,fh];omega);have eq:∀k,k<n->dO y U n k+y n*x k=0:=λk hk=>by have:=hz _<|kK (f:=λk j=>if j<n then U j k else x k) (Yah.mpr hk);rw[aG,jx<|iJ n,bV (g:=λa=>y a*U a k) λa ha=>by rw[ks ha];grind]at this;unfold dO;grind
 have yn:y n≠0:=λz=>by
  have:=h.ind (c:=y) λk hk=>by have:=eq k hk;rw[z]at this;grind
  by_cases e:k0=n;rw[e]at hy0;exact hy0 z;exact hy0<|this k0 tv
 refine⟨λa=>-(y n)⁻¹*y a,λk hk=>?_⟩;have e2:dO (λa=>-(y n)⁻¹*y a) U n k = -(y n)⁻¹*dO y U n k:=by unfold dO;rw[<-sumN_mul];exact bV λa _=>by grind
 rw[e2];have:=eq k hk;have i:=jQ _ yn;have e3:dO y U n k = -(y n*x k):=by grind
 rw[e3];grind
theorem Ap.pos(h:Ap T n U)(hT:∀i j,i<n->j<n->T i j=T j i)(hp:∀a,a<n->0<bf T n (U a) (U a)){x:Rx}(hk:k<n)(hx:x k≠0):0<bf T n x x:=by
 obtain⟨c,hc⟩:=h.made x;have e:bf T n x x=aG (λa=>c a*(c a*bf T n (U a) (U a))) n:=by rw[oB hc hc];exact h.diag hT c
 have nn:∀a,a<n->0<=c a*(c a*bf T n (U a) (U a)):=λa ha=>by have:=pI (IR<|c a)<|Rat.le_of_lt (hp a ha);grind
 have g:=AX nn;refine Classical.byContradiction λhn=>?_;have z:=Eu nn (by rw[e]at hn;grind);have c0:∀a,a<n->c a=0:=λa ha=>by
  rcases Ydd.mp (z a ha) with q|q
  exact q;rcases Ydd.mp q with q|q
  exact q;have:=hp a ha;rw[q]at this;exact QS this wp
 exact hx (by rw[hc k hk];exact jU λa ha=>by rw[c0 a ha,fH])
end
theorem O0(hn:n<=5)(hs:∀a b,a<n->b<n->A a b=A b a)(h:Ap (λa b=>((A a b:Int):Rat)) n U):(∀a,a<n->0<bf (λa b=>((A a b:Int):Rat)) n (U a) (U a))↔∀k,k<=n->0<dt A k:=by
 have hT:∀i j,i<n->j<n->(λa b=>((A a b:Int):Rat)) i j=(λa b=>((A a b:Int):Rat)) j i:=λi j hi hj=>by dsimp only;rw[hs i j hi hj]
 constructor;intro hp k;induction k with
 |zero=>intro _;exact Int.one_pos
 |succ k ih=>
  intro hk;have ihk:=ih tv;have j1:=yA (A:=A) hn (show k<n by omega)<|bU k;rw[ks rfl]at j1;have nz:ke A k k≠0:=by
   rw[AZ hn (show k<n by omega)];intro z;have:dt A k=0:=by exact_mod_cast z
   omega
  have:=h.pos hT hp (x:=ke A k) (show k<n by omega) nz;rw[j1]at this;have t:0<dt A k*dt A (k+1):=by exact_mod_cast this
  refine Classical.byContradiction λhnn=>?_;have:=Int.mul_nonneg (zp ihk) (show(0:Int)<=-dt A (k+1) by omega);rw[Int.mul_neg]at this;omega
 intro hp;have ja:=Io (A:=A) hn hs λi hi=>by have:=hp i tv;omega
 have all:eO n (eK (λa b=>((A a b:Int):Rat)) n 1<|ke A)=n:=by unfold eO;rw[Ydi.mpr,fh];intro a ha;have ha:=Yah.mp ha;have j1:=yA (A:=A) hn ha<|bU a;rw[ks rfl]at j1;unfold eK;rw[j1,mP];have:0<dt A a*dt A (a+1):=Int.mul_pos (hp a<|tv)<|hp (a+1) tv;exact QT (by exact_mod_cast this)
 have e:=h.eq hT ja 1;rw[all]at e;intro a ha;unfold eO at e;have len:((List.range n).filter<|eK (λa b=>((A a b:Int):Rat)) n 1 U).length=(List.range n).length:=by rw[e,fh]
 have:=List.length_filter_eq_length_iff.mp len a<|Yah.mpr ha;unfold eK at this;rw[mP]at this;exact Ro this
structure Sk(b c w:Nat)(r:Mn):Prop where
 ex:∃(q:Rat) (l:Mn),Sz c q/\Lf b w l/\r=l.map λx=>q*x
section
variable{c w p:Nat}
theorem Zm(l:Mn)(q:Rat)(p:Nat):(l.map λx=>q*x).getD p 0=q*l.getD p 0:=by
 rw[aW,cJ,aW];cases l[p]? with
 |none=>show(0:Rat)=q*0;rw[dI]|some x=>rfl
theorem Sk.len(h:Sk b c w r):r.length=w:=by obtain⟨q,l,_,hl,rfl⟩:=h.ex;rw[aZ];exact hl.len
theorem Sk.sz(h:Sk b c w r):∀y∈r,Sz (c+b) y:=by obtain⟨q,l,hq,hl,rfl⟩:=h.ex;intro y hy;obtain⟨x,hx,rfl⟩:=YbT.mp hy;exact hq.mul<|hl.sz x hx
theorem Sk.norm(h:Sk b c w r)(hp:p<w)(h0:r.getD p 0≠0):Lf b w (dS r<|r.getD p 0):=by
 obtain⟨q,l,hq,hl,rfl⟩:=h.ex;rw[Zm]at h0 ⊢;have q0:q≠0:=λz=>h0 (by rw[z,fH]);have l0:l.getD p 0≠0:=λz=>h0 (by rw[z,dI]);have e:dS (l.map λx=>q*x) (q*l.getD p 0)=dS l (l.getD p 0):=by
  unfold dS;rw[List.map_map];refine jg λx _=>?_;show q*x/(q*l.getD p 0)=x/l.getD p 0;rw[dH,dH];have i1:=jQ _ q0;have i2:=jQ _ l0;have i3:=jQ (q*l.getD p 0) h0;generalize (q*l.getD p 0)⁻¹=z at *;generalize (l.getD p 0)⁻¹=u at *;have:z*q*l.getD p 0=1:=by grind
  have:z*q=u:=by
   have:z*q*(l.getD p 0*u)=u:=by grind
   rw[i2,mO]at this;exact this
  grind
 rw[e];exact hl.norm hp l0
theorem Sk.less(h:Sk b c w r)(hq:Lf b w l)(hp:p<w):Sk (2*b+1) c w (aX r (r.getD p 0) l):=by obtain⟨q,k,hq',hl,rfl⟩:=h.ex;refine⟨q,aX k (k.getD p 0) l,hq',hl.less hq hp,?_⟩;rw[Zm];unfold aX;rw[vw,List.zipWith_map_left];congr 1;funext x y;grind
end
structure yL(b c w m:Nat)(x:Cl):Prop where
 ld:∀r∈x.ld,Lf (bq b x.ld.length) w r
 rs:∀r∈x.rs,Sk (bq b x.ld.length) c w r
 ln:x.ld.length+x.rs.length=m
 pl:x.pl.length=x.ld.length
section
variable{c w p:Nat}{x:Cl}{R:E8}
theorem IS(h:yL b c w m x)(hp:p<w)(e:dj x.rs p=some a):Lf (bq b x.ld.length) w (iG x.rs a p):=by obtain⟨h1,h2⟩:=pX e;exact(h.rs _<|fv h1).norm hp h2
theorem O1(h:yL b c w m x)(hp:p<w):yL b c w m (pW p x):=by
 unfold pW;split;exact h;rename_i a e;have hl:=IS h hp e;obtain⟨h1,h2⟩:=pX e;have ln:=h.ln;have nl:(bM x.ld (iG x.rs a p) p++[iG x.rs a p]).length=x.ld.length+1:=by unfold bM;simp
 refine⟨?_,?_,?_,?_⟩;show∀r∈bM x.ld (iG x.rs a p) p++[iG x.rs a p],Lf (bq b (bM x.ld (iG x.rs a p) p++[iG x.rs a p]).length) w r;rw[nl];intro r hr;rcases Yao.mp hr with hr|hr
 unfold bM at hr;obtain⟨r0,hr0,rfl⟩:=YbT.mp hr;exact(h.ld r0 hr0).less hl hp;rw[YcO.mp hr];exact hl.mono<|Zd tv
 show∀r∈bM (x.rs.take a++x.rs.drop (a+1)) (iG x.rs a p) p,Sk (bq b (bM x.ld (iG x.rs a p) p++[iG x.rs a p]).length) c w r;rw[nl];intro r hr;unfold bM at hr;obtain⟨r0,hr0,rfl⟩:=YbT.mp hr;exact(h.rs r0<|ju hr0).less hl hp;show(bM _ _ _++[_]).length+(bM _ _ _).length=m;unfold bM;simp only[dA,aZ,kf,fZ,iq];omega;show(x.pl++[p]).length=(bM _ _ _++[_]).length;unfold bM;rw[dA,dA,aZ,h.pl];rfl
theorem IT(h:∀r∈R,Sk b c w r):∀{p:Nat},p<=w->yL b c w R.length (bX R p)
 |0,_=>⟨(λr hr=>by cases hr),h,(by simp[bX]),rfl⟩|p+1,hp=>O1 (IT h<|tv) tv
theorem yM(h:∀r∈R,Sk b c w r)(mw:m<=w)(w1:w<=1000)(hl:R.length<=1000)(h1:2*(c+bq b (R.length-1))<8990)(h2:3*bq b (R.length-1)<8990)(h3:3*(c+bq b (R.length-2))<8990):xv w m R:=by
 have ok:∀p,p<m->yL b c w R.length (bX R p):=λp hp=>IT h tv;refine⟨mw,w1,hl,λp hp=>⟨(ok p hp).ln,(ok p hp).pl⟩,λp hp r hr=>((ok p hp).rs r hr).len,λp hp a e=>?_⟩;have o:=ok p hp;obtain⟨a1,a2⟩:=pX e;have ln:=o.ln;have lead:=IS o (show p<w by omega) e;have b1:=Zd (b:=b) (show(bX R p).ld.length<=R.length-1 by omega);refine⟨⟨c+bq b (bX R p).ld.length,tv,(o.rs _<|fv a1).sz⟩,⟨bq b (bX R p).ld.length,tv,λr hr=>⟨(o.ld r hr).len,(o.ld r hr).sz⟩,lead.sz⟩,?_⟩;by_cases z:(bX R p).ld.length<=R.length-2;have b2:=Zd (b:=b) z;exact⟨c+bq b (bX R p).ld.length,tv,λr hr=>⟨(o.rs r<|ju hr).len,(o.rs r<|ju hr).sz⟩,λy hy=>(lead.sz y hy).mono<|tv⟩;refine⟨bq b (bX R p).ld.length,tv,λr hr=>?_,lead.sz⟩;have:((bX R p).rs.take a++(bX R p).rs.drop (a+1)).length=0:=by rw[dA,fZ,iq];omega
 rw[Yc9.mp this]at hr;cases hr
end
section
def Ba:RF->(RG)->Prop:=λds Q=>match ds with|[.lst xs]=>∃ns:Lb,xs=its ns/\ns≠[]/\∀m∈ns,(∀x∈ns,m<=x)->Q (.int m)|_=>False
theorem O2(hc:X.calm=true):eU X (.builtin "min") Ba:=by refine⟨⟨_,KN hc,λW H vs ds Q ok r hg=>?_⟩,λds P P' hp hg=>?_⟩;unfold Ba at hg;split at hg;obtain⟨ns,rfl,hne,q⟩:=hg;obtain⟨v,rfl,rv⟩:=r.one;obtain⟨p,us,rfl,h1,rr⟩:=rv.sql ok;rw[xc rr]at h1;exact⟨p,ns,rfl,h1,hne,λm hm hl=>(q m hm hl).now ok<|.int _⟩;exact hg.elim;unfold Ba at hg ⊢;split at hg;obtain⟨bs,e,hne,q⟩:=hg;exact⟨bs,e,hne,λm hm hl=>hp _<|q m hm hl⟩;exact hg.elim
end
namespace B.C.Q0.Q3
def sqP(s:Lb)(n:Nat)(r:Mn):Pr:=(bA s n r r,dS (bJ s n r)<|bA s n r r)
def sqF(s:Lb)(n:Nat):List Pr:=((aY s n).filter λr=>!decide (bA s n r r=0)).map<|sqP s n
def cT(s:Lb)(n:Nat):Option Mn:=(aY s n).find? λr=>decide (bA s n r r<=0)
def gw(s:Lb)(n:Nat):D:=match cT s n with|some r=>.tup [.str "not",aE r]|none=>.tup [.str "above",cY<|sqF s n]
section
theorem uw(hn:cT s n=none):∀r∈aY s n,0<bA s n r r:=λr hr=>by
 have:=List.find?_eq_none.mp hn r hr;have:¬bA s n r r<=0:=by simpa using this
 grind
theorem IU(hn:cT s n=some r):r∈aY s n/\bA s n r r<=0:=⟨List.mem_of_find?_eq_some hn,by simpa using List.find?_some hn⟩
theorem Bb(hn:cT s n=none):sqF s n=(aY s n).map (sqP s n):=by
 unfold sqF;rw[Ydi.mpr];intro r hr;have:=uw hn r hr;have:bA s n r r≠0:=λz=>by rw[z]at this;exact QS this wp
 simpa using this
theorem sy(h:IsSl s n)(ev:s.reverse=s):∀i j,i<n->j<n->Pj.cA (sA s n) i j=Pj.cA (sA s n) j i:=λi j hi hj=>by show((sA s n i j:Int):Rat)=_;rw[ve h ev i j hi hj]
theorem EK(h:IsSl s n)(hr:r.length=n)(hi:i<n):(bJ s n r).getD i 0=aG (λj=>Pj.cA (sA s n) i j*gq r j) n:=by rw[Gs.tims_at h hr hi];rfl
theorem bf_dlt(T:Nat->Rx)(u:Rx)(hj:j<n):bf T n u (gO j)=aG (λi=>u i*T i j) n:=by unfold bf;refine bV λi _=>?_;rw[bV (g:=λk=>gO j k*T i k) λk _=>lZ _ _,sd _ hj]
theorem tm_bf(h:IsSl s n)(ev:s.reverse=s)(hr:r.length=n)(hj:j<n):(bJ s n r).getD j 0=bf (Pj.cA<|sA s n) n (gq r) (gO j):=by rw[EK h hr hj,bf_dlt _ _ hj];exact bV λi hi=>by rw[sy h ev j i hj hi];grind
theorem O3(h:IsSl s n)(ev:s.reverse=s)(hn:cT s n=none):pZ s n (sqF s n):=λi hi j hj=>by
 have pa:=lu h ev;have hw:∀r∈aY s n,r.length=n:=λr hr=>(pa.lf r hr).len;have A:=pa.ap' h ev;obtain⟨c,hc⟩:=A.made<|gO j;have ma:∀a,a<n->(aY s n).getD a []∈aY s n:=λa ha=>fv (by rw[pa.len];exact ha);have w:∀a,a<n->bf (Pj.cA<|sA s n) n (pU (aY s n) a) (pU (aY s n) a)=bA s n ((aY s n).getD a []) ((aY s n).getD a []):=λa ha=>(jc h (hw _<|ma a ha)<|hw _<|ma a ha).symm;have cw:∀a,a<n->c a*bA s n ((aY s n).getD a []) ((aY s n).getD a [])=(bJ s n<|(aY s n).getD a []).getD j 0:=λa ha=>by
  rw[tm_bf h ev (hw _<|ma a ha) hj,<-w a ha,oB (λ_ _=>rfl) hc,lP];have z:∀b,b<n->b≠a->c b*bf (Pj.cA<|sA s n) n (gq<|(aY s n).getD a []) (pU (aY s n) b)=0:=λb hb ne=>by rw[show bf (Pj.cA<|sA s n) n (gq<|(aY s n).getD a []) (pU (aY s n) b)=0 from A.ap a b ha hb (QX ne),dI]
  rw[gL ha z];rfl
 rw[Bb hn,<-HW,iH _ _ n (by simp[pa.len])<|by simp[pa.len]];have e:((tT s n i j:Int):Rat)=bf (Pj.cA<|sA s n) n (gO i) (gO j):=by rw[bf_dlt _ _ hj,sd _ hi];rfl
 rw[e,oB (λ_ _=>rfl) hc,lP];refine bV λa ha=>?_;have ga:(aY s n)[a]? = some ((aY s n).getD a []):=by rw[aW,bP (by rw[pa.len];exact ha)];rfl
 rw[aW,aW,cJ,cJ,cJ,cJ,ga];show bA s n _ _*((dS (bJ s n _) _).getD i 0*(dS (bJ s n _) _).getD j 0)=_;have bg:∀(l:Mn) (q:Rat) (k:Nat),(dS l q).getD k 0=l.getD k 0*q⁻¹:=λl q k=>by
  unfold dS;rw[aW,cJ,aW];cases l[k]? with
  |none=>show(0:Rat)=0*q⁻¹;rw[fH]|some x=>show x/q=x*q⁻¹;rw[dH]
 rw[bg,bg,<-cw a ha,show bf (Pj.cA<|sA s n) n (gO i) (pU (aY s n) a)=(bJ s n<|(aY s n).getD a []).getD i 0 by rw[tm_bf h ev (hw _<|ma a ha) hi,pB<|sy h ev];rfl];have nz:bA s n ((aY s n).getD a []) ((aY s n).getD a [])≠0:=λz=>by have:=uw hn _<|ma a ha;rw[z]at this;exact QS this wp
 have inv:=jQ _ nz;generalize bA s n ((aY s n).getD a []) ((aY s n).getD a [])=q at *;generalize q⁻¹=z at *;generalize (bJ s n<|(aY s n).getD a []).getD i 0=t;have:q*(t*z*(c a*q*z))=c a*t*(q*z)*(q*z):=by grind
 rw[this,inv];grind
theorem O4(h:IsSl s n)(ev:s.reverse=s)(hn:cT s n=none):(bX ((sqF s n).map (·.2)) n).ld.length=n:=by
 have pa:=lu h ev;have hw:∀r∈aY s n,r.length=n:=λr hr=>(pa.lf r hr).len;have A:=pa.ap' h ev;have hP:(sqF s n).map (·.2)=(aY s n).map λr=>dS (bJ s n r) (bA s n r r):=by rw[Bb hn,List.map_map];rfl
 have bl:∀r,(dS (bJ s n r)<|bA s n r r).length=n:=λr=>by unfold dS;rw[aZ];exact Gs.tims_len r
 rw[hP];refine OZ (λr hr=>by obtain⟨u,_,rfl⟩:=YbT.mp hr;exact bl u) λx hx h0 k hk=>Classical.byContradiction λhne=>?_;have z:∀a,a<n->bf (Pj.cA<|sA s n) n (gq x) (pU (aY s n) a)=0:=λa ha=>by
  have ma:(aY s n).getD a []∈aY s n:=fv (by rw[pa.len];exact ha);have d:=h0 _<|kK (f:=λr=>dS (bJ s n r)<|bA s n r r) ma;have p0:=uw hn _ ma;generalize hr:(aY s n).getD a []=r at *;rw[iH _ x n (bl r) hx]at d;show bf _ n (gq x) (gq<|(aY s n).getD a [])=0;rw[hr];unfold bf;have e:aG (λj=>(dS (bJ s n r)<|bA s n r r).getD j 0*x.getD j 0) n=(bA s n r r)⁻¹*aG (λi=>gq x i*aG (λj=>Pj.cA (sA s n) i j*gq r j) n) n:=by rw[<-sumN_mul];refine bV λj hj=>?_;rw[<-EK h (hw r ma) hj];unfold dS;rw[aW,cJ,aW (l:=bJ s n r),bP (by rw[Gs.tims_len r];exact hj)];show _/_*_=_;rw[dH];show _=_*(x.getD j 0*_);simp only[qa];grind
  rw[e]at d;rcases Ydd.mp d with q|q
  have:bA s n r r≠0:=λz=>by rw[z]at p0;exact QS p0 wp
  have:=jQ _ this;rw[q,dI]at this;exact QS this wp;exact q
 have pos:=A.pos (sy h ev) (λa ha=>by
  have ma:(aY s n).getD a []∈aY s n:=fv (by rw[pa.len];exact ha);have:=uw hn _ ma
  rwa [jc h (hw _ ma)<|hw _ ma]at this) (x:=gq x) hk hne
 obtain⟨c,hc⟩:=A.made<|gq x;rw[oB (λ_ _=>rfl) hc,lP,jU λa ha=>by rw[z a ha,dI]]at pos;exact QS pos wp
theorem yN(c:Lb)(e:Int)(j:Nat):gq (c.map λx=>Rat.divInt x e) j=((c.getD j 0:Int):Rat)*((e:Int):Rat)⁻¹:=by
 unfold gq;rw[aW,cJ,aW];cases c[j]? with
 |none=>show(0:Rat)=((0:Int):Rat)*_;rw[Rat.intCast_zero,fH]|some x=>show Rat.divInt x e=_;rw[l3,dH];rfl
theorem EL(f:Nat->Int):∀n:Nat,((sumI f n:Int):Rat)=aG (λj=>((f j:Int):Rat)) n
 |0=>rfl|n+1=>by rw[sumI,aG,uO,EL f n]
theorem yO(h:IsSl s n)(hr:Lf 163 n r)(h0:bA s n r r≠0):Sk 171 337 n (dS (bJ s n r)<|bA s n r r)/\Pq 337 n (sqP s n r):=by
 have hz:Sz 337 (bA s n r r):=(yK h hr hr).mono wp;have n5:=h.n5;obtain⟨c,e,h1,h2,h3,h4,rfl⟩:=hr.ex;have rl:(c.map λx=>Rat.divInt x e).length=n:=by rw[aZ];exact h1
 have ne:((e:Int):Rat)≠0:=λz=>h2 (by exact_mod_cast z);have ie:=jQ _ ne
 have tj:∀j,j<n->(bJ s n<|c.map λx=>Rat.divInt x e).getD j 0=((sumI (λk=>sA s n j k*c.getD k 0) n:Int):Rat)*((e:Int):Rat)⁻¹:=λj hj=>by rw[EK h rl hj,EL,lZ,<-sumN_mul];refine bV λk _=>?_;rw[yN,eY];show((sA s n j k:Int):Rat)*_=_;grind
 have Cb:∀j,j<n->(sumI (λk=>sA s n j k*c.getD k 0) n).natAbs<2^171:=λj hj=>by
  have:=Pj.sumI_bd (f:=λk=>sA s n j k*c.getD k 0) (c:=50*2^163) (n:=n) λk hk=>by
   rw[eh];refine hJ (yD h j k hj hk) ?_;rw[aW];cases q:c[k]? with
   |none=>exact jw _|some x=>exact gY<|h4 x (iK q)
  have h3:n*(50*2^163)<=5*(50*2^163):=lU _ n5;have:5*(50*2^163)<2^171:=sa
  omega
 have wt:bA s n (c.map λx=>Rat.divInt x e) (c.map λx=>Rat.divInt x e)=((Pj.bI (sA s n) n (λj=>c.getD j 0) λj=>c.getD j 0:Int):Rat)*(((e:Int):Rat)⁻¹*((e:Int):Rat)⁻¹):=by rw[jc h rl rl,<-Pj.bI_cast,lZ];unfold bf;rw[<-sumN_mul];refine bV λi _=>?_;rw[yN,bV (g:=λj=>((e:Int):Rat)⁻¹*(Pj.cA (sA s n) i j*((c.getD j 0:Int):Rat))) (λj _=>by rw[yN];grind),sumN_mul];show _=_*(((c.getD i 0:Int):Rat)*aG (λj=>((sA s n i j:Int):Rat)*((c.getD j 0:Int):Rat)) n);show _*(_*aG (λj=>((sA s n i j:Int):Rat)*((c.getD j 0:Int):Rat)) n)=_;grind
 have Wb:(Pj.bI (sA s n) n (λj=>c.getD j 0) λj=>c.getD j 0).natAbs<2^337:=by
  have cz:∀j,(c.getD j 0).natAbs<=2^163:=λj=>by
   rw[aW];cases q:c[j]? with
   |none=>exact jw _|some x=>exact gY<|h4 x (iK q)
  have h1:∀i,i<n->(sumI (λj=>sA s n i j*c.getD j 0) n).natAbs<=2^171:=λi hi=>gY<|Cb i hi;have h2:=Pj.sumI_bd (f:=λi=>c.getD i 0*sumI (λj=>sA s n i j*c.getD j 0) n) (c:=2^163*2^171) (n:=n) λi hi=>by rw[eh];exact hJ (cz i)<|h1 i hi
  have h3:n*(2^163*2^171)<=5*(2^163*2^171):=lU _ n5;have:5*(2^163*2^171)<2^337:=sa
  unfold Pj.bI;dsimp only;omega
 generalize Pj.bI (sA s n) n (λj=>c.getD j 0) (λj=>c.getD j 0)=W at wt Wb;have W0:W≠0:=λz=>h0 (by rw[wt,z,Rat.intCast_zero,fH]);have nW:((W:Int):Rat)≠0:=λz=>W0 (by exact_mod_cast z);have iW:=jQ _ nW;have fin:dS (bJ s n<|c.map λx=>Rat.divInt x e) (bA s n (c.map λx=>Rat.divInt x e)<|c.map λx=>Rat.divInt x e)=(dg<|(List.range n).map λj=>sumI (λk=>sA s n j k*c.getD k 0) n).map λx=>Rat.divInt e W*x:=?_;refine⟨⟨Rat.divInt e W,_,u3 W0 (dP h3<|lT wp<|wp) Wb,?_,fin⟩,by unfold sqP dS;rw[aZ];exact Gs.tims_len _,hz,λy hy=>?_⟩;have:=Lf.int (b:=171) (c:=(List.range n).map λj=>sumI (λk=>sA s n j k*c.getD k 0) n) wp λx hx=>by obtain⟨j,hj,rfl⟩:=YbT.mp hx;exact Cb j<|Yah.mp hj
 rwa [aZ,fh]at this;have hy:y∈dS _ _:=hy;rw[fin]at hy;obtain⟨x,hx,rfl⟩:=YbT.mp hy;obtain⟨z,hz,rfl⟩:=YbT.mp hx;obtain⟨j,hj,rfl⟩:=YbT.mp hz;have cb:=Cb j<|Yah.mp hj;generalize sumI (λk=>sA s n j k*c.getD k 0) n=C at cb;have:Rat.divInt e W*((C:Int):Rat)=Rat.divInt (e*C) W:=by rw[l3,l3,dH,dH,eY];grind
 rw[this];refine u3 W0 ?_ Wb;rw[eh];have:=pG h3 cb;have:2^163*2^171<2^337:=sa
 omega;refine uM (by unfold dS dg;simp[Gs.tims_len]) λj j1 j2=>?_;have hj:j<n:=by unfold dS at j1;rw[aZ,Gs.tims_len]at j1;exact j1
 have tg:(bJ s n<|c.map λx=>Rat.divInt x e)[j]'(by rw[Gs.tims_len];exact hj)=(bJ s n<|c.map λx=>Rat.divInt x e).getD j 0:=by rw[aW,bP (by rw[Gs.tims_len];exact hj)];rfl
 simp only[dS,dg,B0,List.getElem_range];rw[tg,tj j hj,wt,l3,dH,dH];have nd:((W:Int):Rat)*(((e:Int):Rat)⁻¹*((e:Int):Rat)⁻¹)≠0:=by rw[<-wt];exact h0
 have i3:=jQ _ nd;generalize (((W:Int):Rat)*(((e:Int):Rat)⁻¹*((e:Int):Rat)⁻¹))⁻¹=y at *;generalize ((e:Int):Rat)⁻¹=z at *;generalize ((W:Int):Rat)⁻¹=u at *;generalize ((sumI (λk=>sA s n j k*c.getD k 0) n:Int):Rat)=q;generalize ((W:Int):Rat)=w at *;generalize ((e:Int):Rat)=x at *;have:y=x*x*u:=by
  have:y*(w*(z*z))*(x*x*u)=x*x*u:=by grind
  have e2:y*(w*(z*z))*(x*x*u)=y*((w*u)*((x*z)*(x*z))):=by grind
  rw[iW,ie]at e2;grind
 rw[this];have:q*z*(x*x*u)=q*(x*z)*x*u:=by grind
 rw[this,ie];grind
end
def Bc(x:D):Except Str D:=gg x (if gD x=true then .ok (.bl (cT (sI x)<|sN x).isNone) else .error "NotEven")
def mG(x:D):Except Str D:=gg x (if gD x=true then .ok (gw (sI x)<|sN x) else .error "NotEven")
def sf(s:Lb)(n:Nat):Prop:=∀k,k<n->0<i8 (qM (tbl s n)<|k+1)
instance(s:Lb)(n:Nat):Decidable (sf s n):=by unfold sf;infer_instance
def yP:bN:=fnS (λx:SL=>[aJ x.1]) (λx=>IsSl x.1 x.2/\x.1.reverse=x.1) λx=>cY<|sqF x.1 x.2
def vh:bN:=xS (λx:D=>[x]) (λx=>kd x=true) mG
def Be:bN:=xS (λx:D=>[x]) (λx=>kd x=true) Bc
def Bf:bN:=fnS (λx:SL=>[aJ x.1,cY<|sqF x.1 x.2]) (λx=>IsSl x.1 x.2/\x.1.reverse=x.1/\cT x.1 x.2=none) λ_=>.bl true
def Bg:bN:=fnS (λx:SL×Mn=>[aJ x.1.1,aE x.2]) (λx=>IsSl x.1.1 x.1.2/\x.1.1.reverse=x.1.1/\x.2∈aY x.1.1 x.1.2/\bA x.1.1 x.1.2 x.2 x.2<=0) λ_=>.bl true
def Bh:bN:=fnS (λx:SL=>[aJ x.1,gw x.1 x.2]) (λx=>IsSl x.1 x.2/\x.1.reverse=x.1) λ_=>.bl true
section
variable{E:RE}
theorem IV(h:IsSl s n)(ev:s.reverse=s)(q:Q (cY<|sqF s n)):yP [aJ s] E Q:=⟨(s,n),rfl,⟨h,ev⟩,q⟩
theorem IW(h:IsSl s n)(ev:s.reverse=s):Bc (aJ s)=.ok (.bl (cT s n).isNone):=by unfold Bc;rw[Zb h];unfold gD;rw[d8,QT ev,h.sN];rfl
theorem IX(h:IsSl s n)(ev:s.reverse=s):mG (aJ s)=.ok (gw s n):=by unfold mG;rw[Zb h];unfold gD;rw[d8,QT ev,h.sN];rfl
theorem O5(h:IsSl s n)(ev:s.reverse=s)(hn:cT s n=none)(q:Q (.bl true)):Bf [aJ s,cY<|sqF s n] E Q:=⟨(s,n),rfl,⟨h,ev,hn⟩,q⟩
theorem O6(h:IsSl s n)(ev:s.reverse=s)(hn:cT s n=some r)(q:Q (.bl true)):Bg [aJ s,aE r] E Q:=⟨((s,n),r),rfl,⟨h,ev,IU hn⟩,q⟩
theorem O7(h:IsSl s n)(ev:s.reverse=s)(q:Q (.bl true)):Bh [aJ s,gw s n] E Q:=⟨(s,n),rfl,⟨h,ev⟩,q⟩
theorem O8(h:IsSl s n)(ev:s.reverse=s):sf s n↔cT s n=none:=by
 have pa:=lu h ev;have hw:∀r∈aY s n,r.length=n:=λr hr=>(pa.lf r hr).len;have A:=pa.ap' h ev;have sy:=O0 (A:=sA s n) h.n5 (λa b ha hb=>ve h ev a b ha hb) A;have e1:(∀a,a<n->0<bf (Pj.cA<|sA s n) n (pU (aY s n) a) (pU (aY s n) a))↔cT s n=none:=by
  have w:∀a,a<n->bf (Pj.cA<|sA s n) n (pU (aY s n) a) (pU (aY s n) a)=bA s n ((aY s n).getD a []) ((aY s n).getD a []):=λa ha=>by have ma:(aY s n).getD a []∈aY s n:=fv (by rw[pa.len];exact ha);exact(jc h (hw _ ma)<|hw _ ma).symm
  constructor;intro hp;refine List.find?_eq_none.mpr λr hr=>?_;obtain⟨a,ha,e⟩:=Ybv.mp hr;have ha':a<n:=by rw[<-pa.len];exact ha
  have:=hp a ha';rw[w a ha',aW,bP ha,qa,e]at this;have:¬bA s n r r<=0:=by grind
  simpa using this;intro hn a ha;rw[w a ha];exact uw hn _<|fv (by rw[pa.len];exact ha)
 have e2:(∀k,k<=n->0<dt (sA s n) k)↔sf s n:=by
  have d:∀k,k<n->i8 (qM (tbl s n)<|k+1)=dt (sA s n) (k+1):=λk hk=>by have sm:=HV (a:=k) h hk;rw[yh sm (by have:=h.n5;omega)];refine rW λi hi j hj=>?_;have hl:=gW s n;show tA _ i j=tT s n i j;unfold tA qM tT ga gr;simp only[aW];rw[cJ,qY,ks hi,bP (l:=tbl s n)<|tv];simp only[p9,qa];rw[qY,ks hj]
  constructor;intro hp k hk;rw[d k hk];exact hp _ tv;intro hp k hk;cases k with
  |zero=>exact Int.one_pos|succ k=>rw[<-d k tv];exact hp k tv
 rw[<-e2,<-e1];exact sy.symm
end
abbrev ZhE:Rv:=["slants", "squares", "row", "weight"]
def EM:WS:=(aH (cH 1<|cF aA)<|aH (bH<|bS (iS<|wF uu<|aC (wN 0) aA) (gN 2)<|aH (aQ 3<|wF iF<|aC (wN 0)<|aC (wN 2)<|aC (wN 2) aA)<|cP (wT<|w2 (gEq true) (wN 3)<|wC<|D.tup [(D.int<|0),(D.int<|1)]) (df 1<|bO<|aC (wN 3)<|aC (wF rS<|aC (wF rP<|aC (wN 0)<|aC (wN 2) aA)<|aC (wN 3) aA) aA) cR)<|cc 1<|aI<|wN 1)
abbrev Zk:Rv:=["slants"]
def IY:WS:=(aI<|w2 (gEq false) (w2 gIx (wF vh<|aC (wN 0) aA)<|wC<|.int<|0)<|wC<|D.str<|PySem.Str.ofString "above")
abbrev Zdd:Rv:=["slants", "thing", "size", "weights_good"]
def IZ:WS:=(aH (aQ 2<|wF jR<|aC (wN 0) aA)<|aH (cP (fJ (bW<|wT<|wF AI<|aC (wN 0)<|aC (wN 1) aA)<|wT<|w2 (gEq true) (wB bZ<|aC (wN 1) aA)<|wN 2) (aI<|wC<|D.bl false) cR)<|aH (aQ 3<|wB h8<|aC (wL<|aLC (iS<|wN 1) 2 [] (de 2<|bL (gN 0)<|bL (gN 1) cV) cU<|w2 jK (w2 gIx (wN 0)<|wC<|.int<|0)<|wC<|.int<|0) aA)<|aI<|gB (wN 3)<|wF yG<|aC (wL<|aLC (iS<|wN 1) 2 [] (de 2<|bL (gN 0)<|bL (gN 1) cV) cU<|wN 1)<|aC (wN 2) aA)
abbrev Ze6:Rv:=["slants", "thing"]
def I0:WS:=(aH (cP (fJ (bW<|wT<|wF rO<|aC (wN 0)<|aC (wN 1) aA)<|wT<|w2 (gEq false) (wN 1)<|w2 ZdL (bO<|aC (wC<|D.tup [(D.int<|0),(D.int<|1)]) aA)<|wF jR<|aC (wN 0) aA) (aI<|wC<|D.bl false) cR)<|aI<|w2 lb (w2 gIx (wF iF<|aC (wN 0)<|aC (wN 1)<|aC (wN 1) aA)<|wC<|.int<|0)<|wC<|.int<|0)
abbrev ZhP:Rv:=["slants", "thing"]
def Ja:WS:=(aH (fK<|wF qJ<|aC (wN 0) aA)<|aH (cP (fJ (bW<|wT<|wB gIs<|aC (wN 1)<|aC (wC<|.ty "tuple") aA)<|wT<|w2 (gEq true) (wB bZ<|aC (wN 1) aA)<|wC<|.int<|2) (aI<|wC<|D.bl false) cR)<|aH (cP (wT<|w2 (gEq false) (w2 gIx (wN 1)<|wC<|.int<|0)<|wC<|D.str<|PySem.Str.ofString "above") (aI<|wF Bf<|aC (wN 0)<|aC (w2 gIx (wN 1)<|wC<|.int<|1) aA) cR)<|aI<|gB (w2 (gEq false) (w2 gIx (wN 1)<|wC<|.int<|0)<|wC<|D.str<|PySem.Str.ofString "not")<|wF Bg<|aC (wN 0)<|aC (w2 gIx (wN 1)<|wC<|.int<|1) aA)
abbrev ZgU:Rv:=["slants", "row"]
def EN:WS:=(aH (bS (iS<|wF uu<|aC (wN 0) aA) (gN 1)<|cP (wT<|w2 lb (w2 gIx (wF iF<|aC (wN 0)<|aC (wN 1)<|aC (wN 1) aA)<|wC<|.int<|0)<|wC<|.int<|0) (aI<|bO<|aC (wC<|D.str<|PySem.Str.ofString "not")<|aC (wN 1) aA) cR)<|aI<|bO<|aC (wC<|D.str<|PySem.Str.ofString "above")<|aC (wF yP<|aC (wN 0) aA) aA)
section
theorem Bj(h:IsSl s n)(ev:s.reverse=s)(hr:r∈aY s n):Lf 163 n r:=(lu h ev).lf r hr
theorem yQ(h:IsSl s n)(ev:s.reverse=s)(hr:r∈aY s n):∃y∈r,y≠0:=by
 refine Classical.byContradiction λhn=>?_;have pa:=lu h ev;obtain⟨a,ha,e⟩:=Ybv.mp hr;have ha':a<n:=by rw[<-pa.len];exact ha
 have z:=(pa.ap' h ev).ind (c:=gO a) (λk hk=>by
  unfold dO;rw[sd _ ha'];show((aY s n).getD a []).getD k 0=0;rw[aW (l:=aY s n),bP ha,qa,e,aW];cases q:r[k]? with
  |none=>rfl
  |some y=>exact Classical.byContradiction λhy=>hn ⟨y,iK q,hy⟩) a ha'
 unfold gO at z;rw[ks rfl]at z;exact QS z wp
theorem EO(h:IsSl s n)(ev:s.reverse=s)(hr:Lf 163 n r){E:RE}(q:Q (aN<|bA s n r r)):iF [aJ s,aE r,aE r] E Q:=
 Ze h ev hr.len hr.len (λx hx=>(hr.sz x hx).mono<|wp) (λx hx=>(hr.sz x hx).mono<|wp) q
theorem EQ(q:Rat):decide (q.num<=0)=decide (q<=0):=by have:=(ZkS (q:=q)).1;rw[Rk];constructor<;>intro h<;>grind
end
theorem O9:Rd yP EM ZhE:=by
 rintro _ E Q ⟨⟨s,n⟩,rfl,⟨h,ev⟩,q⟩;dsimp only at h ev q;have n5:=h.n5;show EM E _ [.d<|aJ s,.un,.un,.un];unfold EM;refine cB<|B.C.own_by (xs:=[]) (ρ':=[.d<|aJ s,.ow [],.un,.un]) rfl (λP hP=>⟨wp,hP⟩) ?_;dsimp only;refine cB ?_;simp only[bH];refine B.C.for_seq (xs:=(aY s n).map aE) (λP hP=>?_) ?_
 .ext
  exact EC h ev hP
 have pl:=(lu h ev).len;refine uc (λds ρ=>∃F L s2 s3,ds=List.map aE L/\F++L=aY s n/\ρ=[.d<|aJ s,.ow<|((F.filter λr=>!decide (bA s n r r=0)).map<|sqP s n).map gX,s2,s3]) ?_ ?_ _ _ ⟨[],aY s n,.un,.un,rfl,rfl,rfl⟩
 .rintro d ds _ ⟨F,L,s2,s3,e,eF,rfl⟩ nx hnx
  cases L with
  |nil=>cases e
  |cons r L=>
  rw[cN]at e;injection e with e1 e2
  subst e1;have mr:r∈aY s n:=by rw[<-eF];simp
  have hr:=Bj h ev mr;have Fl:F.length<=5:=by have:=congrArg List.length eF;simp at this;omega
  show aH _ _ _ _ [.d<|aJ s,.ow _,.d<|aE r,s3];refine cB<|ig (d:=aN<|bA s n r r) (ρ':=[.d<|aJ s,.ow<|((F.filter λr=>!decide (bA s n r r=0)).map<|sqP s n).map gX,.d<|aE r,.d<|aN<|bA s n r r]) rfl (λP hP=>?_) ?_
  .ext
   exact EO h ev hr hP
  dsimp only;refine gp (b:=!decide (bA s n r r=0)) (λP hP=>?_) (λe=>?_) λe=>?_
  .ext
   exact EI hP
  .have e0:bA s n r r≠0:=by simpa using e
   refine qL (xs:=((F.filter λr=>!decide (bA s n r r=0)).map<|sqP s n).map gX) (d:=gX<|sqP s n r) (ρ':=[.d<|aJ s,.ow<|(((F++[r]).filter λr=>!decide (bA s n r r=0)).map<|sqP s n).map gX,.d<|aE r,.d<|aN<|bA s n r r]) rfl (lV (show _<=5 by rw[aZ,aZ];exact gP (List.length_filter_le _ _) Fl)<|wp) ?_ (λP hP=>?_) ?_
   .rw[List.filter_append,zB<|by rw[e],List.filter_nil,gR,gR]
    rfl
   .ext
    exact xa h hr.len ⟨163,hr.sz,wp⟩<|xC (b:=5*(163+8)+1) wp (by rw[Gs.tims_len];omega) (Zo h hr.sz) ((yK h hr hr).mono<|wp) e0 ⟨wp,hP⟩
   .exact hnx _ ⟨F++[r],L,_,_,e2,by rw[jP];exact eF,rfl⟩
  .refine hnx _ ⟨F++[r],L,.d<|aE r,.d<|aN<|bA s n r r,e2,by rw[jP];exact eF,?_⟩
   rw[List.filter_append,zC (by rw[e];decide),List.filter_nil,qT]
 .rintro _ ⟨F,L,s2,s3,e,eF,rfl⟩
  cases L with
  |cons r L=>cases e
  |nil=>
  rw[qT]at eF;rw[eF];dsimp only;refine B.C.pub_by (ρ':=[.d<|aJ s,.d<|cY<|sqF s n,s2,s3]) rfl ?_;ext;exact q
theorem Pb:Rd vh EN ZgU:=by
 rintro _ E Q ⟨x,rfl,hk,q⟩;show EN E _ [.d x,.un];unfold EN;unfold mG at q;refine cB ?_;simp only[bS,iS,wF,aC,aA,wN,dN];cases e:e8 x with
 |false=>exact xS.err x rfl hk (by unfold vg;exact lN e)<|jM e q
 |true=>
 obtain⟨s,n,rfl,h⟩:=kF e;replace q:=jN h q;cases ev:gD (aJ s) with
 |false=>
  rw[ev]at q;exact xS.err (aJ s) rfl hk (by(try dsimp only);unfold vg;rw[Zb h,ev];rfl) q
 |true=>
 rw[ev,d8,h.sN]at q;simp only[if_true]at q;replace q:Q (gw s n):=q;have ev':s.reverse=s:=by unfold gD at ev;rw[d8]at ev;simpa using ev
 refine EC h ev' ?_;refine uc (λds ρ=>∃F L s1,ds=List.map aE L/\F++L=aY s n/\cT s n=L.find? (λr=>decide (bA s n r r<=0))/\ρ=[.d<|aJ s,s1]) ?_ ?_ _ _ ⟨[],aY s n,.un,rfl,rfl,rfl,rfl⟩
 .rintro d ds _ ⟨F,L,s1,e,eF,eN,rfl⟩ nx hnx
  cases L with
  |nil=>cases e
  |cons r L=>
  rw[cN]at e;injection e with e1 e2
  subst e1;have mr:r∈aY s n:=by rw[<-eF];simp
  have hr:=Bj h ev' mr;show cP _ _ _ _ _ [.d<|aJ s,.d<|aE r];refine gp (b:=decide (bA s n r r<=0)) (λP hP=>?_) (λe=>?_) λe=>?_
  .ext
   refine EO h ev' hr ⟨_,rfl,?_⟩;rw[<-EQ]at hP;exact⟨trivial,hP⟩
  .rw[List.find?_cons_of_pos<|by exact e]at eN
   unfold gw at q;rw[eN]at q;ext;exact⟨wp,q⟩
  .rw[List.find?_cons_of_neg (by rw[e];decide)]at eN
   exact hnx _ ⟨F++[r],L,_,e2,by rw[jP];exact eF,eN,rfl⟩
 .rintro _ ⟨F,L,s1,e,eF,eN,rfl⟩
  cases L with
  |cons r L=>cases e
  |nil=>
  rw[List.find?_nil]at eN;unfold gw at q;rw[eN]at q;ext;exact IV h ev' ⟨wp,q⟩
theorem Pc:Rd Be IY Zk:=by
 rintro _ E Q ⟨x,rfl,hk,q⟩;unfold IY;ext;unfold Bc at q;cases e:e8 x with
 |false=>exact xS.err x rfl hk (by unfold mG;exact lN e)<|jM e q
 |true=>
 obtain⟨s,n,rfl,h⟩:=kF e;replace q:=jN h q;cases ev:gD (aJ s) with
 |false=>
  rw[ev]at q;exact xS.err (aJ s) rfl hk (by(try dsimp only);unfold mG;rw[Zb h,ev];rfl) q
 |true=>
 rw[ev,d8,h.sN]at q;simp only[if_true]at q;have ev':s.reverse=s:=by unfold gD at ev;rw[d8]at ev;simpa using ev
 refine xS.ok (aJ s) rfl hk (IX h ev') ?_;unfold gw;cases hn:cT s n with
 |none=>
  rw[hn]at q;exact⟨_,rfl,mx sa sa (by rw[show gC (.str "above") (.str "above")=true from sa];exact q)⟩
 |some r=>
  rw[hn]at q;exact⟨_,rfl,mx sa sa (by rw[show gC (.str "not") (.str "above")=false from sa];exact q)⟩
section
theorem Bl{a b:Nat}:∀{p q:Mn} {N:Nat},(∀x∈p,Sz a x)->(∀y∈q,Sz b y)->p.length*(a+b+1)<=N->Dz N p q
 |[],_,_,_,_,_=>trivial|_::_,[],_,_,_,_=>trivial|x::p,y::q,N,h1,h2,hl=>by rw[dD,mK]at hl;exact⟨a,b,h1 x<|E1,h2 y<|E1,tv,Bl (λz hz=>h1 z<|by simp[hz]) (λz hz=>h2 z<|by simp[hz])<|tv⟩
theorem Pd(h:IsSl s n)(ev:s.reverse=s)(hn:cT s n=none):(sqF s n).length=n:=by rw[Bb hn,aZ,(lu h ev).len]
theorem sq_mem(h:IsSl s n)(ev:s.reverse=s){p:Pr}(hp:p∈sqF s n):Sk 171 337 n p.2/\Pq 337 n p/\p.1≠0:=by
 obtain⟨r,hr,rfl⟩:=YbT.mp hp;have hr:=Yag.mp hr;have h0:bA s n r r≠0:=by simpa using hr.2
 have:=yO h (Bj h ev hr.1) h0;exact⟨this.1,this.2,h0⟩
theorem sq_few(h:IsSl s n)(ev:s.reverse=s):(sqF s n).length<=5:=by unfold sqF;rw[aZ];have:=List.length_filter_le (λr=>!decide (bA s n r r=0))<|aY s n;rw[(lu h ev).len]at this;have:=h.n5;omega
theorem yR(h:IsSl s n)(ev:s.reverse=s):kd (cY<|sqF s n)=true/\iC 337 (cY<|sqF s n)=true/\qN 337 (cY<|sqF s n):=by
 have l5:=sq_few h ev;have n5:=h.n5;refine⟨FT (by rw[aZ];omega) λx hx=>?_,?_,λxs e _=>?_⟩;obtain⟨p,hp,rfl⟩:=YbT.mp hx;refine wS E1 λy hy=>?_;simp only[Yan,iu,or_false]at hy;rcases hy with rfl|rfl
 exact Df _;exact rM (by rw[(sq_mem h ev hp).2.1.l];omega);unfold cY;rw[iC,xk];intro x hx;obtain⟨p,hp,rfl⟩:=YbT.mp hx;have P:=(sq_mem h ev hp).2.1;unfold gX;rw[iC,eI,eI,eI,d9,d9,ZiH,Zco];exact⟨P.w,P.r,rfl⟩;injection e with e
 rw[<-e,aZ];unfold u7;omega
theorem Pe(h:IsSl s n)(ev:s.reverse=s)(hn:cT s n=none):uk s n (cY<|sqF s n)=true:=by unfold uk;rw[D0,QT<|O3 h ev hn,zx];have l5:=sq_few h ev;unfold DW cY;rw[d9,QV,aZ,Ybb];refine⟨tv,λx hx=>?_⟩;obtain⟨p,hp,rfl⟩:=YbT.mp hx;obtain⟨_,P,p0⟩:=sq_mem h ev hp;have:=t8 p.2;rw[P.l]at this;unfold eX gX;simp only[Di,uZ,this];simpa using p0
end
theorem Pf:Rd Bf IZ Zdd:=by
 rintro _ E Q ⟨⟨s,n⟩,rfl,⟨h,ev,hn⟩,q⟩;dsimp only at h ev hn q;have n5:=h.n5;have sl:=Pd h ev hn;obtain⟨k1,k2,k3⟩:=yR h ev;unfold IZ;walk_at "n";refine mU h ?_;walk_at "n";refine xS.ok ((337,s,n),cY<|sqF s n) rfl ⟨h,k1,k2,k3⟩ (by unfold AF;dsimp only;rw[ks ev,Pe h ev hn]) ?_;unfold cY;ext;rw[aZ,sl];rw[Q8,jx<|wp];walk_at "n";refine vc (f:=λp=>.bl<|decide (p.1.num>0)) _ (λp hp P hP=>?_) .un .un [] (eJ (by simp;omega)) ⟨(sqF s n).map λp=>decide (p.1.num>0),by rw[dG,List.map_map];rfl,?_⟩;ext;exact⟨_,rfl,trivial,hP⟩;rw[show((sqF s n).map λp=>decide (p.1.num>0)).all id=true by
  rw[vt,Ybb];intro p hp;rw[Bb hn]at hp;obtain⟨r,hr,rfl⟩:=YbT.mp hp;exact QT<|ZkS.1.mpr<|uw hn r hr]
 ext;refine vc (f:=λp=>aE p.2) _ (λp hp P hP=>hP) .un .un [] (eJ (by simp;omega)) ?_;rw[dG];refine⟨((n,n),(sqF s n).map (·.2)),by dsimp only;unfold bE;rw[List.map_map];rfl,yM (b:=171) (c:=337) (λr hr=>?_) (bU _) (show n<=1000 by omega) (by simp;omega) ?_ ?_ ?_,?_⟩;obtain⟨p,hp,rfl⟩:=YbT.mp hr;exact(sq_mem h ev hp).1;rw[aZ,sl];have:=Zd (b:=171) (show n-1<=4 by omega);have:bq 171 4=2751:=wp
 omega;rw[aZ,sl];have:=Zd (b:=171) (show n-1<=4 by omega);have:bq 171 4=2751:=wp
 omega;rw[aZ,sl];have:=Zd (b:=171) (show n-2<=3 by omega);have:bq 171 3=1375:=wp
 omega;dsimp only;rw[O4 h ev hn,aZ,sl,QT rfl];exact q
theorem Pg:Rd Bg I0 Ze6:=by
 rintro _ E Q ⟨⟨⟨s,n⟩,r⟩,rfl,⟨h,ev,hr,h0⟩,q⟩;dsimp only at h ev hr h0 q;have n5:=h.n5;have lf:=Bj h ev hr;have ir:=t8 r;rw[lf.len]at ir;unfold I0;walk_at "n";refine Ag h (rM (by rw[lf.len];omega)) ?_;rw[ir];ext;refine⟨wp,mU h ⟨tv,tv,eJ (by simp;omega),?_⟩⟩;have e:D.tup ((List.replicate ((n:Int)).toNat [D.tup [.int 0,.int 1]]).flatten)=aE (List.replicate n 0):=by rw[jO,zE];unfold aE;rw[uJ];rfl
 rw[e];refine mx (zZ _ _) (zZ _ _) ?_;rw[G7,QU λz=>by
  obtain⟨y,hy,y0⟩:=yQ h ev hr;rw[z]at hy;exact y0<|List.eq_of_mem_replicate hy]
 refine EO h ev lf ⟨_,rfl,trivial,?_⟩;show Q (.bl<|decide ((bA s n r r).num<=0));rw[EQ,QT h0];exact q
theorem Ph:Rd Bh Ja ZhP:=by
 rintro _ E Q ⟨⟨s,n⟩,rfl,⟨h,ev⟩,q⟩;dsimp only at h ev q;unfold Ja;walk_at "n";refine A8 h ev ?_;unfold gw;cases hn:cT s n with
 |none=>
  refine cB<|gp (b:=false) (λP hP=>?_) (λe=>nomatch e) λ_=>?_
  ext;exact⟨"tuple",rfl,wp,hP⟩;dsimp only;refine cB<|gp (b:=true) (λP hP=>?_) (λ_=>?_) λe=>nomatch e
  ext;exact⟨_,rfl,zX sa hP⟩;ext;exact⟨_,rfl,O5 h ev hn q⟩
 |some r=>
  refine cB<|gp (b:=false) (λP hP=>?_) (λe=>nomatch e) λ_=>?_
  ext;exact⟨"tuple",rfl,wp,hP⟩;dsimp only;refine cB<|gp (b:=false) (λP hP=>?_) (λe=>nomatch e) λ_=>?_
  ext;exact⟨_,rfl,mx sa sa (by rw[show gC (.str "not") (.str "above")=false from sa];exact hP)⟩;ext;exact⟨_,rfl,zX sa ⟨_,rfl,O6 h ev hn q⟩⟩
section
theorem yS(h:IsSl s n)(ev:s.reverse=s):decide (sf s n)=(cT s n).isNone:=by
 have:=O8 h ev;cases e:cT s n with
 |none=>rw[QT<|this.mpr e];rfl|some r=>rw[QU λz=>by have:=this.mp z;rw[e]at this;cases this];rfl
theorem Jb(q:Rat):decide (q.num>0)=decide (0<q):=by
 have:=EQ q;by_cases h:q<=0;have h2:¬0<q:=by grind
 have h3:q.num<=0:=by rw[QT h]at this;simpa using this
 rw[QU h2,QU<|tv];have h2:0<q:=by grind
 have h3:¬q.num<=0:=by rw[QU h]at this;simpa using this
 rw[QT h2,QT<|tv]
end
theorem Pi(h:IsSl s n):IsSl (s.take (n-1)++[50]++s.drop n) n:=by
 have hl:=h.len;have n1:=h.n1;refine⟨?_,h.n1,h.n5,λx hx=>?_⟩;simp only[dA,fZ,iq,dD,jh];omega;simp only[Yao,YcO]at hx;rcases hx with(hx|rfl)|hx
 exact h.b x<|lX hx
 decide;exact h.b x<|lW hx
end B.C.Q0.Q3
abbrev Jc:=RF->(RE)->(List RF->Prop)->Prop
abbrev Pk:=(RE)->(List RF->Prop)->cS->Prop
open B.C
namespace B.C.Q0.Q1
open Q3 (sqP sqF)
section
variable{ps:List Pr}
def tm(i j:Nat)(p:Pr):Rat:=p.1*(p.2.getD i 0*p.2.getD j 0)
theorem gs_sum(i j:Nat):∀ps:List Pr,gs ps i j=aG (λb=>tm i j<|ps.getD b (0,[])) ps.length
 |[]=>rfl|p::ps=>by rw[gs,dD,u8,gs_sum i j ps];rfl
theorem Jd{α:Type}{f:α->Bool}{g:α->Pr}(d:α)(i j:Nat):∀L:List α,gs ((L.filter f).map g) i j=aG (λa=>if f (L.getD a d) then tm i j (g<|L.getD a d) else 0) L.length
 |[]=>rfl|r::L=>by have ih:=Jd (f:=f) (g:=g) d i j L;rw[dD,u8,uK];show _=(if f r then tm i j (g r) else 0)+aG (λa=>if f (L.getD a d) then tm i j (g<|L.getD a d) else 0) L.length;by_cases h:f r=true;rw[ks h,ks h,cN,gs,ih];rfl;rw[jx h,jx h,ih,vv]
theorem sq_E(h:IsSl s n)(ev:s.reverse=s):pZ s n (sqF s n):=λi hi j hj=>by
 have pa:=lu h ev;have hw:∀r∈aY s n,r.length=n:=λr hr=>(pa.lf r hr).len;have A:=pa.ap' h ev;have ma:∀a,a<n->(aY s n).getD a []∈aY s n:=λa ha=>fv (by rw[pa.len];exact ha);have w:∀a,a<n->bf (Pj.cA<|sA s n) n (pU (aY s n) a) (pU (aY s n) a)=bA s n ((aY s n).getD a []) ((aY s n).getD a []):=λa ha=>(jc h (hw _<|ma a ha)<|hw _<|ma a ha).symm;have cw:∀j,j<n->∃c,(∀k,k<n->gO j k=dO c (pU<|aY s n) n k)/\∀a,a<n->c a*bA s n ((aY s n).getD a []) ((aY s n).getD a [])=(bJ s n<|(aY s n).getD a []).getD j 0:=λj hj=>by
  obtain⟨c,hc⟩:=A.made<|gO j;refine⟨c,hc,λa ha=>?_⟩;rw[Q3.tm_bf h ev (hw _<|ma a ha) hj,<-w a ha,oB (λ_ _=>rfl) hc,lP];have z:∀b,b<n->b≠a->c b*bf (Pj.cA<|sA s n) n (gq<|(aY s n).getD a []) (pU (aY s n) b)=0:=λb hb ne=>by rw[show bf (Pj.cA<|sA s n) n (gq<|(aY s n).getD a []) (pU (aY s n) b)=0 from A.ap a b ha hb (QX ne),dI]
  rw[gL ha z];rfl
 obtain⟨c,hc,cj⟩:=cw j hj;obtain⟨d,_,di⟩:=cw i hi;have e:((tT s n i j:Int):Rat)=bf (Pj.cA<|sA s n) n (gO i) (gO j):=by rw[Q3.bf_dlt _ _ hj,sd _ hi];rfl
 unfold sqF;rw[Jd [],pa.len,e,oB (λ_ _=>rfl) hc,lP];refine bV λa ha=>?_;rw[show bf (Pj.cA<|sA s n) n (gO i) (pU (aY s n) a)=(bJ s n<|(aY s n).getD a []).getD i 0 by rw[Q3.tm_bf h ev (hw _<|ma a ha) hi,pB<|Q3.sy h ev];rfl];have cj:=cj a ha;have di:=di a ha;unfold tm sqP;rw[Gs.by_at,Gs.by_at,<-cj,<-di];generalize bA s n ((aY s n).getD a []) ((aY s n).getD a [])=q;by_cases z:q=0;rw[z,jx<|wp,dI,dI];rw[ks<|by simpa using z];have inv:=jQ _ z;rw[dH,dH];show q*(d a*q*q⁻¹*(c a*q*q⁻¹))=c a*(d a*q);generalize q⁻¹=y at *;have:q*(d a*q*y*(c a*q*y))=c a*(d a*q)*(q*y)*(q*y):=by grind
 rw[this,inv];grind
end
def lsP(s:Lb)(n k:Nat):Mn:=Gs.lstF (cor s n<|k+1)<|k+1
def lsW(s:Lb)(n k:Nat):Mn:=lsP s n k++List.replicate (n-(k+1)) 0
def stP(s:Lb)(n k:Nat):Pr:=(1/(lsP s n k).getD k 0,bJ s n<|lsW s n k)
def stq(s:Lb)(n:Nat):List Pr:=(List.range n).map<|stP s n
section
variable{ps:List Pr}
theorem lsP_len(h:IsSl s n)(g:Gs.Stg s n)(hk:k<n):(lsP s n k).length=k+1:=Gs.lst_len (iD h tv<|tv)<|g (k+1) tv tv
theorem lsW_len(h:IsSl s n)(g:Gs.Stg s n)(hk:k<n):(lsW s n k).length=n:=by unfold lsW;rw[dA,lsP_len h g hk,qU];omega
theorem num_cor(h:IsSl s n)(hk:k<n):i8 (qM (tbl s n)<|k+1)=bT (tbl (cor s n<|k+1)<|k+1):=by have sm:=HV (a:=k) h hk;rw[yh sm (by have:=h.n5;omega)];unfold bT;rw[gW];refine rW λi hi j hj=>?_;rw[Gs.tA_ent (iD h tv<|tv) hi hj,Zj h tv hi hj,<-Gs.tA_ent h tv tv];have hl:=gW s n;unfold tA qM ga gr;simp only[aW];rw[cJ,qY,ks hi,bP (l:=tbl s n)<|tv];simp only[p9,qa];rw[qY,ks hj]
end
end B.C.Q0.Q1
namespace B.C.Q0.Q1
open Q3 (sqF)
def tl1(s:Lb)(n:Nat):RF:=(stq s n).map gX
def tl2(s:Lb)(n:Nat):RF:=(stq s n).map λp=>aN p.1
end B.C.Q0.Q1
namespace B.C.Q0.Q1
open Q3 (sqP sqF)
section
theorem lsP_ne(h:IsSl s n)(g:Gs.Stg s n)(hk:k<n):(lsP s n k).getD k 0≠0:=by
 have hc:=iD h (k:=k+1) tv tv;have e:=g (k+1) tv tv;unfold lsP;rw[Gs.lst_at' hc e<|tv];have p:=(Gs.bkq hc e).per (Gs.tzq hc) (i:=0) (j:=0) tv tv;simp only[vp,Nat.sub_zero]at p ⊢;rw[p];refine Gs.bq00 hc e ?_;rcases Nat.eq_zero_or_pos k with z|z
 exact .inl tv;refine .inr ⟨tv,?_⟩;rw[Gs.cor_cor tv tv tv h];exact g _ tv tv
theorem lsP_sz(h:IsSl s n)(g:Gs.Stg s n)(hk:k<n):∀x∈lsP s n k,Sz 50 x:=Gs.lst_sz (iD h tv<|tv)<|g (k+1) tv tv
end
end B.C.Q0.Q1
namespace B.C.Q0.Q1
open Q3 (sqF)
section
variable{ps:List Pr}
theorem yT(h:IsSl s n)(l5:ps.length<=5)(P:∀p∈ps,Pq b n p/\p.1≠0)(hb:b<=337)(e:pZ s n ps):(kd (cY ps)=true/\iC b (cY ps)=true/\qN b (cY ps))/\uk s n (cY ps)=true:=by
 have n5:=h.n5;refine⟨⟨FT (by rw[aZ];omega) λx hx=>?_,?_,λxs e _=>?_⟩,?_⟩;obtain⟨p,hp,rfl⟩:=YbT.mp hx;refine wS E1 λy hy=>?_;simp only[Yan,iu,or_false]at hy;rcases hy with rfl|rfl
 exact Df _;exact rM (by rw[(P p hp).1.l];omega);unfold cY;rw[iC,xk];intro x hx;obtain⟨p,hp,rfl⟩:=YbT.mp hx;have P:=(P p hp).1;unfold gX;rw[iC,eI,eI,eI,d9,d9,ZiH,Zco];exact⟨P.w,P.r,rfl⟩;injection e with e
 rw[<-e,aZ];unfold u7;have:(3*b+1)*ps.length<=(3*337+1)*5:=hJ tv l5;omega;unfold uk;rw[D0,QT e,zx];unfold DW cY;rw[d9,QV,aZ,Ybb];refine⟨tv,λx hx=>?_⟩;obtain⟨p,hp,rfl⟩:=YbT.mp hx;obtain⟨P,p0⟩:=P p hp;have:=t8 p.2;rw[P.l]at this;unfold eX gX;simp only[Di,uZ,this];simpa using p0
theorem sq_ok(h:IsSl s n)(ev:s.reverse=s):(kd (cY<|sqF s n)=true/\iC 337 (cY<|sqF s n)=true/\qN 337 (cY<|sqF s n))/\uk s n (cY<|sqF s n)=true:=yT h (Q3.sq_few h ev) (λp hp=>(Q3.sq_mem h ev hp).2) (bU _)<|sq_E h ev
end
end B.C.Q0.Q1
section
theorem vj(h:IsSl s n)(h1:1<=k)(hk:k<=n):bT (tbl (cor s n k) k)=dt (sA s n) k:=by unfold bT;rw[gW];refine rW λi hi j hj=>?_;show tA (tbl (cor s n k) k) i j=tA (tbl s n) i j;rw[Gs.tA_ent (iD h h1 hk) hi hj,Gs.tA_ent h tv<|tv,Zj h hk hi hj]
theorem Pl(h:IsSl s n)(ev:s.reverse=s)(hw:lm s n=[]):(G.V9.W.cgF s n).countP (· == 1)=fO s n (aY s n)/\(G.V9.W.cgF s n).countP (· == -1)=je s n (aY s n)/\(G.V9.W.cgF s n).length=n:=by
 have pa:=lu h ev;have pw:∀r∈aY s n,r.length=n:=λr hr=>(pa.lf r hr).len;have n5:=h.n5;have sy:∀i j,i<n->j<n->Pj.cA (sA s n) i j=Pj.cA (sA s n) j i:=λi j hi hj=>by show((sA s n i j:Int):Rat)=_;rw[ve h ev i j hi hj]
 have nz:∀k,k<=n->dt (sA s n) k≠0:=λk hk=>by
  cases k with
  |zero=>exact Int.one_ne_zero
  |succ k=>
   intro z;have:k+1∈lm s n:=by unfold lm;refine YbT.mpr ⟨k,Yag.mpr ⟨Yah.mpr<|tv,?_⟩,rfl⟩;rw[vj h tv hk,z];rfl
   rw[hw]at this;cases this
 have ja:=Io (A:=sA s n) n5 (ve h ev) λi hi=>nz i tv;have cg:G.V9.W.cgF s n=(List.range n).map λk=>G.V9.W.sg2 (dt (sA s n) k) (dt (sA s n)<|k+1):=by
  unfold G.V9.W.cgF fw;refine si λi=>?_;rw[zm,cJ,cJ];rcases gx i n with hi|hi
  rw[iN hi];have e1:((1:Int)::(List.range n).map λk=>bT<|tbl (cor s n<|k+1)<|k+1)[i]? = some (dt (sA s n) i):=by
   cases i with
   |zero=>rfl|succ i=>rw[eA,cJ,iN<|tv];show some (bT _)=_;rw[vj h tv<|tv]
  rw[e1];show some (G.V9.W.sg2 _<|bT _)=_;rw[vj h tv<|tv];rfl;rw[show(List.range n)[i]? = none from dX (by rw[fh];exact hi)];cases((1:Int)::(List.range n).map λk=>bT<|tbl (cor s n<|k+1)<|k+1)[i]?<;>rfl
 have cp:∀(b:Int) (p:Nat->Bool),(∀k,k<n->(G.V9.W.sg2 (dt (sA s n) k) (dt (sA s n)<|k+1)==b)=p k)->(G.V9.W.cgF s n).countP (· == b)=eO n p:=λb p hp=>by rw[cg,List.countP_map,Fh];exact congrArg List.length<|B7 λk hk=>hp k (Yah.mp hk)
 have val:∀k,k<n->bf (Pj.cA<|sA s n) n (ke (sA s n) k) (ke (sA s n) k)=((dt (sA s n) k*dt (sA s n) (k+1):Int):Rat):=λk hk=>by have:=yA (A:=sA s n) n5 hk<|bU k;rw[ks rfl]at this;exact this
 refine⟨?_,?_,by rw[cg,aZ,fh]⟩;rw[IP h pa.len pw,(pa.ap' h ev).eq sy ja 1];refine cp 1 _ λk hk=>?_;unfold eK G.V9.W.sg2;rw[val k hk,mP];by_cases z:0<dt (sA s n) k*dt (sA s n) (k+1);rw[ks z,QT<|by exact_mod_cast z];rfl;rw[jx z,QU<|λy=>z<|by exact_mod_cast y];rfl;rw[IQ h pa.len pw,(pa.ap' h ev).eq sy ja (-1)];refine cp (-1) _ λk hk=>?_;unfold eK G.V9.W.sg2;rw[val k hk];have ne:dt (sA s n) k*dt (sA s n) (k+1)≠0:=lY (nz k<|tv)<|nz (k+1) tv;have e:(-1:Rat)*((dt (sA s n) k*dt (sA s n) (k+1):Int):Rat)=((-(dt (sA s n) k*dt (sA s n) (k+1)):Int):Rat):=by rw[Rat.intCast_neg];grind
 rw[e];by_cases z:0<dt (sA s n) k*dt (sA s n) (k+1);have ng:¬(0:Rat)<((-(dt (sA s n) k*dt (sA s n) (k+1)):Int):Rat):=λy=>by
  have y':0 < -(dt (sA s n) k*dt (sA s n) (k+1)):=by exact_mod_cast y
  omega
 rw[ks z,QU ng];rfl;have po:0 < -(dt (sA s n) k*dt (sA s n) (k+1)):=tv
 rw[jx z,QT<|by exact_mod_cast po];rfl
end
namespace B.C.Q0.Q3.Y4
open Q1 (stP stq lsP tl1 tl2 tm gs_sum sq_E)
def bF(c:Lb):Mn:=c.map λx=>Rat.divInt x 2520
structure Rw(n b:Nat)(c:Lb):Prop where
 l:c.length=n
 s:∀x∈c,x.natAbs<2^b
def S_rank_of:bN:=F4.S_rank_of
def Bm:bN:=fnS (λx:SL=>[aJ x.1]) (λx=>IsSl x.1 x.2/\x.1.reverse=x.1/\Gs.Stg x.1 x.2) λx=>.lst<|tl1 x.1 x.2
def ER:bN:=fnS (λx:SL=>[aJ x.1]) (λx=>IsSl x.1 x.2/\x.1.reverse=x.1/\Gs.Stg x.1 x.2) λx=>.lst<|tl2 x.1 x.2
def yU:bN:=rlS (λn:Nat=>[.pen,.int n]) (λn=>n<=5) λn d=>∃c:Lb,Rw n 17 c/\d=aE (bF c)
def Bo:bN:=fnS (λx:SL×Lb=>[cY<|sqF x.1.1 x.1.2,aE<|bF x.2]) (λx=>IsSl x.1.1 x.1.2/\x.1.1.reverse=x.1.1/\Rw x.1.2 18 x.2) λx=>aN<|bA x.1.1 x.1.2 (bF x.2) (bF x.2)
def yV:bN:=fnS (λx:Rat×Rat=>[aN x.1,aN x.2]) (λx=>Sz 60 x.1/\Sz 60 x.2) λx=>aN<|x.1+x.2
def ES:bN:=fnS (λx:SL=>[.pen,aJ x.1,cY<|sqF x.1 x.2]) (λx=>IsSl x.1 x.2/\x.1.reverse=x.1) λ_=>.bl true
def Bp:bN:=fnS (λx:SL=>[aJ x.1]) (λx=>IsSl x.1 x.2/\x.1.reverse=x.1/\Gs.Stg x.1 x.2) λ_=>.bl true
def yW:bN:=fnS (λx:SL=>[.pen,aJ x.1]) (λx=>IsSl x.1 x.2/\x.1.reverse=x.1) λ_=>.bl true
def yX:bN:=fnS (λns:Lb=>[.scr<|ns.map .int]) (λns=>ns.length<=63) λ_=>.bl true
section
variable{E:RE}{c c':Lb}{p:Rat}
theorem Rw.len(h:Rw n b c):(bF c).length=n:=by unfold bF;rw[aZ];exact h.l
theorem Rw.lf(h:Rw n b c)(hb:12<=b):Lf b n (bF c):=⟨c,2520,h.l,wp,dP (show(2520:Int).natAbs<2^12 by decide)<|lT wp hb,h.s,rfl⟩
theorem Rw.mono(h:Rw n 17 c):Rw n 18 c:=⟨h.l,λx hx=>y6 (h.s x hx)<|wp⟩
theorem yY(c:Lb)(j:Nat):(bF c).getD j 0=((c.getD j 0:Int):Rat)*((2520:Int):Rat)⁻¹:=yN c 2520 j
theorem Rw.sz(h:Rw n 18 c):∀x∈bF c,Sz 170 x:=λx hx=>((h.lf<|wp).sz x hx).mono wp
theorem Rw.pr(h:IsSl s n)(h1:Rw n 18 c)(h2:Rw n 18 c'):Sz 60 (bA s n (bF c)<|bF c'):=(yK h (h1.lf<|wp)<|h2.lf<|wp).mono wp
def lQ(c c':Lb):Lb:=List.zipWith (· + ·) c c'
theorem Rw.add(h:Rw n 17 c)(h':Rw n 17 c'):Rw n 18 (lQ c c')/\bF (lQ c c')=List.zipWith (· + ·) (bF c) (bF c'):=by
 have l1:=h.l;have l2:=h'.l;refine⟨⟨by unfold lQ;rw[g6];omega,λx hx=>?_⟩,?_⟩;unfold lQ at hx;obtain⟨i,hi,rfl⟩:=Ybv.mp hx;rw[lC];rw[g6]at hi;have:=h.s _<|gQ (show i<c.length by omega);have:=h'.s _<|gQ (show i<c'.length by omega);omega
 unfold bF lQ;refine uM E1 λi h1 h2=>?_;simp only[B0,lC];rw[l3,l3,l3,dH,dH,dH,uO];grind
theorem Je(h:Sk 171 337 n u)(hr:Rw n 18 c)(n5:n<=5):Sz 529 (bD u<|bF c):=by
 obtain⟨q,l,hq,hl,rfl⟩:=h.ex;obtain⟨d,e,h1,h2,h3,h4,rfl⟩:=hl.ex;have e1:bD ((d.map λx=>Rat.divInt x e).map λx=>q*x) (bF c)=q*Rat.divInt (sumI (λj=>d.getD j 0*c.getD j 0) n) (e*2520):=by rw[iH _ _ n (by rw[aZ,aZ];exact h1) hr.len,l3,dH,EL,lZ<|aG _ n,<-sumN_mul,<-sumN_mul];refine bV λj _=>?_;rw[Zm,yY,show(d.map λx=>Rat.divInt x e).getD j 0=((d.getD j 0:Int):Rat)*((e:Int):Rat)⁻¹ from yN d e j,eY,eY,Rat.inv_mul_rev];grind
 rw[e1];refine(hq.mul<|u3 (n:=192) tv ?_ ?_).mono wp;have g:∀{d:Lb} {w:Nat},(∀x∈d,x.natAbs<2^w)->∀j,(d.getD j 0).natAbs<=2^w:=λ{d w} hd j=>by
  rw[aW];cases q:d[j]? with
  |none=>exact jw _|some x=>exact gY<|hd x (iK q)
 have:=Pj.sumI_bd (f:=λj=>d.getD j 0*c.getD j 0) (c:=2^171*2^18) (n:=n) λj hj=>by rw[eh];exact hJ (g h4 j)<|g hr.s j
 have h3:n*(2^171*2^18)<=5*(2^171*2^18):=lU _ n5;have:5*(2^171*2^18)<2^192:=sa
 omega;rw[eh];have:e.natAbs*2520<2^171*2520:=Nat.mul_lt_mul_of_pos_right h3 wp;have e2:2^171*2520<2^192:=sa
 exact y6 this e2
theorem Jf{α:Type}(f:α->Rat)(d:α)(h:f d=0)(L:List α)(k:Nat):(L.map f).getD k 0=f (L.getD k d):=by
 rw[aW,cJ,aW];cases L[k]? with
 |none=>exact h.symm|some x=>rfl
theorem Pm(h:IsSl s n)(ev:s.reverse=s)(hr:r.length=n):bD ((sqF s n).map (·.1)) ((sqF s n).map λp=>bD p.2 r*bD p.2 r)=bA s n r r:=by
 have E:=sq_E h ev;have PL:∀b,b<(sqF s n).length->((sqF s n).getD b (0,[])).2.length=n:=λb hb=>by rw[aW,bP hb];exact(sq_mem h ev<|gQ hb).2.1.l
 unfold pZ at E;simp only[gs_sum]at E;generalize sqF s n=L at *;rw[iH _ _ L.length (by rw[aZ])<|by rw[aZ],jc h hr hr];unfold bf;have e:∀i,i<n->gq r i*aG (λj=>Pj.cA (sA s n) i j*gq r j) n=aG (λb=>gq r i*aG (λj=>tm i j (L.getD b (0,[]))*gq r j) n) L.length:=λi hi=>by rw[sumN_mul,LP.Dt.sumN_swap];congr 1;refine bV λj hj=>?_;show((tT s n i j:Int):Rat)*gq r j=_;rw[<-E i hi j hj,lZ,<-sumN_mul];exact bV λb _=>lZ _ _
 refine Eq.trans ?_<|(LP.Dt.sumN_swap _ _ _).trans (bV λi hi=>(e i hi).symm);refine bV λb hb=>?_;rw[Jf (·.1) (0,[]) rfl,Jf (λp:Pr=>bD p.2 r*bD p.2 r) (0,[]) (by show bD [] r*bD [] r=0;rw[bD];exact dI 0),iH _ r n (PL b hb) hr];generalize L.getD b (0,[])=p;unfold tm;generalize hA:aG (λj=>p.2.getD j 0*r.getD j 0) n=A;rw[bV (g:=λi=>(p.1*A)*(p.2.getD i 0*r.getD i 0)) λi hi=>by
  rw[bV (g:=λj=>(p.1*p.2.getD i 0)*(p.2.getD j 0*r.getD j 0)) λj _=>by show p.1*(p.2.getD i 0*p.2.getD j 0)*r.getD j 0=_;grind,sumN_mul,hA];show r.getD i 0*_=_;grind,sumN_mul,hA]
 grind
end
end B.C.Q0.Q3.Y4
section
def Bq:RF->(RG)->Prop:=λds Q=>match ds with|[.tup xs]=>∃ns:Lb,xs=its ns/\Q (.int ns.sum)|_=>False
theorem Po(hc:X.calm=true):eU X (.builtin "sum") Bq:=by refine⟨⟨_,KP hc,λW H vs ds Q ok r hg=>?_⟩,λds P P' hp hg=>?_⟩;unfold Bq at hg;split at hg;obtain⟨ns,rfl,q⟩:=hg;obtain⟨v,rfl,rv⟩:=r.one;obtain⟨p,us,rfl,h1,rr⟩:=rv.sqt ok;rw[xc rr]at h1;exact⟨p,ns,rfl,h1,q.now ok<|.int _⟩;exact hg.elim;unfold Bq at hg ⊢;split at hg;obtain⟨bs,e,q⟩:=hg;exact⟨bs,e,hp _ q⟩;exact hg.elim
end
namespace B.C.Q0.Q3.Y4
abbrev Zf2:Rv:=["slants", "size", "lasts"]
def ET:WS:=(aH (fK<|wF qJ<|aC (wN 0) aA)<|aH (aQ 1<|wF jR<|aC (wN 0) aA)<|aH (cH 2<|aLC (iS<|wF AW<|aC (wN 0) aA) 1 [] (gN 0) cU<|w2 gIx (wN 0)<|wC<|.int<|1)<|cc 2<|aI<|wL<|aLC (iS<|wN 2) 1 [0,1] (gN 0) cU<|bO<|aC (wF mz<|aC (wC<|D.tup [(D.int<|1),(D.int<|1)])<|aC (w2 gIx (wN 0)<|w1 j5<|wC<|.int<|1) aA)<|aC (wF rP<|aC (wN 1)<|aC (w2 gAdd (wN 0)<|w2 ZdL (bO<|aC (wC<|D.tup [(D.int<|0),(D.int<|1)]) aA)<|w2 i6 (wN 2)<|wB bZ<|aC (wN 0) aA) aA) aA)
abbrev ZfF:Rv:=["slants"]
def EU:WS:=(aI<|wL<|aLC (iS<|wF Bm<|aC (wN 0) aA) 2 [] (de 2<|bL (gN 0)<|bL (gN 1) cV) cU<|wN 0)
abbrev Zf4:Rv:=["_law_squares", "_law_row", "_law_parts", "_law_weight", "_law_line", "_law_one"]
def EV:WS:=(aH (cH 2<|cF aA)<|aH (bH<|bS (iS<|wN 0) (de 2<|bL (gN 3)<|bL (gN 4) cV)<|aH (aQ 5<|wF u4<|aC (wN 4)<|aC (wN 1) aA)<|df 2<|wF rR<|aC (w2 gMul (w2 gIx (wN 5)<|wC<|.int<|0)<|w2 gIx (wN 5)<|wC<|.int<|0)<|aC (w2 gMul (w2 gIx (wN 5)<|wC<|.int<|1)<|w2 gIx (wN 5)<|wC<|.int<|1) aA)<|cc 2<|aI<|wF u4<|aC (wL<|aLC (iS<|wN 0) 2 [] (de 2<|bL (gN 0)<|bL (gN 1) cV) cU<|wN 0)<|aC (wN 2) aA)
abbrev Zjj:Rv:=["_law_one", "_law_other"]
def Jg:WS:=(aI<|wF u4<|aC (wL<|cF<|aC (wN 0)<|aC (wN 1) aA)<|aC (wL<|cF<|aC (bO<|aC (wC<|.int<|1)<|aC (wC<|.int<|1) aA)<|aC (bO<|aC (wC<|.int<|1)<|aC (wC<|.int<|1) aA) aA) aA)
abbrev ZdZ:Rv:=["_law_pen", "_law_slants", "_law_squares", "_law_size", "_law_one", "_law_other", "_law_both", "_law_row"]
def EW:WS:=(aH (aQ 3<|w2 h9 (w2 gAdd (wB bZ<|aC (wN 1) aA)<|wC<|.int<|1)<|wC<|.int<|2)<|aH (ez 4 5<|aC (wF yU<|aC (wN 0)<|aC (wN 3) aA)<|aC (wF yU<|aC (wN 0)<|aC (wN 3) aA) aA)<|aH (aQ 6<|wB kC<|aC (wL<|aLC (iZ<|aC (wN 4)<|aC (wN 5) aA) 2 [] (de 2<|bL (gN 0)<|bL (gN 1) cV) cU<|wF yV<|aC (wN 0)<|aC (wN 1) aA) aA)<|aH (bH<|bS (iS<|bO<|aC (wN 4)<|aC (wN 6) aA) (gN 7)<|cP (wT<|w2 (gEq true) (wF Bo<|aC (wN 2)<|aC (wN 7) aA)<|wF iF<|aC (wN 1)<|aC (wN 7)<|aC (wN 7) aA) (aI<|wC<|D.bl false) cR)<|aH (cP (wT<|w2 (gEq true) (wF iF<|aC (wN 1)<|aC (wN 4)<|aC (wN 5) aA)<|wF iF<|aC (wN 1)<|aC (wN 5)<|aC (wN 4) aA) (aI<|wC<|D.bl false) cR)<|aI<|w2 (gEq false) (wF iF<|aC (wN 1)<|aC (wN 6)<|aC (wN 4) aA)<|wF yV<|aC (wF iF<|aC (wN 1)<|aC (wN 4)<|aC (wN 4) aA)<|aC (wF iF<|aC (wN 1)<|aC (wN 5)<|aC (wN 4) aA) aA)
abbrev ZdY:Rv:=["_law_slants", "_law_numbers", "_law_weights", "_law_at", "_law_weight", "_law_above"]
def EY:WS:=(aH (aQ 1<|wF uo<|aC (wN 0) aA)<|aH (aQ 2<|wF ER<|aC (wN 0) aA)<|aH (cP (wT<|w2 (gEq true) (wN 2)<|wL<|aLC (iS<|wF Bm<|aC (wN 0) aA) 2 [] (de 2<|bL (gN 0)<|bL (gN 1) cV) cU<|wN 0) (aI<|wC<|D.bl false) cR)<|aH (bH<|bS (iE<|aC (wN 2) aA) (de 2<|bL (gN 3)<|bL (gN 4) cV)<|cP (wT<|w2 (gEq true) (wF u4<|aC (wL<|cF<|aC (wN 4) aA)<|aC (wL<|cF<|aC (bO<|aC (w2 gIx (w2 gAdd (wL<|cF<|aC (wC<|.int<|1) aA)<|wN 1)<|wN 3)<|aC (wC<|.int<|1) aA) aA) aA)<|bO<|aC (w2 gIx (wN 1)<|wN 3)<|aC (wC<|.int<|1) aA) (aI<|wC<|D.bl false) cR)<|aH (aQ 5<|wB bZ<|aC (wL<|aLC (iS<|wN 2) 1 [] (gN 0) (wT<|w2 jK (w2 gIx (wN 0)<|wC<|.int<|0)<|wC<|.int<|0)<|wN 0) aA)<|aI<|w2 (gEq false) (wF yI<|aC (wN 0) aA)<|bO<|aC (wN 5)<|aC (w2 i6 (wB bZ<|aC (wN 2) aA)<|wN 5)<|aC (wC<|.int<|0) aA)
abbrev ZfH:Rv:=["_law_pen", "_law_slants", "_law_squares", "_law_above", "_law_signs"]
def EZ:WS:=(aH (aQ 2<|wF yP<|aC (wN 1) aA)<|aH (cP (fJ (bW<|wT<|wF Av<|aC (wN 1) aA)<|fJ (bW<|wT<|wF AI<|aC (wN 1)<|aC (wN 2) aA)<|wT<|w2 (gEq true) (wB bZ<|aC (wN 2) aA)<|wF S_rank_of<|aC (wN 1) aA) (aI<|wC<|D.bl false) cR)<|aH (aQ 3<|wF Be<|aC (wN 1) aA)<|aH (aQ 4<|wF yI<|aC (wN 1) aA)<|aH (cP (fJ (wT<|w2 (gEq true) (wN 3)<|w2 jK (wB Ba<|aC (wF uo<|aC (wN 1) aA) aA)<|wC<|.int<|0)<|wT<|w2 (gEq true) (wN 3)<|w2 (gEq false) (cG (wN 4) (dW<|wC<|.int<|1) eL)<|bO<|aC (wC<|.int<|0)<|aC (wC<|.int<|0) aA) (aI<|wC<|D.bl false) cR)<|aH (cP (wT<|w2 (gEq true) (wB bZ<|aC (wL<|aLC (iS<|wN 2) 2 [] (de 2<|bL (gN 0)<|bL (gN 1) cV) (wT<|w2 jK (w2 gIx (wN 0)<|wC<|.int<|0)<|wC<|.int<|0)<|wN 0) aA)<|w2 gIx (wN 4)<|wC<|.int<|0) (aI<|wC<|D.bl false) cR)<|aH (cP (fJ (bW<|wT<|wF Bh<|aC (wN 1)<|aC (wF vh<|aC (wN 1) aA) aA)<|wT<|w2 (gEq true) (w2 (gEq false) (w2 gIx (wF vh<|aC (wN 1) aA)<|wC<|.int<|0)<|wC<|D.str<|PySem.Str.ofString "above")<|wN 3) (aI<|wC<|D.bl false) cR)<|aH (cP (fi (wT<|wN 3)<|bW<|wT<|wB h8<|aC (wL<|aLC (jr<|aC (wC<|.int<|1)<|aC (w2 gAdd (wB Bq<|aC (wN 4) aA)<|wC<|.int<|1) aA) 1 [1] (gN 0) cU<|wF Be<|aC (wF rN<|aC (wN 1)<|aC (wN 0) aA) aA) aA) (aI<|wC<|D.bl false) cR)<|aI<|gB (wF ES<|aC (wN 0)<|aC (wN 1)<|aC (wN 2) aA)<|fj (w2 (gIsC true) (wF yy<|aC (wN 1) aA)<|wC D.non)<|wF Bp<|aC (wN 1) aA)
abbrev Jh:Rv:=["_law_script", "_law_cell", "_law_pen", "_law_slants", "_law_size"]
def Bt:WS:=(aH (bH<|bS (iS<|w2 gAdd (wL<|cF<|aC (wF Aj<|aC (wN 0)<|aC (wC<|.int<|0) aA) aA)<|cG (wN 0) (dW<|wC<|.int<|1)<|dW<|wC<|.int<|5) (gN 1)<|aH (aQ 2<|wF Ak<|aC (wN 1) aA)<|aH (aQ 3<|wF AJ<|aC (wN 2) aA)<|aH (aQ 4<|w2 h9 (w2 gAdd (wB bZ<|aC (wN 3) aA)<|wC<|.int<|1)<|wC<|.int<|2)<|cP (fJ (bW<|wT<|wF yW<|aC (wN 2)<|aC (wN 3) aA)<|bW<|wT<|wF yW<|aC (wN 2)<|aC (w2 gAdd (w2 gAdd (cG (wN 3) eL<|dW<|w2 i6 (wN 4)<|wC<|.int<|1)<|bO<|aC (wC<|.int<|50) aA)<|cG (wN 3) (dW<|wN 4) eL) aA) (aI<|wC<|D.bl false) cR)<|aI<|wC<|D.bl true)
end B.C.Q0.Q3.Y4
namespace B.C.Q0.Q3.Y4
open Q1 (stP stq lsP lsP_ne)
section
theorem Ji{α:Type}(f:α->Rat):∀L:List α,(L.filter λr=>!decide (f r=0)).length=(L.filter λr=>decide (0<f r)).length+(L.filter λr=>decide (f r<0)).length
 |[]=>rfl
 |r::L=>by
  have ih:=Ji f L;have d:(f r=0/\¬0<f r/\¬f r<0)\/(f r≠0/\0<f r/\¬f r<0)\/(f r≠0/\¬0<f r/\f r<0):=by grind
  rcases d with⟨a,b,c⟩|⟨a,b,c⟩|⟨a,b,c⟩<;>simp[uK,a,b,c,ih]<;>omega
theorem Pp(h:IsSl s n)(ev:s.reverse=s):(sqF s n).length+(dU s n).length=n:=by have:=EJ h ev;have e:=Ji (λr=>bA s n r r)<|aY s n;unfold fO je at this;unfold sqF;rw[aZ];omega
theorem Ps(s:Lb)(n:Nat):((sqF s n).filter λp=>decide (0<p.1)).length=fO s n (aY s n):=by
 unfold sqF fO;rw[B6,aZ,List.filter_filter];congr 1;refine B7 λr _=>?_;show(decide (0<bA s n r r) && !decide (bA s n r r=0))=_;by_cases z:0<bA s n r r;have:bA s n r r≠0:=λe=>by rw[e]at z;exact QS z wp
 simp[z,this];simp[z]
theorem yZ(h:IsSl s n)(ev:s.reverse=s):(cT s n).isNone=decide (fO s n (aY s n)=n):=by
 have pl:=(lu h ev).len;cases e:cT s n with
 |none=>refine(QT ?_).symm;unfold fO;rw[Ydi.mpr λr hr=>QT<|uw e r hr,pl]
 |some r=>
  obtain⟨hr,h0⟩:=IU e;refine(QU λz=>?_).symm;unfold fO at z;have:=Ydi.mp (List.Sublist.eq_of_length (List.filter_sublist (p:=λr=>decide (0<bA s n r r)) (l:=aY s n))<|tv) r hr;have:0<bA s n r r:=by simpa using this
  grind
theorem Bu(h:IsSl s n)(hk:k<n):(fw s n)[k]? = some (dt (sA s n)<|k+1):=by unfold fw;rw[cJ,iN hk,p9,vj h tv<|tv]
theorem E2(h:IsSl s n)(ev:s.reverse=s):(∀x∈fw s n,0<x)↔(cT s n).isNone=true:=by
 rw[<-yS h ev,QV];unfold sf fw;constructor;intro hx k hk;rw[Q1.num_cor h hk];exact hx _<|kK (Yah.mpr hk)
 intro hd x hx;obtain⟨k,hk,rfl⟩:=YbT.mp hx;rw[<-Q1.num_cor h (Yah.mp hk)];exact hd k<|Yah.mp hk
theorem Pt(h:IsSl s n)(ev:s.reverse=s)(hn:(cT s n).isNone=true)(k1:1<=k)(hk:k<=n):(cor s n k).reverse=cor s n k/\(cT (cor s n k) k).isNone=true:=by
 have hc:=iD h k1 hk;have ec:(cor s n k).reverse=cor s n k:=by rw[<-OA h k1 hk,ev]
 refine⟨ec,(E2 hc ec).mp λx hx=>?_⟩;unfold fw at hx;obtain⟨j,hj,rfl⟩:=YbT.mp hx;have hj:=Yah.mp hj;rw[Gs.cor_cor hk tv tv h];exact(E2 h ev).mpr hn _ (by unfold fw;exact kK (f:=λk=>bT<|tbl (cor s n<|k+1)<|k+1)<|Yah.mpr<|tv)
theorem Jj(h:IsSl s n)(g:Gs.Stg s n)(hk:k<n):(stP s n k).1*((dt (sA s n) k:Int):Rat)=((dt (sA s n) (k+1):Int):Rat)/\((dt (sA s n) k:Int):Rat)≠0:=by
 have n5:=h.n5;have hc:=iD h (k:=k+1) tv tv;have e:=g (k+1) tv tv;have nz:=lsP_ne h g hk;have d1:dt (tA<|tbl (cor s n<|k+1)<|k+1) (k+1)=dt (sA s n) (k+1):=by have:=vj h (k:=k+1) tv tv;unfold bT at this;rwa [gW]at this
 have d0:fN (tA<|tbl (cor s n<|k+1)<|k+1) (k+1) k k=dt (sA s n) k:=by
  have j:=AZ (A:=tA<|tbl (cor s n<|k+1)<|k+1) n5 hk;unfold ke at j;rw[ks<|bU k]at j;have j:fN (tA<|tbl (cor s n<|k+1)<|k+1) (k+1) k k=dt (tA<|tbl (cor s n<|k+1)<|k+1) k:=by exact_mod_cast j
  rw[j];refine rW λi hi j hj=>?_;rw[Gs.tA_ent hc tv<|tv,Zj h tv tv<|tv];exact(Gs.tA_ent h tv<|tv).symm
 have lk:(lsP s n k).getD k 0=((dt (sA s n) k:Int):Rat)/((dt (sA s n) (k+1):Int):Rat):=by unfold lsP;rw[Gs.lst_at' hc e<|tv];show((rT _ _).getD k []).getD _ 0=_;rw[(qP hc e).2 k (k+1-1) tv<|tv,vp,d0,d1]
 show 1/(lsP s n k).getD k 0*_=_/\_;rw[lk]at nz ⊢;generalize ((dt (sA s n) k:Int):Rat)=x at *;generalize ((dt (sA s n) (k+1):Int):Rat)=y at *;have x0:x≠0:=λz=>nz (by rw[z,dH,fH]);have y0:y≠0:=λz=>nz (by rw[z,dH,Rat.inv_zero,dI]);refine⟨?_,x0⟩;rw[dH,dH,mP,Rat.inv_mul_rev,Rat.inv_inv,Rat.mul_assoc,ss _ x0,mO]
theorem Pu(h:IsSl s n)(g:Gs.Stg s n)(hk:k<n):decide (0<(stP s n k).1)=decide (0<dt (sA s n) k*dt (sA s n) (k+1)):=by
 obtain⟨e,x0⟩:=Jj h g hk;generalize (stP s n k).1=w at *;rw[Rk];have c:0<dt (sA s n) k*dt (sA s n) (k+1)↔0<((dt (sA s n) k:Int):Rat)*((dt (sA s n) (k+1):Int):Rat):=by rw[<-eY];constructor<;>intro z<;>exact_mod_cast z
 rw[c,<-e];generalize ((dt (sA s n) k:Int):Rat)=x at *;have nz:x*x≠0:=λz=>by
  rcases Ydd.mp z with z|z
  exact x0 z;exact x0 z
 have nn:=IR x;have sq:0<x*x:=by grind
 have:x*(w*x)=(x*x)*w:=by grind
 rw[this,OY sq]
theorem Pv(h:IsSl s n)(ev:s.reverse=s)(g:Gs.Stg s n):((stq s n).filter λp=>decide (0<p.1)).length=fO s n (aY s n)/\fO s n (aY s n)+je s n (aY s n)=n:=by
 have nf:=EJ h ev;rw[Gs.Stg.full h g]at nf;refine⟨?_,nf⟩;rw[<-(Pl h ev<|(Gs.wk_stg h).mpr g).1,<-Fh];have:G.V9.W.cgF s n=(stq s n).map λp=>if 0<p.1 then(1:Int) else -1:=by
  unfold G.V9.W.cgF stq;rw[List.map_map];have cl:(fw s n).length=n:=by unfold fw;rw[aZ,fh]
  refine si λk=>?_;rw[zm,cJ];rcases gx k n with hk|hk
  rw[Bu h hk,iN hk,p9];have:(1::fw s n)[k]? = some (dt (sA s n) k):=by
   cases k with
   |zero=>rfl|succ k=>rw[eA,Bu h<|tv]
  rw[this];show some (G.V9.W.sg2 _ _)=some (if 0<(stP s n k).1 then(1:Int) else -1);unfold G.V9.W.sg2;have:=Pu h g hk;rw[Rk]at this;simp only[this];rw[dX (l:=fw s n)<|tv,dX (l:=List.range n) (by rw[fh];omega)];cases(1::fw s n)[k]?<;>rfl
 rw[this,List.countP_map];refine List.countP_congr λp _=>?_;show _↔((if 0<p.1 then(1:Int) else -1)==1)=true;by_cases z:0<p.1<;>simp[z]
end
end B.C.Q0.Q3.Y4
namespace B.C.Q0.Q3.Y4
open Q1 (stP stq lsP lsW tl1 tl2 lsP_len lsP_sz lsP_ne lsW_len)
theorem Pw:Rd Bm ET Zf2:=by
 rintro _ E Q ⟨⟨s,n⟩,rfl,⟨h,ev,g⟩,q⟩;dsimp only at h ev g q;have n5:=h.n5;show ET E _ [.d<|aJ s,.un,.un];unfold ET;walk_at "n";refine A8 h ev ?_;walk_at "n";refine mU h ?_;walk_at "n";refine Op h g ?_;ext;refine li (g:=λk=>iI (cor s n<|k+1)<|k+1) (f:=λk=>aE<|lsP s n k) (List.range n) (λk hk Q hq=>?_) .un [] (eJ (by rw[jh,fh];omega)) ?_;unfold iI;ext;exact⟨_,bY (j:=1) rfl,hq⟩;rw[dG];ext;refine li (g:=λk=>aE<|lsP s n k) (f:=λk=>gX<|stP s n k) (List.range n) (λk hk Q hq=>?_) .un [] (eJ (by rw[jh,fh];omega)) ?_;have hk:=Yah.mp hk;have ll:=lsP_len h g hk;have sz:=lsP_sz h g hk;have nz:=lsP_ne h g hk;have wl:=lsW_len h g hk;have wz:∀x∈lsW s n k,Sz 50 x:=λx hx=>by
  rcases Yao.mp hx with hx|hx
  exact sz x hx;rw[(List.mem_replicate.mp hx).2];exact⟨wp,wp⟩
 have ew:aE (lsW s n k)=.tup (List.map aN (lsP s n k)++List.replicate (n-(k+1)) (D.tup [D.int 0,D.int 1])):=by unfold aE lsW;rw[gR,uJ];rfl
 have lk:(lsP s n k)[k]? = some ((lsP s n k).getD k 0):=by rw[aW,bP<|tv];rfl
 have la:et (List.map aN<|lsP s n k) (-1)=some (aN<|(lsP s n k).getD k 0):=by
  obtain⟨r,x,e⟩:∃r x,lsP s n k=r++[x]:=⟨_,_,(List.dropLast_concat_getLast (λz=>by rw[z]at ll;cases ll)).symm⟩;have rl:r.length=k:=by have:=congrArg List.length e;rw[ll]at this;simp at this;omega
  rw[e,gR,aW,ly<|tv,rl,zF];exact jZ _ _
 unfold aE;ext;refine⟨_,la,?_⟩;refine t7 (p:=1) (q:=(lsP s n k).getD k 0) ⟨1,50,⟨wp,wp⟩,sz _<|iK lk,wp⟩ nz ?_;rw[aZ,ll,show((n:Int)-((k+1:Nat):Int)).toNat=n-(k+1) by omega,zE,qU,<-ew];exact⟨wp,tv,tv,eJ<|tv,eJ<|tv,xa h wl ⟨50,wz,wp⟩ ⟨wp,hq⟩⟩;rw[dG];unfold tl1 stq at q;rw[List.map_map]at q;exact q
theorem Px:Rd ER EU ZfF:=by rintro _ E Q ⟨⟨s,n⟩,rfl,⟨h,ev,g⟩,q⟩;dsimp only at h ev g q;have n5:=h.n5;show EU E _ [.d<|aJ s];unfold EU;ext;refine⟨(s,n),rfl,⟨h,ev,g⟩,?_⟩;dsimp only;unfold tl1;refine vc (f:=λp=>aN p.1) (stq s n) (λp hp Q hq=>?_) .un .un [] ?_ ?_;ext;exact hq;unfold stq;rw[jh,aZ,fh];exact eJ tv;rw[dG];exact q
theorem E3{t b:Int}(h1:1<=b)(h2:b<=9):∃k:Int,k.natAbs<=2520/\Rat.divInt t b=Rat.divInt (t*k) 2520:=by
 have e:∀k:Int,k≠0->b*k=2520->k.natAbs<=2520->∃k:Int,k.natAbs<=2520/\Rat.divInt t b=Rat.divInt (t*k) 2520:=λk k0 e l=>⟨k,l,by rw[<-e,zD k0]⟩;have:b=1\/b=2\/b=3\/b=4\/b=5\/b=6\/b=7\/b=8\/b=9:=tv
 rcases this with rfl|rfl|rfl|rfl|rfl|rfl|rfl|rfl|rfl
 exact e 2520 wp wp wp;exact e 1260 wp wp wp;exact e 840 wp wp wp;exact e 630 wp wp wp;exact e 504 wp wp wp;exact e 420 wp wp wp;exact e 360 wp wp wp;exact e 315 wp wp wp;exact e 280 wp wp wp
theorem Py:Rd yU GT ZgV:=by
 rintro _ E Q ⟨n,rfl,hn,q⟩;unfold GT;walk_at "n";refine⟨wp,?_⟩;walk_at "n";refine⟨tv,tv,?_⟩;refine GL (λi ρ=>∃(c:Lb) (a b:SV),Rw i 17 c/\ρ=[.d .pen,.d<|.int n,.ow<|(bF c).map aN,a,b]) n ?_ ?_ _ ⟨[],_,_,⟨rfl,E1⟩,rfl⟩;rintro i hi _ ⟨c,a,b,hc,rfl⟩ nx hnx;ext;walk_at "n";refine⟨wp,mB (n:=3) wp wp λk hk=>?_⟩;obtain⟨g,hg,hat⟩:=GU (a:=3) (b:=9) (c:=41) hk;refine⟨_,hat,?_⟩;ext;refine mB tv tv λt ht=>?_;ext;refine mB (n:=2) wp wp λsg hsg=>?_;ext;refine⟨⟨iB (n:=2) wp<|tv,iB (n:=10) tv<|tv⟩,?_⟩;have hs:(1-2*(sg:Int)).natAbs<=1:=tv
 have hm:((t:Int)*(1-2*(sg:Int))).natAbs<=41:=by rw[eh];exact hJ (show(t:Int).natAbs<=41 by omega) hs
 refine⟨⟨iB (n:=10) tv<|tv,iB (n:=10) tv<|tv⟩,wp,mB (n:=3) wp wp λk3 hk3=>?_⟩;obtain⟨g3,hg3,hat3⟩:=GU (a:=1) (b:=3) (c:=9) hk3;refine⟨_,hat3,?_⟩;ext;refine mB tv tv λbo hbo=>?_;ext;refine xi tv (iB (n:=10) tv<|tv) ⟨by rw[aZ,hc.len];unfold aO;omega,?_⟩;obtain⟨k,hk,e⟩:=E3 (t:=(t:Int)*(1-2*(sg:Int))) (b:=1+(bo:Int)) tv tv;rw[e];refine hnx _ ⟨c++[(t:Int)*(1-2*(sg:Int))*k],_,_,⟨by rw[dA,hc.l];rfl,λx hx=>?_⟩,by unfold bF;rw[gR,gR];rfl⟩;rcases Yao.mp hx with hx|hx
 exact hc.s x hx;rw[YcO.mp hx,eh];exact lV (hJ hm hk) wp;rintro _ ⟨c,a,b,hc,rfl⟩;ext;exact q _ ⟨c,hc,rfl⟩
theorem Pz:Rd yV Jg Zjj:=by
 rintro _ E Q ⟨⟨a,b⟩,rfl,⟨ha,hb⟩,q⟩;dsimp only at ha hb q;unfold Jg;ext;refine⟨wp,wp,wp,wp,((false,false),[a,b],[1,1]),rfl,Bl (a:=60) (b:=1) (λx hx=>?_) (λx hx=>?_) (show 2*62<=8989 by decide),?_⟩;simp only[Yan,iu,or_false]at hx;rcases hx with rfl|rfl
 exact ha;exact hb;simp only[Yan,iu,or_false,or_self]at hx;rw[hx];exact⟨wp,wp⟩;dsimp only[bD];rw[mO,mO,km];exact q
theorem PB:Rd Bo EV Zf4:=by
 rintro _ E Q ⟨⟨⟨s,n⟩,c⟩,rfl,⟨h,ev,hc⟩,q⟩;dsimp only at h ev hc q;have n5:=h.n5;have few:=sq_few h ev;have mem:=λp (hp:p∈sqF s n)=>sq_mem h ev hp;rw[<-Pm h ev hc.len]at q;show EV E _ [.d<|cY<|sqF s n,.d<|aE<|bF c,.un,.un,.un,.un];generalize sqF s n=L at *;unfold EV;refine cB<|B.C.own_by (xs:=[]) (ρ':=[.d<|cY L,.d<|aE<|bF c,.ow [],.un,.un,.un]) rfl (λP hP=>⟨wp,hP⟩) ?_;dsimp only;refine cB ?_;simp only[bH];refine B.C.for_seq (xs:=L.map gX) (LP.nm_at rfl) ?_;refine uc (λds ρ=>∃F M s3 s4 s5,ds=List.map gX M/\F++M=L/\ρ=[.d<|cY L,.d<|aE<|bF c,.ow<|(F.map λp=>bD p.2 (bF c)*bD p.2 (bF c)).map aN,s3,s4,s5]) ?_ ?_ _ _ ⟨[],L,.un,.un,.un,rfl,rfl,rfl⟩
 .rintro d ds _ ⟨F,M,s3,s4,s5,e,eF,rfl⟩ nx hnx
  cases M with
  |nil=>cases e
  |cons p M=>
  rw[cN]at e;injection e with e1 e2
  subst e1;have mp:=mem p (by rw[<-eF];simp);have Fl:F.length<=5:=by have:=congrArg List.length eF;simp at this;omega
  have dz:=Je mp.1 hc n5;refine⟨rfl,?_⟩;simp only[bL,cV,gN,List.set_cons_succ,List.set_cons_zero];show aH _ _ _ _ [.d<|cY L,.d<|aE<|bF c,.ow _,.d<|aN p.1,.d<|aE p.2,s5];refine cB<|LP.set_by (d:=aN<|bD p.2<|bF c) (ρ':=[.d<|cY L,.d<|aE<|bF c,.ow<|(F.map λp=>bD p.2 (bF c)*bD p.2 (bF c)).map aN,.d<|aN p.1,.d<|aE p.2,.d<|aN<|bD p.2<|bF c]) rfl (λP hP=>?_) ?_
  .ext
   exact⟨((true,true),p.2,bF c),rfl,Bl (a:=337) (b:=18) mp.2.1.r (hc.lf<|wp).sz (by rw[mp.2.1.l];omega),hP⟩
  dsimp only;have eq:Rat.divInt ((bD p.2<|bF c).num*(bD p.2<|bF c).num) (((bD p.2<|bF c).den:Int)*((bD p.2<|bF c).den:Int))=bD p.2 (bF c)*bD p.2 (bF c):=by
   rw[<-uI,uF]
  refine qL (xs:=(F.map λp=>bD p.2 (bF c)*bD p.2 (bF c)).map aN) (d:=aN<|bD p.2 (bF c)*bD p.2 (bF c)) (ρ':=[.d<|cY L,.d<|aE<|bF c,.ow<|((F++[p]).map λp=>bD p.2 (bF c)*bD p.2 (bF c)).map aN,.d<|aN p.1,.d<|aE p.2,.d<|aN<|bD p.2<|bF c]) rfl (lV (show _<=5 by rw[aZ,aZ];exact Fl)<|wp) ?_ (λP hP=>?_) ?_
  .rw[gR,gR];rfl
  .generalize bD p.2 (bF c)=x at dz eq hP
   have b1:Bd x.num:=iB dz.1 wp;have b2:Bd ((x.den:Int)):=iB dz.2 wp;unfold aN;ext;refine⟨_,bY (j:=0) rfl,_,bY (j:=0) rfl,⟨b1,b1⟩,_,bY (j:=1) rfl,_,bY (j:=1) rfl,⟨b2,b2⟩,?_⟩;refine xi (lY (by have:=x.den_nz;omega) (by have:=x.den_nz;omega)) (iB (n:=1058) ?_<|wp) (by rw[eq];exact hP);rw[eh];exact dP (pG dz.2 dz.2) sa
  .exact hnx _ ⟨F++[p],M,_,_,_,e2,by rw[jP];exact eF,rfl⟩
 .rintro _ ⟨F,M,s3,s4,s5,e,eF,rfl⟩
  cases M with
  |cons p M=>cases e
  |nil=>
  rw[qT]at eF;subst eF;dsimp only;refine B.C.pub_by (ρ':=[.d<|cY F,.d<|aE<|bF c,.d<|.lst<|(F.map λp=>bD p.2 (bF c)*bD p.2 (bF c)).map aN,s3,s4,s5]) rfl ?_;unfold cY;ext;refine vc (f:=λp=>aN p.1) _ (λp hp P hP=>hP) .un .un [] (eJ (by simp;omega)) ?_;rw[dG];refine⟨((false,false),F.map (·.1),F.map λp=>bD p.2 (bF c)*bD p.2 (bF c)),by dsimp only[ia];rw[List.map_map,List.map_map];rfl,Bl (a:=337) (b:=1058) (λx hx=>?_) (λx hx=>?_) (by rw[aZ];omega),q⟩
  .obtain⟨p,hp,rfl⟩:=YbT.mp hx
   exact(mem p hp).2.1.w
  .obtain⟨p,hp,rfl⟩:=YbT.mp hx
   have dz:=Je (mem p hp).1 hc n5;exact dz.mul dz
end B.C.Q0.Q3.Y4
namespace B.C.Q0.Q3.Y4
open Q1 (stP stq lsP tl1 tl2)
section
variable{E:RE}{c c' c2:Lb}{v:Mn}
theorem Jk(h:n<=5)(q:∀c,Rw n 17 c->Q (aE<|bF c)):yU [.pen,.int n] E Q:=⟨n,rfl,h,λd ⟨c,hc,e⟩=>by rw[e];exact q c hc⟩
theorem Jl{a b:Rat}(ha:Sz 60 a)(hb:Sz 60 b)(q:Q (aN<|a+b)):yV [aN a,aN b] E Q:=⟨(a,b),rfl,⟨ha,hb⟩,q⟩
theorem PC(h:IsSl s n)(ev:s.reverse=s)(hc:Rw n 18 c)(q:Q (aN<|bA s n (bF c)<|bF c)):Bo [cY<|sqF s n,aE<|bF c] E Q:=⟨((s,n),c),rfl,⟨h,ev,hc⟩,q⟩
theorem mH(h:IsSl s n)(ev:s.reverse=s)(hc:Rw n 18 c)(hc':Rw n 18 c')(q:Q (aN<|bA s n (bF c)<|bF c')):iF [aJ s,aE<|bF c,aE<|bF c'] E Q:=Ze h ev hc.len hc'.len hc.sz hc'.sz q
theorem PD{t:WA}(R:D->RG)(ht:∀P:RF->Prop,(∀x y,R x y->P [x,y])->t E ρ P)(h:∀x y,R x y->N.nx ((ρ.set i<|.d x).set j<|.d y)):ez i j t E N ρ:=ht _ λx y hx=>h x y hx
theorem Zq(hw:∀P:D->Prop,P (.tup xs)->w E ρ P)(h:Zbh g zb E N xs ρ):bS (iS w) g zb E N ρ:=hw _ h
theorem qS{x:D}(hx:eM x 60=true)(h1:∀P:D->Prop,P x->w E ρ P)(h2:∀P:D->Prop,P x->w' E ρ P):∀P:Bool->Prop,P false->wT (w2 (gEq true) w w') E ρ P:=λP hP=>h1 _<|h2 _ (zX hx hP)
theorem Jm{x:D}(hx:eM x 60=true)(h1:∀P:D->Prop,P x->w E ρ P)(h2:∀P:D->Prop,P x->w' E ρ P):∀P:D->Prop,P (.bl true)->w2 (gEq false) w w' E ρ P:=λP hP=>h1 _<|h2 _ (zX hx hP)
theorem f1{a:D}(h1:∀P:D->Prop,P a->w E ρ P)(h:∀P:D->Prop,P d->S [a] E P):∀P:D->Prop,P d->wF S (aC w aA) E ρ P:=λP hP=>h1 _<|h P hP
theorem f2{a b:D}(h1:∀P:D->Prop,P a->w E ρ P)(h2:∀P:D->Prop,P b->w' E ρ P)(h:∀P:D->Prop,P d->S [a,b] E P):∀P:D->Prop,P d->wF S (aC w<|aC w' aA) E ρ P:=λP hP=>h1 _<|h2 _ (h P hP)
theorem f3{a b e:D}{w3:WE}(h1:∀P:D->Prop,P a->w E ρ P)(h2:∀P:D->Prop,P b->w' E ρ P)(h3:∀P:D->Prop,P e->w3 E ρ P)(h:∀P:D->Prop,P d->S [a,b,e] E P):∀P:D->Prop,P d->wF S (aC w<|aC w'<|aC w3 aA) E ρ P:=λP hP=>h1 _<|h2 _ (h3 _<|h P hP)
theorem PH(h:Rw n 17 c)(h':Rw n 17 c')(j:Nat):gq (bF<|lQ c c') j=gq (bF c) j+gq (bF c') j:=by
 show(bF<|lQ c c').getD j 0=(bF c).getD j 0+(bF c').getD j 0;rw[(h.add h').2];have l:=h.len;have l':=h'.len;rcases gx j n with hj|hj
 rw[aW,aW,aW,zm,bP<|tv,bP<|tv];rfl;rw[aW,aW,aW,dX (by rw[g6];omega),dX<|tv,dX<|tv];show(0:Rat)=0+0;rw[km]
theorem PJ(h:IsSl s n)(h1:Rw n 17 c)(h2:Rw n 17 c')(h3:Rw n 18 c2):bA s n (bF<|lQ c c') (bF c2)=bA s n (bF c) (bF c2)+bA s n (bF c') (bF c2):=by rw[jc h (h1.add h2).1.len h3.len,jc h h1.len h3.len,jc h h2.len h3.len];unfold bf;rw[<-ym];exact bV λi _=>by rw[PH h1 h2,Rat.add_mul]
end
theorem PK:Rd ES EW ZdZ:=by
 rintro _ E Q ⟨⟨s,n⟩,rfl,⟨h,ev⟩,q⟩;dsimp only at h ev q;have n5:=h.n5;show EW E _ [.d .pen,.d<|aJ s,.d<|cY<|sqF s n,.un,.un,.un,.un,.un];have sqd:=λ{E:RE} {c:Lb} (hc:Rw n 18 c) (P:RG) (hP:P (aN<|bA s n (bF c)<|bF c))=>PC (E:=E) h ev hc hP;generalize cY (sqF s n)=L at *;unfold EW;refine cB<|LP.set_by (d:=.int n) (ρ':=[.d .pen,.d<|aJ s,.d L,.d<|.int n,.un,.un,.un,.un]) rfl (λP hP=>G.V5.size_w h hP) ?_;dsimp only;refine cB<|PD (λx y=>∃c c',Rw n 17 c/\Rw n 17 c'/\x=aE (bF c)/\y=aE (bF c')) (λP hP=>?_) ?_
 ext;exact Jk n5 λc hc=>Jk n5 λc' hc'=>hP _ _ ⟨c,c',hc,hc',rfl,rfl⟩;rintro _ _ ⟨c,c',hc,hc',rfl,rfl⟩;have ha:=(hc.add hc').1;dsimp only;refine cB<|LP.set_by (d:=aE<|bF<|lQ c c') (ρ':=[.d .pen,.d<|aJ s,.d L,.d<|.int n,.d<|aE<|bF c,.d<|aE<|bF c',.d<|aE<|bF<|lQ c c',.un]) rfl (λP hP=>?_) ?_
 rw[(hc.add hc').2]at hP;unfold aE at hP ⊢;ext;refine DZ (g1:=aN) (g2:=aN) (f:=λx y=>aN<|x+y) (bF c) (bF c') (λx hx y hy Q hq=>?_) .un .un [] (eJ (by rw[hc.len];simp;omega)) ?_;ext;exact Jl (((hc.lf<|wp).sz x hx).mono<|wp) (((hc'.lf<|wp).sz y hy).mono<|wp) hq;rw[dG];ext;rw[vw]at hP;exact hP;dsimp only;have dn:=λ{c c':Lb} (h1:Rw n 18 c) (h2:Rw n 18 c')=>Rw.pr h h1 h2;refine cB ?_;simp only[bH];refine Zq (xs:=[aE<|bF c,aE<|bF<|lQ c c']) (λP hP=>?_) ?_;ext;exact⟨wp,hP⟩;refine Dv (λρ=>∃s7,ρ=[.d .pen,.d<|aJ s,.d L,.d<|.int n,.d<|aE<|bF c,.d<|aE<|bF c',.d<|aE<|bF<|lQ c c',s7]) _ ?_ ?_ _ ⟨_,rfl⟩;rintro d hd _ ⟨s7,rfl⟩ nx hnx;obtain⟨e,he,rfl⟩:∃e,Rw n 18 e/\d=aE (bF e):=by
  simp only[Yan,iu,or_false]at hd;rcases hd with rfl|rfl
  exact⟨c,hc.mono,rfl⟩;exact⟨_,ha,rfl⟩
 refine gp (b:=false) (qS (x:=aN<|bA s n (bF e)<|bF e) (qF _ 59) (f2 (a:=L) (b:=aE<|bF e) (LP.nm_at rfl) (LP.nm_at rfl)<|sqd he)<|f3 (a:=aJ s) (b:=aE<|bF e) (e:=aE<|bF e) (LP.nm_at rfl) (LP.nm_at rfl) (LP.nm_at rfl) λP hP=>mH h ev he he hP) (λe=>nomatch e) λ_=>hnx _ ⟨_,rfl⟩;rintro _ ⟨s7,rfl⟩;dsimp only;refine cB<|gp (b:=false) (qS (x:=aN<|bA s n (bF c)<|bF c') (qF _ 59) (f3 (a:=aJ s) (b:=aE<|bF c) (e:=aE<|bF c') (LP.nm_at rfl) (LP.nm_at rfl) (LP.nm_at rfl) λP hP=>mH h ev hc.mono hc'.mono hP)<|f3 (a:=aJ s) (b:=aE<|bF c') (e:=aE<|bF c) (LP.nm_at rfl) (LP.nm_at rfl) (LP.nm_at rfl) λP hP=>mH h ev hc'.mono hc.mono (by rw[yE h ev hc'.len hc.len];exact hP)) (λe=>nomatch e) λ_=>?_;dsimp only;refine LP.ret_by (Jm (x:=aN<|bA s n (bF<|lQ c c')<|bF c) (qF _ 59) (f3 (a:=aJ s) (b:=aE<|bF<|lQ c c') (e:=aE<|bF c) (LP.nm_at rfl) (LP.nm_at rfl) (LP.nm_at rfl) λP hP=>mH h ev ha hc.mono hP)<|f2 (a:=aN<|bA s n (bF c)<|bF c) (b:=aN<|bA s n (bF c')<|bF c) (f3 (a:=aJ s) (b:=aE<|bF c) (e:=aE<|bF c) (LP.nm_at rfl) (LP.nm_at rfl) (LP.nm_at rfl) λP hP=>mH h ev hc.mono hc.mono hP) (f3 (a:=aJ s) (b:=aE<|bF c') (e:=aE<|bF c) (LP.nm_at rfl) (LP.nm_at rfl) (LP.nm_at rfl) λP hP=>mH h ev hc'.mono hc.mono hP)<|λP hP=>Jl (dn hc.mono hc.mono) (dn hc'.mono hc.mono) (by rw[<-PJ h hc hc' hc.mono];exact hP)) q
end B.C.Q0.Q3.Y4
namespace B.C.Q0.Q3.Y4
open Q1 (stP stq lsP tl1 tl2)
theorem Zg:Rd Bp EY ZdY:=by
 rintro _ E Q ⟨⟨s,n⟩,rfl,⟨h,ev,g⟩,q⟩;dsimp only at h ev g q;have n5:=h.n5;show EY E _ [.d<|aJ s,.un,.un,.un,.un,.un];unfold EY;have okw:eM (.lst<|tl2 s n) 60=true:=Dc λx hx=>by unfold tl2 at hx;obtain⟨p,_,rfl⟩:=YbT.mp hx;exact qF _ _
 have lw:(stq s n).length=n:=by unfold stq;rw[aZ,fh]
 have cl:(fw s n).length=n:=by unfold fw;rw[aZ,fh]
 obtain⟨wc,ws⟩:=Pv h ev g;refine cB<|LP.set_by (d:=.lst<|(fw s n).map .int) (ρ':=[.d<|aJ s,.d<|.lst<|(fw s n).map .int,.un,.un,.un,.un]) rfl (f1 (a:=aJ s) (LP.nm_at rfl) λP hP=>D7 h hP) ?_;dsimp only;refine cB<|LP.set_by (d:=.lst<|tl2 s n) (ρ':=[.d<|aJ s,.d<|.lst<|(fw s n).map .int,.d<|.lst<|tl2 s n,.un,.un,.un]) rfl (f1 (a:=aJ s) (LP.nm_at rfl) λP hP=>⟨(s,n),rfl,⟨h,ev,g⟩,hP⟩) ?_;dsimp only;refine cB<|gp (b:=false) (qS okw (LP.nm_at rfl) λP hP=>?_) (λe=>nomatch e) λ_=>?_
 ext;refine⟨(s,n),rfl,⟨h,ev,g⟩,?_⟩;dsimp only;unfold tl1;refine vc (f:=λp=>aN p.1) (stq s n) (λp hp Q hq=>?_) .un .un [] (eJ (by rw[lw];simp;omega)) ?_;ext;exact hq;rw[dG];exact hP;dsimp only;refine cB ?_;simp only[bH];show Zbh _ _ _ _ (dF 0<|tl2 s n) _;refine Ee (λk ρ=>∃s3 s4,ρ=[.d<|aJ s,.d<|.lst<|(fw s n).map .int,.d<|.lst<|tl2 s n,s3,s4,.un]) _ 0 ?_ ?_ _ ⟨_,_,rfl⟩;rintro k d hd _ ⟨s3,s4,rfl⟩ nx hnx;obtain⟨hk,rfl⟩:k<n/\d=aN (stP s n k).1:=by
  unfold tl2 stq at hd;rw[cJ,cJ]at hd;rcases gx k n with hk|hk
  rw[iN hk]at hd;exact⟨hk,(QW hd).symm⟩;rw[dX (by rw[fh];exact hk)]at hd;cases hd
 obtain⟨we,x0⟩:=Jj h g hk;have wz:Sz 51 (stP s n k).1:=(Sz.div (n:=1) ⟨wp,wp⟩<|Q1.lsP_sz h g hk _<|iK (show(lsP s n k)[k]? = some ((lsP s n k).getD k 0) by rw[aW,bP (by rw[Q1.lsP_len h g hk];omega)];rfl)).mono wp;have xz:(dt (sA s n) k).natAbs<2^46:=by
  cases k with
  |zero=>show(1:Int).natAbs<_;decide
  |succ k=>
   have:=Gs.dt_sz<|iD h (k:=k+1) tv tv;have e:=vj h (k:=k+1) tv tv;unfold bT at e;rw[gW]at e;rw[<-e];have:2^45<2^46:=wp
   omega
 have e0:et ([D.int 1]++(fw s n).map D.int) ((0+k:Nat):Int)=some (.int<|dt (sA s n) k):=by
  refine bY ?_;rw[oE];cases k with
  |zero=>rfl|succ k=>rw[g9,dG,eA,cJ,Bu h<|tv];rfl
 have e1:et ((fw s n).map D.int) ((0+k:Nat):Int)=some (.int<|dt (sA s n)<|k+1):=by refine bY ?_;rw[oE,cJ,Bu h hk];rfl
 refine⟨rfl,?_⟩;simp only[bL,cV,gN,List.set_cons_succ,List.set_cons_zero];show cP _ _ _ _ _ [.d<|aJ s,.d<|.lst<|(fw s n).map .int,.d<|.lst<|tl2 s n,.d<|.int ((0+k:Nat):Int),.d<|aN (stP s n k).1,.un];refine gp (b:=false) (qS (x:=aN ((dt (sA s n) (k+1):Int):Rat)) (qF _ 59) (λP hP=>?_)<|λP hP=>?_) (λe=>nomatch e) λ_=>hnx _ ⟨_,_,rfl⟩;ext;refine⟨wp,wp,by rw[aZ,cl];exact eJ<|tv,_,e0,wp,wp,((false,false),[(stP s n k).1],[((dt (sA s n) k:Int):Rat)]),rfl,⟨51,46,wz,Sz.int _ wp xz,wp,trivial⟩,?_⟩;dsimp only[bD];rw[km,we];exact hP;ext;exact⟨_,e1,wp,hP⟩;rintro _ ⟨s3,s4,rfl⟩;dsimp only;refine cB<|LP.set_by (d:=.int (fO s n (aY s n):Int)) (ρ':=[.d<|aJ s,.d<|.lst<|(fw s n).map .int,.d<|.lst<|tl2 s n,s3,s4,.d<|.int (fO s n (aY s n):Int)]) rfl (λP hP=>?_) ?_
 unfold tl2;ext;refine DC (g:=λp:Pr=>aN p.1) (p:=λp:Pr=>decide (0<p.1)) (stq s n) (λp hp P hP=>?_) .un [] (eJ (by rw[lw];simp;omega)) ?_;ext;exact⟨_,rfl,trivial,by show P (decide (p.1.num>0));rw[Jb];exact hP⟩;rw[dG];show P (.int _);rw[aZ,wc];exact hP;dsimp only;refine LP.ret_by (Jm (x:=pC s n<|aY s n) (zY λx hx=>?_) (f1 (a:=aJ s) (LP.nm_at rfl) λP hP=>Iz h ev hP) λP hP=>?_) q;simp only[Yan,iu,or_false]at hx;rcases hx with rfl|rfl|rfl<;>rw[eM]
 unfold tl2;ext;rw[aZ,lw];unfold pC at hP;rw[(lu h ev).len,show(n:Int)-(fO s n (aY s n):Int)-(je s n (aY s n):Int)=0 by omega,show(je s n (aY s n):Int)=(n:Int)-(fO s n (aY s n):Int) by omega]at hP;exact⟨wp,hP⟩
section
variable{E:RE}
theorem nt{b:Bool}(h:∀P:D->Prop,P (.bl b)->w E ρ P):∀P:Bool->Prop,P (!b)->bW (wT w) E ρ P:=λP hP=>h _ hP
theorem E4{wf:WT}{tail:cS}{Q:RF->Prop}{p:Pr->Bool}:∀(L:List Pr),(∀a∈L,∀P:Bool->Prop,P (p a)->wf No (.d (aN a.1)::.d (aE a.2)::tail) P)->∀(sv sv':SV) (acc:RF),acc.length+L.length<=aO->Q (acc++(L.filter p).map λa=>aN a.1)->lcW (de 2<|bL (gN 0)<|bL (gN 1) cV) wf (wN 0) (L.map gX) (sv::sv'::tail) acc Q
 |[],_,sv,sv',acc,_,hq=>by rw[f6,lcW];simpa using hq
 |a::L,h,sv,sv',acc,hl,hq=>by
  rw[cN,lcW];refine⟨rfl,?_⟩;show wf No (SV.d (aN a.1)::SV.d (aE a.2)::tail) _;rw[dD]at hl;refine h a E1 _ ?_;cases e:p a with
  |true=>rw[ks rfl];refine⟨tv,E4 L (λb hb=>h b<|by simp[hb]) _ _ _ (by rw[dA,kf];omega) ?_⟩;rw[zB e,cN]at hq;rw[jP];exact hq|false=>rw[jx<|wp];refine E4 L (λb hb=>h b<|by simp[hb]) _ _ _ tv ?_;rw[zC (by rw[e];decide)]at hq;exact hq
theorem PM(P:RG)(hP:P (.bl (cT s n).isNone)):∃xs:RF,gw s n=.tup xs/\∃d,et xs 0=some d/\gEq false d (.str "above") P:=by
 unfold gw;cases hn:cT s n with
 |none=>rw[hn]at hP;exact⟨_,rfl,_,rfl,mx sa sa (by rw[show gC (.str "above") (.str "above")=true from sa];exact hP)⟩|some r=>rw[hn]at hP;exact⟨_,rfl,_,rfl,mx sa sa (by rw[show gC (.str "not") (.str "above")=false from sa];exact hP)⟩
theorem E5(b:Bool):eM (.bl b) 60=true:=by rw[eM]
end
theorem PN:Rd yW EZ ZfH:=by
 rintro _ E Q ⟨⟨s,n⟩,rfl,⟨h,ev⟩,q⟩;dsimp only at h ev q;have n5:=h.n5;show EZ E _ [.d .pen,.d<|aJ s,.un,.un,.un];unfold EZ;have few:=sq_few h ev;have rk:=Pp h ev;have sp:=Ps s n;have np:=yZ h ev;have nf:=EJ h ev;have cp:=E2 h ev;have pl:=(lu h ev).len;have cl:(fw s n).length=n:=by unfold fw;rw[aZ,fh]
 obtain⟨⟨k1,k2,k3⟩,hG⟩:=Q1.sq_ok h ev;have ca:=λk=>Pt (k:=k) h ev;refine cB<|LP.set_by (d:=cY<|sqF s n) (ρ':=[.d .pen,.d<|aJ s,.d<|cY<|sqF s n,.un,.un]) rfl (f1 (a:=aJ s) (LP.nm_at rfl) λP hP=>IV h ev hP) ?_;dsimp only;refine cB<|gp (b:=false) (B.C.or_by (b:=false) (c:=false) (nt (b:=true)<|f1 (a:=aJ s) (LP.nm_at rfl) λP hP=>?_)<|B.C.or_by (b:=false) (c:=false) (nt (b:=true)<|f2 (a:=aJ s) (b:=cY<|sqF s n) (LP.nm_at rfl) (LP.nm_at rfl) λP hP=>?_)<|qS (x:=.int ((sqF s n).length:Int)) (by rw[eM]) (λP hP=>?_)<|f1 (a:=aJ s) (LP.nm_at rfl) λP hP=>?_) (λe=>nomatch e) λ_=>?_
 exact xS.ok (aJ s) rfl h.kd (by unfold G0;rw[Zb h];unfold gD;rw[d8,QT ev]) hP;exact xS.ok ((337,s,n),cY<|sqF s n) rfl ⟨h,k1,k2,k3⟩ (by unfold AF;dsimp only;rw[ks ev,hG]) hP;unfold cY;ext;rw[aZ];exact hP;exact F4.u_rank_of h (by rw[show(n:Int)-((dU s n).length:Int)=((sqF s n).length:Int) by omega];exact hP);dsimp only;refine cB<|LP.set_by (d:=.bl (cT s n).isNone) (ρ':=[.d .pen,.d<|aJ s,.d<|cY<|sqF s n,.d<|.bl (cT s n).isNone,.un]) rfl (f1 (a:=aJ s) (LP.nm_at rfl) λP hP=>xS.ok (aJ s) rfl h.kd (IW h ev) hP) ?_;dsimp only;refine cB<|LP.set_by (d:=pC s n<|aY s n) (ρ':=[.d .pen,.d<|aJ s,.d<|cY<|sqF s n,.d<|.bl (cT s n).isNone,.d<|pC s n<|aY s n]) rfl (f1 (a:=aJ s) (LP.nm_at rfl) λP hP=>Iz h ev hP) ?_;dsimp only;have ap:=λ{E:RE} (P:RG) (hP:P (gw s n))=>(xS.ok (aJ s) rfl h.kd (IX h ev) hP:vh [aJ s] E P);have ag:=λ{E:RE} (P:RG) (hP:P (.bl true))=>O7 (E:=E) h ev hP;have pab:=PM (s:=s) (n:=n);generalize hb:(cT s n).isNone=b at *;generalize gw s n=pD at *;refine cB<|gp (b:=false) (B.C.or_by (b:=false) (c:=false) (qS (E5 b) (LP.nm_at rfl) λP hP=>?_)<|qS (E5 b) (LP.nm_at rfl) λP hP=>?_) (λe=>nomatch e) λ_=>?_
 ext;refine D7 h ⟨fw s n,rfl,λz=>by rw[z]at cl;have:=h.n1;simp at cl;omega,λm hm hle=>⟨trivial,?_⟩⟩;show P (.bl<|decide (m>0));rw[show decide (m>0)=b by
  cases b with
  |true=>exact QT (cp.mpr rfl m hm)
  |false=>exact QU λz=>by have:=cp.mp λx hx=>Int.lt_of_lt_of_le z (hle x hx);cases this]
 exact hP;unfold pC;ext;refine⟨wp,?_⟩;show gEq false (aJ [(je s n (aY s n):Int),((aY s n).length:Int)-(fO s n (aY s n):Int)-(je s n (aY s n):Int)]) (aJ [0,0]) P;refine mx (z5 _ _) (z5 _ _) ?_;rw[jx<|wp,G5,show decide ([(je s n (aY s n):Int),((aY s n).length:Int)-(fO s n (aY s n):Int)-(je s n (aY s n):Int)]=[0,0])=b by
  rw[np,Rk];simp only[List.cons.injEq,and_true];omega]
 exact hP;dsimp only;refine cB<|gp (b:=false) (qS (x:=.int (fO s n (aY s n):Int)) (by rw[eM]) (λP hP=>?_)<|λP hP=>?_) (λe=>nomatch e) λ_=>?_
 unfold cY;ext;refine E4 (p:=λp=>decide (0<p.1)) (sqF s n) (λp hp P hP=>?_) .un .un [] (eJ (by simp;omega)) ?_;ext;exact⟨_,rfl,trivial,by show P (decide (p.1.num>0));rw[Jb];exact hP⟩;rw[dG];show P (.int _);rw[aZ,sp];exact hP;unfold pC;ext;exact⟨_,rfl,hP⟩;dsimp only;refine cB<|gp (b:=false) (B.C.or_by (b:=false) (c:=false) (nt (b:=true)<|f2 (a:=aJ s) (b:=pD) (LP.nm_at rfl) (f1 (a:=aJ s) (LP.nm_at rfl) ap) ag)<|qS (E5 b) (λP hP=>?_)<|LP.nm_at rfl) (λe=>nomatch e) λ_=>?_
 ext;refine ap _ ?_;obtain⟨xs,e,d,e1,e2⟩:=pab P hP;rw[e];exact⟨d,e1,e2⟩;dsimp only;refine cB<|gp (b:=false) (λP hP=>?_) (λe=>nomatch e) λ_=>?_
 cases b with
 |false=>ext;exact hP
 |true=>
  unfold pC;ext;refine⟨[(fO s n (aY s n):Int),(je s n (aY s n):Int),((aY s n).length:Int)-(fO s n (aY s n):Int)-(je s n (aY s n):Int)],rfl,?_⟩;rw[show[(fO s n (aY s n):Int),(je s n (aY s n):Int),((aY s n).length:Int)-(fO s n (aY s n):Int)-(je s n (aY s n):Int)].sum=(n:Int) by simp;omega];ext;refine⟨⟨wp,wp,tv,tv⟩,?_⟩;rw[show((n:Int)+1-1).toNat=n by omega];refine li (g:=λk:Nat=>D.int<|1+(k:Int)) (f:=λ_=>.bl true) (List.range n) (λk hk P hP=>?_) .un [] (eJ (by simp;omega)) ⟨(List.range n).map λ_=>true,by rw[dG,List.map_map];rfl,?_⟩;have hk:=Yah.mp hk;obtain⟨c1,c2⟩:=ca (k+1) rfl tv tv;ext;rw[show(1:Int)+(k:Int)=((k+1:Nat):Int) by omega];have hc:=iD h (k:=k+1) tv tv;exact Af h tv tv<|xS.ok (aJ<|cor s n<|k+1) rfl hc.kd (IW hc c1) (by rw[c2];exact hP)
  rw[show((List.range n).map λ_=>true).all id=true by rw[vt,Ybb];intro _ _;rfl];exact hP
 dsimp only;refine LP.ret_by (d:=.bl true) (λP hP=>?_) q;refine B.C.and_by (b:=true) (f3 (E:=E) (a:=.pen) (b:=aJ s) (e:=cY<|sqF s n) (LP.nm_at rfl) (LP.nm_at rfl) (LP.nm_at rfl) λP hP=>⟨(s,n),rfl,⟨h,ev⟩,hP⟩) (λ_=>?_) λe=>nomatch e;ext;refine Ij h ?_;cases hw:lm s n with
 |cons k l=>exact⟨rfl,hP⟩|nil=>refine⟨rfl,?_⟩;have g:=(Gs.wk_stg h).mp hw;exact(⟨(s,n),rfl,⟨h,ev,g⟩,hP⟩:Bp [aJ s] E P)
theorem Jn{E:RE}(h:IsSl s n)(ev:s.reverse=s)(q:Q (.bl true)):yW [.pen,aJ s] E Q:=⟨(s,n),rfl,⟨h,ev⟩,q⟩
theorem PP(h:IsSl s n)(ev:s.reverse=s):(s.take (n-1)++[50]++s.drop n).reverse=s.take (n-1)++[50]++s.drop n:=by
 have hl:=h.len;have n1:=h.n1;have e1:(s.drop n).reverse=s.take (n-1):=by have:=List.take_reverse (xs:=s) (i:=n-1);rw[ev]at this;rw[this,show s.length-(n-1)=n by omega]
 have e2:(s.take<|n-1).reverse=s.drop n:=by rw[<-e1,List.reverse_reverse]
 rw[B4,B4,e1,e2,List.reverse_singleton,jP]
theorem PQ:Rd yX Bt Jh:=by
 rintro _ E Q ⟨xs,rfl,hx,q⟩;dsimp only at hx q;show Bt E _ [.d<|.scr<|xs.map .int,.un,.un,.un,.un];generalize hS:D.scr (xs.map .int)=S;unfold Bt;refine cB ?_;have ec:∃cs:Lb,cL (xs.map D.int) (some 1) (some 5)=cs.map D.int/\cs.length<=63:=by
  refine⟨cL xs (some 1)<|some 5,?_,?_⟩
  .unfold cL
   rw[aZ,kJ,oD]
  .unfold cL
   rw[fZ,iq];omega
 obtain⟨cs,ec,hcs⟩:=ec;simp only[bH];refine B.C.for_seq (xs:=(xs.getD 0 0::cs).map D.int) (λP h=>?_) ?_
 .subst hS
  ext;refine Mc (i:=0) ?_;ext;rw[ec];exact⟨wp,by simp[aO];omega,h⟩
 clear ec hcs;refine Dv (λρ=>∃s1 s2 s3 s4,ρ=[.d S,s1,s2,s3,s4]) _ ?_ ?_ _ ⟨_,_,_,_,rfl⟩
 rotate_left
 .rintro _ ⟨s1,s2,s3,s4,rfl⟩
  exact q
 rintro d hd _ ⟨s1,s2,s3,s4,rfl⟩ nx hnx;obtain⟨c,_,rfl⟩:=YbT.mp hd;clear hd;show aH _ _ _ _ [.d S,.d<|.int c,s2,s3,s4];refine cB<|LP.set_by (d:=.pen) (ρ':=[.d S,.d<|.int c,.d .pen,s3,s4]) (by rfl) (λP h=>?_) ?_
 .ext
  exact Md h
 dsimp only;refine cB<|NM (λd=>∃s n,d=aJ s/\IsSl s n/\s.reverse=s) (λP h=>?_) ?_
 .ext
  exact NC λs n hs he=>h _ ⟨s,n,rfl,hs,he⟩
 rintro _ ⟨s,n,rfl,hs,he⟩;have n1:=hs.n1;have n5:=hs.n5;have hl:=hs.len;dsimp only[List.set_cons_succ,List.set_cons_zero];refine cB<|LP.set_by (d:=.int n) (ρ':=[.d S,.d<|.int c,.d .pen,.d<|aJ s,.d<|.int n]) (by rfl) (λP h=>G.V5.size_w hs h) ?_;dsimp only;refine gp (b:=false) (B.C.or_by (b:=false) (c:=false) (nt (b:=true)<|f2 (a:=.pen) (b:=aJ s) (LP.nm_at rfl) (LP.nm_at rfl) λP hP=>Jn hs he hP)<|nt (b:=true)<|f2 (a:=.pen) (b:=aJ<|s.take (n-1)++[50]++s.drop n) (LP.nm_at rfl) (λP h=>?_) λP hP=>Jn (Pi hs) (PP hs he) hP) (λe=>nomatch e) λ_=>hnx _ ⟨_,_,_,_,rfl⟩;unfold aJ at h ⊢;ext;rw[pT (b:=n-1)<|tv,ub (a:=n) (by rw[aZ];omega),<-kJ,<-oD];refine⟨wp,eJ (by simp;omega),eJ (by simp;omega),?_⟩;simpa using h
abbrev N_rank_of:Rv:=F4.N_rank_of
abbrev ps_rank_of:Rv:=F4.ps_rank_of
abbrev z_rank_of:WS:=F4.z_rank_of
theorem rd_rank_of:Rd S_rank_of z_rank_of N_rank_of:=F4.rd_rank_of
theorem PR{a:Addr}{ns:Lb}(hl:ns.length<=63)(hO:qy H)(hS:SqL K H a (ns.map V.int)):jH K yX [.ref a] H (λv _=>v=.bl true) λ_ _ _=>False:=by
 have rv:∀W:Wd,Reps K W (ns.map V.int) (ns.map D.int):=λW=>by
  clear hl hS;induction ns with
  |nil=>exact .nil|cons n ns ih=>exact .cons (.int n) ih
 have ok:WOk ⟨H,λ_=>False⟩ H:=⟨λ_ _ e=>e,λ_ e=>e.elim⟩;refine⟨[.scr<|ns.map .int],⟨H,λ_=>False⟩,ok,.cons (.scr ?_<|rv _) .nil,ns,rfl,hl,λv W' H' _ r=>?_⟩;rcases hS with(h|h)|h
 rcases hO a with z|⟨o,xs,z⟩
 rw[h]at z;cases z;rw[h]at z;cases z;exact .inl h;exact .inr h;cases r;rfl
def top(i:Nat):Stmt:=PySem.Challenge.pw_slanttables_k44_whole_squares.main.body.getD i<|.Pass ⟨0,0,0,0⟩
structure Bs(K:QR)(mg:K8):Prop where
 aa:aR K mg "is_whole" (top 3)
 ab:aR K mg "is_within" (top 4)
 ac:aR K mg "are_within" (top 5)
 ad:aR K mg "common_divisor" (top 6)
 ae:aR K mg "is_share" (top 7)
 af:aR K mg "is_row_within" (top 8)
 ag:aR K mg "is_row" (top 9)
 ah:aR K mg "share_by" (top 10)
 ai:aR K mg "plus" (top 11)
 aj:aR K mg "minus" (top 12)
 ak:aR K mg "times" (top 13)
 al:aR K mg "by" (top 14)
 am:aR K mg "row_of" (top 15)
 an:aR K mg "one_at" (top 16)
 ao:aR K mg "row_by" (top 17)
 ap:aR K mg "row_less" (top 18)
 aq:aR K mg "sum_of_products" (top 19)
 ar:aR K mg "first_with" (top 21)
 as:aR K mg "without_place" (top 22)
 au:aR K mg "cleared" (top 23)
 av:aR K mg "are_independent" (top 24)
 aw:aR K mg "size_of" (top 36)
 ax:aR K mg "slants_good" (top 37)
 ay:aR K mg "need_slants" (top 38)
 az:aR K mg "table_of" (top 39)
 a0:aR K mg "turned_slants" (top 40)
 a1:aR K mg "corner" (top 41)
 a2:aR K mg "row_good" (top 42)
 a3:aR K mg "share_rows" (top 43)
 a4:aR K mg "times_row" (top 44)
 a5:aR K mg "table_without" (top 46)
 a6:aR K mg "table_number" (top 47)
 a7:aR K mg "number_of" (top 48)
 a8:aR K mg "corner_numbers" (top 49)
 a9:aR K mg "weak_sizes" (top 50)
 ba:aR K mg "first_weak" (top 52)
 bb:aR K mg "need_strong" (top 53)
 bc:aR K mg "first_step" (top 54)
 bd:aR K mg "longer_step" (top 55)
 be:aR K mg "steps_of" (top 56)
 bf:aR K mg "is_even" (top 59)
 bg:aR K mg "need_even" (top 60)
 bh:aR K mg "pair_at" (top 61)
 bi:aR K mg "is_weighed" (top 62)
 bj:aR K mg "left_by" (top 63)
 bk:aR K mg "squares_good" (top 64)
 bl:aR K mg "lead_among" (top 65)
 bm:aR K mg "apart_from" (top 66)
 bn:aR K mg "apart_rows" (top 67)
 bo:aR K mg "squares_of" (top 68)
 bp:aR K mg "step_squares" (top 69)
 bq:aR K mg "steps_weights" (top 70)
 br:aR K mg "is_above" (top 71)
 bs:aR K mg "above_squares_good" (top 72)
 bt:aR K mg "not_above_good" (top 73)
 bu:aR K mg "above_good" (top 74)
 bv:aR K mg "above_paper" (top 75)
 bw:aR K mg "free_row" (top 77)
 bx:aR K mg "free_rows" (top 78)
 bz:aR K mg "free_many" (top 79)
 b0:aR K mg "rank_of" (top 80)
 b1:aR K mg "form_at" (top 82)
 b2:aR K mg "are_apart" (top 83)
 b3:aR K mg "sign_paper_good" (top 84)
 b4:aR K mg "signs_by" (top 85)
 b5:aR K mg "sign_paper" (top 86)
 b6:aR K mg "signs_of" (top 87)
 b7:aR K mg "_law_cell_at" (top 89)
 b8:aR K mg "_law_next" (top 90)
 b9:aR K mg "_law_pen_of" (top 91)
 ca:aR K mg "_law_draw" (top 92)
 cb:aR K mg "_law_gcd" (top 93)
 cd:aR K mg "_law_share" (top 94)
 ce:aR K mg "_law_dot" (top 95)
 cf:aR K mg "_law_slants_of" (top 96)
 cg:aR K mg "_law_even_of" (top 97)
 ch:aR K mg "_law_row_of" (top 98)
 ci:aR K mg "_law_squared" (top 99)
 cj:aR K mg "_law_plus" (top 100)
 ck:aR K mg "_law_pairs_right" (top 101)
 cl:aR K mg "_law_steps_right" (top 102)
 cm:aR K mg "_law_right_of" (top 103)
 cn:aR K mg "law" (top 104)
 co:mg "len" = none
 cp:mg "int" = none
 cq:mg "range" = none
 cr:mg "tuple" = none
 cs:mg "max" = none
 ct:mg "abs" = none
 cu:mg "zip" = none
 cv:mg "bool" = none
 cw:mg "isinstance" = none
 cx:mg "all" = none
 cy:CI mg "GREATEST_SIZE" (5)
 cz:CI mg "LEAST" (-50)
 c0:CI mg "MOST" (50)
 c1:XC K mg "NoSlants"
 c2:XC K mg "NotEven"
 c3:CT K mg "NOUGHT" [(D.int<|0),(D.int<|1)]
 c4:mg "list" = none
 c5:XC K mg "NoRow"
 c6:XC K mg "NoNumber"
 c7:mg "enumerate" = none
 c8:CT K mg "ONE" [(D.int<|1),(D.int<|1)]
 c9:CI mg "MOST_SQUARES" (10)
 da:mg "min" = none
 db:mg "sum" = none
section
variable{P:Program}{w:World}(Z:Bs K mg)
include Z
theorem PU:Fp P w K mg base 1 "_law_cell_at" (Zf6.take 2) Aj:=cD Mf Z.b7 λsc hr hx hw=>aS (dw (du qA (aD 1)<|dq fE Z.co QZ<|Za (aD 0) aF) (aT<|bC<|cE aU (aD 0)<|aD 1) dv)<|aT (bC aL)
theorem Jo:Fp P w K mg base 1 "_law_next" (Zjk.take 1) xh:=cD Mg Z.b8 λsc hr hx hw=>aS (cC 0 (bB rG (bB eE (aD 0) aL) aL) sc)<|aT (bC<|bB rG (bB eE (bB eE (bB ee (aD 0)<|aD 0)<|bB ee aL<|aD 0) aL) aL)
theorem mI:Fp P w K mg base 2 "_law_draw" (Zjl.take 2) kH:=cD Mi Z.ca λsc hr hx hw=>aS (dw (du (cX hr.units) (cE wO (aD 0) aL) aL) (aS (cC 2 (bB rG (cE wO (aD 0) aL)<|aD 1) sc)<|aS (FM 0 0<|bB pR (cE wO (aD 0) aL)<|aD 1)<|aT<|bC<|aD 2) dv)<|aS (FM 0 2<|aM (Jo Z) hr hx<|Za (bB eE (aM (Jo Z) hr hx<|Za (cE wO (aD 0) aL) aF) aL) aF) (aT<|bC<|bB rG (bB pR (cE wO (aD 0) aL) aL)<|aD 1)
theorem PV:Fp P w K mg base 3 "_law_slants_of" (Ze9.take 1) Ar:=cD Mx Z.cf λsc hr hx hw=>aS (cC 1 (bB eE aL<|aM (mI Z) hr hx<|Za (aD 0)<|Za aL aF) sc)<|aS (cC 2 (cE aU (PXL.px<|iU<|Za aL<|Za aL<|Za aL<|Za aL<|Za aL aF)<|aM (mI Z) hr hx<|Za (aD 0)<|Za aL aF) sc) (aS (tQ 3 ["_law_turn"] [0,2] rfl sc (tP Z.cq<|Za (bB iV (bB ee aL<|aD 1) aL) aF) (λ_ _ _=>RI) (λ_ _ _=>fG)<|λ_ _ _=>(bB iV (aM (mI Z) hr cM<|Za (aD 1)<|Za (bB eE (bB ee aL<|aD 2) aL) aF)<|aD 2))<|aS (cC 4 (aM (mI Z) hr hx<|Za (aD 0)<|Za aL aF) sc)<|aS (cC 5 (bB eE aL<|aM (mI Z) hr hx<|Za (aD 0)<|Za aL aF) sc)<|aS (dw (du (cX hr.units) (aD 4) aL) (aT<|qC 3 (FL 3<|Lr (bB ee (iY (aD 3) jI<|gI<|aD 5) aL) jI<|gI<|dq fE Z.co QZ<|Za (aD 3) aF) sc) dv)<|aS (dw (du (cX hr.units) (aD 4) aL) (aT<|FK 3 (bB iV (aD 1) aL)<|cE aU (PXL.px<|iU<|Za aL<|Za (mR mS aL)<|Za aL aF)<|aM (mI Z) hr hx<|Za (aD 0)<|Za aL aF) dv)<|aS (dw (du (cX hr.units) (aD 4) aL) (aT<|Mp 3 3 ["_law_number"] [0] rfl sc (fk<|aD 3) (λ_ _ _=>RI) (λ_ _ _=>fG)<|λ_ _ _=>(bB ee (aD 0)<|Zc C2 Z.cp boot_int<|Za (iR (cX hr.units) (aM (mI Z) hr cM<|Za (aD 1)<|Za aL aF) aL) aF)) dv)<|aS (dw (du Dp (aD 4)<|f8<|Za aL<|Za aL<|Za aL aF) (aT<|qC 3 (FL 3<|Lq (iY (aD 3) jI<|gI<|aD 1)<|CZ<|iY (aD 3) jI<|gI<|bB iV (aD 1) aL) sc) dv)<|iw 3<|aT<|bC<|Zc rH Z.cr Rb<|Za (aD 3) aF)
theorem PY:Fp P w K mg base 4 "_law_even_of" (Zf5.take 1) AJ:=cD NK Z.cg λsc hr hx hw=>aS (cC 1 (aM (PV Z) hr hx<|Za (aD 0) aF) sc)<|aS (cC 2 (bB pR (bB eE (dq fE Z.co QZ<|Za (aD 1) aF) aL) aL) sc) (aS (dw (du (cX hr.units) (aM (mI Z) hr hx<|Za (aD 0)<|Za aL aF) aL) (aT<|cC 1 (bB eE (iY (aD 1) jI<|gI<|bB iV (aD 2) aL)<|f8<|Za aL aF) sc) dv)<|aT<|bC<|bB eE (iY (aD 1) jI<|gI<|aD 2)<|CZ<|iY (aD 1) jI<|gI<|bB iV (aD 2) aL)
theorem P0:Fp P w K mg base 1 "_law_pen_of" (ZgW.take 1) Ak:=cD Mh Z.b9 λsc hr hx hw=>aS (cC 1 (dq (wK rfl) Z.cs boot_max<|Za (aD 0)<|Za (bB iV aL<|aD 0) aF) sc)<|aT (bC<|Ls<|iU<|Za (aD 1)<|Za (Zc C2 Z.cp boot_int<|Za (iR CW (aD 1)<|bB wH aL aL) aF)<|Za (bB rG (aD 1) aL) aF)
theorem P1:Fp P w K mg base 1 "_law_gcd" (Zkb.take 2) Aq:=cD Mv Z.cb λsc hr hx hw=>aS (cC 0 (dq C1 Z.ct boot_abs<|Za (aD 0) aF) sc)<|aS (cC 1 (dq C1 Z.ct boot_abs<|Za (aD 1) aF) sc) (aS (gT<|C8 PassesOwn.never (du (dR hr.units) (aD 1) aL)<|aT<|C7 0 1 sc<|Za (aD 1)<|Za (bB rG (aD 0)<|aD 1) aF)<|aT<|bC<|aD 0)
theorem E6:Fp P w K mg base 2 "_law_share" (ZhQ.take 2) rR:=cD Mw Z.cd λsc hr hx hw=>aS (cC 2 (aM (P1 Z) hr hx<|Za (aD 0)<|Za (aD 1) aF) sc)<|aS (dw (du qA (aD 1) aL) (aT<|cC 2 (mR mS<|aD 2) sc) dv) (aT<|bC<|f8<|Za (bB pR (aD 0)<|aD 2)<|Za (bB pR (aD 1)<|aD 2) aF)
theorem Bv:Fp P w K mg base 3 "_law_dot" (Zkc.take 2) u4:=cD MN Z.ce λsc hr hx hw=>aS (cC 2 aL sc)<|aS (cC 3 aL sc) (aS (gT<|iz PassesOwn.never rfl (uW Z.cu<|Za (aD 0)<|Za (aD 1) aF) (ge rfl<|dc (bQ 4 sc)<|dc (bQ 5 sc) gb)<|aS (cC 2 (bB eE (bB ee (bB ee (aD 2)<|cE aU (aD 4) aL)<|cE aU (aD 5) aL)<|bB ee (bB ee (cE aU (aD 4) aL)<|cE aU (aD 5) aL)<|aD 3) sc)<|aT<|cC 3 (bB ee (bB ee (aD 3)<|cE aU (aD 4) aL)<|cE aU (aD 5) aL) sc)<|aT<|bC<|aM (E6 Z) hr hx<|Za (aD 2)<|Za (aD 3) aF)
theorem Jp:Fp P w K mg base 4 "_law_plus" (Zjj.take 2) yV:=cD Pz Z.cj λsc hr hx hw=>aT<|bC (aM (Bv Z) hr hx<|Za (PXL.px<|iU<|Za (aD 0)<|Za (aD 1) aF)<|Za (PXL.px<|iU<|Za (f8<|Za aL<|Za aL aF)<|Za (f8<|Za aL<|Za aL aF) aF) aF)
theorem Jq:Fp P w K mg base 3 "_law_row_of" (ZgV.take 2) yU:=cD Py Z.ch λsc hr hx hw=>aS (qC 2 (iU aF) sc)<|aS (gT<|iz PassesOwn.never rfl (tP Z.cq<|Za (aD 1) aF) (bQ 3 sc)<|aS (cC 4 (aM (mI Z) hr cM<|Za (aD 0)<|Za (cE aU (PXL.px<|iU<|Za aL<|Za aL<|Za aL aF)<|aM (mI Z) hr cM<|Za (aD 0)<|Za aL aF) aF) sc)<|aT<|uV 2<|aM (E6 Z) hr cM<|Za (bB ee (aD 4)<|bB iV aL<|bB ee aL<|aM (mI Z) hr cM<|Za (aD 0)<|Za aL aF)<|Za (bB eE aL<|aM (mI Z) hr cM<|Za (aD 0)<|Za (cE aU (PXL.px<|iU<|Za aL<|Za aL<|Za aL aF)<|aM (mI Z) hr cM<|Za (aD 0)<|Za aL aF) aF) aF) (iw 2<|aT<|bC<|Zc rH Z.cr Rb<|Za (aD 2) aF)
theorem P2:Fp P w K mg base 4 "_law_squared" (Zf4.take 2) Bo:=cD PB Z.ci λsc hr hx hw=>aS (qC 2 (iU aF) sc)<|aS (gT<|iz PassesOwn.never rfl (fk<|aD 0) (ge rfl<|dc (bQ 3 sc)<|dc (bQ 4 sc) gb)<|aS (cC 5 (aM (Bv Z) hr cM<|Za (aD 4)<|Za (aD 1) aF) sc)<|aT<|uV 2<|aM (E6 Z) hr cM<|Za (bB ee (cE aU (aD 5) aL)<|cE aU (aD 5) aL)<|Za (bB ee (cE aU (aD 5) aL)<|cE aU (aD 5) aL) aF) (iw 2<|aT<|bC<|aM (Bv Z) hr hx<|Za (PXL.px<|f9 ["_law_weight", "_law_line"] [] rfl (fk<|aD 0) (λ_ _ _=>(ge rfl<|dc RI<|dc RI gb)) (λ_ _ _=>fG)<|λ_ _ _=>(aD 0))<|Za (aD 2) aF)
theorem E7:Fp P w K mg base 1 "is_whole" (Zj8.take 1) wW:=cD LF Z.aa λsc hr hx hw=>aT<|bC (pP (dq qB Z.cw Ra<|Za (aD 0)<|Za (qD Z.cp boot_int) aF)<|pO<|KW<|dq qB Z.cw Ra<|Za (aD 0)<|Za (qD Z.cv boot_bool) aF)
theorem Jr:Fp P w K mg base 2 "is_within" (Zjf.take 3) wX:=cD LG Z.ab λsc hr hx hw=>aT<|bC (pP (aM (E7 Z) hr hx<|Za (aD 0) aF)<|pO<|KY kZ kZ (aD 1) (aD 0)<|aD 2)
theorem P3:Fp P w K mg base 3 "are_within" (ZhM.take 3) z6:=cD LH Z.ac λsc hr hx hw=>aT<|bC (pP (dq qB Z.cw Ra<|Za (aD 0)<|Za (qD Z.cr Rb) aF)<|pO<|dq (tO rfl) Z.cx Rt<|Za (PXL.px<|f9 ["number"] [1,2] rfl (fk<|aD 0) (λ_ _ _=>RI) (λ_ _ _=>fG)<|λ_ _ _=>(aM (Jr Z) hr cM<|Za (aD 0)<|Za (aD 1)<|Za (aD 2) aF)) aF)
theorem lR:Fp P w K mg base 1 "size_of" (ZlU.take 1) jR:=cD L3 Z.aw λsc hr hx hw=>aT<|bC (bB pR (bB eE (dq fE Z.co QZ<|Za (aD 0) aF) aL) aL)
theorem P4:Fp P w K mg base 4 "slants_good" (ZgQ.take 1) z9:=cD L4 Z.ax λsc hr hx hw=>aS (dw (PXW.pxt<|kY (gA<|gz<|aM (P3 Z) hr hx<|Za (aD 0)<|Za (AE Z.cz)<|Za (AE Z.c0) aF)<|lK<|du (cX hr.units) (bB rG (dq fE Z.co QZ<|Za (aD 0) aF) aL) aL) (aT<|bC hZ) dv)<|aT (bC<|iR kZ (aM (lR Z) hr hx<|Za (aD 0) aF)<|AE Z.cy)
theorem uz:Fp P w K mg base 5 "need_slants" (ZgS.take 1) mT:=cD L5 Z.ay λsc hr hx hw=>aT<|dw (gA<|gz<|aM (P4 Z) hr hx<|Za (aD 0) aF) (aT<|u0 hw Z.c1) dv
theorem P5:Fp P w K mg base 6 "turned_slants" (ZfD.take 1) Aa:=cD L7 Z.a0 λsc hr hx hw=>aS (lL<|aM (uz Z) hr hx<|Za (aD 0) aF)<|aT (bC<|CZ<|aD 0)
theorem Js:Fp P w K mg base 7 "is_even" (ZlX.take 1) Av:=cD MK Z.bf λsc hr hx hw=>aT<|bC (iR (cX hr.units) (aM (P5 Z) hr hx<|Za (aD 0) aF)<|aD 0)
theorem vk:Fp P w K mg base 8 "need_even" (Zje.take 1) qJ:=cD ML Z.bg λsc hr hx hw=>aT<|dw (gA<|gz<|aM (Js Z) hr hx<|Za (aD 0) aF) (aT<|u0 hw Z.c2) dv
theorem Jt:Fp P w K mg base 1 "common_divisor" (Ze8.take 2) wY:=cD LJ Z.ad λsc hr hx hw=>aS (gT<|C8 PassesOwn.never (du (dR hr.units) (aD 1) aL)<|aT<|C7 0 1 sc<|Za (aD 1)<|Za (bB rG (aD 0)<|aD 1) aF)<|aT (bC<|dq C1 Z.ct boot_abs<|Za (aD 0) aF)
theorem Ju:Fp P w K mg base 2 "is_share" (Zj9.take 1) wZ:=cD LN Z.ae λsc hr hx hw=>aS (dw (PXW.pxt<|kY (gA<|gz<|dq qB Z.cw Ra<|Za (aD 0)<|Za (qD Z.cr Rb) aF)<|lK<|du (dR hr.units) (dq fE Z.co QZ<|Za (aD 0) aF) aL) (aT<|bC hZ) dv)<|aS (C6 (aD 0)<|ge rfl<|dc (bQ 1 sc)<|dc (bQ 2 sc) gb) (aS (dw (PXW.pxt<|kY (gA<|gz<|aM (E7 Z) hr hx<|Za (aD 1) aF)<|lK<|gA<|gz<|aM (E7 Z) hr hx<|Za (aD 2) aF) (aT<|bC hZ) dv)<|aT<|bC<|pP (iR j3 (aD 2) aL)<|pO<|iR (cX hr.units) (aM (Jt Z) hr hx<|Za (aD 1)<|Za (aD 2) aF) aL)
theorem P6:Fp P w K mg base 3 "is_row_within" (ZfG.take 3) z7:=cD LO Z.af λsc hr hx hw=>aS (dw (PXW.pxt<|kY (gA<|gz<|dq qB Z.cw Ra<|Za (aD 0)<|Za (qD Z.cr Rb) aF)<|lK<|gA<|KZ kZ kZ (aD 1) (dq fE Z.co QZ<|Za (aD 0) aF)<|aD 2) (aT<|bC hZ) dv)<|aT (bC<|dq (tO rfl) Z.cx Rt<|Za (PXL.px<|f9 ["part"] [] rfl (fk<|aD 0) (λ_ _ _=>RI) (λ_ _ _=>fG)<|λ_ _ _=>(aM (Ju Z) hr cM<|Za (aD 0) aF)) aF)
theorem Jv:Fp P w K mg base 4 "is_row" (ZnA.take 2) w4:=cD LR Z.ag λsc hr hx hw=>aT<|bC (aM (P6 Z) hr hx<|Za (aD 0)<|Za (aD 1)<|Za (aD 1) aF)
theorem Bw:Fp P w K mg base 6 "row_good" (Zj7.take 2) rO:=cD L9 Z.a2 λsc hr hx hw=>aS (lL<|aM (uz Z) hr hx<|Za (aD 0) aF)<|aT (bC<|aM (Jv Z) hr hx<|Za (aD 1)<|Za (aM (lR Z) hr hx<|Za (aD 0) aF) aF)
theorem Bx:Fp P w K mg base 2 "share_by" (Zj5.take 2) tW:=cD LS Z.ah λsc hr hx hw=>aS (Lo<|du (dR hr.units) (aD 1) aL)<|aS (cC 2 (aM (Jt Z) hr hx<|Za (aD 0)<|Za (aD 1) aF) sc) (aS (dw (du qA (aD 1) aL) (aT<|cC 2 (mR mS<|aD 2) sc) dv)<|aT<|bC<|f8<|Za (bB pR (aD 0)<|aD 2)<|Za (bB pR (aD 1)<|aD 2) aF)
theorem P7:Fp P w K mg base 3 "plus" (ZqW.take 2) z8:=cD LT Z.ai λsc hr hx hw=>aT<|bC (aM (Bx Z) hr hx<|Za (bB eE (bB ee (cE aU (aD 0) aL)<|cE aU (aD 1) aL)<|bB ee (cE aU (aD 1) aL)<|cE aU (aD 0) aL)<|Za (bB ee (cE aU (aD 0) aL)<|cE aU (aD 1) aL) aF)
theorem By:Fp P w K mg base 3 "times" (Zpu.take 2) qH:=cD LU Z.ak λsc hr hx hw=>aT<|bC (aM (Bx Z) hr hx<|Za (bB ee (cE aU (aD 0) aL)<|cE aU (aD 1) aL)<|Za (bB ee (cE aU (aD 0) aL)<|cE aU (aD 1) aL) aF)
theorem Jw:Fp P w K mg base 4 "sum_of_products" (Zek.take 2) w6:=cD LY Z.aq λsc hr hx hw=>aS (cC 2 (j8 Z.c3) sc)<|aS (gT<|iz PassesOwn.never rfl (uW Z.cu<|Za (aD 0)<|Za (aD 1) aF) (ge rfl<|dc (bQ 3 sc)<|dc (bQ 4 sc) gb)<|aT<|cC 2 (aM (P7 Z) hr cM<|Za (aD 2)<|Za (aM (By Z) hr cM<|Za (aD 3)<|Za (aD 4) aF) aF) sc) (aT<|bC<|aD 2)
theorem E9:Fp P w K mg base 1 "row_of" (Znx.take 1) tX:=cD LW Z.am λsc hr hx hw=>aT<|bC (Zc rH Z.cr Rb<|Za (PXL.px<|f9 ["number"] [] rfl (fk<|aD 0) (λ_ _ _=>RI) (λ_ _ _=>fG)<|λ_ _ _=>(f8<|Za (aD 0)<|Za aL aF)) aF)
theorem Jx:Fp P w K mg base 6 "table_of" (Zj1.take 1) w8:=cD L6 Z.az λsc hr hx hw=>aS (lL<|aM (uz Z) hr hx<|Za (aD 0) aF)<|aS (cC 1 (aM (lR Z) hr hx<|Za (aD 0) aF) sc) (aT<|bC<|PXL.px<|f9 ["i"] [0,1] rfl (tP Z.cq<|Za (aD 1) aF) (λ_ _ _=>RI) (λ_ _ _=>fG)<|λ_ _ _=>(PXL.px<|CQ C0 Z.c4 boot_list<|Za (iY (aD 1) (gI<|bB iV (bB iV (aD 2) aL)<|aD 0)<|gI<|bB iV (bB iV (bB ee aL<|aD 2) aL)<|aD 0) aF))
theorem Fa:Fp P w K mg base 7 "share_rows" (ZhG.take 1) tY:=cD Ma Z.a3 λsc hr hx hw=>aT<|bC (PXL.px<|f9 ["numbers"] [] rfl (fk<|aM (Jx Z) hr hx<|Za (aD 0) aF) (λ_ _ _=>RI) (λ_ _ _=>fG)<|λ_ _ _=>(aM (E9 Z) hr cM<|Za (aD 0) aF))
theorem y2:Fp P w K mg base 8 "times_row" (Zjc.take 2) rP:=cD Mb Z.a4 λsc hr hx hw=>aS (dw (gA<|gz<|aM (Bw Z) hr hx<|Za (aD 0)<|Za (aD 1) aF) (aT<|u0 hw Z.c5) dv)<|aT (bC<|Zc rH Z.cr Rb<|Za (PXL.px<|f9 ["line"] [1] rfl (fk<|aM (Fa Z) hr hx<|Za (aD 0) aF) (λ_ _ _=>RI) (λ_ _ _=>fG)<|λ_ _ _=>(aM (Jw Z) hr cM<|Za (aD 0)<|Za (aD 1) aF)) aF)
theorem lS:Fp P w K mg base 9 "pair_at" (ZlV.take 3) iF:=cD MM Z.bh λsc hr hx hw=>aS (lL<|aM (vk Z) hr hx<|Za (aD 0) aF)<|aS (dw (gA<|gz<|aM (Bw Z) hr hx<|Za (aD 0)<|Za (aD 1) aF) (aT<|u0 hw Z.c5) dv) (aT<|bC<|aM (Jw Z) hr hx<|Za (aD 1)<|Za (aM (y2 Z) hr hx<|Za (aD 0)<|Za (aD 2) aF) aF)
theorem P8:Fp P w K mg base 10 "_law_pairs_right" (ZdZ.take 3) ES:=cD PK Z.ck λsc hr hx hw=>aS (cC 3 (bB pR (bB eE (dq fE Z.co QZ<|Za (aD 1) aF) aL) aL) sc)<|aS (C7 4 5 sc<|Za (aM (Jq Z) hr hx<|Za (aD 0)<|Za (aD 3) aF)<|Za (aM (Jq Z) hr hx<|Za (aD 0)<|Za (aD 3) aF) aF) (aS (cC 6 (Zc rH Z.cr Rb<|Za (PXL.px<|f9 ["_law_left", "_law_right"] [] rfl (uW Z.cu<|Za (aD 4)<|Za (aD 5) aF) (λ_ _ _=>(ge rfl<|dc RI<|dc RI gb)) (λ_ _ _=>fG)<|λ_ _ _=>(aM (Jp Z) hr cM<|Za (aD 0)<|Za (aD 1) aF)) aF) sc)<|aS (gT<|iz PassesOwn.never rfl (fk<|f8<|Za (aD 4)<|Za (aD 6) aF) (bQ 7 sc)<|aT<|dw (du (dR hr.units) (aM (P2 Z) hr cM<|Za (aD 2)<|Za (aD 7) aF)<|aM (lS Z) hr cM<|Za (aD 1)<|Za (aD 7)<|Za (aD 7) aF) (aT<|bC hZ) dv)<|aS (dw (du (dR hr.units) (aM (lS Z) hr hx<|Za (aD 1)<|Za (aD 4)<|Za (aD 5) aF)<|aM (lS Z) hr hx<|Za (aD 1)<|Za (aD 5)<|Za (aD 4) aF) (aT<|bC hZ) dv)<|aT<|bC<|iR (cX hr.units) (aM (lS Z) hr hx<|Za (aD 1)<|Za (aD 6)<|Za (aD 4) aF)<|aM (Jp Z) hr hx<|Za (aM (lS Z) hr hx<|Za (aD 1)<|Za (aD 4)<|Za (aD 4) aF)<|Za (aM (lS Z) hr hx<|Za (aD 1)<|Za (aD 5)<|Za (aD 4) aF) aF)
theorem Bz:Fp P w K mg base 6 "corner" (ZnB.take 2) rN:=cD L8 Z.a1 λsc hr hx hw=>aS (lL<|aM (uz Z) hr hx<|Za (aD 0) aF)<|aS (cC 2 (aM (lR Z) hr hx<|Za (aD 0) aF) sc) (aS (dw (gA<|gz<|aM (Jr Z) hr hx<|Za (aD 1)<|Za aL<|Za (aD 2) aF) (aT<|u0 hw Z.c6) dv)<|aT<|bC<|iY (aD 0) (gI<|bB iV (aD 2)<|aD 1)<|gI<|bB iV (bB eE (aD 2)<|aD 1) aL)
theorem y3:Fp P w K mg base 1 "table_without" (ZfE.take 2) AN:=cD N5 Z.a5 λsc hr hx hw=>aT<|bC (PXL.px<|f9 ["row"] [1] rfl (fk<|iY (aD 0) (gI aL) jI) (λ_ _ _=>RI) (λ_ _ _=>fG)<|λ_ _ _=>(bB eE (iY (aD 0) jI<|gI<|aD 1)<|iY (aD 0) (gI<|bB eE (aD 1) aL) jI))
theorem P9:Fp P w K mg base 2 "table_number" uq (lq 0):=u5 (z:=oy λ_=>Dw) (N:=r9) Z.a6 (λsc _ _ _ _ _ _ _ hr hx hw=>(aS (dw (du (cX hr.units) (dq fE Z.co QZ<|Za (aD 0) aF) aL) (aT<|bC aL) dv)<|aS (cC 1 aL sc)<|aS (cC 2 aL sc)<|aS (gT<|iz PassesOwn.never rfl (pV Z.c7<|Za (cE aU (aD 0) aL) aF) (ge rfl<|dc (bQ 3 sc)<|dc (bQ 4 sc) gb)<|aS (u6 1 (bB ee (bB ee (aD 2)<|aD 4) Mm) sc)<|aT<|cC 2 (mR mS<|aD 2) sc)<|aT<|bC<|aD 1)) N6
theorem Qa:Fp P w K mg base 3 "table_number" uq (lq 1):=u5 (z:=oy<|wF<|lq 0) (N:=r9) Z.a6 (λsc _ _ _ _ _ _ _ hr hx hw=>(aS (dw (du (cX hr.units) (dq fE Z.co QZ<|Za (aD 0) aF) aL) (aT<|bC aL) dv)<|aS (cC 1 aL sc)<|aS (cC 2 aL sc)<|aS (gT<|iz PassesOwn.never rfl (pV Z.c7<|Za (cE aU (aD 0) aL) aF) (ge rfl<|dc (bQ 3 sc)<|dc (bQ 4 sc) gb)<|aS (u6 1 (bB ee (bB ee (aD 2)<|aD 4)<|aM (P9 Z) hr cM<|Za (aM (y3 Z) hr cM<|Za (aD 0)<|Za (aD 3) aF) aF) sc)<|aT<|cC 2 (mR mS<|aD 2) sc)<|aT<|bC<|aD 1))<|yv 0
theorem Qb:Fp P w K mg base 4 "table_number" uq (lq 2):=u5 (z:=oy<|wF<|lq 1) (N:=r9) Z.a6 (λsc _ _ _ _ _ _ _ hr hx hw=>(aS (dw (du (cX hr.units) (dq fE Z.co QZ<|Za (aD 0) aF) aL) (aT<|bC aL) dv)<|aS (cC 1 aL sc)<|aS (cC 2 aL sc)<|aS (gT<|iz PassesOwn.never rfl (pV Z.c7<|Za (cE aU (aD 0) aL) aF) (ge rfl<|dc (bQ 3 sc)<|dc (bQ 4 sc) gb)<|aS (u6 1 (bB ee (bB ee (aD 2)<|aD 4)<|aM (Qa Z) hr cM<|Za (aM (y3 Z) hr cM<|Za (aD 0)<|Za (aD 3) aF) aF) sc)<|aT<|cC 2 (mR mS<|aD 2) sc)<|aT<|bC<|aD 1))<|yv 1
theorem Qc:Fp P w K mg base 5 "table_number" uq (lq 3):=u5 (z:=oy<|wF<|lq 2) (N:=r9) Z.a6 (λsc _ _ _ _ _ _ _ hr hx hw=>(aS (dw (du (cX hr.units) (dq fE Z.co QZ<|Za (aD 0) aF) aL) (aT<|bC aL) dv)<|aS (cC 1 aL sc)<|aS (cC 2 aL sc)<|aS (gT<|iz PassesOwn.never rfl (pV Z.c7<|Za (cE aU (aD 0) aL) aF) (ge rfl<|dc (bQ 3 sc)<|dc (bQ 4 sc) gb)<|aS (u6 1 (bB ee (bB ee (aD 2)<|aD 4)<|aM (Qb Z) hr cM<|Za (aM (y3 Z) hr cM<|Za (aD 0)<|Za (aD 3) aF) aF) sc)<|aT<|cC 2 (mR mS<|aD 2) sc)<|aT<|bC<|aD 1))<|yv 2
theorem Qd:Fp P w K mg base 6 "table_number" uq (lq 4):=u5 (z:=oy<|wF<|lq 3) (N:=r9) Z.a6 (λsc _ _ _ _ _ _ _ hr hx hw=>(aS (dw (du (cX hr.units) (dq fE Z.co QZ<|Za (aD 0) aF) aL) (aT<|bC aL) dv)<|aS (cC 1 aL sc)<|aS (cC 2 aL sc)<|aS (gT<|iz PassesOwn.never rfl (pV Z.c7<|Za (cE aU (aD 0) aL) aF) (ge rfl<|dc (bQ 3 sc)<|dc (bQ 4 sc) gb)<|aS (u6 1 (bB ee (bB ee (aD 2)<|aD 4)<|aM (Qc Z) hr cM<|Za (aM (y3 Z) hr cM<|Za (aD 0)<|Za (aD 3) aF) aF) sc)<|aT<|cC 2 (mR mS<|aD 2) sc)<|aT<|bC<|aD 1))<|yv 3
theorem Qe:Fp P w K mg base 7 "table_number" uq (lq 5):=u5 (z:=oy<|wF<|lq 4) (N:=r9) Z.a6 (λsc _ _ _ _ _ _ _ hr hx hw=>(aS (dw (du (cX hr.units) (dq fE Z.co QZ<|Za (aD 0) aF) aL) (aT<|bC aL) dv)<|aS (cC 1 aL sc)<|aS (cC 2 aL sc)<|aS (gT<|iz PassesOwn.never rfl (pV Z.c7<|Za (cE aU (aD 0) aL) aF) (ge rfl<|dc (bQ 3 sc)<|dc (bQ 4 sc) gb)<|aS (u6 1 (bB ee (bB ee (aD 2)<|aD 4)<|aM (Qd Z) hr cM<|Za (aM (y3 Z) hr cM<|Za (aD 0)<|Za (aD 3) aF) aF) sc)<|aT<|cC 2 (mR mS<|aD 2) sc)<|aT<|bC<|aD 1))<|yv 4
theorem Qf:Fp P w K mg base 7 "table_number" uq D3:=Qe Z
theorem Qg:Fp P w K mg base 8 "number_of" (Zjd.take 1) yu:=cD N7 Z.a7 λsc hr hx hw=>aT<|bC (aM (Qf Z) hr hx<|Za (aM (Jx Z) hr hx<|Za (aD 0) aF) aF)
theorem Fb:Fp P w K mg base 9 "corner_numbers" (Ze7.take 1) uo:=cD N9 Z.a8 λsc hr hx hw=>aS (lL<|aM (uz Z) hr hx<|Za (aD 0) aF)<|aT (bC<|PXL.px<|f9 ["size"] [0] rfl (C4 Z.cq<|Za aL<|Za (bB eE (aM (lR Z) hr hx<|Za (aD 0) aF) aL) aF) (λ_ _ _=>RI) (λ_ _ _=>fG)<|λ_ _ _=>(aM (Qg Z) hr cM<|Za (aM (Bz Z) hr cM<|Za (aD 1)<|Za (aD 0) aF) aF))
theorem Fc:Fp P w K mg base 3 "by" (N_by.take 2) mz:=cD xp Z.al λsc hr hx hw=>aT<|bC (aM (Bx Z) hr hx<|Za (bB ee (cE aU (aD 0) aL)<|cE aU (aD 1) aL)<|Za (bB ee (cE aU (aD 0) aL)<|cE aU (aD 1) aL) aF)
theorem BA:Fp P w K mg base 3 "minus" (Zpv.take 2) qG:=cD MB Z.aj λsc hr hx hw=>aT<|bC (aM (Bx Z) hr hx<|Za (bB iV (bB ee (cE aU (aD 0) aL)<|cE aU (aD 1) aL)<|bB ee (cE aU (aD 1) aL)<|cE aU (aD 0) aL)<|Za (bB ee (cE aU (aD 0) aL)<|cE aU (aD 1) aL) aF)
theorem vm:Fp P w K mg base 4 "row_less" (Zj6.take 3) ou:=cD MZ Z.ap λsc hr hx hw=>aT<|bC (Zc rH Z.cr Rb<|Za (PXL.px<|f9 ["left", "right"] [1] rfl (uW Z.cu<|Za (aD 0)<|Za (aD 2) aF) (λ_ _ _=>(ge rfl<|dc RI<|dc RI gb)) (λ_ _ _=>fG)<|λ_ _ _=>(aM (BA Z) hr cM<|Za (aD 0)<|Za (aM (By Z) hr cM<|Za (aD 2)<|Za (aD 1) aF) aF)) aF)
theorem Qh:Fp P w K mg base 10 "apart_from" (ZhO.take 3) A3:=cD OP Z.bm λsc hr hx hw=>aT<|bC (aM (vm Z) hr hx<|Za (aD 1)<|Za (aM (Fc Z) hr hx<|Za (aM (lS Z) hr hx<|Za (aD 0)<|Za (aD 1)<|Za (aD 2) aF)<|Za (aM (lS Z) hr hx<|Za (aD 0)<|Za (aD 2)<|Za (aD 2) aF) aF)<|Za (aD 2) aF)
theorem Jy:Fp P w K mg base 10 "lead_among" (ZhH.take 2) yH:=cD OQ Z.bl λsc hr hx hw=>iw 4<|aS (gT<|iz PassesOwn.never rfl (pV Z.c7<|Za (aD 1) aF) (ge rfl<|dc (bQ 2 sc)<|dc (bQ 3 sc) gb)<|aS (tQ 4 ["other"] [3] rfl sc (fk<|iY (aD 1) (gI<|bB eE (aD 2) aL) jI) (λ_ _ _=>RI) (λ_ _ _=>fG)<|λ_ _ _=>(aM (vm Z) hr cM<|Za (aD 1)<|Za (aM (BA Z) hr cM<|Za (j8 Z.c3)<|Za (j8 Z.c8) aF)<|Za (aD 0) aF))<|iw 4<|aT<|gT<|iz PassesOwn.never rfl (fk<|bB eE (PXL.px<|iU<|Za (aD 3) aF)<|aD 4) (bQ 5 sc)<|aT<|dw (du (dR hr.units) (aM (lS Z) hr cM<|Za (aD 0)<|Za (aD 5)<|Za (aD 5) aF)<|j8 Z.c3) (aT<|bC<|f8<|Za (aD 2)<|Za (aD 5) aF) dv) (aT<|bC tN)
theorem Jz:Fp P w K mg base 2 "one_at" (Znz.take 2) xr:=cD MQ Z.an λsc hr hx hw=>aT<|bC (aM (E9 Z) hr hx<|Za (PXL.px<|f9 ["at"] [0] rfl (tP Z.cq<|Za (aD 1) aF) (λ_ _ _=>RI) (λ_ _ _=>fG)<|λ_ _ _=>(Zc C2 Z.cp boot_int<|Za (iR (cX hr.units) (aD 0)<|aD 1) aF)) aF)
theorem Fd:Fp P w K mg base 11 "apart_rows" (ZhN.take 1) uu:=cD OS Z.bn λsc hr hx hw=>aS (lL<|aM (vk Z) hr hx<|Za (aD 0) aF)<|aS (cC 1 (aM (lR Z) hr hx<|Za (aD 0) aF) sc) (aS (qC 2 (iU aF) sc)<|aS (tQ 3 ["place"] [1] rfl sc (tP Z.cq<|Za (aD 1) aF) (λ_ _ _=>RI) (λ_ _ _=>fG)<|λ_ _ _=>(aM (Jz Z) hr cM<|Za (aD 0)<|Za (aD 1) aF))<|iw 3<|aS (cC 4 (aM (Jy Z) hr hx<|Za (aD 0)<|Za (aD 3) aF) sc)<|iw 3<|aS (gT<|C8 PassesOwn.never (du Ao (aD 4) tN)<|aS (C6 (aD 4)<|ge rfl<|dc (bQ 5 sc)<|dc (bQ 6 sc) gb)<|aS (uV 2<|aD 6)<|iw 3<|aS (tQ 3 ["row"] [0,6] rfl sc (fk<|bB eE (iY (aD 3) jI<|gI<|aD 5)<|iY (aD 3) (gI<|bB eE (aD 5) aL) jI) (λ_ _ _=>RI) (λ_ _ _=>fG)<|λ_ _ _=>(aM (Qh Z) hr cM<|Za (aD 1)<|Za (aD 0)<|Za (aD 2) aF))<|iw 3<|aT<|cC 4 (aM (Jy Z) hr cM<|Za (aD 0)<|Za (aD 3) aF) sc)<|iw 2<|iw 3<|aT<|bC<|bB eE (aD 2)<|aD 3)
theorem Qi:Fp P w K mg base 12 "sign_paper" (ZhF.take 1) EB:=cD OV Z.b5 λsc hr hx hw=>aT<|bC (aM (Fd Z) hr hx<|Za (aD 0) aF)
theorem Qj:Fp P w K mg base 10 "form_at" (ZlY.take 2) A4:=cD OO Z.b1 λsc hr hx hw=>aT<|bC (aM (lS Z) hr hx<|Za (aD 0)<|Za (aD 1)<|Za (aD 1) aF)
theorem Qk:Fp P w K mg base 10 "are_apart" (Zji.take 2) A5:=cD OT Z.b2 λsc hr hx hw=>aT<|bC (dq (tO rfl) Z.cx Rt<|Za (PXL.px<|OH ["at", "row", "other"] [0,1] rfl (pV Z.c7<|Za (aD 1) aF) (λ_ _ _=>(ge rfl<|dc RI<|dc RI gb)) (λ_ _ _=>fG) (λ_ _ _=>(fk<|iY (aD 4) (gI<|bB eE (aD 0) aL) jI)) (λ_ _ _=>RI) (λ_ _ _=>fG)<|λ_ _ _=>(iR (cX hr.units) (aM (lS Z) hr cM<|Za (aD 3)<|Za (aD 1)<|Za (aD 2) aF)<|j8 Z.c3)) aF)
theorem Ql:Fp P w K mg base 1 "first_with" (ZhJ.take 2) Ax:=cD M1 Z.ar λsc hr hx hw=>aS (gT<|iz PassesOwn.never rfl (pV Z.c7<|Za (aD 0) aF) (ge rfl<|dc (bQ 2 sc)<|dc (bQ 3 sc) gb)<|aT<|dw (du (dR hr.units) (cE aU (aD 3)<|aD 1)<|j8 Z.c3) (aT<|bC<|aD 2) dv)<|aT (bC tN)
theorem y4:Fp P w K mg base 4 "row_by" (Zny.take 2) rS:=cD MY Z.ao λsc hr hx hw=>aT<|bC (Zc rH Z.cr Rb<|Za (PXL.px<|f9 ["part"] [1] rfl (fk<|aD 0) (λ_ _ _=>RI) (λ_ _ _=>fG)<|λ_ _ _=>(aM (Fc Z) hr cM<|Za (aD 0)<|Za (aD 1) aF)) aF)
theorem JA:Fp P w K mg base 5 "without_place" (ZfC.take 3) xu:=cD M2 Z.as λsc hr hx hw=>aT<|bC (PXL.px<|f9 ["row"] [1,2] rfl (fk<|aD 0) (λ_ _ _=>RI) (λ_ _ _=>fG)<|λ_ _ _=>(aM (vm Z) hr cM<|Za (aD 0)<|Za (cE aU (aD 0)<|aD 2)<|Za (aD 1) aF))
theorem JB:Fp P w K mg base 6 "cleared" (ZlZ.take 2) xw:=cD M4 Z.au λsc hr hx hw=>aS (cC 2 (PXL.px<|iU aF) sc)<|aS (qC 3 (iU aF) sc) (aS (cC 4 (PXL.px<|CQ C0 Z.c4 boot_list<|Za (aD 0) aF) sc)<|aS (gT<|iz PassesOwn.never rfl (tP Z.cq<|Za (aD 1) aF) (bQ 5 sc)<|aS (cC 6 (aM (Ql Z) hr cM<|Za (aD 4)<|Za (aD 5) aF) sc)<|aT<|dw (du Ao (aD 6) tN) (aS (cC 7 (aM (y4 Z) hr cM<|Za (cE aU (aD 4)<|aD 6)<|Za (cE aU (cE aU (aD 4)<|aD 6)<|aD 5) aF) sc)<|aS (cC 2 (bB eE (aM (JA Z) hr cM<|Za (aD 2)<|Za (aD 7)<|Za (aD 5) aF)<|PXL.px<|iU<|Za (aD 7) aF) sc)<|aS (cC 4 (aM (JA Z) hr cM<|Za (bB eE (iY (aD 4) jI<|gI<|aD 6)<|iY (aD 4) (gI<|bB eE (aD 6) aL) jI)<|Za (aD 7)<|Za (aD 5) aF) sc)<|aT<|uV 3<|aD 5) dv)<|iw 3<|aT<|bC<|f8<|Za (aD 2)<|Za (aD 3) aF)
theorem JC:Fp P w K mg base 7 "are_independent" (Zem.take 2) yG:=cD ON Z.av λsc hr hx hw=>aT<|bC (iR (cX hr.units) (dq fE Z.co QZ<|Za (cE aU (aM (JB Z) hr hx<|Za (aD 0)<|Za (aD 1) aF) aL) aF)<|dq fE Z.co QZ<|Za (aD 0) aF)
theorem Qm:Fp P w K mg base 11 "sign_paper_good" (Zel.take 2) A6:=cD OU Z.b3 λsc hr hx hw=>aS (lL<|aM (vk Z) hr hx<|Za (aD 0) aF)<|aS (cC 2 (aM (lR Z) hr hx<|Za (aD 0) aF) sc) (aS (dw (PXW.pxt<|kY (gA<|gz<|dq qB Z.cw Ra<|Za (aD 1)<|Za (qD Z.c4 boot_list) aF)<|lK<|du (dR hr.units) (dq fE Z.co QZ<|Za (aD 1) aF)<|aD 2) (aT<|bC hZ) dv)<|aS (dw (gA<|gz<|dq (tO rfl) Z.cx Rt<|Za (PXL.px<|f9 ["row"] [0] rfl (fk<|aD 1) (λ_ _ _=>RI) (λ_ _ _=>fG)<|λ_ _ _=>(aM (Bw Z) hr cM<|Za (aD 1)<|Za (aD 0) aF)) aF) (aT<|bC hZ) dv)<|aT<|bC<|pP (aM (JC Z) hr hx<|Za (aD 1)<|Za (aD 2) aF)<|pO<|aM (Qk Z) hr hx<|Za (aD 0)<|Za (aD 1) aF)
theorem Qn:Fp P w K mg base 12 "signs_by" (Zj4.take 2) A7:=cD OW Z.b4 λsc hr hx hw=>aS (dw (gA<|gz<|aM (Qm Z) hr hx<|Za (aD 0)<|Za (aD 1) aF) (aT<|u0 hw Z.c5) dv)<|aS (tQ 2 ["row"] [0] rfl sc (fk<|aD 1) (λ_ _ _=>RI) (λ_ _ _=>fG)<|λ_ _ _=>(cE aU (aM (Qj Z) hr cM<|Za (aD 1)<|Za (aD 0) aF) aL)) (iw 2<|aS (cC 3 (dq fE Z.co QZ<|Za (PXL.px<|f9 ["top"] [] rfl (fk<|aD 2) (λ_ _ _=>RI) (λ_ _ _=>(Zh<|du j3 (aD 0) aL))<|λ_ _ _=>(aD 0)) aF) sc)<|iw 2<|aS (cC 4 (dq fE Z.co QZ<|Za (PXL.px<|f9 ["top"] [] rfl (fk<|aD 2) (λ_ _ _=>RI) (λ_ _ _=>(Zh<|du qA (aD 0) aL))<|λ_ _ _=>(aD 0)) aF) sc)<|iw 2<|aT<|bC<|f8<|Za (aD 3)<|Za (aD 4)<|Za (bB iV (bB iV (dq fE Z.co QZ<|Za (aD 2) aF)<|aD 3)<|aD 4) aF)
theorem JD:Fp P w K mg base 13 "signs_of" (Zj3.take 1) yI:=cD OX Z.b6 λsc hr hx hw=>aT<|bC (aM (Qn Z) hr hx<|Za (aD 0)<|Za (aM (Qi Z) hr hx<|Za (aD 0) aF) aF)
theorem Qo:Fp P w K mg base 7 "first_step" (ZhL.take 1) AU:=cD Ov Z.bc λsc hr hx hw=>aS (cC 1 (aM (y4 Z) hr hx<|Za (f8<|Za (j8 Z.c8) aF)<|Za (cE aU (aM (E9 Z) hr hx<|Za (aM (Bz Z) hr hx<|Za (aD 0)<|Za aL aF) aF) aL) aF) sc)<|aT (bC<|f8<|Za (aD 1)<|Za (aD 1) aF)
theorem Qp:Fp P w K mg base 9 "longer_step" (ZgT.take 2) AV:=cD Ow Z.bd λsc hr hx hw=>aS (cC 2 (bB eE (cE aU (aD 1) aL)<|f8<|Za (j8 Z.c3) aF) sc)<|aS (cC 3 (bB eE (f8<|Za (j8 Z.c3) aF)<|cE aU (aD 1) aL) sc) (aS (cC 4 (cE aU (aM (y2 Z) hr hx<|Za (aD 0)<|Za (aD 2) aF)<|mR mS aL) sc)<|aS (cC 5 (cE aU (aM (y2 Z) hr hx<|Za (aD 0)<|Za (aD 3) aF) aL) sc)<|aS (cC 6 (aM (BA Z) hr hx<|Za (j8 Z.c8)<|Za (aM (By Z) hr hx<|Za (aD 4)<|Za (aD 5) aF) aF) sc)<|aT<|bC<|f8<|Za (aM (y4 Z) hr hx<|Za (aM (vm Z) hr hx<|Za (aD 2)<|Za (aD 4)<|Za (aD 3) aF)<|Za (aD 6) aF)<|Za (aM (y4 Z) hr hx<|Za (aM (vm Z) hr hx<|Za (aD 3)<|Za (aD 5)<|Za (aD 2) aF)<|Za (aD 6) aF) aF)
theorem Qq:Fp P w K mg base 10 "weak_sizes" (ZhD.take 1) AO:=cD Ob Z.a9 λsc hr hx hw=>aT<|bC (PXL.px<|f9 ["size", "number"] [] rfl (NV Z.c7<|Za (aM (Fb Z) hr hx<|Za (aD 0) aF) aF) (λ_ _ _=>(ge rfl<|dc RI<|dc RI gb)) (λ_ _ _=>(Zh<|du (cX hr.units) (aD 1) aL))<|λ_ _ _=>(aD 0))
theorem JE:Fp P w K mg base 11 "first_weak" (ZhK.take 1) yy:=cD Os Z.ba λsc hr hx hw=>aS (cC 1 (aM (Qq Z) hr hx<|Za (aD 0) aF) sc)<|aT (bC<|wG (du j3 (dq fE Z.co QZ<|Za (aD 1) aF) aL) (cE aU (aD 1) aL) tN)
theorem Qr:Fp P w K mg base 12 "need_strong" (ZgR.take 1) AT:=cD Ot Z.bb λsc hr hx hw=>aS (cC 1 (aM (JE Z) hr hx<|Za (aD 0) aF) sc)<|aT (dw (du Ao (aD 1) tN) (aT Li) dv)
theorem Qs:Fp P w K mg base 13 "steps_of" (Zj2.take 1) AW:=cD Oz Z.be λsc hr hx hw=>aS (lL<|aM (Qr Z) hr hx<|Za (aD 0) aF)<|aS (qC 1 (iU<|Za (aM (Qo Z) hr hx<|Za (aD 0) aF) aF) sc) (aS (gT<|iz PassesOwn.never rfl (C4 Z.cq<|Za aL<|Za (bB eE (aM (lR Z) hr cM<|Za (aD 0) aF) aL) aF) (bQ 2 sc)<|aT<|uV 1<|Lp 1<|aM (Qp Z) hr cM<|Za (aM (Bz Z) hr cM<|Za (aD 0)<|Za (aD 2) aF)<|Za (cE aU (aD 1)<|mR mS aL) aF)<|iw 1<|aT<|bC<|aD 1)
theorem JF:Fp P w K mg base 14 "step_squares" (Zf2.take 1) Bm:=cD Pw Z.bp λsc hr hx hw=>aS (lL<|aM (vk Z) hr hx<|Za (aD 0) aF)<|aS (cC 1 (aM (lR Z) hr hx<|Za (aD 0) aF) sc) (aS (tQ 2 ["step"] [] rfl sc (fk<|aM (Qs Z) hr hx<|Za (aD 0) aF) (λ_ _ _=>RI) (λ_ _ _=>fG)<|λ_ _ _=>(cE aU (aD 0) aL))<|iw 2<|aT<|bC<|PXL.px<|f9 ["row"] [0,1] rfl (fk<|aD 2) (λ_ _ _=>RI) (λ_ _ _=>fG)<|λ_ _ _=>(f8<|Za (aM (Fc Z) hr cM<|Za (j8 Z.c8)<|Za (cE aU (aD 0)<|mR mS aL) aF)<|Za (aM (y2 Z) hr cM<|Za (aD 1)<|Za (bB eE (aD 0)<|bB Dl (f8<|Za (j8 Z.c3) aF)<|bB iV (aD 2)<|dq fE Z.co QZ<|Za (aD 0) aF) aF) aF))
theorem Qt:Fp P w K mg base 15 "steps_weights" (ZfF.take 1) ER:=cD Px Z.bq λsc hr hx hw=>aT<|bC (PXL.px<|f9 ["weight", "row"] [] rfl (fk<|aM (JF Z) hr hx<|Za (aD 0) aF) (λ_ _ _=>(ge rfl<|dc RI<|dc RI gb)) (λ_ _ _=>fG)<|λ_ _ _=>(aD 0))
theorem Qu:Fp P w K mg base 16 "_law_steps_right" (ZdY.take 1) Bp:=cD Zg Z.cl λsc hr hx hw=>aS (cC 1 (aM (Fb Z) hr hx<|Za (aD 0) aF) sc)<|aS (cC 2 (aM (Qt Z) hr hx<|Za (aD 0) aF) sc) (aS (dw (du (dR hr.units) (aD 2)<|PXL.px<|f9 ["_law_weight", "_law_row"] [] rfl (fk<|aM (JF Z) hr hx<|Za (aD 0) aF) (λ_ _ _=>(ge rfl<|dc RI<|dc RI gb)) (λ_ _ _=>fG)<|λ_ _ _=>(aD 0)) (aT<|bC hZ) dv)<|aS (gT<|iz PassesOwn.never rfl (pV Z.c7<|Za (aD 2) aF) (ge rfl<|dc (bQ 3 sc)<|dc (bQ 4 sc) gb)<|aT<|dw (du (dR hr.units) (aM (Bv Z) hr cM<|Za (PXL.px<|iU<|Za (aD 4) aF)<|Za (PXL.px<|iU<|Za (f8<|Za (cE aU (bB eE (PXL.px<|iU<|Za aL aF)<|aD 1)<|aD 3)<|Za aL aF) aF) aF)<|f8<|Za (cE aU (aD 1)<|aD 3)<|Za aL aF) (aT<|bC hZ) dv)<|aS (cC 5 (dq fE Z.co QZ<|Za (PXL.px<|f9 ["_law_weight"] [] rfl (fk<|aD 2) (λ_ _ _=>RI) (λ_ _ _=>(Zh<|du j3 (cE aU (aD 0) aL) aL))<|λ_ _ _=>(aD 0)) aF) sc)<|aT<|bC<|iR (cX hr.units) (aM (JD Z) hr hx<|Za (aD 0) aF)<|f8<|Za (aD 5)<|Za (bB iV (dq fE Z.co QZ<|Za (aD 2) aF)<|aD 5)<|Za aL aF)
theorem Qv:Fp P w K mg base 5 "is_weighed" (ZhI.take 2) AG:=cD NE Z.bi λsc hr hx hw=>aS (dw (PXW.pxt<|kY (gA<|gz<|dq qB Z.cw Ra<|Za (aD 0)<|Za (qD Z.cr Rb) aF)<|lK<|du (dR hr.units) (dq fE Z.co QZ<|Za (aD 0) aF) aL) (aT<|bC hZ) dv)<|aT (bC<|pP (aM (Ju Z) hr hx<|Za (cE aU (aD 0) aL) aF)<|pP (iR (dR hr.units) (cE aU (aD 0) aL)<|j8 Z.c3)<|pO<|aM (Jv Z) hr hx<|Za (cE aU (aD 0) aL)<|Za (aD 1) aF)
theorem Qw:Fp P w K mg base 8 "left_by" (ZlW.take 2) AH:=cD NF Z.bj λsc hr hx hw=>aS (cC 2 (aM (Fa Z) hr hx<|Za (aD 0) aF) sc)<|iw 2 (aS (gT<|iz PassesOwn.never rfl (fk<|aD 1) (ge rfl<|dc (bQ 3 sc)<|dc (bQ 4 sc) gb)<|iw 2<|aT<|tQ 2 ["row", "share"] [3,4] rfl sc (uW Z.cu<|Za (aD 2)<|Za (aD 4) aF) (λ_ _ _=>(ge rfl<|dc RI<|dc RI gb)) (λ_ _ _=>fG)<|λ_ _ _=>(aM (vm Z) hr cM<|Za (aD 0)<|Za (aM (By Z) hr cM<|Za (aD 2)<|Za (aD 1) aF)<|Za (aD 3) aF))<|iw 2<|aT<|bC<|aD 2)
theorem JG:Fp P w K mg base 9 "squares_good" (Zf3.take 2) AI:=cD NJ Z.bk λsc hr hx hw=>aS (lL<|aM (vk Z) hr hx<|Za (aD 0) aF)<|aS (cC 2 (aM (lR Z) hr hx<|Za (aD 0) aF) sc) (aS (dw (PXW.pxt<|kY (gA<|gz<|dq qB Z.cw Ra<|Za (aD 1)<|Za (qD Z.c4 boot_list) aF)<|lK<|du j3 (dq fE Z.co QZ<|Za (aD 1) aF)<|AE Z.c9) (aT<|bC hZ) dv)<|aS (dw (gA<|gz<|dq (tO rfl) Z.cx Rt<|Za (PXL.px<|f9 ["part"] [2] rfl (fk<|aD 1) (λ_ _ _=>RI) (λ_ _ _=>fG)<|λ_ _ _=>(aM (Qv Z) hr cM<|Za (aD 0)<|Za (aD 1) aF)) aF) (aT<|bC hZ) dv)<|aT<|bC<|iR (cX hr.units) (aM (Qw Z) hr hx<|Za (aD 0)<|Za (aD 1) aF)<|bB ee (PXL.px<|iU<|Za (bB Dl (f8<|Za (j8 Z.c3) aF)<|aD 2) aF)<|aD 2)
theorem Qx:Fp P w K mg base 10 "above_squares_good" (Zdd.take 2) Bf:=cD Pf Z.bs λsc hr hx hw=>aS (cC 2 (aM (lR Z) hr hx<|Za (aD 0) aF) sc)<|aS (dw (PXW.pxt<|kY (gA<|gz<|aM (JG Z) hr hx<|Za (aD 0)<|Za (aD 1) aF)<|lK<|du (dR hr.units) (dq fE Z.co QZ<|Za (aD 1) aF)<|aD 2) (aT<|bC hZ) dv) (aS (cC 3 (dq (tO rfl) Z.cx Rt<|Za (PXL.px<|f9 ["weight", "row"] [] rfl (fk<|aD 1) (λ_ _ _=>(ge rfl<|dc RI<|dc RI gb)) (λ_ _ _=>fG)<|λ_ _ _=>(iR j3 (cE aU (aD 0) aL) aL)) aF) sc)<|aT<|bC<|pP (aD 3)<|pO<|aM (JC Z) hr hx<|Za (PXL.px<|f9 ["weight", "row"] [] rfl (fk<|aD 1) (λ_ _ _=>(ge rfl<|dc RI<|dc RI gb)) (λ_ _ _=>fG)<|λ_ _ _=>(aD 1))<|Za (aD 2) aF)
theorem Qy:Fp P w K mg base 10 "not_above_good" (Ze6.take 2) Bg:=cD Pg Z.bt λsc hr hx hw=>aS (dw (PXW.pxt<|kY (gA<|gz<|aM (Bw Z) hr hx<|Za (aD 0)<|Za (aD 1) aF)<|lK<|du (cX hr.units) (aD 1)<|bB Dl (f8<|Za (j8 Z.c3) aF)<|aM (lR Z) hr hx<|Za (aD 0) aF) (aT<|bC hZ) dv)<|aT (bC<|iR kZ (cE aU (aM (lS Z) hr hx<|Za (aD 0)<|Za (aD 1)<|Za (aD 1) aF) aL) aL)
theorem Qz:Fp P w K mg base 11 "above_good" (ZhP.take 2) Bh:=cD Ph Z.bu λsc hr hx hw=>aS (lL<|aM (vk Z) hr hx<|Za (aD 0) aF)<|aS (dw (PXW.pxt<|kY (gA<|gz<|dq qB Z.cw Ra<|Za (aD 1)<|Za (qD Z.cr Rb) aF)<|lK<|du (dR hr.units) (dq fE Z.co QZ<|Za (aD 1) aF) aL) (aT<|bC hZ) dv) (aS (dw (du (cX hr.units) (cE aU (aD 1) aL) uS) (aT<|bC<|aM (Qx Z) hr hx<|Za (aD 0)<|Za (cE aU (aD 1) aL) aF) dv)<|aT<|bC<|pP (iR (cX hr.units) (cE aU (aD 1) aL) uS)<|pO<|aM (Qy Z) hr hx<|Za (aD 0)<|Za (cE aU (aD 1) aL) aF)
theorem JH:Fp P w K mg base 12 "squares_of" (ZhE.take 1) yP:=cD O9 Z.bo λsc hr hx hw=>aS (qC 1 (iU aF) sc)<|aS (gT<|iz PassesOwn.never rfl (fk<|aM (Fd Z) hr cM<|Za (aD 0) aF) (bQ 2 sc)<|aS (cC 3 (aM (lS Z) hr cM<|Za (aD 0)<|Za (aD 2)<|Za (aD 2) aF) sc)<|aT<|dw (du (dR hr.units) (aD 3)<|j8 Z.c3) (aT<|uV 1<|f8<|Za (aD 3)<|Za (aM (y4 Z) hr cM<|Za (aM (y2 Z) hr cM<|Za (aD 0)<|Za (aD 2) aF)<|Za (aD 3) aF) aF) dv) (iw 1<|aT<|bC<|aD 1)
theorem Fe:Fp P w K mg base 13 "above_paper" (ZgU.take 1) vh:=cD Pb Z.bv λsc hr hx hw=>aS (iz PassesOwn.leaving rfl (fk<|aM (Fd Z) hr hx<|Za (aD 0) aF) (bQ 1 sc)<|aT<|dw (du kZ (cE aU (aM (lS Z) hr hx<|Za (aD 0)<|Za (aD 1)<|Za (aD 1) aF) aL) aL) (aT<|bC<|f8<|Za uS<|Za (aD 1) aF) dv)<|aT (bC<|f8<|Za uS<|Za (aM (JH Z) hr hx<|Za (aD 0) aF) aF)
theorem JI:Fp P w K mg base 14 "is_above" (Zk.take 1) Be:=cD Pc Z.br λsc hr hx hw=>aT<|bC (iR (cX hr.units) (cE aU (aM (Fe Z) hr hx<|Za (aD 0) aF) aL) uS)
theorem QA:Fp P w K mg base 4 "free_row" (Zka.take 4) Ay:=cD M9 Z.bw λsc hr hx hw=>aS (qC 4 (CQ C0 Z.c4 boot_list<|Za (aM (Jz Z) hr hx<|Za (aD 0)<|Za (aD 1) aF) aF) sc)<|aS (gT<|iz PassesOwn.never rfl (uW Z.cu<|Za (aD 2)<|Za (aD 3) aF) (ge rfl<|dc (bQ 5 sc)<|dc (bQ 6 sc) gb)<|aT<|FK 4 (aD 6)<|aM (BA Z) hr cM<|Za (j8 Z.c3)<|Za (cE aU (aD 5)<|aD 0) aF) (iw 4<|aT<|bC<|Zc rH Z.cr Rb<|Za (aD 4) aF)
theorem QC:Fp P w K mg base 8 "free_rows" (Zjg.take 1) xy:=cD Nb Z.bx λsc hr hx hw=>aS (lL<|aM (uz Z) hr hx<|Za (aD 0) aF)<|aS (cC 1 (aM (lR Z) hr hx<|Za (aD 0) aF) sc) (aS (C6 (aM (JB Z) hr hx<|Za (aM (Fa Z) hr hx<|Za (aD 0) aF)<|Za (aD 1) aF)<|ge rfl<|dc (bQ 2 sc)<|dc (bQ 3 sc) gb)<|aT<|bC<|PXL.px<|f9 ["place"] [1,2,3] rfl (tP Z.cq<|Za (aD 1) aF) (λ_ _ _=>RI) (λ_ _ _=>(Zh<|du xg (aD 0)<|aD 3))<|λ_ _ _=>(aM (QA Z) hr cM<|Za (aD 0)<|Za (aD 1)<|Za (aD 2)<|Za (aD 3) aF))
theorem QD:Fp P w K mg base 9 "free_many" (Zjh.take 1) AA:=cD Nf Z.bz λsc hr hx hw=>aT<|bC (dq fE Z.co QZ<|Za (aM (QC Z) hr hx<|Za (aD 0) aF) aF)
theorem QE:Fp P w K mg base 10 "rank_of" ps_rank_of S_rank_of:=cD rd_rank_of Z.b0 λsc hr hx hw=>aS (lL<|aM (uz Z) hr hx<|Za (aD 0) aF)<|aT (bC<|bB iV (aM (lR Z) hr hx<|Za (aD 0) aF)<|aM (QD Z) hr hx<|Za (aD 0) aF)
theorem JJ:Fp P w K mg base 17 "_law_right_of" (ZfH.take 2) yW:=cD PN Z.cm λsc hr hx hw=>aS (cC 2 (aM (JH Z) hr hx<|Za (aD 1) aF) sc)<|aS (dw (PXW.pxt<|kY (gA<|gz<|aM (Js Z) hr hx<|Za (aD 1) aF)<|kY (gA<|gz<|aM (JG Z) hr hx<|Za (aD 1)<|Za (aD 2) aF)<|lK<|du (dR hr.units) (dq fE Z.co QZ<|Za (aD 2) aF)<|aM (QE Z) hr hx<|Za (aD 1) aF) (aT<|bC hZ) dv) (aS (cC 3 (aM (JI Z) hr hx<|Za (aD 1) aF) sc)<|aS (cC 4 (aM (JD Z) hr hx<|Za (aD 1) aF) sc)<|aS (dw (PXW.pxt<|kY (du (dR hr.units) (aD 3)<|iR j3 (dq (O2 rfl) Z.da Mz<|Za (aM (Fb Z) hr hx<|Za (aD 1) aF) aF) aL)<|lK<|du (dR hr.units) (aD 3)<|iR (cX hr.units) (iY (aD 4) (gI aL) jI)<|f8<|Za aL<|Za aL aF) (aT<|bC hZ) dv)<|aS (dw (du (dR hr.units) (dq fE Z.co QZ<|Za (PXL.px<|f9 ["_law_weight", "_law_row"] [] rfl (fk<|aD 2) (λ_ _ _=>(ge rfl<|dc RI<|dc RI gb)) (λ_ _ _=>(Zh<|du j3 (cE aU (aD 0) aL) aL))<|λ_ _ _=>(aD 0)) aF)<|cE aU (aD 4) aL) (aT<|bC hZ) dv)<|aS (dw (PXW.pxt<|kY (gA<|gz<|aM (Qz Z) hr hx<|Za (aD 1)<|Za (aM (Fe Z) hr hx<|Za (aD 1) aF) aF)<|lK<|du (dR hr.units) (iR (cX hr.units) (cE aU (aM (Fe Z) hr hx<|Za (aD 1) aF) aL) uS)<|aD 3) (aT<|bC hZ) dv)<|aS (dw (PXW.pxt<|KU (gz<|aD 3)<|KS<|gA<|gz<|dq (tO rfl) Z.cx Rt<|Za (PXL.px<|f9 ["_law_size"] [1] rfl (C4 Z.cq<|Za aL<|Za (bB eE (dq (Po rfl) Z.db My<|Za (aD 4) aF) aL) aF) (λ_ _ _=>RI) (λ_ _ _=>fG)<|λ_ _ _=>(aM (JI Z) hr cM<|Za (aM (Bz Z) hr cM<|Za (aD 1)<|Za (aD 0) aF) aF)) aF) (aT<|bC hZ) dv)<|aT<|bC<|pP (aM (P8 Z) hr hx<|Za (aD 0)<|Za (aD 1)<|Za (aD 2) aF)<|pO<|wE (iR Ao (aM (JE Z) hr hx<|Za (aD 1) aF) tN)<|pO<|aM (Qu Z) hr hx<|Za (aD 1) aF)
theorem all_mk{l:PySem.W.OpenLaw}(hfa:mg "law" = some (.ref fa)):∃fd:FuncData,(∀(s:Shared) (v:Value),BindsTo s fd ⟨[v],[]⟩ [("_law_script",v)])/\∀base:Heap,K.In base->base.Ns mainGlobals mg->gF l.prog w K mg base (fM l.prog w) 18 fa fd ["_law_script"] (jH K yX):=
 Nx (z:=Bt) (N:=Jh) Z.cn hfa (λ_ sc _ _ _ _ _ _ _ hr hx hw=>(aS (gT<|iz PassesOwn.never rfl (fk<|bB eE (PXL.px<|iU<|Za (aM (PU Z) hr cM<|Za (aD 0)<|Za aL aF) aF)<|iY (aD 0) (gI aL)<|gI aL) (bQ 1 sc)<|aS (cC 2 (aM (P0 Z) hr cM<|Za (aD 1) aF) sc)<|aS (cC 3 (aM (PY Z) hr cM<|Za (aD 2) aF) sc)<|aS (cC 4 (bB pR (bB eE (dq fE Z.co QZ<|Za (aD 3) aF) aL) aL) sc)<|aT<|dw (PXW.pxt<|kY (gA<|gz<|aM (JJ Z) hr cM<|Za (aD 2)<|Za (aD 3) aF)<|lK<|gA<|gz<|aM (JJ Z) hr cM<|Za (aD 2)<|Za (bB eE (bB eE (iY (aD 3) jI<|gI<|bB iV (aD 4) aL)<|f8<|Za aL aF)<|iY (aD 3) (gI<|aD 4) jI) aF) (aT<|bC hZ) dv)<|aT<|bC hZ)) PQ
end
theorem walk{l:PySem.W.OpenLaw}{q:Program}{loose:Rv}{d:DefRec}{K:Params->QR}(hn:l.most=some 63)(hdf:d.params.defaults=[])
  (hY:∀(w:World) (h:Heap),YP w h->(K w.params).In h)
  (F:∀ (w:World) (mg:K8) (fa:Addr) (h:Heap),(K w.params).In h->h.Ns mainGlobals mg->mg d.name=some (.ref fa)->
   ∃fd:FuncData,(∀(s:Shared) (u:Value),BindsTo s fd ⟨[u],[]⟩ [("_law_script",u)])/\∀base:Heap,(K w.params).In base->base.Ns mainGlobals mg->gF l.prog w (K w.params) mg base (fM l.prog w) 18 fa fd ["_law_script"] (jH (K w.params) yX)) :
  PySem.W.WalkO q loose XP YP l.row.toRowW d [] (λf vs=>PySem.call f vs):=
 L2.walk_of (n:=63) (k:=18) (x:= "_law_script") (CX:=λw=>fM l.prog w) (sp:=λw=>jH (K w.params) yX) hn wp hdf ⟨rfl,rfl,wp,wp⟩ hY F (λ_ _ a ns hl hO hS=>PR hl hO hS) λ_ _ _ _ _ ⟨_,_,_,_,_,_,_,_,_,_,_,_,_,z⟩=>z
end B.C.Q0.Q3.Y4
end LP
namespace PySem.W.Fast
abbrev N:=Nat
def tw11840287595540976308:=N
def tw8036555090698755374:=N
def tw17938937374562910713:=N
def tw7002752008854631881:=N
def tw16675873761459556711:=N
def tw6600628087928260636:=N
def tw16777322496488939578:=N
def tw5992967319896189345:=N
def tw12424575016263727367:=N
def tw15891653754848993643:=N
def tw5756151528933691691:=N
def tw6475010004910515957:=N
def tw11268743060176441873:=N
def tw5599928292916037151:=N
def tw8268191106987092169:=N
def tw12793807228927677759:=N
def tw7330806707020739937:=N
def tw17436894801992491939:=N
def tw12850150421591873703:=N
def tw10559768309048184730:=N
def tw336596859920889081:=N
def tw8923701064321425028:=N
def tw5101220051422198305:=N
def tw11300160540640269069:=N
def tw1565397829979936908:=N
def tw1441285742596582616:=N
def tw5563154224208484025:=N
def tw8744986811191236811:=N
def tw1561452611892838950:=N
def tw8488211730492749894:=N
def tw13528862180629440184:=N
def tw16679434861522085553:=N
def tw9475445744109238880:=N
def tw5061096505998592642:=N
def tw17977380839956636798:=N
def tw7991597162726212183:=N
def tw6707461193437252968:=N
def tw9333653095963820456:=N
def tw6482472417903662973:=N
def tw3136880787459033997:=N
def tw541980960307628918:=N
def tw4703964973801463882:=N
def tw12319642160555918327:=N
def tw2652838443606188282:=N
def tw1319631560695314031:=N
def tw11039508638405184663:=N
def tw14840195873830410893:=N
def tw9575393322631015855:=N
def tw12647716837543682384:=N
def tw10522643415583800159:=N
def tw18151929322487087458:=N
def tw12482983972612576711:=N
def tw18091919320291292015:=N
def tw3286307156374946736:=N
def tw8944583795787356590:=N
def tw17395172297835056980:=N
def tw6513830510761674942:=N
def tw3748701996874890064:=N
def tw18164718871248200140:=N
def tw8606504413804556980:=N
def tw12064622462707743131:=N
def tw3330959404065672264:=N
def tw1243215221638777828:=N
def tw11279959043617389385:=N
def tw13477879291137429528:=N
def tw455563502590246637:=N
def tw10166129531417330094:=N
def tw4266543412643743460:=N
def tw2771315082335819207:=N
def tw11760580871998222516:=N
def tw8792766963432234037:=N
def tw4904508028856305957:=N
def tw4762553710704022614:=N
def tw4312180722639173736:=N
def tw16460828940943155898:=N
def tw17596727699457745236:=N
def tw11095931740124050928:=N
def tw1920265083607370185:=N
def tw17805683598484750661:=N
def tw18243178320493622902:=N
def tw8893312433018962738:=N
def tw15829725450931986194:=N
def tw16761130621205055322:=N
def tw16924728069211701061:=N
def tw16383149982976733562:=N
def tw16666040253381809456:=N
def tw8522948815155045981:=N
def tw7205313006986805781:=N
def tw15768321315980673848:=N
def tw5640896895545289536:=N
def tw3962695830351119174:=N
def tw15307032400011398579:=N
def tw260179068246252081:=N
def tw3224646507272718273:=N
def tw8210287401411159578:=N
def tw15196083627198221521:=N
def tw17997776562329384230:=N
def tw10572627986544087186:=N
def tw13428608609819392136:=N
def tw806463876516294145:=N
def tw18235779150147490313:=N
def tw15270719582713038633:=N
def tw8807384005045942416:=N
def tw17130300464099878041:=N
def tw16630768172598580420:=N
def tw6678395119000869344:=N
def tw12908199279259843654:=N
def tw17752189104101556340:=N
def tw14788690478496315900:=N
def tw16457489450325765064:=N
def tw14955311929809646067:=N
def tw12624606616930991564:=N
def tw11741013264814262252:=N
def tw12073472991563792436:=N
def tw7100320464504792393:=N
def tw16878859544394514903:=N
def tw12109077644821703840:=N
def tw10314457283775523592:=N
def tw10531865132129434184:=N
def tw17127389446333274166:=N
def tw16050243114035426352:=N
def tw752503050806712642:=N
def tw6423513486420414857:=N
def tw7405978540616429722:=N
def tw1092991079444821928:=N
def tw4232377985166811614:=N
def tw12086823902299648106:=N
def tw11331765946154292508:=N
def tw7626689917605988899:=N
def tw17269505734344376545:=N
def tw1981743387963199010:=N
def tw10638112741209308136:=N
def tw10059942193853773537:=N
def tw17395783891813047466:=N
def tw3684027463328735158:=N
def tw18120984666020757012:=N
def tw11075593450388329579:=N
def tw1891872701851875847:=N
def tw12497419964659844104:=N
def tw11216249178574526987:=N
def tw13362827710781736990:=N
def tw5738228160792694186:=N
def tw10561153569681802927:=N
def tw4830351927649733593:=N
def tw18080587420421615914:=N
def tw3914391855526844415:=N
def tw2487386725884291979:=N
def tw13772124513237796506:=N
def tw15260373239643190815:=N
def tw846679816611236631:=N
def tw18311294588944328685:=N
def tw5330567594944925076:=N
def tw1435071460025879132:=N
def tw13769826132993938994:=N
def tw12275046881982025476:=N
def tw6238836060817199244:=N
def tw12616063407036015473:=N
def tw4032894520945679007:=N
def tw16903746055512578645:=N
def tw13729594916287187769:=N
def tw2455577483900120628:=N
def tw4251239143364493690:=N
def tw15045415258906969013:=N
def tw1707627753224269292:=N
def tw11473586870271654597:=N
def tw12580855713706489321:=N
def tw1386194152215169087:=N
def tw10445102545010981820:=N
def tw12356079902397326816:=N
def tw17699027222585335365:=N
def tw15850838652245917112:=N
def tw14586755954239619468:=N
def tw808557726417066662:=N
def tw7570588864356185525:=N
def tw4043567673618797942:=N
def tw17526009995334341437:=N
def tw2089455398199262148:=N
def tw6318405469098424476:=N
def tw1070277909030921625:=N
def tw629977896934098506:=N
def tw4152998291041339648:=N
def tw11741729745516159025:=N
def tw7650234513278459071:=N
def tw3228905744660376273:=N
def tw13063246186670287265:=N
def tw18084052449581344307:=N
def tw20893712235421615:=N
def tw9243936513668868737:=N
def tw14899111205085804459:=N
def tw3041211884868375962:=N
def tw15454202195438849767:=N
def tw775705834088484960:=N
def tw9440154236643714460:=N
def tw1718824018592744100:=N
def tw10384874550096712523:=N
def tw15237635000589468417:=N
def tw7044242811905385641:=N
def tw18058532933126185577:=N
def tw17777908718620728627:=N
def tw17925134537006734619:=N
def tw5288505700079240654:=N
def tw10940673857721180884:=N
def tw17251742026341268290:=N
def tw4283292548590220454:=N
def tw17739513849833780751:=N
def tw9730670106848381250:=N
def tw13525452430609328922:=N
def tw16410185932870636143:=N
def tw1488369925711539047:=N
def tw14539656484256552136:=N
def tw16292895406924791711:=N
def tw13751015383836479754:=N
def tw8231160599353830715:=N
def tw18050951897960081990:=N
def tw1212164441138486443:=N
def tw4644068722412902849:=N
def tw4554866208573375720:=N
def tw9968752627833429954:=N
def tw9709917201629121895:=N
def tw9508988933645334530:=N
def tw864863454310898712:=N
def tw7676696956220659693:=N
def tw7346867483650640686:=N
def tw6896013260817885886:=N
def tw6706787375531672799:=N
def tw6510072578508911895:=N
def tw6136651849530339222:=N
def tw5190377151490876829:=N
def tw4489523328284041513:=N
def tw3522931492468034716:=N
def tw3518789947588581697:=N
def tw3459262959597247391:=N
def tw3364940931904476383:=N
def tw3104009958909513916:=N
def tw2684150694153190198:=N
def tw2668880611017034464:=N
def tw2585007221653659381:=N
def tw2230716926537760215:=N
def tw2169105113352702767:=N
def tw2106827770734306062:=N
def tw2024401019201996603:=N
def tw17900347370266894644:=N
def tw17198589639117806714:=N
def tw17186974517080878307:=N
def tw17088211108828011758:=N
def tw17015367570238678101:=N
def tw16689467523065752350:=N
def tw15922766556352960685:=N
def tw15454771566241979452:=N
def tw15410180444598627622:=N
def tw14933029140089175763:=N
def tw14273175857781347586:=N
def tw13838659202208669416:=N
def tw1356532132478162599:=N
def tw1327324723211559971:=N
def tw13270554887334327325:=N
def tw12972681073177624057:=N
def tw12256585064800893831:=N
def tw11996830482509853966:=N
def tw11716196902091271761:=N
def tw11706621736204455277:=N
def tw11511138740049088669:=N
def tw11491467144015652362:=N
def tw10966443078988932818:=N
def tw10711294845875215535:=N
def tw10523240468070039100:=N
def tw10496595782310884969:=N
def tw6513954353383145762:=N
def tw13449711049115551302:=N
def tw12996530773737018805:=N
def tw12550340491696592941:=N
def tw8398066602568582306:=N
def tw9775611565363154243:=N
def tw7810280707276588780:=N
def tw7660543920811550813:=N
def tw7634773668256330938:=N
def tw7484844850760384183:=N
def tw6671835450236280742:=N
def tw6584681012588214826:=N
def tw6189846213854439902:=N
def tw53013841099364866:=N
def tw5077738904653337014:=N
def tw18244577439938683659:=N
def tw18135510770316366730:=N
def tw18059955617600061295:=N
def tw17421725623896375162:=N
def tw15938274763996307200:=N
def tw15829467293124451380:=N
def tw15785590461576890456:=N
def tw14425405815479498109:=N
def tw13846566157899406892:=N
def tw13268175440471821923:=N
def tw12466281886465669460:=N
def tw1209364347959069981:=N
def tw11228563493941808844:=N
def tw11205742697734743266:=N
def tw2646780936082301734:=N
def tw15072705108258146761:=N
def tw13994894011779473782:=N
def tw9158122644928970034:=N
def tw7709291325888484262:=N
def tw6189272019090247729:=N
def tw5298525420780338392:=N
def tw14897759704970828783:=N
def tw8650663428334169235:=N
def tw17571937251408165655:=N
def tw898461803048742448:=N
def tw920217257548832201:=N
def tw7980526234433758151:=N
def tw7582119226577295662:=N
def tw3908652579517625419:=N
def tw17533079566830485095:=N
def tw13780269883186063818:=N
def tw13402877449018302627:=N
def tw12793811459479709036:=N
def tw11199831011603876526:=N
def tw7472559697137276586:=N
def tw3021471978329764298:=N
def tw15579949196663820643:=N
def tw15557120191789436898:=N
def tw13320449066574723371:=N
def tw7414902673963667068:=N
def tw570088497160187245:=N
def tw4736944236222266965:=N
def tw3723758962120954255:=N
def tw17624194309541411843:=N
def tw11986536779304577451:=N
def tw3000853601815410613:=N
def tw17562900472406950932:=N
def tw15616541985332845880:=N
def tw10187742649214644751:=N
def tw17586454578960350469:=N
def tw17990662836600525109:=N
def tw16868302429604951455:=N
def tw9260512560836457724:=N
def tw7278691307364157875:=N
def tw5325447850796399129:=N
def tw5361354533338509604:=N
def tw9475742950725185067:=N
def tw6434319861556211613:=N
def tw5415520081455587132:=N
def tw10668565630976404677:=N
def tw6313782206516971390:=N
def tw8632703968008041148:=N
def tw8041049742777023593:=N
def tw16275550886497630335:=N
def tw15188404321806686208:=N
def tw10557212219070035864:=N
def tw10103873594016686384:=N
def tw15011522155566250282:=N
def tw13981896223388837085:=N
def tw3753896451409167540:=N
def tw9963896784634413485:=N
def tw3109348013099803217:=N
def tw2335425836468224184:=N
def tw18215680606070358677:=N
def tw17823353239382514342:=N
def tw17522740139199081254:=N
def tw15712803848778377879:=N
def tw15219401950083262163:=N
def tw14203986223672790886:=N
def tw13586752991063203194:=N
def tw3125496464052933308:=N
def tw1487578020510776715:=N
def tw740503806936866965:=N
def tw17838915197584665369:=N
def tw9472919387558082532:=N
def tw8130267924365175296:=N
def tw776326630801893217:=N
def tw7693760235131418909:=N
def tw7370920924797330228:=N
def tw7319185924278198918:=N
def tw5490742833301533968:=N
def tw403157845177111168:=N
def tw3252453598530101161:=N
def tw17652521436818291512:=N
def tw16071257853730759590:=N
def tw15793159303149059935:=N
def tw15755351128633757366:=N
def tw15326688508025457720:=N
def tw14371079495030440488:=N
def tw14115360652880074835:=N
def tw13344004224674984408:=N
def tw1232108977660522725:=N
def tw11741155451359030686:=N
def tw11656630873948991141:=N
def tw10417610852998341840:=N
def tw10043505573487699090:=N
def tw7082227085900460425:=N
def tw5301287086721162409:=N
def tw4100062718261346974:=N
def tw2769435997883484004:=N
def tw2671332753346209161:=N
def tw2461008830445889009:=N
def tw240731936711308149:=N
def tw16825538708908928409:=N
def tw16815685144441846599:=N
def tw14714703872195604525:=N
def tw14596861280192141084:=N
def tw14219097195004252119:=N
def tw13230417477988546502:=N
def tw12866301589231606653:=N
def tw10929329829521801584:=N
def tw9532888832399603520:=N
def tw7930197022506798485:=N
def tw754151419380635012:=N
def tw723484997022603411:=N
def tw579005830044073289:=N
def tw4364014218169034174:=N
def tw17995728433516803129:=N
def tw16995153194246245183:=N
def tw15039988540642212036:=N
def tw14824673021647415590:=N
def tw11379131509252250115:=N
def tw8247759945984686665:=N
def tw4886003467616643371:=N
def tw4527492924626739323:=N
def tw4524799045512211848:=N
def tw15262829738068782657:=N
def tw12713803915888641691:=N
def tw4715484004791330675:=N
def tw8417132212418524187:=N
def tw5765821683139486702:=N
def tw1806998336287707551:=N
def tw16785891920951270218:=N
def tw13026609795557043406:=N
def tw11121081834349597522:=N
def tw9922343935147635428:=N
def tw9873790112863352965:=N
def tw9703131831159793555:=N
def tw9623902857135372196:=N
def tw9565800864955550993:=N
def tw9541987136769490889:=N
def tw9359846772898217577:=N
def tw9330103992651195108:=N
def tw9045556221997643281:=N
def tw9027212930889553790:=N
def tw895936103038175744:=N
def tw8936405893689454809:=N
def tw8835153642584882580:=N
def tw8823959043660122478:=N
def tw8763396429873604005:=N
def tw8712404564630691052:=N
def tw8469847670951480524:=N
def tw8330241796308381557:=N
def tw8250457302354714635:=N
def tw8172357448693806760:=N
def tw8166183593459369973:=N
def tw7990828758255179311:=N
def tw7915760684214653883:=N
def tw7913928099750232289:=N
def tw7875648249709256404:=N
def tw7800249884491585594:=N
def tw7708821149739971735:=N
def tw7705473575012178145:=N
def tw7699612907949575477:=N
def tw7677177676847985650:=N
def tw7656257305385697826:=N
def tw7217160139327129195:=N
def tw7170461361243392509:=N
def tw7124935060978224800:=N
def tw7066517877475458471:=N
def tw7023732820806407079:=N
def tw6929050439017739171:=N
def tw6825799657795145:=N
def tw6722091913112275867:=N
def tw6630769401774157296:=N
def tw6621535929808153485:=N
def tw6464975754918197693:=N
def tw6404304729721298314:=N
def tw625208575044641937:=N
def tw6093249997953159311:=N
def tw6075629341160958255:=N
def tw5976598623608127758:=N
def tw5786656187759574128:=N
def tw5762206482040126322:=N
def tw5731786729839548552:=N
def tw5629235413601504576:=N
def tw5606086119852332238:=N
def tw5536330320492434214:=N
def tw5498522057967928313:=N
def tw5466183706640745835:=N
def tw5409341658931237338:=N
def tw5138638463884243199:=N
def tw4761818451964507371:=N
def tw4643940696084717247:=N
def tw4590233917029486606:=N
def tw4588917790027377113:=N
def tw4512948374804972049:=N
def tw4318652845783495484:=N
def tw4288823276814082944:=N
def tw4086710313134984768:=N
def tw4025058638535400239:=N
def tw3929754481429223797:=N
def tw372558064700293033:=N
def tw3629463262732932272:=N
def tw3397053517985128120:=N
def tw3389388423009212058:=N
def tw3359053678332016239:=N
def tw3227075545947856948:=N
def tw2720059906346900113:=N
def tw2515914611073347055:=N
def tw2479861857438142321:=N
def tw2347049566341946751:=N
def tw2178464344553115805:=N
def tw2048757466029623031:=N
def tw2027623355786396383:=N
def tw18395145439061086740:=N
def tw18207507960076952562:=N
def tw1811267683008198919:=N
def tw18073386713739406564:=N
def tw18019368432379815343:=N
def tw18001083886810669539:=N
def tw17967040369468011817:=N
def tw17903553125273530743:=N
def tw17779919091932651635:=N
def tw17720386688580874364:=N
def tw17494431775677379539:=N
def tw17431861196720896224:=N
def tw17398942701711271986:=N
def tw17020685460325042113:=N
def tw16862524013840795874:=N
def tw16782047899642777781:=N
def tw16559837698002123135:=N
def tw16555629800818041495:=N
def tw16545899344656840110:=N
def tw1633578560984559307:=N
def tw15832075855450239788:=N
def tw15573473372221032469:=N
def tw15266151183481043686:=N
def tw15173838086934134416:=N
def tw1516028286176027537:=N
def tw15085156479116289236:=N
def tw15078285311968489102:=N
def tw15043408519888183854:=N
def tw14913186020872917965:=N
def tw14769749322835000404:=N
def tw14750955221453128224:=N
def tw14593986945330782208:=N
def tw14432675829120918026:=N
def tw1442926863853345229:=N
def tw14412006546721415480:=N
def tw14086683324820175414:=N
def tw13653453165736363857:=N
def tw13644073605602561176:=N
def tw13297408452686809132:=N
def tw13293040547725867083:=N
def tw13246248318136898420:=N
def tw13229502659948375791:=N
def tw13066667196618179383:=N
def tw12606654813589212928:=N
def tw12440242484495574519:=N
def tw12385800031603977029:=N
def tw12382750620630157128:=N
def tw12223680089743762998:=N
def tw12186950999590094794:=N
def tw12120901633284624705:=N
def tw12086903562101947073:=N
def tw12003700295090143157:=N
def tw11997735645697011428:=N
def tw11971259442020389186:=N
def tw11890016198352299198:=N
def tw11885384283650362610:=N
def tw11698915400974896218:=N
def tw11698876639597214774:=N
def tw11403843563246089667:=N
def tw11184381800799429364:=N
def tw11060599559491885974:=N
def tw11045056424880744325:=N
def tw11035882819350194107:=N
def tw10883475652582709895:=N
def tw10840620938516117850:=N
def tw10806897542747507278:=N
def tw1078812463974074883:=N
def tw10403421008469322044:=N
def tw10350982891077746276:=N
def tw10186934704834017262:=N
def tw10128927919011120772:=N
def tw9809097947003186441:=N
def tw9706274940770679257:=N
def tw9451756352344759700:=N
def tw9250444535347640964:=N
def tw859674066375147001:=N
def tw83284949052262023:=N
def tw7807300202742753382:=N
def tw7778948695868351689:=N
def tw7550637465094314518:=N
def tw7410569104738733343:=N
def tw7253638275399156021:=N
def tw7103259288617752915:=N
def tw6921417716815407082:=N
def tw6910399334957240598:=N
def tw6023829372403931472:=N
def tw5644070343944664993:=N
def tw5641974211140009568:=N
def tw5544943088263652601:=N
def tw528355368827023652:=N
def tw5262234025187453714:=N
def tw5207969980438242889:=N
def tw5066740061840383026:=N
def tw4602210929710667626:=N
def tw4533619763501968304:=N
def tw4143010240372986287:=N
def tw3662061507012106523:=N
def tw3520998892789254966:=N
def tw3432735363990006404:=N
def tw2922213886205364086:=N
def tw2902007149397118062:=N
def tw2869141170160191337:=N
def tw257005159233403523:=N
def tw2345823024503007842:=N
def tw2049561451271006569:=N
def tw1976990447409863327:=N
def tw1914678149194174614:=N
def tw18434578393120999612:=N
def tw18270662209554814171:=N
def tw18010216072650087099:=N
def tw1788339130471546945:=N
def tw17869123683772590849:=N
def tw17572238855887800645:=N
def tw17457922123981086168:=N
def tw17361462459041199117:=N
def tw17174180975915719668:=N
def tw17169226118496384212:=N
def tw17106881913717859640:=N
def tw16487767392967608076:=N
def tw16276382689112959558:=N
def tw16056978228159762833:=N
def tw15733415932369165210:=N
def tw15562613272540836600:=N
def tw15485068839268022658:=N
def tw15450781098462766758:=N
def tw15315803144853676491:=N
def tw15126113740176144891:=N
def tw1480333713754317498:=N
def tw14696960825486710385:=N
def tw14627632157540306203:=N
def tw14626958973891733546:=N
def tw14331553275780952852:=N
def tw14322705703387407662:=N
def tw14071292416566656011:=N
def tw13951956698386143543:=N
def tw13807662926731414962:=N
def tw13327861111243982288:=N
def tw13281589042718965438:=N
def tw13134561601749398600:=N
def tw13079480906803917070:=N
def tw12939400530934807880:=N
def tw12874743641358191104:=N
def tw12599692668377602081:=N
def tw12409252741618466178:=N
def tw11596458143540203376:=N
def tw11573972733100432751:=N
def tw11453826332127080465:=N
def tw11423251316927664911:=N
def tw11378786121708813338:=N
def tw11374505983399530669:=N
def tw11224463373968646873:=N
def tw11157409446870707500:=N
def tw11150810320449419203:=N
def tw1111141213526376041:=N
def tw11039806233848598593:=N
def tw10995119392546319949:=N
def tw10652615240846517425:=N
def tw10516592674280365572:=N
def tw10380608827104172171:=N
def tw10151578869951463176:=N
def tw10027682867506548933:=N
end PySem.W.Fast
open PySem PySem.W PyProof.Rows
set_option maxRecDepth 100000 in
set_option maxHeartbeats 0 in
theorem PySem.Challenge.cw_slanttables_k44_whole_squares_holds : PySem.Challenge.rw_slanttables_k44_whole_squares.Holds := by
 w_on;o_law;k_head;(case hw=>w_witness2)
 k_fill
 refine LP.B.C.Q0.Q3.Y4.walk (l:=PySem.Challenge.rw_slanttables_k44_whole_squares) rfl rfl (λw h Y=>PySem.W.kIn_of Y) ?F
 case F=>
  intro w mg fa h KX G hmg;refine LP.B.C.Q0.Q3.Y4.all_mk ?_ hmg;constructor
  all_goals first
   |(refine' LP.mkF KX G ?a ?l ?c ?k;(case a=>k_is);(case l=>k_is);(case c=>k_is);(case k=>k_is))
   |(refine' mg_none_of KX G ?a;case a=>k_is)
   |(refine' LP.mkI KX G ?a;case a=>k_is)
   |(refine' LP.mkT KX G ?a ?l;(case a=>k_is);(case l=>k_is))
   |(refine' LP.mkX KX G ?a ?e;(case a=>k_is);(case e=>k_exc))
