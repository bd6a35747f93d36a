import PyProof.Rows.All
import Wide.All
import OpenK.AllK
import Wide.FinOn
import PySem.Challenge.RW_slanttables_k76_papers_and_squares_other
abbrev QA(x:PySem.Str):Prop:=(x==("__debug__" : PySem.Str))=false
set_option hygiene false
local macro_rules | `(tactic| walk_at "v")=>`(tactic| first|exact Or.inl rfl|exact Or.inr (Or.inl rfl)|exact Or.inr<|Or.inr rfl)
local macro_rules | `(tactic| walk_at "u")=>`(tactic| first|exact .inl rfl|exact .inr rfl|assumption)
theorem wp{p:Prop}(h:p:=by decide +kernel):p:=h
theorem E1{p:Prop}(h:p:=by omega):p:=h
theorem E8{p:Prop}(h:p:=by decide):p:=h
theorem KE{p:Prop}(h:p:=by simp):p:=h
theorem QM{p:Prop}(h:p:=by rfl):p:=h
theorem QN{p:Prop}(h:p:=by intro _;rfl):p:=h
theorem QO{p:Prop}(h:p:=by walk_at "u"):p:=h
theorem QP{p:Prop}(h:p:=by walk_at "v"):p:=h
theorem QQ{p:Prop}(h:p:=by first|exact Or.inl rfl|exact Or.inr rfl):p:=h
theorem QR{p:Prop}(h:p:=by with_unfolding_all rfl):p:=h
theorem QS{p:Prop}(h:p:=by exact λ_ _=>rfl):p:=h
theorem QT{p:Prop}(h:p:=by exact⟨rfl,rfl,rfl,wp,rfl,wp,wp⟩):p:=h
local macro_rules(kind:=«term{_}»)|`({$t})=>`(autoParam $t QM._auto_1)
local macro_rules|`(($t :))=>`(autoParam $t E8._auto_1)
abbrev K4:=List (List Rat)
abbrev K5:=List (List Int)
abbrev Lb:=List (PySem.Addr×PySem.Obj)
abbrev Mn:=PySem.Value->PySem.Shared->Prop
abbrev Qt:=PySem.Str->Option PySem.Value
abbrev Qu:=List PySem.Value
abbrev Qv:=List Int
abbrev Qw:=List Rat
abbrev Qx:=List PySem.Str
abbrev Qy:=Nat->Rat
abbrev Qz:=List Nat
noncomputable section
set_option genSizeOf false
set_option genInjectivity false
set_option genSizeOf false
set_option genInjectivity false
set_option compiler.extract_closed false
set_option Elab.async false
set_option linter.all false
set_option maxRecDepth 100000
set_option exponentiation.threshold 2000
set_option exponentiation.threshold 400
set_option maxHeartbeats 8000000
def jx:=@if_neg
def oI:=@if_pos
def dZ:=@PySem.Heap.lt_size
def dN:=@Nat.lt_of_lt_of_le
def ju:=@Nat.lt_irrefl
def Bj:=@Array.append_assoc
def jv:=@Nat.ne_of_lt
def yE:=@Nat.lt_trans
def Yag:=@List.mem_filter
def Yah:=@List.mem_range
def jw:=@Nat.le_trans
def lO:=@Nat.le_of_lt
def yF:=@List.filterMap_cons
def md:=@List.mem_cons_self
def kj:=@List.mem_cons_of_mem
def Yan:=@List.mem_cons
def Yao:=@List.mem_append
def yG:=@List.mem_append_left
def Yaq:=@List.getElem?_eq_some_iff
def e9:=@List.getElem?_set_self
def d6:=@List.getElem?_set_ne
def yH:=@Array.length_toList
def eQ:=@PySem.Heap.get?_push_of_some
def kw:=@Bool.false_ne_true
def yI:=@Nat.ne_of_gt
def u0:=@Bool.false_and
def jy:=@PySem.Heap.get?_push_size
def cO:=@Nat.le_refl
def YaA:=@List.mem_filterMap
def jz:=@List.mem_append_right
def iD:=@Bool.eq_iff_iff
def fJ:=@List.size_toArray
def mZ:=@List.append_nil
def YaF:=@List.nodup_cons
def yJ:=@List.of_mem_zip
def m6:=@List.length_take
def lP:=@List.getElem?_append_right
def lQ:=@List.getElem?_replicate
def lR:=@List.getElem?_append_left
def cV:=@List.getElem?_map
def Bl:=@List.getElem?_take_of_lt
def pj:=@List.mem_of_getElem?
def fZ:=@List.length_append
def bQ:=@List.length_map
def lS:=@List.length_replicate
theorem jA(n:Nat):(n:Int).toNat=n:=rfl
def m8:=@List.length_drop
def cX:=@Bool.and_eq_true
def yK:=@PySem.Heap.get?_update_self
def tG:=@PySem.Heap.get?_update_other
def dQ:=@List.length_set
def u3:=@List.all_cons
def yL:=@List.any_cons
theorem iY{α}{a:α}{n}:List.replicate (n+1) a=a::List.replicate n a:=rfl
def tH:=@List.flatten_cons
def kP:=@List.append_assoc
def me:=@List.length_singleton
def qe:=@Nat.succ_mul
theorem dR{α}(l:List α):[]++l=l:=rfl
def yM:=@Nat.mul_comm
def f6:=@List.map_nil
def cG:=@List.map_cons
def qf:=@List.lookup_cons
def u4:=@Bool.not_eq_true'
def Bm:=@List.forIn_cons
def eG:=@Bool.false_eq_true
def vM:=@Option.map_some
def qg:=@PySem.Heap.size_push
def Ybe:=@List.all_eq_true
def yN:=@Bool.or_eq_true
def Bn:=@Nat.le_of_succ_le
def gD:=@Nat.lt_or_ge
def bE:=@List.getD_eq_getElem?_getD
def k9:=@Nat.zero_le
def yO:=@List.ext_getElem?
def jB:=@List.getElem?_range
def fi:=@List.getElem?_eq_none
def yP:=@List.reverse_cons
def rV:=@List.length_reverse
def Ybp:=@Array.getElem?_eq_some_iff
def hJ:=@List.not_mem_nil
def yQ:=@List.contains_cons
def Bo:=@Int.toNat_of_nonneg
def Ybt:=@List.mem_iff_getElem
def bZ:=@List.getElem?_eq_getElem
def i3:=@List.getElem_mem
def tI:=@List.drop_zero
def tJ:=@List.drop_eq_getElem_cons
def yR:=@List.drop_of_length_le
def kx:=@List.length_zipWith
theorem d8{α}{a:α}{l:List α}:(a::l).length=l.length+1:=rfl
def rW:=@Nat.pow_le_pow_right
def Bp:=@Int.mul_ediv_cancel_left
def ge:=@Int.natAbs_mul
theorem m9(n:Nat):(n:Int).natAbs=n:=rfl
def mf:=@Nat.pow_add
def yS:=@Nat.pow_pos
def mh:=@Nat.mul_le_mul_right
def Bq:=@Nat.mul_ne_zero
def yT:=@Nat.pow_succ
def u5:=@Int.natAbs_add_le
def EH:=@Int.sign_eq_neg_one_of_neg
def hU:=@Rat.div_def
def Br:=@Rat.num_intCast
def Bu:=@Rat.den_intCast
def Bv:=@Nat.one_lt_two_pow
def YbQ:=@List.mem_map
def Bw:=@Int.gcd_pos_of_ne_zero_right
def yU:=@Int.neg_mul_neg
def yV:=@Int.mul_fdiv_cancel_left
def ir:=@List.map_congr_left
def tK:=@List.map_id
def tL:=@Rat.num_divInt_den
def Bx:=@List.getElem_map
theorem iF{α}:([]:List α).length=0:=rfl
theorem jC{α}{a:α}{l k:List α}:(a::l)++k=a::(l++k):=rfl
theorem eH{α}{a:α}{l:List α}:(a::l)[0]? = some a:=rfl
theorem fe{α}{a:α}{n:Nat}{l:List α}:(a::l)[n+1]? = l[n]? :=rfl
theorem gF{α}{a b:α}{l:List α}:(a::l).set 0 b=b::l:=rfl
theorem gG{α}{a b:α}{n}{l:List α}:(a::l).set (n+1) b=a::l.set n b:=rfl
def lT:=@List.replicate_zero
def yW:=@List.all_map
def EI:=@Int.fmod_eq_emod_of_nonneg
def gg:=@Bool.not_true
def i4:=@Bool.true_and
def tM:=@Nat.lt_of_le_of_lt
def By:=@Rat.divInt_ofNat
def pz:=@Rat.add_zero
theorem Bz{α}{β}{γ}{f:α->β->γ}{a b l k}:List.zipWith f (a::l) (b::k)=f a b::List.zipWith f l k:=rfl
def yX:=@Nat.min_eq_left
def EJ:=@Int.fdiv_eq_ediv_of_nonneg
def Ycf:=@List.map_drop
def qx:=@List.map_take
def pA:=@List.mem_of_mem_drop
def vN:=@List.mem_of_mem_take
def tN:=@List.map_reverse
def BA:=@Int.fmod_nonneg_of_pos
def u6:=@List.mem_map_of_mem
def lg:=@Rat.mul_zero
def Ycn:=@List.mem_reverse
def na:=@Bool.not_false
def rY:=@Nat.zero_add
def Ycq:=@Rat.num_eq_zero
def rZ:=@Int.mul_ne_zero
def yY:=@Rat.divInt_mul_divInt
def nb:=@List.length_range
def yZ:=@Int.mul_comm
def vO:=@Rat.divInt_mul_right
def ky:=@Rat.zero_mul
def sd:=@Nat.mul_lt_mul''
def BB:=@Int.natAbs_sub_le
def qy:=@List.getElem_zipWith
def y0:=@List.map_zipWith
def y2:=@Nat.lt_succ_of_lt
def YcC:=@List.mem_singleton
def hV:=@List.map_append
def u7:=@List.map_set
def u8:=@Nat.min_self
def vP:=@Option.getD_some
def y3:=@Nat.mul_succ
def vQ:=@List.ext_getElem
def BC:=@List.getElem_replicate
def qz:=@List.map_replicate
def qA:=@List.flatten_replicate_singleton
def y4:=@Rat.mul_one
def BD:=@List.getElem?_set
def qB:=@Rat.mul_inv_cancel
def YcP:=@List.pairwise_append
def YcQ:=@List.pairwise_cons
def tO:=@List.getD_cons_zero
def se:=@List.getD_cons_succ
def y6:=@Rat.intCast_add
def pB:=@Nat.mul_le_mul
def iG:=@Rat.intCast_mul
def sf:=@Rat.intCast_sub
def tP:=@Rat.divInt_eq_div
def YcY:=@List.mem_replicate
def EK:=@List.dropLast_concat_getLast
def y8:=@Rat.mul_le_mul_of_nonneg_left
def y9:=@Rat.mul_le_mul_of_nonneg_right
section
open PySem PySem.Spec PyProof.Rows PySem.W
def PM:=@wpAny_bind
abbrev PN:=W.Frag
def PP:=@wpAny_pure
def PQ:=@absurd
def PR:=@decide_eq_true
def PU:=@decide_eq_false
def PV:=@decide_eq_true_eq
def PY:=@Option.some.inj
def P1:=@boot_isinstance
def P2:=@wpAny_mono
def P3:=@PySem.mem_of_lookup
def P4:=@wpAny_field
def P5:=@wpAny_newObj_type
def P6:=@boot_len
def P7:=@boot_tuple
def P8:=@False.elim
def P9:=@Ne.symm
def Qa:=@beq_iff_eq
def Qb:=@wpAny_truthy_bool
def Qc:=@wpAny_standAt
def Qd:=@beq_self_eq_true
def Qe:=@wpAny_call_entry
def Qf:=@wpAny_seqItems
def Qg:=@wpAny_setField_rec
def Qh:=@wpAny_passesOwn
def Qi:=@wpAny_holding
def Qj:=@wpAny_rule
def Qk:=@wpAny_Call_Name_kw
def Ql:=@boot_list
def Qm:=@wpAny_execs_nil
def Qn:=@wpAny_comprehension_free
def Qo:=@wpAny_setField
def Qp:=@decide_eq_decide
def Qq:=@boot_all
def Qr:=@wpAny_updateSeq_pair
def Qs:=@wpAny_onRaise
end
namespace L2
open PySem PySem.Spec PyProof.Rows
variable{κ:Type}{a b it dx:Addr}{o:Obj}{P:Program}{w:World}{h h' base:Heap}{x name qual:Str}{e c tg:Expr}{tv:Lb}{s s':Shared}{g':Array GenState}{t' i j k n:Nat}{d':Drawn}{ch fp:List Addr}{N ps:Qx}{A:Around}{Q:Mn}{f:Value->Value->Sem Value}{pos pos' p:Pos}{K:PN}{es:List Expr}{g:Int->Int->Int}{body:List Stmt}{op:CmpOp}{us:Qu}{mA mg:Qt}{fd:FuncData}{scope:Scope}{osl:Array (Option Value)}
abbrev kQ:=Sum Int Str
def sh:kQ->Value->Bool
 |.inl k,v=>Value.isInt k v|.inr x,v=>Value.isStrOf x v
def BE(w:World):kQ->Int
 |.inl k=>hashInt k|.inr x=>hashStr w x
theorem bS:∀{k:kQ} {v:Value},sh k v=true->(∃i t,k=Sum.inl i/\v=Value.int i t)\/(∃x t,k=Sum.inr x/\v=Value.str x t)
 |.inl i,v,h=>by obtain⟨t,e⟩:=Value.isInt_shape (k:=i) (v:=v) h;exact .inl ⟨i,t,rfl,e⟩
 |.inr x,v,h=>by obtain⟨t,e⟩:=Value.isStrOf_shape (x:=x) (v:=v) h;exact .inr ⟨x,t,rfl,e⟩
theorem tQ(a b:Int):decide ((Sum.inl a:kQ)=Sum.inl b)=(a==b):=by by_cases e:a=b;subst e;simp;have h:¬(Sum.inl a:kQ)=Sum.inl b:=λq=>e (Sum.inl.inj q);rw[PU h];exact(beq_eq_false_iff_ne.mpr e).symm
theorem tR(a b:Str):decide ((Sum.inr a:kQ)=Sum.inr b)=decide (a=b):=by by_cases e:a=b;subst e;simp;have h:¬(Sum.inr a:kQ)=Sum.inr b:=λq=>e (Sum.inr.inj q);rw[PU h,PU e]
theorem tS(a:Int)(b:Str):decide ((Sum.inl a:kQ)=Sum.inr b)=false:=PU<|λq=>nomatch q
theorem tU(a:Str)(b:Int):decide ((Sum.inr a:kQ)=Sum.inl b)=false:=PU<|λq=>nomatch q
def jO(prog:Program)(w:World):PySem.KeyKind prog w kQ where
 is:=sh
 hash:=BE w
 inj:=λv a b ha hb=>by
  rcases bS ha with⟨i,t,rfl,rfl⟩|⟨x,t,rfl,rfl⟩
  rcases bS hb with⟨j,u,rfl,e⟩|⟨y,u,rfl,e⟩
  injection e with e1 _;rw[e1]
  exact nomatch e;rcases bS hb with⟨j,u,rfl,e⟩|⟨y,u,rfl,e⟩
  exact nomatch e;injection e with e1 _;rw[e1]
 byValue:=λk v h=>by rcases bS h with⟨i,t,rfl,rfl⟩|⟨x,t,rfl,rfl⟩<;>rfl
 pyHash:=λhv h=>by
  rcases bS hv with⟨i,t,rfl,rfl⟩|⟨x,t,rfl,rfl⟩
  exact wpAny_pyHash_int h;exact wpAny_pyHash_str h
 eqBool:=λhu hv h=>by
  rcases bS hu with⟨i,t,rfl,rfl⟩|⟨x,t,rfl,rfl⟩
  rcases bS hv with⟨j,u,rfl,rfl⟩|⟨y,u,rfl,rfl⟩
  rw[tQ]at h;exact wpAny_eqBool_int h;rw[tS]at h;exact SeqAt.EqAt.int_str i t y u _ _ _ _ h;rcases bS hv with⟨j,u,rfl,rfl⟩|⟨y,u,rfl,rfl⟩
  rw[tU]at h;exact SeqAt.EqAt.str_int x t j u _ _ _ _ h;rw[tR]at h;exact wpAny_eqBool_str h
 «strs»:=λk x t v h=>by
  rcases bS h with⟨i,u,rfl,e⟩|⟨y,u,rfl,e⟩
  exact nomatch e;injection e with e1 _
  subst e1;cases v<;>rfl
set_option genInjectivity true in
set_option genInjectivity true in
inductive V where
 |non|bl (b:Bool)|int (i:Int)|str (x:Str)|byt (b:Array UInt8)|flt (b:UInt64)|ref (a:Addr)|ty (n:String)
 deriving DecidableEq
abbrev QJ:=List V
variable{xs vs:QJ}{gV:QJ->QJ->QJ}
def RelV:V->Value->Prop
 |.non,u=>u=Value.none|.bl b,u=>u=Value.bool b|.int i,u=>∃t,u=Value.int i t|.str x,u=>∃t,u=Value.str x t|.byt b,u=>∃t,u=Value.bytes b t|.flt b,u=>∃t,u=Value.float b t|.ref a,u=>u=Value.ref a|.ty n,u=>u=Value.type n
abbrev Vals:QJ->Qu->Prop:=Paired RelV
theorem Vals.length{xs:QJ}{us:Qu}(r:Vals xs us):xs.length=us.length:=Paired.length r
theorem Vals.get:∀{xs:QJ} {us:Qu} {i:Nat} {x:V},Vals xs us->xs[i]? = some x->∃u,us[i]? = some u/\RelV x u
 |_,_,_,_,.nil,e=>by simp at e|_,_,0,_,.cons r _,e=>by simp at e;subst e;exact⟨_,rfl,r⟩|_,_,i+1,x,.cons _ t,e=>by obtain⟨u,h1,h2⟩:=Vals.get (i:=i) (x:=x) t (by simpa using e);exact⟨u,by simpa using h1,h2⟩
theorem Vals.set{x:V}{u:Value}(r:RelV x u):∀{xs:QJ} {us:Qu} (i:Nat),Vals xs us->Vals (xs.set i x) (us.set i u)
 |_,_,_,.nil=>.nil|_,_,0,.cons _ t=>.cons r t|_,_,i+1,.cons q t=>.cons q<|Vals.set r i t
theorem Vals.append:∀{xs ys:QJ} {us ws:Qu},Vals xs us->Vals ys ws->Vals (xs++ys) (us++ws)
 |_,_,_,_,.nil,s=>s|_,_,_,_,.cons r t,s=>.cons r<|Vals.append t s
theorem Vals.take:∀{xs:QJ} {us:Qu} (n:Nat),Vals xs us->Vals (xs.take n) (us.take n)
 |_,_,0,_=>.nil|_,_,_+1,.nil=>.nil|_,_,n+1,.cons r t=>.cons r<|Vals.take n t
theorem Vals.drop:∀{xs:QJ} {us:Qu} (n:Nat),Vals xs us->Vals (xs.drop n) (us.drop n)
 |_,_,0,r=>r|_,_,_+1,.nil=>.nil|_,_,n+1,.cons _ t=>Vals.drop n t
def vR:Option V->Option Value->Prop
 |some v,some u=>RelV v u|none,none=>True|_,_=>False
def KV:List (κ×V)->List (κ×Value)->Prop:=Paired λ(p:κ×V) (q:κ×Value)=>p.1=q.1/\RelV p.2 q.2
def kV:kQ->V
 |.inl i=>.int i|.inr x=>.str x
set_option genInjectivity true in
set_option genInjectivity true in
inductive HO where
 |lst (xs:QJ)
 |tup (xs:QJ)
 |dK (kvs:List (kQ×V))|dT (kvs:List (List kQ×V))
 |set (S:Int->Bool) (n:Nat)
 |ins (C dx:Addr) (fs:List (Str×V))
 |own (x:Addr)
 |xd (fs:List (Str×V))
 |met (f x:Addr)
 |rng (lo hi:Int)
 |frz (o:Obj) (u:HO)
 |tbl (ps:Array Value)
 |ext (φ:Heap->Prop)
abbrev Hp:=Addr->Option HO
variable{H H':Hp}
noncomputable def upd(H:Hp)(a:Addr)(o:HO):Hp:=λb=>if b=a then some o else H b
theorem aV{o:HO}:upd H a o a=some o:=by unfold upd;rw[oI rfl]
theorem aI{o:HO}(h:b≠a):upd H a o b=H b:=by unfold upd;rw[jx h]
theorem dS{o:HO}(h:H a=some o)(h':H b=none):a≠b:=by intro e;subst e;rw[h]at h';cases h'
section
variable(P:Program)(w:World)
def ObjOk(H:Hp)(h:Heap)(a:Addr):HO->Prop
 |.lst xs=>xs.length<=sizeLine/\∃(its:Qu) (n:Nat),Vals xs its/\h.get? a=some { cls:=.type "list",data:=.seq its.toArray n }|.tup xs=>xs.length<=sizeLine/\∃its:Qu,Vals xs its/\IsTup h a its.toArray|.dK kvs=>kvs.length<=sizeLine/\(a==sysModules)=false/\∃vs,KV kvs vs/\h.DictOf (jO P w) a vs
 |.dT kvs=>kvs.length<=sizeLine/\(a==sysModules)=false/\∃xs:List (List kQ×Addr×Value),
   Paired (λ(p:List kQ×V) (q:List kQ×Addr×Value)=>p.1=q.1/\H q.2.1=some (.tup<|p.1.map kV)/\RelV p.2 q.2.2) kvs xs/\
   ∃o es ep,h.get? a=some o/\o.ExactDict/\o.data=.dict es ep/\es.toList=xs.map (entryOfKey<|tupleKind<|jO P w)/\(xs.map (·.1)).Nodup
 |.set S n=>h.SetOf (intKind P w) a S n
 |.ins C dx fs=>H dx=some (.own a)/\fs.length<=1000/\dx≠a/\h.get? a=some (W.instObj C dx)/\
   ∃mA,h.Ns1 dx mA/\(∀f,vR (fs.lookup f)<|mA f)/\PySem.Within mA (fs.map (·.1))
 |.own _=>∃o,h.get? a=some o|.xd fs=>∃mA,h.Ns1 a mA/\∀f,vR (fs.lookup f)<|mA f
 |.rng lo hi=>∃t u v,h.get? a=some { cls:=.type "range",data:=.fields #[.int lo t,.int hi u,.int 1 v] }|.frz o u=>h.get? a=some o/\ObjOk H h a u|.tbl ps=>h.get? a=some { cls:=.none,data:=.fields ps }|.met f x=>h.get? a=some (W.methodObj (.ref f)<|.ref x)|.ext φ=>φ h/\(∃o,h.get? a=some o)/\∀h1 h2:Heap,φ h1->(∀o,h1.get? a=some o->h2.get? a=some o)->φ h2
def HOk(H:Hp)(h:Heap):Prop:=∀a o,H a=some o->ObjOk P w H h a o
end
section
variable{o:HO}
theorem ObjOk.lt(x:ObjOk P w H h a o):a<h.objs.size:=by
 cases o with
 |lst xs=>obtain⟨_,_,_,_,e⟩:=x;exact dZ e
 |tup xs=>obtain⟨_,_,_,p⟩:=x;exact p.lt
 |dK kvs=>obtain⟨_,_,_,_,o,_,_,e,_⟩:=x;exact dZ e
 |dT kvs=>obtain⟨_,_,_,_,o,_,_,e,_⟩:=x;exact dZ e
 |set S n=>obtain⟨o,_,_,_,e,_⟩:=x;exact dZ e
 |ins C dx fs=>obtain⟨_,_,_,e,_⟩:=x;exact dZ e
 |own y=>obtain⟨_,e⟩:=x;exact dZ e
 |xd fs=>obtain⟨_,⟨_,_,_,e,_⟩,_⟩:=x;exact dZ e
 |rng lo hi=>obtain⟨_,_,_,e⟩:=x;exact dZ e
 |frz ob u=>obtain⟨e,_⟩:=x;exact dZ e
 |tbl ps=>exact dZ (show h.get? a=some _ from x)|met f y=>exact dZ (show h.get? a=some _ from x)|ext φ=>obtain⟨_,⟨_,e⟩,_⟩:=x;exact dZ e
theorem Paired.mapP{α β:Type}{F G:α->β->Prop}:∀{l₁:List α} {l₂:List β},Paired F l₁ l₂->(∀a b,F a b->G a b)->Paired G l₁ l₂
 |_,_,.nil,_=>.nil|_,_,.cons r t,f=>.cons (f _ _ r)<|Paired.mapP t f
theorem ObjOk.stay(x:ObjOk P w H h a o)(k:∀b u,(b=a\/H b=some (.own a))->h.get? b=some u->h'.get? b=some u)
  (ho:∀b,H b=some (.own a)->H' b=some (.own a)) (ht:∀b xs,H b=some (.tup xs)->H' b=some (.tup xs)):ObjOk P w H' h' a o:=by
 induction o with
 |lst xs=>obtain⟨z,its,n,r,e⟩:=x;exact⟨z,its,n,r,k _ _ (.inl rfl) e⟩
 |tup xs=>obtain⟨z,its,r,ob,e,c⟩:=x;exact⟨z,its,r,ob,k _ _ (.inl rfl) e,c⟩
 |dK kvs=>obtain⟨z,y,vs,r,ob,es,ep,e,c⟩:=x;exact⟨z,y,vs,r,ob,es,ep,k _ _ (.inl rfl) e,c⟩
 |dT kvs=>
  obtain⟨z,y,xs,r,ob,es,ep,e,c⟩:=x;exact⟨z,y,xs,Paired.mapP r λp q z=>⟨z.1,ht _ _ z.2.1,z.2.2⟩,ob,es,ep,k _ _ (.inl rfl) e,c⟩
 |set S n=>obtain⟨ob,es,ep,t,e,c⟩:=x;exact⟨ob,es,ep,t,k _ _ (.inl rfl) e,c⟩
 |ins C dx fs=>
  obtain⟨d,z,ne,e,mA,⟨od,es,ep,e2,c⟩,r⟩:=x;exact⟨ho _ d,z,ne,k _ _ (.inl rfl) e,mA,⟨od,es,ep,k _ _ (.inr d) e2,c⟩,r⟩
 |own y=>obtain⟨ob,e⟩:=x;exact⟨ob,k _ _ (.inl rfl) e⟩
 |xd fs=>obtain⟨mA,⟨od,es,ep,e,c⟩,r⟩:=x;exact⟨mA,⟨od,es,ep,k _ _ (.inl rfl) e,c⟩,r⟩
 |rng lo hi=>obtain⟨t,u,v,e⟩:=x;exact⟨t,u,v,k _ _ (.inl rfl) e⟩
 |frz ob u ih=>obtain⟨e,q⟩:=x;exact⟨k _ _ (.inl rfl) e,ih q⟩
 |tbl ps=>
  have e:h.get? a=some { cls:=.none,data:=.fields ps }:=x;show h'.get? a=some { cls:=.none,data:=.fields ps };exact k a _ (.inl rfl) e
 |met f y=>
  have e:h.get? a=some (W.methodObj (.ref f)<|.ref y):=x;show h'.get? a=some (W.methodObj (.ref f)<|.ref y);exact k a _ (.inl rfl) e
 |ext φ=>obtain⟨p,⟨o,e⟩,st⟩:=x;exact⟨st _ _ p λo q=>k _ _ (.inl rfl) q,⟨o,k _ _ (.inl rfl) e⟩,st⟩
theorem HOk.lt(x:HOk P w H h)(e:H a=some o):a<h.objs.size:=(x a o e).lt
theorem HOk.fresh(x:HOk P w H h)(e:h.objs.size<=a):H a=none:=by
 cases q:H a with
 |none=>rfl|some u=>exact PQ (dN (x.lt q) e)<|ju _
theorem HOk.kept(x:HOk P w H h)(k:∀b u,h.get? b=some u->h'.get? b=some u):HOk P w H h':=λa o e=>(x a o e).stay (λb u _ q=>k b u q) (λ_ q=>q) λ_ _ q=>q
theorem HOk.laid(x:HOk P w H h)(k:∀b u,h.get? b=some u->h'.get? b=some u)(hp:h.objs.size<=a)(new:ObjOk P w (upd H a o) h' a o):HOk P w (upd H a o) h':=λb u e=>by have hn:=x.fresh hp;by_cases hb:b=a;subst hb;rw[aV]at e;cases e;exact new;rw[aI hb]at e;exact(x b u e).stay (λc v _ q=>k c v q) (λc q=>by rw[aI<|dS q hn];exact q) λc xs q=>by rw[aI<|dS q hn];exact q
end
def Rd(H:Hp)(a:Addr)(u:HO):Prop:=H a=some u\/∃o,H a=some (.frz o u)
theorem Rd.ok{u:HO}(r:Rd H a u)(x:HOk P w H h):ObjOk P w H h a u:=by
 rcases r with r|⟨o,r⟩
 exact x a u r;obtain⟨_,q⟩:=x a _ r;exact q
def zd:Option HO->Prop
 |some (.lst _)=>True|some (.dK _)=>True|some (.dT _)=>True|some (.set _ _)=>True|some (.ins _ _ _)=>True|some (.ext _)=>True|_=>False
section
variable{x e:Addr}{o':HO}
theorem HOk.write(ok:HOk P w H h)(mu:zd (H x))(he:e=x\/H e=some (.own x))(k:∀b u,b≠e->h.get? b=some u->h'.get? b=some u)(heo:∃u,h'.get? e=some u)
  (new:ObjOk P w (upd H x o') h' x o'):HOk P w (upd H x o') h':=λb u q=>by
 have nown:∀c y,H c=some (.own y)->c≠x:=λc y r z=>by subst z;rw[r]at mu;exact mu
 have ntup:∀c xs,H c=some (.tup xs)->c≠x:=λc xs r z=>by subst z;rw[r]at mu;exact mu
 by_cases hb:b=x
 .subst hb;rw[aV]at q;cases q;exact new
 .rw[aI hb]at q
  by_cases hbe:b=e
  .have q':H b=some (.own x):=by
    rcases he with z|z
    .exact PQ (hbe.trans z) hb
    .rw[hbe];exact z
   rw[q]at q';cases q';obtain⟨v,hv⟩:=heo;exact⟨v,by rw[hbe];exact hv⟩
  .refine(ok b u q).stay (λc v hc r=>k c v ?_ r) (λc r=>by rw[aI<|nown c b r];exact r) λc xs r=>by rw[aI<|ntup c xs r];exact r
   rcases hc with rfl|hc
   .exact hbe
   .rintro rfl
    rcases he with z|z
    .exact nown c b hc z
    .rw[hc]at z;cases z;exact hb rfl
end
structure Un(fs ex:List Addr)(H H':Hp)(h h':Heap):Prop where
 keep:∀b o,h.get? b=some o->H b=none->b∉fs->b∉ex->h'.get? b=some o
 slot:∀b o,h.get? b=some o->H b=none->b∈fs->b∉ex->∃sl,h'.get? b=some { o with slots:=sl }
 free:∀b o,h.get? b=some o->H b=none->b∉ex->H' b=none
 there:∀b o,h.get? b=some o->b∉ex->∃o',h'.get? b=some o'
 tups:∀b xs,H b=some (.tup xs)->H' b=some (.tup xs)
 frzs:∀b o u,H b=some (.frz o u)->H' b=some (.frz o u)
 tbls:∀b ps,H b=some (.tbl ps)->∃more,H' b=some (.tbl<|ps++more)
 sys:mainGlobals∉ex->(∃o,h.get? mainGlobals=some o)->(∀xs,H sysModules≠some (.lst xs))->∀xs,H' sysModules≠some (.lst xs)
section
variable{fs fs' ex ex':List Addr}{H1 H2:Hp}{h1 h2:Heap}{x e:Addr}{o:HO}
theorem Un.any(u:Un fs ex H H1 h h1){ob:Obj}(q:h.get? b=some ob)(n:H b=none)(hx:b∉ex):∃sl,h1.get? b=some { ob with slots:=sl }:=by by_cases hb:b∈fs;exact u.slot b ob q n hb hx;exact⟨ob.slots,u.keep b ob q n hb hx⟩
theorem Un.trans(a:Un fs ex H H1 h h1)(b:Un fs ex H1 H2 h1 h2):Un fs ex H H2 h h2 where
 keep:=λc ob q n hc hx=>b.keep c ob (a.keep c ob q n hc hx) (a.free c ob q n hx) hc hx
 slot:=λc ob q n hc hx=>by obtain⟨sl,e1⟩:=a.slot c ob q n hc hx;obtain⟨sl',e2⟩:=b.slot c _ e1 (a.free c ob q n hx) hc hx;exact⟨sl',e2⟩
 free:=λc ob q n hx=>by obtain⟨o',e1⟩:=a.there c ob q hx;exact b.free c o' e1 (a.free c ob q n hx) hx
 there:=λc ob q hx=>by obtain⟨o',e1⟩:=a.there c ob q hx;exact b.there c o' e1 hx
 tups:=λc xs q=>b.tups c xs<|a.tups c xs q
 frzs:=λc ob xs q=>b.frzs c ob xs<|a.frzs c ob xs q
 tbls:=λc ps q=>by obtain⟨m1,e1⟩:=a.tbls c ps q;obtain⟨m2,e2⟩:=b.tbls c _ e1;exact⟨m1++m2,by rw[e2,Bj]⟩
 sys:=λhx ⟨o,e⟩ n=>b.sys hx (a.there _ o e hx)<|a.sys hx ⟨o,e⟩ n
theorem Un.kept(k:∀b u,h.get? b=some u->h'.get? b=some u):Un fs ex H H h h':=
 ⟨λb ob q _ _ _=>k b ob q,λb ob q _ _ _=>⟨ob.slots,k b ob q⟩,λ_ _ _ n _=>n,λb ob q _=>⟨ob,k b ob q⟩,λ_ _ q=>q,λ_ _ _ q=>q,λ_ ps q=>⟨#[],by rw[q];simp⟩,λ_ _ n=>n⟩
theorem Un.refl:Un fs ex H H h h:=Un.kept λ_ _ q=>q
theorem Un.laid(k:∀b u,h.get? b=some u->h'.get? b=some u)(hp:h.objs.size<=a)(hn:H a=none):Un fs ex H (upd H a o) h h' where
 keep:=λb u q _ _ _=>k b u q
 slot:=λb u q _ _ _=>⟨u.slots,k b u q⟩
 free:=λb u q n _=>by rw[aI<|jv<|dN (dZ q) hp];exact n
 there:=λb u q _=>⟨u,k b u q⟩
 tups:=λb xs q=>by rw[aI<|dS q hn];exact q
 frzs:=λb u xs q=>by rw[aI<|dS q hn];exact q
 tbls:=λb ps q=>⟨#[],by rw[aI<|dS q hn,q];simp⟩
 sys:=λ_ ⟨_,q⟩ n=>by rw[aI<|jv<|dN (yE E8<|dZ q) hp];exact n
theorem Un.write(mu:zd (H x))(he:e=x\/H e=some (.own x))(k:∀b u,b≠e->h.get? b=some u->h'.get? b=some u)(heo:∃u,h'.get? e=some u)(hk:(∃us,H x=some (.lst us))\/∀us,o≠.lst us):Un fs ex H (upd H x o) h h':=by
 have hx:∀b,H b=none->b≠x:=λb n z=>by subst z;rw[n]at mu;exact mu
 have hb:∀b,H b=none->b≠e:=λb n z=>by
  subst z;rcases he with r|r
  exact hx b n r;rw[n]at r;cases r
 have hm:∀b u,H b=some u->¬zd (some u)->b≠x:=λb u q nm z=>by subst z;rw[q]at mu;exact nm mu
 refine ⟨λb u q n _ _=>k b u (hb b n) q,λb u q n _ _=>⟨u.slots,k b u (hb b n) q⟩,λb u q n _=>by rw [aI<|hx b n];exact n,λb u q _=>?_,
  λb xs q=>by rw[aI<|hm b _ q λz=>z];exact q,λb u xs q=>by rw[aI<|hm b _ q λz=>z];exact q,λb ps q=>⟨#[],by rw[aI<|hm b _ q λz=>z,q];simp⟩,λ_ _ n ys=>by
   by_cases z:sysModules=x
   .rw[z,aV]
    rcases hk with⟨us,hk⟩|hk
    .exact PQ (z▸hk) (n us)
    .exact λy=>hk ys (PY y)
   .rw[aI z];exact n ys⟩
 by_cases hbe:b=e;subst hbe;exact heo;exact⟨u,k b u hbe q⟩
end
def ze(h:Heap)(H:Hp):List Addr:=(List.range h.objs.size).filter λa=>(H a).isSome
def jP(h:Heap)(H:Hp):Heap:=W.hideAll h<|ze h H
theorem ml(h:Heap)(H:Hp):(jP h H).objs.size=h.objs.size:=W.hideAll_size _ _
theorem pC(e:h.get? b=some o)(n:H b=none):(jP h H).get? b=some o:=
 W.hideAll_get _ e λhm=>by
  have q:(H b).isSome=true:=(Yag.mp hm).2;rw[n]at q;simp at q
theorem qC(e:(jP h H).get? b=some o):h.get? b=some o/\H b=none:=by
 have e':h.get? b=some o:=W.of_hideAll (ze h H) e;refine⟨e',?_⟩;cases q:H b with
 |none=>rfl|some x=>have hm:b∈ze h H:=Yag.mpr ⟨Yah.mpr<|dZ e',by simp[q]⟩;have z:(jP h H).get? b=none:=W.hideAll_none (ze h H) hm;rw[z]at e;cases e
def qD(g h:Heap)(L:Addr):Lb:=(List.range h.objs.size).filterMap λa=>if a=L\/(g.get? a).isSome=true then none else(h.get? a).map λo=>(a,o)
def rest(g h:Heap)(L d:Addr):Lb:=(qD g h L).filter λp=>decide (p.1≠d)
structure Mod(K:PN)(mg:Qt)(base:Heap):Prop where
 kin:K.In base
 glob:base.Ns mainGlobals mg
 blt:∃mb,base.Ns builtinsNs mb/\∀x:Str,x≠ "__name__" ->mb x=bootBuiltins x
 nolimit:base.NoLimit
structure Cx where
 prog:Program
 w:World
 K:PN
 mg:Str->Option Value
 base:Heap
 A:Around
 N:Qx
 s₀:Shared
 H₀:Hp
 env:Env
 outer:List Env
 stack:List Env
 ex:List Addr
 fn:Str->Bool
 calm:Bool
 pn:Lb
 xe:Value->Shared->Prop
abbrev QC(X:Cx)(x:Str):Prop:=X.fn x=true\/X.env.scope.names.lookup x=some .local
abbrev QD(X:Cx)(e:Expr)(es:List Expr):Prop:=starEach (e::es) X.env=(false,eval e X.env)::starEach es X.env
abbrev QE(X:Cx)(pos:Pos)(es:List Expr):Prop:=(backTo pos<|starEach es X.env).any (·.1)=false
variable{X:Cx}
def dO(l:List Env):List Addr:=l.filterMap (·.frame)
abbrev Cx.fs(X:Cx):List Addr:=dO X.outer
def mm(sc:Scope)(x:Str):Prop:=sc.names.lookup x=some .local\/sc.names.lookup x=some .cell\/sc.names.lookup x=some .free
def pD(sc:Scope)(x:Str):Prop:=sc.names.lookup x=some .local\/sc.names.lookup x=some .cell
def vS(env:Env)(h:Heap)(m:Qt)(x:Str)(u:Value):Prop:=
 (env.kindOf x=some .local/\m x=some u)\/((env.kindOf x=some .cell\/env.kindOf x=some .free)/\∃c,env.cells.lookup x=some c/\h.IsCell c (some u))
structure Cx.Ok(X:Cx):Prop where
 mod:Mod X.K X.mg X.base
 kind:X.env.scope.kind=.function
 glob:X.env.globals=mainGlobals
 blt:X.env.builtins=builtinsNs
 above:X.s₀.heap.objs.size<=X.env.locals
 inj:∀x y c,X.env.cells.lookup x=some c->X.env.cells.lookup y=some c->x=y
 has:∀x,(X.env.kindOf x=some .cell\/X.env.kindOf x=some .free)->∃c,X.env.cells.lookup x=some c
 cab:∀x c,X.fn x=true->X.env.cells.lookup x=some c->X.s₀.heap.objs.size<=c
 hd:X.calm=true->X.A.handled=none
 frames:X.A.frames=some X.stack
 stk:X.stack=X.outer\/(X.stack=X.env::X.outer/\X.env.frame=some X.env.locals)
 exf:∀b∈X.ex,b≠X.env.locals/\∀x c,X.env.cells.lookup x=some c->c≠b
 bs:∀b o,X.base.get? b=some o->X.s₀.heap.get? b=some o/\X.H₀ b=none
 bsz:X.base.objs.size<=X.s₀.heap.objs.size
 noex:∀b o,X.base.get? b=some o->b∉X.ex
 exfs:∀b∈X.ex,b∉X.fs
 funs:X.s₀.heap.FunFrames X.base X.outer
 frf:∀b∈X.fs,X.H₀ b=none
 sys0:∀xs,X.H₀ sysModules≠some (.lst xs)
structure Inv(X:Cx)(tv:Lb)(σ:List (Option V))(H:Hp)(s:Shared):Prop where
 ok:X.Ok
 os:s.os=X.s₀.os
 bare:AllBare s.gens
 base:Un X.fs X.ex X.H₀ H X.s₀.heap s.heap
 loc:∃m,s.heap.Ns X.env.locals m/\∀(i:Nat) (x:Str) (v:V),X.N[i]? = some x->σ[i]? = some (some v)->mm X.env.scope x->∃u,RelV v u/\vS X.env s.heap m x u
 cell:∀x c,X.env.cells.lookup x=some c->∃v,s.heap.IsCell c v
 free:H X.env.locals=none
 freeC:∀x c,X.env.cells.lookup x=some c->H c=none
 pin:∀p∈X.pn++tv,s.heap.get? p.1=some p.2/\H p.1=none/\p.1≠X.env.locals/\p.1∉X.fs/\∀v,p.2.data≠.cell v
 hok:HOk X.prog X.w H s.heap
 len:σ.length=X.N.length
section
variable{σ:List (Option V)}
theorem Cx.Ok.nofr(ok:X.Ok)(e:X.base.get? b=some o):b∉X.fs:=λhb=>by have:=(ok.funs.mem hb).1;rw[e]at this;cases this
theorem Inv.bs(I:Inv X tv σ H s):∀b o,X.base.get? b=some o->s.heap.get? b=some o/\H b=none:=λb o e=>
 ⟨I.base.keep b o (I.ok.bs b o e).1 (I.ok.bs b o e).2 (I.ok.nofr e)<|I.ok.noex b o e,I.base.free b o (I.ok.bs b o e).1 (I.ok.bs b o e).2<|I.ok.noex b o e⟩
theorem Inv.bk(I:Inv X tv σ H s):∀b o,X.base.get? b=some o->s.heap.get? b=some o:=λb o e=>(I.bs b o e).1
theorem Inv.mod(I:Inv X tv σ H s):Mod X.K X.mg X.base:=I.ok.mod
theorem Inv.hasG(I:Inv X tv σ H s):∃o,s.heap.get? mainGlobals=some o:=by obtain⟨o,_,_,e,_⟩:=I.ok.mod.glob;exact⟨o,I.bk _ _ e⟩
theorem Inv.sysn(I:Inv X tv σ H s):∀xs,H sysModules≠some (.lst xs):=by obtain⟨o,_,_,e,_⟩:=I.ok.mod.glob;exact I.base.sys (I.ok.noex _ _ e) ⟨o,(I.ok.bs _ _ e).1⟩ I.ok.sys0
theorem Inv.kIn(I:Inv X tv σ H s):X.K.In s.heap:=I.ok.mod.kin.keeps I.bk
theorem Inv.lt(I:Inv X tv σ H s):X.env.locals<s.heap.objs.size:=let⟨_,hn,_⟩:=I.loc;hn.lt
theorem Inv.sz(I:Inv X tv σ H s):X.s₀.heap.objs.size<=s.heap.objs.size:=jw I.ok.above<|lO I.lt
theorem Inv.nofs(I:Inv X tv σ H s)(h:s.heap.objs.size<=a):a∉X.fs:=λhb=>by obtain⟨_,o,ho,_⟩:=I.ok.funs.mem hb;exact PQ (dN (dZ ho)<|jw I.sz h)<|ju _
theorem Inv.cne(I:Inv X tv σ H s):∀x c,X.env.cells.lookup x=some c->c≠X.env.locals:=λx c e z=>by obtain⟨v,o,ho,hd⟩:=I.cell x c e;obtain⟨m,⟨o',es,ep,ho',hd',_⟩,_⟩:=I.loc;rw[z,ho']at ho;cases ho;rw[hd']at hd;cases hd
theorem Inv.funs(I:Inv X tv σ H s):s.heap.FunFrames X.base X.outer:=by
 have all:∀(l:List Env),(∀b∈dO l,b∈X.fs)->X.s₀.heap.FunFrames X.base l->s.heap.FunFrames X.base l:=by
  intro l;induction l with
  |nil=>intro _ _;trivial|cons env r ih=>intro hs hl;obtain⟨hk,⟨L,o,hf,hn,ho,hd⟩,hr⟩:=hl;have hL:L∈X.fs:=hs L (by unfold dO;rw[yF,hf];exact md);obtain⟨sl,e⟩:=I.base.slot L o ho (I.ok.frf L hL) hL λz=>I.ok.exfs L z hL;exact⟨hk,⟨L,_,hf,hn,e,hd⟩,ih (λb hb=>hs b (by unfold dO;rw[yF,hf];exact kj _ hb)) hr⟩
 exact all X.outer (λ_ hb=>hb) I.ok.funs
theorem Inv.stack(I:Inv X tv σ H s):s.heap.FunFrames X.base X.stack:=by
 rcases I.ok.stk with e|⟨e,hf⟩
 rw[e];exact I.funs;rw[e];obtain⟨m,hn,_⟩:=I.loc;refine .cons (by rw[I.ok.kind];decide) hf hn ?_ I.funs;exact Heap.get?_none_of_le<|jw I.ok.bsz I.ok.above
theorem Inv.stkSub(I:Inv X tv σ H s):∀b∈dO X.stack,b∈X.env.locals::X.fs:=λb hb=>by
 rcases I.ok.stk with e|⟨e,hf⟩
 rw[e]at hb;exact kj _ hb;rw[e]at hb;unfold dO at hb;rw[yF,hf]at hb;exact hb
theorem Inv.stkFree(I:Inv X tv σ H s):∀b∈dO X.stack,H b=none:=λb hb=>by
 rcases Yan.mp (I.stkSub b hb) with e|hb
 rw[e];exact I.free;obtain⟨_,o,ho,_⟩:=I.ok.funs.mem hb;exact I.base.free b o ho (I.ok.frf b hb) λz=>I.ok.exfs b z hb
theorem Inv.step(I:Inv X tv σ H s)
  (hch:∀b∈ch,(b∈X.ex\/X.s₀.heap.objs.size<=b)/\b≠X.env.locals/\(∀x c,X.env.cells.lookup x=some c->c≠b)/\∀p∈X.pn++tv,p.1≠b)
  (keep:∀b o,b≠X.env.locals->b∉X.fs->b∉ch->s.heap.get? b=some o->H b=none->h'.get? b=some o)
  (slot:∀b o,b≠X.env.locals->b∈X.fs->b∉ch->s.heap.get? b=some o->H b=none->∃sl,h'.get? b=some { o with slots:=sl }) (free:∀b o,b∉ch->s.heap.get? b=some o->H b=none->H' b=none)
  (there:∀b o,b∉ch->s.heap.get? b=some o->∃o',h'.get? b=some o')
  (tups:∀b xs,H b=some (.tup xs)->H' b=some (.tup xs)) (frzs:∀b o u,H b=some (.frz o u)->H' b=some (.frz o u)) (tbls:∀b ps,H b=some (.tbl ps)->∃more,H' b=some (.tbl<|ps++more))
  (ns:∀m,s.heap.Ns X.env.locals m->h'.Ns X.env.locals m) (hok:HOk X.prog X.w H' h') (hg:AllBare g') (sy:(∀xs,H sysModules≠some (.lst xs))->∀xs,H' sysModules≠some (.lst xs)) :
  Inv X tv σ H' { s with heap:=h',gens:=g',drawn:=d',toks:=t' }:=by
 have neL:∀b o,X.s₀.heap.get? b=some o->b≠X.env.locals:=λb o e=>jv<|dN (dZ e) I.ok.above;have neC:∀b o,X.s₀.heap.get? b=some o->b∉X.ex->b∉ch:=λb o e hx hb=>by
  rcases(hch b hb).1 with z|z
  .exact hx z
  .exact PQ (dN (dZ e) z)<|ju _
 have cellK:∀x c,X.env.cells.lookup x=some c->∀v,s.heap.IsCell c v->h'.IsCell c v:=λx c e v ⟨o,ho,hd⟩=>by
  have nch:c∉ch:=λz=>(hch c z).2.2.1 x c e rfl
  by_cases hc:c∈X.fs
  .obtain⟨sl,q⟩:=slot c o (I.cne x c e) hc nch ho (I.freeC x c e)
   exact⟨_,q,hd⟩
  .exact⟨o,keep c o (I.cne x c e) hc nch ho<|I.freeC x c e,hd⟩
 refine⟨I.ok,I.os,hg,⟨λb o e n hb hx=>?_,λb o e n hb hx=>?_,λb o e n hx=>?_,λb o e hx=>?_,λb xs e=>tups b xs<|I.base.tups b xs e,λb o xs e=>frzs b o xs<|I.base.frzs b o xs e,λb ps e=>?_,λx0 e0 n=>sy<|I.base.sys x0 e0 n⟩,?_,λx c e=>?_,?_,λx c e=>?_,λp hp=>?_,hok,I.len⟩
 .exact keep b o (neL b o e) hb (neC b o e hx) (I.base.keep b o e n hb hx)<|I.base.free b o e n hx
 .obtain⟨sl,e1⟩:=I.base.slot b o e n hb hx
  obtain⟨sl',e2⟩:=slot b _ (neL b o e) hb (neC b o e hx) e1<|I.base.free b o e n hx;exact⟨sl',e2⟩
 .obtain⟨o',e1⟩:=I.base.there b o e hx
  exact free b o' (neC b o e hx) e1<|I.base.free b o e n hx
 .obtain⟨o',e1⟩:=I.base.there b o e hx
  exact there b o' (neC b o e hx) e1
 .obtain⟨m1,e1⟩:=I.base.tbls b ps e
  obtain⟨m2,e2⟩:=tbls b _ e1;exact⟨m1++m2,by rw[e2,Bj]⟩
 .obtain⟨m,hn,hl⟩:=I.loc
  refine⟨m,ns m hn,λi x v e1 e2 e3=>?_⟩;obtain⟨u,r,l⟩:=hl i x v e1 e2 e3;refine⟨u,r,?_⟩;rcases l with l|⟨k,c,e,z⟩
  .exact .inl l
  .exact .inr ⟨k,c,e,cellK x c e _ z⟩
 .obtain⟨v,z⟩:=I.cell x c e
  exact⟨v,cellK x c e v z⟩
 .obtain⟨m,⟨o,_,_,ho,_⟩,_⟩:=I.loc
  exact free _ o (λz=>(hch _ z).2.1 rfl) ho I.free
 .obtain⟨v,o,ho,hd⟩:=I.cell x c e
  exact free c o (λz=>(hch c z).2.2.1 x c e rfl) ho<|I.freeC x c e
 .obtain⟨e,n,ne,nf,d⟩:=I.pin p hp
  have nch:p.1∉ch:=λz=>(hch p.1 z).2.2.2 p hp rfl;exact⟨keep p.1 p.2 ne nf nch e n,free p.1 p.2 nch e n,ne,nf,d⟩
theorem Inv.un(I:Inv X tv σ H s)(u:Un X.fs [] H H' s.heap h')(hok:HOk X.prog X.w H' h'):Inv X tv σ H' { s with heap:=h',toks:=t' }:=by
 obtain⟨m,⟨o,es,ep,ho,r⟩,_⟩:=id I.loc;obtain⟨sl,hL⟩:=u.any ho I.free KE;exact I.step (g':=s.gens) (d':=s.drawn) (ch:=[]) (λ_ z=>nomatch z) (λb o _ hb _ e n=>u.keep b o e n hb<|KE) (λb o _ hb _ e n=>u.slot b o e n hb<|KE) (λb o _ e n=>u.free b o e n<|KE) (λb o _ e=>u.there b o e<|KE) u.tups u.frzs u.tbls (λm' hm=>by
  obtain⟨o',es',ep',ho',r'⟩:=hm;rw[ho]at ho';cases ho';exact⟨_,es',ep',hL,r'⟩) hok I.bare<|u.sys KE I.hasG
theorem Inv.call(I:Inv X tv σ H s)(u:Un (dO X.stack) ch H H' s.heap h')(hok:HOk X.prog X.w H' h')(hg:AllBare g')
  (hch:∀b∈ch,(b∈X.ex\/X.s₀.heap.objs.size<=b)/\b≠X.env.locals/\(∀x c,X.env.cells.lookup x=some c->c≠b)/\∀p∈X.pn++tv,p.1≠b) :
  Inv X tv σ H' { s with heap:=h',gens:=g',drawn:=d',toks:=t' }:=by
 obtain⟨m,⟨o,es,ep,ho,r⟩,_⟩:=id I.loc;obtain⟨sl,hL⟩:=u.any ho I.free λz=>(hch _ z).2.1 rfl;exact I.step (ch:=ch) hch (λb o hL hb hc e n=>u.keep b o e n (λz=>(Yan.mp<|I.stkSub b z).elim hL hb) hc) (λb o _ _ hc e n=>u.any e n hc) (λb o hc e n=>u.free b o e n hc) (λb o hc e=>u.there b o e hc) u.tups u.frzs u.tbls (λm' hm=>by
  obtain⟨o',es',ep',ho',r'⟩:=hm;rw[ho]at ho';cases ho';exact ⟨_,es',ep',hL,r'⟩) hok hg<|u.sys (λz=>by
   obtain⟨o0,_,_,e0,_⟩:=I.ok.mod.glob;rcases(hch _ z).1 with y|y
   .exact I.ok.noex _ _ e0 y
   .exact PQ (dN (dZ (I.ok.bs _ _ e0).1) y)<|ju _) I.hasG
theorem Inv.turned(I:Inv X tv σ H s)(k:∀b o,b≠it->s.heap.get? b=some o->h'.get? b=some o)(hn:H it=none)(hL:it≠X.env.locals)
  (h1:it∈X.ex\/X.s₀.heap.objs.size<=it) (h2:∀x c,X.env.cells.lookup x=some c->c≠it) (h3:∀p∈X.pn++tv,p.1≠it):Inv X tv σ H { s with heap:=h',toks:=t' }:=by
 have nit:∀b u,H b=some u->b≠it:=λb u e z=>by rw[z,hn]at e;cases e
 refine I.step (g':=s.gens) (d':=s.drawn) (ch:=[it]) (λb hb=>?_) (λb o _ _ hc e _=>k b o (λz=>hc<|by simp[z]) e) (λb o _ _ hc e _=>⟨o.slots,k b o (λz=>hc<|by simp[z]) e⟩) (λ_ _ _ _ n=>n)
  (λb o hc e=>⟨o,k b o (λz=>hc<|by simp[z]) e⟩) (λ_ _ e=>e) (λ_ _ _ e=>e) (λb ps e=>⟨#[],by rw[e];simp⟩) (λm hm=>?_) (λb u e=>?_) I.bare (λn=>n)
 .have e:b=it:=by simpa using hb
  subst e;exact⟨h1,hL,h2,h3⟩
 .obtain⟨o,es,ep,ho,r⟩:=hm
  exact⟨o,es,ep,k _ o (P9 hL) ho,r⟩
 .refine(I.hok b u e).stay (λc v hc q=>k c v ?_ q) (λ_ q=>q) λ_ _ q=>q
  rcases hc with z|z
  .rw[z];exact nit b u e
  .exact nit c _ z
theorem Inv.tok(I:Inv X tv σ H s)(t:Nat):Inv X tv σ H { s with toks:=t }:=I.un (h':=s.heap) (t':=t) Un.refl I.hok
theorem Inv.kept{t':Nat}(I:Inv X tv σ H s)(k:∀b u,s.heap.get? b=some u->h'.get? b=some u):Inv X tv σ H { s with heap:=h',toks:=t' }:=I.un (Un.kept k)<|I.hok.kept k
theorem Inv.laid{a:Addr}{o:HO}{t':Nat}(I:Inv X tv σ H s)(k:∀b u,s.heap.get? b=some u->h'.get? b=some u)(hp:s.heap.objs.size<=a)(new:ObjOk X.prog X.w (upd H a o) h' a o) :
  Inv X tv σ (upd H a o) { s with heap:=h',toks:=t' }:=I.un (Un.laid k hp<|I.hok.fresh hp)<|I.hok.laid k hp new
theorem Inv.write{x e:Addr}{o:HO}{t':Nat}(I:Inv X tv σ H s)(mu:zd (H x))(he:e=x\/H e=some (.own x))(k:∀b u,b≠e->s.heap.get? b=some u->h'.get? b=some u)(heo:∃u,h'.get? e=some u)
  (new:ObjOk X.prog X.w (upd H x o) h' x o) (hk:(∃us,H x=some (.lst us))\/∀us,o≠.lst us):Inv X tv σ (upd H x o) { s with heap:=h',toks:=t' }:=I.un (Un.write mu he k heo hk)<|I.hok.write mu he k heo new
theorem Inv.pins_of{pins':Lb}(I:Inv X tv σ H s)(h:∀p∈pins',s.heap.get? p.1=some p.2/\H p.1=none/\p.1≠X.env.locals/\p.1∉X.fs/\∀v,p.2.data≠.cell v):Inv X pins' σ H s:=
 ⟨I.ok,I.os,I.bare,I.base,I.loc,I.cell,I.free,I.freeC,λp hp=>(Yao.mp hp).elim (λz=>I.pin p<|yG _ z)<|h p,I.hok,I.len⟩
theorem iH(hN:N.Nodup)(a:N[i]? = some x)(b:N[j]? = some x):i=j:=by obtain⟨h1,e1⟩:=Yaq.mp a;obtain⟨h2,e2⟩:=Yaq.mp b;exact(List.getElem_inj hN).mp<|e1.trans e2.symm
theorem gH{M:Model}{E:Mn}{v:V}{u:Value}{Q:Unit->Shared->Prop}(I:Inv X tv σ H s)(hN:X.N.Nodup)(hi:X.N[i]? = some x)(hx:pD X.env.scope x)(r:RelV v u)
  (h:∀s',Inv X tv (σ.set i<|some v) H s'->(∃a,Heap.SameBut a s.heap s'.heap/\(a=X.env.locals\/X.env.cells.lookup x=some a))->Q () s') (hf:autoParam (QC X x) QO._auto_1):wpAny M A (storeName X.env x u) Q E s:=by
 obtain⟨m,hn,hl⟩:=id I.loc;have hcls:(X.env.scope.kind==.class||(X.env.scope.kind==.module&&X.env.locals != X.env.globals))=false:=by rw[I.ok.kind];rfl
 have hiσ:i<σ.length:=by rw[I.len];exact(Yaq.mp hi).1
 have cne:=I.cne;have tracked:∀{a:Addr} {h':Heap},(∃o,s.heap.get? a=some o/\H a=none)->Heap.SameBut a s.heap h'->HOk X.prog X.w H h':=λ{a h'} ha hs b ob e=>by
  obtain⟨_,_,hfree⟩:=ha;refine(I.hok b ob e).stay (λc w' hc q=>(hs.2 c ?_).trans q) (λ_ q=>q) λ_ _ q=>q;rintro rfl;rcases hc with rfl|hc
  .rw[hfree]at e;cases e
  .rw[hfree]at hc;cases hc
 rcases hx with hk|hk
 .refine wpAny_storeName_local hk hn (λh' hn' hs=>?_) hcls
  obtain⟨oL,_,_,hoL,_⟩:=id hn;refine h _ ⟨I.ok,I.os,I.bare,⟨λb o e n hb hx=>?_,λb o e n hb hx=>?_,I.base.free,λb o e hx=>?_,I.base.tups,I.base.frzs,I.base.tbls,I.base.sys⟩,⟨_,hn',λj y v' e1 e2 e3=>?_⟩,λy c e=>?_,I.free,I.freeC,λp hp=>?_,tracked ⟨oL,hoL,I.free⟩ hs,by simpa using I.len⟩ ⟨_,hs,.inl rfl⟩
  .exact(hs.2 b<|jv<|dN (dZ e) I.ok.above).trans (I.base.keep b o e n hb hx)
  .obtain⟨sl,e1⟩:=I.base.slot b o e n hb hx
   exact⟨sl,(hs.2 b<|jv<|dN (dZ e) I.ok.above).trans e1⟩
  .obtain⟨o',e1⟩:=I.base.there b o e hx
   exact⟨o',(hs.2 b<|jv<|dN (dZ e) I.ok.above).trans e1⟩
  .by_cases hj:j=i
   .subst hj
    rw[hi]at e1;cases e1;rw[e9 hiσ]at e2;cases e2;exact⟨u,r,.inl ⟨hk,KE⟩⟩
   .rw[d6<|P9 hj]at e2
    obtain⟨u',r',q⟩:=hl j y v' e1 e2 e3;refine⟨u',r',?_⟩;rcases q with⟨k,e⟩|⟨k,c,e,z⟩
    .refine .inl ⟨k,?_⟩
     have:y≠x:=λe=>hj<|iH hN e1 (e▸hi);simp[this,e]
    .exact .inr ⟨k,c,e,z.sameBut hs<|cne y c e⟩
  .obtain⟨w',z⟩:=I.cell y c e
   exact⟨w',z.sameBut hs<|cne y c e⟩
  .obtain⟨e,n,ne,nf,d⟩:=I.pin p hp
   exact⟨(hs.2 p.1 ne).trans e,n,ne,nf,d⟩
 .have hfn:X.fn x=true:=by
   rcases hf with z|z
   .exact z
   .rw[z]at hk;cases hk
  obtain⟨c,hc⟩:=I.ok.has x<|.inl hk;obtain⟨w',z⟩:=I.cell x c hc;refine wpAny_storeName_cell I.ok.kind hk hc z<|λh' hc' hs=>?_;obtain⟨oc,hoc,hocd⟩:=id z;refine h { s with heap:=h' } ⟨I.ok,I.os,I.bare,⟨λb o e n hb hx=>?_,λb o e n hb hx=>?_,I.base.free,λb o e hx=>?_,I.base.tups,I.base.frzs,I.base.tbls,I.base.sys⟩,⟨m,hn.sameBut hs<|P9<|cne x c hc,λj y v' e1 e2 e3=>?_⟩,λy c' e=>?_,I.free,I.freeC,λp hp=>?_,tracked ⟨oc,hoc,I.freeC x c hc⟩ hs,by simpa using I.len⟩ ⟨c,hs,.inr hc⟩
  .exact(hs.2 b<|jv<|dN (dZ e)<|I.ok.cab x c hfn hc).trans (I.base.keep b o e n hb hx)
  .obtain⟨sl,e1⟩:=I.base.slot b o e n hb hx
   exact⟨sl,(hs.2 b<|jv<|dN (dZ e)<|I.ok.cab x c hfn hc).trans e1⟩
  .obtain⟨o',e1⟩:=I.base.there b o e hx
   exact⟨o',(hs.2 b<|jv<|dN (dZ e)<|I.ok.cab x c hfn hc).trans e1⟩
  .by_cases hj:j=i
   .subst hj
    rw[hi]at e1;cases e1;rw[e9 hiσ]at e2;cases e2;exact⟨u,r,.inr ⟨.inl hk,c,hc,hc'⟩⟩
   .rw[d6<|P9 hj]at e2
    obtain⟨u',r',q⟩:=hl j y v' e1 e2 e3;refine⟨u',r',?_⟩;rcases q with q|⟨k,c',e,z'⟩
    .exact .inl q
    .refine .inr ⟨k,c',e,z'.sameBut hs ?_⟩
     rintro rfl;exact hj<|iH hN e1 (I.ok.inj _ _ _ e hc▸hi)
  .by_cases hcc:c'=c
   .subst hcc;exact⟨_,hc'⟩
   .obtain⟨w2,z2⟩:=I.cell y c' e
    exact⟨w2,z2.sameBut hs hcc⟩
  .obtain⟨e,n,ne,nf,d⟩:=I.pin p hp
   refine⟨(hs.2 p.1 ?_).trans e,n,ne,nf,d⟩;intro q;rw[q,hoc]at e;have q':oc=p.2:=PY e;exact d w' (by rw[<-q'];exact hocd)
theorem gh{M:Model}{E:Mn}{v:V}{u:Value}{Q:Unit->Shared->Prop}(I:Inv X tv σ H s)(hN:X.N.Nodup)(hi:X.N[i]? = some x)(hx:pD X.env.scope x)(r:RelV v u)
  (h:∀s',Inv X tv (σ.set i<|some v) H s'->Q () s') (hf:autoParam (QC X x) QO._auto_1):wpAny M A (storeName X.env x u) Q E s:=
 gH I hN hi hx r (λs' I' _=>h s' I') hf
theorem Inv.call'(I:Inv X tv σ H s)(ho:s'.os=s.os)(u:Un (dO X.stack) ch H H' s.heap s'.heap)(hok:HOk X.prog X.w H' s'.heap)(hg:AllBare s'.gens)
  (hch:∀b∈ch,(b∈X.ex\/X.s₀.heap.objs.size<=b)/\b≠X.env.locals/\(∀x c,X.env.cells.lookup x=some c->c≠b)/\∀p∈X.pn++tv,p.1≠b):Inv X tv σ H' s':=by
 obtain⟨h',g',d',t',o'⟩:=s';have e:o'=s.os:=ho;subst e;exact I.call (g':=g') (t':=t') (d':=d') u hok hg hch
end
abbrev XK:=Value->Option Addr->Hp->Prop
abbrev St:=List<|Option V
variable{σ:St}
abbrev VK:=V->Hp->Prop
abbrev TE:=St->Hp->VK->Prop
variable{ta te:TE}
abbrev TT:=St->Hp->(Bool->Hp->Prop)->Prop
variable{tc:TT}
abbrev TA:=St->Hp->(QJ->Hp->Prop)->Prop
variable{t:TA}
structure lh where
 nx:St->Hp->Prop
 rt:VK
 bk:St->Hp->Prop:=λ_ _=>False
 ct:St->Hp->Prop:=λ_ _=>False
abbrev TS:=lh->St->Hp->Prop
def EP(X:Cx)(tv:Lb)(σ:St)(Q:VK)(u:Value)(s':Shared):Prop:=∃v H',Inv X tv σ H' s'/\RelV v u/\Q v H'
def TP(X:Cx)(tv:Lb)(σ:St)(Q:Bool->Hp->Prop)(b:Bool)(s':Shared):Prop:=∃H',Inv X tv σ H' s'/\Q b H'
def AP(X:Cx)(tv:Lb)(σ:St)(Q:QJ->Hp->Prop)(us:Qu)(s':Shared):Prop:=∃vs H',Inv X tv σ H' s'/\Vals vs us/\Q vs H'
def SP(X:Cx)(tv:Lb)(D:lh)(f:Flow)(s':Shared):Prop:=
 match f with
 |.next=>∃σ' H',Inv X tv σ' H' s'/\D.nx σ' H'|.brk=>∃σ' H',Inv X tv σ' H' s'/\D.bk σ' H'|.cont=>∃σ' H',Inv X tv σ' H' s'/\D.ct σ' H'|.ret u=>∃v σ' H',Inv X tv σ' H' s'/\RelV v u/\D.rt v H'
def PE(X:Cx)(e:Expr)(t:TE):Prop:=
 ∀(tv:Lb) (s:Shared) (σ:St) (H:Hp) (Q:VK),Inv X tv σ H s->t σ H Q->wpAny (model X.prog X.w) X.A (eval e X.env) (EP X tv σ Q) X.xe s
def PT(X:Cx)(e:Expr)(t:TT):Prop:=
 ∀(tv:Lb) (s:Shared) (σ:St) (H:Hp) (Q:Bool->Hp->Prop),Inv X tv σ H s->t σ H Q->wpAny (model X.prog X.w) X.A (isTrue e X.env<|eval e X.env) (TP X tv σ Q) X.xe s
def PW(X:Cx)(e:Expr)(t:TT):Prop:=
 ∀(whole:Sem Value) (tv:Lb) (s:Shared) (σ:St) (H:Hp) (Q:Bool->Hp->Prop),Inv X tv σ H s->t σ H Q->wpAny (model X.prog X.w) X.A (isTrue e X.env whole) (TP X tv σ Q) X.xe s
theorem PW.pt{t:TT}(h:PW X e t):PT X e t:=h _
def PA(X:Cx)(es:List Expr)(t:TA):Prop:=
 ∀(pos:Pos) (tv:Lb) (s:Shared) (σ:St) (H:Hp) (Q:QJ->Hp->Prop),Inv X tv σ H s->t σ H Q->wpAny (model X.prog X.w) X.A (spliced<|backTo pos<|starEach es X.env) (AP X tv σ Q) X.xe s
def PS(X:Cx)(st:Stmt)(t:TS):Prop:=
 ∀(tv:Lb) (s:Shared) (σ:St) (H:Hp) (D:lh),Inv X tv σ H s->t D σ H->wpAny (model X.prog X.w) X.A (exec st X.env) (SP X tv D) X.xe s
def nc(X:Cx)(st:List Stmt)(t:TS):Prop:=
 ∀(tv:Lb) (s:Shared) (σ:St) (H:Hp) (D:lh),Inv X tv σ H s->t D σ H->wpAny (model X.prog X.w) X.A (execs st X.env) (SP X tv D) X.xe s
theorem bO{α:Type}{t:Sem α}{Q Q':α->Shared->Prop}{M:Model}{E:Mn}(h:wpAny M A t Q E s)(hQ:∀a s,Q a s->Q' a s):wpAny M A t Q' E s:=P2 h hQ λ_ _ x=>x
section
theorem PH{a b:Expr}{tb:TE}(ha:PE X a ta)(hb:PE X b tb){R:V->V->Hp->Prop}(I:Inv X tv σ H s)(h:ta σ H λx H1=>tb σ H1 λy H2=>R x y H2)
  {α:Type} {Q:α->Shared->Prop} {f:Value->Value->Sem α}
  (hf:∀v u s2 x y H2,Inv X tv σ H2 s2->RelV x v->RelV y u->R x y H2->wpAny (model X.prog X.w) X.A (f v u) Q X.xe s2) :
  wpAny (model X.prog X.w) X.A (eval a X.env) (λv s₁=>wpAny (model X.prog X.w) X.A (eval b X.env) (λu s₂=>wpAny (model X.prog X.w) X.A (f v u) Q X.xe s₂) X.xe s₁) X.xe s:=by
 refine bO (ha tv s σ H _ I h) λv s1 ⟨x,H1,I1,r1,q1⟩=>?_;refine bO (hb tv s1 σ H1 _ I1 q1) λu s2 ⟨y,H2,I2,r2,q2⟩=>?_;exact hf v u s2 x y H2 I2 r1 r2 q2
def vT(i:Nat):TE:=λσ H Q=>∃v,σ[i]? = some (some v)/\Q v H
def tC(v:V):TE:=λ_ H Q=>Q v H
theorem ez(hN:X.N[i]? = some x)(hv:mm X.env.scope x)(hd:(QA x:))(hcd:((x==("__classdict__" : Str))=false:)):PE X (.Name x pos) (vT i):=by
 intro tv s σ H Q I h;obtain⟨v,e,h⟩:=h;obtain⟨m,hn,hl⟩:=I.loc;obtain⟨u,r,l⟩:=hl i x v hN e hv;have fin:EP X tv σ Q u s:=⟨v,H,I,r,h⟩;rcases l with⟨hk,hm⟩|⟨hk,c,hc,hcell⟩
 exact wpAny_Name (wpAny_loadName_local I.ok.kind hk hn hm fin) hd;rcases hk with hk|hk
 exact wpAny_Name (wpAny_loadName_cell I.ok.kind hk hc hcell fin) hd;exact wpAny_Name (wpAny_loadName_free I.ok.kind hk hc hcell fin hcd) hd
theorem jQ{i j pos}:PE X (.Constant (.int i) j pos) (tC<|.int i):=λ_ _ _ H _ I h=>wpAny_Constant_int ⟨.int i,H,I.tok _,⟨_,rfl⟩,h⟩
theorem vU{b j pos}:PE X (.Constant (.bool b) j pos) (tC<|.bl b):=λ_ _ _ H _ I h=>Constant_bool ⟨.bl b,H,I,rfl,h⟩
theorem li{j pos}:PE X (.Constant .none j pos) (tC .non):=λ_ _ _ H _ I h=>Constant_none ⟨.non,H,I,rfl,h⟩
theorem tV{x j pos}:PE X (.Constant (.str x) j pos) (tC<|.str x):=λ_ _ _ H _ I h=>Calls.Constant_str ⟨.str x,H,I.tok _,⟨_,rfl⟩,h⟩
def Gl(X:Cx)(x:Str):Prop:=X.env.kindOf x=some .globalImplicit
theorem fD{E:Mn}{u:Value}(I:Inv X tv σ H s)(hg:Gl X x)(hm:X.mg x=some u)(h:Q u s)
  (hd:(QA x:)):wpAny (model X.prog X.w) X.A (eval (.Name x pos) X.env) Q E s:=
 Calls.Name_function_global I.ok.kind hg (Calls.loadGlobal_global (by rw[I.ok.glob];exact I.mod.glob.keeps I.bk) hm h) hd
theorem fT{E:Mn}{u:Value}(I:Inv X tv σ H s)(hg:Gl X x)(hm:X.mg x=none)(hv:bootBuiltins x=some u)(h:Q u s)
  (hn:(x≠ "__name__":)) (hd:(QA x:)):wpAny (model X.prog X.w) X.A (eval (.Name x pos) X.env) Q E s:=by
 obtain⟨mb,h1,h2⟩:=I.mod.blt;exact Calls.Name_function_global I.ok.kind hg (Calls.loadGlobal_builtin (by rw[I.ok.glob];exact I.mod.glob.keeps I.bk) hm (by rw[I.ok.blt];exact h1.keeps I.bk) ((h2 x hn).trans hv) h) hd
theorem qE{v:V}{u:Value}(hg:Gl X x)(hm:X.mg x=some u)(r:RelV v u)(hd:(QA x:)):PE X (.Name x pos) (tC v):=
 λ_ _ _ H _ I h=>fD I hg hm ⟨v,H,I,r,h⟩ hd
theorem qF{v:V}{u:Value}(hg:Gl X x)(hm:X.mg x=none)(hv:bootBuiltins x=some u)(r:RelV v u)(hn:(x≠ "__name__":))(hd:(QA x:)):PE X (.Name x pos) (tC v):=
 λ_ _ _ H _ I h=>fT I hg hm hv ⟨v,H,I,r,h⟩ hn hd
variable{a b:Expr}{tb:TE}
variable{tA tB':TT}{rest:List Expr}
def IZ(t u:TT):TT:=λσ H Q=>t σ H λc H1=>if c=true then Q true H1 else u σ H1 Q
def BF(t:TT):TT:=λσ H Q=>t σ H λc H1=>Q (!c) H1
theorem qG(ha:PT X a tA):PW X (.BoolOp .And [a] pos) tA:=by
 intro wh tv s σ H Q I h;refine isTrue_and<|bO (ha tv s σ H Q I h) λc s1 e=>?_;cases c with
 |true=>exact isTrue_and_nil e|false=>exact e
theorem tW(ha:PT X a tA):PW X (.BoolOp .Or [a] pos) tA:=by
 intro wh tv s σ H Q I h;refine isTrue_or<|bO (ha tv s σ H Q I h) λc s1 e=>?_;cases c with
 |false=>exact isTrue_or_nil e|true=>exact e
theorem vV(ha:PT X a tA)(hb:PW X (.BoolOp .Or (b::rest) pos) tB'):PW X (.BoolOp .Or (a::b::rest) pos) (IZ tA tB'):=by
 intro wh tv s σ H Q I h;refine isTrue_or<|bO (ha tv s σ H _ I h) λc s1 ⟨H1,I1,q1⟩=>?_;cases c with
 |true=>exact⟨H1,I1,q1⟩|false=>exact hb wh tv s1 σ H1 Q I1 q1
theorem tX(ha:PT X a tA):PT X (.UnaryOp .Not a pos) (BF tA):=by intro tv s σ H Q I h;exact isTrue_not<|ha tv s σ H (λc H1=>Q (!c) H1) I h
def vW(ta tb:TE):TE:=λσ H Q=>ta σ H λx H1=>∃c,x=.bl c/\if c=true then tb σ H1 Q else Q (.bl false) H1
def vX(ta:TE):TE:=λσ H Q=>ta σ H λx H1=>∃c,x=.bl c/\Q (.bl (!c)) H1
theorem tY{op}{t:TE}(h:PE X a t):PE X (.BoolOp op [a] pos) t:=λtv s σ H Q I hw=>BoolOp_one<|h tv s σ H Q I hw
theorem tZ(ha:PE X a ta)(hb:PE X (.BoolOp .And (b::rest) pos) tb):PE X (.BoolOp .And (a::b::rest) pos) (vW ta tb):=by
 intro tv s σ H Q I h;refine BoolOp_and<|bO (ha tv s σ H _ I h) λv s1 ⟨x,H1,I1,r1,q1⟩=>?_;obtain⟨c,rfl,q1⟩:=q1;cases r1;refine Qb ?_;cases c with
 |true=>exact hb tv s1 σ H1 Q I1 q1|false=>exact⟨.bl false,H1,I1,rfl,q1⟩
theorem t0(ha:PE X a ta):PE X (.UnaryOp .Not a pos) (vX ta):=by intro tv s σ H Q I h;refine UnaryOp_<|bO (ha tv s σ H _ I h) λv s1 ⟨x,H1,I1,r1,q1⟩=>?_;obtain⟨c,rfl,q1⟩:=q1;cases r1;exact not_of<|Qb ⟨.bl (!c),H1,I1,rfl,q1⟩
end
def SqL(K:PN)(H:Hp)(a:Addr)(xs:QJ):Prop:=
 Rd H a (.lst xs)\/
  ∃(o:Obj) (its:Array Value) (n:Nat),K.lookup a=some o/\o.cls=.type "list" /\o.dict=none/\o.data=.seq its n/\its.size<=sizeLine/\Vals xs its.toList
def SqT(K:PN)(H:Hp)(a:Addr)(xs:QJ):Prop:=
 Rd H a (.tup xs)\/
  ∃(o:Obj) (its:Array Value) (n:Nat),K.lookup a=some o/\o.cls=.type "tuple" /\o.data=.seq its n/\its.size<=sizeLine/\Vals xs its.toList
def BG:Value->Option V
 |.none=>some .non|.bool b=>some<|.bl b
 |.int i _=>some<|.int i
 |.str x _=>some<|.str x
 |.bytes b _=>some<|.byt b
 |.float b _=>some<|.flt b
 |.ref a=>some<|.ref a
 |.type n=>some<|.ty n
 |_=>none
theorem RelV.abs{x:V}{u:Value}(r:RelV x u):BG u=some x:=by
 cases x with
 |non=>cases r;rfl
 |bl _=>cases r;rfl
 |int _=>obtain⟨t,rfl⟩:=r;rfl
 |str _=>obtain⟨t,rfl⟩:=r;rfl
 |byt _=>obtain⟨t,rfl⟩:=r;rfl
 |flt _=>obtain⟨t,rfl⟩:=r;rfl
 |ref _=>cases r;rfl
 |ty _=>cases r;rfl
theorem RelV.inj{x y:V}{u:Value}(r:RelV x u)(q:RelV y u):x=y:=PY<|r.abs.symm.trans q.abs
theorem Vals.inj:∀{xs ys:QJ} {us:Qu},Vals xs us->Vals ys us->xs=ys
 |_,_,_,.nil,.nil=>rfl|_,_,_,.cons r t,.cons r' t'=>by rw[r.inj r',Vals.inj t t']
section
variable{ys:QJ}
theorem SqL.of(h:H a=some (.lst xs)):SqL K H a xs:=.inl<|.inl h
theorem SqT.of(h:H a=some (.tup xs)):SqT K H a xs:=.inl<|.inl h
theorem Inv.list(I:Inv X tv σ H s)(h:SqL X.K H a xs):∃its:Qu,Vals xs its/\PlainL s.heap a its.toArray/\xs.length<=sizeLine:=by
 rcases h with h|⟨o,its,n,hk,hc,hd,hs,hz,r⟩
 obtain⟨z,its,n,r,e⟩:=h.ok I.hok;exact⟨its,r,⟨_,n,e,rfl,rfl,rfl⟩,z⟩;refine⟨its.toList,r,⟨o,n,I.kIn a o hk,hc,hd,by simpa using hs⟩,?_⟩;have e:=r.length;simp only[yH]at e;omega
theorem Inv.tuple(I:Inv X tv σ H s)(h:SqT X.K H a xs):∃its:Qu,Vals xs its/\IsTup s.heap a its.toArray/\xs.length<=sizeLine:=by
 rcases h with h|⟨o,its,n,hk,hc,hs,hz,r⟩
 obtain⟨z,its,r,p⟩:=h.ok I.hok;exact⟨its,r,p,z⟩;refine⟨its.toList,r,⟨o,I.kIn a o hk,hc,n,by simpa using hs⟩,?_⟩;have e:=r.length;simp only[yH]at e;omega
theorem Inv.list_inj(I:Inv X tv σ H s)(h:SqL X.K H a xs)(h':SqL X.K H a ys):xs=ys:=by
 obtain⟨its,r,⟨o,n,e,_,_,d⟩,_⟩:=I.list h;obtain⟨its',r',⟨o',n',e',_,_,d'⟩,_⟩:=I.list h';rw[e]at e';cases e';rw[d]at d';injection d' with d1 _
 have:its=its':=by simpa using congrArg Array.toList d1
 subst this;exact r.inj r'
theorem Inv.tuple_inj(I:Inv X tv σ H s)(h:SqT X.K H a xs)(h':SqT X.K H a ys):xs=ys:=by
 obtain⟨its,r,⟨o,e,_,n,d⟩,_⟩:=I.tuple h;obtain⟨its',r',⟨o',e',_,n',d'⟩,_⟩:=I.tuple h';rw[e]at e';cases e';rw[d]at d';injection d' with d1 _
 have:its=its':=by simpa using congrArg Array.toList d1
 subst this;exact r.inj r'
end
abbrev Cx.wish(X:Cx)(E:Mn):Cx:={ X with xe:=E }
abbrev Cx.nox(X:Cx):Cx:=X.wish λ_ _=>False
theorem Cx.Ok.wish{X:Cx}(ok:X.Ok)(E:Mn):(X.wish E).Ok:=
 ⟨ok.mod,ok.kind,ok.glob,ok.blt,ok.above,ok.inj,ok.has,ok.cab,ok.hd,ok.frames,ok.stk,ok.exf,ok.bs,ok.bsz,ok.noex,ok.exfs,ok.funs,ok.frf,ok.sys0⟩
theorem Cx.Ok.unwish{E:Mn}(ok:(X.wish E).Ok):X.Ok:=
 ⟨ok.mod,ok.kind,ok.glob,ok.blt,ok.above,ok.inj,ok.has,ok.cab,ok.hd,ok.frames,ok.stk,ok.exf,ok.bs,ok.bsz,ok.noex,ok.exfs,ok.funs,ok.frf,ok.sys0⟩
section
variable{E:Mn}
theorem Inv.wish(I:Inv X tv σ H s)(E:Mn):Inv (X.wish E) tv σ H s:=⟨I.ok.wish E,I.os,I.bare,I.base,I.loc,I.cell,I.free,I.freeC,I.pin,I.hok,I.len⟩
theorem Inv.unwish(I:Inv (X.wish E) tv σ H s):Inv X tv σ H s:=⟨I.ok.unwish,I.os,I.bare,I.base,I.loc,I.cell,I.free,I.freeC,I.pin,I.hok,I.len⟩
theorem SP.unwish{D:lh}{f:Flow}{s':Shared}(h:SP (X.wish E) tv D f s'):SP X tv D f s':=by
 cases f with
 |next=>obtain⟨σ',H',I,q⟩:=h;exact⟨σ',H',I.unwish,q⟩
 |brk=>obtain⟨σ',H',I,q⟩:=h;exact⟨σ',H',I.unwish,q⟩
 |cont=>obtain⟨σ',H',I,q⟩:=h;exact⟨σ',H',I.unwish,q⟩
 |ret u=>obtain⟨v,σ',H',I,r,q⟩:=h;exact⟨v,σ',H',I.unwish,r,q⟩
end
section
variable{st:Stmt}{rest:List Stmt}{t u:TS}
def vY:TS:=λD σ H=>D.nx σ H
def BH(t u:TS):TS:=λD σ H=>t { D with nx:=u D } σ H
theorem jR:nc X [] vY:=λ_ _ σ H _ I h=>Qm ⟨σ,H,I,h⟩
theorem eJ(h1:PS X st t)(h2:nc X rest u):nc X (st::rest) (BH t u):=by
 intro tv s σ H D I h;refine wpAny_execs_cons<|bO (h1 tv s σ H { D with nx:=u D } I h) λf s1 q=>?_;cases f with
 |next=>obtain⟨σ',H',I',q⟩:=q;exact h2 tv s1 σ' H' D I' q
 |ret v=>exact q|brk=>exact q|cont=>exact q
theorem lU(h1:PS X st t):nc X [st] t:=by
 intro tv s σ H D I h;refine wpAny_execs_cons<|bO (h1 tv s σ H D I h) λf s1 q=>?_;cases f with
 |next=>exact Qm q|ret v=>exact q|brk=>exact q|cont=>exact q
theorem Inv.quiet(I:Inv X tv σ H s):interactive X.env=false:=by simp[interactive,I.ok.kind]
def vZ(te:TE):TS:=λD σ H=>te σ H λ_ H1=>D.nx σ H1
theorem gi(he:PE X e te)(hs:{swapsWith e none pos.line X.env=pure false}):PS X (.Expr e pos) (vZ te):=by intro tv s σ H D I h;exact wpAny_Expr_any (bO (he tv s σ H _ I h) λv s1 ⟨x,H1,I1,r1,q1⟩=>⟨σ,H1,I1,q1⟩) I.quiet hs
def BI(te:TE):TS:=λD σ H=>te σ H D.rt
theorem t4(he:PE X e te):PS X (.Return (some e) pos) (BI te):=by intro tv s σ H D I h;exact wpAny_Return_some<|bO (he tv s σ H _ I h) λv s1 ⟨x,H1,I1,r1,q1⟩=>⟨x,σ,H1,I1,r1,q1⟩
def BJ(c:TT)(t u:TS):TS:=λD σ H=>c σ H λb H1=>if b=true then t D σ H1 else u D σ H1
theorem sj{a b:List Stmt}(hc:PT X c tc)(ha:nc X a t)(hb:nc X b u):PS X (.If c a b pos) (BJ tc t u):=by
 intro tv s σ H D I h;refine wpAny_If<|bO (hc tv s σ H _ I h) λd s1 ⟨H1,I1,q1⟩=>?_;cases d with
 |true=>exact ha tv s1 σ H1 D I1 q1|false=>exact hb tv s1 σ H1 D I1 q1
end
abbrev TG:=V->St->Hp->(St->Hp->Prop)->Prop
abbrev t5:=QJ->St->Hp->(St->Hp->Prop)->Prop
def PG(X:Cx)(target:Expr)(t:TG):Prop:=
 ∀(tv:Lb) (s:Shared) (σ:St) (H:Hp) (v:V) (u:Value) (Q:St->Hp->Prop),Inv X tv σ H s->RelV v u->t v σ H Q->
  wpAny (model X.prog X.w) X.A (assign target X.env u) (λ_ s'=>∃σ' H',Inv X tv σ' H' s'/\Q σ' H') X.xe s
def v3(X:Cx)(ts:List Expr)(t:t5):Prop:=
 ∀(tv:Lb) (s:Shared) (σ:St) (H:Hp) (vs:QJ) (us:Qu) (Q:St->Hp->Prop),Inv X tv σ H s->Vals vs us->t vs σ H Q->
  wpAny (model X.prog X.w) X.A (assignInOrder ((assignEach ts X.env).map (·.2)) us) (λ_ s'=>∃σ' H',Inv X tv σ' H' s'/\Q σ' H') X.xe s
abbrev t8:=V->V->V->Hp->(Hp->Prop)->Prop
def v4(X:Cx)(t:t8):Prop:=
 ∀(tv:Lb) (s:Shared) (σ:St) (H:Hp) (o i v:V) (ov iv u:Value) (Q:Hp->Prop),Inv X tv σ H s->RelV o ov->RelV i iv->RelV v u->t o i v H Q->
  wpAny (model X.prog X.w) X.A (setItem ov iv u) (λ_ s'=>∃H',Inv X tv σ H' s'/\Q H') X.xe s
section
def lV(i:Nat):TG:=λv σ H Q=>Q (σ.set i<|some v) H
theorem qH(hN:X.N.Nodup)(hi:X.N[i]? = some x)(hx:pD X.env.scope x)(hf:autoParam (QC X x) QO._auto_1):PG X (.Name x pos) (lV i):=by intro tv s σ H v u Q I r h;exact wpAny_assign_Name<|gh I hN hi hx r (λs' I'=>⟨_,H,I',h⟩) hf
def BK:t5:=λvs σ H Q=>vs=[]/\Q σ H
def v6(t:TG)(u:t5):t5:=λvs σ H Q=>∃v r,vs=v::r/\t v σ H λσ' H'=>u r σ' H' Q
theorem lW:v3 X [] BK:=by intro tv s σ H vs us Q I r h;obtain⟨e,h⟩:=h;subst e;cases r;exact assignInOrder_nil ⟨σ,H,I,h⟩
theorem iI{t:TG}{u:t5}(h1:PG X e t)(h2:v3 X es u)
  (hs:{(assignEach (e::es) X.env).map (·.2)=assign e X.env::(assignEach es X.env).map (·.2)}):v3 X (e::es) (v6 t u):=by
 intro tv s σ H vs us Q I r h;obtain⟨v,vr,e1,h⟩:=h;subst e1;cases r with
 |cons r rr=>
  rw[hs];refine assignInOrder_cons<|bO (h1 tv s σ H _ _ _ I r h) λ_ s1 ⟨σ1,H1,I1,q1⟩=>?_;exact h2 tv s1 σ1 H1 _ _ Q I1 rr q1
def BL(K:PN)(n:Nat)(t:t5):TG:=λv σ H Q=>∃a xs,v=.ref a/\SqT K H a xs/\xs.length=n/\t xs σ H Q
theorem pE{t:t5}(hc:X.calm=true)(h:v3 X es t)
  (hn:{(assignEach es X.env).length=n}) (hst:{(assignEach es X.env).findIdx? (·.1)=none}):PG X (.Tuple es k pos) (BL X.K n t):=by
 intro tv s σ H v u Q I r hw;obtain⟨a,xs,e1,hq,hl,hw⟩:=hw;subst e1;cases r;obtain⟨its,rv,ht,hz⟩:=I.tuple hq;refine assign_Tuple_tuple (I.ok.hd hc) ht (by simp[hn,<-hl,rv.length]) hst λh' hx=>?_;have I1:Inv X tv σ H { s with heap:=h' }:=I.kept (t':=s.toks) λb o e=>hx b o (jv<|dZ e) e;exact h tv _ σ H xs _ Q I1 (by simpa using rv) hw
def BM(to ti:TE)(t:t8):TG:=λv σ H Q=>to σ H λo H1=>ti σ H1 λi H2=>t o i v H2 λH3=>Q σ H3
theorem jS{o i:Expr}{to ti:TE}{t:t8}(ho:PE X o to)(hi:PE X i ti)(hs:v4 X t)
  (ha:autoParam (∀ v,assign (.Subscript o i pos) X.env v=(do
   let ov <-holding [v] (eval o X.env)
   let iv <-holding [v,ov] (eval i X.env)
   standAt pos
   holding [v,ov,iv] (setItem ov iv v)
   release [v,ov,iv] [])) QN._auto_1):PG X (.Subscript o i pos) (BM to ti t):=by
 intro tv s σ H v u Q I r h;rw[ha];refine PM<|Qi (bO (ho tv s σ H _ I h) λov s1 ⟨x,H1,I1,r1,q1⟩=>?_);refine PM<|Qi (bO (hi tv s1 σ H1 _ I1 q1) λiv s2 ⟨y,H2,I2,r2,q2⟩=>?_);refine PM<|Qc (PM<|Qi<|bO (hs tv s2 σ H2 x y v ov iv u _ I2 r1 r2 r q2) λ_ s3 ⟨H3,I3,q3⟩=>?_);exact wpAny_release ⟨σ,H3,I3,q3⟩
def t9(te:TE)(g:TG):TS:=λD σ H=>te σ H λx H1=>g x σ H1 D.nx
theorem jT{g:TG}(he:PE X e te)(hg:PG X tg g)(hs:{swapsWithSole [tg] e pos.line X.env=pure false})(hw:{swappedStores [tg] e X.env=pure none})
  (h1:{(assignEach [tg] X.env).map (·.2)=[assign tg X.env]}):PS X (.Assign [tg] e pos) (t9 te g):=by
 intro tv s σ H D I h;refine wpAny_Assign_stores (bO (he tv s σ H _ I h) λv s1 ⟨x,H1,I1,r1,q1⟩=>?_) hs hw;rw[h1];exact bO (hg tv s1 σ H1 x v _ I1 r1 q1) λ_ s2 q=>q
theorem lm(hN:X.N.Nodup)(hi:X.N[i]? = some x)(hx:pD X.env.scope x)(he:PE X e te)(hs:{swapsWith e (some<|.Name x pos') pos.line X.env=pure false})(hf:autoParam (QC X x) QO._auto_1) :
  PS X (.Assign [.Name x pos'] e pos) (t9 te<|lV i):=by
 intro tv s σ H D I h;refine wpAny_Assign_Name (bO (he tv s σ H _ I h) λv s1 ⟨y,H1,I1,r1,q1⟩=>?_) hs;exact gh I1 hN hi hx r1 (λs2 I2=>⟨_,H1,I2,q1⟩) hf
def BN(i j:Nat)(ta:TA):TS:=λD σ H=>ta σ H λvs H1=>∃v w,vs=[v,w]/\D.nx ((σ.set i<|some v).set j<|some w) H1
theorem ua{y:Str}{a b:Expr}{ta:TA}{px py pt:Pos}{kt k2 pt2}(hc:X.calm=true)(hN:X.N.Nodup)(hi:X.N[i]? = some x)(hj:X.N[j]? = some y)(hij:i≠j)
  (hx:X.env.scope.names.lookup x=some .local) (hy:X.env.scope.names.lookup y=some .local) (ha:PA X [a,b] ta)
  (hw:swappedStores [.Tuple [.Name x px,.Name y py] kt pt] (.Tuple [a,b] k2 pt2) X.env=pure (some [x,y]))
  (hs:{swapsWithSole [.Tuple [.Name x px,.Name y py] kt pt] (.Tuple [a,b] k2 pt2) pos.line X.env=pure false}) :
  PS X (.Assign [.Tuple [.Name x px,.Name y py] kt pt] (.Tuple [a,b] k2 pt2) pos) (BN i j ta):=by
 intro tv s σ H D I h;rw[exec_Assign_arm];refine PM<|Qc ?_;rw[hs];refine PM<|PP ?_;rw[jx<|E8];refine PM<|Tuple_ (bO (ha _ tv s σ H _ I h) λus s1 ⟨vs,H1,I1,r1,q1⟩=>?_);obtain⟨v,w,e1,q1⟩:=q1;subst e1;obtain⟨u1,u2,rfl,rv,rw'⟩:∃u1 u2,us=[u1,u2]/\RelV v u1/\RelV w u2:=by
  cases r1 with
  |cons p q=>
   cases q with
   |cons p' q'=>
    cases q';exact⟨_,_,rfl,p,p'⟩
 refine P5 ?_ (by show 2<=sizeLine;decide);have I2:Inv X tv σ H1 { s1 with heap:=s1.heap.push { cls:=.type "tuple",data:=.seq [u1,u2].toArray } }:=I1.kept (t':=s1.toks) λb o e=>eQ _ e;rw[hw];refine PM<|PP ?_;show wpAny (model X.prog X.w) X.A (do rule "assign.swapped-stores";let items <-unpackItems (.ref s1.heap.objs.size) 2 none;assignInOrder [λv=>bindName X.env y v,λv=>bindName X.env x v] items.reverse;pure Flow.next) _ _ _;refine PM<|Qj (PM<|unpackItems_tuple (items:=#[u1,u2]) (I.ok.hd hc) (IsTup.new s1.heap _) λh' hx'=>?_);have I3:=I2.kept (h':=h') (t':=s1.toks) λb o e=>hx' b o (jv<|dZ e) e;show wpAny _ _ (assignInOrder [λv=>bindName X.env y v,λv=>bindName X.env x v] [u2,u1] >>= λ_=>pure Flow.next) _ _ _;refine PM<|assignInOrder_cons (wpAny_bindName<|gh I3 hN hj (.inl hy) rw' (λs2 I4=>?_)<|.inr hy);refine assignInOrder_cons<|wpAny_bindName (gh I4 hN hi (.inl hx) rv (λs3 I5=>assignInOrder_nil<|PP ?_)<|.inr hx);rw[List.set_comm _ _<|P9 hij]at I5;exact⟨_,H1,I5,q1⟩
end
section
def ub(c:TT)(tb:TS):TS:=λD σ H=>∃W:Nat->St->Hp->Prop,(∃m,W m σ H)/\∀m σ H,W m σ H->
 c σ H λb H1=>if b=true then∃N:St->Hp->Prop,(∀σ' H',N σ' H'->∃m',m'<m/\W m' σ' H')/\tb { D with nx:=N,ct:=N,bk:=D.nx } σ H1 else D.nx σ H1
theorem pF{tb:TS}(hp:PassesOwn (model X.prog X.w) X.A X.env X.xe)(hc:PT X c tc)(hb:nc X body tb):PS X (.While c body [] pos) (ub tc tb):=by
 intro tv s σ H D I h;obtain⟨W,⟨m0,w0⟩,turn⟩:=h;refine wpAny_While<|codeAny_whileLoop (λn s'=>∃σ' H',Inv X tv σ' H' s'/\W n σ' H') ?_ m0 ⟨σ,H,I,w0⟩;rintro n s1 ⟨σ1,H1,I1,w1⟩;refine Qh hp<|bO (hc tv s1 σ1 H1 _ I1<|turn n σ1 H1 w1) λb s2 ⟨H2,I2,q2⟩=>?_;cases b with
 |true=>
  obtain⟨N,hN,q2⟩:=q2;rw[oI rfl];refine Qh hp<|bO (hb tv s2 σ1 H2 _ I2 q2) λf s3 q3=>?_;cases f with
  |next=>
   obtain⟨σ3,H3,I3,n3⟩:=q3;obtain⟨m',hm,w3⟩:=hN σ3 H3 n3;exact⟨m',hm,σ3,H3,I3,w3⟩
  |cont=>
   obtain⟨σ3,H3,I3,n3⟩:=q3;obtain⟨m',hm,w3⟩:=hN σ3 H3 n3;exact⟨m',hm,σ3,H3,I3,w3⟩
  |brk=>exact q3|ret v=>exact q3
 |false=>rw[jx kw];exact Qm ⟨σ1,H2,I2,q2⟩
end
structure It where
 go:Nat->Hp->Prop
 yld:Nat->Hp->V->Hp->Prop
 stop:Nat->Hp->Prop
def eK(X:Cx)(tv:Lb)(H:Hp)(b:Addr):Prop:=
 H b=none/\b≠X.env.locals/\b∉X.fs/\(b∈X.ex\/X.s₀.heap.objs.size<=b)/\(∀x c,X.env.cells.lookup x=some c->c≠b)/\∀p∈X.pn++tv,p.1≠b
theorem Inv.fpOk(I:Inv X tv σ H s)(hb:s.heap.objs.size<=b)(hn:H' b=none):eK X tv H' b:=by
 refine⟨hn,yI<|dN I.lt hb,I.nofs hb,.inr<|jw I.sz hb,λx c e z=>?_,λp hp z=>?_⟩;obtain⟨v,q⟩:=I.cell x c e;exact PQ (dN q.lt (by rw[z];exact hb))<|ju _
 exact PQ (dN (dZ (I.pin p hp).1) (by rw[z];exact hb))<|ju _
structure jU(P:Program)(w:World)(K:PN)(tg:Expr)(J:It)(fp:List Addr)(it:Addr)(tn:Nat->Heap->Prop):Prop where
 mem:it∈fp
 obj:∀i h,tn i h->∀b∈fp,∃o,h.get? b=some o/\∀v,o.data≠.cell v
 keep:∀i h h',tn i h->(∀b∈fp,∀o,h.get? b=some o->h'.get? b=some o)->tn i h'
 item:∀(X:Cx),X.prog=P->X.w=w->X.K=K->X.calm=true->∀(i:Nat) (tv:Lb) (s:Shared) (σ:St) (H:Hp) (E:Mn),Inv X tv σ H s->(∀b∈fp,eK X tv H b)->tn i s.heap->J.go i H->
  wpAny (model P w) X.A (pyNext<|.ref it) (λr s1=>∃ u,r=some u/\
   wpAny (model P w) X.A (letOwnedTupleGo tg (.ref it) u) (λ_ s2=>∃x H',Inv X tv σ H' s2/\RelV x u/\J.yld i H x H'/\tn (i+1) s2.heap/\∀b∈fp,H' b=none) E s1) E s
 done:∀(X:Cx),X.prog=P->X.w=w->X.K=K->X.calm=true->∀(i:Nat) (tv:Lb) (s:Shared) (σ:St) (H:Hp) (E:Mn),Inv X tv σ H s->(∀b∈fp,eK X tv H b)->tn i s.heap->J.stop i H->
  wpAny (model P w) X.A (pyNext<|.ref it) (λr s1=>r=none/\Inv X tv σ H s1) E s
 self:∀(A:Around) (i:Nat) (s:Shared) (Q:Mn) (E:Mn),tn i s.heap->Q (.ref it) s->wpAny (model P w) A (pyIter<|.ref it) Q E s
abbrev TI:=St->Hp->(It->Hp->Prop)->Prop
def EL(X:Cx)(tv:Lb)(σ:St)(tg:Expr)(R:It->Hp->Prop)(itv:Value)(s2:Shared):Prop:=
 ∃(it:Addr) (fp:List Addr) (tn:Nat->Heap->Prop) (J:It) (H':Hp),itv=.ref it/\Inv X tv σ H' s2/\jU X.prog X.w X.K tg J fp it tn/\tn 0 s2.heap/\(∀b∈fp,eK X tv H' b)/\R J H'
def PI(X:Cx)(tg iter:Expr)(wi:TI):Prop:=
 ∀(tv:Lb) (s:Shared) (σ:St) (H:Hp) (R:It->Hp->Prop),Inv X tv σ H s->wi σ H R->
  wpAny (model X.prog X.w) X.A (eval iter X.env) (λv s1=>wpAny (model X.prog X.w) X.A (pyIter v) (EL X tv σ tg R) X.xe s1) X.xe s
theorem pH{M:Model}{E:Mn}{u:Value}{n:String}{vs:Array Value}{Q:Unit->Shared->Prop}(ho:s.heap.get? it=some o)(hc:o.cls = .type n)(hd:o.data = .fields vs)
    (hn:["enumerate", "zip", "dict_itemiterator", "dict_reverseitemiterator", "odict_iterator", "itertools.zip_longest", "itertools.pairwise"].contains n=false) (hQ:Q () s):wpAny M A (letOwnedTupleGo tg (.ref it) u) Q E s:=by
  unfold letOwnedTupleGo;cases tg<;>first
    |exact PP hQ
    | (cases u<;>first
        |exact PP hQ
        | (refine PM (wpAny_load ho ?_)
           rw[hc,hd];show wpAny M A (if(["enumerate", "zip", "dict_itemiterator", "dict_reverseitemiterator", "odict_iterator", "itertools.zip_longest", "itertools.pairwise"].contains n&&vs[0]? == some (rawInt _))=true then _ else _) Q E s;rw[jx (by intro h;rw[hn,u0]at h;cases h)];exact PP hQ))
def EM(K:PN)(a:Addr):It:=
 ⟨λi H=>∃xs x,SqL K H a xs/\xs[i]? = some x,λi H x H'=>H'=H/\∀xs,SqL K H a xs->xs[i]? = some x,λi H=>∃xs,SqL K H a xs/\xs.length<=i⟩
def BO(K:PN)(a:Addr):It:=
 ⟨λi H=>∃xs x,SqT K H a xs/\xs[i]? = some x,λi H x H'=>H'=H/\∀xs,SqT K H a xs->xs[i]? = some x,λi H=>∃xs,SqT K H a xs/\xs.length<=i⟩
def v7(lo:Int)(n:Nat):It:=⟨λi _=>i<n,λi H x H'=>H'=H/\x=.int (lo+i),λi _=>n<=i⟩
theorem mo(a it:Addr):jU P w K tg (EM K a) [it] it (λi h=>h.IsListIter it a i) where
 mem:=KE
 obj:=λi h st b hb=>by
  have e:b=it:=by simpa using hb
  subst e;obtain⟨o,e,c,d⟩:=st;exact⟨o,e,λv z=>by rw[d]at z;cases z⟩
 keep:=λi h h' st k=>st.at λo e=>k it KE o e
 item:=by intro X hP hw hK hc i tv s σ H E I hf st hg;subst hP hw hK;obtain⟨xs,x,hq,hx⟩:=hg;obtain⟨its,rv,p,hz⟩:=I.list hq;obtain⟨u,hu,ru⟩:=rv.get hx;obtain⟨f0,f1,f2,f3,f4,f5⟩:=hf it KE;refine wpAny_pyNext_list_item st p.isList (x:=u) (by simpa using hu) λh' st' sb=>?_;have I1:Inv X tv σ H { s with heap:=h' }:=I.turned (t':=s.toks) (λb o hb e=>(sb.2 b hb).trans e) f0 f1 f3 f4 f5;obtain⟨o,e,c,d⟩:=id st';exact⟨u,rfl,pH (s:={ s with heap:=h' }) e c d E8 ⟨x,H,I1,ru,⟨rfl,λys hy=>by rw[I.list_inj hy hq];exact hx⟩,st',λb hb=>(hf b hb).1⟩⟩
 done:=by intro X hP hw hK hc i tv s σ H E I hf st hg;subst hP hw hK;obtain⟨xs,hq,hx⟩:=hg;obtain⟨its,rv,p,hz⟩:=I.list hq;obtain⟨f0,f1,f2,f3,f4,f5⟩:=hf it KE;have hl:=rv.length;exact wpAny_pyNext_list_end (I.ok.hd hc) st p.isList (by simp;omega) λh' eb=>⟨rfl,I.turned (t':=s.toks) (λb o hb e=>eb b o hb e) f0 f1 f3 f4 f5⟩
 self:=λ_ _ _ _ _ st h=>wpAny_pyIter_listiter st h
theorem lu(a it:Addr):jU P w K tg (BO K a) [it] it (λi h=>h.IsTupleIter it a i) where
 mem:=KE
 obj:=λi h st b hb=>by
  have e:b=it:=by simpa using hb
  subst e;obtain⟨o,e,c,d⟩:=st;exact⟨o,e,λv z=>by rw[d]at z;cases z⟩
 keep:=λi h h' st k=>st.at λo e=>k it KE o e
 item:=by intro X hP hw hK hc i tv s σ H E I hf st hg;subst hP hw hK;obtain⟨xs,x,hq,hx⟩:=hg;obtain⟨its,rv,p,hz⟩:=I.tuple hq;obtain⟨u,hu,ru⟩:=rv.get hx;obtain⟨f0,f1,f2,f3,f4,f5⟩:=hf it KE;refine wpAny_pyNext_tuple_item st (show s.heap.IsTuple a its.toArray from p) (x:=u) (by simpa using hu) λh' st' sb=>?_;have I1:Inv X tv σ H { s with heap:=h' }:=I.turned (t':=s.toks) (λb o hb e=>(sb.2 b hb).trans e) f0 f1 f3 f4 f5;obtain⟨o,e,c,d⟩:=id st';exact⟨u,rfl,pH (s:={ s with heap:=h' }) e c d E8 ⟨x,H,I1,ru,⟨rfl,λys hy=>by rw[I.tuple_inj hy hq];exact hx⟩,st',λb hb=>(hf b hb).1⟩⟩
 done:=by intro X hP hw hK hc i tv s σ H E I hf st hg;subst hP hw hK;obtain⟨xs,hq,hx⟩:=hg;obtain⟨its,rv,p,hz⟩:=I.tuple hq;obtain⟨f0,f1,f2,f3,f4,f5⟩:=hf it KE;have hl:=rv.length;exact wpAny_pyNext_tuple_end (I.ok.hd hc) st (show s.heap.IsTuple a its.toArray from p) (by simp;omega) λh' eb=>⟨rfl,I.turned (t':=s.toks) (λb o hb e=>eb b o hb e) f0 f1 f3 f4 f5⟩
 self:=λ_ _ _ _ _ st h=>wpAny_pyIter_tupleiter st h
theorem lv(it:Addr)(lo:Int)(n:Nat):jU P w K tg (v7 lo n) [it] it (λi h=>IsRangeIter h it (lo+(i:Nat)*1) ((n:Int)-(i:Nat)) 1) where
 mem:=KE
 obj:=λi h st b hb=>by
  have e:b=it:=by simpa using hb
  subst e;exact ⟨_,st,λv z=>by
   have z':Data.fields _=Data.cell v:=z;cases z'⟩
 keep:=λi h h' st k=>k it KE _ st
 item:=by intro X hP hw hK hc i tv s σ H E I hf st hg;subst hP hw hK;obtain⟨f0,f1,f2,f3,f4,f5⟩:=hf it KE;have W:=Walks.range (prog:=X.prog) (w:=X.w) (I.ok.hd hc) it lo 1 n;refine W.item i s _ _ hg st λv h' tk hv st' kk=>?_;obtain⟨t,rfl⟩:=hv;have I1:Inv X tv σ H { s with heap:=h',toks:=tk }:=I.turned (λb o hb e=>kk b o (by simpa using hb) e) f0 f1 f3 f4 f5;refine⟨_,rfl,pH (s:={ s with heap:=h',toks:=tk }) (n:= "range_iterator") st' rfl rfl E8 ⟨.int<|lo+i,H,I1,⟨t,?_⟩,⟨rfl,rfl⟩,st',λb hb=>(hf b hb).1⟩⟩;rw[Int.mul_one]
 done:=by intro X hP hw hK hc i tv s σ H E I hf st hg;subst hP hw hK;obtain⟨f0,f1,f2,f3,f4,f5⟩:=hf it KE;exact wpAny_pyNext_range_end (I.ok.hd hc) st (by have:n<=i:=hg;omega) λh' eb=>⟨rfl,I.turned (t':=s.toks) (λb o hb e=>eb b o hb e) f0 f1 f3 f4 f5⟩
 self:=λ_ _ _ _ _ st h=>wpAny_pyIter_rangeiter st h
section
theorem kC{R:It->Hp->Prop}{E:Mn}{lo hi:Int}{t u v:Tok}{tk:Nat}(I:Inv X tv σ H s)(h1:-(2^62)<=lo)(h2:lo<2^62)(h3:-(2^62)<=hi)(h4:hi<2^62)
  (q:R (v7 lo (hi-lo).toNat) H):wpAny (model X.prog X.w) X.A (pyIter<|.ref s.heap.objs.size) (EL X tv σ tg R) E { s with heap:=s.heap.push { cls:=.type "range",data:=.fields #[.int lo t,.int hi u,.int 1 v] },toks:=tk }:=by
 refine wpAny_pyIter_range (IsRange.new ..) (small_one h1 h2 h3 h4) ?_;have I1:Inv X tv σ H { s with heap:=s.heap.push { cls:=.type "range",data:=.fields #[.int lo t,.int hi u,.int 1 v] },toks:=tk }:=I.kept λb o e=>eQ _ e;refine ⟨(s.heap.push { cls:=.type "range",data:=.fields #[.int lo t,.int hi u,.int 1 v] }).objs.size,[(s.heap.push { cls:=.type "range",data:=.fields #[.int lo t,.int hi u,.int 1 v] }).objs.size],_,_,H,rfl,
  I1.kept (t':=tk) λb o e=>eQ _ e,lv _ lo (hi-lo).toNat,?_,λb hb=>?_,q⟩
 .have e1:lo+((0:Nat):Int)*1=lo:=KE
  have e2:(((hi-lo).toNat:Nat):Int)-((0:Nat):Int)=Builtin.Range.rangeSize lo hi 1:=by rw[rangeSize_one];split<;>omega
  show IsRangeIter _ _ (lo+((0:Nat):Int)*1) ((((hi-lo).toNat:Nat):Int)-((0:Nat):Int)) 1;rw[e1,e2];exact jy _ rfl
 .have e:b=(s.heap.push { cls:=.type "range",data:=.fields #[.int lo t,.int hi u,.int 1 v] }).objs.size:=by simpa using hb
  subst e;exact I1.fpOk (cO _)<|I1.hok.fresh (cO _)
def v8(ta:TA):TI:=λσ H R=>ta σ H λvs H1=>∃j:Int,vs=[.int j]/\-(2^62)<=j/\j<2^62/\R (v7 0 j.toNat) H1
def v9(ta:TA):TI:=λσ H R=>ta σ H λvs H1=>∃i j:Int,vs=[.int i,.int j]/\(-(2^62)<=i/\i<2^62/\-(2^62)<=j/\j<2^62)/\R (v7 i (j-i).toNat) H1
theorem mq{a:Expr}{ta:TA}(hg:Gl X "range")(hm:X.mg "range" = none)(ha:PA X [a] ta)(hs:{starEach [a] X.env=[(false,eval a X.env)]}):PI X tg (.Call (.Name "range" p) [a] [] pos) (v8 ta):=by
 intro tv s σ H R I h;refine Call_<|fT I hg hm boot_range (PyProof.Rows.callWith_type1 (bO (ha pos tv s σ H _ I h) λus s1 ⟨vs,H1,I1,r1,q1⟩=>?_) hs rfl);obtain⟨j,e,q1,q2,q⟩:=q1;subst e;cases r1 with
 |cons r rr=>cases rr;obtain⟨t,rfl⟩:=r;exact call_range_1<|kC I1 E1 E1 q1 q2 (by simpa using q)
theorem ms{a b:Expr}{ta:TA}(hg:Gl X "range")(hm:X.mg "range" = none)(ha:PA X [a,b] ta)(hs:{starEach [a,b] X.env=[(false,eval a X.env),(false,eval b X.env)]})(hs2:{starEach [b] X.env=[(false,eval b X.env)]}) :
  PI X tg (.Call (.Name "range" p) [a,b] [] pos) (v9 ta):=by
 intro tv s σ H R I h;refine Call_<|fT I hg hm boot_range (PyProof.Rows.callWith_type1 (bO (ha pos tv s σ H _ I h) λus s1 ⟨vs,H1,I1,r1,q1⟩=>?_) (by rw[hs,hs2]) (by rw[hs2];rfl));obtain⟨i,j,e,⟨q1,q2,q3,q4⟩,q⟩:=q1;subst e;cases r1 with
 |cons r rr=>
  cases rr with
  |cons r' rr=>
   cases rr;obtain⟨t,rfl⟩:=r;obtain⟨t',rfl⟩:=r';exact call_range_2<|kC I1 q1 q2 q3 q4 q
def BP(wi:TI)(g:TG)(tb:TS):TS:=λD σ H=>wi σ H λJ H1=>∃W:Nat->Nat->St->Hp->Prop,(∃m,W 0 m σ H1)/\∀i m σ H,W i m σ H->
 (J.stop i H/\D.nx σ H)\/(J.go i H/\∃N:St->Hp->Prop,(∀σ' H',N σ' H'->∃m',m'<m/\W (i+1) m' σ' H')/\∀x H',J.yld i H x H'->g x σ H' λσ2 H2=>tb { D with nx:=N,ct:=N,bk:=D.nx } σ2 H2)
def fj(fp:List Addr)(h:Heap):Lb:=fp.filterMap λb=>(h.get? b).map λo=>(b,o)
theorem cH(hb:b∈fp)(e:h.get? b=some o):(b,o)∈fj fp h:=YaA.mpr ⟨b,hb,by rw[e];rfl⟩
theorem mv{p:Addr×Obj}(hp:p∈fj fp h):p.1∈fp/\h.get? p.1=some p.2:=by
 obtain⟨b,hb,e⟩:=YaA.mp hp;cases q:h.get? b with
 |none=>rw[q]at e;cases e
 |some o=>rw[q]at e;have e':(b,o)=p:=PY e;subst e';exact⟨hb,q⟩
theorem Inv.pinned(I:Inv X tv σ H s)(hf:∀b∈fp,eK X tv H b)(ho:∀b∈fp,∃o,s.heap.get? b=some o/\∀v,o.data≠.cell v):Inv X (tv++fj fp s.heap) σ H s:=
 I.pins_of λp hp=>(Yao.mp hp).elim (λz=>I.pin p<|jz _ z) λz=>by
  obtain⟨hb,e⟩:=mv z;obtain⟨f0,f1,f2,_⟩:=hf p.1 hb;obtain⟨o,e',d⟩:=ho p.1 hb;rw[e]at e';cases e';exact⟨e,f0,f1,f2,d⟩
theorem Inv.unpinned{pl:Lb}(I:Inv X (tv++pl) σ H s):Inv X tv σ H s:=I.pins_of λp hp=>I.pin p<|jz _ (yG _ hp)
theorem uc{iter:Expr}{wi:TI}{g:TG}{tb:TS}(hp:PassesOwn (model X.prog X.w) X.A X.env X.xe)(hc:X.calm=true)(hi:PI X tg iter wi)(hg:PG X tg g)(hb:nc X body tb)
  (hs:autoParam (∀x,foldedSetIterable iter X.env x=pure x) QN._auto_1):PS X (.For tg iter body [] pos) (BP wi g tb):=by
 intro tv s σ H D I h;refine wpAny_For (bO (hi tv s σ H _ I h) λv s1 h1=>bO h1 λitv s2 h2=>?_) hs;obtain⟨it,fp,tn,J,H2,e,I2,T,st2,f2,W,⟨m0,w0⟩,turn⟩:=h2;subst e
 have stat:∀{H':Hp},(∀b∈fp,H' b=none)->∀b∈fp,eK X tv H' b:=λhn b hb=>⟨hn b hb,(f2 b hb).2⟩;refine codeAny_forLoop_any (λn s'=>∃i σ' H',Inv X tv σ' H' s'/\tn i s'.heap/\(∀b∈fp,H' b=none)/\W i n σ' H') ?_ m0 ⟨0,σ,H2,I2,st2,λb hb=>(f2 b hb).1,w0⟩;rintro n s3 ⟨i,σ3,H3,I3,st3,fr3,w3⟩;rcases turn i n σ3 H3 w3 with⟨stop,qn⟩|⟨go,N,hN,step⟩
 .refine Qh hp (bO (T.done X rfl rfl rfl hc i tv s3 σ3 H3 X.xe I3 (stat fr3) st3 stop) λr s4 ⟨hr,I4⟩=>?_)
  subst hr;exact Qm ⟨σ3,H3,I4,qn⟩
 .refine Qh hp (bO (T.item X rfl rfl rfl hc i tv s3 σ3 H3 X.xe I3 (stat fr3) st3 go) λr s4 ⟨u,hr,h4⟩=>?_)
  subst hr;refine Qh hp<|bO h4 λ_ s5 ⟨x,H5,I5,r5,y5,st5,fr5⟩=>?_;have I5':=I5.pinned (stat fr5)<|T.obj _ _ st5;refine Qh hp<|bO (hg _ s5 σ3 H5 x u _ I5' r5<|step x H5 y5) λ_ s6 ⟨σ6,H6,I6,q6⟩=>?_;refine Qh hp<|bO (hb _ s6 σ6 H6 _ I6 q6) λf s7 q7=>?_;have again:∀{σ7:St} {H7:Hp},Inv X (tv++fj fp s5.heap) σ7 H7 s7->N σ7 H7->∃m,m<n/\∃i σ' H',Inv X tv σ' H' s7/\tn i s7.heap/\(∀b∈fp,H' b=none)/\W i m σ' H':=λ{σ7 H7} I7 n7=>by
   obtain⟨m',hm,w7⟩:=hN σ7 H7 n7;refine⟨m',hm,i+1,σ7,H7,I7.unpinned,T.keep _ _ _ st5 λb hb o e=>(I7.pin (b,o)<|jz _<|jz _<|cH hb e).1,λb hb=>?_,w7⟩;obtain⟨o,e,d⟩:=T.obj _ _ st5 b hb;exact(I7.pin (b,o)<|jz _<|jz _<|cH hb e).2.1
  cases f with
  |next=>obtain⟨σ7,H7,I7,n7⟩:=q7;exact again I7 n7
  |cont=>obtain⟨σ7,H7,I7,n7⟩:=q7;exact again I7 n7
  |brk=>obtain⟨σ7,H7,I7,q7⟩:=q7;exact⟨σ7,H7,I7.unpinned,q7⟩
  |ret v=>obtain⟨x7,σ7,H7,I7,r7,q7⟩:=q7;exact⟨x7,σ7,H7,I7.unpinned,r7,q7⟩
end
abbrev R2:=V->V->Hp->VK->Prop
variable{r r':R2}
def OpR(X:Cx)(f:Value->Value->Sem Value)(r:R2):Prop:=
 ∀(tv:Lb) (s:Shared) (σ:St) (H:Hp) (x y:V) (v u:Value) (Q:VK),Inv X tv σ H s->RelV x v->RelV y u->r x y H Q->
  wpAny (model X.prog X.w) X.A (f v u) (EP X tv σ Q) X.xe s
def zf(X:Cx)(f:Value->Sem Value)(r:V->Hp->VK->Prop):Prop:=
 ∀(tv:Lb) (s:Shared) (σ:St) (H:Hp) (x:V) (v:Value) (Q:VK),Inv X tv σ H s->RelV x v->r x H Q->
  wpAny (model X.prog X.w) X.A (f v) (EP X tv σ Q) X.xe s
def fk(X:Cx)(f:Value)(r:QJ->Hp->VK->Prop):Prop:=
 ∀(tv:Lb) (s:Shared) (σ:St) (H:Hp) (xs:QJ) (us:Qu) (Q:VK),Inv X tv σ H s->Vals xs us->r xs H Q->
  wpAny (model X.prog X.w) X.A (call f us) (EP X tv σ Q) X.xe s
def BQ(X:Cx)(r:V->Hp->(Bool->Hp->Prop)->Prop):Prop:=
 ∀(tv:Lb) (s:Shared) (σ:St) (H:Hp) (x:V) (v:Value) (Q:Bool->Hp->Prop),Inv X tv σ H s->RelV x v->r x H Q->
  wpAny (model X.prog X.w) X.A (truthy v) (TP X tv σ Q) X.xe s
def zg(r:R2)(ta tb:TE):TE:=λσ H Q=>ta σ H λx H1=>tb σ H1 λy H2=>r x y H2 Q
def I0(r:V->Hp->VK->Prop)(ta:TE):TE:=λσ H Q=>ta σ H λx H1=>r x H1 Q
def rI(C:Int->Int->Prop)(g:Int->Int->V):R2:=λx y H Q=>∃i j,x=.int i/\y=.int j/\C i j/\Q (g i j) H
def qI(g:Int->Int->V):R2:=λx y H Q=>∃i j,x=.int i/\y=.int j/\Q (g i j) H
def rU(g:Int->V):V->Hp->VK->Prop:=λx H Q=>∃i,x=.int i/\Q (g i) H
section
variable{a b:Expr}{tb tc:TE}
theorem ud(ha:PE X a ta)(hb:PE X b tb){R:V->V->Hp->Prop}(I:Inv X tv σ H s)
  (h:ta σ H λx H1=>tb σ H1 λy H2=>R x y H2)
  (hf:∀v u s2 x y H2,Inv X tv σ H2 s2->RelV x v->RelV y u->R x y H2->wpAny (model X.prog X.w) X.A (f v u) Q X.xe s2) :
  wpAny (model X.prog X.w) X.A (eval a X.env) (λv s₁=>wpAny (model X.prog X.w) X.A (eval b X.env) (λu s₂=>wpAny (model X.prog X.w) X.A (f v u) Q X.xe s₂) X.xe s₁) X.xe s:=by
 refine bO (ha tv s σ H _ I h) λv s1 ⟨x,H1,I1,r1,q1⟩=>?_;refine bO (hb tv s1 σ H1 _ I1 q1) λu s2 ⟨y,H2,I2,r2,q2⟩=>?_;exact hf v u s2 x y H2 I2 r1 r2 q2
theorem sk{op:Operator}(ho:OpR X (binaryOp op) r)(ha:PE X a ta)(hb:PE X b tb):PE X (.BinOp a op b pos) (zg r ta tb):=by intro tv s σ H Q I h;exact wpAny_BinOp<|ud ha hb I h λv u s2 x y H2 I2 rx ry q=>ho tv s2 σ H2 x y v u Q I2 rx ry q
theorem ss{op:UnaryOp}{r:V->Hp->VK->Prop}(ho:zf X (unaryOp op) r)(ha:PE X a ta):PE X (.UnaryOp op a pos) (I0 r ta):=by intro tv s σ H Q I h;exact UnaryOp_<|bO (ha tv s σ H _ I h) λv s1 ⟨x,H1,I1,r1,q1⟩=>ho tv s1 σ H1 x v Q I1 r1 q1
theorem zj{C:Int->Int->Prop}
  (rule:∀(i j:Int) (t u:Tok) (s:Shared) (Q:Mn) (E:Mn),C i j->Q (.int (g i j) s.toks) { s with toks:=s.toks+1 }->wpAny (model X.prog X.w) X.A (f (.int i t)<|.int j u) Q E s) :
  OpR X f (rI C λi j=>.int<|g i j):=by
 intro tv s σ H x y v u Q I rx ry h;obtain⟨i,j,rfl,rfl,hc,q⟩:=h;obtain⟨t,rfl⟩:=rx;obtain⟨t',rfl⟩:=ry;exact rule i j t t' s _ _ hc ⟨.int<|g i j,H,I.tok _,⟨_,rfl⟩,q⟩
theorem wd
  (rule:∀(i j:Int) (t u:Tok) (s:Shared) (Q:Mn) (E:Mn),Q (.int (g i j) s.toks) { s with toks:=s.toks+1 }->wpAny (model X.prog X.w) X.A (f (.int i t)<|.int j u) Q E s) :
  OpR X f (qI λi j=>.int<|g i j):=by
 intro tv s σ H x y v u Q I rx ry h;obtain⟨i,j,rfl,rfl,q⟩:=h;obtain⟨t,rfl⟩:=rx;obtain⟨t',rfl⟩:=ry;exact rule i j t t' s _ _ ⟨.int<|g i j,H,I.tok _,⟨_,rfl⟩,q⟩
theorem qJ{g:Int->Int->Bool}
  (rule:∀(i j:Int) (t u:Tok) (s:Shared) (Q:Mn) (E:Mn),Q (.bool<|g i j) s->wpAny (model X.prog X.w) X.A (f (.int i t)<|.int j u) Q E s) :
  OpR X f (qI λi j=>.bl<|g i j):=by
 intro tv s σ H x y v u Q I rx ry h;obtain⟨i,j,rfl,rfl,q⟩:=h;obtain⟨t,rfl⟩:=rx;obtain⟨t',rfl⟩:=ry;exact rule i j t t' s _ _ ⟨.bl<|g i j,H,I,rfl,q⟩
def ue(i j:Int):Prop:=0<=j/\j<=1000000/\i.natAbs<2^64
theorem uf:OpR X (binaryOp .Add) (qI λi j=>.int<|i+j):=wd λ_ _ _ _ _ _ _ q=>add_int q
theorem ug:OpR X (binaryOp .Sub) (qI λi j=>.int<|i-j):=wd λ_ _ _ _ _ _ _ q=>sub_int q
theorem qK:OpR X (binaryOp .Mod) (rI (λ_ j=>j≠0) λi j=>.int<|i.fmod j):=zj λ_ _ _ _ _ _ _ hc q=>mod_int' hc q
theorem uh:OpR X (binaryOp .Pow) (rI ue λi j=>.int<|i^j.toNat):=zj λ_ _ _ _ _ _ _ hc q=>pow_int_small hc.1 hc.2.1 hc.2.2 q
theorem Ja{f:Value->Sem Value}{g:Int->Int}
  (rule:∀(i:Int) (t:Tok) (s:Shared) (Q:Mn) (E:Mn),Q (.int (g i) s.toks) { s with toks:=s.toks+1 }->wpAny (model X.prog X.w) X.A (f<|.int i t) Q E s) :
  zf X f (rU λi=>.int<|g i):=by
 intro tv s σ H x v Q I rx h;obtain⟨i,rfl,q⟩:=h;obtain⟨t,rfl⟩:=rx;exact rule i t s _ _ ⟨.int<|g i,H,I.tok _,⟨_,rfl⟩,q⟩
theorem pI:zf X (unaryOp .USub) (rU λi=>.int (-i)):=Ja λ_ _ _ _ _ q=>neg_int q
end
def BT:V->V->Bool
 |.non,.non=>true|.non,.int _=>true|.int _,.non=>true|.non,.bl _=>true|.bl _,.non=>true|.non,.str _=>true|.str _,.non=>true
 |.int _,.int _=>true|.bl _,.bl _=>true|.str _,.str _=>true|.byt _,.byt _=>true
 |.int _,.str _=>true|.str _,.int _=>true|.bl _,.str _=>true|.str _,.bl _=>true
 |_,_=>false
def Jb:R2:=λx y H Q=>BT x y=true/\Q (.bl (!decide (x=y))) H
theorem qL{i j:Int}:decide (V.int i=V.int j)=(i==j):=by rw[iD];simp
theorem ui{i j:Bool}:decide (V.bl i=V.bl j)=(i==j):=by rw[iD];simp
theorem qM{i j:Str}:decide (V.str i=V.str j)=(i==j):=by rw[iD];simp
theorem qN{i j:Array UInt8}:decide (V.byt i=V.byt j)=(i.toList==j.toList):=by rw[iD];cases i;cases j;simp
section
variable{a b:Expr}{tb tc:TE}
theorem cI{Q:VK}{k k':Bool}(I:Inv X tv σ H s)(q:Q (.bl k) H)(e:k=k'):EP X tv σ Q (.bool k') s:=by subst e;exact⟨.bl k,H,I,rfl,q⟩
theorem wg:OpR X (compareOp .NotEq) Jb:=by
 intro tv s σ H x y v u Q I rx ry h;obtain⟨hs,q⟩:=h;cases x with
 |non=>
  cases rx;cases y with
  |non=>cases ry;exact PySem.EqNone.ne_none_none<|cI I q KE
  |bl j=>cases ry;exact PySem.EqNone.ne_none_bool<|cI I q KE
  |int j=>obtain⟨t',rfl⟩:=ry;exact PySem.EqNone.ne_none_int<|cI I q KE
  |str j=>obtain⟨t',rfl⟩:=ry;exact PySem.EqNone.ne_none_str<|cI I q KE
  |_=>exact PQ (show false=true from hs) kw
 |bl i=>
  cases rx;cases y with
  |non=>cases ry;exact PySem.EqNone.ne_bool_none<|cI I q KE
  |bl j=>cases ry;exact ne_bool<|cI I q (congrArg not ui)
  |str j=>obtain⟨t',rfl⟩:=ry;exact PySem.EqMixed.ne_bool_str<|cI I q KE
  |_=>exact PQ (show false=true from hs) kw
 |int i=>
  obtain⟨t,rfl⟩:=rx;cases y with
  |non=>cases ry;exact PySem.EqNone.ne_int_none<|cI I q KE
  |int j=>obtain⟨t',rfl⟩:=ry;exact ne_int<|cI I q (congrArg not qL)
  |str j=>obtain⟨t',rfl⟩:=ry;exact PySem.EqMixed.ne_int_str<|cI I q KE
  |_=>exact PQ (show false=true from hs) kw
 |str i=>
  obtain⟨t,rfl⟩:=rx;cases y with
  |non=>cases ry;exact PySem.EqNone.ne_str_none<|cI I q KE
  |bl j=>cases ry;exact PySem.EqMixed.ne_str_bool<|cI I q KE
  |int j=>obtain⟨t',rfl⟩:=ry;exact PySem.EqMixed.ne_str_int<|cI I q KE
  |str j=>obtain⟨t',rfl⟩:=ry;exact ne_str<|cI I q (congrArg not qM)
  |_=>exact PQ (show false=true from hs) kw
 |byt i=>
  obtain⟨t,rfl⟩:=rx;cases y with
  |byt j=>obtain⟨t',rfl⟩:=ry;exact W.ne_bytes<|cI I q (congrArg not qN)
  |_=>exact PQ (show false=true from hs) kw
 |_=>cases y<;>exact PQ (show false=true from hs) kw
theorem OpR.or(h:OpR X f r)(h':OpR X f r'):OpR X f (λx y H Q=>r x y H Q\/r' x y H Q):=by
 intro tv s σ H x y v u Q I rx ry q;rcases q with q|q
 exact h tv s σ H x y v u Q I rx ry q;exact h' tv s σ H x y v u Q I rx ry q
theorem pJ(b:Expr)(h:(op≠.In:))(h2:(op≠.NotIn:)):behindInMarks op b=false:=by
 have e1:(op==CmpOp.In)=false:=by cases op<;>first|rfl|exact PQ rfl h
 have e2:(op==CmpOp.NotIn)=false:=by cases op<;>first|rfl|exact PQ rfl h2
 cases b<;>simp[behindInMarks,e1,e2]
theorem qO(ho:OpR X (compareOp op) r)(ha:PE X a ta)(hb:PE X b tb)(hm:behindInMarks op b=false):PE X (.Compare a [op] [b] pos) (zg r ta tb):=by intro tv s σ H Q I h;exact wpAny_Compare1 (ud ha hb I h λv u s2 x y H2 I2 rx ry q=>ho tv s2 σ H2 x y v u Q I2 rx ry q) hm
def su(t:TE):TT:=λσ H Q=>t σ H λx H'=>∃k,x=.bl k/\Q k H'
theorem qP(ho:OpR X (compareOp op) r)(ha:PE X a ta)(hb:PE X b tb)(hm:behindInMarks op b=false):PT X (.Compare a [op] [b] pos) (su<|zg r ta tb):=by
 intro tv s σ H Q I h;refine wpAny_isTrue_Compare1 (bO (ha tv s σ H _ I h) λv s1 ⟨x,H1,I1,r1,q1⟩=>bO (hb tv s1 σ H1 _ I1 q1) λu s2 ⟨y,H2,I2,r2,q2⟩=>
  bO (ho tv s2 σ H2 x y v u _ I2 r1 r2 q2) λc s3 ⟨z,H3,I3,r3,k,e,q3⟩=>?_) hm
 subst e;cases r3;exact Qb ⟨H3,I3,q3⟩
def pK(r r':R2)(ta tb tc:TE):TE:=λσ H Q=>ta σ H λx H1=>tb σ H1 λy H2=>r x y H2 λz H3=>∃k,z=.bl k/\
 (if k=true then tc σ H3 λw' H4=>r' y w' H4 Q else Q (.bl false) H3)
theorem pL{op':CmpOp}(ho:OpR X (compareOp op) r)(ho':OpR X (compareOp op') r')(ha:PE X a ta)(hb:PE X b tb)(hc:PE X c tc)
  (hm:autoParam (lastMarks [op,op'] [b,c]=false) QR._auto_1):PE X (.Compare a [op,op'] [b,c] pos) (pK r r' ta tb tc):=by
 intro tv s σ H Q I h;refine Compare_chain (bO (ha tv s σ H _ I h) λv s1 ⟨x,H1,I1,r1,q1⟩=>chain_link (bO (hb tv s1 σ H1 _ I1 q1) λu s2 ⟨y,H2,I2,r2,q2⟩=>
  bO (ho tv s2 σ H2 x y v u _ I2 r1 r2 q2) λd s3 ⟨z,H3,I3,r3,k,e,q3⟩=>?_)) hm
 subst e;cases r3;refine Qb ?_;cases k with
 |false=>exact ite_ff ⟨.bl false,H3,I3,rfl,q3⟩|true=>exact ite_tt<|chain_last (bO (hc tv s3 σ H3 _ I3 q3) λw' s4 ⟨z',H4,I4,r4,q4⟩=>ho' tv s4 σ H4 y z' u w' Q I4 r2 r4 q4)
theorem pM{op':CmpOp}(ho:OpR X (compareOp op) r)(ho':OpR X (compareOp op') r')(ha:PE X a ta)(hb:PE X b tb)(hc:PE X c tc)
  (hm:autoParam (lastMarks [op,op'] [b,c]=false) QR._auto_1):PT X (.Compare a [op,op'] [b,c] pos) (su<|pK r r' ta tb tc):=by
 intro tv s σ H Q I h;refine isTrue_chain (bO (ha tv s σ H _ I h) λv s1 ⟨x,H1,I1,r1,q1⟩=>test_link (bO (hb tv s1 σ H1 _ I1 q1) λu s2 ⟨y,H2,I2,r2,q2⟩=>
  bO (ho tv s2 σ H2 x y v u _ I2 r1 r2 q2) λd s3 ⟨z,H3,I3,r3,k,e,q3⟩=>?_)) hm
 subst e;cases r3;refine Qb ?_;cases k with
 |false=>
  obtain⟨k',e',q'⟩:=q3;cases e';exact ite_ff ⟨H3,I3,q'⟩
 |true=>
  refine ite_tt<|test_last (bO (hc tv s3 σ H3 _ I3 q3) λw' s4 ⟨z',H4,I4,r4,q4⟩=>bO (ho' tv s4 σ H4 y z' u w' _ I4 r2 r4 q4) λd' s5 ⟨z2,H5,I5,r5,k2,e2,q5⟩=>?_);subst e2;cases r5;exact Qb ⟨H5,I5,q5⟩
def wj(K:PN)(x:V)(H:Hp)(k:Bool):Prop:=
 match x with
 |.non=>k=false|.bl b=>k=b|.int i=>k=(i != 0)|.str y=>y.length<=sizeLine/\k=((y.length:Int) != 0)|.byt y=>y.size<=sizeLine/\k=((y.size:Int) != 0)|.ref p=>(∃xs,SqL K H p xs/\k = !xs.isEmpty)\/(∃xs,SqT K H p xs/\k = !xs.isEmpty)\/∃kvs,H p=some (.dK kvs)/\k = !kvs.isEmpty|_=>False
theorem lw{kvs:List (κ×V)}{vs:List (κ×Value)}(r:KV kvs vs):(!vs.isEmpty) = !kvs.isEmpty:=by cases r<;>rfl
theorem iJ{its:Qu}(r:Vals xs its):(!its.toArray.isEmpty) = !xs.isEmpty:=by cases r<;>simp
theorem gI:(sizeLine:Nat)<2^63:=by rw[sizeLine_eq];decide
theorem uj:BQ X (λx H Q=>∃k,wj X.K x H k/\Q k H):=by
 intro tv s σ H x v Q I rx h;obtain⟨k,e,q⟩:=h;have hl:=gI;have hs:sizeLine=16777216:=sizeLine_eq;cases x with
 |non=>cases rx;have e':k=false:=e;subst e';exact truthy_none ⟨H,I,q⟩
 |bl b=>cases rx;have e':k=b:=e;subst e';exact Qb ⟨H,I,q⟩
 |int i=>obtain⟨t,rfl⟩:=rx;have e':k=(i != 0):=e;subst e';exact PySem.P.truthy_int ⟨H,I,q⟩
 |str y=>obtain⟨t,rfl⟩:=rx;obtain⟨hy,e'⟩:y.length<=sizeLine/\k=((y.length:Int) != 0):=e;subst e';exact PySem.P.truthy_str E1 ⟨H,I.tok _,q⟩
 |byt y=>obtain⟨t,rfl⟩:=rx;obtain⟨hy,e'⟩:y.size<=sizeLine/\k=((y.size:Int) != 0):=e;subst e';exact W.truthy_bytes E1 ⟨H,I.tok _,q⟩
 |ref p=>
  cases rx;have e':(∃xs,SqL X.K H p xs/\k = !xs.isEmpty)\/(∃xs,SqT X.K H p xs/\k = !xs.isEmpty)\/∃kvs,H p=some (.dK kvs)/\k = !kvs.isEmpty:=e;rcases e' with⟨xs,hx,e'⟩|⟨xs,hx,e'⟩|⟨kvs,hx,e'⟩
  subst e';obtain⟨its,r,pl,hz⟩:=I.list hx;have hlen:=r.length;exact wpAny_truthy_list pl.isList (by simp only[fJ];omega) ⟨H,I.tok _,by rw[iJ r];exact q⟩;subst e';obtain⟨its,r,pl,hz⟩:=I.tuple hx;have hlen:=r.length;exact truthy_tuple pl (by simp only[fJ];omega) ⟨H,I.tok _,by rw[iJ r];exact q⟩;subst e';obtain⟨hz,hS,vs,r,m⟩:kvs.length<=sizeLine/\(p==sysModules)=false/\∃vs,KV kvs vs/\s.heap.DictOf (jO X.prog X.w) p vs:=I.hok p _ hx;have hlen:kvs.length=vs.length:=Paired.length r;exact wpAny_truthy_dict hS m E1 ⟨H,I.tok _,by rw[lw r];exact q⟩
 |_=>exact(show False from e).elim
theorem kE(ha:PE X a ta)(he:∀whole,isTrue a X.env whole=(do let v <-whole;standAt a.pos;holding [v] (truthy v))) :
  PT X a (λσ H Q=>ta σ H λx H'=>∃k,wj X.K x H' k/\Q k H'):=by
 intro tv s σ H Q I h;exact isTrue_plain (bO (ha tv s σ H _ I h) λv s1 ⟨x,H1,I1,r1,q1⟩=>uj tv s1 σ H1 x v Q I1 r1 q1)<|he _
theorem fP{x:V}(r:Vals [x] us):∃u,us=[u]/\RelV x u:=by
 cases r with
 |cons r1 r2=>cases r2;exact⟨_,rfl,r1⟩
theorem lX{x y:V}(r:Vals [x,y] us):∃u w',us=[u,w']/\RelV x u/\RelV y w':=by
 cases r with
 |cons r1 r2=>
  cases r2 with
  |cons r3 r4=>cases r4;exact⟨_,_,rfl,r1,r3⟩
theorem pN:fk X (.builtin "abs") (λxs H Q=>∃i,xs=[.int i]/\Q (.int (if i<0 then -i else i)) H):=by intro tv s σ H xs us Q I r h;obtain⟨i,rfl,q⟩:=h;obtain⟨u,rfl,t,rfl⟩:=fP r;exact call_abs_int λu tk=>⟨.int (if i<0 then -i else i),H,I.tok _,⟨_,rfl⟩,q⟩
theorem mx(hc:X.calm=true):fk X (.builtin "max") (λxs H Q=>∃i j,xs=[.int i,.int j]/\Q (.int (if j>i then j else i)) H):=by intro tv s σ H xs us Q I r h;obtain⟨i,j,rfl,q⟩:=h;obtain⟨u,w',rfl,⟨t,rfl⟩,⟨t',rfl⟩⟩:=lX r;refine max_two_ints (I.ok.hd hc) λh' tk k=>⟨_,H,I.kept k,?_,q⟩;by_cases hj:j>i;rw[oI hj,oI hj];exact⟨_,rfl⟩;rw[jx hj,jx hj];exact⟨_,rfl⟩
theorem my:fk X (.type "int") (λxs H Q=>(∃i,xs=[.int i]/\Q (.int i) H)\/∃k,xs=[.bl k]/\Q (.int (if k then 1 else 0)) H):=by
 intro tv s σ H xs us Q I r h;rcases h with⟨i,rfl,q⟩|⟨k,rfl,q⟩
 obtain⟨u,rfl,t,rfl⟩:=fP r;exact call_int_int ⟨.int i,H,I,⟨_,rfl⟩,q⟩;obtain⟨u,rfl,r1⟩:=fP r;cases r1;exact call_int_bool ⟨.int (if k then 1 else 0),H,I.tok _,⟨_,rfl⟩,q⟩
end
structure Room(k:Nat)(A:Around):Prop where
 hd:A.handled=none
 gd:A.guards=some []
 dp:A.depth+3*k+5<recursionLimit
 un:A.units+16*k+200<cLine
theorem Room.mono(r:Room k A)(h:j<=k):Room j A:=⟨r.hd,r.gd,by have:=r.dp;omega,by have:=r.un;omega⟩
theorem Room.deeper{k:Nat}{A:Around}(r:Room (k+1) A)(env:Env):Room k (A.deeper env):=
 ⟨r.hd,r.gd,by have:=r.dp;show A.depth+1+3*k+5<_;omega,by have:=r.un;show A.units+3+16*k+200<_;omega⟩
theorem Room.depth{k:Nat}{A:Around}(r:Room k A):A.depth<recursionLimit:=by have:=r.dp;omega
theorem Room.units{k:Nat}{A:Around}(r:Room k A):A.units+64<cLine:=by have:=r.un;omega
def BU:TA:=λ_ H Q=>Q [] H
def wk(ta:TE)(tr:TA):TA:=λσ H Q=>ta σ H λx H1=>tr σ H1 λxs H2=>Q (x::xs) H2
section
theorem jV:PA X [] BU:=λ_ _ _ _ H Q I h=>Calls.spliced_nil ⟨[],H,I,.nil,h⟩
theorem iu(ha:PE X e te)(hr:PA X es t)(hs:{starEach (e::es) X.env=(false,eval e X.env)::starEach es X.env}):PA X (e::es) (wk te t):=by intro pos tv s σ H Q I h;rw[hs];show wpAny _ _ (spliced ((false,eval e X.env)::backTo pos (starEach es X.env))) _ _ s;refine Calls.spliced_cons<|bO (ha tv s σ H _ I h) λu s1 ⟨x,H1,I1,r1,q1⟩=>?_;exact bO (hr pos tv s1 σ H1 _ I1 q1) λus s2 ⟨xs,H2,I2,r2,q2⟩=>⟨x::xs,H2,I2,.cons r1 r2,q2⟩
def BV(t:TA):TE:=λσ H Q=>t σ H λxs H1=>xs.length<=sizeLine/\∀p,H1 p=none->Q (.ref p) (upd H1 p<|.tup xs)
def BW(t:TA):TE:=λσ H Q=>t σ H λxs H1=>xs.length<=sizeLine/\∀p,H1 p=none->Q (.ref p) (upd H1 p<|.lst xs)
theorem uk{x1}(h:PA X es t):PE X (.Tuple es x1 pos) (BV t):=by intro tv s σ H Q I hq;refine wpAny_Tuple_spliced<|bO (h pos tv s σ H _ I hq) λus s1 ⟨xs,H1,I1,r,z,q⟩=>⟨by rw[<-r.length];exact z,?_⟩;have hf:H1 s1.heap.objs.size=none:=I1.hok.fresh<|cO _;refine⟨.ref s1.heap.objs.size,upd H1 s1.heap.objs.size<|.tup xs,I1.laid (t':=s1.toks) (λb u e=>eQ _ e) (cO _) ?_,rfl,q _ hf⟩;exact⟨z,us,r,⟨_,jy _ rfl,rfl,_,rfl⟩⟩
theorem ul(h:PA X es t):PE X (.List es pos) (BW t):=by intro tv s σ H Q I hq;refine wpAny_List_spliced<|bO (h pos tv s σ H _ I hq) λus s1 ⟨xs,H1,I1,r,z,q⟩=>⟨by rw[<-r.length];exact z,?_⟩;have hf:H1 s1.heap.objs.size=none:=I1.hok.fresh<|cO _;refine⟨.ref s1.heap.objs.size,upd H1 s1.heap.objs.size<|.lst xs,I1.laid (t':=s1.toks) (λb u e=>eQ _ e) (cO _) ?_,rfl,q _ hf⟩;exact⟨z,us,0,r,jy _ rfl⟩
end
abbrev Sp:=QJ->Hp->VK->XK->Prop
abbrev mB:=List Env->Hp->Shared->XK->Value->Shared->Prop
variable{CX:mB}
structure mC(P:Program)(w:World)(K:PN)(mg:Qt)(base:Heap)(A:Around)(outer:List Env)(s:Shared)(H:Hp):Prop where
 frames:A.frames=some outer
 mod:Mod K mg base
 bs:∀b o,base.get? b=some o->s.heap.get? b=some o/\H b=none
 bsz:base.objs.size<=s.heap.objs.size
 funs:s.heap.FunFrames base outer
 frf:∀b∈dO outer,H b=none
 hok:HOk P w H s.heap
 bare:AllBare s.gens
 sysn:∀xs,H sysModules≠some (.lst xs)
def CE(outer:List Env)(P:Program)(w:World)(H:Hp)(s:Shared)(Q:VK)(u:Value)(s':Shared):Prop:=
 ∃v H',s'.os=s.os/\AllBare s'.gens/\Un (dO outer) [] H H' s.heap s'.heap/\HOk P w H' s'.heap/\RelV v u/\Q v H'
def CR(CX:mB)(outer:List Env)(P:Program)(w:World)(H:Hp)(s:Shared)(Q:VK)(E:XK)(r:Result)(s':Shared):Prop:=
 match r with
 |.ok (.ret u)=>CE outer P w H s Q u s'|.ok _=>False|.error e=>CX outer H s E e s'
structure FnOk(P:Program)(w:World)(K:PN)(mg:Qt)(base:Heap)(CX:mB)(k:Nat)(f:Addr)(fd:FuncData)(ps:Qx)(sp:Sp):Prop where
 len:∀vs H Q E,sp vs H Q E->vs.length=ps.length
 run:∀(A:Around) (outer:List Env) (s:Shared) (H:Hp) (args:Args) (us:Qu) (vs:QJ) (Q:VK) (E:XK),Room k A->mC P w K mg base A outer s H->BindsTo s fd args (ps.zip us)->Vals vs us->sp vs H Q E->
  codeAny (model P w) A (.call (.ref f) args) (CR CX outer P w H s Q E) s
theorem FnOk.imp{f:Addr}{sp sp':Sp}(F:FnOk P w K mg base CX k f fd ps sp)
  (h:∀vs H Q E,sp' vs H Q E->sp vs H Q E):FnOk P w K mg base CX k f fd ps sp':=
 ⟨λvs H Q E q=>F.len vs H Q E<|h _ _ _ _ q,λA outer s H args us vs Q E hr he hb hv hs=>F.run A outer s H args us vs Q E hr he hb hv<|h _ _ _ _ hs⟩
section
theorem Inv.env0(I:Inv X tv σ H s):mC X.prog X.w X.K X.mg X.base X.A X.stack s H:=
 ⟨I.ok.frames,I.ok.mod,I.bs,jw I.ok.bsz I.sz,I.stack,I.stkFree,I.hok,I.bare,I.sysn⟩
theorem Inv.after{Q:VK}{u:Value}(I:Inv X tv σ H s)(h:CE X.stack X.prog X.w H s Q u s'):EP X tv σ Q u s':=by obtain⟨v,H',os,bare,un,hok,r,q⟩:=h;obtain⟨hh,g,d,t,os'⟩:=s';obtain rfl:os'=s.os:=os;exact⟨v,H',I.call (h':=hh) (g':=g) (d':=d) (t':=t) (ch:=[]) un hok bare<|λb z=>PQ z<|KE,r,q⟩
end
def sw(sp:Sp)(dvs:QJ)(E:XK)(t:TA):TE:=λσ H Q=>t σ H λvs H1=>sp (vs++dvs) H1 Q E
def Binds(K:PN)(fd:FuncData)(ps:Qx)(ds:Qu):Prop:=
 ∀(s:Shared) (us:Qu),K.In s.heap->(us++ds).length=ps.length->BindsTo s fd ⟨us,[]⟩ (ps.zip<|us++ds)
theorem Binds.all(h:∀us:Qu,us.length=ps.length->bindArgs fd ⟨us,[]⟩=pure (ps.zip us)):Binds K fd ps []:=λs us _ hl=>by rw[mZ]at hl ⊢;exact .of_eq<|h us hl
def dU(CX:mB)(X:Cx)(E:XK):Prop:=∀(tv:Lb) (σ:St) (H:Hp) (s:Shared) (e:Value) (s':Shared),Inv X tv σ H s->CX X.stack H s E e s'->X.xe e s'
section
variable{f C:Addr}{sp:Sp}{dvs:QJ}{ds:Qu}{E:XK}{m:Str}{apos:Pos}{o:Expr}
theorem pO{Q:VK}(F:FnOk X.prog X.w X.K X.mg X.base CX k f fd ps sp)(hr:Room k X.A)(hb:Binds X.K fd ps ds)(hd:Vals dvs ds)(hx:dU CX X E)
  (I:Inv X tv σ H s) (r:Vals vs us) (h:sp (vs++dvs) H Q E):wpAny (model X.prog X.w) X.A (call (.ref f) us) (EP X tv σ Q) X.xe s:=by
 have r2:Vals (vs++dvs) (us++ds):=r.append hd;have hl:(us++ds).length=ps.length:=by rw[<-r2.length];exact F.len _ _ _ _ h
 refine wpAny_call<|codeAny_mono (F.run X.A X.stack s H ⟨us,[]⟩ (us++ds) (vs++dvs) Q E hr I.env0 (hb s us I.kIn hl) r2 h) λr s' hq=>?_;cases r with
 |error e=>exact hx tv σ H s e s' I hq
 |ok fl=>
  cases fl with
  |ret u=>exact I.after hq|next=>exact P8 hq|brk=>exact P8 hq|cont=>exact P8 hq
theorem qQ(F:FnOk X.prog X.w X.K X.mg X.base CX k f fd ps sp)(hr:Room k X.A)(hg:Gl X x)(hm:X.mg x=some (.ref f))(hk:W.keepIn X.K (.ref f)=true)(hb:Binds X.K fd ps ds)(hd:Vals dvs ds)(hx:dU CX X E)
  (ha:PA X (e::es) t) (hdb:(QA x:)) (he:{QD X e es}) (hpl:{QE X pos es}) :
  PE X (.Call (.Name x p) (e::es) [] pos) (sw sp dvs E t):=by
 intro tv s σ H Q I h;refine Qk<|fD I hg hm ?_ hdb;refine W.callWith_K (h₀:=X.base) I.ok.mod.kin hk (bO (ha pos tv s σ H _ I h) λus s1 ⟨vs,H1,I1,r,q⟩=>⟨I1.kIn,?_⟩) he hpl;exact pO F hr hb hd hx I1 r q
end
structure dI(N P:Qx)(sc:Scope):Prop where
 kind:sc.kind=.function
 co:sc.isCoroutine=false
 gen:sc.isGenerator=false
 nd:N.Nodup
 pre:N.take P.length=P
 par:∀x∈P,sc.names.lookup x=some .local\/sc.names.lookup x=some .cell
 nofree:∀y∈sc.names,y.2≠.free
theorem jD{kindOf:Str->Option NameKind}{x:Str}:∀{binds:List (Str×Value)} {m:Qt},(∀v,(x,v)∉binds)->bindL kindOf binds m x=m x
 |[],_,_=>rfl
 |(n,v)::r,m,h=>by
  unfold bindL;rw[jD λw hw=>h w<|kj _ hw];split;have:x≠n:=by rintro rfl;exact h v md
  simp[this];rfl
theorem jE{kindOf:Str->Option NameKind}{x:Str}:∀{binds:List (Str×Value)} {m:Qt},(∀v,(x,v)∉binds)->bindC kindOf binds m x=m x
 |[],_,_=>rfl
 |(n,v)::r,m,h=>by
  unfold bindC;rw[jE λw hw=>h w<|kj _ hw];split;rfl;have:x≠n:=by rintro rfl;exact h v md
  simp[this]
theorem gJ{kindOf:Str->Option NameKind}{x:Str}{v:Value}:∀{P:Qx} {vs:Qu} {i:Nat} {m:Qt},P.Nodup->P[i]? = some x->vs[i]? = some v->kindOf x=some .local->
  bindL kindOf (P.zip vs) m x=some v
 |[],_,_,_,_,h,_,_=>by simp at h|_::_,[],_,_,_,_,h,_=>by simp at h
 |p::P,w::vs,0,m,nd,h1,h2,hk=>by
  simp at h1 h2;subst h1;subst h2;show bindL kindOf ((p,w)::P.zip vs) m p=_;unfold bindL;rw[jD λv hv=>(YaF.mp nd).1 (yJ hv).1,oI hk];simp
 |p::P,w::vs,i+1,m,nd,h1,h2,hk=>by
  show bindL kindOf ((p,w)::P.zip vs) m x=_;unfold bindL;exact gJ (i:=i) (YaF.mp nd).2 (by simpa using h1) (by simpa using h2) hk
theorem gK{kindOf:Str->Option NameKind}{x:Str}{v:Value}:∀{P:Qx} {vs:Qu} {i:Nat} {m:Qt},P.Nodup->P[i]? = some x->vs[i]? = some v->kindOf x≠some .local->
  bindC kindOf (P.zip vs) m x=some v
 |[],_,_,_,_,h,_,_=>by simp at h|_::_,[],_,_,_,_,h,_=>by simp at h
 |p::P,w::vs,0,m,nd,h1,h2,hk=>by
  simp at h1 h2;subst h1;subst h2;show bindC kindOf ((p,w)::P.zip vs) m p=_;unfold bindC;rw[jE λv hv=>(YaF.mp nd).1 (yJ hv).1,jx hk];simp
 |p::P,w::vs,i+1,m,nd,h1,h2,hk=>by
  show bindC kindOf ((p,w)::P.zip vs) m x=_;unfold bindC;exact gK (i:=i) (YaF.mp nd).2 (by simpa using h1) (by simpa using h2) hk
def start(N:Qx)(vs:QJ):St:=vs.map some++List.replicate (N.length-vs.length) none
def fo(CX:mB)(P:Program)(w:World)(K:PN)(mg:Qt)(base:Heap)(N:Qx)(qual:Str)(scope:Scope)(f:Addr)(cd:Value)(A:Around)(outer:List Env)(s:Shared)(H:Hp)(E:XK):Cx where
 prog:=P
 w:=w
 K:=K
 mg:=mg
 base:=base
 A:=A.deeper<|envOfC qual scope s.heap.objs.size f cd
 N:=N
 s₀:=s
 H₀:=H
 env:=envOfC qual scope s.heap.objs.size f cd
 outer:=outer
 stack:=envOfC qual scope s.heap.objs.size f cd::outer
 ex:=[]
 calm:=true
 fn:=λ_=>true
 pn:=[]
 xe:=λe s'=>wpAny (model P w) (A.deeper<|envOfC qual scope s.heap.objs.size f cd) (leaving (envOfC qual scope s.heap.objs.size f cd) e) (λ_ s''=>CX outer H s E e s'') (λe' s''=>CX outer H s E e' s'') s'
theorem fq{sc:Scope}(h:sc.names.lookup x=some .cell):∃c,(cellsFrom n sc.names []).lookup x=some c:=by have q:=W.cellsFrom_some sc.names n []<|.inl h;exact Option.isSome_iff_exists.mp q
theorem mD{f:Addr}{cd:Value}{outer:List Env}{s1:Shared}{E:XK}
  (S:dI N ps scope) (hd:A.handled=none) (e0:mC P w K mg base A outer s H) (hl:vs.length=ps.length) (r:Vals vs us)
  (x:InCallC s s.heap.objs.size (bindL (envOfC qual scope s.heap.objs.size f cd).kindOf (ps.zip us) λ_=>none) (cellsFrom (s.heap.objs.size+1) scope.names []) (bindC (envOfC qual scope s.heap.objs.size f cd).kindOf (ps.zip us) λ_=>none) s1) :
  Inv (fo CX P w K mg base N qual scope f cd A outer s H E) [] (start N vs) H s1:=by
 have hpl:ps.length<=N.length:=by have:=congrArg List.length S.pre;rw[m6]at this;omega
 obtain⟨h1,tk,rfl,hk⟩:=x.done;have noA:∀b:Addr,b∉(fo CX P w K mg base N qual scope f cd A outer s H E).ex:=λb z=>PQ (show b∈([]:List Addr) from z) KE;refine ⟨⟨e0.mod,S.kind,rfl,rfl,cO _,λy z c h1 h2=>?_,λy hy=>?_,λy c _ h=>?_,λ_=>hd,Around.frames_deeper e0.frames,.inr ⟨rfl,rfl⟩,λb z=>PQ z<|noA b,e0.bs,e0.bsz,λb _ _=>noA b,λb z=>PQ z<|noA b,e0.funs,e0.frf,e0.sysn⟩,
  rfl,e0.bare,Un.kept hk,⟨_,x.toInCall.ns,λi y v h1 h2 h3=>?_⟩,λy c h=>⟨_,x.cell y c h⟩,e0.hok.fresh<|cO _,λy c h=>?_,λp hp=>PQ (show p∈([]:Lb) from hp)<|KE,e0.hok.kept hk,?_⟩
 .exact name_of_addr x.apart (P3 h1)<|P3 h2
 .have hy:scope.names.lookup y=some .cell\/scope.names.lookup y=some .free:=hy
  rcases hy with hy|hy
  .exact fq hy
  .exact PQ rfl<|S.nofree _ (P3 hy)
 .exact lO<|x.above y c (P3 h)
 .have hi:i<vs.length:=by
   unfold start at h2
   by_cases hi:i<vs.length
   .exact hi
   .rw[lP<|by simpa using hi]at h2
    rw[lQ]at h2;split at h2<;>cases h2
  have ha:vs[i]? = some v:=by
   unfold start at h2;rw[lR<|by simpa using hi,cV]at h2;cases e:vs[i]? with
   |none=>rw[e]at h2;cases h2
   |some a=>rw[e]at h2;cases h2;rfl
  obtain⟨u,hu,rv⟩:=r.get ha;have hp:ps[i]? = some y:=by
   rw[<-S.pre,Bl<|E1];exact h1
  have ndP:ps.Nodup:=by rw[<-S.pre];exact S.nd.sublist<|List.take_sublist _ _
  refine⟨u,rv,?_⟩;rcases S.par y (pj hp) with k|k
  .exact .inl ⟨k,gJ ndP hp hu k⟩
  .obtain⟨c,e⟩:=fq (n:=s.heap.objs.size+1) k
   refine .inr ⟨.inl k,c,e,?_⟩;have q:=x.cell y c e;rw[gK ndP hp hu (by show scope.names.lookup y≠_;rw[k];decide)]at q;exact q
 .exact e0.hok.fresh<|lO (x.above y c<|P3 h)
 .unfold start
  show _=N.length;rw[fZ,bQ,lS];omega
theorem wm{f:Addr}{params:Arguments}{dV kV doc pm cdv ct oc:Value}{an od:Option Addr}
 {sp:Sp} (lk:K.lookup f=some ⟨oc,od,.func<|W.fnOf name qual params body scope dV kV doc pm an cdv ct,osl⟩) (hcd:W.codeIn K cdv qual=true) (S:dI N ps scope)
  (len:∀vs H Q E,sp vs H Q E->vs.length=ps.length)
  (hbody:∀ (A:Around) (outer:List Env) (s:Shared) (H:Hp) (vs:QJ) (Q:VK) (E:XK),Room k (A.deeper<|envOfC qual scope s.heap.objs.size f cdv)->sp vs H Q E->
   ∃t,nc (fo CX P w K mg base N qual scope f cdv A outer s H E) body t/\t { nx:=λ_ H'=>Q .non H',rt:=Q } (start N vs) H) :
  FnOk P w K mg base CX (k+1) f (W.fnOf name qual params body scope dV kV doc pm an cdv ct) ps sp:=by
 refine⟨len,λA outer s H args us vs Q E hr e0 hb r hsp=>?_⟩;have hl:=len _ _ _ _ hsp;have KX:K.In s.heap:=e0.mod.kin.keeps λb o e=>(e0.bs b o e).1;have lim:s.heap.NoLimit:=e0.mod.nolimit.keeps λb o e=>(e0.bs b o e).1;have hkind:∀y∈ps.zip us,scope.names.lookup y.1=some .local\/(scope.names.lookup y.1=some .cell/\((cellsFrom (s.heap.objs.size+1) scope.names []).lookup y.1).isSome=true):=λ⟨n,v⟩ hy=>by
  rcases S.par n (yJ hy).1 with q|q
  .exact .inl q
  .exact .inr ⟨q,W.cellsFrom_some _ _ _<|.inl q⟩
 refine codeAny_call_function hr.depth (KX _ _ lk) rfl S.co S.gen rfl (W.codeRec_of KX hcd)<|hb _ _ _ _ ?_;refine wpAny_newFunctionEnv_cells S.kind hkind λenv he s1 x=>?_;subst he;refine⟨lim.keeps x.toInCall.keep,codeAny_func ?_⟩;obtain⟨t,ht,hq⟩:=hbody A outer s H vs Q E (hr.deeper _) hsp;have I:Inv (fo CX P w K mg base N qual scope f cdv A outer s H E) [] (start N vs) H s1:=mD S hr.hd e0 hl r x;refine P2 (ht [] s1 (start N vs) H _ I hq) (λfl s' hs=>?_) λe s' hs=>hs;have fin:∀{σ':St} {H':Hp} {v:V} {u:Value},Inv (fo CX P w K mg base N qual scope f cdv A outer s H E) [] σ' H' s'->RelV v u->Q v H'->CE outer P w H s Q u s':=
  λ{σ' H' v u} J rv q=>⟨v,H',J.os,J.bare,J.base,J.hok,rv,q⟩
 cases fl with
 |ret u=>
  obtain⟨v,σ',H',J,rv,q⟩:=hs;exact fin J rv q
 |next=>
  obtain⟨σ',H',J,q⟩:=hs;exact fin (v:=V.non) (u:=Value.none) J rfl q
 |brk=>
  obtain⟨_,_,_,q⟩:=hs;exact P8 q
 |cont=>
  obtain⟨_,_,_,q⟩:=hs;exact P8 q
section
variable{id T:String}{r:QJ->Hp->VK->Prop}
def EN(r:QJ->Hp->VK->Prop)(t:TA):TE:=λσ H Q=>t σ H λvs H1=>r vs H1 Q
theorem pP(hc:fk X (.builtin id) r)(hg:Gl X x)(hm:X.mg x=none)(hv:bootBuiltins x=some (.builtin id))(ha:PA X (e::es) t)(hn:(x≠ "__name__":))(hdb:(QA x:))
  (he:{QD X e es}) (hpl:{QE X pos es}):PE X (.Call (.Name x p) (e::es) [] pos) (EN r t):=by
 intro tv s σ H Q I h;refine Qk<|fT I hg hm hv ?_ hn hdb;exact PyProof.Rows.callWith_builtin1 (bO (ha pos tv s σ H _ I h) λus s1 ⟨vs,H1,I1,r1,q1⟩=>hc tv s1 σ H1 vs us Q I1 r1 q1) he hpl
theorem jF(hc:fk X (.type T) r)(hg:Gl X x)(hm:X.mg x=none)(hv:bootBuiltins x=some (.type T))(ha:PA X (e::es) t)(hn:(x≠ "__name__":))(hdb:(QA x:))
  (he:{QD X e es}) (hpl:{QE X pos es}):PE X (.Call (.Name x p) (e::es) [] pos) (EN r t):=by
 intro tv s σ H Q I h;refine Qk<|fT I hg hm hv ?_ hn hdb;exact PyProof.Rows.callWith_type1 (bO (ha pos tv s σ H _ I h) λus s1 ⟨vs,H1,I1,r1,q1⟩=>hc tv s1 σ H1 vs us Q I1 r1 q1) he hpl
end
end L2
namespace HT
open PySem PyProof.Rows
section
variable{prog:Program}{w:World}{A:Around}{E:Mn}{s:Shared}
theorem cat_tup{t b:Addr}{vs ws:Qu}{Q:Mn}(ht:IsTup s.heap t vs.toArray)(hb:IsTup s.heap b ws.toArray)(hv:vs≠[])
  (h1:ws=[]->Q (.ref t) s) (h2:ws≠[]->Q (.ref s.heap.objs.size) { s with heap:=s.heap.push { cls:=.type "tuple",data:=.seq (vs++ws).toArray } })
  (hsz:vs.length+ws.length<=sizeLine):wpAny (model prog w) A (binaryOp .Add (.ref t)<|.ref b) Q E s:=by
 obtain⟨⟨cls,dd,data,sl⟩,ho,hc,n,hd⟩:=id ht;obtain⟨⟨cls2,dd2,data2,sl2⟩,ho2,hc2,n2,hd2⟩:=id hb;simp only at hc hd hc2 hd2;subst hc hd hc2 hd2;have e:vs.toArray++ws.toArray=(vs++ws).toArray:=KE
 by_cases hw:ws=[]
 .exact concat_meets ⟨_,ho,rfl⟩ ⟨_,ho2,rfl⟩ noFill_tuple_add seq_tuple_add F.slot_tuple_add F.entry_tuple_add (F.args_tuple_add_2 _ _)
   (tuple_addW1 t b vs.toArray ws.toArray n n2 dd dd2 sl sl2 (by simpa using hv)<|by simp[hw]) ⟨ho,ho2,h1 hw⟩
 .refine concat_meets ⟨_,ho,rfl⟩ ⟨_,ho2,rfl⟩ noFill_tuple_add seq_tuple_add F.slot_tuple_add F.entry_tuple_add (F.args_tuple_add_2 _ _)
   (tuple_addW2 t b vs.toArray ws.toArray n n2 dd dd2 sl sl2 (by simpa using hv) (by simpa using hw) (by rw[fJ,fJ];exact hsz)) ⟨ho,ho2,?_⟩
  rw[e];exact h2 hw
def sIx(n d:Nat):Option Int->Nat
 |none=>d|some v=>if v<0 then(v+(n:Int)).toNat else min v.toNat n
theorem sIx_none(n d:Nat):sIx n d none=d:=rfl
theorem sIx_nat(n d k:Nat):sIx n d (some (k:Int))=min k n:=by show(if(k:Int)<0 then((k:Int)+(n:Int)).toNat else min (k:Int).toNat n)=min k n;rw[jx<|E1,jA]
theorem um(n d:Nat)(hd:d<=n)(o:Option Int):sIx n d o<=n:=by
 cases o with
 |none=>exact hd|some v=>show(if v<0 then(v+(n:Int)).toNat else min v.toNat n)<=n;by_cases hv:v<0;rw[oI hv];omega;rw[jx hv];exact Nat.min_le_right _ _
theorem lY(v:Int)(n d:Nat):(if v<0 then max (v+(n:Int)) 0 else min v (n:Int))=((sIx n d (some v):Nat):Int):=by show(if v<0 then max (v+(n:Int)) 0 else min v (n:Int))=(((if v<0 then(v+(n:Int)).toNat else min v.toNat n):Nat):Int);by_cases hv:v<0;simp only[oI hv];omega;simp only[jx hv];omega
theorem lA(lo hi:Option Int)(n:Nat):Builtin.Slice.sliceAdjust lo hi 1 (n:Int)=(((sIx n 0 lo:Nat):Int),((sIx n n hi:Nat):Int)):=by
 have h1:¬((1:Int)<0):=E1
 unfold Builtin.Slice.sliceAdjust;simp only[h1,if_false];refine Prod.ext ?_ ?_;cases lo with
 |none=>rfl|some v=>exact lY v n 0
 cases hi with
 |none=>rfl|some v=>exact lY v n n
theorem lB(i j:Nat):Builtin.Slice.slicePlaces (i:Int) (j:Int) 1=j-i:=by
 unfold Builtin.Slice.slicePlaces;have h1:(1:Int)>0:=E1
 simp only[h1,if_true,Int.ediv_one];split<;>omega
theorem iK{v:Value}{o:Option Int}{Q:Option Int->Shared->Prop}(p:IsPart v o)(h:Q o s):wpAny (model prog w) A (Builtin.Slice.slicePartIndex v) Q E s:=by
 cases p with
 |none=>exact slicePart_none h|int i t=>exact slicePart_int h
theorem eL{sl:Addr}{vl vu:Value}{lo hi:Option Int}{n:Nat}{Q:Int×Int×Nat->Shared->Prop}(hs:s.heap.IsSliceOf sl vl vu .none)(pl:IsPart vl lo)(pu:IsPart vu hi)
  (h:Q (((sIx n 0 lo:Nat):Int),1,sIx n n hi-sIx n 0 lo) s):wpAny (model prog w) A (Builtin.Slice.sliceApplied (.ref sl)<|pure (n:Int)) Q E s:=by
 obtain⟨os,hos,hcs,hds⟩:=id hs;unfold Builtin.Slice.sliceApplied Builtin.Slice.sliceFields;refine PM<|PM (P4 hos hds (x:=vl) rfl<|PM<|P4 hos hds (x:=vu) rfl<|PM<|P4 hos hds (x:=.none) rfl<|PP ?_);refine PM<|slicePart_none ?_;show wpAny _ _ (if((1:Int)==0)=true then _ else _) _ _ s;rw[jx<|E8];refine PM<|iK pl (PM<|iK pu<|PM<|PP ?_);show wpAny _ _ (match Builtin.Slice.sliceAdjust lo hi 1 (n:Int) with|(lo,hi)=>pure (lo,(1:Int),Builtin.Slice.slicePlaces lo hi 1)) _ _ s;rw[lA lo hi n];show wpAny _ _ (pure (((sIx n 0 lo:Nat):Int),(1:Int),Builtin.Slice.slicePlaces ((sIx n 0 lo:Nat):Int) ((sIx n n hi:Nat):Int) 1)) _ _ s;rw[lB];exact PP h
theorem pQ(xs:Array Value)(i k:Nat):((List.range k).filterMap λ(m:Nat)=>xs[((i:Int)+(m:Int)*1).toNat]?).toArray=((xs.toList.drop i).take k).toArray:=by
 have e:(λ(m:Nat)=>xs[((i:Int)+(m:Int)*1).toNat]?)=λm=>xs[i+m]?:=by
  funext m;have:((i:Int)+(m:Int)*1).toNat=i+m:=E1
  rw[this]
 rw[e];have:=pick_run xs i k;rw[List.filterMap_map]at this;have e2:((λx=>xs[x]?)∘λx=>i+x)=λm=>xs[i+m]?:=rfl;rw[e2]at this;rw[this]
theorem getItem_tuple_cut{t sl:Addr}{items:Array Value}{vl vu:Value}{lo hi:Option Int}{Q:Mn}(ht:IsTup s.heap t items)(hs:s.heap.IsSliceOf sl vl vu .none)(pl:IsPart vl lo)(pu:IsPart vu hi)
  (hw:¬(sIx items.size 0 lo=0/\sIx items.size items.size hi=items.size))
  (h:Q (.ref s.heap.objs.size) { s with heap:=s.heap.push { cls:=.type "tuple",data:=.seq ((items.toList.drop<|sIx items.size 0 lo).take<|sIx items.size items.size hi-sIx items.size 0 lo).toArray } })
  (hsz:items.size<=sizeLine):wpAny (model prog w) A (getItem (.ref t)<|.ref sl) Q E s:=by
 have htake:sizeOk (.seq ((items.toList.drop<|sIx items.size 0 lo).take<|sIx items.size items.size hi-sIx items.size 0 lo).toArray):=by
  show((items.toList.drop<|sIx items.size 0 lo).take<|sIx items.size items.size hi-sIx items.size 0 lo).toArray.size<=sizeLine;rw[fJ,m6,m8,yH];omega
 have hj:sIx items.size items.size hi<=items.size:=um _ _ (cO _) hi;obtain⟨os,hos,hcs,hds⟩:=id hs;have hTs:s.TypeIs (.ref sl) "slice" :=⟨os,hos,hcs⟩
 unfold getItem
 try with_reducible refine Qi ?_
 first|refine PM (PP ?_)|skip
 refine PM<|wpAny_sequenceKey ht.typeIs E8 ?_;refine PM (wpAny_callSpecial?_slot (name:=Str.ofString "__getitem__") ht.typeIs PyProof.Rows.slot_tuple_getitem
  (Qe PyProof.Rows.slot_tuple_getitem ht.typeIs entry_tuple_getitem ?_<|args_tuple_getitem _ _))
 show wpAny _ _ (Builtin.Tuple.tupleItemsOf (.ref t) >>= _) _ _ s;refine PM<|tupleItemsOf_ ht ?_;refine PM<|wpAny_typeOf hTs ?_;rw[oI<|E8];refine PM<|eL hs pl pu ?_;have hno:¬((((sIx items.size 0 lo:Nat):Int)==0&&(1:Int)==1&&(sIx items.size items.size hi-sIx items.size 0 lo)==items.size)=true):=by
  intro q;rw[cX,cX]at q;have q1:((sIx items.size 0 lo:Nat):Int)=0:=eq_of_beq q.1.1;have q2:sIx items.size items.size hi-sIx items.size 0 lo=items.size:=eq_of_beq q.2;exact hw ⟨E1,E1⟩
 show wpAny _ _ (if(((sIx items.size 0 lo:Nat):Int)==0&&(1:Int)==1&&(sIx items.size items.size hi-sIx items.size 0 lo)==items.size)=true then _ else _) _ _ s;rw[jx hno,pQ]
 first
  |exact PM (m:=Builtin.Tuple.tupleExact _)<|P5 (PP ⟨_,rfl,PP h⟩) htake
  |exact PM (m:=Builtin.Tuple.tupleExact _)<|P5 (PM<|PP<|PP ⟨_,rfl,PP h⟩) htake
  |exact PM<|PM (m:=Builtin.Tuple.tupleExact _) (P5 (PP<|PP ⟨_,rfl,PP h⟩) htake)
  |exact PM<|PM (m:=Builtin.Tuple.tupleExact _) (P5 (PP ⟨_,rfl,PP h⟩) htake)
end
end HT
namespace L2
open PySem PySem.Spec PyProof.Rows
variable{X:Cx}{e:Expr}{pos:Pos}{r:V->Option Int->Option Int->Hp->VK->Prop}{xs:QJ}{n j t':Nat}{i:Int}{tv:Lb}{σ:St}{H:Hp}{s:Shared}{its':Qu}{f:Array Value->Array Value}{A:Around}{x:V}{T:String}
abbrev TO:=St->Hp->(Option Int->Hp->Prop)->Prop
def PO(X:Cx)(e:Option Expr)(t:TO):Prop:=
 ∀(tv:Lb) (s:Shared) (σ:St) (H:Hp) (Q:Option Int->Hp->Prop),Inv X tv σ H s->t σ H Q->
  wpAny (model X.prog X.w) X.A (evalPart e X.env) (λu s'=>∃o H',Inv X tv σ H' s'/\IsPart u o/\Q o H') X.xe s
def qR:TO:=λ_ H Q=>Q none H
def wn(t:TE):TO:=λσ H Q=>t σ H λx H1=>∃i,x=.int i/\Q (some i) H1
section
variable{te:TE}{lo hi:Option Expr}{tl th:TO}{p2:Pos}
theorem qS:PO X none qR:=by intro tv s σ H Q I h;rw[evalPart_none];exact PP ⟨none,H,I,.none,h⟩
theorem qT(h:PE X e te):PO X (some e) (wn te):=by intro tv s σ H Q I hw;rw[evalPart_some];refine bO (h tv s σ H _ I hw) λu s1 ⟨x,H1,I1,r1,q1⟩=>?_;obtain⟨i,rfl,q⟩:=q1;obtain⟨t,rfl⟩:=r1;exact⟨some i,H1,I1,.int i t,q⟩
def SlR(X:Cx)(r:V->Option Int->Option Int->Hp->VK->Prop):Prop:=
 ∀(tv:Lb) (s:Shared) (σ:St) (H:Hp) (x:V) (v vl vu:Value) (lo hi:Option Int) (sl:Addr) (Q:VK),Inv X tv σ H s->RelV x v->s.heap.IsSliceOf sl vl vu .none->IsPart vl lo->IsPart vu hi->r x lo hi H Q->
  ∃T id,typeLookup (.type T) "__getitem__" = pure (some<|.builtin id)/\s.TypeIs v T/\wpAny (model X.prog X.w) X.A (getItem v<|.ref sl) (EP X tv σ Q) X.xe s
theorem SlR.or{r':V->Option Int->Option Int->Hp->VK->Prop}(h:SlR X r)(h':SlR X r'):SlR X (λx lo hi H Q=>r x lo hi H Q\/r' x lo hi H Q):=by
 intro tv s σ H x v vl vu lo hi sl Q I rx hs pl pu q;rcases q with q|q
 exact h tv s σ H x v vl vu lo hi sl Q I rx hs pl pu q;exact h' tv s σ H x v vl vu lo hi sl Q I rx hs pl pu q
def Jc(r:V->Option Int->Option Int->Hp->VK->Prop)(te:TE)(tl th:TO):TE:=λσ H Q=>te σ H λx H1=>tl σ H1 λl H2=>th σ H2 λu H3=>r x l u H3 Q
theorem pR(hr:SlR X r)(he:PE X e te)(hl:PO X lo tl)(hu:PO X hi th):PE X (.Subscript e (.Slice lo hi none p2) pos) (Jc r te tl th):=by intro tv s σ H Q I h;refine Subscript_<|bO (he tv s σ H _ I h) λv s1 ⟨x,H1,I1,r1,q1⟩=>?_;refine wpAny_Slice<|bO (hl tv s1 σ H1 _ I1 q1) λvl s2 ⟨l,H2,I2,pl,q2⟩=>bO (hu tv s2 σ H2 _ I2 q2) λvu s3 ⟨u,H3,I3,pu,q3⟩=>?_;rw[evalPart_none];refine PP ?_;have I4:Inv X tv σ H3 { s3 with heap:=s3.heap.push { cls:=.type "slice",data:=.fields #[vl,vu,.none] } }:=I3.kept (t':=s3.toks) λb ob q=>eQ _ q;obtain⟨T,id,hT,ht,hg⟩:=hr tv { s3 with heap:=s3.heap.push { cls:=.type "slice",data:=.fields #[vl,vu,.none] } } σ H3 x v vl vu l u s3.heap.objs.size Q I4 r1 (Heap.IsSliceOf.new ..) pl pu q3;show wpAny (model X.prog X.w) X.A (subscriptTail e (.Slice lo hi none p2) v<|.ref s3.heap.objs.size) (EP X tv σ Q) X.xe { s3 with heap:=s3.heap.push { cls:=.type "slice",data:=.fields #[vl,vu,.none] } };exact tail_any (ops:=[.ref s3.heap.objs.size,v]) ht hT hg (by with_unfolding_all rfl)
def kF(xs:QJ)(lo hi:Option Int):QJ:=(xs.drop<|HT.sIx xs.length 0 lo).take<|HT.sIx xs.length xs.length hi-HT.sIx xs.length 0 lo
theorem gW(xs:QJ)(lo hi:Option Int):(kF xs lo hi).length<=xs.length:=by unfold kF;rw[m6,m8];omega
def BX(K:PN):V->Option Int->Option Int->Hp->VK->Prop:=λx lo hi H Q=>∃a xs,x=.ref a/\SqT K H a xs/\
 ¬(HT.sIx xs.length 0 lo=0/\HT.sIx xs.length xs.length hi=xs.length)/\∀p,H p=none->Q (.ref p) (upd H p<|.tup<|kF xs lo hi)
theorem sl_tup:SlR X (BX X.K):=by
 intro tv s σ H x v vl vu lo hi sl Q I rx hs pl pu h;obtain⟨a,xs,rfl,hx,hw,q⟩:=h;cases rx;obtain⟨its,r,ht,hz⟩:=I.tuple hx;have hlen:its.toArray.size=xs.length:=by rw[fJ];exact r.length.symm
 refine⟨"tuple",_,PyProof.Rows.slot_tuple_getitem.lookup,ht.typeIs,?_⟩;refine HT.getItem_tuple_cut ht hs pl pu (by rw[hlen];exact hw) ?_ (by rw[hlen];exact hz);rw[hlen];refine⟨.ref s.heap.objs.size,_,I.laid (t':=s.toks) (o:=.tup<|kF xs lo hi) (λb ob q=>eQ _ q) (cO _) ?_,rfl,q _<|I.hok.fresh<|cO _⟩;exact⟨jw (gW xs lo hi) hz,_,(r.drop<|HT.sIx xs.length 0 lo).take<|HT.sIx xs.length xs.length hi-HT.sIx xs.length 0 lo,IsTup.new _ _⟩
def wq(K:PN):R2:=λx y H Q=>∃a b xs ys,x=.ref a/\y=.ref b/\SqT K H a xs/\SqT K H b ys/\xs≠[]/\xs.length+ys.length<=sizeLine/\
 (ys=[]->Q (.ref a) H)/\(ys≠[]->∀p,H p=none->Q (.ref p) (upd H p<|.tup<|xs++ys))
theorem Vals.nil_iff{us:Qu}(r:Vals xs us):us=[]↔xs=[]:=by
 cases r with
 |nil=>simp|cons _ _=>simp
theorem qU:OpR X (binaryOp .Add) (wq X.K):=by intro tv s σ H x y v u Q I rx ry h;obtain⟨a,b,xs,ys,rfl,rfl,ha,hb,hx,hz,q1,q2⟩:=h;cases rx;cases ry;obtain⟨its,r1,p1,_⟩:=I.tuple ha;obtain⟨its2,r2,p2,_⟩:=I.tuple hb;refine HT.cat_tup p1 p2 (λz=>hx<|r1.nil_iff.mp z) (λz=>⟨.ref a,H,I,rfl,q1<|r2.nil_iff.mp z⟩) (λz=>?_) (by rw[<-r1.length,<-r2.length];exact hz);refine⟨.ref s.heap.objs.size,_,I.laid (t':=s.toks) (o:=.tup<|xs++ys) (λb ob q=>eQ _ q) (cO _) ?_,rfl,q2 (λw=>z<|r2.nil_iff.mpr w) _<|I.hok.fresh<|cO _⟩;exact⟨by rw[fZ];exact hz,_,r1.append r2,IsTup.new _ _⟩
end
def lC(n:Nat)(i:Int):Option Nat:=if 0<=i then(if i<n then some i.toNat else none) else if -(n:Int)<=i then some (i+n).toNat else none
def eR{α:Type}(xs:List α)(i:Int):Option α:=(lC xs.length i).bind λj=>xs[j]?
theorem lZ(h:lC n i=some j):seqIndex? i n=some j/\j<n/\-(n:Int)<=i/\i<n:=by unfold lC at h;by_cases h0:0<=i;rw[oI h0]at h;by_cases h1:i<n;rw[oI h1]at h;have e:i.toNat=j:=PY h;exact⟨by rw[seqIndex_of h0 h1,e],E1,E1,h1⟩;rw[jx h1]at h;cases h;rw[jx h0]at h;by_cases h1:-(n:Int)<=i;rw[oI h1]at h;have e:(i+n).toNat=j:=PY h;exact⟨by rw[seqIndex_neg E1 h1,e],E1,h1,E1⟩;rw[jx h1]at h;cases h
theorem jW{α:Type}{xs:List α}{v:α}(h:eR xs i=some v):∃j,seqIndex? i xs.length=some j/\xs[j]? = some v/\j<xs.length/\-(xs.length:Int)<=i/\i<xs.length:=by
 unfold eR at h;cases e:lC xs.length i with
 |none=>rw[e]at h;cases h
 |some j=>rw[e]at h;obtain⟨h1,h2,h3,h4⟩:=lZ e;exact⟨j,h1,h,h2,h3,h4⟩
theorem aK{α:Type}{xs:List α}{v:α}(h:xs[j]? = some v):eR xs (j:Int)=some v:=by
 have hj:j<xs.length:=(Yaq.mp h).1;have e:lC xs.length (j:Int)=some j:=by unfold lC;rw[oI<|E1,oI<|E1];simp
 unfold eR;rw[e];exact h
theorem pS{α:Type}(xs:List α)(v:α):eR (xs++[v]) (-1)=some v:=by
 have hl:(xs++[v]).length=xs.length+1:=KE
 have e:lC (xs++[v]).length (-1)=some xs.length:=by unfold lC;rw[hl,jx<|E8,oI<|E1];congr 1;omega
 unfold eR;rw[e];show(xs++[v])[xs.length]? = some v;simp
def iw(b:Expr):Prop:=∀o i,subscripted b false o i=operate [o,i] (getItem o i)
def IxR(X:Cx)(r:R2):Prop:=
 ∀(value slice:Expr) (tv:Lb) (s:Shared) (σ:St) (H:Hp) (x y:V) (v u:Value) (Q:VK),Inv X tv σ H s->RelV x v->RelV y u->r x y H Q->
  subscripted slice false v u=operate [v,u] (getItem v u)->wpAny (model X.prog X.w) X.A (subscriptTail value slice v u) (EP X tv σ Q) X.xe s
def BY(X:Cx)(id:String)(r:V->QJ->Hp->VK->Prop):Prop:=
 ∀(tv:Lb) (s:Shared) (σ:St) (H:Hp) (x:V) (xs:QJ) (v:Value) (us:Qu) (Q:VK),Inv X tv σ H s->RelV x v->Vals xs us->r x xs H Q->
  wpAny (model X.prog X.w) X.A (call (.builtin id) (v::us)) (EP X tv σ Q) X.xe s
section
variable{a b:Expr}{ta tb:TE}
theorem IxR.or{r r':R2}(h:IxR X r)(h':IxR X r'):IxR X (λx y H Q=>r x y H Q\/r' x y H Q):=by
 intro value slice tv s σ H x y v u Q I rx ry q hs;rcases q with q|q
 exact h value slice tv s σ H x y v u Q I rx ry q hs;exact h' value slice tv s σ H x y v u Q I rx ry q hs
theorem pT{r:R2}(hr:IxR X r)(ha:PE X a ta)(hb:PE X b tb)(hs:iw b):PE X (.Subscript a b pos) (zg r ta tb):=by intro tv s σ H Q I h;exact Subscript_<|ud ha hb I h λv u s2 x y H2 I2 rx ry q=>hr a b tv s2 σ H2 x y v u Q I2 rx ry q (hs _ _)
def wu(K:PN):R2:=λx y H Q=>∃p xs i v,x=.ref p/\y=.int i/\SqL K H p xs/\eR xs i=some v/\Q v H
def ww(K:PN):R2:=λx y H Q=>∃p xs i v,x=.ref p/\y=.int i/\SqT K H p xs/\eR xs i=some v/\Q v H
def wx:R2:=λx y H Q=>∃z i c,x=.str z/\y=.int i/\z.length<=sizeLine/\eR z.cps.toList i=some c/\Q (.str ⟨#[c]⟩) H
theorem ix_list:IxR X (wu X.K):=by
 intro value slice tv s σ H x y v u Q I rx ry h hs;obtain⟨p,xs,i,z,rfl,rfl,hq,he,q⟩:=h;cases rx;obtain⟨t,rfl⟩:=ry;obtain⟨its,r,pl,hz⟩:=I.list hq;obtain⟨j,h1,h2,h3,h4,h5⟩:=jW he;obtain⟨w,ew,rw'⟩:=r.get h2;have hl:=r.length;have hn:=gI;have fin:EP X tv σ Q w s:=⟨z,H,I,rw',q⟩;by_cases h0:0<=i;have hj:i.toNat=j:=by rw[seqIndex_of h0 h5]at h1;exact PY h1
 exact item_listR pl.isList h0 E1 (by rw[hj];simpa using ew) fin hs;have hj:(i+(its.toArray.size:Int)).toNat=j:=by rw[seqIndex_neg E1 h4]at h1;rw[fJ,<-hl];exact PY h1
 exact subscriptTail_builtinR (x:=w) pl.isList.typeIs slot_list_getitem.lookup
  (wpAny_getItem_list_neg (Q:=λr s'=>r=w/\EP X tv σ Q r s') pl.isList E1 (by rw[fJ]<;>omega) E1 (by rw[hj];simpa using ew) ⟨rfl,fin⟩) hs
theorem ix_tup:IxR X (ww X.K):=by
 intro value slice tv s σ H x y v u Q I rx ry h hs;obtain⟨p,xs,i,z,rfl,rfl,hq,he,q⟩:=h;cases rx;obtain⟨t,rfl⟩:=ry;obtain⟨its,r,pl,hz⟩:=I.tuple hq;obtain⟨j,h1,h2,h3,h4,h5⟩:=jW he;obtain⟨w,ew,rw'⟩:=r.get h2;have hl:=r.length;have hn:=gI;have fin:EP X tv σ Q w s:=⟨z,H,I,rw',q⟩;exact subscriptTail_builtinR (x:=w) pl.typeIs slot_tuple_getitem.lookup
  (getItem_tuple (j:=j) (Q:=λr s'=>r=w/\EP X tv σ Q r s') pl E1 E1 (by rw[fJ,<-hl];exact h1) (by simpa using ew) ⟨rfl,fin⟩) hs
theorem uo:IxR X wx:=by
 intro value slice tv s σ H x y v u Q I rx ry h hs;obtain⟨z,i,c,rfl,rfl,hz,he,q⟩:=h;obtain⟨t,rfl⟩:=rx;obtain⟨t',rfl⟩:=ry;obtain⟨j,h1,h2,h3,h4,h5⟩:=jW he;have hl:z.cps.toList.length=z.length:=by simp[Str.length]
 rw[hl]at h1 h4 h5;have hn:=gI;exact tail_any (typeIs_str s z t) slot_str_getitem.lookup (getItem_str (c:=c) (by
  have e1:decide (i < -(2^63:Int))=false:=PU E1;have e2:decide (i ≥ 2^63)=false:=PU E1;rw[e1,e2,Bool.or_false]) (by rw[h1];simpa using h2) ⟨.str ⟨#[c]⟩,H,I.tok _,⟨_,rfl⟩,q⟩) hs
def EO(K:PN):R2:=λx y H Q=>wu K x y H Q\/ww K x y H Q\/wx x y H Q
theorem jX:IxR X (EO X.K):=ix_list.or<|ix_tup.or uo
theorem lD(its:Qu)(n j:Nat)(u:Value):Obj.mapSeq (·.setIfInBounds j u) { cls:=.type "list",data:=.seq its.toArray n }={ cls:=.type "list",data:=.seq (its.set j u).toArray n }:=by simp[Obj.mapSeq]
theorem Inv.lst{tv:Lb}{σ:St}{H:Hp}{s:Shared}{p:Addr}{xs:QJ}(I:Inv X tv σ H s)(h:H p=some (.lst xs)) :
  ∃(its:Qu) (n:Nat),Vals xs its/\s.heap.get? p=some { cls:=.type "list",data:=.seq its.toArray n }/\xs.length<=sizeLine:=by
 obtain⟨z,its,n,r,e⟩:=I.hok p _ h;exact⟨its,n,r,e,z⟩
theorem Inv.lstUpd{p:Addr}{ys:QJ}{its:Qu}{n':Nat}{f:Obj->Obj}(I:Inv X tv σ H s)(h:H p=some (.lst xs))
  (ho:s.heap.get? p=some { cls:=.type "list",data:=.seq its.toArray n }) (hf:f { cls:=.type "list",data:=.seq its.toArray n }={ cls:=.type "list",data:=.seq its'.toArray n' }) (r:Vals ys its') (hz:ys.length<=sizeLine) (t:Nat) :
  Inv X tv σ (upd H p<|.lst ys) { s with heap:=s.heap.update p f,toks:=t }:=by
 have e:(s.heap.update p f).get? p=some { cls:=.type "list",data:=.seq its'.toArray n' }:=by
  rw[yK f ho (by rw[hf]<;>rfl),hf]
 refine I.write (x:=p) (e:=p) (by rw[h];trivial) (.inl rfl) (λb u hb q=>(tG _ _<|P9 hb).trans q) ⟨_,e⟩ ?_<|.inl ⟨_,h⟩;exact⟨hz,its',n',r,e⟩
def wy:V->V->V->Hp->(Hp->Prop)->Prop:=λo i v H Q=>∃p xs k j,o=.ref p/\i=.int k/\H p=some (.lst xs)/\lC xs.length k=some j/\Q (upd H p<|.lst<|xs.set j v)
theorem gk:v4 X wy:=by
 intro tv s σ H o i v ov iv u Q I ro ri rv h;obtain⟨p,xs,k,j,rfl,rfl,hp,hj,q⟩:=h;cases ro;obtain⟨t,rfl⟩:=ri;obtain⟨its,n,r,ho,hz⟩:=I.lst hp;obtain⟨h1,h2,h3,h4⟩:=lZ hj;have hl:=r.length;have hn:=gI;have I':Inv X tv σ (upd H p<|.lst<|xs.set j v) { s with heap:=s.heap.update p (Obj.mapSeq (·.setIfInBounds j u)) }:=
  I.lstUpd hp ho (lD its n j u) (r.set rv j) (by rw[dQ];exact hz) s.toks
 by_cases h0:0<=k;have hk:k.toNat=j:=by rw[seqIndex_of h0 h4]at h1;exact PY h1
 exact W.ki_setAt ho h0 E1 (by rw[fJ,<-hl];exact h4) (by rw[hk];exact⟨_,I',q⟩);have hk:(k+(its.toArray.size:Int)).toNat=j:=by rw[seqIndex_neg E1 h3]at h1;rw[fJ,<-hl];exact PY h1
 exact W.ki_setBack ho E1 (by rw[fJ,<-hl];exact h3) E1 (by rw[hk];exact⟨_,I',q⟩)
theorem jY(lo hi:Option Int)(n:Nat):(sliceBounds lo hi none n).1=((HT.sIx n 0 lo:Nat):Int)/\(sliceBounds lo hi none n).2.1=((HT.sIx n n hi:Nat):Int)/\(sliceBounds lo hi none n).2.2=1:=by
 refine⟨?_,?_,rfl⟩;cases lo with
 |none=>simp[sliceBounds,HT.sIx]|some i=>simp only[sliceBounds,HT.sIx,Option.getD_none,show(1:Int)>0 by decide,if_true];by_cases h:i<0;simp only[h,if_true]<;>omega;simp only[h,if_false]<;>omega
 cases hi with
 |none=>simp[sliceBounds,HT.sIx]|some i=>simp only[sliceBounds,HT.sIx,Option.getD_none,show(1:Int)>0 by decide,if_true];by_cases h:i<0;simp only[h,if_true]<;>omega;simp only[h,if_false]<;>omega
theorem i8(its:Qu)(lo hi:Option Int):slicePick its.toArray lo hi none=((its.drop<|HT.sIx its.length 0 lo).take<|HT.sIx its.length its.length hi-HT.sIx its.length 0 lo).toArray:=by obtain⟨h1,h2,h3⟩:=jY lo hi its.toArray.size;unfold slicePick;rw[h1,h2,h3];simp only[sliceRange_one,pick_run,fJ]<;>rfl
def BZ(K:PN):V->Option Int->Option Int->Hp->VK->Prop:=λx lo hi H Q=>∃a xs,x=.ref a/\SqL K H a xs/\∀p,H p=none->Q (.ref p) (upd H p<|.lst<|kF xs lo hi)
theorem sl_list:SlR X (BZ X.K):=by intro tv s σ H x v vl vu lo hi sl Q I rx hs pl pu h;obtain⟨a,xs,rfl,hx,q⟩:=h;cases rx;obtain⟨its,r,ht,hz⟩:=I.list hx;have hlen:=r.length;refine⟨"list",_,slot_list_getitem.lookup,ht.isList.typeIs,?_⟩;refine wpAny_getItem_list_slice ht.isList hs pl pu .none KE ?_ (by rw[fJ]<;>omega);rw[i8,<-hlen];refine⟨.ref s.heap.objs.size,_,I.laid (t':=s.toks) (o:=.lst<|kF xs lo hi) (λb ob q=>eQ _ q) (cO _) ?_,rfl,q _<|I.hok.fresh<|cO _⟩;exact⟨jw (gW xs lo hi) hz,_,0,(r.drop<|HT.sIx xs.length 0 lo).take<|HT.sIx xs.length xs.length hi-HT.sIx xs.length 0 lo,jy _ rfl⟩
def gp:V->Bool
 |.non=>true|.bl _=>true|.int _=>true|.str _=>true|_=>false
noncomputable def sC:V->V->Bool
 |.non,.non=>true|.bl a,.bl b=>a==b|.bl a,.int b=>(if a then 1 else 0)==b|.int a,.bl b=>a==(if b then 1 else 0)|.int a,.int b=>a==b|.str a,.str b=>a==b|_,_=>false
theorem uq{y:V}{u v:Value}(ry:RelV y u)(rx:RelV x v)(fy:gp y=true)(fx:gp x=true):SeqAt.EqAt A s u v (sC y x):=by
 cases y with
 |non=>
  cases ry;cases x with
  |non=>cases rx;exact SeqAt.EqAt.same _
  |bl b=>cases rx;exact SeqAt.EqAt.none_bool b
  |int b=>obtain⟨t,rfl⟩:=rx;exact SeqAt.EqAt.none_int b t
  |str b=>obtain⟨t,rfl⟩:=rx;exact SeqAt.EqAt.none_str b t
  |_=>exact PQ (show false=true from fx) kw
 |bl a=>
  cases ry;cases x with
  |non=>cases rx;exact SeqAt.EqAt.bool_none a
  |bl b=>cases rx;exact SeqAt.EqAt.bool_bool a b
  |int b=>obtain⟨t,rfl⟩:=rx;exact SeqAt.EqAt.bool_int a b t
  |str b=>obtain⟨t,rfl⟩:=rx;exact SeqAt.EqAt.bool_str a b t
  |_=>exact PQ (show false=true from fx) kw
 |int a=>
  obtain⟨t',rfl⟩:=ry;cases x with
  |non=>cases rx;exact SeqAt.EqAt.int_none a t'
  |bl b=>cases rx;exact SeqAt.EqAt.int_bool a t' b
  |int b=>obtain⟨t,rfl⟩:=rx;exact SeqAt.EqAt.int_int a t' b t
  |str b=>obtain⟨t,rfl⟩:=rx;exact SeqAt.EqAt.int_str a t' b t
  |_=>exact PQ (show false=true from fx) kw
 |str a=>
  obtain⟨t',rfl⟩:=ry;cases x with
  |non=>cases rx;exact SeqAt.EqAt.str_none a t'
  |bl b=>cases rx;exact SeqAt.EqAt.str_bool a t' b
  |int b=>obtain⟨t,rfl⟩:=rx;exact SeqAt.EqAt.str_int a t' b t
  |str b=>obtain⟨t,rfl⟩:=rx;exact SeqAt.EqAt.str_str a t' b t
  |_=>exact PQ (show false=true from fx) kw
 |_=>exact PQ (show false=true from fy) kw
def qV(x:V)(u:Value):Bool:=match u with|.none=>sC .non x|.bool b=>sC (.bl b) x|.int i _=>sC (.int i) x|.str z _=>sC (.str z) x|_=>false
theorem pU{y:V}{u:Value}(r:RelV y u)(f:gp y=true):qV x u=sC y x:=by
 cases y with
 |non=>cases r;rfl
 |bl b=>cases r;rfl
 |int i=>obtain⟨t,rfl⟩:=r;rfl
 |str z=>obtain⟨t,rfl⟩:=r;rfl
 |_=>exact PQ (show false=true from f) kw
theorem jZ{x:V}:∀{xs:QJ} {us:Qu},Vals xs us->xs.all gp=true->us.any (qV x)=xs.any λy=>sC y x
 |_,_,.nil,_=>rfl|y::xs,u::us,.cons r t,f=>by rw[u3,cX]at f;rw[yL,yL,pU r f.1,jZ t f.2]
theorem iM{A:Around}{s:Shared}{x:V}{v:Value}(rx:RelV x v)(fx:gp x=true):∀{xs:QJ} {us:Qu},Vals xs us->xs.all gp=true->∀u∈us,SeqAt.EqAt A s u v (qV x u)
 |_,_,.nil,_=>λu hu=>by cases hu
 |y::xs,u::us,.cons r t,f=>λu' hu=>by
  rw[u3,cX]at f;rcases Yan.mp hu with rfl|hu
  rw[pU r f.1];exact uq r rx f.1 fx;exact iM rx fx t f.2 u' hu
def zk(x:V)(xs:QJ):Bool:=xs.any λy=>sC y x
def EQ(K:PN)(neg:Bool):R2:=λx y H Q=>∃p xs,y=.ref p/\(SqL K H p xs\/SqT K H p xs)/\gp x=true/\xs.all gp=true/\Q (.bl (if neg then !zk x xs else zk x xs)) H
theorem j0:OpR X (compareOp .NotIn) (EQ X.K true):=by
 intro tv s σ H x y v u Q I rx ry h;obtain⟨p,xs,rfl,hq,fx,fs,q⟩:=h;cases ry;rcases hq with hq|hq
 obtain⟨its,r,pl,hz⟩:=I.list hq;refine SeqAt.notIn_listAt (qV x) pl.isList (λw hw=>iM rx fx r fs w<|by simpa using hw) ⟨.bl _,H,I,rfl,?_⟩;rw[show its.toArray.any (qV x)=its.any (qV x) by simp,jZ r fs];exact q;obtain⟨its,r,pl,hz⟩:=I.tuple hq;refine SeqAt.notIn_tupleAt (qV x) pl (λw hw=>iM rx fx r fs w<|by simpa using hw) ⟨.bl _,H,I,rfl,?_⟩;rw[show its.toArray.any (qV x)=its.any (qV x) by simp,jZ r fs];exact q
theorem j3:fk X (.builtin "len") (λxs H Q=>∃p ys,xs=[.ref p]/\(SqL X.K H p ys\/SqT X.K H p ys)/\Q (.int ys.length) H):=by
 intro tv s σ H xs us Q I r h;obtain⟨p,ys,rfl,hq,q⟩:=h;obtain⟨u,rfl,rx⟩:=fP r;cases rx;have hn:=gI;rcases hq with hq|hq
 obtain⟨its,r',pl,hz⟩:=I.list hq;have hlen:=r'.length;exact Calls.call_len_list pl.isList (by simp only[fJ]<;>omega) ⟨.int ys.length,H,I.tok _,⟨s.toks+1,by rw[fJ,hlen]⟩,q⟩;obtain⟨its,r',pl,hz⟩:=I.tuple hq;have hlen:=r'.length;exact len_tuple pl (by simp only[fJ]<;>omega) ⟨.int ys.length,H,I.tok _,⟨s.toks+1,by rw[fJ,hlen]⟩,q⟩
theorem j4:fk X (.type "list") (λxs H Q=>∃p ys,xs=[.ref p]/\(SqL X.K H p ys\/SqT X.K H p ys)/\∀l,H l=none->Q (.ref l) (upd H l<|.lst ys)):=by
 intro tv s σ H xs us Q I r h;obtain⟨p,ys,rfl,hq,q⟩:=h;obtain⟨u,rfl,rx⟩:=fP r;cases rx;have fin:∀(its:Qu),Vals ys its->ys.length<=sizeLine->∀(h':Heap) (c':Nat),(∀b o',s.heap.get? b=some o'->h'.get? b=some o')->
   h'.get? s.heap.objs.size=some { cls:=.type "list",dict:=none,data:=.seq its.toArray c',slots:=#[] }->EP X tv σ Q (.ref s.heap.objs.size) { s with heap:=h' }:=λits r' hz h' c' kp e=>
  ⟨.ref s.heap.objs.size,_,I.laid (t':=s.toks) kp (cO _) (show ObjOk X.prog X.w _ h' _ (.lst ys) from⟨hz,its,c',r',e⟩),rfl,q _<|I.hok.fresh<|cO _⟩
 rcases hq with hq|hq
 obtain⟨its,r',pl,hz⟩:=I.list hq;have hlen:=r'.length;obtain⟨o,ho,hc,n,hd⟩:=pl.isList;exact call_list_seq p (.inl rfl) ho hc hd (λh' c' kp e=>fin its r' hz h' c' kp e) (by simp only[fJ]<;>omega);obtain⟨its,r',pl,hz⟩:=I.tuple hq;have hlen:=r'.length;obtain⟨o,ho,hc,n,hd⟩:=pl;exact call_list_seq p (.inr rfl) ho hc hd (λh' c' kp e=>fin its r' hz h' c' kp e) (by simp only[fJ]<;>omega)
theorem i9:fk X (.type "tuple") (λxs H Q=>∃p ys,xs=[.ref p]/\((SqL X.K H p ys/\∀l,H l=none->Q (.ref l) (upd H l<|.tup ys))\/(SqT X.K H p ys/\Q (.ref p) H))):=by
 intro tv s σ H xs us Q I r h;obtain⟨p,ys,rfl,h⟩:=h;obtain⟨u,rfl,rx⟩:=fP r;cases rx;rcases h with⟨hq,q⟩|⟨hq,q⟩
 obtain⟨its,r',pl,hz⟩:=I.list hq;have hlen:=r'.length;refine call_tuple_list pl.isList (λh' kp=>?_) (by simp only[fJ]<;>omega);have I1:Inv X tv σ H { s with heap:=h' }:=I.kept (t':=s.toks) kp;have I2:Inv X tv σ (upd H h'.objs.size<|.tup ys) { s with heap:=h'.push { cls:=.type "tuple",data:=.seq its.toArray } }:=
  I1.laid (t':=s.toks) (λb o e=>eQ _ e) (cO _) (show ObjOk X.prog X.w _ _ _ (.tup ys) from⟨hz,its,r',IsTup.new _ _⟩)
 exact⟨.ref h'.objs.size,_,I2,rfl,q _<|I1.hok.fresh<|cO _⟩;obtain⟨its,r',pl,hz⟩:=I.tuple hq;exact call_tuple_same pl ⟨.ref p,H,I,rfl,q⟩
def ER(K:PN)(T:String)(x:V)(H:Hp):Prop:=match x with
 |.str _=>T = "str"|.int _=>T = "int"
 |.ref p=>(T = "list" /\∃xs,SqL K H p xs)\/(T = "tuple" /\∃o,K.lookup p=some o/\o.cls=.type "tuple" /\o.dict=none)\/
   (T = "dict" /\((∃kvs,H p=some (.dK kvs))\/∃kvs,H p=some (.dT kvs)))\/(T = "set" /\∃S n,H p=some (.set S n))
 |_=>False
theorem ur{v:Value}(I:Inv X tv σ H s)(r:RelV x v)(ty:ER X.K T x H) :
  s.TypeIs v T/\∀a,v=.ref a->∃ob,s.heap.get? a=some ob/\ob.dict=none:=by
 cases x with
 |str z=>
  obtain⟨t,rfl⟩:=r;cases(show T = "str" from ty);exact⟨typeIs_str s z t,λ_ e=>nomatch e⟩
 |int i=>
  obtain⟨t,rfl⟩:=r;cases(show T = "int" from ty);exact⟨typeIs_int s i t,λ_ e=>nomatch e⟩
 |ref p=>
  cases r;rcases ty with⟨rfl,xs,hq⟩|⟨rfl,o,hk,hc,hd⟩|⟨rfl,hk⟩|⟨rfl,S,n,hk⟩
  .obtain⟨its,_,pl,_⟩:=I.list hq
   refine⟨pl.isList.typeIs,λa e=>?_⟩;cases e;obtain⟨o,n,e,c,hd,_⟩:=pl;exact⟨o,e,hd⟩
  .refine⟨⟨o,I.kIn p o hk,hc⟩,λa e=>?_⟩
   cases e;exact⟨o,I.kIn _ o hk,hd⟩
  .have z:∃o,s.heap.get? p=some o/\o.ExactDict:=by
    rcases hk with⟨kvs,hk⟩|⟨kvs,hk⟩
    .obtain⟨_,_,_,_,o,_,_,e,ex,_⟩:=I.hok p _ hk
     exact⟨o,e,ex⟩
    .obtain⟨_,_,_,_,o,_,_,e,ex,_⟩:=I.hok p _ hk
     exact⟨o,e,ex⟩
   obtain⟨o,e,ex⟩:=z;refine⟨⟨o,e,ex.1⟩,λa e2=>?_⟩;cases e2;exact⟨o,e,ex.2.1⟩
  .obtain⟨o,_,_,_,e,ex,_⟩:=I.hok p _ hk
   refine⟨⟨o,e,ex.1⟩,λa e2=>?_⟩;cases e2;exact⟨o,e,ex.2.1⟩
 |_=>exact P8 ty
def Jd(K:PN)(T:String)(r:V->QJ->Hp->VK->Prop)(to:TE)(t:TA):TE:=λσ H Q=>to σ H λx H1=>ER K T x H1/\t σ H1 λxs H2=>r x xs H2 Q
variable{o:Expr}{es:List Expr}{to:TE}{t:TA}{name:Str}{apos cpos:Pos}{id:String}{r:V->QJ->Hp->VK->Prop}
theorem l0(pa:PlainAttrs T)(slot:Slot T name id)(hty:typeOf (.builtin id)=pure (.type "method_descriptor"))(hm:BY X id r)(ho:PE X o to)(ha:PA X (e::es) t)
  (hbase:{attributeBase o name X.env (eval o X.env)=eval o X.env})
  (hfew:{((backTo cpos<|starEach (e::es) X.env).all (λx=>!x.1) && (backToKw cpos<|keywordEach [] X.env).all (λx=>x.1.isSome)
   && decide ((e::es).length+([]:List Keyword).length+(if([]:List Keyword).isEmpty then 0 else 1)<30))=true})
  (hline:{(apos.endLine==cpos.line)=true}) (hs:{starEach (e::es) X.env=(false,eval e X.env)::starEach es X.env}) (hplain:{(backTo cpos<|starEach es X.env).any (·.1)=false}) :
  PE X (.Call (.Attribute o name apos) (e::es) [] cpos) (Jd X.K T r to t):=by
 intro tv s σ H Q I h;refine wpAny_Call_method_late hbase hfew hline rfl<|bO (ho tv s σ H _ I h) λv s1 ⟨x,H1,I1,r1,ty,q1⟩=>?_;obtain⟨h1,h2⟩:=ur I1 r1 ty;refine⟨T,id,pa,slot,hty,h1,h2,?_⟩;have hA:=ha cpos tv s1 σ H1 _ I1 q1;rw[hs]at hA ⊢;refine Calls.callWith_builtin (by show(false||(backTo cpos<|starEach es X.env).any (·.1))=false;rw[hplain]<;>rfl)<|Calls.evalArgs_plain ?_;exact bO hA λus s2 ⟨vs,H2,I2,r2,q2⟩=>hm tv s2 σ H2 x vs v us Q I2 r1 r2 q2
/- xs.append(e),list.index on a module's tuple .. are BY facts of 06m -/
end
def Je(X:Cx)(id:String)(r:V->QJ->Hp->VK->Prop):Prop:=
 ∀(tv:Lb) (s:Shared) (σ:St) (H:Hp) (x:V) (xs:QJ) (v:Value) (us:Qu) (Q:VK),Inv X tv σ H s->RelV x v->Vals xs us->r x xs H Q->
  wpAny (model X.prog X.w) X.A (call (.builtin id) (v::us)) (EP X tv σ Q) X.xe s
theorem Vals.one:∀{x:V} {us:Qu},Vals [x] us->∃u,us=[u]/\RelV x u
 |_,_,.cons r .nil=>⟨_,rfl,r⟩
theorem Vals.rep{xs:QJ}{us:Qu}(h:Vals xs us):∀k:Nat,Vals (List.replicate k xs).flatten (List.replicate k us).flatten
 |0=>.nil|k+1=>by rw[iY,iY,tH,tH];exact Vals.append h<|Vals.rep h k
theorem fE(its:Qu):∀(k:Nat) (acc:Qu),
  List.foldl (λx1 x2=>x1++x2) acc.toArray (List.replicate k its.toArray)=(acc++(List.replicate k its).flatten).toArray
 |0,acc=>KE
 |k+1,acc=>by
  have e:acc.toArray++its.toArray=(acc++its).toArray:=KE
  have e2:(acc++its)++(List.replicate k its).flatten=acc++(List.replicate (k+1) its).flatten:=by
   rw[iY,tH,kP]
  rw[<-e2,<-fE its k (acc++its),<-e,iY,List.foldl_cons]
section
variable{l b:Addr}{ys zs:QJ}
theorem Inv.lset{its:Qu}(I:Inv X tv σ H s)(hH:H l=some (.lst xs))
  (e:s.heap.get? l=some { cls:=.type "list",data:=.seq its.toArray n }) (hf:f its.toArray=its'.toArray) (hv:Vals ys its') (hz:ys.length<=sizeLine) :
  Inv X tv σ (upd H l<|.lst ys) { s with heap:=s.heap.update l<|Obj.mapSeq f,toks:=t' }:=by
 have q:=PySem.IsL.update e f;rw[hf]at q;refine I.write (x:=l) (e:=l) (by rw[hH];exact trivial) (.inl rfl) (λb' u hb hu=>(tG s.heap (Obj.mapSeq f)<|P9 hb).trans hu) ⟨_,q⟩ ?_<|.inl ⟨_,hH⟩;exact⟨hz,its',_,hv,q⟩
theorem Inv.lnew{its:Qu}(I:Inv X tv σ H s)(hv:Vals ys its)(hz:ys.length<=sizeLine) :
  Inv X tv σ (upd H s.heap.objs.size<|.lst ys) { s with heap:=s.heap.push { cls:=.type "list",data:=.seq its.toArray },toks:=t' }:=
 I.laid (λ_ _ q=>eQ _ q) (cO _) ⟨hz,its,0,hv,jy _ rfl⟩
theorem Inv.fresh(I:Inv X tv σ H s):H s.heap.objs.size=none:=I.hok.fresh<|cO _
theorem Inv.lstM(I:Inv X tv σ H s)(hH:H l=some (.lst xs)):xs.length<=sizeLine/\∃(its:Qu) (n:Nat),Vals xs its/\xs.length=its.length/\s.heap.get? l=some { cls:=.type "list",data:=.seq its.toArray n }:=by obtain⟨z,its,n,r,e⟩:=I.hok l _ hH;exact⟨z,its,n,r,r.length,e⟩
theorem pV(h:n<=sizeLine):Builtin.List.listTooLong n=false:=by unfold Builtin.List.listTooLong;exact PU E1
end
section
def qW:V->QJ->Hp->VK->Prop:=λx vs H Q=>∃l xs y,x=.ref l/\vs=[y]/\H l=some (.lst xs)/\xs.length<sizeLine/\Q .non (upd H l<|.lst<|xs++[y])
theorem gL:Je X "list.append" qW:=by intro tv s σ H x vs v us Q I rx rv h;obtain⟨l,xs,y,rfl,rfl,hH,hz,q⟩:=h;cases rx;obtain⟨u,rfl,ru⟩:=rv.one;obtain⟨z,its,n,r,hl,e⟩:=I.lstM hH;refine call_meets F.slot_list_append ⟨_,e,rfl⟩ F.entry_list_append (F.args_list_append_2 _ _) (PySem.list_append l its.toArray n u (by rw[fJ];omega)) ⟨e,?_⟩;refine⟨.non,_,I.lset (its':=its++[u]) hH e KE (r.append<|.cons ru .nil) ?_,rfl,q⟩;rw[fZ,me];omega
def B0:R2:=λx y H Q=>∃l k xs,x=.ref l/\y=.int k/\H l=some (.lst xs)/\-(2^63)<=k/\k<2^63/\xs.length*k.toNat<=sizeLine/\
 ∀p,H p=none->Q (.ref p) (upd H p<|.lst (List.replicate k.toNat xs).flatten)
theorem j5{α:Type}(xs:List α)(k:Nat):(List.replicate k xs).flatten.length=k*xs.length:=by
 induction k with
 |zero=>simp|succ k ih=>rw[iY,tH,fZ,ih,qe,Nat.add_comm]
theorem ut:OpR X (binaryOp .Mult) B0:=by
 intro tv s σ H x y v u Q I rx ry h;obtain⟨l,k,xs,rfl,rfl,hH,h1,h2,hz,q⟩:=h;cases rx;obtain⟨t,rfl⟩:=ry;obtain⟨z,its,n,r,hl,e⟩:=I.lstM hH;have hlen:its.toArray.size*k.toNat<=sizeLine:=by rw[fJ,<-hl];exact hz
 have hcap:¬its.toArray.size*k.toNat>(2^63-1)/8:=by
  have:(sizeLine:Nat)<=(2^63-1)/8:=E8
  omega
 have hfit:¬(!Builtin.List.listFitsIndex k)=true:=by rw[fitsIndex_both h1 h2];exact kw
 have hlong:¬Builtin.List.listTooLong (its.toArray.size*k.toNat)=true:=by rw[pV hlen];exact kw
 have hnew:List.foldl (λx1 x2=>x1++x2) #[] (List.replicate (if its.toArray.isEmpty=true then 0 else k.toNat) its.toArray)=(List.replicate k.toNat its).flatten.toArray:=by
  have f0:∀m:Nat,List.foldl (λx1 x2=>x1++x2) #[] (List.replicate m its.toArray)=(List.replicate m its).flatten.toArray:=λm=>by have:=fE its m [];rw[dR]at this;exact this
  rw[f0];cases its with
  |nil=>simp|cons a r'=>rw[jx<|KE]
 refine wpAny_binaryOp_repeat_ref (T:= "list") (U:= "int") E8 ⟨_,e,rfl⟩ (λs'=>typeIs_int s' k t) noFill_list_mul F.fills_int_mul F.slot_int_rmul repeat_list F.slot_int_index.lookup
  (call_meets F.slot_int_rmul (typeIs_int s k t) F.entry_int_rmul (F.args_int_rmul_2 _ _) (int___rmul___int_list k t l its.toArray n)
   ⟨e,rfl,⟨_,e,rfl⟩,call_meets F.slot_list_mul ⟨_,e,rfl⟩ F.entry_list_mul (F.args_list_mul_2 _ _) (AutoListH.list___mul___list_int_3 l its.toArray n k t hfit hcap hlong) ⟨e,?_⟩⟩)
 rw[hnew];exact⟨.ref _,_,I.lnew (t':=s.toks) (r.rep k.toNat) (by rw[j5,yM];exact hz),rfl,q _ I.fresh⟩
end
end L2
namespace Att
open PySem PySem.W PySem.Calls PyProof.Rows
theorem hW{P:Params}{h:Heap}:∀(ns:Qv) (vs:Qu),WellAll P h vs (ns.map WData.int)->IntsAre vs ns:=by
 intro ns;induction ns with
 |nil=>intro vs w;rw[f6]at w;cases w;exact .nil
 |cons n ns ih=>
  intro vs w;rw[cG]at w;cases w with
  |cons a b=>
   cases a;exact .cons _ _<|ih _ b
theorem mE{l:OpenLaw}{n:Nat}(hn:l.most=some n){P:Params}{h:Heap}{args:List WData}{vals:Qu}
  (hpre:l.row.toRowW.claim.pre args=true) (hwl:WellAll P h vals args) :
  ∃a vs ns,vals=[Value.ref a]/\args=[WData.list<|ns.map WData.int]/\h.get? a=some { cls:=.type "list",data:=.seq vs.toArray }/\IntsAre vs ns/\ns.length<=n:=by
 have hsh:WShape.hasAll [] args [.list .int]=true:=(pre_splitW hpre).1;have hc:l.pre.holds [] { args:=args }=true:=(pre_splitW hpre).2;obtain⟨d,r,rfl,h1,h2⟩:=hasAllW_cons hsh;obtain rfl:=hasAllW_nil h2;obtain⟨xs,rfl,h3⟩:=hasW_list h1;obtain⟨ns,rfl⟩:=items_int h3;have hlen:ns.length<=n:=by
  unfold OpenLaw.pre at hc;have h4:(WTm.not<|.lt (.lit<|.int (n:Int))<|.len<|.arg 0).holds [] { args:=[.list<|ns.map .int] }=true:=by
   have h4:=(holds_andW hc).1;rw[hn]at h4;exact h4
  have h5:=condW_of h4<|w_not (w_lt w_lit<|w_len_list<|w_arg rfl);rw[bQ]at h5;refine Nat.le_of_not_lt λq=>?_;have q':(n:Int)<((ns.length:Nat):Int):=E1
  first
   |(rw[PR q']at h5;exact PQ h5<|E8)
   |(simp at h5;omega)
 cases hwl with
 |cons w1 w2=>
  cases w2;cases w1 with
  |list ho hall=>exact⟨_,_,ns,rfl,rfl,ho,hW ns _ hall,hlen⟩
theorem mF(l:OpenLaw)(args:List WData):l.row.toRowW.claim.post args (.bool true) args=true:=
 postW_of (r:=l.row.toRowW) (X:=(true==true))
  (show WShape.has [] (.bool true) .bool=true by first|rfl|decide|simp[WShape.has,WShape.arms,WShape.armsAll])
  (show(WTm.eq .res<|.lit<|.bool true).value [] { args:=args,res:=some<|.bool true,after:=args }=some (.bool<|true==true) from w_eq_bool (w_res rfl) w_lit) rfl
theorem attach_call{l:OpenLaw}{n:Nat}{q:Program}{loose:Qx}{XP:(Qt)->Heap->Prop}{YP:World->Heap->Prop}{d:DefRec}
  (hn:l.most=some n) (hdf:d.params.defaults=[])
  (call:∀ (w:World) (s₀ s₁:Shared) (mg mb:Qt) (fa:Addr) (o:Obj) (pm cd doc:Value) (a:Addr) (vs:Qu) (ns:Qv),
   Ground q loose [] XP w s₀ mg mb s₁.heap->YP w s₁.heap->
   s₁.heap.get? fa=some o->o.data=.func (docDef d.name d.params d.body d.scope pm cd doc)->s₁.heap.CodeRec cd d.name->mg d.name=some (.ref fa)->
   s₁.heap.get? a=some { cls:=.type "list",data:=.seq vs.toArray }->IntsAre vs ns->ns.length<=n->(a==sysModules)=false->s₁.gens = #[]->
   codeAny (model l.prog w) callerA (.call (.ref fa) ⟨[.ref a],[]⟩) (λr s'=>r=.ok (.ret<|.bool true)/\OldK s₁.heap s'.heap/\s'.os=s₁.os/\AllBare s'.gens) s₁) :
  WalkO q loose XP YP l.row.toRowW d [] (λf vs=>PySem.call f vs):=by
 intro w s₀ s₁ mg mb G Y fa o pm cd doc dV kV ho hd hcd hD hmg hg args vals as hpre hlay hrd hwl hlo;obtain rfl:dV=.none:=Dflts.none hD hdf;obtain rfl:kV=.none:=Dflts.noKw hD;obtain⟨a,vs,ns,rfl,rfl,hobj,hints,hlen⟩:=mE hn hpre hwl;have hsy:(a == sysModules)=false:=hlo a (by
  cases hrd with
  |cons h1 h2=>cases h1;simp)
 refine enter_call<|codeAny_mono (call w s₀ s₁ mg mb fa o pm cd doc a vs ns G Y ho (fd_plain hd) hcd hmg hobj hints hlen hsy hg) λr s' hq=>?_;obtain⟨rfl,h2,h3,h4⟩:=hq;exact⟨.inl ⟨.bool true,.bool true,[],rfl,λ_=>rfl,.bool true,mF l _,λ_=>⟨List.Pairwise.nil,λ_ hm=>(nomatch hm)⟩⟩,h2,h3,h4⟩
end Att
namespace L2
open PySem PySem.Spec PyProof.Rows
variable{P:Program}{w:World}{K:PN}{mg:Qt}{k:Nat}{fd:FuncData}{x:Str}{l:W.OpenLaw}{XP:(Qt)->Heap->Prop}{YP:World->Heap->Prop}{st:Stmt}{f:Addr}{osl:Array (Option Value)}{X:Cx}{pos:Pos}{scope sc:Scope}{env:Env}{A:Around}{s:Shared}{Q:Env->Shared->Prop}{tv:Lb}{σ:St}{vars:Qx}{sel:Qz}{fp:List Addr}{tn:Nat->Heap->Prop}{wi:TI}
theorem jG:∀{vs:Qu} {ns:Qv},IntsAre vs ns->Vals (ns.map V.int) vs
 |_,_,.nil=>.nil|_,_,.cons n t h=>.cons ⟨t,rfl⟩<|jG h
def qX(H:Hp):Prop:=∀b,H b=none\/∃o xs,H b=some (.frz o<|.lst xs)
theorem pW{mb:Qt}{CX:mB}{fa a:Addr}{sp:Sp}{s₁:Shared}{vs:Qu}{ns:Qv}
  (KX:K.In s₁.heap) (hns:s₁.heap.Ns mainGlobals mg) (hb:s₁.heap.Ns builtinsNs mb) (hbb:∀x:Str,x≠ "__name__" ->mb x=bootBuiltins x) (hlim:s₁.heap.NoLimit) (hg:s₁.gens = #[])
  (ha:s₁.heap.get? a=some { cls:=.type "list",data:=.seq vs.toArray }) (hi:IntsAre vs ns) (hl:ns.length<=sizeLine) (hsy:(a==sysModules)=false) (hr:Room k callerA)
  (F:∀base:Heap,K.In base->base.Ns mainGlobals mg->FnOk P w K mg base CX k fa fd [x] sp) (hbind:∀(s:Shared) (u:Value),BindsTo s fd ⟨[u],[]⟩ [(x,u)])
  (hsp:∀H:Hp,qX H->SqL K H a (ns.map V.int)->sp [.ref a] H (λv _=>v=.bl true) λ_ _ _=>False)
  (hCX:∀H e s',CX [] H s₁ (λ_ _ _=>False) e s'->False) :
  codeAny (model P w) callerA (.call (.ref fa) ⟨[.ref a],[]⟩) (λr s'=>r=.ok (.ret<|.bool true)/\OldK s₁.heap s'.heap/\s'.os=s₁.os/\AllBare s'.gens) s₁:=by
 have rv:=jG hi;have lenV:=hi.length
 have core:∀H:Hp,qX H->SqL K H a (ns.map V.int)->HOk P w H s₁.heap->(∀b,H b≠none->b=a)->(H a≠none->K.lookup a=none)->
   codeAny (model P w) callerA (.call (.ref fa) ⟨[.ref a],[]⟩) (λr s'=>r=.ok (.ret<|.bool true)/\OldK s₁.heap s'.heap/\s'.os=s₁.os/\AllBare s'.gens) s₁:=by
  intro H hO hS hok hA hK;have base_of:∀{b:Addr} {o:Obj},s₁.heap.get? b=some o->H b=none->(jP s₁.heap H).get? b=some o:=λe n=>pC e n;have noA:∀{b:Addr} {o:Obj} {es:Array DictEntry} {ep:Nat},s₁.heap.get? b=some o->o.data=.dict es ep->H b=none:=λ{b o es ep} e d=>by
   cases q:H b with
   |none=>rfl
   |some u=>
    have e':b=a:=hA b (by rw[q];simp);subst e';rw[ha]at e;cases e;have d':Data.seq vs.toArray _=Data.dict es ep:=d;cases d'
  have nsK:∀{b:Addr} {m:Qt},s₁.heap.Ns b m->(jP s₁.heap H).Ns b m:=λ{b m} ⟨o,es,ep,e,d,r⟩=>⟨o,es,ep,base_of e<|noA e d,d,r⟩;have hKb:K.In (jP s₁.heap H):=λb o e=>base_of (KX b o e) (by
   cases q:H b with
   |none=>rfl
   |some u=>
    have e':b=a:=hA b (by rw[q];simp);subst e';rw[hK (by rw[q];simp)]at e;cases e)
  have hM:Mod K mg (jP s₁.heap H):=⟨hKb,nsK hns,⟨mb,nsK hb,hbb⟩,let⟨mc,h1,h2⟩:=hlim;⟨mc,nsK h1,h2⟩⟩
  have e0:mC P w K mg (jP s₁.heap H) callerA [] s₁ H:=⟨rfl,hM,λb o e=>qC e,Nat.le_of_eq<|ml _ _,trivial,λb hb=>PQ (show b∈([]:List Addr) from hb)<|KE,hok,.of_eq hg,λxs q=>PQ (hA sysModules (by rw[q];simp)).symm (beq_eq_false_iff_ne.mp hsy)⟩
  refine codeAny_mono ((F _ hKb<|nsK hns).run callerA [] s₁ H ⟨[.ref a],[]⟩ [.ref a] [.ref a] _ _ hr e0 (hbind s₁<|.ref a) (.cons rfl .nil)<|hsp H hO hS) λr s' h=>?_;cases r with
  |error e=>exact(hCX H e s' h).elim
  |ok fl=>
   cases fl with
   |next=>exact P8 h|brk=>exact P8 h|cont=>exact P8 h
   |ret u=>
    obtain⟨v,H',os,bare,un,hok',r',q⟩:=h;have q':v=.bl true:=q;subst q';obtain rfl:u=Value.bool true:=r';refine⟨rfl,OldK.of_keep λb o e=>?_,os,bare⟩;cases q:H b with
    |none=>exact un.keep b o e q (by intro z;exact PQ (show b∈([]:List Addr) from z)<|KE) KE
    |some u=>
     rcases hO b with z|⟨ob,xs,z⟩
     .rw[q]at z;cases z
     .have z2:=un.frzs b ob _ z
      obtain⟨e1,_⟩:=hok b _ z;obtain⟨e2,_⟩:=hok' b _ z2;rw[e]at e1;cases e1;exact e2
 cases hk:K.lookup a with
 |some o=>
  have e:=KX a o hk;rw[ha]at e;cases e;refine core (λ_=>none) (λ_=>.inl rfl) (.inr ⟨_,vs.toArray,_,hk,rfl,rfl,rfl,by rw[fJ,lenV];exact hl,by simpa using rv⟩) (λb u z=>by have z':(none:Option HO)=some u:=z;cases z') (λb z=>PQ rfl z) λz=>PQ rfl z
 |none=>
  refine core (λb=>if b=a then some (.frz { cls:=.type "list",data:=.seq vs.toArray }<|.lst<|ns.map V.int) else none) (λb=>?_) (.inl<|.inr ⟨{ cls:=.type "list",data:=.seq vs.toArray },oI rfl⟩) (λb u z=>?_) (λb z=>?_) λ_=>hk
  .by_cases hb:b=a
   .exact .inr ⟨_,_,oI hb⟩
   .exact .inl<|jx hb
  .by_cases hb:b=a
   .have z':=(oI hb).symm.trans z
    cases z';subst hb;exact⟨ha,by rw[bQ];exact hl,vs,_,rv,ha⟩
   .have z':=(jx hb).symm.trans z
    cases z'
  .by_cases hb:b=a
   .exact hb
   .exact PQ (jx hb) z
theorem walk_of{n:Nat}{q:Program}{loose:Qx}{d:DefRec}{K:Params->PN}{CX:World->mB}{sp:World->Sp}
  (hn:l.most=some n) (hn2:n<=sizeLine) (hdf:d.params.defaults=[]) (hr:Room k callerA)
  (hY:∀(w:World) (h:Heap),YP w h->(K w.params).In h)
  (F:∀ (w:World) (mg:Qt) (fa:Addr) (h:Heap),(K w.params).In h->h.Ns mainGlobals mg->mg d.name=some (.ref fa)->
   ∃fd:FuncData,(∀(s:Shared) (u:Value),BindsTo s fd ⟨[u],[]⟩ [(x,u)])/\
    ∀base:Heap,(K w.params).In base->base.Ns mainGlobals mg->FnOk l.prog w (K w.params) mg base (CX w) k fa fd [x] (sp w))
  (hsp:∀(w:World) (H:Hp) (a:Addr) (ns:Qv),ns.length<=n->qX H->SqL (K w.params) H a (ns.map V.int)->sp w [.ref a] H (λv _=>v=.bl true) λ_ _ _=>False)
  (hCX:∀(w:World) (H:Hp) (s:Shared) (e:Value) (s':Shared),CX w [] H s (λ_ _ _=>False) e s'->False) :
  W.WalkO q loose XP YP l.row.toRowW d [] (λf vs=>PySem.call f vs):=by
 refine Att.attach_call hn hdf λw s₀ s₁ mg mb fa o pm cd doc a vs ns G Y ho hd hcd hmg hobj hints hlen hsy hg=>?_;have KX:=hY w _ Y;obtain⟨fd,hb,hF⟩:=F w mg fa _ KX G.T.g hmg;exact pW KX G.T.g G.T.b G.T.builtins G.T.nolimit hg hobj hints (jw hlen hn2) hsy hr hF hb (λH hO hS=>hsp w H a ns hlen hO hS) λH e s'=>hCX w H s₁ e s'
def cT(s:Stmt):Arguments:=match s with|.FunctionDef _ a _ _ _ _ _ _ _ _=>a|_=>{ posonlyargs:=[],args:=[],vararg:=none,kwonlyargs:=[],kw_defaults:=[],kwarg:=none,defaults:=[] }
def bT(s:Stmt):List Stmt:=match s with|.FunctionDef _ _ b _ _ _ _ _ _ _=>b|_=>[]
def aJ(s:Stmt):Scope:=match s with|.FunctionDef _ _ _ _ _ _ sc _ _ _=>sc|_=>{ kind:=.function,names:=[],isGenerator:=false,isCoroutine:=false }
abbrev ES:mB:=λ_ _ _ _ _ _=>False
abbrev E0:XK:=λ_ _ _=>False
structure Fun(K:PN)(x qual:Str)(st:Stmt)(f:Addr)(fd:FuncData):Prop where
 ex:∃(oc:Value) (od:Option Addr) (kV doc pm:Value) (an:Option Addr) (cdv ct:Value) (osl:Array (Option Value)),
  fd=W.fnOf x qual (cT st) (bT st) (aJ st) .none kV doc pm an cdv ct/\K.lookup f=some ⟨oc,od,.func fd,osl⟩/\W.codeIn K cdv qual=true
 kp:W.keepIn K (.ref f)=true
section
variable{base:Heap}
theorem Fun.binds{qual:Str}{ps:Qx}(F:Fun K x qual st f fd)
  (h:∀(kV doc pm:Value) (an:Option Addr) (cdv ct:Value) (us:Qu),us.length=ps.length->bindArgs (W.fnOf x qual (cT st) (bT st) (aJ st) .none kV doc pm an cdv ct) ⟨us,[]⟩=pure (ps.zip us)):Binds K fd ps []:=by
 obtain⟨oc,od,kV,doc,pm,an,cdv,ct,osl,rfl,lk,hcd⟩:=F.ex;exact .all<|h kV doc pm an cdv ct
theorem uu{qual:Str}{oc:Value}{od an:Option Addr}{kV doc pm cdv ct:Value}(l:K.lookup f=some ⟨oc,od,.func<|W.fnOf x qual (cT st) (bT st) (aJ st) .none kV doc pm an cdv ct,osl⟩)
  (c:W.codeIn K cdv qual=true) (k:W.keepIn K (.ref f)=true):Fun K x qual st f (W.fnOf x qual (cT st) (bT st) (aJ st) .none kV doc pm an cdv ct):=⟨⟨oc,od,kV,doc,pm,an,cdv,ct,osl,rfl,l,c⟩,k⟩
end
section
theorem pv(i:Nat)(hN:{X.N[i]? = some x})(hv:autoParam (mm X.env.scope x) QP._auto_1)(hd:(QA x:))
  (hcd:((x==("__classdict__" : Str))=false:)):PE X (.Name x pos) (vT i):=ez hN hv hd hcd
end
def sD:List (Str×NameKind)->Bool
 |[]=>true|(n,_)::r=>!(r.any λy=>y.1==n)&&sD r
def kR(sc outer:Scope):Bool:=
 decide (sc.kind=.function)&&sD sc.names&&sc.names.all λy=>!decide (y.2=.free)||(decide (outer.names.lookup y.1=some .cell)||decide (outer.names.lookup y.1=some .free))
theorem B4{α:Type}:∀{l:List (Str×α)} {n:Str},(l.any λy=>y.1==n)=false->l.lookup n=none
 |[],_,_=>rfl
 |(k,v)::r,n,h=>by
  simp only[yL,Bool.or_eq_false_iff]at h;have e:(n==k)=false:=by have:=h.1;simp only[beq_eq_false_iff_ne]at this ⊢;exact λz=>this z.symm
  rw[qf,e];exact B4 h.2
theorem zm:∀{l:List (Str×NameKind)} {n:Str} {k:NameKind},sD l=true->(n,k)∈l->l.lookup n=some k
 |(m,j)::r,n,k,nd,h=>by
  simp only[sD,cX,u4]at nd;rcases Yan.mp h with e|h2
  cases e;simp;have hm:n≠m:=by rintro rfl;have:(r.any λy=>y.1==n)=true:=List.any_eq_true.mpr ⟨_,h2,KE⟩;rw[nd.1]at this;cases this
  rw[qf,beq_eq_false_iff_ne.mpr hm];exact zm nd.2 h2
noncomputable def dJ(cells:List (Str×Addr)):List (Str×NameKind)->List (Str×Addr)->List (Str×Addr)
 |[],acc=>acc|(n,k)::r,acc=>if k==.free then dJ cells r ((n,(cells.lookup n).getD 0)::acc) else dJ cells r acc
theorem wz{cells:List (Str×Addr)}{x:Str}:∀{names:List (Str×NameKind)} {acc:List (Str×Addr)},sD names=true->
  ((names.lookup x=some .free->∃c,(dJ cells names acc).lookup x=some c/\(cells.lookup x).getD 0=c)/\(names.lookup x≠some .free->(dJ cells names acc).lookup x=acc.lookup x))
 |[],acc,_=>⟨λh=>by simp at h,λ_=>rfl⟩
 |(m,k)::r,acc,nd=>by
  simp only[sD,cX,u4]at nd
  by_cases hm:x=m
  .subst hm
   have hr:r.lookup x=none:=B4 nd.1;rw[show List.lookup x ((x,k)::r)=some k by simp];have ih:=@wz cells x r
   by_cases hk:k=.free
   .subst hk
    refine⟨λ_=>⟨_,?_,rfl⟩,λh=>PQ rfl h⟩;show(dJ cells r ((x,_)::acc)).lookup x=_;rw[(ih nd.2).2 (by rw[hr];simp)];simp
   .refine⟨λh=>PQ (PY h) hk,λ_=>?_⟩
    have:dJ cells ((x,k)::r) acc=dJ cells r acc:=by
     show(if k==.free then _ else _)=_;rw[jx<|by simpa using hk]
    rw[this,(ih nd.2).2 (by rw[hr];simp)]
  .have e:List.lookup x ((m,k)::r)=r.lookup x:=by rw[qf,beq_eq_false_iff_ne.mpr hm]
   rw[e]
   by_cases hk:k=.free
   .subst hk
    have ih:=@wz cells x r ((m,(cells.lookup m).getD 0)::acc) nd.2;have e2:List.lookup x ((m,(cells.lookup m).getD 0)::acc)=acc.lookup x:=by rw[qf,beq_eq_false_iff_ne.mpr hm]
    rw[e2]at ih;exact ih
   .have:dJ cells ((m,k)::r) acc=dJ cells r acc:=by
     show(if k==.free then _ else _)=_;rw[jx<|by simpa using hk]
    rw[this];exact @wz cells x r acc nd.2
theorem B5(h:∀y∈scope.names,y.2=.free->∃c,env.cells.lookup y.1=some c):closureFor scope env=pure (dJ env.cells scope.names []):=by
 have gen:∀ (names:List (Str×NameKind)) (acc:List (Str×Addr)),(∀ y∈names,y.2 = .free->∃ c,env.cells.lookup y.1=some c)->
     (forIn names acc (fun (x:Str×NameKind) (r:List (Str×Addr))=>(if (x.2 == NameKind.free)=true then (do
       let c <-cellOf env x.1
       pure (ForInStep.yield ((x.1,c)::r))) else pure (ForInStep.yield r):Sem (ForInStep<|List<|Str×Addr))))=(pure (dJ env.cells names acc):Sem (List<|Str×Addr)):=by
   intro names
   induction names with
   |nil=>intro acc _;rfl
   |cons y r ih=>
     intro acc hh;obtain⟨n,k⟩:=y;rw[Bm]
     by_cases hk:k=.free
     · subst hk
       obtain⟨c,hc⟩:=hh (n,.free) md rfl;have hc':env.cells.lookup n=some c:=hc;have e:cellOf env n=pure c:=by unfold cellOf;rw[hc']
       simp only[Qd,if_true,e];have:=ih ((n,c)::acc) λy hy=>hh y<|kj _ hy;have e3:dJ env.cells ((n,.free)::r) acc=dJ env.cells r ((n,c)::acc):=by
         show(if _ then _ else _)=_;rw[hc'];rfl
       rw[e3,<-this];rfl
     · have hb:(k==NameKind.free)=false:=by simpa using hk
       simp only[hb,eG,if_false];have:=ih acc λy hy=>hh y<|kj _ hy;have e3:dJ env.cells ((n,k)::r) acc=dJ env.cells r acc:=by
         show(if _ then _ else _)=_;rw[jx<|by simpa using hk]
       rw[e3,<-this];rfl
 unfold closureFor;have:=gen scope.names [] h;first
  |exact this
  | (show (forIn scope.names [] _ >>= λcs=>pure cs)=_
     refine Eq.trans (congrArg (· >>= λcs=>pure cs) this) rfl)
theorem sE{x:Str}:∀(names:List (Str×NameKind)) (n:Nat) (acc acc':List (Str×Addr)),sD names=true->
  ((names.lookup x=some .cell->(cellsFrom n names acc).lookup x=(cellsFrom n names acc').lookup x)/\(names.lookup x≠some .cell->(cellsFrom n names acc).lookup x=acc.lookup x))
 |[],_,_,_,_=>⟨λh=>by simp at h,λ_=>rfl⟩
 |(m,k)::r,n,acc,acc',nd=>by
  simp only[sD,cX,u4]at nd
  by_cases hm:x=m
  .subst hm
   have hr:r.lookup x=none:=B4 nd.1;rw[show List.lookup x ((x,k)::r)=some k by simp]
   by_cases hk:k=.cell
   .subst hk
    refine⟨λ_=>?_,λh=>PQ rfl h⟩;have a:=(@sE x r (n+1) ((x,n)::acc) acc' nd.2).2 (by rw[hr];simp);have b:=(@sE x r (n+1) ((x,n)::acc') acc' nd.2).2 (by rw[hr];simp);show(cellsFrom (n+1) r ((x,n)::acc)).lookup x=(cellsFrom (n+1) r ((x,n)::acc')).lookup x;rw[a,b];simp
   .refine⟨λh=>PQ (PY h) hk,λ_=>?_⟩
    have e:cellsFrom n ((x,k)::r) acc=cellsFrom n r acc:=by
     show(if k==.cell then _ else _)=_;rw[jx<|by simpa using hk]
    rw[e,(@sE x r n acc acc' nd.2).2 (by rw[hr];simp)]
  .have e:List.lookup x ((m,k)::r)=r.lookup x:=by rw[qf,beq_eq_false_iff_ne.mpr hm]
   rw[e]
   by_cases hk:k=.cell
   .subst hk
    have ih:=@sE x r (n+1) ((m,n)::acc) ((m,n)::acc') nd.2;have e2:List.lookup x ((m,n)::acc)=acc.lookup x:=by rw[qf,beq_eq_false_iff_ne.mpr hm]
    rw[e2]at ih;exact ih
   .have e3:∀a:List (Str×Addr),cellsFrom n ((m,k)::r) a=cellsFrom n r a:=λa=>by
     show(if k==.cell then _ else _)=_;rw[jx<|by simpa using hk]
    rw[e3,e3];exact @sE x r n acc acc' nd.2
theorem ET:(relabel sc env).names.lookup x=(sc.names.lookup x).map λk=>if(k==NameKind.free&&env.scope.kind==.function&&env.kindOf x==some .cell)=true then .cell else k:=by
 show List.lookup x (sc.names.map _)=_;generalize sc.names=l;induction l with
 |nil=>rfl|cons y r ih=>obtain⟨m,k⟩:=y;by_cases hx:x=m;subst hx;simp only[cG];by_cases hc:(k==NameKind.free&&env.scope.kind==.function&&env.kindOf x==some .cell)=true;rw[oI hc];simp only[qf,Qd,vM];rw[oI hc];rw[jx hc];simp only[qf,Qd,vM];rw[jx hc];have hb:(x==m)=false:=beq_eq_false_iff_ne.mpr hx;simp only[cG];by_cases hc:(k==NameKind.free&&env.scope.kind==.function&&env.kindOf m==some .cell)=true;rw[oI hc];simp only[qf,hb];exact ih;rw[jx hc];simp only[qf,hb];exact ih
def jH(sc:Scope)(env:Env)(C:Addr):Env:=
 { scope:=relabel sc env,locals:=C,globals:=env.globals,cells:=cellsFrom (C+1) sc.names<|dJ env.cells sc.names [],qual:=env.qual,func:=none,code:=env.code,frame:=env.frame,builtins:=env.builtins }
theorem EU{M:Model}{E:Mn}
  (h:Q { scope:=sc,locals:=s.heap.objs.size,globals:=env.globals,cells:=cellsFrom (s.heap.objs.size+1) sc.names<|dJ env.cells sc.names [],qual:=env.qual,func:=none,code:=env.code,frame:=env.frame,builtins:=env.builtins }
   { s with heap:=pushCells (s.heap.push { cls:=.type "dict",data:=.dict #[] }) sc.names }) :
  wpAny M A (newFunctionEnv sc env.globals (dJ env.cells sc.names []) [] env.qual none .none<|some env) Q E s:=by
 simp only[newFunctionEnv,Option.isSome_some,if_true];refine PM<|wpAny_alloc ?_;refine PM<|wpAny_layCells _ (λname kind cells=>by cases hkc:kind==NameKind.cell<;>simp[hkc]) _ _ _ _ ?_;rw[show({ s with heap:=s.heap.push { cls:=.type "dict",data:=.dict #[] } }:Shared).heap.objs.size=s.heap.objs.size+1 from qg ..];exact PM<|PP (PP h)
def Cx.lc(X:Cx)(sc:Scope)(vars:Qx)(sel:Qz)(s:Shared)(H:Hp)(fp:List Addr):Cx where
 prog:=X.prog
 w:=X.w
 K:=X.K
 mg:=X.mg
 base:=X.base
 A:=X.A
 N:=vars++sel.map λj=>X.N.getD j ""
 s₀:=s
 H₀:=H
 env:=jH sc X.env s.heap.objs.size
 outer:=X.stack
 stack:=X.stack
 ex:=fp
 fn:=λx=>decide (sc.names.lookup x=some .cell)
 calm:=X.calm
 pn:=[]
 xe:=λ_ _=>False
def qh(N:Qx)(sc:Scope)(sel:Qz):Bool:=sel.all λj=>match N[j]? with|some x=>decide (sc.names.lookup x=some .free)|none=>false
def hZ(nv:Nat)(sel:Qz)(σ:St):St:=List.replicate nv none++sel.map λj=>(σ[j]?).getD none
section
variable{H:Hp}
theorem zn(I:Inv X tv σ H s)(ok:kR sc X.env.scope=true):∀y∈sc.names,y.2=.free->∃c,X.env.cells.lookup y.1=some c:=λy hy hk=>by
 simp only[kR,cX,Ybe,yN,u4,PV,decide_eq_false_iff_not]at ok;rcases ok.2 y hy with z|z
 exact PQ hk z;exact I.ok.has y.1 z
theorem EV(I:Inv X tv σ H s)(ok:kR sc X.env.scope=true)(so:qh X.N sc sel=true)(hf:∀b∈fp,eK X tv H b)(ho:∀b∈fp,∃o,s.heap.get? b=some o)(ha:{X.env.scope.kind=.function}) :
  Inv (X.lc sc vars sel s H fp) [] (hZ vars.length sel σ) H { s with heap:=pushCells (s.heap.push { cls:=.type "dict",data:=.dict #[] }) sc.names }:=by
 have hcl:=zn I ok;have ok':=ok;simp only[kR,cX,Ybe,yN,u4,PV,decide_eq_false_iff_not]at ok';obtain⟨⟨hk,nd⟩,hfree⟩:=ok';have szp:(s.heap.push { cls:=.type "dict",data:=.dict #[] }).objs.size=s.heap.objs.size+1:=qg ..;have keep:∀b o,s.heap.get? b=some o->(pushCells (s.heap.push { cls:=.type "dict",data:=.dict #[] }) sc.names).get? b=some o:=λb o e=>pushCells_keeps _ _ _ _<|eQ _ e;have okc:=cellsFrom_ok sc.names (s.heap.push { cls:=.type "dict",data:=.dict #[] }) (s.heap.objs.size+1) [] ⟨λ_ _ hm=>(nomatch hm),List.Pairwise.nil⟩ (by rw[szp];exact cO _);rw[szp]at okc
 have own:∀x,sc.names.lookup x=some .cell->∃c,(jH sc X.env s.heap.objs.size).cells.lookup x=some c/\(x,c)∈cellsFrom (s.heap.objs.size+1) sc.names []:=λx hx=>by
  have e:=(sE sc.names (s.heap.objs.size+1) (dJ X.env.cells sc.names []) [] nd).1 hx;obtain⟨c,hc⟩:=fq (sc:=sc) (n:=s.heap.objs.size+1) hx;exact⟨c,by show(cellsFrom _ _ _).lookup x=_;rw[e];exact hc,P3 hc⟩
 have clo:∀x,sc.names.lookup x=some .free->∃c,(jH sc X.env s.heap.objs.size).cells.lookup x=some c/\X.env.cells.lookup x=some c:=λx hx=>by
  have e:=(sE sc.names (s.heap.objs.size+1) (dJ X.env.cells sc.names []) [] nd).2 (by rw[hx];decide);obtain⟨c,h1,h2⟩:=(@wz X.env.cells x sc.names [] nd).1 hx;obtain⟨c',h3⟩:=hcl (x,.free) (P3 hx) rfl;have h3':X.env.cells.lookup x=some c':=h3;rw[h3']at h2;have h4:c'=c:=h2;subst h4;exact⟨c',by show(cellsFrom _ _ _).lookup x=_;rw[e];exact h1,h3'⟩
 have oth:∀x c,(jH sc X.env s.heap.objs.size).cells.lookup x=some c->sc.names.lookup x=some .cell\/sc.names.lookup x=some .free:=λx c hc=>by
  by_cases h1:sc.names.lookup x=some .cell
  .exact .inl h1
  .by_cases h2:sc.names.lookup x=some .free
   .exact .inr h2
   .have e:=(sE sc.names (s.heap.objs.size+1) (dJ X.env.cells sc.names []) [] nd).2 h1
    have e2:=(@wz X.env.cells x sc.names [] nd).2 h2;have hc':(cellsFrom (s.heap.objs.size+1) sc.names<|dJ X.env.cells sc.names []).lookup x=some c:=hc;rw[e,e2]at hc';simp at hc'
 have ownC:∀x c,(x,c)∈cellsFrom (s.heap.objs.size+1) sc.names []->(pushCells (s.heap.push { cls:=.type "dict",data:=.dict #[] }) sc.names).IsCell c none/\s.heap.objs.size+1<=c:=λx c h=>okc.empty x c h;have cloLt:∀x c,X.env.cells.lookup x=some c->c<s.heap.objs.size:=λx c h=>by
  obtain⟨v,q⟩:=I.cell x c h;exact q.lt
 have noA:∀b∈fp,b<s.heap.objs.size:=λb hb=>by obtain⟨o,e⟩:=ho b hb;exact dZ e
 refine ⟨⟨I.ok.mod,hk,I.ok.glob,I.ok.blt,cO _,λx y c h1 h2=>?_,λx hx=>?_,λx c hx h=>?_,I.ok.hd,I.ok.frames,.inl rfl,λb hb=>⟨jv<|noA b hb,λx c h=>?_⟩,I.bs,jw I.ok.bsz I.sz,λb o e hb=>?_,λb hb hq=>?_,I.stack,I.stkFree,I.sysn⟩,
  rfl,I.bare,Un.kept keep,⟨λ_=>none,?_,λi x v h1 h2 h3=>?_⟩,λx c h=>?_,I.hok.fresh<|cO _,λx c h=>?_,λp hp=>PQ (show p∈([]:Lb) from hp)<|KE,I.hok.kept keep,?_⟩
 ·-- inj
  replace h1:(jH sc X.env s.heap.objs.size).cells.lookup x=some c:=h1;replace h2:(jH sc X.env s.heap.objs.size).cells.lookup y=some c:=h2;rcases oth x c h1 with k1|k1<;>rcases oth y c h2 with k2|k2
  .obtain⟨c1,e1,m1⟩:=own x k1
   obtain⟨c2,e2,m2⟩:=own y k2;rw[h1]at e1;rw[h2]at e2;cases e1;cases e2;exact name_of_addr okc.apart m1 m2
  .obtain⟨c1,e1,m1⟩:=own x k1
   obtain⟨c2,e2,m2⟩:=clo y k2;rw[h1]at e1;rw[h2]at e2;cases e1;cases e2;exact PQ (dN (cloLt y c m2)<|Bn (ownC x c m1).2)<|ju _
  .obtain⟨c1,e1,m1⟩:=clo x k1
   obtain⟨c2,e2,m2⟩:=own y k2;rw[h1]at e1;rw[h2]at e2;cases e1;cases e2;exact PQ (dN (cloLt x c m1)<|Bn (ownC y c m2).2)<|ju _
  .obtain⟨c1,e1,m1⟩:=clo x k1
   obtain⟨c2,e2,m2⟩:=clo y k2;rw[h1]at e1;rw[h2]at e2;cases e1;cases e2;exact I.ok.inj x y c m1 m2
 ·-- has
  have hx':(relabel sc X.env).names.lookup x=some .cell\/(relabel sc X.env).names.lookup x=some .free:=hx;rw[ET]at hx';cases q:sc.names.lookup x with
  |none=>rw[q]at hx';simp at hx'
  |some k=>
   cases k with
   |cell=>obtain⟨c,e,_⟩:=own x q;exact⟨c,e⟩
   |free=>obtain⟨c,e,_⟩:=clo x q;exact⟨c,e⟩
   | «local»=>rw[q]at hx';simp at hx'|globalExplicit=>rw[q]at hx';simp at hx'|globalImplicit=>rw[q]at hx';simp at hx'
 .have hx':sc.names.lookup x=some .cell:=of_decide_eq_true hx
  obtain⟨c1,e1,m1⟩:=own x hx';have h':(jH sc X.env s.heap.objs.size).cells.lookup x=some c:=h;rw[h']at e1;cases e1;have:=(ownC x c m1).2;show s.heap.objs.size<=c;omega
 .rcases oth x c h with k|k
  .obtain⟨c1,e1,m1⟩:=own x k
   rw[show(jH sc X.env s.heap.objs.size).cells.lookup x=some c from h]at e1;cases e1;exact λz=>PQ (dN (noA b hb)<|Bn (ownC x c m1).2) (by rw[z];exact ju _)
  .obtain⟨c1,e1,m1⟩:=clo x k
   rw[show(jH sc X.env s.heap.objs.size).cells.lookup x=some c from h]at e1;cases e1;exact(hf b hb).2.2.2.2.1 x c m1
 .have q:=(hf b hb).2.2.2.1
  rcases q with q|q
  .exact I.ok.noex b o e q
  .exact PQ (dN (dZ (I.ok.bs b o e).1) q)<|ju _
 .rcases Yan.mp (I.stkSub b hq) with z|z
  .exact(hf b hb).2.1 z
  .exact(hf b hb).2.2.1 z
 ·-- the names' dict
  refine Heap.Ns.keeps (h:=s.heap.push { cls:=.type "dict",data:=.dict #[] }) ?_<|λb o e=>pushCells_keeps _ _ _ _ e;exact⟨_,#[],_,jy _ rfl,rfl,λe he=>PQ he<|KE,λ_=>rfl⟩
 ·-- what is seen
  have hi:vars.length<=i:=by
   rcases gD i vars.length with z|z
   .exfalso
    unfold hZ at h2;rw[lR<|by simpa using z,lQ]at h2;split at h2<;>cases h2
   .exact z
  unfold hZ at h2;rw[lP<|by simpa using hi,lS,cV]at h2;have h1':(vars++sel.map λj=>X.N.getD j "")[i]? = some x:=h1;rw[lP hi,cV]at h1';cases q:sel[i-vars.length]? with
  |none=>rw[q]at h2;cases h2
  |some j=>
   rw[q]at h1' h2;have e1:X.N.getD j "" = x:=PY h1';have e2:(σ[j]?).getD none=some v:=PY h2;have hj:∃y,X.N[j]? = some y/\sc.names.lookup y=some .free:=by
    have:=Ybe.mp so j<|pj q;cases z:X.N[j]? with
    |none=>rw[z]at this;cases this
    |some y=>rw[z]at this;exact⟨y,rfl,of_decide_eq_true this⟩
   obtain⟨y,hy,hyf⟩:=hj;have:y=x:=by
    rw[<-e1,bE,hy];rfl
   subst this;have e3:σ[j]? = some (some v):=by
    cases z:σ[j]? with
    |none=>rw[z]at e2;cases e2
    |some w=>rw[z]at e2;exact congrArg some e2
   obtain⟨c,k1,k2⟩:=clo y hyf;have vis:mm X.env.scope y:=by
    rcases hfree (y,.free) (P3 hyf) with z|z|z
    .exact PQ rfl z
    .exact .inr<|.inl z
    .exact .inr<|.inr z
   obtain⟨m,hn,hl⟩:=I.loc;obtain⟨u,r,l⟩:=hl j y v hy e3 vis;refine⟨u,r,?_⟩;have notloc:X.env.kindOf y≠some .local:=by
    rcases hfree (y,.free) (P3 hyf) with z|z|z
    .exact PQ rfl z
    .show X.env.scope.names.lookup y≠_;rw[z];decide
    .show X.env.scope.names.lookup y≠_;rw[z];decide
   rcases l with⟨z,_⟩|⟨_,c',e',q'⟩
   .exact PQ z notloc
   .rw[k2]at e';cases e'
    have kk:(jH sc X.env s.heap.objs.size).kindOf y=some .cell\/(jH sc X.env s.heap.objs.size).kindOf y=some .free:=by
     show(relabel sc X.env).names.lookup y=_\/(relabel sc X.env).names.lookup y=_;rw[ET,hyf];simp only[vM];split
     .exact .inl rfl
     .exact .inr rfl
    exact .inr ⟨kk,c,k1,q'.keeps keep⟩
 .rcases oth x c h with k|k
  .obtain⟨c1,e1,m1⟩:=own x k
   rw[show(jH sc X.env s.heap.objs.size).cells.lookup x=some c from h]at e1;cases e1;exact⟨none,(ownC x c m1).1⟩
  .obtain⟨c1,e1,m1⟩:=clo x k
   rw[show(jH sc X.env s.heap.objs.size).cells.lookup x=some c from h]at e1;cases e1;obtain⟨v,q⟩:=I.cell x c m1;exact⟨v,q.keeps keep⟩
 .rcases oth x c h with k|k
  .obtain⟨c1,e1,m1⟩:=own x k
   rw[show(jH sc X.env s.heap.objs.size).cells.lookup x=some c from h]at e1;cases e1;exact I.hok.fresh (by have:=(ownC x c m1).2;omega)
  .obtain⟨c1,e1,m1⟩:=clo x k
   rw[show(jH sc X.env s.heap.objs.size).cells.lookup x=some c from h]at e1;cases e1;exact I.freeC x c m1
 .show(hZ vars.length sel σ).length=(vars++sel.map _).length
  unfold hZ;simp
end
def PF(X:Cx)(ifs:List Expr)(t:TT):Prop:=
 ∀(tv:Lb) (s:Shared) (σ:St) (H:Hp) (Q:Bool->Hp->Prop),Inv X tv σ H s->t σ H Q->
  wpAny (model X.prog X.w) X.A (forIn ifs true λc r=>if r=true then do let ok <-isTrue c X.env (eval c X.env);pure (ForInStep.yield ok) else pure (ForInStep.yield r)) (TP X tv σ Q) X.xe s
def wD:TT:=λ_ H Q=>Q true H
theorem Jf:PF X [] wD:=λ_ _ _ H _ I h=>wpAny_tests_nil ⟨H,I,h⟩
theorem Jg{c:Expr}{t:TT}(h:PT X c t):PF X [c] t:=λtv s σ H Q I q=>wpAny_tests_one<|h tv s σ H Q I q
def wE(g:TG)(tf:TT)(te:TE)(J:It)(D:Addr)(Q:Hp->Prop)(W:Nat->Nat->QJ->St->Hp->Prop):Prop:=
 ∀ i m ys σ2 H2,W i m ys σ2 H2->H2 D=some (.lst ys)/\((J.stop i H2/\Q H2)\/(J.go i H2/\∀ x H3,J.yld i H2 x H3->g x σ2 H3 λσ4 H4=>tf σ4 H4 λb H5=>
  if b=true then te σ4 H5 λv H6=>H6 D=some (.lst ys)/\ys.length<sizeLine/\∃m',m'<m/\W (i+1) m' (ys++[v]) σ4 (upd H6 D<|.lst<|ys++[v]) else∃m',m'<m/\W (i+1) m' ys σ4 H5))
def B6(wi:TI)(nv:Nat)(sel:Qz)(g:TG)(tf:TT)(te:TE):TE:=λσ H Q=>wi σ H λJ H1=>∀D,H1 D=none->
 ∃W:Nat->Nat->QJ->St->Hp->Prop,(∃m,W 0 m [] (hZ nv sel σ)<|upd H1 D<|.lst [])/\wE g tf te J D (Q<|.ref D) W
section
variable{H1:Hp}{s2:Shared}{elt target iter:Expr}{ifs:List Expr}{g:TG}{tf:TT}{te:TE}
theorem Jh{prog:Program}{R:Result->Shared->Prop}{it acc:Value}(I:Nat->Shared->Prop)
  (turn:∀ n s,I n s->wpAny (model prog w) A (pyNext it) (λr s₁=>match r with
   |none=>R (.ok .next) s₁
   | some v=>wpAny (model prog w) A (letOwnedTupleGo target it v) (λ_ s₁'=>wpAny (model prog w) A (assign target env v) (λ_ s₂=>
     wpAny (model prog w) A (forIn ifs true λc r=>if r=true then do let ok <- isTrue c env (eval c env);pure (ForInStep.yield ok) else pure (ForInStep.yield r)) (λok s₃=>
      if ok=true then wpAny (model prog w) A (eval elt env) (λx s₄=>
       wpAny (model prog w) A (call (.builtin "list.append") [acc,x]) (λ_ s₅=>∃m,m<n/\I m s₅) (λ_ _=>False) s₄) (λ_ _=>False) s₃
      else∃m,m<n/\I m s₃) (λ_ _=>False) s₂) (λ_ _=>False) s₁') (λ_ _=>False) s₁) (λ_ _=>False) s)
  (n:Nat) (h:I n s) :
  codeAny (model prog w) A (.compLoop (.ListComp elt [⟨target,iter,ifs,0⟩] scope pos) 0 it acc env) R s:=by
 refine codeAny_loop rfl I (λn s hI=>?_) n h;show wpAny _ A ((compTurn (.ListComp elt [⟨target,iter,ifs,0⟩] scope pos) 0 it acc env).onRaise (λx=>do noteFrame x env;theTreesLotGoes x)) _ _ s;refine wpAny_noted ?_;rw[compTurn_list];refine PM<|Qc (PM<|P2 (turn n s hI) (λr s₁ h₁=>?_) λ_ _ h'=>h'.elim);cases r with
 |none=>exact PP h₁
 |some v=>
  refine PM<|P2 h₁ (λ_ s₁' h₁'=>?_) λ_ _ h'=>h'.elim;refine PM<|P2 h₁' (λ_ s₂ h₂=>PM<|P2 h₂ (λok s₃ h₃=>?_) λ_ _ h'=>h'.elim) λ_ _ h'=>h'.elim;cases ok with
  |false=>exact PP ⟨rfl,h₃⟩
  |true=>
   exact PM<|PM (P2 h₃ (λx s₄ h₄=>PM<|P2 h₄ (λ_ s₅ h₅=>PP<|PP ⟨rfl,h₅⟩) λ_ _ h'=>h'.elim) λ_ _ h'=>h'.elim)
theorem EW{J:It}{it:Addr}{Q:VK}{E:Mn}{R:Value->Addr->Result->Shared->Prop}(hc:X.calm=true)
  (hg:∀s H fp,PG (X.lc sc vars sel s H fp) target g) (hf:∀s H fp,PF (X.lc sc vars sel s H fp) ifs tf) (he:∀s H fp,PE (X.lc sc vars sel s H fp) elt te)
  (ok:kR sc X.env.scope=true) (so:qh X.N sc sel=true)
  (I2:Inv X tv σ H1 s2) (T:jU X.prog X.w X.K target J fp it tn) (st2:tn 0 s2.heap) (f2:∀b∈fp,eK X tv H1 b)
  (q:∀D,H1 D=none->∃W:Nat->Nat->QJ->St->Hp->Prop,(∃m,W 0 m [] (hZ vars.length sel σ)<|upd H1 D<|.lst [])/\wE g tf te J D (Q<|.ref D) W)
  (hR:∀D C H' s',Inv X tv σ H' s'->Q (.ref D) H'->(∃m,s'.heap.Ns C m)->eK X tv H' C->R (.ref D) C (.ok .next) s') :
  wpAny (model X.prog X.w) X.A (newList []) (λacc s₃=>wpAny (model X.prog X.w) X.A (newFunctionEnv sc X.env.globals (dJ X.env.cells sc.names []) [] X.env.qual none .none<|some X.env) (λcenv s₄=>
   codeAny (model X.prog X.w) X.A (.compStart (.ListComp elt [⟨target,iter,ifs,0⟩] sc pos) 0 (.ref it) acc { cenv with scope:=relabel sc X.env }) (R acc cenv.locals) s₄) E s₃) E s2:=by
 refine P5 ?_;have hD0:H1 s2.heap.objs.size=none:=I2.hok.fresh<|cO _;obtain⟨W,⟨m0,w0⟩,turn⟩:=q _ hD0;have I3:Inv X tv σ (upd H1 s2.heap.objs.size<|.lst []) { s2 with heap:=s2.heap.push { cls:=.type "list",data:=.seq ([]:Qu).toArray },toks:=s2.toks }:=I2.lnew (ys:=[]) .nil<|k9 _;have ho2:∀b∈fp,∃o,s2.heap.get? b=some o/\∀v,o.data≠.cell v:=T.obj _ _ st2;have lt2:∀b∈fp,b<s2.heap.objs.size:=λb hb=>by obtain⟨o,e,_⟩:=ho2 b hb;exact dZ e
 have f3:∀b∈fp,eK X tv (upd H1 s2.heap.objs.size<|.lst []) b:=λb hb=>⟨by rw[aI<|jv<|lt2 b hb];exact(f2 b hb).1,(f2 b hb).2⟩;have ho3:∀b∈fp,∃o,(s2.heap.push { cls:=.type "list",data:=.seq ([]:Qu).toArray }).get? b=some o:=λb hb=>by obtain⟨o,e,_⟩:=ho2 b hb;exact⟨o,eQ _ e⟩
 refine EU (s:={ s2 with heap:=s2.heap.push { cls:=.type "list",data:=.seq ([]:Qu).toArray },toks:=s2.toks }) ?_;generalize hs3:({ s2 with heap:=s2.heap.push { cls:=.type "list",data:=.seq ([]:Qu).toArray },toks:=s2.toks }:Shared)=s3 at I3 ⊢;have kp23:∀b o,s2.heap.get? b=some o->s3.heap.get? b=some o:=λb o e=>by rw[<-hs3];exact eQ _ e
 have sz3:s3.heap.objs.size=s2.heap.objs.size+1:=by rw[<-hs3];exact qg ..
 have os3:s3.os=s2.os:=by rw[<-hs3]
 have ho3':∀b∈fp,∃o,s3.heap.get? b=some o:=λb hb=>by rw[<-hs3];exact ho3 b hb
 have I4:=EV (vars:=vars) I3 ok so f3 ho3' I2.ok.kind;have kp4:∀b o,s3.heap.get? b=some o->(pushCells (s3.heap.push { cls:=.type "dict",data:=.dict #[] }) sc.names).get? b=some o:=λb o e=>pushCells_keeps _ _ _ _<|eQ _ e;have st4:tn 0 (pushCells (s3.heap.push { cls:=.type "dict",data:=.dict #[] }) sc.names):=T.keep _ _ _ st2 λb hb o e=>kp4 b o<|kp23 b o e
 have stat:∀{H':Hp},(∀b∈fp,H' b=none)->∀b∈fp,eK (X.lc sc vars sel s3 (upd H1 s2.heap.objs.size<|.lst []) fp) [] H' b:=λ{H'} hn b hb=>by
  refine⟨hn b hb,(I4.ok.exf b hb).1,I4.ok.exfs b hb,.inl hb,λx c e z=>(I4.ok.exf b hb).2 x c e z,λp hp=>PQ (show p∈([]:Lb) from hp)<|KE⟩
 have loop:codeAny (model X.prog X.w) X.A (.compLoop (.ListComp elt [⟨target,iter,ifs,0⟩] sc pos) 0 (.ref it) (.ref s2.heap.objs.size)<|jH sc X.env s3.heap.objs.size)
   (R (.ref s2.heap.objs.size) s3.heap.objs.size) { s3 with heap:=pushCells (s3.heap.push { cls:=.type "dict",data:=.dict #[] }) sc.names }:=by
  refine Jh (λn s'=>∃i ys σ' H',Inv (X.lc sc vars sel s3 (upd H1 s2.heap.objs.size<|.lst []) fp) [] σ' H' s'/\tn i s'.heap/\(∀b∈fp,H' b=none)/\W i n ys σ' H') ?_ m0
   ⟨0,[],_,_,I4,st4,λb hb=>(f3 b hb).1,w0⟩
  rintro n s5 ⟨i,ys,σ5,H5,I5,st5,fr5,w5⟩;obtain⟨hD,⟨stop,qn⟩|⟨go,step⟩⟩:=turn i n ys σ5 H5 w5
  .refine bO (T.done (X.lc sc vars sel s3 (upd H1 s2.heap.objs.size<|.lst []) fp) rfl rfl rfl hc i [] s5 σ5 H5 _ I5 (stat fr5) st5 stop) λr s6 ⟨hr,I6⟩=>?_
   subst hr;have un:Un (dO X.stack) fp H1 H5 s2.heap s6.heap:=by
    have a:Un (dO X.stack) fp H1 (upd H1 s2.heap.objs.size<|.lst []) s2.heap s3.heap:=Un.laid kp23 (cO _) hD0;exact a.trans I6.base
   have I7:Inv X tv σ H5 s6:=I2.call' (ch:=fp) (I6.os.trans os3) un I6.hok I6.bare λb hb=>⟨(f2 b hb).2.2.2.1,(f2 b hb).2.1,(f2 b hb).2.2.2.2.1,(f2 b hb).2.2.2.2.2⟩;refine hR _ _ H5 s6 I7 qn ?_ ?_
   .obtain⟨m,hn,_⟩:=I6.loc
    exact⟨m,hn⟩
   .exact I3.fpOk (cO _) I6.free
  .refine bO (T.item (X.lc sc vars sel s3 (upd H1 s2.heap.objs.size<|.lst []) fp) rfl rfl rfl hc i [] s5 σ5 H5 _ I5 (stat fr5) st5 go) λr s6 ⟨u,hr,h6⟩=>?_
   subst hr;refine bO h6 λ_ s7 ⟨x,H7,I7,r7,y7,st7,fr7⟩=>?_;have I7':=I7.pinned (stat fr7)<|T.obj _ _ st7;refine bO (hg _ _ _ _ s7 σ5 H7 x u _ I7' r7<|step x H7 y7) λ_ s8 ⟨σ8,H8,I8,q8⟩=>?_;refine bO (hf _ _ _ _ s8 σ8 H8 _ I8 q8) λb s9 ⟨H9,I9,q9⟩=>?_;have back:∀{σ':St} {H':Hp} {s':Shared},Inv (X.lc sc vars sel s3 (upd H1 s2.heap.objs.size<|.lst []) fp) ([]++fj fp s7.heap) σ' H' s'->tn (i+1) s'.heap/\∀b∈fp,H' b=none:=λ{σ' H' s'} I'=>by
    refine⟨T.keep _ _ _ st7 λb hb o e=>(I'.pin (b,o)<|jz _<|jz _<|cH hb e).1,λb hb=>?_⟩;obtain⟨o,e,d⟩:=T.obj _ _ st7 b hb;exact(I'.pin (b,o)<|jz _<|jz _<|cH hb e).2.1
   cases b with
   |false=>
    rw[jx<|E8]at q9 ⊢;obtain⟨m',hm,w9⟩:=q9;exact⟨m',hm,i+1,ys,σ8,H9,I9.unpinned,(back I9).1,(back I9).2,w9⟩
   |true=>
    rw[oI rfl]at q9 ⊢;refine bO (he _ _ _ _ s9 σ8 H9 _ I9 q9) λv sA ⟨y,HA,IA,rA,hDA,hz,m',hm,wA⟩=>?_;obtain⟨z,its,nn,rr,hl,e⟩:=IA.lstM hDA;refine call_meets F.slot_list_append ⟨_,e,rfl⟩ F.entry_list_append (F.args_list_append_2 _ _) (PySem.list_append _ its.toArray nn v (by rw[fJ];omega)) ⟨e,?_⟩;have IB:=IA.lset (its':=its++[v]) (f:=(·.push v)) (t':=sA.toks) hDA e KE (rr.append<|.cons rA .nil) (by rw[fZ,me];omega);exact⟨m',hm,i+1,ys++[y],σ8,_,IB.unpinned,(back IB).1,(back IB).2,wA⟩
 exact codeAny_compStart_list loop<|T.self _ 0 _ _ _ st4 loop
theorem wG(vars:Qx)(sel:Qz)(hc:X.calm=true)(hi:PI X target iter wi)
  (ok:kR sc X.env.scope=true) (so:qh X.N sc sel=true)
  (hg:∀s H fp,PG (X.lc sc vars sel s H fp) target g) (hf:∀s H fp,PF (X.lc sc vars sel s H fp) ifs tf) (he:∀s H fp,PE (X.lc sc vars sel s H fp) elt te)
  (hs:autoParam (∀x,foldedSetIterable iter X.env x=pure x) QN._auto_1):PE X (.ListComp elt [⟨target,iter,ifs,0⟩] sc pos) (B6 wi vars.length sel g tf te):=by
 intro tv s σ H Q I h;rw[eval_ListComp];have ok':=ok;simp only[kR,cX,PV]at ok';refine Qn (use:=none) rfl hs (B5<|zn I ok) ok'.1.1 (λx hx hl=>?_) ?_
 .obtain⟨n,k⟩:=x
  have hl':k=.local:=hl;subst hl';exact zm ok'.1.2 hx
 .refine bO (hi tv s σ H _ I h) λv s1 h1=>bO h1 λitv s2 h2=>?_
  obtain⟨it,fp,tn,J,H2,e,I2,T,st2,f2,q⟩:=h2;subst e;refine EW (Q:=Q) hc hg hf he ok so I2 T st2 f2 q λD C H' s' I' q' hn fC=>?_;obtain⟨m,hn⟩:=hn;refine⟨m,hn,λh' hs'=>?_⟩;obtain⟨f0,f1,f2,f3,f4,f5⟩:=fC;exact⟨.ref D,H',I'.turned (t':=s'.toks) (λb o hb e=>(hs'.2 b hb).trans e) f0 f1 f3 f4 f5,rfl,q'⟩
theorem EY{i:Nat}{pos' spos:Pos}(vars:Qx)(sel:Qz)(hc:X.calm=true)(hN:X.N.Nodup)(hix:X.N[i]? = some x)(hx:pD X.env.scope x)(hi:PI X target iter wi)
  (ok:kR sc X.env.scope=true) (so:qh X.N sc sel=true)
  (hg:∀s H fp,PG (X.lc sc vars sel s H fp) target g) (hf:∀s H fp,PF (X.lc sc vars sel s H fp) ifs tf) (he:∀s H fp,PE (X.lc sc vars sel s H fp) elt te)
  (hsw:swapsWith (.ListComp elt [⟨target,iter,ifs,0⟩] sc pos) (some<|.Name x pos') spos.line X.env=pure true)
  (hs:autoParam (∀x,foldedSetIterable iter X.env x=pure x) QN._auto_1) (hfn:autoParam (QC X x) QO._auto_1) :
  PS X (.Assign [.Name x pos'] (.ListComp elt [⟨target,iter,ifs,0⟩] sc pos) spos) (t9 (B6 wi vars.length sel g tf te)<|lV i):=by
 intro tv s σ H D I h;rw[exec_Assign_Name_used _ _ _ _ hsw];refine PM<|Qc (PM ?_);show wpAny _ X.A (do let _ <-comprehension (.ListComp elt [⟨target,iter,ifs,0⟩] sc pos) sc X.env _ (newList []) false (eval iter X.env) (some<|assign (.Name x pos') X.env)) _ _ s;have ok':=ok;simp only[kR,cX,PV]at ok';refine PM<|P2 (Qn (use:=some<|assign (.Name x pos') X.env) (Q:=λ_ s'=>SP X tv D .next s') rfl hs (B5<|zn I ok) ok'.1.1 (λx hx hl=>?_) ?_) (λ_ s' q=>PP<|PP q) λ_ _ e=>e
 .obtain⟨n,k⟩:=x
  have hl':k=.local:=hl;subst hl';exact zm ok'.1.2 hx
 .refine bO (hi tv s σ H _ I h) λv s1 h1=>bO h1 λitv s2 h2=>?_
  obtain⟨it,fp,tn,J,H2,e,I2,T,st2,f2,q⟩:=h2;subst e;refine EW (Q:=λv H'=>lV i v σ H' D.nx) hc hg hf he ok so I2 T st2 f2 q λD' C H' s' I' q' hn fC=>?_;obtain⟨m,hn⟩:=hn;obtain⟨f0,f1,f2,f3,f4,f5⟩:=id fC;refine wpAny_assign_Name<|gH I' hN hix hx (v:=.ref D') rfl (λs'' I'' ⟨a,sb,ha⟩=>?_) hfn;have hCa:C≠a:=by
   rcases ha with z|z
   .rw[z];exact f1
   .exact P9<|f4 x a z
  refine⟨m,hn.sameBut sb hCa,λh' hs'=>?_⟩;exact⟨_,H',I''.turned (t':=s''.toks) (λb o hb e=>(hs'.2 b hb).trans e) f0 f1 f3 f4 f5,q'⟩
end
end L2
namespace HT
open PySem PySem.Spec PyProof.Rows
section
variable{prog:Program}{w:World}{A:Around}{E:Mn}{s:Shared}
theorem getItem_tuple_whole{t sl:Addr}{items:Array Value}{vl vu:Value}{lo hi:Option Int}{Q:Mn}(ht:IsTup s.heap t items)(hs:s.heap.IsSliceOf sl vl vu .none)(pl:IsPart vl lo)(pu:IsPart vu hi)
  (hw:sIx items.size 0 lo=0/\sIx items.size items.size hi=items.size) (h:Q (.ref t) s):wpAny (model prog w) A (getItem (.ref t)<|.ref sl) Q E s:=by
 obtain⟨os,hos,hcs,hds⟩:=id hs;have hTs:s.TypeIs (.ref sl) "slice" :=⟨os,hos,hcs⟩
 unfold getItem
 try with_reducible refine Qi ?_
 first|refine PM (PP ?_)|skip
 refine PM<|wpAny_sequenceKey ht.typeIs E8 ?_;refine PM (wpAny_callSpecial?_slot (name:=Str.ofString "__getitem__") ht.typeIs PyProof.Rows.slot_tuple_getitem
  (Qe PyProof.Rows.slot_tuple_getitem ht.typeIs entry_tuple_getitem ?_<|args_tuple_getitem _ _))
 show wpAny _ _ (Builtin.Tuple.tupleItemsOf (.ref t) >>= _) _ _ s;refine PM<|tupleItemsOf_ ht ?_;refine PM<|wpAny_typeOf hTs ?_;rw[oI<|E8];refine PM<|eL hs pl pu ?_;have hyes:(((sIx items.size 0 lo:Nat):Int)==0&&(1:Int)==1&&(sIx items.size items.size hi-sIx items.size 0 lo)==items.size)=true:=by
  rw[hw.1,hw.2];simp
 show wpAny _ _ (if(((sIx items.size 0 lo:Nat):Int)==0&&(1:Int)==1&&(sIx items.size items.size hi-sIx items.size 0 lo)==items.size)=true then _ else _) _ _ s;rw[oI hyes];have ex:Builtin.Tuple.tupleIsExact (.ref t)=(do return(<-typeOf (.ref t))==.type "tuple"):=rfl;rw[ex];refine PM<|PM (wpAny_typeOf ht.typeIs<|PP ?_);rw[oI<|E8]
 first
  |exact PM<|Qj (PM<|PP<|PP ⟨_,rfl,PP h⟩)
  |exact PM<|Qj (PP ⟨_,rfl,PP h⟩)
  |exact PM<|Qj (PM<|PP ⟨_,rfl,PP h⟩)
theorem Ji{sl:Addr}{tk:Tok}{n:Nat}{Q:Int×Int×Nat->Shared->Prop}(hs:s.heap.IsSliceOf sl .none .none (.int (-1) tk))
  (h:Q ((n:Int)-1,-1,n) s):wpAny (model prog w) A (Builtin.Slice.sliceApplied (.ref sl)<|pure (n:Int)) Q E s:=by
 obtain⟨os,hos,hcs,hds⟩:=id hs;unfold Builtin.Slice.sliceApplied Builtin.Slice.sliceFields;refine PM<|PM (P4 hos hds (x:=.none) rfl<|PM<|P4 hos hds (x:=.none) rfl<|PM<|P4 hos hds (x:=.int (-1) tk) rfl<|PP ?_);refine PM<|slicePart_int ?_;show wpAny _ _ (if((-1:Int)==0)=true then _ else _) _ _ s;rw[jx<|E8];refine PM<|slicePart_none (PM<|slicePart_none<|PM<|PP ?_);show wpAny _ _ (match Builtin.Slice.sliceAdjust none none (-1) (n:Int) with|(lo,hi)=>pure (lo,(-1:Int),Builtin.Slice.slicePlaces lo hi (-1))) _ _ s;have e:Builtin.Slice.sliceAdjust none none (-1) (n:Int)=((n:Int)-1,-1):=by
  unfold Builtin.Slice.sliceAdjust;simp
 rw[e];have e2:Builtin.Slice.slicePlaces ((n:Int)-1) (-1) (-1)=n:=by
  unfold Builtin.Slice.slicePlaces;simp
  try omega
 show wpAny _ _ (pure ((n:Int)-1,(-1:Int),Builtin.Slice.slicePlaces ((n:Int)-1) (-1) (-1))) _ _ s;rw[e2];exact PP h
theorem pick_rev(xs:Array Value):((List.range xs.size).filterMap λ(m:Nat)=>xs[((xs.size:Int)-1+(m:Int)*(-1)).toNat]?)=xs.toList.reverse:=by
 refine yO λi=>?_;have gen:∀(l:Qz),(∀m∈l,m<xs.size)->(l.filterMap λ(m:Nat)=>xs[((xs.size:Int)-1+(m:Int)*(-1)).toNat]?)=l.map λm=>xs.toList.getD (xs.size-1-m) .none:=by
  intro l;induction l with
  |nil=>intro _;rfl
  |cons m r ih=>
   intro hm;have h1:m<xs.size:=hm m md;have h2:((xs.size:Int)-1+(m:Int)*(-1)).toNat=xs.size-1-m:=E1
   have h3:xs.size-1-m<xs.size:=E1
   rw[yF,h2,Array.getElem?_eq_getElem h3,cG,ih λk hk=>hm k<|kj _ hk];simp[bE,h3]
 rw[gen _ λm hm=>Yah.mp hm];by_cases hi:i<xs.size;rw[cV,jB hi,List.getElem?_reverse<|by simpa using hi];simp[bE];rw[Array.getElem?_eq_getElem<|E1];simp;rw[fi (by simp;omega),fi (by simp;omega)]
theorem getItem_tuple_rev{t sl:Addr}{items:Array Value}{tk:Tok}{Q:Mn}(ht:IsTup s.heap t items)(hs:s.heap.IsSliceOf sl .none .none (.int (-1) tk))(hsz:items.size<=sizeLine)
  (h:Q (.ref s.heap.objs.size) { s with heap:=s.heap.push { cls:=.type "tuple",data:=.seq items.toList.reverse.toArray } }):wpAny (model prog w) A (getItem (.ref t)<|.ref sl) Q E s:=by
 have htake:sizeOk (.seq items.toList.reverse.toArray):=by
  show items.toList.reverse.toArray.size<=sizeLine;simpa using hsz
 obtain⟨os,hos,hcs,hds⟩:=id hs;have hTs:s.TypeIs (.ref sl) "slice" :=⟨os,hos,hcs⟩
 unfold getItem
 try with_reducible refine Qi ?_
 first|refine PM (PP ?_)|skip
 refine PM<|wpAny_sequenceKey ht.typeIs E8 ?_;refine PM (wpAny_callSpecial?_slot (name:=Str.ofString "__getitem__") ht.typeIs PyProof.Rows.slot_tuple_getitem
  (Qe PyProof.Rows.slot_tuple_getitem ht.typeIs entry_tuple_getitem ?_<|args_tuple_getitem _ _))
 show wpAny _ _ (Builtin.Tuple.tupleItemsOf (.ref t) >>= _) _ _ s;refine PM<|tupleItemsOf_ ht ?_;refine PM<|wpAny_typeOf hTs ?_;rw[oI<|E8];refine PM<|Ji hs ?_;show wpAny _ _ (if((((items.size:Int)-1)==0&&(-1:Int)==1&&items.size==items.size)=true) then _ else _) _ _ s;rw[jx<|KE,pick_rev]
 first
  |exact PM (m:=Builtin.Tuple.tupleExact _)<|P5 (PP ⟨_,rfl,PP h⟩) htake
  |exact PM (m:=Builtin.Tuple.tupleExact _)<|P5 (PM<|PP<|PP ⟨_,rfl,PP h⟩) htake
  |exact PM<|PM (m:=Builtin.Tuple.tupleExact _) (P5 (PP<|PP ⟨_,rfl,PP h⟩) htake)
  |exact PM<|PM (m:=Builtin.Tuple.tupleExact _) (P5 (PP ⟨_,rfl,PP h⟩) htake)
end
end HT
namespace L2
open PySem PySem.Spec PyProof.Rows
variable{X:Cx}{e tg elt:Expr}{te ta:TE}{pos p:Pos}{xs vs:Array Value}{us bm bmB:Qu}{A:Around}{s:Shared}{P prog:Program}{base h h':Heap}{env:Env}{outer:List Env}{l b fI a f it:Addr}{Q:Mn}{oe:Obj}{w:World}{g:Array GenState}{d:Drawn}{t t' i k:Nat}{os:OsState}{nm q x qual:Str}{N sn ns ps vars:Qx}{hdct κ κ':Bool}{col:Option Bool}{dd:Option Addr}{newId:String}{mN m mg:Qt}{H H1:Hp}{K:PN}{scope sc:Scope}{cd:Value}{tv:Lb}{σ:St}{ys:QJ}{es f2 ifs:List Expr}{EX:XK}{fd:FuncData}{tk:Tok}{CX:mB}{sel:Qz}{wi2:TI}{J:It}{fp:List Addr}{tn:Nat->Heap->Prop}
section
variable{p2:Pos}
def wH(K:PN):V->Option Int->Option Int->Hp->VK->Prop:=λx lo hi H Q=>∃a xs,x=.ref a/\SqT K H a xs/\
 (HT.sIx xs.length 0 lo=0/\HT.sIx xs.length xs.length hi=xs.length)/\Q (.ref a) H
theorem Jj:SlR X (wH X.K):=by
 intro tv s σ H x v vl vu lo hi sl Q I rx hs pl pu h;obtain⟨a,xs,rfl,hx,hw,q⟩:=h;cases rx;obtain⟨its,r,ht,hz⟩:=I.tuple hx;have hlen:its.toArray.size=xs.length:=by rw[fJ];exact r.length.symm
 refine⟨"tuple",_,PyProof.Rows.slot_tuple_getitem.lookup,ht.typeIs,?_⟩;exact HT.getItem_tuple_whole ht hs pl pu (by rw[hlen];exact hw) ⟨.ref a,H,I,rfl,q⟩
def B7(r:V->Hp->VK->Prop)(te:TE):TE:=λσ H Q=>te σ H λx H1=>r x H1 Q
def B8(K:PN):V->Hp->VK->Prop:=λx H Q=>∃a xs,x=.ref a/\((SqT K H a xs/\∀p,H p=none->Q (.ref p) (upd H p<|.tup xs.reverse))\/(SqL K H a xs/\∀p,H p=none->Q (.ref p) (upd H p<|.lst xs.reverse)))
theorem Vals.rev{xs:QJ}(r:Vals xs us):Vals xs.reverse us.reverse:=by
 induction xs generalizing us with
 |nil=>cases r;exact .nil
 |cons x xs ih=>cases r with|cons r t=>rw[yP,yP];exact(ih t).append<|.cons r .nil
theorem Jk(its:Qu):slicePick its.toArray none none (some (-1))=its.reverse.toArray:=by
 have e:slicePick its.toArray none none (some (-1))=((sliceRange ((its.length:Int)-1) (-1) (-1)).filterMap (its.toArray[·]?)).toArray:=by unfold slicePick sliceBounds;simp
 rw[e];congr 1;have h:=HT.pick_rev its.toArray;rw[fJ]at h;have h':its.toArray.toList.reverse=its.reverse:=KE
 rw[h']at h;rw[<-h];unfold sliceRange;simp only[show¬((-1:Int)>0) by decide,if_false];have hn:(if(-1:Int)<(its.length:Int)-1 then(its.length:Int) else 0).toNat=its.length:=by split<;>omega
 simp;rw[hn];rfl
theorem Jl{j pos3 pos4}(he:PE X e te):PE X (.Subscript e (.Slice none none (some<|.UnaryOp .USub (.Constant (.int 1) j pos3) pos4) p2) pos) (B7 (B8 X.K) te):=by
 intro tv s σ H Q I h;refine Subscript_<|bO (he tv s σ H _ I h) λv s1 ⟨x,H1,I1,r1,a,xs,ex,q1⟩=>?_;subst ex;cases r1;refine wpAny_Slice ?_;rw[evalPart_none];refine PP<|PP ?_;rw[evalPart_some];refine bO (ss (pI (X:=X)) jQ tv s1 σ H1 (λx H'=>x=.int (-1)/\H'=H1) I1 ⟨1,rfl,rfl,rfl⟩) λu s3 ⟨y,H3,I3,r3,e3,e4⟩=>?_;subst e3;obtain rfl:=e4.symm;obtain⟨tk,rfl⟩:=r3;have I4:Inv X tv σ H1 { s3 with heap:=s3.heap.push { cls:=.type "slice",data:=.fields #[.none,.none,.int (-1) tk] } }:=I3.kept (t':=s3.toks) λb ob q=>eQ _ q;show wpAny (model X.prog X.w) X.A (subscriptTail e (.Slice none none (some<|.UnaryOp .USub (.Constant (.int 1) j pos3) pos4) p2) (.ref a)<|.ref s3.heap.objs.size) (EP X tv σ Q) X.xe { s3 with heap:=s3.heap.push { cls:=.type "slice",data:=.fields #[.none,.none,.int (-1) tk] } };rcases q1 with⟨hx,q1⟩|⟨hx,q1⟩
 obtain⟨its,r,ht,hz⟩:=I4.tuple hx;have hlen:=r.length;refine tail_any (ops:=[.ref a,.ref s3.heap.objs.size]) ht.typeIs PyProof.Rows.slot_tuple_getitem.lookup (HT.getItem_tuple_rev ht (Heap.IsSliceOf.new ..) (by rw[fJ];omega) ?_) (by with_unfolding_all rfl);refine⟨.ref _,_,I4.laid (t':=s3.toks) (o:=.tup xs.reverse) (λb ob q=>eQ _ q) (cO _) ?_,rfl,q1 _<|I4.hok.fresh<|cO _⟩;exact⟨by rw[rV];exact hz,_,r.rev,IsTup.new _ _⟩;obtain⟨its,r,ht,hz⟩:=I4.list hx;have hlen:=r.length;refine tail_any (ops:=[.ref a,.ref s3.heap.objs.size]) ht.isList.typeIs slot_list_getitem.lookup (wpAny_getItem_list_slice ht.isList (Heap.IsSliceOf.new ..) .none .none (.int (-1) tk) KE ?_ (by rw[fJ];omega)) (by with_unfolding_all rfl);rw[Jk];refine⟨.ref _,_,I4.laid (t':=s3.toks) (o:=.lst xs.reverse) (λb ob q=>eQ _ q) (cO _) ?_,rfl,q1 _<|I4.hok.fresh<|cO _⟩;exact⟨by rw[rV];exact hz,_,0,r.rev,jy _ rfl⟩
end
namespace Fl
def mG(P:Obj->Prop):Prop:=∀(o:Obj) f,P o->P (o.mapFields f)
theorem Jm(o:Obj)(f:Array Value->Array Value):(o.mapFields f).dict=o.dict:=by unfold Obj.mapFields;split<;>rfl
def Is(cls:Value)(dx:Option Addr)(o:Obj):Prop:=o.cls=cls/\o.dict=dx
theorem Is.firm{cls:Value}{dx:Option Addr}:mG (Is cls dx):=λo f h=>⟨(Obj.cls_mapFields o f).trans h.1,(Jm o f).trans h.2⟩
def Tr(P:Obj->Prop)(base:Heap)(e:Addr)(fl:Value)(h:Heap):Prop:=
 ∃(oe:Obj) (vs:Array Value) (T:Addr) (oT:Obj) (ts:Array Value),h.get? e=some oe/\P oe/\oe.data=.fields vs/\vs[1]? = some (.ref T)/\base.get? T=none/\T≠e/\h.get? T=some oT/\oT.data=.fields ts/\ts[3]? = some fl
structure Up(P:Obj->Prop)(base:Heap)(l:List Env)(e:Addr)(fl:Value)(h:Heap):Prop where
 st:base.StaysIn h
 new:base.get? e=none
 fr:h.FunFrames base l
 tr:Tr P base e fl h
section
variable{M:Model}{E:Mn}{P:Obj->Prop}{l:List Env}{L e:Addr}{fl:Value}{Q:Unit->Shared->Prop}
theorem sF(hP:mG P){head:Value}{b:Bool}(hA:A.frames=some (env::outer))(hl:s.heap.FunFrames base (env::outer))(hf:env.frame=some L)(he:s.heap.get? e=some oe)(hp:P oe)
  (st:base.StaysIn s.heap) (new:base.get? e=none) (hd:oe.data=.fields vs) (hz:1<vs.size) (k:∀h',Up P base (env::outer) e (rawInt L) h'->s.heap.UpToSlots h'->Q () { s with heap:=h' }) :
  wpAny M A (do let a <-frameOf env;let pl <-entryPlaceOf L b;let c <-EntryCells.newEntry head a .none (rawInt L) .none pl;setField (.ref e) 1 c) Q E s:=by
 have out:e∉(env::outer).filterMap (·.frame):=λz=>by
  obtain⟨_,o,ho,nf⟩:=hl.mem z;cases he.symm.trans ho;exact nf vs hd
 refine PM<|wpAny_frameOf_fun hA hl hf λh1 so=>?_;refine PM<|wpAny_entryPlaceOf λpl place=>?_;unfold EntryCells.newEntry newFields;refine PM<|P5 ?_ (place.sizeOk5 _ _ _ _ _);generalize ho:({ cls:=.type "traceback",dict:=none,data:=.fields ([head,.ref L,.none,rawInt L,.none]++(if pl.isEmpty then List.replicate 6 Value.none else pl)).toArray }:Obj)=ob;have e1:h1.get? e=some oe:=(so.2.1 e out).trans he;have ne:h1.objs.size≠e:=yI<|dZ e1;have e2:(h1.push ob).get? e=some oe:=eQ ob e1;have fr0:ob.isFreed=false:=by rw[<-ho];exact Obj.isFreed_of_fields rfl
 refine Qo e2 hd hz<|k _ ?_ ?_
 .have e3:=yK (Obj.mapFields (·.setIfInBounds 1 (Value.ref h1.objs.size))) e2 (Obj.isFreed_of_fields<|Obj.data_mapFields hd _)
  have oth:∀{c o},c≠e->h1.get? c=some o->((h1.push ob).update e (Obj.mapFields (·.setIfInBounds 1 (Value.ref h1.objs.size)))).get? c=some o:=λne hc=>(tG _ _<|P9 ne).trans (eQ ob hc);refine⟨λc o hc=>?_,new,hl.of_keeps λc o hc nf=>?_,_,_,h1.objs.size,ob,_,e3,hP _ _ hp,Obj.data_mapFields hd _,by simp[hz],?_,ne,(tG _ _<|P9 ne).trans (jy h1 fr0),by rw[<-ho],?_⟩
  .exact oth (λz=>by rw[z,new]at hc;cases hc)<|(so.2.1 c λz=>by rw[(hl.mem z).1]at hc;cases hc).trans (st c o hc)
  .obtain⟨sl,hs⟩:=so.2.2 c o hc
   exact⟨_,oth (λz=>by rw[z,he]at hc;cases hc;exact nf vs hd) hs,rfl⟩
  .cases q:base.get? h1.objs.size with
   |none=>rfl
   |some o=>
    have:h1.get? h1.objs.size=some o:=(so.2.1 _ λz=>by rw[(hl.mem z).1]at q;cases q).trans (st _ o q);exact PQ (dZ this)<|ju _
  .rcases place with rfl|⟨_,_,_,_,_,_,_,rfl⟩<;>simp
 .intro c o hc nf
  obtain⟨sl,hs⟩:=so.2.2 c o hc;exact⟨sl,(tG _ _ (P9 λz=>by rw[z,he]at hc;cases hc;exact nf vs hd)).trans (eQ ob hs)⟩
theorem Jn(hP:mG P)(hA:A.frames=some (env::outer))(hl:s.heap.FunFrames base (env::outer))(hf:env.frame=some L)(he:s.heap.get? e=some oe)(hp:P oe)
  (st:base.StaysIn s.heap) (new:base.get? e=none) (hd:oe.data=.fields vs) (h1:vs[1]? = some .none) (k:∀h',Up P base (env::outer) e (rawInt L) h'->s.heap.UpToSlots h'->Q () { s with heap:=h' }) :
  wpAny M A (noteFrame (.ref e) env) Q E s:=by
 unfold noteFrame;simp only[hf];refine PM<|P4 he hd h1 ?_;rw[jx<|E8];exact sF hP hA hl hf he hp st new hd (Ybp.mp h1).1 k
theorem note(hP:mG P)(hA:A.frames=some (env::outer))(hf:env.frame=some L)(u:Up P base (env::outer) e .none s.heap)
  (k:∀h',Up P base (env::outer) e (rawInt L) h'->s.heap.UpToSlots h'->Q () { s with heap:=h' }):wpAny M A (noteFrame (.ref e) env) Q E s:=by
 obtain⟨st,new,fr,oe,vs,T,oT,ts,he,hp,hd,h1,nT,Te,hT,dT,h3⟩:=u;unfold noteFrame;simp only[hf];refine PM<|P4 he hd h1 ?_;rw[oI (show(Value.ref T != Value.none)=true from KE)];refine PM<|P4 hT dT h3 ?_;rw[jx<|by simp[rawInt]];refine PM<|Qo hT dT (Ybp.mp h3).1 ?_;have oth:∀{c o},c≠T->s.heap.get? c=some o->(s.heap.update T (Obj.mapFields (·.setIfInBounds 3 Value.none))).get? c=some o:=λne hc=>(tG _ _<|P9 ne).trans hc;have notT:∀{c o},s.heap.get? c=some o->(∀vs,o.data≠.fields vs)->c≠T:=λhc nf z=>by
  rw[z,hT]at hc;cases hc;exact nf ts dT
 refine sF hP hA (fr.of_keeps λc o hc nf=>⟨o,oth (notT hc nf) hc,rfl⟩) hf (oth (P9 Te) he) hp (λc o hc=>oth (λz=>by rw[z,nT]at hc;cases hc)<|st c o hc) new hd (Ybp.mp h1).1 λh' u' up=>k h' u' λc o hc nf=>up c o (oth (notT hc nf) hc) nf
theorem lands(u:Up P base l e fl s.heap)(k:∀h',Up P base l e .none h'->s.heap.UpToSlots h'->Q () { s with heap:=h' }):wpAny M A (setFlight (.ref e) none) Q E s:=by
 obtain⟨st,new,fr,oe,vs,T,oT,ts,he,hp,hd,h1,nT,Te,hT,dT,h3⟩:=u;have oth:∀{c o},c≠T->s.heap.get? c=some o->(s.heap.update T (Obj.mapFields (·.setIfInBounds 3 ((none:Option Addr).elim Value.none λf=>rawInt f)))).get? c=some o:=λne hc=>(tG _ _<|P9 ne).trans hc;have notT:∀{c o},s.heap.get? c=some o->(∀vs,o.data≠.fields vs)->c≠T:=λhc nf z=>by rw[z,hT]at hc;cases hc;exact nf ts dT
 have z3:=(Ybp.mp h3).1;unfold setFlight;refine PM<|P4 he hd h1 ?_;rw[oI (show(Value.ref T != Value.none)=true from KE)];refine Qo hT dT z3<|k _ ⟨λc o hc=>oth (λz=>by rw[z,nT]at hc;cases hc)<|st c o hc,new,fr.of_keeps λc o hc nf=>⟨o,oth (notT hc nf) hc,rfl⟩,oe,vs,T,_,_,oth (P9 Te) he,hp,hd,h1,nT,Te,yK _ hT<|Obj.isFreed_of_fields<|Obj.data_mapFields dT _,Obj.data_mapFields dT _,by simp[z3]⟩ λc o hc nf=>⟨o.slots,oth (notT hc nf) hc⟩
theorem Up.there(u:Up P base l e fl h):∃ob,h.get? e=some ob/\P ob/\∃vs,ob.data=.fields vs:=by obtain⟨oe,vs,_,_,_,he,hp,hd,_⟩:=u.tr;exact⟨oe,he,hp,vs,hd⟩
theorem leaves(hP:mG P)(hA:A.frames=some (env::outer))(hf:env.frame=some L)(u:Up P base (env::outer) e .none s.heap)(k:∀h',Up P base outer e .none h'->s.heap.UpToSlots h'->Q () { s with heap:=h' }) :
  wpAny M A (leaving env<|.ref e) Q E s:=by
 unfold leaving;exact PM<|note hP hA hf u λh1 u1 up1=>lands (s:={ s with heap:=h1 }) u1 λh2 u2 up2=>k h2 ⟨u2.st,u2.new,u2.fr.2.2,u2.tr⟩ (up1.trans up2)
theorem leaves_new(hP:mG P)(hA:A.frames=some (env::outer))(hl:s.heap.FunFrames base (env::outer))(hf:env.frame=some L)(he:s.heap.get? e=some oe)(hp:P oe)
  (st:base.StaysIn s.heap) (new:base.get? e=none) (hd:oe.data=.fields vs) (h1:vs[1]? = some .none) (k:∀h',Up P base outer e .none h'->s.heap.UpToSlots h'->Q () { s with heap:=h' }):wpAny M A (leaving env<|.ref e) Q E s:=by
 unfold leaving;exact PM<|Jn hP hA hl hf he hp st new hd h1 λh1 u1 up1=>lands (s:={ s with heap:=h1 }) u1 λh2 u2 up2=>k h2 ⟨u2.st,u2.new,u2.fr.2.2,u2.tr⟩ (up1.trans up2)
end
end Fl
def gu(P:Program)(w:World):mB:=λouter H s E e s'=>∃(ea:Addr) (cls:Value) (dx:Option Addr) (H':Hp) (B:Heap),e=.ref ea/\Fl.Up (Fl.Is cls dx) B outer ea .none s'.heap/\s'.os=s.os/\AllBare s'.gens/\Un (dO outer) [] H H' s.heap s'.heap/\HOk P w H' s'.heap/\
 (∀b o,s.heap.get? b=some o->b∉dO outer->∃o',B.get? b=some o')/\(∀b u,H' b=some u->∃o,B.get? b=some o)/\E cls dx H'
theorem cQ:dU (gu P w) X E0:=λ_ _ _ _ _ _ _ ⟨_,_,_,_,_,_,_,_,_,_,_,_,_,z⟩=>z.elim
theorem HOk.through{B h2:Heap}(hok:HOk P w H h)(hT:∀ b u,H b=some u->∃ o,B.get? b=some o)(s1:B.StaysIn h)(s2:B.StaysIn h2):HOk P w H h2:=λa o e=>(hok a o e).stay (λb u hb q=>by
  have hb':∃v,H b=some v:=by
   rcases hb with rfl|hb
   .exact⟨_,e⟩
   .exact⟨_,hb⟩
  obtain⟨v,hv⟩:=hb';obtain⟨o',eB⟩:=hT b v hv;have:=s1 b o' eB;rw[q]at this;cases this;exact s2 b _ eB) (λ_ z=>z) λ_ _ z=>z
section
variable{E:XK}
theorem zp{l:List Env}(h:b∈dO l):b∈dO (env::l):=by unfold dO at h ⊢;obtain⟨e,h1,h2⟩:=YaA.mp h;exact YaA.mpr ⟨e,kj _ h1,h2⟩
theorem Jo:dU (gu P w) (fo (gu P w) P w K mg base N qual scope f cd A outer s H E) E:=by
 rintro tv σ H1 s1 _ s' I ⟨ea,cls,dx,H',B,rfl,fl,hos,hbare,un,hok,hB,hT,hE⟩;have nostk:∀b o,s.heap.get? b=some o->b∉dO outer->b∉dO (envOfC qual scope s.heap.objs.size f cd::outer):=λb o e hb hm=>by
  rcases Yan.mp (I.stkSub b hm) with z|z
  have l1:=dZ e;have l2:s.heap.objs.size<=(envOfC qual scope s.heap.objs.size f cd).locals:=I.ok.above;have z':b=(envOfC qual scope s.heap.objs.size f cd).locals:=z;rw[<-z']at l2;exact PQ (dN l1 l2)<|ju _
  exact hb z
 have ib:Un (dO outer) [] H H1 s.heap s1.heap:=I.base;show wpAny (model P w) (A.deeper<|envOfC qual scope s.heap.objs.size f cd) (leaving (envOfC qual scope s.heap.objs.size f cd)<|.ref ea) (λ_ s''=>gu P w outer H s E (.ref ea) s'') _ s';refine Fl.leaves Fl.Is.firm I.ok.frames rfl fl λh2 fl2 up=>?_;have frm:∀b,b∈dO (envOfC qual scope s.heap.objs.size f cd::outer)->∃o,s'.heap.get? b=some o/\∀vs,o.data≠.fields vs:=λb hb=>(fl.fr.mem hb).2;refine⟨ea,cls,dx,H',B,rfl,fl2,hos.trans I.os,hbare,⟨λb o e n hb _=>?_,λb o e n hb _=>?_,λb o e n _=>?_,λb o e _=>?_,λb xs e=>un.tups b xs<|ib.tups b xs e,λb o xs e=>un.frzs b o xs<|ib.frzs b o xs e,λb ps e=>?_,λ_ ⟨o,e⟩ n=>un.sys KE (ib.there _ o e<|KE)<|ib.sys KE ⟨o,e⟩ n⟩,hok.through hT fl.st fl2.st,λb o e hb=>?_,hT,hE⟩;have e1:=ib.keep b o e n hb KE;have n1:=ib.free b o e n KE;have e2:=un.keep b o e1 n1 (nostk b o e hb) KE;obtain⟨o',eB⟩:=hB b o e1<|nostk b o e hb;have:=fl.st b o' eB;rw[e2]at this;cases this;exact fl2.st b _ eB
 obtain⟨sl,e1⟩:=ib.slot b o e n hb KE;have n1:=ib.free b o e n KE;obtain⟨sl',e2⟩:=un.slot b _ e1 n1 (zp hb) KE;obtain⟨o3,e3,nf⟩:=frm b<|zp hb;rw[e2]at e3;cases e3;obtain⟨sl3,e4⟩:=up b _ e2 nf;exact⟨sl3,e4⟩
 obtain⟨o',e1⟩:=ib.there b o e KE;exact un.free b o' e1 (ib.free b o e n<|KE) KE;obtain⟨o',e1⟩:=ib.there b o e KE;by_cases hb:b∈dO (envOfC qual scope s.heap.objs.size f cd::outer);obtain⟨o3,e3,nf⟩:=frm b hb;obtain⟨sl3,e4⟩:=up b _ e3 nf;exact⟨_,e4⟩;obtain⟨o2,eB⟩:=hB b o' e1 hb;exact⟨o2,fl2.st b _ eB⟩;obtain⟨m1,e1⟩:=ib.tbls b ps e;obtain⟨m2,e2⟩:=un.tbls b _ e1;exact⟨m1++m2,by rw[e2,Bj]⟩;obtain⟨o',e1⟩:=ib.there b o e KE;exact hB b o' e1<|nostk b o e hb
def mH(X:Cx)(E:XK):Prop:=∀(tv:Lb) (σ:St) (H:Hp) (s:Shared) (h':Heap) (e:Addr) (cls:Value) (args:Qu),Inv X tv σ H s->Heap.MadeExcOf s.heap h' e cls args->E cls none H->X.xe (.ref e) { s with heap:=h' }
theorem Jp:mH (fo (gu P w) P w K mg base N qual scope f cd A outer s H E) E:=by
 intro tv σ H1 s1 h2 e cls args I hx hE;have ib:Un (dO outer) [] H H1 s.heap s1.heap:=I.base;have neL:∀b o,s.heap.get? b=some o->b∉dO outer->b∉dO (envOfC qual scope s.heap.objs.size f cd::outer):=λb o e hb hm=>by
  rcases Yan.mp (I.stkSub b hm) with z|z
  have l1:=dZ e;have l2:s.heap.objs.size<=(envOfC qual scope s.heap.objs.size f cd).locals:=I.ok.above;have z':b=(envOfC qual scope s.heap.objs.size f cd).locals:=z;rw[<-z']at l2;exact PQ (dN l1 l2)<|ju _
  exact hb z
 have stk:s1.heap.FunFrames base (envOfC qual scope s.heap.objs.size f cd::outer):=I.stack;have frm:∀b,b∈dO (envOfC qual scope s.heap.objs.size f cd::outer)->∃o,s1.heap.get? b=some o/\∀vs,o.data≠.fields vs:=λb hb=>(stk.mem hb).2;have inB:∀{b o},s1.heap.get? b=some o->b∉dO (envOfC qual scope s.heap.objs.size f cd::outer)->(W.hideAll s1.heap<|dO (envOfC qual scope s.heap.objs.size f cd::outer)).get? b=some o:=λe hb=>W.hideAll_get _ e hb;have hT:∀b u,H1 b=some u->∃o,(W.hideAll s1.heap<|dO (envOfC qual scope s.heap.objs.size f cd::outer)).get? b=some o:=λb u hu=>by
  have hb:b∉dO (envOfC qual scope s.heap.objs.size f cd::outer):=λhm=>by have:=I.stkFree b hm;rw[hu]at this;cases this
  have l:=I.hok.lt hu;have:∃o,s1.heap.get? b=some o:=by
   have q:=I.hok b u hu;cases u with
   |lst xs=>obtain⟨_,_,_,_,e⟩:=q;exact⟨_,e⟩
   |tup xs=>obtain⟨_,_,_,o,e,_⟩:=q;exact⟨_,e⟩
   |dK kvs=>obtain⟨_,_,_,_,o,_,_,e,_⟩:=q;exact⟨_,e⟩
   |dT kvs=>obtain⟨_,_,_,_,o,_,_,e,_⟩:=q;exact⟨_,e⟩
   |set S n=>obtain⟨o,_,_,_,e,_⟩:=q;exact⟨_,e⟩
   |ins C dx fs=>obtain⟨_,_,_,e,_⟩:=q;exact⟨_,e⟩
   |own y=>obtain⟨o,e⟩:=q;exact⟨_,e⟩
   |xd fs=>obtain⟨_,⟨o,_,_,e,_⟩,_⟩:=q;exact⟨_,e⟩
   |rng lo hi=>obtain⟨_,_,_,e⟩:=q;exact⟨_,e⟩
   |frz ob u=>obtain⟨e,_⟩:=q;exact⟨_,e⟩
   |tbl ps=>exact⟨_,(show s1.heap.get? b=some _ from q)⟩|met f y=>exact⟨_,(show s1.heap.get? b=some _ from q)⟩|ext φ=>obtain⟨_,⟨o,e⟩,_⟩:=q;exact⟨_,e⟩
  obtain⟨o,e⟩:=this;exact⟨o,inB e hb⟩
 show wpAny (model P w) (A.deeper<|envOfC qual scope s.heap.objs.size f cd) (leaving (envOfC qual scope s.heap.objs.size f cd)<|.ref e) (λ_ s''=>gu P w outer H s E (.ref e) s'') _ _;obtain⟨tt,he,_,_⟩:=hx.there;have newB:(W.hideAll s1.heap<|dO (envOfC qual scope s.heap.objs.size f cd::outer)).get? e=none:=by
  cases q:(W.hideAll s1.heap<|dO (envOfC qual scope s.heap.objs.size f cd::outer)).get? e with
  |none=>rfl|some o=>have:=W.of_hideAll _ q;rw[hx.new]at this;cases this
 refine Fl.leaves_new (P:=Fl.Is cls none) (base:=W.hideAll s1.heap<|dO (envOfC qual scope s.heap.objs.size f cd::outer)) Fl.Is.firm I.ok.frames ((W.funFrames_hide stk λenv he b hb=>YaA.mpr ⟨env,he,hb⟩).of_keeps λb o hb _=>⟨o,hx.keeps b o hb,rfl⟩) rfl he ⟨rfl,rfl⟩
  (λb o q=>hx.keeps b o<|W.of_hideAll _ q) newB rfl rfl λh3 fl up=>?_
 have st1:(W.hideAll s1.heap<|dO (envOfC qual scope s.heap.objs.size f cd::outer)).StaysIn s1.heap:=λb o q=>W.of_hideAll _ q;refine⟨e,cls,none,H1,_,rfl,fl,I.os,I.bare,⟨λb o e n hb _=>?_,λb o e n hb _=>?_,λb o e n _=>ib.free b o e n<|KE,λb o e _=>?_,λb xs e=>ib.tups b xs e,λb o xs e=>ib.frzs b o xs e,λb ps e=>ib.tbls b ps e,λ_ eg n=>ib.sys KE eg n⟩,I.hok.through hT st1 fl.st,λb o e hb=>?_,hT,hE⟩;exact fl.st b o<|inB (ib.keep b o e n hb<|KE) (neL b o e hb)
 obtain⟨sl,e1⟩:=ib.slot b o e n hb KE;obtain⟨o3,e3,nf⟩:=frm b<|zp hb;rw[e1]at e3;cases e3;obtain⟨sl3,e4⟩:=up b _ (hx.keeps b _ e1) nf;exact⟨sl3,e4⟩
 obtain⟨o',e1⟩:=ib.there b o e KE;by_cases hb:b∈dO (envOfC qual scope s.heap.objs.size f cd::outer);obtain⟨o3,e3,nf⟩:=frm b hb;obtain⟨sl3,e4⟩:=up b _ (hx.keeps b _ e3) nf;exact⟨_,e4⟩;exact⟨o',fl.st b o'<|inB e1 hb⟩;obtain⟨o',e1⟩:=ib.there b o e KE;exact⟨o',inB e1<|neL b o e hb⟩
end
section
def B9(K:PN)(tl:TE):TI:=λσ H R=>tl σ H λx H1=>∃a,x=.ref a/\(((∃xs,SqL K H1 a xs)/\R (EM K a) H1)\/((∃xs,SqT K H1 a xs)/\R (BO K a) H1))
theorem Jq{l:Expr}{tl:TE}(hl:PE X l tl):PI X tg l (B9 X.K tl):=by
 intro tv s σ H R I h;refine bO (hl tv s σ H _ I h) λv s1 ⟨x,H1,I1,r1,q1⟩=>?_;obtain⟨a,e,⟨⟨xs,hq⟩,q⟩|⟨⟨xs,hq⟩,q⟩⟩:=q1;subst e;cases r1;obtain⟨its,rv,p,hz⟩:=I1.list hq;refine wpAny_pyIter_list p.isList ?_;refine⟨s1.heap.objs.size,[s1.heap.objs.size],_,_,H1,rfl,I1.kept (t':=s1.toks) λb o e=>eQ _ e,mo a _,⟨_,jy _ rfl,rfl,rfl⟩,λb hb=>?_,q⟩;have e:b=s1.heap.objs.size:=by simpa using hb
 subst e;exact I1.fpOk (cO _)<|I1.hok.fresh (cO _)
 subst e;cases r1;obtain⟨its,rv,p,hz⟩:=I1.tuple hq;refine wpAny_pyIter_tuple (show s1.heap.IsTuple a its.toArray from p) ?_;refine⟨s1.heap.objs.size,[s1.heap.objs.size],_,_,H1,rfl,I1.kept (t':=s1.toks) λb o e=>eQ _ e,lu a _,⟨_,jy _ rfl,rfl,rfl⟩,λb hb=>?_,q⟩;have e:b=s1.heap.objs.size:=by simpa using hb
 subst e;exact I1.fpOk (cO _)<|I1.hok.fresh (cO _)
end
theorem Inv.turnedL(ts:List Addr)(I:Inv X tv σ H s)(k:∀b o,b∉ts->s.heap.get? b=some o->h'.get? b=some o)
  (hf:∀b∈ts,eK X tv H b):Inv X tv σ H { s with heap:=h',toks:=t' }:=by
 refine I.step (g':=s.gens) (d':=s.drawn) (ch:=ts) (λb hb=>?_) (λb o _ _ hc e _=>k b o hc e) (λb o _ _ hc e _=>⟨o.slots,k b o hc e⟩) (λ_ _ _ _ n=>n)
  (λb o hc e=>⟨o,k b o hc e⟩) (λ_ _ e=>e) (λ_ _ _ e=>e) (λb ps e=>⟨#[],by rw[e];simp⟩) (λm hm=>?_) (λb u e=>?_) I.bare (λn=>n)
 .obtain⟨_,f1,_,f3,f4,f5⟩:=hf b hb
  exact⟨f3,f1,f4,f5⟩
 .obtain⟨o,es,ep,ho,r⟩:=hm
  exact⟨o,es,ep,k _ o (λz=>(hf _ z).2.1 rfl) ho,r⟩
 .have nt:∀c v,H c=some v->c∉ts:=λc v q z=>by rw[(hf c z).1]at q;cases q
  refine(I.hok b u e).stay (λc v hc q=>k c v ?_ q) (λ_ q=>q) λ_ _ q=>q;rcases hc with z|z
  .rw[z];exact nt b u e
  .exact nt c _ z
def SIt(κ:Bool)(h:Heap)(it l:Addr)(i:Nat):Prop:=match κ with|true=>h.IsTupleIter it l i|false=>h.IsListIter it l i
def SSq(κ:Bool)(h:Heap)(l:Addr)(xs:Array Value):Prop:=match κ with|true=>h.IsTuple l xs|false=>h.IsList l xs
section
theorem SIt.keep(x:SIt κ h it l i)(k:∀o,h.get? it=some o->h'.get? it=some o):SIt κ h' it l i:=by cases κ;exact Heap.IsListIter.at x k;exact Heap.IsTupleIter.at x k
theorem SIt.obj(x:SIt κ h it l i):∃o,h.get? it=some o/\(∀v,o.data≠.cell v):=by
 cases κ;all_goals
  obtain⟨o,e,_,d⟩:=x;exact⟨o,e,λv z=>by rw[d]at z;cases z⟩
theorem SSq.keep(x:SSq κ h l xs)(k:∀o,h.get? l=some o->h'.get? l=some o):SSq κ h' l xs:=by
 cases κ;all_goals
  obtain⟨o,e,r⟩:=x;exact⟨o,k o e,r⟩
end
section
variable{E:Mn}{x:Value}
theorem zq(hi:SIt κ s.heap it l i)(hl:SSq κ s.heap l xs)(hx:xs[i]? = some x)(q:∀h',SIt κ h' it l (i+1)->Heap.SameBut it s.heap h'->Q x { s with heap:=h' }) :
  wpAny (model prog w) A (Builtin.SmallTypes.nextOf<|.ref it) Q E s:=by
 cases κ with
 |false=>exact wpAny_nextOf_list_item hi hl hx q
 |true=>
  have ht:s.heap.IsTupleIter it l i:=hi;obtain⟨ob,hob,hcl,hda⟩:=id ht;obtain⟨sq,hsq,_,nn,hds⟩:=(show s.heap.IsTuple l xs from hl)
  unfold Builtin.SmallTypes.nextOf;refine PM<|wpAny_callSpecial?_slot (name:=Str.ofString "__next__") ht.typeIs F.slot_tuple_iterator_next (Qe F.slot_tuple_iterator_next ht.typeIs F.entry_tuple_iterator_next ?_<|F.args_tuple_iterator_next_1 _);show wpAny _ _ (field (.ref it) 0 >>= _) _ E s;refine PM<|P4 hob hda (x:=.ref l) rfl ?_;show wpAny _ _ (if(Value.ref l==Value.none)=true then _ else _) _ E s;rw[jx (show¬((Value.ref l==Value.none)=true) by exact kw)];show wpAny _ _ (field (.ref it) 1 >>= _) _ E s;refine PM<|P4 hob hda (x:=.int i 0) rfl ?_;show wpAny _ _ (seqItems? (.ref l) >>= _) _ E s;refine PM<|Qf hsq hds ?_;simp only[jA,hx];refine PM<|Qo hob hda KE (PP ⟨x,rfl,PP<|q _ ?_<|Heap.SameBut.update ..⟩);exact⟨_,yK _ hob<|Obj.isFreed_of_fields<|Obj.data_mapFields hda _,(Obj.cls_mapFields ..).trans hcl,by rw[Obj.data_mapFields hda];simp[rawInt]⟩
theorem zt(hh:A.handled=none)(hi:SIt κ s.heap it l i)(hl:SSq κ s.heap l xs)(hx:xs[i]? = none)
  (q:∀h' e,Heap.ExtBut it s.heap h'->(∃o,h'.get? e=some o/\o.cls=.type "StopIteration")->E (.ref e) { s with heap:=h' }) :
  wpAny (model prog w) A (Builtin.SmallTypes.nextOf<|.ref it) Q E s:=by
 cases κ with
 |false=>exact wpAny_nextOf_list_end hh hi hl hx q
 |true=>
  have ht:s.heap.IsTupleIter it l i:=hi;obtain⟨ob,hob,hcl,hda⟩:=id ht;obtain⟨sq,hsq,_,nn,hds⟩:=(show s.heap.IsTuple l xs from hl)
  unfold Builtin.SmallTypes.nextOf;refine PM<|wpAny_callSpecial?_slot (name:=Str.ofString "__next__") ht.typeIs F.slot_tuple_iterator_next (Qe F.slot_tuple_iterator_next ht.typeIs F.entry_tuple_iterator_next ?_<|F.args_tuple_iterator_next_1 _);show wpAny _ _ (field (.ref it) 0 >>= _) _ E s;refine PM<|P4 hob hda (x:=.ref l) rfl ?_;show wpAny _ _ (if(Value.ref l==Value.none)=true then _ else _) _ E s;rw[jx (show¬((Value.ref l==Value.none)=true) by exact kw)];show wpAny _ _ (field (.ref it) 1 >>= _) _ E s;refine PM<|P4 hob hda (x:=.int i 0) rfl ?_;show wpAny _ _ (seqItems? (.ref l) >>= _) _ E s;refine PM<|Qf hsq hds ?_;simp only[jA,hx];refine PM<|Qj (PM<|Qo hob hda KE ?_);show wpAny _ _ (newExc (.type "StopIteration") [] >>= _) _ E _;refine PM ?_;simp only[newExc,newTuple];refine PM<|P5 ?_ (by size_fits);refine PM (m:=firstArgMember _ _)<|wpAny_of_eq (a:=Value.none) (by first|rfl|(rw[firstArgMember];rfl)) (P5 ?_<|by size_fits);simp only[raiseNew];refine PM<|wpAny_handled ?_;rw[show A.in1.handled=none from hh];exact PM<|PP (wpAny_throw<|q _ _ (((Heap.SameBut.update ..).extBut.push _).push _) ⟨_,jy _ rfl,rfl⟩)
end
structure wI(z TI TO j1 j2:Addr):Prop where
 a:TI≠z
 b:TO≠z
 c:j1≠z
 d:j2≠z
 e:TI≠TO
 f:TI≠j1
 g:TI≠j2
 h:TO≠j1
 i:TO≠j2
 j:j1≠j2
def u9(z TI TO j1 j2 l:Addr):Prop:=l≠z/\l≠TI/\l≠TO/\l≠j1/\l≠j2
section
variable{E:Mn}{z TI TO j1 j2 l1 l2:Addr}{ys:Array Value}{x y a b:Value}
theorem Jr(D:wI z TI TO j1 j2)(d1:u9 z TI TO j1 j2 l1)(d2:u9 z TI TO j1 j2 l2)
  (zz:IsZip s.heap z TI TO .none) (zi:IsPair s.heap TI (.ref j1) (.ref j2)) (zo:IsPair s.heap TO a b) (u1:SIt κ s.heap j1 l1 i) (u2:SIt κ' s.heap j2 l2 i) (v1:SSq κ s.heap l1 xs) (v2:SSq κ' s.heap l2 ys) (ex:xs[i]? = some x) (ey:ys[i]? = some y)
  (q:∀ h',IsZip h' z TI TO (rawInt s.heap.objs.size)->IsPair h' TO x y->SIt κ h' j1 l1 (i+1)->SIt κ' h' j2 l2 (i+1)->IsPair h' s.heap.objs.size x y->h'.objs.size=s.heap.objs.size+1->
   (∀c o,c≠z->c≠TO->c≠j1->c≠j2->s.heap.get? c=some o->h'.get? c=some o)->Q (.ref s.heap.objs.size) { s with heap:=h' }) :
  wpAny (model prog w) A (Builtin.«zip.__next__» ⟨[.ref z],[]⟩) (λfin s'=>∃v,fin=.done (.ret v)/\Q v s') E s:=by
 obtain⟨o1z,_,o1O,o11,o12⟩:=d1;obtain⟨o2z,_,o2O,o21,o22⟩:=d2;show wpAny _ _ (field (.ref z) 2 >>= _) _ E _;refine PM<|P4 zz rfl (x:=.bool false) rfl ?_;show wpAny _ _ (field (.ref z) 3 >>= _) _ E _;refine PM<|P4 zz rfl (x:=.ref TI) rfl (PM<|Qf zi rfl ?_);show wpAny _ _ (Builtin.SmallTypes.ownedTupleIsFree (.ref z) >>= _) _ E _;refine PM ?_;unfold Builtin.SmallTypes.ownedTupleIsFree;refine PM<|P4 zz rfl (x:=.none) rfl (PP ?_);simp only[if_true];refine PM<|Qj (PM<|P4 zz rfl (x:=.ref TO) rfl<|PM<|Qg zz KE λg1 zz1 k1=>?_);replace zz1:IsZip g1 z TI TO .ellipsis:=zz1;refine PM ?_;simp only[List.zipIdx_cons,List.zipIdx_nil,Bm,List.forIn_nil];refine PM<|PM (Qs ?_);show wpAny _ _ (Builtin.SmallTypes.nextOf (.ref j1) >>= _) _ _ _;refine PM<|zq (u1.keep λo e=>k1.extBut _ o D.c e) (v1.keep λo e=>k1.extBut _ o o1z e) ex λg2 u1' k2=>PP ?_;have zo2:IsPair g2 TO a b:=k2.extBut _ _ D.h<|k1.extBut _ _ D.b zo;refine PM<|Qf zo2 rfl (PM<|Qr zo2 λg3 zo3 k3=>?_);replace zo3:IsPair g3 TO x b:=zo3;refine PM<|wpAny_letGo (PP ?_);refine PM<|PM (Qs ?_);show wpAny _ _ (Builtin.SmallTypes.nextOf (.ref j2) >>= _) _ _ _;refine PM<|zq (u2.keep λo e=>k3.extBut _ o D.i.symm<|k2.extBut _ o D.j.symm<|k1.extBut _ o D.d e) (v2.keep λo e=>k3.extBut _ o o2O<|k2.extBut _ o o21<|k1.extBut _ o o2z e) ey λg4 u2' k4=>PP ?_;have zo4:IsPair g4 TO x b:=k4.extBut _ _ D.i zo3;refine PM<|Qf zo4 rfl (PM<|Qr zo4 λg5 zo5 k5=>?_);replace zo5:IsPair g5 TO x y:=zo5;refine PM<|wpAny_letGo (PP<|PP<|PM<|Qf zo5 rfl<|PM<|wpAny_newTuple ?_);have sz:g5.objs.size=s.heap.objs.size:=by rw[k5.1,k4.1,k3.1,k2.1,k1.1]
 have zz5:IsZip g5 z TI TO .ellipsis:=k5.extBut _ _ D.b.symm<|k4.extBut _ _ D.d.symm (k3.extBut _ _ D.b.symm<|k2.extBut _ _ D.c.symm zz1);have kk:∀c o,c≠z->c≠TO->c≠j1->c≠j2->s.heap.get? c=some o->g5.get? c=some o:=λc o c1 c2 c3 c4 e=>k5.extBut _ _ c2<|k4.extBut _ _ c4 (k3.extBut _ _ c2<|k2.extBut _ _ c3<|k1.extBut _ _ c1 e);have r1:SIt κ g5 j1 l1 (i+1):=u1'.keep λo e=>k5.extBut _ o D.h.symm<|k4.extBut _ o D.j (k3.extBut _ o D.h.symm e);have r2:SIt κ' g5 j2 l2 (i+1):=u2'.keep λo e=>k5.extBut _ o D.i.symm e;have zlt:z<g5.objs.size:=dZ zz5;show wpAny _ _ (Builtin.SmallTypes.ownedTupleHandOut (.ref z) (.ref g5.objs.size) >>= _) _ E _;refine PM ?_;unfold Builtin.SmallTypes.ownedTupleHandOut;have zz6:IsZip (g5.push { cls:=.type "tuple",data:=.seq #[x,y] }) z TI TO .ellipsis:=eQ _ zz5;refine PM<|Qg zz6 KE λg7 zz7 k7=>?_;replace zz7:IsZip g7 z TI TO (rawInt g5.objs.size):=zz7;refine Qg zz7 KE λg8 zz8 k8=>?_;replace zz8:IsZip g8 z TI TO (rawInt g5.objs.size):=zz8;have up:∀c o,c≠z->g5.get? c=some o->g8.get? c=some o:=λc o c1 e=>k8.extBut _ _ c1<|k7.extBut _ _ c1 (eQ _ e);have tt8:IsPair g8 g5.objs.size x y:=k8.extBut _ _ (yI zlt)<|k7.extBut _ _ (yI zlt) (jy _ rfl);have sz8:g8.objs.size=g5.objs.size+1:=by rw[k8.1,k7.1,qg]
 rw[sz]at zz8 tt8 sz8;refine PP ⟨_,rfl,?_⟩;show Q (.ref g5.objs.size) _;rw[sz];exact q g8 zz8 (up _ _ D.b zo5) (r1.keep λo e=>up _ o D.c e) (r2.keep λo e=>up _ o D.d e) tt8 sz8 λc o c1 c2 c3 c4 e=>up c o c1<|kk c o c1 c2 c3 c4 e
theorem Js{Q:Fin->Shared->Prop}(hh:A.handled=none)(D:wI z TI TO j1 j2)(d1:u9 z TI TO j1 j2 l1)(d2:u9 z TI TO j1 j2 l2)
  (zz:IsZip s.heap z TI TO .none) (zi:IsPair s.heap TI (.ref j1) (.ref j2)) (zo:IsPair s.heap TO a b) (u1:SIt κ s.heap j1 l1 i) (u2:SIt κ' s.heap j2 l2 i) (v1:SSq κ s.heap l1 xs) (v2:SSq κ' s.heap l2 ys) (en:xs[i]? = none\/ys[i]? = none)
  (q:∀h' e,(∀c o,c≠z->c≠TO->c≠j1->c≠j2->s.heap.get? c=some o->h'.get? c=some o)->(∃o,h'.get? e=some o/\o.cls=.type "StopIteration")->E (.ref e) { s with heap:=h' }) :
  wpAny (model prog w) A (Builtin.«zip.__next__» ⟨[.ref z],[]⟩) Q E s:=by
 obtain⟨o1z,_,o1O,o11,o12⟩:=d1;obtain⟨o2z,_,o2O,o21,o22⟩:=d2;show wpAny _ _ (field (.ref z) 2 >>= _) _ E _;refine PM<|P4 zz rfl (x:=.bool false) rfl ?_;show wpAny _ _ (field (.ref z) 3 >>= _) _ E _;refine PM<|P4 zz rfl (x:=.ref TI) rfl (PM<|Qf zi rfl ?_);show wpAny _ _ (Builtin.SmallTypes.ownedTupleIsFree (.ref z) >>= _) _ E _;refine PM ?_;unfold Builtin.SmallTypes.ownedTupleIsFree;refine PM<|P4 zz rfl (x:=.none) rfl (PP ?_);simp only[if_true];refine PM<|Qj (PM<|P4 zz rfl (x:=.ref TO) rfl<|PM<|Qg zz KE λg1 zz1 k1=>?_);replace zz1:IsZip g1 z TI TO .ellipsis:=zz1;refine PM ?_;simp only[List.zipIdx_cons,List.zipIdx_nil,Bm,List.forIn_nil];refine PM<|PM (Qs ?_);show wpAny _ _ (Builtin.SmallTypes.nextOf (.ref j1) >>= _) _ _ _;cases ex:xs[i]? with
 |none=>
  refine PM<|zt hh (u1.keep λo e=>k1.extBut _ o D.c e) (v1.keep λo e=>k1.extBut _ o o1z e) ex λg2 e k2 ⟨oe,e1,e2⟩=>?_;have zz2:IsZip g2 z TI TO .ellipsis:=k2 _ _ D.c.symm zz1;have ne:e≠z:=λr=>by subst r;rw[zz2]at e1;cases e1;simp at e2
  exact Qg zz2 KE λg3 _ k3=>q g3 e (λc o c1 _ c3 _ r=>k3.extBut _ _ c1<|k2 _ _ c3<|k1.extBut _ _ c1 r) ⟨oe,k3.extBut _ _ ne e1,e2⟩
 |some x=>
  have ey:ys[i]? = none:=en.elim (λh=>by rw[ex]at h;cases h) id;refine PM<|zq (u1.keep λo e=>k1.extBut _ o D.c e) (v1.keep λo e=>k1.extBut _ o o1z e) ex λg2 u1' k2=>PP ?_;have zo2:IsPair g2 TO a b:=k2.extBut _ _ D.h<|k1.extBut _ _ D.b zo;refine PM<|Qf zo2 rfl (PM<|Qr zo2 λg3 zo3 k3=>?_);refine PM<|wpAny_letGo (PP ?_);refine PM<|PM (Qs ?_);show wpAny _ _ (Builtin.SmallTypes.nextOf (.ref j2) >>= _) _ _ _;refine PM<|zt hh (u2.keep λo e=>k3.extBut _ o D.i.symm<|k2.extBut _ o D.j.symm<|k1.extBut _ o D.d e) (v2.keep λo e=>k3.extBut _ o o2O<|k2.extBut _ o o21<|k1.extBut _ o o2z e) ey λg4 e k4 ⟨oe,e1,e2⟩=>?_;have zz4:IsZip g4 z TI TO .ellipsis:=k4 _ _ D.d.symm<|k3.extBut _ _ D.b.symm (k2.extBut _ _ D.c.symm zz1);have ne:e≠z:=λr=>by subst r;rw[zz4]at e1;cases e1;simp at e2
  exact Qg zz4 KE λg5 _ k5=>q g5 e (λc o c1 c2 c3 c4 r=>k5.extBut _ _ c1<|k4 _ _ c4<|k3.extBut _ _ c2<|k2.extBut _ _ c3<|k1.extBut _ _ c1 r) ⟨oe,k5.extBut _ _ ne e1,e2⟩
end
section
theorem Inv.turnedN{o:HO}(ts:List Addr)(I:Inv X tv σ H s)(k:∀b o,b∉ts->s.heap.get? b=some o->h'.get? b=some o)
  (hf:∀b∈ts,eK X tv H b) (hp:s.heap.objs.size<=a) (new:ObjOk X.prog X.w (upd H a o) h' a o):Inv X tv σ (upd H a o) { s with heap:=h',toks:=t' }:=by
 have hn:H a=none:=I.hok.fresh hp;have nea:∀b u,H b=some u->b≠a:=λb u e z=>by rw[z,hn]at e;cases e
 have neb:∀b u,s.heap.get? b=some u->b≠a:=λb u e z=>by subst z;exact PQ (dN (dZ e) hp)<|ju _
 refine I.step (g':=s.gens) (d':=s.drawn) (ch:=ts) (λb hb=>?_) (λb o _ _ hc e _=>k b o hc e) (λb o _ _ hc e _=>⟨o.slots,k b o hc e⟩) (λb u _ e n=>by rw[aI<|neb b u e];exact n)
  (λb o hc e=>⟨o,k b o hc e⟩) (λb xs e=>by rw [aI<|nea _ _ e];exact e) (λb _ _ e=>by rw [aI<|nea _ _ e];exact e) (λb ps e=>⟨#[],by rw [aI<|nea _ _ e,e];simp⟩) (λm hm=>?_) (λb u e=>?_) I.bare (λn ys=>by
   obtain⟨og,eg⟩:=I.hasG;rw[aI<|jv<|dN (yE E8<|dZ eg) hp];exact n ys)
 .obtain⟨_,f1,_,f3,f4,f5⟩:=hf b hb
  exact⟨f3,f1,f4,f5⟩
 .obtain⟨o,es,ep,ho,r⟩:=hm
  exact⟨o,es,ep,k _ o (λz=>(hf _ z).2.1 rfl) ho,r⟩
 .by_cases hb:b=a
  .subst hb;rw[aV]at e;cases e;exact new
  .rw[aI hb]at e
   have nt:∀c v,H c=some v->c∉ts:=λc v q z=>by rw[(hf c z).1]at q;cases q
   refine(I.hok b u e).stay (λc v hc q=>k c v ?_ q) (λc q=>by rw[aI<|nea _ _ q];exact q) λc _ q=>by rw[aI<|nea _ _ q];exact q
   rcases hc with z|z
   .rw[z];exact nt b u e
   .exact nt c _ z
def Sq(K:PN)(κ:Bool)(H:Hp)(a:Addr)(xs:QJ):Prop:=match κ with|true=>SqT K H a xs|false=>SqL K H a xs
theorem Inv.sq{xs:QJ}(I:Inv X tv σ H s)(h:Sq X.K κ H a xs):∃its:Qu,Vals xs its/\SSq κ s.heap a its.toArray/\xs.length<=sizeLine:=by
 cases κ with
 |false=>obtain⟨its,r,p,hz⟩:=I.list h;exact⟨its,r,p.isList,hz⟩
 |true=>obtain⟨its,r,p,hz⟩:=I.tuple h;exact⟨its,r,(show s.heap.IsTuple a its.toArray from p),hz⟩
theorem Inv.sq_inj{xs:QJ}(I:Inv X tv σ H s)(h:Sq X.K κ H a xs)(h':Sq X.K κ H a ys):xs=ys:=by
 cases κ with
 |false=>exact I.list_inj h h'|true=>exact I.tuple_inj h h'
theorem Inv.sq_out{xs:QJ}(I:Inv X tv σ H s)(h:Sq X.K κ H a xs)(f:eK X tv H b):a≠b:=by
 rintro rfl;have hk:∀o,X.K.lookup a=some o->False:=λo e=>by
  have e1:=I.ok.mod.kin a o e;rcases f.2.2.2.1 with z|z
  exact I.ok.noex a o e1 z;exact PQ (dN (dZ (I.ok.bs a o e1).1) z)<|ju _
 have hr:∀u,Rd H a u->False:=λu r=>by
  rcases r with r|⟨o,r⟩
  rw[f.1]at r;cases r;rw[f.1]at r;cases r
 cases κ with
 |false=>
  rcases h with h|⟨o,_,_,e,_⟩
  exact hr _ h;exact hk o e
 |true=>
  rcases h with h|⟨o,_,_,e,_⟩
  exact hr _ h;exact hk o e
end
def EZ(K:PN)(κ κ':Bool)(a b:Addr):It:=
  ⟨λi H=>∃ xs ys x y,Sq K κ H a xs/\Sq K κ' H b ys/\xs[i]? = some x/\ys[i]? = some y,
   λi H v H'=>∃p x y,v=.ref p/\H p=none/\H'=upd H p (.tup [x,y])/\(∀xs,Sq K κ H a xs->xs[i]? = some x)/\(∀ys,Sq K κ' H b ys->ys[i]? = some y),
   λi H=>∃xs ys,Sq K κ H a xs/\Sq K κ' H b ys/\(xs.length<=i\/ys.length<=i)⟩
theorem Zp{n1:Nat}{ps:Pos}(a b z TI TO j1 j2:Addr)(D:wI z TI TO j1 j2) :
  jU P w K (.Tuple es n1 ps) (EZ K κ κ' a b) [z,TI,TO,j1,j2] z (λi h=>IsZip h z TI TO .none/\IsPair h TI (.ref j1) (.ref j2)/\(∃u v,IsPair h TO u v)/\SIt κ h j1 a i/\SIt κ' h j2 b i) where
 mem:=KE
 obj:=λi h ⟨q1,q2,⟨u,v,q3⟩,q4,q5⟩ c hc=>by
  simp only[Yan,hJ,or_false]at hc;rcases hc with rfl|rfl|rfl|rfl|rfl
  .exact⟨_,q1,λv e=>by cases e⟩
  .exact⟨_,q2,λv e=>by cases e⟩
  .exact⟨_,q3,λv e=>by cases e⟩
  .exact q4.obj
  .exact q5.obj
 keep:=λi h h' ⟨q1,q2,⟨u,v,q3⟩,q4,q5⟩ k=>
  ⟨k z KE _ q1,k TI KE _ q2,⟨u,v,k TO KE _ q3⟩,q4.keep λo e=>k j1 KE o e,q5.keep λo e=>k j2 KE o e⟩
 item:=by
  intro X hP hw hK hc i tv s σ H E I hf ⟨q1,q2,⟨u,v,q3⟩,q4,q5⟩ hg;subst hP hw hK;obtain⟨xs,ys,x,y,hx,hy,ex,ey⟩:=hg;obtain⟨its,rv,p,hz⟩:=I.sq hx;obtain⟨its',rv',p',hz'⟩:=I.sq hy;obtain⟨ux,hux,rux⟩:=rv.get ex;obtain⟨uy,huy,ruy⟩:=rv'.get ey;have out:∀{κ:Bool} {c:Addr} {xs:QJ},Sq X.K κ H c xs->u9 z TI TO j1 j2 c:=λhq=>
   ⟨I.sq_out hq<|hf z<|KE,I.sq_out hq<|hf TI<|KE,I.sq_out hq<|hf TO<|KE,I.sq_out hq<|hf j1<|KE,I.sq_out hq<|hf j2<|KE⟩
  have hT:s.TypeIs (.ref z) "zip" :=⟨_,q1,rfl⟩
  unfold pyNext;refine PM<|wpAny_attempt (wpAny_callSpecial?_slot (name:=Str.ofString "__next__") hT F.slot_zip_next (Qe F.slot_zip_next hT F.entry_zip_next
   (Jr D (out hx) (out hy) q1 q2 q3 q4 q5 p p' (x:=ux) (y:=uy) (by simpa using hux) (by simpa using huy) λh' a1 a2 a3 a4 a5 a6 a7=>PP ⟨_,rfl,?_⟩) (F.args_zip_next_1 _)))
  refine wpAny_letOwnedTupleGo_zip (s:={ s with heap:=h' }) a1 λh2 b1 b2=>?_;have lt:∀{c o},s.heap.get? c=some o->c≠s.heap.objs.size:=λe=>jv<|dZ e;have zl:=lt q1;have up:∀c o,c∉[z,TI,TO,j1,j2]->s.heap.get? c=some o->h2.get? c=some o:=λc o hc e=>by
   simp only[Yan,hJ,or_false,not_or]at hc;exact b2.extBut _ _ hc.1<|a7 c o hc.1 hc.2.2.1 hc.2.2.2.1 hc.2.2.2.2 e
  refine⟨.ref s.heap.objs.size,upd H s.heap.objs.size<|.tup [x,y],Inv.turnedN (s:=s) (t':=s.toks) [z,TI,TO,j1,j2] I up hf (cO _) ?_,rfl,⟨s.heap.objs.size,x,y,rfl,I.fresh,rfl,λxs' h'=>by rw[I.sq_inj h' hx];exact ex,λys' h'=>by rw[I.sq_inj h' hy];exact ey⟩,?_,λc hc=>?_⟩
  .refine⟨by rw[sizeLine_eq];simp,[ux,uy],.cons rux<|.cons ruy .nil,?_⟩
   exact⟨_,b2.extBut _ _ (P9 zl) a5,rfl,_,rfl⟩
  .exact⟨b1,b2.extBut _ _ D.a<|a7 _ _ D.a D.e D.f D.g q2,⟨_,_,b2.extBut _ _ D.b a2⟩,a3.keep λo e=>b2.extBut _ o D.c e,a4.keep λo e=>b2.extBut _ o D.d e⟩
  .have he:∃o,s.heap.get? c=some o:=by
    simp only[Yan,hJ,or_false]at hc;rcases hc with rfl|rfl|rfl|rfl|rfl
    .exact⟨_,q1⟩
    .exact⟨_,q2⟩
    .exact⟨_,q3⟩
    .obtain⟨o,e,_⟩:=q4.obj;exact⟨o,e⟩
    .obtain⟨o,e,_⟩:=q5.obj;exact⟨o,e⟩
   obtain⟨o,e⟩:=he;rw[aI<|lt e];exact(hf c hc).1
 done:=by
  intro X hP hw hK hc i tv s σ H E I hf ⟨q1,q2,⟨u,v,q3⟩,q4,q5⟩ hg;subst hP hw hK;obtain⟨xs,ys,hx,hy,en⟩:=hg;obtain⟨its,rv,p,hz⟩:=I.sq hx;obtain⟨its',rv',p',hz'⟩:=I.sq hy;have l1:=rv.length;have l2:=rv'.length;have out:∀{κ:Bool} {c:Addr} {xs:QJ},Sq X.K κ H c xs->u9 z TI TO j1 j2 c:=λhq=>
   ⟨I.sq_out hq<|hf z<|KE,I.sq_out hq<|hf TI<|KE,I.sq_out hq<|hf TO<|KE,I.sq_out hq<|hf j1<|KE,I.sq_out hq<|hf j2<|KE⟩
  have hT:s.TypeIs (.ref z) "zip" :=⟨_,q1,rfl⟩
  unfold pyNext;refine PM<|wpAny_attempt (wpAny_callSpecial?_slot (name:=Str.ofString "__next__") hT F.slot_zip_next (Qe F.slot_zip_next hT F.entry_zip_next
   (Js (I.ok.hd hc) D (out hx) (out hy) q1 q2 q3 q4 q5 p p' (by rcases en with z|z;exact .inl (by simp;omega);exact .inr (by simp;omega)) λh' e k ⟨o,e1,e2⟩=>?_) (F.args_zip_next_1 _)))
  refine PM<|wpAny_isInstance (s:={ s with heap:=h' }) (T:= "StopIteration") (b:=true) ⟨o,e1,e2⟩ isSubtype_stop (PP ⟨rfl,?_⟩);refine I.turnedL (t':=s.toks) [z,TI,TO,j1,j2] (λc o hc e=>?_) hf;simp only[Yan,hJ,or_false,not_or]at hc;exact k c o hc.1 hc.2.2.1 hc.2.2.2.1 hc.2.2.2.2 e
 self:=λ_ _ _ _ _ st h=>wpAny_pyIter_zip st.1 h
noncomputable def io(κ:Bool)(l:Addr):Obj:={ cls:=.type (match κ with|true=> "tuple_iterator" |false=> "list_iterator"),data:=.fields #[.ref l,.int 0 0] }
theorem Ca{j:Addr}(e:h.get? j=some (io κ l)):SIt κ h j l 0:=by cases κ;all_goals exact⟨_,e,rfl,rfl⟩
theorem zw{E:Mn}(hl:SSq κ s.heap l xs)(q:Q (.ref s.heap.objs.size) { s with heap:=s.heap.push (io κ l) }) :
  wpAny (model prog w) A (pyIter<|.ref l) Q E s:=by
 cases κ with
 |false=>exact wpAny_pyIter_list hl q|true=>exact wpAny_pyIter_tuple hl q
abbrev wJ(κ:Bool)(h:Heap)(l1:Addr):Heap:=h.push<|io κ l1
abbrev wK(κ κ':Bool)(h:Heap)(l1 l2:Addr):Heap:=(wJ κ h l1).push<|io κ' l2
abbrev wO(κ κ':Bool)(h:Heap)(l1 l2:Addr):Heap:=(wK κ κ' h l1 l2).push { cls:=.type "tuple",data:=.seq #[.ref h.objs.size,.ref (wJ κ h l1).objs.size] }
abbrev wP(κ κ':Bool)(h:Heap)(l1 l2:Addr):Heap:=(wO κ κ' h l1 l2).push { cls:=.type "tuple",data:=.seq #[.none,.none] }
abbrev qi(κ κ':Bool)(h:Heap)(l1 l2:Addr):Heap:=(wP κ κ' h l1 l2).push { cls:=.type "zip",data:=.fields #[.none,.bool false,.bool false,.ref (wK κ κ' h l1 l2).objs.size,.ref (wO κ κ' h l1 l2).objs.size] }
theorem Jt(κ κ':Bool)(l1 l2:Addr)(xs ys:Array Value) :
  Meets (Builtin.«zip.__new__» ⟨[.type "zip",.ref l1,.ref l2],[]⟩) (λ_ R s=>SSq κ s.heap l1 xs/\SSq κ' s.heap l2 ys/\R (.ok<|.ret<|.ref (wP κ κ' s.heap l1 l2).objs.size) { s with heap:=qi κ κ' s.heap l1 l2 }):=
 .of_wp λprog w A R s h=>by
  obtain⟨hp,g,d,tk,os⟩:=s;obtain⟨hl1,hl2,h⟩:=h;have hsub:=sub_zip;have L1:SSq κ (Shared.heap ⟨hp,g,d,tk,os⟩) l1 xs:=hl1;have L2':SSq κ' (Shared.heap ⟨hp.push<|io κ l1,g,d,tk,os⟩) l2 ys:=hl2.keep λo e=>eQ _ e
  wp_walk using zw L1,zw L2'
  exact⟨_,rfl,h⟩
theorem Ju{E:Mn}{l1 l2:Addr}{ys:Array Value}(hl1:SSq κ s.heap l1 xs)(hl2:SSq κ' s.heap l2 ys)
  (h:∀ h',IsZip h' (s.heap.objs.size+4) (s.heap.objs.size+2) (s.heap.objs.size+3) .none->IsPair h' (s.heap.objs.size+2) (.ref s.heap.objs.size) (.ref<|s.heap.objs.size+1)->
   IsPair h' (s.heap.objs.size+3) .none .none->SIt κ h' s.heap.objs.size l1 0->SIt κ' h' (s.heap.objs.size+1) l2 0->
   (∀c o,s.heap.get? c=some o->h'.get? c=some o)->Q (.ref<|s.heap.objs.size+4) { s with heap:=h' }) :
  wpAny (model prog w) A (call (.type "zip") [.ref l1,.ref l2]) Q E s:=by
 refine callType_new F.called_zip E8 (F.typeCall_zip_2 _ _) (F.newCall_zip_2 _ _) (λobj=>F.args_object_init_3 obj _ _) F.entry_zip_new (Jt κ κ' l1 l2 xs ys) ⟨hl1,hl2,?_⟩;have z1:(wJ κ s.heap l1).objs.size=s.heap.objs.size+1:=qg ..;have z2:(wK κ κ' s.heap l1 l2).objs.size=s.heap.objs.size+2:=by rw[qg,z1]
 have z3:(wO κ κ' s.heap l1 l2).objs.size=s.heap.objs.size+3:=by rw[qg,z2]
 have z4:(wP κ κ' s.heap l1 l2).objs.size=s.heap.objs.size+4:=by rw[qg,z3]
 have up5:∀{c o},(wP κ κ' s.heap l1 l2).get? c=some o->(qi κ κ' s.heap l1 l2).get? c=some o:=λe=>eQ _ e;have up4:∀{c o},(wO κ κ' s.heap l1 l2).get? c=some o->(qi κ κ' s.heap l1 l2).get? c=some o:=λe=>up5<|eQ _ e;have up3:∀{c o},(wK κ κ' s.heap l1 l2).get? c=some o->(qi κ κ' s.heap l1 l2).get? c=some o:=λe=>up4<|eQ _ e;have up2:∀{c o},(wJ κ s.heap l1).get? c=some o->(qi κ κ' s.heap l1 l2).get? c=some o:=λe=>up3<|eQ _ e;have ob:∀κ l,(io κ l).isFreed=false:=λκ l=>rfl;have g5:(qi κ κ' s.heap l1 l2).get? (wP κ κ' s.heap l1 l2).objs.size=some _:=jy _ rfl;have g4:(qi κ κ' s.heap l1 l2).get? (wO κ κ' s.heap l1 l2).objs.size=some _:=up5<|jy _ rfl;have g3:(qi κ κ' s.heap l1 l2).get? (wK κ κ' s.heap l1 l2).objs.size=some _:=up4<|jy _ rfl;have g2:(qi κ κ' s.heap l1 l2).get? (wJ κ s.heap l1).objs.size=some _:=up3<|jy _ (ob κ' l2);have g1:(qi κ κ' s.heap l1 l2).get? s.heap.objs.size=some _:=up2<|jy _ (ob κ l1);show _/\_;rw[z2,z3,z4]at g5;rw[z1,z2]at g3;rw[z3]at g4;rw[z1]at g2;rw[z4];exact⟨⟨_,g5,rfl⟩,h _ g5 g3 g4 (Ca g1) (Ca g2) λc o x=>up2<|eQ _ x⟩
theorem Jv(n:Nat):wI (n+4) (n+2) (n+3) n (n+1):=
 ⟨(by omega:n+2≠n+4),(by omega:n+3≠n+4),(by omega:n≠n+4),(by omega:n+1≠n+4),(by omega:n+2≠n+3),(by omega:n+2≠n),(by omega:n+2≠n+1),(by omega:n+3≠n),(by omega:n+3≠n+1),(by omega:n≠n+1)⟩
theorem Cb(n b:Nat)(h:b=n+4\/b=n+2\/b=n+3\/b=n\/b=n+1):n<=b:=E1
section
def Cc(K:PN)(ta:TA):TI:=λσ H R=>ta σ H λvs H1=>∃κ κ' a b,vs=[.ref a,.ref b]/\(∃xs,Sq K κ H1 a xs)/\(∃ys,Sq K κ' H1 b ys)/\R (EZ K κ κ' a b) H1
theorem Jw{a b:Expr}{ta:TA}{ps:Pos}{n1:Nat}(hg:Gl X "zip")(hm:X.mg "zip" = none)(ha:PA X [a,b] ta)(hs:{starEach [a,b] X.env=[(false,eval a X.env),(false,eval b X.env)]})(hs2:{starEach [b] X.env=[(false,eval b X.env)]}) :
  PI X (.Tuple es n1 ps) (.Call (.Name "zip" p) [a,b] [] pos) (Cc X.K ta):=by
 intro tv s σ H R I h;refine Call_<|fT I hg hm boot_zip (PyProof.Rows.callWith_type1 (bO (ha pos tv s σ H _ I h) λus s1 ⟨vs,H1,I1,r1,q1⟩=>?_) (by rw[hs,hs2]) (by rw[hs2];rfl));obtain⟨κ,κ',l1,l2,e,⟨xs,hx⟩,⟨ys,hy⟩,q⟩:=q1;subst e;cases r1 with
 |cons r rr=>
  cases rr with
  |cons r' rr=>
   cases rr;cases r;cases r';obtain⟨its,rv,p1,hz⟩:=I1.sq hx;obtain⟨its',rv',p2,hz'⟩:=I1.sq hy;refine Ju p1 p2 λh' a1 a2 a3 a4 a5 k=>wpAny_pyIter_zip (s:={ s1 with heap:=h' }) a1 ?_;have D:wI (s1.heap.objs.size+4) (s1.heap.objs.size+2) (s1.heap.objs.size+3) s1.heap.objs.size (s1.heap.objs.size+1):=Jv _;refine⟨_,[s1.heap.objs.size+4,s1.heap.objs.size+2,s1.heap.objs.size+3,s1.heap.objs.size,s1.heap.objs.size+1],_,_,H1,rfl,I1.kept (t':=s1.toks) k,Zp (κ:=κ) (κ':=κ') l1 l2 _ _ _ _ _ D,⟨a1,a2,⟨_,_,a3⟩,a4,a5⟩,λb hb=>?_,q⟩;have hb':s1.heap.objs.size<=b:=by
    simp only[Yan,hJ,or_false]at hb;exact Cb _ _ hb
   exact I1.fpOk hb'<|I1.hok.fresh hb'
end
theorem E2{C:Addr}(X:K.In h)(q:W.excIn K C bmB newId=true) :
  ∃(bm:Qu) (N:Addr) (nm qn:Str) (bs:Qu) (hd:Bool) (sn:Qx) (sub:Qu) (ab:Bool) (col:Option Bool) (dd:Option Addr) (k0 k1 k2 k3 k5:Option Value) (mN:Qt),
   h.get? C=some (excClassObj nm qn C N bs bm hd sn sub ab col dd k0 k1 k2 k3 k5 newId)/\h.Ns N mN/\mN "__init__" = none/\OwnTail h bmB bm:=by
 unfold W.excIn at q;split at q
 .rename_i dd cd sl ho
  split at q
  .rename_i C' bm k0 k1 k2 k3 n k5 hm hs
   simp only[cX,Qa,u4]at q;obtain⟨⟨⟨⟨⟨rfl,rfl⟩,hdel⟩,ht⟩,hok⟩,hni⟩:=q;obtain⟨nm,bs,mro,ns,qn,hd,sn,sub,ab,col,del⟩:=cd;dsimp only at hm hdel hok hni;subst hm hdel;have hsl:sl = #[k0,k1,k2,k3,some<|.builtin n,k5]:=by
    cases sl with
    |mk l=>exact congrArg Array.mk hs
   subst hsl;exact⟨bm,ns,nm,qn,bs,hd,sn,sub,ab,col,dd,k0,k1,k2,k3,k5,_,X _ _ ho,.of_isNs<|W.isNs_of_in X hok,W.nsMap_none_of_in X hok hni,W.tail_of_in X ht⟩
  .cases q
 .cases q
section
variable{C:Addr}{np cpos:Pos}{B initId:String}
theorem Jx(hr:mH X EX)(hc:X.calm=true)(hm:X.mg x=some (.ref C))(hq:W.excIn X.K C bmB newId=true)(FB:ExcBaseFacts B newId initId bmB)(hg:{Gl X x})(hd:(QA x:)) :
  PS X (.Raise (some<|.Call (.Name x np) [] [] cpos) none pos) (λ_ _ H=>EX (.ref C) none H):=by
 intro tv s σ H D I h;obtain⟨bm,N,nm,qn,bs,hdc,sn,sub,ab,col,dd,k0,k1,k2,k3,k5,mN,hC,hN,hni,T⟩:=E2 I.kIn hq;refine wpAny_Raise_call_subT (C:=C) (nm:=nm) (q:=qn) (N:=N) (bs:=bs) (bm:=bm) (hdct:=hdc) (sn:=sn) (sub:=sub) (ab:=ab) (col:=col) (dd:=dd) (k0:=k0) (k1:=k1) (k2:=k2) (k3:=k3) (k5:=k5)
  FB (mN:=mN) (T.hasType FB.hasBase) (I.ok.hd hc) rfl hni (fD I hg hm ⟨rfl,?_⟩ hd)
 exact evalArgs_empty ⟨rfl,k9 _,hC,hN,T,λh' e hx=>hr tv σ H s h' e (.ref C) [] I hx h⟩
end
section
variable{H':Hp}{s':Shared}{B h2:Heap}
theorem Inv.fsStk(I:Inv X tv σ H s)(hb:b∈X.fs):b∈dO X.stack:=by
 rcases I.ok.stk with z|⟨z,_⟩
 rw[z];exact hb;rw[z];exact zp hb
theorem Inv.fly(I:Inv X tv σ H s)(hos:s'.os=s.os)(hbare:AllBare s'.gens)(un:Un (dO X.stack) [] H H' s.heap s'.heap)(hok:HOk X.prog X.w H' s'.heap)
  (hB:∀b o,s.heap.get? b=some o->b∉dO X.stack->∃o',B.get? b=some o') (hT:∀b u,H' b=some u->∃o,B.get? b=some o) (st1:B.StaysIn s'.heap) (st2:B.StaysIn h2) (up:s'.heap.UpToSlots h2)
  (frm:∀b∈dO X.stack,∃o,s'.heap.get? b=some o/\∀vs,o.data≠.fields vs):Inv X tv σ H' { s' with heap:=h2 }:=by
 have I':Inv X tv σ H' s':=I.call' hos un hok hbare (ch:=[])<|λb z=>PQ z KE;have nostk:∀b o,X.s₀.heap.get? b=some o->b∉X.fs->b∉dO X.stack:=λb o e hb hm=>by
  rcases Yan.mp (I.stkSub b hm) with z|z
  .have l1:=dZ e
   have l2:=I.ok.above;rw[<-z]at l2;exact PQ (dN l1 l2)<|ju _
  .exact hb z
 have inB:∀{b o},s.heap.get? b=some o->b∉dO X.stack->∀{u},s'.heap.get? b=some u->h2.get? b=some u:=λ{b o} e hb {u} q=>by
  obtain⟨o',eB⟩:=hB b o e hb;have:=st1 b o' eB;rw[q]at this;cases this;exact st2 b _ eB
 have cellK:∀c v,s'.heap.IsCell c v->h2.IsCell c v:=λc v ⟨o,ho,hd⟩=>by
  obtain⟨sl,e⟩:=up c o ho λvs z=>by rw[hd]at z;cases z
  exact⟨_,e,hd⟩
 refine⟨I'.ok,I'.os,I'.bare,⟨λb o e n hb hx=>?_,λb o e n hb hx=>?_,I'.base.free,λb o e hx=>?_,I'.base.tups,I'.base.frzs,I'.base.tbls,I'.base.sys⟩,?_,λx c e=>?_,I'.free,I'.freeC,λp hp=>?_,hok.through hT st1 st2,I'.len⟩
 .exact inB (I.base.keep b o e n hb hx) (nostk b o e hb)<|I'.base.keep b o e n hb hx
 .obtain⟨sl,e1⟩:=I'.base.slot b o e n hb hx
  obtain⟨o3,e3,nf⟩:=frm b<|I.fsStk hb;rw[e1]at e3;cases e3;obtain⟨sl2,e4⟩:=up b _ e1 nf;exact⟨sl2,e4⟩
 .obtain⟨o',e1⟩:=I'.base.there b o e hx
  by_cases hb:b∈dO X.stack
  .obtain⟨o3,e3,nf⟩:=frm b hb
   obtain⟨sl,e4⟩:=up b _ e3 nf;exact⟨_,e4⟩
  .obtain⟨o2,e2⟩:=I.base.there b o e hx
   exact⟨o',inB e2 hb e1⟩
 .obtain⟨m,hn,hl⟩:=I'.loc
  refine⟨m,up.ns hn,λi x v e1 e2 e3=>?_⟩;obtain⟨u,r,l⟩:=hl i x v e1 e2 e3;refine⟨u,r,?_⟩;rcases l with l|⟨k,c,e,z⟩
  .exact .inl l
  .exact .inr ⟨k,c,e,cellK c _ z⟩
 .obtain⟨v,z⟩:=I'.cell x c e
  exact⟨v,cellK c v z⟩
 .obtain⟨e,n,ne,nf,d⟩:=I'.pin p hp
  obtain⟨e0,n0,_⟩:=I.pin p hp;have hb:p.1∉dO X.stack:=λhm=>by
   rcases Yan.mp (I.stkSub _ hm) with z|z
   .exact ne z
   .exact nf z
  exact⟨inB e0 hb e,n,ne,nf,d⟩
theorem Inv.track{u:HO}(I:Inv X tv σ H s)(hn:H a=none)(h0:X.s₀.heap.get? a=none)(hL:a≠X.env.locals)(hC:∀x c,X.env.cells.lookup x=some c->c≠a)(hP:∀p∈X.pn++tv,p.1≠a)
  (new:ObjOk X.prog X.w (upd H a u) s.heap a u) (hu:∀us,u≠.lst us):Inv X tv σ (upd H a u) s:=by
 have nea:∀b v,H b=some v->b≠a:=λb v e z=>by rw[z,hn]at e;cases e
 refine ⟨I.ok,I.os,I.bare,⟨I.base.keep,I.base.slot,λb o e n hx=>?_,I.base.there,λb xs e=>?_,λb o xs e=>?_,λb ps e=>?_,λx0 e0 n ys=>by
   by_cases z:sysModules=a
   .rw[z,aV];exact λy=>hu ys (PY y)
   .rw[aI z];exact I.base.sys x0 e0 n ys⟩,I.loc,I.cell,?_,λx c e=>?_,λp hp=>?_,λb v e=>?_,I.len⟩
 .rw[aI (λz=>by rw[z,h0]at e;cases e)]
  exact I.base.free b o e n hx
 .have:=I.base.tups b xs e
  rw[aI<|nea _ _ this];exact this
 .have:=I.base.frzs b o xs e
  rw[aI<|nea _ _ this];exact this
 .obtain⟨m,e1⟩:=I.base.tbls b ps e
  exact⟨m,by rw[aI<|nea _ _ e1];exact e1⟩
 .rw[aI<|P9 hL];exact I.free
 .rw[aI<|hC x c e];exact I.freeC x c e
 .obtain⟨e,n,r⟩:=I.pin p hp
  exact⟨e,by rw[aI<|hP p hp];exact n,r⟩
 .by_cases hb:b=a
  .subst hb;rw[aV]at e;cases e;exact new
  .rw[aI hb]at e
   exact(I.hok b v e).stay (λ_ _ _ q=>q) (λc q=>by rw[aI<|nea _ _ q];exact q) λc _ q=>by rw[aI<|nea _ _ q];exact q
end
abbrev Cx.tr(X:Cx)(E:Mn)(tv:Lb):Cx:={ X with xe:=E,pn:=X.pn++tv }
abbrev Cx.hnd(X:Cx)(e:Addr)(E:Mn):Cx:={ X with A:=X.A.mark<|some<|.ref e,calm:=false,xe:=E }
section
variable{pins':Lb}{E:Mn}{e:Addr}
theorem Inv.tr(I:Inv X tv σ H s):Inv (X.tr E tv) [] σ H s:=⟨⟨I.ok.mod,I.ok.kind,I.ok.glob,I.ok.blt,I.ok.above,I.ok.inj,I.ok.has,I.ok.cab,I.ok.hd,I.ok.frames,I.ok.stk,I.ok.exf,I.ok.bs,I.ok.bsz,I.ok.noex,I.ok.exfs,I.ok.funs,I.ok.frf,I.ok.sys0⟩,I.os,I.bare,I.base,I.loc,I.cell,I.free,I.freeC,λp hp=>I.pin p<|by simpa using hp,I.hok,I.len⟩
theorem Inv.untr(I:Inv (X.tr E tv) pins' σ H s):Inv X tv σ H s:=⟨⟨I.ok.mod,I.ok.kind,I.ok.glob,I.ok.blt,I.ok.above,I.ok.inj,I.ok.has,I.ok.cab,I.ok.hd,I.ok.frames,I.ok.stk,I.ok.exf,I.ok.bs,I.ok.bsz,I.ok.noex,I.ok.exfs,I.ok.funs,I.ok.frf,I.ok.sys0⟩,I.os,I.bare,I.base,I.loc,I.cell,I.free,I.freeC,λp hp=>I.pin p<|yG _ hp,I.hok,I.len⟩
theorem SP.untr{D:lh}{f:Flow}{s':Shared}(h:SP (X.tr E tv) pins' D f s'):SP X tv D f s':=by
 cases f with
 |next=>obtain⟨σ',H',I,q⟩:=h;exact⟨σ',H',I.untr,q⟩
 |brk=>obtain⟨σ',H',I,q⟩:=h;exact⟨σ',H',I.untr,q⟩
 |cont=>obtain⟨σ',H',I,q⟩:=h;exact⟨σ',H',I.untr,q⟩
 |ret u=>obtain⟨v,σ',H',I,r,q⟩:=h;exact⟨v,σ',H',I.untr,r,q⟩
theorem Inv.hnd(I:Inv X tv σ H s):Inv (X.hnd e E) tv σ H s:=⟨⟨I.ok.mod,I.ok.kind,I.ok.glob,I.ok.blt,I.ok.above,I.ok.inj,I.ok.has,I.ok.cab,(λz=>by cases z),I.ok.frames,I.ok.stk,I.ok.exf,I.ok.bs,I.ok.bsz,I.ok.noex,I.ok.exfs,I.ok.funs,I.ok.frf,I.ok.sys0⟩,I.os,I.bare,I.base,I.loc,I.cell,I.free,I.freeC,I.pin,I.hok,I.len⟩
theorem Inv.unhnd(hd:X.calm=true->X.A.handled=none)(I:Inv (X.hnd e E) tv σ H s):Inv X tv σ H s:=⟨⟨I.ok.mod,I.ok.kind,I.ok.glob,I.ok.blt,I.ok.above,I.ok.inj,I.ok.has,I.ok.cab,hd,I.ok.frames,I.ok.stk,I.ok.exf,I.ok.bs,I.ok.bsz,I.ok.noex,I.ok.exfs,I.ok.funs,I.ok.frf,I.ok.sys0⟩,I.os,I.bare,I.base,I.loc,I.cell,I.free,I.freeC,I.pin,I.hok,I.len⟩
end
theorem Jy{M:Model}{E:Mn}{ea C Cs:Addr}{Q:Bool->Shared->Prop}(X:K.In s.heap)(hs:W.excIn K Cs bmB newId=true)(hbase:bmB.contains (.type "BaseException")=true)
  (he:∃oe,s.heap.get? ea=some oe/\oe.cls=.ref C) (hsub:W.mroIn K C (.ref Cs)=some true) (q:Q true s):wpAny M A (excMatches (.ref ea)<|.ref Cs) Q E s:=by
 obtain⟨bm,N,nm,qn,bs,hd,sn,sub,ab,col,dd,k0,k1,k2,k3,k5,mN,hC,hN,hni,T⟩:=E2 X hs;obtain⟨oe,he,hcls⟩:=he;have hcB:(Value.ref Cs::bm).contains (.type "BaseException")=true:=by rw[yQ,T.hasType hbase,Bool.or_true]
 have f:=tc_notTuple;have LS:W.Looks M s.heap (isSubtype (.ref C)<|.ref Cs) true:=W.looks_mroIn X hsub;obtain⟨hh,g,d,tk,os⟩:=s;unfold excMatches
 repeat (first|(with_reducible refine wpAny_loadPart_at he ?_;rw[hcls])|with_reducible refine wpAny_loadPart_at hC ?_|(with_reducible refine wpAny_isSubtype_exc hC ?_;rw[hcB])|with_reducible refine LS.at ?_|wp_step)
 exact q
section
theorem Inv.names(I:Inv X tv σ H s)(hn:h'.Ns X.env.locals m)(hs:Heap.SameBut X.env.locals s.heap h'):Inv X tv (List.replicate σ.length none) H { s with heap:=h',toks:=t' }:=by
 have ne:∀b o,X.s₀.heap.get? b=some o->b≠X.env.locals:=λb o e=>jv<|dN (dZ e) I.ok.above;have same:∀b,b≠X.env.locals->h'.get? b=s.heap.get? b:=λb hb=>hs.2 b hb;have nH:∀b u,H b=some u->b≠X.env.locals:=λb u e z=>by rw[z,I.free]at e;cases e
 refine⟨I.ok,I.os,I.bare,⟨λb o e n hb hx=>?_,λb o e n hb hx=>?_,I.base.free,λb o e hx=>?_,I.base.tups,I.base.frzs,I.base.tbls,I.base.sys⟩,⟨m,hn,λi x v _ e2 _=>?_⟩,λx c e=>?_,I.free,I.freeC,λp hp=>?_,λb u e=>?_,by rw[lS];exact I.len⟩;show h'.get? b=_;rw[same b<|ne b o e];exact I.base.keep b o e n hb hx;obtain⟨sl,e1⟩:=I.base.slot b o e n hb hx;refine⟨sl,?_⟩;show h'.get? b=_;rw[same b<|ne b o e];exact e1;obtain⟨o',e1⟩:=I.base.there b o e hx;refine⟨o',?_⟩;show h'.get? b=_;rw[same b<|ne b o e];exact e1;rw[lQ]at e2;split at e2<;>cases e2;obtain⟨v,o,ho,hd⟩:=I.cell x c e;refine⟨v,o,?_,hd⟩;show h'.get? c=_;rw[same c<|I.cne x c e];exact ho;obtain⟨e,n,nl,r⟩:=I.pin p hp;refine⟨?_,n,nl,r⟩;show h'.get? p.1=_;rw[same _ nl];exact e;refine(I.hok b u e).stay (λc v hc q=>?_) (λ_ q=>q) λ_ _ q=>q;show h'.get? c=_;rw[same c ?_];exact q;rcases hc with rfl|hc
 exact nH _ _ e;exact nH _ _ hc
end
structure RoomU(k:Nat)(A:Around):Prop where
 dp:A.depth+3*k+5<recursionLimit
 un:A.units+16*k+200<cLine
theorem RoomU.mono{j:Nat}(r:RoomU k A)(h:j<=k):RoomU j A:=⟨by have:=r.dp;omega,by have:=r.un;omega⟩
theorem RoomU.deeper{k:Nat}{A:Around}(r:RoomU (k+1) A)(env:Env):RoomU k (A.deeper env):=
 ⟨by have:=r.dp;show A.depth+1+3*k+5<_;omega,by have:=r.un;show A.units+3+16*k+200<_;omega⟩
theorem RoomU.depth{k:Nat}{A:Around}(r:RoomU k A):A.depth<recursionLimit:=by have:=r.dp;omega
theorem RoomU.units{k:Nat}{A:Around}(r:RoomU k A):A.units+64<cLine:=by have:=r.un;omega
theorem Room.u(r:Room k A):RoomU k A:=⟨r.dp,r.un⟩
theorem RoomU.mark{k:Nat}{A:Around}{v:Option Value}(r:RoomU k A):RoomU k (A.mark v):=⟨r.dp,r.un⟩
structure zx(P:Program)(w:World)(K:PN)(mg:Qt)(base:Heap)(k:Nat)(f:Addr)(fd:FuncData)(ps:Qx)(sp:Sp):Prop where
 len:∀vs H Q E,sp vs H Q E->vs.length=ps.length
 run:∀(A:Around) (outer:List Env) (s:Shared) (H:Hp) (args:Args) (us:Qu) (vs:QJ) (Q:VK) (E:XK),RoomU k A->mC P w K mg base A outer s H->BindsTo s fd args (ps.zip us)->Vals vs us->sp vs H Q E->
  codeAny (model P w) A (.call (.ref f) args) (CR ES outer P w H s Q E) s
def uv(P:Program)(w:World)(K:PN)(mg:Qt)(base:Heap)(N:Qx)(qual:Str)(scope:Scope)(f:Addr)(cd:Value)(A:Around)(outer:List Env)(s:Shared)(H:Hp):Cx:=
 { fo ES P w K mg base N qual scope f cd A outer s H E0 with calm:=false,xe:=λ_ _=>False }
theorem Jz{s1:Shared}{vs:QJ}
  (S:dI N ps scope) (e0:mC P w K mg base A outer s H) (hl:vs.length=ps.length) (r:Vals vs us)
  (x:InCallC s s.heap.objs.size (bindL (envOfC qual scope s.heap.objs.size f cd).kindOf (ps.zip us) λ_=>none) (cellsFrom (s.heap.objs.size+1) scope.names []) (bindC (envOfC qual scope s.heap.objs.size f cd).kindOf (ps.zip us) λ_=>none) s1) :
  Inv (uv P w K mg base N qual scope f cd A outer s H) [] (start N vs) H s1:=by
 have hpl:ps.length<=N.length:=by have:=congrArg List.length S.pre;rw[m6]at this;omega
 obtain⟨h1,tk,rfl,hk⟩:=x.done;have noA:∀b:Addr,b∉(uv P w K mg base N qual scope f cd A outer s H).ex:=λb z=>PQ (show b∈([]:List Addr) from z) KE;refine ⟨⟨e0.mod,S.kind,rfl,rfl,cO _,λy z c h1 h2=>?_,λy hy=>?_,λy c _ h=>?_,(λz=>by cases z),Around.frames_deeper e0.frames,.inr ⟨rfl,rfl⟩,λb z=>PQ z<|noA b,e0.bs,e0.bsz,λb _ _=>noA b,λb z=>PQ z<|noA b,e0.funs,e0.frf,e0.sysn⟩,
  rfl,e0.bare,Un.kept hk,⟨_,x.toInCall.ns,λi y v h1 h2 h3=>?_⟩,λy c h=>⟨_,x.cell y c h⟩,e0.hok.fresh<|cO _,λy c h=>?_,λp hp=>PQ (show p∈([]:Lb) from hp)<|KE,e0.hok.kept hk,?_⟩
 .exact name_of_addr x.apart (P3 h1)<|P3 h2
 .have hy:scope.names.lookup y=some .cell\/scope.names.lookup y=some .free:=hy
  rcases hy with hy|hy
  .exact fq hy
  .exact PQ rfl<|S.nofree _ (P3 hy)
 .exact lO<|x.above y c (P3 h)
 .have hi:i<vs.length:=by
   unfold start at h2
   by_cases hi:i<vs.length
   .exact hi
   .rw[lP<|by simpa using hi]at h2
    rw[lQ]at h2;split at h2<;>cases h2
  have ha:vs[i]? = some v:=by
   unfold start at h2;rw[lR<|by simpa using hi,cV]at h2;cases e:vs[i]? with
   |none=>rw[e]at h2;cases h2
   |some a=>rw[e]at h2;cases h2;rfl
  obtain⟨u,hu,rv⟩:=r.get ha;have hp:ps[i]? = some y:=by
   rw[<-S.pre,Bl<|E1];exact h1
  have ndP:ps.Nodup:=by rw[<-S.pre];exact S.nd.sublist<|List.take_sublist _ _
  refine⟨u,rv,?_⟩;rcases S.par y (pj hp) with k|k
  .exact .inl ⟨k,gJ ndP hp hu k⟩
  .obtain⟨c,e⟩:=fq (n:=s.heap.objs.size+1) k
   refine .inr ⟨.inl k,c,e,?_⟩;have q:=x.cell y c e;rw[gK ndP hp hu (by show scope.names.lookup y≠_;rw[k];decide)]at q;exact q
 .exact e0.hok.fresh<|lO (x.above y c<|P3 h)
 .unfold start
  show _=N.length;rw[fZ,bQ,lS];omega
theorem Fun.okU{st:Stmt}{sp:Sp}(F:Fun K x qual st f fd)(S:dI N ps (aJ st))(len:∀vs H Q E,sp vs H Q E->vs.length=ps.length)
  (hbody:∀ (cdv:Value) (A:Around) (outer:List Env) (s:Shared) (H:Hp) (vs:QJ) (Q:VK) (E:XK),RoomU k (A.deeper<|envOfC qual (aJ st) s.heap.objs.size f cdv)->sp vs H Q E->
   ∃t,nc (uv P w K mg base N qual (aJ st) f cdv A outer s H) (bT st) t/\t { nx:=λ_ H'=>Q .non H',rt:=Q } (start N vs) H):zx P w K mg base (k+1) f fd ps sp:=by
 obtain⟨oc,od,kV,doc,pm,an,cdv,ct,osl,rfl,lk,hcd⟩:=F.ex;refine⟨len,λA outer s H args us vs Q E hr e0 hb r hsp=>?_⟩;have hl:=len _ _ _ _ hsp;have KX:K.In s.heap:=e0.mod.kin.keeps λb o e=>(e0.bs b o e).1;have lim:s.heap.NoLimit:=e0.mod.nolimit.keeps λb o e=>(e0.bs b o e).1;have hkind:∀y∈ps.zip us,(aJ st).names.lookup y.1=some .local\/((aJ st).names.lookup y.1=some .cell/\((cellsFrom (s.heap.objs.size+1) (aJ st).names []).lookup y.1).isSome=true):=λ⟨n,v⟩ hy=>by
  rcases S.par n (yJ hy).1 with q|q
  .exact .inl q
  .exact .inr ⟨q,W.cellsFrom_some _ _ _<|.inl q⟩
 refine codeAny_call_function hr.depth (KX _ _ lk) rfl S.co S.gen rfl (W.codeRec_of KX hcd)<|hb _ _ _ _ ?_;refine wpAny_newFunctionEnv_cells S.kind hkind λenv he s1 x=>?_;subst he;refine⟨lim.keeps x.toInCall.keep,codeAny_func ?_⟩;obtain⟨t,ht,hq⟩:=hbody cdv A outer s H vs Q E (hr.deeper _) hsp;have I:Inv (uv P w K mg base N qual (aJ st) f cdv A outer s H) [] (start N vs) H s1:=Jz S e0 hl r x;refine P2 (ht [] s1 (start N vs) H _ I hq) (λfl s' hs=>?_) λe s' hs=>hs.elim;have fin:∀{σ':St} {H':Hp} {v:V} {u:Value},Inv (uv P w K mg base N qual (aJ st) f cdv A outer s H) [] σ' H' s'->RelV v u->Q v H'->CE outer P w H s Q u s':=
  λ{σ' H' v u} J rv q=>⟨v,H',J.os,J.bare,J.base,J.hok,rv,q⟩
 cases fl with
 |ret u=>
  obtain⟨v,σ',H',J,rv,q⟩:=hs;exact fin J rv q
 |next=>
  obtain⟨σ',H',J,q⟩:=hs;exact fin (v:=V.non) (u:=Value.none) J rfl q
 |brk=>
  obtain⟨_,_,_,q⟩:=hs;exact P8 q
 |cont=>
  obtain⟨_,_,_,q⟩:=hs;exact P8 q
section
variable{sp:Sp}{E:XK}{t:TA}
theorem JA(F:zx X.prog X.w X.K X.mg X.base k f fd ps sp)(hr:RoomU k X.A)(hg:Gl X x)(hm:X.mg x=some (.ref f))(hk:W.keepIn X.K (.ref f)=true)(hb:Binds X.K fd ps [])
  (ha:PA X (e::es) t) (hdb:(QA x:)) (he:{QD X e es}) (hpl:{QE X pos es}) :
  PE X (.Call (.Name x p) (e::es) [] pos) (sw sp [] E t):=by
 have F':∀(tv:Lb) (σ:St) (H:Hp) (s:Shared) (Q:VK) (us:Qu) (vs:QJ),Inv X tv σ H s->Vals vs us->sp (vs++[]) H Q E->wpAny (model X.prog X.w) X.A (call (.ref f) us) (EP X tv σ Q) X.xe s:=by
  intro tv σ H s Q us vs I r h;have r2:Vals (vs++[]) (us++[]):=by simpa using r
  have hl:(us++[]).length=ps.length:=by rw[<-r2.length];exact F.len _ _ _ _ h
  refine wpAny_call<|codeAny_mono (F.run X.A X.stack s H ⟨us,[]⟩ (us++[]) (vs++[]) Q E hr I.env0 (hb s us I.kIn hl) r2 h) λr s' hq=>?_;cases r with
  |error e=>exact P8 hq
  |ok fl=>
   cases fl with
   |ret u=>exact I.after hq|next=>exact P8 hq|brk=>exact P8 hq|cont=>exact P8 hq
 intro tv s σ H Q I h;refine Qk<|fD I hg hm ?_ hdb;refine W.callWith_K (h₀:=X.base) I.ok.mod.kin hk (bO (ha pos tv s σ H _ I h) λus s1 ⟨vs,H1,I1,r,q⟩=>⟨I1.kIn,?_⟩) he hpl;exact F' tv σ H1 s1 Q us vs I1 r q
end
section
open PySem PySem.Spec PySem.Calls PyProof.Rows PySem.W Builtin Builtin.ObjectAttr Builtin.Getset_descriptor
def XAt(h:Heap)(x C:Addr):Prop:=∃ox,h.get? x=some ox/\ox.cls=.ref C/\notCls ox=true
structure ja(K:Frag)(D:Addr):Prop where
 ga:findIn K (.ref D) "__getattribute__" = some (some<|.builtin "BaseException.__getattribute__")
 gn:findIn K (.ref D) "__getattr__" = some none
 be:mroIn K D (.type "BaseException")=some true
 is:(clsIn K D).isSome=true
 at':findIn K (.ref D) "__class__" = some (some<|.builtin "object.__class__")
 gt:specialIn K (.builtin "object.__class__") "__get__" = some (some<|.builtin "getset_descriptor.__get__")
 tk:takesIn K (.builtin "object.__class__")=some true
 ob:mroIn K D (.type "object")=some true
section
variable{E:Mn}{K:Frag}{x D:Addr}
theorem XAt.type{M:Model}(I:XAt h x D):Looks M h (typeOf<|.ref x) (.ref D):=by obtain⟨ox,h1,h2,_⟩:=I;exact h2▸(Looks.ld h1).andThen .now
theorem JB{M:Model}(X:K.In h)(c:ja K D):Looks M h (find (.ref x) (.ref D) "__class__") (.bind (.builtin "getset_descriptor.__get__")<|.builtin "object.__class__"):=by have L1:=looks_findIn (M:=M) X c.at';have L2:Looks M h (getOf<|some<|.builtin "object.__class__") (some<|.builtin "getset_descriptor.__get__"):=looks_specialIn X c.gt;have L3:=looks_takesIn (M:=M) X c.tk;refine L1.andThen<|L2.andThen ?_;exact(show Looks M h (dataDescriptor? (some<|.builtin "object.__class__")<|some<|.builtin "getset_descriptor.__get__") (some (.builtin "getset_descriptor.__get__",.builtin "object.__class__")) from L3.andThen .now).andThen<|Looks.tag .now
theorem JC{tp:Value}{R:Result->Shared->Prop}(X:K.In s.heap)(I:XAt s.heap x D)(hm:mroIn K D (.type "object")=some true)
  (h:R (.ok<|.ret<|.ref D) s):codeAny (model prog w) A (.call (.builtin "getset_descriptor.__get__") ⟨[.builtin "object.__class__",.ref x,tp],[]⟩) R s:=by
 obtain⟨hh,g,dr,t,os⟩:=s;have L0:=I.type (M:=model prog w);have L1:=looks_mroIn (M:=model prog w) X hm;refine codeAny_call_builtin KF.slot_gs.plain KF.entry_gs<|KF.slot_gs.check _ _ _ _ _ _ _ _ KF.type_class (KF.args_gs _ _ _) ?_;unfold Builtin.«getset_descriptor.__get__» descrGet;rw[dga_obj];refine PM<|PP ?_;unfold descrGetter descrCheckInstance descrNameAndClass isInstance;simp only[KF.owner_class]
 repeat lk
 refine⟨Code.quiet_builtin _<|wp,codeAny_builtin KF.entry_class ?_⟩;unfold Builtin.«object.__class__» shownTypeOf
 repeat lk
 exact h
theorem JD{M:Model}{nameV:Value}{Q:Unit->Shared->Prop}(X:K.In s.heap)(I:XAt s.heap x D)(c:ja K D)(hq:Q () s):wpAny M A (checkBuiltinCall "BaseException.__getattribute__" ⟨[.ref x,nameV],[]⟩) Q E s:=by
 have hk:builtinKind "BaseException.__getattribute__" = some .slot:=wp
 have hsplit:splitId "BaseException.__getattribute__" = some ("BaseException", "__getattribute__"):=wp
 have ha:=F.args_bexc_ga (.ref x) nameV;have L0:=I.type (M:=M);have L1:=looks_mroIn (M:=M) X c.be;simp only[checkBuiltinCall,hk,hsplit];refine PM ?_;unfold isInstance;refine PM<|L0.at (L1.at ?_)
 repeat (first|assumption|wp_step)
theorem JE{Q:Fin->Shared->Prop}(X:K.In s.heap)(I:XAt s.heap x D)(c:ja K D)(hq:Q (.done<|.ret<|.ref D) s) :
  wpAny (model prog w) A (Builtin.«object.__getattribute__» ⟨[.ref x,.str "__class__" tk],[]⟩) Q E s:=by
 obtain⟨hh,g,d,t,os⟩:=s;have L0:=I.type (M:=model prog w);have L2:=JB (x:=x) (M:=model prog w) X c
 repeat (any_goals (first|assumption|(with_reducible refine L0.at ?_)|(with_reducible refine L2.at ?_)|wp_step))
 exact JC (K:=K) (s:=⟨hh,g,d,t,os⟩) X I c.ob<|PP hq
theorem wQ{R:Result->Shared->Prop}(X:K.In s.heap)(I:XAt s.heap x D)(c:ja K D)(hq:R (.ok<|.ret<|.ref D) s) :
  codeAny (model prog w) A (.call (.builtin "BaseException.__getattribute__") ⟨[.ref x,.str "__class__" tk],[]⟩) R s:=
 codeAny_call_builtin F.attr_ValueError.ga.plain F.entry_bexc_ga (JD X I c<|JE X I c hq)
theorem JF{Q:Option Value->Shared->Prop}(X:K.In s.heap)(I:XAt s.heap x D)(c:ja K D)(h:Q (some<|.ref D) { s with toks:=s.toks+1 }):wpAny (model prog w) A (getAttr? (.ref x) "__class__") Q E s:=by
 obtain⟨hh,g,d,t,os⟩:=s;have L0:=I.type (M:=model prog w);have L1:=looks_findIn (M:=model prog w) X c.ga;have L3:=looks_findIn (M:=model prog w) X c.gn;have f3:=F.attr_ValueError.ga.bind<|.ref x;have hx2:(Value.builtin "BaseException.__getattribute__" == Value.builtin "object.__getattribute__")=false:=wp
 have hx1:(onTheHeap (Value.ref D)&&Value.builtin "BaseException.__getattribute__" == Value.builtin "object.__getattribute__")=false:=by rw[hx2];rfl
 unfold getAttr? getAttrBy?;repeat (any_goals (first|assumption|(with_reducible refine L0.at ?_)|(with_reducible refine L1.at ?_)|(with_reducible refine L3.at ?_)|wp_step))
 exact wQ (K:=K) (s:=⟨hh,g,d,t+1,os⟩) X I c<|handed_on rfl (PP h)
theorem E3(c:ja K D):KitX K (.ref x) (.ref D) (λh=>XAt h x D) where
 ty:=λ_ _ _ I=>I.type
 it:=λ_ _ X _=>by
  have hcD:=c.is;unfold clsIn at hcD;split at hcD;rename_i c' d' cd' sl' ho;intro A' Q' E' s' k q;unfold isType loadHead;exact PM<|wpAny_loadPart (k _ _<|X _ _ ho) (PP q)
  cases hcD
 ne:=λh tp dd its n sl X htp=>by
  have hcD:=c.is;refine Bool.eq_false_iff.mpr λq=>?_;have e:D=tp:=Value.ref.inj<|beq_iff_eq.mp q;subst e;unfold clsIn at hcD;split at hcD
  rename_i c' d' cd' sl' ho;have z:=(X _ _ ho).symm.trans htp;cases z;cases hcD
 ca:=λX I k=>JF X I c k
end
end
theorem JG:fillsNumberSlot (.type "tuple") "mul" = pure false:=
 PySem.fillsNumberSlot_seq (id:= "tuple.__mul__") (r:=some<|.builtin "tuple.__rmul__") F.slot_tuple_mul.lookup wp F.slot_tuple_rmul.lookup wp
theorem JH:seqRepeat? (.type "tuple")=pure (some<|.builtin "tuple.__mul__"):=by unfold seqRepeat?;rw[PySem.seqSlot_of (T:= "tuple") (name:= "__mul__") (id:= "tuple.__mul__") F.slot_tuple_mul.lookup<|wp,PySem.seqSlot_of (T:= "tuple") (name:= "__rmul__") (id:= "tuple.__rmul__") F.slot_tuple_rmul.lookup<|wp];rfl
theorem JI(a:Int)(t:Tok)(l:Addr)(items:Array Value)(n:Nat)(dd:Option Addr)(sl:Array (Option Value)) :
  Meets (Builtin.«int.__rmul__» ⟨[.int a t,.ref l],[]⟩) (λ_ R s=>s.heap.get? l=some { cls:=.type "tuple",dict:=dd,data:=.seq items n,slots:=sl }/\R (.ok<|.ret Value.notImplemented) s):=
 .of_wp λprog w A R s h=>by obtain⟨hp,g,d,tk,os⟩:=s;obtain⟨hl,h⟩:=h;wp_walk;exact⟨_,rfl,h⟩
theorem JJ(l:Addr)(items:Array Value)(n:Nat)(dd:Option Addr)(sl:Array (Option Value))(k:Int)(t:Tok)(h1:-(2^63)<=k)(h1':k<2^63)(h2:(items.isEmpty||k==1)=true) :
  Meets (Builtin.«tuple.__mul__» ⟨[.ref l,.int k t],[]⟩) (λ_ R s=>s.heap.get? l=some { cls:=.type "tuple",dict:=dd,data:=.seq items n,slots:=sl }/\R (.ok<|.ret<|Value.ref l) s):=by
 intro prog w A R s h;obtain⟨hp,g,d,tk,os⟩:=s;obtain⟨hl,h⟩:=h;have f1:=AutoSeq1.idx_int;have c1:¬(decide (k < -2^63)||decide (k ≥ 2^63))=true:=by simp;omega
 unfold Builtin.«tuple.__mul__»
 wp_walk using wpAny_loadPart' hl
 rw[jx c1]
 wp_walk using wpAny_loadPart' hl
 exact h
theorem JK(l:Addr)(items:Array Value)(n:Nat)(dd:Option Addr)(sl:Array (Option Value))(k:Int)(t:Tok)(h1:-(2^63)<=k)(h1':k<2^63)(h2:¬(items.isEmpty||k==1)=true)(h3:k<=0) :
  Meets (Builtin.«tuple.__mul__» ⟨[.ref l,.int k t],[]⟩) (λ_ R s=>s.heap.get? l=some { cls:=.type "tuple",dict:=dd,data:=.seq items n,slots:=sl }/\R (.ok<|.ret<|Value.ref s.heap.objs.size) { s with heap:=s.heap.push { cls:=Value.type "tuple",data:=Data.seq #[] } }):=by
 intro prog w A R s h;obtain⟨hp,g,d,tk,os⟩:=s;obtain⟨hl,h⟩:=h;have f1:=AutoSeq1.idx_int;have c1:¬(decide (k < -2^63)||decide (k ≥ 2^63))=true:=by simp;omega
 have c2:(decide (k<=0)||items.isEmpty)=true:=by simp[h3]
 unfold Builtin.«tuple.__mul__»
 wp_walk using wpAny_loadPart' hl
 rw[jx c1]
 wp_walk using wpAny_loadPart' hl
 exact h
theorem JL(l:Addr)(items:Array Value)(n:Nat)(dd:Option Addr)(sl:Array (Option Value))(k:Int)(t:Tok)(h1:-(2^63)<=k)(h1':k<2^63)(h2:¬(items.isEmpty||k==1)=true)(h3:0<k)(h4:items.size*k.toNat<=sizeLine) :
  Meets (Builtin.«tuple.__mul__» ⟨[.ref l,.int k t],[]⟩) (λ_ R s=>s.heap.get? l=some { cls:=.type "tuple",dict:=dd,data:=.seq items n,slots:=sl }/\R (.ok<|.ret<|Value.ref s.heap.objs.size) { s with heap:=s.heap.push { cls:=Value.type "tuple",data:=Data.seq (List.foldl (λx1 x2=>x1++x2) #[] (List.replicate k.toNat items)) } }):=by
 intro prog w A R s h;obtain⟨hp,g,d,tk,os⟩:=s;obtain⟨hl,h⟩:=h;have f1:=AutoSeq1.idx_int;have c1:¬(decide (k < -2^63)||decide (k ≥ 2^63))=true:=by simp;omega
 have c2:¬(decide (k<=0)||items.isEmpty)=true:=by
  have:items.isEmpty=false:=by cases q:items.isEmpty<;>simp_all
  simp[this];omega
 have hk:(items.size:Int)*k=((items.size*k.toNat:Nat):Int):=by rw[Int.natCast_mul,Bo<|E1]
 have hsl:(sizeLine:Nat)=2^24:=rfl;have c3:¬((items.size:Int)*k>(2^63-1)/8):=by rw[hk];omega
 have c4:¬Builtin.Tuple.tupleTooMany ((items.size:Int)*k)=true:=λz=>by have z':=of_decide_eq_true z;rw[hk]at z';omega
 unfold Builtin.«tuple.__mul__»
 wp_walk using wpAny_loadPart' hl
 rw[jx c1]
 wp_walk using wpAny_loadPart' hl
 rw[jx c3]
 wp_walk using wpAny_loadPart' hl
 rw[jx c4]
 wp_walk using wpAny_loadPart' hl
 have hnew:List.foldl (λx1 x2=>x1++x2) #[] (List.replicate k.toNat items)=(List.replicate k.toNat items.toList).flatten.toArray:=by
  have:=fE items.toList k.toNat [];rw[dR]at this;simpa using this
 have c5:¬((List.foldl (λx1 x2=>x1++x2) #[] (List.replicate k.toNat items)).size>sizeLine):=by
  rw[hnew,fJ,j5,yH,yM];omega
 rw[jx c5]
 wp_walk using wpAny_loadPart' hl
 exact h
section
theorem Inv.tnew{its:Qu}(I:Inv X tv σ H s)(hv:Vals ys its)(hz:ys.length<=sizeLine) :
  Inv X tv σ (upd H s.heap.objs.size<|.tup ys) { s with heap:=s.heap.push { cls:=.type "tuple",data:=.seq its.toArray },toks:=t' }:=
 I.laid (λ_ _ q=>eQ _ q) (cO _) ⟨hz,its,hv,IsTup.new _ _⟩
def wS(K:PN):R2:=λx y H Q=>∃l k xs,x=.ref l/\y=.int k/\SqT K H l xs/\-(2^63)<=k/\k<2^63/\xs.length*k.toNat<=sizeLine/\
 ((xs=[]\/k=1)->Q (.ref l) H)/\∀p,H p=none->Q (.ref p) (upd H p<|.tup (List.replicate k.toNat xs).flatten)
theorem JM:OpR X (binaryOp .Mult) (wS X.K):=by
 intro tv s σ H x y v u Q I rx ry h;obtain⟨l,k,xs,rfl,rfl,hq,h1,h2,hz,q1,q2⟩:=h;cases rx;obtain⟨t,rfl⟩:=ry;obtain⟨its,r,pl,_⟩:=I.tuple hq;have hl:xs.length=its.length:=r.length;obtain⟨⟨cls,dd,data,sl⟩,ho,hc,n,hd⟩:=id pl;simp only at hc hd;subst hc hd;refine wpAny_binaryOp_repeat_ref (T:= "tuple") (U:= "int") E8 ⟨_,ho,rfl⟩ (λs'=>typeIs_int s' k t) JG F.fills_int_mul F.slot_int_rmul JH F.slot_int_index.lookup
  (call_meets F.slot_int_rmul (typeIs_int s k t) F.entry_int_rmul (F.args_int_rmul_2 _ _) (JI k t l its.toArray n dd sl) ⟨ho,rfl,⟨_,ho,rfl⟩,?_⟩)
 by_cases hs:(its.toArray.isEmpty||k==1)=true;refine call_meets F.slot_tuple_mul ⟨_,ho,rfl⟩ F.entry_tuple_mul (F.args_tuple_mul_2 _ _) (JJ l its.toArray n dd sl k t h1 h2 hs) ⟨ho,⟨.ref l,H,I,rfl,q1 ?_⟩⟩;rw[yN]at hs;rcases hs with hs|hs
 exact .inl<|r.nil_iff.mp (by simpa using hs)
 exact .inr<|beq_iff_eq.mp hs
 by_cases h3:k<=0;refine call_meets F.slot_tuple_mul ⟨_,ho,rfl⟩ F.entry_tuple_mul (F.args_tuple_mul_2 _ _) (JK l its.toArray n dd sl k t h1 h2 hs h3) ⟨ho,⟨.ref _,_,I.tnew (its:=[]) (ys:=(List.replicate k.toNat xs).flatten) (t':=s.toks) ?_ ?_,rfl,q2 _ I.fresh⟩⟩;rw[show k.toNat=0 by omega];exact .nil;rw[show k.toNat=0 by omega];exact k9 _;have hnew:List.foldl (λx1 x2=>x1++x2) #[] (List.replicate k.toNat its.toArray)=(List.replicate k.toNat its).flatten.toArray:=by have:=fE its k.toNat [];rw[dR]at this;exact this
 refine call_meets F.slot_tuple_mul ⟨_,ho,rfl⟩ F.entry_tuple_mul (F.args_tuple_mul_2 _ _) (JL l its.toArray n dd sl k t h1 h2 hs E1 (by rw[fJ,<-hl];exact hz)) ⟨ho,?_⟩;rw[hnew];exact⟨.ref _,_,I.tnew (t':=s.toks) (r.rep k.toNat) (by rw[j5,yM];exact hz),rfl,q2 _ I.fresh⟩
end
theorem JN(hh:A.handled=none)(it l:Addr)(hne:l≠it)(xs:Array Value):Draws prog w A it [it,l] xs.size (λi v=>xs[i]? = some v) (λi h=>SIt κ h it l i/\SSq κ h l xs) where
 live:=λ_ _ st=>let⟨o,ho,_⟩:=st.1.obj;⟨o,ho⟩
 frame:=λ_ _ _ st hk=>⟨st.1.keep λo e=>hk it KE o e,st.2.keep λo e=>hk l KE o e⟩
 item:=λi s Q E hi st hQ=>zq st.1 st.2 (x:=xs[i]) (by simp[hi]) λh' hit' hs'=>hQ _ h' s.toks (by simp[hi]) ⟨hit',st.2.keep λo e=>hs'.extBut l o hne e⟩ hs'
 done:=λs Q E st hE=>zt hh st.1 st.2 KE hE
theorem JO(hh:A.handled=none)(it l:Addr)(xs:Array Value)(n:Nat)(hn:xs[n]? = none):Draws prog w A it [it,l] n (λ_ _=>False) (λj h=>j=n/\SIt κ h it l n/\SSq κ h l xs) where
 live:=λ_ _ st=>let⟨o,ho,_⟩:=st.2.1.obj;⟨o,ho⟩
 frame:=λ_ _ _ st hk=>⟨st.1,st.2.1.keep λo e=>hk it KE o e,st.2.2.keep λo e=>hk l KE o e⟩
 item:=λi s Q E hi st hQ=>PQ st.1<|jv hi
 done:=λs Q E st hE=>zt hh st.2.1 st.2.2 hn hE
abbrev zy(κ:Bool)(h:Heap)(l:Addr):Heap:=h.push<|io κ l
abbrev Cd(κ:Bool)(h:Heap)(l:Addr):Heap:=(zy κ h l).push { cls:=.type "enumerate",data:=.fields #[.none,.bool false,.ref h.objs.size,rawInt 0,.none,.none] }
theorem JP(l:Addr)(xs:Array Value)(n:Nat)(dct:Option Addr)(sl:Array (Option Value)) :
  Meets (Builtin.«enumerate.__new__» ⟨[.type "enumerate",.ref l],[]⟩) (λ_ R s=>s.heap.get? l=some { cls:=.type "tuple",dict:=dct,data:=.seq xs n,slots:=sl }/\R (.ok<|.ret<|.ref (zy true s.heap l).objs.size) { s with heap:=Cd true s.heap l }):=
 .of_wp λprog w A R s h=>by
  obtain⟨hp,g,d,tk,os⟩:=s;obtain⟨hl,h⟩:=h;have hsub:=sub_enumerate;have hT:SSq true (Shared.heap ⟨hp,g,d,tk,os⟩) l xs:=(show Heap.IsTuple _ l xs from⟨_,hl,rfl,n,rfl⟩)
  wp_walk using AutoSeq1.wpAny_loadPart' hl
  refine wpAny_stack_any λst=>(PP ?_);split
  .rename_i c _ _ _ _ _
   cases(c==Value.type "enumerate")<;>(wp_walk using AutoSeq1.wpAny_loadPart' hl,zw hT;exact⟨_,rfl,h⟩)
  .wp_walk using AutoSeq1.wpAny_loadPart' hl,zw hT
   exact⟨_,rfl,h⟩
theorem JQ{E:Mn}(hL:SSq κ s.heap l xs)
  (h:∀h',IsEnum h' (s.heap.objs.size+1) s.heap.objs.size 0 .none->SIt κ h' s.heap.objs.size l 0->(∀b o,s.heap.get? b=some o->h'.get? b=some o)->Q (.ref<|s.heap.objs.size+1) { s with heap:=h' }) :
  wpAny (model prog w) A (call (.type "enumerate") [.ref l]) Q E s:=by
 cases κ with
 |false=>exact call_enumerate_list hL λh' he hi _ hk=>h h' he hi hk
 |true=>
  obtain⟨⟨c,dct,dt,sl⟩,hl,hc,n,hd⟩:=(show s.heap.IsTuple l xs from hL)
  replace hc:c=.type "tuple" :=hc;replace hd:dt=.seq xs n:=hd;subst hc hd;refine callType_new F.called_enumerate E8 (F.typeCall_enumerate_1 _) (F.newCall_enumerate_1 _) (λobj=>F.args_object_init_2 obj _) F.entry_enumerate_new (JP l xs n dct sl) ⟨hl,?_⟩;have hz:(zy true s.heap l).objs.size=s.heap.objs.size+1:=qg ..;have g2:(Cd true s.heap l).get? (zy true s.heap l).objs.size=some _:=jy _ rfl;have g1:(Cd true s.heap l).get? s.heap.objs.size=some _:=eQ _<|jy _ rfl;show _/\_;rw[hz]at g2 ⊢;exact⟨⟨_,g2,rfl⟩,h _ g2 (Ca g1) λb o x=>eQ _<|eQ _ x⟩
def E4(K:PN)(κ:Bool)(a:Addr):It:=
  ⟨λi H=>∃ xs x,Sq K κ H a xs/\xs[i]? = some x,
   λi H v H'=>∃p x,v=.ref p/\H p=none/\H'=upd H p (.tup [.int i,x])/\∀xs,Sq K κ H a xs->xs[i]? = some x,
   λi H=>∃xs,Sq K κ H a xs/\xs.length<=i⟩
theorem JR{n1:Nat}{ps:Pos}(a e it:Addr)(hne:e≠it) :
  jU P w K (.Tuple es n1 ps) (E4 K κ a) [e,it] e (λi h=>(∃old,IsEnum h e it i old)/\SIt κ h it a i) where
 mem:=KE
 obj:=λi h ⟨⟨old,q1⟩,q2⟩ c hc=>by
  simp only[Yan,hJ,or_false]at hc;rcases hc with rfl|rfl
  .exact⟨_,q1,λv e=>by cases e⟩
  .exact q2.obj
 keep:=λi h h' ⟨⟨old,q1⟩,q2⟩ k=>⟨⟨old,k e KE _ q1⟩,q2.keep λo x=>k it KE o x⟩
 item:=by
  intro X hP hw hK hc i tv s σ H E I hf ⟨⟨old,q1⟩,q2⟩ hg;subst hP hw hK;obtain⟨xs,x,hx,ex⟩:=hg;obtain⟨its,rv,p,hz⟩:=I.sq hx;obtain⟨ux,hux,rux⟩:=rv.get ex;have oe:=I.sq_out hx<|hf e KE;have oi:=I.sq_out hx<|hf it KE;have hi:i<its.toArray.size:=by have:=(Yaq.mp hux).1;simpa using this
  refine wpAny_pyNext_enum_itemD (JN (κ:=κ) (A:=X.A.in1) (I.ok.hd hc) it a oi its.toArray) q1 ⟨q2,p⟩ hi hne (by simp[hne,P9 oe]) λy h' tk b1 b2 b3 b4 b5 b6=>⟨_,rfl,?_⟩;have ey:y=ux:=by
   have:its[i]? = some y:=by simpa using b1
   rw[hux]at this;exact(PY this).symm
  subst ey;refine wpAny_letOwnedTupleGo_enum (s:={ s with heap:=h',toks:=tk+1 }) b2 λh2 c1 c2=>?_;have lt:∀{c o},s.heap.get? c=some o->c≠s.heap.objs.size:=λz=>jv<|dZ z;have el:=lt q1;have up:∀c o,c∉[e,it]->s.heap.get? c=some o->h2.get? c=some o:=λc o hc z=>by
   simp only[Yan,hJ,or_false,not_or]at hc;exact c2.extBut _ _ hc.1<|b6 c o hc.1 hc.2 z
  refine⟨.ref s.heap.objs.size,upd H s.heap.objs.size<|.tup [.int i,x],Inv.turnedN (s:=s) (t':=tk+1) [e,it] I up hf (cO _) ?_,rfl,⟨s.heap.objs.size,x,rfl,I.fresh,rfl,λxs' h'=>by rw[I.sq_inj h' hx];exact ex⟩,?_,λc hc=>?_⟩
  .refine⟨by rw[sizeLine_eq];simp,[.int i tk,y],.cons ⟨_,rfl⟩<|.cons rux .nil,?_⟩
   exact⟨_,c2.extBut _ _ (P9 el) b4,rfl,_,rfl⟩
  .exact⟨⟨_,by simpa using c1⟩,b3.1.keep λo z=>c2.extBut _ o (P9 hne) z⟩
  .have he:∃o,s.heap.get? c=some o:=by
    simp only[Yan,hJ,or_false]at hc;rcases hc with rfl|rfl
    .exact⟨_,q1⟩
    .obtain⟨o,z,_⟩:=q2.obj;exact⟨o,z⟩
   obtain⟨o,z⟩:=he;rw[aI<|lt z];exact(hf c hc).1
 done:=by
  intro X hP hw hK hc i tv s σ H E I hf ⟨⟨old,q1⟩,q2⟩ hg;subst hP hw hK;obtain⟨xs,hx,en⟩:=hg;obtain⟨its,rv,p,hz⟩:=I.sq hx;have l1:=rv.length;have oi:=I.sq_out hx<|hf it KE;refine wpAny_pyNext_enum_endD (JO (κ:=κ) (A:=X.A.in1) (I.ok.hd hc) it a its.toArray i (by simp;omega)) q1 ⟨rfl,q2,p⟩ λh' k=>⟨rfl,?_⟩;refine I.turnedL (t':=s.toks) [e,it] (λc o hc z=>?_) hf;simp only[Yan,hJ,or_false,not_or]at hc;exact k c o hc.2 z
 self:=λ_ _ _ _ _ st h=>let⟨⟨_,q⟩,_⟩:=st;wpAny_pyIter_enum q h
theorem JS(n b:Nat)(h:b=n+1\/b=n):n<=b:=E1
section
def wU(K:PN)(ta:TA):TI:=λσ H R=>ta σ H λvs H1=>∃κ a,vs=[.ref a]/\(∃xs,Sq K κ H1 a xs)/\R (E4 K κ a) H1
theorem JT{a:Expr}{ta:TA}{ps:Pos}{n1:Nat}(hg:Gl X "enumerate")(hm:X.mg "enumerate" = none)(ha:PA X [a] ta)(hs:{starEach [a] X.env=[(false,eval a X.env)]}) :
  PI X (.Tuple es n1 ps) (.Call (.Name "enumerate" p) [a] [] pos) (wU X.K ta):=by
 intro tv s σ H R I h;refine Call_<|fT I hg hm boot_enumerate (PyProof.Rows.callWith_type1 (bO (ha pos tv s σ H _ I h) λus s1 ⟨vs,H1,I1,r1,q1⟩=>?_) hs rfl);obtain⟨κ,l,rfl,⟨xs,hx⟩,q⟩:=q1;cases r1 with
 |cons r rr=>
  cases rr;cases r;obtain⟨its,rv,p1,hz⟩:=I1.sq hx;refine JQ p1 λh' a1 a2 k=>wpAny_pyIter_enum (s:={ s1 with heap:=h' }) a1 ?_;refine⟨_,[s1.heap.objs.size+1,s1.heap.objs.size],_,_,H1,rfl,I1.kept (t':=s1.toks) k,JR (κ:=κ) l _ _<|Nat.succ_ne_self _,⟨⟨_,a1⟩,a2⟩,λb hb=>?_,q⟩;have hb':s1.heap.objs.size<=b:=by
   simp only[Yan,hJ,or_false]at hb;exact JS _ _ hb
  exact I1.fpOk hb'<|I1.hok.fresh hb'
end
section
variable{E:XK}{c:Expr}{tc:TE}{t:TA}
def JU(X:Cx)(CX:mB)(E:XK)(tc:TE)(t:TA):TE:=λσ H Q=>tc σ H λx H1=>∃(f:Addr) (k:Nat) (fd:FuncData) (ps:Qx) (sp:Sp),x=.ref f/\FnOk X.prog X.w X.K X.mg X.base CX k f fd ps sp/\Room k X.A/\W.keepIn X.K (.ref f)=true/\Binds X.K fd ps []/\t σ H1 λvs H2=>sp vs H2 Q E
theorem JV(hx:dU CX X E)(hc:PE X c tc)(ha:PA X (e::es) t)
  (hcall:{eval (.Call c (e::es) [] pos) X.env=(do callWith pos (<-eval c X.env) [] (backTo pos<|starEach (e::es) X.env) (backToKw pos<|keywordEach [] X.env))})
  (he:{QD X e es}) (hpl:{QE X pos es}) :
  PE X (.Call c (e::es) [] pos) (JU X CX E tc t):=by
 intro tv s σ H Q I h;rw[hcall];refine PM<|bO (hc tv s σ H _ I h) λu s1 ⟨x,H1,I1,r1,f,k,fd,ps,sp,ex,F,hr,hk,hb,q1⟩=>?_;subst ex;cases r1;refine W.callWith_K (h₀:=X.base) I1.ok.mod.kin hk (bO (ha pos tv s1 σ H1 _ I1 q1) λus s2 ⟨vs,H2,I2,r,q⟩=>⟨I2.kIn,?_⟩) he hpl;exact pO F hr hb .nil hx I2 r (by rw[mZ];exact q)
end
namespace Fl
def quiet(f:Str):Qx:=["__setattr__", "__getattribute__", "__getattr__",f]
def E5(K:PN)(ns:Qx)(bmB:Qu):Qu->Bool
 |[]=>bmB==[]
 |v::r=>(v::r)==bmB||match v with
  | .ref a=>(match K.lookup a with
   |some ⟨_,_,.cls cd,_⟩=>W.nsOkIn K cd.ns&&ns.all (λn=>W.nsIn K cd.ns n==some none)&&E5 K ns bmB r
   |_=>false)
  |_=>false
def clsF(K:PN)(C:Addr)(bmB:Qu)(newId:String)(f:Str)(fI:Addr):Bool:=match K.lookup C with
 | some ⟨.type "type",_,.cls cd,sl⟩=>(match cd.mro,sl.toList with
  |.ref C'::bm,[_,_,_,_,some<|.builtin n,_]=>C'==C&&n==newId && !cd.hasDel&&cd.hasDict&&E5 K ("__init__" ::quiet f) bmB bm&&W.nsOkIn K cd.ns&&W.nsIn K cd.ns "__init__" == some (some<|.ref fI)&&(quiet f).all (λn=>W.nsIn K cd.ns n==some none)
  |_,_=>false)
 |_=>false
abbrev bmV:Qu:=[.type "ValueError",.type "Exception",.type "BaseException",.type "object"]
end Fl
section
variable{E:Mn}{R:Result->Shared->Prop}{t1 i1 t2 i2:Expr}{f1:List Expr}{it acc:Value}
theorem JW:compTurn (.ListComp elt [⟨t1,i1,f1,0⟩,⟨t2,i2,f2,0⟩] scope pos) 0 it acc env=(do
   standAt i1.pos
   match<-pyNext it with
   |none=>pure (.done .next)
   |some v=>
    letOwnedTupleGo t1 it v
    assign t1 env v
    let mut ok:=true
    for c in f1 do
     if ok then ok <-isTrue c env (eval c env)
    if ok then
     let x <-eval i2 env
     standAt i2.pos
     let x <-foldedSetIterable i2 env x
     let _ <-runOwn (.compStart (.ListComp elt [⟨t1,i1,f1,0⟩,⟨t2,i2,f2,0⟩] scope pos) 1 (<-holding [x] (pyIter x)) acc env) env
    again (.compLoop (.ListComp elt [⟨t1,i1,f1,0⟩,⟨t2,i2,f2,0⟩] scope pos) 0 it acc env)):=by rfl
theorem JX:compTurn (.ListComp elt [⟨t1,i1,f1,0⟩,⟨t2,i2,f2,0⟩] scope pos) 1 it acc env=(do
   standAt i2.pos
   match<-pyNext it with
   |none=>pure (.done .next)
   |some v=>
    letOwnedTupleGo t2 it v
    assign t2 env v
    let mut ok:=true
    for c in f2 do
     if ok then ok <-isTrue c env (eval c env)
    if ok then
     (do let _ <-call (.builtin "list.append") [acc,<-eval elt env])
    again (.compLoop (.ListComp elt [⟨t1,i1,f1,0⟩,⟨t2,i2,f2,0⟩] scope pos) 1 it acc env)):=by rfl
theorem JY
  (h0:codeAny (model prog w) A (.compLoop (.ListComp elt [⟨t1,i1,f1,0⟩,⟨t2,i2,f2,0⟩] scope pos) 1 it acc env) R s)
  (h:wpAny (model prog w) A (pyIter it) (λit' s'=>codeAny (model prog w) A (.compLoop (.ListComp elt [⟨t1,i1,f1,0⟩,⟨t2,i2,f2,0⟩] scope pos) 1 it' acc env) R s')
   (notedBy (model prog w) A env λx s'=>R (.error x) s') s) :
  codeAny (model prog w) A (.compStart (.ListComp elt [⟨t1,i1,f1,0⟩,⟨t2,i2,f2,0⟩] scope pos) 1 it acc env) R s:=by
 refine codeAny_of_tree ?_;show wpAny _ _ ((compStart (.ListComp elt [⟨t1,i1,f1,0⟩,⟨t2,i2,f2,0⟩] scope pos) 1 it acc env).onRaise (λx=>do noteFrame x env;standAt theWindowsPlace)) _ _ s;refine wpAny_notedAt ?_;unfold compStart;show wpAny _ _ (ask >>= _) _ _ s;refine PM<|wpAny_askSetting (wpAny_ite ?_);split
 .first
   |exact PM<|PP (PP<|And.intro rfl h0)
   |exact PP<|And.intro rfl h0
 .first
   |exact PM<|Qj (PM<|Qc<|PM<|P2 h (λit' s' h'=>PP<|And.intro rfl h') λ_ _ x=>x)
   |(refine PM (Qj ?_);show wpAny _ _ (standAt i2.pos >>= _) _ _ s;exact PM<|Qc<|PM<|P2 h (λit' s' h'=>PP<|And.intro rfl h') λ_ _ x=>x)
theorem JZ(I:Nat->Shared->Prop)
  (turn:∀ n s,I n s->wpAny (model prog w) A (pyNext it) (λr s₁=>match r with
   |none=>R (.ok .next) s₁
   | some v=>wpAny (model prog w) A (letOwnedTupleGo t2 it v) (λ_ s₁'=>wpAny (model prog w) A (assign t2 env v) (λ_ s₂=>
     wpAny (model prog w) A (forIn f2 true λc r=>if r=true then do let ok <- isTrue c env (eval c env);pure (ForInStep.yield ok) else pure (ForInStep.yield r)) (λok s₃=>
      if ok=true then wpAny (model prog w) A (eval elt env) (λx s₄=>
       wpAny (model prog w) A (call (.builtin "list.append") [acc,x]) (λ_ s₅=>∃m,m<n/\I m s₅) (λ_ _=>False) s₄) (λ_ _=>False) s₃
      else∃m,m<n/\I m s₃) (λ_ _=>False) s₂) (λ_ _=>False) s₁') (λ_ _=>False) s₁) (λ_ _=>False) s)
  (n:Nat) (h:I n s) :
  codeAny (model prog w) A (.compLoop (.ListComp elt [⟨t1,i1,f1,0⟩,⟨t2,i2,f2,0⟩] scope pos) 1 it acc env) R s:=by
 refine codeAny_loop rfl I (λn s hI=>?_) n h;show wpAny _ A ((compTurn (.ListComp elt [⟨t1,i1,f1,0⟩,⟨t2,i2,f2,0⟩] scope pos) 1 it acc env).onRaise (λx=>do noteFrame x env;theTreesLotGoes x)) _ _ s;refine wpAny_noted ?_;rw[JX];refine PM<|Qc (PM<|P2 (turn n s hI) (λr s₁ h₁=>?_) λ_ _ h'=>h'.elim);cases r with
 |none=>exact PP h₁
 |some v=>
  refine PM<|P2 h₁ (λ_ s₁' h₁'=>?_) λ_ _ h'=>h'.elim;refine PM<|P2 h₁' (λ_ s₂ h₂=>PM<|P2 h₂ (λok s₃ h₃=>?_) λ_ _ h'=>h'.elim) λ_ _ h'=>h'.elim;cases ok with
  |false=>exact PP ⟨rfl,h₃⟩
  |true=>
   exact PM<|PM (P2 h₃ (λx s₄ h₄=>PM<|P2 h₄ (λ_ s₅ h₅=>PP<|PP ⟨rfl,h₅⟩) λ_ _ h'=>h'.elim) λ_ _ h'=>h'.elim)
theorem J0(I:Nat->Shared->Prop)(hs:∀x,foldedSetIterable i2 env x=pure x)
  (turn:∀ n s,I n s->wpAny (model prog w) A (pyNext it) (λr s₁=>match r with
   |none=>R (.ok .next) s₁
   | some v=>wpAny (model prog w) A (letOwnedTupleGo t1 it v) (λ_ s₁'=>wpAny (model prog w) A (assign t1 env v) (λ_ s₂=>
     wpAny (model prog w) A (forIn f1 true λc r=>if r=true then do let ok <- isTrue c env (eval c env);pure (ForInStep.yield ok) else pure (ForInStep.yield r)) (λok s₃=>
      if ok=true then wpAny (model prog w) A (eval i2 env) (λx s₄=>
       wpAny (model prog w) A (pyIter x) (λitv s₅=>codeAny (model prog w) A (.compStart (.ListComp elt [⟨t1,i1,f1,0⟩,⟨t2,i2,f2,0⟩] scope pos) 1 itv acc env)
        (λr s₆=>r=.ok .next/\∃m,m<n/\I m s₆) s₅) (λ_ _=>False) s₄) (λ_ _=>False) s₃
      else∃m,m<n/\I m s₃) (λ_ _=>False) s₂) (λ_ _=>False) s₁') (λ_ _=>False) s₁) (λ_ _=>False) s)
  (n:Nat) (h:I n s) :
  codeAny (model prog w) A (.compLoop (.ListComp elt [⟨t1,i1,f1,0⟩,⟨t2,i2,f2,0⟩] scope pos) 0 it acc env) R s:=by
 refine codeAny_loop rfl I (λn s hI=>?_) n h;show wpAny _ A ((compTurn (.ListComp elt [⟨t1,i1,f1,0⟩,⟨t2,i2,f2,0⟩] scope pos) 0 it acc env).onRaise (λx=>do noteFrame x env;theTreesLotGoes x)) _ _ s;refine wpAny_noted ?_;rw[JW];refine PM<|Qc (PM<|P2 (turn n s hI) (λr s₁ h₁=>?_) λ_ _ h'=>h'.elim);cases r with
 |none=>exact PP h₁
 |some v=>
  refine PM<|P2 h₁ (λ_ s₁' h₁'=>?_) λ_ _ h'=>h'.elim;refine PM<|P2 h₁' (λ_ s₂ h₂=>PM<|P2 h₂ (λok s₃ h₃=>?_) λ_ _ h'=>h'.elim) λ_ _ h'=>h'.elim;cases ok with
  |false=>exact PP ⟨rfl,h₃⟩
  |true=>
   refine PM<|P2 h₃ (λx s₄ h₄=>PM<|Qc<|PM<|wpAny_of_eq (hs x) ?_) λ_ _ h'=>h'.elim;refine PM<|Qi (P2 h₄ (λitv s₅ h₅=>?_) λ_ _ h'=>h'.elim);refine PM<|wpAny_runOwn (codeAny_mono h₅ λr s₆ h₆=>?_);obtain⟨rfl,h₆⟩:=h₆;exact PP ⟨rfl,h₆⟩
end
def wV(g:TG)(tf:TT)(te:TE)(J:It)(D:Addr)(Q:QJ->St->Hp->Prop)(W:Nat->Nat->QJ->St->Hp->Prop):Prop:=
 ∀ i m ys σ2 H2,W i m ys σ2 H2->H2 D=some (.lst ys)/\((J.stop i H2/\Q ys σ2 H2)\/(J.go i H2/\∀ x H3,J.yld i H2 x H3->g x σ2 H3 λσ4 H4=>tf σ4 H4 λb H5=>
  if b=true then te σ4 H5 λv H6=>H6 D=some (.lst ys)/\ys.length<sizeLine/\∃m',m'<m/\W (i+1) m' (ys++[v]) σ4 (upd H6 D<|.lst<|ys++[v]) else∃m',m'<m/\W (i+1) m' ys σ4 H5))
def E6(g:TG)(tf:TT)(wi2:TI)(g2:TG)(tf2:TT)(te:TE)(J:It)(D:Addr)(Q:Hp->Prop)(W:Nat->Nat->QJ->St->Hp->Prop):Prop:=
 ∀ i m ys σ2 H2,W i m ys σ2 H2->H2 D=some (.lst ys)/\((J.stop i H2/\Q H2)\/(J.go i H2/\∀ x H3,J.yld i H2 x H3->g x σ2 H3 λσ4 H4=>tf σ4 H4 λb H5=>
  if b=true then wi2 σ4 H5 λJ2 H6=>∃W2:Nat->Nat->QJ->St->Hp->Prop,(∃k,W2 0 k ys σ4 H6)/\wV g2 tf2 te J2 D (λys' σ' H'=>∃m',m'<m/\W (i+1) m' ys' σ' H') W2 else∃m',m'<m/\W (i+1) m' ys σ4 H5))
def Ce(wi:TI)(nv:Nat)(sel:Qz)(g:TG)(tf:TT)(wi2:TI)(g2:TG)(tf2:TT)(te:TE):TE:=λσ H Q=>wi σ H λJ H1=>∀D,H1 D=none->
 ∃W:Nat->Nat->QJ->St->Hp->Prop,(∃m,W 0 m [] (hZ nv sel σ)<|upd H1 D<|.lst [])/\E6 g tf wi2 g2 tf2 te J D (Q<|.ref D) W
section
variable{s2:Shared}{target iter t2 i2:Expr}{g g2:TG}{tf tf2:TT}
theorem J1{Y:Cx}{D:Addr}{Q:QJ->St->Hp->Prop}{R:Result->Shared->Prop}{m0:Nat}{W:Nat->Nat->QJ->St->Hp->Prop}
  (hc:Y.calm=true) (hxe:Y.xe=λ_ _=>False) (hg:PG Y t2 g2) (hf:PF Y f2 tf2) (he:PE Y elt te) (I:Inv Y tv σ H s) (T:jU Y.prog Y.w Y.K t2 J fp it tn) (st:tn 0 s.heap) (f:∀b∈fp,eK Y tv H b)
  (w0:W 0 m0 ys σ H) (turn:wV g2 tf2 te J D Q W) (hR:∀ys' σ' H' s',Inv Y tv σ' H' s'->Q ys' σ' H'->R (.ok .next) s') :
  codeAny (model Y.prog Y.w) Y.A (.compStart (.ListComp elt [⟨target,iter,ifs,0⟩,⟨t2,i2,f2,0⟩] sc pos) 1 (.ref it) (.ref D) Y.env) R s:=by
 have stat:∀{σ':St} {H':Hp} {s':Shared},(∀b∈fp,H' b=none)->∀b∈fp,eK Y tv H' b:=λ{σ' H' s'} hn b hb=>⟨hn b hb,(f b hb).2⟩;have loop:codeAny (model Y.prog Y.w) Y.A (.compLoop (.ListComp elt [⟨target,iter,ifs,0⟩,⟨t2,i2,f2,0⟩] sc pos) 1 (.ref it) (.ref D) Y.env) R s:=by
  refine JZ (λn s'=>∃i ys σ' H',Inv Y tv σ' H' s'/\tn i s'.heap/\(∀b∈fp,H' b=none)/\W i n ys σ' H') ?_ m0 ⟨0,ys,_,_,I,st,λb hb=>(f b hb).1,w0⟩;rintro n s5 ⟨i,ys,σ5,H5,I5,st5,fr5,w5⟩;obtain⟨hD,⟨stop,qn⟩|⟨go,step⟩⟩:=turn i n ys σ5 H5 w5
  .refine bO (T.done Y rfl rfl rfl hc i tv s5 σ5 H5 _ I5 (stat (σ':=σ5) (s':=s5) fr5) st5 stop) λr s6 ⟨hr,I6⟩=>?_
   subst hr;exact hR _ _ H5 s6 I6 qn
  .refine bO (T.item Y rfl rfl rfl hc i tv s5 σ5 H5 _ I5 (stat (σ':=σ5) (s':=s5) fr5) st5 go) λr s6 ⟨u,hr,h6⟩=>?_
   subst hr;refine bO h6 λ_ s7 ⟨x,H7,I7,r7,y7,st7,fr7⟩=>?_;have I7':=I7.pinned (stat (σ':=σ5) (s':=s7) fr7)<|T.obj _ _ st7;have hg':=hg (tv++fj fp s7.heap) s7 σ5 H7 x u _ I7' r7<|step x H7 y7;rw[hxe]at hg';refine bO hg' λ_ s8 ⟨σ8,H8,I8,q8⟩=>?_;have hf':=hf _ s8 σ8 H8 _ I8 q8;rw[hxe]at hf';refine bO hf' λb s9 ⟨H9,I9,q9⟩=>?_;have back:∀{σ':St} {H':Hp} {s':Shared},Inv Y (tv++fj fp s7.heap) σ' H' s'->tn (i+1) s'.heap/\∀b∈fp,H' b=none:=λ{σ' H' s'} I'=>by
    refine⟨T.keep _ _ _ st7 λb hb o e=>(I'.pin (b,o)<|jz _<|jz _<|cH hb e).1,λb hb=>?_⟩;obtain⟨o,e,d⟩:=T.obj _ _ st7 b hb;exact(I'.pin (b,o)<|jz _<|jz _<|cH hb e).2.1
   cases b with
   |false=>
    rw[jx<|E8]at q9 ⊢;obtain⟨m',hm,w9⟩:=q9;exact⟨m',hm,i+1,ys,σ8,H9,I9.unpinned,(back I9).1,(back I9).2,w9⟩
   |true=>
    rw[oI rfl]at q9 ⊢;have he':=he _ s9 σ8 H9 _ I9 q9;rw[hxe]at he';refine bO he' λv sA ⟨y,HA,IA,rA,hDA,hz,m',hm,wA⟩=>?_;obtain⟨z,its,nn,rr,hl,e⟩:=IA.lstM hDA;refine call_meets F.slot_list_append ⟨_,e,rfl⟩ F.entry_list_append (F.args_list_append_2 _ _) (PySem.list_append _ its.toArray nn v (by rw[fJ];omega)) ⟨e,?_⟩;have IB:=IA.lset (its':=its++[v]) (f:=(·.push v)) (t':=sA.toks) hDA e KE (rr.append<|.cons rA .nil) (by rw[fZ,me];omega);exact⟨m',hm,i+1,ys++[y],σ8,_,IB.unpinned,(back IB).1,(back IB).2,wA⟩
 exact JY loop<|T.self _ 0 _ _ _ st loop
end
section
variable{s2:Shared}{target iter t2 i2:Expr}{fz:List Expr}{g g2:TG}{tf tf2:TT}
theorem J3{Q:VK}{E:Mn}{R:Value->Addr->Result->Shared->Prop}(hc:X.calm=true)
  (hg:∀s H fp,PG (X.lc sc vars sel s H fp) target g) (hf:∀s H fp,PF (X.lc sc vars sel s H fp) ifs tf) (hi2:∀s H fp,PI (X.lc sc vars sel s H fp) t2 i2 wi2) (hg2:∀s H fp,PG (X.lc sc vars sel s H fp) t2 g2) (hf2:∀s H fp,PF (X.lc sc vars sel s H fp) fz tf2) (he:∀s H fp,PE (X.lc sc vars sel s H fp) elt te) (hs2:∀a x,foldedSetIterable i2 (jH sc X.env a) x=pure x)
  (ok:kR sc X.env.scope=true) (so:qh X.N sc sel=true)
  (I2:Inv X tv σ H1 s2) (T:jU X.prog X.w X.K target J fp it tn) (st2:tn 0 s2.heap) (f2:∀b∈fp,eK X tv H1 b)
  (q:∀D,H1 D=none->∃W:Nat->Nat->QJ->St->Hp->Prop,(∃m,W 0 m [] (hZ vars.length sel σ)<|upd H1 D<|.lst [])/\E6 g tf wi2 g2 tf2 te J D (Q<|.ref D) W)
  (hR:∀D C H' s',Inv X tv σ H' s'->Q (.ref D) H'->(∃m,s'.heap.Ns C m)->eK X tv H' C->R (.ref D) C (.ok .next) s') :
  wpAny (model X.prog X.w) X.A (newList []) (λacc s₃=>wpAny (model X.prog X.w) X.A (newFunctionEnv sc X.env.globals (dJ X.env.cells sc.names []) [] X.env.qual none .none<|some X.env) (λcenv s₄=>
   codeAny (model X.prog X.w) X.A (.compStart (.ListComp elt [⟨target,iter,ifs,0⟩,⟨t2,i2,fz,0⟩] sc pos) 0 (.ref it) acc { cenv with scope:=relabel sc X.env }) (R acc cenv.locals) s₄) E s₃) E s2:=by
 refine P5 ?_;have hD0:H1 s2.heap.objs.size=none:=I2.hok.fresh<|cO _;obtain⟨W,⟨m0,w0⟩,turn⟩:=q _ hD0;have I3:Inv X tv σ (upd H1 s2.heap.objs.size<|.lst []) { s2 with heap:=s2.heap.push { cls:=.type "list",data:=.seq ([]:Qu).toArray },toks:=s2.toks }:=I2.lnew (ys:=[]) .nil<|k9 _;have ho2:∀b∈fp,∃o,s2.heap.get? b=some o/\∀v,o.data≠.cell v:=T.obj _ _ st2;have lt2:∀b∈fp,b<s2.heap.objs.size:=λb hb=>by obtain⟨o,e,_⟩:=ho2 b hb;exact dZ e
 have f3:∀b∈fp,eK X tv (upd H1 s2.heap.objs.size<|.lst []) b:=λb hb=>⟨by rw[aI<|jv<|lt2 b hb];exact(f2 b hb).1,(f2 b hb).2⟩;have ho3:∀b∈fp,∃o,(s2.heap.push { cls:=.type "list",data:=.seq ([]:Qu).toArray }).get? b=some o:=λb hb=>by obtain⟨o,e,_⟩:=ho2 b hb;exact⟨o,eQ _ e⟩
 refine EU (s:={ s2 with heap:=s2.heap.push { cls:=.type "list",data:=.seq ([]:Qu).toArray },toks:=s2.toks }) ?_;generalize hs3:({ s2 with heap:=s2.heap.push { cls:=.type "list",data:=.seq ([]:Qu).toArray },toks:=s2.toks }:Shared)=s3 at I3 ⊢;have kp23:∀b o,s2.heap.get? b=some o->s3.heap.get? b=some o:=λb o e=>by rw[<-hs3];exact eQ _ e
 have sz3:s3.heap.objs.size=s2.heap.objs.size+1:=by rw[<-hs3];exact qg ..
 have os3:s3.os=s2.os:=by rw[<-hs3]
 have ho3':∀b∈fp,∃o,s3.heap.get? b=some o:=λb hb=>by rw[<-hs3];exact ho3 b hb
 have I4:=EV (vars:=vars) I3 ok so f3 ho3' I2.ok.kind;have kp4:∀b o,s3.heap.get? b=some o->(pushCells (s3.heap.push { cls:=.type "dict",data:=.dict #[] }) sc.names).get? b=some o:=λb o e=>pushCells_keeps _ _ _ _<|eQ _ e;have st4:tn 0 (pushCells (s3.heap.push { cls:=.type "dict",data:=.dict #[] }) sc.names):=T.keep _ _ _ st2 λb hb o e=>kp4 b o<|kp23 b o e
 have stat:∀{H':Hp},(∀b∈fp,H' b=none)->∀b∈fp,eK (X.lc sc vars sel s3 (upd H1 s2.heap.objs.size<|.lst []) fp) [] H' b:=λ{H'} hn b hb=>by
  refine⟨hn b hb,(I4.ok.exf b hb).1,I4.ok.exfs b hb,.inl hb,λx c e z=>(I4.ok.exf b hb).2 x c e z,λp hp=>PQ (show p∈([]:Lb) from hp)<|KE⟩
 have loop:codeAny (model X.prog X.w) X.A (.compLoop (.ListComp elt [⟨target,iter,ifs,0⟩,⟨t2,i2,fz,0⟩] sc pos) 0 (.ref it) (.ref s2.heap.objs.size)<|jH sc X.env s3.heap.objs.size)
   (R (.ref s2.heap.objs.size) s3.heap.objs.size) { s3 with heap:=pushCells (s3.heap.push { cls:=.type "dict",data:=.dict #[] }) sc.names }:=by
  refine J0 (λn s'=>∃i ys σ' H',Inv (X.lc sc vars sel s3 (upd H1 s2.heap.objs.size<|.lst []) fp) [] σ' H' s'/\tn i s'.heap/\(∀b∈fp,H' b=none)/\W i n ys σ' H') (hs2 _) ?_ m0
   ⟨0,[],_,_,I4,st4,λb hb=>(f3 b hb).1,w0⟩
  rintro n s5 ⟨i,ys,σ5,H5,I5,st5,fr5,w5⟩;obtain⟨hD,⟨stop,qn⟩|⟨go,step⟩⟩:=turn i n ys σ5 H5 w5
  .refine bO (T.done (X.lc sc vars sel s3 (upd H1 s2.heap.objs.size<|.lst []) fp) rfl rfl rfl hc i [] s5 σ5 H5 _ I5 (stat fr5) st5 stop) λr s6 ⟨hr,I6⟩=>?_
   subst hr;have un:Un (dO X.stack) fp H1 H5 s2.heap s6.heap:=by
    have a:Un (dO X.stack) fp H1 (upd H1 s2.heap.objs.size<|.lst []) s2.heap s3.heap:=Un.laid kp23 (cO _) hD0;exact a.trans I6.base
   have I7:Inv X tv σ H5 s6:=I2.call' (ch:=fp) (I6.os.trans os3) un I6.hok I6.bare λb hb=>⟨(f2 b hb).2.2.2.1,(f2 b hb).2.1,(f2 b hb).2.2.2.2.1,(f2 b hb).2.2.2.2.2⟩;refine hR _ _ H5 s6 I7 qn ?_ ?_
   .obtain⟨m,hn,_⟩:=I6.loc
    exact⟨m,hn⟩
   .exact I3.fpOk (cO _) I6.free
  .refine bO (T.item (X.lc sc vars sel s3 (upd H1 s2.heap.objs.size<|.lst []) fp) rfl rfl rfl hc i [] s5 σ5 H5 _ I5 (stat fr5) st5 go) λr s6 ⟨u,hr,h6⟩=>?_
   subst hr;refine bO h6 λ_ s7 ⟨x,H7,I7,r7,y7,st7,fr7⟩=>?_;have I7':=I7.pinned (stat fr7)<|T.obj _ _ st7;refine bO (hg _ _ _ _ s7 σ5 H7 x u _ I7' r7<|step x H7 y7) λ_ s8 ⟨σ8,H8,I8,q8⟩=>?_;refine bO (hf _ _ _ _ s8 σ8 H8 _ I8 q8) λb s9 ⟨H9,I9,q9⟩=>?_;have back:∀{σ':St} {H':Hp} {s':Shared},Inv (X.lc sc vars sel s3 (upd H1 s2.heap.objs.size<|.lst []) fp) ([]++fj fp s7.heap) σ' H' s'->tn (i+1) s'.heap/\∀b∈fp,H' b=none:=λ{σ' H' s'} I'=>by
    refine⟨T.keep _ _ _ st7 λb hb o e=>(I'.pin (b,o)<|jz _<|jz _<|cH hb e).1,λb hb=>?_⟩;obtain⟨o,e,d⟩:=T.obj _ _ st7 b hb;exact(I'.pin (b,o)<|jz _<|jz _<|cH hb e).2.1
   cases b with
   |false=>
    rw[jx<|E8]at q9 ⊢;obtain⟨m',hm,w9⟩:=q9;exact⟨m',hm,i+1,ys,σ8,H9,I9.unpinned,(back I9).1,(back I9).2,w9⟩
   |true=>
    rw[oI rfl]at q9 ⊢;refine bO (hi2 _ _ _ _ s9 σ8 H9 _ I9 q9) λv sA hA=>bO hA λitv sB hB=>?_;obtain⟨it2,fp2,tn2,J2,HB,e2,IB,T2,stB,fB,W2,⟨k0,wB⟩,tr2⟩:=hB;subst e2;exact J1 (Y:=X.lc sc vars sel s3 (upd H1 s2.heap.objs.size<|.lst []) fp) hc rfl (hg2 _ _ _) (hf2 _ _ _) (he _ _ _) IB T2 stB fB wB tr2 λys' σ' H' s' I' ⟨m',hm,w'⟩=>⟨rfl,m',hm,i+1,ys',σ',H',I'.unpinned,(back I').1,(back I').2,w'⟩
 exact codeAny_compStart_list loop<|T.self _ 0 _ _ _ st4 loop
theorem J4{wi:TI}(vars:Qx)(sel:Qz)(hc:X.calm=true)(hi:PI X target iter wi)
  (ok:kR sc X.env.scope=true) (so:qh X.N sc sel=true)
  (hg:∀s H fp,PG (X.lc sc vars sel s H fp) target g) (hf:∀s H fp,PF (X.lc sc vars sel s H fp) ifs tf) (hi2:∀s H fp,PI (X.lc sc vars sel s H fp) t2 i2 wi2) (hg2:∀s H fp,PG (X.lc sc vars sel s H fp) t2 g2) (hf2:∀s H fp,PF (X.lc sc vars sel s H fp) fz tf2) (he:∀s H fp,PE (X.lc sc vars sel s H fp) elt te) (hs2:∀a x,foldedSetIterable i2 (jH sc X.env a) x=pure x)
  (hs:autoParam (∀x,foldedSetIterable iter X.env x=pure x) QN._auto_1):PE X (.ListComp elt [⟨target,iter,ifs,0⟩,⟨t2,i2,fz,0⟩] sc pos) (Ce wi vars.length sel g tf wi2 g2 tf2 te):=by
 intro tv s σ H Q I h;rw[eval_ListComp];have ok':=ok;simp only[kR,cX,PV]at ok';refine Qn (use:=none) rfl hs (B5<|zn I ok) ok'.1.1 (λx hx hl=>?_) ?_
 .obtain⟨n,k⟩:=x
  have hl':k=.local:=hl;subst hl';exact zm ok'.1.2 hx
 .refine bO (hi tv s σ H _ I h) λv s1 h1=>bO h1 λitv s2 h2=>?_
  obtain⟨it,fp,tn,J,H2,e,I2,T,st2,f2,q⟩:=h2;subst e;refine J3 (Q:=Q) hc hg hf hi2 hg2 hf2 he hs2 ok so I2 T st2 f2 q λD C H' s' I' q' hn fC=>?_;obtain⟨m,hn⟩:=hn;refine⟨m,hn,λh' hs'=>?_⟩;obtain⟨f0,f1,f2,f3,f4,f5⟩:=fC;exact⟨.ref D,H',I'.turned (t':=s'.toks) (λb o hb e=>(hs'.2 b hb).trans e) f0 f1 f3 f4 f5,rfl,q'⟩
end
section
theorem Inv.gone{n:Str}{v:Option Value}(I:Inv X tv σ H s)(hN:X.N.Nodup)(hi:X.N[i]? = some n)
  (hl:∀(j:Nat) (y:Str) (u:V),X.N[j]? = some y->σ[j]? = some (some u)->mm X.env.scope y->∃w,RelV u w/\vS X.env s.heap m y w)
  (hn:h'.Ns X.env.locals (λy=>if y=n then v else m y)) (hs:Heap.SameBut X.env.locals s.heap h'):Inv X tv (σ.set i none) H { s with heap:=h',toks:=t' }:=by
 have J:=I.names (t':=t') hn hs;refine⟨J.ok,J.os,J.bare,J.base,⟨_,hn,λj y u e1 e2 e3=>?_⟩,J.cell,J.free,J.freeC,J.pin,J.hok,by rw[dQ];exact I.len⟩
 by_cases hj:i=j
 .subst hj
  by_cases hL:i<σ.length
  .rw[e9 hL]at e2;cases e2
  .rw[fi (by rw[dQ];omega)]at e2;cases e2
 .rw[d6 hj]at e2
  obtain⟨w,r,q⟩:=hl j y u e1 e2 e3;refine⟨w,r,?_⟩;rcases q with⟨k,e⟩|⟨k,c,e,z⟩
  .refine .inl ⟨k,?_⟩
   have:y≠n:=λz=>hj<|iH hN hi (z▸e1);show(if y=n then v else m y)=_;rw[jx this];exact e
  .exact .inr ⟨k,c,e,z.sameBut hs<|I.cne y c e⟩
end
section
variable{sp:Sp}{E:XK}{t:TA}
def Ka(X:Cx)(CX:mB)(sp:Sp)(t:TA):TE:=λσ H Q=>t σ H λvs H1=>∃E:XK,sp vs H1 Q E/\∀tv s e s',Inv X tv σ H1 s->CX X.stack H1 s E e s'->X.xe e s'
theorem Kb(F:FnOk X.prog X.w X.K X.mg X.base CX k f fd ps sp)(hr:Room k X.A)(hg:Gl X x)(hm:X.mg x=some (.ref f))(hk:W.keepIn X.K (.ref f)=true)(hb:Binds X.K fd ps [])
  (ha:PA X (e::es) t) (hdb:(QA x:)) (he:{QD X e es}) (hpl:{QE X pos es}) :
  PE X (.Call (.Name x p) (e::es) [] pos) (Ka X CX sp t):=by
 intro tv s σ H Q I h;refine Qk<|fD I hg hm ?_ hdb;refine W.callWith_K (h₀:=X.base) I.ok.mod.kin hk (bO (ha pos tv s σ H _ I h) λus s1 ⟨vs,H1,I1,r,E,q,hx⟩=>⟨I1.kIn,?_⟩) he hpl;have hl:us.length=ps.length:=by rw[<-r.length];exact F.len _ _ _ _ q
 have hb':=hb s1 us I1.kIn (by rw[mZ];exact hl);rw[mZ]at hb';refine wpAny_call<|codeAny_mono (F.run X.A X.stack s1 H1 ⟨us,[]⟩ us vs Q E hr I1.env0 hb' r q) λr s' hq=>?_;cases r with
 |error e=>exact hx tv s1 e s' I1 hq
 |ok fl=>
  cases fl with
  |ret u=>exact I1.after hq|next=>exact P8 hq|brk=>exact P8 hq|cont=>exact P8 hq
end
end L2
namespace LP
open PySem PySem.Spec PyProof.Rows L2
variable{n k b i j m j2:Nat}{dx od an:Option Addr}{K:PN}{a f fa:Addr}{vs us:QJ}{e c tg elt target iter ix:Expr}{H H1 H2 H0:Hp}{o:HO}{σ:L2.St}{X:Cx}{EX:XK}{pos p p2 pos' spos apos cpos np bpos q2:Pos}{x qual name:Str}{op:CmpOp}{es ifs:List Expr}{T U:Nat->Qy}{fd:FuncData}{ps vars L:Qx}{tv:Lb}{s:Qv}{lo hi:Option Int}{st:Stmt}{sts body:List Stmt}{sc:Scope}{sel:Qz}{P rs T1:K4}{mg:Qt}{base h:Heap}{q q0:Rat}{r l row lead:Qw}{osl sl:Array (Option Value)}{v':Nat->Int}{A:Nat->Nat->Int}{XP:(Qt)->Heap->Prop}{YP:World->Heap->Prop}
set_option genInjectivity true in
set_option genInjectivity true in
inductive D where
 |non|bl (b:Bool)|int (i:Int)|str (x:Str)|tup (xs:List D)|lst (xs:List D)|dic|pen|cls (n:Str)|exc (n:Str)|ty (n:String)|scr (xs:List D)|pl (k:Nat) (b:Addr)
abbrev QG:=List D
abbrev QH:=D->Prop
variable{ds xs ys:QG}{d y:D}{xss:List QG}{Q:QH}{Q' QL:QG->Prop}
structure Wd where
 G:Hp
 Pn:Addr->Prop
variable{W' W1 W2 W0:Wd}
def KT(K:PN)(a:Addr)(vs:QJ):Prop:=
 ∃(o:Obj) (its:Array Value) (n:Nat),K.lookup a=some o/\o.cls=.type "tuple" /\o.data=.seq its n/\its.size<=sizeLine/\Vals vs its.toList
def jb(K:PN)(n:Str):Option Addr:=match W.nsIn K mainGlobals n with|some (some<|.ref a)=>some a|_=>none
def xtab:List (Str×Str×Str×Int):=[("NotStrong1", "NotStrong", "size",1),("NotStrong2", "NotStrong", "size",2),("NotStrong3", "NotStrong", "size",3),("NotStrong4", "NotStrong", "size",4),("NotStrong5", "NotStrong", "size",5),("NoText0", "NoText", "row",0),("NoText1", "NoText", "row",1),("NoText2", "NoText", "row",2),("NoText3", "NoText", "row",3),("NoText4", "NoText", "row",4),("NoText5", "NoText", "row",5),("NoText6", "NoText", "row",6),("NoText7", "NoText", "row",7),("NoText8", "NoText", "row",8),("NoText9", "NoText", "row",9),("NoText10", "NoText", "row",10),("NoText11", "NoText", "row",11),("NoText12", "NoText", "row",12),("NoText13", "NoText", "row",13),("NoText14", "NoText", "row",14),("NoText15", "NoText", "row",15)]
def pX(n:Str):Option (Str×Str×Int):=(xtab.find? λr=>r.1==n).map (·.2)
def pY(n:Str):Str:=match pX n with|some r=>r.1|none=>n
def qj(C a:Addr)(dx:Option Addr):HO:=.ext λh=>∃oe,h.get? a=some oe/\oe.cls=.ref C/\W.notCls oe=true/\oe.dict=dx/\∃vs,oe.data=.fields vs
def XD(W:Wd)(n:Str)(dx:Option Addr):Prop:=∀c f k,pX n=some (c,f,k)->∃d,dx=some d/\W.G d=some (.xd [(f,.int k)])
theorem XD.none{W:Wd}{n:Str}(h:pX n=none):XD W n dx:=λc f k e=>by rw[h]at e;cases e
theorem XD.mono{W:Wd}{n:Str}(g:∀a o,W.G a=some o->W'.G a=some o)(h:XD W n dx):XD W' n dx:=λc f k e=>let⟨d,e1,e2⟩:=h c f k e;⟨d,e1,g _ _ e2⟩
theorem Kc{n:Str}(h:pX n=none):pY n=n:=by unfold pY;rw[h]
def AtR(K:PN)(W:Wd)(a:Addr)(k:Nat)(b:Addr):Prop:=match k with|0=>a=b|1=>∃C dx,W.G a=some (.ins C dx [("standing",.ref b)])/\jb K "Desk" = some C|_=>∃C dx,W.G a=some (qj C a<|some dx)/\jb K "TooGreat" = some C/\W.G dx=some (.xd [("many",.int 7),("most",.int 5)])
theorem AtR.keep{W:Wd}{b:Addr}(g:∀a o,W.G a=some o->(∀us,o≠.lst us)->W'.G a=some o)(h:AtR K W a k b):AtR K W' a k b:=by unfold AtR at h ⊢;split;exact h;obtain⟨C,dx,h1,h2⟩:=h;exact⟨C,dx,g _ _ h1<|λ_ z=>HO.noConfusion z,h2⟩;rename_i h0 h1;split at h;exact PQ rfl h0;exact PQ rfl h1;obtain⟨C,dx,q1,q2,q3⟩:=h;exact⟨C,dx,g _ _ q1 (λ_ z=>by unfold qj at z;cases z),q2,g _ _ q3 λ_ z=>by cases z⟩
def KL(K:PN)(a:Addr)(vs:QJ):Prop:=
 ∃(o:Obj) (its:Array Value) (n:Nat),K.lookup a=some o/\o.cls=.type "list" /\o.dict=none/\o.data=.seq its n/\its.size<=sizeLine/\Vals vs its.toList
mutual
inductive Rep (K:PN) (W:Wd):V->D->Prop
 |non:Rep K W .non .non
 |bl (b:Bool):Rep K W (.bl b) (.bl b)
 |int (i:Int):Rep K W (.int i) (.int i)
 |str (x:Str):Rep K W (.str x) (.str x)
 |tup {a:Addr} {vs:QJ} {ds:QG}:W.G a=some (.tup vs)->Reps K W vs ds->Rep K W (.ref a) (.tup ds)
 |ktup {a:Addr} {vs:QJ} {ds:QG}:KT K a vs->Reps K W vs ds->Rep K W (.ref a) (.tup ds)
 |lst {a:Addr} {vs:QJ} {ds:QG}:W.G a=some (.lst vs)->Reps K W vs ds->Rep K W (.ref a) (.lst ds)
 |scr {a:Addr} {vs:QJ} {ds:QG}:((∃o,W.G a=some (.frz o<|.lst vs))\/KL K a vs)->Reps K W vs ds->Rep K W (.ref a) (.scr ds)
 |dic {a:Addr}:W.G a=some (.dK [])->Rep K W (.ref a) .dic
 |pen {a:Addr}:W.Pn a->Rep K W (.ref a) .pen
 |cls {a:Addr} {n:Str}:jb K n=some a->Rep K W (.ref a) (.cls n)
 |exc {a C:Addr} {n:Str} {dx:Option Addr}:W.G a=some (qj C a dx)->jb K (pY n)=some C->XD W n dx->Rep K W (.ref a) (.exc n)
 |ty (n:String):Rep K W (.ty n) (.ty n)
 |pl {a:Addr} {k:Nat} {b:Addr}:AtR K W a k b->Rep K W (.ref a) (.pl k b)
inductive Reps (K:PN) (W:Wd):QJ->QG->Prop
 |nil:Reps K W [] []
 |cons {v:V} {d:D} {vs:QJ} {ds:QG}:Rep K W v d->Reps K W vs ds->Reps K W (v::vs) (d::ds)
end
section
variable{W:Wd}
mutual
theorem Rep.mono(g:∀a o,W.G a=some o->W'.G a=some o)(p:∀a,W.Pn a->W'.Pn a):∀{v:V} {d:D},Rep K W v d->Rep K W' v d
 |_,_,.non=>.non|_,_,.bl b=>.bl b|_,_,.int i=>.int i|_,_,.str x=>.str x|_,_,.tup e r=>.tup (g _ _ e)<|Reps.mono g p r
 |_,_,.ktup e r=>.ktup e<|Reps.mono g p r
 |_,_,.lst e r=>.lst (g _ _ e)<|Reps.mono g p r
 |_,_,.scr e r=>.scr (e.elim (λ⟨o,z⟩=>.inl ⟨o,g _ _ z⟩) .inr)<|Reps.mono g p r
 |_,_,.dic e=>.dic<|g _ _ e
 |_,_,.pen e=>.pen<|p _ e
 |_,_,.cls e=>.cls e|_,_,.exc e h x=>.exc (g _ _ e) h<|x.mono g
 |_,_,.ty n=>.ty n|_,_,.pl h=>.pl<|h.keep λa o e _=>g a o e
theorem Reps.mono(g:∀a o,W.G a=some o->W'.G a=some o)(p:∀a,W.Pn a->W'.Pn a):∀{vs:QJ} {ds:QG},Reps K W vs ds->Reps K W' vs ds
 |_,_,.nil=>.nil|_,_,.cons r t=>.cons (Rep.mono g p r)<|Reps.mono g p t
end
theorem Reps.length:∀{vs:QJ} {ds:QG},Reps K W vs ds->vs.length=ds.length
 |_,_,.nil=>rfl|_,_,.cons _ t=>by simp[Reps.length t]
theorem Reps.get:∀{vs:QJ} {ds:QG} {i:Nat} {d:D},Reps K W vs ds->ds[i]? = some d->∃v,vs[i]? = some v/\Rep K W v d
 |_,_,_,_,.nil,e=>by simp at e|_,_,0,_,.cons r _,e=>by simp at e;subst e;exact⟨_,rfl,r⟩|_,_,i+1,d,.cons _ t,e=>by obtain⟨u,h1,h2⟩:=Reps.get (i:=i) (d:=d) t (by simpa using e);exact⟨u,by simpa using h1,h2⟩
theorem Reps.append:∀{vs us:QJ} {ds es:QG},Reps K W vs ds->Reps K W us es->Reps K W (vs++us) (ds++es)
 |_,_,_,_,.nil,s=>s|_,_,_,_,.cons r t,s=>.cons r<|Reps.append t s
theorem Reps.take:∀{vs:QJ} {ds:QG} (n:Nat),Reps K W vs ds->Reps K W (vs.take n) (ds.take n)
 |_,_,0,_=>.nil|_,_,_+1,.nil=>.nil|_,_,n+1,.cons r t=>.cons r<|Reps.take n t
theorem Reps.drop:∀{vs:QJ} {ds:QG} (n:Nat),Reps K W vs ds->Reps K W (vs.drop n) (ds.drop n)
 |_,_,0,r=>r|_,_,_+1,.nil=>.nil|_,_,n+1,.cons _ t=>Reps.drop n t
theorem Reps.set{v:V}{d:D}(r:Rep K W v d):∀{vs:QJ} {ds:QG} (i:Nat),Reps K W vs ds->Reps K W (vs.set i v) (ds.set i d)
 |_,_,_,.nil=>.nil|_,_,0,.cons _ t=>.cons r t|_,_,i+1,.cons q t=>.cons q<|Reps.set r i t
theorem Reps.rev(r:Reps K W vs ds):Reps K W vs.reverse ds.reverse:=by
 induction vs generalizing ds with
 |nil=>cases r;exact .nil
 |cons v vs ih=>cases r with|cons r t=>rw[yP,yP];exact(ih t).append<|.cons r .nil
theorem Reps.one(r:Reps K W us [d]):∃v,us=[v]/\Rep K W v d:=by cases r with|cons r t=>cases t;exact⟨_,rfl,r⟩
theorem Reps.two{e:D}(r:Reps K W us [d,e]):∃v u,us=[v,u]/\Rep K W v d/\Rep K W u e:=by cases r with|cons r t=>cases t with|cons r' t=>cases t;exact⟨_,_,rfl,r,r'⟩
end
def ZpO(H:Hp)(a:Addr):Prop:=∃i j k:Int,H a=some (.lst [.int i,.int j,.int k])
structure WOk(W:Wd)(H:Hp):Prop where
 g:∀a o,W.G a=some o->H a=some o
 p:∀a,W.Pn a->ZpO H a/\W.G a=none
structure Ext(W:Wd)(H:Hp)(W':Wd)(H':Hp):Prop where
 ok:WOk W' H'
 g:∀a o,W.G a=some o->W'.G a=some o
 p:∀a,W.Pn a->W'.Pn a
 gf:∀a,W.G a=none->W'.G a≠none->H a=none
 pf:∀a,¬W.Pn a->W'.Pn a->H a=none
 h:∀a o,H a=some o->¬W.Pn a->H' a=some o
section
variable{W:Wd}
theorem Ext.refl(ok:WOk W H):Ext W H W H:=⟨ok,λ_ _ e=>e,λ_ e=>e,λ_ e n=>PQ e n,λ_ n e=>PQ e n,λ_ _ e _=>e⟩
theorem ZpO.ne(p:ZpO H a):H a≠none:=by obtain⟨_,_,_,e⟩:=p;rw[e];simp
theorem Ext.isN(x:Ext W H W1 H1)(h:H1 a=none):H a=none:=by
 cases q:H a with
 |none=>rfl
 |some o=>
  by_cases hp:W.Pn a;exact PQ h<|(x.ok.p a<|x.p a hp).1.ne
  rw[x.h a o q hp]at h;cases h
theorem Ext.trans(x:Ext W H W1 H1)(y:Ext W1 H1 W2 H2):Ext W H W2 H2 where
 ok:=y.ok
 g:=λa o e=>y.g a o<|x.g a o e
 p:=λa e=>y.p a<|x.p a e
 gf:=λa e n=>by
  cases q:W1.G a with
  |none=>exact x.isN<|y.gf a q n
  |some o=>exact x.gf a e (by rw[q];simp)
 pf:=λa e n=>by by_cases q:W1.Pn a;exact x.pf a e q;exact x.isN<|y.pf a q n
 h:=λa o e n=>y.h a o (x.h a o e n) λq=>by have:=x.pf a n q;rw[e]at this;cases this
theorem Ext.rep(x:Ext W H W1 H1){v:V}(r:Rep K W v d):Rep K W1 v d:=r.mono x.g x.p
theorem Ext.reps(x:Ext W H W1 H1){v:QJ}{d:QG}(r:Reps K W v d):Reps K W1 v d:=r.mono x.g x.p
def Wd.put(W:Wd)(a:Addr)(o:HO):Wd:=⟨upd W.G a o,W.Pn⟩
theorem Ext.put{a:Addr}{o:HO}(ok:WOk W H)(h:H a=none):Ext W H (W.put a o) (upd H a o) where
 ok:=⟨λb u e=>by
   unfold Wd.put at e;dsimp only at e
   by_cases hb:b=a
   .subst hb;rw[aV]at e ⊢;exact e
   .rw[aI hb]at e ⊢;exact ok.g b u e,
  λb hb=>by
   have⟨p1,p2⟩:=ok.p b hb;have hne:b≠a:=λz=>p1.ne (by rw[z];exact h);refine⟨?_,by unfold Wd.put;dsimp only;rw[aI hne];exact p2⟩;obtain⟨i,j,k,e⟩:=p1;exact⟨i,j,k,by rw[aI hne];exact e⟩⟩
 g:=λb u e=>by
  have:b≠a:=λz=>by have:=ok.g b u e;rw[z,h]at this;cases this
  unfold Wd.put;dsimp only;rw[aI this];exact e
 p:=λb e=>e
 gf:=λb e n=>by by_cases hb:b=a;rw[hb];exact h;unfold Wd.put at n;dsimp only at n;rw[aI hb]at n;exact PQ e n
 pf:=λb n e=>PQ e n
 h:=λb u e _=>by
  have:b≠a:=λz=>by rw[z,h]at e;cases e
  rw[aI this];exact e
theorem Ext.new(ok:WOk W H)(h:H a=none):Ext W H W (upd H a o) where
 ok:=⟨λb u e=>by
   have q:=ok.g b u e;have:b≠a:=λz=>by rw[z,h]at q;cases q
   rw[aI this];exact q,
  λb hb=>by
   have⟨p1,p2⟩:=ok.p b hb;have hne:b≠a:=λz=>p1.ne (by rw[z];exact h);obtain⟨i,j,k,e⟩:=p1;exact⟨⟨i,j,k,by rw[aI hne];exact e⟩,p2⟩⟩
 g:=λ_ _ e=>e
 p:=λ_ e=>e
 gf:=λ_ e n=>PQ e n
 pf:=λ_ n e=>PQ e n
 h:=λb u e _=>by
  have:b≠a:=λz=>by rw[z,h]at e;cases e
  rw[aI this];exact e
theorem WOk.fresh(ok:WOk W H)(h:H a=none):W.G a=none/\¬W.Pn a:=by
 refine⟨?_,λp=>(ok.p a p).1.ne h⟩;cases q:W.G a with
 |none=>rfl|some o=>have:=ok.g a o q;rw[h]at this;cases this
theorem Ext.pub(x:Ext W H W1 H1)(h:H a=none)(e:H1 a=some o)(n:¬W1.Pn a)(ng:W1.G a=none):Ext W H (W1.put a o) H1 where
 ok:=⟨λb u q=>by
   unfold Wd.put at q
   by_cases hb:b=a
   .subst hb;dsimp only at q;rw[aV]at q;cases q;exact e
   .dsimp only at q;rw[aI hb]at q;exact x.ok.g b u q,
  λb hb=>by
   have⟨p1,p2⟩:=x.ok.p b hb;have hne:b≠a:=λz=>n (by rw[<-z];exact hb);exact⟨p1,by unfold Wd.put;dsimp only;rw[aI hne];exact p2⟩⟩
 g:=λb u q=>by
  have q1:=x.g b u q;have:b≠a:=λz=>by rw[z,ng]at q1;cases q1
  unfold Wd.put;dsimp only;rw[aI this];exact q1
 p:=x.p
 gf:=λb q m=>by by_cases hb:b=a;rw[hb];exact h;unfold Wd.put at m;dsimp only at m;rw[aI hb]at m;exact x.gf b q m
 pf:=x.pf
 h:=x.h
theorem qY(ng:W.G a=none):∀b u,W.G b=some u->(W.put a o).G b=some u:=λb u q=>by
 have:b≠a:=λz=>by rw[z,ng]at q;cases q
 unfold Wd.put;dsimp only;rw[aI this];exact q
theorem Ext.chg{o':HO}(x:Ext W H W1 H1)(h:H a=none)(e:H1 a=some o)(n:¬W1.Pn a)(ng:W1.G a=none):Ext W H W1 (upd H1 a o') where
 ok:=⟨λb u q=>by
   have:b≠a:=λz=>by rw[z,ng]at q;cases q
   rw[aI this];exact x.ok.g b u q,
  λb hb=>by
   have⟨p1,p2⟩:=x.ok.p b hb;have hne:b≠a:=λz=>n (by rw[<-z];exact hb);obtain⟨i,j,k,e⟩:=p1;exact⟨⟨i,j,k,by rw[aI hne];exact e⟩,p2⟩⟩
 g:=x.g
 p:=x.p
 gf:=x.gf
 pf:=x.pf
 h:=λb u q m=>by
  have:b≠a:=λz=>by rw[z,h]at q;cases q
  rw[aI this];exact x.h b u q m
end
inductive SV where
 |un|d (x:D)|ow (xs:QG)|oo (xss:List QG)
abbrev cR:=List SV
variable{ρ ρ':cR}
def Own1(K:PN)(H0:Hp)(W:Wd)(H:Hp)(b:Addr)(xs:QG):Prop:=∃vs,H b=some (HO.lst vs)/\W.G b=none/\¬W.Pn b/\H0 b=none/\Reps K W vs xs
structure OwnT(K:PN)(H0:Hp)(W:Wd)(H:Hp)(a:Addr)(bs:List Addr)(xss:List QG):Prop where
 a1:H a=some (HO.lst<|bs.map V.ref)
 a2:W.G a=none
 a3:¬W.Pn a
 a4:H0 a=none
 nd:(a::bs).Nodup
 len:bs.length=xss.length
 row:∀(i:Nat) b,bs[i]? = some b->∃xs,xss[i]? = some xs/\Own1 K H0 W H b xs
structure OOs(K:PN)(H0:Hp)(W:Wd)(σ:L2.St)(H:Hp)(ρ:cR):Prop where
 t:∀(i:Nat) xss,ρ[i]? = some (SV.oo xss)->∃a bs,σ[i]? = some (some<|V.ref a)/\OwnT K H0 W H a bs xss/\∀(j:Nat) ys c,ρ[j]? = some (SV.ow ys)->σ[j]? = some (some<|V.ref c)->c∉a::bs
 u:∀(i j:Nat) xss yss,ρ[i]? = some (SV.oo xss)->ρ[j]? = some (SV.oo yss)->i=j
structure SOk(K:PN)(W0:Wd)(H0:Hp)(W:Wd)(σ:L2.St)(H:Hp)(ρ:cR):Prop where
 ext:Ext W0 H0 W H
 len:ρ.length=σ.length
 d:∀(i:Nat) x,ρ[i]? = some (SV.d x)->∃v:V,σ[i]? = some (some v)/\Rep K W v x
 o:∀(i:Nat) xs,ρ[i]? = some (SV.ow xs)->∃a vs,σ[i]? = some (some<|V.ref a)/\H a=some (HO.lst vs)/\W.G a=none/\¬W.Pn a/\H0 a=none/\Reps K W vs xs
 ne:∀(i j:Nat) xs ys a,i≠j->ρ[i]? = some (SV.ow xs)->ρ[j]? = some (SV.ow ys)->σ[i]? = some (some<|V.ref a)->σ[j]?≠some (some<|V.ref a)
 oo:OOs K H0 W σ H ρ
section
variable{W:Wd}
theorem SOk.ok(s:SOk K W0 H0 W σ H ρ):WOk W H:=s.ext.ok
theorem Own1.step{b:Addr}(o:Own1 K H0 W H b xs)(x:Ext W H W1 H1):Own1 K H0 W1 H1 b xs:=by
 obtain⟨vs,e2,e3,e4,e5,r⟩:=o;refine⟨vs,x.h b _ e2 e4,?_,λq=>?_,e5,x.reps r⟩;cases q:W1.G b with
 |none=>rfl|some o=>have:=x.gf b e3 (by rw[q];simp);rw[e2]at this;cases this
 have:=x.pf b e4 q;rw[e2]at this;cases this
theorem OwnT.step{a:Addr}{bs:List Addr}{xss:List QG}(o:OwnT K H0 W H a bs xss)(x:Ext W H W1 H1):OwnT K H0 W1 H1 a bs xss:=by
 refine⟨x.h a _ o.a1 o.a3,?_,λq=>?_,o.a4,o.nd,o.len,λi b e=>let⟨xs,e1,q⟩:=o.row i b e;⟨xs,e1,q.step x⟩⟩;cases q:W1.G a with
 |none=>rfl|some u=>have:=x.gf a o.a2 (by rw[q];simp);rw[o.a1]at this;cases this
 have:=x.pf a o.a3 q;rw[o.a1]at this;cases this
theorem OwnT.here{c:Addr}{bs:List Addr}(o:OwnT K H0 W H a bs xss)(h:H c=none):c∉a::bs:=λq=>by
 rcases Yan.mp q with rfl|q
 rw[o.a1]at h;cases h;obtain⟨i,hi,rfl⟩:=Ybt.mp q;obtain⟨xs,_,vs,e,_⟩:=o.row i _<|bZ hi;rw[e]at h;cases h
theorem OwnT.noPen{c:Addr}{bs:List Addr}(o:OwnT K H0 W H a bs xss)(h:W.Pn c):c∉a::bs:=λq=>by
 rcases Yan.mp q with rfl|q
 exact o.a3 h;obtain⟨i,hi,rfl⟩:=Ybt.mp q;obtain⟨xs,_,vs,_,_,e,_⟩:=o.row i _<|bZ hi;exact e h
theorem OwnT.upd{a c:Addr}{o':HO}{bs:List Addr}{xss:List QG}(o:OwnT K H0 W H a bs xss)(h:c∉a::bs):OwnT K H0 W (upd H c o') a bs xss:=by have ha:a≠c:=λz=>h (by rw[z];simp);refine⟨by rw[aI ha];exact o.a1,o.a2,o.a3,o.a4,o.nd,o.len,λi b e=>?_⟩;obtain⟨xs,e1,vs,q⟩:=o.row i b e;have hb:b≠c:=λz=>h (by rw[<-z];exact kj _<|pj e);exact⟨xs,e1,vs,by rw[aI hb];exact q⟩
theorem OwnT.put{a c:Addr}{o':HO}{bs:List Addr}{xss:List QG}(o:OwnT K H0 W H a bs xss)(h:c∉a::bs)(hc:W.G c=none):OwnT K H0 (W.put c o') H a bs xss:=by have ha:a≠c:=λz=>h (by rw[z];simp);refine⟨o.a1,by unfold Wd.put;dsimp only;rw[aI ha];exact o.a2,o.a3,o.a4,o.nd,o.len,λi b e=>?_⟩;obtain⟨xs,e1,vs,q1,q2,q3,q4,q5⟩:=o.row i b e;have hb:b≠c:=λz=>h (by rw[<-z];exact kj _<|pj e);exact⟨xs,e1,vs,q1,by unfold Wd.put;dsimp only;rw[aI hb];exact q2,q3,q4,q5.mono (qY hc) λ_ z=>z⟩
theorem OOs.none(h:∀(i:Nat) xss,ρ[i]?≠some (SV.oo xss)):OOs K H0 W σ H ρ:=⟨λi xss e=>PQ e<|h i xss,λi j xss yss e=>PQ e<|h i xss⟩
theorem OOs.step(o:OOs K H0 W σ H ρ)(x:Ext W H W1 H1):OOs K H0 W1 σ H1 ρ:=⟨λi xss e=>let⟨a,bs,e1,q,n⟩:=o.t i xss e;⟨a,bs,e1,q.step x,n⟩,o.u⟩
theorem OOs.set{σ':L2.St}(o:OOs K H0 W σ H ρ){i:Nat}{y:SV}(hy:∀xss,y≠.oo xss)(hσ:∀j,i≠j->σ'[j]? = σ[j]?)(hw:∀ys c,y=.ow ys->σ'[i]? = some (some<|V.ref c)->∀(j:Nat) xss a bs,i≠j->ρ[j]? = some (SV.oo xss)->σ[j]? = some (some<|V.ref a)->OwnT K H0 W H a bs xss->(∀(j:Nat) ys c,ρ[j]? = some (SV.ow ys)->σ[j]? = some (some<|V.ref c)->c∉a::bs)->c∉a::bs):OOs K H0 W σ' H (ρ.set i y):=by
 have nt:∀{j:Nat} {xss:List QG},(ρ.set i y)[j]? = some (SV.oo xss)->i≠j/\ρ[j]? = some (SV.oo xss):=λ{j xss} e=>by
  by_cases h:i=j;subst h;by_cases hi:i<ρ.length;rw[e9 hi]at e;cases e;exact PQ rfl<|hy xss
  rw[fi (by rw[dQ];omega)]at e;cases e;rw[d6 h]at e;exact⟨h,e⟩
 refine⟨λj xss e=>?_,λj k xss yss e1 e2=>o.u j k xss yss (nt e1).2 (nt e2).2⟩;obtain⟨h,e'⟩:=nt e;clear e;obtain⟨a,bs,e1,q,n⟩:=o.t j xss e';refine⟨a,bs,by rw[hσ j h];exact e1,q,λk ys c ek ec=>?_⟩;by_cases hk:i=k;subst hk;by_cases hi:i<ρ.length;rw[e9 hi]at ek;cases ek;exact hw ys c rfl ec j xss a bs h e' e1 q n;rw[fi (by rw[dQ];omega)]at ek;cases ek;rw[d6 hk]at ek;rw[hσ k hk]at ec;exact n k ys c ek ec
theorem SOk.step(s:SOk K W0 H0 W σ H ρ)(x:Ext W H W1 H1):SOk K W0 H0 W1 σ H1 ρ where
 ext:=s.ext.trans x
 len:=s.len
 d:=λi y e=>let⟨v,e1,r⟩:=s.d i y e;⟨v,e1,x.rep r⟩
 o:=λi ys e=>by
  obtain⟨a,vs,e1,e2,e3,e4,e5,r⟩:=s.o i ys e;refine⟨a,vs,e1,x.h a _ e2 e4,?_,λq=>?_,e5,x.reps r⟩;cases q:W1.G a with
  |none=>rfl|some o=>have:=x.gf a e3 (by rw[q];simp);rw[e2]at this;cases this
  have:=x.pf a e4 q;rw[e2]at this;cases this
 ne:=s.ne
 oo:=s.oo.step x
end
abbrev Ex:=Str
abbrev QF:=Ex->Prop
def wW(K:PN)(W:Wd)(_:Hp)(cls:Value)(dx:Option Addr)(ex:Ex):Prop:=∃C,jb K (pY ex)=some C/\cls=.ref C/\XD W ex dx
def km(K:PN)(W0:Wd)(H0:Hp)(E:QF)(EX:XK):Prop:=∀ex W' H' cls dx,E ex->Ext W0 H0 W' H'->wW K W' H' cls dx ex->EX cls dx H'
abbrev WE:=(QF)->cR->(QH)->Prop
variable{wa wb wc w we wv wo:WE}
abbrev WT:=(QF)->cR->(Bool->Prop)->Prop
variable{wf wt:WT}
abbrev WA:=(QF)->cR->(QG->Prop)->Prop
variable{t wi:WA}
def RQ(K:PN)(W:Wd)(H:Hp)(Q:VK)(d:D):Prop:=∀v W' H',Ext W H W' H'->Rep K W' v d->Q v H'
structure PX(X:Cx)(EX:XK)(e:Expr)(w:WE):Prop where
 t:∃t,PE X e t/\∀W0 H0 W σ H ρ E Q,SOk X.K W0 H0 W σ H ρ->km X.K W0 H0 E EX->w E ρ (RQ X.K W H Q)->t σ H Q
 mono:∀E ρ P P',(∀d,P d->P' d)->w E ρ P->w E ρ P'
structure kG(X:Cx)(EX:XK)(e:Expr)(w:WT):Prop where
 t:∃t,PT X e t/\∀W0 H0 W σ H ρ E Q,SOk X.K W0 H0 W σ H ρ->km X.K W0 H0 E EX->w E ρ (λb=>∀W' H',Ext W H W' H'->Q b H')->t σ H Q
 mono:∀E ρ P P',(∀d,P d->P' d)->w E ρ P->w E ρ P'
structure j6(X:Cx)(EX:XK)(es:List Expr)(w:WA):Prop where
 t:∃t,PA X es t/\∀W0 H0 W σ H ρ E Q,SOk X.K W0 H0 W σ H ρ->km X.K W0 H0 E EX->w E ρ (λds=>∀vs W' H',Ext W H W' H'->Reps X.K W' vs ds->Q vs H')->t σ H Q
 mono:∀E ρ P P',(∀d,P d->P' d)->w E ρ P->w E ρ P'
structure PXL(X:Cx)(EX:XK)(e:Expr)(w:WA):Prop where
 t:∃t,PE X e t/\∀W0 H0 W σ H ρ E Q,SOk X.K W0 H0 W σ H ρ->km X.K W0 H0 E EX->
  w E ρ (λds=>∀a vs W' H',Ext W H W' H'->H' a=some (.lst vs)->W'.G a=none->¬W'.Pn a->H a=none->Reps X.K W' vs ds->Q (.ref a) H')->t σ H Q
 mono:∀E ρ P P',(∀d,P d->P' d)->w E ρ P->w E ρ P'
structure Nds where
 nx:cR->Prop
 rt:D->Prop
 bk:cR->Prop:=λ_=>False
 ct:cR->Prop:=λ_=>False
variable{N:Nds}
structure Wle(F W:Wd):Prop where
 g:∀a o,F.G a=some o->W.G a=some o
 p:∀a,F.Pn a->W.Pn a
theorem Wle.refl(F:Wd):Wle F F:=⟨λ_ _ e=>e,λ_ e=>e⟩
theorem Wle.trans{F W V:Wd}(a:Wle F W)(b:Wle W V):Wle F V:=⟨λx o e=>b.g x o<|a.g x o e,λx e=>b.p x<|a.p x e⟩
theorem Wle.ext{F W:Wd}(a:Wle F W)(x:Ext W H W1 H1):Wle F W1:=a.trans ⟨x.g,x.p⟩
structure zA(K:PN)(W0:Wd)(H0:Hp)(F:Wd)(Dn:lh)(N:Nds):Prop where
 nx:∀W σ H ρ,SOk K W0 H0 W σ H ρ->Wle F W->N.nx ρ->Dn.nx σ H
 rt:∀d v W H,Ext W0 H0 W H->Rep K W v d->N.rt d->Dn.rt v H
 bk:∀W σ H ρ,SOk K W0 H0 W σ H ρ->Wle F W->N.bk ρ->Dn.bk σ H
 ct:∀W σ H ρ,SOk K W0 H0 W σ H ρ->Wle F W->N.ct ρ->Dn.ct σ H
structure Nds.le(N N':Nds):Prop where
 nx:∀ρ,N.nx ρ->N'.nx ρ
 rt:∀d,N.rt d->N'.rt d
 bk:∀ρ,N.bk ρ->N'.bk ρ
 ct:∀ρ,N.ct ρ->N'.ct ρ
abbrev WS:=(QF)->Nds->cR->Prop
variable{z' zb:WS}
structure PZ(X:Cx)(EX:XK)(st:Stmt)(z:WS):Prop where
 t:∃t,PS X st t/\∀W0 H0 F W σ H ρ E Dn N,SOk X.K W0 H0 W σ H ρ->Wle F W->km X.K W0 H0 E EX->zA X.K W0 H0 F Dn N->z E N ρ->t Dn σ H
 mono:∀E ρ N N',N.le N'->z E N ρ->z E N' ρ
structure jI(X:Cx)(EX:XK)(st:List Stmt)(z:WS):Prop where
 t:∃t,nc X st t/\∀W0 H0 F W σ H ρ E Dn N,SOk X.K W0 H0 W σ H ρ->Wle F W->km X.K W0 H0 E EX->zA X.K W0 H0 F Dn N->z E N ρ->t Dn σ H
 mono:∀E ρ N N',N.le N'->z E N ρ->z E N' ρ
section
variable{W:Wd}{Q:VK}
theorem RQ.ext(h:RQ K W H Q d)(x:Ext W H W1 H1):RQ K W1 H1 Q d:=λv W' H' y r=>h v W' H' (x.trans y) r
theorem RQ.now(h:RQ K W H Q d)(ok:WOk W H){v:V}(r:Rep K W v d):Q v H:=h v W H (.refl ok) r
theorem RQ.tup{vs:QJ}{ds:QG}(h:RQ K W H Q (.tup ds))(ok:WOk W H)(r:Reps K W vs ds){p:Addr}(hp:H p=none):Q (.ref p) (upd H p<|.tup vs):=by have x:=Ext.put (o:=.tup vs) ok hp;exact h _ _ _ x<|.tup (by unfold Wd.put;dsimp only;rw[aV]) (x.reps r)
theorem RQ.lst{vs:QJ}{ds:QG}(h:RQ K W H Q (.lst ds))(ok:WOk W H)(r:Reps K W vs ds){p:Addr}(hp:H p=none):Q (.ref p) (upd H p<|.lst vs):=by have x:=Ext.put (o:=.lst vs) ok hp;exact h _ _ _ x<|.lst (by unfold Wd.put;dsimp only;rw[aV]) (x.reps r)
theorem Rep.sqt{a:V}(r:Rep K W a (.tup ds))(ok:WOk W H):∃p vs,a=.ref p/\SqT K H p vs/\Reps K W vs ds:=by
 cases r with
 |tup e r=>exact⟨_,_,rfl,.inl<|.inl<|ok.g _ _ e,r⟩|ktup e r=>exact⟨_,_,rfl,.inr e,r⟩
theorem Rep.sql{a:V}(r:Rep K W a (.lst ds))(ok:WOk W H):∃p vs,a=.ref p/\SqL K H p vs/\Reps K W vs ds:=by
 cases r with
 |lst e r=>exact⟨_,_,rfl,.inl<|.inl<|ok.g _ _ e,r⟩
theorem Rep.sqs{a:V}(r:Rep K W a (.scr ds))(ok:WOk W H):∃p vs,a=.ref p/\SqL K H p vs/\Reps K W vs ds:=by
 cases r with
 |scr e r=>exact⟨_,_,rfl,e.elim (λ⟨o,e⟩=>.inl<|.inr ⟨o,ok.g _ _ e⟩) .inr,r⟩
end
section
def wN(i:Nat):WE:=λ_ ρ Q=>match ρ[i]? with|some (.d x)=>Q x|_=>False
theorem aD(i:Nat)(hN:{X.N[i]? = some x})(hv:autoParam (mm X.env.scope x) QP._auto_1)(hd:(QA x:))
  (hcd:((x==("__classdict__" : Str))=false:)):PX X EX (.Name x pos) (wN i):=by
 refine⟨⟨_,ez hN hv hd hcd,λW0 H0 W σ H ρ E Q s _ h=>?_⟩,λE ρ P P' hp h=>?_⟩
 .unfold wN at h
  split at h
  .rename_i x e
   obtain⟨v,e1,r⟩:=s.d i x e;exact⟨v,e1,h.now s.ok r⟩
  .exact h.elim
 .unfold wN at h ⊢
  split at h
  .exact hp _ h
  .exact h.elim
def wC(d:D):WE:=λ_ _ Q=>Q d
theorem wC.mono:∀(E:QF) ρ P P',(∀d,P d->P' d)->wC d E ρ P->wC d E ρ P':=λ_ _ _ _ hp h=>hp _ h
theorem aN{i j}:PX X EX (.Constant (.int i) j pos) (wC<|.int i):=⟨⟨_,jQ,λ_ _ _ _ _ _ _ _ s _ h=>RQ.now h s.ok<|.int i⟩,wC.mono⟩
theorem eI{b j}:PX X EX (.Constant (.bool b) j pos) (wC<|.bl b):=⟨⟨_,vU,λ_ _ _ _ _ _ _ _ s _ h=>RQ.now h s.ok<|.bl b⟩,wC.mono⟩
theorem qk{j}:PX X EX (.Constant .none j pos) (wC .non):=⟨⟨_,li,λ_ _ _ _ _ _ _ _ s _ h=>RQ.now h s.ok .non⟩,wC.mono⟩
theorem gM{x j}:PX X EX (.Constant (.str x) j pos) (wC<|.str x):=⟨⟨_,tV,λ_ _ _ _ _ _ _ _ s _ h=>RQ.now h s.ok<|.str x⟩,wC.mono⟩
theorem Cf{v:V}{u:Value}(hm:X.mg x=some u)(r:RelV v u)(rd:∀W,Rep X.K W v d)(hg:{Gl X x})(hd:(QA x:)):PX X EX (.Name x pos) (wC d):=
 ⟨⟨_,qE hg hm r hd,λ_ _ _ _ _ _ _ _ s _ h=>RQ.now h s.ok<|rd _⟩,wC.mono⟩
theorem Kd{v:V}{u:Value}(hm:X.mg x=none)(hv:bootBuiltins x=some u)(r:RelV v u)(rd:∀W,Rep X.K W v d)(hg:{Gl X x})(hn:(x≠ "__name__":))(hd:(QA x:)):PX X EX (.Name x pos) (wC d):=
 ⟨⟨_,qF hg hm hv r hn hd,λ_ _ _ _ _ _ _ _ s _ h=>RQ.now h s.ok<|rd _⟩,wC.mono⟩
end
abbrev G2:=D->D->(QH)->Prop
structure ic(X:Cx)(f:Value->Value->Sem Value)(g:G2):Prop where
 t:∃r,OpR X f r/\∀W H x y dx dy Q,WOk W H->Rep X.K W x dx->Rep X.K W y dy->g dx dy (RQ X.K W H Q)->r x y H Q
 mono:∀x y P P',(∀d,P d->P' d)->g x y P->g x y P'
section
variable{a b:Expr}
def w2(g:G2)(wa wb:WE):WE:=λE ρ Q=>wa E ρ λx=>wb E ρ λy=>g x y Q
theorem w2.mono{g:G2}(ha:PX X EX a wa)(hb:PX X EX b wb)(hg:∀x y P P',(∀d,P d->P' d)->g x y P->g x y P'):∀E ρ P P',(∀d,P d->P' d)->w2 g wa wb E ρ P->w2 g wa wb E ρ P':=
 λE ρ P P' hp h=>ha.mono E ρ _ _ (λx hx=>hb.mono E ρ _ _ (λy hy=>hg x y _ _ hp hy) hx) h
theorem mI{ta tb:TE}{R:V->V->Hp->Prop}{G:D->QH}{W:Wd}{E:QF}(hma:∀E ρ P P',(∀d,P d->P' d)->wa E ρ P->wa E ρ P')(hmb:∀E ρ P P',(∀d,P d->P' d)->wb E ρ P->wb E ρ P')
  (ka:∀W0 H0 W σ H ρ E Q,SOk X.K W0 H0 W σ H ρ->km X.K W0 H0 E EX->wa E ρ (RQ X.K W H Q)->ta σ H Q) (kb:∀W0 H0 W σ H ρ E Q,SOk X.K W0 H0 W σ H ρ->km X.K W0 H0 E EX->wb E ρ (RQ X.K W H Q)->tb σ H Q)
  (s:SOk X.K W0 H0 W σ H ρ) (eo:km X.K W0 H0 E EX) (h:wa E ρ λx=>wb E ρ λy=>G x y)
  (k:∀W2 H2 x y dx dy,Ext W H W2 H2->Rep X.K W2 x dx->Rep X.K W2 y dy->G dx dy->R x y H2):ta σ H λx H1=>tb σ H1 λy H2=>R x y H2:=
 ka W0 H0 W σ H ρ E _ s eo (hma E ρ _ _ (λdx hx v W1 H1 x1 r1=>kb W0 H0 W1 σ H1 ρ E _ (s.step x1) eo<|hmb E ρ _ _ (λdy hy u W2 H2 x2 r2=>k W2 H2 v u dx dy (x1.trans x2) (x2.rep r1) r2 hy) hx) h)
theorem bC{op:Operator}{g:G2}(ho:ic X (binaryOp op) g)(ha:PX X EX a wa)(hb:PX X EX b wb):PX X EX (.BinOp a op b pos) (w2 g wa wb):=by obtain⟨ta,pa,ka⟩:=ha.t;obtain⟨tb,pb,kb⟩:=hb.t;obtain⟨r,pr,kr⟩:=ho.t;refine⟨⟨_,sk pr pa pb,λW0 H0 W σ H ρ E Q s eo h=>?_⟩,w2.mono ha hb ho.mono⟩;exact mI ha.mono hb.mono ka kb s eo h λW2 H2 x y dx dy x2 rx ry hg=>kr W2 H2 x y dx dy Q x2.ok rx ry<|ho.mono _ _ _ _ (λd hd=>RQ.ext hd x2) hg
theorem fU{g:G2}(ho:ic X (compareOp op) g)(ha:PX X EX a wa)(hb:PX X EX b wb)(hm:behindInMarks op b=false:=by first|exact pJ _|with_unfolding_all rfl):PX X EX (.Compare a [op] [b] pos) (w2 g wa wb):=by obtain⟨ta,pa,ka⟩:=ha.t;obtain⟨tb,pb,kb⟩:=hb.t;obtain⟨r,pr,kr⟩:=ho.t;refine⟨⟨_,qO pr pa pb hm,λW0 H0 W σ H ρ E Q s eo h=>?_⟩,w2.mono ha hb ho.mono⟩;exact mI ha.mono hb.mono ka kb s eo h λW2 H2 x y dx dy x2 rx ry hg=>kr W2 H2 x y dx dy Q x2.ok rx ry<|ho.mono _ _ _ _ (λd hd=>RQ.ext hd x2) hg
def isB(Q:Bool->Prop):D->Prop
 |.bl b=>Q b|_=>False
theorem isB.mono{Q Q':Bool->Prop}(h:∀b,Q b->Q' b):∀d,isB Q d->isB Q' d
 |.bl b,z=>h b z|.non,z=>z|.int _,z=>z|.str _,z=>z|.tup _,z=>z|.lst _,z=>z|.dic,z=>z|.pen,z=>z|.cls _,z=>z|.exc _,z=>z|.ty _,z=>z|.scr _,z=>z|.pl _ _,z=>z
def wT(w:WE):WT:=λE ρ Q=>w E ρ<|isB Q
theorem uw{Q:Bool->Prop}(h:isB Q d):∃b,d=.bl b/\Q b:=by
 cases d with
 |bl b=>exact⟨b,rfl,h⟩|_=>exact h.elim
theorem wT.mono{w:WE}(h:∀E ρ P P',(∀d,P d->P' d)->w E ρ P->w E ρ P'):∀E ρ P P',(∀d,P d->P' d)->wT w E ρ P->wT w E ρ P':=λE ρ _ _ hp z=>h E ρ _ _ (isB.mono hp) z
theorem dC{g:G2}(ho:ic X (compareOp op) g)(ha:PX X EX a wa)(hb:PX X EX b wb)(hm:behindInMarks op b=false:=by first|exact pJ _|with_unfolding_all rfl):kG X EX (.Compare a [op] [b] pos) (wT<|w2 g wa wb):=by obtain⟨ta,pa,ka⟩:=ha.t;obtain⟨tb,pb,kb⟩:=hb.t;obtain⟨r,pr,kr⟩:=ho.t;refine⟨⟨_,qP pr pa pb hm,λW0 H0 W σ H ρ E Q s eo h=>?_⟩,wT.mono<|w2.mono ha hb ho.mono⟩;refine mI ha.mono hb.mono ka kb s eo h λW2 H2 x y dx dy x2 rx ry hg=>kr W2 H2 x y dx dy _ x2.ok rx ry<|ho.mono _ _ _ _ (λd hd v W' H' x' r'=>?_) hg;obtain⟨b,rfl,q⟩:=uw hd;cases r';exact⟨b,rfl,q W' H'<|x2.trans x'⟩
theorem fG(ha:PX X EX a wa)(he:autoParam (∀whole,isTrue a X.env whole=(do let v <-whole;standAt a.pos;holding [v] (truthy v))) QN._auto_1):kG X EX a (wT wa):=by obtain⟨ta,pa,ka⟩:=ha.t;refine⟨⟨_,kE pa he,λW0 H0 W σ H ρ E Q s eo h=>?_⟩,wT.mono ha.mono⟩;refine ka W0 H0 W σ H ρ E _ s eo<|ha.mono _ _ _ _ (λd hd v W' H' x' r'=>?_) h;obtain⟨b,rfl,q⟩:=uw hd;cases r';exact⟨b,rfl,q W' H' x'⟩
def bM(w:WT):WT:=λE ρ Q=>w E ρ λb=>Q (!b)
theorem fK{w:WT}(ha:kG X EX a w):kG X EX (.UnaryOp .Not a pos) (bM w):=by obtain⟨ta,pa,ka⟩:=ha.t;refine⟨⟨_,tX pa,λW0 H0 W σ H ρ E Q s eo h=>?_⟩,λE ρ P P' hp h=>ha.mono _ _ _ _ (λb hb=>hp _ hb) h⟩;exact ka W0 H0 W σ H ρ E _ s eo h
structure PXW(X:Cx)(EX:XK)(e:Expr)(w:WT):Prop where
 t:∃t,PW X e t/\∀W0 H0 W σ H ρ E Q,SOk X.K W0 H0 W σ H ρ->km X.K W0 H0 E EX->w E ρ (λb=>∀W' H',Ext W H W' H'->Q b H')->t σ H Q
 mono:∀E ρ P P',(∀d,P d->P' d)->w E ρ P->w E ρ P'
theorem PXW.pxt{w:WT}(h:PXW X EX a w):kG X EX a w:=let⟨t,p,k⟩:=h.t;⟨⟨t,p.pt,k⟩,h.mono⟩
variable{rest:List Expr}
def gv(w w':WT):WT:=λE ρ Q=>w E ρ λb=>if b=true then w' E ρ Q else Q false
def eU(w w':WT):WT:=λE ρ Q=>w E ρ λb=>if b=true then Q true else w' E ρ Q
theorem PJ{w:WT}(ha:kG X EX a w):PXW X EX (.BoolOp .And [a] pos) w:=let⟨t,p,k⟩:=ha.t;⟨⟨t,qG p,k⟩,ha.mono⟩
theorem jc{w:WT}(ha:kG X EX a w):PXW X EX (.BoolOp .Or [a] pos) w:=let⟨t,p,k⟩:=ha.t;⟨⟨t,tW p,k⟩,ha.mono⟩
theorem iN{w w':WT}(ha:kG X EX a w)(hb:PXW X EX (.BoolOp .Or (b::rest) pos) w'):PXW X EX (.BoolOp .Or (a::b::rest) pos) (eU w w'):=by
 obtain⟨ta,pa,ka⟩:=ha.t;obtain⟨tb,pb,kb⟩:=hb.t;refine⟨⟨_,vV pa pb,λW0 H0 W σ H ρ E Q s eo h=>?_⟩,λE ρ P P' hp h=>ha.mono _ _ _ _ (λb hb'=>?_) h⟩;refine ka W0 H0 W σ H ρ E _ s eo (ha.mono _ _ _ _ (λb hb' W1 H1 x1=>?_) h);cases b with
 |true=>rw[oI rfl]at hb' ⊢;exact hb' W1 H1 x1|false=>rw[jx<|E8]at hb' ⊢;exact kb W0 H0 W1 σ H1 ρ E _ (s.step x1) eo<|hb.mono _ _ _ _ (λb hq W' H' x'=>hq W' H'<|x1.trans x') hb'
 cases b with
 |true=>rw[oI rfl]at hb' ⊢;exact hp _ hb'|false=>rw[jx<|E8]at hb' ⊢;exact hb.mono _ _ _ _ hp hb'
end
section
variable{a b:Expr}{rest:List Expr}
def ft(wa wb:WE):WE:=λE ρ Q=>wa E ρ (isB λb=>if b=true then wb E ρ Q else Q (.bl false))
def gw(wa wb:WE):WE:=λE ρ Q=>wa E ρ (isB λb=>if b=true then Q (.bl true) else wb E ρ Q)
def kS(wa:WE):WE:=λE ρ Q=>wa E ρ<|isB λb=>Q (.bl (!b))
theorem kH{op}(h:PX X EX a wa):PX X EX (.BoolOp op [a] pos) wa:=let⟨t,q,k⟩:=h.t;⟨⟨t,tY q,k⟩,h.mono⟩
theorem Zc(ha:PX X EX a wa)(hb:PX X EX (.BoolOp .And (b::rest) pos) wb):PX X EX (.BoolOp .And (a::b::rest) pos) (ft wa wb):=by
 obtain⟨ta,pa,ka⟩:=ha.t;obtain⟨tb,pb,kb⟩:=hb.t;refine⟨⟨_,tZ pa pb,λW0 H0 W σ H ρ E Q s eo h=>?_⟩,λE ρ P P' hp h=>ha.mono _ _ _ _ (isB.mono λb hb'=>?_) h⟩;refine ka W0 H0 W σ H ρ E _ s eo (ha.mono _ _ _ _ (λd hd v W1 H1 x1 r1=>?_) h);obtain⟨b,rfl,q⟩:=uw hd;cases r1;refine⟨b,rfl,?_⟩;cases b with
 |true=>rw[oI rfl]at q ⊢;exact kb W0 H0 W1 σ H1 ρ E _ (s.step x1) eo<|hb.mono _ _ _ _ (λd hd=>RQ.ext hd x1) q
 |false=>rw[jx<|E8]at q ⊢;exact q _ W1 H1 x1<|.bl false
 cases b with
 |true=>rw[oI rfl]at hb' ⊢;exact hb.mono _ _ _ _ hp hb'|false=>rw[jx<|E8]at hb' ⊢;exact hp _ hb'
theorem Ke(ha:PX X EX a wa):PX X EX (.UnaryOp .Not a pos) (kS wa):=by obtain⟨ta,pa,ka⟩:=ha.t;refine⟨⟨_,t0 pa,λW0 H0 W σ H ρ E Q s eo h=>?_⟩,λE ρ P P' hp h=>ha.mono _ _ _ _ (isB.mono λb hb'=>hp _ hb') h⟩;refine ka W0 H0 W σ H ρ E _ s eo<|ha.mono _ _ _ _ (λd hd v W1 H1 x1 r1=>?_) h;obtain⟨b,rfl,q⟩:=uw hd;cases r1;exact⟨b,rfl,q _ W1 H1 x1<|.bl _⟩
def l4(wt:WT)(wa wb:WE):WE:=λE ρ Q=>wt E ρ λb=>if b=true then wa E ρ Q else wb E ρ Q
def ZbG(g g':G2)(wa wb wc:WE):WE:=λE ρ Q=>wa E ρ λx=>wb E ρ λy=>g x y (isB λk=>if k=true then wc E ρ λz=>g' y z Q else Q (.bl false))
theorem ZbG.mono{g g':G2}(ha:PX X EX a wa)(hb:PX X EX b wb)(hc:PX X EX c wc)(hg:∀x y P P',(∀d,P d->P' d)->g x y P->g x y P')(hg':∀x y P P',(∀d,P d->P' d)->g' x y P->g' x y P') :
  ∀E ρ P P',(∀d,P d->P' d)->ZbG g g' wa wb wc E ρ P->ZbG g g' wa wb wc E ρ P':=λE ρ P P' hp h=>
 ha.mono _ _ _ _ (λx hx=>hb.mono _ _ _ _ (λy hy=>hg x y _ _ (isB.mono λk hk=>by
  cases k with
  |true=>rw[oI rfl]at hk ⊢;exact hc.mono _ _ _ _ (λz hz=>hg' y z _ _ hp hz) hk
  |false=>rw[jx<|E8]at hk ⊢;exact hp _ hk) hy) hx) h
theorem Kf{op':CmpOp}{g g':G2}(ho:ic X (compareOp op) g)(ho':ic X (compareOp op') g')(ha:PX X EX a wa)(hb:PX X EX b wb)(hc:PX X EX c wc)
  (hm:autoParam (lastMarks [op,op'] [b,c]=false) QR._auto_1):PX X EX (.Compare a [op,op'] [b,c] pos) (ZbG g g' wa wb wc):=by
 obtain⟨ta,pa,ka⟩:=ha.t;obtain⟨tb,pb,kb⟩:=hb.t;obtain⟨tc,pc,kc⟩:=hc.t;obtain⟨r,pr,kr⟩:=ho.t;obtain⟨r',pr',kr'⟩:=ho'.t;refine⟨⟨_,pL pr pr' pa pb pc hm,λW0 H0 W σ H ρ E Q s eo h=>?_⟩,ZbG.mono ha hb hc ho.mono ho'.mono⟩;refine mI ha.mono hb.mono ka kb s eo h λW2 H2 x y dx dy x2 rx ry hg=>kr W2 H2 x y dx dy _ x2.ok rx ry<|ho.mono _ _ _ _ (λd hd v W3 H3 x3 r3=>?_) hg;obtain⟨k,rfl,q⟩:=uw hd;cases r3;refine⟨k,rfl,?_⟩;cases k with
 |true=>
  rw[oI rfl]at q ⊢;refine kc W0 H0 W3 σ H3 ρ E _ (s.step<|x2.trans x3) eo<|hc.mono _ _ _ _ (λdz hz w W4 H4 x4 r4=>?_) q;exact kr' W4 H4 y w dy dz Q x4.ok (x4.rep<|x3.rep ry) r4<|ho'.mono _ _ _ _ (λd hd=>RQ.ext hd<|x2.trans<|x3.trans x4) hz
 |false=>rw[jx<|E8]at q ⊢;exact q _ W3 H3 (x2.trans x3)<|.bl false
theorem Kg{op':CmpOp}{g g':G2}(ho:ic X (compareOp op) g)(ho':ic X (compareOp op') g')(ha:PX X EX a wa)(hb:PX X EX b wb)(hc:PX X EX c wc)
  (hm:autoParam (lastMarks [op,op'] [b,c]=false) QR._auto_1):kG X EX (.Compare a [op,op'] [b,c] pos) (wT<|ZbG g g' wa wb wc):=by
 obtain⟨ta,pa,ka⟩:=ha.t;obtain⟨tb,pb,kb⟩:=hb.t;obtain⟨tc,pc,kc⟩:=hc.t;obtain⟨r,pr,kr⟩:=ho.t;obtain⟨r',pr',kr'⟩:=ho'.t;refine⟨⟨_,pM pr pr' pa pb pc hm,λW0 H0 W σ H ρ E Q s eo h=>?_⟩,wT.mono<|ZbG.mono ha hb hc ho.mono ho'.mono⟩;refine mI ha.mono hb.mono ka kb s eo h λW2 H2 x y dx dy x2 rx ry hg=>kr W2 H2 x y dx dy _ x2.ok rx ry<|ho.mono _ _ _ _ (λd hd v W3 H3 x3 r3=>?_) hg;obtain⟨k,rfl,q⟩:=uw hd;cases r3;refine⟨k,rfl,?_⟩;cases k with
 |true=>
  rw[oI rfl]at q ⊢;refine kc W0 H0 W3 σ H3 ρ E _ (s.step<|x2.trans x3) eo<|hc.mono _ _ _ _ (λdz hz w W4 H4 x4 r4=>?_) q;refine kr' W4 H4 y w dy dz _ x4.ok (x4.rep<|x3.rep ry) r4<|ho'.mono _ _ _ _ (λd hd v5 W5 H5 x5 r5=>?_) hz;obtain⟨b,rfl,q'⟩:=uw hd;cases r5;exact⟨b,rfl,q' W5 H5<|x2.trans<|x3.trans<|x4.trans x5⟩
 |false=>rw[jx<|E8]at q ⊢;exact⟨false,rfl,q W3 H3<|x2.trans x3⟩
def aA:WA:=λ_ _ Q=>Q []
def aC(w:WE)(t:WA):WA:=λE ρ Q=>w E ρ λx=>t E ρ λxs=>Q (x::xs)
theorem aF:j6 X EX [] aA:=⟨⟨_,jV,λ_ _ W _ H _ _ _ s _ h=>h [] W H (.refl s.ok) .nil⟩,λ_ _ _ _ hp h=>hp _ h⟩
theorem Za(ha:PX X EX e w)(hr:j6 X EX es t)(hs:{starEach (e::es) X.env=(false,eval e X.env)::starEach es X.env}):j6 X EX (e::es) (aC w t):=by obtain⟨ta,pa,ka⟩:=ha.t;obtain⟨tr,pr,kr⟩:=hr.t;refine⟨⟨_,iu pa pr hs,λW0 H0 W σ H ρ E Q s eo h=>?_⟩,λE ρ P P' hp h=>ha.mono _ _ _ _ (λd hd=>hr.mono _ _ _ _ (λds hds=>hp _ hds) hd) h⟩;refine ka W0 H0 W σ H ρ E _ s eo<|ha.mono _ _ _ _ (λd hd v W1 H1 x1 r1=>?_) h;exact kr W0 H0 W1 σ H1 ρ E _ (s.step x1) eo<|hr.mono _ _ _ _ (λds hds vs W2 H2 x2 r2=>hds _ W2 H2 (x1.trans x2)<|.cons (x2.rep r1) r2) hd
def aR:Nat:=10000
theorem nh(h:n<=aR):n<=sizeLine:=jw h (by rw[sizeLine_eq];decide)
def aY(t:WA):WE:=λE ρ Q=>t E ρ λxs=>xs.length<=aR/\Q (.tup xs)
def bP(t:WA):WA:=λE ρ Q=>t E ρ λxs=>xs.length<=aR/\Q xs
theorem dP{x1}(h:j6 X EX es t):PX X EX (.Tuple es x1 pos) (aY t):=by obtain⟨ta,pa,ka⟩:=h.t;refine⟨⟨_,uk pa,λW0 H0 W σ H ρ E Q s eo hw=>?_⟩,λE ρ P P' hp z=>h.mono _ _ _ _ (λds hds=>⟨hds.1,hp _ hds.2⟩) z⟩;refine ka W0 H0 W σ H ρ E _ s eo<|h.mono _ _ _ _ (λds hds vs W1 H1 x1 r1=>?_) hw;refine⟨by rw[r1.length];exact nh hds.1,λq hq=>?_⟩;exact(RQ.ext hds.2 x1).tup x1.ok r1 hq
theorem gx(h:j6 X EX es t):PXL X EX (.List es pos) (bP t):=by obtain⟨ta,pa,ka⟩:=h.t;refine⟨⟨_,ul pa,λW0 H0 W σ H ρ E Q s eo hw=>?_⟩,λE ρ P P' hp z=>h.mono _ _ _ _ (λds hds=>⟨hds.1,hp _ hds.2⟩) z⟩;refine ka W0 H0 W σ H ρ E _ s eo<|h.mono _ _ _ _ (λds hds vs W1 H1 x1 r1=>?_) hw;refine⟨by rw[r1.length];exact nh hds.1,λq hq=>?_⟩;exact hds.2 q vs W1 _ (x1.trans<|.new x1.ok hq) aV (x1.ok.fresh hq).1 (x1.ok.fresh hq).2 (x1.isN hq) r1
def wL(t:WA):WE:=λE ρ Q=>t E ρ λds=>Q<|.lst ds
theorem PXL.px(h:PXL X EX e t):PX X EX e (wL t):=by obtain⟨ta,pa,ka⟩:=h.t;refine⟨⟨_,pa,λW0 H0 W σ H ρ E Q s eo hw=>?_⟩,λE ρ P P' hp z=>h.mono _ _ _ _ (λds hds=>hp _ hds) z⟩;refine ka W0 H0 W σ H ρ E _ s eo<|h.mono _ _ _ _ (λds hds a vs W1 H1 x1 e1 e2 e3 e4 r1=>?_) hw;refine hds _ _ _ (x1.pub e4 e1 e3 e2)<|.lst (by unfold Wd.put;dsimp only;rw[aV]) (r1.mono (qY e2) λ_ z=>z)
structure fv(X:Cx)(f:Value)(g:QG->(QH)->Prop):Prop where
 t:∃r,fk X f r/\∀W H vs ds Q,WOk W H->Reps X.K W vs ds->g ds (RQ X.K W H Q)->r vs H Q
 mono:∀ds P P',(∀d,P d->P' d)->g ds P->g ds P'
structure sG(X:Cx)(f:Value)(g:QG->(QG->Prop)->Prop):Prop where
 t:∃r,fk X f r/\∀W H vs ds Q,WOk W H->Reps X.K W vs ds->g ds (λes=>∀a us,H a=none->Reps X.K W us es->Q (.ref a) (upd H a<|.lst us))->r vs H Q
 mono:∀ds P P',(∀d,P d->P' d)->g ds P->g ds P'
def wB(g:QG->(QH)->Prop)(t:WA):WE:=λE ρ Q=>t E ρ λds=>g ds Q
def aB(g:QG->(QG->Prop)->Prop)(t:WA):WA:=λE ρ Q=>t E ρ λds=>g ds Q
variable{id T:String}
theorem cJ{g:QG->(QH)->Prop}(hc:fv X (.builtin id) g)(hm:X.mg x=none)(hv:bootBuiltins x=some (.builtin id))(ha:j6 X EX (e::es) t)(hg:{Gl X x})(hn:(x≠ "__name__":))(hdb:(QA x:))
  (he:{QD X e es}) (hpl:{QE X pos es}):PX X EX (.Call (.Name x p) (e::es) [] pos) (wB g t):=by
 obtain⟨ta,pa,ka⟩:=ha.t;obtain⟨r,pr,kr⟩:=hc.t;refine⟨⟨_,pP pr hg hm hv pa hn hdb he hpl,λW0 H0 W σ H ρ E Q s eo h=>?_⟩,λE ρ P P' hp z=>ha.mono _ _ _ _ (λds hds=>hc.mono _ _ _ hp hds) z⟩;exact ka W0 H0 W σ H ρ E _ s eo<|ha.mono _ _ _ _ (λds hds vs W1 H1 x1 r1=>kr W1 H1 vs ds Q x1.ok r1<|hc.mono _ _ _ (λd hd=>RQ.ext hd x1) hds) h
theorem kI{g:QG->(QH)->Prop}(hc:fv X (.type T) g)(hm:X.mg x=none)(hv:bootBuiltins x=some (.type T))(ha:j6 X EX (e::es) t)(hg:{Gl X x})(hn:(x≠ "__name__":))(hdb:(QA x:))
  (he:{QD X e es}) (hpl:{QE X pos es}):PX X EX (.Call (.Name x p) (e::es) [] pos) (wB g t):=by
 obtain⟨ta,pa,ka⟩:=ha.t;obtain⟨r,pr,kr⟩:=hc.t;refine⟨⟨_,jF pr hg hm hv pa hn hdb he hpl,λW0 H0 W σ H ρ E Q s eo h=>?_⟩,λE ρ P P' hp z=>ha.mono _ _ _ _ (λds hds=>hc.mono _ _ _ hp hds) z⟩;exact ka W0 H0 W σ H ρ E _ s eo<|ha.mono _ _ _ _ (λds hds vs W1 H1 x1 r1=>kr W1 H1 vs ds Q x1.ok r1<|hc.mono _ _ _ (λd hd=>RQ.ext hd x1) hds) h
theorem zB{g:QG->(QG->Prop)->Prop}(hc:sG X (.type T) g)(hm:X.mg x=none)(hv:bootBuiltins x=some (.type T))(ha:j6 X EX (e::es) t)(hg:{Gl X x})(hn:(x≠ "__name__":))(hdb:(QA x:))
  (he:{QD X e es}) (hpl:{QE X pos es}):PXL X EX (.Call (.Name x p) (e::es) [] pos) (aB g t):=by
 obtain⟨ta,pa,ka⟩:=ha.t;obtain⟨r,pr,kr⟩:=hc.t;refine⟨⟨_,jF pr hg hm hv pa hn hdb he hpl,λW0 H0 W σ H ρ E Q s eo h=>?_⟩,λE ρ P P' hp z=>ha.mono _ _ _ _ (λds hds=>hc.mono _ _ _ hp hds) z⟩;refine ka W0 H0 W σ H ρ E _ s eo<|ha.mono _ _ _ _ (λds hds vs W1 H1 x1 r1=>kr W1 H1 vs ds Q x1.ok r1<|hc.mono _ _ _ (λes' hd a us hn' r2=>?_) hds) h;exact hd a us W1 _ (x1.trans<|.new x1.ok hn') aV (x1.ok.fresh hn').1 (x1.ok.fresh hn').2 (x1.isN hn') r2
abbrev bA:=QG->(QF)->(QH)->Prop
def mJ(S:bA):Prop:=∀ds E E' Q Q',(∀ex,E ex->E' ex)->(∀d,Q d->Q' d)->S ds E Q->S ds E' Q'
def iO(K:PN)(S:bA):Sp:=λvs H Q EX=>∃ds W,WOk W H/\Reps K W vs ds/\S ds (λex=>∀W' H' cls dx,Ext W H W' H'->wW K W' H' cls dx ex->EX cls dx H') (RQ K W H Q)
def wF(S:bA)(t:WA):WE:=λE ρ Q=>t E ρ λds=>S ds E Q
theorem Kh{CX:mB}{S:bA}(F:FnOk X.prog X.w X.K X.mg X.base CX k f fd ps (iO X.K S))(hS:mJ S)(hr:Room k X.A)(hm:X.mg x=some (.ref f))(hk:PySem.W.keepIn X.K (.ref f)=true)(hb:Binds X.K fd ps [])
  (hx:dU CX X EX) (ha:j6 X EX (e::es) t) (hg:{Gl X x}) (hdb:(QA x:)) (he:{QD X e es}) (hpl:{QE X pos es}) :
  PX X EX (.Call (.Name x p) (e::es) [] pos) (wF S t):=by
 obtain⟨ta,pa,ka⟩:=ha.t;refine⟨⟨_,qQ F hr hg hm hk hb .nil hx pa hdb he hpl,λW0 H0 W σ H ρ E Q s eo h=>?_⟩,λE ρ P P' hp z=>ha.mono _ _ _ _ (λds hds=>hS _ _ _ _ _ (λ_ q=>q) hp hds) z⟩;refine ka W0 H0 W σ H ρ E _ s eo<|ha.mono _ _ _ _ (λds hds vs W1 H1 x1 r1=>?_) h;refine⟨ds,W1,x1.ok,by rw[mZ];exact r1,hS _ _ _ _ _ (λex hex W' H' cls dx x' r'=>?_) (λd hd=>RQ.ext hd x1) hds⟩;exact eo ex W' H' cls dx hex (s.ext.trans<|x1.trans x') r'
structure Cg(X:Cx)(g:G2):Prop where
 t:∃r,IxR X r/\∀W H x y dx dy Q,WOk W H->Rep X.K W x dx->Rep X.K W y dy->g dx dy (RQ X.K W H Q)->r x y H Q
 mono:∀x y P P',(∀d,P d->P' d)->g x y P->g x y P'
theorem bG{g:G2}(ho:Cg X g)(ha:PX X EX a wa)(hb:PX X EX b wb)(hs:autoParam (iw b) QS._auto_1):PX X EX (.Subscript a b pos) (w2 g wa wb):=by obtain⟨ta,pa,ka⟩:=ha.t;obtain⟨tb,pb,kb⟩:=hb.t;obtain⟨r,pr,kr⟩:=ho.t;refine⟨⟨_,pT pr pa pb hs,λW0 H0 W σ H ρ E Q s eo h=>?_⟩,w2.mono ha hb ho.mono⟩;exact mI ha.mono hb.mono ka kb s eo h λW2 H2 x y dx dy x2 rx ry hg=>kr W2 H2 x y dx dy Q x2.ok rx ry<|ho.mono _ _ _ _ (λd hd=>RQ.ext hd x2) hg
structure E7(X:Cx)(f:Value->Sem Value)(g:D->(QH)->Prop):Prop where
 t:∃r,zf X f r/\∀W H x dx Q,WOk W H->Rep X.K W x dx->g dx (RQ X.K W H Q)->r x H Q
 mono:∀x P P',(∀d,P d->P' d)->g x P->g x P'
def w1(g:D->(QH)->Prop)(wa:WE):WE:=λE ρ Q=>wa E ρ λx=>g x Q
theorem ql{op:UnaryOp}{g:D->(QH)->Prop}(ho:E7 X (unaryOp op) g)(ha:PX X EX a wa):PX X EX (.UnaryOp op a pos) (w1 g wa):=by obtain⟨ta,pa,ka⟩:=ha.t;obtain⟨r,pr,kr⟩:=ho.t;refine⟨⟨_,ss pr pa,λW0 H0 W σ H ρ E Q s eo h=>?_⟩,λE ρ P P' hp z=>ha.mono _ _ _ _ (λd hd=>ho.mono _ _ _ hp hd) z⟩;exact ka W0 H0 W σ H ρ E _ s eo<|ha.mono _ _ _ _ (λd hd v W1 H1 x1 r1=>kr W1 H1 v d Q x1.ok r1<|ho.mono _ _ _ (λd hd=>RQ.ext hd x1) hd) h
structure zC(X:Cx)(EX:XK)(e:Option Expr)(w:(QF)->cR->(Option Int->Prop)->Prop):Prop where
 t:∃t,PO X e t/\∀W0 H0 W σ H ρ E Q,SOk X.K W0 H0 W σ H ρ->km X.K W0 H0 E EX->w E ρ (λo=>∀W' H',Ext W H W' H'->Q o H')->t σ H Q
 mono:∀E ρ P P',(∀d,P d->P' d)->w E ρ P->w E ρ P'
def isI(Q:Int->Prop):D->Prop
 |.int i=>Q i|_=>False
theorem isI.mono{Q Q':Int->Prop}(h:∀b,Q b->Q' b):∀d,isI Q d->isI Q' d
 |.int b,z=>h b z|.non,z=>z|.bl _,z=>z|.str _,z=>z|.tup _,z=>z|.lst _,z=>z|.dic,z=>z|.pen,z=>z|.cls _,z=>z|.exc _,z=>z|.ty _,z=>z|.scr _,z=>z|.pl _ _,z=>z
theorem sH{Q:Int->Prop}(h:isI Q d):∃b,d=.int b/\Q b:=by
 cases d with
 |int b=>exact⟨b,rfl,h⟩|_=>exact h.elim
def eV:(QF)->cR->(Option Int->Prop)->Prop:=λ_ _ Q=>Q none
def eC(w:WE):(QF)->cR->(Option Int->Prop)->Prop:=λE ρ Q=>w E ρ<|isI λi=>Q (some i)
theorem i5:zC X EX none eV:=⟨⟨_,qS,λ_ _ W _ H _ _ _ s _ h=>h W H<|.refl s.ok⟩,λ_ _ _ _ hp h=>hp _ h⟩
theorem gX(ha:PX X EX a wa):zC X EX (some a) (eC wa):=by obtain⟨ta,pa,ka⟩:=ha.t;refine⟨⟨_,qT pa,λW0 H0 W σ H ρ E Q s eo h=>?_⟩,λE ρ P P' hp z=>ha.mono _ _ _ _ (isI.mono λi hi=>hp _ hi) z⟩;refine ka W0 H0 W σ H ρ E _ s eo<|ha.mono _ _ _ _ (λd hd v W1 H1 x1 r1=>?_) h;obtain⟨i,rfl,q⟩:=sH hd;cases r1;exact⟨i,rfl,q W1 H1 x1⟩
def bW{α:Type}(xs:List α)(lo hi:Option Int):List α:=(xs.drop<|HT.sIx xs.length 0 lo).take<|HT.sIx xs.length xs.length hi-HT.sIx xs.length 0 lo
def gCut(x:D)(lo hi:Option Int)(Q:QH):Prop:=match x with
 |.tup xs=>Q<|.tup (bW xs lo hi)
 |.lst xs=>Q<|.lst (bW xs lo hi)
 |.scr xs=>Q<|.lst (bW xs lo hi)
 |_=>False
end
variable{S:bA}{Ss:List (Str×bA)}
def Bd(i:Int):Prop:=i.natAbs<2^8990
theorem Bd.log{i:Int}(h:Bd i):i.natAbs.log2<8990:=by by_cases h0:i.natAbs=0;rw[h0];decide;exact(Nat.log2_lt h0).mpr h
theorem Bd.bits{i:Int}(h:Bd i):Builtin.Int.intBits i<=2^20:=by
 unfold Builtin.Int.intBits;have:=h.log;have e:(2:Nat)^20=1048576:=E8
 split<;>omega
def sJ(i j:Int):Prop:=Bd i/\Bd j
def Ch(_ j:Int):Prop:=j≠0/\Bd j
section
theorem ZqR:OpR X (binaryOp .Mult) (rI sJ λi j=>.int<|i*j):=zj λ_ _ _ _ _ _ _ hc q=>mul_int q<|IntMulOk.of_bits hc.1.bits hc.2.bits
theorem Ki:OpR X (binaryOp .FloorDiv) (rI Ch λi j=>.int<|i.fdiv j):=zj λ_ _ _ _ _ _ _ hc q=>floordiv_int hc.1 q<|.inl (PyProof.noPylong_of_log2 (by have:=hc.2.log;omega))
def gI2(C:Int->Int->Prop)(kd:Int->Int->D):G2:=λx y Q=>match x,y with|.int i,.int j=>C i j/\Q (kd i j)|_,_=>False
theorem gI2.mono{C:Int->Int->Prop}{kd:Int->Int->D}:∀x y P P',(∀d,P d->P' d)->gI2 C kd x y P->gI2 C kd x y P':=λx y P P' hp hg=>by unfold gI2 at hg ⊢;split at hg;exact⟨hg.1,hp _ hg.2⟩;exact hg.elim
theorem gI2.get{C:Int->Int->Prop}{kd:Int->Int->D}{x:D}(h:gI2 C kd x y Q):∃i j,x=.int i/\y=.int j/\C i j/\Q (kd i j):=by unfold gI2 at h;split at h;exact⟨_,_,rfl,rfl,h.1,h.2⟩;exact h.elim
theorem sK{f:Value->Value->Sem Value}{C:Int->Int->Prop}{k:Int->Int->V}{kd:Int->Int->D}(h:OpR X f (rI C k))(hk:∀W i j,Rep X.K W (k i j)<|kd i j):ic X f (gI2 C kd):=
 ⟨⟨_,h,λW H x y dx dy Q ok rx ry hg=>by
  obtain⟨i,j,rfl,rfl,hc,q⟩:=hg.get;cases rx;cases ry;exact⟨_,_,rfl,rfl,hc,q.now ok<|hk _ _ _⟩⟩,gI2.mono⟩
theorem va{f:Value->Value->Sem Value}{k:Int->Int->V}(h:OpR X f (qI k)):OpR X f (rI (λ_ _=>True) k):=λtv s σ H x y v u Q I rx ry ⟨i,j,e1,e2,_,q⟩=>h tv s σ H x y v u Q I rx ry ⟨i,j,e1,e2,q⟩
theorem gz:ic X (binaryOp .Sub) (gI2 (λ_ _=>True) λi j=>.int<|i-j):=sK (va ug) λ_ _ _=>.int _
theorem sL:ic X (binaryOp .Mod) (gI2 (λ_ j=>j≠0) λi j=>.int<|i.fmod j):=sK qK λ_ _ _=>.int _
theorem sM:ic X (binaryOp .FloorDiv) (gI2 Ch λi j=>.int<|i.fdiv j):=sK Ki λ_ _ _=>.int _
theorem E9:ic X (binaryOp .Pow) (gI2 ue λi j=>.int<|i^j.toNat):=sK uh λ_ _ _=>.int _
theorem Kj:OpR X (compareOp .Lt) (qI λi j=>.bl<|decide (i<j)):=qJ λ_ _ _ _ _ _ _ q=>lt_int q
theorem Kk:OpR X (compareOp .LtE) (qI λi j=>.bl<|decide (i<=j)):=qJ λ_ _ _ _ _ _ _ q=>le_int q
theorem Kl:OpR X (compareOp .Gt) (qI λi j=>.bl<|decide (i>j)):=qJ λ_ _ _ _ _ _ _ q=>gt_int q
theorem Km:OpR X (compareOp .GtE) (qI λi j=>.bl<|decide (i ≥ j)):=qJ λ_ _ _ _ _ _ _ q=>ge_int q
theorem kJ:ic X (compareOp .Lt) (gI2 (λ_ _=>True) λi j=>.bl<|decide (i<j)):=sK (va Kj) λ_ _ _=>.bl _
theorem lE:ic X (compareOp .LtE) (gI2 (λ_ _=>True) λi j=>.bl<|decide (i<=j)):=sK (va Kk) λ_ _ _=>.bl _
theorem pZ:ic X (compareOp .Gt) (gI2 (λ_ _=>True) λi j=>.bl<|decide (i>j)):=sK (va Kl) λ_ _ _=>.bl _
theorem Ci:ic X (compareOp .GtE) (gI2 (λ_ _=>True) λi j=>.bl<|decide (i ≥ j)):=sK (va Km) λ_ _ _=>.bl _
theorem qm:E7 X (unaryOp .USub) (λx Q=>isI (λi=>Q<|.int (-i)) x):=
 ⟨⟨_,pI,λW H x dx Q ok rx hg=>by
  obtain⟨i,rfl,q⟩:=sH hg;cases rx;exact⟨i,rfl,q.now ok<|.int _⟩⟩,λx P P' hp h=>isI.mono (λi hi=>hp _ hi) x h⟩
mutual
def jd:D->Option PyData
 |.non=>some .none|.bl b=>some<|.bool b
 |.int i=>some<|.int i
 |.str x=>some<|.str x
 |.tup xs=>(gO xs).map .tuple|.lst xs=>(gO xs).map .list|.dic=>none|.pen=>none|.cls _=>none|.exc _=>none|.ty _=>none|.pl _ _=>none|.scr _=>none
def gO:QG->Option (List PyData)
 |[]=>some []
 |x::r=>match jd x,gO r with
  |some a,some b=>some (a::b)|_,_=>none
end
variable{s:Shared}{W:Wd}
mutual
theorem wX(I:Inv X tv σ H s)(ok:WOk W H):∀{v:V} {d:D} {u:Value} {p:PyData},Rep X.K W v d->RelV v u->jd d=some p->∃as,Reads s.heap u p as
 |_,_,u,p,.non,r,e=>by cases e;cases r;exact⟨_,.none⟩
 |_,_,u,p,.bl b,r,e=>by cases e;cases r;exact⟨_,.bool b⟩
 |_,_,u,p,.int i,r,e=>by cases e;obtain⟨t,rfl⟩:=r;exact⟨_,.int i t⟩
 |_,_,u,p,.str x,r,e=>by cases e;obtain⟨t,rfl⟩:=r;exact⟨_,.str x t⟩
 |.ref a,.tup ds,u,p,.tup e0 rs,r,e=>by
  cases r;cases q:gO ds with
  |none=>rw[jd,q]at e;cases e
  |some ps=>rw[jd,q]at e;cases e;obtain⟨its,rv,⟨o,h1,h2,n,h3⟩,_⟩:=I.tuple (xs:=_)<|SqT.of (ok.g _ _ e0);obtain⟨as,ra⟩:=zD I ok rs rv q;exact⟨_,.tuple h1 h2 h3<|by simpa using ra⟩
 |.ref a,.tup ds,u,p,.ktup e0 rs,r,e=>by
  cases r;cases q:gO ds with
  |none=>rw[jd,q]at e;cases e
  |some ps=>rw[jd,q]at e;cases e;obtain⟨its,rv,⟨o,h1,h2,n,h3⟩,_⟩:=I.tuple (xs:=_)<|.inr e0;obtain⟨as,ra⟩:=zD I ok rs rv q;exact⟨_,.tuple h1 h2 h3<|by simpa using ra⟩
 |.ref a,.lst ds,u,p,.lst e0 rs,r,e=>by
  cases r;cases q:gO ds with
  |none=>rw[jd,q]at e;cases e
  |some ps=>rw[jd,q]at e;cases e;obtain⟨its,rv,⟨o,n,h1,h2,h3,h4⟩,_⟩:=I.list (xs:=_)<|SqL.of (ok.g _ _ e0);obtain⟨as,ra⟩:=zD I ok rs rv q;exact⟨_,.list h1 h2 h4<|by simpa using ra⟩
 |_,_,u,p,.dic _,r,e=>by rw[jd]at e;cases e
 |_,_,u,p,.pen _,r,e=>by rw[jd]at e;cases e
 |_,_,u,p,.cls _,r,e=>by rw[jd]at e;cases e
 |_,_,u,p,.exc _ _ _,r,e=>by rw[jd]at e;cases e
 |_,_,u,p,.ty _,r,e=>by rw[jd]at e;cases e
 |_,_,u,p,.pl _,r,e=>by rw[jd]at e;cases e
 |_,_,u,p,.scr _ _,r,e=>by rw[jd]at e;cases e
theorem zD(I:Inv X tv σ H s)(ok:WOk W H):∀{vs:QJ} {ds:QG} {us:Qu} {ps:List PyData},Reps X.K W vs ds->Vals vs us->gO ds=some ps->∃as,ReadsAll s.heap us ps as
 |_,_,us,ps,.nil,r,e=>by rw[gO]at e;cases e;cases r;exact⟨_,.nil⟩
 |_,d::ds,us,ps,.cons rd rs,r,e=>by
  rw[gO]at e;cases q1:jd d with
  |none=>rw[q1]at e;cases e
  |some a=>
   cases q2:gO ds with
   |none=>rw[q1,q2]at e;cases e
   |some b=>
    rw[q1,q2]at e;cases e;cases r with
    |cons r1 r2=>
     obtain⟨as,ra⟩:=wX I ok rd r1 q1;obtain⟨bs,rb⟩:=zD I ok rs r2 q2;exact⟨_,.cons ra rb⟩
end
def gEq(neg:Bool):G2:=λx y Q=>∃p q,jd x=some p/\jd y=some q/\PySem.SeqAt.shaped p=true/\PySem.SeqAt.shaped q=true/\Q (.bl (if neg then !PyData.eqv p q else PyData.eqv p q))
theorem gEq.mono{neg:Bool}:∀x y P P',(∀d,P d->P' d)->gEq neg x y P->gEq neg x y P':=λx y P P' hp ⟨p,q,h1,h2,h3,h4,h5⟩=>⟨p,q,h1,h2,h3,h4,hp _ h5⟩
theorem dD(hu:X.A.units+64<cLine):ic X (compareOp .Eq) (gEq false):=by refine⟨⟨λx y H Q=>∃W dx dy,WOk W H/\Rep X.K W x dx/\Rep X.K W y dy/\gEq false dx dy (RQ X.K W H Q),?_,λW H x y dx dy Q ok rx ry hg=>⟨W,dx,dy,ok,rx,ry,hg⟩⟩,gEq.mono⟩;rintro tv s σ H x y v u Q I rx ry ⟨W,dx,dy,ok,r1,r2,p,q,h1,h2,h3,h4,h5⟩;obtain⟨as,ra⟩:=wX I ok r1 rx h1;obtain⟨bs,rb⟩:=wX I ok r2 ry h2;exact eq_dataH ra rb h3 h4 hu ⟨.bl _,H,I,rfl,h5.now ok<|.bl _⟩
theorem cY(hu:X.A.units+64<cLine):ic X (compareOp .NotEq) (gEq true):=by refine⟨⟨λx y H Q=>∃W dx dy,WOk W H/\Rep X.K W x dx/\Rep X.K W y dy/\gEq true dx dy (RQ X.K W H Q),?_,λW H x y dx dy Q ok rx ry hg=>⟨W,dx,dy,ok,rx,ry,hg⟩⟩,gEq.mono⟩;rintro tv s σ H x y v u Q I rx ry ⟨W,dx,dy,ok,r1,r2,p,q,h1,h2,h3,h4,h5⟩;obtain⟨as,ra⟩:=wX I ok r1 rx h1;obtain⟨bs,rb⟩:=wX I ok r2 ry h2;exact ne_dataH ra rb h3 h4 hu ⟨.bl _,H,I,rfl,h5.now ok<|.bl _⟩
end
section
variable{a:Expr}
def gAdd:G2:=λx y Q=>match x,y with
 |.int i,.int j=>Q<|.int (i+j)
 |.lst xs,.lst ys=>xs.length+ys.length<=aR/\Q (.lst<|xs++ys)|.tup xs,.tup ys=>xs.length+ys.length<=aR/\Q (.tup<|xs++ys)|_,_=>False
theorem gAdd.mono:∀x y P P',(∀d,P d->P' d)->gAdd x y P->gAdd x y P':=λx y P P' hp hg=>by unfold gAdd at hg ⊢;split at hg;exact hp _ hg;exact⟨hg.1,hp _ hg.2⟩;exact⟨hg.1,hp _ hg.2⟩;exact hg.elim
def wY(K:PN):R2:=λx y H Q=>∃l b xs zs,x=.ref l/\y=.ref b/\SqL K H l xs/\SqL K H b zs/\xs.length+zs.length<=sizeLine/\∀p,H p=none->Q (.ref p) (upd H p<|.lst<|xs++zs)
theorem Zop:OpR X (binaryOp .Add) (wY X.K):=by
 intro tv s σ H x y v u Q I rx ry h;obtain⟨l,b,xs,zs,rfl,rfl,hH,hB,hz,q⟩:=h;cases rx;cases ry;obtain⟨its,r,pl,z⟩:=I.list hH;obtain⟨its2,r2,Du,z2⟩:=I.list hB;have hl:=r.length;have hl2:=r2.length;obtain⟨⟨cls,dd,data,sl⟩,n,ho,hc,_,hd⟩:=pl;obtain⟨⟨cls2,dd2,data2,sl2⟩,n2,ho2,hc2,_,hd2⟩:=Du;simp only at hc hd hc2 hd2;subst hc hd hc2 hd2;have e:its.toArray++its2.toArray=(its++its2).toArray:=KE
 refine concat_meets ⟨_,ho,rfl⟩ ⟨_,ho2,rfl⟩ noFill_list_add seq_list_add PySem.F.slot_list_add PySem.F.entry_list_add (PySem.F.args_list_add_2 _ _) (list_addW l b its.toArray its2.toArray n n2 dd dd2 sl sl2 (by simp;omega)) ⟨ho,ho2,?_⟩;rw[e];exact⟨.ref _,_,I.lnew (t':=s.toks) (r.append r2) (by rw[fZ];omega),rfl,q _ I.fresh⟩
def Kn(K:PN):R2:=λx y H Q=>∃a b xs ys,x=.ref a/\y=.ref b/\SqT K H a xs/\SqT K H b ys/\xs.length+ys.length<=sizeLine/\
 (xs=[]->Q (.ref b) H)/\(ys=[]->Q (.ref a) H)/\∀p,H p=none->Q (.ref p) (upd H p<|.tup<|xs++ys)
theorem Ko:OpR X (binaryOp .Add) (Kn X.K):=by
 intro tv s σ H x y v u Q I rx ry h;obtain⟨a,b,xs,ys,rfl,rfl,ha,hb,hz,q1,q2,q3⟩:=h;by_cases hx:xs=[];cases rx;cases ry;obtain⟨its,r1,p1,_⟩:=I.tuple ha;obtain⟨its2,r2,p2,_⟩:=I.tuple hb;have hi:its=[]:=r1.nil_iff.mpr hx;obtain⟨⟨cls,dd,data,sl⟩,ho,hc,n,hd⟩:=id p1;obtain⟨⟨cls2,dd2,data2,sl2⟩,ho2,hc2,n2,hd2⟩:=id p2;simp only at hc hd hc2 hd2;subst hc hd hc2 hd2;exact concat_meets ⟨_,ho,rfl⟩ ⟨_,ho2,rfl⟩ noFill_tuple_add seq_tuple_add PySem.F.slot_tuple_add PySem.F.entry_tuple_add (PySem.F.args_tuple_add_2 _ _)
  (tuple_addW0 a b its.toArray its2.toArray n n2 dd dd2 sl sl2<|by simp[hi]) ⟨ho,ho2,⟨.ref b,H,I,rfl,q1 hx⟩⟩
 exact qU tv s σ H _ _ v u Q I rx ry ⟨a,b,xs,ys,rfl,rfl,ha,hb,hx,hz,q2,λ_=>q3⟩
theorem eS:ic X (binaryOp .Add) gAdd:=by
 refine⟨⟨_,(va uf).or<|Zop.or Ko,λW H x y dx dy Q ok rx ry hg=>?_⟩,gAdd.mono⟩;unfold gAdd at hg;split at hg;cases rx;cases ry;exact .inl ⟨_,_,rfl,rfl,trivial,hg.now ok<|.int _⟩;obtain⟨p,vs,rfl,h1,r1⟩:=rx.sql ok;obtain⟨q,us,rfl,h2,r2⟩:=ry.sql ok;refine .inr<|.inl ⟨p,q,vs,us,rfl,rfl,h1,h2,by rw[r1.length,r2.length];exact nh hg.1,λa ha=>hg.2.lst ok (r1.append r2) ha⟩
 obtain⟨p,vs,rfl,h1,r1⟩:=rx.sqt ok;obtain⟨q,us,rfl,h2,r2⟩:=ry.sqt ok;rename_i xs ys;refine .inr<|.inr ⟨p,q,vs,us,rfl,rfl,h1,h2,by rw[r1.length,r2.length];exact nh hg.1,λe=>?_,λe=>?_,λa ha=>hg.2.tup ok (r1.append r2) ha⟩
 subst e;cases r1;exact hg.2.now ok ry;subst e;cases r2;rw[mZ]at hg;exact hg.2.now ok rx;exact hg.elim
def gMul:G2:=λx y Q=>match x,y with|.int i,.int j=>sJ i j/\Q (.int<|i*j)|.lst xs,.int k=>k<1000/\-1000<k/\xs.length*k.toNat<=aR/\Q (.lst (List.replicate k.toNat xs).flatten)|_,_=>False
theorem gMul.mono:∀x y P P',(∀d,P d->P' d)->gMul x y P->gMul x y P':=λx y P P' hp hg=>by unfold gMul at hg ⊢;split at hg;exact⟨hg.1,hp _ hg.2⟩;exact⟨hg.1,hg.2.1,hg.2.2.1,hp _ hg.2.2.2⟩;exact hg.elim
theorem Fa{W:Wd}(r:Reps K W vs ds)(n:Nat):Reps K W (List.replicate n vs).flatten (List.replicate n ds).flatten:=by
 induction n with
 |zero=>exact .nil|succ n ih=>rw[iY,iY,tH,tH];exact r.append ih
theorem gP:ic X (binaryOp .Mult) gMul:=by
 refine⟨⟨_,ZqR.or ut,λW H x y dx dy Q ok rx ry hg=>?_⟩,gMul.mono⟩;unfold gMul at hg;split at hg;cases rx;cases ry;exact .inl ⟨_,_,rfl,rfl,hg.1,hg.2.now ok<|.int _⟩;cases ry;cases rx with
 | @lst l vs _ e r=>refine .inr ⟨l,_,vs,rfl,rfl,ok.g _ _ e,E1,E1,?_,λp hp=>hg.2.2.2.lst ok (Fa r _) hp⟩;rw[r.length];exact nh hg.2.2.1
 exact hg.elim
theorem zE{W:Wd}(r:Reps K W vs xs){i:Int}(h:eR xs i=some d):∃v,eR vs i=some v/\Rep K W v d:=by
 unfold eR at h ⊢;rw[r.length];cases q:lC xs.length i with
 |none=>rw[q]at h;cases h
 |some k=>rw[q]at h;obtain⟨v,e,rv⟩:=r.get (show xs[k]? = some d from h);exact⟨v,e,rv⟩
def gIx:G2:=λx y Q=>isI (λi=>match x with
 |.tup xs=>∃d,eR xs i=some d/\Q d|.lst xs=>∃d,eR xs i=some d/\Q d|.scr xs=>∃d,eR xs i=some d/\Q d
 |_=>False) y
theorem gIx.mono:∀ x y P P',(∀ d,P d->P' d)->gIx x y P->gIx x y P':=λx y P P' hp hg=>isI.mono (λi h=>by
 split at h
 .obtain⟨d,e,q⟩:=h;exact⟨d,e,hp _ q⟩
 .obtain⟨d,e,q⟩:=h;exact⟨d,e,hp _ q⟩
 .obtain⟨d,e,q⟩:=h;exact⟨d,e,hp _ q⟩
 .exact h.elim) y hg
theorem aP:Cg X gIx:=by
 refine⟨⟨_,jX,λW H x y dx dy Q ok rx ry hg=>?_⟩,gIx.mono⟩;obtain⟨i,rfl,h⟩:=sH hg;cases ry;split at h;obtain⟨d,e,q⟩:=h;obtain⟨p,vs,rfl,h1,r1⟩:=rx.sqt ok;obtain⟨v,e1,rv⟩:=zE r1 e;exact .inr<|.inl ⟨p,vs,i,v,rfl,rfl,h1,e1,q.now ok rv⟩
 obtain⟨d,e,q⟩:=h;obtain⟨p,vs,rfl,h1,r1⟩:=rx.sql ok;obtain⟨v,e1,rv⟩:=zE r1 e;exact .inl ⟨p,vs,i,v,rfl,rfl,h1,e1,q.now ok rv⟩;obtain⟨d,e,q⟩:=h;obtain⟨p,vs,rfl,h1,r1⟩:=rx.sqs ok;obtain⟨v,e1,rv⟩:=zE r1 e;exact .inl ⟨p,vs,i,v,rfl,rfl,h1,e1,q.now ok rv⟩;exact h.elim
theorem Reps.cut{W:Wd}(r:Reps K W vs ds)(lo hi:Option Int):Reps K W (kF vs lo hi) (bW ds lo hi):=by unfold kF bW;rw[r.length];exact(r.drop _).take _
theorem Kp(h:HT.sIx xs.length 0 lo=0/\HT.sIx xs.length xs.length hi=xs.length):bW xs lo hi=xs:=by unfold bW;rw[h.1,h.2];simp
theorem gCut.mono:∀x P P',(∀d,P d->P' d)->gCut x lo hi P->gCut x lo hi P':=λx P P' hp hg=>by unfold gCut at hg ⊢;split at hg;exact hp _ hg;exact hp _ hg;exact hp _ hg;exact hg.elim
def bX(wa:WE)(wl wh:(QF)->cR->(Option Int->Prop)->Prop):WE:=λE ρ Q=>wa E ρ λx=>wl E ρ λl=>wh E ρ λh=>gCut x l h Q
theorem iy{lo hi:Option Expr}{wl wh}(ha:PX X EX a wa)(hl:zC X EX lo wl)(hh:zC X EX hi wh):PX X EX (.Subscript a (.Slice lo hi none p2) pos) (bX wa wl wh):=by
 obtain⟨ta,pa,ka⟩:=ha.t;obtain⟨tl,pl,kl⟩:=hl.t;obtain⟨th,ph,kh⟩:=hh.t;refine⟨⟨_,pR (sl_list.or<|sl_tup.or Jj) pa pl ph,λW0 H0 W σ H ρ E Q s eo h=>?_⟩,λE ρ P P' hp h=>ha.mono _ _ _ _ (λx hx=>hl.mono _ _ _ _ (λl hl'=>hh.mono _ _ _ _ (λu hu=>gCut.mono x _ _ hp hu) hl') hx) h⟩;refine ka W0 H0 W σ H ρ E _ s eo<|ha.mono _ _ _ _ (λdx hx v W1 H1 x1 r1=>?_) h;refine kl W0 H0 W1 σ H1 ρ E _ (s.step x1) eo<|hl.mono _ _ _ _ (λl hl' W2 H2 x2=>?_) hx;refine kh W0 H0 W2 σ H2 ρ E _ ((s.step x1).step x2) eo<|hh.mono _ _ _ _ (λu hu W3 H3 x3=>?_) hl';have r3:=(x2.trans x3).rep r1;have hu':=gCut.mono dx _ _ (λd hd=>RQ.ext hd<|x1.trans<|x2.trans x3) hu;unfold gCut at hu';split at hu'
 obtain⟨p,vs,rfl,h1,rr⟩:=r3.sqt x3.ok;rename_i xs;by_cases hw:HT.sIx vs.length 0 l=0/\HT.sIx vs.length vs.length u=vs.length;refine .inr (.inr ⟨p,vs,rfl,h1,hw,?_⟩);rw[rr.length]at hw;rw[Kp hw]at hu';exact hu'.now x3.ok r3;exact .inr<|.inl ⟨p,vs,rfl,h1,hw,λq hq=>hu'.tup x3.ok (rr.cut l u) hq⟩
 obtain⟨p,vs,rfl,h1,rr⟩:=r3.sql x3.ok;exact .inl ⟨p,vs,rfl,h1,λq hq=>hu'.lst x3.ok (rr.cut l u) hq⟩;obtain⟨p,vs,rfl,h1,rr⟩:=r3.sqs x3.ok;exact .inl ⟨p,vs,rfl,h1,λq hq=>hu'.lst x3.ok (rr.cut l u) hq⟩;exact hu'.elim
def gRev:D->(QH)->Prop:=λx Q=>match x with
 |.tup xs=>Q<|.tup xs.reverse
 |.lst xs=>Q<|.lst xs.reverse
 |_=>False
theorem gRev.mono:∀x P P',(∀d,P d->P' d)->gRev x P->gRev x P':=λx P P' hp hg=>by unfold gRev at hg ⊢;split at hg;exact hp _ hg;exact hp _ hg;exact hg.elim
theorem zF{j pos3 pos4}(ha:PX X EX a wa):PX X EX (.Subscript a (.Slice none none (some<|.UnaryOp .USub (.Constant (.int 1) j pos3) pos4) p2) pos) (w1 gRev wa):=by
 obtain⟨ta,pa,ka⟩:=ha.t;refine⟨⟨_,Jl pa,λW0 H0 W σ H ρ E Q s eo h=>?_⟩,λE ρ P P' hp h=>ha.mono _ _ _ _ (λx hx=>gRev.mono x _ _ hp hx) h⟩;refine ka W0 H0 W σ H ρ E _ s eo<|ha.mono _ _ _ _ (λdx hx v W1 H1 x1 r1=>?_) h;have hu':=gRev.mono dx _ _ (λd hd=>RQ.ext hd x1) hx;unfold gRev at hu';split at hu'
 obtain⟨p,vs,rfl,h1,rr⟩:=r1.sqt x1.ok;exact⟨p,vs,rfl,.inl ⟨h1,λq hq=>hu'.tup x1.ok rr.rev hq⟩⟩;obtain⟨p,vs,rfl,h1,rr⟩:=r1.sql x1.ok;exact⟨p,vs,rfl,.inr ⟨h1,λq hq=>hu'.lst x1.ok rr.rev hq⟩⟩;exact hu'.elim
def bV:QG->(QH)->Prop:=λds Q=>match ds with
 |[.tup xs]=>Q<|.int xs.length
 |[.lst xs]=>Q<|.int xs.length
 |[.scr xs]=>Q<|.int xs.length
 |_=>False
theorem gE:fv X (.builtin "len") bV:=by refine⟨⟨_,j3,λW H vs ds Q ok r hg=>?_⟩,λds P P' hp hg=>?_⟩;unfold bV at hg;split at hg;obtain⟨v,rfl,rv⟩:=r.one;obtain⟨p,us,rfl,h1,rr⟩:=rv.sqt ok;exact⟨p,us,rfl,.inr h1,by rw[rr.length];exact hg.now ok<|.int _⟩;obtain⟨v,rfl,rv⟩:=r.one;obtain⟨p,us,rfl,h1,rr⟩:=rv.sql ok;exact⟨p,us,rfl,.inl h1,by rw[rr.length];exact hg.now ok<|.int _⟩;obtain⟨v,rfl,rv⟩:=r.one;obtain⟨p,us,rfl,h1,rr⟩:=rv.sqs ok;exact⟨p,us,rfl,.inl h1,by rw[rr.length];exact hg.now ok<|.int _⟩;exact hg.elim;unfold bV at hg ⊢;split at hg;exact hp _ hg;exact hp _ hg;exact hp _ hg;exact hg.elim
def ig{α:Type}:QG->(QG->Prop)->Prop:=λds Q=>match ds with|[.tup xs]=>Q xs|[.lst xs]=>Q xs|[.scr xs]=>Q xs|_=>False
theorem zG:sG X (.type "list") (ig (α:=Unit)):=by refine⟨⟨_,j4,λW H vs ds Q ok r hg=>?_⟩,λds P P' hp hg=>?_⟩;unfold ig at hg;split at hg;obtain⟨v,rfl,rv⟩:=r.one;obtain⟨p,us,rfl,h1,rr⟩:=rv.sqt ok;exact⟨p,us,rfl,.inr h1,λl hl=>hg l us hl rr⟩;obtain⟨v,rfl,rv⟩:=r.one;obtain⟨p,us,rfl,h1,rr⟩:=rv.sql ok;exact⟨p,us,rfl,.inl h1,λl hl=>hg l us hl rr⟩;obtain⟨v,rfl,rv⟩:=r.one;obtain⟨p,us,rfl,h1,rr⟩:=rv.sqs ok;exact⟨p,us,rfl,.inl h1,λl hl=>hg l us hl rr⟩;exact hg.elim;unfold ig at hg ⊢;split at hg;exact hp _ hg;exact hp _ hg;exact hp _ hg;exact hg.elim
def je:QG->(QH)->Prop:=λds Q=>match ds with
 |[.tup xs]=>Q<|.tup xs
 |[.lst xs]=>Q<|.tup xs
 |_=>False
theorem mK:fv X (.type "tuple") je:=by refine⟨⟨_,i9,λW H vs ds Q ok r hg=>?_⟩,λds P P' hp hg=>?_⟩;unfold je at hg;split at hg;obtain⟨v,rfl,rv⟩:=r.one;obtain⟨p,us,rfl,h1,rr⟩:=rv.sqt ok;exact⟨p,us,rfl,.inr ⟨h1,hg.now ok rv⟩⟩;obtain⟨v,rfl,rv⟩:=r.one;obtain⟨p,us,rfl,h1,rr⟩:=rv.sql ok;exact⟨p,us,rfl,.inl ⟨h1,λl hl=>hg.tup ok rr hl⟩⟩;exact hg.elim;unfold je at hg ⊢;split at hg;exact hp _ hg;exact hp _ hg;exact hg.elim
def j7:QG->(QH)->Prop:=λds Q=>match ds with
 |[.int i]=>Q<|.int (if i<0 then -i else i)
 |_=>False
theorem Fb:fv X (.builtin "abs") j7:=by refine⟨⟨_,pN,λW H vs ds Q ok r hg=>?_⟩,λds P P' hp hg=>?_⟩;unfold j7 at hg;split at hg;obtain⟨v,rfl,rv⟩:=r.one;cases rv;exact⟨_,rfl,hg.now ok<|.int _⟩;exact hg.elim;unfold j7 at hg ⊢;split at hg;exact hp _ hg;exact hg.elim
def lF:QG->(QH)->Prop:=λds Q=>match ds with
 |[.int i,.int j]=>Q<|.int (if j>i then j else i)
 |_=>False
theorem wZ(hc:X.calm=true):fv X (.builtin "max") lF:=by refine⟨⟨_,mx hc,λW H vs ds Q ok r hg=>?_⟩,λds P P' hp hg=>?_⟩;unfold lF at hg;split at hg;obtain⟨v,u,rfl,rv,ru⟩:=r.two;cases rv;cases ru;exact⟨_,_,rfl,hg.now ok<|.int _⟩;exact hg.elim;unfold lF at hg ⊢;split at hg;exact hp _ hg;exact hg.elim
def iP:QG->(QH)->Prop:=λds Q=>match ds with
 |[.int i]=>Q<|.int i
 |[.bl b]=>Q<|.int (if b then 1 else 0)
 |_=>False
theorem zH:fv X (.type "int") iP:=by refine⟨⟨_,my,λW H vs ds Q ok r hg=>?_⟩,λds P P' hp hg=>?_⟩;unfold iP at hg;split at hg;obtain⟨v,rfl,rv⟩:=r.one;cases rv;exact .inl ⟨_,rfl,hg.now ok<|.int _⟩;obtain⟨v,rfl,rv⟩:=r.one;cases rv;exact .inr ⟨_,rfl,hg.now ok<|.int _⟩;exact hg.elim;unfold iP at hg ⊢;split at hg;exact hp _ hg;exact hp _ hg;exact hg.elim
end
section
variable{a:Expr}
def zI:D->Option String
 |.non=>some "NoneType" |.bl _=>some "bool" |.int _=>some "int" |.str _=>some "str" |.tup _=>some "tuple" |.lst _=>some "list" |.dic=>some "dict"
 |.pen=>none|.cls _=>none|.exc _=>none|.ty _=>none|.scr _=>none|.pl _ _=>none
def ii(t T:String):Bool:=t==T||(t == "bool" && T == "int")
def zJ:List String:=["int", "bool", "str", "tuple", "list"]
theorem Kq(K:PN){t T:String}(ht:zI d=some t)(hT:T∈zJ):PySem.W.kitOne K (.type t) (.type T)=some (ii t T):=by
 simp only[zJ,Yan,hJ,or_false]at hT;cases d<;>first
  |(cases ht;done)
  |(cases ht;rcases hT with rfl|rfl|rfl|rfl|rfl<;>rfl)
def gIs:QG->(QH)->Prop:=λds Q=>match ds with|[x,.ty T]=>∃t,zI x=some t/\T∈zJ/\Q (.bl<|ii t T)|_=>False
theorem gIs.mono:∀ds P P',(∀d,P d->P' d)->gIs ds P->gIs ds P':=λds P P' hp hg=>by unfold gIs at hg ⊢;split at hg;obtain⟨t,h1,h2,h3⟩:=hg;exact⟨t,h1,h2,hp _ h3⟩;exact hg.elim
theorem kT:fv X (.builtin "isinstance") gIs:=by
 refine⟨⟨λvs H Q=>∃W ds,WOk W H/\Reps X.K W vs ds/\gIs ds (RQ X.K W H Q),?_,λW H vs ds Q ok r hg=>⟨W,ds,ok,r,hg⟩⟩,gIs.mono⟩;rintro tv s σ H vs us Q I rv ⟨W,ds,ok,rs,hg⟩;unfold gIs at hg;split at hg;rename_i x T;obtain⟨t,h1,h2,q⟩:=hg;obtain⟨v,w',rfl,r1,r2⟩:=rs.two;cases r2;obtain⟨u,u2,rfl,ru,ru2⟩:=lX rv;obtain rfl:u2=Value.type T:=ru2;have e:=Kq X.K h1 h2;have fin:∀tk,EP X tv σ Q (.bool<|ii t T) { s with toks:=tk }:=λtk=>⟨.bl _,H,I.tok tk,rfl,q.now ok<|.bl _⟩;cases r1 with
 |non=>cases h1;cases ru;exact PySem.W.kia_one PySem.W.kitx_none I.kIn True.intro e (λz=>nomatch z) fin
 |bl b=>cases h1;cases ru;exact PySem.W.kia_one PySem.W.kitx_bool I.kIn True.intro e (λz=>nomatch z) fin
 |int i=>cases h1;obtain⟨t',rfl⟩:=ru;exact PySem.W.kia_one PySem.W.kitx_int I.kIn True.intro e (λz=>nomatch z) fin
 |str i=>cases h1;obtain⟨t',rfl⟩:=ru;exact PySem.W.kia_one PySem.W.kitx_str I.kIn True.intro e (λz=>nomatch z) fin
 |tup e0 rr=>cases h1;cases ru;obtain⟨its,_,⟨o,h1,h2,_⟩,_⟩:=I.tuple<|SqT.of (ok.g _ _ e0);exact PySem.W.kia_one PySem.W.kitx_tuple I.kIn ⟨o,h1,h2⟩ e (λz=>nomatch z) fin
 |ktup e0 rr=>cases h1;cases ru;obtain⟨its,_,⟨o,h1,h2,_⟩,_⟩:=I.tuple<|.inr e0;exact PySem.W.kia_one PySem.W.kitx_tuple I.kIn ⟨o,h1,h2⟩ e (λz=>nomatch z) fin
 |lst e0 rr=>cases h1;cases ru;obtain⟨its,_,⟨o,n,h1,h2,_⟩,_⟩:=I.list<|SqL.of (ok.g _ _ e0);exact PySem.W.kia_one PySem.W.kitx_list I.kIn ⟨o,h1,h2⟩ e (λz=>nomatch z) fin
 | @dic a e0=>cases h1;cases ru;obtain⟨_,_,vs,_,p⟩:=(show ObjOk X.prog X.w H s.heap a (.dK []) from I.hok a _ (ok.g _ _ e0));obtain⟨o,es,ep,h1,h2,_⟩:=p;exact PySem.W.kia_one PySem.W.kitx_dict I.kIn ⟨o,h1,h2.1⟩ e (λz=>nomatch z) fin
 |pen _=>cases h1
 |cls _=>cases h1
 |exc _ _=>cases h1
 |ty _=>cases h1
 |pl _=>cases h1
 |scr _ _=>cases h1
 exact hg.elim
theorem Kr(hc:X.calm=true):fk X (.builtin "all") (λxs H Q=>∃(p:Addr) (bs:List Bool),xs=[.ref p]/\SqL X.K H p (bs.map V.bl)/\Q (.bl<|bs.all id) H):=by
 intro tv s σ H xs us Q I r h;obtain⟨p,bs,rfl,hq,q⟩:=h;obtain⟨u,rfl,ru⟩:=fP r;cases ru;obtain⟨its,rv,pl,hz⟩:=I.list hq;have hpl:p<s.heap.objs.size:=by obtain⟨o,n,e,_⟩:=pl;exact dZ e
 have hits:its=bs.map Value.bool:=by
  clear hz pl hq q;induction bs generalizing its with
  |nil=>cases rv;rfl
  |cons b bs ih=>
   cases rv with
   |cons r1 r2=>
    obtain rfl:_=Value.bool b:=r1;rw[cG,ih _ r2]
 subst hits;refine call_all_walk<|wpAny_pyIter_list pl.isList ?_;have hh:X.A.in1.handled=none:=I.ok.hd hc;refine⟨s.heap.objs.size,_,_,_,_,_,λi=>(bs[i]?).getD true,rfl,Walks.list hh _ p (jv hpl) (bs.map Value.bool).toArray,⟨⟨_,jy _ rfl,rfl,rfl⟩,pl.isList.at λo e=>eQ _ e⟩,λi v s' Q' E' hP hQ=>?_,λh' tk hk=>?_⟩
 have hP':(bs.map Value.bool)[i]? = some v:=by simpa using hP
 rw[cV]at hP';cases e:bs[i]? with
 |none=>rw[e]at hP';cases hP'
 |some b=>
  rw[e]at hP';have:v=Value.bool b:=(PY hP').symm;subst this;refine Qb ?_;have e2:(bs[i]?).getD true=b:=by rw[e];rfl
  dsimp only at hQ;rw[e2]at hQ;exact hQ
 have e:((List.range (bs.map Value.bool).toArray.size).all λi=>(bs[i]?).getD true)=bs.all id:=by
  rw[fJ,bQ,iD,Ybe,Ybe];constructor;intro h b hb;obtain⟨i,hi,e⟩:=Ybt.mp hb;have:=h i<|Yah.mpr hi;rw[bZ hi]at this;rw[<-e];exact this
  intro h i hi;have hi':=Yah.mp hi;rw[bZ hi'];exact h _<|i3 hi'
 rw[e];refine⟨.bl<|bs.all id,H,?_,rfl,q⟩;refine I.kept λb o e=>hk b o ?_<|eQ _ e;intro z;have:b=s.heap.objs.size:=by simpa using z
 exact PQ (dZ e) (by rw[this];exact ju _)
def ij:QG->(QH)->Prop:=λds Q=>match ds with|[.lst xs]=>∃bs:List Bool,xs=bs.map D.bl/\Q (.bl<|bs.all id)|_=>False
theorem Fc{K:PN}{W:Wd}:∀{vs:QJ} {bs:List Bool},Reps K W vs (bs.map D.bl)->vs=bs.map V.bl
 |_,[],.nil=>rfl|_,b::bs,.cons r t=>by cases r;rw[cG,Fc t]
theorem sO(hc:X.calm=true):fv X (.builtin "all") ij:=by refine⟨⟨_,Kr hc,λW H vs ds Q ok r hg=>?_⟩,λds P P' hp hg=>?_⟩;unfold ij at hg;split at hg;obtain⟨bs,rfl,q⟩:=hg;obtain⟨v,rfl,rv⟩:=r.one;obtain⟨p,us,rfl,h1,rr⟩:=rv.sql ok;rw[Fc rr]at h1;exact⟨p,bs,rfl,h1,q.now ok<|.bl _⟩;exact hg.elim;unfold ij at hg ⊢;split at hg;obtain⟨bs,e,q⟩:=hg;exact⟨bs,e,hp _ q⟩;exact hg.elim
end
section
variable{W:Wd}
theorem SOk.set(s:SOk K W0 H0 W σ H ρ){i:Nat}{v:V}{x:D}(r:Rep K W v x):SOk K W0 H0 W (σ.set i<|some v) H (ρ.set i<|.d x) where
 ext:=s.ext
 len:=by rw[dQ,dQ];exact s.len
 d:=λj y e=>by by_cases h:i=j;subst h;by_cases hi:i<ρ.length;rw[e9 hi]at e;cases e;exact⟨v,e9 (by rw[<-s.len];exact hi),r⟩;rw[fi (by rw[dQ];omega)]at e;cases e;rw[d6 h]at e ⊢;exact s.d j y e
 o:=λj ys e=>by by_cases h:i=j;subst h;by_cases hi:i<ρ.length;rw[e9 hi]at e;cases e;rw[fi (by rw[dQ];omega)]at e;cases e;rw[d6 h]at e ⊢;exact s.o j ys e
 ne:=λj k xs ys a hjk e1 e2 e3=>by
  have nj:i≠j:=λh=>by subst h;by_cases hi:i<ρ.length;rw[e9 hi]at e1;cases e1;rw[fi (by rw[dQ];omega)]at e1;cases e1
  have nk:i≠k:=λh=>by subst h;by_cases hi:i<ρ.length;rw[e9 hi]at e2;cases e2;rw[fi (by rw[dQ];omega)]at e2;cases e2
  rw[d6 nj]at e1 e3;rw[d6 nk]at e2 ⊢;exact s.ne j k xs ys a hjk e1 e2 e3
 oo:=s.oo.set (λ_ h=>by cases h) (λj h=>d6 h) λ_ _ h=>by cases h
theorem SOk.own(s1:SOk K W0 H0 W1 σ H1 ρ)(x:Ext W1 H1 W H)(hz:H1 a=none)(h1:H a=some (.lst vs))(h2:W.G a=none)(h3:¬W.Pn a)(r:Reps K W vs xs):SOk K W0 H0 W (σ.set i<|some<|.ref a) H (ρ.set i<|.ow xs):=by
 have s:=s1.step x;have h4:H0 a=none:=s1.ext.isN hz;have hn:∀(j:Nat) ys b,j≠i->ρ[j]? = some (SV.ow ys)->σ[j]? = some (some<|V.ref b)->b≠a:=λj ys b _ ej eb q=>by obtain⟨b',us,q1,q2,_⟩:=s1.o j ys ej;rw[eb]at q1;cases q1;rw[q,hz]at q2;cases q2
 exact{
  ext:=s.ext
  len:=by rw[dQ,dQ];exact s.len
  d:=λj y e=>by
    by_cases h:i=j
    · subst h
      by_cases hi:i<ρ.length
      · rw[e9 hi]at e;cases e
      · rw[fi (by rw[dQ];omega)]at e;cases e
    · rw[d6 h]at e ⊢;exact s.d j y e
  o:=λj ys e=>by
    by_cases h:i=j
    · subst h
      by_cases hi:i<ρ.length
      · rw[e9 hi]at e
        cases e;exact⟨a,vs,e9 (by rw[<-s.len];exact hi),h1,h2,h3,h4,r⟩
      · rw[fi (by rw[dQ];omega)]at e;cases e
    · rw[d6 h]at e ⊢;exact s.o j ys e
  ne:=λj k ys zs b hjk e1 e2 e3 e4=>by
    by_cases hj:i=j
    · subst hj
      by_cases hi:i<ρ.length
      · rw[e9 (by rw[<-s.len];exact hi)]at e3
        cases e3;rw[d6 hjk]at e2 e4;exact hn k zs _ (P9 hjk) e2 e4 rfl
      · rw[fi (by rw[dQ];omega)]at e1;cases e1
    · by_cases hk:i=k
      · subst hk
        by_cases hi:i<ρ.length
        · rw[e9 (by rw[<-s.len];exact hi)]at e4
          cases e4;rw[d6 hj]at e1 e3;exact hn j ys _ (P9 hj) e1 e3 rfl
        · rw[fi (by rw[dQ];omega)]at e2;cases e2
      · rw[d6 hj]at e1 e3
        rw[d6 hk]at e2 e4;exact s.ne j k ys zs b hjk e1 e2 e3 e4
  oo:=by
    refine⟨λj xss e=>?_,λj k xss yss e1 e2=>?_⟩
    · have h:i≠j:=λh=>by
        subst h
        by_cases hi:i<ρ.length
        · rw[e9 hi]at e;cases e
        · rw[fi (by rw[dQ];omega)]at e;cases e
      rw[d6 h]at e;obtain⟨a',bs,e1,q,n⟩:=s1.oo.t j xss e;refine⟨a',bs,by rw[d6 h];exact e1,q.step x,λk ys c ek ec=>?_⟩
      by_cases hk:i=k
      · subst hk
        by_cases hi:i<ρ.length
        · rw[e9 (by rw[<-s.len];exact hi)]at ec
          cases ec;exact q.here hz
        · rw[fi (by rw[dQ];omega)]at ek;cases ek
      · rw[d6 hk]at ek ec
        exact n k ys c ek ec
    · have g:∀ {j:Nat} {xss:List QG},(ρ.set i<|.ow xs)[j]? = some (SV.oo xss)->ρ[j]? = some (SV.oo xss):=fun {j xss} e=>by
        by_cases h:i=j
        · subst h
          by_cases hi:i<ρ.length
          · rw[e9 hi]at e;cases e
          · rw[fi (by rw[dQ];omega)]at e;cases e
        · rw[d6 h]at e;exact e
      exact s.oo.u j k xss yss (g e1) (g e2) }
def pub(i:Nat)(ρ:cR):cR:=match ρ[i]? with
 |some (.ow xs)=>ρ.set i<|.d (.lst xs)
 |_=>ρ
theorem SOk.pub(s:SOk K W0 H0 W σ H ρ)(i:Nat):∃W',SOk K W0 H0 W' σ H (LP.pub i ρ)/\Wle W W':=by
 unfold LP.pub;split;rename_i xs e;obtain⟨a,vs,e1,e2,e3,e4,e5,r⟩:=s.o i xs e;have hi:i<ρ.length:=(Yaq.mp e).1;refine⟨W.put a<|.lst vs,⟨s.ext.pub e5 e2 e4 e3,by rw[dQ];exact s.len,λj y ej=>?_,λj ys ej=>?_,λj k ys zs b hjk ej ek e6=>?_,?_⟩,⟨qY e3,λ_ z=>z⟩⟩;by_cases h:i=j;subst h;rw[e9 hi]at ej;cases ej;exact⟨_,e1,.lst (by unfold Wd.put;dsimp only;rw[aV])<|r.mono (qY e3) λ_ z=>z⟩;rw[d6 h]at ej;obtain⟨v,q1,q2⟩:=s.d j y ej;exact⟨v,q1,q2.mono (qY e3) λ_ z=>z⟩;have h:i≠j:=λh=>by subst h;rw[e9 hi]at ej;cases ej
 rw[d6 h]at ej;obtain⟨b,us,q1,q2,q3,q4,q5,rr⟩:=s.o j ys ej;have hba:b≠a:=λz=>s.ne i j xs ys a h e ej e1 (by rw[<-z];exact q1);refine⟨b,us,q1,q2,?_,q4,q5,rr.mono (qY e3) λ_ z=>z⟩;unfold Wd.put;dsimp only;rw[aI hba];exact q3;have h:i≠j:=λh=>by subst h;rw[e9 hi]at ej;cases ej
 have h':i≠k:=λh=>by subst h;rw[e9 hi]at ek;cases ek
 rw[d6 h]at ej;rw[d6 h']at ek;exact s.ne j k ys zs b hjk ej ek e6;exact OOs.set ⟨λj xss ej=>let⟨a',bs,q1,q,n⟩:=s.oo.t j xss ej;⟨a',bs,q1,q.put (n i xs a e e1) e3,n⟩,s.oo.u⟩ (λ_ h=>by cases h) (λ_ _=>rfl) λ_ _ h=>by cases h
 exact⟨W,s,.refl W⟩
theorem SOk.chg(s:SOk K W0 H0 W σ H ρ){i:Nat}{a:Addr}{xs ys:QG}{us:QJ}(e:ρ[i]? = some (.ow xs))(e1:σ[i]? = some (some<|.ref a))(r:Reps K W us ys):SOk K W0 H0 W σ (upd H a<|.lst us) (ρ.set i<|.ow ys):=by
 obtain⟨a',vs,q1,q2,q3,q4,q5,rr⟩:=s.o i xs e;rw[e1]at q1;cases q1;have hi:i<ρ.length:=(Yaq.mp e).1;refine⟨s.ext.chg q5 q2 q4 q3,by rw[dQ];exact s.len,λj y ej=>?_,λj zs ej=>?_,λj k ys' zs b hjk ej ek e6=>?_,OOs.set ⟨λj xss ej=>let⟨a',bs,p1,q,n⟩:=s.oo.t j xss ej;⟨a',bs,p1,q.upd<|n i xs a e e1,n⟩,s.oo.u⟩ (λ_ h=>by cases h) (λ_ _=>rfl) λys c _ ec j xss a' bs _ ej ea _ n=>n i xs c e ec⟩;have h:i≠j:=λh=>by subst h;rw[e9 hi]at ej;cases ej
 rw[d6 h]at ej;exact s.d j y ej;by_cases h:i=j;subst h;rw[e9 hi]at ej;cases ej;exact⟨a,us,e1,aV,q3,q4,q5,r⟩;rw[d6 h]at ej;obtain⟨b,ws,p1,p2,p3,p4,p5,pr⟩:=s.o j zs ej;have hba:b≠a:=λz=>s.ne i j xs zs a h e ej e1 (by rw[<-z];exact p1);exact⟨b,ws,p1,by rw[aI hba];exact p2,p3,p4,p5,pr⟩;by_cases h:i=j;subst h;rw[d6 hjk]at ek;exact s.ne i k xs zs b hjk e ek e6;rw[d6 h]at ej;by_cases h':i=k;subst h';intro z;exact s.ne i j xs ys' b h e ej z e6;rw[d6 h']at ek;exact s.ne j k ys' zs b hjk ej ek e6
end
section
variable{rest:List Stmt}{a b:Expr}{z:WS}
def cF:WS:=λ_ N ρ=>N.nx ρ
def aG(z z':WS):WS:=λE N ρ=>z E { N with nx:=z' E N } ρ
theorem Nds.le_nx{N':Nds}(h:N.le N'){n n':cR->Prop}(hn:∀ρ,n ρ->n' ρ):Nds.le { N with nx:=n } { N' with nx:=n' }:=⟨hn,h.rt,h.bk,h.ct⟩
theorem cZ:jI X EX [] cF:=⟨⟨_,jR,λ_ _ _ W σ H ρ _ Dn N s fl _ no h=>no.nx W σ H ρ s fl h⟩,λ_ _ _ _ hl h=>hl.nx _ h⟩
theorem aW(h1:PZ X EX st z)(h2:jI X EX rest z'):jI X EX (st::rest) (aG z z'):=by obtain⟨t1,p1,k1⟩:=h1.t;obtain⟨t2,p2,k2⟩:=h2.t;refine⟨⟨_,eJ p1 p2,λW0 H0 F W σ H ρ E Dn N s fl eo no h=>?_⟩,λE ρ N N' hl h=>h1.mono _ _ _ _ (Nds.le_nx hl λρ' h'=>h2.mono _ _ _ _ hl h') h⟩;exact k1 W0 H0 F W σ H ρ E _ { N with nx:=z' E N } s fl eo ⟨λW1 σ1 H1 ρ1 s1 f1 hn=>k2 W0 H0 F W1 σ1 H1 ρ1 E Dn N s1 f1 eo no hn,no.rt,no.bk,no.ct⟩ h
theorem aU(h1:PZ X EX st z):jI X EX [st] z:=by obtain⟨t1,p1,k1⟩:=h1.t;exact⟨⟨_,lU p1,k1⟩,h1.mono⟩
def bK(i:Nat)(z:WS):WS:=λE N ρ=>z E N<|pub i ρ
theorem fQ(i:Nat)(h:jI X EX sts z):jI X EX sts (bK i z):=by obtain⟨t,p,k⟩:=h.t;refine⟨⟨t,p,λW0 H0 F W σ H ρ E Dn N s fl eo no h=>?_⟩,λE ρ N N' hl q=>h.mono _ _ _ _ hl q⟩;obtain⟨W',s',f'⟩:=s.pub i;exact k W0 H0 F W' σ H _ E Dn N s' (fl.trans f') eo no h
def fV(w:WE):WS:=λE N ρ=>w E ρ λ_=>N.nx ρ
theorem kU(he:PX X EX e w)(hs:{swapsWith e none pos.line X.env=pure false}):PZ X EX (.Expr e pos) (fV w):=by obtain⟨t,p,k⟩:=he.t;refine⟨⟨_,gi p hs,λW0 H0 F W σ H ρ E Dn N s fl eo no h=>?_⟩,λE ρ N N' hl q=>he.mono _ _ _ _ (λ_=>hl.nx ρ) q⟩;exact k W0 H0 W σ H ρ E _ s eo<|he.mono _ _ _ _ (λd hd v W1 H1 x1 r1=>no.nx W1 σ H1 ρ (s.step x1) (fl.ext x1) hd) h
def aH(w:WE):WS:=λE N ρ=>w E ρ N.rt
theorem bB(he:PX X EX e w):PZ X EX (.Return (some e) pos) (aH w):=by obtain⟨t,p,k⟩:=he.t;refine⟨⟨_,t4 p,λW0 H0 F W σ H ρ E Dn N s fl eo no h=>?_⟩,λE ρ N N' hl q=>he.mono _ _ _ _ hl.rt q⟩;exact k W0 H0 W σ H ρ E _ s eo<|he.mono _ _ _ _ (λd hd v W1 H1 x1 r1=>no.rt d v W1 H1 (s.ext.trans x1) r1 hd) h
def cE(w:WT)(z z':WS):WS:=λE N ρ=>w E ρ λb=>if b=true then z E N ρ else z' E N ρ
theorem dA{w:WT}{as bs:List Stmt}(hc:kG X EX c w)(ha:jI X EX as z)(hb:jI X EX bs z'):PZ X EX (.If c as bs pos) (cE w z z'):=by
 obtain⟨t,p,k⟩:=hc.t;obtain⟨ta,pa,ka⟩:=ha.t;obtain⟨tb,pb,kb⟩:=hb.t;refine⟨⟨_,sj p pa pb,λW0 H0 F W σ H ρ E Dn N s fl eo no h=>?_⟩,λE ρ N N' hl q=>hc.mono _ _ _ _ (λb hb'=>?_) q⟩;refine k W0 H0 W σ H ρ E _ s eo (hc.mono _ _ _ _ (λb hb' W1 H1 x1=>?_) h);cases b with
 |true=>rw[oI rfl]at hb' ⊢;exact ka W0 H0 F W1 σ H1 ρ E Dn N (s.step x1) (fl.ext x1) eo no hb'|false=>rw[jx<|E8]at hb' ⊢;exact kb W0 H0 F W1 σ H1 ρ E Dn N (s.step x1) (fl.ext x1) eo no hb'
 cases b with
 |true=>rw[oI rfl]at hb' ⊢;exact ha.mono _ _ _ _ hl hb'|false=>rw[jx<|E8]at hb' ⊢;exact hb.mono _ _ _ _ hl hb'
def aT(i:Nat)(w:WE):WS:=λE N ρ=>w E ρ λx=>N.nx<|ρ.set i (.d x)
theorem cL(i:Nat)(he:PX X EX e w)(hN:X.N.Nodup)(hi:{X.N[i]? = some x})(hx:autoParam (pD X.env.scope x) QQ._auto_1)(hs:{swapsWith e (some<|.Name x pos') pos.line X.env=pure false})
  (hf:autoParam (QC X x) QO._auto_1):PZ X EX (.Assign [.Name x pos'] e pos) (aT i w):=by
 obtain⟨t,p,k⟩:=he.t;refine⟨⟨_,lm hN hi hx p hs hf,λW0 H0 F W σ H ρ E Dn N s fl eo no h=>?_⟩,λE ρ N N' hl q=>he.mono _ _ _ _ (λ_=>hl.nx _) q⟩;exact k W0 H0 W σ H ρ E _ s eo<|he.mono _ _ _ _ (λd hd v W1 H1 x1 r1=>no.nx W1 _ H1 _ ((s.step x1).set r1) (fl.ext x1) hd) h
def bY(i:Nat)(t:WA):WS:=λE N ρ=>t E ρ λxs=>N.nx<|ρ.set i (.ow xs)
theorem sP(i:Nat)(he:PXL X EX e t)(hN:X.N.Nodup)(hi:{X.N[i]? = some x})(hx:autoParam (pD X.env.scope x) QQ._auto_1)(hs:{swapsWith e (some<|.Name x pos') pos.line X.env=pure false})
  (hf:autoParam (QC X x) QO._auto_1):PZ X EX (.Assign [.Name x pos'] e pos) (bY i t):=by
 obtain⟨t,p,k⟩:=he.t;refine⟨⟨_,lm hN hi hx p hs hf,λW0 H0 F W σ H ρ E Dn N s fl eo no h=>?_⟩,λE ρ N N' hl q=>he.mono _ _ _ _ (λ_=>hl.nx _) q⟩;refine k W0 H0 W σ H ρ E _ s eo<|he.mono _ _ _ _ (λxs hd a vs W1 H1 x1 e1 e2 e3 e4 r1=>no.nx W1 _ H1 _ (s.own x1 e4 e1 e2 e3 r1) (fl.ext x1) hd) h
end
def p6(K:PN)(W:Wd)(J:It)(ds:QG):Prop:=
 ∀W2 H2 (i:Nat),(∀a o,W.G a=some o->W2.G a=some o)->(∀a,W.Pn a->W2.Pn a)->WOk W2 H2->
  (∀d,ds[i]? = some d->J.go i H2/\∀x H3,J.yld i H2 x H3->∃W3,Ext W2 H2 W3 H3/\Rep K W3 x d)/\(ds.length<=i->J.stop i H2)
structure mL(X:Cx)(EX:XK)(tg iter:Expr)(w:WA):Prop where
 t:∃t,PI X tg iter t/\∀W0 H0 W σ H ρ E R,SOk X.K W0 H0 W σ H ρ->km X.K W0 H0 E EX->w E ρ (λds=>∀W' H' J,Ext W H W' H'->p6 X.K W' J ds->R J H')->t σ H R
 mono:∀E ρ P P',(∀d,P d->P' d)->w E ρ P->w E ρ P'
section
variable{a b:Expr}
def isL(Q:QG->Prop):D->Prop
 |.lst xs=>Q xs|_=>False
theorem Cj{Q:QG->Prop}(h:isL Q d):∃xs,d=.lst xs/\Q xs:=by
 cases d with
 |lst xs=>exact⟨xs,rfl,h⟩|_=>exact h.elim
theorem isL.mono{Q:QG->Prop}(h:∀b,Q b->Q' b):∀d,isL Q d->isL Q' d:=λd z=>by obtain⟨xs,rfl,q⟩:=Cj z;exact h _ q
def zK(Q:QG->Prop):D->Prop
 |.tup xs=>Q xs|_=>False
def iL(w:WE):WA:=λE ρ Q=>w E ρ<|isL Q
def iT(w:WE):WA:=λE ρ Q=>w E ρ<|zK Q
noncomputable def rng(lo:Int)(n:Nat):QG:=(List.range n).map λ(k:Nat)=>D.int<|lo+k
theorem Fd{W:Wd}(lo:Int)(n:Nat):p6 K W (v7 lo n) (rng lo n):=by
 intro W2 H2 i g2 p2 ok2;refine⟨λd hd=>?_,λhi=>?_⟩;unfold rng at hd;rw[cV]at hd;by_cases hi:i<n;rw[jB hi]at hd;cases hd;refine⟨hi,λx H3 y=>?_⟩;obtain⟨rfl,rfl⟩:=y;exact⟨W2,.refl ok2,.int _⟩;rw[fi<|by simpa using hi]at hd;cases hd;have:(rng lo n).length=n:=by unfold rng;simp
 rw[this]at hi;exact hi
def i1(Q:QG->Prop):QG->Prop
 |[.int j]=>-10000<=j/\j<10000/\Q (rng 0 j.toNat)|_=>False
def i2(Q:QG->Prop):QG->Prop
 |[.int i,.int j]=>(-10000<=i/\i<10000/\-10000<=j/\j<10000)/\Q (rng i (j-i).toNat)|_=>False
theorem i1.mono{Q:QG->Prop}(h:∀b,Q b->Q' b):∀d,i1 Q d->i1 Q' d:=λd z=>by unfold i1 at z ⊢;split at z;exact⟨z.1,z.2.1,h _ z.2.2⟩;exact z.elim
theorem i2.mono{Q:QG->Prop}(h:∀b,Q b->Q' b):∀d,i2 Q d->i2 Q' d:=λd z=>by unfold i2 at z ⊢;split at z;exact⟨z.1,h _ z.2⟩;exact z.elim
def fb(t:WA):WA:=λE ρ Q=>t E ρ<|i1 Q
def kn(t:WA):WA:=λE ρ Q=>t E ρ<|i2 Q
theorem kq(hm:X.mg "range" = none)(ha:j6 X EX [a] t)(hg:{Gl X "range"})(hs:{starEach [a] X.env=[(false,eval a X.env)]}):mL X EX tg (.Call (.Name "range" p) [a] [] pos) (fb t):=by
 obtain⟨t,q,k⟩:=ha.t;refine⟨⟨_,mq hg hm q hs,λW0 H0 W σ H ρ E R s eo h=>?_⟩,λE ρ P P' hp h=>ha.mono _ _ _ _ (i1.mono hp) h⟩;refine k W0 H0 W σ H ρ E _ s eo<|ha.mono _ _ _ _ (λds hd vs W1 H1 x1 r1=>?_) h;unfold i1 at hd;split at hd
 obtain⟨v,rfl,rv⟩:=r1.one;cases rv;exact⟨_,rfl,E1,E1,hd.2.2 W1 H1 _ x1<|Fd _ _⟩;exact hd.elim
theorem Fe(hm:X.mg "range" = none)(ha:j6 X EX [a,b] t)(hg:{Gl X "range"})(hs:{starEach [a,b] X.env=[(false,eval a X.env),(false,eval b X.env)]})(hs2:{starEach [b] X.env=[(false,eval b X.env)]}) :
  mL X EX tg (.Call (.Name "range" p) [a,b] [] pos) (kn t):=by
 obtain⟨t,q,k⟩:=ha.t;refine⟨⟨_,ms hg hm q hs hs2,λW0 H0 W σ H ρ E R s eo h=>?_⟩,λE ρ P P' hp h=>ha.mono _ _ _ _ (i2.mono hp) h⟩;refine k W0 H0 W σ H ρ E _ s eo<|ha.mono _ _ _ _ (λds hd vs W1 H1 x1 r1=>?_) h;unfold i2 at hd;split at hd
 .obtain⟨v,u,rfl,rv,ru⟩:=r1.two
  cases rv;cases ru;exact⟨_,_,rfl,⟨E1,E1,E1,E1⟩,hd.2 W1 H1 _ x1<|Fd _ _⟩
 .exact hd.elim
end
abbrev WG:=D->cR->(cR->Prop)->Prop
variable{g:WG}
def ZhM(ρ:cR):Prop:=∀(i:Nat),(∀xs,ρ[i]?≠some (SV.ow xs))/\∀xss,ρ[i]?≠some (SV.oo xss)
structure p8(X:Cx)(tg:Expr)(g:WG):Prop where
 t:∃t,PG X tg t/\∀W0 H0 W σ H ρ d v Q,SOk X.K W0 H0 W σ H ρ->Rep X.K W v d->g d ρ (λρ'=>∀σ',SOk X.K W0 H0 W σ' H ρ'->Q σ' H)->t v σ H Q
 mono:∀d ρ P P',(∀r,P r->P' r)->g d ρ P->g d ρ P'
 own:∀d ρ P,ZhM ρ->g d ρ P->g d ρ (λr=>ZhM r/\P r)
section
theorem ZhM.set{ρ:cR}(h:ZhM ρ)(i:Nat)(d:D):ZhM (ρ.set i<|.d d):=λj=>by by_cases hj:i=j;subst hj;by_cases hi:i<ρ.length;rw[e9 hi];exact⟨λ_ e=>(by cases e),λ_ e=>(by cases e)⟩;rw[fi (by rw[dQ];omega)];exact⟨λ_ e=>(by cases e),λ_ e=>(by cases e)⟩;rw[d6 hj];exact h j
def gN(i:Nat):WG:=λd ρ k=>k<|ρ.set i (.d d)
theorem bL(i:Nat)(hN:X.N.Nodup)(hi:{X.N[i]? = some x})(hx:autoParam (pD X.env.scope x) QQ._auto_1)(hf:autoParam (QC X x) QO._auto_1) :
  p8 X (.Name x pos) (gN i):=
 ⟨⟨_,qH hN hi hx hf,λW0 H0 W σ H ρ d v Q s r h=>h _<|s.set r⟩,λd ρ P P' hp h=>hp _ h,λd ρ P ho h=>⟨ho.set i d,h⟩⟩
theorem QK{i:Nat}(hd:{decide X.N.Nodup=true})(hi:{X.N[i]? = some x})(hx:autoParam (pD X.env.scope x) QQ._auto_1)(hf:autoParam (QC X x) QO._auto_1) :
  p8 X (.Name x pos) (gN i):=bL i (of_decide_eq_true hd) hi hx hf
end
def Zb5(nv:Nat)(sel:Qz)(ρ:cR):cR:=List.replicate nv .un++sel.map λj=>match ρ[j]? with|some (.d x)=>.d x|_=>.un
theorem Zb5.own(nv:Nat)(sel:Qz)(ρ:cR):ZhM (Zb5 nv sel ρ):=λi=>by
 have key:∀sv,(Zb5 nv sel ρ)[i]? = some sv->sv=.un\/∃x,sv=.d x:=λsv e=>by
  unfold Zb5 at e;rcases gD i nv with h|h
  rw[lR<|by simpa using h,lQ]at e;rw[oI h]at e;cases e;exact .inl rfl;rw[lP<|by simpa using h,cV]at e;cases q:sel[i-(List.replicate nv SV.un).length]? with
  |none=>rw[q]at e;cases e
  |some j=>rw[q]at e;have e':=PY e;dsimp only at e';split at e';exact .inr ⟨_,e'.symm⟩;exact .inl e'.symm
 refine⟨λxs e=>?_,λxs e=>?_⟩;rcases key _ e with z|⟨x,z⟩<;>cases z
 rcases key _ e with z|⟨x,z⟩<;>cases z
def No:Ex->Prop:=λ_=>False
def lcW(g:WG)(wf:WT)(we:WE):QG->cR->QG->(QG->Prop)->Prop
 |[],_,acc,Q=>Q acc|d::ds,ρ,acc,Q=>g d ρ λρ2=>wf No ρ2 λb=>if b=true then we No ρ2 λy=>acc.length<aR/\lcW g wf we ds ρ2 (acc++[y]) Q else lcW g wf we ds ρ2 acc Q
structure sQ(X:Cx)(EX:XK)(ifs:List Expr)(w:WT):Prop where
 t:∃t,PF X ifs t/\∀W0 H0 W σ H ρ E Q,SOk X.K W0 H0 W σ H ρ->km X.K W0 H0 E EX->w E ρ (λb=>∀W' H',Ext W H W' H'->Q b H')->t σ H Q
 mono:∀E ρ P P',(∀d,P d->P' d)->w E ρ P->w E ρ P'
def cC:WT:=λ_ _ Q=>Q true
section
theorem dW:sQ X EX [] cC:=⟨⟨_,Jf,λ_ _ W _ H _ _ _ s _ h=>h W H<|.refl s.ok⟩,λ_ _ _ _ hp h=>hp _ h⟩
theorem w4(h:kG X EX c wf):sQ X EX [c] wf:=let⟨t,q,k⟩:=h.t;⟨⟨t,Jg q,k⟩,h.mono⟩
theorem lcW.mono(hg:∀d ρ P P',(∀r,P r->P' r)->g d ρ P->g d ρ P')(hf:∀E ρ P P',(∀d,P d->P' d)->wf E ρ P->wf E ρ P')(he:∀E ρ P P',(∀d,P d->P' d)->we E ρ P->we E ρ P') :
  ∀ds ρ acc P P',(∀xs,P xs->P' xs)->lcW g wf we ds ρ acc P->lcW g wf we ds ρ acc P'
 |[],_,acc,P,P',hp,h=>hp _ h
 | d::ds,ρ,acc,P,P',hp,h=>hg _ _ _ _ (λr hr=>hf _ _ _ _ (λb hb=>by
   cases b with
   |true=>rw[oI rfl]at hb ⊢;exact he _ _ _ _ (λy hy=>⟨hy.1,lcW.mono hg hf he ds r _ P P' hp hy.2⟩) hb
   |false=>rw[jx<|E8]at hb ⊢;exact lcW.mono hg hf he ds r _ P P' hp hb) hr) h
def aLC(wi:WA)(nv:Nat)(sel:Qz)(g:WG)(wf:WT)(we:WE):WA:=λE ρ Q=>wi E ρ λds=>lcW g wf we ds (Zb5 nv sel ρ) [] Q
theorem aLC.mono(hi:mL X EX target iter wi)(hg:∀d ρ P P',(∀r,P r->P' r)->g d ρ P->g d ρ P')(hf:∀E ρ P P',(∀d,P d->P' d)->wf E ρ P->wf E ρ P')(he:∀E ρ P P',(∀d,P d->P' d)->we E ρ P->we E ρ P') :
  ∀E ρ P P',(∀d,P d->P' d)->aLC wi vars.length sel g wf we E ρ P->aLC wi vars.length sel g wf we E ρ P':=λE ρ P P' hp h=>hi.mono _ _ _ _ (λds hds=>lcW.mono hg hf he ds _ _ _ _ hp hds) h
theorem SOk.lc{W:Wd}(s:SOk X.K W0 H0 W σ H ρ)(nv:Nat)(sel:Qz):SOk X.K W0 H0 W (hZ nv sel σ) H (Zb5 nv sel ρ) where
 ext:=s.ext
 len:=by unfold Zb5 hZ;simp
 d:=λi x e=>by
  unfold Zb5 at e;rcases gD i nv with h|h
  rw[lR<|by simpa using h,lQ]at e;split at e<;>cases e;rw[lP<|by simpa using h,cV,lS]at e;cases q:sel[i-nv]? with
  |none=>rw[q]at e;cases e
  |some j=>rw[q]at e;have e':=PY e;dsimp only at e';split at e';rename_i y ey;cases e';obtain⟨v,ev,r⟩:=s.d j x ey;refine⟨v,?_,r⟩;unfold hZ;rw[lP<|by simpa using h,lS,cV,q];show some ((σ[j]?).getD none)=_;rw[ev];rfl;cases e'
 o:=λi xs e=>PQ e<|(Zb5.own nv sel ρ i).1 xs
 ne:=λi j xs ys a _ e=>PQ e<|(Zb5.own nv sel ρ i).1 xs
 oo:=.none λi=>(Zb5.own nv sel ρ i).2
theorem SOk.chgD{W:Wd}{o':HO}(s:SOk K W0 H0 W σ H ρ)(ho:ZhM ρ)(h0:H0 a=none)(h1:H a=some o)(h2:¬W.Pn a)(h3:W.G a=none):SOk K W0 H0 W σ (upd H a o') ρ:=
 ⟨s.ext.chg h0 h1 h2 h3,s.len,s.d,λi xs e=>PQ e<|(ho i).1 xs,λi j xs ys a _ e=>PQ e<|(ho i).1 xs,.none λi=>(ho i).2⟩
theorem Ck(hi:mL X EX target iter wi)(hg:∀s H fp,p8 (X.lc sc vars sel s H fp) target g)(hf:∀s H fp,sQ (X.lc sc vars sel s H fp) E0 ifs wf)(he:∀s H fp,PX (X.lc sc vars sel s H fp) E0 elt we) :
  ∃(ti:TI) (tg:TG) (tf:TT) (te:TE),PI X target iter ti/\(∀s H fp,PG (X.lc sc vars sel s H fp) target tg)/\(∀s H fp,PF (X.lc sc vars sel s H fp) ifs tf)/\(∀s H fp,PE (X.lc sc vars sel s H fp) elt te)/\
   ∀W0 H0 W σ H ρ E Q,SOk X.K W0 H0 W σ H ρ->km X.K W0 H0 E EX->
    aLC wi vars.length sel g wf we E ρ (λds=>∀a vs W' H',Ext W H W' H'->H' a=some (.lst vs)->W'.G a=none->¬W'.Pn a->H a=none->Reps X.K W' vs ds->Q (.ref a) H')->B6 ti vars.length sel tg tf te σ H Q:=by
 obtain⟨ti,pi,ki⟩:=hi.t;refine ⟨ti,λv σ H Q=>∃ W0 H0 W ρ d,SOk X.K W0 H0 W σ H ρ/\Rep X.K W v d/\g d ρ (λρ'=>∀ σ',SOk X.K W0 H0 W σ' H ρ'->Q σ' H),
  λσ H Q=>∃W0 H0 W ρ,SOk X.K W0 H0 W σ H ρ/\wf No ρ (λb=>∀W' H',Ext W H W' H'->Q b H'),
  λσ H Q=>∃W0 H0 W ρ,SOk X.K W0 H0 W σ H ρ/\we No ρ (RQ X.K W H Q),pi,λs1 H1 fp=>?_,λs1 H1 fp=>?_,λs1 H1 fp=>?_,?_⟩
 .obtain⟨t,q,k⟩:=(hg s1 H1 fp).t
  rintro tv s σ H v u Q I r ⟨W0,H0,W,ρ,d,s',r',h⟩;exact q tv s σ H v u Q I r<|k W0 H0 W σ H ρ d v Q s' r' h
 .obtain⟨t,q,k⟩:=(hf s1 H1 fp).t
  rintro tv s σ H Q I ⟨W0,H0,W,ρ,s',h⟩;exact q tv s σ H Q I<|k W0 H0 W σ H ρ No Q s' (λ_ _ _ _ _ z=>z.elim) h
 .obtain⟨t,q,k⟩:=(he s1 H1 fp).t
  rintro tv s σ H Q I ⟨W0,H0,W,ρ,s',h⟩;exact q tv s σ H Q I<|k W0 H0 W σ H ρ No Q s' (λ_ _ _ _ _ z=>z.elim) h
 .have gm:=(hg {} (λ_=>none) []).mono
  have go:=(hg {} (λ_=>none) []).own;have fm:=(hf {} (λ_=>none) []).mono;have em:=(he {} (λ_=>none) []).mono;intro W0 H0 W σ H ρ E Q s eo h;refine ki W0 H0 W σ H ρ E _ s eo<|hi.mono _ _ _ _ (λds hds W1 H1 J x1 it D hD=>?_) h;have hDf:=x1.ok.fresh hD;have hD0:H0 D=none:=s.ext.isN<|x1.isN hD;refine ⟨λi m ys σ2 H2=>m=ds.length - i/\i<=ds.length/\∃ W2 ρ2 acc,Ext W1 H1 W2 H2/\SOk X.K W0 H0 W2 σ2 H2 ρ2/\ZhM ρ2/\H2 D=some (.lst ys)/\W2.G D=none/\¬ W2.Pn D/\Reps X.K W2 ys acc/\
   lcW g wf we (ds.drop i) ρ2 acc (λds=>∀a vs W' H',Ext W H W' H'->H' a=some (.lst vs)->W'.G a=none->¬W'.Pn a->H a=none->Reps X.K W' vs ds->Q (.ref a) H'),⟨_,rfl,k9 _,W1,_,[],.new x1.ok hD,?_,Zb5.own _ _ ρ,aV,hDf.1,hDf.2,.nil,by rw[tI];exact hds⟩,?_⟩
  .exact(((s.step x1).step<|.new x1.ok hD).lc vars.length sel)
  .rintro i m ys σ2 H2 ⟨rfl,hi',W2,ρ2,acc,x2,s2,no2,hD2,g2,p2,r2,q2⟩
   refine⟨hD2,?_⟩;obtain⟨itg,its⟩:=it W2 H2 i x2.g x2.p x2.ok;rcases gD i ds.length with hlt|hge
   .have hd:ds[i]? = some ds[i]:=bZ hlt
    obtain⟨go',yl⟩:=itg _ hd;refine .inr ⟨go',λx H3 y=>?_⟩;obtain⟨W3,x3,r3⟩:=yl x H3 y;rw[tJ hlt]at q2;have keepD:∀{W' H'},Ext W2 H2 W' H'->H' D=some (.lst ys)/\W'.G D=none/\¬W'.Pn D:=λ{W' H'} x'=>by
     refine⟨x'.h D _ hD2 p2,?_,λz=>?_⟩
     .cases q:W'.G D with|none=>rfl|some o=>have:=x'.gf D g2 (by rw[q];simp);rw[hD2]at this;cases this
     .have:=x'.pf D p2 z;rw[hD2]at this;cases this
    refine⟨W0,H0,W3,ρ2,ds[i],s2.step x3,r3,gm _ _ _ _ (λρ4 hr σ4 s4=>?_)<|go _ _ _ no2 q2⟩;obtain⟨no4,hr⟩:=hr;refine⟨W0,H0,W3,ρ4,s4,fm _ _ _ _ (λb hb W5 H5 x5=>?_) hr⟩;cases b with
    |false=>
     rw[jx<|E8]at hb ⊢;have kD:=keepD<|x3.trans x5;exact⟨ds.length-(i+1),E1,rfl,hlt,W5,ρ4,acc,x2.trans<|x3.trans x5,s4.step x5,no4,kD.1,kD.2.1,kD.2.2,(x3.trans x5).reps r2,hb⟩
    |true=>
     rw[oI rfl]at hb ⊢;refine⟨W0,H0,W5,ρ4,s4.step x5,em _ _ _ _ (λy hy v W6 H6 x6 r6=>?_) hb⟩;have xx:=x3.trans<|x5.trans x6;have kD:=keepD xx;have hl:ys.length=acc.length:=r2.length;refine⟨kD.1,by rw[hl];exact dN hy.1<|nh<|cO _,ds.length-(i+1),E1,rfl,hlt,W6,ρ4,acc++[y],(x2.trans xx).chg hD kD.1 kD.2.2 kD.2.1,?_,no4,aV,kD.2.1,kD.2.2,(xx.reps r2).append<|.cons r6 .nil,hy.2⟩;exact((s4.step x5).step x6).chgD no4 hD0 kD.1 kD.2.2 kD.2.1
   .have e:i=ds.length:=E1
    refine .inl ⟨its hge,?_⟩;rw[yR hge]at q2;exact q2 D ys W2 H2 (x1.trans x2) hD2 g2 p2 (x1.isN hD) r2
theorem e7(vars:Qx)(sel:Qz)(hc:X.calm=true)(hi:mL X EX target iter wi)(hg:∀s H fp,p8 (X.lc sc vars sel s H fp) target g)(hf:∀s H fp,sQ (X.lc sc vars sel s H fp) E0 ifs wf)(he:∀s H fp,PX (X.lc sc vars sel s H fp) E0 elt we)
  (ok:{kR sc X.env.scope=true}) (so:{qh X.N sc sel=true}) (hs:autoParam (∀x,foldedSetIterable iter X.env x=pure x) QN._auto_1):PXL X EX (.ListComp elt [⟨target,iter,ifs,0⟩] sc pos) (aLC wi vars.length sel g wf we):=by
 obtain⟨ti,tg,tf,te,pi,pg,pf,pe,k⟩:=Ck hi hg hf he;exact⟨⟨_,wG vars sel hc pi ok so pg pf pe hs,k⟩,aLC.mono hi (hg {} (λ_=>none) []).mono (hf {} (λ_=>none) []).mono (he {} (λ_=>none) []).mono⟩
theorem p9(i:Nat)(vars:Qx)(sel:Qz)(hc:X.calm=true)(hN:X.N.Nodup)(hi:mL X EX target iter wi)(hg:∀s H fp,p8 (X.lc sc vars sel s H fp) target g)(hf:∀s H fp,sQ (X.lc sc vars sel s H fp) E0 ifs wf)(he:∀s H fp,PX (X.lc sc vars sel s H fp) E0 elt we)
  (hix:{X.N[i]? = some x}) (hx:autoParam (pD X.env.scope x) QQ._auto_1)
  (hsw:{swapsWith (.ListComp elt [⟨target,iter,ifs,0⟩] sc pos) (some<|.Name x pos') spos.line X.env=pure true})
  (ok:{kR sc X.env.scope=true}) (so:{qh X.N sc sel=true}) (hs:autoParam (∀x,foldedSetIterable iter X.env x=pure x) QN._auto_1) (hfn:autoParam (QC X x) QO._auto_1) :
  PZ X EX (.Assign [.Name x pos'] (.ListComp elt [⟨target,iter,ifs,0⟩] sc pos) spos) (bY i<|aLC wi vars.length sel g wf we):=by
 obtain⟨ti,tg,tf,te,pi,pg,pf,pe,k⟩:=Ck hi hg hf he;have am:=aLC.mono (vars:=vars) (sel:=sel) hi (hg {} (λ_=>none) []).mono (hf {} (λ_=>none) []).mono (he {} (λ_=>none) []).mono;refine⟨⟨_,EY vars sel hc hN hix hx pi ok so pg pf pe hsw hs hfn,λW0 H0 F W σ H ρ E Dn N s fl eo no h=>?_⟩,λE ρ N N' hl q=>am _ _ _ _ (λ_=>hl.nx _) q⟩;refine k W0 H0 W σ H ρ E _ s eo<|am _ _ _ _ (λxs hd a vs W1 H1 x1 e1 e2 e3 e4 r1=>no.nx W1 _ H1 _ (s.own x1 e4 e1 e2 e3 r1) (fl.ext x1) hd) h
def Zbf(g:WG)(zb:WS)(E:QF)(N:Nds):QG->cR->Prop
 |[],ρ=>N.nx ρ|d::ds,ρ=>g d ρ λρ1=>zb E { nx:=Zbf g zb E N ds,rt:=N.rt,bk:=N.nx,ct:=Zbf g zb E N ds } ρ1
def bH(wi:WA)(g:WG)(zb:WS):WS:=λE N ρ=>wi E ρ λds=>Zbf g zb E N ds ρ
theorem Zbf.mono{zb:WS}(hg:∀d ρ P P',(∀r,P r->P' r)->g d ρ P->g d ρ P')(hb:∀E ρ N N',N.le N'->zb E N ρ->zb E N' ρ){E:QF}{N N':Nds}(hl:N.le N'):∀ds ρ,Zbf g zb E N ds ρ->Zbf g zb E N' ds ρ
 |[],ρ,h=>hl.nx _ h|d::ds,ρ,h=>hg _ _ _ _ (λr hr=>hb E r { nx:=Zbf g zb E N ds,rt:=N.rt,bk:=N.nx,ct:=Zbf g zb E N ds } _ ⟨Zbf.mono hg hb hl ds,hl.rt,hl.nx,Zbf.mono hg hb hl ds⟩ hr) h
theorem jf(hp:PassesOwn (model X.prog X.w) X.A X.env X.xe)(hc:X.calm=true)(hi:mL X EX target iter wi)(hg:p8 X target g)(hb:jI X EX body zb)
  (hs:autoParam (∀x,foldedSetIterable iter X.env x=pure x) QN._auto_1):PZ X EX (.For target iter body [] pos) (bH wi g zb):=by
 obtain⟨ti,pi,ki⟩:=hi.t;obtain⟨tg,pg,kg⟩:=hg.t;obtain⟨tb,pb,kb⟩:=hb.t;refine⟨⟨_,uc hp hc pi pg pb hs,λW0 H0 F W σ H ρ E Dn N s fl eo no h=>?_⟩,λE ρ N N' hl q=>hi.mono _ _ _ _ (λds hds=>Zbf.mono hg.mono hb.mono hl ds ρ hds) q⟩;refine ki W0 H0 W σ H ρ E _ s eo<|hi.mono _ _ _ _ (λds hds W1 H1 J x1 it=>?_) h;refine⟨λi m σ2 H2=>m=ds.length-i/\i<=ds.length/\∃W2 ρ2,SOk X.K W0 H0 W2 σ2 H2 ρ2/\Wle W1 W2/\Zbf g zb E N (ds.drop i) ρ2,⟨_,rfl,k9 _,W1,ρ,s.step x1,.refl W1,by rw[tI];exact hds⟩,?_⟩;rintro i m σ2 H2 ⟨rfl,hi',W2,ρ2,s2,f2,q2⟩;obtain⟨itg,its⟩:=it W2 H2 i f2.g f2.p s2.ok;have fF:∀{V:Wd},Wle W1 V->Wle F V:=λf=>(fl.ext x1).trans f;rcases gD i ds.length with hlt|hge
 .have hd:ds[i]? = some ds[i]:=bZ hlt
  obtain⟨go',yl⟩:=itg _ hd;rw[tJ hlt]at q2;refine .inr ⟨go',λσ3 H3=>∃W3 ρ3,SOk X.K W0 H0 W3 σ3 H3 ρ3/\Wle W1 W3/\Zbf g zb E N (ds.drop<|i+1) ρ3,λσ3 H3 ⟨W3,ρ3,s3,f3,q3⟩=>⟨ds.length-(i+1),E1,rfl,hlt,W3,ρ3,s3,f3,q3⟩,λx H3 y=>?_⟩;obtain⟨W3,x3,r3⟩:=yl x H3 y;refine kg W0 H0 W3 σ2 H3 ρ2 ds[i] x _ (s2.step x3) r3<|hg.mono _ _ _ _ (λρ4 hr σ4 s4=>?_) q2;refine kb W0 H0 W1 W3 σ4 H3 ρ4 E _ { nx:=Zbf g zb E N<|ds.drop<|i+1,rt:=N.rt,bk:=N.nx,ct:=Zbf g zb E N (ds.drop<|i+1) } s4 (f2.ext x3) eo ⟨λW5 σ5 H5 ρ5 s5 f5 h5=>⟨W5,ρ5,s5,f5,h5⟩,no.rt,λW5 σ5 H5 ρ5 s5 f5 h5=>no.nx W5 σ5 H5 ρ5 s5 (fF f5) h5,λW5 σ5 H5 ρ5 s5 f5 h5=>⟨W5,ρ5,s5,f5,h5⟩⟩ hr
 .have e:i=ds.length:=E1
  refine .inl ⟨its hge,?_⟩;rw[yR hge]at q2;exact no.nx W2 σ2 H2 ρ2 s2 (fF f2) q2
end
def fL(N:Qx)(ds:QG):cR:=ds.map .d++List.replicate (N.length-ds.length) .un
abbrev Rd(S:QG->(QF)->(QH)->Prop)(z:WS)(N:Qx):Prop:=∀ds E Q,S ds E Q->z E { nx:=λ_=>Q .non,rt:=Q } (fL N ds)
theorem Ff{W:Wd}{N:Qx}(ok:WOk W H)(r:Reps K W vs ds):SOk K W H W (start N vs) H (fL N ds) where
 ext:=.refl ok
 len:=by unfold fL L2.start;simp[r.length]
 d:=λi x e=>by
  unfold fL at e;rcases gD i ds.length with h|h
  rw[lR<|by simpa using h,cV]at e;cases q:ds[i]? with
  |none=>rw[q]at e;cases e
  |some y=>rw[q]at e;cases e;obtain⟨v,ev,rv⟩:=r.get q;refine⟨v,?_,rv⟩;unfold L2.start;rw[lR (by rw[bQ,r.length];exact h),cV,ev];rfl
  rw[lP<|by simpa using h,lQ]at e;split at e<;>cases e
 o:=λi xs e=>by
  unfold fL at e;rcases gD i ds.length with h|h
  rw[lR<|by simpa using h,cV]at e;cases q:ds[i]? with
  |none=>rw[q]at e;cases e
  |some y=>rw[q]at e;cases e
  rw[lP<|by simpa using h,lQ]at e;split at e<;>cases e
 ne:=λi j xs ys a _ e=>by
  unfold fL at e;rcases gD i ds.length with h|h
  rw[lR<|by simpa using h,cV]at e;cases q:ds[i]? with
  |none=>rw[q]at e;cases e
  |some y=>rw[q]at e;cases e
  rw[lP<|by simpa using h,lQ]at e;split at e<;>cases e
 oo:=.none λi xs e=>by
  unfold fL at e;rcases gD i ds.length with h|h
  rw[lR<|by simpa using h,cV]at e;cases q:ds[i]? with
  |none=>rw[q]at e;cases e
  |some y=>rw[q]at e;cases e
  rw[lP<|by simpa using h,lQ]at e;split at e<;>cases e
section
variable{P:Program}{w:World}
theorem w6{N:Qx}{z:WS}(F:Fun K x qual st f fd)(sc:dI N ps (aJ st))(len:∀ds E Q,S ds E Q->ds.length=ps.length)
  (hbody:∀ (cdv:Value) (A:Around) (outer:List Env) (s:Shared) (H:Hp) (E:XK),Room k (A.deeper<|envOfC qual (aJ st) s.heap.objs.size f cdv)->
   dU (gu P w) (fo (gu P w) P w K mg base N qual (aJ st) f cdv A outer s H E) E->mH (fo (gu P w) P w K mg base N qual (aJ st) f cdv A outer s H E) E->
   jI (fo (gu P w) P w K mg base N qual (aJ st) f cdv A outer s H E) E (bT st) z)
  (h:∀ds E Q,S ds E Q->z E { nx:=λ_=>Q .non,rt:=Q } (fL N ds)):FnOk P w K mg base (gu P w) (k+1) f fd ps (iO K S):=by
 obtain⟨oc,od,kV,doc,pm,an,cdv,ct,osl,rfl,lk,hcd⟩:=F.ex;refine wm lk hcd sc (λvs H Q E hs=>?_) λA outer s H vs Q E hr hs=>?_
 .obtain⟨ds,W,_,r,hS⟩:=hs
  rw[r.length];exact len _ _ _ hS
 .obtain⟨ds,W,ok,r,hS⟩:=hs
  obtain⟨t,p,k⟩:=(hbody cdv A outer s H E hr Jo Jp).t;refine ⟨t,p,k W H W W (start N vs) H (fL N ds) (λex=>∀ W' H' cls dx,Ext W H W' H'->wW K W' H' cls dx ex->E cls dx H') _ { nx:=λ_=>RQ K W H Q .non,rt:=RQ K W H Q } (Ff ok r) (.refl W) (λex W' H' cls dx he x r=>he W' H' cls dx x r)
   ⟨λW1 σ1 H1 ρ1 s1 _ q=>q _ W1 H1 s1.ext .non,λd v W1 H1 x1 r1 q=>q v W1 H1 x1 r1,λ_ _ _ _ _ _ q=>q.elim,λ_ _ _ _ _ _ q=>q.elim⟩ (h ds _ _ hS)⟩
end
structure Fp(P:Program)(w:World)(K:PN)(mg:Qt)(base:Heap)(k:Nat)(x:Str)(ps:Qx)(S:bA):Prop where
 ok:∃f fd,FnOk P w K mg base (gu P w) k f fd ps (iO K S)/\mg x=some (.ref f)/\PySem.W.keepIn K (.ref f)=true/\Binds K fd ps []
 mono:mJ S
section
theorem aQ(G:Fp X.prog X.w X.K X.mg X.base k x ps S)(hr:Room j X.A)(hx:dU (gu X.prog X.w) X EX)(ha:j6 X EX (e::es) t)(hk:(k<=j:))(hg:{Gl X x})(hdb:(QA x:))(he:{QD X e es})(hpl:{QE X pos es}) :
  PX X EX (.Call (.Name x p) (e::es) [] pos) (wF S t):=by
 obtain⟨f,fd,F,hm,kp,hb⟩:=G.ok;exact Kh F G.mono (hr.mono hk) hm kp hb hx ha hg hdb he hpl
def bF(z:WS):WS:=λ_ N ρ=>z No N ρ
theorem i6{z:WS}(h:PZ X.nox E0 st z):PZ X EX st (bF z):=by obtain⟨t,p,k⟩:=h.t;refine⟨⟨t,λtv s σ H D I hw=>P2 (p tv s σ H D (I.wish _) hw) (λ_ _ q=>q.unwish) λ_ _ z=>P8 z,λW0 H0 F W σ H ρ E Dn N s fl eo no q=>k W0 H0 F W σ H ρ No Dn N s fl (λ_ _ _ _ _ z=>z.elim) no q⟩,λE ρ N N' hl q=>h.mono _ _ _ _ hl q⟩
end
section
variable{a b:Expr}
def isS(Q:QG->Prop):D->Prop
 |.lst xs=>Q xs|.tup xs=>Q xs|_=>False
theorem isS.mono{Q:QG->Prop}(h:∀b,Q b->Q' b):∀d,isS Q d->isS Q' d:=λd z=>by cases d<;>first|exact h _ z|exact z
def iS(w:WE):WA:=λE ρ Q=>w E ρ<|isS Q
theorem e8(he:PX X EX e w):mL X EX tg e (iS w):=by
 obtain⟨t,q,k⟩:=he.t;refine⟨⟨_,Jq q,λW0 H0 W σ H ρ E R s eo h=>?_⟩,λE ρ P P' hp h=>he.mono _ _ _ _ (isS.mono hp) h⟩;refine k W0 H0 W σ H ρ E _ s eo<|he.mono _ _ _ _ (λd hd v W1 H1 x1 r1=>?_) h;have keyT:∀{l:Addr} {vs:QJ} {xs:QG},(∀W' H' J,Ext W H W' H'->p6 X.K W' J xs->R J H')->(∀W2 H2,(∀a o,W1.G a=some o->W2.G a=some o)->WOk W2 H2->SqT X.K H2 l vs)->Reps X.K W1 vs xs->(∃ys,SqT X.K H1 l ys)/\R (BO X.K l) H1:=by intro l vs xs hq sq rr;refine⟨⟨vs,sq W1 H1 (λ_ _ z=>z) x1.ok⟩,hq W1 H1 _ x1 λW2 H2 i g2 p2 ok2=>⟨λd hd=>?_,λhi=>⟨vs,sq W2 H2 g2 ok2,by rw[rr.length];exact hi⟩⟩⟩;obtain⟨v,ev,rv⟩:=rr.get hd;refine⟨⟨vs,v,sq W2 H2 g2 ok2,ev⟩,λx H3 y=>?_⟩;obtain⟨rfl,y⟩:=y;have:=y vs<|sq W2 _ g2 ok2;rw[ev]at this;cases this;exact⟨W2,.refl ok2,rv.mono g2 p2⟩
 cases r1 with
 | @lst l vs xs e1 rr=>have hq:∀W' H' J,Ext W H W' H'->p6 X.K W' J xs->R J H':=hd;refine⟨l,rfl,.inl ⟨⟨vs,SqL.of<|x1.ok.g _ _ e1⟩,hq W1 H1 _ x1 λW2 H2 i g2 p2 ok2=>⟨λd hd=>?_,λhi=>⟨vs,SqL.of<|ok2.g _ _<|g2 _ _ e1,by rw[rr.length];exact hi⟩⟩⟩⟩;obtain⟨v,ev,rv⟩:=rr.get hd;have sq:SqL X.K H2 l vs:=SqL.of<|ok2.g _ _ (g2 _ _ e1);refine⟨⟨vs,v,sq,ev⟩,λx H3 y=>?_⟩;obtain⟨rfl,y⟩:=y;have:=y vs sq;rw[ev]at this;cases this;exact⟨W2,.refl ok2,rv.mono g2 p2⟩
 |tup e1 rr=>exact⟨_,rfl,.inr<|keyT hd (λW2 H2 g2 ok2=>SqT.of<|ok2.g _ _<|g2 _ _ e1) rr⟩|ktup e1 rr=>exact⟨_,rfl,.inr<|keyT hd (λW2 H2 g2 ok2=>.inr e1) rr⟩|non=>exact hd.elim|bl _=>exact hd.elim|int _=>exact hd.elim|str _=>exact hd.elim|dic _=>exact hd.elim|pen _=>exact hd.elim|cls _=>exact hd.elim|exc _ _=>exact hd.elim|ty _=>exact hd.elim|pl _=>exact hd.elim|scr _ _=>exact hd.elim
theorem kK{T:String}(hm:X.mg x=none)(hv:bootBuiltins x=some (.type T))(hg:{Gl X x})(hn:(x≠ "__name__":))(hd:(QA x:)):PX X EX (.Name x pos) (wC<|.ty T):=
 Kd (v:=.ty T) hm hv rfl (λ_=>.ty T) hg hn hd
theorem Ks{i:Int}{t:Tok}(hm:X.mg x=some (.int i t))(hg:{Gl X x})(hd:(QA x:)):PX X EX (.Name x pos) (wC<|.int i):=
 Cf (v:=.int i) hm ⟨t,rfl⟩ (λ_=>.int i) hg hd
theorem Kt{a:Addr}(hm:X.mg x=some (.ref a))(hk:KT X.K a vs)(hr:∀W,Reps X.K W vs ds)(hg:{Gl X x})(hd:(QA x:)):PX X EX (.Name x pos) (wC<|.tup ds):=
 Cf (v:=.ref a) hm rfl (λW=>.ktup hk<|hr W) hg hd
end
theorem Ku{neg:Bool}{i j:Int}(h:Q (.bl (if neg then !(i==j) else i==j))):gEq neg (.int i) (.int j) Q:=by refine⟨.int i,.int j,rfl,rfl,rfl,rfl,?_⟩;exact h
theorem l5{neg:Bool}{i j:Int}:gEq neg (.int i) (.int j) Q↔Q (.bl (if neg then !(i==j) else i==j)):=
 ⟨λ⟨p,q,h1,h2,_,_,h⟩=>by cases h1;cases h2;exact h,Ku⟩
section
variable{a b:Expr}
abbrev uz:=QG->cR->(cR->Prop)->Prop
structure qZ(X:Cx)(ts:List Expr)(g:uz):Prop where
 t:∃t,v3 X ts t/\∀W0 H0 W σ H ρ ds vs Q,SOk X.K W0 H0 W σ H ρ->Reps X.K W vs ds->g ds ρ (λρ'=>∀σ',SOk X.K W0 H0 W σ' H ρ'->Q σ' H)->t vs σ H Q
 mono:∀d ρ P P',(∀r,P r->P' r)->g d ρ P->g d ρ P'
 own:∀d ρ P,ZhM ρ->g d ρ P->g d ρ (λr=>ZhM r/\P r)
def cS:uz:=λds ρ k=>match ds with|[]=>k ρ|_=>False
def bN(g:WG)(gs:uz):uz:=λds ρ k=>match ds with
 |d::ds=>g d ρ λρ'=>gs ds ρ' k
 |_=>False
theorem iQ:qZ X [] cS:=by
 refine⟨⟨_,lW,λW0 H0 W σ H ρ ds vs Q s r h=>?_⟩,λd ρ P P' hp h=>?_,λd ρ P ho h=>?_⟩;cases r with
 |nil=>exact⟨rfl,h σ s⟩|cons _ _=>exact h.elim
 cases d with
 |nil=>exact hp _ h|cons _ _=>exact h.elim
 cases d with
 |nil=>exact⟨ho,h⟩|cons _ _=>exact h.elim
theorem d7{gs:uz}(h1:p8 X e g)(h2:qZ X es gs)(hs:{(assignEach (e::es) X.env).map (·.2)=assign e X.env::(assignEach es X.env).map (·.2)}):qZ X (e::es) (bN g gs):=by
 obtain⟨t1,p1,k1⟩:=h1.t;obtain⟨t2,p2,k2⟩:=h2.t;refine⟨⟨_,iI p1 p2 hs,λW0 H0 W σ H ρ ds vs Q s r h=>?_⟩,λd ρ P P' hp h=>?_,λd ρ P ho h=>?_⟩;cases r with
 |nil=>exact h.elim|cons r rr=>exact⟨_,_,rfl,k1 W0 H0 W σ H ρ _ _ _ s r<|h1.mono _ _ _ _ (λρ' h' σ' s'=>k2 W0 H0 W σ' H ρ' _ _ Q s' rr h') h⟩
 cases d with
 |nil=>exact h.elim|cons d ds=>exact h1.mono _ _ _ _ (λr hr=>h2.mono _ _ _ _ hp hr) h
 cases d with
 |nil=>exact h.elim|cons d ds=>exact h1.mono _ _ _ _ (λr hr=>h2.own _ _ _ hr.1 hr.2)<|h1.own _ _ _ ho h
def dB(n:Nat)(gs:uz):WG:=λd ρ k=>match d with|.tup xs=>xs.length=n/\gs xs ρ k|_=>False
theorem iR{gs:uz}(hc:X.calm=true)(h:qZ X es gs)(hn:{(assignEach es X.env).length=n})(hst:{(assignEach es X.env).findIdx? (·.1)=none}):p8 X (.Tuple es k pos) (dB n gs):=by obtain⟨t,p,kk⟩:=h.t;refine⟨⟨_,pE hc p hn hst,λW0 H0 W σ H ρ d v Q s r q=>?_⟩,λd ρ P P' hp q=>?_,λd ρ P ho q=>?_⟩;unfold dB at q;split at q;obtain⟨a,vs,rfl,h1,rr⟩:=r.sqt s.ok;exact⟨a,vs,rfl,h1,rr.length.trans q.1,kk W0 H0 W σ H ρ _ _ Q s rr q.2⟩;exact q.elim;unfold dB at q ⊢;split at q;exact⟨q.1,h.mono _ _ _ _ hp q.2⟩;exact q.elim;unfold dB at q ⊢;split at q;exact⟨q.1,h.own _ _ _ ho q.2⟩;exact q.elim
def eW(w:WE)(g:WG):WS:=λE N ρ=>w E ρ λd=>g d ρ N.nx
theorem Cm(he:PX X EX e w)(hg:p8 X tg g)(hs:{swapsWithSole [tg] e pos.line X.env=pure false})(hw:{swappedStores [tg] e X.env=pure none})
  (h1:{(assignEach [tg] X.env).map (·.2)=[assign tg X.env]}):PZ X EX (.Assign [tg] e pos) (eW w g):=by
 obtain⟨t,p,k⟩:=he.t;obtain⟨t2,p2,k2⟩:=hg.t;refine⟨⟨_,jT p p2 hs hw h1,λW0 H0 F W σ H ρ E Dn N s fl eo no h=>?_⟩,λE ρ N N' hl q=>he.mono _ _ _ _ (λd hd=>hg.mono _ _ _ _ hl.nx hd) q⟩;refine k W0 H0 W σ H ρ E _ s eo<|he.mono _ _ _ _ (λd hd v W1 H1 x1 r1=>?_) h;exact k2 W0 H0 W1 σ H1 ρ d v _ (s.step x1) r1<|hg.mono _ _ _ _ (λρ' h' σ' s'=>no.nx W1 σ' H1 ρ' s' (fl.ext x1) h') hd
def dX(i j:Nat)(t:WA):WS:=λE N ρ=>t E ρ λds=>match ds with
 |[x,y]=>N.nx<|(ρ.set i<|.d x).set j (.d y)
 |_=>False
theorem vb(i j:Nat){y:Str}{px py pt:Pos}{kt k2 pt2}(hN:X.N.Nodup)(ha:j6 X EX [a,b] t)(hc:{X.calm=true})(hi:{X.N[i]? = some x})(hj:{X.N[j]? = some y})(hij:(i≠j:))
  (hx:{X.env.scope.names.lookup x=some .local}) (hy:{X.env.scope.names.lookup y=some .local})
  (hw:{swappedStores [.Tuple [.Name x px,.Name y py] kt pt] (.Tuple [a,b] k2 pt2) X.env=pure (some [x,y])})
  (hs:{swapsWithSole [.Tuple [.Name x px,.Name y py] kt pt] (.Tuple [a,b] k2 pt2) pos.line X.env=pure false}) :
  PZ X EX (.Assign [.Tuple [.Name x px,.Name y py] kt pt] (.Tuple [a,b] k2 pt2) pos) (dX i j t):=by
 obtain⟨ta,p,k⟩:=ha.t;refine⟨⟨_,ua hc hN hi hj hij hx hy p hw hs,λW0 H0 F W σ H ρ E Dn N s fl eo no h=>?_⟩,λE ρ N N' hl q=>ha.mono _ _ _ _ (λds hd=>?_) q⟩
 .refine k W0 H0 W σ H ρ E _ s eo (ha.mono _ _ _ _ (λds hd vs W1 H1 x1 r1=>?_) h)
  split at hd
  .obtain⟨v,u,rfl,rv,ru⟩:=r1.two
   exact⟨v,u,rfl,no.nx W1 _ H1 _ (((s.step x1).set rv).set ru) (fl.ext x1) hd⟩
  .exact hd.elim
 .split at hd
  .exact hl.nx _ hd
  .exact hd.elim
def w8(c:WT)(zb:WS):WS:=λE N ρ=>∃I:Nat->cR->Prop,(∃m,I m ρ)/\∀m ρ,I m ρ->c E ρ λb=>
 if b=true then zb E { nx:=λρ'=>∃m',m'<m/\I m' ρ',rt:=N.rt,bk:=N.nx,ct:=λρ'=>∃m',m'<m/\I m' ρ' } ρ else N.nx ρ
theorem Cn(hp:PassesOwn (model X.prog X.w) X.A X.env X.xe)(hc:kG X EX c wt)(hb:jI X EX body zb):PZ X EX (.While c body [] pos) (w8 wt zb):=by
 obtain⟨tc,pc,kc⟩:=hc.t;obtain⟨tb,pb,kb⟩:=hb.t;refine⟨⟨_,pF hp pc pb,λW0 H0 F W σ H ρ E Dn N s fl eo no h=>?_⟩,λE ρ N N' hl q=>?_⟩;obtain⟨I,⟨m0,i0⟩,turn⟩:=h;refine⟨λm σ H=>∃W ρ,SOk X.K W0 H0 W σ H ρ/\Wle F W/\I m ρ,⟨m0,W,ρ,s,fl,i0⟩,?_⟩;rintro m σ2 H2 ⟨W2,ρ2,s2,f2,i2⟩;refine kc W0 H0 W2 σ2 H2 ρ2 E _ s2 eo<|hc.mono _ _ _ _ (λb hb' W3 H3 x3=>?_) (turn m ρ2 i2);cases b with
 |true=>
  rw[oI rfl]at hb' ⊢;refine⟨λσ4 H4=>∃m',m'<m/\∃W ρ,SOk X.K W0 H0 W σ4 H4 ρ/\Wle F W/\I m' ρ,λσ4 H4 ⟨m',hm,q⟩=>⟨m',hm,q⟩,?_⟩;exact kb W0 H0 F W3 σ2 H3 ρ2 E _ { nx:=λρ'=>∃m',m'<m/\I m' ρ',rt:=N.rt,bk:=N.nx,ct:=λρ'=>∃m',m'<m/\I m' ρ' } (s2.step x3) (f2.ext x3) eo
   ⟨λW5 σ5 H5 ρ5 s5 f5 ⟨m',hm,q⟩=>⟨m',hm,W5,ρ5,s5,f5,q⟩,no.rt,λW5 σ5 H5 ρ5 s5 f5 q=>no.nx W5 σ5 H5 ρ5 s5 f5 q,λW5 σ5 H5 ρ5 s5 f5 ⟨m',hm,q⟩=>⟨m',hm,W5,ρ5,s5,f5,q⟩⟩ hb'
 |false=>rw[jx<|E8]at hb' ⊢;exact no.nx W3 σ2 H3 ρ2 (s2.step x3) (f2.ext x3) hb'
 obtain⟨I,i0,turn⟩:=q;refine⟨I,i0,λm ρ i=>hc.mono _ _ _ _ (λb hb'=>?_)<|turn m ρ i⟩;cases b with
 |true=>rw[oI rfl]at hb' ⊢;exact hb.mono E ρ { nx:=λρ'=>∃m',m'<m/\I m' ρ',rt:=N.rt,bk:=N.nx,ct:=λρ'=>∃m',m'<m/\I m' ρ' } _ ⟨λ_ z=>z,hl.rt,hl.nx,λ_ z=>z⟩ hb'|false=>rw[jx<|E8]at hb' ⊢;exact hl.nx _ hb'
theorem Kv{tc:TT}(hc:PT X c tc)(hs:{exec (.Assert c none pos) X.env=(do standAt pos;if<-isTrue c X.env (eval c X.env) then pure .next else assertFails c.pos (evalOpt none X.env))}):PS X (.Assert c none pos) (λD σ H=>tc σ H λb H1=>b=true/\D.nx σ H1):=by intro tv s σ H D I h;rw[hs];refine PM<|Qc (PM<|bO (hc tv s σ H _ I h) λb s1 ⟨H1,I1,e,q⟩=>?_);subst e;rw[oI rfl];exact PP ⟨σ,H1,I1,q⟩
def kW(c:WT):WS:=λE N ρ=>c E ρ λb=>b=true/\N.nx ρ
theorem Kw(hc:kG X EX c wt)(hs:{exec (.Assert c none pos) X.env=(do standAt pos;if<-isTrue c X.env (eval c X.env) then pure .next else assertFails c.pos (evalOpt none X.env))}):PZ X EX (.Assert c none pos) (kW wt):=by obtain⟨tc,pc,kc⟩:=hc.t;refine⟨⟨_,Kv pc hs,λW0 H0 F W σ H ρ E Dn N s fl eo no h=>?_⟩,λE ρ N N' hl q=>hc.mono _ _ _ _ (λb hb=>⟨hb.1,hl.nx _ hb.2⟩) q⟩;exact kc W0 H0 W σ H ρ E _ s eo<|hc.mono _ _ _ _ (λb hb W1 H1 x1=>⟨hb.1,no.nx W1 σ H1 ρ (s.step x1) (fl.ext x1) hb.2⟩) h
def dL(i:Nat)(w:WE):WS:=λE N ρ=>match ρ[i]? with
 |some (.ow xs)=>w E ρ λd=>xs.length<aR/\N.nx (ρ.set i<|.ow<|xs++[d])
 |_=>False
theorem xa(i:Nat)(he:PX X EX e w)(hN:{X.N[i]? = some x})(hv:autoParam (mm X.env.scope x) QP._auto_1)(hd:(QA x:))
  (hcd:((x==("__classdict__" : Str))=false:)) (hbase:{attributeBase (.Name x p) "append" X.env (eval (.Name x p) X.env)=eval (.Name x p) X.env})
  (hfew:{((backTo cpos<|starEach [e] X.env).all (λx=>!x.1)&&(backToKw cpos<|keywordEach [] X.env).all (λx=>x.1.isSome)&&decide ([e].length+([]:List Keyword).length+(if([]:List Keyword).isEmpty then 0 else 1)<30))=true})
  (hline:{(apos.endLine==cpos.line)=true}) (hs:{starEach [e] X.env=(false,eval e X.env)::starEach [] X.env}) (hplain:{(backTo cpos<|starEach [] X.env).any (·.1)=false})
  (hsw:{swapsWith (.Call (.Attribute (.Name x p) "append" apos) [e] [] cpos) none pos.line X.env=pure false}):PZ X EX (.Expr (.Call (.Attribute (.Name x p) "append" apos) [e] [] cpos) pos) (dL i w):=by
 obtain⟨t,pe,k⟩:=he.t;refine⟨⟨_,gi (l0 PySem.F.plainAttrs_list PySem.F.slot_list_append PySem.F.type_list_append gL (ez hN hv hd hcd) (iu pe jV hs) hbase hfew hline hs hplain) hsw,λW0 H0 F W σ H ρ E Dn N s fl eo no h=>?_⟩,λE ρ N N' hl q=>?_⟩
 .unfold dL at h
  split at h
  .rename_i xs ex
   obtain⟨a,vs,e1,e2,e3,e4,e5,r⟩:=s.o i xs ex;refine⟨_,e1,.inl ⟨rfl,vs,SqL.of e2⟩,?_⟩;refine k W0 H0 W σ H ρ E _ s eo<|he.mono _ _ _ _ (λd hd v W1 H1 x1 r1=>?_) h;have e2':=x1.h a _ e2 e4;refine⟨a,vs,v,rfl,rfl,e2',by rw[r.length];exact dN hd.1<|nh<|cO _,?_⟩;exact no.nx W1 σ _ _ ((s.step x1).chg ex e1<|(x1.reps r).append<|.cons r1 .nil) (fl.ext x1) hd.2
  .exact h.elim
 .unfold dL at q ⊢
  split at q
  .exact he.mono _ _ _ _ (λd hd=>⟨hd.1,hl.nx _ hd.2⟩) q
  .exact q.elim
end
section
variable{ps:Pos}{a b:Expr}
theorem Rep.sq{W:Wd}{v:V}{Q:QG->Prop}(r:Rep K W v d)(h:isS Q d):∃κ l vs xs,v=.ref l/\Reps K W vs xs/\Q xs/\∀W2 H2,(∀a o,W.G a=some o->W2.G a=some o)->WOk W2 H2->Sq K κ H2 l vs:=by
 cases r with
 |lst e1 rr=>exact⟨false,_,_,_,rfl,rr,h,λW2 H2 g ok=>SqL.of<|ok.g _ _<|g _ _ e1⟩|tup e1 rr=>exact⟨true,_,_,_,rfl,rr,h,λW2 H2 g ok=>SqT.of<|ok.g _ _<|g _ _ e1⟩|ktup e1 rr=>exact⟨true,_,_,_,rfl,rr,h,λW2 H2 g ok=>.inr e1⟩|_=>exact h.elim
def cK(xs ys:QG):QG:=List.zipWith (λx y=>.tup [x,y]) xs ys
def iZ(t:WA):WA:=λE ρ Q=>t E ρ λds=>match ds with|[x,y]=>isS (λxs=>isS (λys=>Q<|cK xs ys) y) x|_=>False
theorem uA{n1:Nat}(hm:X.mg "zip" = none)(ha:j6 X EX [a,b] t)(hg:{Gl X "zip"})(hs:{starEach [a,b] X.env=[(false,eval a X.env),(false,eval b X.env)]})(hs2:{starEach [b] X.env=[(false,eval b X.env)]}) :
  mL X EX (.Tuple es n1 ps) (.Call (.Name "zip" p) [a,b] [] pos) (iZ t):=by
 obtain⟨t,q,k⟩:=ha.t;refine⟨⟨_,Jw hg hm q hs hs2,λW0 H0 W σ H ρ E R s eo h=>?_⟩,λE ρ P P' hp h=>ha.mono _ _ _ _ (λds hd=>?_) h⟩
 .refine k W0 H0 W σ H ρ E _ s eo (ha.mono _ _ _ _ (λds hd vs W1 H1 x1 r1=>?_) h)
  split at hd
  .obtain⟨v,u,rfl,rv,ru⟩:=r1.two
   obtain⟨κ,l,vs,xs,rfl,rr,hd,sq⟩:=rv.sq hd;obtain⟨κ',l',us,ys,rfl,rr',hd,sq'⟩:=ru.sq hd;refine⟨κ,κ',l,l',rfl,⟨vs,sq W1 H1 (λ_ _ z=>z) x1.ok⟩,⟨us,sq' W1 H1 (λ_ _ z=>z) x1.ok⟩,hd W1 H1 _ x1 λW2 H2 i g2 p2 ok2=>⟨λd hd=>?_,λhi=>?_⟩⟩
   .have s1:=sq W2 H2 g2 ok2
    have s2:=sq' W2 H2 g2 ok2;unfold cK at hd;rw[List.getElem?_zipWith]at hd;cases ex:xs[i]? with
    |none=>rw[ex]at hd;cases hd
    |some x=>
     cases ey:ys[i]? with
     |none=>rw[ex,ey]at hd;cases hd
     |some y=>
      rw[ex,ey]at hd;cases hd;obtain⟨vx,evx,rvx⟩:=rr.get ex;obtain⟨vy,evy,rvy⟩:=rr'.get ey;refine⟨⟨vs,us,vx,vy,s1,s2,evx,evy⟩,λz H3 hy=>?_⟩;obtain⟨q,x',y',rfl,hq,rfl,e1,e2⟩:=hy;have e1:=e1 _ s1;have e2:=e2 _ s2;rw[evx]at e1;rw[evy]at e2;cases e1;cases e2;have xt:=Ext.put (o:=.tup [vx,vy]) ok2 hq;exact⟨_,xt,.tup (by unfold Wd.put;dsimp only;rw[aV])<|.cons (xt.rep<|rvx.mono g2 p2)<|.cons (xt.rep<|rvy.mono g2 p2) .nil⟩
   .refine⟨vs,us,sq W2 H2 g2 ok2,sq' W2 H2 g2 ok2,?_⟩
    rw[rr.length,rr'.length];unfold cK at hi;rw[kx]at hi;omega
  .exact hd.elim
 .split at hd
  .exact isS.mono (λxs h1=>isS.mono (λys h2=>hp _ h2) _ h1) _ hd
  .exact hd.elim
def iA(i:Nat)(wi wv:WE):WS:=λE N ρ=>match ρ[i]? with
 |some (.ow xs)=>wv E ρ λd=>wi E ρ (isI λk=>∃j,lC xs.length k=some j/\N.nx (ρ.set i<|.ow<|xs.set j d))
 |_=>False
theorem zL(i:Nat){wi:WE}(hix:PX X EX ix wi)(he:PX X EX e wv)(hN:{X.N[i]? = some x})(hv:autoParam (mm X.env.scope x) QP._auto_1)(hd:(QA x:))
  (hcd:((x==("__classdict__" : Str))=false:))
  (ha:autoParam (∀ v,assign (.Subscript (.Name x p) ix spos) X.env v=(do
   let ov <-holding [v] (eval (.Name x p) X.env)
   let iv <-holding [v,ov] (eval ix X.env)
   standAt spos
   holding [v,ov,iv] (setItem ov iv v)
   release [v,ov,iv] [])) QN._auto_1)
  (hs:{swapsWithSole [.Subscript (.Name x p) ix spos] e pos.line X.env=pure false}) (hw:{swappedStores [.Subscript (.Name x p) ix spos] e X.env=pure none})
  (h1:{(assignEach [.Subscript (.Name x p) ix spos] X.env).map (·.2)=[assign (.Subscript (.Name x p) ix spos) X.env]}):PZ X EX (.Assign [.Subscript (.Name x p) ix spos] e pos) (iA i wi wv):=by
 obtain⟨t,pe,k⟩:=he.t;obtain⟨ti,pi,ki⟩:=hix.t;refine⟨⟨_,jT pe (jS (ez hN hv hd hcd) pi gk ha) hs hw h1,λW0 H0 F W σ H ρ E Dn N s fl eo no h=>?_⟩,λE ρ N N' hl q=>?_⟩
 .unfold iA at h
  split at h
  .rename_i xs ex
   obtain⟨a,vs,e1,e2,e3,e4,e5,r⟩:=s.o i xs ex;refine k W0 H0 W σ H ρ E _ s eo<|he.mono _ _ _ _ (λd hd v W1 H1 x1 r1=>⟨_,e1,?_⟩) h;refine ki W0 H0 W1 σ H1 ρ E _ (s.step x1) eo<|hix.mono _ _ _ _ (λdi hdi vi W2 H2 x2 r2=>?_) hd;obtain⟨kk,rfl,j,hj,hn⟩:=sH hdi;cases r2;have xx:=x1.trans x2;have e2':=xx.h a _ e2 e4;refine⟨a,vs,kk,j,rfl,rfl,e2',by rw[r.length];exact hj,?_⟩;exact no.nx W2 σ _ _ ((s.step xx).chg ex e1<|Reps.set (x2.rep r1) j<|xx.reps r) (fl.ext xx) hn
  .exact h.elim
 .unfold iA at q ⊢
  split at q
  .exact he.mono _ _ _ _ (λd hd=>hix.mono _ _ _ _ (isI.mono λkk ⟨j,hj,hn⟩=>⟨j,hj,hl.nx _ hn⟩) hd) q
  .exact q.elim
end
mutual
def j8:D->Bool
 |.lst _=>false|.scr _=>false|.dic=>false|.tup xs=>sR xs|.non=>true|.bl _=>true|.int _=>true|.str _=>true|.pen=>true|.cls _=>true|.exc _=>true|.ty _=>true|.pl _ _=>true
def sR:QG->Bool
 |[]=>true|x::r=>j8 x&&sR r
end
def Wd.rem(W:Wd)(a:Addr):Wd:=⟨λb=>if b=a then none else W.G b,W.Pn⟩
section
variable{W:Wd}
theorem Wd.rem_ne{b:Addr}(h:b≠a):(W.rem a).G b=W.G b:=by unfold Wd.rem;dsimp only;rw[jx h]
theorem Wd.rem_same:(W.rem a).G a=none:=by unfold Wd.rem;dsimp only;rw[oI rfl]
mutual
theorem Rep.rem(h:W.G a=some (.lst us)):∀{v:V} {d:D},Rep K W v d->j8 d=true->Rep K (W.rem a) v d
 |_,_,.non,_=>.non|_,_,.bl b,_=>.bl b|_,_,.int i,_=>.int i|_,_,.str x,_=>.str x|_,_,.tup e r,f=>.tup (by rw[Wd.rem_ne (λz=>by rw[z,h]at e;cases e)];exact e)<|Reps.rem h r (by rw[j8]at f;exact f)
 |_,_,.ktup e r,f=>.ktup e<|Reps.rem h r (by rw[j8]at f;exact f)
 |_,_,.lst e r,f=>by rw[j8]at f;cases f
 |_,_,.scr e r,f=>by rw[j8]at f;cases f
 |_,_,.dic e,f=>by rw[j8]at f;cases f
 |_,_,.pen e,_=>.pen e|_,_,.cls e,_=>.cls e|_,_,.exc e n x,_=>.exc (by rw[Wd.rem_ne (λz=>by rw[z,h]at e;cases e)];exact e) n λc f k q=>let⟨d,e1,e2⟩:=x c f k q;⟨d,e1,by rw[Wd.rem_ne (λz=>by rw[z,h]at e2;cases e2)];exact e2⟩
 |_,_,.ty n,_=>.ty n|_,_,.pl q,_=>.pl (q.keep λc o e m=>by rw[Wd.rem_ne λz=>m us (by rw[z,h]at e;cases e;rfl)];exact e)
theorem Reps.rem(h:W.G a=some (.lst us)):∀{vs:QJ} {ds:QG},Reps K W vs ds->sR ds=true->Reps K (W.rem a) vs ds
 |_,_,.nil,_=>.nil|_,_,.cons r t,f=>by rw[sR,cX]at f;exact .cons (Rep.rem h r f.1)<|Reps.rem h t f.2
end
theorem Ext.bor(x:Ext (W.put a<|.lst us) H W2 H2)(hg:W.G a=none):Ext W H (W2.rem a) H2 where
 ok:=⟨λb o e=>by
   by_cases hb:b=a
   .subst hb;rw[Wd.rem_same]at e;cases e
   .rw[Wd.rem_ne hb]at e;exact x.ok.g b o e,
  λb hb=>⟨(x.ok.p b hb).1,by
   by_cases hba:b=a
   .subst hba;exact Wd.rem_same
   .rw[Wd.rem_ne hba];exact(x.ok.p b hb).2⟩⟩
 g:=λb o e=>by
  have hb:b≠a:=λz=>by rw[z,hg]at e;cases e
  rw[Wd.rem_ne hb];exact x.g b o (by unfold Wd.put;dsimp only;rw[aI hb];exact e)
 p:=x.p
 gf:=λb e n=>by by_cases hb:b=a;subst hb;exact PQ Wd.rem_same n;rw[Wd.rem_ne hb]at n;exact x.gf b (by unfold Wd.put;dsimp only;rw[aI hb];exact e) n
 pf:=x.pf
 h:=x.h
theorem SOk.pubAt(s:SOk K W0 H0 W σ H ρ)(e:ρ[i]? = some (.ow xs))(e1:σ[i]? = some (some<|V.ref a))(e2:H a=some (.lst us))(e3:W.G a=none)(e4:¬W.Pn a)(e5:H0 a=none)(r:Reps K W us xs) :
  SOk K W0 H0 (W.put a<|.lst us) σ H (LP.pub i ρ):=by
 have ep:LP.pub i ρ=ρ.set i (.d<|.lst xs):=by unfold LP.pub;rw[e]
 rw[ep];have hi:i<ρ.length:=(Yaq.mp e).1;refine⟨s.ext.pub e5 e2 e4 e3,by rw[dQ];exact s.len,λj y ej=>?_,λj ys ej=>?_,λj k ys zs b hjk ej ek e6=>?_,OOs.set ⟨λj xss ej=>let⟨a',bs,q1,q,n⟩:=s.oo.t j xss ej;⟨a',bs,q1,q.put (n i xs a e e1) e3,n⟩,s.oo.u⟩ (λ_ h=>by cases h) (λ_ _=>rfl) λ_ _ h=>by cases h⟩
 .by_cases h:i=j
  .subst h
   rw[e9 hi]at ej;cases ej;exact⟨_,e1,.lst (by unfold Wd.put;dsimp only;rw[aV])<|r.mono (qY e3) λ_ z=>z⟩
  .rw[d6 h]at ej
   obtain⟨v,q1,q2⟩:=s.d j y ej;exact⟨v,q1,q2.mono (qY e3) λ_ z=>z⟩
 .have h:i≠j:=λh=>by subst h;rw[e9 hi]at ej;cases ej
  rw[d6 h]at ej;obtain⟨b,us',q1,q2,q3,q4,q5,rr⟩:=s.o j ys ej;have hba:b≠a:=λz=>s.ne i j xs ys a h e ej e1 (by rw[<-z];exact q1);refine⟨b,us',q1,q2,?_,q4,q5,rr.mono (qY e3) λ_ z=>z⟩;unfold Wd.put;dsimp only;rw[aI hba];exact q3
 .have h:i≠j:=λh=>by subst h;rw[e9 hi]at ej;cases ej
  have h':i≠k:=λh=>by subst h;rw[e9 hi]at ek;cases ek
  rw[d6 h]at ej;rw[d6 h']at ek;exact s.ne j k ys zs b hjk ej ek e6
theorem SOk.lend(s:SOk K W0 H0 W σ H ρ)(i:Nat):(LP.pub i ρ=ρ)\/∃a us,SOk K W0 H0 (W.put a<|.lst us) σ H (LP.pub i ρ)/\W.G a=none/\H a=some (.lst us)/\(W.put a<|.lst us).G a=some (.lst us):=by
 cases e:ρ[i]? with
 |none=>exact .inl (by unfold LP.pub;rw[e])
 |some sv=>
  cases sv with
  |un=>exact .inl (by unfold LP.pub;rw[e])|d x=>exact .inl (by unfold LP.pub;rw[e])|oo xss=>exact .inl (by unfold LP.pub;rw[e])
  |ow xs=>
   obtain⟨a,us,e1,e2,e3,e4,e5,r⟩:=s.o i xs e;exact .inr ⟨a,us,s.pubAt e e1 e2 e3 e4 e5 r,e3,e2,by unfold Wd.put;dsimp only;rw[aV]⟩
end
section
variable{ps:Pos}{a b:Expr}
def eY(i:Nat)(w:WE):WE:=λE ρ Q=>w E (pub i ρ) λd=>j8 d=true/\Q d
theorem Co(i:Nat)(he:PX X EX e w):PX X EX e (eY i w):=by
 obtain⟨t,q,k⟩:=he.t;refine⟨⟨t,q,λW0 H0 W σ H ρ E Q s eo h=>?_⟩,λE ρ P P' hp h=>he.mono _ _ _ _ (λd hd=>⟨hd.1,hp _ hd.2⟩) h⟩;unfold eY at h;rcases s.lend i with ep|⟨a,us,s',e3,e2,e6⟩
 rw[ep]at h;exact k W0 H0 W σ H ρ E Q s eo<|he.mono _ _ _ _ (λd hd=>hd.2) h
 exact k W0 H0 _ σ H _ E Q s' eo<|he.mono _ _ _ _ (λd hd v W2 H2 x2 r2=>hd.2 v _ H2 (x2.bor e3)<|r2.rem (x2.g _ _ e6) hd.1) h
def fw(i:Nat)(w:WT):WT:=λE ρ Q=>w E (pub i ρ) Q
theorem Kx(i:Nat){w:WT}(he:kG X EX e w):kG X EX e (fw i w):=by
 obtain⟨t,q,k⟩:=he.t;refine⟨⟨t,q,λW0 H0 W σ H ρ E Q s eo h=>?_⟩,λE ρ P P' hp h=>he.mono _ _ _ _ hp h⟩;unfold fw at h;rcases s.lend i with ep|⟨a,us,s',e3,e2,e6⟩
 rw[ep]at h;exact k W0 H0 W σ H ρ E Q s eo h;exact k W0 H0 _ σ H _ E Q s' eo<|he.mono _ _ _ _ (λd hd W2 H2 x2=>hd _ H2<|x2.bor e3) h
def eD(i:Nat)(t:WA):WA:=λE ρ Q=>t E (pub i ρ) λds=>sR ds=true/\Q ds
theorem Ky(i:Nat)(he:PXL X EX e t):PXL X EX e (eD i t):=by
 obtain⟨t,q,k⟩:=he.t;refine⟨⟨t,q,λW0 H0 W σ H ρ E Q s eo h=>?_⟩,λE ρ P P' hp h=>he.mono _ _ _ _ (λd hd=>⟨hd.1,hp _ hd.2⟩) h⟩;unfold eD at h;rcases s.lend i with ep|⟨a,us,s',e3,e2,e6⟩
 rw[ep]at h;exact k W0 H0 W σ H ρ E Q s eo<|he.mono _ _ _ _ (λd hd=>hd.2) h
 refine k W0 H0 _ σ H _ E Q s' eo (he.mono _ _ _ _ (λd hd b vs W2 H2 x2 h1 h2 h3 h4 r2=>?_) h);have hb:b≠a:=λz=>by rw[z,e2]at h4;cases h4
 exact hd.2 b vs _ H2 (x2.bor e3) h1 (by rw[Wd.rem_ne hb];exact h2) h3 h4<|r2.rem (x2.g _ _ e6) hd.1
def d9(i:Nat)(wb:WE):WE:=λE ρ Q=>match ρ[i]? with|some (.ow xs)=>wb E ρ (isI λk=>∃d,eR xs k=some d/\Q d)|_=>False
theorem xb(i:Nat)(hb:PX X EX b wb)(hN:{X.N[i]? = some x})(hv:autoParam (mm X.env.scope x) QP._auto_1)(hd:(QA x:))
  (hcd:((x==("__classdict__" : Str))=false:)) (hs:autoParam (iw b) QS._auto_1):PX X EX (.Subscript (.Name x p) b pos) (d9 i wb):=by
 obtain⟨tb,pb,kb⟩:=hb.t;refine⟨⟨_,pT jX (ez hN hv hd hcd) pb hs,λW0 H0 W σ H ρ E Q s eo h=>?_⟩,λE ρ P P' hp h=>?_⟩
 .unfold d9 at h
  split at h
  .rename_i xs ex
   obtain⟨a,vs,e1,e2,e3,e4,e5,r⟩:=s.o i xs ex;refine⟨_,e1,kb W0 H0 W σ H ρ E _ s eo<|hb.mono _ _ _ _ (λd hd v W1 H1 x1 r1=>?_) h⟩;obtain⟨kk,rfl,d,hat,hq⟩:=sH hd;cases r1;obtain⟨v,e6,rv⟩:=zE (x1.reps r) hat;exact .inl ⟨a,vs,kk,v,rfl,rfl,SqL.of<|x1.h a _ e2 e4,e6,hq v W1 H1 x1 rv⟩
  .exact h.elim
 .unfold d9 at h ⊢
  split at h
  .exact hb.mono _ _ _ _ (isI.mono λk ⟨d,h1,h2⟩=>⟨d,h1,hp _ h2⟩) h
  .exact h.elim
def NL(K:PN)(W:Wd)(H:Hp)(Q:VK)(ds:QG):Prop:=∀a vs W' H',Ext W H W' H'->H' a=some (.lst vs)->W'.G a=none->¬W'.Pn a->H a=none->Reps K W' vs ds->Q (.ref a) H'
theorem NL.new{K:PN}{W W1:Wd}{H H1:Hp}{Q:VK}{ds:QG}{vs:QJ}(h:NL K W H Q ds)(x1:Ext W H W1 H1)(r:Reps K W1 vs ds){q:Addr}(hq:H1 q=none):Q (.ref q) (upd H1 q<|.lst vs):=
 h q vs W1 _ (x1.trans<|.new x1.ok hq) aV (x1.ok.fresh hq).1 (x1.ok.fresh hq).2 (x1.isN hq) r
def fM(wa wb:WE):WA:=λE ρ Q=>wa E ρ<|isL λxs=>wb E ρ (isL λys=>xs.length+ys.length<=aR/\Q (xs++ys))
theorem KA(ha:PX X EX a wa)(hb:PX X EX b wb):PXL X EX (.BinOp a .Add b pos) (fM wa wb):=by obtain⟨ta,pa,ka⟩:=ha.t;obtain⟨tb,pb,kb⟩:=hb.t;refine⟨⟨_,sk Zop pa pb,λW0 H0 W σ H ρ E Q s eo h=>?_⟩,λE ρ P P' hp h=>ha.mono _ _ _ _ (isL.mono λxs hx=>hb.mono _ _ _ _ (isL.mono λys hy=>⟨hy.1,hp _ hy.2⟩) hx) h⟩;refine ka W0 H0 W σ H ρ E _ s eo<|ha.mono _ _ _ _ (λd hd v W1 H1 x1 r1=>?_) h;obtain⟨xs,rfl,hd⟩:=Cj hd;refine kb W0 H0 W1 σ H1 ρ E _ (s.step x1) eo<|hb.mono _ _ _ _ (λd hd u W2 H2 x2 r2=>?_) hd;obtain⟨ys,rfl,hd⟩:=Cj hd;obtain⟨p,vs,rfl,h1,q1⟩:=(x2.rep r1).sql x2.ok;obtain⟨q,us,rfl,h2,q2⟩:=r2.sql x2.ok;exact⟨p,q,vs,us,rfl,rfl,h1,h2,by rw[q1.length,q2.length];exact nh hd.1,λa ha=>NL.new hd.2 (x1.trans x2) (q1.append q2) ha⟩
def gA(wa wb:WE):WA:=λE ρ Q=>wa E ρ<|isL λxs=>wb E ρ (isI λk=>k<1000/\-1000<k/\xs.length*k.toNat<=aR/\Q (List.replicate k.toNat xs).flatten)
def gB(wa:WE)(wl wh:(QF)->cR->(Option Int->Prop)->Prop):WA:=λE ρ Q=>wa E ρ λx=>wl E ρ λl=>wh E ρ λh=>match x with
 |.lst xs=>Q<|bW xs l h
 |.scr xs=>Q<|bW xs l h
 |_=>False
end
section
variable{W:Wd}{i j k:Int}
def Wd.pen(W:Wd)(a:Addr):Wd:=⟨W.G,λb=>b=a\/W.Pn b⟩
theorem Ext.pen(x:Ext W H W1 H1)(h:H a=none)(e:H1 a=some (.lst [.int i,.int j,.int k]))(ng:W1.G a=none):Ext W H (W1.pen a) H1 where
 ok:=⟨x.ok.g,λb hb=>by
  rcases hb with rfl|hb
  .exact⟨⟨i,j,k,e⟩,ng⟩
  .exact x.ok.p b hb⟩
 g:=x.g
 p:=λb hb=>.inr<|x.p b hb
 gf:=x.gf
 pf:=λb n hb=>by
  rcases hb with rfl|hb
  exact h;exact x.pf b n hb
 h:=x.h
theorem Ext.ink(x:Ext W H W1 H1)(hp:W1.Pn a):Ext W H W1 (upd H1 a<|.lst [.int i,.int j,.int k]) where
 ok:=⟨λb o e=>by
   have hb:b≠a:=λz=>by rw[z,(x.ok.p a hp).2]at e;cases e
   rw[aI hb];exact x.ok.g b o e,
  λb hb=>by
   by_cases hba:b=a
   .subst hba;exact⟨⟨i,j,k,aV⟩,(x.ok.p b hb).2⟩
   .obtain⟨⟨i',j',k',e⟩,n⟩:=x.ok.p b hb
    exact⟨⟨i',j',k',by rw[aI hba];exact e⟩,n⟩⟩
 g:=x.g
 p:=x.p
 gf:=x.gf
 pf:=x.pf
 h:=λb o e n=>by
  have q:=x.h b o e n;have hb:b≠a:=λz=>by subst z;have:=x.pf b n hp;rw[e]at this;cases this
  rw[aI hb];exact q
theorem SOk.ink(s:SOk K W0 H0 W σ H ρ)(hp:W.Pn a):SOk K W0 H0 W σ (upd H a<|.lst [.int i,.int j,.int k]) ρ where
 ext:=s.ext.ink hp
 len:=s.len
 d:=s.d
 o:=λn ys e=>by obtain⟨b,vs,e1,e2,e3,e4,e5,r⟩:=s.o n ys e;exact⟨b,vs,e1,by rw[aI<|λz=>e4 (by rw[z];exact hp)];exact e2,e3,e4,e5,r⟩
 ne:=s.ne
 oo:=⟨λn xss e=>let⟨a',bs,e1,q,m⟩:=s.oo.t n xss e;⟨a',bs,e1,q.upd<|q.noPen hp,m⟩,s.oo.u⟩
end
section
variable{ps:Pos}{a b:Expr}
def fN(t:WA):WE:=λE ρ Q=>t E ρ λds=>(∃i j k,ds=[.int i,.int j,.int k])/\Q .pen
theorem KB(he:PXL X EX e t):PX X EX e (fN t):=by
 obtain⟨t,q,k⟩:=he.t;refine⟨⟨t,q,λW0 H0 W σ H ρ E Q s eo h=>?_⟩,λE ρ P P' hp h=>he.mono _ _ _ _ (λd hd=>⟨hd.1,hp _ hd.2⟩) h⟩;refine k W0 H0 W σ H ρ E Q s eo<|he.mono _ _ _ _ (λds hd a vs W1 H1 x1 e1 e2 e3 e4 r1=>?_) h;obtain⟨⟨i,j,k,rfl⟩,hd⟩:=hd;have ev:vs=[.int i,.int j,.int k]:=by cases r1 with|cons r t=>cases r;cases t with|cons r t=>cases r;cases t with|cons r t=>cases r;cases t;rfl
 subst ev;exact hd _ _ _ (x1.pen e4 e1 e2)<|.pen (.inl rfl)
def eM:G2:=λx y Q=>x=.pen/\(y=.int 0\/y=.int 1\/y=.int 2)/\∀n,Q<|.int n
theorem xc:Cg X eM:=by
 refine⟨⟨_,jX,λW H x y dx dy Q ok rx ry hg=>?_⟩,λx y P P' hp h=>⟨h.1,h.2.1,λn=>hp _<|h.2.2 n⟩⟩;obtain⟨rfl,hy,hq⟩:=hg;cases rx with
 | @pen a hp=>
  obtain⟨⟨i,j,k,e⟩,ng⟩:=ok.p a hp;have key:∀(m:Int) (v:V),eR [V.int i,.int j,.int k] m=some v->(∃n,v=.int n)->EO X.K (.ref a) (.int m) H Q:=λm v hv ⟨n,hn⟩=>by subst hn;exact .inl ⟨a,_,m,_,rfl,rfl,SqL.of e,hv,(hq n).now ok<|.int n⟩
  rcases hy with rfl|rfl|rfl
  cases ry;exact key 0 (.int i) rfl ⟨i,rfl⟩;cases ry;exact key 1 (.int j) rfl ⟨j,rfl⟩;cases ry;exact key 2 (.int k) rfl ⟨k,rfl⟩
def fA(i:Nat)(wv:WE):WS:=λE N ρ=>ρ[i]? = some (.d .pen)/\wv E ρ (isI λ_=>N.nx ρ)
theorem Fg(i:Nat)(m:Int){j}{ipos:Pos}(he:PX X EX e wv)(hm:(m=0\/m=1\/m=2:))(hN:{X.N[i]? = some x})(hv:autoParam (mm X.env.scope x) QP._auto_1)(hd:(QA x:))
  (hcd:((x==("__classdict__" : Str))=false:))
  (ha:autoParam (∀ v,assign (.Subscript (.Name x p) (.Constant (.int m) j ipos) spos) X.env v=(do
   let ov <-holding [v] (eval (.Name x p) X.env)
   let iv <-holding [v,ov] (eval (.Constant (.int m) j ipos) X.env)
   standAt spos
   holding [v,ov,iv] (setItem ov iv v)
   release [v,ov,iv] [])) QN._auto_1)
  (hs:{swapsWithSole [.Subscript (.Name x p) (.Constant (.int m) j ipos) spos] e pos.line X.env=pure false}) (hw:{swappedStores [.Subscript (.Name x p) (.Constant (.int m) j ipos) spos] e X.env=pure none})
  (h1:{(assignEach [.Subscript (.Name x p) (.Constant (.int m) j ipos) spos] X.env).map (·.2)=[assign (.Subscript (.Name x p) (.Constant (.int m) j ipos) spos) X.env]}):PZ X EX (.Assign [.Subscript (.Name x p) (.Constant (.int m) j ipos) spos] e pos) (fA i wv):=by
 obtain⟨t,pe,k⟩:=he.t;refine⟨⟨_,jT pe (jS (ez hN hv hd hcd) jQ gk ha) hs hw h1,λW0 H0 F W σ H ρ E Dn N s fl eo no h=>?_⟩,λE ρ N N' hl q=>⟨q.1,he.mono _ _ _ _ (isI.mono λ_ hn=>hl.nx _ hn) q.2⟩⟩;obtain⟨hpen,h⟩:=h;obtain⟨v0,e0,r0⟩:=s.d i .pen hpen;cases r0 with
 | @pen a hp=>
  refine k W0 H0 W σ H ρ E _ s eo<|he.mono _ _ _ _ (λd hd v W1 H1 x1 r1=>⟨_,e0,?_⟩) h;obtain⟨n,rfl,hn⟩:=sH hd;cases r1;have hp1:=x1.p a hp;obtain⟨⟨i',j',k',e'⟩,ng⟩:=x1.ok.p a hp1;rcases hm with rfl|rfl|rfl
  .exact⟨a,_,0,0,rfl,rfl,e',rfl,no.nx W1 σ _ ρ ((s.step x1).ink hp1) (fl.ext x1) hn⟩
  .exact⟨a,_,1,1,rfl,rfl,e',rfl,no.nx W1 σ _ ρ ((s.step x1).ink hp1) (fl.ext x1) hn⟩
  .exact⟨a,_,2,2,rfl,rfl,e',rfl,no.nx W1 σ _ ρ ((s.step x1).ink hp1) (fl.ext x1) hn⟩
end
abbrev fS:G2:=gI2 (λ_ _=>True) λi j=>.int<|i-j
abbrev re:G2:=gI2 (λ_ j=>j≠0) λi j=>.int<|i.fmod j
abbrev iU:G2:=gI2 Ch λi j=>.int<|i.fdiv j
abbrev Fh:G2:=gI2 ue λi j=>.int<|i^j.toNat
abbrev j9:G2:=gI2 (λ_ _=>True) λi j=>.bl<|decide (i<j)
abbrev lG:G2:=gI2 (λ_ _=>True) λi j=>.bl<|decide (i<=j)
abbrev mM:G2:=gI2 (λ_ _=>True) λi j=>.bl<|decide (i>j)
abbrev Cp:G2:=gI2 (λ_ _=>True) λi j=>.bl<|decide (i ≥ j)
abbrev jg:D->(QH)->Prop:=λx Q=>isI (λi=>Q<|.int (-i)) x
abbrev l6:WS:=λ_ _ _=>False
def fnS{α:Type}(enc:α->QG)(dom:α->Prop)(val:α->D):bA:=λds _ Q=>∃a,ds=enc a/\dom a/\Q (val a)
theorem fnS.mono{α:Type}{enc:α->QG}{dom:α->Prop}{val:α->D}:mJ (fnS enc dom val):=λds E E' Q Q' _ hQ ⟨a,h1,h2,h3⟩=>⟨a,h1,h2,hQ _ h3⟩
theorem fnS.len{α:Type}{enc:α->QG}{dom:α->Prop}{val:α->D}(hp:∀a,(enc a).length=ps.length):∀ds E Q,fnS enc dom val ds E Q->ds.length=ps.length:=λds E Q ⟨a,h1,_⟩=>by rw[h1];exact hp a
def exQ(E:QF)(Q:QH):Except Str D->Prop
 |.ok v=>Q v|.error e=>E e
theorem exQ.mono{E E':QF}{Q':QH}(hE:∀e,E e->E' e)(hQ:∀d,Q d->Q' d):∀r,exQ E Q r->exQ E' Q' r
 |.ok v,h=>hQ v h|.error e,h=>hE e h
def xS{α:Type}(enc:α->QG)(dom:α->Prop)(res:α->Except Str D):bA:=λds E Q=>∃a,ds=enc a/\dom a/\exQ E Q (res a)
theorem xS.mono{α:Type}{enc:α->QG}{dom:α->Prop}{res:α->Except Str D}:mJ (xS enc dom res):=λds E E' Q Q' hE hQ ⟨a,h1,h2,h3⟩=>⟨a,h1,h2,exQ.mono hE hQ _ h3⟩
theorem xS.ok{α:Type}{enc:α->QG}{dom:α->Prop}{res:α->Except Str D}{E:QF}{v:D}(a:α)(h:ds=enc a)(hd:dom a)(e:res a=.ok v)(q:Q v):xS enc dom res ds E Q:=⟨a,h,hd,by rw[e];exact q⟩
theorem xS.err{α:Type}{enc:α->QG}{dom:α->Prop}{res:α->Except Str D}{E:QF}{n:Str}(a:α)(h:ds=enc a)(hd:dom a)(e:res a=.error n)(q:E n):xS enc dom res ds E Q:=⟨a,h,hd,by rw[e];exact q⟩
theorem xS.len{α:Type}{enc:α->QG}{dom:α->Prop}{res:α->Except Str D}(hp:∀a,(enc a).length=ps.length):∀ds E Q,xS enc dom res ds E Q->ds.length=ps.length:=λds E Q ⟨a,h1,_⟩=>by rw[h1];exact hp a
def rlS{α:Type}(enc:α->QG)(dom:α->Prop)(rel:α->QH):bA:=λds _ Q=>∃a,ds=enc a/\dom a/\∀d,rel a d->Q d
theorem rlS.mono{α:Type}{enc:α->QG}{dom:α->Prop}{rel:α->QH}:mJ (rlS enc dom rel):=λds E E' Q Q' _ hQ ⟨a,h1,h2,h3⟩=>⟨a,h1,h2,λd r=>hQ _<|h3 d r⟩
theorem rlS.len{α:Type}{enc:α->QG}{dom:α->Prop}{rel:α->QH}(hp:∀a,(enc a).length=ps.length):∀ds E Q,rlS enc dom rel ds E Q->ds.length=ps.length:=λds E Q ⟨a,h1,_⟩=>by rw[h1];exact hp a
theorem Fp.of{P:Program}{w:World}(h:FnOk P w K mg base (gu P w) k f fd ps (iO K S))(m:mJ S)(hm:mg x=some (.ref f))(kp:PySem.W.keepIn K (.ref f)=true)(hb:Binds K fd ps []) :
  Fp P w K mg base k x ps S:=⟨⟨f,fd,h,hm,kp,hb⟩,m⟩
section
variable{tail:cR}{Q:QG->Prop}
theorem vc{f:D->D}(h:∀d∈ds,∀Q:D->Prop,Q (f d)->we No (.d d::tail) Q):∀(sv:SV) (acc:QG),acc.length+ds.length<=aR->Q (acc++ds.map f)->lcW (gN 0) cC we ds (sv::tail) acc Q:=by
 induction ds with
 |nil=>intro sv acc _ hq;simpa[lcW] using hq|cons d ds ih=>intro sv acc hl hq;rw[lcW];show we No (SV.d d::tail) _;refine h d (md ..) _ ⟨?_,?_⟩;rw[d8]at hl;omega;refine ih (λd hd=>h d<|kj _ hd) (.d d) _ ?_ ?_;rw[fZ,me];rw[d8]at hl;omega;rw[kP];exact hq
theorem zM{R:D->QH}(h:∀d∈ds,∀Q:D->Prop,(∀y,R d y->Q y)->we No (.d d::tail) Q):∀(sv:SV) (acc:QG),acc.length+ds.length<=aR->(∀ys,ys.length=ds.length->(∀y∈ys,∃d,d∈ds/\R d y)->Q (acc++ys))->lcW (gN 0) cC we ds (sv::tail) acc Q:=by
 induction ds with
 |nil=>intro sv acc _ hq;simpa[lcW] using hq [] rfl KE
 |cons d ds ih=>
  intro sv acc hl hq;rw[lcW];show we No (SV.d d::tail) _;refine h d (md ..) _ λy hy=>⟨?_,?_⟩;rw[d8]at hl;omega;refine ih (λd hd=>h d<|kj _ hd) (.d d) _ ?_ λys hl' hys=>?_;rw[fZ,me];rw[d8]at hl;omega;rw[kP];refine hq (y::ys) (by rw[d8,d8,hl']) λz hz=>?_;rcases Yan.mp hz with rfl|hz
  exact⟨d,md ..,hy⟩;obtain⟨d',h1,h2⟩:=hys z hz;exact⟨d',kj _ h1,h2⟩
end
mutual
def eZ:D->Nat->Bool
 |.non,_=>true|.bl _,_=>true|.int _,_=>true|.str x,_=>PyData.canLay0<|.str x
 |.tup xs,n=>decide (0<n)&&kL xs (n-1)|.lst xs,n=>decide (0<n)&&kL xs (n-1)|.dic,_=>false|.pen,_=>false|.cls _,_=>false|.exc _,_=>false|.ty _,_=>false|.pl _ _,_=>false|.scr _,_=>false
def kL:QG->Nat->Bool
 |[],_=>true|x::r,n=>eZ x n&&kL r n
end
mutual
def pd:D->PyData
 |.non=>.none|.bl b=>.bool b|.int i=>.int i|.str x=>.str x|.tup xs=>.tuple<|gY xs
 |.lst xs=>.list<|gY xs
 |.dic=>.none|.pen=>.none|.cls _=>.none|.exc _=>.none|.ty _=>.none|.pl _ _=>.none|.scr _=>.none
def gY:QG->List PyData
 |[]=>[]|x::r=>pd x::gY r
end
mutual
theorem zN:∀(x:D) (n:Nat),eZ x n=true->jd x=some (pd x)/\(pd x).canLay0=true/\(pd x).depth<=n
 |.non,n,_=>⟨rfl,rfl,by rw[pd,PyData.depth];exact k9 _⟩|.bl _,n,_=>⟨rfl,rfl,by rw[pd,PyData.depth];exact k9 _⟩|.int _,n,_=>⟨rfl,rfl,by rw[pd,PyData.depth];exact k9 _⟩|.str x,n,h=>⟨rfl,by rw[eZ]at h;exact h,by rw[pd,PyData.depth];exact k9 _⟩|.tup xs,n,h=>by rw[eZ,cX,PV]at h;obtain⟨h1,h2,h3⟩:=Cq xs (n-1) h.2;refine⟨by rw[jd,h1,pd];rfl,by rw[pd,PyData.canLay0];exact h2,by rw[pd,PyData.depth];omega⟩
 |.lst xs,n,h=>by rw[eZ,cX,PV]at h;obtain⟨h1,h2,h3⟩:=Cq xs (n-1) h.2;refine⟨by rw[jd,h1,pd];rfl,by rw[pd,PyData.canLay0];exact h2,by rw[pd,PyData.depth];omega⟩
 |.dic,n,h=>by rw[eZ]at h;cases h
 |.pen,n,h=>by rw[eZ]at h;cases h
 |.cls _,n,h=>by rw[eZ]at h;cases h
 |.exc _,n,h=>by rw[eZ]at h;cases h
 |.ty _,n,h=>by rw[eZ]at h;cases h
 |.pl _ _,n,h=>by rw[eZ]at h;cases h
 |.scr _,n,h=>by rw[eZ]at h;cases h
theorem Cq:∀(xs:QG) (n:Nat),kL xs n=true->gO xs=some (gY xs)/\PyData.canLayAll0 (gY xs)=true/\PyData.depthAll (gY xs)<=n
 |[],n,_=>⟨by rw[gO,gY],by rw[gY,PyData.canLayAll0],by rw[gY,PyData.depthAll];exact k9 _⟩|x::r,n,h=>by rw[kL,cX]at h;obtain⟨h1,h2,h3⟩:=zN x n h.1;obtain⟨q1,q2,q3⟩:=Cq r n h.2;exact⟨by rw[gO,h1,q1,gY],by rw[gY,PyData.canLayAll0,h2,q2];rfl,by rw[gY,PyData.depthAll];omega⟩
end
def fg(x y:D):Bool:=PyData.eqv (pd x)<|pd y
theorem jh{x:D}{neg:Bool}(hx:eZ x 60=true)(hy:eZ y 60=true)(h:Q (.bl (if neg then !fg x y else fg x y))):gEq neg x y Q:=by obtain⟨a1,a2,a3⟩:=zN x 60 hx;obtain⟨b1,b2,b3⟩:=zN y 60 hy;refine⟨pd x,pd y,a1,b1,?_,?_,h⟩;unfold PySem.SeqAt.shaped;rw[a2,PR<|E1];rfl;unfold PySem.SeqAt.shaped;rw[b2,PR<|E1];rfl
mutual
theorem Fi:∀p:PyData,p.canLay0=true->PyData.eqv p p=true
 |.none,_=>by rw[PyData.eqv]|.bool b,_=>by rw[PyData.eqv];exact Qd b|.int i,_=>by rw[PyData.eqv];exact Qd i|.str x,_=>by rw[PyData.eqv];exact Qd x|.list xs,h=>by rw[PyData.eqv];exact Cr xs (by rw[PyData.canLay0]at h;exact h)|.tuple xs,h=>by rw[PyData.eqv];exact Cr xs (by rw[PyData.canLay0]at h;exact h)|.dict _,h=>by rw[PyData.canLay0]at h;cases h
theorem Cr:∀ps:List PyData,PyData.canLayAll0 ps=true->PyData.eqvAll ps ps=true
 |[],_=>by rw[PyData.eqvAll]|p::ps,h=>by rw[PyData.canLayAll0,cX]at h;rw[PyData.eqvAll,Fi p h.1,Cr ps h.2];rfl
end
theorem Fj{x:D}(h:eZ x n=true):fg x x=true:=Fi _ (zN x n h).2.1
theorem zO{x:D}{neg:Bool}(hx:eZ x 60=true)(h:Q (.bl (!neg))):gEq neg x x Q:=by refine jh hx hx ?_;rw[Fj hx];cases neg<;>exact h
@[simp] theorem deq_int (i j:Int):fg (.int i) (.int j)=(i==j):=by simp[fg,pd,PyData.eqv]
theorem Ct(i:Int)(n:Nat):eZ (.int i) n=true:=by rw[eZ]
theorem Fk(h:∀x∈xs,eZ x n=true):kL xs n=true:=by
 induction xs with
 |nil=>rw[kL]|cons x xs ih=>rw[kL,h x<|md ..,ih λy hy=>h y<|kj _ hy];rfl
theorem Cu(h:∀x∈xs,eZ x n=true):eZ (.tup xs) (n+1)=true:=by rw[eZ,Fk (n:=n+1-1) h];simp
theorem zP(h:∀x∈xs,eZ x n=true):eZ (.lst xs) (n+1)=true:=by rw[eZ,Fk (n:=n+1-1) h];simp
noncomputable def aS(q:Rat):D:=.tup [.int q.num,.int (q.den:Int)]
def aE(r:Qw):D:=.tup<|r.map aS
def Sz(n:Nat)(q:Rat):Prop:=q.num.natAbs<2^n/\q.den<2^n
theorem Sz.mono(l:n<=m)(h:Sz n q):Sz m q:=
 have:=rW (n:=2) E8 l
 ⟨dN h.1 this,dN h.2 this⟩
theorem Fm{a:Int}{g:Nat}(hg:g≠0)(h:(g:Int)∣a):(a/(g:Int)).natAbs<=a.natAbs:=by
 obtain⟨c,rfl⟩:=h;have hg':(g:Int)≠0:=by exact_mod_cast hg
 rw[Bp _ hg',ge,m9];exact Nat.le_mul_of_pos_left _ E1
theorem Fn(a:Int)(hb:b≠0):(mkRat a b).num.natAbs<=a.natAbs/\(mkRat a b).den<=b:=by rw[Rat.num_mkRat,Rat.den_mkRat,jx hb,jx hb];refine⟨Fm (λz=>?_)<|Int.ofNat_dvd_left.mpr<|Nat.gcd_dvd_right ..,Nat.div_le_self _ _⟩;rw[Nat.gcd_eq_zero_iff]at z;exact hb z.1
theorem qo{a:Nat}(h:a<2^n)(h':b<2^m):a*b<2^(n+m):=by
 rw[mf];rcases Nat.eq_zero_or_pos a with rfl|ha
 rw[Nat.zero_mul];exact Nat.mul_pos (yS<|E8)<|yS E8
 exact dN (Nat.mul_lt_mul_of_pos_left h' ha)<|mh _ (lO h)
theorem Sz.add{p:Rat}(h:Sz n p)(h':Sz m q):Sz (n+m+1) (p+q):=by
 rw[Rat.add_def'];have z:p.den*q.den≠0:=Bq p.den_nz q.den_nz;have:=Fn (p.num*q.den+q.num*p.den) z;have a1:=qo h.1 h'.2;have a2:=qo h'.1 h.2;have a3:=qo h.2 h'.2;rw[Nat.add_comm m n]at a2;have e:2^(n+m+1)=2^(n+m)+2^(n+m):=by rw[yT];omega
 have t:=u5 (p.num*q.den)<|q.num*p.den;rw[ge,ge,m9,m9]at t;exact⟨E1,E1⟩
theorem Sz.neg{p:Rat}(h:Sz n p):Sz n (-p):=⟨by rw[Rat.neg_num,Int.natAbs_neg];exact h.1,h.2⟩
theorem Sz.sub{p:Rat}(h:Sz n p)(h':Sz m q):Sz (n+m+1) (p-q):=by rw[Rat.sub_eq_add_neg];exact h.add h'.neg
theorem Sz.mul{p:Rat}(h:Sz n p)(h':Sz m q):Sz (n+m) (p*q):=by rw[Rat.mul_def'];have z:p.den*q.den≠0:=Bq p.den_nz q.den_nz;have:=Fn (p.num*q.num) z;have a1:=qo h.1 h'.1;have a3:=qo h.2 h'.2;rw[ge]at this;exact⟨E1,E1⟩
theorem Sz.inv{p:Rat}(h:Sz n p):Sz n p⁻¹:=by
 unfold Sz;rw[Rat.num_inv,Rat.den_inv,ge,m9];have:=p.den_pos;have h1:=h.1;have h2:=h.2;constructor;rcases Int.lt_trichotomy p.num 0 with z|z|z
 rw[EH z];simpa using h2;rw[z];simp;omega;rw[Int.sign_eq_one_of_pos z];simpa using h2;split;omega;exact h1
theorem Sz.div{p:Rat}(h:Sz n p)(h':Sz m q):Sz (n+m) (p/q):=by rw[hU];exact h.mul h'.inv
theorem Sz.int(i:Int)(hn:0<n)(h:i.natAbs<2^n):Sz n (i:Rat):=⟨by rw[Br];exact h,by rw[Bu];exact Bv<|E1⟩
theorem Sz.zero(hn:0<n):Sz n (0:Rat):=⟨by rw[Rat.zero_num];exact Nat.two_pow_pos n,by rw[Rat.zero_den];exact Bv<|E1⟩
theorem Sz.bd(h:Sz n q)(l:n<=8990):Bd q.num/\Bd (q.den:Int):=by have:=h.mono l;exact⟨this.1,by unfold Bd;rw[m9];exact this.2⟩
def B2(p q:Rat):Prop:=∃n m,Sz n p/\Sz m q/\n+m<8990
theorem B2.of{p:Rat}(h:Sz n p)(h':Sz m q)(l:n+m<8990):B2 p q:=⟨n,m,h,h',l⟩
theorem B2.mul{p:Rat}(h:B2 p q):sJ p.num q.den/\sJ q.num p.den/\sJ p.den q.den/\sJ p.num q.num/\Bd ((p.den:Int)*q.den)/\(p.den:Int)*q.den≠0/\sJ p.den q.num/\(Bd<|(p.den:Int)*q.num):=by
 obtain⟨n,m,h1,h2,l⟩:=h;have b1:=h1.bd E1;have b2:=h2.bd E1;refine⟨⟨b1.1,b2.2⟩,⟨b2.1,b1.2⟩,⟨b1.2,b2.2⟩,⟨b1.1,b2.1⟩,?_,?_,⟨b1.2,b2.1⟩,?_⟩;have:=qo h1.2 h2.2;unfold Bd;rw[ge,m9,m9];exact dN this<|rW E8 E1
 have:=Bq p.den_nz q.den_nz;exact_mod_cast this;have:=qo h1.2 h2.1;unfold Bd;rw[ge,m9];exact dN this<|rW E8 E1
def cD:Qw->Qw->Rat
 |[],_=>0|_::_,[]=>0|x::xs,y::ys=>x*y+cD xs ys
theorem uB(q:Rat)(n:Nat):eZ (aS q) (n+1)=true:=Cu (by simp[eZ])
theorem rf(r:Qw)(n:Nat):eZ (aE r) (n+2)=true:=Cu λx hx=>by obtain⟨q,_,rfl⟩:=YbQ.mp hx;exact uB q n
def aL(xs:Qv):D:=.tup<|xs.map .int
def f8(xs:Qv):D:=.lst<|xs.map .int
theorem Fo(xs:Qv)(n:Nat):eZ (aL xs) (n+1)=true:=Cu λx hx=>by obtain⟨i,_,rfl⟩:=YbQ.mp hx;rw[eZ]
theorem Fq{t b:Int}(hb:b≠0):(t.fdiv (if b<0 then -(Int.gcd t b:Int) else(Int.gcd t b:Int))=(Rat.divInt t b).num)/\(b.fdiv (if b<0 then -(Int.gcd t b:Int) else(Int.gcd t b:Int))=((Rat.divInt t b).den:Int)):=by
 have hg:0<Int.gcd t b:=Bw _ hb;have hg':(0:Int)<(Int.gcd t b:Int):=by exact_mod_cast hg
 obtain⟨c,hc⟩:=Int.gcd_dvd_left (a:=t) (b:=b);obtain⟨d,hd⟩:=Int.gcd_dvd_right (a:=t) (b:=b);rw[Rat.num_divInt,Rat.den_divInt,jx hb,Int.gcd_comm b t];generalize Int.gcd t b=g at *;subst hc hd;have gne:(g:Int)≠0:=E1
 split;rename_i h;have hd:d<0:=by
  rcases Int.lt_or_le d 0 with z|z
  exact z;have:=Int.mul_nonneg (Int.le_of_lt hg') z;omega
 rw[EH h];constructor;rw[show(g:Int)*c=(-(g:Int))*(-c) by rw[yU],yV _<|E1,yU,show(-1:Int)*((g:Int)*c)=(g:Int)*(-c) by rw[Int.neg_mul,Int.one_mul,Int.mul_neg],Bp _ gne];rw[show(g:Int)*d=(-(g:Int))*(-d) by rw[yU],yV _<|E1,yU,ge,m9,Nat.mul_div_cancel_left _ hg];omega;rename_i h;have hd:0<d:=by
  rcases Int.lt_or_le 0 d with z|z
  exact z;exfalso;have h1:(g:Int)*d<=0:=by
   have:=Int.mul_le_mul_of_nonneg_left z<|Int.le_of_lt hg'
   rwa [Int.mul_zero]at this
  omega
 have hp:0<(g:Int)*d:=Int.mul_pos hg' hd;rw[Int.sign_eq_one_of_pos hp,Int.one_mul];constructor;rw[yV _ gne,Bp _ gne];rw[yV _ gne,ge,m9,Nat.mul_div_cancel_left _ hg];omega
mutual
def kd:D->Bool
 |.tup xs=>decide (xs.length<=5000)&&kM xs|.lst xs=>decide (xs.length<=5000)&&kM xs|.non=>true|.bl _=>true|.int _=>true|.str _=>true|.dic=>true|.pen=>false|.cls _=>false|.exc _=>false|.ty _=>false|.pl _ _=>false|.scr _=>false
def kM:QG->Bool
 |[]=>true|x::r=>kd x&&kM r
end
theorem Cv:∀{xs:QG},kM xs=true->∀x∈xs,kd x=true
 |x::r,h,y,hy=>by
  rw[kM,cX]at h;rcases Yan.mp hy with rfl|hy
  exact h.1;exact Cv h.2 y hy
theorem Cw:∀{xs:QG},(∀x∈xs,kd x=true)->kM xs=true
 |[],_=>by rw[kM]|x::r,h=>by rw[kM,h x<|md ..,Cw λy hy=>h y<|kj _ hy];rfl
theorem qa(h:kd (.tup xs)=true):xs.length<=5000/\∀x∈xs,kd x=true:=by rw[kd,cX,PV]at h;exact⟨h.1,Cv h.2⟩
theorem zQ(h:kd (.lst xs)=true):xs.length<=5000/\∀x∈xs,kd x=true:=by rw[kd,cX,PV]at h;exact⟨h.1,Cv h.2⟩
theorem l7(h1:xs.length<=5000)(h2:∀x∈xs,kd x=true):kd (.tup xs)=true:=by rw[kd,PR h1,Cw h2];rfl
theorem Cy(h1:xs.length<=5000)(h2:∀x∈xs,kd x=true):kd (.lst xs)=true:=by rw[kd,PR h1,Cw h2];rfl
theorem xf{x:D}(h:kd x=true):∃t,zI x=some t:=by
 cases x<;>first
  |exact⟨_,rfl⟩
  |(rw[kd]at h;cases h)
theorem KC(q:Rat):kd (aS q)=true:=l7 KE (by simp[kd])
theorem qp(h:r.length<=5000):kd (aE r)=true:=l7 (by simpa using h) λx hx=>by obtain⟨q,_,rfl⟩:=YbQ.mp hx;exact KC q
theorem Cz{r:Qv}(h:r.length<=5000):kd (aL r)=true:=l7 (by simpa using h) λx hx=>by obtain⟨q,_,rfl⟩:=YbQ.mp hx;rw[kd]
def uC:D->Bool
 |.int _=>true|_=>false
def qq(l m:Int):D->Bool
 |.int i=>decide (l<=i)&&decide (i<=m)|_=>false
def mO(l m:Int):D->Bool
 |.tup xs=>xs.all<|qq l m
 |_=>false
def ee:D->Bool
 |.tup [.int t,.int b]=>decide (0<b)&&(Int.gcd t b==1)|_=>false
def gZ(n:Int):D->Bool
 |.tup xs=>((xs.length:Int)==n)&&xs.all ee|_=>false
def xg(l m:Int):D->Bool
 |.tup xs=>decide (l<=(xs.length:Int))&&decide ((xs.length:Int)<=m)&&xs.all ee|_=>false
def xh:bA:=fnS (λx:D=>[x]) (λx=>kd x=true) λx=>.bl<|uC x
def zR:bA:=fnS (λx:D×Int×Int=>[x.1,.int x.2.1,.int x.2.2]) (λx=>kd x.1=true) λx=>.bl<|qq x.2.1 x.2.2 x.1
def zS:bA:=fnS (λx:D×Int×Int=>[x.1,.int x.2.1,.int x.2.2]) (λx=>kd x.1=true) λx=>.bl<|mO x.2.1 x.2.2 x.1
def zT:bA:=fnS (λx:Int×Int=>[.int x.1,.int x.2]) (λ_=>True) λx=>.int<|Int.gcd x.1 x.2
def xj:bA:=fnS (λx:D=>[x]) (λx=>kd x=true) λx=>.bl<|ee x
def zU:bA:=fnS (λx:D×Int×Int=>[x.1,.int x.2.1,.int x.2.2]) (λx=>kd x.1=true) λx=>.bl<|xg x.2.1 x.2.2 x.1
def xk:bA:=fnS (λx:D×Int=>[x.1,.int x.2]) (λx=>kd x.1=true) λx=>.bl<|gZ x.2 x.1
def uD:bA:=fnS (λx:Int×Int=>[.int x.1,.int x.2]) (λx=>x.2≠0/\Bd x.2) λx=>aS<|Rat.divInt x.1 x.2
def zV:bA:=fnS (λx:Rat×Rat=>[aS x.1,aS x.2]) (λx=>B2 x.1 x.2) λx=>aS<|x.1+x.2
def sS:bA:=fnS (λx:Rat×Rat=>[aS x.1,aS x.2]) (λx=>B2 x.1 x.2) λx=>aS<|x.1-x.2
def rg:bA:=fnS (λx:Rat×Rat=>[aS x.1,aS x.2]) (λx=>B2 x.1 x.2) λx=>aS<|x.1*x.2
def mP:bA:=fnS (λx:Rat×Rat=>[aS x.1,aS x.2]) (λx=>B2 x.1 x.2/\x.2≠0) λx=>aS<|x.1/x.2
def mQ(b:Bool)(xs:QG):D:=if b then .tup xs else .lst xs
def xm:bA:=fnS (λx:Bool×Qv=>[mQ x.1<|x.2.map .int]) (λx=>x.2.length<=5000) λx=>aE<|x.2.map λ(i:Int)=>(i:Rat)
def BR(p q:Qw):Prop:=∃n m,(∀x∈p,Sz n x)/\(∀x∈q,Sz m x)/\p.length*(n+m+1)+(n+m)+1<8990
def xn:bA:=fnS (λx:(Bool×Bool)×Qw×Qw=>[mQ x.1.1<|x.2.1.map aS,mQ x.1.2<|x.2.2.map aS]) (λx=>BR x.2.1 x.2.2) λx=>aS<|cD x.2.1 x.2.2
structure IsSl(s:Qv)(n:Nat):Prop where
 len:s.length+1=2*n
 n1:1<=n
 n5:n<=5
 b:∀x∈s,-50<=x/\x<=50
noncomputable def tbl(s:Qv)(n:Nat):K5:=(List.range n).map λi=>(s.drop<|n-1-i).take n
def bD(s:Qv)(n:Nat):D:=.lst<|(tbl s n).map f8
def dM:D->Bool
 |.tup xs=>xs.all (qq (-50) 50)&&decide (xs.length%2=1)&&decide (xs.length<=9)|_=>false
abbrev SL:=Qv×Nat
def jJ:bA:=fnS (λx:QG=>[.tup x]) (λx=>x.length<=5000) λx=>.int<|((x.length:Int)+1)/2
def zW:bA:=fnS (λx:D=>[x]) (λx=>kd x=true) λx=>.bl<|dM x
def uE:D->Int
 |.int i=>i|_=>0
def sI:D->Qv
 |.tup xs=>xs.map uE|_=>[]
def sN(x:D):Nat:=((sI x).length+1)/2
def g6(x:D)(v:Except Str D):Except Str D:=if dM x=true then v else .error "NoSlants"
def nq:bA:=xS (λx:D=>[x]) (λx=>kd x=true) λx=>g6 x<|.ok .non
def uF:bA:=xS (λx:D=>[x]) (λx=>kd x=true) λx=>g6 x<|.ok (bD (sI x)<|sN x)
def hd(r:Qv):Int:=r.headD 0
def zX:bA:=xS (λx:D=>[x]) (λx=>kd x=true) λx=>g6 x<|.ok (aL (sI x).reverse)
def rh:bA:=xS (λx:D×D=>[x.1,x.2]) (λx=>kd x.1=true/\kd x.2=true) λx=>g6 x.1<|.ok (.bl<|gZ (sN x.1) x.2)
def cP(r:Qv):Qw:=r.map λ(i:Int)=>(i:Rat)
def sT:bA:=fnS (λx:SL=>[aL x.1]) (λx=>IsSl x.1 x.2) λx=>.lst<|(tbl x.1 x.2).map λr=>aE (cP r)
def bR(s:Qv)(n:Nat)(r:Qw):Qw:=(tbl s n).map λline=>cD (cP line) r
def BS(r:Qw):Prop:=∃m,(∀x∈r,Sz m x)/\m<=1400
noncomputable def uG:D->Rat
 |.tup [.int t,.int b]=>Rat.divInt t b|_=>0
def rQ:D->Qw
 |.tup xs=>xs.map uG|_=>[]
def uH:bA:=xS (λx:D×D=>[x.1,x.2]) (λx=>kd x.1=true/\kd x.2=true/\∀r,x.2=aE r->BS r) λx=>g6 x.1 (if gZ (sN x.1) x.2=true then .ok (aE<|bR (sI x.1) (sN x.1)<|rQ x.2) else .error "NoRow")
section
variable{E:QF}{x:D}{l m a b:Int}{p:Rat}
theorem KD(h:kd x=true)(q:Q (.bl<|mO l m x)):zS [x,.int l,.int m] E Q:=⟨(x,l,m),rfl,h,q⟩
theorem KG(h:kd x=true)(q:Q (.bl<|ee x)):xj [x] E Q:=⟨x,rfl,h,q⟩
theorem KH(h:kd x=true)(q:Q (.bl<|xg l m x)):zU [x,.int l,.int m] E Q:=⟨(x,l,m),rfl,h,q⟩
theorem Fr(h:kd x=true)(q:Q (.bl<|gZ a x)):xk [x,.int a] E Q:=⟨(x,a),rfl,h,q⟩
theorem CA(h:B2 p q)(z:Q (aS<|p-q)):sS [aS p,aS q] E Q:=⟨(p,q),rfl,h,z⟩
theorem Fs(h:B2 p q)(z:Q (aS<|p*q)):rg [aS p,aS q] E Q:=⟨(p,q),rfl,h,z⟩
theorem xo(h:B2 p q)(h':q≠0)(z:Q (aS<|p/q)):mP [aS p,aS q] E Q:=⟨(p,q),rfl,⟨h,h'⟩,z⟩
theorem Ft{xs:Qv}(h:xs.length<=5000)(q:Q (aE<|cP xs)):xm [f8 xs] E Q:=⟨(false,xs),rfl,h,q⟩
theorem Fu{p q:Qw}(h:BR p q)(z:Q (aS<|cD p q)):xn [aE p,aE q] E Q:=⟨((true,true),p,q),rfl,h,z⟩
theorem IsSl.l9(h:IsSl s n):s.length<=9:=by have:=h.len;have:=h.n5;omega
theorem CB(h:xs.length<=5000)(q:Q (.int<|((xs.length:Int)+1)/2)):jJ [.tup xs] E Q:=⟨xs,rfl,h,q⟩
theorem nu(h:IsSl s n)(q:Q (.int n)):jJ [aL s] E Q:=by
 have:=h.l9;have:=h.len;refine CB (by simp;omega) ?_;have e:(((s.map D.int).length:Int)+1)/2=n:=by rw[bQ];omega
 rw[e];exact q
theorem KI(h:kd x=true)(q:Q (.bl<|dM x)):zW [x] E Q:=⟨x,rfl,h,q⟩
theorem CD(h:IsSl s n):dM (aL s)=true:=by unfold dM aL;simp only[bQ];have hl:=h.len;have h5:=h.n5;have h1:=h.n1;rw[PR (by omega:s.length%2=1),PR (by omega:s.length<=9),Bool.and_true,Bool.and_true,Ybe];intro x hx;obtain⟨i,hi,rfl⟩:=YbQ.mp hx;have:=h.b i hi;simp[qq,this.1,this.2]
theorem IsSl.kd{s:Qv}{n:Nat}(h:IsSl s n):kd (aL s)=true:=Cz (by have:=h.l9;omega)
theorem KJ(q:Rat):ee (aS q)=true:=by
 unfold ee aS;have h1:(0:Int)<(q.den:Int):=by exact_mod_cast q.den_pos
 have h2:Int.gcd q.num (q.den:Int)=1:=q.reduced;simp[h2,q.den_pos]
theorem rm(r:Qw):gZ r.length (aE r)=true:=by unfold gZ aE;simp[KJ]
theorem fH(s:Qv):sI (aL s)=s:=by show(s.map D.int).map uE=s;rw[List.map_map];exact(ir λ_ _=>rfl).trans (tK _)
theorem IsSl.sN(h:IsSl s n):sN (aL s)=n:=by unfold LP.sN;rw[fH];have:=h.len;omega
theorem iB(h:IsSl s n){v:Except Str D}:g6 (aL s) v=v:=by unfold g6;rw[CD h,oI rfl]
theorem i7{v:Except Str D}(h:dM x=false):g6 x v=.error "NoSlants" :=by unfold g6;rw[h,jx<|E8]
theorem l8(h:dM x=true):∃s n,x=aL s/\IsSl s n:=by
 cases x<;>try (cases h;done)
 rename_i xs;simp only[dM,cX,PV,Ybe]at h;obtain⟨⟨h1,h2⟩,h3⟩:=h;have e:xs=(xs.map uE).map D.int:=by rw[List.map_map];refine((ir λx hx=>?_).trans (tK _)).symm;have:=h1 x hx;cases x<;>first|rfl|cases this
 refine⟨xs.map uE,(xs.length+1)/2,by unfold aL;rw[<-e],⟨by rw[bQ];omega,E1,E1,λi hi=>?_⟩⟩;obtain⟨x,hx,rfl⟩:=YbQ.mp hi;have:=h1 x hx;cases x<;>first|(cases this;done)|skip
 simp only[qq,cX,PV]at this;exact this
theorem zY(q:Rat):uG (aS q)=q:=by unfold uG aS;exact tL q
theorem ji(r:Qw):rQ (aE r)=r:=by show(r.map aS).map uG=r;rw[List.map_map];exact(ir λq _=>zY q).trans (tK _)
theorem KK{r':Qw}(h:aE r=aE r'):r=r':=by rw[<-ji r,h,ji]
theorem CF(h:ee d=true):∃q,d=aS q:=by
 unfold ee at h;split at h;rename_i t b;simp only[cX,PV,Qa]at h;have hb:((b.toNat:Nat):Int)=b:=Bo E1;refine⟨⟨t,b.toNat,E1,?_⟩,?_⟩;have:b.natAbs=b.toNat:=E1
 have h2:=h.2;unfold Int.gcd at h2;rw[this]at h2;exact h2;unfold aS;rw[hb];cases h
theorem Fv:∀{xs:QG},xs.all ee=true->∃r:Qw,xs=r.map aS
 |[],_=>⟨[],rfl⟩|x::xs,h=>by rw[u3,cX]at h;obtain⟨q,rfl⟩:=CF h.1;obtain⟨r,rfl⟩:=Fv h.2;exact⟨q::r,rfl⟩
theorem sU{a:Int}(h:gZ a x=true):∃r,x=aE r/\(r.length:Int)=a:=by
 cases x<;>try (cases h;done)
 rename_i xs;simp only[gZ,cX,Qa]at h;obtain⟨r,rfl⟩:=Fv h.2;exact⟨r,rfl,by simpa using h.1⟩
theorem CG(h:IsSl s n)(q:Q .non):nq [aL s] E Q:=xS.ok (aL s) rfl h.kd (iB h) q
theorem xp(h:kd x=true)(hb:dM x=false)(e:E "NoSlants"):nq [x] E Q:=xS.err x rfl h (i7 hb) e
theorem KM(h:IsSl s n)(q:Q (bD s n)):uF [aL s] E Q:=xS.ok (aL s) rfl h.kd (by(try dsimp only);rw[iB h,fH,h.sN]) q
theorem KN(h:IsSl s n)(q:Q (aL s.reverse)):zX [aL s] E Q:=xS.ok (aL s) rfl h.kd (by(try dsimp only);rw[iB h,fH]) q
theorem xq(h:IsSl s n)(hk:kd x=true)(q:Q (.bl<|gZ n x)):rh [aL s,x] E Q:=xS.ok (aL s,x) rfl ⟨h.kd,hk⟩ (by(try dsimp only);rw[iB h,h.sN]) q
theorem KO(h:kd x=true)(hk:kd y=true)(hb:dM x=false)(e:E "NoSlants"):rh [x,y] E Q:=xS.err (x,y) rfl ⟨h,hk⟩ (i7 hb) e
theorem zZ(h:IsSl s n)(q:Q (.lst<|(tbl s n).map λr=>aE<|cP r)):sT [aL s] E Q:=⟨(s,n),rfl,h,q⟩
theorem CH(h:IsSl s n)(hl:r.length=n)(hb:BS r)(q:Q (aE<|bR s n r)):uH [aL s,aE r] E Q:=xS.ok (aL s,aE r) rfl ⟨h.kd,qp (by have:=h.n5;omega),λr' e=>by rw [<- KK e];exact hb⟩ (by
 have er:gZ n (aE r)=true:=by rw[<-hl];exact rm r
 dsimp only;rw[iB h,h.sN,fH,er,oI rfl,ji]) q
end
theorem uI{C:Addr}(h:PySem.W.nsIn K mainGlobals x=some (some<|.ref C)):jb K x=some C:=by unfold jb;rw[h]
section
variable{C:Addr}{newId initId:String}{bmB:Qu}
def iV(x:Str):WS:=λE _ _=>E x
structure XC(K:PN)(mg:Qt)(x:Str):Prop where
 h:∃(C:Addr) (newId initId:String) (bmB:Qu),jb K x=some C/\mg x=some (.ref C)/\PySem.W.excIn K C bmB newId=true/\ExcBaseFacts "ValueError" newId initId bmB
theorem sV(hr:mH X EX)(hx:XC X.K X.mg x)(hc:{X.calm=true})(hxn:(pX x=none:))(hg:{Gl X x})(hd:(QA x:)) :
  PZ X EX (.Raise (some<|.Call (.Name x np) [] [] cpos) none pos) (iV x):=by
 obtain⟨C,newId,initId,bmB,h1,h2,h3,h4⟩:=hx.h;exact⟨⟨_,Jx hr hc h2 h3 h4 hg hd,λW0 H0 F W σ H ρ E Dn N s fl eo no q=>eo x W H (.ref C) none q s.ext ⟨C,by rw[Kc hxn];exact h1,rfl,.none hxn⟩⟩,λE ρ N N' hl q=>q⟩
end
def xr(n i:Nat)(ex:Str):cR:=(List.replicate n SV.un).set i<|.d (.exc ex)
structure XT(K:PN)(mg:Qt)(x:Str)(L:Qx):Prop where
 h:∃(C:Addr) (newId:String) (bmB:Qu),mg x=some (.ref C)/\PySem.W.excIn K C bmB newId=true/\bmB.contains (.type "BaseException")=true/\∀n∈L,∀D,jb K (pY n)=some D->PySem.W.mroIn K D (.ref C)=some true
section
def iW(L:Qx)(n i:Nat)(zb zh:WS):WS:=λ_ N ρ=>∃E':Ex->Prop,(∀ex,E' ex->ex∈L/\zh No { nx:=λ_=>False,rt:=N.rt } (xr n i ex))/\zb E' N ρ
end
section
variable{P:Program}{w:World}
theorem CJ{N:Qx}{z:WS}(F:Fun K x qual st f fd)(sc:dI N ps (aJ st))(len:∀ds E Q,S ds E Q->ds.length=ps.length)
  (hbody:∀ (cdv:Value) (A:Around) (outer:List Env) (s:Shared) (H:Hp),RoomU k (A.deeper<|envOfC qual (aJ st) s.heap.objs.size f cdv)->
   jI (uv P w K mg base N qual (aJ st) f cdv A outer s H) E0 (bT st) z)
  (h:∀ds E Q,S ds E Q->z No { nx:=λ_=>Q .non,rt:=Q } (fL N ds)):zx P w K mg base (k+1) f fd ps (iO K S):=by
 refine F.okU sc (λvs H Q E hs=>?_) λcdv A outer s H vs Q E hr hs=>?_
 .obtain⟨ds,W,_,r,hS⟩:=hs
  rw[r.length];exact len _ _ _ hS
 .obtain⟨ds,W,ok,r,hS⟩:=hs
  obtain⟨t,p,k⟩:=(hbody cdv A outer s H hr).t;exact ⟨t,p,k W H W W (start N vs) H (fL N ds) No _ { nx:=λ_=>RQ K W H Q .non,rt:=RQ K W H Q } (Ff ok r) (.refl W) (λ_ _ _ _ _ z=>z.elim)
   ⟨λW1 σ1 H1 ρ1 s1 _ q=>q _ W1 H1 s1.ext .non,λd v W1 H1 x1 r1 q=>q v W1 H1 x1 r1,λ_ _ _ _ _ _ q=>q.elim,λ_ _ _ _ _ _ q=>q.elim⟩ (h ds _ _ hS)⟩
structure CK(P:Program)(w:World)(K:PN)(mg:Qt)(base:Heap)(k:Nat)(x:Str)(ps:Qx)(S:bA):Prop where
 ok:∃f fd,zx P w K mg base k f fd ps (iO K S)/\mg x=some (.ref f)/\PySem.W.keepIn K (.ref f)=true/\Binds K fd ps []
 mono:mJ S
end
section
theorem KP(G:CK X.prog X.w X.K X.mg X.base k x ps S)(hr:RoomU j X.A)(ha:j6 X EX (e::es) t)(hk:(k<=j:))(hg:{Gl X x})(hdb:(QA x:))(he:{QD X e es})(hpl:{QE X pos es}) :
  PX X EX (.Call (.Name x p) (e::es) [] pos) (wF S t):=by
 obtain⟨f,fd,F,hm,kp,hb⟩:=G.ok;obtain⟨ta,pa,ka⟩:=ha.t;have hS:=G.mono;refine⟨⟨_,JA (E:=EX) F (hr.mono hk) hg hm kp hb pa hdb he hpl,λW0 H0 W σ H ρ E Q s eo h=>?_⟩,λE ρ P P' hp z=>ha.mono _ _ _ _ (λds hds=>hS _ _ _ _ _ (λ_ q=>q) hp hds) z⟩;refine ka W0 H0 W σ H ρ E _ s eo<|ha.mono _ _ _ _ (λds hds vs W1 H1 x1 r1=>?_) h;refine⟨ds,W1,x1.ok,by rw[mZ];exact r1,hS _ _ _ _ _ (λex hex W' H' cls dx x' r'=>?_) (λd hd=>RQ.ext hd x1) hds⟩;exact eo ex W' H' cls dx hex (s.ext.trans<|x1.trans x') r'
end
structure XI(K:PN)(L M:Qx):Prop where
 c:∀n∈L,∃D,jb K (pY n)=some D/\ja K D/\PySem.W.kitOne K (.ref D) (.type "ValueError")=some true/\∀m∈M,∃C,jb K m=some C/\PySem.W.kitOne K (.ref D) (.ref C)=some (pY n==m)
section
variable{a:Expr}{M:Qx}
def gIsX(L M:Qx):QG->(QH)->Prop:=λds Q=>match ds with|[.exc n,.cls m]=>n∈L/\m∈M/\Q (.bl<|pY n==m)|[.exc n,.ty T]=>n∈L/\T = "ValueError" /\Q (.bl true)|_=>False
theorem gIsX.mono:∀ds P P',(∀d,P d->P' d)->gIsX L M ds P->gIsX L M ds P':=λds P P' hp hg=>by unfold gIsX at hg ⊢;split at hg;exact⟨hg.1,hg.2.1,hp _ hg.2.2⟩;exact⟨hg.1,hg.2.1,hp _ hg.2.2⟩;exact hg.elim
theorem qr(hx:XI X.K L M):fv X (.builtin "isinstance") (gIsX L M):=by
 refine⟨⟨λvs H Q=>∃W ds,WOk W H/\Reps X.K W vs ds/\gIsX L M ds (RQ X.K W H Q),?_,λW H vs ds Q ok r hg=>⟨W,ds,ok,r,hg⟩⟩,gIsX.mono⟩;rintro tv s σ H vs us Q I rv ⟨W,ds,ok,rs,hg⟩;have fin:∀{b:Bool},RQ X.K W H Q (.bl b)->∀tk,EP X tv σ Q (.bool b) { s with toks:=tk }:=λq tk=>⟨.bl _,H,I.tok tk,rfl,q.now ok<|.bl _⟩;have look:∀{x:V} {u:Value} {n:Str},n∈L->Rep X.K W x (.exc n)->RelV x u->∃a D,u=.ref a/\jb X.K (pY n)=some D/\XAt s.heap a D:=λ{x u n} hn r ru=>by
  cases r with
  | @exc a C n dx e0 e1 _=>cases ru;obtain⟨hx,_⟩:=(show ObjOk X.prog X.w H s.heap a (qj C a dx) from I.hok a _ (ok.g _ _ e0));exact⟨a,C,rfl,e1,let⟨oe,z1,z2,z3,_⟩:=hx;⟨oe,z1,z2,z3⟩⟩
 unfold gIsX at hg;split at hg;rename_i n m;obtain⟨h1,h2,q⟩:=hg;obtain⟨v,w',rfl,r1,r2⟩:=rs.two;obtain⟨u,u2,rfl,ru,ru2⟩:=lX rv;obtain⟨a,D,rfl,hD,hat⟩:=look h1 r1 ru;obtain⟨D',e1,cx,_,hm⟩:=hx.c n h1;rw[hD]at e1;cases e1;obtain⟨C,e2,hk⟩:=hm m h2;cases r2 with
 |cls e3=>rw[e3]at e2;cases e2;cases ru2;exact PySem.W.kia_one (E3 cx) I.kIn hat hk (λz=>nomatch z)<|fin q
 rename_i n T;obtain⟨h1,rfl,q⟩:=hg;obtain⟨v,w',rfl,r1,r2⟩:=rs.two;obtain⟨u,u2,rfl,ru,ru2⟩:=lX rv;obtain⟨a,D,rfl,hD,hat⟩:=look h1 r1 ru;obtain⟨D',e1,cx,hk,_⟩:=hx.c n h1;rw[hD]at e1;cases e1;cases r2;obtain rfl:u2=Value.type "ValueError" :=ru2;exact PySem.W.kia_one (E3 cx) I.kIn hat hk (λz=>nomatch z)<|fin q
 exact hg.elim
theorem KQ{a:Addr}(hm:X.mg x=some (.ref a))(hc:jb X.K x=some a)(hg:{Gl X x})(hd:(QA x:)):PX X EX (.Name x pos) (wC<|.cls x):=
 Cf (v:=.ref a) hm rfl (λW=>.cls hc) hg hd
end
structure CL(X:Cx)(id:String)(g:D->QG->(QH)->Prop):Prop where
 t:∃r,BY X id r/\∀W H x vs dx ds Q,WOk W H->Rep X.K W x dx->Reps X.K W vs ds->g dx ds (RQ X.K W H Q)->r x vs H Q
 ty:∀dx ds P,g dx ds P->∃xs,dx=.lst xs
 mono:∀x ds P P',(∀d,P d->P' d)->g x ds P->g x ds P'
def wM(g:D->QG->(QH)->Prop)(wo:WE)(t:WA):WE:=λE ρ Q=>wo E ρ λx=>(∃xs,x=.lst xs)/\t E ρ λds=>g x ds Q
section
variable{o:Expr}{id:String}{g:D->QG->(QH)->Prop}
theorem Fw(slot:Slot "list" name id)(hty:typeOf (.builtin id)=pure (.type "method_descriptor"))(hm:CL X id g)(ho:PX X EX o wo)(ha:j6 X EX (e::es) t)
  (hbase:{attributeBase o name X.env (eval o X.env)=eval o X.env})
  (hfew:{((backTo cpos<|starEach (e::es) X.env).all (λx=>!x.1) && (backToKw cpos<|keywordEach [] X.env).all (λx=>x.1.isSome)
   && decide ((e::es).length+([]:List Keyword).length+(if([]:List Keyword).isEmpty then 0 else 1)<30))=true})
  (hline:{(apos.endLine==cpos.line)=true}) (hs:{starEach (e::es) X.env=(false,eval e X.env)::starEach es X.env}) (hplain:{(backTo cpos<|starEach es X.env).any (·.1)=false}) :
  PX X EX (.Call (.Attribute o name apos) (e::es) [] cpos) (wM g wo t):=by
 obtain⟨to,po,ko⟩:=ho.t;obtain⟨ta,pa,ka⟩:=ha.t;obtain⟨r,pr,kr⟩:=hm.t;refine⟨⟨_,l0 PySem.F.plainAttrs_list slot hty pr po pa hbase hfew hline hs hplain,λW0 H0 W σ H ρ E Q s eo h=>?_⟩,λE ρ P P' hp z=>ho.mono _ _ _ _ (λx ⟨h1,h2⟩=>⟨h1,ha.mono _ _ _ _ (λds hds=>hm.mono _ _ _ _ hp hds) h2⟩) z⟩;refine ko W0 H0 W σ H ρ E _ s eo<|ho.mono _ _ _ _ (λd hd v W1 H1 x1 r1=>?_) h;obtain⟨⟨xs,rfl⟩,h2⟩:=hd;cases r1 with
 | @lst a vs ds e1 rr=>
  refine⟨.inl ⟨rfl,vs,SqL.of<|x1.ok.g _ _ e1⟩,?_⟩;refine ka W0 H0 W1 σ H1 ρ E _ (s.step x1) eo<|ha.mono _ _ _ _ (λds hds us W2 H2 x2 r2=>?_) h2;exact kr W2 H2 _ us _ ds Q x2.ok (.lst (x2.g _ _ e1)<|rr.mono x2.g x2.p) r2<|hm.mono _ _ _ _ (λd hd=>RQ.ext hd<|x1.trans x2) hds
end
def z5(bs:List Bool):QG:=bs.map .bl
def CM:D->QG->(QH)->Prop:=λx ds Q=>∃bs b,x=.lst (z5 bs)/\ds=[.bl b]/\Q (.int (bs.countP (· == b):Nat))
def CN:D->QG->(QH)->Prop:=λx ds Q=>∃bs b j,x=.lst (z5 bs)/\ds=[.bl b]/\bs[j]? = some b/\(∀i<j,bs[i]?≠some b)/\Q (.int (j:Nat))
theorem CO{K:PN}{W:Wd}:∀{bs:List Bool} {vs:QJ} {its:Qu},Reps K W vs (z5 bs)->Vals vs its->its=bs.map Value.bool
 |[],_,_,.nil,.nil=>rfl|b::bs,_,_,.cons r1 r2,.cons v1 v2=>by cases r1;obtain rfl:_=Value.bool b:=v1;rw[CO r2 v2];rfl
theorem Fx(k:Bool):∀(bs:List Bool),(bs.map Value.bool).countP (isBoolOf k)=bs.countP (· == k)
 |[]=>rfl|b::bs=>by rw[cG,List.countP_cons,List.countP_cons,Fx k bs];rfl
section
theorem KR:CL X "list.count" CM:=by
 refine⟨⟨λx vs H Q=>∃W dx ds,WOk W H/\Rep X.K W x dx/\Reps X.K W vs ds/\CM dx ds (RQ X.K W H Q),?_,λW H x vs dx ds Q ok r rs hg=>⟨W,dx,ds,ok,r,rs,hg⟩⟩,λdx ds P ⟨bs,b,h,_⟩=>⟨_,h⟩,λx ds P P' hp ⟨bs,b,h1,h2,h3⟩=>⟨bs,b,h1,h2,hp _ h3⟩⟩;rintro tv s σ H x vs v us Q I rx rv ⟨W,dx,ds,ok,r,rs,bs,b,rfl,rfl,q⟩;obtain⟨y,rfl,ry⟩:=rs.one;cases ry;obtain⟨u,rfl,ru⟩:=fP rv;obtain rfl:u=Value.bool b:=ru;cases r with
 | @lst a xs ds e1 rr=>
  cases rx;obtain⟨its,rvs,pl,hz⟩:=I.list<|SqL.of (ok.g _ _ e1);have hits:=CO rr rvs;subst hits;obtain⟨⟨cls,dd,data,sl⟩,ho,hc,n,hd⟩:=pl.isList;simp only at hc hd;subst hc hd;refine call_meets PySem.F.slot_list_count ⟨_,ho,rfl⟩ PySem.F.entry_list_count (PySem.F.args_list_count_2 _ _) (SeqAt.list_countAt a _ n dd sl (.bool b)<|isBoolOf b) ⟨ho,λy hy=>?_,?_⟩
  have hy':y∈bs.map Value.bool:=by simpa using hy
  obtain⟨c,_,rfl⟩:=YbQ.mp hy';exact PySem.SeqAt.EqAt.bool_bool c b;rw[show((bs.map Value.bool).toArray.toList)=bs.map Value.bool from rfl,Fx];exact⟨.int _,H,I.tok _,⟨_,rfl⟩,q.now ok<|.int _⟩
theorem KS:CL X "list.index" CN:=by
 refine⟨⟨λx vs H Q=>∃W dx ds,WOk W H/\Rep X.K W x dx/\Reps X.K W vs ds/\CN dx ds (RQ X.K W H Q),?_,λW H x vs dx ds Q ok r rs hg=>⟨W,dx,ds,ok,r,rs,hg⟩⟩,λdx ds P ⟨bs,b,j,h,_⟩=>⟨_,h⟩,λx ds P P' hp ⟨bs,b,j,h1,h2,h3,h4,h5⟩=>⟨bs,b,j,h1,h2,h3,h4,hp _ h5⟩⟩;rintro tv s σ H x vs v us Q I rx rv ⟨W,dx,ds,ok,r,rs,bs,b,j,rfl,rfl,hj,hno,q⟩;obtain⟨y,rfl,ry⟩:=rs.one;cases ry;obtain⟨u,rfl,ru⟩:=fP rv;obtain rfl:u=Value.bool b:=ru;cases r with
 | @lst a xs ds e1 rr=>
  cases rx;obtain⟨its,rvs,pl,hz⟩:=I.list<|SqL.of (ok.g _ _ e1);have hits:=CO rr rvs;subst hits;have hlen:xs.length=bs.length:=by rw[rr.length];unfold z5;rw[bQ]
  obtain⟨⟨cls,dd,data,sl⟩,ho,hc,n,hd⟩:=pl.isList;simp only at hc hd;subst hc hd;have hjl:j<bs.length:=(Yaq.mp hj).1;have hsz:((bs.map Value.bool).toArray).size=bs.length:=KE
  refine call_meets PySem.F.slot_list_index ⟨_,ho,rfl⟩ PySem.F.entry_list_index (PySem.F.args_list_index_2 _ _) (SeqAt.list_indexAt a _ n dd sl (.bool b) (isBoolOf b) j (by rw[hsz];exact hjl) ?_ ?_ ?_) ⟨ho,λy hy=>?_,?_⟩;rw[sizeLine_eq]at hz;have:bs.length<=2^62:=by first|(have:=hz;simp at this;omega)|omega
  have:=hjl;omega;have:=(Yaq.mp hj).2;simp only[List.getElem_toArray,Bx,isBoolOf];rw[this];simp;intro m hm hlt;have hm':m<bs.length:=by rw[hsz]at hm;exact hm
  have:=hno m hlt;rw[bZ hm']at this;simp only[List.getElem_toArray,Bx,isBoolOf];exact Bool.eq_false_iff.mpr λz=>this (by rw[beq_iff_eq.mp z]);have hy':y∈bs.map Value.bool:=by simpa using hy
  obtain⟨c,_,rfl⟩:=YbQ.mp hy';exact PySem.SeqAt.EqAt.bool_bool c b;exact⟨.int _,H,I.tok _,⟨_,rfl⟩,q.now ok<|.int _⟩
end
section
def ZcL:G2:=λx y Q=>match x,y with|.tup xs,.int k=>k<1000/\-1000<k/\xs.length*k.toNat<=aR/\Q (.tup (List.replicate k.toNat xs).flatten)|_,_=>False
theorem ZcL.mono:∀x y P P',(∀d,P d->P' d)->ZcL x y P->ZcL x y P':=λx y P P' hp hg=>by unfold ZcL at hg ⊢;split at hg;exact⟨hg.1,hg.2.1,hg.2.2.1,hp _ hg.2.2.2⟩;exact hg.elim
theorem uJ:ic X (binaryOp .Mult) ZcL:=by
 refine⟨⟨_,JM,λW H x y dx dy Q ok rx ry hg=>?_⟩,ZcL.mono⟩;unfold ZcL at hg;split at hg;obtain⟨p,vs,rfl,h1,r1⟩:=rx.sqt ok;cases ry;rename_i xs k;refine⟨p,k,vs,rfl,rfl,h1,E1,E1,by rw[r1.length];exact nh hg.2.2.1,λe=>?_,λa ha=>hg.2.2.2.tup ok (Fa r1 _) ha⟩;have e':(List.replicate k.toNat xs).flatten=xs:=by
  rcases e with e|e
  subst e;cases r1;simp;subst e;simp
 have q:=hg.2.2.2;rw[e']at q;exact q.now ok rx;exact hg.elim
end
section
def its(js:Qv):QG:=js.map .int
def gIn(neg:Bool):G2:=λx y Q=>∃i js,x=.int i/\(y=.lst (its js)\/y=.tup (its js))/\Q (.bl (if neg then !js.contains i else js.contains i))
theorem gIn.mono{neg:Bool}:∀x y P P',(∀d,P d->P' d)->gIn neg x y P->gIn neg x y P':=λx y P P' hp ⟨i,js,h1,h2,h3⟩=>⟨i,js,h1,h2,hp _ h3⟩
theorem CP{K:PN}{W:Wd}:∀{js:Qv} {vs:QJ},Reps K W vs (its js)->vs=js.map V.int
 |[],_,.nil=>rfl|j::js,_,.cons r t=>by cases r;rw[CP t];rfl
theorem CQ(i:Int):∀js:Qv,zk (.int i) (js.map V.int)=js.contains i
 |[]=>rfl|j::js=>by have ih:=CQ i js;unfold zk at ih ⊢;rw[cG,yL,ih,yQ];congr 1;show(j==i)=(i==j);rw[iD,Qa,Qa];exact⟨Eq.symm,Eq.symm⟩
theorem CU:∀js:Qv,(js.map V.int).all gp=true
 |[]=>rfl|j::js=>by rw[cG,u3,CU js];rfl
theorem xu{neg:Bool}{W:Wd}{x y:V}{dx dy:D}{Q:VK}(ok:WOk W H)(rx:Rep X.K W x dx)(ry:Rep X.K W y dy)(hg:gIn neg dx dy (RQ X.K W H Q)):EQ X.K neg x y H Q:=by
 obtain⟨i,js,rfl,h,q⟩:=hg;cases rx;rcases h with rfl|rfl
 obtain⟨p,vs,rfl,h1,r1⟩:=ry.sql ok;obtain rfl:=CP r1;exact⟨p,_,rfl,.inl h1,rfl,CU js,by rw[CQ];exact q.now ok<|.bl _⟩;obtain⟨p,vs,rfl,h1,r1⟩:=ry.sqt ok;obtain rfl:=CP r1;exact⟨p,_,rfl,.inr h1,rfl,CU js,by rw[CQ];exact q.now ok<|.bl _⟩
theorem Fy:ic X (compareOp .NotIn) (gIn true):=⟨⟨_,j0,λW H x y dx dy Q ok rx ry hg=>xu ok rx ry hg⟩,gIn.mono⟩
end
abbrev ZjU:Qx:=["thing"]
def Fz:WS:=(aH<|ft (wB gIs<|aC (wN 0)<|aC (wC<|.ty "int") aA)<|kS<|wB gIs<|aC (wN 0)<|aC (wC<|.ty "bool") aA)
abbrev ZiX:Qx:=["thing", "least", "most"]
def FA:WS:=(aH<|ft (wF xh<|aC (wN 0) aA)<|ZbG lG lG (wN 1) (wN 0)<|wN 2)
abbrev Zhv:Qx:=["thing", "least", "most"]
def FC:WS:=(aH<|ft (wB gIs<|aC (wN 0)<|aC (wC<|.ty "tuple") aA)<|wB ij<|aC (wL<|aLC (iS<|wN 0) 1 [1,2] (gN 0) cC<|wF zR<|aC (wN 0)<|aC (wN 1)<|aC (wN 2) aA) aA)
abbrev Ze8:Qx:=["one", "other"]
def FD:WS:=(aG (bF<|w8 (wT<|w2 (gEq true) (wN 1)<|wC<|.int<|0)<|dX 0 1<|aC (wN 1)<|aC (w2 re (wN 0)<|wN 1) aA)<|aH<|wB j7<|aC (wN 0) aA)
abbrev ZjV:Qx:=["thing", "top", "bottom"]
def FE:WS:=(aG (cE (eU (bM<|wT<|wB gIs<|aC (wN 0)<|aC (wC<|.ty "tuple") aA)<|wT<|w2 (gEq true) (wB bV<|aC (wN 0) aA)<|wC<|.int<|2) (aH<|wC<|D.bl false) cF)<|aG (eW (wN 0)<|dB 2<|bN (gN 1)<|bN (gN 2) cS)<|aG (cE (eU (bM<|wT<|wF xh<|aC (wN 1) aA)<|bM<|wT<|wF xh<|aC (wN 2) aA) (aH<|wC<|D.bl false) cF)<|aH<|ft (w2 mM (wN 2)<|wC<|.int<|0)<|w2 (gEq false) (wF zT<|aC (wN 1)<|aC (wN 2) aA)<|wC<|.int<|1)
abbrev ZfB:Qx:=["thing", "least", "most"]
def FF:WS:=(aG (cE (eU (bM<|wT<|wB gIs<|aC (wN 0)<|aC (wC<|.ty "tuple") aA)<|bM<|wT<|ZbG lG lG (wN 1) (wB bV<|aC (wN 0) aA)<|wN 2) (aH<|wC<|D.bl false) cF)<|aH<|wB ij<|aC (wL<|aLC (iS<|wN 0) 1 [] (gN 0) cC<|wF xj<|aC (wN 0) aA) aA)
abbrev Znv:Qx:=["thing", "many"]
def FG:WS:=(aH<|wF zU<|aC (wN 0)<|aC (wN 1)<|aC (wN 1) aA)
abbrev ZjQ:Qx:=["top", "bottom", "divisor"]
def FH:WS:=(aG (kW<|wT<|w2 (gEq true) (wN 1)<|wC<|.int<|0)<|aG (aT 2<|wF zT<|aC (wN 0)<|aC (wN 1) aA)<|aG (cE (wT<|w2 j9 (wN 1)<|wC<|.int<|0) (aT 2<|w1 jg<|wN 2) cF)<|aH<|aY<|aC (w2 iU (wN 0)<|wN 2)<|aC (w2 iU (wN 1)<|wN 2) aA)
abbrev Zqg:Qx:=["one", "other"]
def FI:WS:=(aH<|wF uD<|aC (w2 gAdd (w2 gMul (w2 gIx (wN 0)<|wC<|.int<|0)<|w2 gIx (wN 1)<|wC<|.int<|1)<|w2 gMul (w2 gIx (wN 1)<|wC<|.int<|0)<|w2 gIx (wN 0)<|wC<|.int<|1)<|aC (w2 gMul (w2 gIx (wN 0)<|wC<|.int<|1)<|w2 gIx (wN 1)<|wC<|.int<|1) aA)
abbrev Zo3:Qx:=["one", "other"]
def FJ:WS:=(aH<|wF uD<|aC (w2 gMul (w2 gIx (wN 0)<|wC<|.int<|0)<|w2 gIx (wN 1)<|wC<|.int<|0)<|aC (w2 gMul (w2 gIx (wN 0)<|wC<|.int<|1)<|w2 gIx (wN 1)<|wC<|.int<|1) aA)
abbrev Zns:Qx:=["numbers"]
def FK:WS:=(aH<|wB je<|aC (wL<|aLC (iS<|wN 0) 1 [] (gN 0) cC<|aY<|aC (wN 0)<|aC (wC<|.int<|1) aA) aA)
abbrev Zes:Qx:=["one", "other", "total", "left", "right"]
def FL:WS:=(aG (aT 2<|wC<|D.tup [(D.int<|0),(D.int<|1)])<|aG (bF<|bH (iZ<|aC (wN 0)<|aC (wN 1) aA) (dB 2<|bN (gN 3)<|bN (gN 4) cS)<|aT 2<|wF zV<|aC (wN 2)<|aC (wF rg<|aC (wN 3)<|aC (wN 4) aA) aA)<|aH<|wN 2)
abbrev ZlM:Qx:=["slants"]
def FM:WS:=(aH<|w2 iU (w2 gAdd (wB bV<|aC (wN 0) aA)<|wC<|.int<|1)<|wC<|.int<|2)
abbrev ZgH:Qx:=["thing"]
def FN:WS:=(aG (cE (eU (bM<|wT<|wF zS<|aC (wN 0)<|aC (wC<|.int (-50))<|aC (wC<|.int<|50) aA)<|wT<|w2 (gEq false) (w2 re (wB bV<|aC (wN 0) aA)<|wC<|.int<|2)<|wC<|.int<|0) (aH<|wC<|D.bl false) cF)<|aH<|w2 lG (wF jJ<|aC (wN 0) aA)<|wC<|.int<|5)
abbrev ZgK:Qx:=["thing"]
def FO:WS:=(cE (bM<|wT<|wF zW<|aC (wN 0) aA) (iV<|PySem.Str.ofString "NoSlants") cF)
abbrev ZjN:Qx:=["slants", "size"]
def FP:WS:=(aG (fV<|wF nq<|aC (wN 0) aA)<|aG (aT 1<|wF jJ<|aC (wN 0) aA)<|aH<|wL<|aLC (fb<|aC (wN 1) aA) 1 [0,1] (gN 0) cC<|wL<|aB (ig (α:=Unit))<|aC (bX (wN 1) (eC<|w2 fS (w2 fS (wN 2)<|wC<|.int<|1)<|wN 0)<|eC<|w2 fS (w2 fS (w2 gMul (wC<|.int<|2)<|wN 2)<|wC<|.int<|1)<|wN 0) aA)
abbrev Zfz:Qx:=["slants"]
def FQ:WS:=(aG (fV<|wF nq<|aC (wN 0) aA)<|aH<|w1 gRev<|wN 0)
abbrev ZjS:Qx:=["slants", "thing"]
def FR:WS:=(aG (fV<|wF nq<|aC (wN 0) aA)<|aH<|wF xk<|aC (wN 1)<|aC (wF jJ<|aC (wN 0) aA) aA)
abbrev Zd1:Qx:=["slants"]
def z6:WS:=(aH<|wL<|aLC (iS<|wF uF<|aC (wN 0) aA) 1 [] (gN 0) cC<|wF xm<|aC (wN 0) aA)
abbrev ZiU:Qx:=["slants", "row"]
def FS:WS:=(aG (cE (bM<|wT<|wF rh<|aC (wN 0)<|aC (wN 1) aA) (iV<|PySem.Str.ofString "NoRow") cF)<|aH<|wB je<|aC (wL<|aLC (iS<|wF sT<|aC (wN 0) aA) 1 [1] (gN 0) cC<|wF xn<|aC (wN 0)<|aC (wN 1) aA) aA)
local macro_rules | `(tactic| walk_at "w")=>`(tactic| simp only[aH,cE,aT,cF,fV,bK,bY,bH,kW,dX,eW,dL,iA,fA,l6,bF,iV,ft,gw,kS,gv,eU,bM,wT,l4,w1,w2,wB,wF,wL,aY,bX,ZbG,aB,bP,aC,aA,aLC,Zb5,cC,iS,iL,iT,fb,kn,iZ,i1,i2,isS,isL,zK,isB,isI,eV,eC,wN,wC,gN,dB,bN,cS,gI2,gAdd,gMul,gIx,eM,gCut,gRev,bV,ig,je,j7,lF,iP,l5,fN,eY,fw,eD,d9,fM,gA,gB,fL,pub,cG,f6,d8,iF,jC,dR,List.replicate,eH,fe,gF,gG,Nat.reduceSub,Nat.reduceAdd,iY,lT,true_and,eG,if_true,if_false,ite_true,ite_false])
local macro_rules | `(tactic| walk_at "g")=>`(tactic| ((try dsimp only at *);repeat (first|walk_at "w"|simp only[aG]);(try dsimp only)))
theorem qb{x:D}{T:String}(h:kd x=true)(hT:T∈zJ)(q:∀t,zI x=some t->Q (.bl<|ii t T)):gIs [x,.ty T] Q:=by obtain⟨t,ht⟩:=xf h;exact⟨t,ht,hT,q t ht⟩
theorem KU:Rd xh Fz ZjU:=by
 rintro _ E Q ⟨x,rfl,hk,q⟩;unfold Fz;((try simp only[aG]);(try walk_at "w"));refine qb hk E8 λt ht=>?_;cases x<;>cases ht<;>first
  |exact q
  |exact qb hk E8 λt ht=>by cases ht;exact q
theorem KW:Rd zR FA ZiX:=by
 rintro _ E Q ⟨⟨x,l,m⟩,rfl,hk,q⟩;unfold FA;walk_at "g";refine⟨x,rfl,hk,?_⟩;cases x<;>try exact q
 rename_i i;simp only[uC,isB,if_true,gI2,true_and];by_cases h:l<=i;simp only[h,decide_true,if_true];simpa[qq,h] using q;simp only[h,decide_false,if_false,eG];simpa[qq,h] using q
theorem KY:Rd zS FC Zhv:=by
 rintro _ E Q ⟨⟨x,l,m⟩,rfl,hk,q⟩;unfold FC;walk_at "g";refine qb hk E8 λt ht=>?_;cases x<;>cases ht<;>try exact q
 rename_i xs;obtain⟨hl,hx⟩:=qa hk;show lcW _ _ _ xs _ _ _;refine vc (f:=λd=>.bl<|qq l m d) (λd hd Q hq=>?_) .un [] (by simp[aR];omega) ?_;walk_at "g";exact⟨(d,l,m),rfl,hx d hd,hq⟩;refine⟨xs.map<|qq l m,KE,?_⟩;simpa[yW,Function.comp_def,mO] using q
theorem FT(a b:Int):Int.gcd b (a.fmod b)=Int.gcd a b:=by
 have e:a.fmod b=a-b*a.fdiv b:=by have:=Int.mul_fdiv_add_fmod a b;omega
 rw[e,Int.gcd_sub_mul_left_right,Int.gcd_comm]
theorem FU(a:Int){b:Int}(h:b≠0):(a.fmod b).natAbs<b.natAbs:=by
 have key:∀a b:Int,0<b->0<=a.fmod b/\a.fmod b<b:=λa b z=>by rw[EI _<|Int.le_of_lt z];exact⟨Int.emod_nonneg _<|E1,Int.emod_lt_of_pos _ z⟩
 rcases Int.lt_or_lt_of_ne h with z|z
 have h1:=key (-a) (-b) E1;rw[Int.neg_fmod_neg]at h1;omega;have h1:=key a b z;omega
theorem KZ:Rd zT FD Ze8:=by
 rintro _ E Q ⟨⟨a,b⟩,rfl,_,q⟩;unfold FD;walk_at "g";refine⟨λm ρ=>∃x y:Int,m=y.natAbs/\ρ=[.d<|.int x,.d<|.int y]/\Int.gcd x y=Int.gcd a b,⟨_,a,b,rfl,rfl,rfl⟩,?_⟩;rintro m _ ⟨x,y,rfl,rfl,hg⟩;walk_at "g";by_cases hy:y=0;subst hy;simp only[Qd,gg,eG,if_false];rw[Int.gcd_zero_right]at hg;rw[<-hg]at q;have:(if x<0 then -x else x)=((x.natAbs:Nat):Int):=by split<;>omega
 rw[this];exact q;rw[oI<|by simpa using hy];exact⟨hy,_,FU x hy,_,_,rfl,rfl,by rw[FT];exact hg⟩
theorem K0(h:xs.length≠2):ee (.tup xs)=false:=by unfold ee;split;rename_i e;cases e;exact PQ rfl h;rfl
theorem K1{a b:D}(h:uC a=false):ee (.tup [a,b])=false:=by unfold ee;split;rename_i e;cases e;cases h;rfl
theorem K2{a b:D}(h:uC b=false):ee (.tup [a,b])=false:=by unfold ee;split;rename_i e;cases e;cases h;rfl
theorem FV{a:D}(h:uC a=true):∃i,a=.int i:=by
 cases a<;>first
  |exact⟨_,rfl⟩
  |cases h
theorem K3:Rd xj FE ZjV:=by
 rintro _ E Q ⟨x,rfl,hk,q⟩;unfold FE;walk_at "g";refine qb hk E8 λt ht=>?_;cases x<;>cases ht<;>try exact q
 rename_i xs;obtain⟨hl,hx⟩:=qa hk;walk_at "g";simp only[show ii "tuple" "tuple" = true from rfl,gg,eG,if_false]
 by_cases h2:xs.length=2
 .match xs,h2,hx,q with
  |[a,b],_,hx,q=>
  rw[jx<|KE];walk_at "g";refine⟨a,rfl,hx a<|KE,?_⟩;walk_at "g";cases ha:uC a with
  |false=>rw[K1 ha]at q;exact q
  |true=>
   obtain⟨i,rfl⟩:=FV ha;simp only[gg,eG,if_false];refine⟨b,rfl,hx b<|KE,?_⟩;walk_at "g";cases hb:uC b with
   |false=>rw[K2 hb]at q;exact q
   |true=>
    obtain⟨j,rfl⟩:=FV hb;simp only[gg,eG,if_false];walk_at "g"
    by_cases h:0<j
    .simp only[show j>0 from h,decide_true,if_true]
     refine⟨(i,j),rfl,trivial,?_⟩;walk_at "g";have:ee (.tup [.int i,.int j])=(((Int.gcd i j:Nat):Int)==1):=by
      simp only[ee,h,decide_true,i4];rw[iD];simp;omega
     rw[this]at q;simpa using q
    .have h':¬j>0:=h
     simp only[h',decide_false,if_false,eG];simpa[ee,h] using q
 .rw[K0 h2]at q
  rw[oI<|by simpa using λz=>h2<|by exact_mod_cast z];exact q
theorem K6:Rd zU FF ZfB:=by
 rintro _ E Q ⟨⟨x,l,m⟩,rfl,hk,q⟩;unfold FF;walk_at "g";refine qb hk E8 λt ht=>?_;cases x<;>cases ht<;>try exact q
 rename_i xs;obtain⟨hl,hx⟩:=qa hk;walk_at "g";simp only[show ii "tuple" "tuple" = true from rfl,gg,eG,if_false];simp only[xg]at q;cases h1:decide (l<=(xs.length:Int)) with
 |false=>rw[h1]at q;simpa using q
 |true=>
  cases h2:decide ((xs.length:Int)<=m) with
  |false=>rw[h1,h2]at q;simpa using q
  |true=>
   simp only[if_true,gg,eG,if_false];walk_at "g";refine vc (f:=λd=>.bl<|ee d) (λd hd Q hq=>?_) .un [] (by simp[aR];omega) ?_
   .walk_at "g"
    exact⟨d,rfl,hx d hd,hq⟩
   .refine⟨xs.map ee,KE,?_⟩
    rw[h1,h2]at q;simpa[yW,Function.comp_def] using q
theorem K7(n:Int)(x:D):xg n n x=gZ n x:=by
 cases x<;>try rfl
 rename_i xs;simp only[xg,gZ];congr 1;rw[iD];simp;omega
theorem La:Rd xk FG Znv:=by rintro _ E Q ⟨⟨x,n⟩,rfl,hk,q⟩;unfold FG;walk_at "g";refine KH hk ?_;rw[K7];exact q
theorem Bd.le{i j:Int}(h:i.natAbs<=j.natAbs)(b:Bd j):Bd i:=tM h b
theorem Zm:Rd uD FH ZjQ:=by
 rintro _ E Q ⟨⟨t,b⟩,rfl,⟨hb,hd⟩,q⟩;unfold FH;walk_at "g";refine⟨by simpa using hb,(t,b),rfl,trivial,?_⟩;walk_at "g";have hg:0<Int.gcd t b:=Bw _ hb;have hle:Int.gcd t b<=b.natAbs:=Nat.le_of_dvd E1<|Int.gcd_dvd_natAbs_right ..;obtain⟨e1,e2⟩:=Fq (t:=t) hb;unfold aS at q;rw[<-e1,<-e2]at q
 by_cases h:b<0;simp only[h,decide_true,if_true]at q ⊢;refine⟨⟨E1,Bd.le E1 hd⟩,⟨E1,Bd.le E1 hd⟩,by simp[aR],q⟩;simp only[h,decide_false,if_false,eG]at q ⊢;refine⟨⟨E1,Bd.le E1 hd⟩,⟨E1,Bd.le E1 hd⟩,by simp[aR],q⟩
theorem sW(h:Q (.int q.num)):gIx (aS q) (.int 0) Q:=⟨_,rfl,h⟩
theorem ik(h:Q (.int q.den)):gIx (aS q) (.int 1) Q:=⟨_,rfl,h⟩
theorem Lc:Rd zV FI Zqg:=by
 rintro _ E Q ⟨⟨p,q⟩,rfl,hb,h⟩;obtain⟨b1,b2,b3,b4,b5,b6,b7,b8⟩:=hb.mul;unfold FI;simp only[aH,wF,aC,w2,wN,wC,fL,cG,jC,eH,fe];refine sW<|ik ⟨b1,sW<|ik ⟨b2,ik<|ik ⟨b3,?_⟩⟩⟩;refine⟨(_,_),rfl,⟨b6,b5⟩,?_⟩;dsimp only at h ⊢;have e:Rat.divInt (p.num*q.den+q.num*p.den) ((p.den:Int)*q.den)=p+q:=by rw[Rat.add_def',<-By];rfl
 rw[e];exact h
theorem FW:Rd rg FJ Zo3:=by
 rintro _ E Q ⟨⟨p,q⟩,rfl,hb,h⟩;obtain⟨b1,b2,b3,b4,b5,b6,b7,b8⟩:=hb.mul;unfold FJ;simp only[aH,wF,aC,w2,wN,wC,fL,cG,jC,eH,fe];refine sW<|sW ⟨b4,ik<|ik ⟨b3,?_⟩⟩;refine⟨(_,_),rfl,⟨b6,b5⟩,?_⟩;dsimp only at h ⊢;have e:Rat.divInt (p.num*q.num) ((p.den:Int)*q.den)=p*q:=by rw[Rat.mul_def',<-By];rfl
 rw[e];exact h
theorem Le{b:Bool}{Q:QG->Prop}(h:Q xs):isS Q (mQ b xs):=by cases b<;>exact h
theorem CV(i:Int):aS (i:Rat)=.tup [.int i,.int 1]:=by unfold aS;rw[Br,Bu];rfl
theorem Lg:Rd xm FK Zns:=by
 rintro _ E Q ⟨⟨b,xs⟩,rfl,hl,q⟩;dsimp only at hl q;unfold FK;simp only[aH,wB,aC,aA,wL,aLC,iS,wN,fL,Zb5,List.replicate,cG,f6,jC,dR,eH];refine Le<|vc (f:=λd=>.tup [d,.int 1]) (λd hd Q hq=>?_) .un [] (by simp[aR];omega) ?_
 walk_at "g";exact⟨by simp[aR],hq⟩;have e:(xs.map D.int).map (λd=>D.tup [d,.int 1])=(xs.map λ(i:Int)=>(i:Rat)).map aS:=by rw[List.map_map,List.map_map];exact ir λi _=>(CV i).symm
 rw[dR,e];exact q
theorem Zq{n m:Nat}:∀(p q:Qw) {k:Nat},(∀x∈p,Sz n x)->(∀x∈q,Sz m x)->p.length<=k->Sz (k*(n+m+1)+1) (cD p q)
 |[],_,k,_,_,_=>by rw[cD];exact Sz.zero E1|_::_,[],k,_,_,_=>by rw[cD];exact Sz.zero E1|x::p,y::q,0,_,_,h=>by simp at h|x::p,y::q,k+1,h1,h2,hk=>by rw[cD];have a:=(h1 x<|KE).mul<|h2 y KE;have b:=Zq p q (k:=k) (λz hz=>h1 z<|by simp[hz]) (λz hz=>h2 z<|by simp[hz]) (by simpa using hk);refine(a.add b).mono ?_;rw[qe];omega
theorem Lh:Rd xn FL Zes:=by
 rintro _ E Q ⟨⟨⟨b1,b2⟩,p,q⟩,rfl,⟨n,m,hp,hq,hb⟩,h⟩;dsimp only at hp hq hb h;unfold FL;simp only[aG,aT,wC,fL,cG,f6,d8,iF,jC,dR,List.replicate,gG,gF,bF,bH,iZ,aC,aA,wN,eH,fe,Nat.reduceSub,Nat.reduceAdd];have key:∀(p' q':Qw) (s:Rat) (sv sv':SV) (j:Nat),(∀x∈p',Sz n x)->(∀x∈q',Sz m x)->Sz (j*(n+m+1)+1) s->j+p'.length<=p.length->s+cD p' q'=cD p q->
   Zbf (dB 2<|bN (gN 3)<|bN (gN 4) cS) (aT 2<|wF zV<|aC (wN 2)<|aC (wF rg<|aC (wN 3)<|aC (wN 4) aA) aA) No { nx:=aH (wN 2) E { nx:=λ_=>Q .non,rt:=Q },rt:=Q,bk:=λ_=>False,ct:=λ_=>False }
    (cK (p'.map aS)<|q'.map aS) [.d<|mQ b1<|p.map aS,.d<|mQ b2<|q.map aS,.d<|aS s,sv,sv']:=by
  intro p'
  induction p' with
  |nil=>
   intro q' s sv sv' j _ _ _ _ he;rw[cD,pz]at he;simp only[cK,f6,List.zipWith_nil_left,Zbf];show Q (aS s);rw[he];exact h
  |cons x p' ih=>
   intro q' s sv sv' j h1 h2 h3 h4 he;cases q' with
   |nil=>
    rw[cD,pz]at he;simp only[cK,f6,List.zipWith_nil_right,Zbf];show Q (aS s);rw[he];exact h
   |cons y q'=>
    have hx:=h1 x KE;have hy:=h2 y KE;rw[d8]at h4;have hj:j*(n+m+1)<=p.length*(n+m+1):=mh _ E1;have hj':(j+1)*(n+m+1)<=p.length*(n+m+1):=mh _ E1;rw[qe]at hj';simp only[cK,cG,Bz,Zbf];refine⟨rfl,?_⟩;simp only[bN,cS,gN,aT,wF,aC,aA,wN,eH,fe,gG,gF];refine⟨(x,y),rfl,B2.of hx hy<|E1,?_⟩;refine⟨(s,x*y),rfl,B2.of h3 (hx.mul hy)<|E1,?_⟩;refine ih q' (s+x*y) _ _ (j+1) (λz hz=>h1 z<|by simp[hz]) (λz hz=>h2 z<|by simp[hz]) ?_ E1 ?_
    .refine(h3.add<|hx.mul hy).mono ?_
     rw[qe];omega
    .rw[cD]at he
     rw[Rat.add_assoc];exact he
 have e0:D.tup [D.int 0,D.int 1]=aS 0:=rfl;rw[e0];have k:=key p q 0 .un .un 0 hp hq (Sz.zero<|E1) E1<|Rat.zero_add _;cases b1<;>cases b2<;>exact k
theorem jj{α:Type}{we:WE}{tail:cR}{Q:QG->Prop}{g f:α->D}:∀(L:List α),(∀a∈L,∀Q:D->Prop,Q (f a)->we No (.d (g a)::tail) Q)->∀(sv:SV) (acc:QG),acc.length+L.length<=aR->Q (acc++L.map f)->lcW (gN 0) cC we (L.map g) (sv::tail) acc Q
 |[],_,sv,acc,_,hq=>by simpa[lcW] using hq|a::L,h,sv,acc,hl,hq=>by rw[cG,lcW];show we No (SV.d (g a)::tail) _;rw[d8]at hl;refine h a (md ..) _ ⟨E1,jj L (λd hd=>h d<|kj _ hd) _ _ ?_ ?_⟩;rw[fZ,me];omega;rw[kP];exact hq
theorem fc{α:Type}{x:α}{xs:List α}:eR (x::xs) 0=some x:=aK (j:=0) rfl
theorem CW{α:Type}{xs:List α}{i:Int}{x:α}(hi:i=k)(h:xs[k]? = some x):eR xs i=some x:=by rw[hi];exact aK h
theorem Li{α:Type}{xs:List α}{a:Nat}(h:a<=b)(hb:b<=xs.length):bW xs (some (a:Int)) (some (b:Int))=(xs.drop a).take (b-a):=by unfold bW;rw[HT.sIx_nat,HT.sIx_nat,yX hb,yX<|jw h hb]
theorem xv{α:Type}{xs:List α}{i j:Int}{a:Nat}(hi:i=a)(hj:j=b)(h:a<=b)(hb:b<=xs.length):bW xs (some i) (some j)=(xs.drop a).take (b-a):=by rw[hi,hj];exact Li h hb
theorem rn{α:Type}{xs:List α}{a:Nat}(h:a<=xs.length):bW xs (some (a:Int)) none=xs.drop a:=by unfold bW;rw[HT.sIx_nat,HT.sIx_none,yX h,<-m8,List.take_length]
theorem xy{α:Type}{xs:List α}{i:Int}(hi:i=b):bW xs none (some i)=xs.take b:=by
 unfold bW;rw[hi,HT.sIx_nat,HT.sIx_none,tI,Nat.sub_zero];rcases Nat.le_total b xs.length with h|h
 rw[yX h];rw[Nat.min_eq_right h,List.take_length,List.take_of_length_le h]
theorem jK{i:Int}(h:i.natAbs<2^n)(l:n<=8990):Bd i:=dN h<|rW E8 l
theorem Lj:Rd jJ FM ZlM:=by rintro _ E Q ⟨x,rfl,hl,q⟩;unfold FM;walk_at "g";refine⟨⟨E8,jK (n:=2) E8<|E1⟩,?_⟩;rw[EJ _<|E8];exact q
theorem Lk:Rd zW FN ZgH:=by
 rintro _ E Q ⟨x,rfl,hk,q⟩;unfold FN;walk_at "g";refine KD hk ?_;walk_at "g";cases ha:mO (-50) 50 x with
 |false=>
  have:dM x=false:=by
   cases x<;>try rfl
   simp only[mO]at ha;simp only[dM,ha,u0]
  rw[this]at q;simpa using q
 |true=>
  cases x<;>try (cases ha;done)
  rename_i xs;obtain⟨hl,hx⟩:=qa hk;walk_at "g";simp only[gg,eG,if_false];refine⟨E8,?_⟩;simp only[mO]at ha;simp only[dM,ha,i4]at q;rw[EI _<|E8];by_cases h:xs.length%2=1;rw[jx (by simp;omega)];walk_at "g";refine CB hl ?_;walk_at "g";rw[PR h,i4]at q;have e:decide (((xs.length:Int)+1)/2<=5)=decide (xs.length<=9):=by rw[Qp];omega
  rw[e];exact q;rw[oI (by simp;omega)];rw[PU h,u0]at q;exact q
theorem Lm:Rd nq FO ZgK:=by
 rintro _ E Q ⟨x,rfl,h,q⟩;unfold FO;walk_at "g";refine KI h ?_;walk_at "g";unfold g6 at q;cases e:dM x with
 |false=>rw[e]at q;exact q|true=>rw[e]at q;exact q
theorem CY{x:D}{E:QF}(h:kd x=true)(hb:dM x=false->E "NoSlants")(hg:∀s n,x=aL s->IsSl s n->Q .non):nq [x] E Q:=by
 cases e:dM x with
 |false=>exact xp h e<|hb e
 |true=>obtain⟨s,n,rfl,hs⟩:=l8 e;exact CG hs<|hg s n rfl hs
theorem kX{x:D}{v:Except Str D}{E:QF}(e:dM x=false)(q:exQ E Q (g6 x v)):E "NoSlants" :=by rw[i7 e]at q;exact q
theorem kY{v:Except Str D}{E:QF}(h:IsSl s n)(q:exQ E Q (g6 (aL s) v)):exQ E Q v:=by rw[iB h]at q;exact q
theorem Ln:Rd uF FP ZjN:=by
 rintro _ E Q ⟨x,rfl,hk,q⟩;unfold FP;walk_at "g";refine CY hk (λe=>kX e q) λs n e h=>?_;subst e;replace q:Q (bD s n):=by have:=kY h q;rw[fH,h.sN]at this;exact this
 refine nu h ?_;walk_at "g";have h5:=h.n5;have hl:=h.len;refine⟨E1,E1,?_⟩;rw[jA];refine vc (f:=λd=>match d with|.int i=>f8 ((s.drop<|n-1-i.toNat).take n)|_=>.non) (λd hd Q hq=>?_) .un [] (by simp[rng,aR];omega) ?_;obtain⟨i,hi,rfl⟩:=YbQ.mp hd;rw[Yah]at hi;walk_at "g";refine⟨⟨jK (n:=2) E8<|E1,jK (n:=10) E1<|E1⟩,?_⟩;have e:bW (s.map D.int) (some<|(n:Int)-1-(0+(i:Int))) (some<|2*(n:Int)-1-(0+(i:Int)))=((s.drop<|n-1-i).take n).map D.int:=by rw[xv (a:=n-1-i) (b:=2*n-1-i) E1 E1 E1 (by rw[bQ];omega),show 2*n-1-i-(n-1-i)=n by omega,<-Ycf,<-qx]
 show Q (D.lst<|bW (s.map D.int) _ _);rw[e];have e2:(0+(i:Int)).toNat=i:=E1
 rw[e2]at hq;exact hq;have e:(rng 0 n).map (λd=>match d with|.int i=>f8 ((s.drop<|n-1-i.toNat).take n)|_=>.non)=(tbl s n).map f8:=by unfold rng tbl;rw[List.map_map,List.map_map];refine ir λi _=>?_;simp
 rw[dR,e];exact q
theorem kN(s:Qv)(n:Nat):(tbl s n).length=n:=by simp[tbl]
theorem nw(h:IsSl s n):∀r∈tbl s n,r.length=n/\∀x∈r,-50<=x/\x<=50:=by intro r hr;unfold tbl at hr;obtain⟨i,hi,rfl⟩:=YbQ.mp hr;rw[Yah]at hi;have hl:=h.len;refine⟨by rw[m6,m8];omega,λx hx=>h.b x<|pA<|vN hx⟩
theorem Lo:Rd zX FQ Zfz:=by
 rintro _ E Q ⟨x,rfl,hk,q⟩;unfold FQ;walk_at "g";refine CY hk (λe=>kX e q) λs n e h=>?_;subst e;replace q:Q (aL s.reverse):=by have:=kY h q;rw[fH]at this;exact this
 unfold aL;walk_at "g";rw[<-tN];exact q
theorem Lp:Rd rh FR ZjS:=by rintro _ E Q ⟨⟨x,y⟩,rfl,⟨hk,hk2⟩,q⟩;dsimp only at hk hk2 q;unfold FR;walk_at "g";refine CY hk (λe=>kX e q) λs n e h=>?_;subst e;replace q:=kY h q;rw[h.sN]at q;exact nu h<|Fr hk2 q
theorem Lq:Rd sT z6 Zd1:=by
 rintro _ E Q ⟨⟨s,n⟩,rfl,h,q⟩;have h5:=h.n5;unfold z6;walk_at "g";refine KM h ?_;unfold bD;walk_at "g";refine vc (f:=λd=>match d with|.lst xs=>.tup (xs.map λx=>.tup [x,.int 1])|_=>.non) (λd hd Q hq=>?_) .un [] (by simp[kN,aR];omega) ?_;obtain⟨r,hr,rfl⟩:=YbQ.mp hd;walk_at "g";have:=(nw h r hr).1;refine Ft E1 ?_;have e:aE (cP r)=.tup ((r.map D.int).map λx=>.tup [x,.int 1]):=by unfold aE cP;rw[List.map_map,List.map_map];exact congrArg D.tup<|ir λi _=>CV i
 rw[e];exact hq;have e:((tbl s n).map f8).map (λd=>match d with|.lst xs=>.tup (xs.map λx=>.tup [x,.int 1])|_=>.non)=(tbl s n).map λr=>aE (cP r):=by rw[List.map_map];refine ir λr _=>?_;unfold aE cP;simp only[Function.comp_apply,f8];rw[List.map_map,List.map_map];exact congrArg D.tup<|ir λi _=>(CV i).symm
 rw[dR,e];exact q
theorem CZ{x:Int}(h:-50<=x/\x<=50):Sz 6 (x:Rat):=Sz.int x E1 E1
theorem Lr:Rd uH FS ZiU:=by
 rintro _ E Q ⟨⟨x,y⟩,rfl,⟨hk,hk2,hbs⟩,q⟩;dsimp only at hk hk2 hbs q;unfold FS;walk_at "g";cases e:dM x with
 |false=>exact KO hk hk2 e<|kX e q
 |true=>
 obtain⟨s,n,rfl,h⟩:=l8 e;have h5:=h.n5;refine xq h hk2 ?_;replace q:=kY h q;rw[h.sN,fH]at q;walk_at "g";cases er:gZ n y with
 |false=>rw[er]at q;exact q
 |true=>
 rw[er]at q;obtain⟨r,rfl,hl'⟩:=sU er;have hl:r.length=n:=E1
 have q:Q (aE<|bR s n<|rQ<|aE r):=q;rw[ji]at q;obtain⟨m,hm,hb⟩:=hbs r rfl;simp only[gg,eG,if_false];refine zZ h ?_;walk_at "g";have key:∀line∈tbl s n,BR (cP line) r:=λline hline=>by
  obtain⟨h1,h2⟩:=nw h line hline;refine⟨6,m,λx hx=>?_,hm,?_⟩
  .obtain⟨i,hi,rfl⟩:=YbQ.mp hx
   exact CZ<|h2 i hi
  .have:(cP line).length=n:=by unfold cP;rw[bQ];exact h1
   rw[this];have:n*(6+m+1)<=5*(6+m+1):=mh _ h5;omega
 refine jj (g:=λline=>aE<|cP line) (f:=λline=>aS<|cD (cP line) r) (tbl s n) (λline hl' Q hq=>?_) .un [] (by simp[kN,aR];omega) ?_
 .walk_at "g"
  exact Fu (key line hl') hq
 .have e:(tbl s n).map (λline=>aS<|cD (cP line) r)=(bR s n r).map aS:=by
   unfold bR;rw[List.map_map];rfl
  rw[dR,e];exact q
def z7:bA:=fnS (λx:Qv×Nat=>[.scr<|x.1.map .int,.int x.2]) (λ_=>True) λx=>.int<|x.1.getD x.2 0
def xz:bA:=rlS (λx:Int=>[.int x]) (λ_=>True) λ_ d=>∃j:Int,d=.int j
def z8:bA:=fnS (λx:Int=>[.int x]) (λ_=>True) λ_=>.pen
def lH:bA:=rlS (λm:Nat=>[.pen,.int m]) (λm=>0<m/\m<2^30) λm d=>∃k:Nat,d=.int k/\k<m
section
variable{E:QF}{x:D}{l m a b:Int}{p:Rat}
theorem Zj{xs:Qv}(q:Q (.int<|xs.getD i 0)):z7 [.scr<|xs.map .int,.int i] E Q:=⟨(xs,i),rfl,trivial,q⟩
theorem FX(q:∀j:Int,Q<|.int j):xz [.int a] E Q:=⟨a,rfl,trivial,λd ⟨j,hd⟩=>by rw[hd];exact q j⟩
theorem Lu(q:Q .pen):z8 [.int a] E Q:=⟨a,rfl,trivial,q⟩
theorem ny(h:0<n)(h':n<2^30)(q:∀k:Nat,k<n->Q (.int k)):lH [.pen,.int n] E Q:=⟨n,rfl,⟨h,h'⟩,λd ⟨k,hd,hk⟩=>by rw[hd];exact q k hk⟩
end
abbrev ZfU:Qx:=["_law_script", "_law_k"]
def FY:WS:=(aG (cE (wT<|w2 j9 (wN 1)<|wB bV<|aC (wN 0) aA) (aH<|w2 gIx (wN 0)<|wN 1) cF)<|aH<|wC<|.int<|0)
abbrev Zi4:Qx:=["_law_seed"]
def FZ:WS:=(aG (aT 0<|w2 re (w2 gAdd (wN 0)<|wC<|.int<|7919)<|wC<|.int<|2147483647)<|aH<|w2 re (w2 gAdd (w2 gAdd (w2 gMul (wN 0)<|wN 0)<|w2 gMul (wC<|.int<|48271)<|wN 0)<|wC<|.int<|12345)<|wC<|.int<|2147483629)
abbrev ZgM:Qx:=["_law_cell", "_law_left"]
def F1:WS:=(aG (aT 1<|wB lF<|aC (wN 0)<|aC (w2 fS (wC<|.int<|0)<|wN 0) aA)<|aH<|fN<|bP<|aC (wN 1)<|aC (wB iP<|aC (w2 Cp (wN 1)<|w2 Fh (wC<|.int<|10)<|wC<|.int<|18) aA)<|aC (w2 re (wN 1)<|wC<|.int<|1000003) aA)
abbrev Zi6:Qx:=["_law_pen", "_law_many", "_law_found"]
def F2:WS:=(aG (cE (wT<|w2 (gEq false) (w2 eM (wN 0)<|wC<|.int<|1)<|wC<|.int<|1) (aG (aT 2<|w2 re (w2 eM (wN 0)<|wC<|.int<|0)<|wN 1)<|aG (fA 0<|w2 iU (w2 eM (wN 0)<|wC<|.int<|0)<|wN 1)<|aH<|wN 2) cF)<|aG (fA 0<|wF xz<|aC (w2 gAdd (wF xz<|aC (w2 eM (wN 0)<|wC<|.int<|2) aA)<|wC<|.int<|7) aA)<|aH<|w2 re (w2 iU (w2 eM (wN 0)<|wC<|.int<|2)<|wC<|.int<|64)<|wN 1)
theorem Lv:Rd z7 FY ZfU:=by rintro _ E Q ⟨⟨xs,i⟩,rfl,_,q⟩;unfold FY;walk_at "g";by_cases h:i<xs.length;rw[oI<|by simp[h]];refine⟨.int<|xs.getD i 0,CW rfl ?_,q⟩;rw[cV,bE,bZ h];rfl;rw[jx (by simp;omega)];rw[bE,fi<|E1]at q;exact q
theorem Lw:Rd xz FZ Zi4:=by rintro _ E Q ⟨x,rfl,_,q⟩;unfold FZ;walk_at "g";have h1:=BA (x+7919) (show(0:Int)<2147483647 by decide);have h2:=Int.fmod_lt_of_pos (x+7919) (show(0:Int)<2147483647 by decide);have b:Bd ((x+7919).fmod 2147483647):=jK (n:=32) E1 E1;exact⟨E8,⟨b,b⟩,⟨jK (n:=32) E8<|E1,b⟩,E8,q _ ⟨_,rfl⟩⟩
theorem Lx:Rd z8 F1 ZgM:=by rintro _ E Q ⟨x,rfl,_,q⟩;unfold F1;walk_at "g";exact⟨⟨E8,E8,E8⟩,E8,E8,⟨_,_,_,rfl⟩,q⟩
theorem Ly:Rd lH F2 Zi6:=by
 rintro _ E Q ⟨m,rfl,⟨h0,h1⟩,q⟩;have hb:Bd (m:Int):=jK (n:=30) E1 E1;have fin:∀x:Int,Q (.int<|x.fmod m):=λx=>by have h1:=BA x (show(0:Int)<m by omega);have h2:=Int.fmod_lt_of_pos x (show(0:Int)<m by omega);exact q _ ⟨(x.fmod m).toNat,by rw[Bo h1],E1⟩
 unfold F2;walk_at "g";refine⟨KE,λj=>?_⟩;walk_at "g";split;refine⟨KE,λi=>⟨E1,?_⟩⟩;walk_at "g";exact⟨KE,λi'=>⟨⟨E1,hb⟩,fin i⟩⟩;refine⟨KE,λk=>FX λk1=>?_⟩;walk_at "g";refine FX λk2=>?_;walk_at "g";exact⟨KE,λk3=>⟨⟨E8,jK (n:=7) E8<|E1⟩,E1,fin _⟩⟩
theorem abs_if(x:Int):(if x<0 then -x else x)=((x.natAbs:Nat):Int):=by split<;>omega
theorem z9{t b:Int}(hb:b≠0)(h1:t.natAbs<2^n)(h2:b.natAbs<2^n):Sz n (Rat.divInt t b):=by
 unfold Sz;rw[Rat.num_divInt,Rat.den_divInt,jx hb];have hg:Int.gcd b t≠0:=by have:=Int.gcd_pos_of_ne_zero_left t hb;omega
 refine⟨tM (Fm hg ?_) ?_,tM (Nat.div_le_self _ _) h2⟩;exact Int.dvd_mul_of_dvd_right<|Int.gcd_dvd_right ..
 rw[ge,Int.natAbs_sign_of_ne_zero hb,Nat.one_mul];exact h1
local macro_rules | `(tactic| ext)=>`(tactic| ((try dsimp only at *);(try walk_at "w");(try dsimp only)))
theorem bJ{z:WS}{E:QF}(h:z E { N with nx:=z' E N } ρ):aG z z' E N ρ:=h
theorem fh{c:WT}{E:QF}{b:Bool}(hc:∀Q:Bool->Prop,Q b->c E ρ Q)(h1:b=true->zb E N ρ)(h2:b=false->N.nx ρ):cE c zb cF E N ρ:=by
 refine hc _ ?_;cases b with
 |true=>rw[oI rfl];exact h1 rfl|false=>rw[jx<|E8];exact h2 rfl
abbrev LX:Qx:=["NoSlants", "NoRow", "NoNumber", "NoLine", "NotEven", "NotFull"]
abbrev MX:Qx:=["NoSlants", "NoRow", "NoNumber", "NoLine", "NotEven", "NotFull", "NotStrong", "NoText", "TooGreat"]
mutual
def dG(m:Nat):D->Bool
 |.int i=>decide (i.natAbs<2^m)|.tup xs=>dE m xs|.lst xs=>dE m xs|_=>true
def dE(m:Nat):QG->Bool
 |[]=>true|x::r=>dG m x&&dE m r
end
theorem ZcB{m:Nat}:∀{xs:QG},dE m xs=true↔∀x∈xs,dG m x=true
 |[]=>by simp[dE]|x::r=>by rw[dE,cX,ZcB];simp
theorem Zl4:dG m (aS q)=true↔Sz m q:=by unfold aS Sz;rw[dG,dE,dE,dE,dG,dG];simp
theorem Zbt:dG m (aE r)=true↔∀x∈r,Sz m x:=by
 unfold aE;rw[dG,ZcB];constructor;intro h x hx;exact Zl4.mp<|h _ (u6 hx)
 intro h x hx;obtain⟨q,hq,rfl⟩:=YbQ.mp hx;exact Zl4.mpr<|h q hq
def sm:Nat->(Qy)->Rat
 |0,_=>0|n+1,f=>f 0+sm n λi=>f<|i+1
theorem Aa:∀{n:Nat} {f g:Qy},(∀i,i<n->f i=g i)->sm n f=sm n g
 |0,_,_,_=>rfl|n+1,f,g,h=>by rw[sm,sm,h 0<|E1,Aa λi hi=>h (i+1)<|E1]
theorem F3:∀(n:Nat) (f g:Qy),sm n (λi=>f i+g i)=sm n f+sm n g
 |0,_,_=>by rw[sm,sm,sm,pz]|n+1,f,g=>by rw[sm,sm,sm,F3 n (λi=>f<|i+1) λi=>g<|i+1];grind
theorem Zo:∀(n:Nat) (c:Rat) (f:Qy),c*sm n f=sm n λi=>c*f i
 |0,c,_=>by rw[sm,sm,lg]|n+1,c,f=>by rw[sm,sm,<-Zo n c λi=>f<|i+1];grind
theorem F5:∀{n:Nat} {f:Qy},(∀i,i<n->f i=0)->sm n f=0
 |0,_,_=>rfl|n+1,f,h=>by rw[sm,h 0<|E1,F5 λi hi=>h (i+1)<|E1,pz]
theorem F6(m:Nat):∀(n:Nat) (f:Nat->Qy),(sm n λi=>sm m λj=>f i j)=sm m λj=>sm n λi=>f i j
 |0,f=>by rw[sm];exact(F5 λ_ _=>rfl).symm|n+1,f=>by rw[sm,F6 m n λi j=>f (i+1) j,<-F3];rfl
theorem Ab:∀(n:Nat) (f g:Qy),cD ((List.range n).map f) ((List.range n).map g)=sm n λi=>f i*g i
 |0,_,_=>rfl|n+1,f,g=>by rw[List.range_succ_eq_map,cG,cG,List.map_map,List.map_map,cD,sm,<-Ab n (λi=>f<|i+1) λi=>g<|i+1];rfl
theorem Ac{α:Type}(r:List α)(d:α):r=(List.range r.length).map λi=>r.getD i d:=by
 refine yO λi=>?_;rcases gD i r.length with h|h
 rw[cV,jB h,vM,bE,bZ h];rfl;rw[fi h,fi<|by simpa using h]
theorem C0{α:Type}{f g:Nat->α}(h:∀i,i<n->f i=g i):(List.range n).map f=(List.range n).map g:=
 ir λi hi=>h i<|Yah.mp hi
def eT(s:Qv)(n i j:Nat):Int:=s.getD (n-1-i+j) 0
theorem uK(h:IsSl s n):tbl s n=(List.range n).map λi=>(List.range n).map λj=>eT s n i j:=by
 unfold tbl;refine C0 λi hi=>yO λj=>?_;have hl:=h.len;rcases gD j n with hj|hj
 rw[Bl hj,List.getElem?_drop,cV,jB hj,bZ<|E1];unfold eT;rw[vM,bE,bZ<|E1];rfl;rw[fi (by rw[m6];omega),fi<|by simpa using hj]
theorem IsSl.rev(h:IsSl s n):IsSl s.reverse n:=⟨by rw[rV];exact h.len,h.n1,h.n5,λx hx=>h.b x<|Ycn.mp hx⟩
theorem Lz(h:IsSl s n)(hi:i<n)(hj:j<n):eT s.reverse n i j=eT s n j i:=by have hl:=h.len;unfold eT;rw[bE,bE,List.getElem?_reverse<|E1];congr 2;omega
theorem F7(h:IsSl s n)(hr:r.length=n):bR s n r=(List.range n).map λi=>sm n λj=>(eT s n i j:Rat)*r.getD j 0:=by
 unfold bR;rw[uK h,List.map_map];refine C0 λi hi=>?_;show cD (cP<|(List.range n).map λj=>eT s n i j) r=_;unfold cP;rw[List.map_map];conv=>lhs;rw[Ac r 0,hr]
 exact Ab n _ _
theorem F8{o:Qw}(h:IsSl s n)(hr:r.length=n)(ho:o.length=n):cD o (bR s n r)=cD r (bR s.reverse n o):=by
 rw[F7 h hr,F7 h.rev ho];conv=>lhs;rw[Ac o 0,ho]
 conv=>rhs;rw[Ac r 0,hr]
 rw[Ab,Ab];have e1:(sm n λi=>o.getD i 0*sm n λj=>(eT s n i j:Rat)*r.getD j 0)=sm n λi=>sm n λj=>o.getD i 0*((eT s n i j:Rat)*r.getD j 0):=Aa λi _=>Zo _ _ _;rw[e1,F6];refine Aa λj hj=>?_;rw[Zo];refine Aa λi hi=>?_;rw[Lz h hj hi];grind
noncomputable def aX(n p:Nat):Qw:=(List.range n).map λj=>if j=p then 1 else 0
theorem mR{g:WG}{zb:WS}{E:QF}{N:Nds}(I:QG->cR->Prop)(h:∀d ds ρ,I (d::ds) ρ->∀nx:cR->Prop,(∀ρ,I ds ρ->nx ρ)->g d ρ λρ1=>zb E { nx:=nx,rt:=N.rt,bk:=N.nx,ct:=nx } ρ1)(hn:∀ρ,I [] ρ->N.nx ρ):∀(ds:QG) ρ,I ds ρ->Zbf g zb E N ds ρ
 |[],ρ,i=>hn ρ i|d::ds,ρ,i=>h d ds ρ i _<|mR I h hn ds
theorem jk(n:Nat):rng 0 n=(List.range n).map λ(k:Nat)=>D.int (k:Int):=by unfold rng;exact ir λk _=>by rw[Int.zero_add]
section
variable{QI:Int->Prop}{QB:Bool->Prop}{i j:Int}{b:Bool}{o o':Option Int}
theorem nA:isB QB (.bl b)=QB b:=rfl
theorem nD:isI QI (.int i)=QI i:=rfl
theorem nE:isL QL (.lst xs)=QL xs:=rfl
theorem nG:isL QL (f8 s)=QL (s.map .int):=rfl
theorem nI:isL QL (bD s n)=QL ((tbl s n).map f8):=rfl
theorem nJ:zK QL (.tup xs)=QL xs:=rfl
theorem nK:isS QL (.lst xs)=QL xs:=rfl
theorem nM:isS QL (.tup xs)=QL xs:=rfl
theorem nN:isS QL (aE r)=QL (r.map aS):=rfl
theorem nO:isS QL (aL s)=QL (s.map .int):=rfl
theorem nQ:isS QL (f8 s)=QL (s.map .int):=rfl
theorem nR:isS QL (bD s n)=QL ((tbl s n).map f8):=rfl
theorem nS:bV [.tup xs] Q=Q (.int xs.length):=rfl
theorem nU:bV [.lst xs] Q=Q (.int xs.length):=rfl
theorem nV:bV [.scr xs] Q=Q (.int xs.length):=rfl
theorem nW:bV [aE r] Q=Q (.int r.length):=by show Q (.int ((r.map aS).length:Int))=_;rw[bQ]
theorem nX:bV [aL s] Q=Q (.int s.length):=by show Q (.int ((s.map D.int).length:Int))=_;rw[bQ]
theorem nY:bV [f8 s] Q=Q (.int s.length):=by show Q (.int ((s.map D.int).length:Int))=_;rw[bQ]
theorem nZ:bV [bD s n] Q=Q (.int n):=by show Q (.int (((tbl s n).map f8).length:Int))=_;rw[bQ,kN]
theorem n6:gIx (.tup xs) (.int i) Q = ∃d,eR xs i=some d/\Q d:=rfl
theorem n8:gIx (.lst xs) (.int i) Q = ∃d,eR xs i=some d/\Q d:=rfl
theorem n9:gIx (.scr xs) (.int i) Q = ∃d,eR xs i=some d/\Q d:=rfl
theorem oh:gIx (aE r) (.int i) Q = ∃d,eR (r.map aS) i=some d/\Q d:=rfl
theorem oj:gIx (aL s) (.int i) Q = ∃d,eR (s.map .int) i=some d/\Q d:=rfl
theorem ol:gIx (f8 s) (.int i) Q = ∃d,eR (s.map .int) i=some d/\Q d:=rfl
theorem om:gIx (bD s n) (.int i) Q = ∃d,eR ((tbl s n).map f8) i=some d/\Q d:=rfl
theorem oq:gCut (.tup xs) o o' Q=Q (.tup<|bW xs o o'):=rfl
theorem ot:gCut (.lst xs) o o' Q=Q (.lst<|bW xs o o'):=rfl
theorem oy:gCut (.scr xs) o o' Q=Q (.lst<|bW xs o o'):=rfl
theorem Zd:gCut (aE r) o o' Q=Q (.tup<|bW (r.map aS) o o'):=rfl
theorem oz:gCut (aL s) o o' Q=Q (.tup<|bW (s.map .int) o o'):=rfl
theorem oA:gCut (f8 s) o o' Q=Q (.lst<|bW (s.map .int) o o'):=rfl
theorem oB:gCut (bD s n) o o' Q=Q (.lst<|bW ((tbl s n).map f8) o o'):=rfl
theorem oC:gRev (.tup xs) Q=Q (.tup xs.reverse):=rfl
theorem oD:gRev (.lst xs) Q=Q (.lst xs.reverse):=rfl
theorem oE:gRev (aE r) Q=Q (aE r.reverse):=by show Q (.tup (r.map aS).reverse)=_;rw[<-tN];rfl
theorem oF:gRev (aL s) Q=Q (aL s.reverse):=by show Q (.tup (s.map D.int).reverse)=_;rw[<-tN];rfl
theorem oG:gRev (f8 s) Q=Q (f8 s.reverse):=by show Q (.lst (s.map D.int).reverse)=_;rw[<-tN];rfl
theorem oH{α:Type}:ig (α:=α) [.tup xs] QL=QL xs:=rfl
theorem oJ{α:Type}:ig (α:=α) [.lst xs] QL=QL xs:=rfl
theorem oK{α:Type}:ig (α:=α) [aL s] QL=QL (s.map .int):=rfl
theorem oM:je [.tup xs] Q=Q (.tup xs):=rfl
theorem oN:je [.lst xs] Q=Q (.tup xs):=rfl
theorem oO:je [f8 s] Q=Q (aL s):=rfl
theorem oP:gAdd (.int i) (.int j) Q=Q (.int<|i+j):=rfl
theorem oQ:gAdd (.lst xs) (.lst ys) Q=(xs.length+ys.length<=aR/\Q (.lst<|xs++ys)):=rfl
theorem oR:gAdd (.tup xs) (.tup ys) Q=(xs.length+ys.length<=aR/\Q (.tup<|xs++ys)):=rfl
theorem oS:gMul (.int i) (.int j) Q=(sJ i j/\Q (.int<|i*j)):=rfl
theorem oU:gMul (.lst xs) (.int j) Q=(j<1000/\-1000<j/\xs.length*j.toNat<=aR/\Q (.lst (List.replicate j.toNat xs).flatten)):=rfl
theorem gQ{C:Int->Int->Prop}{kd:Int->Int->D}:gI2 C kd (.int i) (.int j) Q=(C i j/\Q (kd i j)):=rfl
theorem oV:j7 [.int i] Q=Q (.int (if i<0 then -i else i)):=rfl
theorem oW:lF [.int i,.int j] Q=Q (.int (if j>i then j else i)):=rfl
theorem oX:iP [.bl b] Q=Q (.int (if b then 1 else 0)):=rfl
theorem oY:iP [.int i] Q=Q (.int i):=rfl
theorem oZ:ij [.lst xs] Q = ∃bs:List Bool,xs=bs.map D.bl/\Q (.bl<|bs.all id):=rfl
theorem fW:i1 QL [.int j]=(-10000<=j/\j<10000/\QL (rng 0 j.toNat)):=rfl
theorem gR:i2 QL [.int i,.int j]=((-10000<=i/\i<10000/\-10000<=j/\j<10000)/\QL (rng i (j-i).toNat)):=rfl
end
def dH:Nat->QG->QG
 |_,[]=>[]|i,x::xs=>.tup [.int i,x]::dH (i+1) xs
def iE(t:WA):WA:=λE ρ Q=>t E ρ λds=>match ds with|[x]=>isS (λxs=>Q<|dH 0 xs) x|_=>False
def DA(i:Nat)(t:WA):WS:=λE N ρ=>match ρ[i]? with
 |some (.ow xs)=>t E ρ λys=>xs.length+ys.length<=aR/\N.nx (ρ.set i<|.ow<|xs++ys)
 |_=>False
def MT(wt:WT)(wa wb:WA):WA:=λE ρ Q=>wt E ρ λk=>if k=true then wa E ρ Q else wb E ρ Q
local macro_rules | `(tactic| walk_at "w")=>`(tactic| simp only[iE,aH,cE,aT,cF,fV,bK,bY,bH,kW,dX,eW,dL,iA,fA,l6,bF,iV,iW,wM,ZcL,ft,gw,kS,gv,eU,bM,wT,l4,w1,w2,wB,wF,wL,aY,bX,ZbG,aB,bP,aC,aA,aLC,Zb5,cC,iS,iL,iT,fb,kn,iZ,eV,eC,wN,wC,gN,dB,bN,cS,eM,l5,fN,eY,fw,eD,d9,fM,gA,gB,fL,pub,cG,f6,d8,iF,jC,dR,List.replicate,eH,fe,gF,gG,Nat.reduceSub,Nat.reduceAdd,iY,lT,true_and,eG,if_true,if_false,ite_true,ite_false,jA,gg,na,nA,nD,nE,nG,nI,nJ,nK,nM,nN,nO,nQ,nR,nS,nU,nV,nW,nX,nY,nZ,n6,n8,n9,oh,oj,ol,om,oq,ot,oy,Zd,oz,oA,oB,oC,oD,oE,oF,oG,oH,oJ,oK,oM,oN,oO,oP,oQ,oR,oS,oU,gQ,oV,oW,oX,oY,oZ,fW,gR,DA,MT])
local macro_rules | `(tactic| walk_at "n")=>`(tactic| ((try dsimp only);(refine bJ ?_);ext))
theorem xC:∀n∈LX,pY n=n:=wp
theorem rp{n m:Str}(h:n∈LX)(hm:m∈MX)(q:Q (.bl<|n==m)):gIsX LX MX [.exc n,.cls m] Q:=⟨h,hm,by rw[xC n h];exact q⟩
theorem LA(a b c d:Int):fg (.tup [.int a,.int b]) (.tup [.int c,.int d])=(a==c&&b==d):=by simp[fg,pd,gY,PyData.eqv,PyData.eqvAll]
theorem LB{P:QH}(h:k<xs.length)(hp:∀x∈xs,P x):∃d,eR xs (k:Int)=some d/\P d:=⟨xs[k],aK<|bZ h,hp _<|i3 h⟩
theorem F9{a b:Option Int}:(bW xs a b).length<=xs.length:=by unfold bW;rw[m6,m8];omega
theorem eh(h:n<=5000):n<=aR:=by unfold aR;omega
theorem Ga{E:QF}(I:Nat->cR->Prop)(n:Nat)(h:∀k,k<n->∀ρ,I k ρ->∀nx:cR->Prop,(∀ρ,I (k+1) ρ->nx ρ)->g (.int k) ρ λρ1=>zb E { nx:=nx,rt:=N.rt,bk:=N.nx,ct:=nx } ρ1)(hn:∀ρ,I n ρ->N.nx ρ)(ρ:cR)(h0:I 0 ρ):Zbf g zb E N (rng 0 n) ρ:=by
 refine mR (λds ρ=>∃k,k<=n/\ds=(rng 0 n).drop k/\I k ρ) ?_ ?_ _ ρ ⟨0,k9 _,by rw[tI],h0⟩;rintro d ds ρ ⟨k,hk,e,i⟩ nx hnx;have hlen:(rng 0 n).length=n:=by unfold rng;simp
 have hkn:k<n:=by
  rcases gD k n with z|z
  exact z;rw[List.drop_eq_nil_of_le<|E1]at e;cases e
 rw[tJ<|E1]at e;injection e with e1 e2
 have e3:(rng 0 n)[k]' E1=.int k:=by unfold rng;simp
 rw[e1,e3];exact h k hkn ρ i nx λρ' i'=>hnx ρ' ⟨k+1,hkn,e2,i'⟩;rintro ρ ⟨k,hk,e,i⟩;have hlen:(rng 0 n).length=n:=by unfold rng;simp
 have hkn:k=n:=by
  rcases gD k n with z|z
  rw[tJ<|E1]at e;cases e;omega
 subst hkn;exact hn ρ i
theorem Ad:bootBuiltins "repr" = some (.builtin "repr"):=wp
theorem LC:bootBuiltins "ValueError" = some (.type "ValueError"):=wp
theorem clsX_of{D:Addr}(g:PySem.W.findIn K (.ref D) "__getattribute__" = some (some<|.builtin "BaseException.__getattribute__"))(gn:PySem.W.findIn K (.ref D) "__getattr__" = some none)(be:PySem.W.mroIn K D (.type "BaseException")=some true)(h:PySem.W.hasDictIn K D=true)(a:PySem.W.findIn K (.ref D) "__class__" = some (some<|.builtin "object.__class__"))(gt:PySem.W.specialIn K (.builtin "object.__class__") "__get__" = some (some<|.builtin "getset_descriptor.__get__"))(tk:PySem.W.takesIn K (.builtin "object.__class__")=some true)(ob:PySem.W.mroIn K D (.type "object")=some true):ja K D:=
 ⟨g,gn,be,by obtain⟨cd,hc,_⟩:=PySem.W.any_some h;rw[hc];rfl,a,gt,tk,ob⟩
section
def gNeS:G2:=λx y Q=>∃a b,x=.str a/\y=.str b/\Q (.bl (!(a==b)))
theorem gNeS.mono:∀x y P P',(∀d,P d->P' d)->gNeS x y P->gNeS x y P':=λx y P P' hp ⟨a,b,h1,h2,h3⟩=>⟨a,b,h1,h2,hp _ h3⟩
theorem Gb:ic X (compareOp .NotEq) gNeS:=by
 refine⟨⟨_,wg,λW H x y dx dy Q ok rx ry hg=>?_⟩,gNeS.mono⟩;obtain⟨a,b,rfl,rfl,q⟩:=hg;cases rx;cases ry;have e:decide (V.str a=V.str b)=(a==b):=by rw[iD];simp
 rw[<-e]at q;exact⟨rfl,q.now ok<|.bl _⟩
end
theorem Gc(q:Q (.bl false)):gNeS (.str x) (.str x) Q:=⟨x,x,rfl,rfl,by rw[Qd];exact q⟩
section
theorem LD{T:TE}(k:∀W0 H0 W σ H ρ E Q,SOk X.K W0 H0 W σ H ρ->km X.K W0 H0 E EX->t E ρ (λds=>∀a vs W' H',Ext W H W' H'->H' a=some (.lst vs)->W'.G a=none->¬W'.Pn a->H a=none->Reps X.K W' vs ds->Q (.ref a) H')->T σ H Q)
  (m:∀E ρ P P',(∀d,P d->P' d)->t E ρ P->t E ρ P') (i:Nat):∀W0 H0 W σ H ρ E Q,SOk X.K W0 H0 W σ H ρ->km X.K W0 H0 E EX->eD i t E ρ (λds=>∀a vs W' H',Ext W H W' H'->H' a=some (.lst vs)->W'.G a=none->¬W'.Pn a->H a=none->Reps X.K W' vs ds->Q (.ref a) H')->T σ H Q:=by
 intro W0 H0 W σ H ρ E Q s eo h;unfold eD at h;rcases s.lend i with ep|⟨a,us,s',e3,e2,e6⟩
 .rw[ep]at h
  exact k W0 H0 W σ H ρ E Q s eo<|m _ _ _ _ (λd hd=>hd.2) h
 .refine k W0 H0 _ σ H _ E Q s' eo (m _ _ _ _ (λd hd b vs W2 H2 x2 h1 h2 h3 h4 r2=>?_) h)
  have hb:b≠a:=λz=>by rw[z,e2]at h4;cases h4
  exact hd.2 b vs _ H2 (x2.bor e3) h1 (by rw[Wd.rem_ne hb];exact h2) h3 h4<|r2.rem (x2.g _ _ e6) hd.1
theorem LE(i j:Nat)(vars:Qx)(sel:Qz)(hc:X.calm=true)(hN:X.N.Nodup)(hi:mL X EX target iter wi)(hg:∀s H fp,p8 (X.lc sc vars sel s H fp) target g)(hf:∀s H fp,sQ (X.lc sc vars sel s H fp) E0 ifs wf)(he:∀s H fp,PX (X.lc sc vars sel s H fp) E0 elt we)
  (hix:{X.N[i]? = some x}) (hx:autoParam (pD X.env.scope x) QQ._auto_1)
  (hsw:{swapsWith (.ListComp elt [⟨target,iter,ifs,0⟩] sc pos) (some<|.Name x pos') spos.line X.env=pure true})
  (ok:{kR sc X.env.scope=true}) (so:{qh X.N sc sel=true}) (hs:autoParam (∀x,foldedSetIterable iter X.env x=pure x) QN._auto_1) (hfn:autoParam (QC X x) QO._auto_1) :
  PZ X EX (.Assign [.Name x pos'] (.ListComp elt [⟨target,iter,ifs,0⟩] sc pos) spos) (bY i<|eD j<|aLC wi vars.length sel g wf we):=by
 obtain⟨ti,tg,tf,te,pi,pg,pf,pe,k⟩:=Ck hi hg hf he;have am:=aLC.mono (vars:=vars) (sel:=sel) hi (hg {} (λ_=>none) []).mono (hf {} (λ_=>none) []).mono (he {} (λ_=>none) []).mono;refine⟨⟨_,EY vars sel hc hN hix hx pi ok so pg pf pe hsw hs hfn,λW0 H0 F W σ H ρ E Dn N s fl eo no h=>?_⟩,λE ρ N N' hl q=>am _ _ _ _ (λ_ hq=>⟨hq.1,hl.nx _ hq.2⟩) q⟩;refine LD k am j W0 H0 W σ H ρ E _ s eo<|am _ _ _ _ (λxs hd=>⟨hd.1,λa vs W1 H1 x1 e1 e2 e3 e4 r1=>no.nx W1 _ H1 _ (s.own x1 e4 e1 e2 e3 r1) (fl.ext x1) hd.2⟩) h
def Gd:D->Bool
 |.non=>true|.bl _=>true|_=>false
def C1:D->D->Bool
 |.non,.non=>true|.bl a,.bl b=>a==b|_,_=>false
def gIsC(neg:Bool):G2:=λx y Q=>Gd y=true/\Q (.bl (if neg then !C1 x y else C1 x y))
theorem gIsC.mono{neg:Bool}:∀x y P P',(∀d,P d->P' d)->gIsC neg x y P->gIsC neg x y P':=λ_ _ _ _ hp h=>⟨h.1,hp _ h.2⟩
theorem Ge{W:Wd}{x y:V}{v u:Value}{dx dy:D}(r1:Rep K W x dx)(r2:Rep K W y dy)(rx:RelV x v)(ry:RelV y u)(h:Gd dy=true):plainIs v u=true/\(v==u)=C1 dx dy:=by
 cases r2<;>first
  |(cases h;done)
  | (cases ry;cases r1<;>first
      |(cases rx;first|exact⟨rfl,rfl⟩|(rename_i a b;cases a<;>cases b<;>exact⟨rfl,rfl⟩))
      |(obtain⟨t,rfl⟩:=rx;exact⟨rfl,rfl⟩))
theorem uL:ic X (compareOp .Is) (gIsC false):=by refine⟨⟨λx y H Q=>∃W dx dy,WOk W H/\Rep X.K W x dx/\Rep X.K W y dy/\gIsC false dx dy (RQ X.K W H Q),?_,λW H x y dx dy Q ok rx ry hg=>⟨W,dx,dy,ok,rx,ry,hg⟩⟩,gIsC.mono⟩;rintro tv s σ H x y v u Q I rx ry ⟨W,dx,dy,ok,r1,r2,h1,h2⟩;obtain⟨p,e⟩:=Ge r1 r2 rx ry h1;exact wpAny_is_plain p<|cI I (h2.now ok<|.bl _) (by rw[e];rfl)
theorem uM:ic X (compareOp .IsNot) (gIsC true):=by refine⟨⟨λx y H Q=>∃W dx dy,WOk W H/\Rep X.K W x dx/\Rep X.K W y dy/\gIsC true dx dy (RQ X.K W H Q),?_,λW H x y dx dy Q ok rx ry hg=>⟨W,dx,dy,ok,rx,ry,hg⟩⟩,gIsC.mono⟩;rintro tv s σ H x y v u Q I rx ry ⟨W,dx,dy,ok,r1,r2,h1,h2⟩;obtain⟨p,e⟩:=Ge r1 r2 rx ry h1;exact wpAny_isNot_plain p<|cI I (h2.now ok<|.bl _) (by rw[e];rfl)
end
mutual
def jL:D->Option PyData
 |.non=>some .none|.bl b=>some<|.bool b
 |.int i=>some<|.int i
 |.str x=>some<|.str x
 |.tup xs=>(il xs).map .tuple|.lst xs=>(il xs).map .list|.dic=>some<|.dict []
 |_=>none
def il:QG->Option (List PyData)
 |[]=>some []
 |x::r=>match jL x,il r with
  |some a,some b=>some (a::b)|_,_=>none
end
mutual
def rq:D->Bool
 |.lst _=>false|.tup xs=>lI xs|_=>true
def lI:QG->Bool
 |[]=>true|x::r=>rq x&&lI r
end
section
variable{s:Shared}{W:Wd}
mutual
theorem Gf(I:Inv X tv σ H s)(ok:WOk W H):∀{v:V} {d:D} {u:Value} {p:PyData},Rep X.K W v d->RelV v u->jL d=some p->∃as,Reads s.heap u p as/\(rq d=true->sysModules∉as)
 |_,_,u,p,.non,r,e=>by cases e;cases r;exact⟨_,.none,λ_=>KE⟩
 |_,_,u,p,.bl b,r,e=>by cases e;cases r;exact⟨_,.bool b,λ_=>KE⟩
 |_,_,u,p,.int i,r,e=>by cases e;obtain⟨t,rfl⟩:=r;exact⟨_,.int i t,λ_=>KE⟩
 |_,_,u,p,.str x,r,e=>by cases e;obtain⟨t,rfl⟩:=r;exact⟨_,.str x t,λ_=>KE⟩
 |.ref a,.tup ds,u,p,.tup e0 rs,r,e=>by
  cases r;cases q:il ds with
  |none=>rw[jL,q]at e;cases e
  |some ps=>rw[jL,q]at e;cases e;obtain⟨its,rv,⟨o,h1,h2,n,h3⟩,_⟩:=I.tuple (xs:=_)<|SqT.of (ok.g _ _ e0);obtain⟨as,ra,hs⟩:=Ae I ok rs rv q;exact⟨_,.tuple h1 h2 h3<|by simpa using ra,λz=>hs (by rw[rq]at z;exact z)⟩
 |.ref a,.tup ds,u,p,.ktup e0 rs,r,e=>by
  cases r;cases q:il ds with
  |none=>rw[jL,q]at e;cases e
  |some ps=>rw[jL,q]at e;cases e;obtain⟨its,rv,⟨o,h1,h2,n,h3⟩,_⟩:=I.tuple (xs:=_)<|.inr e0;obtain⟨as,ra,hs⟩:=Ae I ok rs rv q;exact⟨_,.tuple h1 h2 h3<|by simpa using ra,λz=>hs (by rw[rq]at z;exact z)⟩
 |.ref a,.lst ds,u,p,.lst e0 rs,r,e=>by
  cases r;cases q:il ds with
  |none=>rw[jL,q]at e;cases e
  |some ps=>rw[jL,q]at e;cases e;obtain⟨its,rv,⟨o,n,h1,h2,h3,h4⟩,_⟩:=I.list (xs:=_)<|SqL.of (ok.g _ _ e0);obtain⟨as,ra,hs⟩:=Ae I ok rs rv q;exact⟨_,.list h1 h2 h4<|by simpa using ra,λz=>by rw[rq]at z;cases z⟩
 |.ref a,.dic,u,p,.dic e0,r,e=>by
  cases r;cases e;have ho:=I.hok _ _<|ok.g _ _ e0;obtain⟨_,hn,vs,kv,o,es,n,h1,h2,h3,_,h4,_⟩:=ho;cases kv;have e:es.toList=[]:=by generalize es.toList=l at h4;cases h4;rfl
  refine⟨_,.dict h1 h2.1 h3 (as:=[]) (bs:=[]) ?_ ?_,λ_=>?_⟩;rw[e];exact .nil;rw[e];exact .nil;have:=beq_eq_false_iff_ne.mp hn;simpa using λz=>this z.symm
 |_,_,u,p,.pen _,r,e=>by rw[jL]at e<;>first|cases e|(intros;rename_i z;cases z)
 |_,_,u,p,.cls _,r,e=>by rw[jL]at e<;>first|cases e|(intros;rename_i z;cases z)
 |_,_,u,p,.exc _ _ _,r,e=>by rw[jL]at e<;>first|cases e|(intros;rename_i z;cases z)
 |_,_,u,p,.ty _,r,e=>by rw[jL]at e<;>first|cases e|(intros;rename_i z;cases z)
 |_,_,u,p,.pl _,r,e=>by rw[jL]at e<;>first|cases e|(intros;rename_i z;cases z)
 |_,_,u,p,.scr _ _,r,e=>by rw[jL]at e<;>first|cases e|(intros;rename_i z;cases z)
theorem Ae(I:Inv X tv σ H s)(ok:WOk W H):∀{vs:QJ} {ds:QG} {us:Qu} {ps:List PyData},Reps X.K W vs ds->Vals vs us->il ds=some ps->∃as,ReadsAll s.heap us ps as/\(lI ds=true->sysModules∉as)
 |_,_,us,ps,.nil,r,e=>by rw[il]at e;cases e;cases r;exact⟨_,.nil,λ_=>KE⟩
 |_,d::ds,us,ps,.cons rd rs,r,e=>by
  rw[il]at e;cases q1:jL d with
  |none=>rw[q1]at e;cases e
  |some a=>
   cases q2:il ds with
   |none=>rw[q1,q2]at e;cases e
   |some b=>
    rw[q1,q2]at e;cases e;cases r with
    |cons r1 r2=>
     obtain⟨as,ha,h1⟩:=Gf I ok rd r1 q1;obtain⟨bs,hb,h2⟩:=Ae I ok rs r2 q2;exact ⟨_,.cons ha hb,λq z=>by
      rw[lI,cX]at q;exact(Yao.mp z).elim (h1 q.1)<|h2 q.2⟩
end
def Zg2:QG->(QH)->Prop:=λds Q=>∃x p,ds=[x]/\jL x=some p/\p.showable=true/\(p.hasDict=true->rq x=true)/\p.depth<=32/\p.shown.length<=sizeLine/\Q (.str p.shown)
theorem Zg2.mono:∀ds P P',(∀d,P d->P' d)->Zg2 ds P->Zg2 ds P':=λds P P' hp ⟨x,p,h1,h2,h3,h4,h5,h6,h7⟩=>⟨x,p,h1,h2,h3,h4,h5,h6,hp _ h7⟩
theorem Af(hg:X.A.guards=some [])(hu:X.A.units+64<cLine):fv X (.builtin "repr") Zg2:=by
 refine⟨⟨λvs H Q=>∃W ds,WOk W H/\Reps X.K W vs ds/\Zg2 ds (RQ X.K W H Q),?_,λW H vs ds Q ok r hg=>⟨W,ds,ok,r,hg⟩⟩,Zg2.mono⟩;rintro tv s σ H vs us Q I rv ⟨W,ds,ok,rs,x,p,rfl,h1,h2,h3,h4,h5,q⟩;obtain⟨v,rfl,r⟩:=rs.one;obtain⟨u,rfl,ru⟩:=fP rv;obtain⟨as,ra,hs⟩:=Gf I ok r ru h1;have fin:∀{s':Shared} {tk:Tok},Inv X tv σ H s'->EP X tv σ Q (.str p.shown tk) s':=λI'=>⟨.str _,H,I',⟨_,rfl⟩,q.now ok<|.str _⟩;cases u with
 |ref a=>exact repr_of_reads' ra h2 (λz=>hs<|h3 z) hg E1 (λ_ _ e=>e) (λh' u tk hk=>fin<|I.kept hk) h5|none=>cases ra;exact PySem.P.repr_of_none<|fin (I.tok _)
 |bool b=>cases ra;exact PySem.P.repr_of_bool<|fin (I.tok _)
 |int i t=>cases ra;exact PySem.P.repr_of_int (by simpa[PyData.showable] using h2)<|fin (I.tok _)
 |str y t=>cases ra;exact PySem.P.repr_of_str (fin<|I.tok _) h5
 |_=>cases ra
end
mutual
def o4:D->Bool
 |.dic=>false|.tup xs=>kO xs|.lst xs=>kO xs|_=>true
def kO:QG->Bool
 |[]=>true|x::r=>o4 x&&kO r
end
def Bk(b:Nat):Nat->Nat
 |0=>4|n+1=>b*(Bk b n+1)
theorem xD{b:Nat}(h:1<=b):∀n,4<=Bk b n
 |0=>cO _|n+1=>by have:=xD h n;have:1*(Bk b n+1)<=b*(Bk b n+1):=mh _ h;rw[Bk];omega
theorem LF:∀{xs:QG},lI xs=true↔∀x∈xs,rq x=true
 |[]=>by simp[lI]|x::r=>by rw[lI,cX,LF];simp
theorem C2:∀{xs:QG},kO xs=true↔∀x∈xs,o4 x=true
 |[]=>by simp[kO]|x::r=>by rw[kO,cX,C2];simp
def rz(x:D):Str:=((jL x).getD .none).shown
def dl(x:D):Bool:=rq x||o4 x
theorem LG(q:Rat):o4 (aS q)=true:=rfl
theorem LH(r:Qw):o4 (aE r)=true:=by unfold aE;rw[o4,C2];intro x hx;obtain⟨q,_,rfl⟩:=YbQ.mp hx;exact LG q
def fX(B:K4)(j:Nat):Qw:=B.map λl=>l.getD j 0
structure LJ(T:K4)(n:Nat):Prop where
 len:T.length=n
 row:∀r∈T,r.length=n
 n1:1<=n
 n5:n<=5
def Gg(m:Nat)(T:K4):Prop:=∀r∈T,∀x∈r,Sz m x
section
variable{E:QF}{x:D}
theorem C3(B:K4)(j:Nat):(fX B j).length=B.length:=by unfold fX;rw[bQ]
theorem LK{B:K4}(hb:∀r∈B,r.length=n)(hj:j<n)(h:Gg m B):∀x∈fX B j,Sz m x:=by intro x hx;obtain⟨l,hl,rfl⟩:=YbQ.mp hx;have e:=hb l hl;rw[bE,bZ<|E1];exact h l hl _<|i3 ..
end
namespace B
def LL:bA:=fnS (λx:SL=>[aL x.1]) (λx=>IsSl x.1 x.2) λx=>bD x.1 x.2
abbrev LM:Qx:=["_law_slants", "_law_size"]
def Gh:WS:=(aG (aT 1<|w2 iU (w2 gAdd (wB bV<|aC (wN 0) aA)<|wC<|.int<|1)<|wC<|.int<|2)<|aH<|wL<|aLC (fb<|aC (wN 1) aA) 1 [0,1] (gN 0) cC<|wL<|aLC (fb<|aC (wN 2) aA) 1 [0,1,2] (gN 0) cC<|w2 gIx (wN 2)<|w2 fS (w2 gAdd (w2 fS (wN 0)<|wN 1)<|wN 3)<|wC<|.int<|1)
theorem rd__law_table_of:Rd LL Gh LM:=by
 rintro _ E Q ⟨⟨s,n⟩,rfl,h,q⟩;dsimp only at h q;have h5:=h.n5;have hsl:=h.len;unfold Gh;walk_at "n";refine⟨⟨E8,jK (n:=2) E8<|E1⟩,?_⟩;rw[EJ _<|E8,show((s.length:Int)+1)/2=n by omega];ext;refine⟨E1,E1,?_⟩;rw[jk];refine jj (g:=λk:Nat=>D.int (k:Int)) (f:=λi=>f8<|(List.range n).map λj=>eT s n i j) (List.range n) (λi hi Q hq=>?_) .un [] (by simp[aR];omega) ?_;rw[Yah]at hi;ext;refine⟨E1,E1,?_⟩;rw[jk];refine jj (g:=λk:Nat=>D.int (k:Int)) (f:=λj=>D.int<|eT s n i j) (List.range n) (λj hj Q hq=>?_) .un [] (by simp[aR];omega) ?_;rw[Yah]at hj;ext;have e1:(s.map D.int)[n-1-i+j]? = some (.int<|eT s n i j):=by unfold eT;rw[cV,bE,bZ<|E1];rfl
 exact⟨_,CW (k:=n-1-i+j) E1 e1,hq⟩;rw[dR];unfold f8 at hq;rw[List.map_map]at hq;exact hq;rw[dR];unfold bD at q;rw[uK h,List.map_map]at q;exact q
theorem jM{α:Type}{xs:List α}{a b:Option Int}{x:α}(h:x∈bW xs a b):x∈xs:=by unfold bW at h;exact pA<|vN h
theorem dl_lst(h:∀x∈xs,o4 x=true):dl (.lst xs)=true:=by unfold dl;rw[rq,o4,yN,C2];exact .inr h
theorem nm_at{E:QF}(h:ρ[i]? = some (.d d)):∀P:D->Prop,P d->wN i E ρ P:=λP q=>by unfold wN;rw[h];exact q
end B
section
variable{ps:Pos}{a b:Expr}
theorem Gi:∀(i:Nat) (xs:QG),(dH i xs).length=xs.length
 |_,[]=>rfl|i,x::xs=>by rw[dH,d8,d8,Gi]
theorem Gk:∀(i j:Nat) (xs:QG) (d:D),(dH i xs)[j]? = some d->∃x,xs[j]? = some x/\d=.tup [.int ((i+j:Nat):Int),x]
 |_,_,[],_,h=>by simp[dH]at h|i,0,x::xs,d,h=>by rw[dH,eH]at h;exact⟨x,rfl,(PY h).symm⟩|i,j+1,x::xs,d,h=>by rw[dH,fe]at h;obtain⟨y,e1,e2⟩:=Gk (i+1) j xs d h;exact⟨y,by rw[fe];exact e1,by rw[e2,show i+1+j=i+(j+1) by omega]⟩
theorem sX{n1:Nat}(hm:X.mg "enumerate" = none)(ha:j6 X EX [a] t)(hg:{Gl X "enumerate"})(hs:{starEach [a] X.env=[(false,eval a X.env)]}) :
  mL X EX (.Tuple es n1 ps) (.Call (.Name "enumerate" p) [a] [] pos) (iE t):=by
 obtain⟨t,q,k⟩:=ha.t;refine⟨⟨_,JT hg hm q hs,λW0 H0 W σ H ρ E R s eo h=>?_⟩,λE ρ P P' hp h=>ha.mono _ _ _ _ (λds hd=>?_) h⟩
 .refine k W0 H0 W σ H ρ E _ s eo (ha.mono _ _ _ _ (λds hd vs W1 H1 x1 r1=>?_) h)
  split at hd
  .obtain⟨v,rfl,rv⟩:=r1.one
   obtain⟨κ,l,vs,xs,rfl,rr,hd,sq⟩:=rv.sq hd;refine⟨κ,l,rfl,⟨vs,sq W1 H1 (λ_ _ z=>z) x1.ok⟩,hd W1 H1 _ x1 λW2 H2 i g2 p2 ok2=>⟨λd hd=>?_,λhi=>?_⟩⟩
   .have s1:=sq W2 H2 g2 ok2
    obtain⟨x,ex,rfl⟩:=Gk 0 i xs d hd;obtain⟨vx,evx,rvx⟩:=rr.get ex;refine⟨⟨vs,vx,s1,evx⟩,λz H3 hy=>?_⟩;obtain⟨q,x',rfl,hq,rfl,e1⟩:=hy;have e1:=e1 _ s1;rw[evx]at e1;cases e1;have xt:=Ext.put (o:=.tup [.int i,vx]) ok2 hq;rw[rY];exact⟨_,xt,.tup (by unfold Wd.put;dsimp only;rw[aV])<|.cons (.int _)<|.cons (xt.rep<|rvx.mono g2 p2) .nil⟩
   .refine⟨vs,sq W2 H2 g2 ok2,?_⟩
    rw[rr.length];rw[Gi]at hi;omega
  .exact hd.elim
 .split at hd
  .exact isS.mono (λxs h1=>hp _ h1) _ hd
  .exact hd.elim
end
section
variable{p1 ps sp1 sp2:Pos}{a b:Expr}
def is2(Q:D->QH):D->Prop
 |.tup [x,y]=>Q x y|_=>False
theorem is2.mono{Q Q':D->QH}(h:∀x y,Q x y->Q' x y):∀d,is2 Q d->is2 Q' d:=λd z=>by unfold is2 at z ⊢;split at z;exact h _ _ z;exact z.elim
theorem LN{Q:D->QH}(h:is2 Q d):∃x y,d=.tup [x,y]/\Q x y:=by unfold is2 at h;split at h;exact⟨_,_,rfl,h⟩;exact h.elim
def vd(i:Nat)(wv w1 w2:WE):WS:=λE N ρ=>match ρ[i]? with
 |some (.ow xs)=>wv E ρ<|is2 λx y=>w1 E ρ (isI λk1=>∃j1,lC xs.length k1=some j1/\w2 E (ρ.set i<|.ow<|xs.set j1 x) (isI λk2=>∃j2,lC xs.length k2=some j2/\N.nx (ρ.set i<|.ow<|(xs.set j1 x).set j2 y)))
 |_=>False
theorem LO(i:Nat){w1 w2:WE}{ik ix2:Expr}{kt:Nat}{pt:Pos}(he:PX X EX e wv)(h1:PX X EX ik w1)(h2:PX X EX ix2 w2)(hc:{X.calm=true})(hN:{X.N[i]? = some x})(hv:autoParam (mm X.env.scope x) QP._auto_1)(hd:(QA x:))
  (hcd:((x==("__classdict__" : Str))=false:))
  (ha1:autoParam (∀ v,assign (.Subscript (.Name x p1) ik sp1) X.env v=(do
   let ov <-holding [v] (eval (.Name x p1) X.env)
   let iv <-holding [v,ov] (eval ik X.env)
   standAt sp1
   holding [v,ov,iv] (setItem ov iv v)
   release [v,ov,iv] [])) QN._auto_1)
  (ha2:autoParam (∀ v,assign (.Subscript (.Name x p2) ix2 sp2) X.env v=(do
   let ov <-holding [v] (eval (.Name x p2) X.env)
   let iv <-holding [v,ov] (eval ix2 X.env)
   standAt sp2
   holding [v,ov,iv] (setItem ov iv v)
   release [v,ov,iv] [])) QN._auto_1)
  (hs1:{(assignEach [.Subscript (.Name x p1) ik sp1,.Subscript (.Name x p2) ix2 sp2] X.env).map (·.2)=assign (.Subscript (.Name x p1) ik sp1) X.env::(assignEach [.Subscript (.Name x p2) ix2 sp2] X.env).map (·.2)})
  (hs2:{(assignEach [.Subscript (.Name x p2) ix2 sp2] X.env).map (·.2)=assign (.Subscript (.Name x p2) ix2 sp2) X.env::(assignEach [] X.env).map (·.2)})
  (hn:{(assignEach [.Subscript (.Name x p1) ik sp1,.Subscript (.Name x p2) ix2 sp2] X.env).length=2}) (hst:{(assignEach [.Subscript (.Name x p1) ik sp1,.Subscript (.Name x p2) ix2 sp2] X.env).findIdx? (·.1)=none})
  (hs:{swapsWithSole [.Tuple [.Subscript (.Name x p1) ik sp1,.Subscript (.Name x p2) ix2 sp2] kt pt] e pos.line X.env=pure false}) (hw:{swappedStores [.Tuple [.Subscript (.Name x p1) ik sp1,.Subscript (.Name x p2) ix2 sp2] kt pt] e X.env=pure none})
  (h3:{(assignEach [.Tuple [.Subscript (.Name x p1) ik sp1,.Subscript (.Name x p2) ix2 sp2] kt pt] X.env).map (·.2)=[assign (.Tuple [.Subscript (.Name x p1) ik sp1,.Subscript (.Name x p2) ix2 sp2] kt pt) X.env]}) :
  PZ X EX (.Assign [.Tuple [.Subscript (.Name x p1) ik sp1,.Subscript (.Name x p2) ix2 sp2] kt pt] e pos) (vd i wv w1 w2):=by
 obtain⟨t,pe,k⟩:=he.t;obtain⟨t1,pi1,k1⟩:=h1.t;obtain⟨t2,pi2,k2⟩:=h2.t;refine⟨⟨_,jT pe (pE hc (iI (jS (ez hN hv hd hcd) pi1 gk ha1) (iI (jS (ez hN hv hd hcd) pi2 gk ha2) lW hs2) hs1) hn hst) hs hw h3,λW0 H0 F W σ H ρ E Dn N s fl eo no h=>?_⟩,λE ρ N N' hl q=>?_⟩
 .unfold vd at h
  split at h
  .rename_i xs ex
   obtain⟨a,vs,e1,e2,e3,e4,e5,r⟩:=s.o i xs ex;have hi:i<ρ.length:=(Yaq.mp ex).1;refine k W0 H0 W σ H ρ E _ s eo<|he.mono _ _ _ _ (λd hd v W1 H1 x1 r1=>?_) h;obtain⟨dx,dy,rfl,hd⟩:=LN hd;obtain⟨q,us,rfl,sq,ru⟩:=r1.sqt x1.ok;obtain⟨vx,vy,rfl,rx,ry⟩:=ru.two;refine⟨q,[vx,vy],rfl,sq,rfl,vx,[vy],rfl,⟨_,e1,?_⟩⟩;refine k1 W0 H0 W1 σ H1 ρ E _ (s.step x1) eo<|h1.mono _ _ _ _ (λdi hdi vi W2 H2 x2 r2=>?_) hd;obtain⟨kk,rfl,j,hj,hn2⟩:=sH hdi;cases r2;have xx:=x1.trans x2;have e2':=xx.h a _ e2 e4;refine⟨a,vs,kk,j,rfl,rfl,e2',by rw[r.length];exact hj,?_⟩;have s2:=(s.step xx).chg ex e1<|Reps.set (x2.rep rx) j (xx.reps r);refine⟨vy,[],rfl,⟨_,e1,?_⟩⟩;have ex2:(ρ.set i<|.ow<|xs.set j dx)[i]? = some (.ow<|xs.set j dx):=e9 hi;obtain⟨a',vs',f1,f2,f3,f4,f5,fr⟩:=s2.o i _ ex2;refine k2 W0 H0 W2 σ _ _ E _ s2 eo<|h2.mono _ _ _ _ (λdk hdk vk W3 H3 x3 r3=>?_) hn2;obtain⟨k',rfl,j',hj',hn3⟩:=sH hdk;cases r3;have ea:a'=a:=by rw[e1]at f1;cases f1;rfl
   subst ea;have e2'':=x3.h _ _ f2 f4;refine⟨_,vs',k',j',rfl,rfl,e2'',by rw[fr.length,dQ];exact hj',rfl,?_⟩;have s3:=(s2.step x3).chg ex2 e1<|Reps.set (x3.rep<|x2.rep ry) j' (x3.reps fr);rw[List.set_set]at s3;exact no.nx W3 σ _ _ s3 ((fl.ext xx).ext x3 |> λz=>z) hn3
  .exact h.elim
 .unfold vd at q ⊢
  split at q
  .exact he.mono _ _ _ _ (is2.mono λx y hxy=>h1.mono _ _ _ _ (isI.mono λk1 ⟨j1,a1,b1⟩=>⟨j1,a1,h2.mono _ _ _ _ (isI.mono λk2 ⟨j2,a2,b2⟩=>⟨j2,a2,hl.nx _ b2⟩) b1⟩) hxy) q
  .exact q.elim
end
def Gm(f l:Qw)(i j k:Nat):Rat:=f.getD (i-k) 0*l.getD (f.length-1-j+k) 0
def LQ(f l:Qw)(i j k:Nat):Rat:=l.getD (i-k-1) 0*f.getD (f.length-j+k) 0
def sp(f l:Qw)(i j:Nat):Nat->Rat
 |0=>0|k+1=>if k<min i j then sp f l i j k+Gm f l i j k-LQ f l i j k else sp f l i j k+Gm f l i j k
abbrev Zo4:Qx:=["one", "other"]
def Gn:WS:=(aH<|wF uD<|aC (w2 fS (w2 gMul (w2 gIx (wN 0)<|wC<|.int<|0)<|w2 gIx (wN 1)<|wC<|.int<|1)<|w2 gMul (w2 gIx (wN 1)<|wC<|.int<|0)<|w2 gIx (wN 0)<|wC<|.int<|1)<|aC (w2 gMul (w2 gIx (wN 0)<|wC<|.int<|1)<|w2 gIx (wN 1)<|wC<|.int<|1) aA)
abbrev N_by:Qx:=["one", "other"]
def xE:WS:=(aH<|wF uD<|aC (w2 gMul (w2 gIx (wN 0)<|wC<|.int<|0)<|w2 gIx (wN 1)<|wC<|.int<|1)<|aC (w2 gMul (w2 gIx (wN 0)<|wC<|.int<|1)<|w2 gIx (wN 1)<|wC<|.int<|0) aA)
namespace B
theorem set_by{E:QF}(e:ρ.set i (.d d)=ρ')(hw:∀P:D->Prop,P d->w E ρ P)(h:N.nx ρ'):aT i w E N ρ:=hw _ (by rw[e];exact h)
end B
theorem LR:Rd sS Gn Zo4:=by
 rintro _ E Q ⟨⟨p,q⟩,rfl,hb,h⟩;obtain⟨b1,b2,b3,b4,b5,b6,b7,b8⟩:=hb.mul;unfold Gn;simp only[aH,wF,aC,w2,wN,wC,fL,cG,jC,eH,fe];refine sW<|ik ⟨b1,sW<|ik ⟨b2,?_⟩⟩;dsimp only;simp only[gQ,true_and];refine ik<|ik ⟨b3,?_⟩;refine⟨(_,_),rfl,⟨b6,b5⟩,?_⟩;dsimp only at h ⊢;have e:Rat.divInt (p.num*q.den-q.num*p.den) ((p.den:Int)*q.den)=p-q:=by rw[Rat.sub_def',<-By];rfl
 rw[e];exact h
theorem Go:Rd mP xE N_by:=by
 rintro _ E Q ⟨⟨p,q⟩,rfl,⟨hb,h0⟩,h⟩;dsimp only at hb h0 h;obtain⟨b1,b2,b3,b4,b5,b6,b7,b8⟩:=hb.mul;unfold xE;simp only[aH,wF,aC,w2,wN,wC,fL,cG,jC,eH,fe];refine sW<|ik ⟨b1,ik<|sW ⟨b7,?_⟩⟩;have hq:q.num≠0:=λz=>h0<|Ycq.mp z;refine⟨(_,_),rfl,⟨rZ (by exact_mod_cast p.den_nz) hq,b8⟩,?_⟩;dsimp only at h ⊢;have e:Rat.divInt (p.num*q.den) ((p.den:Int)*q.num)=p/q:=by
  rw[hU,Rat.inv_def];have:p*Rat.divInt (q.den:Int) q.num=Rat.divInt p.num p.den*Rat.divInt (q.den:Int) q.num:=by rw[tL]
  rw[this,yY]
 rw[e];exact h
theorem ve(p q:Rat):fg (aS p) (aS q)=decide (p=q):=by unfold aS;rw[LA,iD];simp only[cX,Qa,PV];constructor;rintro⟨h1,h2⟩;exact Rat.ext h1 (by exact_mod_cast h2);rintro rfl;exact⟨rfl,rfl⟩
theorem vf:aS 0=.tup [.int 0,.int 1]:=rfl
namespace B.C
noncomputable def ga(r:Qv)(k:Nat):Int:=r.getD k 0
def gr(t:K5)(k:Nat):Qv:=t.getD k []
def C4(row here:Qv)(a:Nat)(last:Int):Qv:=(List.range row.length).map λj=>(ga row j*ga here a-ga row a*ga here j).fdiv last
def C5(t:K5)(a:Nat):Qz:=((List.range<|t.length-a).map (a + ·)).filter λk=>ga (gr t k) a != 0
def C6(t:K5)(a g:Nat):K5:=(t.set a<|gr t g).set g<|gr t a
def mS(t:K5)(a k:Nat)(last:Int):K5:=(List.range t.length).map λi=>if a<i/\i<k then C4 (gr t i) (gr t a) a last else gr t i
structure C7 where
 t:K5
 s:Int
 l:Int
def C8(a:Nat)(x:C7):Option C7:=match C5 x.t a with
 |[]=>none
 |g::_=>let t1:=C6 x.t a g
  let t2:=mS t1 a t1.length x.l
  some ⟨t2,x.s*(1-2*(if g=a then 0 else 1)),ga (gr t2 a) a⟩
def C9(t:K5):Nat->Option C7
 |0=>some ⟨t,1,1⟩|a+1=>(C9 t a).bind<|C8 a
def Gp(c:Nat):Nat->Nat
 |0=>c|a+1=>2*Gp c a+1
abbrev bt:Nat->Nat:=Gp 6
structure Sm(b n:Nat)(t:K5):Prop where
 len:t.length=n
 row:∀r∈t,r.length=n
 sm:∀r∈t,∀x∈r,x.natAbs<2^b
end B.C
theorem Ag{α:Type}{wf:WT}{tail:cR}{Q:QG->Prop}{g:α->D}{p:α->Bool}:∀(L:List α),(∀a∈L,∀P:Bool->Prop,P (p a)->wf No (.d (g a)::tail) P)->∀(sv:SV) (acc:QG),acc.length+L.length<=aR->Q (acc++(L.filter p).map g)->lcW (gN 0) wf (wN 0) (L.map g) (sv::tail) acc Q
 |[],_,sv,acc,_,hq=>by simpa[lcW] using hq
 |a::L,h,sv,acc,hl,hq=>by
  rw[cG,lcW];show wf No (SV.d (g a)::tail) _;rw[d8]at hl;refine h a KE _ ?_;cases e:p a with
  |true=>rw[oI rfl];refine⟨E1,Ag L (λb hb=>h b<|by simp[hb]) _ _ (by rw[fZ,me];omega) ?_⟩;rw[List.filter_cons_of_pos e,cG]at hq;rw[kP];exact hq|false=>rw[jx<|E8];refine Ag L (λb hb=>h b<|by simp[hb]) _ _ E1 ?_;rw[List.filter_cons_of_neg (by rw[e];decide)]at hq;exact hq
namespace B.C
theorem own_by{E:QF}(e:ρ.set i (.ow xs)=ρ')(ht:∀P:QG->Prop,P xs->t E ρ P)(h:N.nx ρ'):bY i t E N ρ:=ht _ (by rw[e];exact h)
theorem pub_by{z:WS}{E:QF}(e:pub i ρ=ρ')(h:z E N ρ'):bK i z E N ρ:=by unfold bK;rw[e];exact h
theorem ixN_nat(h:k<n):lC n (k:Int)=some k:=by unfold lC;rw[oI<|E1,oI<|E1,jA]
theorem flats_nats(L:Qz):sR (L.map λ(k:Nat)=>D.int (k:Int))=true:=by
 induction L with
 |nil=>rfl|cons a L ih=>rw[cG,sR,ih];rfl
theorem swap_by{w1 w2:WE}{E:QF}{x:D}{k1 k2:Nat}(e:ρ[i]? = some (.ow xs))(hv:∀P:D->Prop,P (.tup [x,y])->wv E ρ P)(h1:∀P:D->Prop,P (.int k1)->w1 E ρ P)(h2:∀P:D->Prop,P (.int k2)->w2 E (ρ.set i<|.ow<|xs.set k1 x) P)
  (l1:k1<xs.length) (l2:k2<xs.length) (h:N.nx (ρ.set i<|.ow<|(xs.set k1 x).set k2 y)):vd i wv w1 w2 E N ρ:=by
 unfold vd;rw[e];exact hv _<|h1 _ ⟨k1,ixN_nat l1,h2 _ ⟨k2,ixN_nat l2,h⟩⟩
end B.C
def g9(x:D):Bool:=decide ((sI x).reverse=sI x)
def LT(x:D):Except Str D:=g6 x<|.ok (.bl<|g9 x)
def Da(s:Qv)(n:Nat)(y z:D):Except Str D:=if gZ n y=true/\gZ n z=true then .ok (aS<|cD (rQ y)<|bR s n<|rQ z) else .error "NoRow"
def Ah(x y z:D):Except Str D:=g6 x (if g9 x=true then Da (sI x) (sN x) y z else .error "NotEven")
def Db:bA:=xS (λx:D=>[x]) (λx=>kd x=true) LT
def qs:bA:=xS (λx:D=>[x]) (λx=>kd x=true) λx=>g6 x (if g9 x=true then .ok .non else .error "NotEven")
def lJ:bA:=xS (λx:D×D×D=>[x.1,x.2.1,x.2.2]) (λx=>kd x.1=true/\kd x.2.1=true/\kd x.2.2=true/\dG 170 x.2.1=true/\dG 170 x.2.2=true) λx=>Ah x.1 x.2.1 x.2.2
abbrev ZlQ:Qx:=["slants"]
def Gq:WS:=(aH<|w2 (gEq false) (wF zX<|aC (wN 0) aA)<|wN 0)
abbrev ZiW:Qx:=["slants"]
def Zi:WS:=(cE (bM<|wT<|wF Db<|aC (wN 0) aA) (iV<|PySem.Str.ofString "NotEven") cF)
abbrev ZlN:Qx:=["slants", "one", "other"]
def Gr:WS:=(aG (fV<|wF qs<|aC (wN 0) aA)<|aG (cE (bM<|wT<|wF rh<|aC (wN 0)<|aC (wN 1) aA) (iV<|PySem.Str.ofString "NoRow") cF)<|aH<|wF xn<|aC (wN 1)<|aC (wF uH<|aC (wN 0)<|aC (wN 2) aA) aA)
theorem LU(a b:Qv):fg (aL a) (aL b)=decide (a=b):=by
 unfold fg aL;rw[pd,pd,PyData.eqv];induction a generalizing b with
 |nil=>cases b<;>simp[gY,PyData.eqvAll]
 |cons x a ih=>
  cases b with
  |nil=>simp[gY,PyData.eqvAll]
  |cons y b=>
   rw[cG,cG,gY,gY,PyData.eqvAll,ih b,pd,pd,PyData.eqv,iD];simp
theorem LV(h:IsSl s n)(hm:∀x∈r,Sz m x):∀x∈bR s n r,Sz (5*(6+m+1)+1) x:=by intro x hx;unfold bR at hx;obtain⟨line,hl,rfl⟩:=YbQ.mp hx;obtain⟨h1,h2⟩:=nw h line hl;refine Zq _ _ (λx hx=>?_) hm (by unfold cP;rw[bQ,h1];exact h.n5);obtain⟨i,hi,rfl⟩:=YbQ.mp hx;exact CZ<|h2 i hi
theorem Dc{p:Qw}(h:IsSl s n)(hp:p.length=n)(h1:∀x∈p,Sz 170 x)(h2:∀x∈r,Sz 170 x):BR p (bR s n r):=by refine⟨170,_,h1,LV h h2,?_⟩;rw[hp];have h5:=h.n5;have:n*(170+(5*(6+170+1)+1)+1)<=5*(170+(5*(6+170+1)+1)+1):=mh _ h5;omega
theorem LW:Rd Db Gq ZlQ:=by
 rintro _ E Q ⟨x,rfl,hk,q⟩;unfold Gq;ext;cases e:dM x with
 |false=>exact xS.err x rfl hk (i7 e)<|kX e q
 |true=>obtain⟨s,n,rfl,h⟩:=l8 e;refine KN h<|jh (Fo _ 59) (Fo _ 59) ?_;replace q:=kY h q;unfold g9 at q;rw[fH]at q;simp only[eG,if_false];rw[LU];exact q
theorem LY:Rd qs Zi ZiW:=by
 rintro _ E Q ⟨x,rfl,hk,q⟩;unfold Zi;ext;cases e:dM x with
 |false=>exact xS.err x rfl hk (i7 e)<|kX e q
 |true=>
  obtain⟨s,n,rfl,h⟩:=l8 e;replace q:=kY h q;refine xS.ok (aL s) rfl hk (iB h) ?_;ext;cases ev:g9 (aL s) with
  |true=>rw[ev]at q;simpa[exQ] using q|false=>rw[ev]at q;simpa[exQ] using q
theorem LZ:Rd lJ Gr ZlN:=by
 rintro _ E Q ⟨⟨x,y,z⟩,rfl,⟨hk,hk1,hk2,hs1,hs2⟩,q⟩;dsimp only at hk hk1 hk2 hs1 hs2 q;unfold Gr;walk_at "n";cases e:dM x with
 |false=>exact xS.err x rfl hk (i7 e)<|kX e q
 |true=>
 obtain⟨s,n,rfl,h⟩:=l8 e;replace q:=kY h q;cases ev:g9 (aL s) with
 |false=>
  rw[ev]at q;exact xS.err (aL s) rfl hk (by(try dsimp only);rw[iB h,ev];rfl) q
 |true=>
 rw[ev,fH,h.sN]at q;simp only[if_true]at q;refine xS.ok (aL s) rfl hk (v:=.non) (by(try dsimp only);rw[iB h,ev];rfl) ?_;walk_at "n";refine xq h hk1 ?_;ext;unfold Da at q;cases e1:gZ n y with
 |false=>rw[e1]at q;simpa[exQ] using q
 |true=>
 obtain⟨p,rfl,hp'⟩:=sU e1;have hp:p.length=n:=E1
 simp only[gg,eG,if_false];rw[e1]at q;cases e2:gZ n z with
 |false=>
  rw[e2]at q;exact xS.err (aL s,z) rfl ⟨hk,hk2,λr er=>⟨170,Zbt.mp (by rw[<-er];exact hs2),E8⟩⟩ (by(try dsimp only);rw[iB h,h.sN,e2];rfl) (by simpa[exQ] using q)
 |true=>
 obtain⟨r,rfl,hr'⟩:=sU e2;have hr:r.length=n:=E1
 rw[e2,ji,ji]at q;refine CH h hr ⟨170,Zbt.mp hs2,E8⟩<|Fu (Dc h hp (Zbt.mp hs1)<|Zbt.mp hs2) ?_;simpa[exQ] using q
namespace B.C
mutual
def bx(b:Nat):D->Nat->Bool
 |.non,_=>true|.bl _,_=>true|.int i,_=>decide (i.natAbs<2^300)|.str x,_=>decide (x.cps.size<=4)&&x.cps.toList.all λc=>decide (c<16^8)
 |.dic,_=>true|.tup xs,n=>decide (0<n)&&decide (xs.length<=b)&&sY b xs (n-1)|.lst xs,n=>decide (0<n)&&decide (xs.length<=b)&&sY b xs (n-1)|.pen,_=>false|.cls _,_=>false|.exc _,_=>false|.ty _,_=>false|.pl _ _,_=>false|.scr _,_=>false
def sY(b:Nat):QG->Nat->Bool
 |[],_=>true|x::r,n=>bx b x n&&sY b r n
end
theorem ZmD{b:Nat}:∀{xs:QG} {n:Nat},sY b xs n=true↔∀x∈xs,bx b x n=true
 |[],_=>by simp[sY]|x::r,n=>by rw[sY,cX,ZmD];simp
theorem L4{i:Int}(h:i.natAbs<2^300):i.natAbs.log2<1920/\(PyData.shown<|.int i).length<=310:=by
 have hl:i.natAbs.log2<300:=by by_cases z:i.natAbs=0;rw[z];decide;exact(Nat.log2_lt z).mpr h
 refine⟨E1,?_⟩;have a1:=int_text_length_le (k:=300) E8 hl;have f:(PyData.shown<|.int i).length=(toString i).length:=by rw[PyData.shown];exact PySem.ofString_length _
 rw[f];omega
mutual
theorem xF{b:Nat}(hb:1<=b):∀(x:D) (n:Nat),bx b x n=true->∃p,jL x=some p/\p.showable=true/\p.depth<=n+1/\p.leavesShort 310=true/\p.bulk<=Bk b n/\(o4 x=true->p.hasDict=false)
 |.non,n,_=>⟨_,rfl,rfl,by simp[PyData.depth],rfl,by simp[PyData.bulk],λ_=>rfl⟩|.bl _,n,_=>⟨_,rfl,rfl,by simp[PyData.depth],rfl,by simp[PyData.bulk],λ_=>rfl⟩|.int i,n,h=>by rw[bx,PV]at h;obtain⟨h1,h2⟩:=L4 h;exact⟨_,rfl,by simp[PyData.showable,h1],by simp[PyData.depth],by simp[PyData.leavesShort,h2],by simp[PyData.bulk],λ_=>by simp[PyData.hasDict]⟩
 |.str x,n,h=>by rw[bx,cX,PV]at h;have:=xD hb n;exact⟨_,rfl,by simp[PyData.showable],by simp[PyData.depth],by rw[PyData.leavesShort];exact h.2,by rw[PyData.bulk];omega,λ_=>by simp[PyData.hasDict]⟩|.dic,n,h=>⟨.dict [],rfl,by simp[PyData.showable,PyData.showableKv],by simp[PyData.depth,PyData.depthKv],by simp[PyData.leavesShort,PyData.leavesShortKv],by simp[PyData.bulk,PyData.bulkKv],λz=>by rw[o4]at z;cases z⟩|.tup xs,n,h=>by rw[bx,cX,cX,PV,PV]at h;obtain⟨⟨h0,hl⟩,h⟩:=h;obtain⟨ps,e1,e2,e3,e4,e5,e6⟩:=Dd hb xs (n-1) h;refine⟨.tuple ps,by rw[jL,e1];rfl,by rw[PyData.showable];exact e2,by rw[PyData.depth];omega,by rw[PyData.leavesShort];exact e4,?_,λz=>by rw[o4]at z;rw[PyData.hasDict];exact e6 z⟩;rw[PyData.bulk];obtain⟨m,rfl⟩:∃m,n=m+1:=⟨n-1,E1⟩;rw[Bk];exact jw e5<|mh _ hl
 |.lst xs,n,h=>by rw[bx,cX,cX,PV,PV]at h;obtain⟨⟨h0,hl⟩,h⟩:=h;obtain⟨ps,e1,e2,e3,e4,e5,e6⟩:=Dd hb xs (n-1) h;refine⟨.list ps,by rw[jL,e1];rfl,by rw[PyData.showable];exact e2,by rw[PyData.depth];omega,by rw[PyData.leavesShort];exact e4,?_,λz=>by rw[o4]at z;rw[PyData.hasDict];exact e6 z⟩;rw[PyData.bulk];obtain⟨m,rfl⟩:∃m,n=m+1:=⟨n-1,E1⟩;rw[Bk];exact jw e5<|mh _ hl
 |.pen,n,h=>by rw[bx]at h;cases h
 |.cls _,n,h=>by rw[bx]at h;cases h
 |.exc _,n,h=>by rw[bx]at h;cases h
 |.ty _,n,h=>by rw[bx]at h;cases h
 |.pl _ _,n,h=>by rw[bx]at h;cases h
 |.scr _,n,h=>by rw[bx]at h;cases h
theorem Dd{b:Nat}(hb:1<=b):∀(xs:QG) (n:Nat),sY b xs n=true->∃ps,il xs=some ps/\PyData.showableAll ps=true/\PyData.depthAll ps<=n+1/\PyData.leavesShortAll 310 ps=true/\PyData.bulkAll ps<=xs.length*(Bk b n+1)/\(kO xs=true->PyData.hasDictAll ps=false)
 |[],n,_=>⟨[],rfl,rfl,by simp[PyData.depthAll],rfl,by simp[PyData.bulkAll],λ_=>rfl⟩|x::r,n,h=>by rw[sY,cX]at h;obtain⟨p,a1,a2,a3,a4,a5,a6⟩:=xF hb x n h.1;obtain⟨ps,b1,b2,b3,b4,b5,b6⟩:=Dd hb r n h.2;refine⟨p::ps,by rw[il,a1,b1],by rw[PyData.showableAll,a2,b2];rfl,by rw[PyData.depthAll];omega,by rw[PyData.leavesShortAll,a4,b4];rfl,?_,λz=>?_⟩;rw[PyData.bulkAll,d8,qe];omega;rw[kO,cX]at z;rw[PyData.hasDictAll,a6 z.1,b6 z.2];rfl
end
theorem repr_bx{x:D}(h:bx b x n=true)(hd:dl x=true)(q:Q (.str<|rz x))(hb:(1<=b:))(hn:(n<=20:))(hs:(312*Bk b n+310<=sizeLine:)):Zg2 [x] Q:=by
 obtain⟨p,h1,h2,h3,h4,h5,h6⟩:=xF hb x n h;unfold rz at q;rw[h1]at q;refine⟨x,p,rfl,h1,h2,λz=>?_,E1,?_,q⟩;unfold dl at hd;rcases Bool.or_eq_true_iff.mp hd with e|e
 exact e;rw[h6 e]at z;cases z;have:=PyData.shown_le_bulk 310 E8 p h4;have:(310+2)*p.bulk<=312*Bk b n:=Nat.mul_le_mul_left _ h5;omega
theorem Gu(hl:xs.length<=b)(h:∀x∈xs,bx b x n=true):bx b (.tup xs) (n+1)=true:=by rw[bx,PR hl,PR<|Nat.succ_pos n,ZmD.mpr<|by simpa using h];rfl
theorem bx_lst(hl:xs.length<=b)(h:∀x∈xs,bx b x n=true):bx b (.lst xs) (n+1)=true:=by rw[bx,PR hl,PR<|Nat.succ_pos n,ZmD.mpr<|by simpa using h];rfl
theorem L5(hb:2<=b)(h:Sz 223 q):bx b (aS q) (n+1)=true:=by
 unfold aS;refine Gu hb λx hx=>?_;simp only[Yan,hJ,or_false]at hx;have h1:q.num.natAbs<2^300:=yE h.1 E8;have h2:(q.den:Int).natAbs<2^300:=yE (by simpa using h.2) (by decide:2^223<2^300);rcases hx with rfl|rfl
 rw[bx,PR h1];rw[bx,PR h2]
theorem bx_rowq(hb:2<=b)(hl:r.length<=b)(h:∀x∈r,Sz 223 x):bx b (aE r) (n+2)=true:=by unfold aE;refine Gu (by simpa using hl) λx hx=>?_;obtain⟨q,hq,rfl⟩:=YbQ.mp hx;exact L5 hb<|h q hq
end B.C
section
def jl(Ss:List (Str×bA))(wc:WE)(t:WA):WE:=λE ρ Q=>wc E ρ λd=>∃x∈Ss,d=.cls x.1/\t E ρ λds=>x.2 ds E Q
def uN(X:Cx)(j:Nat)(x:Str×bA):Prop:=∃a k ps,X.mg x.1=some (.ref a)/\jb X.K x.1=some a/\k<=j/\Fp X.prog X.w X.K X.mg X.base k x.1 ps x.2
theorem xG(hr:Room j X.A)(hx:dU (gu X.prog X.w) X EX)(hG:∀x∈Ss,uN X j x)(hc:PX X EX c wc)(ha:j6 X EX (e::es) t)
  (hcall:{eval (.Call c (e::es) [] pos) X.env=(do callWith pos (<-eval c X.env) [] (backTo pos<|starEach (e::es) X.env) (backToKw pos<|keywordEach [] X.env))})
  (he:{QD X e es}) (hpl:{QE X pos es}) :
  PX X EX (.Call c (e::es) [] pos) (jl Ss wc t):=by
 obtain⟨tc,pc,kc⟩:=hc.t;obtain⟨ta,pa,ka⟩:=ha.t;refine⟨⟨_,JV hx pc pa hcall he hpl,λW0 H0 W σ H ρ E Q s eo h=>?_⟩,λE ρ P P' hp z=>hc.mono _ _ _ _ (λd ⟨x,hm,ed,q⟩=>⟨x,hm,ed,ha.mono _ _ _ _ (λds hds=>?_) q⟩) z⟩
 .refine kc W0 H0 W σ H ρ E _ s eo (hc.mono _ _ _ _ (λd ⟨x,hm,ed,q⟩ v W1 H1 x1 r1=>?_) h)
  subst ed;obtain⟨a,k,ps,hma,hca,hk,⟨f,fd,F,hmf,kp,hb⟩,mono⟩:=hG x hm;cases r1 with
  |cls ec=>
   rw[hca]at ec;cases ec;rw[hma]at hmf;cases hmf;refine⟨_,k,fd,ps,_,rfl,F,hr.mono hk,kp,hb,ka W0 H0 W1 σ H1 ρ E _ (s.step x1) eo<|ha.mono _ _ _ _ (λds hds vs W2 H2 x2 r2=>?_) q⟩;refine⟨ds,W2,x2.ok,r2,mono _ _ _ _ _ (λex hex W' H' cls dx x' r'=>?_) (λd hd=>RQ.ext hd<|x1.trans x2) hds⟩;exact eo ex W' H' cls dx hex (s.ext.trans<|(x1.trans x2).trans x') r'
 .obtain⟨a,k,ps,_,_,_,G⟩:=hG x hm
  exact G.mono _ _ _ _ _ (λ_ q=>q) hp hds
end
theorem xH:∀x∈([]:List (Str×bA)),uN X j x:=λ_ h=>nomatch h
theorem L6{a:Str×bA}{l:List (Str×bA)}(h:uN X j a)(t:∀x∈l,uN X j x):∀x∈a::l,uN X j x:=λx hx=>(Yan.mp hx).elim (λe=>e▸h)<|t x
namespace B.C
theorem or_by{w w':WT}{E:QF}{b c:Bool}(hw:∀ P:Bool->Prop,P b->w E ρ P)(hw':∀ P:Bool->Prop,P c->w' E ρ P):∀ P:Bool->Prop,P (b || c)->eU w w' E ρ P:=λP h=>hw _ (by
 cases b with
 |true=>rw[oI rfl];exact h
 |false=>rw[jx<|E8];exact hw' _ h)
theorem own_rl{E:QF}(R:QG->Prop)(ht:∀P:QG->Prop,(∀xs,R xs->P xs)->t E ρ P)(h:∀xs,R xs->N.nx (ρ.set i<|.ow xs)):bY i t E N ρ:=ht _ h
theorem for_seq{E:QF}(hw:∀P:D->Prop,P (.lst xs)->w E ρ P)(h:Zbf g zb E N xs ρ):bH (iS w) g zb E N ρ:=hw _ h
theorem tbl_Sm(h:IsSl s n):Sm 6 n (tbl s n):=⟨kN s n,λr hr=>(nw h r hr).1,λr hr x hx=>by
 have:=(nw h r hr).2 x hx;show x.natAbs<64;omega⟩
end B.C
def gS(s:Qv)(n:Nat)(x:D)(u:Qw):Bool:=gZ n x&&decide (bR s n (rQ x)=u)
def uO(s:Qv)(n:Nat):D->Bool
 |.tup [a,b]=>gS s n a (aX n 0)&&gS s n b (aX n<|n-1)|_=>false
def rC:bA:=fnS (λx:Nat×Nat=>[.int x.1,.int x.2]) (λx=>x.2<=5) λx=>aE<|aX x.2 x.1
def uP:bA:=fnS (λx:SL×D×Qw=>[aL x.1.1,x.2.1,aE x.2.2]) (λx=>IsSl x.1.1 x.1.2/\kd x.2.1=true/\dG 300 x.2.1=true) λx=>.bl<|gS x.1.1 x.1.2 x.2.1 x.2.2
def Ai:bA:=fnS (λx:SL×D=>[aL x.1.1,x.2]) (λx=>IsSl x.1.1 x.1.2/\kd x.2=true/\dG 300 x.2=true) λx=>.bl<|uO x.1.1 x.1.2 x.2
section
variable{E:QF}{x:D}
theorem vg(h:n<=5)(q:Q (aE<|aX n k)):rC [.int k,.int n] E Q:=⟨(k,n),rfl,h,q⟩
theorem Aj(h:IsSl s n)(h1:kd x=true)(h2:dG 300 x=true)(q:Q (.bl<|gS s n x r)):uP [aL s,x,aE r] E Q:=⟨((s,n),x,r),rfl,⟨h,h1,h2⟩,q⟩
theorem L7(h:IsSl s n)(h1:kd x=true)(h2:dG 300 x=true)(q:Q (.bl<|uO s n x)):Ai [aL s,x] E Q:=⟨((s,n),x),rfl,⟨h,h1,h2⟩,q⟩
end
theorem De{α:Type}[DecidableEq α]{f:α->D}(h:∀a b,fg (f a) (f b)=decide (a=b)):∀xs ys:List α,PyData.eqvAll (gY<|xs.map f) (gY<|ys.map f)=decide (xs=ys)
 |[],[]=>by simp[gY,PyData.eqvAll]|[],_::_=>by simp[gY,PyData.eqvAll]|_::_,[]=>by simp[gY,PyData.eqvAll]|x::xs,y::ys=>by have:=h x y;unfold fg at this;rw[cG,cG,gY,gY,PyData.eqvAll,this,De h xs ys,iD];simp
theorem L8{α:Type}[DecidableEq α]{f:α->D}(h:∀a b,fg (f a) (f b)=decide (a=b))(xs ys:List α):fg (.tup<|xs.map f) (.tup<|ys.map f)=decide (xs=ys):=by unfold fg;rw[pd,pd,PyData.eqv,De h]
theorem L9{α:Type}[DecidableEq α]{f:α->D}(h:∀a b,fg (f a) (f b)=decide (a=b))(xs ys:List α):fg (.lst<|xs.map f) (.lst<|ys.map f)=decide (xs=ys):=by unfold fg;rw[pd,pd,PyData.eqv,De h]
theorem Ak(a b:Qw):fg (aE a) (aE b)=decide (a=b):=L8 ve a b
abbrev Znu:Qx:=["place", "many"]
def Gv:WS:=(aH<|wF xm<|aC (wL<|aLC (fb<|aC (wN 1) aA) 1 [0] (gN 0) cC<|wB iP<|aC (w2 (gEq false) (wN 0)<|wN 1) aA) aA)
abbrev Zo5:Qx:=["slants", "thing", "row"]
def Gw:WS:=(aH<|ft (wF rh<|aC (wN 0)<|aC (wN 1) aA)<|w2 (gEq false) (wF uH<|aC (wN 0)<|aC (wN 1) aA)<|wN 2)
abbrev Zi0:Qx:=["slants", "thing", "size"]
def Gx:WS:=(aG (cE (eU (bM<|wT<|wB gIs<|aC (wN 1)<|aC (wC<|.ty "tuple") aA)<|wT<|w2 (gEq true) (wB bV<|aC (wN 1) aA)<|wC<|.int<|2) (aH<|wC<|D.bl false) cF)<|aG (aT 2<|wF jJ<|aC (wN 0) aA)<|aH<|ft (wF uP<|aC (wN 0)<|aC (w2 gIx (wN 1)<|wC<|.int<|0)<|aC (wF rC<|aC (wC<|.int<|0)<|aC (wN 2) aA) aA)<|wF uP<|aC (wN 0)<|aC (w2 gIx (wN 1)<|wC<|.int<|1)<|aC (wF rC<|aC (w2 fS (wN 2)<|wC<|.int<|1)<|aC (wN 2) aA) aA)
theorem ku(n k:Nat):(aX n k).length=n:=by unfold aX;rw[bQ,nb]
theorem Gy(n k:Nat):cP ((List.range n).map λi:Nat=>if(i:Int)=(k:Int) then(1:Int) else 0)=aX n k:=by unfold cP aX;rw[List.map_map];refine ir λi _=>?_;show(((if(i:Int)=(k:Int) then(1:Int) else 0):Int):Rat)=_;by_cases e:i=k;rw[oI<|E1,oI e];rfl;rw[jx<|E1,jx e];rfl
theorem Ma:Rd rC Gv Znu:=by rintro _ E Q ⟨⟨k,n⟩,rfl,h,q⟩;dsimp only at h q;unfold Gv;ext;refine⟨E1,E1,?_⟩;rw[jk];refine jj (g:=λi:Nat=>D.int (i:Int)) (f:=λi:Nat=>D.int (if(i:Int)=(k:Int) then 1 else 0)) (List.range n) (λi hi Q hq=>?_) .un [] (by simp[aR];omega) ?_;ext;by_cases e:(i:Int)=(k:Int);rw[oI e]at hq;simpa[e] using hq;rw[jx e]at hq;simpa[e] using hq;have:=Ft (E:=E) (Q:=Q) (xs:=(List.range n).map λi:Nat=>if(i:Int)=(k:Int) then(1:Int) else 0) (by simp;omega) (by rw[Gy];exact q);unfold f8 at this;rw[List.map_map]at this;exact this
theorem Mb:Rd uP Gw Zo5:=by
 rintro _ E Q ⟨⟨⟨s,n⟩,x,u⟩,rfl,⟨h,hk,hs⟩,q⟩;dsimp only at h hk hs q;unfold Gw;ext;refine xq h hk ?_;ext;unfold gS at q;cases e:gZ n x with
 |false=>rw[e]at q;simpa using q|true=>rw[e]at q;obtain⟨r,rfl,hr⟩:=sU e;simp only[if_true];refine CH h E1 ⟨300,Zbt.mp hs,E8⟩<|jh (rf _ 58) (rf _ 58) ?_;simp only[eG,if_false];rw[Ak];rw[ji,i4]at q;exact q
theorem Mc{a b:D}(h:dG m (.tup [a,b])=true):dG m a=true/\dG m b=true:=by rw[dG,ZcB]at h;exact⟨h a<|KE,h b<|KE⟩
theorem Md{a b:D}(h:kd (.tup [a,b])=true):kd a=true/\kd b=true:=⟨(qa h).2 a<|KE,(qa h).2 b<|KE⟩
theorem Me(h:xs.length≠2):uO s n (.tup xs)=false:=by
 match xs,h with
 |[],_=>rfl|[_],_=>rfl|[_,_],h=>exact PQ rfl h|_::_::_::_,_=>rfl
theorem Gz(h:xs.length=2):∃a b,xs=[a,b]:=by
 match xs,h with
 |[a,b],_=>exact⟨a,b,rfl⟩
theorem Mf:Rd Ai Gx Zi0:=by
 rintro _ E Q ⟨⟨⟨s,n⟩,x⟩,rfl,⟨h,hk,hs⟩,q⟩;dsimp only at h hk hs q;have n1:=h.n1;have n5:=h.n5;unfold Gx;walk_at "n";refine qb hk E8 λty ht=>?_;cases x<;>cases ht<;>try exact q
 rename_i xs;ext;simp only[show ii "tuple" "tuple" = true from rfl,gg,eG,if_false];by_cases e:xs.length=2;obtain⟨a,b,rfl⟩:=Gz e;obtain⟨sa,sb⟩:=Mc hs;obtain⟨ka,kb⟩:=Md hk;simp only[d8,iF];rw[jx<|KE];walk_at "n";refine nu h ?_;ext;refine⟨a,rfl,vg (k:=0) n5<|Aj h ka sa ?_⟩;ext;replace q:Q (.bl (gS s n a (aX n 0)&&gS s n b (aX n<|n-1))):=q;cases ea:gS s n a (aX n 0) with
 |false=>rw[ea]at q;simpa using q|true=>rw[ea,i4]at q;simp only[if_true];refine⟨b,rfl,?_⟩;rw[show(n:Int)-1=((n-1:Nat):Int) by omega];exact vg n5<|Aj h kb sb q
 rw[Me e]at q;rw[oI<|by simpa using λz=>e<|by exact_mod_cast z];exact q
noncomputable def aZ(a:Qw)(s:Rat)(c:Qw):Qw:=List.zipWith (λl r=>l-s*r) a c
def kf(a:Qw)(s:Rat):Qw:=a.map λx=>x/s
def dF:K4->Nat->Option Nat
 |[],_=>none|r::R,p=>if r.getD p 0=0 then(dF R p).map (· + 1) else some 0
def cM(R:K4)(lead:Qw)(p:Nat):K4:=R.map λr=>aZ r (r.getD p 0) lead
structure Cl where
 ld:K4
 pl:Qz
 rs:K4
def o5(R:K4)(a p:Nat):Qw:=kf (R.getD a [])<|(R.getD a []).getD p 0
def uQ(p:Nat)(x:Cl):Cl:=match dF x.rs p with|none=>x|some a=>⟨cM x.ld (o5 x.rs a p) p++[o5 x.rs a p],x.pl++[p],cM (x.rs.take a++x.rs.drop (a+1)) (o5 x.rs a p) p⟩
def cN(R:K4):Nat->Cl
 |0=>⟨[],[],R⟩|p+1=>uQ p<|cN R p
structure Lf(b m:Nat)(row:Qw):Prop where
 ex:∃(c:Qv) (e:Int),c.length=m/\e≠0/\e.natAbs<2^b/\(∀x∈c,x.natAbs<2^b)/\row=c.map λx=>Rat.divInt x e
theorem Lf.len(h:Lf b m row):row.length=m:=by obtain⟨c,e,h1,_,_,_,rfl⟩:=h.ex;rw[bQ];exact h1
theorem Lf.mono{b':Nat}(l:b<=b')(h:Lf b m row):Lf b' m row:=by obtain⟨c,e,h1,h2,h3,h4,h5⟩:=h.ex;have p:2^b<=2^b':=rW E8 l;exact⟨c,e,h1,h2,dN h3 p,λx hx=>dN (h4 x hx) p,h5⟩
theorem Lf.sz(h:Lf b m row):∀x∈row,Sz b x:=by obtain⟨c,e,h1,h2,h3,h4,rfl⟩:=h.ex;intro x hx;obtain⟨y,hy,rfl⟩:=YbQ.mp hx;exact z9 h2 (h4 y hy) h3
theorem Lf.get(h:Lf b m row)(hk:k<m):row[k]? = some (row.getD k 0)/\Sz b (row.getD k 0):=by
 have e:row[k]? = some (row.getD k 0):=by rw[bE,bZ (by rw[h.len];exact hk)];rfl
 exact⟨e,h.sz _<|pj e⟩
theorem Lf.int{c:Qv}(hb:0<b)(h:∀x∈c,x.natAbs<2^b):Lf b c.length (cP c):=by refine⟨c,1,rfl,E8,?_,h,?_⟩;show 1<2^b;exact Bv E1;unfold cP;exact ir λx _=>by have:=tL (x:Rat);rw[Br,Bu]at this;exact this.symm
theorem Mg{c e:Int}(he:e≠0):Rat.divInt c e≠0↔c≠0:=by
 constructor;rintro h rfl;exact h<|Rat.zero_divInt e
 intro h z;have e1:Rat.divInt c e*Rat.divInt e c=1:=by rw[yY,yZ e c];have:=vO (n:=1) (d:=1)<|rZ h he;rw[Int.one_mul]at this;rw[this];rfl
 rw[z,ky]at e1;exact PQ e1 E8
theorem Lf.norm{p:Nat}(h:Lf b m row)(hp:p<m)(h0:row.getD p 0≠0):Lf b m (kf row<|row.getD p 0):=by
 obtain⟨c,e,h1,h2,h3,h4,rfl⟩:=h.ex;have hc:c[p]? = some (c.getD p 0):=by rw[bE,bZ<|E1];rfl
 have eg:(c.map λx=>Rat.divInt x e).getD p 0=Rat.divInt (c.getD p 0) e:=by rw[bE,cV,hc];rfl
 rw[eg]at h0 ⊢;have hc0:c.getD p 0≠0:=(Mg h2).mp h0;refine⟨c,c.getD p 0,h1,hc0,h4 _<|pj hc,h4,?_⟩;unfold kf;rw[List.map_map];refine ir λx _=>?_;show Rat.divInt x e/(Rat.divInt (c.getD p 0) e)=Rat.divInt x (c.getD p 0);rw[hU,Rat.inv_divInt,yY _ _ ,yZ e];exact vO h2
theorem Mh{w x y z:Int}(h1:w.natAbs<2^b)(h2:x.natAbs<2^b)(h3:y.natAbs<2^b)(h4:z.natAbs<2^b):(w*x-y*z).natAbs<2^(2*b+1):=by
 have m1:(w*x).natAbs<2^b*2^b:=by rw[ge];exact sd h1 h2
 have m2:(y*z).natAbs<2^b*2^b:=by rw[ge];exact sd h3 h4
 have:=BB (w*x)<|y*z;rw[yT,show 2*b=b+b by omega,mf];omega
theorem Lf.less{p:Nat}{piv:Qw}(h:Lf b m row)(hq:Lf b m piv)(hp:p<m):Lf (2*b+1) m (aZ row (row.getD p 0) piv):=by
 obtain⟨c,e,h1,h2,h3,h4,rfl⟩:=h.ex;obtain⟨d,f,g1,g2,g3,g4,rfl⟩:=hq.ex;have hc:c[p]? = some (c.getD p 0):=by rw[bE,bZ<|E1];rfl
 have eg:(c.map λx=>Rat.divInt x e).getD p 0=Rat.divInt (c.getD p 0) e:=by rw[bE,cV,hc];rfl
 rw[eg];have bc:(c.getD p 0).natAbs<2^b:=h4 _<|pj hc;refine⟨List.zipWith (λx y=>x*f-c.getD p 0*y) c d,e*f,by rw[kx];omega,rZ h2 g2,?_,λz hz=>?_,?_⟩
 rw[ge,yT,show 2*b=b+b by omega,mf];have:=sd h3 g3;omega;obtain⟨i,hi,e1⟩:=Ybt.mp hz;rw[qy]at e1;rw[<-e1];exact Mh (h4 _<|i3 _) g3 bc<|g4 _ (i3 _)
 unfold aZ;rw[List.zipWith_map,y0];refine congrArg (λg=>List.zipWith g c d) ?_;funext x y;rw[yY,Rat.divInt_sub_divInt _ _ h2<|rZ h2 g2];rw[show x*(e*f)-c.getD p 0*y*e=(x*f-c.getD p 0*y)*e by grind,yZ e<|e*f];exact(vO h2)
def bq(b:Nat):Nat->Nat
 |0=>b|k+1=>2*bq b k+1
theorem sZ{b:Nat}:∀{k k':Nat},k<=k'->bq b k<=bq b k'
 |k,0,h=>by rw[Nat.le_zero.mp h];exact cO _|k,k'+1,h=>by by_cases e:k=k'+1;rw[e];exact cO _;have:=sZ (b:=b) (k:=k) (k':=k') E1;rw[bq];omega
theorem vh:∀{R:K4} {p a:Nat},dF R p=some a->a<R.length/\(R.getD a []).getD p 0≠0
 |[],_,_,h=>nomatch h
 |r::R,p,a,h=>by
  rw[dF]at h;split at h;cases e:dF R p with
  |none=>rw[e]at h;cases h
  |some b=>
   rw[e]at h;have h':b+1=a:=by simpa using h
   subst h';obtain⟨h1,h2⟩:=vh e;exact⟨by simpa using h1,by simpa using h2⟩
  rename_i h0;have h':0=a:=by simpa using h
  subst h';exact⟨KE,by simpa using h0⟩
structure qc(b w p m:Nat)(x:Cl):Prop where
 ld:∀r∈x.ld,Lf (bq b p) w r
 rs:∀r∈x.rs,Lf (bq b p) w r
 ln:x.ld.length+x.rs.length=m
 pl:x.pl.length=x.ld.length
 lt:∀a∈x.pl,a<p
theorem jm{R:K4}{a:Nat}(h:a<R.length):R.getD a []∈R:=by rw[bE,bZ h];exact i3 _
theorem jM{α:Type}{R:List α}{a:Nat}{r:α}(h:r∈R.take a++R.drop (a+1)):r∈R:=by
 rcases Yao.mp h with h|h
 exact vN h;exact pA h
theorem GA{w p a:Nat}{x:Cl}(h:qc b w p m x)(hp:p<w)(e:dF x.rs p=some a):Lf (bq b p) w (o5 x.rs a p):=by obtain⟨h1,h2⟩:=vh e;exact(h.rs _<|jm h1).norm hp h2
theorem Mi{w p:Nat}{x:Cl}(h:qc b w p m x)(hp:p<w):qc b w (p+1) m (uQ p x):=by
 have up:bq b p<=bq b (p+1):=sZ E1;unfold uQ;split;exact⟨λr hr=>(h.ld r hr).mono up,λr hr=>(h.rs r hr).mono up,h.ln,h.pl,λa ha=>y2<|h.lt a ha⟩;rename_i a e;have hl:=GA h hp e;obtain⟨h1,h2⟩:=vh e;have ln:=h.ln;refine⟨λr hr=>?_,λr hr=>?_,?_,?_,λc hc=>?_⟩;rcases Yao.mp hr with hr|hr
 unfold cM at hr;obtain⟨r0,hr0,rfl⟩:=YbQ.mp hr;exact(h.ld r0 hr0).less hl hp;rw[YcC.mp hr];exact hl.mono up;unfold cM at hr;obtain⟨r0,hr0,rfl⟩:=YbQ.mp hr;exact(h.rs r0<|jM hr0).less hl hp;show(cM _ _ _++[_]).length+(cM _ _ _).length=m;unfold cM;simp only[fZ,bQ,me,m6,m8];omega;show(x.pl++[p]).length=(cM _ _ _++[_]).length;unfold cM;rw[fZ,fZ,bQ,h.pl];rfl;rcases Yao.mp hc with hc|hc
 exact y2<|h.lt c hc
 rw[YcC.mp hc];exact Nat.lt_succ_self p
theorem uR{b w:Nat}{R:K4}(h:∀r∈R,Lf b w r):∀{p:Nat},p<=w->qc b w p R.length (cN R p)
 |0,_=>⟨(λr hr=>by cases hr),h,(by simp[cN]),rfl,(λa ha=>by cases ha)⟩|p+1,hp=>Mi (uR h<|E1) E1
def aM(R:K4):D:=.lst<|R.map aE
def qd(xs:Qz):D:=.lst<|xs.map λ(k:Nat)=>D.int (k:Int)
def rD:Option Nat->D
 |none=>.non|some a=>.int (a:Int)
def Rz(b w:Nat)(R:K4):Prop:=∀r∈R,r.length=w/\∀x∈r,Sz b x
def xI:bA:=fnS (λx:Nat×Qw×Rat=>[aE x.2.1,aS x.2.2]) (λx=>2*x.1<8990/\x.2.1.length<=1000/\(∀y∈x.2.1,Sz x.1 y)/\Sz x.1 x.2.2/\x.2.2≠0) λx=>aE<|kf x.2.1 x.2.2
def qt:bA:=fnS (λx:(Nat×Nat×Nat)×Qw×Rat×Qw=>[aE x.2.1,aS x.2.2.1,aE x.2.2.2]) (λx=>x.1.1+x.1.2.1+x.1.2.2<8990/\x.2.1.length<=1000/\(∀y∈x.2.1,Sz x.1.1 y)/\Sz x.1.2.1 x.2.2.1/\∀y∈x.2.2.2,Sz x.1.2.2 y) λx=>aE<|aZ x.2.1 x.2.2.1 x.2.2.2
def Al:bA:=fnS (λx:Nat×K4=>[aM x.2,.int x.1]) (λx=>x.2.length<=1000/\∀r∈x.2,x.1<r.length) λx=>rD<|dF x.2 x.1
def xJ:bA:=fnS (λx:((Nat×Nat)×Nat)×K4×Qw=>[aM x.2.1,aE x.2.2,.int x.1.2]) (λx=>3*x.1.1.1<8990/\x.1.1.2<=1000/\x.2.1.length<=1000/\x.1.2<x.1.1.2/\Rz x.1.1.1 x.1.1.2 x.2.1/\∀y∈x.2.2,Sz x.1.1.1 y) λx=>aM<|cM x.2.1 x.2.2 x.1.2
structure ClIn(b w m:Nat)(R:K4):Prop where
 mw:m<=w
 w1:w<=1000
 len:R.length<=1000
 bits:3*bq b (m-1)<8990
 lf:∀r∈R,Lf b w r
structure xK(w m:Nat)(R:K4):Prop where
 mw:m<=w
 w1:w<=1000
 len:R.length<=1000
 ln:∀p,p<m->(cN R p).ld.length+(cN R p).rs.length=R.length/\(cN R p).pl.length=(cN R p).ld.length
 rl:∀p,p<m->∀r∈(cN R p).rs,r.length=w
 st:∀p,p<m->∀a,dF (cN R p).rs p=some a->(∃B,2*B<8990/\∀y∈(cN R p).rs.getD a [],Sz B y)/\(∃B,3*B<8990/\Rz B w (cN R p).ld/\∀y∈o5 (cN R p).rs a p,Sz B y)/\∃B,3*B<8990/\Rz B w ((cN R p).rs.take a++(cN R p).rs.drop (a+1))/\∀y∈o5 (cN R p).rs a p,Sz B y
theorem ClIn.z{w:Nat}{R:K4}(h:ClIn b w m R):xK w m R:=by
 have mw:=h.mw;have ok:∀p,p<m->qc b w p R.length (cN R p):=λp hp=>uR h.lf E1;refine⟨h.mw,h.w1,h.len,λp hp=>⟨(ok p hp).ln,(ok p hp).pl⟩,λp hp r hr=>((ok p hp).rs r hr).len,λp hp a e=>?_⟩;have o:=ok p hp;obtain⟨a1,a2⟩:=vh e;have hbp:3*bq b p<8990:=by have:=sZ (b:=b) (show p<=m-1 by omega);have:=h.bits;omega
 have hlead:=GA o (show p<w by omega) e;exact⟨⟨bq b p,E1,(o.rs _<|jm a1).sz⟩,⟨bq b p,hbp,λr hr=>⟨(o.ld r hr).len,(o.ld r hr).sz⟩,hlead.sz⟩,bq b p,hbp,λr hr=>⟨(o.rs r<|jM hr).len,(o.rs r<|jM hr).sz⟩,hlead.sz⟩
def vm:bA:=fnS (λx:(Nat×Nat)×K4=>[aM x.2,.int x.1.2]) (λx=>xK x.1.1 x.1.2 x.2) λx=>.tup [aM (cN x.2 x.1.2).ld,qd (cN x.2 x.1.2).pl]
def mT(place n:Nat)(L:K4)(pl:Qz):Qw:=(L.zip pl).foldl (λrow x=>row.set x.2<|0-x.1.getD place 0)<|aX n place
def eO(s:Qv)(n:Nat):K4:=(tbl s n).map cP
def dY(s:Qv)(n:Nat):Cl:=cN (eO s n) n
def fO(s:Qv)(n:Nat):K4:=((List.range n).filter λp=>!(dY s n).pl.contains p).map λp=>mT p n (dY s n).ld (dY s n).pl
def ip(n:Nat):Nat->K4->K4
 |_,[]=>[]|k,r::R=>(r++aX n k)::ip n (k+1) R
def eE(s:Qv)(n:Nat):K4:=ip n 0<|eO s n
def gT(s:Qv)(n:Nat):K4:=(cN (eE s n) n).ld.map λr=>r.drop n
def jn(s:Qv)(n:Nat):K4:=(List.range (gT s n).length).map λp=>(gT s n).map λr=>r.getD p 0
def Am:bA:=fnS (λx:(Nat×Nat)×K4×Qz=>[.int x.1.1,.int x.1.2,aM x.2.1,qd x.2.2]) (λx=>x.1.1<x.1.2/\x.1.2<=5/\x.2.1.length<=5/\(∀r∈x.2.1,r.length=x.1.2/\∀y∈r,Sz 223 y)/\∀a∈x.2.2,a<x.1.2) λx=>aE<|mT x.1.1 x.1.2 x.2.1 x.2.2
def An(x:D):Except Str D:=g6 x<|.ok (aM<|fO (sI x)<|sN x)
def Ao(x:D):Except Str D:=g6 x<|.ok (.int ((fO (sI x)<|sN x).length:Int))
def Ap(x:D):Except Str D:=g6 x<|.ok (.bl<|decide (fO (sI x) (sN x)=[]))
def GB(x:D):Except Str D:=g6 x (if fO (sI x) (sN x)=[] then .ok .non else .error "NotFull")
def uS:bA:=xS (λx:D=>[x]) (λx=>kd x=true) An
def xL:bA:=xS (λx:D=>[x]) (λx=>kd x=true) Ao
def xM:bA:=xS (λx:D=>[x]) (λx=>kd x=true) Ap
def xN:bA:=xS (λx:D=>[x]) (λx=>kd x=true) GB
def xO:bA:=fnS (λx:SL=>[aL x.1]) (λx=>IsSl x.1 x.2) λx=>aM<|gT x.1 x.2
def xP:bA:=fnS (λx:SL=>[aL x.1]) (λx=>IsSl x.1 x.2) λx=>aM<|jn x.1 x.2
section
variable{E:QF}{x:D}{w p:Nat}{t:Qw}{R L:K4}{pl:Qz}
theorem GC(h1:2*b<8990)(h2:r.length<=1000)(h3:∀y∈r,Sz b y)(h4:Sz b q0)(h5:q0≠0)(q:Q (aE<|kf r q0)):xI [aE r,aS q0] E Q:=⟨(b,r,q0),rfl,⟨h1,h2,h3,h4,h5⟩,q⟩
theorem GD{a c:Nat}(h0:a+b+c<8990)(h1:r.length<=1000)(h2:∀y∈r,Sz a y)(h3:Sz b q0)(h4:∀y∈t,Sz c y)(q:Q (aE<|aZ r q0 t)):qt [aE r,aS q0,aE t] E Q:=⟨((a,b,c),r,q0,t),rfl,⟨h0,h1,h2,h3,h4⟩,q⟩
theorem Df(h1:3*b<8990)(h2:r.length<=1000)(h3:∀y∈r,Sz b y)(h4:Sz b q0)(h5:∀y∈t,Sz b y)(q:Q (aE<|aZ r q0 t)):qt [aE r,aS q0,aE t] E Q:=GD (a:=b) (b:=b) (c:=b) E1 h2 h3 h4 h5 q
theorem Mj(h1:R.length<=1000)(h2:∀r∈R,p<r.length)(q:Q (rD<|dF R p)):Al [aM R,.int p] E Q:=⟨(p,R),rfl,⟨h1,h2⟩,q⟩
theorem GE(h1:3*b<8990)(h2:w<=1000)(h3:R.length<=1000)(h4:p<w)(h5:Rz b w R)(h6:∀y∈lead,Sz b y)(q:Q (aM<|cM R lead p)):xJ [aM R,aE lead,.int p] E Q:=⟨(((b,w),p),R,lead),rfl,⟨h1,h2,h3,h4,h5,h6⟩,q⟩
theorem GF(h:ClIn b w m R)(q:Q (.tup [aM (cN R m).ld,qd (cN R m).pl])):vm [aM R,.int m] E Q:=⟨((w,m),R),rfl,h.z,q⟩
theorem Mk(h1:p<n)(h2:n<=5)(h3:L.length<=5)(h4:∀r∈L,r.length=n/\∀y∈r,Sz 223 y)(h5:∀a∈pl,a<n)(q:Q (aE<|mT p n L pl)):Am [.int p,.int n,aM L,qd pl] E Q:=⟨((p,n),L,pl),rfl,⟨h1,h2,h3,h4,h5⟩,q⟩
theorem Ml(h:IsSl s n)(q:Q (aM<|gT s n)):xO [aL s] E Q:=⟨(s,n),rfl,h,q⟩
theorem Mm(h:IsSl s n)(q:Q (aM<|jn s n)):xP [aL s] E Q:=⟨(s,n),rfl,h,q⟩
end
abbrev Znt:Qx:=["row", "share"]
def Dg:WS:=(aH<|wB je<|aC (wL<|aLC (iS<|wN 0) 1 [1] (gN 0) cC<|wF mP<|aC (wN 0)<|aC (wN 1) aA) aA)
abbrev ZjR:Qx:=["one", "share", "other"]
def Dh:WS:=(aH<|wB je<|aC (wL<|aLC (iZ<|aC (wN 0)<|aC (wN 2) aA) 2 [1] (dB 2<|bN (gN 0)<|bN (gN 1) cS) cC<|wF sS<|aC (wN 0)<|aC (wF rg<|aC (wN 2)<|aC (wN 1) aA) aA) aA)
abbrev Zhu:Qx:=["rows", "place", "at", "row"]
def Di:WS:=(aG (bF<|bH (iE<|aC (wN 0) aA) (dB 2<|bN (gN 2)<|bN (gN 3) cS)<|cE (wT<|w2 (gEq true) (w2 gIx (wN 3)<|wN 1)<|wC<|D.tup [(D.int<|0),(D.int<|1)]) (aH<|wN 2) cF)<|aH<|wC D.non)
abbrev Zfy:Qx:=["rows", "lead", "place"]
def Dj:WS:=(aH<|wL<|aLC (iS<|wN 0) 1 [1,2] (gN 0) cC<|wF qt<|aC (wN 0)<|aC (w2 gIx (wN 0)<|wN 2)<|aC (wN 1) aA)
abbrev ZlS:Qx:=["rows", "many", "leading", "places", "rest", "place", "at", "lead"]
def Dk:WS:=(aG (aT 2<|wL<|bP aA)<|aG (bY 3<|bP aA)<|aG (aT 4<|wL<|aB (ig (α:=Unit))<|aC (wN 0) aA)<|aG (bF<|bH (fb<|aC (wN 1) aA) (gN 5)<|aG (aT 6<|wF Al<|aC (wN 4)<|aC (wN 5) aA)<|cE (wT<|w2 (gIsC true) (wN 6)<|wC D.non) (aG (aT 7<|wF xI<|aC (w2 gIx (wN 4)<|wN 6)<|aC (w2 gIx (w2 gIx (wN 4)<|wN 6)<|wN 5) aA)<|aG (aT 2<|w2 gAdd (wF xJ<|aC (wN 2)<|aC (wN 7)<|aC (wN 5) aA)<|wL<|bP<|aC (wN 7) aA)<|aG (aT 4<|wF xJ<|aC (w2 gAdd (bX (wN 4) eV<|eC<|wN 6)<|bX (wN 4) (eC<|w2 gAdd (wN 6)<|wC<|.int<|1) eV)<|aC (wN 7)<|aC (wN 5) aA)<|dL 3<|wN 5) cF)<|bK 3<|aH<|aY<|aC (wN 2)<|aC (wN 3) aA)
abbrev ZjX:Qx:=["place", "size", "leading", "places", "row", "lead", "at"]
def Dl:WS:=(aG (bY 4<|aB (ig (α:=Unit))<|aC (wF rC<|aC (wN 0)<|aC (wN 1) aA) aA)<|aG (bF<|bH (iZ<|aC (wN 2)<|aC (wN 3) aA) (dB 2<|bN (gN 5)<|bN (gN 6) cS)<|iA 4 (wN 6)<|wF sS<|aC (wC<|D.tup [(D.int<|0),(D.int<|1)])<|aC (w2 gIx (wN 5)<|wN 0) aA)<|bK 4<|aH<|wB je<|aC (wN 4) aA)
abbrev ZiY:Qx:=["slants", "size", "leading", "places"]
def GG:WS:=(aG (fV<|wF nq<|aC (wN 0) aA)<|aG (aT 1<|wF jJ<|aC (wN 0) aA)<|aG (eW (wF vm<|aC (wF sT<|aC (wN 0) aA)<|aC (wN 1) aA)<|dB 2<|bN (gN 2)<|bN (gN 3) cS)<|aH<|wL<|aLC (fb<|aC (wN 1) aA) 1 [1,2,3] (gN 0) (wT<|w2 (gIn true) (wN 0)<|wN 3)<|wF Am<|aC (wN 0)<|aC (wN 1)<|aC (wN 2)<|aC (wN 3) aA)
abbrev ZiZ:Qx:=["slants"]
def GH:WS:=(aH<|wB bV<|aC (wF uS<|aC (wN 0) aA) aA)
abbrev ZlP:Qx:=["slants"]
def GI:WS:=(aH<|w2 (gEq false) (wF xL<|aC (wN 0) aA)<|wC<|.int<|0)
abbrev ZiV:Qx:=["slants"]
def GJ:WS:=(cE (bM<|wT<|wF xM<|aC (wN 0) aA) (iV<|PySem.Str.ofString "NotFull") cF)
abbrev Zi1:Qx:=["slants", "size", "rows"]
def Do:WS:=(aG (aT 1<|wF jJ<|aC (wN 0) aA)<|aG (bY 2<|aLC (iE<|aC (wF sT<|aC (wN 0) aA) aA) 2 [1] (dB 2<|bN (gN 0)<|bN (gN 1) cS) cC<|w2 gAdd (wN 1)<|wF rC<|aC (wN 0)<|aC (wN 2) aA)<|bK 2<|aH<|wL<|aLC (iS<|w2 gIx (wF vm<|aC (wN 2)<|aC (wN 1) aA)<|wC<|.int<|0) 1 [1] (gN 0) cC<|bX (wN 0) (eC<|wN 1) eV)
abbrev ZjT:Qx:=["slants", "rows"]
def Dp:WS:=(aG (aT 1<|wF xO<|aC (wN 0) aA)<|aH<|wL<|aLC (fb<|aC (wB bV<|aC (wN 1) aA) aA) 1 [1] (gN 0) cC<|wB je<|aC (wL<|aLC (iS<|wN 1) 1 [0] (gN 0) cC<|w2 gIx (wN 0)<|wN 1) aA)
theorem Mo:Rd xI Dg Znt:=by rintro _ E Q ⟨⟨b,r,q0⟩,rfl,⟨h1,h2,h3,h4,h5⟩,q⟩;dsimp only at h1 h2 h3 h4 h5 q;show Dg E _ [.d<|aE r,.d<|aS q0];unfold Dg aE;ext;refine jj (g:=aS) (f:=λx:Rat=>aS<|x/q0) r (λx hx Q hq=>?_) .un [] (by simp[aR];omega) ?_;ext;exact xo (B2.of (h3 x hx) h4<|E1) h5 hq;ext;unfold aE kf at q;rw[List.map_map]at q;exact q
theorem Dq{we:WE}{tail:cR}{Q:QG->Prop}{f:Rat->Rat->D}:∀(A C:Qw),(∀x∈A,∀y∈C,∀Q:D->Prop,Q (f x y)->we No (.d (aS x)::.d (aS y)::tail) Q)->∀(sv sv':SV) (acc:QG),acc.length+A.length<=aR->Q (acc++List.zipWith f A C)->lcW (dB 2<|bN (gN 0)<|bN (gN 1) cS) cC we (cK (A.map aS)<|C.map aS) (sv::sv'::tail) acc Q
 |[],C,_,sv,sv',acc,_,hq=>by simpa[lcW,cK] using hq|x::A,[],_,sv,sv',acc,_,hq=>by simpa[lcW,cK] using hq
 |x::A,y::C,h,sv,sv',acc,hl,hq=>by
  have e:cK ((x::A).map aS) ((y::C).map aS)=.tup [aS x,aS y]::cK (A.map aS) (C.map aS):=by simp[cK]
  rw[e,lcW];refine⟨rfl,?_⟩;rw[d8]at hl;refine h x KE y KE _ ⟨E1,Dq A C (λa ha c hc=>h a (by simp[ha]) c<|by simp[hc]) _ _ _ (by simp;omega) ?_⟩;rw[kP];simpa using hq
theorem Mp:Rd qt Dh ZjR:=by
 rintro _ E Q ⟨⟨⟨a,b,c⟩,r,q0,t⟩,rfl,⟨h1,h2,h3,h4,h5⟩,q⟩;dsimp only at h1 h2 h3 h4 h5 q;show Dh E _ [.d<|aE r,.d<|aS q0,.d<|aE t];unfold Dh aE;ext;refine Dq (f:=λx y=>aS<|x-q0*y) r t (λx hx y hy Q hq=>?_) .un .un [] (by simp[aR];omega) ?_;ext;exact Fs (B2.of h4 (h5 y hy)<|E1)<|CA (B2.of (h3 x hx) (h4.mul<|h5 y hy)<|E1) hq
 ext;unfold aE aZ at q;rw[y0]at q;exact q
theorem Mq(q:Rat):(if true=true then !fg (aS q) (.tup [.int 0,.int 1]) else fg (aS q) (.tup [.int 0,.int 1])) = !decide (q=0):=by rw[oI rfl,<-vf,ve]
theorem GK{p:Nat}{Q:QH}{E:QF}{N:Nds}{s0:SV}(hN:N.rt=Q):∀(R:K4) (k:Nat) (s2 s3:SV),(∀r∈R,p<r.length)->(∀a,dF R p=some a->Q (.int ((k+a:Nat):Int)))->(dF R p=none->∀s2 s3,N.nx [s0,.d<|.int p,s2,s3])->Zbf (dB 2<|bN (gN 2)<|bN (gN 3) cS) (cE (wT<|w2 (gEq true) (w2 gIx (wN 3)<|wN 1)<|wC<|D.tup [(D.int<|0),(D.int<|1)]) (aH<|wN 2) cF) E N (dH k<|R.map aE) [s0,.d<|.int p,s2,s3]
 |[],k,s2,s3,_,_,h2=>h2 rfl s2 s3
 |r::R,k,s2,s3,hp,h1,h2=>by
  rw[cG,dH,Zbf];refine⟨rfl,?_⟩;simp only[bN,cS,gN,gG,gF];have hr:=hp r KE;have e1:(r.map aS)[p]? = some (aS<|r.getD p 0):=by rw[cV,bE,bZ hr];rfl
  refine fh (b:=!decide (r.getD p 0=0)) (λP hP=>?_) (λe=>?_) λe=>?_;unfold aE;ext;refine⟨_,aK e1,jh (uB _ 59) wp ?_⟩;rw[Mq];exact hP;have e0:¬r.getD p 0=0:=by simpa using e
  have:=h1 0 (by rw[dF,jx e0]);rw[<-hN]at this;exact this;have e0:r.getD p 0=0:=by simpa using e
  refine GK hN R (k+1) _ _ (λx hx=>hp x<|by simp[hx]) (λa ha=>?_) λhn=>?_;have:=h1 (a+1) (by rw[dF,oI e0,ha];rfl);rw[show k+1+a=k+(a+1) by omega];exact this;exact h2 (by rw[dF,oI e0,hn];rfl)
theorem Mr:Rd Al Di Zhu:=by rintro _ E Q ⟨⟨p,R⟩,rfl,⟨h1,h2⟩,q⟩;dsimp only at h1 h2 q;show Di E _ [.d<|aM R,.d<|.int p,.un,.un];unfold Di aM;refine bJ ?_;simp only[bF,bH,iE,aC,aA,wN,eH];refine GK (Q:=Q) rfl R 0 .un .un h2 (λa ha=>?_) λhn s2 s3=>?_;rw[ha]at q;rw[rY];exact q;rw[hn]at q;exact q
theorem Ms:Rd xJ Dj Zfy:=by
 rintro _ E Q ⟨⟨⟨⟨b,w⟩,p⟩,R,lead⟩,rfl,⟨h1,h2,h3,h4,h5,h6⟩,q⟩;dsimp only at h1 h2 h3 h4 h5 h6 q;show Dj E _ [.d<|aM R,.d<|aE lead,.d<|.int p];unfold Dj aM;ext;refine jj (g:=aE) (f:=λr:Qw=>aE<|aZ r (r.getD p 0) lead) R (λr hr Q hq=>?_) .un [] (by simp[aR];omega) ?_;obtain⟨hl,hs⟩:=h5 r hr;have e0:r[p]? = some (r.getD p 0):=by rw[bE,bZ<|E1];rfl
 have e1:(r.map aS)[p]? = some (aS<|r.getD p 0):=by rw[cV,e0];rfl
 simp only[wF,aC,aA,wN,w2,eH,fe];exact⟨_,aK e1,Df h1 E1 hs (hs _<|pj e0) h6 hq⟩;unfold aM cM at q;rw[List.map_map]at q;exact q
theorem cW{E:QF}(e:ρ.set i (.d d)=ρ')(hw:∀P:D->Prop,P d->w E ρ P)(h:N.nx ρ'):aT i w E N ρ:=hw _ (by rw[e];exact h)
theorem rE{E:QF}(e:ρ[i]? = some (.ow xs))(hl:xs.length<aR)(e2:ρ.set i (.ow<|xs++[d])=ρ')(hw:∀P:D->Prop,P d->w E ρ P)(h:N.nx ρ'):dL i w E N ρ:=by unfold dL;rw[e];exact hw _ ⟨hl,by rw[e2];exact h⟩
theorem GL{R:K4}(h:k<R.length):eR (R.map aE) (k:Int)=some (aE<|R.getD k []):=by refine aK ?_;rw[cV,bE,bZ h];rfl
theorem td(h:k<r.length):eR (r.map aS) (k:Int)=some (aS<|r.getD k 0):=by refine aK ?_;rw[cV,bE,bZ h];rfl
theorem Mu{p:Nat}(h:p<r.length):r.getD p 0∈r:=by rw[bE,bZ h];exact i3 _
theorem Mv:Rd vm Dk ZlS:=by
 rintro _ E Q ⟨⟨⟨w,m⟩,R⟩,rfl,h,q⟩;dsimp only at h q;obtain⟨mw,w1,hl,hln,hrl,hst⟩:=h;show Dk E _ [.d<|aM R,.d<|.int m,.un,.un,.un,.un,.un,.un];unfold Dk;refine bJ<|cW (d:=aM []) (ρ':=[.d<|aM R,.d<|.int m,.d<|aM [],.un,.un,.un,.un,.un]) (by rfl) (λP hP=>⟨E8,hP⟩) ?_;dsimp only;refine bJ<|B.C.own_by (xs:=[]) (ρ':=[.d<|aM R,.d<|.int m,.d<|aM [],.ow [],.un,.un,.un,.un]) (by rfl) (λP hP=>⟨E8,hP⟩) ?_;dsimp only;refine bJ<|cW (d:=aM R) (ρ':=[.d<|aM R,.d<|.int m,.d<|aM [],.ow [],.d<|aM R,.un,.un,.un]) (by rfl) (λP hP=>?_) ?_
 .unfold aM
  ext;exact hP
 dsimp only;refine bJ ?_;simp only[bF,bH];ext;refine⟨E1,E1,?_⟩;refine Ga (λp ρ=>∃s5 s6 s7,ρ=[.d<|aM R,.d<|.int m,.d<|aM (cN R p).ld,.ow<|(cN R p).pl.map λ(k:Nat)=>D.int (k:Int),.d<|aM (cN R p).rs,s5,s6,s7]) m ?_ ?_ _ ⟨_,_,_,rfl⟩
 rotate_left
 .rintro _ ⟨s5,s6,s7,rfl⟩
  dsimp only;refine B.C.pub_by (ρ':=[.d<|aM R,.d<|.int m,.d<|aM (cN R m).ld,.d<|qd (cN R m).pl,.d<|aM (cN R m).rs,s5,s6,s7]) rfl ?_;ext;exact⟨E8,q⟩
 rintro p hp _ ⟨s5,s6,s7,rfl⟩ nx hnx;obtain⟨ln,lp⟩:=hln p hp;have rl:=hrl p hp;have hst:=hst p hp;rw[show cN R (p+1)=uQ p (cN R p) from rfl]at hnx;generalize cN R p=x at ln lp rl hst hnx;show aG _ _ _ _ [.d<|aM R,.d<|.int m,.d<|aM x.ld,.ow<|x.pl.map λ(k:Nat)=>D.int (k:Int),.d<|aM x.rs,.d<|.int p,s6,s7];refine bJ<|cW (d:=rD<|dF x.rs p) (ρ':=[.d<|aM R,.d<|.int m,.d<|aM x.ld,.ow<|x.pl.map λ(k:Nat)=>D.int (k:Int),.d<|aM x.rs,.d<|.int p,.d<|rD<|dF x.rs p,s7]) (by rfl) (λP hP=>?_) ?_
 .simp only[wF,aC,aA,wN,eH,fe]
  exact Mj E1 (λr hr=>by rw[rl r hr];omega) hP
 dsimp only;unfold uQ at hnx;cases e:dF x.rs p with
 |none=>rw[e]at hnx;refine fh (b:=false) (λP hP=>?_) (λe=>nomatch e) λ_=>hnx _ ⟨_,_,_,rfl⟩;ext;exact⟨rfl,hP⟩
 |some a=>
  rw[e]at hnx;dsimp only at hnx;obtain⟨a1,a2⟩:=vh e;obtain⟨⟨B1,b1,la⟩,⟨B2,b2,ld2,hl2⟩,B3,b3,rs3,hl3⟩:=hst a e;refine fh (b:=true) (λP hP=>?_) (λ_=>?_) λe=>nomatch e
  .ext
   exact⟨rfl,hP⟩
  have hpa:p<(x.rs.getD a []).length:=by rw[rl _<|jm a1];omega
  refine bJ<|cW (d:=aE<|o5 x.rs a p) (ρ':=[.d<|aM R,.d<|.int m,.d<|aM x.ld,.ow<|x.pl.map λ(k:Nat)=>D.int (k:Int),.d<|aM x.rs,.d<|.int p,.d<|.int a,.d<|aE<|o5 x.rs a p]) (by rfl) (λP hP=>?_) ?_
  .show wF _ _ No [.d<|aM R,.d<|.int m,.d<|aM x.ld,.ow<|x.pl.map λ(k:Nat)=>D.int (k:Int),.d<|.lst<|x.rs.map aE,.d<|.int p,.d<|.int a,s7] P
   simp only[wF,aC,aA,wN,w2,eH,fe];refine⟨_,GL a1,_,GL a1,_,td hpa,?_⟩;exact GC (b:=B1) b1 (by rw[rl _<|jm a1];omega) la (la _<|Mu hpa) a2 hP
  dsimp only;generalize o5 x.rs a p=lead at hl2 hl3 hnx;refine bJ<|cW (d:=aM<|cM x.ld lead p++[lead]) (ρ':=[.d<|aM R,.d<|.int m,.d<|aM<|cM x.ld lead p++[lead],.ow<|x.pl.map λ(k:Nat)=>D.int (k:Int),.d<|aM x.rs,.d<|.int p,.d<|.int a,.d<|aE lead]) (by rfl) (λP hP=>?_) ?_
  .simp only[wF,aC,aA,wN,w2,wL,bP,eH,fe]
   refine GE (b:=B2) (w:=w) b2 w1 E1 E1 ld2 hl2 ⟨eh<|KE,?_⟩;unfold aM at hP ⊢;rw[hV]at hP;exact⟨eh (by unfold cM;simp;omega),hP⟩
  dsimp only;have hcut:∀(b1:Nat),(x.rs.take a++x.rs.drop (a+1)).length<=1000:=λ_=>by rw[fZ,m6,m8];omega
  refine bJ<|cW (d:=aM<|cM (x.rs.take a++x.rs.drop (a+1)) lead p) (ρ':=[.d<|aM R,.d<|.int m,.d<|aM<|cM x.ld lead p++[lead],.ow<|x.pl.map λ(k:Nat)=>D.int (k:Int),.d<|aM<|cM (x.rs.take a++x.rs.drop (a+1)) lead p,.d<|.int p,.d<|.int a,.d<|aE lead]) (by rfl) (λP hP=>?_) ?_
  .show wF _ _ No [.d<|aM R,.d<|.int m,.d<|aM<|cM x.ld lead p++[lead],.ow<|x.pl.map λ(k:Nat)=>D.int (k:Int),.d<|.lst<|x.rs.map aE,.d<|.int p,.d<|.int a,.d<|aE lead] P
   ext;rw[xy (b:=a) rfl,show((a:Int)+1)=((a+1:Nat):Int) by omega,rn (by rw[bQ];omega),<-qx,<-Ycf];refine⟨eh (by simp;omega),?_⟩;rw[<-hV];exact GE (b:=B3) (w:=w) b3 w1 (hcut 0) E1 rs3 hl3 hP
  dsimp only;refine rE (d:=.int p) rfl (dN (show _<2000 by rw[bQ];omega)<|E8) rfl (B.nm_at rfl)<|hnx _ ⟨.d<|.int p,.d<|.int a,.d<|aE lead,?_⟩;rw[hV];rfl
theorem Aq{wi:WE}{E:QF}(e:ρ[i]? = some (.ow xs))(hk:k<xs.length)(e2:ρ.set i (.ow<|xs.set k d)=ρ')(hv:∀P:D->Prop,P d->wv E ρ P)(hi:∀P:D->Prop,P (.int k)->wi E ρ P)(h:N.nx ρ'):iA i wi wv E N ρ:=by unfold iA;rw[e];exact hv _<|hi _ ⟨k,B.C.ixN_nat hk,by rw[e2];exact h⟩
theorem GM(s:Qv)(n:Nat):D.lst ((tbl s n).map λr=>aE<|cP r)=aM (eO s n):=by unfold aM eO;rw[List.map_map];rfl
theorem rF(h:IsSl s n):∀r∈eO s n,Lf 6 n r:=λr hr=>by
 unfold eO at hr;obtain⟨t,ht,rfl⟩:=YbQ.mp hr;obtain⟨h1,h2⟩:=nw h t ht;have:=Lf.int (b:=6) (c:=t) E8 λx hx=>by have:=h2 x hx;show _<64;omega
 rw[h1]at this;exact this
theorem qu:(eO s n).length=n:=by unfold eO;rw[bQ,kN]
theorem Mw(h:IsSl s n):ClIn 6 n n (eO s n):=by
 have n5:=h.n5;refine⟨cO _,E1,by rw[qu];omega,?_,rF h⟩;have:=sZ (b:=6) (show n-1<=5 by omega);have e:bq 6 5=223:=E8
 omega
theorem bq6(h:n<=5):bq 6 n<=223:=by
 have:=sZ (b:=6) h;have e:bq 6 5=223:=E8
 omega
theorem Mx(h:IsSl s n):(∀r∈(dY s n).ld,r.length=n/\∀y∈r,Sz 223 y)/\(dY s n).ld.length<=5/\(∀a∈(dY s n).pl,a<n)/\(dY s n).pl.length=(dY s n).ld.length:=by have ok:=uR (rF h) (p:=n)<|cO _;have l:=ok.ln;rw[qu]at l;have n5:=h.n5;exact⟨λr hr=>⟨(ok.ld r hr).len,λy hy=>((ok.ld r hr).sz y hy).mono<|bq6 n5⟩,by unfold dY;omega,ok.lt,ok.pl⟩
def cU(place:Nat):K4->Qz->Qw->Qw
 |l::L,a::pl,row=>cU place L pl<|row.set a (0-l.getD place 0)
 |_,_,row=>row
theorem Dr(place:Nat):∀(L:K4) (pl:Qz) (row:Qw),(L.zip pl).foldl (λrow x=>row.set x.2<|0-x.1.getD place 0) row=cU place L pl row
 |[],_,_=>by simp[cU]|_::_,[],_=>by simp[cU]|l::L,a::pl,row=>by rw[List.zip_cons_cons,List.foldl_cons,cU];exact Dr place L pl _
theorem Zn{place n:Nat}{E:QF}{N:Nds}(hpn:place<n):∀(L:K4) (pl:Qz) (row:Qw) (s0 s2 s3 s5 s6:SV),row.length=n->(∀r∈L,r.length=n/\∀y∈r,Sz 223 y)->(∀a∈pl,a<n)->(∀s5 s6,N.nx [.d<|.int place,s0,s2,s3,.ow<|(cU place L pl row).map aS,s5,s6])->Zbf (dB 2<|bN (gN 5)<|bN (gN 6) cS) (iA 4 (wN 6)<|wF sS<|aC (wC<|D.tup [(D.int<|0),(D.int<|1)])<|aC (w2 gIx (wN 5)<|wN 0) aA) E N (cK (L.map aE)<|pl.map λ(k:Nat)=>D.int (k:Int)) [.d<|.int place,s0,s2,s3,.ow<|row.map aS,s5,s6]
 |[],pl,row,s0,s2,s3,s5,s6,_,_,_,h=>by simpa[cK,Zbf,cU] using h s5 s6|l::L,[],row,s0,s2,s3,s5,s6,_,_,_,h=>by simpa[cK,Zbf,cU] using h s5 s6
 |l::L,a::pl,row,s0,s2,s3,s5,s6,hr,hL,hp,h=>by
  have e:cK ((l::L).map aE) ((a::pl).map λ(k:Nat)=>D.int (k:Int))=.tup [aE l,.int (a:Int)]::cK (L.map aE) (pl.map λ(k:Nat)=>D.int (k:Int)):=by simp[cK]
  rw[e,Zbf];refine⟨rfl,?_⟩;simp only[bN,cS,gN,gG,gF];obtain⟨ll,ls⟩:=hL l KE;have ha:=hp a KE;have e0:l[place]? = some (l.getD place 0):=by rw[bE,bZ<|E1];rfl
  refine Aq (xs:=row.map aS) (k:=a) (d:=aS<|0-l.getD place 0) (ρ':=[.d<|.int place,s0,s2,s3,.ow<|(row.set a<|0-l.getD place 0).map aS,.d<|aE l,.d<|.int a]) rfl (by rw[bQ];omega) (by rw[u7];rfl) (λP hP=>?_) (B.nm_at rfl) ?_;simp only[wF,aC,aA,wN,wC,w2,eH,fe];refine⟨_,td<|E1,?_⟩;have:=CA (E:=No) (Q:=P) (B2.of (Sz.zero (n:=1)<|E8) (ls _<|pj e0)<|E8) hP;rw[vf]at this;exact this;rw[cU]at h;exact Zn hpn L pl _ _ _ _ _ _ (by rw[dQ];exact hr) (λr hr=>hL r<|by simp[hr]) (λc hc=>hp c<|by simp[hc]) h
theorem My:Rd Am Dl ZjX:=by
 rintro _ E Q ⟨⟨⟨p,n⟩,L,pl⟩,rfl,⟨h1,h2,h3,h4,h5⟩,q⟩;dsimp only at h1 h2 h3 h4 h5 q;show Dl E _ [.d<|.int p,.d<|.int n,.d<|aM L,.d<|qd pl,.un,.un,.un];unfold Dl;refine bJ<|B.C.own_by (xs:=(aX n p).map aS) (ρ':=[.d<|.int p,.d<|.int n,.d<|aM L,.d<|qd pl,.ow<|(aX n p).map aS,.un,.un]) (by rfl) (λP hP=>?_) ?_
 simp only[aB,wF,aC,aA,wN,eH,fe];exact vg h2 hP;dsimp only;refine bJ ?_;simp only[bF,bH,iZ,aC,aA,wN,eH,fe];refine Zn (N:=_) h1 L pl (aX n p) _ _ _ _ _ (ku n p) h4 h5 λs5 s6=>?_;rw[<-Dr];dsimp only;refine B.C.pub_by (ρ':=[.d<|.int p,.d<|.int n,.d<|aM L,.d<|qd pl,.d<|.lst<|(mT p n L pl).map aS,s5,s6]) rfl ?_;ext;exact q
theorem Ar{α:Type}{wf:WT}{we:WE}{tail:cR}{Q:QG->Prop}{g f:α->D}{p:α->Bool}:∀(L:List α),(∀a∈L,∀P:Bool->Prop,P (p a)->wf No (.d (g a)::tail) P)->(∀a∈L,∀P:D->Prop,P (f a)->we No (.d (g a)::tail) P)->∀(sv:SV) (acc:QG),acc.length+L.length<=aR->Q (acc++(L.filter p).map f)->lcW (gN 0) wf we (L.map g) (sv::tail) acc Q
 |[],_,_,sv,acc,_,hq=>by simpa[lcW] using hq
 |a::L,h,h',sv,acc,hl,hq=>by
  rw[cG,lcW];rw[d8]at hl;refine h a KE _ ?_;cases e:p a with
  |true=>rw[oI rfl];refine h' a KE _ ⟨E1,Ar L (λx hx=>h x<|by simp[hx]) (λx hx=>h' x<|by simp[hx]) _ _ (by simp;omega) ?_⟩;rw[List.filter_cons,e,oI rfl]at hq;rw[kP];exact hq|false=>rw[jx<|E8];refine Ar L (λx hx=>h x<|by simp[hx]) (λx hx=>h' x<|by simp[hx]) _ _ E1 ?_;rw[List.filter_cons,e,jx<|E8]at hq;exact hq
theorem Zr(pl:Qz)(p:Nat):(pl.map λ(k:Nat)=>(k:Int)).contains (p:Int)=pl.contains p:=by
 induction pl with
 |nil=>rfl|cons a pl ih=>rw[cG,yQ,yQ,ih];congr 1;rw[iD];simp;exact_mod_cast Iff.rfl
theorem Mz:Rd uS GG ZiY:=by
 rintro _ E Q ⟨x,rfl,hk,q⟩;unfold GG;walk_at "n";unfold An at q;cases e:dM x with
 |false=>exact xp hk e<|kX e q
 |true=>
 obtain⟨s,n,rfl,h⟩:=l8 e;have n1:=h.n1;have n5:=h.n5;replace q:=kY h q;rw[fH,h.sN]at q;replace q:Q (aM<|fO s n):=q;refine CG h ?_;walk_at "n";refine nu h ?_;walk_at "n";refine zZ h ?_;rw[GM];refine GF (Mw h) ?_;refine⟨rfl,?_⟩;obtain⟨c1,c2,c3,c4⟩:=Mx h;unfold fO at q;show -10000<=(n:Int)/\(n:Int)<10000/\lcW _ _ _ (rng 0 n) [.un,.d<|.int n,.d<|aM (dY s n).ld,.d<|qd (dY s n).pl] [] _;generalize dY s n=c at c1 c2 c3 c4 q;refine⟨E1,E1,?_⟩;rw[jk];refine Ar (f:=λp=>aE<|mT p n c.ld c.pl) (p:=λp=>!c.pl.contains p) (List.range n) (λp hp P hP=>?_) (λp hp P hP=>?_) .un [] (by simp[aR];omega) ?_
 .refine⟨_,c.pl.map λ(k:Nat)=>(k:Int),rfl,.inl ?_,?_⟩
  .show qd c.pl=.lst ((c.pl.map λ(k:Nat)=>(k:Int)).map .int)
   unfold qd;rw[List.map_map];rfl
  .rw[Zr]
   exact hP
 .rw[Yah]at hp
  simp only[wF,aC,aA,wN,eH,fe];exact Mk hp n5 c2 c1 c3 hP
 .rw[dR]
  unfold aM at q;rw[List.map_map]at q;exact q
theorem GN{E:QF}(h:IsSl s n)(q:Q (aM<|fO s n)):uS [aL s] E Q:=xS.ok (aL s) rfl h.kd (by(try dsimp only);unfold An;rw[iB h,fH,h.sN]) q
theorem MA{E:QF}{x:D}(h:kd x=true)(e:dM x=false)(q:E "NoSlants"):uS [x] E Q:=⟨x,rfl,h,by(try dsimp only);unfold An;rw[i7 e];exact q⟩
theorem MB:Rd xL GH ZiZ:=by
 rintro _ E Q ⟨x,rfl,hk,q⟩;unfold GH;ext;unfold Ao at q;cases e:dM x with
 |false=>exact MA hk e<|kX e q
 |true=>
 obtain⟨s,n,rfl,h⟩:=l8 e;replace q:=kY h q;rw[fH,h.sN]at q;refine GN h ?_;unfold aM;ext;rw[bQ];exact q
theorem MC{E:QF}(h:IsSl s n)(q:Q (.int ((fO s n).length:Int))):xL [aL s] E Q:=xS.ok (aL s) rfl h.kd (by(try dsimp only);unfold Ao;rw[iB h,fH,h.sN]) q
theorem MD{E:QF}{x:D}(h:kd x=true)(e:dM x=false)(q:E "NoSlants"):xL [x] E Q:=⟨x,rfl,h,by(try dsimp only);unfold Ao;rw[i7 e];exact q⟩
theorem ME:Rd xM GI ZlP:=by
 rintro _ E Q ⟨x,rfl,hk,q⟩;unfold GI;ext;unfold Ap at q;cases e:dM x with
 |false=>exact MD hk e<|kX e q
 |true=>
 obtain⟨s,n,rfl,h⟩:=l8 e;replace q:=kY h q;rw[fH,h.sN]at q;refine MC h ?_;ext;have e2:(((fO s n).length:Int)==0)=decide (fO s n=[]):=by
  rw[iD];simp
 rw[e2];exact q
theorem MF{E:QF}(h:IsSl s n)(q:Q (.bl<|decide (fO s n=[]))):xM [aL s] E Q:=xS.ok (aL s) rfl h.kd (by(try dsimp only);unfold Ap;rw[iB h,fH,h.sN]) q
theorem MG{E:QF}{x:D}(h:kd x=true)(e:dM x=false)(q:E "NoSlants"):xM [x] E Q:=⟨x,rfl,h,by(try dsimp only);unfold Ap;rw[i7 e];exact q⟩
theorem MH:Rd xN GJ ZiV:=by
 rintro _ E Q ⟨x,rfl,hk,q⟩;unfold GJ;ext;unfold GB at q;cases e:dM x with
 |false=>exact MG hk e<|kX e q
 |true=>
 obtain⟨s,n,rfl,h⟩:=l8 e;replace q:=kY h q;rw[fH,h.sN]at q;refine MF h ?_;ext
 by_cases ef:fO s n=[]
 .rw[oI ef]at q
  rw[PR ef];exact q
 .rw[jx ef]at q
  rw[PU ef];exact q
theorem GO{we:WE}{tail:cR}{Q:QG->Prop}{n:Nat}:∀(R:K4) (k:Nat),(∀r∈R,∀(i:Nat) (Q:QH),Q (aE<|r++aX n i)->we No (.d (.int i)::.d (aE r)::tail) Q)->∀(sv sv':SV) (acc:QG),acc.length+R.length<=aR->Q (acc++(ip n k R).map aE)->lcW (dB 2<|bN (gN 0)<|bN (gN 1) cS) cC we (dH k<|R.map aE) (sv::sv'::tail) acc Q
 |[],k,_,sv,sv',acc,_,hq=>by simpa[lcW,dH,ip] using hq|r::R,k,h,sv,sv',acc,hl,hq=>by rw[cG,dH,lcW];refine⟨rfl,?_⟩;rw[d8]at hl;show we No (SV.d (.int (k:Int))::SV.d (aE r)::tail) _;refine h r KE k _ ⟨E1,GO R (k+1) (λy hy=>h y<|by simp[hy]) _ _ _ (by simp;omega) ?_⟩;rw[kP];exact hq
theorem GP(n:Nat):∀(R:K4) (k:Nat),(ip n k R).length=R.length
 |[],_=>rfl|r::R,k=>by rw[ip,d8,GP n R<|k+1];rfl
theorem MI(n k:Nat):∃c:Qv,aX n k=cP c/\c.length=n/\∀x∈c,x.natAbs<2^6:=by refine⟨(List.range n).map λi:Nat=>if(i:Int)=(k:Int) then(1:Int) else 0,(Gy n k).symm,KE,λx hx=>?_⟩;obtain⟨i,_,rfl⟩:=YbQ.mp hx;split<;>decide
theorem GQ{n m:Nat}:∀(T:K5) (k:Nat),(∀r∈T,r.length=m/\∀x∈r,x.natAbs<2^6)->∀r∈ip n k (T.map cP),Lf 6 (m+n) r
 |[],_,_,r,hr=>nomatch hr
 |t::T,k,h,r,hr=>by
  rw[cG,ip]at hr;rcases Yan.mp hr with rfl|hr
  obtain⟨c,e,cl,cb⟩:=MI n k;obtain⟨t1,t2⟩:=h t KE;have:=Lf.int (b:=6) (c:=t++c) E8 λx hx=>by
   rcases Yao.mp hx with hx|hx
   exact t2 x hx;exact cb x hx
  rw[fZ,t1,cl]at this;rw[e];unfold cP at this ⊢;rw[hV]at this;exact this;exact GQ T (k+1) (λr hr=>h r<|by simp[hr]) r hr
theorem As(h:IsSl s n):∀r∈eE s n,Lf 6 (n+n) r:=by unfold eE eO;refine GQ _ _ λr hr=>?_;obtain⟨h1,h2⟩:=nw h r hr;exact⟨h1,λx hx=>by have:=h2 x hx;show _<64;omega⟩
theorem xQ(s:Qv)(n:Nat):(eE s n).length=n:=by unfold eE;rw[GP,qu]
theorem MJ(h:IsSl s n):ClIn 6 (n+n) n (eE s n):=by have n5:=h.n5;refine⟨E1,E1,by rw[xQ];omega,?_,As h⟩;have:=bq6 (show n-1<=5 by omega);omega
theorem GR(h:IsSl s n):(∀r∈gT s n,r.length=n/\∀y∈r,Sz 223 y)/\(gT s n).length<=n:=by have ok:=uR (As h) (p:=n) E1;have l:=ok.ln;rw[xQ]at l;have n5:=h.n5;unfold gT;refine⟨λr hr=>?_,by rw[bQ];omega⟩;obtain⟨t,ht,rfl⟩:=YbQ.mp hr;refine⟨by rw[m8,(ok.ld t ht).len];omega,λy hy=>((ok.ld t ht).sz y<|pA hy).mono<|bq6 n5⟩
theorem MK:Rd xO Do Zi1:=by
 rintro _ E Q ⟨⟨s,n⟩,rfl,h,q⟩;dsimp only at h q;have n1:=h.n1;have n5:=h.n5;show Do E _ [.d<|aL s,.un,.un];unfold Do;refine bJ<|cW (d:=.int n) (ρ':=[.d<|aL s,.d<|.int n,.un]) (by rfl) (λP hP=>?_) ?_
 simp only[wF,aC,aA,wN,eH];exact nu h hP;dsimp only;refine bJ<|B.C.own_by (xs:=(eE s n).map aE) (ρ':=[.d<|aL s,.d<|.int n,.ow<|(eE s n).map aE]) (by rfl) (λP hP=>?_) ?_
 simp only[aLC,iE,wF,aC,aA,wN,Zb5,eH,fe,cG,f6,List.replicate];refine zZ h ?_;rw[GM];unfold eE at hP;refine GO (n:=n) (eO s n) 0 (λr hr i Q hq=>?_) .un .un [] (by rw[qu];exact eh (by simp;omega)) hP;have rl:=(rF h r hr).len;simp only[w2,wF,aC,aA,wN,eH,fe];refine vg n5 ?_;unfold aE at hq ⊢;rw[hV]at hq;exact⟨eh (by rw[bQ,bQ,ku];omega),hq⟩;dsimp only;refine B.C.pub_by (ρ':=[.d<|aL s,.d<|.int n,.d<|aM<|eE s n]) rfl ?_;simp only[aH,wL,aLC,iS,w2,wF,aC,aA,wN,wC,Zb5,eH,fe,cG,f6,List.replicate];refine GF (MJ h) ⟨_,aK (j:=0) rfl,?_⟩;have ok:=uR (As h) (p:=n) E1;have l:=ok.ln;rw[xQ]at l;show lcW _ _ _ ((cN (eE s n) n).ld.map aE) _ _ _;unfold gT aM at q;generalize cN (eE s n) n=c at ok q l;refine jj (g:=aE) (f:=λr:Qw=>aE<|r.drop n) c.ld (λr hr Q hq=>?_) .un [] (eh (by simp;omega)) ?_;have rl:=(ok.ld r hr).len;unfold aE;ext;show Q (D.tup<|bW (List.map aS r) (some (n:Int)) none);rw[rn (by rw[bQ];omega),<-Ycf];exact hq;rw[List.map_map]at q;exact q
theorem ML:Rd xP Dp ZjT:=by
 rintro _ E Q ⟨⟨s,n⟩,rfl,h,q⟩;dsimp only at h q;have n1:=h.n1;have n5:=h.n5;show Dp E _ [.d<|aL s,.un];unfold Dp;refine bJ<|cW (d:=aM<|gT s n) (ρ':=[.d<|aL s,.d<|aM<|gT s n]) (by rfl) (λP hP=>?_) ?_
 simp only[wF,aC,aA,wN,eH];exact Ml h hP;dsimp only;obtain⟨b1,b2⟩:=GR h;unfold jn at q;generalize gT s n=B at b1 b2 q;unfold aM;ext;rw[bQ];refine⟨E1,E1,?_⟩;rw[jk];refine jj (g:=λj:Nat=>D.int (j:Int)) (f:=λj:Nat=>aE<|B.map λr=>r.getD j 0) (List.range B.length) (λj hj Q hq=>?_) .un [] (eh (by simp;omega)) ?_;rw[Yah]at hj;ext;refine jj (g:=aE) (f:=λr:Qw=>aS<|r.getD j 0) B (λr hr Q hq=>?_) .un [] (eh (by simp;omega)) ?_;have:=(b1 r hr).1;unfold aE;ext;exact⟨_,td<|E1,hq⟩;ext;unfold aE at hq;rw[List.map_map]at hq;exact hq;unfold aM at q;rw[List.map_map]at q;exact q
theorem Ds{p:Nat}(h:p<n):(r.take n).getD p 0=r.getD p 0:=by rw[bE,bE,List.getElem?_take,oI h]
theorem GS{n p:Nat}(h:p<n):∀R:K4,dF (R.map<|List.take n) p=dF R p
 |[]=>rfl|r::R=>by rw[cG,dF,dF,Ds h,GS h R]
theorem MM(a c:Qw)(q:Rat)(n:Nat):aZ (a.take n) q (c.take n)=(aZ a q c).take n:=by unfold aZ;rw[List.take_zipWith]
theorem GT{p:Nat}(h:p<n)(R:K4)(c:Qw):cM (R.map<|List.take n) (c.take n) p=(cM R c p).map (List.take n):=by unfold cM;rw[List.map_map,List.map_map];refine ir λr _=>?_;show aZ (r.take n) ((r.take n).getD p 0) (c.take n)=(aZ r (r.getD p 0) c).take n;rw[Ds h,MM]
theorem MN(R:K4)(a n:Nat):(R.map<|List.take n).getD a []=(R.getD a []).take n:=by
 rw[bE,bE,cV];cases R[a]? with
 |none=>simp|some r=>rfl
theorem MO{p:Nat}(h:p<n)(R:K4)(a:Nat):o5 (R.map<|List.take n) a p=(o5 R a p).take n:=by unfold o5;rw[MN,Ds h];unfold kf;rw[qx]
theorem GU{n:Nat}(A:K4):∀p:Nat,p<=n->(cN (A.map<|List.take n) p).ld=(cN A p).ld.map (List.take n)/\(cN (A.map<|List.take n) p).pl=(cN A p).pl/\(cN (A.map<|List.take n) p).rs=(cN A p).rs.map (List.take n)
 |0,_=>⟨rfl,rfl,rfl⟩
 |p+1,h=>by
  obtain⟨h1,h2,h3⟩:=GU (n:=n) A p E1;rw[cN,cN];generalize cN (A.map<|List.take n) p=y at h1 h2 h3;generalize cN A p=x at h1 h2 h3;obtain⟨yl,yp,yr⟩:=y;try dsimp only at h1 h2 h3
  subst h1 h2 h3;unfold uQ;dsimp only;have hp:p<n:=E1
  rw[GS hp];cases e:dF x.rs p with
  |none=>exact⟨rfl,rfl,rfl⟩|some a=>dsimp only;rw[MO hp,GT hp,<-qx,<-Ycf,<-hV,GT hp,hV];exact⟨rfl,rfl,rfl⟩
theorem GV{n:Nat}:∀(R:K4) (k:Nat),(∀r∈R,r.length=n)->(ip n k R).map (List.take n)=R
 |[],_,_=>rfl|r::R,k,h=>by rw[ip,cG,GV R (k+1)<|λx hx=>h x<|by simp[hx],<-h r KE,List.take_left'];rfl
theorem MP(h:IsSl s n):(eE s n).map (List.take n)=eO s n:=GV _ _ λr hr=>(rF h r hr).len
section
namespace Dt
abbrev R:=Nat->Int
noncomputable def m2(a b:R)(p q:Nat):Int:=a p*b q-a q*b p
def m3(a b c:R)(p q r:Nat):Int:=c r*m2 a b p q-c q*m2 a b p r+c p*m2 a b q r
def m4(a b c d:R)(p q r s:Nat):Int:=d s*m3 a b c p q r-d r*m3 a b c p q s+d q*m3 a b c p r s-d p*m3 a b c q r s
def m5(a b c d e:R)(p q r s t:Nat):Int:=e t*m4 a b c d p q r s-e s*m4 a b c d p q r t+e r*m4 a b c d p q s t-e q*m4 a b c d p r s t+e p*m4 a b c d q r s t
section
variable(a b c d e:R)(p q r s t j:Nat)
theorem s0:m2 a b p j*1=b j*a p-b p*a j:=by unfold m2;grind
theorem s1:m3 a b c p q j*a p=m2 a c p j*m2 a b p q-m2 a c p q*m2 a b p j:=by unfold m3 m2;grind
theorem s2:m4 a b c d p q r j*m2 a b p q=m3 a b d p q j*m3 a b c p q r-m3 a b d p q r*m3 a b c p q j:=by unfold m4 m3 m2;grind
theorem pl:m3 a b c p q r*m3 a b c p s j=m3 a b c p q s*m3 a b c p r j-m3 a b c p q j*m3 a b c p r s:=by unfold m3 m2;grind
theorem Du:m3 a b c p q r*m3 a b c q s j=m3 a b c p q s*m3 a b c q r j-m3 a b c p q j*m3 a b c q r s:=by unfold m3 m2;grind
theorem MQ:m3 a b c p q r*m3 a b c r s j=m3 a b c p r s*m3 a b c q r j-m3 a b c p r j*m3 a b c q r s:=by unfold m3 m2;grind
theorem s3:m5 a b c d e p q r s j*m3 a b c p q r=m4 a b c e p q r j*m4 a b c d p q r s-m4 a b c e p q r s*m4 a b c d p q r j:=by have h1:=pl a b c p q r s j;have h2:=Du a b c p q r s j;have h3:=MQ a b c p q r s j;unfold m5 m4;generalize m3 a b c p q r=x1 at *;generalize m3 a b c p q s=x2 at *;generalize m3 a b c p q j=x3 at *;generalize m3 a b c p r s=x4 at *;generalize m3 a b c p r j=x5 at *;generalize m3 a b c p s j=x6 at *;generalize m3 a b c q r s=x7 at *;generalize m3 a b c q r j=x8 at *;generalize m3 a b c q s j=x9 at *;generalize m3 a b c r s j=y1 at *;generalize d p=d1;generalize d q=d2;generalize d r=d3;generalize d s=d4;generalize d j=d5;generalize e p=e1;generalize e q=e2;generalize e r=e3;generalize e s=e4;generalize e j=e5;grind
end
def M(A:Nat->R):Nat->Nat->R
 |0,i,j=>A i j|1,i,j=>m2 (A 0) (A i) 0 j|2,i,j=>m3 (A 0) (A 1) (A i) 0 1 j|3,i,j=>m4 (A 0) (A 1) (A 2) (A i) 0 1 2 j|4,i,j=>m5 (A 0) (A 1) (A 2) (A 3) (A i) 0 1 2 3 j|_,_,_=>0
end Dt
end
section
namespace Dt
def sumI(f:Nat->Int):Nat->Int
 |0=>0|n+1=>sumI f n+f n
def sg(n:Nat):Int:=if n%2=0 then 1 else -1
end Dt
end
namespace Dt
open B.C
def tA(t:K5):Nat->R:=λi j=>ga (gr t i) j
end Dt
def FnAt(K:PN)(mg:Qt)(x:Str)(st:Stmt):Prop:=∃f fd,Fun K x x st f fd/\mg x=some (.ref f)/\jb K x=some f
def CC(K:PN)(mg:Qt)(x:Str):Prop:=∃a,mg x=some (.ref a)/\jb K x=some a
def CI(mg:Qt)(x:Str)(i:Int):Prop:=∃t,mg x=some (.int i t)
def CT(K:PN)(mg:Qt)(x:Str)(ds:QG):Prop:=∃a vs,mg x=some (.ref a)/\KT K a vs/\∀W,Reps K W vs ds
section
theorem FnAt.cc(F:FnAt K mg x st):CC K mg x:=let⟨f,_,_,m,q⟩:=F;⟨f,m,q⟩
theorem mkF(X:K.In h)(G:h.Ns mainGlobals mg){oc:Value}{kV doc pm cdv ct:Value}(a:PySem.W.nsIn K mainGlobals x=some (some<|.ref f))(l:K.lookup f=some ⟨oc,od,.func<|PySem.W.fnOf x x (cT st) (bT st) (aJ st) .none kV doc pm an cdv ct,osl⟩)
  (c:PySem.W.codeIn K cdv x=true) (k:PySem.W.keepIn K (.ref f)=true):FnAt K mg x st:=⟨f,_,uu l c k,PySem.W.mg_of X G a,uI a⟩
theorem mkC(X:K.In h)(G:h.Ns mainGlobals mg)(a:PySem.W.nsIn K mainGlobals x=some (some<|.ref f)):CC K mg x:=⟨f,PySem.W.mg_of X G a,uI a⟩
theorem mkI(X:K.In h)(G:h.Ns mainGlobals mg){i:Int}{t:Tok}(a:PySem.W.nsIn K mainGlobals x=some (some<|.int i t)):CI mg x i:=⟨t,PySem.W.mg_of X G a⟩
theorem mkT(X:K.In h)(G:h.Ns mainGlobals mg){d:Option Addr}{i j:Int}{t u:Tok}(a:PySem.W.nsIn K mainGlobals x=some (some<|.ref f))(l:K.lookup f=some ⟨.type "tuple",d,.seq #[.int i t,.int j u] n,sl⟩):CT K mg x [.int i,.int j]:=
 ⟨f,[.int i,.int j],PySem.W.mg_of X G a,⟨_,_,_,l,rfl,rfl,(by show 2<=sizeLine;decide),.cons ⟨_,rfl⟩<|.cons ⟨_,rfl⟩ .nil⟩,λ_=>.cons (.int _)<|.cons (.int _) .nil⟩
theorem mkX(X:K.In h)(G:h.Ns mainGlobals mg)(a:PySem.W.nsIn K mainGlobals x=some (some<|.ref f))(e:PySem.W.excIn K f [.type "ValueError",.type "Exception",.type "BaseException",.type "object"] "ValueError.__new__" = true):XC K mg x:=
 ⟨f,_,_,_,uI a,PySem.W.mg_of X G a,e,PySem.F.excBase_ValueError⟩
theorem mkH(X:K.In h)(G:h.Ns mainGlobals mg)(a:PySem.W.nsIn K mainGlobals x=some (some<|.ref f))(e:PySem.W.excIn K f [.type "ValueError",.type "Exception",.type "BaseException",.type "object"] "ValueError.__new__" = true)
  (m:∀n∈L,∃D,PySem.W.nsIn K mainGlobals (pY n)=some (some<|.ref D)/\PySem.W.mroIn K D (.ref f)=some true):XT K mg x L:=
 ⟨f,_,_,PySem.W.mg_of X G a,e,wp,λn hn D hD=>by
  obtain⟨D',e1,e2⟩:=m n hn;rw[uI e1]at hD;cases hD;exact e2⟩
end
section
variable{P:Program}{w:World}{N:Qx}{z:WS}
universe u
theorem Dv{α:Sort u}{F G:Qu->α}(h:∀a,F [a]=G [a]):∀us:Qu,us.length=1->F us=G us
 |[_],_=>h _
theorem Dw{α:Sort u}{F G:Qu->α}(h:∀a b,F [a,b]=G [a,b]):∀us:Qu,us.length=2->F us=G us
 |[_,_],_=>h _ _
theorem Dx{α:Sort u}{F G:Qu->α}(h:∀a b c,F [a,b,c]=G [a,b,c]):∀us:Qu,us.length=3->F us=G us
 |[_,_,_],_=>h _ _ _
theorem Dy{α:Sort u}{F G:Qu->α}(h:∀a b c d,F [a,b,c,d]=G [a,b,c,d]):∀us:Qu,us.length=4->F us=G us
 |[_,_,_,_],_=>h _ _ _ _
theorem bU(rd:Rd S z N)(h:FnAt K mg x st)
  (hbody:∀ {f:Addr} {cdv:Value} {A:Around} {outer:List Env} {s:Shared} {H:Hp} {E:XK} (sc:N.Nodup),Room k (A.deeper<|envOfC x (aJ st) s.heap.objs.size f cdv)->
   dU (gu P w) (fo (gu P w) P w K mg base N x (aJ st) f cdv A outer s H E) E->mH (fo (gu P w) P w K mg base N x (aJ st) f cdv A outer s H E) E->
   jI (fo (gu P w) P w K mg base N x (aJ st) f cdv A outer s H E) E (bT st) z)
  (sc:autoParam (dI N ps (aJ st)) QT._auto_1)
  (len:∀ds E Q,S ds E Q->ds.length=ps.length:=by first|exact fnS.len λ_=>rfl|exact xS.len λ_=>rfl|exact rlS.len λ_=>rfl)
  (hb:∀ (kV doc pm:Value) (an:Option Addr) (cdv ct:Value) (us:Qu),us.length=ps.length->bindArgs (PySem.W.fnOf x x (cT st) (bT st) (aJ st) .none kV doc pm an cdv ct) ⟨us,[]⟩=pure (ps.zip us):=by
   intro _ _ _ _ _ _;(first|refine Dv ?_|refine Dw ?_|refine Dx ?_|refine Dy ?_);intros;rfl)
  (mono:mJ S:=by first|exact fnS.mono|exact rlS.mono|exact xS.mono):Fp P w K mg base (k+1) x ps S:=by
 obtain⟨f,fd,F,m,q⟩:=h;exact Fp.of (w6 (z:=z) F sc len (λcdv A outer s H E hr hx hw=>hbody sc.nd hr hx hw) rd) mono m F.kp<|F.binds hb
theorem Dz(h:FnAt K mg x st)
  (hbody:∀ (sc:N.Nodup) (f:Addr) (cdv:Value) (A:Around) (outer:List Env) (s:Shared) (H:Hp),RoomU k (A.deeper<|envOfC x (aJ st) s.heap.objs.size f cdv)->
   jI (uv P w K mg base N x (aJ st) f cdv A outer s H) E0 (bT st) z)
  (rd:∀ds E Q,S ds E Q->z No { nx:=λ_=>Q .non,rt:=Q } (fL N ds))
  (sc:autoParam (dI N ps (aJ st)) QT._auto_1)
  (len:∀ds E Q,S ds E Q->ds.length=ps.length:=by first|exact fnS.len λ_=>rfl|exact xS.len λ_=>rfl|exact rlS.len λ_=>rfl)
  (hb:∀ (kV doc pm:Value) (an:Option Addr) (cdv ct:Value) (us:Qu),us.length=ps.length->bindArgs (PySem.W.fnOf x x (cT st) (bT st) (aJ st) .none kV doc pm an cdv ct) ⟨us,[]⟩=pure (ps.zip us):=by
   intro _ _ _ _ _ _;(first|refine Dv ?_|refine Dw ?_|refine Dx ?_|refine Dy ?_);intros;rfl)
  (mono:mJ S:=by first|exact fnS.mono|exact rlS.mono|exact xS.mono):CK P w K mg base (k+1) x ps S:=by
 obtain⟨f,fd,F,m,q⟩:=h;exact⟨⟨f,fd,CJ (z:=z) F sc len (λcdv A outer s H hr=>hbody sc.nd f cdv A outer s H hr) rd,m,F.kp,F.binds hb⟩,mono⟩
theorem MR{l:PySem.W.OpenLaw}(h:FnAt K mg x st)(hfa:mg x=some (.ref fa))
  (hbody:∀ (base:Heap) (sc:N.Nodup) (f:Addr) (cdv:Value) (A:Around) (outer:List Env) (s:Shared) (H:Hp) (E:XK),Room k (A.deeper<|envOfC x (aJ st) s.heap.objs.size f cdv)->
   dU (gu l.prog w) (fo (gu l.prog w) l.prog w K mg base N x (aJ st) f cdv A outer s H E) E->mH (fo (gu l.prog w) l.prog w K mg base N x (aJ st) f cdv A outer s H E) E->
   jI (fo (gu l.prog w) l.prog w K mg base N x (aJ st) f cdv A outer s H E) E (bT st) z)
  (rd:Rd S z N)
  (sc:autoParam (dI N ["_law_script"] (aJ st)) QT._auto_1)
  (len:∀ds E Q,S ds E Q->ds.length=1:=by exact fnS.len (ps:=["_law_script"]) λ_=>rfl)
  (hb:∀(kV doc pm:Value) (an:Option Addr) (cdv ct:Value) (s:Shared) (v:Value),BindsTo s (PySem.W.fnOf x x (cT st) (bT st) (aJ st) .none kV doc pm an cdv ct) ⟨[v],[]⟩ [("_law_script",v)]:=by exact λ_ _ _ _ _ _ _ _=>.of_eq rfl) :
  ∃fd:FuncData,(∀(s:Shared) (v:Value),BindsTo s fd ⟨[v],[]⟩ [("_law_script",v)])/\∀base:Heap,K.In base->base.Ns mainGlobals mg->FnOk l.prog w K mg base (gu l.prog w) (k+1) fa fd ["_law_script"] (iO K S):=by
 obtain⟨f,fd,F,m,q⟩:=h;rw[m]at hfa;cases hfa;refine⟨fd,?_,λbase _ _=>w6 (z:=z) F sc len (λcdv A outer s H E hr hx hw=>hbody base sc.nd _ cdv A outer s H E hr hx hw) rd⟩;obtain⟨_,_,_,_,_,_,_,_,_,rfl,_⟩:=F.ex;exact hb _ _ _ _ _ _
end
section
variable{l:List (Str×bA)}
theorem iC(h:CC X.K X.mg x)(hg:{Gl X x})(hd:(QA x:)):PX X EX (.Name x pos) (wC<|.cls x):=let⟨_,m,q⟩:=h;KQ m q hg hd
theorem At{i:Int}(h:CI X.mg x i)(hg:{Gl X x})(hd:(QA x:)):PX X EX (.Name x pos) (wC<|.int i):=let⟨_,m⟩:=h;Ks m hg hd
theorem lK(h:CT X.K X.mg x ds)(hg:{Gl X x})(hd:(QA x:)):PX X EX (.Name x pos) (wC<|.tup ds):=let⟨_,_,m,k,r⟩:=h;Kt m k r hg hd
theorem lL(h:FnAt X.K X.mg x st)(G:Fp X.prog X.w X.K X.mg X.base k x ps S)(t:∀y∈l,uN X j y)(hk:(k<=j:)):∀y∈(x,S)::l,uN X j y:=let⟨_,_,_,m,q⟩:=h;L6 ⟨_,_,_,m,q,hk,G⟩ t
end
section
variable{n m:Str}{D C:Addr}{M:Qx}
theorem exD(a:PySem.W.nsIn K mainGlobals n=some (some<|.ref D))(b:PySem.W.mroIn K D (.ref f)=some true):∃D,PySem.W.nsIn K mainGlobals n=some (some<|.ref D)/\PySem.W.mroIn K D (.ref f)=some true:=⟨D,a,b⟩
theorem exX(a:PySem.W.nsIn K mainGlobals n=some (some<|.ref D))(c:ja K D)(k:PySem.W.kitOne K (.ref D) (.type "ValueError")=some true)(h:∀m∈M,∃C,jb K m=some C/\PySem.W.kitOne K (.ref D) (.ref C)=some (n==m)) :
  ∃D,jb K n=some D/\ja K D/\PySem.W.kitOne K (.ref D) (.type "ValueError")=some true/\∀m∈M,∃C,jb K m=some C/\PySem.W.kitOne K (.ref D) (.ref C)=some (n==m):=⟨D,uI a,c,k,h⟩
theorem exC(a:PySem.W.nsIn K mainGlobals m=some (some<|.ref C))(b:PySem.W.kitOne K (.ref D) (.ref C)=some (n==m)):∃C,jb K m=some C/\PySem.W.kitOne K (.ref D) (.ref C)=some (n==m):=⟨C,uI a,b⟩
end
abbrev GW:=QG->(QF)->(QG->Prop)->Prop
abbrev MS:=(QF)->(QG->Prop)->cR->Prop
section
end
section
variable{a b:Expr}
end
namespace B.C.Q0
abbrev Pr:=Rat×Qw
def lM(p:Pr):D:=.tup [aS p.1,aE p.2]
def gC(ps:List Pr):D:=.lst<|ps.map lM
structure Pq(b n:Nat)(p:Pr):Prop where
 l:p.2.length=n
 w:Sz b p.1
 r:∀y∈p.2,Sz b y
def fY(n:Int):D->Bool
 |.tup [w,r]=>ee w&&(!decide (uG w=0))&&gZ n r|_=>false
def GX(n:Int):D->Bool
 |.lst xs=>decide (xs.length<=10)&&xs.all (fY n)|_=>false
def DB:D->Pr
 |.tup [w,r]=>(uG w,rQ r)|_=>(0,[])
def sqs:D->List Pr
 |.lst xs=>xs.map DB|_=>[]
def gs:List Pr->Nat->Nat->Rat
 |[],_,_=>0|p::ps,i,j=>p.1*(p.2.getD i 0*p.2.getD j 0)+gs ps i j
def tT(s:Qv)(n i j:Nat):Int:=ga (gr (tbl s n) i) j
def vn(s:Qv)(n:Nat)(ps:List Pr):Prop:=∀i,i<n->∀j,j<n->gs ps i j=(tT s n i j:Rat)
instance(s:Qv)(n:Nat)(ps:List Pr):Decidable (vn s n ps):=by unfold vn;infer_instance
def uT(s:Qv)(n:Nat)(x:D):Bool:=GX n x&&decide (vn s n<|sqs x)
def xR(s:Qv)(n:Nat)(x:D):Except Str D:=if s.reverse=s then .ok (.bl<|uT s n x) else .error "NotEven"
def gU(R:K4):List Pr->K4
 |[]=>R|p::ps=>gU (List.zipWith (λrow share=>aZ row (p.1*share) p.2) R p.2) ps
def Au:bA:=fnS (λx:D×Int=>[x.1,.int x.2]) (λx=>kd x.1=true) λx=>.bl<|fY x.2 x.1
def xT(b k:Nat):Prop:=7+(3*b+1)*k+3*b<8990
def DC(b:Nat)(x:D):Prop:=∀xs,x=.lst xs->xs.length<=10->xT b xs.length
def Av:bA:=fnS (λx:(Nat×SL)×List Pr=>[aL x.1.2.1,gC x.2]) (λx=>IsSl x.1.2.1 x.1.2.2/\xT x.1.1 x.2.length/\∀p∈x.2,Pq x.1.1 x.1.2.2 p) λx=>.lst<|(gU ((tbl x.1.2.1 x.1.2.2).map cP) x.2).map aE
def S_squares_good:bA:=xS (λx:(Nat×SL)×D=>[aL x.1.2.1,x.2]) (λx=>IsSl x.1.2.1 x.1.2.2/\kd x.2=true/\dG x.1.1 x.2=true/\DC x.1.1 x.2) λx=>xR x.1.2.1 x.1.2.2 x.2
section
variable{E:QF}{x:D}{a c:Nat}{i:Int}{t:Qw}{ps:List Pr}
theorem MU(h:kd x=true)(q:Q (.bl<|fY i x)):Au [x,.int i] E Q:=⟨(x,i),rfl,h,q⟩
theorem MV(h:IsSl s n)(h1:xT b ps.length)(h2:∀p∈ps,Pq b n p)(q:Q (.lst<|(gU ((tbl s n).map cP) ps).map aE)):Av [aL s,gC ps] E Q:=⟨((b,s,n),ps),rfl,⟨h,h1,h2⟩,q⟩
end
abbrev Zht:Qx:=["thing", "many"]
def GY:WS:=(aG (cE (eU (bM<|wT<|wB gIs<|aC (wN 0)<|aC (wC<|.ty "tuple") aA)<|wT<|w2 (gEq true) (wB bV<|aC (wN 0) aA)<|wC<|.int<|2) (aH<|wC<|D.bl false) cF)<|aH<|ft (wF xj<|aC (w2 gIx (wN 0)<|wC<|.int<|0) aA)<|ft (w2 (gEq true) (w2 gIx (wN 0)<|wC<|.int<|0)<|wC<|D.tup [(D.int<|0),(D.int<|1)])<|wF xk<|aC (w2 gIx (wN 0)<|wC<|.int<|1)<|aC (wN 1) aA)
abbrev ZlO:Qx:=["slants", "squares", "rows", "weight", "square"]
def GZ:WS:=(aG (aT 2<|wF sT<|aC (wN 0) aA)<|bK 2<|aG (bF<|bH (iS<|wN 1) (dB 2<|bN (gN 3)<|bN (gN 4) cS)<|bK 2<|bY 2<|aLC (iZ<|aC (wN 2)<|aC (wN 4) aA) 2 [3,4] (dB 2<|bN (gN 0)<|bN (gN 1) cS) cC<|wF qt<|aC (wN 0)<|aC (wF rg<|aC (wN 2)<|aC (wN 1) aA)<|aC (wN 3) aA)<|bK 2<|aH<|wN 2)
abbrev Zea:Qx:=["slants", "thing", "size"]
def Aw:WS:=(aG (fV<|wF qs<|aC (wN 0) aA)<|aG (aT 2<|wF jJ<|aC (wN 0) aA)<|aG (cE (eU (bM<|wT<|wB gIs<|aC (wN 1)<|aC (wC<|.ty "list") aA)<|wT<|w2 mM (wB bV<|aC (wN 1) aA)<|wC<|.int<|10) (aH<|wC<|D.bl false) cF)<|aG (cE (bM<|wT<|wB ij<|aC (wL<|aLC (iS<|wN 1) 1 [2] (gN 0) cC<|wF Au<|aC (wN 0)<|aC (wN 1) aA) aA) (aH<|wC<|D.bl false) cF)<|aH<|w2 (gEq false) (wF Av<|aC (wN 0)<|aC (wN 1) aA)<|w2 gMul (wL<|bP<|aC (w2 ZcL (aY<|aC (wC<|D.tup [(D.int<|0),(D.int<|1)]) aA)<|wN 2) aA)<|wN 2)
theorem MW(q:Rat):fg (aS q) (.tup [.int 0,.int 1])=decide (q=0):=by rw[<-vf,ve]
theorem MY:Rd Au GY Zht:=by
 rintro _ E Q ⟨⟨x,n⟩,rfl,hk,q⟩;dsimp only at hk q;unfold GY;walk_at "n";refine qb hk E8 λt ht=>?_;cases x<;>cases ht<;>try exact q
 rename_i xs;obtain⟨hl,hx⟩:=qa hk;ext;simp only[show ii "tuple" "tuple" = true from rfl,gg,eG,if_false]
 match xs,hl,hx,q with
 |[],_,_,q=>ext;exact q|[a],_,_,q=>ext;exact q|a::b::c::r,_,_,q=>ext;rw[oI (by simp;omega)];exact q
 |[a,b],_,hx,q=>
  ext;rw[jx<|KE];refine⟨_,rfl,KG (hx a<|KE) ?_⟩;cases ha:ee a with
  |false=>ext;rw[fY,ha]at q;simpa using q
  |true=>
   obtain⟨p,rfl⟩:=CF ha;rw[fY,ha,zY]at q;ext;refine⟨_,rfl,jh (uB _ _) E8 ?_⟩;rw[oI rfl,MW];cases hp:decide (p=0) with
   |true=>rw[hp]at q;ext;simpa using q
   |false=>
    rw[hp]at q;ext;refine⟨_,rfl,Fr (hx b<|KE) ?_⟩;simpa using q
theorem G0{m:Nat}:∀(ps:List Pr) (R:K4),R.length=m->(∀r∈R,r.length=m)->(∀p∈ps,p.2.length=m)->(gU R ps).length=m/\∀r∈gU R ps,r.length=m
 |[],R,h1,h2,_=>⟨h1,h2⟩|p::ps,R,h1,h2,h3=>by rw[gU];have hp:=h3 p KE;refine G0 ps _ (by rw[kx,h1,hp,u8]) (λr hr=>?_) λq hq=>h3 q (by simp[hq]);obtain⟨k,hk,rfl⟩:=Ybt.mp hr;rw[qy,aZ,kx,hp,h2 _<|i3 _,u8]
def en(R:K4)(i j:Nat):Rat:=(R.getD i []).getD j 0
theorem DD{m:Nat}:∀(ps:List Pr) (R:K4) (i j:Nat),i<m->j<m->R.length=m->(∀r∈R,r.length=m)->(∀p∈ps,p.2.length=m)->en (gU R ps) i j=en R i j-gs ps i j
 |[],R,i,j,_,_,_,_,_=>by rw[gU,gs];grind
 |p::ps,R,i,j,hi,hj,h1,h2,h3=>by
  have hp:=h3 p KE;have hr:(R.getD i []).length=m:=by rw[bE,bZ<|E1];exact h2 _<|i3 _
  rw[gU,gs,DD ps _ i j hi hj (by rw[kx,h1,hp,u8]) (λr hr=>?_) λq hq=>h3 q<|by simp[hq]];have e:en (List.zipWith (λrow share=>aZ row (p.1*share) p.2) R p.2) i j=en R i j-p.1*p.2.getD i 0*p.2.getD j 0:=by unfold en;simp only[bE];rw[bZ (l:=List.zipWith _ R p.2) (i:=i) (by rw[kx];omega),qy,bZ (l:=R)<|E1,bZ (l:=p.2) (i:=i)<|E1];rw[bE,bZ<|E1]at hr;simp only[vP]at hr ⊢;unfold aZ;rw[bZ (l:=List.zipWith _ _ p.2) (by rw[kx];omega),qy,bZ (l:=R[i])<|E1,bZ (l:=p.2)<|E1];rfl
  rw[e];grind;obtain⟨k,hk,rfl⟩:=Ybt.mp hr;rw[qy,aZ,kx,hp,h2 _<|i3 _,u8]
theorem G1{α β:Type}{g1:α->D}{g2:β->D}{f:α->β->D}{we:WE}{tail:cR}{Q:QG->Prop}:∀(A:List α) (C:List β),(∀x∈A,∀y∈C,∀Q:D->Prop,Q (f x y)->we No (.d (g1 x)::.d (g2 y)::tail) Q)->∀(sv sv':SV) (acc:QG),acc.length+A.length<=aR->Q (acc++List.zipWith f A C)->lcW (dB 2<|bN (gN 0)<|bN (gN 1) cS) cC we (cK (A.map g1)<|C.map g2) (sv::sv'::tail) acc Q
 |[],C,_,sv,sv',acc,_,hq=>by
  have e:cK (([]:List α).map g1) (C.map g2)=[]:=by simp[cK]
  rw[e,lcW];simpa using hq
 |x::A,[],_,sv,sv',acc,_,hq=>by
  have e:cK ((x::A).map g1) (([]:List β).map g2)=[]:=by simp[cK]
  rw[e,lcW];simpa using hq
 |x::A,y::C,h,sv,sv',acc,hl,hq=>by
  have e:cK ((x::A).map g1) ((y::C).map g2)=.tup [g1 x,g2 y]::cK (A.map g1) (C.map g2):=by simp[cK]
  rw[e,lcW];refine⟨rfl,?_⟩;show we No (SV.d (g1 x)::SV.d (g2 y)::tail) _;rw[d8]at hl;refine h x KE y KE _ ⟨E1,G1 A C (λa ha c hc=>h a (by simp[ha]) c<|by simp[hc]) _ _ _ (by simp;omega) ?_⟩;rw[kP];simpa using hq
def LI(b:Nat)(s:Qv)(n:Nat)(al:List Pr)(T:K4)(ds:QG)(ρ:cR):Prop:=∃(ps:List Pr) (R:K4) (k:Nat) (s2 s3 s4:SV),ds=ps.map lM/\(∀p∈ps,Pq b n p)/\xT b (k+ps.length)/\gU R ps=T/\R.length=n/\(∀r∈R,r.length=n/\∀y∈r,Sz (7+(3*b+1)*k) y)/\(s2=.d (.lst<|R.map aE)\/s2=.ow (R.map aE))/\ρ=[.d<|aL s,.d<|gC al,s2,s3,s4]
theorem MZ:Rd Av GZ ZlO:=by
 rintro _ E Q ⟨⟨⟨b,s,n⟩,ps⟩,rfl,⟨h,hl,hp⟩,q⟩;dsimp only at h hl hp q;have h5:=h.n5;unfold GZ;refine bJ<|set_by (ρ':=[.d<|aL s,.d<|gC ps,.d<|.lst<|((tbl s n).map cP).map aE,.un,.un]) rfl (λP hP=>?_) ?_
 show wF sT (aC (wN 0) aA) E [.d<|aL s,.d<|gC ps,.un,.un,.un] P;simp only[wF,aC,aA,wN,eH];refine zZ h ?_;rw[List.map_map]at hP;exact hP;dsimp only;show aG _ _ E _ (pub 2 _);rw[show pub 2 [.d<|aL s,.d<|gC ps,.d<|.lst<|((tbl s n).map cP).map aE,.un,.un]=[.d<|aL s,.d<|gC ps,.d<|.lst<|((tbl s n).map cP).map aE,.un,.un] from rfl];refine bJ ?_;show bH _ _ _ _ _ _;refine for_seq (xs:=ps.map lM) (nm_at rfl) ?_;refine mR (LI b s n ps<|gU ((tbl s n).map cP) ps) ?_ ?_ _ _ ⟨ps,(tbl s n).map cP,0,_,.un,.un,rfl,hp,by rw[rY];exact hl,rfl,by simp[kN],λr hr=>?_,.inl rfl,rfl⟩;rintro d ds _ ⟨ps',R,k,s2,s3,s4,e,hpp,hk,hT,hRl,hR,hs2,rfl⟩ nx hnx;cases ps' with
 |nil=>cases e
 |cons p ps'=>
  rw[cG]at e;injection e with e1 e2
  subst e1 e2;have hp0:=hpp p KE;rw[d8]at hk;have hk':7+(3*b+1)*(k+(ps'.length+1))+3*b<8990:=hk;rw[Nat.mul_add,y3]at hk';have key:bY 2 (aLC (iZ<|aC (wN 2)<|aC (wN 4) aA) 2 [3,4] (dB 2<|bN (gN 0)<|bN (gN 1) cS) cC<|wF qt<|aC (wN 0)<|aC (wF rg<|aC (wN 2)<|aC (wN 1) aA)<|aC (wN 3) aA) (λ_=>False) { nx:=nx,rt:=Q,bk:=bK 2 (aH<|wN 2) E { nx:=λ_=>Q .non,rt:=Q },ct:=nx } [.d<|aL s,.d<|gC ps,.d<|.lst<|R.map aE,.d<|aS p.1,.d<|aE p.2]:=by
   refine own_by (xs:=List.zipWith (λrow share=>aE<|aZ row (p.1*share) p.2) R p.2) rfl (λP hP=>?_)<|hnx _ ⟨ps',List.zipWith (λrow share=>aZ row (p.1*share) p.2) R p.2,k+1,_,_,_,rfl,λq hq=>hpp q<|by simp[hq],by rw[show k+1+ps'.length=k+(ps'.length+1) by omega];exact hk,hT,by rw[kx,hRl,hp0.l,u8],λr hr=>?_,.inr<|by rw[y0],rfl⟩
   unfold aE;ext;show lcW _ _ _ (cK (R.map λr=>D.tup<|r.map aS)<|p.2.map aS) _ _ _;refine G1 (g1:=λr=>D.tup<|r.map aS) (g2:=aS) (f:=λrow share=>aE<|aZ row (p.1*share) p.2) R p.2 (λr hr y hy Q hq=>?_) .un .un [] (by simp[aR];omega) (by simpa using hP);ext;refine Fs (B2.of hp0.w (hp0.r y hy)<|E1)<|GD (a:=7+(3*b+1)*k) (b:=b+b) (c:=b) E1 (by rw[(hR r hr).1];omega) (hR r hr).2 (hp0.w.mul<|hp0.r y hy) hp0.r hq
   obtain⟨j,hj,rfl⟩:=Ybt.mp hr;rw[qy];rw[kx]at hj;have hrj:=hR _<|i3 (show j<R.length by omega);refine⟨by rw[aZ,kx,hp0.l,hrj.1,u8],λy hy=>?_⟩;unfold aZ at hy;obtain⟨m,hm,rfl⟩:=Ybt.mp hy;rw[kx]at hm;rw[qy];exact((hrj.2 _<|i3 _).sub<|(hp0.w.mul<|hp0.r _<|i3 _).mul<|hp0.r _<|i3 _).mono (by rw[y3];omega)
  rcases hs2 with rfl|rfl
  refine⟨rfl,?_⟩;exact key;refine⟨rfl,?_⟩;exact key
 rintro _ ⟨ps',R,k,s2,s3,s4,e,hpp,hk,hT,hRl,hR,hs2,rfl⟩;cases ps' with
 |cons p ps'=>cases e
 |nil=>
  rw[gU]at hT;rw[<-hT]at q;rcases hs2 with rfl|rfl
  exact q;exact q
 obtain⟨r,hr',rfl⟩:=YbQ.mp hr;refine⟨by unfold cP;rw[bQ];exact(nw h r hr').1,λy hy=>?_⟩;obtain⟨i,hi,rfl⟩:=YbQ.mp hy;have:=(nw h r hr').2 i hi;rw[Nat.mul_zero,Nat.add_zero];exact Sz.int i E8 (by show i.natAbs<128;omega)
theorem M0{x:D}(h:fY n x=true):∃p:Pr,x=lM p/\p.2.length=n/\p.1≠0:=by unfold fY at h;split at h;rename_i w r;rw[cX,cX]at h;obtain⟨p,rfl⟩:=CF h.1.1;obtain⟨t,rfl,ht⟩:=sU h.2;exact⟨(p,t),rfl,by exact_mod_cast ht,by simpa[zY] using h.1.2⟩;cases h
theorem M1(p:Pr):DB (lM p)=p:=by show(uG<|aS p.1,rQ<|aE p.2)=p;rw[zY,ji]
theorem DE{n:Nat}:∀{xs:QG},xs.all (fY n)=true->∃ps:List Pr,xs=ps.map lM/\∀p∈ps,p.2.length=n/\p.1≠0
 |[],_=>⟨[],rfl,λ_ h=>nomatch h⟩|x::r,h=>by rw[u3,cX]at h;obtain⟨p,rfl,hp⟩:=M0 h.1;obtain⟨ps,rfl,hps⟩:=DE h.2;exact⟨p::ps,rfl,λq hq=>by rcases Yan.mp hq with rfl|hq;exact hp;exact hps q hq⟩
theorem G3(ps:List Pr):sqs (gC ps)=ps:=by show(ps.map lM).map DB=ps;rw[List.map_map];exact(ir λp _=>M1 p).trans (tK _)
theorem G4{ps:List Pr}(h:dG b (gC ps)=true)(hn:∀p∈ps,p.2.length=n):∀p∈ps,Pq b n p:=λp hp=>by unfold gC at h;rw[dG,ZcB]at h;have:=h _<|u6 hp;unfold lM at this;rw[dG,dE,dE,dE,cX,cX,Zl4,Zbt]at this;exact⟨hn p hp,this.1,this.2.1⟩
theorem M2{ps:List Pr}(h:IsSl s n)(hp:∀p∈ps,p.2.length=n):(gU ((tbl s n).map cP) ps=List.replicate n (List.replicate n (0:Rat)))↔vn s n ps:=by
 have hR:((tbl s n).map cP).length=n:=by simp[kN]
 have hr:∀r∈(tbl s n).map cP,r.length=n:=λr hr=>by obtain⟨r,hr',rfl⟩:=YbQ.mp hr;unfold cP;rw[bQ];exact(nw h r hr').1
 have L:=G0 ps _ hR hr hp;have en0:∀i j,i<n->j<n->en ((tbl s n).map cP) i j=(tT s n i j:Rat):=λi j hi hj=>by
  unfold en tT ga gr;have hl:=kN s n;have hi':i<(tbl s n).length:=E1
  have hj':=(nw h _<|i3 hi').1;simp only[bE];rw[bZ (l:=tbl s n) hi',bZ (l:=(tbl s n).map cP)<|E1,Bx];simp only[vP];unfold cP;rw[cV,bZ<|E1];rfl
 constructor;intro e i hi j hj;have:=DD ps _ i j hi hj hR hr hp;rw[e,en0 i j hi hj]at this;have z:en (List.replicate n<|List.replicate n (0:Rat)) i j=0:=by unfold en;simp[bE,lQ,hi,hj]
 rw[z]at this;grind;intro e;refine vQ (by rw[L.1,lS]) λi h1 h2=>?_;rw[BC];have hl:=L.2 _<|i3 h1;refine vQ (by rw[hl,lS]) λj h3 h4=>?_;rw[BC];have:=DD ps _ i j E1 E1 hR hr hp;rw[en0 i j E1<|E1,e i E1 j<|E1]at this;unfold en at this;simp only[bE]at this;rw[bZ h1]at this;simp only[vP]at this;rw[bZ h3]at this;simp only[vP]at this;rw[this];grind
theorem rd_squares_good:Rd S_squares_good Aw Zea:=by
 rintro _ E Q ⟨⟨⟨b,s,n⟩,x⟩,rfl,⟨h,hk,hz,hf⟩,q⟩;dsimp only at h hk hz hf q;have h5:=h.n5;have hsl:=h.len;unfold xR at q;unfold Aw;walk_at "n";refine⟨aL s,rfl,Cz<|E1,?_⟩;dsimp only;unfold g6;rw[oI<|CD h];unfold g9;rw[fH];by_cases he:s.reverse=s;rw[oI<|by simpa using he];rw[oI he]at q;replace q:Q (.bl<|uT s n x):=q;dsimp only[exQ];unfold aL;walk_at "n";refine CB (by simpa using(by omega:s.length<=5000)) ?_;rw[bQ,show((s.length:Int)+1)/2=n by omega];walk_at "n";refine qb hk E8 λt ht=>?_;cases x<;>cases ht<;>try exact q
 rename_i xs;obtain⟨hl,hx⟩:=zQ hk;ext;simp only[show ii "list" "list" = true from rfl,gg,eG,if_false];ext;by_cases h10:xs.length<=10;rw[jx (by simp;omega)];show aG _ _ _ _ _;walk_at "n";refine vc (f:=λd=>.bl<|fY n d) (λd hd Q hq=>?_) .un [] (by simp[aR];omega) ?_;ext;exact MU (hx d hd) hq;refine⟨xs.map<|fY n,KE,?_⟩;rw[yW,show(id∘fY (n:Int))=fY (n:Int) from rfl];replace q:Q (.bl ((decide (xs.length<=10)&&xs.all (fY n))&&decide (vn s n<|sqs<|.lst xs))):=q;cases ha:xs.all (fY n) with
 |false=>rw[ha]at q;simpa using q
 |true=>
  obtain⟨ps,rfl,hps⟩:=DE ha;rw[ha,PR h10,show sqs (.lst<|ps.map lM)=ps from G3 ps]at q;have hf:=hf _ rfl h10;rw[bQ]at h10 hf;rw[jx<|KE];refine MV h hf (G4 hz λp hp=>(hps p hp).1) ⟨E8,E1,E1,by simp[aR];omega,E8,E1,E1,by simp[aR];omega,?_⟩;have e1:(List.replicate n [D.tup [D.int 0,D.int 1]]).flatten=(List.replicate n (0:Rat)).map aS:=by rw[qz,show aS 0=D.tup [D.int 0,D.int 1] from vf,qA]
  have e2:(List.replicate n [D.tup (List.replicate n [D.tup [D.int 0,D.int 1]]).flatten]).flatten=(List.replicate n<|List.replicate n (0:Rat)).map aE:=by rw[e1,qz (f:=aE),qA];rfl
  rw[e2];refine jh (zP λx hx=>?_) (zP λx hx=>?_) ?_;obtain⟨r,_,rfl⟩:=YbQ.mp hx;exact rf r _;obtain⟨r,_,rfl⟩:=YbQ.mp hx;exact rf r _;rw[jx<|KE,L9 Ak,decide_eq_decide.mpr<|M2 h λp hp=>(hps p hp).1];simpa using q
 rw[oI (by simp;omega)];replace q:Q (.bl ((decide (xs.length<=10)&&xs.all (fY n))&&decide (vn s n<|sqs<|.lst xs))):=q;rw[PU h10]at q;exact q;rw[jx<|by simpa using he];rw[jx he]at q;exact q
end B.C.Q0
noncomputable def aO(f:Qy):Nat->Rat
 |0=>0|n+1=>aO f n+f n
theorem gb{f g:Qy}:∀{n:Nat},(∀i,i<n->f i=g i)->aO f n=aO g n
 |0,_=>rfl|n+1,h=>by rw[aO,aO,gb<|λi hi=>h i<|E1,h n<|E1]
theorem rG{f:Qy}:∀{n:Nat},(∀i,i<n->f i=0)->aO f n=0
 |0,_=>rfl|n+1,h=>by rw[aO,rG<|λi hi=>h i<|E1,h n<|E1,pz]
theorem mU{f:Qy}{k:Nat}:∀{n:Nat},k<n->(∀i,i<n->i≠k->f i=0)->aO f n=f k
 |0,h,_=>by omega|n+1,h,h0=>by rw[aO];by_cases e:k=n;subst e;rw[rG<|λi hi=>h0 i E1<|E1,Rat.zero_add];rw[mU (k:=k) E1<|λi hi hk=>h0 i E1 hk,h0 n E1<|P9 e,pz]
theorem qv(f g:Qy):∀n:Nat,aO (λi=>f i-g i) n=aO f n-aO g n
 |0=>by simp only[aO];grind|n+1=>by rw[aO,aO,aO,qv f g n];grind
theorem G5(f:Qy):∀n:Nat,aO f (n+1)=f 0+aO (λi=>f<|i+1) n
 |0=>by simp only[aO];grind|n+1=>by rw[aO,G5 f n,aO];grind
theorem o6:∀(r x:Qw) (n:Nat),r.length=n->x.length=n->cD r x=aO (λj=>r.getD j 0*x.getD j 0) n
 |[],[],_,h,_=>by subst h;rfl|[],_::_,n,h,h'=>by simp at h h';omega|_::_,[],n,h,h'=>by simp at h h';omega|a::r,y::x,n,h,h'=>by subst h;rw[cD,o6 r x r.length rfl<|by simpa using h',d8,G5];rfl
theorem M3{x:Qw}(hr:r.length=n)(hx:x.length=n):cD (kf r q) x=cD r x/q:=by
 clear hr hx;unfold kf;induction r generalizing x with
 |nil=>show(0:Rat)=0/q;rw[hU,ky]
 |cons a r ih=>
  cases x with
  |nil=>show(0:Rat)=0/q;rw[hU,ky]
  |cons y x=>
   rw[cG,cD,cD,ih,hU,hU,hU];grind
theorem vo{c x:Qw}(h:r.length=c.length):cD (aZ r q c) x=cD r x-q*cD c x:=by
 unfold aZ;induction r generalizing c x with
 |nil=>
  cases c with
  |nil=>show(0:Rat)=0-q*0;grind|cons _ _=>simp at h
 |cons a r ih=>
  cases c with
  |nil=>simp at h
  |cons b c=>
   cases x with
   |nil=>show(0:Rat)=0-q*0;grind
   |cons y x=>
    rw[Bz,cD,cD,cD,ih<|by simpa using h];grind
theorem M4(hr:r.length=n)(hk:k<n):cD r (aX n k)=r.getD k 0:=by rw[o6 r (aX n k) n hr<|ku n k,mU hk];rw[unit_at' hk,oI rfl,y4];intro i hi e;rw[unit_at' hi,jx e,lg]
where
 unit_at' {n k i:Nat} (hi:i<n):(aX n k).getD i 0=if i=k then 1 else 0:=by unfold aX;rw[bE,cV,jB hi];rfl
theorem o7(hi:i<n):(aX n k).getD i 0=if i=k then 1 else 0:=by unfold aX;rw[bE,cV,jB hi];rfl
theorem xU{x:Qw}{a:Nat}{v:Rat}(ha:a<x.length):(x.set a v).getD i 0=if i=a then v else x.getD i 0:=by rw[bE,BD,bE];by_cases e:a=i;subst e;rw[oI rfl,oI rfl,oI ha];rfl;rw[jx e,jx<|P9 e]
theorem M5{x:Qw}{a:Nat}{v:Rat}(hr:r.length=n)(hx:x.length=n)(ha:a<n)(h0:x.getD a 0=0):cD r (x.set a v)=cD r x+r.getD a 0*v:=by
 rw[o6 r _ n hr (by rw[dQ];exact hx),o6 r x n hr hx];have:aO (λj=>r.getD j 0*(x.set a v).getD j 0-r.getD j 0*x.getD j 0) n=r.getD a 0*v:=by rw[mU ha];rw[xU<|E1,oI rfl,h0,lg];grind;intro i hi e;rw[xU<|E1,jx e];grind
 rw[qv]at this;grind
structure Ec(n:Nat)(R:K4)(p:Nat)(ld:K4)(pl:Qz)(rs:K4):Prop where
 wl:∀r∈ld,r.length=n
 ws:∀r∈rs,r.length=n
 ll:ld.length=pl.length
 nul:∀x:Qw,x.length=n->((∀r∈R,cD r x=0)↔(∀r∈ld,cD r x=0)/\∀r∈rs,cD r x=0)
 lt:∀a∈pl,a<p
 asc:pl.Pairwise (· < ·)
 one:∀i j,i<ld.length->j<pl.length->(ld.getD i []).getD (pl.getD j 0) 0=if i=j then 1 else 0
 low:∀i,i<ld.length->∀q,q<pl.getD i 0->(ld.getD i []).getD q 0=0
 zer:∀r∈rs,∀q,q<p->r.getD q 0=0
theorem Ec.start{R:K4}(h:∀r∈R,r.length=n):Ec n R 0 [] [] R:=⟨KE,h,rfl,λx _=>KE,KE,.nil,λi j hi=>by simp at hi,λi hi=>by simp at hi,λr _ q hq=>E1⟩
theorem Ec.skip{p:Nat}{R ld:K4}{pl:Qz}(h:Ec n R p ld pl rs)(h0:∀r∈rs,r.getD p 0=0):Ec n R (p+1) ld pl rs:=
 ⟨h.wl,h.ws,h.ll,h.nul,λa ha=>y2<|h.lt a ha,h.asc,h.one,h.low,λr hr q hq=>by
  by_cases e:q=p
  .rw[e];exact h0 r hr
  .exact h.zer r hr q<|E1⟩
theorem Ec.pivot{p:Nat}{R ld rs1 rs2:K4}{pl:Qz}(h:Ec n R p ld pl rs)(hp:p<n)(hr0:r.getD p 0≠0)(hrs:∀t,t∈rs↔t=r\/t∈rs1)(hld:lead=kf r (r.getD p 0))(h2:∀t,t∈rs2↔∃u∈rs1,t=aZ u (u.getD p 0) lead):Ec n R (p+1) (cM ld lead p++[lead]) (pl++[p]) rs2:=by
 have rr:r∈rs:=(hrs r).mpr<|.inl rfl;have rl:=h.ws r rr;have ll:lead.length=n:=by rw[hld];unfold kf;rw[bQ];exact rl
 have lat:∀j,lead.getD j 0=r.getD j 0/r.getD p 0:=λj=>by
  rw[hld];unfold kf;rw[bE,cV,bE (i:=j)];cases r[j]? with
  |none=>show(0:Rat)=0/_;rw[hU,ky]|some x=>rfl
 have lp:lead.getD p 0=1:=by rw[lat,hU,qB _ hr0]
 have lz:∀q,q<p->lead.getD q 0=0:=λq hq=>by rw[lat,h.zer r rr q hq,hU,ky]
 have lesL:∀(u:Qw) (z:Rat),u.length=n->(aZ u z lead).length=n:=λu z hu=>by unfold aZ;rw[kx];omega
 have lesA:∀(u:Qw) (z:Rat) (j:Nat),u.length=n->(aZ u z lead).getD j 0=u.getD j 0-z*lead.getD j 0:=λu z j hu=>by unfold aZ;simp only[bE];by_cases hj:j<n;rw[bZ (by rw[kx];omega),bZ<|E1,bZ<|E1,qy];rfl;rw[fi (by rw[kx];omega),fi<|E1,fi<|E1];show(0:Rat)=0-z*0;grind
 have wlen:(cM ld lead p).length=ld.length:=by unfold cM;rw[bQ]
 have wat:∀i,i<ld.length->(cM ld lead p++[lead]).getD i []=aZ (ld.getD i []) ((ld.getD i []).getD p 0) lead:=λi hi=>by rw[bE,lR<|E1];unfold cM;rw[cV,bE,bZ hi];rfl
 have wlast:(cM ld lead p++[lead]).getD ld.length []=lead:=by rw[bE,lP<|E1,wlen,Nat.sub_self];rfl
 have plat:∀i,i<pl.length->(pl++[p]).getD i 0=pl.getD i 0:=λi hi=>by rw[bE,lR hi,bE]
 have plast:(pl++[p]).getD pl.length 0=p:=by rw[bE,lP<|cO _,Nat.sub_self];rfl
 have plt:∀i,i<pl.length->pl.getD i 0<p:=λi hi=>by rw[bE,bZ hi];exact h.lt _<|i3 _
 have ldm:∀i,i<ld.length->ld.getD i []∈ld:=λi hi=>jm hi;have hll:=h.ll;refine⟨λt ht=>?_,λt ht=>?_,?_,λx hx=>?_,λa ha=>?_,?_,λi j hi hj=>?_,λi hi q hq=>?_,λt ht q hq=>?_⟩;rcases Yao.mp ht with ht|ht
 unfold cM at ht;obtain⟨u,hu,rfl⟩:=YbQ.mp ht;exact lesL u _<|h.wl u hu
 rw[YcC.mp ht];exact ll;obtain⟨u,hu,rfl⟩:=(h2 t).mp ht;exact lesL u _<|h.ws u ((hrs u).mpr<|.inr hu)
 rw[fZ,fZ,wlen,hll];rfl;rw[h.nul x hx];have dl:cD lead x=cD r x/r.getD p 0:=by rw[hld];exact M3 rl hx
 constructor;rintro⟨g1,g2⟩;have z:cD lead x=0:=by rw[dl,g2 r rr,hU,ky]
 refine⟨λt ht=>?_,λt ht=>?_⟩;rcases Yao.mp ht with ht|ht
 unfold cM at ht;obtain⟨u,hu,rfl⟩:=YbQ.mp ht;rw[vo<|by rw[h.wl u hu,ll],g1 u hu,z];grind;rw[YcC.mp ht];exact z;obtain⟨u,hu,rfl⟩:=(h2 t).mp ht;have hu':=(hrs u).mpr<|.inr hu;rw[vo<|by rw[h.ws u hu',ll],g2 u hu',z];grind
 rintro⟨g1,g2⟩;have z:cD lead x=0:=g1 lead KE;have zr:cD r x=0:=by
  rw[dl,hU]at z;have:cD r x*(r.getD p 0)⁻¹*r.getD p 0=0:=by rw[z,ky]
  rw[Rat.mul_assoc,Rat.inv_mul_cancel _ hr0,y4]at this;exact this
 refine⟨λt ht=>?_,λt ht=>?_⟩;have:=g1 (aZ t (t.getD p 0) lead) (Yao.mpr<|.inl (by unfold cM;exact u6 (f:=λr=>aZ r (r.getD p 0) lead) ht));rw[vo<|by rw[h.wl t ht,ll],z]at this;grind;rcases(hrs t).mp ht with rfl|hu
 exact zr;have:=g2 (aZ t (t.getD p 0) lead) ((h2 _).mpr ⟨t,hu,rfl⟩);rw[vo<|by rw[h.ws t ht,ll],z]at this;grind;rcases Yao.mp ha with ha|ha
 exact y2<|h.lt a ha
 rw[YcC.mp ha];exact Nat.lt_succ_self p;refine YcP.mpr ⟨h.asc,KE,λa ha b hb=>?_⟩;rw[YcC.mp hb];exact h.lt a ha;rw[fZ,wlen,me]at hi;rw[fZ,me]at hj;by_cases hi':i<ld.length;have hw:=h.wl _ (ldm i hi');rw[wat i hi',lesA _ _ _ hw];by_cases hj':j<pl.length;rw[plat j hj',h.one i j hi' hj',lz _<|plt j hj'];grind;obtain rfl:j=pl.length:=E1
 rw[plast,lp,jx<|E1];grind;obtain rfl:i=ld.length:=E1
 rw[wlast];by_cases hj':j<pl.length;rw[plat j hj',lz _<|plt j hj',jx<|E1];obtain rfl:j=pl.length:=E1
 rw[plast,lp,oI hll];rw[fZ,wlen,me]at hi;by_cases hi':i<ld.length;have hw:=h.wl _ (ldm i hi');rw[plat i<|E1]at hq;rw[wat i hi',lesA _ _ _ hw,h.low i hi' q hq,lz q (by have:=plt i E1;omega)];grind;obtain rfl:i=ld.length:=E1
 rw[hll,plast]at hq;rw[wlast];exact lz q hq;obtain⟨u,hu,rfl⟩:=(h2 t).mp ht;have hu':=(hrs u).mpr<|.inr hu;rw[lesA _ _ _<|h.ws u hu']
 by_cases e:q=p;rw[e,lp];grind;rw[h.zer u hu' q<|E1,lz q<|E1];grind
def iq(r:Qw)(q:Nat):K4->Qz->Rat
 |l::L,a::P=>r.getD a 0*l.getD q 0+iq r q L P|_,_=>0
theorem G6(q:Nat):∀(L:K4) (P:Qz) (row:Qw),(cU q L P row).length=row.length
 |[],_,_=>by simp[cU]|_::_,[],_=>by simp[cU]|l::L,a::P,row=>by rw[cU,G6 q L P,dQ]
theorem Ax{q t:Nat}:∀(L:K4) (P:Qz) (row:Qw),(∀a∈P,a<row.length)->t∉P->(cU q L P row).getD t 0=row.getD t 0
 |[],_,_,_,_=>by simp[cU]|_::_,[],_,_,_=>by simp[cU]|l::L,a::P,row,h,ht=>by rw[cU,Ax L P _ (λb hb=>by rw[dQ];exact h b<|by simp[hb])<|λhb=>ht<|by simp[hb],xU<|h a<|KE,jx<|λe=>ht<|by simp[e]]
theorem G7{r:Qw}{q n:Nat}(hr:r.length=n):∀(L:K4) (P:Qz) (row:Qw),row.length=n->(∀a∈P,a<n)->P.Pairwise (· < ·)->(∀a∈P,row.getD a 0=0)->cD r (cU q L P row)=cD r row-iq r q L P
 |[],_,row,_,_,_,_=>by simp only[cU,iq];grind|_::_,[],row,_,_,_,_=>by simp only[cU,iq];grind
 |l::L,a::P,row,hw,hn,ha,h0=>by
  obtain⟨h1,h2⟩:=YcQ.mp ha;rw [cU,G7 hr L P _ (by rw [dQ];exact hw) (λb hb=>hn b<|by simp [hb]) h2 (λb hb=>by
   rw[xU (by rw[hw];exact hn a<|KE),jx (by have:=h1 b hb;omega)];exact h0 b<|by simp[hb]),M5 hr hw (hn a<|KE)<|h0 a<|KE,iq]
  grind
theorem G8{r:Qw}{q:Nat}:∀(L:K4) (P:Qz),(∀j,j<P.length->j<L.length->r.getD (P.getD j 0) 0*(L.getD j []).getD q 0=0)->iq r q L P=0
 |[],_,_=>by simp[iq]|_::_,[],_=>by simp[iq]|l::L,a::P,h=>by rw[iq,G8 L P<|λj h1 h2=>by simpa using h (j+1) (by simpa using h1) (by simpa using h2)];have:=h 0 KE KE;rw[tO,tO]at this;rw[this,pz]
theorem G9{r:Qw}{q:Nat}:∀(L:K4) (P:Qz) (i:Nat),i<L.length->L.length=P.length->(∀j,j<P.length->r.getD (P.getD j 0) 0=if i=j then 1 else 0)->iq r q L P=(L.getD i []).getD q 0
 |[],_,i,hi,_,_=>by simp at hi|_::_,[],i,_,hl,_=>by simp at hl
 |l::L,a::P,0,hi,hl,h=>by
  have h0:=h 0 KE;rw[tO,oI rfl]at h0;rw [iq,h0,G8 L P (λj h1 h2=>by
   have:=h (j+1) (by simpa using h1);rw[se,jx<|E1]at this;rw[this,ky]),tO]
  grind
 |l::L,a::P,i+1,hi,hl,h=>by
  have h0:=h 0 KE;rw[tO,jx<|E1]at h0;rw [iq,h0,G9 L P i (by simpa using hi) (by simpa using hl) (λj hj=>by
   have:=h (j+1) (by simpa using hj);rw[se]at this;rw[this]
   by_cases e:i=j
   .rw[oI e,oI<|E1]
   .rw[jx e,jx<|E1]),se]
  grind
theorem Ec.free{q:Nat}{R ld:K4}{pl:Qz}(h:Ec n R n ld pl rs)(hq:q<n)(hn:q∉pl):(cU q ld pl<|aX n q).length=n/\∀r∈R,cD r (cU q ld pl<|aX n q)=0:=by
 have l:(cU q ld pl<|aX n q).length=n:=by rw[G6,ku]
 have z0:∀a∈pl,(aX n q).getD a 0=0:=λa ha=>by rw[o7<|h.lt a ha,jx (show¬a=q from λe=>hn (by rw[<-e];exact ha))]
 refine⟨l,(h.nul _ l).mpr ⟨λr hr=>?_,λr hr=>?_⟩⟩;obtain⟨i,hi,e⟩:=Ybt.mp hr;have e':ld.getD i []=r:=by rw[bE,bZ hi];exact e
 rw[G7 (h.wl r hr) ld pl _ (ku n q) h.lt h.asc z0,M4 (h.wl r hr) hq,G9 ld pl i hi h.ll (λj hj=>by rw[<-e'];exact h.one i j hi hj),e'];grind;rw[o6 r _ n (h.ws r hr) l];exact rG λj hj=>by rw[h.zer r hr j hj,ky]
theorem DF:∀{a b:Qz},a.Pairwise (· < ·)->b.Pairwise (· < ·)->(∀x,x∈a↔x∈b)->a=b
 |[],[],_,_,_=>rfl|[],y::b,_,_,h=>by have:=(h y).mpr KE;simp at this|x::a,[],_,_,h=>by have:=(h x).mp KE;simp at this
 |x::a,y::b,ha,hb,h=>by
  obtain⟨a1,a2⟩:=YcQ.mp ha;obtain⟨b1,b2⟩:=YcQ.mp hb;have hx:=(h x).mp KE;have hy:=(h y).mpr KE;have e:x=y:=by
   rcases Yan.mp hx with e|hx
   exact e;rcases Yan.mp hy with e|hy
   exact e.symm;have:=a1 y hy;have:=b1 x hx;omega
  subst e;rw[DF a2 b2 λz=>?_];constructor;intro hz;rcases Yan.mp ((h z).mp<|by simp[hz]) with e|e
  have:=a1 z hz;omega;exact e;intro hz;rcases Yan.mp ((h z).mpr<|by simp[hz]) with e|e
  have:=b1 z hz;omega;exact e
theorem Hb:∀{R:K4} {p:Nat},dF R p=none->∀r∈R,r.getD p 0=0
 |[],_,_,r,hr=>by cases hr
 |t::R,p,h,r,hr=>by
  rw[dF]at h;by_cases e:t.getD p 0=0;rw[oI e]at h;rcases Yan.mp hr with rfl|hr
  exact e;exact Hb (by cases e2:dF R p with
   |none=>rfl
   |some a=>rw[e2]at h;cases h) r hr
  rw[jx e]at h;cases h
theorem Hc{R:K4}{a:Nat}(h:a<R.length)(t:Qw):t∈R↔t=R.getD a []\/t∈R.take a++R.drop (a+1):=by
 have e:R=R.take a++R.getD a []::R.drop (a+1):=by
  conv=>lhs;rw[<-List.take_append_drop a R]
  rw[tJ h,bE,bZ h];rfl
 conv=>lhs;rw[e]
 simp only[Yao,Yan];constructor;rintro(h|h|h);exact .inr<|.inl h
 exact .inl h;exact .inr<|.inr h
 rintro(h|h|h);exact .inr<|.inl h
 exact .inl h;exact .inr<|.inr h
theorem xV{n:Nat}{R:K4}(hR:∀r∈R,r.length=n):∀p,p<=n->Ec n R p (cN R p).ld (cN R p).pl (cN R p).rs
 |0,_=>Ec.start hR
 |p+1,hp=>by
  have ih:=xV hR p E1;rw[cN];generalize cN R p=x at ih;unfold uQ;cases e:dF x.rs p with
  |none=>exact ih.skip<|Hb e
  |some a=>obtain⟨a1,a2⟩:=vh e;exact ih.pivot (r:=x.rs.getD a []) (rs1:=x.rs.take a++x.rs.drop (a+1)) E1 a2 (Hc a1) rfl λt=>by unfold cM;rw[YbQ];constructor;rintro⟨u,hu,rfl⟩;exact⟨u,hu,rfl⟩;rintro⟨u,hu,rfl⟩;exact⟨u,hu,rfl⟩
namespace Dt
open B.C
theorem Ay(f g:Qy):∀n:Nat,aO (λi=>f i+g i) n=aO f n+aO g n
 |0=>by simp only[aO];grind|n+1=>by rw[aO,aO,aO,Ay f g n];grind
theorem sumN_mul(f:Qy)(c:Rat):∀n:Nat,aO (λi=>c*f i) n=c*aO f n
 |0=>by simp only[aO];grind|n+1=>by rw[aO,aO,sumN_mul f c n];grind
theorem Hd(f:Nat->Qy)(m:Nat):∀n:Nat,aO (λi=>aO (λj=>f i j) m) n=aO (λj=>aO (λi=>f i j) n) m
 |0=>by rw[aO];exact(rG λ_ _=>rfl).symm|n+1=>by rw[aO,Hd f m n,<-Ay];rfl
theorem DG(f:Nat->Int):∀n:Nat,aO (λi=>((f i:Int):Rat)) n=((sumI f n:Int):Rat)
 |0=>rfl|n+1=>by rw[aO,sumI,DG f n,y6]
theorem He(h:IsSl s n)(hi:i<n):((eO s n).getD i []).getD j 0=(tA (tbl s n) i j:Rat):=by
 have l:=kN s n;unfold eO tA gr ga;have e:(tbl s n)[i]? = some ((tbl s n).getD i []):=by rw[bE,bZ<|E1];rfl
 rw[bE (l:=List.map cP<|tbl s n),cV,e];show(cP<|(tbl s n).getD i []).getD j 0=_;unfold cP;rw[bE,cV,bE (l:=(tbl s n).getD i [])];cases((tbl s n).getD i [])[j]? with
 |none=>rfl|some v=>rfl
def o8(n:Nat)(f:Qy):Qw:=(List.range n).map f
theorem Az(n:Nat)(f:Qy):(o8 n f).length=n:=by unfold o8;simp
theorem Hf{f:Qy}(h:j<n):(o8 n f).getD j 0=f j:=by unfold o8;rw[bE,cV,jB h];rfl
theorem Hg{x:Qw}(h:IsSl s n)(hi:i<n)(hx:x.length=n):cD ((eO s n).getD i []) x=aO (λj=>(tA (tbl s n) i j:Rat)*x.getD j 0) n:=by have hm:(eO s n).getD i []∈eO s n:=jm (by rw[qu];exact hi);rw[o6 _ x n (rF h _ hm).len hx];exact gb λj _=>by rw[He h hi]
theorem Hh(n:Nat):(List.range n).Pairwise (· < ·):=List.pairwise_lt_range
theorem M6(h:IsSl s n):fO s n=[]↔(dY s n).pl=List.range n:=by
 have ec:=xV (n:=n) (R:=eO s n) (λr hr=>(rF h r hr).len) n<|cO _;have ec:Ec n (eO s n) n (dY s n).ld (dY s n).pl (dY s n).rs:=ec;unfold fO;rw[List.map_eq_nil_iff,List.filter_eq_nil_iff];constructor
 intro e;refine DF ec.asc (Hh n) λx=>⟨λhx=>Yah.mpr<|ec.lt x hx,λhx=>?_⟩;have:=e x hx;simpa using this;intro e a ha;rw[e];simpa using ha
theorem Hi{n:Nat}:∀(R:K4) (k i:Nat),i<R.length->(ip n k R).getD i []=R.getD i []++aX n (k+i)
 |[],_,_,h=>by simp at h|r::R,k,0,_=>rfl|r::R,k,i+1,h=>by rw[ip,se,Hi R (k+1) i<|by simpa using h,se,show k+1+i=k+(i+1) by omega]
theorem AA{a b:Qw}:(a++b).getD j 0=if j<a.length then a.getD j 0 else b.getD (j-a.length) 0:=by split;rename_i h;rw[bE,lR h,bE];rename_i h;rw[bE,lP<|E1,bE]
theorem xW(f:Qy)(n:Nat):∀m:Nat,aO f (n+m)=aO f n+aO (λj=>f<|n+j) m
 |0=>by rw[aO,Nat.add_zero,pz]|m+1=>by rw[<-Nat.add_assoc,aO,xW f n m,aO];grind
end Dt
namespace B.C.Q0
theorem DH{we:WE}{tail:cR}{Q:QG->Prop}{f:Pr->D}:∀(L:List Pr),(∀p∈L,∀Q:D->Prop,Q (f p)->we No (.d (aS p.1)::.d (aE p.2)::tail) Q)->∀(sv sv':SV) (acc:QG),acc.length+L.length<=aR->Q (acc++L.map f)->lcW (dB 2<|bN (gN 0)<|bN (gN 1) cS) cC we (L.map lM) (sv::sv'::tail) acc Q
 |[],_,sv,sv',acc,_,hq=>by rw[f6,lcW];simpa using hq|p::L,h,sv,sv',acc,hl,hq=>by rw[cG,lcW];refine⟨rfl,?_⟩;show we No (SV.d (aS p.1)::SV.d (aE p.2)::tail) _;rw[d8]at hl;refine h p KE _ ⟨E1,DH L (λa ha=>h a<|by simp[ha]) _ _ _ (by simp;omega) ?_⟩;rw[kP];simpa using hq
def lq(r:Qw):D:=.lst<|r.map aS
theorem bq6{a:Nat}(h:a<=4):bq 6 a<=111:=by
 match a,h with
 |0,_=>decide|1,_=>decide|2,_=>decide|3,_=>decide|4,_=>decide
end B.C.Q0
namespace Gs
open Dt
def dl(i j:Nat):Rat:=if i=j then 1 else 0
theorem M7(i:Nat):dl i i=1:=oI rfl
theorem tA_ent(h:IsSl s n)(hi:i<n)(hj:j<n):tA (tbl s n) i j=eT s n i j:=by unfold tA B.C.gr B.C.ga;rw[uK h,bE (l:=List.map _ _),cV,jB hi];show((List.range n).map λj=>eT s n i j).getD j 0=_;rw[bE,cV,jB hj];rfl
end Gs
namespace G
def zeros(n:Nat):Qw:=List.replicate n 0
def onesB(s:Qv)(n:Nat):Nat->QG->Bool
 |_,[]=>true|k,x::xs=>gS s n x (aX n k)&&onesB s n (k+1) xs
def isOnes(s:Qv)(n:Nat):D->Bool
 |.lst xs=>(xs.length==n)&&onesB s n 0 xs|_=>false
def isNou(s:Qv)(n:Nat)(x:D):Bool:=gS s n x (zeros n) && !decide (rQ x=zeros n)
def isF(a:D):Bool:=fg a<|.str "full"
def isN(a:D):Bool:=fg a<|.str "none"
def papB(s:Qv)(n:Nat):D->Bool
 |.tup [a,b]=>if isF a then isOnes s n b else isN a&&isNou s n b|.tup [a,b,c]=>isF a&&uO s n (.tup [b,c]) && !decide ((rQ b).headD 0=0)|_=>false
structure Pk(y:D):Prop where
 kd:kd y=true
 sz:dG 300 y=true
 hd:∀a r,y=.tup (a::r)->r≠[]->eZ a 60=true
def DI(x y:D):Except Str D:=g6 x<|.ok (.bl<|papB (sI x) (sN x) y)
def S_one_rows_good:bA:=fnS (λx:SL×D=>[aL x.1.1,x.2]) (λx=>IsSl x.1.1 x.1.2/\kd x.2=true/\dG 300 x.2=true) λx=>.bl<|isOnes x.1.1 x.1.2 x.2
def S_nought_row_good:bA:=fnS (λx:SL×D=>[aL x.1.1,x.2]) (λx=>IsSl x.1.1 x.1.2/\kd x.2=true/\dG 300 x.2=true) λx=>.bl<|isNou x.1.1 x.1.2 x.2
def S_paper_good:bA:=xS (λx:D×D=>[x.1,x.2]) (λx=>kd x.1=true/\Pk x.2) λx=>DI x.1 x.2
section
variable{E:QF}{x:D}{u:Qv}
theorem M8(h:IsSl s n)(h1:kd x=true)(h2:dG 300 x=true)(q:Q (.bl<|isOnes s n x)):S_one_rows_good [aL s,x] E Q:=⟨((s,n),x),rfl,⟨h,h1,h2⟩,q⟩
theorem M9(h:IsSl s n)(h1:kd x=true)(h2:dG 300 x=true)(q:Q (.bl<|isNou s n x)):S_nought_row_good [aL s,x] E Q:=⟨((s,n),x),rfl,⟨h,h1,h2⟩,q⟩
theorem u_paper_good(h:IsSl s n)(h1:Pk x)(q:Q (.bl<|papB s n x)):S_paper_good [aL s,x] E Q:=xS.ok (aL s,x) rfl ⟨h.kd,h1⟩ (by(try dsimp only);unfold DI;rw[iB h,fH,h.sN]) q
end
abbrev N_one_rows_good:Qx:=["slants", "thing", "size"]
abbrev ps_one_rows_good:Qx:=["slants", "thing"]
def z_one_rows_good:WS:=(aG (aT 2<|wF jJ<|aC (wN 0) aA)<|aG (cE (eU (bM<|wT<|wB gIs<|aC (wN 1)<|aC (wC<|.ty "list") aA)<|wT<|w2 (gEq true) (wB bV<|aC (wN 1) aA)<|wN 2) (aH<|wC<|D.bl false) cF)<|aH<|wB ij<|aC (wL<|aLC (iE<|aC (wN 1) aA) 2 [0,2] (dB 2<|bN (gN 0)<|bN (gN 1) cS) cC<|wF uP<|aC (wN 2)<|aC (wN 1)<|aC (wF rC<|aC (wN 0)<|aC (wN 3) aA) aA) aA)
abbrev N_nought_row_good:Qx:=["slants", "thing", "noughts"]
abbrev ps_nought_row_good:Qx:=["slants", "thing"]
def z_nought_row_good:WS:=(aG (aT 2<|w2 ZcL (aY<|aC (wC<|D.tup [(D.int<|0),(D.int<|1)]) aA)<|wF jJ<|aC (wN 0) aA)<|aH<|ft (wF uP<|aC (wN 0)<|aC (wN 1)<|aC (wN 2) aA)<|w2 (gEq true) (wN 1)<|wN 2)
abbrev N_paper_good:Qx:=["slants", "thing"]
abbrev ps_paper_good:Qx:=["slants", "thing"]
def z_paper_good:WS:=(aG (fV<|wF nq<|aC (wN 0) aA)<|aG (cE (eU (bM<|wT<|wB gIs<|aC (wN 1)<|aC (wC<|.ty "tuple") aA)<|wT<|w2 (gIn true) (wB bV<|aC (wN 1) aA)<|aY<|aC (wC<|.int<|2)<|aC (wC<|.int<|3) aA) (aH<|wC<|D.bl false) cF)<|aG (cE (wT<|w2 (gEq false) (wB bV<|aC (wN 1) aA)<|wC<|.int<|3) (aH<|ft (w2 (gEq false) (w2 gIx (wN 1)<|wC<|.int<|0)<|wC<|D.str<|PySem.Str.ofString "full")<|ft (wF Ai<|aC (wN 0)<|aC (bX (wN 1) (eC<|wC<|.int<|1) eV) aA)<|w2 (gEq true) (w2 gIx (w2 gIx (wN 1)<|wC<|.int<|1)<|wC<|.int<|0)<|wC<|D.tup [(D.int<|0),(D.int<|1)]) cF)<|aG (cE (wT<|w2 (gEq false) (w2 gIx (wN 1)<|wC<|.int<|0)<|wC<|D.str<|PySem.Str.ofString "full") (aH<|wF S_one_rows_good<|aC (wN 0)<|aC (w2 gIx (wN 1)<|wC<|.int<|1) aA) cF)<|aH<|ft (w2 (gEq false) (w2 gIx (wN 1)<|wC<|.int<|0)<|wC<|D.str<|PySem.Str.ofString "none")<|wF S_nought_row_good<|aC (wN 0)<|aC (w2 gIx (wN 1)<|wC<|.int<|1) aA)
end G
namespace G
def mV(b:Nat->D->Bool):Nat->QG->List Bool
 |_,[]=>[]|k,x::xs=>b k x::mV b (k+1) xs
theorem lc_nums{we:WE}{tail:cR}{Q:QG->Prop}{b:Nat->D->Bool}:∀(xs:QG) (k:Nat),(∀x∈xs,∀(i:Nat) (Q:QH),Q (.bl<|b i x)->we No (.d (.int (i:Int))::.d x::tail) Q)->∀(sv sv':SV) (acc:QG),acc.length+xs.length<=aR->Q (acc++(mV b k xs).map D.bl)->
  lcW (dB 2<|bN (gN 0)<|bN (gN 1) cS) cC we (dH k xs) (sv::sv'::tail) acc Q
 |[],k,_,sv,sv',acc,_,hq=>by
  rw[dH,lcW];simpa[mV] using hq
 |x::xs,k,h,sv,sv',acc,hl,hq=>by
  rw[dH,lcW];refine⟨rfl,?_⟩;show we No (SV.d (.int (k:Int))::SV.d x::tail) _;refine h x KE k _ ⟨?_,?_⟩
  .simp at hl;omega
  .refine lc_nums xs (k+1) (λy hy=>h y<|by simp[hy]) _ _ _ ?_ ?_
   .simp at hl ⊢;omega
   .rw[kP];simpa[mV] using hq
theorem ones_num(s:Qv)(n:Nat):∀(k:Nat) (xs:QG),(mV (λi x=>gS s n x<|aX n i) k xs).all id=onesB s n k xs
 |_,[]=>rfl|k,x::xs=>by rw[mV,onesB,u3,ones_num s n (k+1) xs];rfl
theorem rd_one_rows_good:Rd S_one_rows_good z_one_rows_good N_one_rows_good:=by
 rintro _ E Q ⟨⟨⟨s,n⟩,x⟩,rfl,⟨h,hk,hs⟩,q⟩;dsimp only at h hk hs q;have n5:=h.n5;unfold z_one_rows_good;walk_at "n";refine nu h ?_;walk_at "n";refine qb hk E8 λty ht=>?_;cases x<;>cases ht<;>try exact q
 rename_i xs;obtain⟨hl,hx⟩:=zQ hk;rw[dG,ZcB]at hs;ext;simp only[show ii "list" "list" = true from rfl,gg,eG,if_false];simp only[isOnes]at q;by_cases e:xs.length=n;rw[jx<|by simp[e]];have e2:(xs.length==n)=true:=by simpa using e
 rw[e2,i4]at q;ext;refine lc_nums (b:=λi x=>gS s n x<|aX n i) xs 0 (λx hx' i Q hq=>?_) .un .un [] (eh (by simp;omega)) ?_;ext;exact vg n5<|Aj h (hx x hx') (hs x hx') hq
 refine⟨_,rfl,?_⟩;rw[ones_num];exact q;have e2:(xs.length==n)=false:=by simpa using e
 rw[e2]at q;rw[oI<|by simpa using λz=>e<|by exact_mod_cast z];exact q
theorem Na(n:Nat):aE (zeros n)=.tup (List.replicate n<|.tup [.int 0,.int 1]):=by unfold aE zeros;rw[qz];rfl
theorem Hj{α:Type}(a:α):∀n:Nat,(List.replicate n [a]).flatten=List.replicate n a
 |0=>rfl|n+1=>by rw[iY,tH,Hj a n];rfl
theorem rd_nought_row_good:Rd S_nought_row_good z_nought_row_good N_nought_row_good:=by
 rintro _ E Q ⟨⟨⟨s,n⟩,x⟩,rfl,⟨h,hk,hs⟩,q⟩;dsimp only at h hk hs q;have n5:=h.n5;unfold z_nought_row_good;walk_at "n";refine⟨E8,nu h ?_⟩;refine⟨E1,E1,by simp[aR];omega,?_⟩;rw[jA,Hj,<-Na];ext;refine Aj h hk hs ?_;ext;unfold isNou at q;cases e:gS s n x (zeros n) with
 |false=>rw[e]at q;simpa using q
 |true=>
  rw[e]at q;simp only[if_true];have e1:gZ n x=true:=by unfold gS at e;rw[cX]at e;exact e.1
  obtain⟨r,rfl,hr⟩:=sU e1;refine jh (rf _ 58) (rf _ 58) ?_;simp only[if_true];rw[Ak];rw[ji,i4]at q;exact q
theorem Pk.at{a b:D}{r:QG}(h:Pk (.tup (a::b::r))):eZ a 60=true/\LP.kd b=true/\dG 300 b=true/\LP.kd a=true:=by have hz:=h.sz;rw[dG,ZcB]at hz;exact⟨h.hd a (b::r) rfl<|KE,(qa h.kd).2 b<|KE,hz b<|KE,(qa h.kd).2 a<|KE⟩
theorem Nb(h:xs.length=3):∃a b c,xs=[a,b,c]:=by
 match xs,h with
 |[a,b,c],_=>exact⟨a,b,c,rfl⟩
theorem Nc(h2:xs.length≠2)(h3:xs.length≠3):papB s n (.tup xs)=false:=by
 match xs,h2,h3 with
 |[],_,_=>rfl|[_],_,_=>rfl|[_,_],h,_=>exact PQ rfl h|[_,_,_],_,h=>exact PQ rfl h|_::_::_::_::_,_,_=>rfl
theorem Nd(q:Rat):fg (aS q) (.tup [.int 0,.int 1])=decide (q=0):=by rw[<-vf,ve]
theorem DJ:([2,3]:Qv).contains (k:Int)=(decide (k=2)||decide (k=3)):=by rw[iD];simp;omega
theorem rd_paper_good:Rd S_paper_good z_paper_good N_paper_good:=by
 rintro _ E Q ⟨⟨x,y⟩,rfl,⟨hk,hp⟩,q⟩;dsimp only at hk hp q;unfold z_paper_good;walk_at "n";unfold DI at q;cases e:dM x with
 |false=>exact xp hk e<|kX e q
 |true=>
 obtain⟨s,n,rfl,h⟩:=l8 e;have n1:=h.n1;replace q:=kY h q;rw[fH,h.sN]at q;replace q:Q (.bl<|papB s n y):=q;refine CG h ?_;have okf:eZ (.str "full") 60=true:=wp
 have okn:eZ (.str "none") 60=true:=wp
 walk_at "n";refine qb hp.kd E8 λty ht=>?_;cases y<;>cases ht<;>try exact q
 rename_i xs;ext;simp only[show ii "tuple" "tuple" = true from rfl,gg,eG,if_false];refine⟨E8,_,[2,3],rfl,.inr rfl,?_⟩;rw[DJ];simp only[if_true];ext
 by_cases l2:xs.length=2
 .obtain⟨a,b,rfl⟩:=Gz l2
  obtain⟨oa,kb,sb,ka⟩:=hp.at;simp only[d8,iF,rY,Nat.reduceAdd,decide_true,Bool.true_or,gg,eG,if_false];walk_at "n";rw[show(((2:Nat):Int)==3)=false from rfl];simp only[eG,if_false];walk_at "n";refine⟨a,rfl,jh oa okf ?_⟩;simp only[eG,if_false];replace q:Q (.bl (if isF a then isOnes s n b else isN a&&isNou s n b)):=q;ext;cases ef:isF a with
  |true=>
   rw[ef]at q;unfold isF at ef;rw[ef];simp only[if_true];ext;exact⟨b,rfl,M8 h kb sb q⟩
  |false=>
   rw[ef]at q;unfold isF at ef;rw[ef];simp only[eG,if_false]at q ⊢;ext;refine⟨a,rfl,jh oa okn ?_⟩;simp only[eG,if_false];ext;cases en:isN a with
   |true=>
    rw[en,i4]at q;unfold isN at en;rw[en];simp only[if_true];exact⟨b,rfl,M9 h kb sb q⟩
   |false=>
    rw[en]at q;unfold isN at en;rw[en];simpa using q
 .by_cases l3:xs.length=3
  .obtain⟨a,b,c,rfl⟩:=Nb l3
   obtain⟨oa,kb,sb,ka⟩:=hp.at;have hz:=hp.sz;rw[dG,ZcB]at hz;have kc:=(qa hp.kd).2 c KE;have sc:=hz c KE;simp only[d8,iF,rY,Nat.reduceAdd,decide_true,Bool.or_true,gg,eG,if_false];walk_at "n";rw[show(((3:Nat):Int)==3)=true from rfl];simp only[if_true];ext;refine⟨a,rfl,jh oa okf ?_⟩;simp only[eG,if_false];ext;replace q:Q (.bl (isF a&&uO s n (.tup [b,c]) && !decide ((rQ b).headD 0=0))):=q;cases ef:isF a with
   |false=>
    rw[ef]at q;unfold isF at ef;rw[ef];simpa using q
   |true=>
    rw[ef,i4]at q;unfold isF at ef;rw[ef];simp only[if_true];have ec:bW [a,b,c] (some 1) none=[b,c]:=by
     rw[show(1:Int)=((1:Nat):Int) from rfl,rn<|KE];rfl
    rw[ec];refine L7 h (l7 KE<|by simp[kb,kc]) (by rw[dG,ZcB];simp[sb,sc]) ?_;ext;cases et:uO s n (.tup [b,c]) with
    |false=>rw[et]at q;simpa using q
    |true=>
     rw[et,i4]at q;simp only[if_true];have e1:gZ n b=true:=by
      have:(gS s n b (aX n 0)&&gS s n c (aX n<|n-1))=true:=et;rw[cX]at this;have:=this.1;unfold gS at this;rw[cX]at this;exact this.1
     obtain⟨r,rfl,hr⟩:=sU e1;have h0:(r.map aS)[0]? = some (aS<|r.headD 0):=by
      cases r with
      |nil=>simp at hr;omega
      |cons a r=>rfl
     refine⟨aE r,rfl,?_⟩;ext;refine⟨_,aK (j:=0) h0,jh (uB _ 59) wp ?_⟩;simp only[if_true];rw[Nd];rw[ji]at q;exact q
  .rw[Nc l2 l3]at q
   rw[PU l2,PU l3];simpa using q
end G
theorem set_by{E:QF}(e:ρ.set i (.d d)=ρ')(hw:∀P:D->Prop,P d->w E ρ P)(h:N.nx ρ'):aT i w E N ρ:=hw _ (by rw[e];exact h)
theorem set_rl{E:QF}(R:QH)(hw:∀P:D->Prop,(∀d,R d->P d)->w E ρ P)(h:∀d,R d->N.nx (ρ.set i<|.d d)):aT i w E N ρ:=hw _ h
theorem nm_at{E:QF}(h:ρ[i]? = some (.d d)):∀P:D->Prop,P d->wN i E ρ P:=λP q=>by unfold wN;rw[h];exact q
namespace Dt
theorem DK(h:IsSl s n)(e:fO s n=[]):(gT s n).length=n/\∀p i,p<n->i<n->aO (λj=>(tA (tbl s n) i j:Rat)*((gT s n).getD j []).getD p 0) n=if i=p then 1 else 0:=by
 have pl:=(M6 h).mp e;have alf:=As h;have ec:=xV (n:=n+n) (R:=eE s n) (λr hr=>(alf r hr).len) n E1;obtain⟨t1,t2,t3⟩:=GU (n:=n) (eE s n) n<|cO _;rw[MP h]at t1 t2 t3;have pl':(cN (eE s n) n).pl=List.range n:=by rw[<-t2];exact pl
 have okn:=(uR alf (p:=n)<|E1).ln;rw[xQ]at okn;have ldl:(cN (eE s n) n).ld.length=n:=by rw[ec.ll,pl',nb]
 have rs0:(cN (eE s n) n).rs=[]:=List.length_eq_zero_iff.mp E1;unfold gT;generalize cN (eE s n) n=c at ec pl' ldl rs0;refine⟨by rw[bQ];exact ldl,λp i hp hi=>?_⟩;let x:Nat->Rat:=λj=>(c.ld.getD j []).getD (n+p) 0;have eg:∀j,j<n->((c.ld.map λr=>r.drop n).getD j []).getD p 0=x j:=λj hj=>by rw[bE (l:=c.ld.map _),cV];show _=(c.ld.getD j []).getD (n+p) 0;rw[bE (l:=c.ld),bZ<|E1];show(List.drop n<|c.ld[j]).getD p 0=(c.ld[j]).getD (n+p) 0;rw[bE,List.getElem?_drop,bE]
 rw[gb λj hj=>by rw[eg j hj]];have zl:(o8 n x++o8 n λj=>if j=p then -1 else 0).length=n+n:=by rw[fZ,Az,Az]
 have za:∀j,j<n->(o8 n x++o8 n λj=>if j=p then -1 else 0).getD j 0=x j:=λj hj=>by rw[AA,Az,oI hj,Hf hj]
 have zb:∀j,j<n->(o8 n x++o8 n λj=>if j=p then -1 else 0).getD (n+j) 0=if j=p then -1 else 0:=λj hj=>by rw[AA,Az,jx<|E1,Nat.add_sub_cancel_left,Hf hj]
 have nul:=(ec.nul _ zl).mpr ⟨λr hr=>by
  obtain⟨a,ha,ea⟩:=Ybt.mp hr;have an:a<n:=E1
  have er:c.ld.getD a []=r:=by rw[bE,bZ ha];exact ea
  have one:∀j,j<n->r.getD j 0=if a=j then 1 else 0:=λj hj=>by
   have:=ec.one a j ha (by rw[pl',nb];exact hj);rw[pl',show(List.range n).getD j 0=j from by rw[bE,jB hj];rfl,er]at this;exact this
  rw[o6 r _ (n+n) (ec.wl r hr) zl,xW];rw[mU (n:=n) (k:=a) an<|λj hj ne=>by rw[one j hj,jx<|P9 ne,ky],one a an,oI rfl,za a an];rw[mU (n:=n) (k:=p) hp<|λj hj ne=>by rw[zb j hj,jx ne,lg],zb p hp,oI rfl];show 1*(c.ld.getD a []).getD (n+p) 0+_=0;rw[er];grind,λr hr=>by rw[rs0]at hr;cases hr⟩ ((eE s n).getD i [])<|jm (by rw[xQ];exact hi)
 unfold eE at nul;rw[Hi _ _ _ (by rw[qu];exact hi),rY]at nul;have rl:=(rF h _<|jm (R:=eO s n) (a:=i) (by rw[qu];exact hi)).len;rw[o6 _ _ (n+n) (by rw[fZ,rl,ku]) zl,xW]at nul;rw[gb (n:=n) (g:=λj=>(tA (tbl s n) i j:Rat)*x j)<|λj hj=>by rw[za j hj,AA,rl,oI hj,He h hi]]at nul;rw[mU (f:=λj=>((eO s n).getD i []++aX n i).getD (n+j) 0*(o8 n x++o8 n λj=>if j=p then -1 else 0).getD (n+j) 0) (n:=n) (k:=p) hp<|λj hj ne=>by rw[zb j hj,jx ne,lg]]at nul;rw[zb p hp,oI rfl,AA,rl,jx<|E1,Nat.add_sub_cancel_left,o7 hp]at nul;by_cases z:i=p;rw[oI z];rw[oI z.symm]at nul;grind;rw[jx z];rw[jx<|P9 z]at nul;grind
end Dt
namespace Gs
open Dt
section
theorem Hk(h:IsSl s n)(e:fO s n=[]):LJ (gT s n) n/\Gg 223 (gT s n):=by obtain⟨b1,_⟩:=GR h;exact⟨⟨(DK h e).1,λr hr=>(b1 r hr).1,h.n1,h.n5⟩,λr hr=>(b1 r hr).2⟩
theorem Nf{B:K4}(hk:k<B.length):(fX B j).getD k 0=(B.getD k []).getD j 0:=by unfold fX;rw[bE (l:=List.map _ _),cV,bZ hk,bE (l:=B),bZ hk];rfl
theorem Ng(h:IsSl s n)(e:fO s n=[]){p:Nat}(hp:p<n):bR s n (fX (gT s n) p)=aX n p:=by
 obtain⟨bl,bc⟩:=DK h e;have e1:bR s n (fX (gT s n) p)=(eO s n).map λl=>cD l (fX (gT s n) p):=by unfold bR eO;rw[List.map_map];rfl
 rw[e1];conv=>lhs;rw[Ac (eO s n) []]
 rw[List.map_map,qu];unfold aX;refine C0 λi hi=>?_;show cD ((eO s n).getD i []) (fX (gT s n) p)=_;rw[Hg h hi<|by rw[C3,bl],gb (g:=λk=>(tA (tbl s n) i k:Rat)*((gT s n).getD k []).getD p 0)<|λk hk=>by rw[Nf<|E1],bc p i hp hi]
end
end Gs
section
variable{o a b:Expr}{id:String}{g:Str->QG->(QH)->Prop}
def CS(mg:Qt)(x y:Str):Prop:=∃t,mg x=some (.str y t)
theorem PK{y:Str}(X:K.In h)(G:h.Ns mainGlobals mg){t:Tok}(a:PySem.W.nsIn K mainGlobals x=some (some<|.str y t)):CS mg x y:=⟨t,PySem.W.mg_of X G a⟩
end
open Dt
theorem DL{g:WG}{zb:WS}{E:QF}{N:Nds}(I:Nat->cR->Prop):∀(xs:QG) (k0:Nat),(∀k d,xs[k]? = some d->∀ρ,I (k0+k) ρ->∀nx:cR->Prop,(∀ρ,I (k0+k+1) ρ->nx ρ)->g (.tup [.int ((k0+k:Nat):Int),d]) ρ λρ1=>zb E { nx:=nx,rt:=N.rt,bk:=N.nx,ct:=nx } ρ1)->(∀ρ,I (k0+xs.length) ρ->N.nx ρ)->∀ρ,I k0 ρ->Zbf g zb E N (dH k0 xs) ρ
 |[],k0,_,hn,ρ,i=>hn ρ i
 | x::xs,k0,h,hn,ρ,i=>h 0 x rfl ρ i _<|DL I xs (k0+1) (λk d hd ρ hi nx hnx=>by
   have:=h (k+1) d hd ρ (by rw[show k0+(k+1)=k0+1+k by omega];exact hi) nx (λρ hρ=>hnx ρ (by rw[show k0+1+k+1=k0+(k+1)+1 by omega];exact hρ));rw[show k0+1+k=k0+(k+1) by omega];exact this) (λρ hρ=>hn ρ (by rw[d8,show k0+(xs.length+1)=k0+1+xs.length by omega];exact hρ))
namespace Gs
section
def tq(s:Qv)(n i j:Nat):Rat:=(tA (tbl s n) i j:Rat)
theorem tims_len(r:Qw):(bR s n r).length=n:=by unfold bR;rw[bQ,kN]
theorem tims_at(h:IsSl s n)(hr:r.length=n)(hi:i<n):(bR s n r).getD i 0=aO (λj=>tq s n i j*r.getD j 0) n:=by
 have e1:bR s n r=(eO s n).map λl=>cD l r:=by unfold bR eO;rw[List.map_map];rfl
 rw[e1,bE,cV];have:(eO s n)[i]? = some ((eO s n).getD i []):=by rw[bE,bZ (by rw[qu];exact hi)];rfl
 rw[this];exact Hg h hi hr
end
end Gs
open Gs
section
def tj(s:Qv)(n:Nat):Qz:=(dY s n).pl
def vp(s:Qv)(n:Nat):Qz:=(List.range n).filter λp=>!(tj s n).contains p
theorem DM(h:IsSl s n):Ec n (eO s n) n (dY s n).ld (tj s n) (dY s n).rs:=xV (n:=n) (R:=eO s n) (λr hr=>(rF h r hr).len) n<|cO _
theorem ZiO{p:Nat}:p∈vp s n↔p<n/\p∉tj s n:=by unfold vp;rw[Yag,Yah];simp
theorem AB:fO s n=(vp s n).map λp=>cU p (dY s n).ld (tj s n) (aX n p):=by unfold fO vp tj mT;exact ir λp _=>Dr _ _ _ _
theorem Hl(h:IsSl s n){p t:Nat}(hp:p∈vp s n)(ht:t∈vp s n):(cU p (dY s n).ld (tj s n)<|aX n p).getD t 0=Gs.dl t p:=by obtain⟨t1,t2⟩:=ZiO.mp ht;rw[Ax _ _ _ (by rw[ku];exact(DM h).lt) t2,o7 t1];rfl
theorem DN(h:IsSl s n){f:Qw}(hf:f∈fO s n):f.length=n/\∀r∈eO s n,cD r f=0:=by rw[AB]at hf;obtain⟨p,hp,rfl⟩:=YbQ.mp hf;obtain⟨p1,p2⟩:=ZiO.mp hp;exact(DM h).free p1 p2
theorem Hm{x:Qw}(h:IsSl s n):bR s n x=List.replicate n 0↔∀r∈eO s n,cD r x=0:=by
 have e1:bR s n x=(eO s n).map λl=>cD l x:=by unfold bR eO;rw[List.map_map];rfl
 rw[e1];constructor;intro e r hr;have:cD r x∈(eO s n).map λl=>cD l x:=u6 (f:=λl=>cD l x) hr;rw[e]at this;exact List.eq_of_mem_replicate this;intro e;refine List.eq_replicate_iff.mpr ⟨by rw[bQ,qu],λy hy=>?_⟩;obtain⟨r,hr,rfl⟩:=YbQ.mp hy;exact e r hr
theorem Hn{q:Nat}:∀(L:K4) (P:Qz) (row:Qw),(∀a∈P,a<row.length)->P.Pairwise (· < ·)->L.length=P.length->∀i,i<P.length->(cU q L P row).getD (P.getD i 0) 0=0-(L.getD i []).getD q 0
 |[],[],_,_,_,_,i,hi=>by simp at hi|[],_::_,_,_,_,hl,_,_=>by simp at hl|_::_,[],_,_,_,hl,_,_=>by simp at hl|l::L,a::P,row,hb,hp,hl,0,_=>by obtain⟨h1,h2⟩:=YcQ.mp hp;rw[cU,tO,tO,Ax L P _ (λb hb'=>by rw[dQ];exact hb b<|by simp[hb']) (λz=>by have:=h1 a z;omega),xU<|hb a<|KE,oI rfl]
 |l::L,a::P,row,hb,hp,hl,i+1,hi=>by obtain⟨h1,h2⟩:=YcQ.mp hp;rw[cU,se,se];exact Hn L P _ (λb hb'=>by rw[dQ];exact hb b<|by simp[hb']) h2 (by simpa using hl) i (by simpa using hi)
theorem Nh(h:IsSl s n){a:Nat}(ha:a<n):∃e:Int,e≠0/\e.natAbs<2^223/\∀f∈fO s n,∃c:Int,c.natAbs<2^223/\f.getD a 0=Rat.divInt c e:=by
 have n5:=h.n5;by_cases hm:a∈tj s n;obtain⟨i,hi,ei⟩:=Ybt.mp hm;have e':(tj s n).getD i 0=a:=by rw[bE,bZ hi];exact ei
 have ec:=DM h;have hi':i<(dY s n).ld.length:=by rw[ec.ll];exact hi
 have lf:Lf (LP.bq 6 n) n ((dY s n).ld.getD i []):=(uR (λr hr=>rF h r hr) (p:=n)<|cO _).ld _<|jm hi';obtain⟨c,e,c1,e0,eb,cb,er⟩:=lf.ex;have b223:LP.bq 6 n<=223:=bq6 n5;have pw:2^LP.bq 6 n<=2^223:=rW E8 b223;refine⟨e,e0,dN eb pw,λf hf=>?_⟩;rw[AB]at hf;obtain⟨p,hp,rfl⟩:=YbQ.mp hf;obtain⟨p1,p2⟩:=ZiO.mp hp;refine⟨-(c.getD p 0),?_,?_⟩
 rw[Int.natAbs_neg,bE,bZ<|E1];exact dN (cb _<|i3 _) pw;rw[<-e',Hn _ _ _ (by rw[ku];exact ec.lt) ec.asc ec.ll i hi,er];rw[bE,cV,bE,bZ<|E1];show 0-Rat.divInt c[p] e=Rat.divInt (-c[p]) e;rw[<-Rat.neg_divInt];grind;refine⟨1,E8,E8,λf hf=>?_⟩;rw[AB]at hf;obtain⟨p,hp,rfl⟩:=YbQ.mp hf;rw[Hl h hp<|ZiO.mpr ⟨ha,hm⟩];unfold Gs.dl;split;exact⟨1,E8,rfl⟩;exact⟨0,E8,rfl⟩
def HB(k:Nat)(e:Int)(x:Rat):Prop:=∃a:Int,a.natAbs<=k*2^228/\x=Rat.divInt a (6*e)
end
section
theorem Ho{b:Nat}:∀{a c:Qw},(∀x∈a,Sz 7 x)->(∀x∈c,Sz b x)->Sz (a.length*(b+8)+1) (cD a c)
 |[],c,_,_=>by unfold cD;exact Sz.zero E1|_::_,[],_,_=>by unfold cD;exact Sz.zero E1|x::a,y::c,ha,hc=>by rw[cD];have ih:=Ho (a:=a) (c:=c) (b:=b) (λz hz=>ha z<|by simp[hz]) λz hz=>hc z (by simp[hz]);exact(((ha x<|KE).mul<|hc y<|KE).add ih).mono (by rw[d8,qe];omega)
theorem Ni(h:IsSl s n)(hr:∀x∈r,Sz b x):∀x∈bR s n r,Sz (5*(b+8)+1) x:=λx hx=>by
 unfold bR at hx;obtain⟨l,hl,rfl⟩:=YbQ.mp hx;obtain⟨h1,h2⟩:=nw h l hl;have:=Ho (a:=cP l) (c:=r) (b:=b) (λz hz=>by
  obtain⟨i,hi,rfl⟩:=YbQ.mp hz;exact(CZ<|h2 i hi).mono<|E8) hr
 have e:(cP l).length=n:=by unfold cP;rw[bQ];exact h1
 rw[e]at this;exact this.mono (by have:=pB h.n5 (cO<|b+8);omega)
end
namespace G
def rr(R:K4)(i:Nat):Qw:=R.getD i []
theorem rr_set{R:K4}(h:i<R.length):rr (R.set i r) k=if k=i then r else rr R k:=by unfold rr;rw[bE,BD,bE];by_cases e:i=k;subst e;rw[oI rfl,oI rfl,oI h];rfl;rw[jx e,jx<|P9 e]
end G
namespace G
theorem seq_inv{z:WS}{E:QF}(I:cR->Prop)(h:∀nx:cR->Prop,(∀ρ,I ρ->nx ρ)->z E { N with nx:=nx } ρ)(h2:∀ρ,I ρ->z' E N ρ):aG z z' E N ρ:=h _ h2
end G
namespace F4
theorem noD_rows(R:K4):dl (aM R)=true:=by refine B.dl_lst λx hx=>?_;obtain⟨r,_,rfl⟩:=YbQ.mp hx;exact LH r
theorem bx_rows{R:K4}(hl:R.length<=6)(h:∀r∈R,r.length<=7/\∀y∈r,Sz 223 y):B.C.bx 7 (aM R) 3=true:=by refine B.C.bx_lst (n:=2) (by rw[bQ];omega) λx hx=>?_;obtain⟨r,hr,rfl⟩:=YbQ.mp hx;exact B.C.bx_rowq (n:=0) E8 (h r hr).1 (h r hr).2
end F4
namespace B.C.E.K8
theorem mk_col{p:Nat}(h:IsSl s n)(e:fO s n=[])(hp:p<n):gS s n (aE<|fX (gT s n) p) (aX n p)=true:=by obtain⟨it,_⟩:=Hk h e;unfold gS;have:=rm<|fX (gT s n) p;rw[C3,it.len]at this;rw[this,ji,Ng h e hp];simp
end B.C.E.K8
def papD(s:Qv)(n:Nat):D:=if fO s n=[] then .tup [.str "full",aM<|jn s n] else .tup [.str "none",aE<|(fO s n).getD 0 []]
def S_paper_of:bA:=fnS (λx:SL=>[aL x.1]) (λx=>IsSl x.1 x.2) λx=>papD x.1 x.2
theorem u_paper_of{E:QF}(h:IsSl s n)(q:Q (papD s n)):S_paper_of [aL s] E Q:=⟨(s,n),rfl,h,q⟩
abbrev Zg8:Qx:=["slants", "free"]
def xX:WS:=(aG (aT 1<|wF uS<|aC (wN 0) aA)<|aG (cE (wT<|w2 mM (wB bV<|aC (wN 1) aA)<|wC<|.int<|0) (aH<|aY<|aC (wC<|D.str<|PySem.Str.ofString "none")<|aC (w2 gIx (wN 1)<|wC<|.int<|0) aA) cF)<|aH<|aY<|aC (wC<|D.str<|PySem.Str.ofString "full")<|aC (wF xP<|aC (wN 0) aA) aA)
theorem rd_paper_of:Rd S_paper_of xX Zg8:=by
 rintro _ E Q ⟨⟨s,n⟩,rfl,h,q⟩;dsimp only at h q;unfold papD at q;show xX E _ [.d<|aL s,.un];unfold xX;refine bJ<|LP.set_by (d:=aM<|fO s n) (ρ':=[.d<|aL s,.d<|aM<|fO s n]) (by rfl) (λP hP=>?_) ?_
 ext;exact GN h hP;dsimp only;unfold aM;cases ef:fO s n with
 |nil=>
  rw[ef,oI rfl]at q;refine bJ<|fh (b:=false) (λP hP=>?_) (λe=>nomatch e) λ_=>?_
  ext;exact hP;dsimp only;ext;exact Mm h ⟨E8,q⟩
 |cons f r=>
  rw[ef,jx<|KE]at q;refine bJ<|fh (b:=true) (λP hP=>?_) (λ_=>?_) λe=>nomatch e
  ext;rw[PR<|KE];exact hP;ext;exact⟨_,aK (j:=0) rfl,E8,q⟩
namespace G
section
theorem Nj{x:Qw}(h:IsSl s n)(lx:x.length=n)(x0:∀r∈eO s n,cD r x=0):gS s n (aE x) (zeros n)=true:=by unfold gS;have:=rm x;rw[lx]at this;rw[this,ji,(Hm h).mpr x0];unfold zeros;simp
theorem Nk{f:Qw}(h:IsSl s n)(hf:f∈fO s n):papB s n (.tup [.str "none",aE f])=true:=by obtain⟨l,f0⟩:=DN h hf;show(if isF (.str "none")=true then isOnes s n (aE f) else isN (.str "none")&&isNou s n (aE f))=true;rw[show isF (.str "none")=false from wp,jx<|E8,show isN (.str "none")=true from wp,i4];unfold isNou;rw[Nj h l f0,ji,i4];rw[AB]at hf;obtain⟨p,hp,rfl⟩:=YbQ.mp hf;have p1:=(ZiO.mp hp).1;have e:=Hl h hp hp;rw[M7]at e;rw[PU];rfl;intro z;rw[z]at e;unfold zeros at e;rw[bE,lQ,oI p1]at e;exact PQ e wp
theorem Hq(h:IsSl s n)(e:fO s n=[]):∀(L:Qz) (k:Nat),(∀i,i<L.length->L.getD i 0=k+i/\k+i<n)->onesB s n k ((L.map λp=>fX (gT s n) p).map aE)=true
 |[],_,_=>rfl
 |a::L,k,hL=>by
  obtain⟨h1,h2⟩:=hL 0 KE;rw[cG,cG,onesB];have ea:a=k:=by simpa using h1
  subst ea;rw[B.C.E.K8.mk_col h e<|E1,i4];refine Hq h e L (a+1) λi hi=>?_;have:=hL (i+1) (by simpa using hi);rw[se]at this;omega
theorem pap_good(h:IsSl s n):papB s n (papD s n)=true:=by
 unfold papD;split;rename_i e;show(if isF (.str "full")=true then isOnes s n (aM<|jn s n) else isN (.str "full")&&isNou s n (aM<|jn s n))=true;rw[show isF (.str "full")=true from wp,oI rfl];have bl:=(DK h e).1;have eo:jn s n=(List.range n).map λp=>fX (gT s n) p:=by unfold jn;rw[bl];rfl
 rw[eo];show((((List.range n).map λp=>fX (gT s n) p).map aE).length==n&&onesB s n 0 _)=true;rw[Hq h e (List.range n) 0 (λi hi=>by rw[nb]at hi;exact⟨by rw[bE,jB hi];simp,E1⟩)];simp;rename_i e;refine Nk h ?_;exact jm<|List.length_pos_iff.mpr e
theorem pk_row{w:Str}{x:Qw}(hw:eZ (.str w) 60=true)(n5:x.length<=5)(hs:∀y∈x,Sz 300 y):Pk (.tup [.str w,aE x]):=by
 refine⟨l7 KE λy hy=>?_,?_,?_⟩;simp only[Yan,hJ,or_false]at hy;rcases hy with rfl|rfl
 rfl;exact qp E1;have:=Zbt.mpr hs;simp only[dG,dE];unfold aE at this ⊢;rw[dG]at this;simp only[dG,this];rfl;intro a r ea _;injection ea with ea
 injection ea with ea _
 rw[<-ea];exact hw
theorem Nl(h:IsSl s n):∀f∈fO s n,∀x∈f,Sz 223 x:=λf hf x hx=>by
 obtain⟨l,_⟩:=DN h hf;obtain⟨i,hi,e⟩:=Ybt.mp hx;obtain⟨d,d0,db,hd⟩:=Nh h (a:=i) E1;obtain⟨c,cb,ec⟩:=hd f hf;have:f.getD i 0=x:=by rw[bE,bZ hi];exact e
 rw[<-this,ec];exact z9 d0 cb db
theorem pap_pk(h:IsSl s n):Pk (papD s n):=by
 have n5:=h.n5;unfold papD;split;rename_i e;obtain⟨it,iz⟩:=Hk h e;have bl:=it.len;have eo:jn s n=(List.range n).map λp=>fX (gT s n) p:=by unfold jn;rw[bl];rfl
 rw[eo];refine⟨l7 KE λy hy=>?_,?_,?_⟩;simp only[Yan,hJ,or_false]at hy;rcases hy with rfl|rfl
 rfl;refine Cy (by simp;omega) λz hz=>?_;obtain⟨r,hr,rfl⟩:=YbQ.mp hz;obtain⟨p,hp,rfl⟩:=YbQ.mp hr;exact qp (by rw[C3];omega);simp only[dG,dE];unfold aM;rw[dG,ZcB.mpr λz hz=>?_];rfl;obtain⟨r,hr,rfl⟩:=YbQ.mp hz;obtain⟨p,hp,rfl⟩:=YbQ.mp hr;exact Zbt.mpr λx hx=>(LK it.row (Yah.mp hp) iz x hx).mono E8;intro a r ea _;injection ea with ea
 injection ea with ea _
 rw[<-ea];decide +kernel;rename_i e;have hm:(fO s n).getD 0 []∈fO s n:=jm<|List.length_pos_iff.mpr e;obtain⟨l,_⟩:=DN h hm;exact pk_row wp E1 λy hy=>(Nl h _ hm y hy).mono E8
end
end G
structure Nm(K:PN)(mg:Qt)(x qual f:Str)(st:Stmt):Prop where
 h:∃(C fI:Addr) (od:Option Addr) (osl:Array (Option Value)) (kV doc pm:Value) (an:Option Addr) (cdv ct:Value),jb K x=some C/\mg x=some (.ref C)/\Fl.clsF K C Fl.bmV "ValueError.__new__" f fI=true/\
  K.lookup fI=some ⟨.type "function",od,.func<|PySem.W.fnOf "__init__" qual (cT st) (bT st) (aJ st) .none kV doc pm an cdv ct,osl⟩/\PySem.W.codeIn K cdv qual=true/\PySem.W.keepIn K (.ref fI)=true
section
variable{P:Program}{w:World}{f:Str}
theorem Nn{hp:Heap}(X:K.In hp)(G:hp.Ns mainGlobals mg){C fI:Addr}{kV doc pm cdv ct:Value}{dd:Option Addr}{cd:ClassData}(a:PySem.W.nsIn K mainGlobals x=some (some<|.ref C))(lc:K.lookup C=some ⟨.type "type",dd,.cls cd,sl⟩)(ni:PySem.W.nsIn K cd.ns "__init__" = some (some<|.ref fI))(q:Fl.clsF K C Fl.bmV "ValueError.__new__" f fI=true)
  (l:K.lookup fI=some ⟨.type "function",od,.func<|PySem.W.fnOf "__init__" qual (cT st) (bT st) (aJ st) .none kV doc pm an cdv ct,osl⟩) (c:PySem.W.codeIn K cdv qual=true) (kp:PySem.W.keepIn K (.ref fI)=true):Nm K mg x qual f st:=
 ⟨C,fI,od,osl,kV,doc,pm,an,cdv,ct,uI a,PySem.W.mg_of X G a,q,l,c,kp⟩
end
abbrev PL:Qx:=["NoSlants", "NoRow", "NoNumber", "NoLine", "NotEven", "NotFull", "NotStrong1", "NotStrong2", "NotStrong3", "NotStrong4", "NotStrong5"]
def bf(T:Nat->Qy)(n:Nat)(u v:Qy):Rat:=aO (λi=>u i*aO (λj=>T i j*v j) n) n
def rH(c:Qy)(U:Nat->Qy)(m:Nat):Nat->Rat:=λk=>aO (λa=>c a*U a k) m
theorem xW(f:Qy)(n:Nat):∀m:Nat,aO f (n+m)=aO f n+aO (λj=>f<|n+j) m
 |0=>by simp only[aO,Nat.add_zero];grind|m+1=>by rw[Nat.add_succ,aO,xW f n m,aO];grind
section
theorem vq{u v u' v':Qy}(hu:∀i,i<n->u i=u' i)(hv:∀i,i<n->v i=v' i):bf T n u v=bf T n u' v':=
 gb λi hi=>by rw[hu i hi,gb (g:=λj=>T i j*v' j) λj hj=>by rw[hv j hj]]
theorem vt(hT:∀i j,i<n->j<n->T i j=T j i)(u v:Qy):bf T n u v=bf T n v u:=by unfold bf;rw[gb (g:=λi=>aO (λj=>u i*(T i j*v j)) n) λi _=>by rw[sumN_mul],Hd];refine gb λj hj=>?_;rw[<-sumN_mul];exact gb λi hi=>by rw[hT i j hi hj];grind
theorem xY(u:Qy)(c:Qy)(U:Nat->Qy):∀m:Nat,bf T n u (rH c U m)=aO (λa=>c a*bf T n u (U a)) m
 |0=>by rw[aO];refine rG λi _=>?_;rw[rG λj _=>by show T i j*0=0;rw[lg],lg]
 |m+1=>by rw[aO,<-xY u c U m];unfold bf;rw[<-sumN_mul,<-Ay];refine gb λi _=>?_;rw[gb (g:=λj=>T i j*rH c U m j+c m*(T i j*U m j)) λj _=>by show T i j*(rH c U m j+c m*U m j)=_;grind,Ay,sumN_mul];grind
theorem vv(u v w:Qy)(q:Rat):bf T n u (λk=>v k-q*w k)=bf T n u v-q*bf T n u w:=by unfold bf;rw[<-sumN_mul,<-qv];refine gb λi _=>?_;rw[gb (g:=λj=>T i j*v j-q*(T i j*w j)) λj _=>by grind,qv,sumN_mul];grind
def mS(m:Nat)(f:Qy):Qw:=(List.range m).map f
def DO(n:Nat)(p:Nat->Bool):Nat:=((List.range n).filter p).length
end
namespace Pj
def tb:Nat->Nat->Nat
 |_,0=>0|b,1=>b|b,2=>2*b+1|b,r+3=>b+tb (2*b+1) (r+2)+4
theorem Hr{a:Nat->Int}{x:Qy}{b t:Nat}:∀{r:Nat},(∀k,k<r->(a k).natAbs<2^b)->(∀k,k<r->∃z:Int,z.natAbs<=2^t/\x k=z)->∃z:Int,z.natAbs<=r*2^(b+t)/\aO (λk=>(a k:Rat)*x k) r=z
 |0,_,_=>⟨0,KE,rfl⟩
 |r+1,ha,h=>by
  obtain⟨z,z1,hz⟩:=Hr (a:=a) (r:=r) (λk hk=>ha k<|E1) λk hk=>h k E1;obtain⟨y,y1,hy⟩:=h r E1;refine⟨z+a r*y,?_,?_⟩;have h1:(a r*y).natAbs<=2^(b+t):=by rw[ge,mf];exact pB (lO<|ha r<|E1) y1
  have:=u5 z<|a r*y;rw[qe];omega
  rw[aO,hz,hy,y6,iG]
theorem AC{r:Nat}{a:Nat->Nat->Int}(hu:∀y:Nat->Rat,(∀i,i<m->aO (λk=>(a i k:Rat)*y k) (r+1)=0)->∀k,k<r+1->y k=0):∃i,i<m/\a i r≠0:=by
 apply Classical.byContradiction;intro hn;have:=hu (λk=>if k=r then 1 else 0) (λi hi=>by
  rw[mU (k:=r) E1 λj hj hjr=>by rw[jx hjr,lg]];have:a i r=0:=Classical.byContradiction λz=>hn ⟨i,hi,z⟩;rw[this,oI rfl];rw[y4];rfl) r E1
 rw[oI rfl]at this;exact PQ this E8
theorem Hs{r i0:Nat}{a:Nat->Nat->Int}{c:Nat->Int}{x:Qy}(hi0:i0<m)(hh:a i0 r≠0)(hx:∀i,i<m->aO (λk=>(a i k:Rat)*x k) (r+1)=(c i:Rat))(hu:∀y:Nat->Rat,(∀i,i<m->aO (λk=>(a i k:Rat)*y k) (r+1)=0)->∀k,k<r+1->y k=0) :
  (∀i,i<m->aO (λk=>((a i k*a i0 r-a i r*a i0 k:Int):Rat)*x k) r=((c i*a i0 r-a i r*c i0:Int):Rat))/\∀y:Nat->Rat,(∀i,i<m->aO (λk=>((a i k*a i0 r-a i r*a i0 k:Int):Rat)*y k) r=0)->∀k,k<r->y k=0:=by
 have hq:((a i0 r:Int):Rat)≠0:=λz=>hh (by exact_mod_cast z);have split:∀(y:Qy) (i:Nat),aO (λk=>((a i k*a i0 r-a i r*a i0 k:Int):Rat)*y k) r=(a i0 r:Rat)*aO (λk=>(a i k:Rat)*y k) r-(a i r:Rat)*aO (λk=>(a i0 k:Rat)*y k) r:=λy i=>by
  rw[<-sumN_mul,<-sumN_mul,<-qv];refine gb λk hk=>?_;rw[sf,iG,iG];grind
 refine⟨λi hi=>?_,λy hy k hk=>?_⟩
 .rw[split]
  have e1:=hx i hi;have e2:=hx i0 hi0;rw[aO]at e1 e2;rw[sf,iG,iG,<-e1,<-e2];grind
 .have:=hu (λk=>if k=r then -(aO (λk=>(a i0 k:Rat)*y k) r) / (a i0 r:Rat) else y k) (λi hi=>by
   rw[aO,oI rfl,gb (g:=λk=>(a i k:Rat)*y k) λk hk=>by rw[jx<|E1]];have:=hy i hi;rw[split]at this;grind) k E1
  rw[jx<|E1]at this;exact this
theorem xZ{x y z w:Int}(h1:x.natAbs<2^b)(h2:y.natAbs<2^b)(h3:z.natAbs<2^b)(h4:w.natAbs<2^b):(x*y-z*w).natAbs<2^(2*b+1):=by
 have p1:(x*y).natAbs<2^(2*b):=by rw[ge,show 2*b=b+b by omega,mf];exact sd h1 h2
 have p2:(z*w).natAbs<2^(2*b):=by rw[ge,show 2*b=b+b by omega,mf];exact sd h3 h4
 rw[yT];omega
theorem ya:∀(r b m:Nat) (a:Nat->Nat->Int) (c:Nat->Int) (x:Qy),r<=8->(∀i,i<m->∀k,k<r->(a i k).natAbs<2^b)->(∀i,i<m->(c i).natAbs<2^b)->(∀i,i<m->aO (λk=>(a i k:Rat)*x k) r=(c i:Rat))->(∀y:Nat->Rat,(∀i,i<m->aO (λk=>(a i k:Rat)*y k) r=0)->∀k,k<r->y k=0)->∃D:Int,D≠0/\D.natAbs<=2^tb b r/\∀k,k<r->∃z:Int,z.natAbs<=2^tb b r/\(D:Rat)*x k=(z:Rat)
 |0,b,m,a,c,x,_,_,_,_,_=>⟨1,E8,by simp[tb],λk hk=>E1⟩|1,b,m,a,c,x,_,hb,hc,hx,hu=>by obtain⟨i0,hi0,hh⟩:=AC hu;refine⟨a i0 0,hh,lO<|hb i0 hi0 0<|E1,λk hk=>⟨c i0,lO<|hc i0 hi0,?_⟩⟩;have:=hx i0 hi0;rw[show k=0 by omega];simp only[aO]at this;grind
 |2,b,m,a,c,x,_,hb,hc,hx,hu=>by obtain⟨i0,hi0,hh⟩:=AC hu;obtain⟨h1,h2⟩:=Hs hi0 hh hx hu;obtain⟨i1,hi1,hh1⟩:=AC (a:=λi k=>a i k*a i0 1-a i 1*a i0 k) h2;have e0:=hx i0 hi0;have e1:=hx i1 hi1;simp only[aO]at e0 e1;refine⟨a i1 0*a i0 1-a i1 1*a i0 0,hh1,lO<|xZ (hb _ hi1 _<|E1) (hb _ hi0 _<|E1) (hb _ hi1 _<|E1)<|hb _ hi0 _<|E1,λk hk=>?_⟩;by_cases hk0:k=0;refine⟨c i1*a i0 1-a i1 1*c i0,lO<|xZ (hc _ hi1) (hb _ hi0 _<|E1) (hb _ hi1 _<|E1)<|hc _ hi0,?_⟩;rw[hk0,sf,iG,iG,sf,iG,iG,<-e0,<-e1];grind;refine⟨a i1 0*c i0-a i0 0*c i1,lO<|xZ (hb _ hi1 _<|E1) (hc _ hi0) (hb _ hi0 _<|E1)<|hc _ hi1,?_⟩;rw[show k=1 by omega,sf,iG,iG,sf,iG,iG,<-e0,<-e1];grind
 |r+3,b,m,a,c,x,hr,hb,hc,hx,hu=>by
  obtain⟨i0,hi0,hh⟩:=AC hu;obtain⟨h1,h2⟩:=Hs hi0 hh hx hu;obtain⟨D,d0,dl,dx⟩:=ya (r+2) (2*b+1) m (λi k=>a i k*a i0 (r+2)-a i (r+2)*a i0 k) (λi=>c i*a i0 (r+2)-a i (r+2)*c i0) x E1 (λi hi k hk=>xZ (hb _ hi _<|E1) (hb _ hi0 _<|E1) (hb _ hi _<|E1)<|hb _ hi0 _<|E1) (λi hi=>xZ (hc _ hi) (hb _ hi0 _<|E1) (hb _ hi _<|E1)<|hc _ hi0) h1 h2;have hmul:∀y z:Int,y.natAbs<=2^tb (2*b+1) (r+2)->z.natAbs<2^b->(y*z).natAbs<=2^(b+tb (2*b+1) (r+2)):=λy z hy hz=>by rw[ge,Nat.add_comm,mf];exact pB hy<|lO hz
  have h16:2^(b+tb (2*b+1) (r+2)+4)=2^(b+tb (2*b+1) (r+2))*16:=by rw[mf]
  refine⟨D*a i0 (r+2),rZ d0 hh,?_,λk hk=>?_⟩;have:=hmul D _ dl (hb i0 hi0 (r+2)<|E1);rw[tb,h16];omega;by_cases e:k=r+2;subst e;obtain⟨z,z1,hz⟩:=Hr (a:=a i0) (x:=λk=>(D:Rat)*x k) (r:=r+2) (λk hk=>hb i0 hi0 k<|E1) dx;refine⟨D*c i0-z,?_,?_⟩;have h3:=hmul D _ dl (hc i0 hi0);have h4:=BB (D*c i0) z;have h5:(r+2)*2^(b+tb (2*b+1) (r+2))<=8*2^(b+tb (2*b+1) (r+2)):=mh _ E1;rw[tb,h16];omega;have e2:=hx i0 hi0;rw[aO]at e2;have:aO (λj=>(a i0 j:Rat)*((D:Rat)*x j)) (r+2)=(D:Rat)*aO (λj=>(a i0 j:Rat)*x j) (r+2):=by rw[<-sumN_mul];exact gb λj _=>by grind
  rw[this]at hz;rw[sf,iG,iG,<-hz,<-e2];grind;obtain⟨z,z1,hz⟩:=dx k E1;refine⟨z*a i0 (r+2),?_,?_⟩;have:=hmul z _ z1 (hb i0 hi0 (r+2)<|E1);rw[tb,h16];omega;rw[iG,iG,<-hz];grind
def bI(A:Nat->Nat->Int)(n:Nat)(u v:Nat->Int):Int:=sumI (λi=>u i*sumI (λj=>A i j*v j) n) n
theorem bI_cast(A:Nat->Nat->Int)(n:Nat)(u v:Nat->Int):bf (λa b=>((A a b:Int):Rat)) n (λi=>(u i:Rat)) (λi=>(v i:Rat))=((bI A n u v:Int):Rat):=by unfold bf bI;rw[<-DG];refine gb λi _=>?_;rw[iG,<-DG];congr 1;exact gb λj _=>by rw[iG]
theorem sumI_bd{f:Nat->Int}{c:Nat}:∀{n:Nat},(∀i,i<n->(f i).natAbs<=c)->(sumI f n).natAbs<=n*c
 |0,_=>by simp[sumI]|n+1,h=>by have h1:=sumI_bd (f:=f) (n:=n) λi hi=>h i E1;have h2:=h n E1;have h3:=u5 (sumI f n)<|f n;rw[sumI,qe];omega
theorem Ht{u v:Nat->Int}(hn:n<=5)(hA:∀i j,i<n->j<n->(A i j).natAbs<=50)(hu:∀i,i<n->(u i).natAbs<=2)(hv:∀i,i<n->(v i).natAbs<=2):(bI A n u v).natAbs<2^13:=by
 have h1:∀i,i<n->(sumI (λj=>A i j*v j) n).natAbs<=500:=λi hi=>by
  have:=sumI_bd (f:=λj=>A i j*v j) (c:=100) (n:=n) λj hj=>by rw[ge];exact pB (hA i j hi hj)<|hv j hj
  have:n*100<=5*100:=mh _ hn;omega
 have:=sumI_bd (f:=λi=>u i*sumI (λj=>A i j*v j) n) (c:=1000) (n:=n) λi hi=>by rw[ge];exact pB (hu i hi)<|h1 i hi
 have:n*1000<=5*1000:=mh _ hn;unfold bI;omega
theorem DP:∀{k:Nat},k<=4->tb 13 k<=159
 |0,_=>by decide|1,_=>by decide|2,_=>by decide|3,_=>by decide|4,_=>by decide|k+5,h=>E1
structure Mt(A:Nat->Nat->Int)(n k:Nat)(M:Nat->Nat->Int):Prop where
 sz:∀i,i<k->∀j,j<n->(M i j).natAbs<=2
 one:∀y:Nat->Rat,(∀i,i<k->aO (λj=>((bI A n (M i) (M j):Int):Rat)*y j) k=0)->∀j,j<k->y j=0
def Lt(A:Nat->Nat->Int)(n k:Nat)(M:Nat->Nat->Int)(v:Nat->Int)(r:Qy):Prop:=
 (∃x:Nat->Rat,∀j,j<n->r j=(v j:Rat)-aO (λi=>x i*(M i j:Rat)) k)/\∀i,i<k->bf (λa b=>((A a b:Int):Rat)) n (λj=>(M i j:Rat)) r=0
section
variable{M:Nat->Nat->Int}
theorem Lt.lf(hn:n<=5)(hA:∀i j,i<n->j<n->(A i j).natAbs<=50)(mt:Mt A n k M)(hk:k<=4){v:Nat->Int}(hv:∀j,j<n->(v j).natAbs<=2){r:Qy}(h:Lt A n k M v r):Lf 163 n (mS n r):=by
 obtain⟨⟨x,hx⟩,h0⟩:=h;have sys:∀i,i<k->aO (λj=>((bI A n (M i) (M j):Int):Rat)*x j) k=((bI A n (M i) v:Int):Rat):=λi hi=>by
  have e:=h0 i hi;rw[vq (u':=λj=>(M i j:Rat)) (v':=λj=>(v j:Rat)-1*rH x (λi j=>(M i j:Rat)) k j) (λ_ _=>rfl) (λj hj=>by rw[hx j hj];unfold rH;grind),vv,xY,bI_cast]at e;have e2:aO (λj=>((bI A n (M i) (M j):Int):Rat)*x j) k=aO (λa=>x a*bf (λa b=>((A a b:Int):Rat)) n (λj=>(M i j:Rat)) λj=>(M a j:Rat)) k:=gb λa _=>by rw[bI_cast];grind
  rw[e2];grind
 obtain⟨D,d0,dl,dx⟩:=ya k 13 k (λi j=>bI A n (M i)<|M j) (λi=>bI A n (M i) v) x E1 (λi hi j hj=>Ht hn hA (mt.sz i hi)<|mt.sz j hj) (λi hi=>Ht hn hA (mt.sz i hi) hv) sys mt.one;have tb4:=DP hk;have p2:2^tb 13 k<=2^159:=rW E8 tb4;have e163:2^163=2^159*16:=E8
 have hz:∀j,j<n->∃z:Int,z.natAbs<2^163/\r j=Rat.divInt z D:=λj hj=>by
  have hD:((D:Int):Rat)≠0:=λz=>d0 (by exact_mod_cast z);obtain⟨z,z1,z2⟩:∃z:Int,z.natAbs<=k*(2^159*2)/\(D:Rat)*aO (λi=>x i*(M i j:Rat)) k=(z:Rat):=by
   have:∀m,m<=k->∃z:Int,z.natAbs<=m*(2^159*2)/\(D:Rat)*aO (λi=>x i*(M i j:Rat)) m=(z:Rat):=λm=>by
    induction m with
    |zero=>exact λ_=>⟨0,KE,by simp[aO]⟩
    |succ m ih=>
     intro hm;obtain⟨z,z1,z2⟩:=ih E1;obtain⟨w,w1,w2⟩:=dx m E1;refine⟨z+w*M m j,?_,?_⟩;have:=u5 z (w*M m j);have h2:(w*M m j).natAbs<=2^159*2:=by rw[ge];exact pB (jw w1 p2)<|mt.sz m E1 j hj
     rw[qe];omega;rw[aO,y6,iG,<-z2,<-w2];grind
   exact this k<|cO _
  refine⟨D*v j-z,?_,?_⟩;have h1:=BB (D*v j) z;have h2:(D*v j).natAbs<=2^159*2:=by rw[ge];exact pB (jw dl p2)<|hv j hj
  have h3:k*(2^159*2)<=4*(2^159*2):=mh _ hk;omega;rw[hx j hj,tP,sf,iG,<-z2,hU];have:=qB _ hD;grind
 obtain⟨c,hc⟩:∃c:Nat->Int,∀j,j<n->(c j).natAbs<2^163/\r j=Rat.divInt (c j) D:=⟨λj=>if h:j<n then Classical.choose (hz j h) else 0,λj hj=>by dsimp only;rw[dif_pos hj];exact Classical.choose_spec<|hz j hj⟩;refine⟨(List.range n).map c,D,KE,d0,tM (jw dl p2)<|E1,λy hy=>?_,?_⟩;obtain⟨j,hj,rfl⟩:=YbQ.mp hy;exact(hc j<|Yah.mp hj).1;unfold mS;rw[List.map_map];exact ir λj hj=>(hc j<|Yah.mp hj).2
end
section
variable{M:Nat->Nat->Int}
abbrev cA(A:Nat->Nat->Int):Nat->Nat->Rat:=λa b=>((A a b:Int):Rat)
def nxt(M:Nat->Nat->Int)(k:Nat)(v:Nat->Int):Nat->Nat->Int:=λi=>if i<k then M i else v
theorem Lt.v{v:Nat->Int}{l:Qy}(h:Lt A n k M v l)(hs:∀i j,i<n->j<n->A i j=A j i){w:Qy}(hw:∀i,i<k->bf (cA A) n (λj=>(M i j:Rat)) w=0):bf (cA A) n (λj=>(v j:Rat)) w=bf (cA A) n l w:=by
 obtain⟨⟨x,hx⟩,_⟩:=h;have sy:∀i j,i<n->j<n->cA A i j=cA A j i:=λi j hi hj=>by show((A i j:Int):Rat)=_;rw[hs i j hi hj]
 rw[vt sy l w,vq (u:=w) (u':=w) (v:=l) (v':=λj=>(v j:Rat)-1*rH x (λi j=>(M i j:Rat)) k j) (λ_ _=>rfl) (λj hj=>by rw[hx j hj];unfold rH;grind),vv,xY,rG λa ha=>by rw[vt sy,hw a ha,lg],vt sy];grind
theorem Mt.next(m:Mt A n k M)(hs:∀i j,i<n->j<n->A i j=A j i){v:Nat->Int}(hv:∀j,j<n->(v j).natAbs<=2){l:Qy}(h:Lt A n k M v l)(h0:bf (cA A) n l l≠0):Mt A n (k+1) (nxt M k v):=by
 have sy:∀i j,i<n->j<n->cA A i j=cA A j i:=λi j hi hj=>by show((A i j:Int):Rat)=_;rw[hs i j hi hj]
 refine⟨λi hi j hj=>?_,λy hy=>?_⟩;unfold nxt;split;exact m.sz i ‹_› j hj;exact hv j hj;have hw:∀i,i<k+1->bf (cA A) n (λj=>(nxt M k v i j:Rat)) (rH y (λi j=>(nxt M k v i j:Rat))<|k+1)=0:=λi hi=>by rw[xY,<-hy i hi];exact gb λj _=>by rw[bI_cast];grind
 have old:∀i,i<k->nxt M k v i=M i:=λi hi=>by unfold nxt;rw[oI hi]
 have new:nxt M k v k=v:=by unfold nxt;rw[jx<|ju k]
 have e1:=h.v hs (w:=rH y (λi j=>(nxt M k v i j:Rat))<|k+1) λi hi=>by have:=hw i E1;rwa [old i hi]at this
 have e2:=hw k E1;rw[new,e1,xY,aO,rG λa ha=>by rw[old a ha,vt sy,h.2 a ha,lg],new,vt sy l,h.v hs h.2]at e2;have yk:y k=0:=by
  rcases Rat.mul_eq_zero.mp (show y k*bf (cA A) n l l=0 by grind) with e|e
  exact e;exact PQ e h0
 have rest:=m.one y λi hi=>by have:=hy i E1;rw[aO,yk,lg,pz]at this;rw[<-this];exact gb λj hj=>by rw[old i hi,old j hj]
 intro j hj;by_cases e:j=k;rw[e];exact yk;exact rest j E1
theorem Lt.next{v:Nat->Int}{l r:Qy}(h:Lt A n k M v l)(h':Lt A n k M v' r)(hs:∀i j,i<n->j<n->A i j=A j i)(h0:bf (cA A) n l l≠0):Lt A n (k+1) (nxt M k v) v' (λj=>r j-bf (cA A) n r l/bf (cA A) n l l*l j):=by
 have sy:∀i j,i<n->j<n->cA A i j=cA A j i:=λi j hi hj=>by show((A i j:Int):Rat)=_;rw[hs i j hi hj]
 have old:∀i,i<k->nxt M k v i=M i:=λi hi=>by unfold nxt;rw[oI hi]
 have new:nxt M k v k=v:=by unfold nxt;rw[jx<|ju k]
 have z:∀i,i<k->bf (cA A) n (λj=>(M i j:Rat)) (λj=>r j-bf (cA A) n r l/bf (cA A) n l l*l j)=0:=λi hi=>by rw[vv,h.2 i hi,h'.2 i hi];grind
 refine⟨?_,λi hi=>?_⟩;obtain⟨x,hx⟩:=h.1;obtain⟨x',hx'⟩:=h'.1;refine⟨λi=>if i<k then x' i-bf (cA A) n r l/bf (cA A) n l l*x i else bf (cA A) n r l/bf (cA A) n l l,λj hj=>?_⟩;rw[aO];dsimp only;generalize bf (cA A) n r l/bf (cA A) n l l=q;rw[jx<|ju k,new,gb (g:=λi=>x' i*(M i j:Rat)-q*(x i*(M i j:Rat))) (λi hi=>by rw[oI hi,old i hi];grind),qv,sumN_mul,hx j hj,hx' j hj];grind;by_cases e:i=k;subst e;rw[new];refine(h.v hs z).trans ?_;rw[vv,vt sy l r];have:=qB _ h0;rw[hU];grind;rw[old i<|E1];exact z i E1
theorem Lt.add{v:Nat->Int}{l r:Qy}(h:Lt A n k M v l)(h':Lt A n k M v' r):Lt A n k M (λj=>v j+v' j) (λj=>l j - -1*r j):=by refine⟨?_,λi hi=>by rw[vv,h.2 i hi,h'.2 i hi];grind⟩;obtain⟨x,hx⟩:=h.1;obtain⟨x',hx'⟩:=h'.1;refine⟨λi=>x i - -1*x' i,λj hj=>?_⟩;dsimp only;rw[gb (g:=λi=>x i*(M i j:Rat) - -1*(x' i*(M i j:Rat)))<|λi hi=>by grind,qv,sumN_mul,hx j hj,hx' j hj,y6];grind
end
end Pj
def cB(s:Qv)(n:Nat)(u v:Qw):Rat:=cD u<|bR s n v
def mW(s:Qv)(n:Nat):K4->Option Qw
 |[]=>none|l::L=>if cB s n l l=0 then mW s n L else some l
def iX(s:Qv)(n:Nat):Nat->K4->Option (Nat×Qw)
 |_,[]=>none
 |k,r::R=>match mW s n (r::R.map λo=>aZ r (-1) o) with
  |some l=>some (k,l)|none=>iX s n (k+1) R
def jo(s:Qv)(n:Nat)(l r:Qw):Qw:=aZ r (cB s n r l/cB s n l l) l
def uU(s:Qv)(n:Nat):Nat->K4->K4->K4
 |0,f,R=>f++R
 |k+1,f,R=>match iX s n 0 R with
  |none=>f++R|some (a,l)=>uU s n k (f++[l])<|(R.take a++R.drop (a+1)).map (jo s n l)
def jN(s:Qv)(n:Nat):K4:=uU s n n []<|(List.range n).map (aX n)
theorem Hu{s:Qv}{n:Nat}:∀{L:K4},mW s n L=none->∀l∈L,cB s n l l=0
 |[],_,l,hl=>by cases hl
 |x::L,h,l,hl=>by
  rw[mW]at h;split at h;rcases Yan.mp hl with rfl|hl
  assumption;exact Hu h l hl;cases h
theorem Hv{s:Qv}{n:Nat}{l:Qw}:∀{L:K4},mW s n L=some l->l∈L/\cB s n l l≠0
 |[],h=>by cases h
 |x::L,h=>by rw[mW]at h;split at h;obtain⟨h1,h2⟩:=Hv h;exact⟨kj _ h1,h2⟩;rename_i hx;cases h;exact⟨md ..,hx⟩
theorem Hw{s:Qv}{n:Nat}:∀{k:Nat} {R:K4},iX s n k R=none->(∀r∈R,cB s n r r=0)/\R.Pairwise λr o=>cB s n (aZ r (-1) o) (aZ r (-1) o)=0
 |_,[],_=>⟨KE,.nil⟩
 |k,r::R,h=>by
  rw[iX]at h;cases e:mW s n (r::R.map λo=>aZ r (-1) o) with
  |some l=>rw[e]at h;cases h
  |none=>
   rw[e]at h;obtain⟨h1,h2⟩:=Hw (k:=k+1) (R:=R) h;have z:=Hu e;refine⟨λx hx=>?_,YcQ.mpr ⟨λo ho=>z _<|kj _<|u6 ho,h2⟩⟩;rcases Yan.mp hx with rfl|hx
   exact z _<|md ..
   exact h1 x hx
theorem Hx{s:Qv}{n:Nat}{a:Nat}{l:Qw}:∀{k:Nat} {R:K4},iX s n k R=some (a,l)->∃i,a=k+i/\i<R.length/\(l=R.getD i []\/∃o∈R.drop (i+1),l=aZ (R.getD i []) (-1) o)/\cB s n l l≠0
 |_,[],h=>by cases h
 |k,r::R,h=>by
  rw[iX]at h;cases e:mW s n (r::R.map λo=>aZ r (-1) o) with
  |some l'=>
   rw[e]at h;cases h;obtain⟨h1,h2⟩:=Hv e;refine⟨0,rfl,KE,?_,h2⟩;rcases Yan.mp h1 with e1|h1
   exact .inl e1;obtain⟨o,ho,e1⟩:=YbQ.mp h1;exact .inr ⟨o,ho,e1.symm⟩
  |none=>rw[e]at h;obtain⟨i,h1,h2,h3,h4⟩:=Hx (k:=k+1) (R:=R) h;exact⟨i+1,E1,by simpa using h2,by simpa using h3,h4⟩
def gq(r:Qw):Nat->Rat:=λj=>r.getD j 0
abbrev sA(s:Qv)(n:Nat):Nat->Nat->Int:=tA<|tbl s n
section
theorem rJ(h:IsSl s n){u v:Qw}(hu:u.length=n)(hv:v.length=n):cB s n u v=bf (Pj.cA<|sA s n) n (gq u) (gq v):=by unfold cB;rw[o6 u _ n hu<|Gs.tims_len v];exact gb λi hi=>by rw[Gs.tims_at h hv hi];rfl
theorem Zg{o:Qw}(hr:r.length=n)(ho:o.length=n):(aZ r q o).length=n:=by unfold aZ;rw[kx];omega
theorem AD{o:Qw}(hr:r.length=n)(ho:o.length=n):∀j,j<n->gq (aZ r q o) j=gq r j-q*gq o j:=λj hj=>by unfold gq aZ;simp only[bE];rw[bZ (by rw[kx];omega),bZ<|E1,bZ<|E1,qy];rfl
theorem DQ(hr:r.length=n):mS n (gq r)=r:=by
 refine yO λi=>?_;unfold mS gq;rw[cV];rcases gD i n with hi|hi
 rw[jB hi,bZ<|E1];show some (r.getD i 0)=_;rw[bE,bZ<|E1];rfl;rw[fi (by rw[nb];exact hi),fi<|E1];rfl
theorem yb(h:IsSl s n)(ev:s.reverse=s):∀i j,i<n->j<n->sA s n i j=sA s n j i:=λi j hi hj=>by
 have e1:=rJ h (ku n i)<|ku n j;have e2:=rJ h (ku n j)<|ku n i;have e3:cB s n (aX n i) (aX n j)=cB s n (aX n j) (aX n i):=by unfold cB;rw[F8 h (ku n j)<|ku n i,ev]
 have key:∀a b,a<n->b<n->bf (Pj.cA<|sA s n) n (gq<|aX n a) (gq<|aX n b)=((sA s n a b:Int):Rat):=λa b ha hb=>by unfold bf;rw[mU ha λi hi ne=>by show(aX n a).getD i 0*_=0;rw[o7 hi,jx ne,ky],mU hb λj hj ne=>by show _*(aX n b).getD j 0=0;rw[o7 hj,jx ne,lg]];show(aX n a).getD a 0*(_*(aX n b).getD b 0)=_;rw[o7 ha,o7 hb,oI rfl,oI rfl,Rat.one_mul,y4]
 rw[e1,e2,key i j hi hj,key j i hj hi]at e3;exact_mod_cast e3
theorem AE(h:IsSl s n):∀i j,i<n->j<n->(sA s n i j).natAbs<=50:=λi j hi hj=>by show(tA (tbl s n) i j).natAbs<=50;rw[Gs.tA_ent h hi hj];have hl:=h.len;unfold eT;rw[bE,bZ<|E1];have:=h.b _<|i3 (l:=s) (n:=n-1-i+j) E1;show(s[n-1-i+j]).natAbs<=50;omega
structure Sg(s:Qv)(n:Nat)(f R:K4):Prop where
 len:f.length+R.length=n
 wf:∀r∈f,r.length=n
 wR:∀r∈R,r.length=n
 ex:∃M,Pj.Mt (sA s n) n f.length M/\∀r∈R,∃v:Nat->Int,(∀j,j<n->(v j).natAbs<=1)/\Pj.Lt (sA s n) n f.length M v (gq r)
 lf:∀r∈f,Lf 163 n r
 ff:f.Pairwise λu v=>cB s n u v=0
 fR:∀u∈f,∀r∈R,cB s n u r=0
 fu:∀x:Qw,x.length=n->(∀r∈f++R,cD r x=0)->∀k,k<n->x.getD k 0=0
theorem Sg.rows(h:IsSl s n){f R:K4}(g:Sg s n f R):∀r∈R,Lf 163 n r:=λr hr=>by obtain⟨M,m,hM⟩:=g.ex;obtain⟨v,hv,l⟩:=hM r hr;have hl:=g.len;have:0<R.length:=List.length_pos_of_mem hr;have:=l.lf h.n5 (AE h) m (by have:=h.n5;omega) λj hj=>jw (hv j hj) E8;rwa [DQ<|g.wR r hr]at this
theorem Sg.start(h:IsSl s n):Sg s n [] ((List.range n).map<|aX n):=by refine⟨KE,KE,λr hr=>?_,⟨λ_ _=>0,⟨λi hi=>by simp at hi,λy _ j hj=>by simp at hj⟩,λr hr=>?_⟩,KE,.nil,KE,λx hx h0 k hk=>?_⟩;obtain⟨k,_,rfl⟩:=YbQ.mp hr;exact ku n k;obtain⟨k,hk,rfl⟩:=YbQ.mp hr;refine⟨λj=>if j=k then 1 else 0,λj hj=>by dsimp only;split<;>decide,⟨λ_=>0,λj hj=>?_⟩,λi hi=>by simp at hi⟩;show(aX n k).getD j 0=_;rw[o7 hj];simp only[iF,aO];split<;>grind;have:=h0 (aX n k) (by simp;exact⟨k,hk,rfl⟩);rw[o6 _ x n (ku n k) hx,mU hk λi hi ne=>by rw[o7 hi,jx ne,ky],o7 hk,oI rfl,Rat.one_mul]at this;exact this
end
section
theorem yc(h:IsSl s n)(ev:s.reverse=s){u v:Qw}(hu:u.length=n)(hv:v.length=n):cB s n u v=cB s n v u:=by unfold cB;rw[F8 h hv hu,ev]
theorem vw(h:IsSl s n){u v w:Qw}(hu:u.length=n)(hv:v.length=n)(hw:w.length=n):cB s n u (aZ v q w)=cB s n u v-q*cB s n u w:=by rw[rJ h hu<|Zg hv hw,rJ h hu hv,rJ h hu hw,vq (u':=gq u) (v':=λj=>gq v j-q*gq w j) (λ_ _=>rfl)<|AD hv hw,vv]
structure Ld(s:Qv)(n:Nat)(f R:K4)(a:Nat)(l:Qw):Prop where
 at_:a<R.length
 len:l.length=n
 le:l=R.getD a []\/∃o∈R.take a++R.drop (a+1),l=aZ (R.getD a []) (-1) o
 nz:cB s n l l≠0
theorem Sg.ld{f R:K4}(g:Sg s n f R){a:Nat}(e:iX s n 0 R=some (a,l)):Ld s n f R a l:=by
 obtain⟨i,h1,h2,h3,h4⟩:=Hx e;obtain rfl:a=i:=E1
 have ha:=g.wR _<|jm h2;rcases h3 with rfl|⟨o,ho,rfl⟩
 exact⟨h2,ha,.inl rfl,h4⟩;exact⟨h2,Zg ha<|g.wR _<|pA ho,.inr ⟨o,jz _ ho,rfl⟩,h4⟩
theorem Ld.lt(h:IsSl s n){f R:K4}(g:Sg s n f R){a:Nat}(d:Ld s n f R a l){M:Nat->Nat->Int}(hM:∀r∈R,∃v:Nat->Int,(∀j,j<n->(v j).natAbs<=1)/\Pj.Lt (sA s n) n f.length M v (gq r)):∃v:Nat->Int,(∀j,j<n->(v j).natAbs<=2)/\Pj.Lt (sA s n) n f.length M v (gq l):=by
 obtain⟨v,hv,hl⟩:=hM _<|jm d.at_;rcases d.le with e|⟨o,ho,e⟩
 rw[e];exact⟨v,λj hj=>jw (hv j hj)<|E8,hl⟩;obtain⟨v',hv',hl'⟩:=hM o (jM ho);refine⟨λj=>v j+v' j,λj hj=>?_,?_⟩;have:=u5 (v j) (v' j);have:=hv j hj;have:=hv' j hj;dsimp only;omega;have:=hl.add hl';obtain⟨⟨x,hx⟩,h2⟩:=this;have eq:=AD (q:=-1) (g.wR _<|jm d.at_)<|g.wR _ (jM ho);rw[<-e]at eq;exact⟨⟨x,λj hj=>(eq j hj).trans (hx j hj)⟩,λi hi=>by rw[vq (λ_ _=>rfl) eq];exact h2 i hi⟩
theorem Ld.lf(h:IsSl s n){f R:K4}(g:Sg s n f R){a:Nat}{l:Qw}(d:Ld s n f R a l):Lf 163 n l:=by obtain⟨M,m,hM⟩:=g.ex;obtain⟨v,hv,hl⟩:=d.lt h g hM;have:=d.at_;have:=g.len;have:=hl.lf h.n5 (AE h) m (by have:=h.n5;omega) hv;rwa [DQ d.len]at this
theorem Np(hr:r.length=n)(hl:l.length=n):(jo s n l r).length=n:=Zg hr hl
theorem Ld.out(h:IsSl s n)(ev:s.reverse=s){f R:K4}(g:Sg s n f R){a:Nat}(d:Ld s n f R a l):∀u∈f,cB s n u l=0:=λu hu=>by
 have e1:=g.fR u hu _<|jm d.at_;rcases d.le with e|⟨o,ho,e⟩
 rw[e];exact e1;rw[e,vw h (g.wf u hu) (g.wR _<|jm d.at_)<|g.wR _<|jM ho,e1,g.fR u hu o<|jM ho];grind
theorem Sg.step(h:IsSl s n)(ev:s.reverse=s){f R:K4}(g:Sg s n f R){a:Nat}(d:Ld s n f R a l):Sg s n (f++[l]) ((R.take a++R.drop (a+1)).map<|jo s n l):=by
 have hlen:=g.len;have ha:=d.at_;have ra:=g.wR _<|jm d.at_;have hl:=d.len;have sy:=yb h ev;have nz:bf (Pj.cA<|sA s n) n (gq l) (gq l)≠0:=by rw[<-rJ h hl hl];exact d.nz
 have wa:∀r∈R,(jo s n l r).length=n:=λr hr=>Np (g.wR r hr) hl;have own:∀r∈R,cB s n l (jo s n l r)=0:=λr hr=>by unfold jo;rw[vw h hl (g.wR r hr) hl,yc h ev hl<|g.wR r hr,hU];have:=qB _ d.nz;grind
 refine⟨by simp;omega,λr hr=>?_,λr hr=>?_,?_,λr hr=>?_,?_,λu hu r hr=>?_,λx hx h0=>?_⟩;rcases Yao.mp hr with hr|hr
 exact g.wf r hr;rw[YcC.mp hr];exact hl;obtain⟨r0,h0,rfl⟩:=YbQ.mp hr;exact wa r0<|jM h0
 obtain⟨M,m,hM⟩:=g.ex;obtain⟨v,hv,lt⟩:=d.lt h g hM;refine⟨Pj.nxt M f.length v,?_,λr hr=>?_⟩;rw[fZ,me];exact m.next sy hv lt nz;obtain⟨r0,h0,rfl⟩:=YbQ.mp hr;obtain⟨v',hv',lt'⟩:=hM r0<|jM h0;rw[fZ,me];obtain⟨⟨x,hx⟩,h2⟩:=lt.next lt' sy nz;have eq:∀j,j<n->gq (jo s n l r0) j=gq r0 j-bf (Pj.cA<|sA s n) n (gq r0) (gq l)/bf (Pj.cA<|sA s n) n (gq l) (gq l)*gq l j:=λj hj=>by unfold jo;rw[AD (g.wR r0<|jM h0) hl j hj,rJ h (g.wR r0<|jM h0) hl,rJ h hl hl]
 exact⟨v',hv',⟨x,λj hj=>(eq j hj).trans (hx j hj)⟩,λi hi=>by rw[vq (λ_ _=>rfl) eq];exact h2 i hi⟩;rcases Yao.mp hr with hr|hr
 exact g.lf r hr;rw[YcC.mp hr];exact d.lf h g;exact YcP.mpr ⟨g.ff,KE,λu hu v hv=>by rw[YcC.mp hv];exact d.out h ev g u hu⟩;obtain⟨r0,h0,rfl⟩:=YbQ.mp hr;rcases Yao.mp hu with hu|hu
 unfold jo;rw[vw h (g.wf u hu) (g.wR r0<|jM h0) hl,g.fR u hu r0<|jM h0,d.out h ev g u hu];grind;rw[YcC.mp hu];exact own r0<|jM h0
 have zl:cD l x=0:=h0 l KE;have zc:∀r∈R.take a++R.drop (a+1),cD r x=0:=λr hr=>by have:=h0 (jo s n l r)<|jz _ (u6 hr);unfold jo at this;rw[vo<|by rw[g.wR r<|jM hr,hl],zl]at this;grind
 refine g.fu x hx λr hr=>?_;rcases Yao.mp hr with hr|hr
 exact h0 r (by simp[hr]);rcases(Hc ha r).mp hr with rfl|hr
 rcases d.le with e|⟨o,ho,e⟩
 rw[<-e];exact zl;rw[e,vo<|by rw[ra,g.wR o<|jM ho],zc o ho]at zl;grind;exact zc r hr
structure Pa(s:Qv)(n:Nat)(P:K4):Prop where
 len:P.length=n
 lf:∀r∈P,Lf 163 n r
 ap:P.Pairwise λu v=>cB s n u v=0
 fu:∀x:Qw,x.length=n->(∀r∈P,cD r x=0)->∀k,k<n->x.getD k 0=0
theorem Sg.fin(h:IsSl s n)(ev:s.reverse=s){f R:K4}(g:Sg s n f R)(e:iX s n 0 R=none):Pa s n (f++R):=by
 obtain⟨h1,h2⟩:=Hw e;refine⟨by rw[fZ];exact g.len,λr hr=>?_,YcP.mpr ⟨g.ff,?_,g.fR⟩,g.fu⟩;rcases Yao.mp hr with hr|hr
 exact g.lf r hr;exact g.rows h r hr;refine h2.imp_of_mem λ{r o} hr ho hz=>?_;have wr:=g.wR r hr;have wo:=g.wR o ho;rw[vw h (Zg wr wo) wr wo,yc h ev (Zg wr wo) wr,yc h ev (Zg wr wo) wo,vw h wr wr wo,vw h wo wr wo,h1 r hr,h1 o ho,yc h ev wo wr]at hz;grind
theorem Hy(h:IsSl s n)(ev:s.reverse=s):∀(k:Nat) {f R:K4},Sg s n f R->R.length<=k->Pa s n (uU s n k f R)
 |0,f,R,g,hk=>by have:R=[]:=List.length_eq_zero_iff.mp E1;subst this;exact g.fin h ev rfl
 |k+1,f,R,g,hk=>by
  rw[uU];cases e:iX s n 0 R with
  |none=>exact g.fin h ev e|some al=>obtain⟨a,l⟩:=al;have d:=g.ld e;have ha:=d.at_;exact Hy h ev k (g.step h ev d) (by rw[bQ,fZ,m6,m8];omega)
theorem AF(h:IsSl s n)(ev:s.reverse=s):Pa s n (jN s n):=Hy h ev n (Sg.start h) KE
theorem Pa.ind(h:IsSl s n)(p:Pa s n P):(cN P n).ld.length=n:=by
 have hR:∀r∈P,r.length=n:=λr hr=>(p.lf r hr).len;have ec:=xV hR n<|cO _;have:∀q,q<n->q∈(cN P n).pl:=λq hq=>Classical.byContradiction λhn=>by obtain⟨l,f0⟩:=ec.free hq hn;have:=p.fu _ l f0 q hq;rw[Ax _ _ _ (by rw[ku];exact ec.lt) hn,o7 hq,oI rfl]at this;exact PQ this E8
 have e:(cN P n).pl=List.range n:=DF ec.asc (Hh n) λx=>⟨λhx=>Yah.mpr<|ec.lt x hx,λhx=>this x<|Yah.mp hx⟩;rw[ec.ll,e,nb]
end
def lcV(g:WG)(wf:WT)(we:WE):QG->cR->QG->(cR->QG->Prop)->Prop
 |[],ρ,acc,Q=>Q ρ acc|d::ds,ρ,acc,Q=>g d ρ λρ2=>wf No ρ2 λb=>if b=true then we No ρ2 λy=>acc.length<aR/\lcV g wf we ds ρ2 (acc++[y]) Q else lcV g wf we ds ρ2 acc Q
def lcW2(g:WG)(wf:WT)(wi2:WA)(g2:WG)(wf2:WT)(we:WE):QG->cR->QG->(QG->Prop)->Prop
 |[],_,acc,Q=>Q acc|d::ds,ρ,acc,Q=>g d ρ λρ2=>wf No ρ2 λb=>if b=true then wi2 No ρ2 λds2=>lcV g2 wf2 we ds2 ρ2 acc λρ3 acc'=>lcW2 g wf wi2 g2 wf2 we ds ρ3 acc' Q else lcW2 g wf wi2 g2 wf2 we ds ρ2 acc Q
def yd(wi:WA)(nv:Nat)(sel:Qz)(g:WG)(wf:WT)(wi2:WA)(g2:WG)(wf2:WT)(we:WE):WA:=λE ρ Q=>wi E ρ λds=>lcW2 g wf wi2 g2 wf2 we ds (Zb5 nv sel ρ) [] Q
section
variable{t2 i2:Expr}{fz:List Expr}{g2:WG}{wf2:WT}{wi2:WA}
theorem lcV.mono(hg:∀d ρ P P',(∀r,P r->P' r)->g d ρ P->g d ρ P')(hf:∀E ρ P P',(∀d,P d->P' d)->wf E ρ P->wf E ρ P')(he:∀E ρ P P',(∀d,P d->P' d)->we E ρ P->we E ρ P') :
  ∀ds ρ acc P P',(∀r xs,P r xs->P' r xs)->lcV g wf we ds ρ acc P->lcV g wf we ds ρ acc P'
 |[],_,acc,P,P',hp,h=>hp _ _ h
 | d::ds,ρ,acc,P,P',hp,h=>hg _ _ _ _ (λr hr=>hf _ _ _ _ (λb hb=>by
   cases b with
   |false=>rw[jx<|E8]at hb ⊢;exact lcV.mono hg hf he ds r acc P P' hp hb
   |true=>rw[oI rfl]at hb ⊢;exact he _ _ _ _ (λy hy=>⟨hy.1,lcV.mono hg hf he ds r _ P P' hp hy.2⟩) hb) hr) h
theorem lcW2.mono(hg:∀d ρ P P',(∀r,P r->P' r)->g d ρ P->g d ρ P')(hf:∀E ρ P P',(∀d,P d->P' d)->wf E ρ P->wf E ρ P')(hi2:∀E ρ P P',(∀d,P d->P' d)->wi2 E ρ P->wi2 E ρ P')(hg2:∀d ρ P P',(∀r,P r->P' r)->g2 d ρ P->g2 d ρ P')(hf2:∀E ρ P P',(∀d,P d->P' d)->wf2 E ρ P->wf2 E ρ P')(he:∀E ρ P P',(∀d,P d->P' d)->we E ρ P->we E ρ P') :
  ∀ds ρ acc P P',(∀xs,P xs->P' xs)->lcW2 g wf wi2 g2 wf2 we ds ρ acc P->lcW2 g wf wi2 g2 wf2 we ds ρ acc P'
 |[],_,acc,P,P',hp,h=>hp _ h
 | d::ds,ρ,acc,P,P',hp,h=>hg _ _ _ _ (λr hr=>hf _ _ _ _ (λb hb=>by
   cases b with
   |false=>rw[jx<|E8]at hb ⊢;exact lcW2.mono hg hf hi2 hg2 hf2 he ds r acc P P' hp hb
   |true=>rw[oI rfl]at hb ⊢;exact hi2 _ _ _ _ (λds2 h2=>lcV.mono hg2 hf2 he ds2 r acc _ _ (λr' xs hx=>lcW2.mono hg hf hi2 hg2 hf2 he ds r' xs P P' hp hx) h2) hb) hr) h
theorem Nq(vars:Qx)(sel:Qz)(hc:X.calm=true)(hi:mL X EX target iter wi)(hg:∀s H fp,p8 (X.lc sc vars sel s H fp) target g)(hf:∀s H fp,sQ (X.lc sc vars sel s H fp) E0 ifs wf)
  (hi2:∀s H fp,mL (X.lc sc vars sel s H fp) E0 t2 i2 wi2) (hg2:∀s H fp,p8 (X.lc sc vars sel s H fp) t2 g2) (hf2:∀s H fp,sQ (X.lc sc vars sel s H fp) E0 fz wf2) (he:∀s H fp,PX (X.lc sc vars sel s H fp) E0 elt we)
  (ok:{kR sc X.env.scope=true}) (so:{qh X.N sc sel=true}) (hs:autoParam (∀x,foldedSetIterable iter X.env x=pure x) QN._auto_1) (hs2:∀a x,foldedSetIterable i2 (jH sc X.env a) x=pure x:=by intro _ _;rfl) :
  PXL X EX (.ListComp elt [⟨target,iter,ifs,0⟩,⟨t2,i2,fz,0⟩] sc pos) (yd wi vars.length sel g wf wi2 g2 wf2 we):=by
 have gm:=(hg {} (λ_=>none) []).mono;have go:=(hg {} (λ_=>none) []).own;have fm:=(hf {} (λ_=>none) []).mono;have im:=(hi2 {} (λ_=>none) []).mono;have gm2:=(hg2 {} (λ_=>none) []).mono;have go2:=(hg2 {} (λ_=>none) []).own;have fm2:=(hf2 {} (λ_=>none) []).mono;have em:=(he {} (λ_=>none) []).mono;refine⟨?_,λE ρ P P' hp h=>hi.mono _ _ _ _ (λds hds=>lcW2.mono gm fm im gm2 fm2 em ds _ _ _ _ hp hds) h⟩;obtain⟨ti,pi,ki⟩:=hi.t;refine ⟨_,J4 (wi:=ti) (g:=λv σ H Q=>∃ W0 H0 W ρ d,SOk X.K W0 H0 W σ H ρ/\Rep X.K W v d/\g d ρ (λρ'=>∀ σ',SOk X.K W0 H0 W σ' H ρ'->Q σ' H))
  (tf:=λσ H Q=>∃W0 H0 W ρ,SOk X.K W0 H0 W σ H ρ/\wf No ρ (λb=>∀W' H',Ext W H W' H'->Q b H'))
  (wi2:=λσ H R=>∃W0 H0 W ρ,SOk X.K W0 H0 W σ H ρ/\wi2 No ρ (λds=>∀W' H' J,Ext W H W' H'->p6 X.K W' J ds->R J H'))
  (g2:=λv σ H Q=>∃W0 H0 W ρ d,SOk X.K W0 H0 W σ H ρ/\Rep X.K W v d/\g2 d ρ (λρ'=>∀σ',SOk X.K W0 H0 W σ' H ρ'->Q σ' H))
  (tf2:=λσ H Q=>∃W0 H0 W ρ,SOk X.K W0 H0 W σ H ρ/\wf2 No ρ (λb=>∀W' H',Ext W H W' H'->Q b H'))
  (te:=λσ H Q=>∃W0 H0 W ρ,SOk X.K W0 H0 W σ H ρ/\we No ρ (RQ X.K W H Q)) vars sel hc pi ok so (λs1 H1 fp=>?_) (λs1 H1 fp=>?_) (λs1 H1 fp=>?_) (λs1 H1 fp=>?_) (λs1 H1 fp=>?_) (λs1 H1 fp=>?_) hs2 hs,?_⟩
 .obtain⟨t,q,k⟩:=(hg s1 H1 fp).t
  rintro tv s σ H v u Q I r ⟨W0,H0,W,ρ,d,s',r',h⟩;exact q tv s σ H v u Q I r<|k W0 H0 W σ H ρ d v Q s' r' h
 .obtain⟨t,q,k⟩:=(hf s1 H1 fp).t
  rintro tv s σ H Q I ⟨W0,H0,W,ρ,s',h⟩;exact q tv s σ H Q I<|k W0 H0 W σ H ρ No Q s' (λ_ _ _ _ _ z=>z.elim) h
 .obtain⟨t,q,k⟩:=(hi2 s1 H1 fp).t
  rintro tv s σ H R I ⟨W0,H0,W,ρ,s',h⟩;exact q tv s σ H R I<|k W0 H0 W σ H ρ No R s' (λ_ _ _ _ _ z=>z.elim) h
 .obtain⟨t,q,k⟩:=(hg2 s1 H1 fp).t
  rintro tv s σ H v u Q I r ⟨W0,H0,W,ρ,d,s',r',h⟩;exact q tv s σ H v u Q I r<|k W0 H0 W σ H ρ d v Q s' r' h
 .obtain⟨t,q,k⟩:=(hf2 s1 H1 fp).t
  rintro tv s σ H Q I ⟨W0,H0,W,ρ,s',h⟩;exact q tv s σ H Q I<|k W0 H0 W σ H ρ No Q s' (λ_ _ _ _ _ z=>z.elim) h
 .obtain⟨t,q,k⟩:=(he s1 H1 fp).t
  rintro tv s σ H Q I ⟨W0,H0,W,ρ,s',h⟩;exact q tv s σ H Q I<|k W0 H0 W σ H ρ No Q s' (λ_ _ _ _ _ z=>z.elim) h
 intro W0 H0 W σ H ρ E Q s eo h;refine ki W0 H0 W σ H ρ E _ s eo<|hi.mono _ _ _ _ (λds hds W1 H1 J x1 it D hD=>?_) h;have hDf:=x1.ok.fresh hD;have hD0:H0 D=none:=s.ext.isN<|x1.isN hD;refine ⟨λi m ys σ2 H2=>m=ds.length - i/\i<=ds.length/\∃ W2 ρ2 acc,Ext W1 H1 W2 H2/\SOk X.K W0 H0 W2 σ2 H2 ρ2/\ZhM ρ2/\H2 D=some (.lst ys)/\W2.G D=none/\¬ W2.Pn D/\Reps X.K W2 ys acc/\
  lcW2 g wf wi2 g2 wf2 we (ds.drop i) ρ2 acc (λds=>∀a vs W' H',Ext W H W' H'->H' a=some (.lst vs)->W'.G a=none->¬W'.Pn a->H a=none->Reps X.K W' vs ds->Q (.ref a) H'),⟨_,rfl,k9 _,W1,_,[],.new x1.ok hD,?_,Zb5.own _ _ ρ,aV,hDf.1,hDf.2,.nil,by rw[tI];exact hds⟩,?_⟩
 .exact(((s.step x1).step<|.new x1.ok hD).lc vars.length sel)
 rintro i m ys σ2 H2 ⟨rfl,hi',W2,ρ2,acc,x2,s2,no2,hD2,g2',p2,r2,q2⟩;refine⟨hD2,?_⟩;obtain⟨itg,its⟩:=it W2 H2 i x2.g x2.p x2.ok;have kpD:∀{V0:Wd} {G:Hp} {zs:QJ} {W':Wd} {H':Hp},G D=some (.lst zs)->V0.G D=none->¬V0.Pn D->Ext V0 G W' H'->H' D=some (.lst zs)/\W'.G D=none/\¬W'.Pn D:=λ{V0 G zs W' H'} hG hg' hp' x'=>by
  refine⟨x'.h D _ hG hp',?_,λz=>?_⟩
  .cases q:W'.G D with|none=>rfl|some o=>have:=x'.gf D hg' (by rw[q];simp);rw[hG]at this;cases this
  .have:=x'.pf D hp' z;rw[hG]at this;cases this
 rcases gD i ds.length with hlt|hge
 .have hd:ds[i]? = some ds[i]:=bZ hlt
  obtain⟨go',yl⟩:=itg _ hd;refine .inr ⟨go',λx H3 y=>?_⟩;obtain⟨W3,x3,r3⟩:=yl x H3 y;rw[tJ hlt]at q2;refine⟨W0,H0,W3,ρ2,ds[i],s2.step x3,r3,gm _ _ _ _ (λρ4 hr σ4 s4=>?_)<|go _ _ _ no2 q2⟩;obtain⟨no4,hr⟩:=hr;refine⟨W0,H0,W3,ρ4,s4,fm _ _ _ _ (λb hb W5 H5 x5=>?_) hr⟩;have kD:=kpD hD2 g2' p2<|x3.trans x5;cases b with
  |false=>
   rw[jx<|E8]at hb;show ite _ _ _;rw[jx<|E8];exact⟨ds.length-(i+1),E1,rfl,hlt,W5,ρ4,acc,x2.trans<|x3.trans x5,s4.step x5,no4,kD.1,kD.2.1,kD.2.2,(x3.trans x5).reps r2,hb⟩
  |true=>
   rw[oI rfl]at hb;show ite _ _ _;rw[oI rfl];refine⟨W0,H0,W5,ρ4,s4.step x5,im _ _ _ _ (λds2 hds2 W6 H6 J2 x6 it2=>?_) hb⟩;have kD6:=kpD hD2 g2' p2<|x3.trans (x5.trans x6);refine ⟨λi2 k zs σ7 H7=>k=ds2.length - i2/\i2<=ds2.length/\∃ W7 ρ7 acc7,Wle W6 W7/\Ext W1 H1 W7 H7/\SOk X.K W0 H0 W7 σ7 H7 ρ7/\ZhM ρ7/\H7 D=some (.lst zs)/\W7.G D=none/\¬ W7.Pn D/\Reps X.K W7 zs acc7/\
    lcV g2 wf2 we (ds2.drop i2) ρ7 acc7 (λρ3 acc'=>lcW2 g wf wi2 g2 wf2 we (ds.drop<|i+1) ρ3 acc' (λds=>∀a vs W' H',Ext W H W' H'->H' a=some (.lst vs)->W'.G a=none->¬W'.Pn a->H a=none->Reps X.K W' vs ds->Q (.ref a) H')),
    ⟨_,rfl,k9 _,W6,ρ4,acc,.refl W6,x2.trans<|x3.trans<|x5.trans x6,(s4.step x5).step x6,no4,kD6.1,kD6.2.1,kD6.2.2,(x3.trans<|x5.trans x6).reps r2,by rw[tI];exact hds2⟩,?_⟩
   rintro i2 k zs σ7 H7 ⟨rfl,hi2',W7,ρ7,acc7,f7,x7,s7,no7,hD7,g7,p7,r7,q7⟩;refine⟨hD7,?_⟩;obtain⟨itg2,its2⟩:=it2 W7 H7 i2 f7.g f7.p s7.ok;rcases gD i2 ds2.length with hlt2|hge2
   .have hd2:ds2[i2]? = some ds2[i2]:=bZ hlt2
    obtain⟨go2',yl2⟩:=itg2 _ hd2;refine .inr ⟨go2',λx H8 y=>?_⟩;obtain⟨W8,x8,r8⟩:=yl2 x H8 y;rw[tJ hlt2]at q7;refine⟨W0,H0,W8,ρ7,ds2[i2],s7.step x8,r8,gm2 _ _ _ _ (λρ9 hr9 σ9 s9=>?_)<|go2 _ _ _ no7 q7⟩;obtain⟨no9,hr9⟩:=hr9;refine⟨W0,H0,W8,ρ9,s9,fm2 _ _ _ _ (λb hb WA HA xA=>?_) hr9⟩;cases b with
    |false=>
     rw[jx<|E8]at hb;show ite _ _ _;rw[jx<|E8];have kA:=kpD hD7 g7 p7<|x8.trans xA;exact⟨ds2.length-(i2+1),E1,rfl,hlt2,WA,ρ9,acc7,f7.ext<|x8.trans xA,x7.trans<|x8.trans xA,s9.step xA,no9,kA.1,kA.2.1,kA.2.2,(x8.trans xA).reps r7,hb⟩
    |true=>
     rw[oI rfl]at hb;show ite _ _ _;rw[oI rfl];refine⟨W0,H0,WA,ρ9,s9.step xA,em _ _ _ _ (λy hy v WB HB xB rB=>?_) hb⟩;have xx:=x8.trans<|xA.trans xB;have kB:=kpD hD7 g7 p7 xx;have hl:zs.length=acc7.length:=r7.length;refine⟨kB.1,by rw[hl];exact dN hy.1<|nh<|cO _,ds2.length-(i2+1),E1,rfl,hlt2,WB,ρ9,acc7++[y],f7.ext xx,(x7.trans xx).chg hD kB.1 kB.2.2 kB.2.1,?_,no9,aV,kB.2.1,kB.2.2,(xx.reps r7).append<|.cons rB .nil,hy.2⟩;exact((s9.step xA).step xB).chgD no9 hD0 kB.1 kB.2.2 kB.2.1
   .refine .inl ⟨its2 hge2,?_⟩
    rw[yR hge2]at q7;exact⟨ds.length-(i+1),E1,rfl,hlt,W7,ρ7,acc7,x7,s7,no7,hD7,g7,p7,r7,q7⟩
 .refine .inl ⟨its hge,?_⟩
  rw[yR hge]at q2;exact q2 D ys W2 H2 (x1.trans x2) hD2 g2' p2 (x1.isN hD) r2
end
def jq:Option (Nat×Qw)->D
 |none=>.non|some (a,l)=>.tup [.int (a:Int),aE l]
def vz(x:D):Except Str D:=g6 x (if g9 x=true then .ok (aM<|jN (sI x)<|sN x) else .error "NotEven")
def tm(s:Qv)(n:Nat)(P:K4):Nat:=(P.filter λr=>decide (0<cB s n r r)).length
def vA(s:Qv)(n:Nat)(P:K4):Nat:=(P.filter λr=>decide (cB s n r r<0)).length
def qw(s:Qv)(n:Nat)(P:K4):D:=.tup [.int (tm s n P:Int),.int (vA s n P:Int),.int<|(P.length:Int)-(tm s n P:Int)-(vA s n P:Int)]
def DR(x:D):Except Str D:=g6 x (if g9 x=true then .ok (qw (sI x) (sN x)<|jN (sI x)<|sN x) else .error "NotEven")
structure DS(n:Nat)(r:Qw):Prop where
 len:r.length=n
 sz:∀y∈r,Sz 170 y
structure Pq0(s:Qv)(n:Nat)(P:K4):Prop where
 sl:IsSl s n
 ev:s.reverse=s
 len:P.length=n
 lf:∀r∈P,DS n r
 cz:xK n n P
def ye:bA:=fnS (λx:(Nat×Nat)×K4=>[aM x.2,.int x.1.2]) (λx=>xK x.1.1 x.1.2 x.2) λx=>.bl<|decide ((cN x.2 x.1.2).ld.length=x.2.length)
def yf:bA:=fnS (λx:SL×K4×K4=>[aL x.1.1,aM x.2.2]) (λx=>IsSl x.1.1 x.1.2/\x.1.1.reverse=x.1.1/\Sg x.1.1 x.1.2 x.2.1 x.2.2) λx=>jq<|iX x.1.1 x.1.2 0 x.2.2
def AG:bA:=fnS (λx:SL×Qw×Qw=>[aL x.1.1,aE x.2.1,aE x.2.2]) (λx=>IsSl x.1.1 x.1.2/\x.1.1.reverse=x.1.1/\Lf 163 x.1.2 x.2.1/\Lf 163 x.1.2 x.2.2/\cB x.1.1 x.1.2 x.2.2 x.2.2≠0) λx=>aE<|jo x.1.1 x.1.2 x.2.2 x.2.1
def tu:bA:=xS (λx:D=>[x]) (λx=>kd x=true) vz
def AH:bA:=xS (λx:D×D=>[x.1,x.2]) (λx=>kd x.1=true/\kd x.2=true/\dG 170 x.2=true) λx=>Ah x.1 x.2 x.2
def AI:bA:=fnS (λx:SL×K4=>[aL x.1.1,aM x.2]) (λx=>Pq0 x.1.1 x.1.2 x.2) λx=>.bl<|decide (x.2.Pairwise λu v=>cB x.1.1 x.1.2 u v=0)
def S_sign_paper_good:bA:=fnS (λx:SL×K4=>[aL x.1.1,aM x.2]) (λx=>Pq0 x.1.1 x.1.2 x.2) λx=>.bl<|decide ((cN x.2 x.1.2).ld.length=x.2.length/\x.2.Pairwise λu v=>cB x.1.1 x.1.2 u v=0)
def yg:bA:=fnS (λx:SL×K4=>[aL x.1.1,aM x.2]) (λx=>Pq0 x.1.1 x.1.2 x.2/\(cN x.2 x.1.2).ld.length=x.2.length/\x.2.Pairwise λu v=>cB x.1.1 x.1.2 u v=0) λx=>qw x.1.1 x.1.2 x.2
def uV:bA:=tu
def vB:bA:=xS (λx:D=>[x]) (λx=>kd x=true) DR
section
variable{E:QF}{x z:D}{w:Nat}{u v:Qw}{R f:K4}
theorem Hz(h:IsSl s n)(ev:s.reverse=s)(g:Sg s n f R)(q:Q (jq<|iX s n 0 R)):yf [aL s,aM R] E Q:=⟨((s,n),f,R),rfl,⟨h,ev,g⟩,q⟩
theorem Nr(h:IsSl s n)(ev:s.reverse=s)(h1:Lf 163 n r)(h2:Lf 163 n l)(h3:cB s n l l≠0)(q:Q (aE<|jo s n l r)):AG [aL s,aE r,aE l] E Q:=⟨((s,n),r,l),rfl,⟨h,ev,h1,h2,h3⟩,q⟩
theorem DT(h:IsSl s n)(ev:s.reverse=s)(q:Q .non):qs [aL s] E Q:=xS.ok (aL s) rfl h.kd (by(try dsimp only);rw[iB h];unfold g9;rw[fH,PR ev];rfl) q
theorem yh(h:IsSl s n)(ev:s.reverse=s)(q:Q (aM<|jN s n)):tu [aL s] E Q:=xS.ok (aL s) rfl h.kd (by(try dsimp only);unfold vz;rw[iB h];unfold g9;rw[fH,PR ev,h.sN];rfl) q
theorem Nt(h:IsSl s n)(ev:s.reverse=s)(q:Q (qw s n<|jN s n)):vB [aL s] E Q:=xS.ok (aL s) rfl h.kd (by(try dsimp only);unfold DR;rw[iB h];unfold g9;rw[fH,PR ev,h.sN];rfl) q
theorem HC(h:IsSl s n)(ev:s.reverse=s)(hu:u.length=n)(hv:v.length=n):Ah (aL s) (aE u) (aE v)=.ok (aS<|cB s n u v):=by
 unfold Ah Da;rw[iB h];unfold g9;have e1:gZ n (aE u)=true:=by have:=rm u;rwa [hu]at this
 have e2:gZ n (aE v)=true:=by have:=rm v;rwa [hv]at this
 rw[fH,PR ev,h.sN,e1,e2,ji,ji];rfl
theorem vC(h:IsSl s n)(ev:s.reverse=s)(hu:u.length=n)(hv:v.length=n)(zu:∀x∈u,Sz 170 x)(zv:∀x∈v,Sz 170 x)(q:Q (aS<|cB s n u v)):lJ [aL s,aE u,aE v] E Q:=
 xS.ok (aL s,aE u,aE v) rfl ⟨h.kd,qp (by have:=h.n5;omega),qp (by have:=h.n5;omega),Zbt.mpr zu,Zbt.mpr zv⟩ (HC h ev hu hv) q
theorem Nu(h:IsSl s n)(ev:s.reverse=s)(hu:u.length=n)(zu:∀x∈u,Sz 170 x)(q:Q (aS<|cB s n u u)):AH [aL s,aE u] E Q:=
 xS.ok (aL s,aE u) rfl ⟨h.kd,qp (by have:=h.n5;omega),Zbt.mpr zu⟩ (HC h ev hu hu) q
theorem Nv(h:Pq0 s n P)(q:Q (.bl<|decide (P.Pairwise λu v=>cB s n u v=0))):AI [aL s,aM P] E Q:=⟨((s,n),P),rfl,h,q⟩
theorem HD(h:Pq0 s n P)(q:Q (.bl<|decide ((cN P n).ld.length=P.length/\P.Pairwise λu v=>cB s n u v=0))):S_sign_paper_good [aL s,aM P] E Q:=⟨((s,n),P),rfl,h,q⟩
theorem HE(h:Pq0 s n P)(h1:(cN P n).ld.length=P.length)(h2:P.Pairwise λu v=>cB s n u v=0)(q:Q (qw s n P)):yg [aL s,aM P] E Q:=⟨((s,n),P),rfl,⟨h,h1,h2⟩,q⟩
end
theorem yi:∀{m:Nat},m<=4->3*bq 168 m<8990:=λ{m} h=>by
 have:=sZ (b:=168) h;have e:bq 168 4=2703:=E8
 omega
theorem Pq0.of(h:IsSl s n)(ev:s.reverse=s)(hl:P.length=n)(lf:∀r∈P,Lf 168 n r):Pq0 s n P:=⟨h,ev,hl,λr hr=>⟨(lf r hr).len,λy hy=>((lf r hr).sz y hy).mono<|E8⟩,ClIn.z (b:=168) ⟨cO _,by have:=h.n5;omega,by rw[hl];have:=h.n5;omega,yi (by have:=h.n5;omega),lf⟩⟩
theorem DU(h:IsSl s n){u v:Qw}(hu:Lf b n u)(hv:Lf b n v):Sz (2*b+11) (cB s n u v):=by
 rw[rJ h hu.len hv.len];obtain⟨c,e,h1,h2,h3,h4,rfl⟩:=hu.ex;obtain⟨d,g,g1,g2,g3,g4,rfl⟩:=hv.ex;have gc:∀(c:Qv) (e:Int) j,gq (c.map λx=>Rat.divInt x e) j=Rat.divInt (c.getD j 0) e:=λc e j=>by
  unfold gq;rw[bE,cV,bE];cases c[j]? with
  |none=>show(0:Rat)=Rat.divInt 0 e;rw[Rat.zero_divInt]|some x=>rfl
 have key:bf (Pj.cA<|sA s n) n (gq<|c.map λx=>Rat.divInt x e) (gq<|d.map λx=>Rat.divInt x g)=Rat.divInt (Pj.bI (sA s n) n (λj=>c.getD j 0) λj=>d.getD j 0) (e*g):=by
  have ie:((e*g:Int):Rat)⁻¹=((e:Int):Rat)⁻¹*((g:Int):Rat)⁻¹:=by have ne:((e:Int):Rat)≠0:=λz=>h2 (by exact_mod_cast z);have ng:((g:Int):Rat)≠0:=λz=>g2 (by exact_mod_cast z);have a1:=qB _ ne;have a2:=qB _ ng;have a3:=qB (((e:Int):Rat)*((g:Int):Rat)) (λz=>by rcases Rat.mul_eq_zero.mp z with z|z;exact ne z;exact ng z);rw[iG];generalize (((e:Int):Rat)*((g:Int):Rat))⁻¹=x at *;grind
  rw[tP,<-Pj.bI_cast,hU,Rat.mul_comm,ie];unfold bf;rw[<-Dt.sumN_mul];refine gb λi _=>?_;rw[gc,tP,gb (g:=λj=>((g:Int):Rat)⁻¹*((sA s n i j:Rat)*((d.getD j 0:Int):Rat))) (λj _=>by rw[gc,tP,hU];grind),Dt.sumN_mul,hU];grind
 rw[key];have m5:=h.n5;have cz:∀(c:Qv) (j:Nat),(∀x∈c,x.natAbs<2^b)->(c.getD j 0).natAbs<=2^b:=λc j hc=>by
  rw[bE];cases e:c[j]? with
  |none=>exact k9 _|some x=>exact lO<|hc x (pj e)
 refine z9 (rZ h2 g2) ?_ ?_;have h1:∀i,i<n->(Dt.sumI (λj=>sA s n i j*d.getD j 0) n).natAbs<=n*(50*2^b):=λi hi=>Pj.sumI_bd λj hj=>by rw[ge];exact pB (AE h i j hi hj)<|cz d j g4
 have h2:=Pj.sumI_bd (f:=λi=>c.getD i 0*Dt.sumI (λj=>sA s n i j*d.getD j 0) n) (c:=2^b*(n*(50*2^b))) (n:=n) λi hi=>by rw[ge];exact pB (cz c i h4)<|h1 i hi
 have h3:n*(2^b*(n*(50*2^b)))<=5*(2^b*(5*(50*2^b))):=pB m5<|Nat.mul_le_mul_left _ (mh _ m5);have e1:2^(2*b+11)=2^b*2^b*2048:=by rw[mf,show 2*b=b+b by omega,mf]
 have e2:5*(2^b*(5*(50*2^b)))=1250*(2^b*2^b):=by grind
 have e3:0<2^b*2^b:=Nat.mul_pos (yS<|E8)<|yS E8;unfold Pj.bI;dsimp only;omega
 rw[ge,mf,show 2*b=b+b by omega,mf];have:=sd h3 g3;omega
abbrev Zet:Qx:=["rows", "many"]
def HF:WS:=(aH<|w2 (gEq false) (wB bV<|aC (w2 gIx (wF vm<|aC (wN 0)<|aC (wN 1) aA)<|wC<|.int<|0) aA)<|wB bV<|aC (wN 0) aA)
abbrev Zhs:Qx:=["slants", "rows", "at", "row", "sums", "lead"]
def DV:WS:=(bK 4<|aG (bF<|bH (iE<|aC (wN 1) aA) (dB 2<|bN (gN 2)<|bN (gN 3) cS)<|aG (bY 4<|aLC (iS<|bX (wN 1) (eC<|w2 gAdd (wN 2)<|wC<|.int<|1) eV) 1 [3] (gN 0) cC<|wF qt<|aC (wN 1)<|aC (wF sS<|aC (wC<|D.tup [(D.int<|0),(D.int<|1)])<|aC (wC<|D.tup [(D.int<|1),(D.int<|1)]) aA)<|aC (wN 0) aA)<|bK 4<|bF<|bH (iS<|w2 gAdd (wL<|bP<|aC (wN 3) aA)<|wN 4) (gN 5)<|cE (wT<|w2 (gEq true) (wF lJ<|aC (wN 0)<|aC (wN 5)<|aC (wN 5) aA)<|wC<|D.tup [(D.int<|0),(D.int<|1)]) (aH<|aY<|aC (wN 2)<|aC (wN 5) aA) cF)<|aH<|wC D.non)
abbrev Zhx:Qx:=["slants", "row", "lead"]
def HG:WS:=(aH<|wF qt<|aC (wN 1)<|aC (wF mP<|aC (wF lJ<|aC (wN 0)<|aC (wN 1)<|aC (wN 2) aA)<|aC (wF lJ<|aC (wN 0)<|aC (wN 2)<|aC (wN 2) aA) aA)<|aC (wN 2) aA)
abbrev Zhw:Qx:=["slants", "size", "found", "rest", "place_and_lead", "at", "lead"]
def DW:WS:=(aG (fV<|wF qs<|aC (wN 0) aA)<|aG (aT 1<|wF jJ<|aC (wN 0) aA)<|aG (bY 2<|bP aA)<|aG (bY 3<|aLC (fb<|aC (wN 1) aA) 1 [1] (gN 0) cC<|wF rC<|aC (wN 0)<|aC (wN 1) aA)<|bK 3<|aG (aT 4<|wF yf<|aC (wN 0)<|aC (wN 3) aA)<|bK 3<|aG (bF<|w8 (wT<|w2 (gIsC true) (wN 4)<|wC D.non)<|aG (eW (wN 4)<|dB 2<|bN (gN 5)<|bN (gN 6) cS)<|aG (dL 2<|wN 6)<|bK 3<|aG (bY 3<|aLC (iS<|w2 gAdd (bX (wN 3) eV<|eC<|wN 5)<|bX (wN 3) (eC<|w2 gAdd (wN 5)<|wC<|.int<|1) eV) 1 [0,6] (gN 0) cC<|wF AG<|aC (wN 1)<|aC (wN 0)<|aC (wN 2) aA)<|bK 3<|aT 4<|wF yf<|aC (wN 0)<|aC (wN 3) aA)<|bK 2<|bK 3<|aH<|w2 gAdd (wN 2)<|wN 3)
abbrev ZlR:Qx:=["slants", "row"]
def HH:WS:=(aH<|wF lJ<|aC (wN 0)<|aC (wN 1)<|aC (wN 1) aA)
abbrev Zi2:Qx:=["slants", "rows"]
def DX:WS:=(aH<|wB ij<|aC (wL<|yd (iE<|aC (wN 1) aA) 3 [0,1] (dB 2<|bN (gN 0)<|bN (gN 1) cS) cC (iS<|bX (wN 4) (eC<|w2 gAdd (wN 0)<|wC<|.int<|1) eV) (gN 2) cC<|w2 (gEq false) (wF lJ<|aC (wN 3)<|aC (wN 1)<|aC (wN 2) aA)<|wC<|D.tup [(D.int<|0),(D.int<|1)]) aA)
abbrev Zcz:Qx:=["slants", "thing", "size"]
def vD:WS:=(aG (fV<|wF qs<|aC (wN 0) aA)<|aG (aT 2<|wF jJ<|aC (wN 0) aA)<|aG (cE (eU (bM<|wT<|wB gIs<|aC (wN 1)<|aC (wC<|.ty "list") aA)<|wT<|w2 (gEq true) (wB bV<|aC (wN 1) aA)<|wN 2) (aH<|wC<|D.bl false) cF)<|aG (cE (bM<|wT<|wB ij<|aC (wL<|aLC (iS<|wN 1) 1 [0] (gN 0) cC<|wF rh<|aC (wN 1)<|aC (wN 0) aA) aA) (aH<|wC<|D.bl false) cF)<|aH<|ft (wF ye<|aC (wN 1)<|aC (wN 2) aA)<|wF AI<|aC (wN 0)<|aC (wN 1) aA)
abbrev ZjP:Qx:=["slants", "paper", "tops", "above", "below"]
def DY:WS:=(aG (cE (bM<|wT<|wF S_sign_paper_good<|aC (wN 0)<|aC (wN 1) aA) (iV<|PySem.Str.ofString "NoRow") cF)<|aG (bY 2<|aLC (iS<|wN 1) 1 [0] (gN 0) cC<|w2 gIx (wF AH<|aC (wN 1)<|aC (wN 0) aA)<|wC<|.int<|0)<|bK 2<|aG (aT 3<|wB bV<|aC (wL<|aLC (iS<|wN 2) 1 [] (gN 0) (wT<|w2 mM (wN 0)<|wC<|.int<|0)<|wN 0) aA)<|bK 2<|aG (aT 4<|wB bV<|aC (wL<|aLC (iS<|wN 2) 1 [] (gN 0) (wT<|w2 j9 (wN 0)<|wC<|.int<|0)<|wN 0) aA)<|bK 2<|aH<|aY<|aC (wN 3)<|aC (wN 4)<|aC (w2 fS (w2 fS (wB bV<|aC (wN 2) aA)<|wN 3)<|wN 4) aA)
abbrev Zhq:Qx:=["slants"]
def HI:WS:=(aH<|wF tu<|aC (wN 0) aA)
abbrev ZjO:Qx:=["slants"]
def HJ:WS:=(aH<|wF yg<|aC (wN 0)<|aC (wF uV<|aC (wN 0) aA) aA)
theorem Nw:Rd ye HF Zet:=by rintro _ E Q ⟨⟨⟨w,m⟩,R⟩,rfl,h,q⟩;dsimp only at h q;unfold HF;ext;refine⟨((w,m),R),rfl,h,?_⟩;refine⟨_,rfl,?_⟩;unfold aM;ext;rw[bQ,bQ,show((((cN R m).ld.length:Nat):Int)==((R.length:Nat):Int))=decide ((cN R m).ld.length=R.length) by rw[iD];simp;exact Int.ofNat_inj];exact q
theorem Nx:Rd AH HH ZlR:=by rintro _ E Q ⟨⟨x,y⟩,rfl,⟨h1,h2,h3⟩,q⟩;dsimp only at h1 h2 h3 q;unfold HH;ext;exact⟨(x,y,y),rfl,⟨h1,h2,h2,h3,h3⟩,q⟩
theorem Ny:Rd AG HG Zhx:=by rintro _ E Q ⟨⟨⟨s,n⟩,r,l⟩,rfl,⟨h,ev,hr,hl,h0⟩,q⟩;dsimp only at h ev hr hl h0 q;unfold HG;ext;have up:∀x:Rat,Sz 163 x->Sz 170 x:=λx hx=>hx.mono E8;have z1:=DU h hr hl;have z2:=DU h hl hl;refine vC h ev hr.len hl.len (λx hx=>up x<|hr.sz x hx) (λx hx=>up x<|hl.sz x hx)<|vC h ev hl.len hl.len (λx hx=>up x<|hl.sz x hx) (λx hx=>up x<|hl.sz x hx) (xo (B2.of z1 z2<|E8) h0 ?_);exact Df (b:=674) E8 (by rw[hr.len];have:=h.n5;omega) (λy hy=>(hr.sz y hy).mono<|E8) ((z1.div z2).mono<|E8) (λy hy=>(hl.sz y hy).mono<|E8) q
theorem AJ{neg:Bool}{P:QH}(h:P (.bl (if neg then !decide (q=0) else decide (q=0)))):gEq neg (aS q) (.tup [.int 0,.int 1]) P:=by
 refine jh (uB _ 59) wp ?_;have e:fg (aS q) (.tup [.int 0,.int 1])=decide (q=0):=by rw[<-vf,ve]
 rw[e];exact h
theorem HK{s:Qv}{n:Nat}{Q:QH}{E:QF}{N:Nds}{s1 s3 s4:SV}{k:Nat}(h:IsSl s n)(ev:s.reverse=s)(hN:N.rt=Q):∀(L:K4) (s5:SV),(∀r∈L,Lf 163 n r)->(∀l,mW s n L=some l->Q (.tup [.int k,aE l]))->(mW s n L=none->∀s5,N.nx [.d<|aL s,s1,.d<|.int k,s3,s4,s5])->Zbf (gN 5) (cE (wT<|w2 (gEq true) (wF lJ<|aC (wN 0)<|aC (wN 5)<|aC (wN 5) aA)<|wC<|D.tup [(D.int<|0),(D.int<|1)]) (aH<|aY<|aC (wN 2)<|aC (wN 5) aA) cF) E N (L.map aE) [.d<|aL s,s1,.d<|.int k,s3,s4,s5]
 |[],s5,_,_,h2=>h2 rfl s5
 |r::L,s5,hl,h1,h2=>by
  rw[cG,Zbf];simp only[gN,gG,gF];have hr:=hl r KE;have up:∀x∈r,Sz 170 x:=λx hx=>(hr.sz x hx).mono E8;refine fh (b:=!decide (cB s n r r=0)) (λP hP=>?_) (λe=>?_) λe=>?_;ext;exact vC h ev hr.len hr.len up up<|AJ hP
  have e0:¬cB s n r r=0:=by simpa using e
  have:=h1 r (by rw[mW,jx e0]);rw[<-hN]at this;ext;exact⟨E8,this⟩;have e0:cB s n r r=0:=by simpa using e
  exact HK h ev hN L _ (λx hx=>hl x<|by simp[hx]) (λl hl'=>h1 l (by rw[mW,oI e0];exact hl')) λhn=>h2 (by rw[mW,oI e0];exact hn)
theorem Sg.sums(h:IsSl s n){f R:K4}(g:Sg s n f R):∀r∈R,∀o∈R,Lf 163 n (aZ r (-1) o):=λr hr o ho=>by
 obtain⟨M,m,hM⟩:=g.ex;obtain⟨v,hv,hl⟩:=hM r hr;obtain⟨v',hv',hl'⟩:=hM o ho;obtain⟨⟨x,hx⟩,h2⟩:=hl.add hl';have eq:=AD (q:=-1) (g.wR r hr)<|g.wR o ho;have hlen:=g.len;have:0<R.length:=List.length_pos_of_mem hr;have lt:Pj.Lt (sA s n) n f.length M (λj=>v j+v' j) (gq<|aZ r (-1) o):=⟨⟨x,λj hj=>(eq j hj).trans (hx j hj)⟩,λi hi=>by rw[vq (λ_ _=>rfl) eq];exact h2 i hi⟩
 have:=lt.lf h.n5 (AE h) m (by have:=h.n5;omega) λj hj=>by have:=u5 (v j)<|v' j;have:=hv j hj;have:=hv' j hj;omega
 rwa [DQ<|Zg (g.wR r hr)<|g.wR o ho]at this
theorem HL{s:Qv}{n:Nat}{Q:QH}{E:QF}{N:Nds}{f R:K4}(h:IsSl s n)(ev:s.reverse=s)(g:Sg s n f R)(hN:N.rt=Q):∀(R':K4) (k:Nat) (s2 s3 s4 s5:SV),R.drop k=R'->k+R'.length=R.length->(∀a l,iX s n k R'=some (a,l)->Q (.tup [.int (a:Int),aE l]))->(iX s n k R'=none->∀s2 s3 s4 s5,N.nx [.d<|aL s,.d<|aM R,s2,s3,s4,s5])->Zbf (dB 2<|bN (gN 2)<|bN (gN 3) cS) (aG (bY 4<|aLC (iS<|bX (wN 1) (eC<|w2 gAdd (wN 2)<|wC<|.int<|1) eV) 1 [3] (gN 0) cC<|wF qt<|aC (wN 1)<|aC (wF sS<|aC (wC<|D.tup [(D.int<|0),(D.int<|1)])<|aC (wC<|D.tup [(D.int<|1),(D.int<|1)]) aA)<|aC (wN 0) aA)<|bK 4<|bF<|bH (iS<|w2 gAdd (wL<|bP<|aC (wN 3) aA)<|wN 4) (gN 5)<|cE (wT<|w2 (gEq true) (wF lJ<|aC (wN 0)<|aC (wN 5)<|aC (wN 5) aA)<|wC<|D.tup [(D.int<|0),(D.int<|1)]) (aH<|aY<|aC (wN 2)<|aC (wN 5) aA) cF) E N (dH k<|R'.map aE) [.d<|aL s,.d<|aM R,s2,s3,s4,s5]
 |[],k,s2,s3,s4,s5,_,_,_,h2=>h2 rfl s2 s3 s4 s5
 |r::R',k,s2,s3,s4,s5,hd,hk,h1,h2=>by
  rw[cG,dH,Zbf];refine⟨rfl,?_⟩;simp only[bN,cS,gN,gG,gF];have n5:=h.n5;have gl:=g.len;have hr:r∈R:=pA (i:=k) (by rw[hd];simp);have hR':∀o∈R',o∈R:=λo ho=>pA (i:=k) (by rw[hd];simp[ho]);have tl:R.drop (k+1)=R':=by rw[<-List.drop_drop,hd];rfl
  simp only[d8]at hk;have lr:=g.rows h r hr;refine bJ<|B.C.own_by (xs:=(R'.map λo=>aZ r (-1) o).map aE) (ρ':=[.d<|aL s,.d<|aM R,.d<|.int k,.d<|aE r,.ow<|(R'.map λo=>aZ r (-1) o).map aE,s5]) rfl (λP hP=>?_) ?_
  unfold aM;ext;rw[show(k:Int)+1=((k+1:Nat):Int) by omega,rn (by rw[bQ];omega),<-Ycf,tl];refine jj (g:=aE) (f:=λo=>aE<|aZ r (-1) o) R' (λo ho P hP=>?_) .un [] (eh (by simp;omega)) ?_;ext;refine CA (p:=0) (q:=1) (B2.of (n:=1) (m:=1) (Sz.zero<|E8) (Sz.int 1 E8<|E8)<|E8) ?_;rw[show(0:Rat)-1 = -1 from wp];have lo:=g.rows h o<|hR' o ho;exact Df (b:=163) E8 (by rw[lr.len];omega) lr.sz (Sz.mono (n:=2) E8 ⟨E8,E8⟩) lo.sz hP
  rw[dR,List.map_map] at *;exact hP;dsimp only;refine B.C.pub_by (ρ':=[.d<|aL s,.d<|aM R,.d<|.int k,.d<|aE r,.d<|.lst<|(R'.map λo=>aZ r (-1) o).map aE,s5]) rfl ?_;simp only[bF];refine B.C.for_seq (xs:=(r::R'.map λo=>aZ r (-1) o).map aE) (λP hP=>?_) ?_;ext;exact⟨E8,eh (by simp;omega),hP⟩;refine HK (Q:=Q) h ev (by exact hN) _ _ (λo ho=>?_) (λl hl=>h1 k l<|by rw[iX,hl]) λhn s5'=>?_;rcases Yan.mp ho with rfl|ho
  exact lr;obtain⟨o',ho',rfl⟩:=YbQ.mp ho;exact g.sums h r hr o'<|hR' o' ho'
  exact HL h ev g hN R' (k+1) _ _ _ _ tl E1 (λa l hl=>h1 a l (by rw[iX,hn];exact hl)) λhn2=>h2 (by rw[iX,hn];exact hn2)
theorem NA:Rd yf DV Zhs:=by rintro _ E Q ⟨⟨⟨s,n⟩,f,R⟩,rfl,⟨h,ev,g⟩,q⟩;dsimp only at h ev g q;show DV E _ [.d<|aL s,.d<|aM R,.un,.un,.un,.un];unfold DV;refine B.C.pub_by (ρ':=[.d<|aL s,.d<|aM R,.un,.un,.un,.un]) rfl ?_;refine bJ ?_;simp only[bF,bH];show iE _ _ [.d<|aL s,.d<|.lst<|R.map aE,.un,.un,.un,.un] _;simp only[iE,aC,aA,wN,eH,fe];refine HL (Q:=Q) h ev g rfl R 0 .un .un .un .un KE KE (λa l e=>?_) λe s2 s3 s4 s5=>?_;rw[e]at q;exact q;rw[e]at q;exact q
theorem HM{E:QF}{b:Bool}{P:Bool->Prop}(hw:∀P:D->Prop,P (.bl b)->w E ρ P)(h:P b):wT w E ρ P:=hw _ h
theorem NB{E:QF}{x:D}(hw:∀P:D->Prop,P (.tup [x,y])->w E ρ P)(e:(ρ.set i<|.d x).set j (.d y)=ρ')(h:N.nx ρ'):eW w (dB 2<|bN (gN i)<|bN (gN j) cS) E N ρ:=hw _ ⟨rfl,by rw[<-e]at h;exact h⟩
theorem NC:Rd tu DW Zhw:=by
 rintro _ E Q ⟨x,rfl,hk,q⟩;show DW E _ [.d x,.un,.un,.un,.un,.un,.un];unfold DW;walk_at "n";unfold vz at q;cases e:dM x with
 |false=>exact xS.err x rfl hk (i7 e)<|kX e q
 |true=>
 obtain⟨s,n,rfl,h⟩:=l8 e;replace q:=kY h q;cases ev:g9 (aL s) with
 |false=>
  rw[ev]at q;exact xS.err (aL s) rfl hk (by(try dsimp only);rw[iB h,ev];rfl) q
 |true=>
 rw[ev,fH,h.sN]at q;simp only[if_true]at q;have ev':s.reverse=s:=by unfold g9 at ev;rw[fH]at ev;simpa using ev
 have n5:=h.n5;refine DT h ev' ?_;walk_at "n";refine nu h ?_;show aG _ _ _ _ [.d<|aL s,.d<|.int n,.un,.un,.un,.un,.un];refine bJ<|B.C.own_by (xs:=[]) (ρ':=[.d<|aL s,.d<|.int n,.ow [],.un,.un,.un,.un]) rfl (λP hP=>⟨E8,hP⟩) ?_;dsimp only;refine bJ<|B.C.own_by (xs:=((List.range n).map<|aX n).map aE) (ρ':=[.d<|aL s,.d<|.int n,.ow [],.ow<|((List.range n).map<|aX n).map aE,.un,.un,.un]) rfl (λP hP=>?_) ?_
 .ext
  refine⟨E1,E1,?_⟩;rw[jk];refine jj (g:=λk:Nat=>D.int (k:Int)) (f:=λk=>aE<|aX n k) (List.range n) (λk hk P hP=>?_) .un [] (eh (by simp;omega)) ?_
  .ext
   exact vg n5 hP
  .rw[dR,List.map_map] at *
   exact hP
 dsimp only;refine B.C.pub_by (ρ':=[.d<|aL s,.d<|.int n,.ow [],.d<|aM<|(List.range n).map<|aX n,.un,.un,.un]) rfl ?_;have g0:=Sg.start h;refine bJ<|cW (d:=jq<|iX s n 0<|(List.range n).map<|aX n) (ρ':=[.d<|aL s,.d<|.int n,.ow [],.d<|aM<|(List.range n).map<|aX n,.d<|jq<|iX s n 0<|(List.range n).map<|aX n,.un,.un]) rfl (λP hP=>?_) ?_
 .ext
  exact Hz h ev' g0 hP
 dsimp only;refine B.C.pub_by (ρ':=[.d<|aL s,.d<|.int n,.ow [],.d<|aM<|(List.range n).map<|aX n,.d<|jq<|iX s n 0<|(List.range n).map<|aX n,.un,.un]) rfl ?_;refine bJ ?_;simp only[bF];refine⟨λm ρ=>∃f R s5 s6 k,m=R.length/\Sg s n f R/\R.length<=k/\uU s n k f R=jN s n/\ρ=[.d<|aL s,.d<|.int n,.ow<|f.map aE,.d<|aM R,.d<|jq<|iX s n 0 R,s5,s6],⟨_,[],_,.un,.un,n,rfl,g0,KE,rfl,rfl⟩,?_⟩;rintro m _ ⟨f,R,s5,s6,k,rfl,g,hkR,hap,rfl⟩;have gl:=g.len;cases el:iX s n 0 R with
 |none=>
  rw[show jq (none:Option (Nat×Qw))=.non from rfl];refine HM (b:=false) (λP hP=>⟨rfl,hP⟩) ?_;rw[jx<|E8];have efin:f++R=jN s n:=by
   rw[<-hap];cases k with
   |zero=>rfl
   |succ k=>rw[uU,el]
  dsimp only;refine B.C.pub_by (ρ':=[.d<|aL s,.d<|.int n,.d<|.lst<|f.map aE,.d<|aM R,.d .non,s5,s6]) rfl ?_;refine B.C.pub_by (ρ':=[.d<|aL s,.d<|.int n,.d<|.lst<|f.map aE,.d<|.lst<|R.map aE,.d .non,s5,s6]) rfl ?_;ext;refine⟨eh (by simp;omega),?_⟩;rw[<-hV,efin];exact q
 |some al=>
  obtain⟨a,l⟩:=al;have d:=g.ld el;have ha:=d.at_;have hl:=d.lf h g;rw[show jq (some (a,l))=.tup [.int (a:Int),aE l] from rfl];refine HM (b:=true) (λP hP=>⟨rfl,hP⟩) ?_;rw[oI rfl];refine bJ<|NB (x:=.int (a:Int)) (y:=aE l) (nm_at rfl) (ρ':=[.d<|aL s,.d<|.int n,.ow<|f.map aE,.d<|aM R,.d<|.tup [.int (a:Int),aE l],.d<|.int (a:Int),.d<|aE l]) rfl ?_;dsimp only;refine bJ<|rE (xs:=f.map aE) (d:=aE l) (ρ':=[.d<|aL s,.d<|.int n,.ow<|(f++[l]).map aE,.d<|aM R,.d<|.tup [.int (a:Int),aE l],.d<|.int (a:Int),.d<|aE l]) rfl (dN (show _<2000 by rw[bQ];omega)<|E8) (by rw[hV];rfl) (nm_at rfl) ?_;dsimp only;refine B.C.pub_by (ρ':=[.d<|aL s,.d<|.int n,.ow<|(f++[l]).map aE,.d<|.lst<|R.map aE,.d<|.tup [.int (a:Int),aE l],.d<|.int (a:Int),.d<|aE l]) rfl ?_;refine bJ<|B.C.own_by (xs:=((R.take a++R.drop (a+1)).map<|jo s n l).map aE) (ρ':=[.d<|aL s,.d<|.int n,.ow<|(f++[l]).map aE,.ow<|((R.take a++R.drop (a+1)).map<|jo s n l).map aE,.d<|.tup [.int (a:Int),aE l],.d<|.int (a:Int),.d<|aE l]) rfl (λP hP=>?_) ?_
  .ext
   rw[xy (b:=a) rfl,show((a:Int)+1)=((a+1:Nat):Int) by omega,rn (by rw[bQ];omega),<-qx,<-Ycf];refine⟨eh (by simp;omega),?_⟩;rw[<-hV];refine jj (g:=aE) (f:=λr=>aE<|jo s n l r) (R.take a++R.drop (a+1)) (λr hr P hP=>?_) .un [] (eh (by simp;omega)) ?_
   .ext
    exact Nr h ev' (g.rows h r<|jM hr) hl d.nz hP
   .rw[dR,List.map_map] at *
    exact hP
  dsimp only;have g':=g.step h ev' d;refine B.C.pub_by (ρ':=[.d<|aL s,.d<|.int n,.ow<|(f++[l]).map aE,.d<|aM<|(R.take a++R.drop (a+1)).map<|jo s n l,.d<|.tup [.int (a:Int),aE l],.d<|.int (a:Int),.d<|aE l]) rfl ?_;refine cW (d:=jq<|iX s n 0<|(R.take a++R.drop (a+1)).map<|jo s n l) (ρ':=[.d<|aL s,.d<|.int n,.ow<|(f++[l]).map aE,.d<|aM<|(R.take a++R.drop (a+1)).map<|jo s n l,.d<|jq<|iX s n 0<|(R.take a++R.drop (a+1)).map<|jo s n l,.d<|.int (a:Int),.d<|aE l]) rfl (λP hP=>?_) ?_
  .ext
   exact Hz h ev' g' hP
  have len':((R.take a++R.drop (a+1)).map<|jo s n l).length=R.length-1:=by rw[bQ,fZ,m6,m8];omega
  refine⟨_,?_,f++[l],_,_,_,k-1,rfl,g',by rw[len'];omega,?_,rfl⟩
  .rw[len'];omega
  .rw[<-hap]
   cases k with
   |zero=>omega
   |succ k=>rw[uU,el];rfl
theorem ZiI:(q.num>0↔0<q)/\(q.num<0↔q<0):=by
 have h1:=Rat.num_nonneg (q:=q);have h2:=Ycq (q:=q);constructor;constructor;intro h;have a:=h1.mp E1;have:q≠0:=λz=>by have:=h2.mpr z;omega
 grind;intro h;have a:=h1.mpr (by grind);have:q.num≠0:=λz=>by have:=h2.mp z;grind
 omega;constructor;intro h;have:¬0<=q:=λz=>by have:=h1.mpr z;omega
 grind;intro h;have:¬0<=q.num:=λz=>by have:=h1.mp z;grind
 omega
def tw(s:Qv)(n:Nat):K4->List Bool
 |[]=>[]|r::R=>(R.map λo=>decide (cB s n r o=0))++tw s n R
theorem HN{s:Qv}{n:Nat}:∀R:K4,(tw s n R).all id=decide (R.Pairwise λu v=>cB s n u v=0)
 |[]=>by simp[tw]|r::R=>by rw[tw,List.all_append,HN R,iD];simp
theorem HP{a b:SV}{tail:cR}{we:WE}{f:Qw->D}:∀(L:K4) (sv:SV) (acc:QG) (Q:cR->QG->Prop),(∀o∈L,∀P:D->Prop,P (f o)->we No (a::b::.d (aE o)::tail) P)->acc.length+L.length<=aR->(∀sv,Q (a::b::sv::tail)<|acc++L.map f)->lcV (gN 2) cC we (L.map aE) (a::b::sv::tail) acc Q
 |[],sv,acc,Q,_,_,hq=>by have:=hq sv;rw[f6,mZ]at this;exact this|o::L,sv,acc,Q,h,hl,hq=>by rw[cG,lcV];simp only[gN,gG,gF,cC];rw[oI trivial];simp only[d8]at hl;refine h o KE _ ⟨E1,HP L _ _ Q (λo' ho'=>h o'<|by simp[ho']) (by simp;omega) λsv=>?_⟩;have:=hq sv;rw[cG]at this;rw[kP];exact this
theorem HQ{s:Qv}{n:Nat}{P:K4}{Q:QG->Prop}(p:Pq0 s n P):∀(R:K4) (k:Nat) (s0 s1 s2:SV) (acc:QG),P.drop k=R->k+R.length=P.length->acc.length+R.length*R.length<=100->Q (acc++(tw s n R).map D.bl)->lcW2 (dB 2<|bN (gN 0)<|bN (gN 1) cS) cC (iS<|bX (wN 4) (eC<|w2 gAdd (wN 0)<|wC<|.int<|1) eV) (gN 2) cC (w2 (gEq false) (wF lJ<|aC (wN 3)<|aC (wN 1)<|aC (wN 2) aA)<|wC<|D.tup [(D.int<|0),(D.int<|1)]) (dH k<|R.map aE) [s0,s1,s2,.d<|aL s,.d<|aM P] acc Q
 |[],k,s0,s1,s2,acc,_,_,_,hq=>by rw[f6,dH,lcW2];rw[tw,f6,mZ]at hq;exact hq
 |r::R,k,s0,s1,s2,acc,hd,hk,ha,hq=>by
  rw[cG,dH,lcW2];refine⟨rfl,?_⟩;simp only[bN,cS,gN,gG,gF,cC];rw[oI trivial];have n5:=p.sl.n5;have pl:=p.len;simp only[d8]at hk ha;have hr:r∈P:=pA (i:=k) (by rw[hd];simp);have hR:∀o∈R,o∈P:=λo ho=>pA (i:=k) (by rw[hd];simp[ho]);have tl:P.drop (k+1)=R:=by rw[<-List.drop_drop,hd];rfl
  have up:∀o∈P,∀x∈o,Sz 170 x:=λo ho x hx=>((p.lf o ho).sz x hx).mono E8;unfold aM;ext;rw[show(k:Int)+1=((k+1:Nat):Int) by omega,rn (by rw[bQ];omega),<-Ycf,tl];rw[qe,y3]at ha;refine HP (f:=λo=>.bl<|decide (cB s n r o=0)) R _ _ _ (λo ho P' hP=>?_) (eh<|E1) λsv=>?_;ext;exact vC p.sl p.ev (p.lf r hr).len (p.lf o<|hR o ho).len (up r hr) (up o<|hR o ho)<|AJ hP
  refine HQ p R (k+1) _ _ _ _ tl E1 (by rw[fZ,bQ];omega) ?_;rw[tw,hV,List.map_map]at hq;rw[kP];exact hq
theorem ND:Rd AI DX Zi2:=by rintro _ E Q ⟨⟨⟨s,n⟩,P⟩,rfl,p,q⟩;dsimp only at p q;show DX E _ [.d<|aL s,.d<|aM P];unfold DX;have n5:=p.sl.n5;have pl:=p.len;show lcW2 _ _ _ _ _ _ (dH 0<|P.map aE) [.un,.un,.un,.d<|aL s,.d<|aM P] [] _;refine HQ p P 0 _ _ _ [] KE KE ?_ ?_;rw[pl];have:n*n<=5*5:=pB n5 n5;simp;omega;refine⟨tw s n P,rfl,?_⟩;rw[HN];exact q
theorem rd_sign_paper_good:Rd S_sign_paper_good vD Zcz:=by
 rintro _ E Q ⟨⟨⟨s,n⟩,P⟩,rfl,p,q⟩;dsimp only at p q;have n5:=p.sl.n5;have pl:=p.len;show vD E _ [.d<|aL s,.d<|aM P,.un];unfold vD;walk_at "n";refine DT p.sl p.ev ?_;walk_at "n";refine nu p.sl ?_;show aG _ _ _ _ [.d<|aL s,.d<|.lst<|P.map aE,.d<|.int n];refine bJ<|fh (b:=false) (B.C.or_by (b:=false) (c:=false) (λP' h=>?_) λP' h=>?_) (λe=>nomatch e) λ_=>?_
 ext;refine⟨"list",rfl,E8,?_⟩;ext;exact h;ext;rw[bQ,pl];simpa using h;dsimp only;refine bJ<|fh (b:=false) (λP' h=>?_) (λe=>nomatch e) λ_=>?_
 ext;refine jj (g:=aE) (f:=λ_=>.bl true) P (λr hr P'' hP=>?_) .un [] (eh (by simp;omega)) ?_;ext;refine xq p.sl (qp (by rw[(p.lf r hr).len];omega)) ?_;have:=rm r;rw[(p.lf r hr).len]at this;rw[this];exact hP;refine⟨P.map λ_=>true,by rw[dR,List.map_map];rfl,?_⟩;rw[show(P.map λ_=>true).all id=true by simp];exact h;dsimp only;show aH _ _ _ [.d<|aL s,.d<|aM P,.d<|.int n];ext;refine(⟨((n,n),P),rfl,p.cz,?_⟩:ye [aM P,.int n] _ _);dsimp only;by_cases h1:(cN P n).ld.length=P.length;rw[PR h1];ext;refine Nv p ?_;rw[show decide (P.Pairwise λu v=>cB s n u v=0)=decide ((cN P n).ld.length=P.length/\P.Pairwise λu v=>cB s n u v=0) by rw[iD];simp[h1]];exact q;rw[PU h1];rw[PU<|λz=>h1 z.1]at q;exact q
theorem Zk:Rd uV HI Zhq:=by rintro _ E Q ⟨x,rfl,hk,q⟩;unfold HI;ext;exact⟨x,rfl,hk,q⟩
theorem NE:Rd yg DY ZjP:=by
 rintro _ E Q ⟨⟨⟨s,n⟩,P⟩,rfl,⟨p,h1,h2⟩,q⟩;dsimp only at p h1 h2 q;have n5:=p.sl.n5;have pl:=p.len;show DY E _ [.d<|aL s,.d<|aM P,.un,.un,.un];unfold DY;refine bJ<|fh (b:=false) (λP' h=>?_) (λe=>nomatch e) λ_=>?_
 ext;refine HD p ?_;rw[PR ⟨h1,h2⟩];exact h;dsimp only;refine bJ<|B.C.own_by (xs:=(P.map λr=>(cB s n r r).num).map D.int) (ρ':=[.d<|aL s,.d<|aM P,.ow<|(P.map λr=>(cB s n r r).num).map D.int,.un,.un]) rfl (λP' h=>?_) ?_
 show lcW _ _ _ (P.map aE) [.un,.d<|aL s] [] _;refine jj (g:=aE) (f:=λr=>.int (cB s n r r).num) P (λr hr P'' hP=>?_) .un [] (eh (by simp;omega)) ?_;ext;refine Nu p.sl p.ev (p.lf r hr).len (λx hx=>((p.lf r hr).sz x hx).mono<|E8) ?_;exact⟨_,rfl,hP⟩;rw[dR];rw[List.map_map]at h;exact h;dsimp only;refine B.C.pub_by (ρ':=[.d<|aL s,.d<|aM P,.d<|.lst<|(P.map λr=>(cB s n r r).num).map D.int,.un,.un]) rfl ?_;have DO:∀(c:Int->Bool) (d:Rat->Bool) (w:WT),(∀q:Rat,c q.num=d q)->(∀(i:Int) (P':Bool->Prop),P' (c i)->w No [.d<|.int i] P')->∀(ρ:cR) (P':QH),P' (.int (((P.filter λr=>d<|cB s n r r).length:Nat):Int))->wB bV (aC (wL<|aLC (iS<|wC<|.lst<|(P.map λr=>(cB s n r r).num).map D.int) 1 [] (gN 0) w<|wN 0) aA) E ρ P':=λc d w hc hw ρ P' hP=>by show lcW _ _ _ ((P.map λr=>(cB s n r r).num).map D.int) [.un] [] _;rw[List.map_map];refine Ar (g:=λr=>D.int (cB s n r r).num) (f:=λr=>D.int (cB s n r r).num) (p:=λr=>d<|cB s n r r) P (λr hr P'' h=>?_) (λr hr P'' h=>h) .un [] (eh (by simp;omega)) ?_;exact hw _ _ (by rw[hc];exact h);ext;rw[bQ];exact hP
 refine bJ<|cW (d:=.int (tm s n P:Int)) (ρ':=[.d<|aL s,.d<|aM P,.d<|.lst<|(P.map λr=>(cB s n r r).num).map D.int,.d<|.int (tm s n P:Int),.un]) rfl (λP' h=>?_) ?_
 refine DO (λi=>decide (i>0)) (λq=>decide (0<q)) (wT<|w2 mM (wN 0)<|wC<|.int<|0) (λq=>by rw[iD,PV,PV];exact ZiI.1) (λi P'' h=>?_) _ P' h;ext;exact h;dsimp only;refine B.C.pub_by (ρ':=[.d<|aL s,.d<|aM P,.d<|.lst<|(P.map λr=>(cB s n r r).num).map D.int,.d<|.int (tm s n P:Int),.un]) rfl ?_;refine bJ<|cW (d:=.int (vA s n P:Int)) (ρ':=[.d<|aL s,.d<|aM P,.d<|.lst<|(P.map λr=>(cB s n r r).num).map D.int,.d<|.int (tm s n P:Int),.d<|.int (vA s n P:Int)]) rfl (λP' h=>?_) ?_
 refine DO (λi=>decide (i<0)) (λq=>decide (q<0)) (wT<|w2 j9 (wN 0)<|wC<|.int<|0) (λq=>by rw[iD,PV,PV];exact ZiI.2) (λi P'' h=>?_) _ P' h;ext;exact h;dsimp only;refine B.C.pub_by (ρ':=[.d<|aL s,.d<|aM P,.d<|.lst<|(P.map λr=>(cB s n r r).num).map D.int,.d<|.int (tm s n P:Int),.d<|.int (vA s n P:Int)]) rfl ?_;ext;rw[bQ,bQ];exact⟨E8,q⟩
theorem NF:Rd vB HJ ZjO:=by
 rintro _ E Q ⟨x,rfl,hk,q⟩;unfold HJ;ext;unfold DR at q;cases e:dM x with
 |false=>exact xS.err x rfl hk (i7 e)<|kX e q
 |true=>
 obtain⟨s,n,rfl,h⟩:=l8 e;replace q:=kY h q;cases ev:g9 (aL s) with
 |false=>
  rw[ev]at q;exact xS.err (aL s) rfl hk (by(try dsimp only);unfold vz;rw[iB h,ev];rfl) q
 |true=>
 rw[ev,fH,h.sN]at q;simp only[if_true]at q;have ev':s.reverse=s:=by unfold g9 at ev;rw[fH]at ev;simpa using ev
 have pa:=AF h ev';refine yh h ev' ?_;exact HE (Pq0.of h ev' pa.len λr hr=>(pa.lf r hr).mono<|E8) (by rw[pa.ind h,pa.len]) pa.ap q
namespace B.C.Q0.Q3
def vE(s:Qv)(n:Nat)(r:Qw):Pr:=(cB s n r r,kf (bR s n r)<|cB s n r r)
def AK(s:Qv)(n:Nat):List Pr:=((jN s n).filter λr=>!decide (cB s n r r=0)).map<|vE s n
def lN(s:Qv)(n:Nat):Option Qw:=(jN s n).find? λr=>decide (cB s n r r<=0)
def papD(s:Qv)(n:Nat):D:=match lN s n with|some r=>.tup [.str "not",aE r]|none=>.tup [.str "above",gC<|AK s n]
def AL(x:D):Except Str D:=g6 x (if g9 x=true then .ok (.bl (lN (sI x)<|sN x).isNone) else .error "NotEven")
def mX(x:D):Except Str D:=g6 x (if g9 x=true then .ok (papD (sI x)<|sN x) else .error "NotEven")
def S_squares_of:bA:=fnS (λx:SL=>[aL x.1]) (λx=>IsSl x.1 x.2/\x.1.reverse=x.1) λx=>gC<|AK x.1 x.2
def rK:bA:=xS (λx:D=>[x]) (λx=>kd x=true) mX
def vF:bA:=xS (λx:D=>[x]) (λx=>kd x=true) AL
section
variable{E:QF}
theorem NG(h:IsSl s n)(ev:s.reverse=s)(q:Q (gC<|AK s n)):S_squares_of [aL s] E Q:=⟨(s,n),rfl,⟨h,ev⟩,q⟩
theorem yj(h:IsSl s n)(ev:s.reverse=s):AL (aL s)=.ok (.bl (lN s n).isNone):=by unfold AL;rw[iB h];unfold g9;rw[fH,PR ev,h.sN];rfl
theorem HR(h:IsSl s n)(ev:s.reverse=s):mX (aL s)=.ok (papD s n):=by unfold mX;rw[iB h];unfold g9;rw[fH,PR ev,h.sN];rfl
end
abbrev ZjW:Qx:=["slants"]
def HS:WS:=(aH<|w2 (gEq false) (w2 gIx (wF rK<|aC (wN 0) aA)<|wC<|.int<|0)<|wC<|D.str<|PySem.Str.ofString "above")
abbrev ZgL:Qx:=["slants", "row"]
def DZ:WS:=(aG (bH (iS<|wF tu<|aC (wN 0) aA) (gN 1)<|cE (wT<|w2 lG (w2 gIx (wF lJ<|aC (wN 0)<|aC (wN 1)<|aC (wN 1) aA)<|wC<|.int<|0)<|wC<|.int<|0) (aH<|aY<|aC (wC<|D.str<|PySem.Str.ofString "not")<|aC (wN 1) aA) cF)<|aH<|aY<|aC (wC<|D.str<|PySem.Str.ofString "above")<|aC (wF S_squares_of<|aC (wN 0) aA) aA)
section
theorem HU(h:IsSl s n)(ev:s.reverse=s)(hr:r∈jN s n):Lf 163 n r:=(AF h ev).lf r hr
theorem HV(h:IsSl s n)(ev:s.reverse=s)(hr:Lf 163 n r){E:QF}(q:Q (aS<|cB s n r r)):lJ [aL s,aE r,aE r] E Q:=
 vC h ev hr.len hr.len (λx hx=>(hr.sz x hx).mono<|E8) (λx hx=>(hr.sz x hx).mono<|E8) q
theorem num_le(q:Rat):decide (q.num<=0)=decide (q<=0):=by have:=(ZiI (q:=q)).1;rw[Qp];constructor<;>intro h<;>grind
end
theorem NH:Rd rK DZ ZgL:=by
 rintro _ E Q ⟨x,rfl,hk,q⟩;show DZ E _ [.d x,.un];unfold DZ;unfold mX at q;refine bJ ?_;simp only[bH,iS,wF,aC,aA,wN,eH];cases e:dM x with
 |false=>exact xS.err x rfl hk (by unfold vz;exact i7 e)<|kX e q
 |true=>
 obtain⟨s,n,rfl,h⟩:=l8 e;replace q:=kY h q;cases ev:g9 (aL s) with
 |false=>
  rw[ev]at q;exact xS.err (aL s) rfl hk (by(try dsimp only);unfold vz;rw[iB h,ev];rfl) q
 |true=>
 rw[ev,fH,h.sN]at q;simp only[if_true]at q;replace q:Q (papD s n):=q;have ev':s.reverse=s:=by unfold g9 at ev;rw[fH]at ev;simpa using ev
 refine yh h ev' ?_;refine mR (λds ρ=>∃F L s1,ds=List.map aE L/\F++L=jN s n/\lN s n=L.find? (λr=>decide (cB s n r r<=0))/\ρ=[.d<|aL s,s1]) ?_ ?_ _ _ ⟨[],jN s n,.un,rfl,rfl,rfl,rfl⟩
 .rintro d ds _ ⟨F,L,s1,e,eF,eN,rfl⟩ nx hnx
  cases L with
  |nil=>cases e
  |cons r L=>
  rw[cG]at e;injection e with e1 e2
  subst e1;have mr:r∈jN s n:=by rw[<-eF];simp
  have hr:=HU h ev' mr;show cE _ _ _ _ _ [.d<|aL s,.d<|aE r];refine fh (b:=decide (cB s n r r<=0)) (λP hP=>?_) (λe=>?_) λe=>?_
  .ext
   refine HV h ev' hr ⟨_,rfl,?_⟩;rw[<-num_le]at hP;exact⟨trivial,hP⟩
  .rw[List.find?_cons_of_pos<|by exact e]at eN
   unfold papD at q;rw[eN]at q;ext;exact⟨E8,q⟩
  .rw[List.find?_cons_of_neg (by rw[e];decide)]at eN
   exact hnx _ ⟨F++[r],L,_,e2,by rw[kP];exact eF,eN,rfl⟩
 .rintro _ ⟨F,L,s1,e,eF,eN,rfl⟩
  cases L with
  |cons r L=>cases e
  |nil=>
  rw[List.find?_nil]at eN;unfold papD at q;rw[eN]at q;ext;exact NG h ev' ⟨E8,q⟩
theorem NI:Rd vF HS ZjW:=by
 rintro _ E Q ⟨x,rfl,hk,q⟩;unfold HS;ext;unfold AL at q;cases e:dM x with
 |false=>exact xS.err x rfl hk (by unfold mX;exact i7 e)<|kX e q
 |true=>
 obtain⟨s,n,rfl,h⟩:=l8 e;replace q:=kY h q;cases ev:g9 (aL s) with
 |false=>
  rw[ev]at q;exact xS.err (aL s) rfl hk (by(try dsimp only);unfold mX;rw[iB h,ev];rfl) q
 |true=>
 rw[ev,fH,h.sN]at q;simp only[if_true]at q;have ev':s.reverse=s:=by unfold g9 at ev;rw[fH]at ev;simpa using ev
 refine xS.ok (aL s) rfl hk (HR h ev') ?_;unfold papD;cases hn:lN s n with
 |none=>
  rw[hn]at q;exact⟨_,rfl,jh wp wp (by rw[show fg (.str "above") (.str "above")=true from wp];exact q)⟩
 |some r=>
  rw[hn]at q;exact⟨_,rfl,jh wp wp (by rw[show fg (.str "not") (.str "above")=false from wp];exact q)⟩
end B.C.Q0.Q3
abbrev HW:=QG->(QF)->(List QG->Prop)->Prop
abbrev NJ:=(QF)->(List QG->Prop)->cR->Prop
section
variable{W:Wd}{bs:List Addr}
theorem NK{y z:SV}(e:(ρ.set i y)[j]? = some z)(h:z≠y):i≠j/\ρ[j]? = some z:=by by_cases hj:i=j;subst hj;by_cases hi:i<ρ.length;rw[e9 hi]at e;cases e;exact PQ rfl h;rw[fi (by rw[dQ];omega)]at e;cases e;rw[d6 hj]at e;exact⟨hj,e⟩
end
section
variable{W:Wd}{bs:List Addr}
theorem SOk.un'(s:SOk K W0 H0 W σ H ρ){σ':L2.St}(hl:σ'.length=σ.length)(hσ:∀k,j≠k->σ'[k]? = σ[k]?):SOk K W0 H0 W σ' H (ρ.set j .un):=by have out:∀{k:Nat} {z:SV},(ρ.set j .un)[k]? = some z->z≠.un->j≠k/\ρ[k]? = some z:=λe h=>NK e h;refine⟨s.ext,by rw[dQ,hl];exact s.len,λk y e=>?_,λk ys e=>?_,λk m xs ys b hkm e1 e2 e3=>?_,s.oo.set (λ_ h=>by cases h) hσ λ_ _ h=>by cases h⟩;obtain⟨h,e⟩:=out e KE;rw[hσ k h];exact s.d k y e;obtain⟨h,e⟩:=out e KE;rw[hσ k h];exact s.o k ys e;obtain⟨h,e1⟩:=out e1 KE;obtain⟨h',e2⟩:=out e2 KE;rw[hσ k h]at e3;rw[hσ m h'];exact s.ne k m xs ys b hkm e1 e2 e3
end
namespace I9
theorem lf_of{m:Nat}:∀r:Qw,(∀x∈r,Sz m x)->Lf (m*r.length+1) r.length r
 |[],_=>⟨[],1,rfl,E8,KE,KE,rfl⟩
 |x::r,h=>by
  obtain⟨c,e,h1,h2,h3,h4,h5⟩:=(lf_of r λy hy=>h y<|by simp[hy]).ex;have hx:=h x KE;have eb:m*(x::r).length+1=m+(m*r.length+1):=by rw[d8,y3];omega
  refine⟨x.num*e::c.map (λy=>y*x.den),x.den*e,by simp[h1],rZ (by exact_mod_cast x.den_nz) h2,?_,λy hy=>?_,?_⟩;rw[eb,ge,m9];exact qo hx.2 h3;rw[eb];rcases Yan.mp hy with rfl|hy
  rw[ge];exact qo hx.1 h3;obtain⟨z,hz,rfl⟩:=YbQ.mp hy;rw[ge,m9,yM];exact qo hx.2<|h4 z hz
  rw[cG,List.map_map];congr 1;conv=>lhs;rw[<-tL x]
  rw[vO h2];conv=>lhs;rw[h5]
  refine ir λz _=>?_;show Rat.divInt z e=Rat.divInt (z*x.den) (x.den*e);rw[yZ (x.den:Int) e,vO<|by exact_mod_cast x.den_nz]
end I9
open B.C
namespace B.C.Q0.Q2
def NM(ps:List Pr)(n:Nat):Bool:=decide ((cN (ps.map (·.2)) n).ld.length=n)
def sqA(s:Qv)(n:Nat)(y:D):Bool:=uT s n y&&(decide ((sqs y).length=n)&&((sqs y).all (λp=>decide (0<p.1))&&NM (sqs y) n))
def noA(s:Qv)(n:Nat)(y:D):Bool:=gZ n y&&(!decide (rQ y=List.replicate n 0)&&decide (cB s n (rQ y) (rQ y)<=0))
def pG(s:Qv)(n:Nat):D->Bool
 |.tup [w,y]=>if fg w (.str "above")=true then sqA s n y else fg w (.str "not")&&noA s n y|_=>false
def abR(s:Qv)(n:Nat)(x:D):Except Str D:=if s.reverse=s then .ok (.bl<|pG s n x) else .error "NotEven"
section
theorem num_le(q:Rat):decide (q.num<=0)=decide (q<=0):=by have:=(ZiI (q:=q)).1;rw[Qp];constructor<;>intro h<;>grind
theorem num_gt(q:Rat):decide (q.num>0)=decide (0<q):=by rw[Qp];exact ZiI.1
theorem sqG_inv(h:uT s n y=true):∃ps:List Pr,y=gC ps/\ps.length<=10/\(∀p∈ps,p.2.length=n/\p.1≠0):=by unfold uT at h;rw[cX]at h;have h1:=h.1;unfold GX at h1;split at h1;rw[cX,PV]at h1;obtain⟨ps,rfl,hp⟩:=DE h1.2;exact⟨ps,rfl,by simpa using h1.1,hp⟩;cases h1
end
end B.C.Q0.Q2
namespace F4
open LP.G (rr rr_set)
def T3(T1:K4)(k p:Nat)(lead:Qw)(m:Nat):K4:=(List.range T1.length).map λi=>if i=k then lead else if i<m then aZ (rr T1 i) ((rr T1 i).getD p 0) lead else rr T1 i
theorem T3_rr{p:Nat}(h:i<T1.length):rr (T3 T1 k p lead m) i=if i=k then lead else if i<m then aZ (rr T1 i) ((rr T1 i).getD p 0) lead else rr T1 i:=by unfold T3;show List.getD _ i []=_;rw[bE,cV,jB h];rfl
theorem rr_ext{A B:K4}(h:A.length=B.length)(he:∀i,i<A.length->rr A i=rr B i):A=B:=by refine vQ h λi h1 h2=>?_;have:=he i h1;unfold rr at this;rw[bE,bZ h1,bE,bZ h2]at this;exact this
theorem T3_len{p:Nat}:(T3 T1 k p lead m).length=T1.length:=by unfold T3;rw[bQ,nb]
end F4
def eP(W:Wd):Wd:=⟨λa=>match W.G a with
 |some (.tup vs)=>some (.tup vs)
 |_=>none,W.Pn⟩
theorem D0{W:Wd}(e:(eP W).G a=some o):W.G a=some o/\∃vs,o=.tup vs:=by unfold eP at e;dsimp only at e;split at e;rename_i vs q;cases e;exact⟨q,_,rfl⟩;cases e
theorem HX{W:Wd}(ok:WOk W H):WOk (eP W) H:=⟨λa o e=>ok.g a o (D0 e).1,λa p=>⟨(ok.p a p).1,by unfold eP;dsimp only;rw[(ok.p a p).2]⟩⟩
theorem rL{K:PN}{W W':Wd}:∀{vs:QJ} {ds:QG},(∀d∈ds,∃n,d=.int n)->Reps K W vs ds->Reps K W' vs ds
 |_,_,_,.nil=>.nil|_,d::_,h,.cons r t=>.cons (by obtain⟨n,rfl⟩:=h d KE;cases r;exact .int n)<|rL (λd hd=>h d<|by simp[hd]) t
def rM(j:Nat)(x:D)(ρ:cR):cR:=(List.replicate ρ.length SV.un).set j<|.d x
theorem tB{x:D}{y:SV}(e:(rM j x ρ)[k]? = some y):(k=j/\y=.d x)\/y=.un:=by unfold rM at e;by_cases h:j=k;subst h;by_cases hl:j<ρ.length;rw[e9 (by rw[lS];exact hl)]at e;exact .inl ⟨rfl,(PY e).symm⟩;rw[fi (by rw[dQ,lS];omega)]at e;cases e;rw[d6 h,lQ]at e;split at e;exact .inr (PY e).symm;cases e
def D1(i j:Nat)(we:WE)(wt:WT):WS:=λ_ N ρ=>∃ds:QG,ρ[j]? = some (.d<|.tup ds)/\(∀d∈ds,∃n,d=.int n)/\i≠j/\i<ρ.length/\
 we No (rM j (.tup ds) ρ) λd=>∃w r,d=.tup [w,r]/\wt No ((rM j (.tup ds) ρ).set i<|.d d) λb=>(b=true->∃xs,r=.lst xs/\xs.length<aR)/\N.nx (ρ.set i .un)
section
variable{pos2 p0:Pos}{tst:Expr}{rest:List Stmt}
theorem HY(i j:Nat){j1:Nat}{q1:Pos}(he:PX X EX e we)(ht:kG X EX tst wt)(hr:jI X EX rest z')(hN:X.N.Nodup)(hi:{X.N[i]? = some x})(hx:autoParam (pD X.env.scope x) QQ._auto_1)
  (hs:{swapsWith e (some<|.Name x p0) pos.line X.env=pure false}) (hf:autoParam (QC X x) QO._auto_1)
  (hv:autoParam (mm X.env.scope x) QP._auto_1) (hd:(QA x:)) (hcd:((x==("__classdict__" : Str))=false:))
  (hpl:autoParam (iw (.Constant (.int 1) j1 q1)) QS._auto_1) (hbase:{attributeBase (.Subscript (.Name x p) (.Constant (.int 1) j1 q1) p2) "append" X.env (eval (.Subscript (.Name x p) (.Constant (.int 1) j1 q1) p2) X.env)=eval (.Subscript (.Name x p) (.Constant (.int 1) j1 q1) p2) X.env})
  (hfew:{((backTo cpos<|starEach [.Constant .none j2 q2] X.env).all (λx=>!x.1)&&(backToKw cpos<|keywordEach [] X.env).all (λx=>x.1.isSome)&&decide ([Expr.Constant .none j2 q2].length+([]:List Keyword).length+(if([]:List Keyword).isEmpty then 0 else 1)<30))=true})
  (hline:{(apos.endLine==cpos.line)=true}) (hst:{starEach [.Constant .none j2 q2] X.env=(false,eval (.Constant .none j2 q2) X.env)::starEach [] X.env}) (hplain:{(backTo cpos<|starEach [] X.env).any (·.1)=false})
  (hsw:{swapsWith (.Call (.Attribute (.Subscript (.Name x p) (.Constant (.int 1) j1 q1) p2) "append" apos) [.Constant .none j2 q2] [] cpos) none bpos.line X.env=pure false}) :
  jI X EX (.Assign [.Name x p0] e pos::.If tst [.Expr (.Call (.Attribute (.Subscript (.Name x p) (.Constant (.int 1) j1 q1) p2) "append" apos) [.Constant .none j2 q2] [] cpos) bpos] [] pos2::rest) (aG (D1 i j we wt) z'):=by
 obtain⟨te,pe,ke⟩:=he.t;obtain⟨tt,pt,kt⟩:=ht.t;obtain⟨tr,pr,kr⟩:=hr.t;refine⟨⟨_,eJ (lm hN hi hx pe hs hf)<|eJ (sj pt (lU<|gi (l0 PySem.F.plainAttrs_list PySem.F.slot_list_append PySem.F.type_list_append gL (pT jX (ez hi hv hd hcd) jQ hpl) (iu li jV hst) hbase hfew hline hst hplain) hsw) jR) pr,λW0 H0 F W σ H ρ E Dn N s fl eo no h=>?_⟩,λE ρ N N' hl q=>?_⟩
 .obtain⟨ds,hj,hds,hij,hil,hw⟩:=h
  obtain⟨vj,e1,rj⟩:=s.d j _ hj;have okr:=HX s.ok;have rjr:Rep X.K (eP W) vj (.tup ds):=by
   cases rj with
   |tup e r=>exact .tup (by unfold eP;dsimp only;rw[e])<|rL hds r
   |ktup e r=>exact .ktup e<|rL hds r
  have sr:SOk X.K (eP W) H (eP W) σ H (rM j (.tup ds) ρ):=by
   refine⟨.refl okr,by unfold rM;rw[dQ,lS];exact s.len,λk y ek=>?_,λk xs ek=>?_,λk l xs ys a _ ek _ _=>?_,.none λk xss ek=>?_⟩
   .rcases tB ek with⟨rfl,z⟩|z
    .cases z;exact⟨vj,e1,rjr⟩
    .cases z
   .rcases tB ek with⟨_,z⟩|z<;>cases z
   .rcases tB ek with⟨_,z⟩|z<;>cases z
   .rcases tB ek with⟨_,z⟩|z<;>cases z
  have eo':∀W0' H0',km X.K W0' H0' No EX:=λ_ _ _ _ _ _ _ z=>z.elim;refine ke (eP W) H (eP W) σ H _ No _ sr (eo' _ _)<|he.mono _ _ _ _ (λd hd v W1 H1 x1 r1=>?_) hw;obtain⟨w,r,rfl,hwt⟩:=hd;refine kt (eP W) H W1 _ H1 _ No _ ((sr.step x1).set r1) (eo' _ _)<|ht.mono _ _ _ _ (λb hb W2 H2 x2=>?_) hwt;have x12:=x1.trans x2;have fin:∀H3:Hp,(∀a o,H a≠none->H2 a=some o->H3 a=some o)->tr Dn (σ.set i<|some v) H3:=λH3 k3=>by
   have hh:∀a o,H a=some o->¬W.Pn a->H3 a=some o:=λa o ea n=>k3 a o (by rw[ea];simp)<|x12.h a o ea n;have pp:∀a,W.Pn a->ZpO H3 a:=λa pa=>by
    obtain⟨k1,k2,k4,q'⟩:=(x12.ok.p a<|x12.p a pa).1;exact⟨k1,k2,k4,k3 a _ (s.ok.p a pa).1.ne q'⟩
   have xw:Ext W H W H3:=⟨⟨λa o ea=>hh a o (s.ok.g a o ea) (λpa=>by have:=(s.ok.p a pa).2;rw[ea]at this;cases this),λa pa=>⟨pp a pa,(s.ok.p a pa).2⟩⟩,λ_ _ z=>z,λ_ z=>z,λ_ z n=>PQ z n,λ_ n z=>PQ z n,hh⟩
   exact kr W0 H0 F W _ H3 _ E Dn N ((s.step xw).un' (j:=i) (σ':=σ.set i<|some v) (by rw[dQ]) λk hk=>d6 hk) fl eo no hb.2
  cases b with
  |false=>exact fin H2 λ_ _ _ z=>z
  |true=>
   rw[oI rfl];obtain⟨xs,rfl,hl⟩:=hb.1 rfl;obtain⟨a,vs,rfl,sq,rr⟩:=(x2.rep r1).sqt x12.ok;obtain⟨v1,v2,rfl,_,rl⟩:=rr.two;obtain⟨b,us,rfl,eb,ru⟩:∃b us,v2=.ref b/\W2.G b=some (.lst us)/\Reps X.K W2 us xs:=by
    cases rl with
    |lst e r=>exact⟨_,_,rfl,e,r⟩
   have hb0:H b=none:=x12.gf b (by
    cases q:(eP W).G b with
    |none=>rfl
    |some o=>
     obtain⟨_,vs',rfl⟩:=D0 q;have:=x12.g b _ q;rw[eb]at this;cases this) (by rw[eb];simp)
   have si:(σ.set i<|some<|V.ref a)[i]? = some (some<|.ref a):=e9 (by rw[<-s.len];exact hil);refine⟨_,si,.inr<|.inl ⟨a,_,1,.ref b,rfl,rfl,sq,aK (j:=1) rfl,.inl ⟨rfl,us,SqL.of<|x12.ok.g _ _ eb⟩,?_⟩⟩;exact⟨b,us,.non,rfl,rfl,x12.ok.g _ _ eb,by rw[ru.length];exact dN hl<|nh<|cO _,fin _ λa' o ha q=>by rw[aI λz=>ha (by rw[z];exact hb0)];exact q⟩
 .obtain⟨ds,hj,hds,hij,hil,hw⟩:=q
  exact⟨ds,hj,hds,hij,hil,he.mono _ _ _ _ (λd ⟨w,r,e1,hwt⟩=>⟨w,r,e1,ht.mono _ _ _ _ (λb hb=>⟨hb.1,hr.mono _ _ _ _ hl hb.2⟩) hwt⟩) hw⟩
end
def AM(d:D):Prop:=∃ys:QG,d=.tup ys/\∀y∈ys,∃a b:Int,y=.tup [.int a,.int b]
def kZ(W:Wd)(a:Addr):Wd:=⟨λb=>if b=a then none else W.G b,W.Pn⟩
section
variable{W:Wd}
theorem AN(ha:W.G a=some (.lst us)){b:Addr}(e:W.G b=some o)(n:∀ws,o≠.lst ws):(kZ W a).G b=some o:=by unfold kZ;dsimp only;rw[jx λz=>n us (by rw[z,ha]at e;cases e;rfl)];exact e
theorem NN(ha:W.G a=some (.lst us)){v:V}{x y:Int}(r:Rep K W v (.tup [.int x,.int y])):Rep K (kZ W a) v (.tup [.int x,.int y]):=by
 have hi:∀d∈[D.int x,D.int y],∃n,d=.int n:=λd hd=>by simp at hd;rcases hd with rfl|rfl<;>exact⟨_,rfl⟩
 cases r with
 |tup e r=>exact .tup (AN ha e λ_ z=>by cases z)<|rL hi r
 |ktup e r=>exact .ktup e<|rL hi r
theorem D2(ha:W.G a=some (.lst us)):∀{vs:QJ} {ys:QG},(∀y∈ys,∃a b:Int,y=.tup [.int a,.int b])->Reps K W vs ys->Reps K (kZ W a) vs ys
 |_,_,_,.nil=>.nil|_,y::_,h,.cons r t=>.cons (by obtain⟨p,q,rfl⟩:=h y KE;exact NN ha r)<|D2 ha (λd hd=>h d<|by simp[hd]) t
theorem D3(ha:W.G a=some (.lst us)):∀{vs:QJ} {xs:QG},(∀x∈xs,AM x)->Reps K W vs xs->Reps K (kZ W a) vs xs
 |_,_,_,.nil=>.nil
 | _,x::_,h,.cons r t=>.cons (by
   obtain⟨ys,rfl,hy⟩:=h x KE;cases r with
   |tup e r=>exact .tup (AN ha e λ_ z=>by cases z) (D2 ha hy r)
   |ktup e r=>exact .ktup e<|D2 ha hy r)<|D3 ha (λd hd=>h d<|by simp[hd]) t
end
def uW(W:Wd):Prop:=∀a o,W.G a=some o->∃vs,o=.tup vs
structure vG(X:Cx)(EX:XK)(st:List Stmt)(z:WS):Prop where
 t:∃t,nc X st t/\∀W0 H0 F W σ H ρ E Dn N,uW W0->uW F->SOk X.K W0 H0 W σ H ρ->Wle F W->km X.K W0 H0 E EX->zA X.K W0 H0 F Dn N->z E N ρ->t Dn σ H
 mono:∀E ρ N N',N.le N'->z E N ρ->z E N' ρ
def HZ(i j k:Nat)(d0:D):WS:=λ_ N ρ=>∃xs ds ys:QG,ρ[i]? = some (.d<|.lst xs)/\ρ[j]? = some (.d<|.tup ds)/\ρ[k]? = some (.ow ys)/\(∀x∈xs,AM x)/\(∀d∈ds,∃n,d=.int n)/\(∀y∈ys,AM y)/\xs.length<aR/\i≠j/\i≠k/\j≠k/\
 N.nx ((((List.replicate ρ.length SV.un).set j<|.d<|.tup ds).set k<|.ow ys).set i<|.ow<|xs++[d0])
def rN(N:Nds):Nds:={ nx:=λ_=>False,rt:=λd=>(∃b,d=.bl b)/\N.rt d }
def ym(j:Nat)(z:WS):WS:=λ_ N ρ=>∃ds:QG,ρ[j]? = some (.d<|.tup ds)/\(∀d∈ds,∃n,d=.int n)/\z No (rN N) (rM j (.tup ds) ρ)
section
variable{rest:List Stmt}{z:WS}
theorem NO(h:jI X EX sts z):vG X EX sts z:=⟨let⟨t,p,k⟩:=h.t;⟨t,p,λW0 H0 F W σ H ρ E Dn N _ _=>k W0 H0 F W σ H ρ E Dn N⟩,h.mono⟩
theorem AO(h1:PZ X EX st z)(h2:vG X EX rest z'):vG X EX (st::rest) (aG z z'):=by obtain⟨t1,p1,k1⟩:=h1.t;obtain⟨t2,p2,k2⟩:=h2.t;refine⟨⟨_,eJ p1 p2,λW0 H0 F W σ H ρ E Dn N hw hf s fl eo no h=>?_⟩,λE ρ N N' hl h=>h1.mono _ _ _ _ (Nds.le_nx hl λρ' h'=>h2.mono _ _ _ _ hl h') h⟩;exact k1 W0 H0 F W σ H ρ E _ { N with nx:=z' E N } s fl eo ⟨λW1 σ1 H1 ρ1 s1 f1 hn=>k2 W0 H0 F W1 σ1 H1 ρ1 E Dn N hw hf s1 f1 eo no hn,no.rt,no.bk,no.ct⟩ h
theorem mY{l:Nat}{x y w v:SV}(hij:i≠j)(hik:i≠k)(hjk:j≠k)(e:((((List.replicate ρ.length SV.un).set j x).set k y).set i w)[l]? = some v):(l=i/\v=w)\/(l=k/\v=y)\/(l=j/\v=x)\/v=.un:=by
 have L:l<ρ.length:=by have:=(Yaq.mp e).1;simpa using this
 by_cases h1:i=l;subst h1;rw[e9<|by simpa using L]at e;exact .inl ⟨rfl,(PY e).symm⟩;rw[d6 h1]at e;by_cases h2:k=l;subst h2;rw[e9<|by simpa using L]at e;exact .inr<|.inl ⟨rfl,(PY e).symm⟩
 rw[d6 h2]at e;by_cases h3:j=l;subst h3;rw[e9<|by simpa using L]at e;exact .inr<|.inr (.inl ⟨rfl,(PY e).symm⟩)
 rw[d6 h3,lQ,oI L]at e;exact .inr<|.inr (.inr (PY e).symm)
theorem NP(i j k:Nat)(hr:vG X EX rest z')(hN:{X.N[i]? = some x})
  (hv:autoParam (mm X.env.scope x) QP._auto_1) (hd:(QA x:)) (hcd:((x==("__classdict__" : Str))=false:))
  (hbase:{attributeBase (.Name x p) "append" X.env (eval (.Name x p) X.env)=eval (.Name x p) X.env})
  (hfew:{((backTo cpos<|starEach [.Constant .none j2 q2] X.env).all (λx=>!x.1)&&(backToKw cpos<|keywordEach [] X.env).all (λx=>x.1.isSome)&&decide ([Expr.Constant .none j2 q2].length+([]:List Keyword).length+(if([]:List Keyword).isEmpty then 0 else 1)<30))=true})
  (hline:{(apos.endLine==cpos.line)=true}) (hst:{starEach [.Constant .none j2 q2] X.env=(false,eval (.Constant .none j2 q2) X.env)::starEach [] X.env}) (hplain:{(backTo cpos<|starEach [] X.env).any (·.1)=false})
  (hsw:{swapsWith (.Call (.Attribute (.Name x p) "append" apos) [.Constant .none j2 q2] [] cpos) none bpos.line X.env=pure false}) :
  vG X EX (.Expr (.Call (.Attribute (.Name x p) "append" apos) [.Constant .none j2 q2] [] cpos) bpos::rest) (aG (HZ i j k .non) z'):=by
 obtain⟨tr,pr,kr⟩:=hr.t;refine⟨⟨_,eJ (gi (l0 PySem.F.plainAttrs_list PySem.F.slot_list_append PySem.F.type_list_append gL (ez hN hv hd hcd) (iu li jV hst) hbase hfew hline hst hplain) hsw) pr,λW0 H0 F W σ H ρ E Dn N hw hf s fl eo no h=>?_⟩,λE ρ N N' hl q=>?_⟩
 .obtain⟨xs,ds,ys,hi,hj,hk,hxs,hds,hys,hl,nij,nik,njk,hn⟩:=h
  obtain⟨v,e1,r1⟩:=s.d i _ hi;obtain⟨a,us,rfl,ea,ru⟩:∃a us,v=.ref a/\W.G a=some (.lst us)/\Reps X.K W us xs:=by
   cases r1 with
   |lst e r=>exact⟨_,_,rfl,e,r⟩
  have w0:W0.G a=none:=by
   cases q:W0.G a with
   |none=>rfl
   |some o=>
    obtain⟨vs,rfl⟩:=hw a o q;have:=s.ext.g a _ q;rw[ea]at this;cases this
  have h0:H0 a=none:=s.ext.gf a w0 (by rw[ea];simp);have Ha:=s.ok.g a _ ea;have pa:¬W.Pn a:=λp=>by have:=(s.ok.p a p).2;rw[ea]at this;cases this
  have gl:(kZ W a).G a=none:=by unfold kZ;dsimp only;rw[oI rfl]
  have g1:∀b o,(kZ W a).G b=some o->b≠a/\W.G b=some o:=λb o q=>by
   unfold kZ at q;dsimp only at q;split at q
   .cases q
   .exact⟨‹_›,q⟩
  have ok':∀ o',WOk (kZ W a) (upd H a o'):=λo'=>⟨λb o q=>by obtain ⟨n,q⟩:=g1 b o q;rw [aI n];exact s.ok.g b o q,λb p=>⟨by
   obtain⟨k1,k2,k3,q⟩:=(s.ok.p b p).1;exact⟨k1,k2,k3,by rw[aI λz=>pa (by rw[<-z];exact p)];exact q⟩,by unfold kZ;dsimp only;split;rfl;exact(s.ok.p b p).2⟩⟩
  have x':∀ o',Ext W0 H0 (kZ W a) (upd H a o'):=λo'=>⟨ok' o',λb o q=>by
    unfold kZ;dsimp only;rw[jx λz=>by rw[z,w0]at q;cases q];exact s.ext.g b o q,s.ext.p,λb n m=>by
    cases q:(kZ W a).G b with
    |none=>exact PQ q m|some o=>exact s.ext.gf b n (by rw[(g1 b o q).2];simp),s.ext.pf,λb o q n=>by
    rw[aI λz=>by rw[z,h0]at q;cases q];exact s.ext.h b o q n⟩
  refine⟨_,e1,.inl ⟨rfl,us,SqL.of Ha⟩,?_⟩;refine⟨a,us,.non,rfl,rfl,Ha,by rw[ru.length];exact dN hl<|nh<|cO _,?_⟩;obtain⟨vj,ej,rj⟩:=s.d j _ hj;obtain⟨c,vs,ec,hc,gc,pc,h0c,rc⟩:=s.o k _ hk;have nca:c≠a:=λz=>by rw[z,ea]at gc;cases gc
  refine kr W0 H0 F (kZ W a) σ _ _ E Dn N hw hf ⟨x' _,by simp;exact s.len,λl y el=>?_,λl ys' el=>?_,λl m ys1 ys2 b nlm el em sl sm=>?_,.none λl xss el=>?_⟩ ?_ eo no hn
  .rcases mY nij nik njk el with⟨_,z⟩|⟨_,z⟩|⟨rfl,z⟩|z
   .cases z
   .cases z
   .cases z
    refine⟨vj,ej,?_⟩;cases rj with
    |tup e r=>exact .tup (AN ea e λ_ z=>by cases z)<|rL hds r
    |ktup e r=>exact .ktup e<|rL hds r
   .cases z
  .rcases mY nij nik njk el with⟨rfl,z⟩|⟨rfl,z⟩|⟨_,z⟩|z
   .cases z
    exact⟨a,us++[.non],e1,aV,gl,pa,h0,(D3 ea hxs ru).append<|.cons .non .nil⟩
   .cases z
    exact⟨c,vs,ec,by rw[aI nca];exact hc,by unfold kZ;dsimp only;rw[jx nca];exact gc,pc,h0c,D3 ea hys rc⟩
   .cases z
   .cases z
  .rcases mY nij nik njk el with⟨rfl,z⟩|⟨rfl,z⟩|⟨_,z⟩|z
   .cases z
    rcases mY nij nik njk em with⟨rfl,z⟩|⟨rfl,z⟩|⟨_,z⟩|z
    .exact nlm rfl
    .rw[e1]at sl;cases sl;rw[ec]at sm;cases sm;exact nca rfl
    .cases z
    .cases z
   .cases z
    rcases mY nij nik njk em with⟨rfl,z⟩|⟨rfl,z⟩|⟨_,z⟩|z
    .rw[e1]at sm;cases sm;rw[ec]at sl;cases sl;exact nca rfl
    .exact nlm rfl
    .cases z
    .cases z
   .cases z
   .cases z
  .rcases mY nij nik njk el with⟨_,z⟩|⟨_,z⟩|⟨_,z⟩|z<;>cases z
  .refine⟨λb o q=>?_,fl.p⟩
   obtain⟨vs',rfl⟩:=hf b o q;exact AN ea (fl.g b _ q) λ_ z=>by cases z
 .obtain⟨xs,ds,ys,h1,h2,h3,h4,h5,h6,h7,h8,h9,h10,hn⟩:=q
  exact⟨xs,ds,ys,h1,h2,h3,h4,h5,h6,h7,h8,h9,h10,hr.mono _ _ _ _ hl hn⟩
theorem NQ(j:Nat)(h:vG X EX sts z):jI X EX sts (ym j z):=by
 obtain⟨t,p,k⟩:=h.t;refine⟨⟨t,p,λW0 H0 F W σ H ρ E Dn N s fl eo no h=>?_⟩,λE ρ N N' hl ⟨ds,h1,h2,h3⟩=>⟨ds,h1,h2,h.mono _ _ (rN N) (rN N') ⟨λ_ z=>z,λd hd=>⟨hd.1,hl.rt d hd.2⟩,λ_ z=>z,λ_ z=>z⟩ h3⟩⟩;obtain⟨ds,hj,hds,hz⟩:=h;obtain⟨vj,e1,rj⟩:=s.d j _ hj;have rjr:Rep X.K (eP W) vj (.tup ds):=by
  cases rj with
  |tup e r=>exact .tup (by unfold eP;dsimp only;rw[e])<|rL hds r
  |ktup e r=>exact .ktup e<|rL hds r
 have sr:SOk X.K (eP W) H (eP W) σ H (rM j (.tup ds) ρ):=by
  refine⟨.refl<|HX s.ok,by unfold rM;rw[dQ,lS];exact s.len,λk y ek=>?_,λk xs ek=>?_,λk l xs ys a _ ek _ _=>?_,.none λk xss ek=>?_⟩;rcases tB ek with⟨rfl,z⟩|z
  cases z;exact⟨vj,e1,rjr⟩;cases z;rcases tB ek with⟨_,z⟩|z<;>cases z
  rcases tB ek with⟨_,z⟩|z<;>cases z
  rcases tB ek with⟨_,z⟩|z<;>cases z
 have to:uW (eP W):=λa o e=>(D0 e).2;refine k (eP W) H (eP W) (eP W) σ H _ No Dn (rN N) to to sr (.refl _) (λ_ _ _ _ _ z=>z.elim) ⟨λ_ _ _ _ _ _ z=>z.elim,λd v W1 H1 x1 r1 hd=>?_,λ_ _ _ _ _ _ z=>z.elim,λ_ _ _ _ _ _ z=>z.elim⟩ hz;obtain⟨⟨b,rfl⟩,hd⟩:=hd;have hv:v=.bl b:=by cases r1;rfl
 subst hv;have xw:Ext W H W H1:=⟨⟨λa o ea=>x1.h a o (s.ok.g a o ea) (λpa=>by have:=(s.ok.p a pa).2;rw[ea]at this;cases this),λa pa=>⟨(x1.ok.p a<|x1.p a pa).1,(s.ok.p a pa).2⟩⟩,λ_ _ z=>z,λ_ z=>z,λ_ z n=>PQ z n,λ_ n z=>PQ z n,x1.h⟩;exact no.rt _ _ W H1 (s.ext.trans xw) (.bl b) hd
end
def AQ(w:WE):WT:=λE ρ Q=>w E ρ λd=>∃i,d=.int i/\Q (i != 0)
section
variable{a:Expr}
theorem NR(ha:PX X EX a wa)(he:autoParam (∀whole,isTrue a X.env whole=(do let v <-whole;standAt a.pos;holding [v] (truthy v))) QN._auto_1):kG X EX a (AQ wa):=by obtain⟨ta,pa,ka⟩:=ha.t;refine⟨⟨_,kE pa he,λW0 H0 W σ H ρ E Q s eo h=>?_⟩,λE ρ P P' hp h=>ha.mono _ _ _ _ (λd ⟨i,e,q⟩=>⟨i,e,hp _ q⟩) h⟩;refine ka W0 H0 W σ H ρ E _ s eo<|ha.mono _ _ _ _ (λd hd v W' H' x' r'=>?_) h;obtain⟨i,rfl,q⟩:=hd;cases r';exact⟨_,rfl,q W' H' x'⟩
end
theorem SOk.gone{W:Wd}(s:SOk K W0 H0 W σ H ρ)(i:Nat):SOk K W0 H0 W (σ.set i none) H (ρ.set i .un):=by
 have key:∀{j:Nat} {y:SV},(ρ.set i .un)[j]? = some y->y=.un\/(i≠j/\ρ[j]? = some y):=λ{j y} e=>by by_cases h:i=j;subst h;by_cases hi:i<ρ.length;rw[e9 hi]at e;cases e;exact .inl rfl;rw[fi (by rw[dQ];omega)]at e;cases e;rw[d6 h]at e;exact .inr ⟨h,e⟩
 refine⟨s.ext,by rw[dQ,dQ];exact s.len,λj y e=>?_,λj ys e=>?_,λj l xs ys a n e1 e2 e3=>?_,s.oo.set (λ_ z=>nomatch z) (λj h=>d6 h) λ_ _ z=>nomatch z⟩;rcases key e with z|⟨h,e⟩
 cases z;rw[d6 h];exact s.d j y e;rcases key e with z|⟨h,e⟩
 cases z;rw[d6 h];exact s.o j ys e;rcases key e1 with z|⟨h1,e1⟩
 cases z;rcases key e2 with z|⟨h2,e2⟩
 cases z;rw[d6 h1]at e3;rw[d6 h2];exact s.ne j l xs ys a n e1 e2 e3
section
def AR(L:Qx)(i:Nat)(S:bA)(t:WA)(zh:WS):WS:=λ_ N ρ=>t No ρ λds=>S ds (λex=>ex∈L/\zh No { nx:=λρ'=>N.nx<|ρ'.set i .un,rt:=N.rt } (ρ.set i<|.d<|.exc ex)) λ_=>N.nx ρ
theorem NS(L:Qx)(i:Nat){n cx:Str}{suite:List Stmt}{b0:Stmt}{zh:WS}{hpos:Pos}(G:Fp X.prog X.w X.K X.mg X.base k x ps S)(hr:Room j X.A)(hcx:XT X.K X.mg cx L)(hN:X.N.Nodup)
  (ha:∀xe tv,j6 (X.tr xe tv) E0 (e::es) t) (hh:∀e xe,jI (X.hnd e xe) E0 (b0::suite) zh) (hk:(k<=j:))
  (hgx:{Gl X x}) (hdb:(QA x:)) (he:{QD X e es}) (hpl:{(backTo cpos<|starEach es X.env).any (·.1)=false})
  (hsw:{swapsWith (.Call (.Name x p) (e::es) [] cpos) none bpos.line X.env=pure false})
  (hstk:X.stack=X.env::X.outer/\X.env.frame=some X.env.locals:=by exact⟨rfl,rfl⟩) (hi:{X.N[i]? = some n}) (hx:{X.env.scope.names.lookup n=some .local})
  (hg:{Gl X cx}) (hd:(QA cx:)) (hkf:{X.env.scope.kind=.function}) (hex:{X.ex=[]}) :
  PZ X EX (.Try [.Expr (.Call (.Name x p) (e::es) [] cpos) bpos] [.ExceptHandler (some<|.Name cx np) (some n) (b0::suite) hpos] [] [] pos) (AR L i S t zh):=by
 obtain⟨f,fd,F,hmf,kp,hbd⟩:=G.ok;have ham:=(ha (λ_ _=>False) []).mono;refine⟨⟨λD σ H=>∃W0 H0 F W ρ N,SOk X.K W0 H0 W σ H ρ/\Wle F W/\zA X.K W0 H0 F D N/\AR L i S t zh No N ρ,?_,λW0 H0 F W σ H ρ E Dn N s fl eo no h=>⟨W0,H0,F,W,ρ,N,s,fl,no,h⟩⟩,λE ρ N N' hl h=>ham _ _ _ _ (λds hds=>G.mono _ _ _ _ _ (λex ⟨h1,h2⟩=>⟨h1,(hh 0 λ_ _=>False).mono _ _ { nx:=λρ'=>N.nx<|ρ'.set i .un,rt:=N.rt } { nx:=λρ'=>N'.nx<|ρ'.set i .un,rt:=N'.rt } ⟨λ_ z=>hl.nx _ z,hl.rt,λ_ z=>z,λ_ z=>z⟩ h2⟩) (λ_ z=>hl.nx _ z) hds) h⟩;rintro tv s σ H D I ⟨W0,H0,F0,W,ρ,N,so,fl,no,hz⟩;obtain⟨Cs,newId,bmB,hm,hexc,hbase,hsub⟩:=hcx.h;have hcalm:=I.ok.hd
 let Eh:Value->Shared->Prop:=λe s1=>wpAny (model X.prog X.w) X.A (noteFrame e X.env) (λ_ s2=>wpAny (model X.prog X.w) X.A (setFlight e none) (λ_ s3=>wpAny (model X.prog X.w) X.A (handleBy e X.env [.ExceptHandler (some<|.Name cx np) (some n) (b0::suite) hpos]) (SP X tv D) X.xe s3) X.xe s2) X.xe s1
 have land:∀W1 H1,Ext W H W1 H1->∀pins' s1 e s',Inv (X.tr Eh tv) pins' σ H1 s1->gu X.prog X.w X.stack H1 s1 (λcls dx H'=>∃W' ex,Ext W1 H1 W' H'/\wW X.K W' H' cls dx ex/\ex∈L/\zh No { nx:=λρ'=>N.nx<|ρ'.set i .un,rt:=N.rt } (ρ.set i<|.d<|.exc ex)) e s'->Eh e s':=by
  rintro W1 H1 x1 pins' s1 _ s' I1 ⟨ea,cls,dx,H',B,rfl,fly,hos,hbare,un,hok,hB,hT,W',ex,x',⟨C,hcl,rfl,hxd⟩,hL,hw⟩;have J:Inv X tv σ H1 s1:=I1.untr;have so1:SOk X.K W0 H0 W' σ H' ρ:=(so.step x1).step x';have fl1:Wle F0 W':=(fl.ext x1).ext x';have fly':Fl.Up (Fl.Is (.ref C) dx) B (X.env::X.outer) ea .none s'.heap:=by rw[<-hstk.1];exact fly
  have frm:∀b∈dO X.stack,∃o,s'.heap.get? b=some o/\∀vs,o.data≠.fields vs:=λb hb=>(fly.fr.mem hb).2;show wpAny (model X.prog X.w) X.A (noteFrame (.ref ea) X.env) _ _ s';refine Fl.note Fl.Is.firm (by rw[J.ok.frames,hstk.1]) hstk.2 fly' λh4 held4 up4=>?_;refine Fl.lands (s:={ s' with heap:=h4 }) held4 λh5 fl5 up5=>?_;have up45:=up4.trans up5;have J5:Inv X tv σ H' { s' with heap:=h5 }:=J.fly hos hbare un hok hB hT fly.st fl5.st up45 frm;refine wpAny_handleBy_cons (codeAny_handlers_test ?_) (by intro q;cases q);refine fD (X:=X.hnd ea X.xe) J5.hnd hg hm ?_ hd;refine Jy J5.kIn hexc hbase (let⟨ob,z1,z2,_⟩:=fl5.there;⟨ob,z1,z2.1⟩) (hsub ex hL C hcl) ?_;refine codeAny_handlers_suite_as ?_;refine Fl.lands (s:={ s' with heap:=h5 }) fl5 λh6 fl6 up6=>?_;have J6:Inv X tv σ H' { s' with heap:=h6 }:=J.fly hos hbare un hok hB hT fly.st fl6.st (up45.trans up6) frm;obtain⟨oe0,g1,g2,vs0,g3⟩:=fly.there;have nofr:ea∉dO X.stack:=λhm=>by
   obtain⟨o,e,nf⟩:=frm ea hm;rw[g1]at e;cases e;exact nf _ g3
  have nB:B.get? ea=none:=fly.new;have noS:s1.heap.get? ea=none:=by
   cases q:s1.heap.get? ea with
   |none=>rfl|some o=>obtain⟨o',e⟩:=hB ea o q nofr;rw[nB]at e;cases e
  have hn':H' ea=none:=by
   cases q:H' ea with
   |none=>rfl|some u=>obtain⟨o,e⟩:=hT ea u q;rw[nB]at e;cases e
  have no0:X.s₀.heap.get? ea=none:=by
   cases q:X.s₀.heap.get? ea with
   |none=>rfl
   |some o=>
    obtain⟨o',e⟩:=J.base.there ea o q (by rw[hex];simp);rw[noS]at e;cases e
  have nL:ea≠X.env.locals:=λz=>by
   obtain⟨m,⟨o,es,ep,ho,_⟩,_⟩:=J.loc;rw[<-z,noS]at ho;cases ho
  have nC:∀x c,X.env.cells.lookup x=some c->c≠ea:=λx c e z=>by
   obtain⟨v,o,ho,_⟩:=J.cell x c e;rw[z,noS]at ho;cases ho
  have nP:∀p∈X.pn++tv,p.1≠ea:=λp hp z=>by
   have:=(J.pin p hp).1;rw[z,noS]at this;cases this
  obtain⟨oe,q1,q2,vs,q3⟩:=fl6.there;refine gH (X:=X.hnd ea X.xe) (v:=.ref ea) J6.hnd hN hi (Or.inl hx) rfl (λs7 J7 sb=>?_)<|.inr hx;have hat:∃oe,s7.heap.get? ea=some oe/\oe.cls=.ref C/\PySem.W.notCls oe=true/\oe.dict=dx/\∃vs,oe.data=.fields vs:=by
   obtain⟨a,hs,ha⟩:=sb;have hne:ea≠a:=λz=>by
    rcases ha with ha|ha
    .exact nL<|z.trans ha
    .exact nC _ _ ha z.symm
   refine⟨oe,(hs.2 ea hne).trans q1,q2.1,?_,q2.2,vs,q3⟩;unfold PySem.W.notCls;rw[q3]
  have J8:Inv (X.hnd ea λ_ _=>False) tv (σ.set i<|some<|.ref ea) (upd H' ea<|qj C ea dx) s7:=by
   refine((J7.unhnd hcalm).hnd).track hn' no0 nL nC nP ⟨hat,?_,?_⟩ (λ_ z=>by first|cases z|(unfold qj at z;cases z))
   .obtain⟨o,e,_⟩:=hat;exact⟨o,e⟩
   .rintro g1 g2 ⟨o,e,r⟩ k
    exact⟨o,k o e,r⟩
  have xt:Ext W' H' (W'.put ea<|qj C ea dx) (upd H' ea<|qj C ea dx):=Ext.put x'.ok hn';have so2:SOk X.K W0 H0 (W'.put ea<|qj C ea dx) (σ.set i<|some<|.ref ea) (upd H' ea<|qj C ea dx) (ρ.set i<|.d<|.exc ex):=
   (so1.step xt).set (.exc (by unfold Wd.put;dsimp only;rw[aV]) hcl<|hxd.mono xt.g)
  obtain⟨th,ph,kh⟩:=(hh ea λ_ _=>False).t;refine P2 (ph tv s7 _ _ { nx:=λσ9 H9=>D.nx (σ9.set i none) H9,rt:=D.rt } J8 (kh W0 H0 F0 _ _ _ _ No _ { nx:=λρ'=>N.nx<|ρ'.set i .un,rt:=N.rt } so2 (fl1.ext xt) (λ_ _ _ _ _ z=>z.elim)
   ⟨λW9 σ9 H9 ρ9 s9 f9 q=>no.nx W9 _ H9 _ (s9.gone i) f9 q,no.rt,λ_ _ _ _ _ _ z=>z.elim,λ_ _ _ _ _ _ z=>z.elim⟩ hw)) (λf s9 q=>?_) λ_ _ z=>z.elim
  cases f with
  |next=>
   obtain⟨σ9,H9,J9,q9⟩:=q;have K9:=J9.unhnd hcalm;obtain⟨m,hns,hl⟩:=id K9.loc;exact wpAny_nameGoes_keeps hx hns (by rw[hkf];rfl) λh' v hn2 hs2=>⟨_,H9,K9.gone hN hi hl hn2 hs2,q9⟩
  |brk=>obtain⟨_,_,_,z⟩:=q;exact z.elim
  |cont=>obtain⟨_,_,_,z⟩:=q;exact z.elim
  |ret u=>
   obtain⟨v,σ9,H9,J9,r9,q9⟩:=q;have K9:=J9.unhnd hcalm;obtain⟨m,hns,_⟩:=K9.loc;exact wpAny_nameGoes hx hns (by rw[hkf];rfl) λh' m' hn2 hs2=>⟨v,_,H9,K9.names hn2 hs2,r9,q9⟩
 obtain⟨ta,pa,ka⟩:=(ha Eh tv).t;have pe:=Kb (X:=X.tr Eh tv) (CX:=gu X.prog X.w) (p:=p) F (hr.mono hk) hgx hmf kp hbd pa hdb he hpl;refine wpAny_Try_except<|P2 (eJ (gi pe hsw) jR [] s σ H D I.tr<|ka W0 H0 W σ H ρ No _ so (λ_ _ _ _ _ z=>z.elim)<|ham _ _ _ _ (λds hds vs W1 H1 x1 r1=>?_) hz) (λf s1 q=>?_) λe s1 q=>q
 .refine⟨λcls dx H'=>∃W' ex,Ext W1 H1 W' H'/\wW X.K W' H' cls dx ex/\ex∈L/\zh No { nx:=λρ'=>N.nx<|ρ'.set i .un,rt:=N.rt } (ρ.set i<|.d<|.exc ex),⟨ds,W1,x1.ok,r1,G.mono _ _ _ _ _ (λex hx W' H' cls dx x' r'=>⟨W',ex,x',r',hx⟩) (λd hd v W' H' x' r'=>no.nx W' σ H' ρ (so.step<|x1.trans x') (fl.ext<|x1.trans x') hd) hds⟩,land W1 H1 x1⟩
 cases f with
 |next=>exact Qm q.untr|brk=>exact q.untr|cont=>exact q.untr|ret u=>exact q.untr
end
def yn:bA:=λ_ _ _=>False
def orS(S T:bA):bA:=λds E Q=>S ds E Q\/T ds E Q
theorem orS.mono{T:bA}(h:mJ S)(k:mJ T):mJ (orS S T):=λds E E' Q Q' hE hQ q=>q.imp (h ds E E' Q Q' hE hQ)<|k ds E E' Q Q' hE hQ
theorem orS.len{T:bA}(h:∀ds E Q,S ds E Q->ds.length=ps.length)(k:∀ds E Q,T ds E Q->ds.length=ps.length):∀ds E Q,orS S T ds E Q->ds.length=ps.length:=λds E Q q=>q.elim (h ds E Q)<|k ds E Q
theorem Fp.left{P:Program}{w:World}{T:bA}(h:Fp P w K mg base k x ps (orS S T))(m:mJ S):Fp P w K mg base k x ps S:=by obtain⟨⟨f,fd,F,a,b,c⟩,_⟩:=h;exact⟨⟨f,fd,F.imp λ_ _ _ _ ⟨ds,W,w,r,q⟩=>⟨ds,W,w,r,.inl q⟩,a,b,c⟩,m⟩
def rO:bA:=xS (λx:D=>[x]) (λx=>kd x=true/\dM x=false) λ_=>.error "NoSlants"
def D4:bA:=xS (λx:D×D=>[x.1,x.2]) (λx=>kd x.1=true/\dM x.1=false) λ_=>.error "NoSlants"
def D5:bA:=xS (λx:D×D×D=>[x.1,x.2.1,x.2.2]) (λx=>kd x.1=true/\dM x.1=false) λ_=>.error "NoSlants"
theorem rP{P:Program}{w:World}(h:FnAt K mg x st)
  (hb:∀ (kV doc pm:Value) (an:Option Addr) (cdv ct:Value) (us:Qu),us.length=ps.length->bindArgs (PySem.W.fnOf x x (cT st) (bT st) (aJ st) .none kV doc pm an cdv ct) ⟨us,[]⟩=pure (ps.zip us):=by
   intro _ _ _ _ _ _;(first|refine Dv ?_|refine Dw ?_|refine Dx ?_|refine Dy ?_);intros;rfl):Fp P w K mg base k x ps yn:=by
 obtain⟨f,fd,F,m,q⟩:=h;exact Fp.of ⟨λ_ _ _ _ ⟨_,_,_,_,z⟩=>z.elim,λ_ _ _ _ _ _ _ _ _ _ _ _ _ ⟨_,_,_,_,z⟩=>z.elim⟩ (λ_ _ _ _ _ _ _ z=>z) m F.kp<|F.binds hb
namespace B.C.Q0.Q3.Y6
abbrev Ze:bA:=yn
abbrev D6:bA:=yn
abbrev Ia:bA:=yn
abbrev Ib:bA:=yn
def AS:bA:=rO
def AT:bA:=rO
def AU:bA:=rO
def yo:bA:=rO
def AV:bA:=rO
def AW:bA:=D5
def AX:bA:=D5
def D7:bA:=rO
def S_one_rows_good:bA:=G.S_one_rows_good
def S_nought_row_good:bA:=G.S_nought_row_good
def S_paper_good:bA:=G.S_paper_good
def S_paper_of:bA:=orS LP.S_paper_of rO
def S_squares_of:bA:=orS Q3.S_squares_of rO
def S_squares_good:bA:=orS Q0.S_squares_good D4
structure Tx(x:D):Prop where
 k:kd x=true
 z:dG 10 x=true
 o:∀a b,x=.tup [a,b]->eZ a 60=true
def D8:bA:=fnS (λx:SL×D=>[aL x.1.1,x.2]) (λx=>IsSl x.1.1 x.1.2/\x.1.1.reverse=x.1.1/\kd x.2=true/\dG 10 x.2=true) λx=>.bl<|Q2.sqA x.1.1 x.1.2 x.2
def D9:bA:=fnS (λx:SL×D=>[aL x.1.1,x.2]) (λx=>IsSl x.1.1 x.1.2/\x.1.1.reverse=x.1.1/\kd x.2=true/\dG 10 x.2=true) λx=>.bl<|Q2.noA x.1.1 x.1.2 x.2
def tD:bA:=orS (xS (λx:SL×D=>[aL x.1.1,x.2]) (λx=>IsSl x.1.1 x.1.2/\Tx x.2) λx=>Q2.abR x.1.1 x.1.2 x.2) D4
def NT:bA:=fnS (λx:SL×QG=>[aL x.1.1,.lst x.2]) (λx=>IsSl x.1.1 x.1.2/\x.1.1.reverse=x.1.1/\x.2.length≠x.1.2/\x.2.length<=10) λ_=>.bl false
def S_sign_paper_good:bA:=orS LP.S_sign_paper_good NT
def Nz(s:Qv)(n:Nat):Prop:=∀y:Qw,y.length=n->(∀r∈eO s n,cD r y=0)->∀t,t<n->y.getD t 0=0
def tE:bA:=uD
def uX:bA:=fnS (λx:Rat×Int×Int=>[aS x.1,.tup [.int x.2.1,.int x.2.2]]) (λx=>0<x.2.2/\∃n m,Sz n x.1/\x.2.1.natAbs<2^m/\x.2.2.natAbs<2^m/\n+m<8990) λx=>aS<|x.1-Rat.divInt x.2.1 x.2.2
def AY:bA:=rg
def AZ:bA:=fnS (λx:SL=>[aL x.1]) (λx=>IsSl x.1 x.2) λx=>bD x.1 x.2
def A0:bA:=rlS (λx:SL=>[bD x.1 x.2]) (λx=>IsSl x.1 x.2/\x.2<=4/\Nz x.1 x.2) λx d=>∃R:K4,d=.lst (R.map lq)/\R.length=x.2/\∀r∈R,r.length=x.2/\∀y∈r,Sz 111 y
def vH:bA:=fnS (λx:(SL×Qw)×Nat=>[bD x.1.1.1 x.1.1.2,aE x.1.2,.int x.2]) (λx=>IsSl x.1.1.1 x.1.1.2/\x.1.2.length=x.1.1.2/\∀y∈x.1.2,Sz 111 y) λx=>.bl<|decide (bR x.1.1.1 x.1.1.2 x.1.2=aX x.1.1.2 x.2)
def A1:bA:=fnS (λ_:Unit=>[.pen]) (λ_=>True) λ_=>.bl true
def A2:bA:=fnS (λ_:Unit=>[.pen]) (λ_=>True) λ_=>.bl true
def A3:bA:=fnS (λ_:Unit=>[.pen]) (λ_=>True) λ_=>.bl true
def A4:bA:=fnS (λ_:Unit=>[.pen]) (λ_=>True) λ_=>.bl true
def A5:bA:=fnS (λ_:Unit=>[.exc "NoSlants"]) (λ_=>True) λ_=>.tup [.str "slants"]
def A6:bA:=xS (λx:Nat×D=>[.int x.1,x.2]) (λx=>x.1<15/\kd x.2=true/\dM x.2=false) λ_=>.error "NoSlants"
def yq:bA:=fnS (λns:Qv=>[.scr<|ns.map .int]) (λns=>ns.length<=63) λ_=>.bl true
section
variable{E:QF}{x:D}{a b:Int}{p:Rat}
theorem Ea(h:b≠0)(h':Bd b)(z:Q (aS<|Rat.divInt a b)):tE [.int a,.int b] E Q:=⟨(a,b),rfl,⟨h,h'⟩,z⟩
theorem Zl(h:B2 p q)(z:Q (aS<|p*q)):AY [aS p,aS q] E Q:=⟨(p,q),rfl,h,z⟩
theorem Ic(h:0<b)(h1:Sz m p)(h2:a.natAbs<2^k)(h3:b.natAbs<2^k)(l:m+k<8990)(z:Q (aS<|p-Rat.divInt a b)):uX [aS p,.tup [.int a,.int b]] E Q:=⟨(p,a,b),rfl,⟨h,m,k,h1,h2,h3,l⟩,z⟩
theorem NU(h:B2 p q)(z:Q (aS<|p-q)):uX [aS p,aS q] E Q:=by obtain⟨n,m,h1,h2,l⟩:=h;refine Ic (a:=q.num) (b:=q.den) (by exact_mod_cast q.den_pos) h1 h2.1 h2.2 l ?_;rw[tL];exact z
theorem NV(h:IsSl s n)(z:Q (bD s n)):AZ [aL s] E Q:=⟨(s,n),rfl,h,z⟩
theorem NW(h:IsSl s n)(h4:n<=4)(hz:Nz s n)(z:∀R:K4,R.length=n->(∀r∈R,r.length=n/\∀y∈r,Sz 111 y)->Q (.lst<|R.map lq)):A0 [bD s n] E Q:=⟨(s,n),rfl,⟨h,h4,hz⟩,λd ⟨R,e,h1,h2⟩=>e▸z R h1 h2⟩
theorem Eb(h:IsSl s n)(hl:r.length=n)(hs:∀y∈r,Sz 111 y)(z:Q (.bl<|decide (bR s n r=aX n k))):vH [bD s n,aE r,.int k] E Q:=⟨(((s,n),r),k),rfl,⟨h,hl,hs⟩,z⟩
theorem NX(hk:k<15)(h:kd x=true)(h':dM x=false)(z:E "NoSlants"):A6 [.int k,x] E Q:=xS.err (k,x) rfl ⟨hk,h,h'⟩ rfl z
theorem NY(z:Q (.tup [.str "slants"])):A5 [.exc "NoSlants"] E Q:=⟨(),rfl,trivial,z⟩
end
abbrev NZ:Qx:=Zd1
abbrev N0:Qx:=(Zd1.take 1)
abbrev ZgI:Qx:=["slants"]
def Id:WS:=(aH<|wB je<|aC (wF D7<|aC (wN 0) aA) aA)
abbrev ZlT:Qx:=["slants"]
def Ie:WS:=(aG (fV<|wF xN<|aC (wN 0) aA)<|aH<|wB je<|aC (wF xO<|aC (wN 0) aA) aA)
abbrev ZjM:Qx:=["slants", "columns"]
def Ig:WS:=(aG (fV<|wF xN<|aC (wN 0) aA)<|aG (aT 1<|wF xP<|aC (wN 0) aA)<|aH<|aY<|aC (w2 gIx (wN 1)<|wC<|.int<|0)<|aC (w2 gIx (wN 1)<|w1 jg<|wC<|.int<|1) aA)
abbrev ZfS:Qx:=["slants", "size", "lasts"]
def Ih:WS:=(aG (fV<|wF qs<|aC (wN 0) aA)<|aG (aT 1<|wF jJ<|aC (wN 0) aA)<|aG (bY 2<|aLC (iS<|wF Ia<|aC (wN 0) aA) 1 [] (gN 0) cC<|w2 gIx (wN 0)<|wC<|.int<|1)<|bK 2<|aH<|wL<|aLC (iS<|wN 2) 1 [0,1] (gN 0) cC<|aY<|aC (wF mP<|aC (wC<|D.tup [(D.int<|1),(D.int<|1)])<|aC (w2 gIx (wN 0)<|w1 jg<|wC<|.int<|1) aA)<|aC (wF uH<|aC (wN 1)<|aC (w2 gAdd (wN 0)<|w2 ZcL (aY<|aC (wC<|D.tup [(D.int<|0),(D.int<|1)]) aA)<|w2 fS (wN 2)<|wB bV<|aC (wN 0) aA) aA) aA)
abbrev ZfA:Qx:=["slants"]
def Zf:WS:=(aH<|wL<|aLC (iS<|wF yo<|aC (wN 0) aA) 2 [] (dB 2<|bN (gN 0)<|bN (gN 1) cS) cC<|wN 0)
abbrev ZgJ:Qx:=["slants", "rows", "columns", "size", "table"]
def Ii:WS:=(aG (fV<|wF nq<|aC (wN 0) aA)<|aG (aT 3<|wF jJ<|aC (wN 0) aA)<|aG (cE (eU (bM<|wT<|wF D6<|aC (wN 1)<|aC (wN 3) aA)<|eU (bM<|wT<|wF D6<|aC (wN 2)<|aC (wN 3) aA)<|wT<|w2 (gEq true) (wB bV<|aC (wN 1) aA)<|wB bV<|aC (wN 2) aA) (iV<|PySem.Str.ofString "NoRow") cF)<|aG (aT 4<|wF uF<|aC (wN 0) aA)<|aH<|wF Ze<|aC (wL<|aLC (iS<|wN 1) 1 [2,4] (gN 0) cC<|wL<|aLC (iS<|wN 1) 1 [0,2] (gN 0) cC<|w2 gIx (w2 gIx (wN 2)<|wN 1)<|wN 0) aA)
abbrev Zhr:Qx:=["slants", "place", "row"]
def Zh:WS:=(aG (fV<|wF nq<|aC (wN 0) aA)<|aG (cE (bM<|wT<|wF zR<|aC (wN 1)<|aC (wC<|.int<|0)<|aC (w2 fS (wF jJ<|aC (wN 0) aA)<|wC<|.int<|1) aA) (iV<|PySem.Str.ofString "NoNumber") cF)<|aG (fV<|wF Ib<|aC (wN 0)<|aC (wN 2) aA)<|aH<|wF Ze<|aC (wL<|aLC (iZ<|aC (wF uF<|aC (wN 0) aA)<|aC (wN 2) aA) 2 [1] (dB 2<|bN (gN 0)<|bN (gN 1) cS) cC<|w2 gAdd (w2 gAdd (bX (wN 0) eV<|eC<|wN 2)<|wL<|bP<|aC (wN 1) aA)<|bX (wN 0) (eC<|w2 gAdd (wN 2)<|wC<|.int<|1) eV) aA)
abbrev Zhp:Qx:=["slants", "squares", "row", "weight"]
def Ed:WS:=(aG (bY 1<|bP aA)<|aG (bH (iS<|wF tu<|aC (wN 0) aA) (gN 2)<|aG (aT 3<|wF lJ<|aC (wN 0)<|aC (wN 2)<|aC (wN 2) aA)<|cE (wT<|w2 (gEq true) (wN 3)<|wC<|D.tup [(D.int<|0),(D.int<|1)]) (dL 1<|aY<|aC (wN 3)<|aC (wF xI<|aC (wF uH<|aC (wN 0)<|aC (wN 2) aA)<|aC (wN 3) aA) aA) cF)<|bK 1<|aH<|wN 1)
abbrev Zdm:Qx:=["slants", "thing", "size", "weights_good"]
def Ij:WS:=(aG (aT 2<|wF jJ<|aC (wN 0) aA)<|aG (cE (eU (bM<|wT<|wF S_squares_good<|aC (wN 0)<|aC (wN 1) aA)<|wT<|w2 (gEq true) (wB bV<|aC (wN 1) aA)<|wN 2) (aH<|wC<|D.bl false) cF)<|aG (aT 3<|wB ij<|aC (wL<|aLC (iS<|wN 1) 2 [] (dB 2<|bN (gN 0)<|bN (gN 1) cS) cC<|w2 mM (w2 gIx (wN 0)<|wC<|.int<|0)<|wC<|.int<|0) aA)<|aH<|ft (wN 3)<|wF ye<|aC (wL<|aLC (iS<|wN 1) 2 [] (dB 2<|bN (gN 0)<|bN (gN 1) cS) cC<|wN 1)<|aC (wN 2) aA)
abbrev Ze7:Qx:=["slants", "thing"]
def Ik:WS:=(aG (cE (eU (bM<|wT<|wF rh<|aC (wN 0)<|aC (wN 1) aA)<|wT<|w2 (gEq false) (wN 1)<|w2 ZcL (aY<|aC (wC<|D.tup [(D.int<|0),(D.int<|1)]) aA)<|wF jJ<|aC (wN 0) aA) (aH<|wC<|D.bl false) cF)<|aH<|w2 lG (w2 gIx (wF lJ<|aC (wN 0)<|aC (wN 1)<|aC (wN 1) aA)<|wC<|.int<|0)<|wC<|.int<|0)
abbrev Zhy:Qx:=["slants", "thing"]
def Ee:WS:=(aG (fV<|wF qs<|aC (wN 0) aA)<|aG (cE (eU (bM<|wT<|wB gIs<|aC (wN 1)<|aC (wC<|.ty "tuple") aA)<|wT<|w2 (gEq true) (wB bV<|aC (wN 1) aA)<|wC<|.int<|2) (aH<|wC<|D.bl false) cF)<|aG (cE (wT<|w2 (gEq false) (w2 gIx (wN 1)<|wC<|.int<|0)<|wC<|D.str<|PySem.Str.ofString "above") (aH<|wF D8<|aC (wN 0)<|aC (w2 gIx (wN 1)<|wC<|.int<|1) aA) cF)<|aH<|ft (w2 (gEq false) (w2 gIx (wN 1)<|wC<|.int<|0)<|wC<|D.str<|PySem.Str.ofString "not")<|wF D9<|aC (wN 0)<|aC (w2 gIx (wN 1)<|wC<|.int<|1) aA)
abbrev ZhB:Qx:=["_law_top", "_law_bottom", "_law_one", "_law_other"]
def N1:WS:=(aG (cE (wT<|w2 j9 (wN 1)<|wC<|.int<|0) (dX 0 1<|aC (w2 fS (wC<|.int<|0)<|wN 0)<|aC (w2 fS (wC<|.int<|0)<|wN 1) aA) cF)<|aG (dX 2 3<|aC (wB j7<|aC (wN 0) aA)<|aC (wN 1) aA)<|aG (bF<|w8 (AQ<|wN 3)<|dX 2 3<|aC (wN 3)<|aC (w2 re (wN 2)<|wN 3) aA)<|aH<|aY<|aC (w2 iU (wN 0)<|wN 2)<|aC (w2 iU (wN 1)<|wN 2) aA)
abbrev Zi5:Qx:=["_law_one", "_law_other"]
def Il:WS:=(aH<|wF tE<|aC (w2 fS (w2 gMul (w2 gIx (wN 0)<|wC<|.int<|0)<|w2 gIx (wN 1)<|wC<|.int<|1)<|w2 gMul (w2 gIx (wN 1)<|wC<|.int<|0)<|w2 gIx (wN 0)<|wC<|.int<|1)<|aC (w2 gMul (w2 gIx (wN 0)<|wC<|.int<|1)<|w2 gIx (wN 1)<|wC<|.int<|1) aA)
abbrev Zhz:Qx:=["_law_one", "_law_other"]
def N2:WS:=(aH<|wF tE<|aC (w2 gMul (w2 gIx (wN 0)<|wC<|.int<|0)<|w2 gIx (wN 1)<|wC<|.int<|0)<|aC (w2 gMul (w2 gIx (wN 0)<|wC<|.int<|1)<|w2 gIx (wN 1)<|wC<|.int<|1) aA)
abbrev ZhA:Qx:=["_law_slants", "_law_n"]
def N3:WS:=(aG (aT 1<|w2 iU (w2 gAdd (wB bV<|aC (wN 0) aA)<|wC<|.int<|1)<|wC<|.int<|2)<|aH<|wL<|aLC (fb<|aC (wN 1) aA) 1 [0,1] (gN 0) cC<|wL<|aLC (fb<|aC (wN 2) aA) 1 [0,1,2] (gN 0) cC<|w2 gIx (wN 2)<|w2 fS (w2 gAdd (w2 fS (wN 0)<|wN 1)<|wN 3)<|wC<|.int<|1)
abbrev Zi7:Qx:=["_law_table_here", "_law_n", "_law_lines", "_law_at", "_law_row", "_law_some", "_law_head", "_law_place", "_law_factor"]
def Ef:WS:=(aG (aT 1<|wB bV<|aC (wN 0) aA)<|aG (bY 2<|bP aA)<|aG (bF<|bH (iE<|aC (wN 0) aA) (dB 2<|bN (gN 3)<|bN (gN 4) cS)<|dL 2<|w2 gAdd (wL<|aLC (iS<|wN 4) 1 [] (gN 0) cC<|aY<|aC (wN 0)<|aC (wC<|.int<|1) aA)<|wL<|aLC (fb<|aC (wN 1) aA) 1 [3] (gN 0) cC<|aY<|aC (wB iP<|aC (w2 (gEq false) (wN 1)<|wN 0) aA)<|aC (wC<|.int<|1) aA)<|bK 5<|aG (bF<|bH (fb<|aC (wN 1) aA) (gN 3)<|aG (bY 5<|eD 2<|aLC (kn<|aC (wN 3)<|aC (wN 1) aA) 1 [2,3] (gN 0) (wT<|w2 (gEq true) (w2 gIx (w2 gIx (wN 1)<|wN 0)<|wN 2)<|aY<|aC (wC<|.int<|0)<|aC (wC<|.int<|1) aA)<|wN 0)<|bK 5<|aG (cE (wT<|w2 (gEq false) (wN 5)<|wL<|bP aA) (aH<|wC D.non) cF)<|bK 5<|aG (vd 2 (aY<|aC (d9 2<|w2 gIx (wN 5)<|wC<|.int<|0)<|aC (d9 2<|wN 3) aA) (wN 3)<|w2 gIx (wN 5)<|wC<|.int<|0)<|aG (aT 6<|eY 2<|w2 gIx (w2 gIx (wN 2)<|wN 3)<|wN 3)<|aG (iA 2 (wN 3)<|wL<|aLC (iS<|d9 2<|wN 3) 1 [6] (gN 0) cC<|wF tE<|aC (w2 gMul (w2 gIx (wN 0)<|wC<|.int<|0)<|w2 gIx (wN 1)<|wC<|.int<|1)<|aC (w2 gMul (w2 gIx (wN 0)<|wC<|.int<|1)<|w2 gIx (wN 1)<|wC<|.int<|0) aA)<|bF<|bH (iS<|wL<|aLC (fb<|aC (wN 1) aA) 1 [3] (gN 0) (wT<|w2 (gEq true) (wN 0)<|wN 1)<|wN 0) (gN 7)<|aG (aT 8<|eY 2<|w2 gIx (w2 gIx (wN 2)<|wN 7)<|wN 3)<|iA 2 (wN 7)<|wL<|aLC (iZ<|aC (d9 2<|wN 7)<|aC (d9 2<|wN 3) aA) 2 [8] (dB 2<|bN (gN 0)<|bN (gN 1) cS) cC<|wF uX<|aC (wN 0)<|aC (wF AY<|aC (wN 2)<|aC (wN 1) aA) aA)<|bK 2<|aH<|wL<|aLC (iS<|wN 2) 1 [1] (gN 0) cC<|bX (wN 0) (eC<|wN 1) eV)
abbrev ZfT:Qx:=["_law_table_here", "_law_row", "_law_at", "_law_place", "_law_line", "_law_found", "_law_number", "_law_part"]
def Eg:WS:=(aG (bF<|bH (iE<|aC (wN 0) aA) (dB 2<|bN (gN 3)<|bN (gN 4) cS)<|aG (aT 5<|aY<|aC (wC<|.int<|0)<|aC (wC<|.int<|1) aA)<|aG (bF<|bH (iZ<|aC (wN 4)<|aC (wN 1) aA) (dB 2<|bN (gN 6)<|bN (gN 7) cS)<|aT 5<|wF uX<|aC (wN 5)<|aC (aY<|aC (w2 fS (wC<|.int<|0)<|w2 gMul (wN 6)<|w2 gIx (wN 7)<|wC<|.int<|0)<|aC (w2 gIx (wN 7)<|wC<|.int<|1) aA) aA)<|cE (wT<|w2 (gEq true) (wN 5)<|aY<|aC (wB iP<|aC (w2 (gEq false) (wN 3)<|wN 2) aA)<|aC (wC<|.int<|1) aA) (aH<|wC<|D.bl false) cF)<|aH<|wC<|D.bl true)
abbrev Zev:Qx:=["_law_pen", "_law_size", "_law_at", "_law_row", "_law_slants", "_law_table_here", "_law_back_here", "_law_rows", "_law_bent", "_law_lists", "_law_some", "_law_due", "_law_kept", "_law_found", "_law_first", "_law_last", "_law_told"]
def Ei:WS:=(aG (aT 1<|w2 gAdd (wC<|.int<|2)<|wF lH<|aC (wN 0)<|aC (wC<|.int<|3) aA)<|aG (aT 2<|wF lH<|aC (wN 0)<|aC (wN 1) aA)<|aG (aT 3<|wB je<|aC (wL<|aLC (fb<|aC (wN 1) aA) 1 [0] (gN 0) cC<|wF tE<|aC (w2 fS (wF lH<|aC (wN 1)<|aC (wC<|.int<|9) aA)<|wC<|.int<|4)<|aC (w2 gAdd (wC<|.int<|1)<|wF lH<|aC (wN 1)<|aC (wC<|.int<|4) aA) aA) aA)<|aG (bY 4<|aLC (fb<|aC (w2 fS (w2 gMul (wC<|.int<|2)<|wN 1)<|wC<|.int<|1) aA) 1 [0] (gN 0) cC<|w2 fS (wF lH<|aC (wN 1)<|aC (wC<|.int<|13) aA)<|wC<|.int<|6)<|aG (iA 4 (w2 fS (wN 1)<|wC<|.int<|1)<|eY 4<|w2 gAdd (w2 gIx (wN 4)<|w2 fS (wN 1)<|wC<|.int<|1)<|wC<|.int<|25)<|bK 4<|aG (aT 4<|wB je<|aC (wN 4) aA)<|aG (aT 5<|wF AZ<|aC (wN 4) aA)<|aG (aT 6<|wF A0<|aC (wN 5) aA)<|aG (bY 7<|aLC (fb<|aC (wN 1) aA) 1 [1,6] (gN 0) cC<|wB je<|aC (wL<|aLC (fb<|aC (wN 1) aA) 1 [0,2] (gN 0) cC<|w2 gIx (w2 gIx (wN 2)<|wN 0)<|wN 1) aA)<|bK 7<|aG (aT 8<|w2 gAdd (w2 gAdd (bX (wN 7) eV<|eC<|wN 2)<|wL<|bP<|aC (wN 3) aA)<|bX (wN 7) (eC<|w2 gAdd (wN 2)<|wC<|.int<|1) eV)<|bK 7<|aG (aT 9<|wL<|bP<|aC (wN 7)<|aC (w1 gRev<|wN 7)<|aC (wN 8)<|aC (w2 gAdd (bX (wN 7) (eC<|wC<|.int<|1) eV)<|bX (wN 7) eV<|eC<|wC<|.int<|1)<|aC (w2 gMul (wL<|bP<|aC (w2 gIx (wN 7)<|wC<|.int<|0) aA)<|wN 1)<|aC (w2 gMul (wL<|bP<|aC (wN 3) aA)<|wN 1)<|aC (bX (wN 7) eV<|eC<|w1 jg<|wC<|.int<|1)<|aC (w2 gAdd (wN 7)<|bX (wN 7) eV<|eC<|wC<|.int<|1) aA)<|aG (bF<|bH (iS<|wN 9) (gN 10)<|aG (aT 11<|ft (w2 (gEq false) (wB bV<|aC (wN 10) aA)<|wN 1)<|wB ij<|aC (wL<|aLC (iE<|aC (wN 10) aA) 2 [5] (dB 2<|bN (gN 0)<|bN (gN 1) cS) cC<|wF vH<|aC (wN 2)<|aC (wN 1)<|aC (wN 0) aA) aA)<|aG (aT 12<|wB Zg2<|aC (wN 10) aA)<|aG (aT 13<|wF S_paper_good<|aC (wN 4)<|aC (aY<|aC (wC<|D.str<|PySem.Str.ofString "full")<|aC (wN 10) aA) aA)<|cE (eU (bM<|wT<|wB gIs<|aC (wN 13)<|aC (wC<|.ty "bool") aA)<|eU (wT<|w2 (gEq true) (wN 13)<|wN 11)<|wT<|w2 gNeS (wB Zg2<|aC (wN 10) aA)<|wN 12) (aH<|wC<|D.bl false) cF)<|bK 7<|aG (bF<|bH (iS<|wL<|bP<|aC (aY<|aC (w2 gIx (wN 7)<|wC<|.int<|0)<|aC (w2 gIx (wN 7)<|w1 jg<|wC<|.int<|1) aA)<|aC (aY<|aC (w2 gIx (wN 7)<|wC<|.int<|0)<|aC (wN 3) aA)<|aC (aY<|aC (wN 3)<|aC (w2 gIx (wN 7)<|w1 jg<|wC<|.int<|1) aA)<|aC (aY<|aC (w2 gIx (wN 7)<|wC<|.int<|0)<|aC (w2 gIx (wN 7)<|wC<|.int<|0) aA)<|aC (aY<|aC (w2 gIx (wN 7)<|w1 jg<|wC<|.int<|1)<|aC (w2 gIx (wN 7)<|wC<|.int<|0) aA) aA) (dB 2<|bN (gN 14)<|bN (gN 15) cS)<|aG (aT 11<|ft (wF vH<|aC (wN 5)<|aC (wN 14)<|aC (wC<|.int<|0) aA)<|ft (wF vH<|aC (wN 5)<|aC (wN 15)<|aC (w2 fS (wN 1)<|wC<|.int<|1) aA)<|w2 (gEq true) (w2 gIx (w2 gIx (wN 14)<|wC<|.int<|0)<|wC<|.int<|0)<|wC<|.int<|0)<|cE (wT<|w2 (gEq true) (wF S_paper_good<|aC (wN 4)<|aC (aY<|aC (wC<|D.str<|PySem.Str.ofString "full")<|aC (wN 14)<|aC (wN 15) aA) aA)<|wN 11) (aH<|wC<|D.bl false) cF)<|aG (cE (wT<|w2 (gIsC true) (wF S_paper_good<|aC (wN 4)<|aC (aY<|aC (wC<|D.str<|PySem.Str.ofString "none")<|aC (wN 3) aA) aA)<|wC<|D.bl false) (aH<|wC<|D.bl false) cF)<|aG (D1 16 4 (wF S_paper_of<|aC (wN 4) aA)<|wT<|wB gIs<|aC (w2 gIx (wN 16)<|wC<|.int<|1)<|aC (wC<|.ty "list") aA)<|aH<|w2 (gIsC false) (wF S_paper_good<|aC (wN 4)<|aC (wF S_paper_of<|aC (wN 4) aA) aA)<|wC<|D.bl true)
abbrev Zd3:Qx:=["_law_pen", "_law_size", "_law_number", "_law_slants", "_law_ones", "_law_many", "_law_squares", "_law_found", "_law_kept"]
def Ej:WS:=(aG (dX 1 2<|aC (w2 gAdd (wC<|.int<|1)<|wF lH<|aC (wN 0)<|aC (wC<|.int<|5) aA)<|aC (w2 gAdd (wC<|.int<|1)<|wF lH<|aC (wN 0)<|aC (wC<|.int<|9) aA) aA)<|aG (dX 3 4<|aC (w2 ZcL (aY<|aC (wN 2) aA)<|w2 fS (w2 gMul (wC<|.int<|2)<|wN 1)<|wC<|.int<|1)<|aC (w2 ZcL (aY<|aC (aY<|aC (wC<|.int<|1)<|aC (wC<|.int<|1) aA) aA)<|wN 1) aA)<|aG (bF<|bH (kn<|aC (wC<|.int<|1)<|aC (wC<|.int<|8) aA) (gN 5)<|aG (aT 6<|w2 gMul (wL<|bP<|aC (aY<|aC (wF tE<|aC (wN 2)<|aC (wN 5) aA)<|aC (wN 4) aA) aA)<|wN 5)<|aG (cE (wT<|w2 (gIsC true) (wF S_squares_good<|aC (wN 3)<|aC (wN 6) aA)<|wC<|D.bl true) (aH<|wC<|D.bl false) cF)<|aG (aT 7<|wF tD<|aC (wN 3)<|aC (aY<|aC (wC<|D.str<|PySem.Str.ofString "above")<|aC (wN 6) aA) aA)<|cE (eU (bM<|wT<|wB gIs<|aC (wN 7)<|aC (wC<|.ty "bool") aA)<|wT<|w2 (gEq true) (wN 7)<|ft (w2 (gEq false) (wN 1)<|wC<|.int<|1)<|w2 (gEq false) (wN 5)<|wC<|.int<|1) (aH<|wC<|D.bl false) cF)<|aG (cE (wT<|w2 (gEq true) (wF vF<|aC (wN 3) aA)<|w2 (gEq false) (wN 1)<|wC<|.int<|1) (aH<|wC<|D.bl false) cF)<|aG (D1 8 3 (wF rK<|aC (wN 3) aA)<|wT<|wB gIs<|aC (w2 gIx (wN 8)<|wC<|.int<|1)<|aC (wC<|.ty "list") aA)<|aH<|w2 (gIsC false) (wF tD<|aC (wN 3)<|aC (wF rK<|aC (wN 3) aA) aA)<|wC<|D.bl true)
abbrev Zd2:Qx:=["_law_pen", "_law_size", "_law_half", "_law_slants", "_law_told", "_law_kept", "_law_some", "_law_was"]
def Ek:WS:=(aG (aT 1<|w2 gAdd (wC<|.int<|1)<|wF lH<|aC (wN 0)<|aC (wC<|.int<|4) aA)<|aG (bY 2<|aLC (fb<|aC (wN 1) aA) 1 [0] (gN 0) cC<|w2 fS (wF lH<|aC (wN 1)<|aC (wC<|.int<|19) aA)<|wC<|.int<|9)<|bK 2<|aG (aT 3<|wB je<|aC (w2 gAdd (wN 2)<|w1 gRev<|bX (wN 2) eV<|eC<|w1 jg<|wC<|.int<|1) aA)<|ym 3<|aG (aT 4<|wF uV<|aC (wN 3) aA)<|aG (bY 5<|aB (ig (α:=Unit))<|aC (wN 4) aA)<|aG (bF<|bH (iS<|aY<|aC (wN 4)<|aC (w1 gRev<|wN 4) aA) (gN 6)<|aG (aT 7<|wB Zg2<|aC (wN 6) aA)<|aG (cE (eU (wT<|w2 (gIsC true) (wF S_sign_paper_good<|aC (wN 3)<|aC (wN 6) aA)<|wC<|D.bl true)<|wT<|w2 (gEq true) (wF yg<|aC (wN 3)<|aC (wN 6) aA)<|wF vB<|aC (wN 3) aA) (aH<|wC<|D.bl false) cF)<|cE (wT<|w2 gNeS (wB Zg2<|aC (wN 6) aA)<|wN 7) (aH<|wC<|D.bl false) cF)<|aG (cE (eU (wT<|w2 (gIsC true) (wF S_sign_paper_good<|aC (wN 3)<|aC (bX (wN 4) eV<|eC<|w1 jg<|wC<|.int<|1) aA)<|wC<|D.bl false)<|wT<|w2 (gIsC true) (wF S_sign_paper_good<|aC (wN 3)<|aC (w2 gAdd (wN 4)<|bX (wN 4) eV<|eC<|wC<|.int<|1) aA)<|wC<|D.bl false) (aH<|wC<|D.bl false) cF)<|aG (HZ 4 3 5 .non)<|bK 4<|bK 5<|aH<|ft (w2 (gEq false) (wF uV<|aC (wN 3) aA)<|wN 5)<|w2 (gIsC false) (wF S_sign_paper_good<|aC (wN 3)<|aC (wN 4) aA)<|wC<|D.bl false)
abbrev Zeb:Qx:=["_law_e", "_law_marks"]
def El:WS:=(aG (bY 1<|bP<|aC (wB (gIsX LX MX)<|aC (wN 0)<|aC (wC<|.cls<|PySem.Str.ofString "NoSlants") aA)<|aC (wB (gIsX LX MX)<|aC (wN 0)<|aC (wC<|.cls<|PySem.Str.ofString "NoRow") aA)<|aC (wB (gIsX LX MX)<|aC (wN 0)<|aC (wC<|.cls<|PySem.Str.ofString "NoNumber") aA)<|aC (wB (gIsX LX MX)<|aC (wN 0)<|aC (wC<|.cls<|PySem.Str.ofString "NoLine") aA) aA)<|aG (bY 1<|eD 1<|fM (wN 1)<|wL<|bP<|aC (wB (gIsX LX MX)<|aC (wN 0)<|aC (wC<|.cls<|PySem.Str.ofString "NotEven") aA)<|aC (wB (gIsX LX MX)<|aC (wN 0)<|aC (wC<|.cls<|PySem.Str.ofString "NotFull") aA)<|aC (wB (gIsX LX MX)<|aC (wN 0)<|aC (wC<|.cls<|PySem.Str.ofString "NotStrong") aA)<|aC (wB (gIsX LX MX)<|aC (wN 0)<|aC (wC<|.cls<|PySem.Str.ofString "NoText") aA) aA)<|aG (dL 1<|wB (gIsX LX MX)<|aC (wN 0)<|aC (wC<|.cls<|PySem.Str.ofString "TooGreat") aA)<|aG (cE (fw 1<|eU (bM<|wT<|wB (gIsX LX MX)<|aC (wN 0)<|aC (wC<|.ty "ValueError") aA)<|wT<|w2 (gEq true) (wM CM (wN 1)<|aC (wC<|D.bl true) aA)<|wC<|.int<|1) (aH<|aY<|aC (wC<|D.str<|PySem.Str.ofString "other") aA) cF)<|bK 1<|aH<|aY<|aC (w2 gIx (wL<|bP<|aC (wC<|D.str<|PySem.Str.ofString "slants")<|aC (wC<|D.str<|PySem.Str.ofString "row")<|aC (wC<|D.str<|PySem.Str.ofString "number")<|aC (wC<|D.str<|PySem.Str.ofString "line")<|aC (wC<|D.str<|PySem.Str.ofString "even")<|aC (wC<|D.str<|PySem.Str.ofString "full")<|aC (wC<|D.str<|PySem.Str.ofString "strong")<|aC (wC<|D.str<|PySem.Str.ofString "text")<|aC (wC<|D.str<|PySem.Str.ofString "great") aA)<|wM CN (wN 1)<|aC (wC<|D.bl true) aA) aA)
abbrev ZhC:Qx:=["_law_way", "_law_slants"]
def Em:WS:=(aG (cE (wT<|w2 j9 (wN 0)<|wC<|.int<|4) (aH<|jl [((PySem.Str.ofString "back_of"),AS),((PySem.Str.ofString "two_rows"),AT),((PySem.Str.ofString "share_table"),AU),((PySem.Str.ofString "paper_of"),S_paper_of)] (w2 gIx (wL<|bP<|aC (wC<|.cls<|PySem.Str.ofString "back_of")<|aC (wC<|.cls<|PySem.Str.ofString "two_rows")<|aC (wC<|.cls<|PySem.Str.ofString "share_table")<|aC (wC<|.cls<|PySem.Str.ofString "paper_of") aA)<|wN 0)<|aC (wN 1) aA) cF)<|aG (cE (wT<|w2 j9 (wN 0)<|wC<|.int<|9) (aH<|jl [((PySem.Str.ofString "squares_of"),S_squares_of),((PySem.Str.ofString "step_squares"),yo),((PySem.Str.ofString "steps_weights"),AV),((PySem.Str.ofString "is_above"),vF),((PySem.Str.ofString "above_paper"),rK)] (w2 gIx (wL<|bP<|aC (wC<|.cls<|PySem.Str.ofString "squares_of")<|aC (wC<|.cls<|PySem.Str.ofString "step_squares")<|aC (wC<|.cls<|PySem.Str.ofString "steps_weights")<|aC (wC<|.cls<|PySem.Str.ofString "is_above")<|aC (wC<|.cls<|PySem.Str.ofString "above_paper") aA)<|w2 fS (wN 0)<|wC<|.int<|4)<|aC (wN 1) aA) cF)<|aG (cE (wT<|w2 j9 (wN 0)<|wC<|.int<|11) (aH<|jl [((PySem.Str.ofString "squares_good"),S_squares_good),((PySem.Str.ofString "above_good"),tD)] (w2 gIx (wL<|bP<|aC (wC<|.cls<|PySem.Str.ofString "squares_good")<|aC (wC<|.cls<|PySem.Str.ofString "above_good") aA)<|w2 fS (wN 0)<|wC<|.int<|9)<|aC (wN 1)<|aC (wC D.non) aA) cF)<|aG (cE (wT<|w2 j9 (wN 0)<|wC<|.int<|13) (aH<|jl [((PySem.Str.ofString "part_number"),AW),((PySem.Str.ofString "put_number"),AX)] (w2 gIx (wL<|bP<|aC (wC<|.cls<|PySem.Str.ofString "part_number")<|aC (wC<|.cls<|PySem.Str.ofString "put_number") aA)<|w2 fS (wN 0)<|wC<|.int<|11)<|aC (wN 1)<|aC (wC D.non)<|aC (wC D.non) aA) cF)<|aH<|jl [((PySem.Str.ofString "sign_paper"),uV),((PySem.Str.ofString "signs_of"),vB)] (w2 gIx (wL<|bP<|aC (wC<|.cls<|PySem.Str.ofString "sign_paper")<|aC (wC<|.cls<|PySem.Str.ofString "signs_of") aA)<|w2 fS (wN 0)<|wC<|.int<|13)<|aC (wN 1) aA)
abbrev Zeu:Qx:=["_law_pen", "_law_far", "_law_bad", "_law_good", "_law_thing", "_law_way", "_law_word", "_law_e"]
def En:WS:=(aG (aT 1<|wF lH<|aC (wN 0)<|aC (wC<|.int<|5) aA)<|aG (aT 2<|w2 gIx (wL<|bP<|aC (wC<|.int<|51)<|aC (w1 jg<|wC<|.int<|51)<|aC (wC<|D.bl true)<|aC (wC D.non)<|aC (aY<|aC (wC<|.int<|0) aA)<|aC (wC<|D.str<|PySem.Str.ofString "0")<|aC (w2 Fh (wC<|.int<|10)<|wC<|.int<|30) aA)<|wF lH<|aC (wN 0)<|aC (wC<|.int<|7) aA)<|aG (bY 3<|aLC (fb<|aC (wC<|.int<|5) aA) 1 [0] (gN 0) cC<|wF lH<|aC (wN 1)<|aC (wC<|.int<|9) aA)<|bK 3<|aG (bF<|bH (iS<|wL<|bP<|aC (wC D.non)<|aC (aY<|aC (wC<|.int<|1)<|aC (wC<|.int<|2) aA)<|aC (aY<|aC (wC<|.int<|51) aA)<|aC (aY aA)<|aC (wN 3)<|aC (w2 gIx (wN 3)<|wC<|.int<|0)<|aC (wB je<|aC (w2 gAdd (w2 gAdd (bX (wN 3) eV<|eC<|wN 1)<|wL<|bP<|aC (wN 2) aA)<|bX (wN 3) (eC<|w2 gAdd (wN 1)<|wC<|.int<|1) eV) aA)<|aC (w2 ZcL (aY<|aC (wC<|.int<|0) aA)<|wC<|.int<|11) aA) (gN 4)<|bF<|bH (fb<|aC (wC<|.int<|15) aA) (gN 5)<|aG (aT 6<|aY<|aC (wC<|D.str<|PySem.Str.ofString "told") aA)<|aG (AR LX 7 A6 (aC (wN 5)<|aC (wN 4) aA)<|aT 6<|wF A5<|aC (wN 7) aA)<|cE (wT<|w2 (gEq true) (wN 6)<|aY<|aC (wC<|D.str<|PySem.Str.ofString "slants") aA) (aH<|wC<|D.bl false) cF)<|aH<|wC<|D.bl true)
abbrev Im:Qx:=["_law_script", "_law_cell", "_law_pen"]
def A7:WS:=(aG (bF<|bH (iS<|w2 gAdd (wL<|bP<|aC (wF z7<|aC (wN 0)<|aC (wC<|.int<|0) aA) aA)<|bX (wN 0) (eC<|wC<|.int<|1)<|eC<|wC<|.int<|3) (gN 1)<|aG (aT 2<|wF z8<|aC (wN 1) aA)<|aG (cE (eU (bM<|wT<|wF A4<|aC (wN 2) aA)<|bM<|wT<|wF A2<|aC (wN 2) aA) (aH<|wC<|D.bl false) cF)<|cE (eU (bM<|wT<|wF A3<|aC (wN 2) aA)<|bM<|wT<|wF A1<|aC (wN 2) aA) (aH<|wC<|D.bl false) cF)<|aH<|wC<|D.bl true)
abbrev Io:WS:=z6
abbrev N_one_rows_good:Qx:=G.N_one_rows_good
abbrev ps_one_rows_good:Qx:=G.ps_one_rows_good
abbrev z_one_rows_good:WS:=G.z_one_rows_good
abbrev N_nought_row_good:Qx:=G.N_nought_row_good
abbrev ps_nought_row_good:Qx:=G.ps_nought_row_good
abbrev z_nought_row_good:WS:=G.z_nought_row_good
abbrev N_paper_good:Qx:=G.N_paper_good
abbrev ps_paper_good:Qx:=G.ps_paper_good
abbrev z_paper_good:WS:=G.z_paper_good
section
variable{E:QF}{x z:D}
theorem Eo(h:kd x=true)(e:dM x=false)(q:E "NoSlants"):qs [x] E Q:=xS.err x rfl h (i7 e) q
theorem Ip(h:kd x=true)(e:dM x=false)(q:E "NoSlants"):xN [x] E Q:=xS.err x rfl h (i7 e) q
theorem N4(h:kd x=true)(e:dM x=false)(q:E "NoSlants"):uF [x] E Q:=xS.err x rfl h (i7 e) q
theorem N5(h:kd x=true)(e:dM x=false)(q:E "NoSlants"):uS [x] E Q:=xS.err x rfl h (i7 e) q
theorem N6(h:kd x=true)(e:dM x=false)(q:E "NoSlants"):tu [x] E Q:=xS.err x rfl h (i7 e) q
theorem n1(h:kd x=true)(e:dM x=false)(q:E "NoSlants"):rO [x] E Q:=xS.err x rfl ⟨h,e⟩ rfl q
theorem n2(h:kd x=true)(e:dM x=false)(q:E "NoSlants"):D4 [x,y] E Q:=xS.err (x,y) rfl ⟨h,e⟩ rfl q
theorem n3(h:kd x=true)(e:dM x=false)(q:E "NoSlants"):D5 [x,y,z] E Q:=xS.err (x,y,z) rfl ⟨h,e⟩ rfl q
end
theorem N7:Rd AS Ie ZlT:=by rintro _ E Q ⟨x,rfl,⟨hk,e⟩,q⟩;unfold Ie;walk_at "n";exact Ip hk e q
theorem N8:Rd AT Ig ZjM:=by rintro _ E Q ⟨x,rfl,⟨hk,e⟩,q⟩;unfold Ig;walk_at "n";exact Ip hk e q
theorem N9:Rd D7 Io NZ:=by rintro _ E Q ⟨x,rfl,⟨hk,e⟩,q⟩;unfold Io z6;ext;exact N4 hk e q
theorem Oa:Rd AU Id ZgI:=by rintro _ E Q ⟨x,rfl,⟨hk,e⟩,q⟩;unfold Id;ext;exact n1 hk e q
theorem Ob:Rd yo Ih ZfS:=by rintro _ E Q ⟨x,rfl,⟨hk,e⟩,q⟩;unfold Ih;walk_at "n";exact Eo hk e q
theorem Oc:Rd AV Zf ZfA:=by rintro _ E Q ⟨x,rfl,⟨hk,e⟩,q⟩;unfold Zf;ext;exact n1 hk e q
theorem Od:Rd AW Ii ZgJ:=by rintro _ E Q ⟨⟨x,y,z⟩,rfl,⟨hk,e⟩,q⟩;unfold Ii;walk_at "n";exact xp hk e q
theorem Oe:Rd AX Zh Zhr:=by rintro _ E Q ⟨⟨x,y,z⟩,rfl,⟨hk,e⟩,q⟩;unfold Zh;walk_at "n";exact xp hk e q
theorem Of:Rd S_squares_of Ed Zhp:=by
 rintro ds E Q (⟨⟨s,n⟩,rfl,⟨h,ev⟩,q⟩|⟨x,rfl,⟨hk,e⟩,q⟩)
 rotate_left
 .refine bJ (B.C.own_by (xs:=[]) (ρ':=[.d x,.ow [],.un,.un]) (by rfl) (λP hP=>⟨E8,hP⟩) ?_)
  dsimp only;refine bJ ?_;simp only[bH,iS,wF,aC,aA,wN,eH];exact N6 hk e q
 dsimp only at h ev q;have n5:=h.n5;show Ed E _ [.d<|aL s,.un,.un,.un];unfold Ed;refine bJ<|B.C.own_by (xs:=[]) (ρ':=[.d<|aL s,.ow [],.un,.un]) rfl (λP hP=>⟨E8,hP⟩) ?_;dsimp only;refine bJ ?_;refine B.C.for_seq (xs:=(jN s n).map aE) (λP hP=>?_) ?_
 .ext
  exact yh h ev hP
 have pl:=(AF h ev).len;refine mR (λds ρ=>∃F L s2 s3,ds=List.map aE L/\F++L=jN s n/\ρ=[.d<|aL s,.ow<|((F.filter λr=>!decide (cB s n r r=0)).map<|vE s n).map lM,s2,s3]) ?_ ?_ _ _ ⟨[],jN s n,.un,.un,rfl,rfl,rfl⟩
 .rintro d ds _ ⟨F,L,s2,s3,e,eF,rfl⟩ nx hnx
  cases L with
  |nil=>cases e
  |cons r L=>
  rw[cG]at e;injection e with e1 e2
  subst e1;have mr:r∈jN s n:=by rw[<-eF];simp
  have hr:=HU h ev mr;have Fl:F.length<=5:=by have:=congrArg List.length eF;simp at this;omega
  show aG _ _ _ _ [.d<|aL s,.ow _,.d<|aE r,s3];refine bJ<|cW (d:=aS<|cB s n r r) (ρ':=[.d<|aL s,.ow<|((F.filter λr=>!decide (cB s n r r=0)).map<|vE s n).map lM,.d<|aE r,.d<|aS<|cB s n r r]) rfl (λP hP=>?_) ?_
  .ext
   exact HV h ev hr hP
  dsimp only;refine fh (b:=!decide (cB s n r r=0)) (λP hP=>?_) (λe=>?_) λe=>?_
  .ext
   exact AJ hP
  .have e0:cB s n r r≠0:=by simpa using e
   refine rE (xs:=((F.filter λr=>!decide (cB s n r r=0)).map<|vE s n).map lM) (d:=lM<|vE s n r) (ρ':=[.d<|aL s,.ow<|(((F++[r]).filter λr=>!decide (cB s n r r=0)).map<|vE s n).map lM,.d<|aE r,.d<|aS<|cB s n r r]) rfl (tM (show _<=5 by rw[bQ,bQ];exact jw (List.length_filter_le _ _) Fl)<|E8) ?_ (λP hP=>?_) ?_
   .rw[List.filter_append,List.filter_cons_of_pos<|by rw[e],List.filter_nil,hV,hV]
    rfl
   .ext
    exact CH h hr.len ⟨163,hr.sz,E8⟩<|GC (b:=5*(163+8)+1) E8 (by rw[Gs.tims_len];omega) (Ni h hr.sz) ((DU h hr hr).mono<|E8) e0 ⟨E8,hP⟩
   .exact hnx _ ⟨F++[r],L,_,_,e2,by rw[kP];exact eF,rfl⟩
  .refine hnx _ ⟨F++[r],L,.d<|aE r,.d<|aS<|cB s n r r,e2,by rw[kP];exact eF,?_⟩
   rw[List.filter_append,List.filter_cons_of_neg (by rw[e];decide),List.filter_nil,mZ]
 .rintro _ ⟨F,L,s2,s3,e,eF,rfl⟩
  cases L with
  |cons r L=>cases e
  |nil=>
  rw[mZ]at eF;rw[eF];dsimp only;refine B.C.pub_by (ρ':=[.d<|aL s,.d<|gC<|AK s n,s2,s3]) rfl ?_;ext;exact q
theorem rd_squares_good:Rd S_squares_good Aw Zea:=by rintro ds E Q (q|⟨⟨x,y⟩,rfl,⟨hk,e⟩,q⟩);exact Q0.rd_squares_good ds E Q q;unfold Aw;walk_at "n";exact Eo hk e q
theorem rd_one_rows_good:Rd S_one_rows_good z_one_rows_good N_one_rows_good:=G.rd_one_rows_good
theorem rd_nought_row_good:Rd S_nought_row_good z_nought_row_good N_nought_row_good:=G.rd_nought_row_good
theorem rd_paper_good:Rd S_paper_good z_paper_good N_paper_good:=G.rd_paper_good
theorem rd_paper_of:Rd S_paper_of xX Zg8:=by rintro ds E Q (q|⟨x,rfl,⟨hk,e⟩,q⟩);exact LP.rd_paper_of ds E Q q;unfold xX;walk_at "n";exact N5 hk e q
theorem rd_sign_paper_good:Rd S_sign_paper_good vD Zcz:=by
 rintro ds E Q (q|⟨⟨⟨s,n⟩,xs⟩,rfl,⟨h,ev,hl,h10⟩,q⟩);exact LP.rd_sign_paper_good ds E Q q;dsimp only at h ev hl h10 q;show vD E _ [.d<|aL s,.d<|.lst xs,.un];unfold vD;walk_at "n";refine DT h ev ?_;walk_at "n";refine nu h ?_;refine bJ<|fh (b:=true) (B.C.or_by (b:=false) (c:=true) (λP' h=>?_) λP' h=>?_) (λ_=>?_) λe=>nomatch e
 ext;refine⟨"list",rfl,E8,?_⟩;ext;exact h;ext;have:((xs.length:Int)==(n:Int))=false:=by simpa using λz=>hl E1
 rw[this];exact h;ext;exact q
def Ep:WS:=(aG (dX 2 3<|aC (wB j7<|aC (wN 0) aA)<|aC (wN 1) aA)<|aG (bF<|w8 (AQ<|wN 3)<|dX 2 3<|aC (wN 3)<|aC (w2 re (wN 2)<|wN 3) aA)<|aH<|aY<|aC (w2 iU (wN 0)<|wN 2)<|aC (w2 iU (wN 1)<|wN 2) aA)
theorem Iq{E:QF}{t b:Int}(hb:0<b)(hd:Bd b)(q:Q (aS<|Rat.divInt t b)):Ep E { nx:=λ_=>Q .non,rt:=Q } [.d<|.int t,.d<|.int b,.un,.un]:=by
 have hg:0<Int.gcd t b:=Bw _ E1;have hle:Int.gcd t b<=b.natAbs:=Nat.le_of_dvd E1<|Int.gcd_dvd_natAbs_right ..;obtain⟨e1,e2⟩:=Fq (t:=t) (show b≠0 by omega);rw[jx<|E1]at e1 e2;unfold aS at q;rw[<-e1,<-e2]at q;unfold Ep;walk_at "n";refine⟨λm ρ=>∃x y:Int,m=y.natAbs/\ρ=[.d<|.int t,.d<|.int b,.d<|.int x,.d<|.int y]/\0<=x/\0<=y/\Int.gcd x y=Int.gcd t b,⟨_,_,_,rfl,rfl,by split<;>omega,E1,?_⟩,?_⟩
 rw[LP.abs_if];simp[Int.gcd];rintro m _ ⟨x,y,rfl,rfl,hx,hy,hg'⟩;ext;unfold AQ;ext;refine⟨_,rfl,?_⟩;by_cases hy0:y=0;subst hy0;rw[Int.gcd_zero_right]at hg';have hx':x=((Int.gcd t b:Nat):Int):=E1
 rw[hx'];rw[jx<|E8];exact⟨⟨E1,Bd.le E1 hd⟩,⟨E1,Bd.le E1 hd⟩,E8,q⟩;rw[oI<|by simpa using hy0];exact⟨hy0,_,FU x hy0,_,_,rfl,rfl,hy,BA _<|E1,by rw[FT];exact hg'⟩
theorem Og:Rd tE N1 ZhB:=by rintro _ E Q ⟨⟨t,b⟩,rfl,⟨hb,hd⟩,q⟩;dsimp only at hb hd q;show aG _ Ep E _ [.d<|.int t,.d<|.int b,.un,.un];by_cases h:b<0;refine bJ (fh (b:=true) (λP hP=>?_) (λ_=>?_) λe=>nomatch e);ext;rw[PR h];exact hP;ext;refine Iq E1 ?_ ?_;unfold Bd at hd ⊢;omega;rw[show(0-t:Int) = -t by omega,show(0-b:Int) = -b by omega,Rat.neg_divInt_neg];exact q;refine bJ (fh (b:=false) (λP hP=>?_) (λe=>nomatch e) λ_=>?_);ext;rw[PU h];exact hP;exact Iq E1 hd q
theorem Oh:Rd uX Il Zi5:=by
 rintro _ E Q ⟨⟨p,a,b⟩,rfl,⟨h,n,m,h1,h2,h3,l⟩,q⟩;dsimp only at h h1 h2 h3 q;have pp:((p.den:Nat):Int)≠0:=by exact_mod_cast p.den_nz
 have b1:Bd p.num:=jK h1.1 E1;have b2:Bd (p.den:Int):=jK (show((p.den:Int)).natAbs<2^n from h1.2) E1;have b3:Bd a:=jK h2 E1;have b4:Bd b:=jK h3 E1;unfold Il aS;ext;refine⟨_,aK (j:=0) rfl,_,aK (j:=1) rfl,?_⟩;ext;refine⟨⟨b1,b4⟩,_,aK (j:=0) rfl,_,aK (j:=1) rfl,?_⟩;ext;refine⟨⟨b3,b2⟩,_,aK (j:=1) rfl,_,aK (j:=1) rfl,?_⟩;ext;refine⟨⟨b2,b4⟩,Ea (rZ pp<|E1) ?_ ?_⟩;unfold Bd;rw[ge];refine dN (sd (show((p.den:Int)).natAbs<2^n from h1.2) h3) ?_;rw[<-mf];exact rW E8 E1;have e:Rat.divInt (p.num*b-a*p.den) (p.den*b)=p-Rat.divInt a b:=by have:=Rat.divInt_sub_divInt p.num a pp (show b≠0 by omega);rw[tL]at this;exact this.symm
 rw[e];exact q
theorem Oi:Rd AY N2 Zhz:=FW
theorem Oj:Rd AZ N3 ZhA:=B.rd__law_table_of
theorem Ir{N:Nds}{a b c s3 s4:SV}{T:Rat}(hN:∀s6 s7,N.nx [a,b,c,s3,s4,.d<|aS T,s6,s7]):∀(l:Qv) (r:Qw) (t:Rat) (m:Nat) (s6 s7:SV),(∀x∈l,x.natAbs<2^6)->(∀y∈r,Sz 111 y)->Sz m t->m+120*l.length<=1000->t+cD (cP l) r=T->
  Zbf (dB 2<|bN (gN 6)<|bN (gN 7) cS) (aT 5<|wF uX<|aC (wN 5)<|aC (aY<|aC (w2 fS (wC<|.int<|0)<|w2 gMul (wN 6)<|w2 gIx (wN 7)<|wC<|.int<|0)<|aC (w2 gIx (wN 7)<|wC<|.int<|1) aA) aA) No N (cK (l.map D.int)<|r.map aS) [a,b,c,s3,s4,.d<|aS t,s6,s7]
 |[],r,t,m,s6,s7,_,_,_,_,he=>by
  unfold cP at he;rw[f6,cD,pz]at he;subst he;simp only[cK,f6,List.zipWith_nil_left,Zbf];exact hN _ _
 |x::l,[],t,m,s6,s7,_,_,_,_,he=>by
  unfold cP at he;rw[cG,cD,pz]at he;subst he;simp only[cK,f6,List.zipWith_nil_right,Zbf];exact hN _ _
 |x::l,y::r,t,m,s6,s7,h1,h2,h3,h4,he=>by
  have hx:=h1 x KE;have hy:=h2 y KE;rw[d8]at h4;simp only[cK,cG,Bz,Zbf];refine⟨rfl,?_⟩;simp only[bN,cS,gN,gG,gF];unfold aS;ext;refine⟨_,aK (j:=0) rfl,?_⟩;ext;refine⟨⟨jK hx<|E8,jK hy.1<|E8⟩,_,aK (j:=1) rfl,E8,?_⟩;have yp:(0:Int)<(y.den:Int):=by exact_mod_cast y.den_pos
  have sx:Sz 6 (x:Rat):=Sz.int x E8 hx;have e:t-Rat.divInt (0-x*y.num) y.den=t+(x:Rat)*y:=by
   have e1:Rat.divInt (0-x*y.num) y.den = -((x:Rat)*y):=by
    rw[show(0-x*y.num:Int) = -(x*y.num) by omega,tP,Rat.intCast_neg,iG,hU];have:=tL y;rw[tP,hU]at this;rw[Rat.neg_mul,Rat.mul_assoc,this]
   rw[e1,Rat.sub_eq_add_neg,Rat.neg_neg]
  refine Ic (p:=t) (k:=117) yp h3 ?_ (dN (show((y.den:Int)).natAbs<2^111 from hy.2)<|E8) E1 ?_
  .rw[show(0-x*y.num:Int) = -(x*y.num) by omega,Int.natAbs_neg,ge]
   exact dN (sd hx hy.1) E8
  rw[e];show Zbf _ _ _ _ (cK (l.map D.int)<|r.map aS) _;refine Ir hN l r (t+x*y) (m+118) _ _ (λz hz=>h1 z<|by simp[hz]) (λz hz=>h2 z<|by simp[hz]) ((h3.add<|sx.mul hy).mono<|E1) E1 ?_;unfold cP at he ⊢;rw[cG,cD]at he;rw[Rat.add_assoc];exact he
theorem Ol:Rd vH Eg ZfT:=by
 rintro _ E Q ⟨⟨⟨⟨s,n⟩,r⟩,k⟩,rfl,⟨h,hl,hs⟩,q⟩;dsimp only at h hl hs q;have n5:=h.n5;have tl:=Gs.tims_len (s:=s) (n:=n) r;show Eg E _ [.d<|bD s n,.d<|aE r,.d<|.int k,.un,.un,.un,.un,.un];unfold Eg;refine bJ ?_;simp only[bF];show Zbf _ _ _ _ (dH 0<|(tbl s n).map f8) _;refine DL (λi ρ=>(∃s3 s4 s5 s6 s7,ρ=[.d<|bD s n,.d<|aE r,.d<|.int k,s3,s4,s5,s6,s7])/\∀j,j<i->(bR s n r).getD j 0=(aX n k).getD j 0) _ 0 ?_ ?_ _ ⟨⟨_,_,_,_,_,rfl⟩,λj hj=>E1⟩;rintro i d hd _ ⟨⟨s3,s4,s5,s6,s7,rfl⟩,hi⟩ nx hnx;rw[cV]at hd;obtain⟨hin,rfl⟩:i<n/\d=f8 ((tbl s n).getD i []):=by
  rcases gD i n with g|g
  rw[bE,bZ (show i<(tbl s n).length by rw[kN];exact g)];rw[bZ (show i<(tbl s n).length by rw[kN];exact g)]at hd;exact⟨g,(PY hd).symm⟩;rw[fi (by rw[kN];exact g)]at hd;cases hd
 have mr:(tbl s n).getD i []∈tbl s n:=by rw[bE,bZ (show i<(tbl s n).length by rw[kN];exact hin)];exact i3 _
 have lb:=(B.C.tbl_Sm h).sm _ mr;have ll:=(B.C.tbl_Sm h).row _ mr;refine⟨rfl,?_⟩;simp only[bN,cS,gN,gG,gF];refine bJ<|LP.set_by (d:=aS 0) (ρ':=[.d<|bD s n,.d<|aE r,.d<|.int k,.d<|.int i,.d<|f8<|(tbl s n).getD i [],.d<|aS 0,s6,s7]) KE (λP hP=>⟨E8,hP⟩) ?_;dsimp only;have et:(bR s n r).getD i 0=cD (cP<|(tbl s n).getD i []) r:=by unfold bR;rw[bE,cV,bE,bZ (show i<(tbl s n).length by rw[kN];exact hin)];rfl
 refine bJ ?_;simp only[bF,bH,iZ,aC,aA,wN,eH,fe];show Zbf _ _ _ _ (cK (((tbl s n).getD i []).map D.int)<|r.map aS) _;refine Ir (T:=(bR s n r).getD i 0) (λt6 t7=>?_) _ r 0 1 _ _ lb hs (Sz.zero<|E8) E1 (by rw[Rat.zero_add,et]);have hu:(aX n k).getD i 0=if i=k then 1 else 0:=o7 hin;have tst:∀P:D->Prop,P (.bl (!decide ((bR s n r).getD i 0=(aX n k).getD i 0)))->gEq true (aS<|(bR s n r).getD i 0) (aS<|(aX n k).getD i 0) P:=λP hP=>jh (uB _ _) (uB _ _) (by rw[ve];exact hP);have eu:D.tup [.int (if((i:Int)==(k:Int))=true then 1 else 0),.int 1]=aS ((aX n k).getD i 0):=by rw[hu];by_cases e:i=k;rw[oI (by rw[Qa];omega),oI e];rfl;rw[jx (by rw[Qa];omega),jx e];rfl
 dsimp only;by_cases e:(bR s n r).getD i 0=(aX n k).getD i 0;refine fh (b:=false) (λP hP=>?_) (λe=>nomatch e) λ_=>hnx _ ⟨⟨_,_,_,_,_,rfl⟩,λj hj=>?_⟩;ext;rw[eu];refine⟨E8,tst _ ?_⟩;rw[PR e];exact hP;rcases gD j i with g|g
 exact hi j E1;rw[show j=i by omega];exact e;refine fh (b:=true) (λP hP=>?_) (λ_=>?_) λe=>nomatch e;ext;rw[eu];refine⟨E8,tst _ ?_⟩;rw[PU e];exact hP;ext;rw[PU λz=>e<|by rw[z]]at q;exact q;rintro _ ⟨⟨s3,s4,s5,s6,s7,rfl⟩,hi⟩;rw [PR (vQ (by rw [tl,ku]) λj h1 h2=>by
  have:=hi j (by rw[bQ,kN];omega);rw[bE,bZ h1,bE,bZ h2]at this;exact this)]at q
 ext;exact q
theorem Om:∀ds E Q,A5 ds E Q->El No { nx:=λ_=>Q .non,rt:=Q } (fL Zeb ds):=by
 rintro _ E Q ⟨_,rfl,_,q⟩;unfold El;walk_at "n";have ns:(("NoSlants" : Str))∈LX:=wp
 refine rp ns KE<|rp ns KE (rp ns KE<|rp ns KE ⟨E8,?_⟩);walk_at "n";refine rp ns KE<|rp ns KE (rp ns KE<|rp ns KE ⟨E8,?_⟩);ext;refine⟨E8,?_⟩;refine⟨by simp[sR,j8],?_⟩;walk_at "n";refine rp ns KE ⟨E8,?_⟩;have key:(MX.map (("NoSlants" : Str) == ·)).countP (· == true)=1/\∃j:Nat,(MX.map (("NoSlants" : Str) == ·))[j]? = some true/\(∀i<j,(MX.map (("NoSlants" : Str) == ·))[i]?≠some true)/\[D.str "slants",.str "row",.str "number",.str "line",.str "even",.str "full",.str "strong",.str "text",.str "great"][j]? = some (.str "slants"):=⟨wp,0,wp,wp,rfl⟩
 obtain⟨k1,j,k2,k3,k4⟩:=key;walk_at "n";refine⟨ns,rfl,?_⟩;ext;refine⟨⟨_,rfl⟩,⟨MX.map (("NoSlants" : Str) == ·),true,rfl,rfl,?_⟩⟩;rw[k1];ext;refine⟨E8,⟨_,rfl⟩,MX.map (("NoSlants" : Str) == ·),true,j,rfl,rfl,k2,k3,?_⟩;exact⟨_,aK k4,E8,q⟩
theorem On:Rd A6 Em ZhC:=by
 rintro _ E Q ⟨⟨k,x⟩,rfl,⟨hk,hx,e⟩,q⟩;dsimp only at hk hx e;replace q:E "NoSlants" :=q;show Em E _ [.d<|.int k,.d x];unfold Em;rcases gD k 4 with g|g
 refine bJ (fh (b:=true) (λP hP=>?_) (λ_=>?_) λe=>nomatch e);ext;rw[PR<|E1];exact hP;show 4<=aR/\∃d,eR _ (k:Int)=some d/\_
 match k,g with
 |0,_=>exact⟨E8,_,aK (j:=0) rfl,("back_of",AS),KE,rfl,n1 hx e q⟩|1,_=>exact⟨E8,_,aK (j:=1) rfl,("two_rows",AT),KE,rfl,n1 hx e q⟩|2,_=>exact⟨E8,_,aK (j:=2) rfl,("share_table",AU),KE,rfl,n1 hx e q⟩|3,_=>exact⟨E8,_,aK (j:=3) rfl,("paper_of",S_paper_of),KE,rfl,.inr<|n1 hx e q⟩
 refine bJ<|fh (b:=false) (λP hP=>?_) (λe=>nomatch e) λ_=>?_
 ext;rw[PU<|E1];exact hP;dsimp only;rcases gD k 9 with g2|g2
 refine bJ (fh (b:=true) (λP hP=>?_) (λ_=>?_) λe=>nomatch e);ext;rw[PR<|E1];exact hP;obtain⟨j,rfl⟩:∃j,k=j+4:=⟨k-4,E1⟩;unfold jl;ext;rw[show((j+4:Nat):Int)-4=(j:Int) by omega]
 match j,(show j<5 by omega) with
 |0,_=>exact⟨E8,_,aK (j:=0) rfl,("squares_of",S_squares_of),KE,rfl,.inr<|n1 hx e q⟩|1,_=>exact⟨E8,_,aK (j:=1) rfl,("step_squares",yo),KE,rfl,n1 hx e q⟩|2,_=>exact⟨E8,_,aK (j:=2) rfl,("steps_weights",AV),KE,rfl,n1 hx e q⟩|3,_=>exact⟨E8,_,aK (j:=3) rfl,("is_above",vF),KE,rfl,xS.err x rfl hx (i7 e) q⟩|4,_=>exact⟨E8,_,aK (j:=4) rfl,("above_paper",rK),KE,rfl,xS.err x rfl hx (i7 e) q⟩
 refine bJ<|fh (b:=false) (λP hP=>?_) (λe=>nomatch e) λ_=>?_
 ext;rw[PU<|E1];exact hP;dsimp only;rcases gD k 11 with g2|g2
 refine bJ (fh (b:=true) (λP hP=>?_) (λ_=>?_) λe=>nomatch e);ext;rw[PR<|E1];exact hP;obtain⟨j,rfl⟩:∃j,k=j+9:=⟨k-9,E1⟩;unfold jl;ext;rw[show((j+9:Nat):Int)-9=(j:Int) by omega]
 match j,(show j<2 by omega) with
 |0,_=>exact⟨E8,_,aK (j:=0) rfl,("squares_good",S_squares_good),KE,rfl,.inr<|n2 hx e q⟩|1,_=>exact⟨E8,_,aK (j:=1) rfl,("above_good",tD),KE,rfl,.inr<|n2 hx e q⟩
 refine bJ<|fh (b:=false) (λP hP=>?_) (λe=>nomatch e) λ_=>?_
 ext;rw[PU<|E1];exact hP;dsimp only;rcases gD k 13 with g2|g2
 refine bJ (fh (b:=true) (λP hP=>?_) (λ_=>?_) λe=>nomatch e);ext;rw[PR<|E1];exact hP;obtain⟨j,rfl⟩:∃j,k=j+11:=⟨k-11,E1⟩;unfold jl;ext;rw[show((j+11:Nat):Int)-11=(j:Int) by omega]
 match j,(show j<2 by omega) with
 |0,_=>exact⟨E8,_,aK (j:=0) rfl,("part_number",AW),KE,rfl,n3 hx e q⟩|1,_=>exact⟨E8,_,aK (j:=1) rfl,("put_number",AX),KE,rfl,n3 hx e q⟩
 refine bJ<|fh (b:=false) (λP hP=>?_) (λe=>nomatch e) λ_=>?_
 ext;rw[PU<|E1];exact hP;dsimp only;obtain⟨j,rfl⟩:∃j,k=j+13:=⟨k-13,E1⟩;unfold jl;ext;rw[show((j+13:Nat):Int)-13=(j:Int) by omega]
 match j,(show j<2 by omega) with
 |0,_=>exact⟨E8,_,aK (j:=0) rfl,("sign_paper",uV),KE,rfl,xS.err x rfl hx (i7 e) q⟩|1,_=>exact⟨E8,_,aK (j:=1) rfl,("signs_of",vB),KE,rfl,xS.err x rfl hx (i7 e) q⟩
end B.C.Q0.Q3.Y6
namespace B.C.Q0.Q3.Y6
open LP.G (rr rr_set)
open LP.F4 (T3 T3_rr T3_len rr_ext)
theorem Oo{f:Qy}{a:Nat}(ne:a≠b)(ha:a<n)(hb:b<n)(h:∀j,j<n->j≠a->j≠b->f j=0):aO f n=f a+f b:=by
 have e:aO f n=aO (λj=>(if j=a then f a else 0)-(if j=b then -f b else 0)) n:=gb λj hj=>by by_cases h1:j=a;rw[oI h1,jx<|E1,h1];grind;rw[jx h1];by_cases h2:j=b;rw[oI h2,h2];grind;rw[jx h2,h j hj h1 h2];grind
 rw[e,qv,mU (k:=a) ha λi _ n1=>by rw[jx n1],mU (k:=b) hb λi _ n1=>by rw[jx n1],oI rfl,oI rfl];grind
def Kz(n:Nat)(T:K4):Prop:=∀y:Nat->Rat,(∀i,i<n->aO (λj=>(rr T i).getD j 0*y j) n=0)->∀j,j<n->y j=0
structure Gj(n p:Nat)(T:K4):Prop where
 len:T.length=n
 lf:∀i,i<n->Lf (bq 6 p) (2*n) (rr T i)
 kz:Kz n T
 one:∀i q,i<n->q<p->(rr T i).getD q 0=if i=q then 1 else 0
theorem Gj.piv{p:Nat}{T:K4}(h:Gj n p T)(hp:p<n):∃g,p<=g/\g<n/\(rr T g).getD p 0≠0:=by refine Classical.byContradiction λz=>?_;have h0:∀g,p<=g->g<n->(rr T g).getD p 0=0:=λg h1 h2=>Classical.byContradiction λe=>z ⟨g,h1,h2,e⟩;have:=h.kz (λj=>if j<p then 0-(rr T j).getD p 0 else if j=p then 1 else 0) (λi hi=>?_) p hp;rw[jx<|E1,oI rfl]at this;exact PQ this E8;by_cases c:i<p;rw[Oo (a:=i) (b:=p) E1 hi hp λj hj n1 n2=>?_];rw[oI c,jx<|E1,oI rfl,h.one i i hi c,oI rfl];grind;by_cases d:j<p;rw[h.one i j hi d,jx<|E1,ky];rw[jx d,jx n2,lg];refine rG λj hj=>?_;by_cases d:j<p;rw[h.one i j hi d,jx<|E1,ky];rw[jx d];by_cases e:j=p;rw[e,h0 i E1 hi,ky];rw[jx e,lg]
theorem Iu{a c:Qw}{s:Rat}(h:a.length=c.length):(aZ a s c).getD j 0=a.getD j 0-s*c.getD j 0:=by
 unfold aZ;rw[bE,List.getElem?_zipWith,bE,bE];rcases gD j a.length with g|g
 rw[bZ g,bZ (show j<c.length by omega)];rfl;rw[fi g,fi (show c.length<=j by omega)];show(0:Rat)=0-s*0;grind
theorem Op{a:Qw}{s:Rat}:(kf a s).getD j 0=a.getD j 0/s:=by
 unfold kf;rw[bE,cV,bE (i:=j)];cases a[j]? with
 |none=>show(0:Rat)=0/_;rw[hU,ky]|some x=>rfl
theorem Gj.step{p g:Nat}{T:K4}(h:Gj n p T)(hp:p<n)(h1:p<=g)(h2:g<n)(h3:(rr T g).getD p 0≠0)(l1:T1.length=n)(at1:∀i,i<n->rr T1 i=if i=g then rr T p else if i=p then rr T g else rr T i)(hl:lead=kf (rr T g) ((rr T g).getD p 0)):Gj n (p+1) (T3 T1 p p lead n):=by
 have n2:p<2*n:=E1
 have lfl:Lf (bq 6 p) (2*n) lead:=by rw[hl];exact(h.lf g h2).norm n2 h3
 have lf1:∀i,i<n->Lf (bq 6 p) (2*n) (rr T1 i):=λi hi=>by rw[at1 i hi];split;exact h.lf p hp;split;exact h.lf g h2;exact h.lf i hi
 have e3:∀i,i<n->rr (T3 T1 p p lead n) i=if i=p then lead else aZ (rr T1 i) ((rr T1 i).getD p 0) lead:=λi hi=>by rw[T3_rr<|E1];by_cases z:i=p;rw[oI z,oI z];rw[jx z,jx z,oI hi]
 have la:∀j,lead.getD j 0=(rr T g).getD j 0/(rr T g).getD p 0:=λj=>by rw[hl,Op]
 have ap:rr T1 p=rr T g:=by rw[at1 p hp];by_cases z:p=g;rw[oI z,z];rw[jx z,oI rfl]
 have lep:lead.getD p 0=1:=by rw[la,hU,qB _ h3]
 refine⟨by rw[T3_len];exact l1,λi hi=>?_,λy hy=>?_,λi q hi hq=>?_⟩;rw[e3 i hi];split;exact lfl.mono<|sZ E1
 exact(lf1 i hi).less lfl n2;have s0:aO (λj=>lead.getD j 0*y j) n=0:=by have:=hy p hp;rw[e3 p hp,oI rfl]at this;exact this
 have s1:∀i,i<n->aO (λj=>(rr T1 i).getD j 0*y j) n=0:=λi hi=>by
  by_cases z:i=p;rw[z,ap];have:(λj=>(rr T g).getD j 0*y j)=λj=>(rr T g).getD p 0*(lead.getD j 0*y j):=by funext j;rw[la,hU];have:=qB _ h3;generalize ((rr T g).getD p 0)⁻¹=v at *;grind
  rw[this,sumN_mul,s0,lg];have:=hy i hi;rw[e3 i hi,jx z]at this;have e:(λj=>(aZ (rr T1 i) ((rr T1 i).getD p 0) lead).getD j 0*y j)=λj=>(rr T1 i).getD j 0*y j-(rr T1 i).getD p 0*(lead.getD j 0*y j):=by funext j;rw[Iu<|by rw[(lf1 i hi).len,lfl.len]];grind
  rw[e,qv,sumN_mul,s0]at this;grind
 refine h.kz y λi hi=>?_;by_cases z:i=g;have:=s1 p hp;rw[ap]at this;rw[z];exact this;by_cases w:i=p;have:=s1 g h2;rw[at1 g h2,oI rfl]at this;rw[w];exact this;have:=s1 i hi;rw[at1 i hi,jx z,jx w]at this;exact this;rw[e3 i hi];have one1:∀i q,i<n->q<p->(rr T1 i).getD q 0=if i=q then 1 else 0:=λi q hi hq=>by rw[at1 i hi];by_cases z:i=g;rw[oI z,h.one p q hp hq,jx<|E1,jx<|E1];rw[jx z];by_cases w:i=p;rw[oI w,h.one g q h2 hq,jx<|E1,jx<|E1];rw[jx w,h.one i q hi hq]
 have leq:q<p->lead.getD q 0=0:=λc=>by rw[la,h.one g q h2 c,jx<|E1,hU,ky]
 by_cases z:i=p;rw[oI z];rcases gD q p with c|c
 rw[leq c,jx<|E1];rw[show q=p by omega,lep,oI z];rw[jx z,Iu<|by rw[(lf1 i hi).len,lfl.len]];rcases gD q p with c|c
 rw[leq c,one1 i q hi c];grind;rw[show q=p by omega,lep,jx z];grind
end B.C.Q0.Q3.Y6
namespace B.C.Q0.Q3.Y6
open LP.G (rr rr_set)
open LP.F4 (T3 T3_rr T3_len rr_ext)
theorem rR{R:K4}(h:k<R.length):eR (R.map lq) (k:Int)=some (lq<|rr R k):=by refine aK ?_;rw[cV];unfold rr;rw[bE,bZ h];rfl
def jt(s:Qv)(n i:Nat):Qw:=cP ((List.range n).map λj=>eT s n i j)++aX n i
def uY(s:Qv)(n:Nat):K4:=(List.range n).map<|jt s n
def T4(T1:K4)(p:Nat)(lead:Qw)(F:Qz):K4:=(List.range T1.length).map λi=>if i=p then lead else if i∈F then aZ (rr T1 i) ((rr T1 i).getD p 0) lead else rr T1 i
theorem rS{p:Nat}{F:Qz}:(T4 T1 p lead F).length=T1.length:=by unfold T4;rw[bQ,nb]
theorem vI{p:Nat}{F:Qz}(h:i<T1.length):rr (T4 T1 p lead F) i=if i=p then lead else if i∈F then aZ (rr T1 i) ((rr T1 i).getD p 0) lead else rr T1 i:=by unfold T4;show List.getD _ i []=_;rw[bE,cV,jB h];rfl
theorem Iv(h:i<n):rr (uY s n) i=jt s n i:=by unfold uY;show List.getD _ i []=_;rw[bE,cV,jB h];rfl
theorem Oq(h:j<n):(jt s n i).getD j 0=(eT s n i j:Rat):=by unfold jt cP;rw[bE,lR<|by simpa using h,List.map_map,cV,jB h];rfl
theorem Gj.start(h:IsSl s n)(hz:Nz s n):Gj n 0 (uY s n):=by
 refine⟨by unfold uY;rw[bQ,nb],λi hi=>?_,λy hy j hj=>?_,λi q _ hq=>E1⟩;rw[Iv hi];refine⟨(List.range n).map (λj=>eT s n i j)++(List.range n).map (λj=>if j=i then(1:Int) else 0),1,by simp;omega,E8,E8,λx hx=>?_,?_⟩;rcases Yao.mp hx with hx|hx
 obtain⟨j,hj,rfl⟩:=YbQ.mp hx;refine(B.C.tbl_Sm h).sm ((List.range n).map λj=>eT s n i j) ?_ _<|YbQ.mpr ⟨j,hj,rfl⟩;rw[uK h];exact YbQ.mpr ⟨i,Yah.mpr hi,rfl⟩
 obtain⟨j,_,rfl⟩:=YbQ.mp hx;split<;>decide;unfold jt cP aX;rw[hV,List.map_map,List.map_map,List.map_map];congr 1;exact ir λj _=>by show((eT s n i j:Int):Rat)=Rat.divInt (eT s n i j) 1;rw[tP,show((1:Int):Rat)=1 from rfl];grind
 exact ir λj _=>by show _=Rat.divInt _ 1;by_cases e:j=i<;>simp[e]<;>rfl
 have ly:((List.range n).map y).length=n:=KE
 have gy:∀j,j<n->((List.range n).map y).getD j 0=y j:=λj hj=>by rw[bE,cV,jB hj];rfl
 have:=hz ((List.range n).map y) ly (λr hr=>?_) j hj;rw[gy j hj]at this;exact this;unfold eO at hr;rw[uK h,List.map_map]at hr;obtain⟨i,hi,rfl⟩:=YbQ.mp hr;rw[Yah]at hi;have e:=hy i hi;show cD (cP<|(List.range n).map λj=>eT s n i j) _=0;refine(o6 _ _ n (by unfold cP;simp) ly).trans (Eq.trans (gb λj hj=>?_) e);rw[gy j hj,Iv hi,Oq hj];congr 1;unfold cP;rw[List.map_map,bE,cV,jB hj];rfl
theorem Os:Rd A0 Ef Zi7:=by
 rintro _ E Q ⟨⟨s,n⟩,rfl,⟨h,n4,hz⟩,q⟩;dsimp only at h n4 hz q;have n1:=h.n1;have tl:=kN s n;show Ef E _ [.d<|bD s n,.un,.un,.un,.un,.un,.un,.un,.un];unfold Ef;refine bJ<|LP.set_by (d:=.int n) (ρ':=[.d<|bD s n,.d<|.int n,.un,.un,.un,.un,.un,.un,.un]) (by rfl) (λP hP=>?_) ?_
 .unfold bD
  ext;rw[bQ,tl];exact hP
 dsimp only;refine bJ<|B.C.own_by (xs:=[]) (ρ':=[.d<|bD s n,.d<|.int n,.ow [],.un,.un,.un,.un,.un,.un]) (by rfl) (λP hP=>⟨E8,hP⟩) ?_;dsimp only;refine G.seq_inv (λρ=>∃s3 s4,ρ=[.d<|bD s n,.d<|.int n,.ow<|(uY s n).map lq,s3,s4,.un,.un,.un,.un]) (λnx hnx=>?_) ?_
 .simp only[bF]
  show Zbf _ _ _ _ (dH 0<|(tbl s n).map f8) _;refine DL (λi ρ=>∃s3 s4,ρ=[.d<|bD s n,.d<|.int n,.ow<|((List.range i).map<|jt s n).map lq,s3,s4,.un,.un,.un,.un]) _ 0 ?_ (λρ ⟨s3,s4,e⟩=>hnx _ ⟨s3,s4,by rw[e,bQ,tl,rY];rfl⟩) _ ⟨_,_,rfl⟩;rintro i d hd _ ⟨s3,s4,rfl⟩ nx2 hnx2;have hin:i<n:=by
   rcases gD i n with g|g
   .exact g
   .rw[fi (by rw[bQ,tl];exact g)]at hd;cases hd
  have hd':d=f8 ((List.range n).map λj=>eT s n i j):=by
   rw[uK h,List.map_map,cV,jB hin]at hd;exact(PY hd).symm
  subst hd';refine⟨rfl,?_⟩;rw[rY]at hnx2 ⊢;simp only[bN,cS,gN,gG,gF];refine rE (xs:=((List.range i).map<|jt s n).map lq) (d:=lq<|jt s n i) (ρ':=[.d<|bD s n,.d<|.int n,.ow<|((List.range<|i+1).map<|jt s n).map lq,.d<|.int i,.d<|f8<|(List.range n).map λj=>eT s n i j,.un,.un,.un,.un]) rfl (dN (show _<2000 by rw[bQ,bQ,nb];omega)<|E8) ?_ (λP hP=>?_)<|hnx2 _ ⟨_,_,rfl⟩
  .rw[List.range_succ,hV,hV]
   rfl
  .unfold f8
   ext;rw[List.map_map];refine jj (g:=λj=>D.int<|eT s n i j) (f:=λj=>aS ((eT s n i j:Int):Rat)) (List.range n) (λj hj Q hq=>?_) .un [] (eh (by simp;omega)) ?_
   .ext
    exact⟨E8,hq⟩
   rw[dR];ext;refine⟨E1,E1,?_⟩;rw[jk];refine jj (g:=λj:Nat=>D.int (j:Int)) (f:=λj:Nat=>aS (if j=i then(1:Rat) else 0)) (List.range n) (λj hj Q hq=>?_) .un [] (eh (by simp;omega)) ?_
   .ext
    refine⟨E8,?_⟩
    by_cases z:j=i
    .rw[oI (by rw[Qa];omega)]
     rw[oI z]at hq;exact hq
    .rw[jx (by rw[Qa];omega)]
     rw[jx z]at hq;exact hq
   rw[dR];refine⟨eh (by simp;omega),?_⟩;unfold lq jt cP aX at hP;rw[hV,List.map_map,List.map_map,List.map_map]at hP;exact hP
 rintro _ ⟨s3,s4,rfl⟩;refine B.C.pub_by (ρ':=[.d<|bD s n,.d<|.int n,.ow<|(uY s n).map lq,s3,s4,.un,.un,.un,.un]) rfl ?_;refine bJ ?_;simp only[bF,bH,fb,aC,aA,wN,eH,fe,fW,jA];refine⟨E1,E1,?_⟩;refine Ga (λp ρ=>∃T s3 s4 s5 s6 s7 s8,Gj n p T/\ρ=[.d<|bD s n,.d<|.int n,.ow<|T.map lq,s3,s4,s5,s6,s7,s8]) n ?_ ?_ _ ⟨uY s n,_,_,_,_,_,_,Gj.start h hz,rfl⟩
 rotate_left
 .rintro _ ⟨T,s3,s4,s5,s6,s7,s8,hg,rfl⟩
  dsimp only;refine B.C.pub_by (ρ':=[.d<|bD s n,.d<|.int n,.d<|.lst<|T.map lq,s3,s4,s5,s6,s7,s8]) rfl ?_;ext;have len2:∀r∈T,n<=r.length:=λr hr=>by
   obtain⟨i,hi,e⟩:=Ybt.mp hr;have:=(hg.lf i (by rw[<-hg.len];exact hi)).len;unfold rr at this;rw[bE,bZ hi,vP,e]at this;omega
  refine jj (g:=lq) (f:=λr=>lq<|r.drop n) T (λr hr Q hq=>?_) .un [] (eh (by rw[hg.len,iF];omega)) ?_
  .unfold lq at hq ⊢
   ext;rw[rn (by rw[bQ];exact len2 r hr),<-Ycf];exact hq
  rw[dR];refine q _ ⟨T.map (·.drop n),by rw[List.map_map];rfl,by rw[bQ];exact hg.len,λr hr=>?_⟩;obtain⟨t,ht,rfl⟩:=YbQ.mp hr;obtain⟨i,hi,e⟩:=Ybt.mp ht;have hi':i<n:=by rw[<-hg.len];exact hi
  have lt:=hg.lf i hi';have et:rr T i=t:=by unfold rr;rw[bE,bZ hi];exact e
  rw[et]at lt;refine⟨by rw[m8,lt.len];omega,λy hy=>(lt.sz y<|pA hy).mono ?_⟩;exact jw (sZ (show n<=4 by omega)) E8
 rintro p hp _ ⟨T,s3,s4,s5,s6,s7,s8,hg,rfl⟩ nx hnx;obtain⟨g0,f1,f2,f3⟩:=hg.piv hp;have hT:=hg.len;simp only[gN,gG,gF]
 let gs:=((List.range<|n-p).map (p + ·)).filter λk=>decide ((rr T k).getD p 0≠0)
 refine bJ<|B.C.own_by (xs:=gs.map λ(k:Nat)=>D.int (k:Int)) (ρ':=[.d<|bD s n,.d<|.int n,.ow<|T.map lq,.d<|.int p,s4,.ow<|gs.map λ(k:Nat)=>D.int (k:Int),s6,s7,s8]) (by rfl) (λP hP=>?_) ?_
 .ext
  refine⟨⟨E1,E1,E1,E1⟩,?_⟩;have el:rng (p:Int) ((n:Int)-(p:Int)).toNat=((List.range<|n-p).map (p + ·)).map λ(k:Nat)=>D.int (k:Int):=by
   unfold rng;rw[List.map_map,show((n:Int)-(p:Int)).toNat=n-p by omega];exact ir λk _=>KE
  rw[el];refine Ag (p:=λk=>decide ((rr T k).getD p 0≠0)) _ (λk hk P hP=>?_) .un [] (by simp[aR];omega) ?_
  .obtain⟨k',hk',rfl⟩:=YbQ.mp hk
   rw[Yah]at hk';have rl:=(hg.lf (p+k')<|E1).len;ext;refine⟨_,rR<|E1,?_⟩;unfold lq;ext;refine⟨_,td<|E1,E8,AJ ?_⟩;show P _;simpa using hP
  .rw[dR]
   exact⟨B.C.flats_nats _,hP⟩
 dsimp only;have gmem:∀g,g∈gs↔p<=g/\g<n/\(rr T g).getD p 0≠0:=λg=>by
  show g∈List.filter _ _↔_;rw[Yag,YbQ];constructor
  .rintro⟨⟨k,hk,rfl⟩,h2⟩
   rw[Yah]at hk;exact⟨E1,E1,by simpa using h2⟩
  .rintro⟨h1,h2,h3⟩
   exact⟨⟨g-p,Yah.mpr<|E1,E1⟩,by simpa using h3⟩
 have okg:eZ (.lst<|gs.map λ(k:Nat)=>D.int (k:Int)) 60=true:=zP (n:=59) λd hd=>by
  obtain⟨k,_,rfl⟩:=YbQ.mp hd;exact Ct _ _
 cases eg:gs with
 |nil=>
  have:=(gmem g0).mpr ⟨f1,f2,f3⟩;rw[eg]at this;cases this
 |cons g gs'=>
 obtain⟨g1,g2,g3⟩:=(gmem g).mp (by rw[eg];simp);rw[eg]at okg;clear gmem eg f1 f2 f3;generalize hG:(List.map (λ(k:Nat)=>D.int (k:Int)) (g::gs'))=G;rw[hG]at okg;have hGa:eR G 0=some (.int g):=by rw[<-hG];exact aK (j:=0) rfl
 refine B.C.pub_by (ρ':=[.d<|bD s n,.d<|.int n,.ow<|T.map lq,.d<|.int p,s4,.d<|.lst G,s6,s7,s8]) rfl ?_;refine bJ<|fh (b:=false) (λP hP=>?_) (λe=>nomatch e) λ_=>?_
 .ext
  refine⟨E8,jh okg wp ?_⟩;have:fg (.lst G) (.lst [])=false:=by
   rw[<-hG];unfold fg;rw[cG,pd,pd,PyData.eqv,gY,gY,PyData.eqvAll]
  rw[this];exact hP
 dsimp only;refine B.C.pub_by (ρ':=[.d<|bD s n,.d<|.int n,.ow<|T.map lq,.d<|.int p,s4,.d<|.lst G,s6,s7,s8]) rfl ?_;have hTl:(T.map lq).length=n:=by rw[bQ];exact hT
 refine bJ<|B.C.swap_by (xs:=T.map lq) (x:=lq<|rr T g) (y:=lq<|rr T p) (k1:=p) (k2:=g) rfl (λP hP=>?_) (LP.nm_at rfl) (λP hP=>?_) E1 E1 ?_
 .ext
  exact⟨_,hGa,_,rR (k:=g)<|E1,_,rR (k:=p)<|E1,E8,hP⟩
 .ext
  exact⟨_,hGa,hP⟩
 have eR1:((T.map lq).set p<|lq<|rr T g).set g (lq<|rr T p)=((T.set p<|rr T g).set g<|rr T p).map lq:=by rw[u7,u7]
 generalize hR1:(T.set p<|rr T g).set g (rr T p)=T1 at eR1;have l1:T1.length=n:=by rw[<-hR1,dQ,dQ];exact hT
 have at1:∀i,i<n->rr T1 i=if i=g then rr T p else if i=p then rr T g else rr T i:=λi hi=>by
  rw[<-hR1,rr_set (by rw[dQ];omega)];split
  .rfl
  .rw[rr_set<|E1]
 dsimp only;show aG _ _ _ _ [.d<|bD s n,.d<|.int n,.ow<|((T.map lq).set p<|lq<|rr T g).set g<|lq<|rr T p,.d<|.int p,s4,.d<|.lst G,s6,s7,s8];rw[eR1];clear eR1 hGa okg hG;have ap:rr T1 p=rr T g:=by
  rw[at1 p<|E1]
  by_cases z:p=g
  .rw[oI z,z]
  .rw[jx z,oI rfl]
 have lf1:∀i,i<n->Lf (bq 6 p) (2*n) (rr T1 i):=λi hi=>by
  rw[at1 i hi];split
  .exact hg.lf p hp
  .split
   .exact hg.lf g g2
   .exact hg.lf i hi
 have p2:p<2*n:=E1
 have hbq:bq 6 p<=111:=Q0.bq6 E1;have pv:=lf1 p hp;generalize hq0:(rr T g).getD p 0=q0 at g3;have hq1:(rr T1 p).getD p 0=q0:=by rw[ap,hq0]
 have sq0:Sz (bq 6 p) q0:=by rw[<-hq1];exact(pv.get p2).2
 have piv:=pv.norm (p:=p) p2 (by rw[hq1];exact g3);rw[hq1,ap]at piv;have step:=hg.step hp g1 g2 (by rw[hq0];exact g3) l1 at1 (lead:=kf (rr T g) q0) (by rw[hq0]);generalize hlead:kf (rr T g) q0=lead at piv step;refine bJ<|cW (d:=aS q0) (ρ':=[.d<|bD s n,.d<|.int n,.ow<|T1.map lq,.d<|.int p,s4,.d<|.lst G,.d<|aS q0,s7,s8]) (by rfl) (λP hP=>?_) ?_
 .ext
  refine⟨_,rR (k:=p)<|E1,?_⟩;unfold lq;ext;refine⟨_,td (k:=p) (by rw[pv.len];omega),?_⟩;rw[hq1];exact⟨rfl,hP⟩
 dsimp only;have e40:T4 T1 p lead []=T1.set p lead:=rr_ext (by rw[rS,dQ]) λi hi=>by
  rw[rS]at hi;rw[vI hi,rr_set<|E1];simp
 refine bJ<|Aq (xs:=T1.map lq) (k:=p) (d:=lq lead) (ρ':=[.d<|bD s n,.d<|.int n,.ow<|(T4 T1 p lead []).map lq,.d<|.int p,s4,.d<|.lst G,.d<|aS q0,s7,s8]) rfl (by rw[bQ];omega) ?_ (λP hP=>?_) (LP.nm_at rfl) ?_
 .rw[e40,u7]
  rfl
 .ext
  refine⟨_,rR (k:=p)<|E1,?_⟩;unfold lq;ext;refine jj (g:=aS) (f:=λx=>aS<|x/q0) (rr T1 p) (λx hx Q hq=>?_) .un [] (eh (by rw[pv.len,iF];omega)) ?_
  .exact Go [aS x,aS q0] No Q ⟨(x,q0),rfl,⟨B2.of (pv.sz x hx) sq0<|E1,g3⟩,hq⟩
  .rw[dR]
   unfold lq at hP;rw[<-hlead]at hP;unfold kf at hP;rw[List.map_map,<-ap]at hP;exact hP
 dsimp only
 let os:=(List.range n).filter λj=>!decide (j=p)
 refine B.C.for_seq (xs:=os.map λ(k:Nat)=>D.int (k:Int)) (λP hP=>?_) ?_
 .ext
  refine⟨E1,E1,?_⟩;rw[jk];refine Ag (p:=λj=>!decide (j=p)) (List.range n) (λj hj P hP=>?_) .un [] (eh (by simp;omega)) ?_
  .ext
   rw[show((j:Int)==(p:Int))=decide (j=p) by rw[iD,Qa,PV];omega];exact hP
  .rw[dR]
   exact hP
 refine mR (λds ρ=>∃F L s7 s8,ds=List.map (λ(k:Nat)=>D.int (k:Int)) L/\F++L=os/\ρ=[.d<|bD s n,.d<|.int n,.ow<|(T4 T1 p lead F).map lq,.d<|.int p,s4,.d<|.lst G,.d<|aS q0,s7,s8]) ?_ ?_ _ _ ⟨[],os,_,_,rfl,rfl,rfl⟩
 .rintro d ds _ ⟨F,L,s7,s8,e,eF,rfl⟩ nx2 hnx2
  cases L with
  |nil=>cases e
  |cons j L=>
  rw[cG]at e;injection e with e1 e2
  subst e1;have mj:j∈os:=by rw[<-eF];simp
  obtain⟨jr,jp⟩:=Yag.mp mj;rw[Yah]at jr;have jp:j≠p:=by simpa using jp
  have nF:j∉F:=λz=>by
   have nd:os.Nodup:=List.Pairwise.filter _ List.nodup_range;rw[<-eF]at nd;exact(List.nodup_append.mp nd).2.2 j z j KE rfl
  have t4l:(T4 T1 p lead F).length=n:=by rw[rS];exact l1
  have rj:rr (T4 T1 p lead F) j=rr T1 j:=by rw[vI<|E1,jx jp,jx nF]
  have rk:rr (T4 T1 p lead F) p=lead:=by rw[vI<|E1,oI rfl]
  have lj:=lf1 j jr;have gj:=lj.get (k:=p) p2;generalize ha:(rr T1 j).getD p 0=a at gj;show aG _ _ _ _ [.d<|bD s n,.d<|.int n,.ow<|(T4 T1 p lead F).map lq,.d<|.int p,s4,.d<|.lst G,.d<|aS q0,.d<|.int j,s8];refine bJ<|cW (d:=aS a) (ρ':=[.d<|bD s n,.d<|.int n,.ow<|(T4 T1 p lead F).map lq,.d<|.int p,s4,.d<|.lst G,.d<|aS q0,.d<|.int j,.d<|aS a]) (by rfl) (λP hP=>?_) ?_
  .ext
   refine⟨_,rR (k:=j)<|E1,?_⟩;rw[rj];unfold lq;ext;refine⟨_,td (k:=p) (by rw[lj.len];exact p2),?_⟩;rw[ha];exact⟨rfl,hP⟩
  dsimp only;refine Aq (xs:=(T4 T1 p lead F).map lq) (k:=j) (d:=lq<|aZ (rr T1 j) a lead) (ρ':=[.d<|bD s n,.d<|.int n,.ow<|(T4 T1 p lead<|F++[j]).map lq,.d<|.int p,s4,.d<|.lst G,.d<|aS q0,.d<|.int j,.d<|aS a]) rfl (by rw[bQ];omega) ?_ (λP hP=>?_) (LP.nm_at rfl)<|hnx2 _ ⟨F++[j],L,_,_,e2,by rw[<-eF];simp,rfl⟩
  .have:T4 T1 p lead (F++[j])=(T4 T1 p lead F).set j (aZ (rr T1 j) a lead):=rr_ext (by rw[rS,dQ,rS]) λi hi=>by
    rw[rS]at hi;rw[vI hi,rr_set (by rw[rS];omega),vI hi]
    by_cases z:i=j
    .rw[oI z,z,jx jp,oI<|KE,ha]
    .rw[jx z]
     by_cases y:i=p
     .rw[oI y,oI y]
     .rw[jx y,jx y]
      by_cases c:i∈F
      .rw[oI c,oI<|by simp[c]]
      .rw[jx c,jx<|by simp[c,z]]
   rw[this,u7];rfl
  .ext
   refine⟨_,rR (k:=j)<|E1,_,rR (k:=p)<|E1,?_⟩;rw[rj,rk];unfold lq;ext;refine Dq (f:=λx y=>aS<|x-a*y) (rr T1 j) lead (λx hx y hy Q hq=>?_) .un .un [] (eh (by rw[lj.len,iF];omega)) ?_
   .ext
    exact Zl (B2.of gj.2 (piv.sz y hy)<|E1)<|NU (B2.of (lj.sz x hx) (gj.2.mul<|piv.sz y hy)<|E1) hq
   .rw[dR]
    unfold lq aZ at hP;rw[y0]at hP;exact hP
 .rintro _ ⟨F,L,s7,s8,e,eF,rfl⟩
  obtain rfl:L=[]:=by cases L with
   |nil=>rfl
   |cons j L=>cases e
  rw[mZ]at eF;subst eF;have:T4 T1 p lead os=T3 T1 p p lead n:=rr_ext (by rw[rS,T3_len]) λi hi=>by
   rw[rS]at hi;rw[vI hi,T3_rr hi]
   by_cases z:i=p
   .rw[oI z,oI z]
   .rw[jx z,jx z,oI<|Yag.mpr ⟨Yah.mpr<|E1,by simpa using z⟩,oI<|E1]
  rw[this];exact hnx _ ⟨_,_,_,_,_,_,_,step,rfl⟩
def cs(n a:Nat):Qv:=List.replicate (2*n-1) (a:Int)
def cp(n a m:Nat):List Pr:=List.replicate m (Rat.divInt a m,List.replicate n 1)
def vJ(x:D):D:=.tup [.str "above",x]
def yt(n a m:Nat):Bool:=uT (cs n a) n (gC<|cp n a m)&&(Q2.pG (cs n a) n (vJ<|gC<|cp n a m)==(n==1&&m==1))&&(kd (gC<|cp n a m)&&dG 10 (gC<|cp n a m))
def yu(n a:Nat):Bool:=((lN (cs n a) n).isNone==(n==1))&&Q2.pG (cs n a) n (papD (cs n a) n)&&(kd (papD (cs n a) n)&&dG 10 (papD (cs n a) n))
set_option maxRecDepth 1000000 in
theorem yv:∀n∈[1,2,3,4,5],∀a∈[1,2,3,4,5,6,7,8,9],∀m∈[1,2,3,4,5,6,7],yt n a m=true:=wp
set_option maxRecDepth 1000000 in
theorem yw:∀n∈[1,2,3,4,5],∀a∈[1,2,3,4,5,6,7,8,9],yu n a=true:=wp
theorem yx{a:Nat}(h1:1<=n)(h5:n<=5)(ha:a<=9):IsSl (cs n a) n/\(cs n a).reverse=cs n a:=by refine⟨⟨by unfold cs;rw[lS];omega,h1,h5,λx hx=>?_⟩,by unfold cs;rw[List.reverse_replicate]⟩;rw[(YcY.mp hx).2];omega
theorem Iw{P:Bool->Prop}(h:P false):gIsC true (.bl true) (.bl true) (isB P):=⟨rfl,h⟩
theorem in1(n:Nat):((n:Int)==1)=(n==1):=by rw[iD,Qa,Qa];omega
theorem A8{b:Bool}{P:Bool->Prop}(h:P false):gEq true (.bl b) (.bl b) (isB P):=zO (by cases b<;>decide +kernel) h
theorem Ot:Rd A2 Ej Zd3:=by
 rintro _ E Q ⟨_,rfl,_,q⟩;show Ej E _ [.d .pen,.un,.un,.un,.un,.un,.un,.un,.un];unfold Ej;refine bJ ?_;ext;refine ny E8 E8 λn0 hn0=>?_;ext;refine ny E8 E8 λa0 ha0=>?_;ext;obtain⟨n,en⟩:∃n:Nat,n=n0+1:=⟨_,rfl⟩;obtain⟨a,ea⟩:∃a:Nat,a=a0+1:=⟨_,rfl⟩;rw[show(1+(n0:Int))=(n:Int) by omega,show(1+(a0:Int))=(a:Int) by omega];have n1:1<=n:=E1
 have n5:n<=5:=E1
 have a1:1<=a:=E1
 have a9:a<=9:=E1
 clear en ea hn0 ha0;obtain⟨h,ev⟩:=yx n1 n5 a9;have mn:n∈[1,2,3,4,5]:=by simp;omega
 have ma:a∈[1,2,3,4,5,6,7,8,9]:=by simp;omega
 have tb:=yw n mn a ma;unfold yu at tb;simp only[cX,Qa]at tb;obtain⟨⟨b1,b2⟩,b3,b4⟩:=tb;refine bJ ?_;ext;refine⟨E8,⟨jK (n:=3) E8<|E8,jK (n:=3) E1<|E8⟩,E1,E1,eh<|E1,E8,E8,E1,E1,eh<|E1,?_⟩;rw[qA,qA,show(2*(n:Int)-1).toNat=2*n-1 by omega];have es:D.tup (List.replicate (2*n-1)<|D.int (a:Int))=aL (cs n a):=by unfold aL cs;rw[qz]
 have eo:D.tup (List.replicate n<|D.tup [D.int 1,D.int 1])=aE (List.replicate n 1):=by unfold aE;rw[qz];rfl
 rw[es,eo];refine G.seq_inv (λρ=>∃s5 s6 s7,ρ=[.d .pen,.d<|.int n,.d<|.int a,.d<|aL<|cs n a,.d<|aE<|List.replicate n 1,s5,s6,s7,.un]) (λnx hnx=>?_) ?_;simp only[bF,bH,kn,aC,aA,wC,fW,gR];refine⟨⟨E8,E8,E8,E8⟩,?_⟩;refine mR (λds ρ=>(∀d∈ds,∃m:Nat,d=.int m/\1<=m/\m<=7)/\∃s5 s6 s7,ρ=[.d .pen,.d<|.int n,.d<|.int a,.d<|aL<|cs n a,.d<|aE<|List.replicate n 1,s5,s6,s7,.un]) ?_ (λρ ⟨_,e⟩=>hnx ρ e) _ _ ⟨λd hd=>?_,_,_,_,rfl⟩;rintro d ds _ ⟨hds,s5,s6,s7,rfl⟩ nx2 hnx2;obtain⟨m,rfl,m1,m7⟩:=hds d KE;have hn2:∀s5 s6 s7,nx2 [.d .pen,.d<|.int n,.d<|.int a,.d<|aL<|cs n a,.d<|aE<|List.replicate n 1,s5,s6,s7,.un]:=λs5 s6 s7=>hnx2 _ ⟨λd hd=>hds d<|by simp[hd],_,_,_,rfl⟩;have ta:=yv n mn a ma m (by simp;omega);unfold yt at ta;simp only[cX,Qa]at ta;obtain⟨⟨c1,c2⟩,c3,c4⟩:=ta;show aG _ _ _ _ [.d .pen,.d<|.int n,.d<|.int a,.d<|aL<|cs n a,.d<|aE<|List.replicate n 1,.d<|.int m,s6,s7,.un];refine bJ<|cW (d:=gC<|cp n a m) (ρ':=[.d .pen,.d<|.int n,.d<|.int a,.d<|aL<|cs n a,.d<|aE<|List.replicate n 1,.d<|.int m,.d<|gC<|cp n a m,s7,.un]) rfl (λP hP=>?_) ?_
 ext;refine Ea E1 (jK (n:=3) E1<|E8) ?_;ext;refine⟨E8,E8,E1,E1,eh<|E1,?_⟩;rw[qA];unfold gC cp at hP;rw[qz]at hP;exact hP;dsimp only;refine bJ<|fh (b:=false) (λP hP=>?_) (λe=>nomatch e) λ_=>?_
 ext;refine .inl<|xS.ok ((10,(cs n a,n)),gC<|cp n a m) rfl ⟨h,c3,c4,?_⟩ (v:=.bl true) ?_ ?_
 intro xs _ hl;unfold xT;show 7+(3*10+1)*xs.length+3*10<8990;omega;show xR (cs n a) n (gC<|cp n a m)=_;unfold xR;rw[oI ev,c1];exact Iw hP;dsimp only;refine bJ<|cW (d:=.bl (n==1&&m==1)) (ρ':=[.d .pen,.d<|.int n,.d<|.int a,.d<|aL<|cs n a,.d<|aE<|List.replicate n 1,.d<|.int m,.d<|gC<|cp n a m,.d<|.bl (n==1&&m==1),.un]) rfl (λP hP=>?_) ?_
 ext;refine⟨E8,.inl<|xS.ok ((cs n a,n),vJ<|gC<|cp n a m) rfl ⟨h,?_⟩ (v:=.bl (n==1&&m==1)) ?_ hP⟩;refine⟨?_,?_,λa b e=>?_⟩;unfold vJ;rw[kd,kM,kM,kM,c3];rfl;unfold vJ;rw[dG,dE,dE,dE,c4];rfl;unfold vJ at e;injection e with e
 injection e with e _
 rw[<-e];decide +kernel;show Q2.abR (cs n a) n (vJ<|gC<|cp n a m)=_;unfold Q2.abR;rw[oI ev,c2];dsimp only;refine fh (b:=false) (λP hP=>?_) (λe=>nomatch e) λ_=>hn2 _ _ _;ext;refine⟨"bool",rfl,E8,?_⟩;ext;rw[in1 n,in1 m];cases n==1;exact A8 hP;rw[i4];exact A8 hP;unfold rng at hd;obtain⟨k,hk,rfl⟩:=YbQ.mp hd;rw[Yah]at hk;exact⟨k+1,by congr 1;omega,E1,E1⟩;rintro _ ⟨s5,s6,s7,rfl⟩;have ia:=yj h ev;rw[b1]at ia;have mk1:∀{Q:QH},Q (.bl<|n==1)->vF [aL<|cs n a] E Q:=λq=>xS.ok (aL<|cs n a) rfl h.kd ia q;have mk2:∀{E:QF} {Q:QH},Q (papD (cs n a) n)->rK [aL<|cs n a] E Q:=λq=>xS.ok (aL<|cs n a) rfl h.kd (HR h ev) q;refine bJ<|fh (b:=false) (λP hP=>?_) (λe=>nomatch e) λ_=>?_
 ext;refine mk1 ?_;rw[in1 n];exact A8 hP;dsimp only;have ag:∀ {E:QF} {Q:QH},Q (.bl true)->tD [aL<|cs n a,papD (cs n a) n] E Q:=λq=>.inl<|xS.ok ((cs n a,n),papD (cs n a) n) rfl ⟨h,b3,b4,λx y e=>by
  unfold papD at e;split at e<;>(injection e with e;injection e with e _;rw[<-e];decide +kernel)⟩ (v:=.bl true) (by show Q2.abR (cs n a) n (papD (cs n a) n)=_;unfold Q2.abR;rw[oI ev,b2]) q
 refine bJ ?_;refine⟨(cs n a).map .int,rfl,λd hd=>by obtain⟨k,_,rfl⟩:=YbQ.mp hd;exact⟨k,rfl⟩,E8,by show 8<9;decide,?_⟩;refine mk2 ?_;have fin:aH (w2 (gIsC false) (wF tD<|aC (wN 3)<|aC (wF rK<|aC (wN 3) aA) aA)<|wC<|D.bl true) E { nx:=λ_=>Q .non,rt:=Q } [.d .pen,.d<|.int n,.d<|.int a,.d<|aL<|cs n a,.d<|aE<|List.replicate n 1,s5,s6,s7,.un]:=by ext;refine mk2 ?_;refine ag ⟨rfl,?_⟩;exact q
 unfold papD at b3 ⊢;cases e:lN (cs n a) n with
 |some r=>refine⟨_,_,rfl,?_⟩;show∃d,eR _ 1=some d/\_;refine⟨_,aK (j:=1) rfl, "tuple",rfl,E8,?_⟩;exact⟨λ(z:(false:Bool)=true)=>Bool.noConfusion z,fin⟩|none=>rw[e]at b3;refine⟨_,_,rfl,?_⟩;show∃d,eR _ 1=some d/\_;refine⟨_,aK (j:=1) rfl, "list",rfl,E8,?_⟩;refine⟨λ_=>⟨_,rfl,?_⟩,fin⟩;dsimp only at b3;rw[kd,kM,kM,kM]at b3;simp only[cX]at b3;have:=(zQ b3.2.2.1).1;exact tM this E8
theorem Pa.rev(h:IsSl s n)(ev:s.reverse=s)(p:Pa s n P):Pa s n P.reverse:=by refine⟨by rw[rV];exact p.len,λr hr=>p.lf r<|Ycn.mp hr,?_,λx lx hx=>p.fu x lx λr hr=>hx r<|Ycn.mpr hr⟩;rw[List.pairwise_reverse];refine List.Pairwise.imp_of_mem (λ{u v} hu hv e=>?_) p.ap;rw[yc h ev (p.lf v hv).len (p.lf u hu).len];exact e
theorem Ou(P:K4):qw s n P.reverse=qw s n P:=by unfold qw tm vA;rw[List.filter_reverse,List.filter_reverse,rV,rV,rV]
theorem Pa.pq(h:IsSl s n)(ev:s.reverse=s)(p:Pa s n P):Pq0 s n P:=Pq0.of h ev p.len λr hr=>(p.lf r hr).mono E8
section
variable{E:QF}
theorem yy(h:IsSl s n)(ev:s.reverse=s)(p:Pa s n P)(q:Q (.bl true)):S_sign_paper_good [aL s,aM P] E Q:=.inl<|HD (Pa.pq h ev p) (by rw[PR ⟨by rw[p.ind h,p.len],p.ap⟩];exact q)
theorem Er(h:IsSl s n)(ev:s.reverse=s)(hl:xs.length≠n)(h10:xs.length<=10)(q:Q (.bl false)):S_sign_paper_good [aL s,.lst xs] E Q:=.inr ⟨((s,n),xs),rfl,⟨h,ev,hl,h10⟩,q⟩
end
theorem Es(xs:QG):bW xs none (some (-1))=xs.dropLast:=by
 have:bW xs none (some (-1))=xs.take (xs.length-1):=by
  unfold bW;have:HT.sIx xs.length xs.length (some (-1))=xs.length-1:=by show(if(-1:Int)<0 then((-1:Int)+(xs.length:Int)).toNat else min (-1:Int).toNat xs.length)=_;rw[oI<|E8];omega
  rw[this,HT.sIx_none,tI,Nat.sub_zero]
 rw[this,List.dropLast_eq_take]
theorem rT{E:QF}(hw:∀P:D->Prop,P (.tup xs)->w E ρ P)(h:Zbf g zb E N xs ρ):bH (iS w) g zb E N ρ:=hw _ h
theorem Et{P:Bool->Prop}(h:P false):gIsC true (.bl false) (.bl false) (isB P):=⟨rfl,h⟩
theorem Ov(p:Pa s n P):eZ (aM P) 60=true:=zP (n:=59) λx hx=>by obtain⟨r,_,rfl⟩:=YbQ.mp hx;exact rf r 57
theorem Ix(p:Pa s n P):∀x∈P.map aE,AM x:=λx hx=>by obtain⟨r,_,rfl⟩:=YbQ.mp hx;exact⟨r.map aS,rfl,λy hy=>by obtain⟨q,_,rfl⟩:=YbQ.mp hy;exact⟨q.num,q.den,rfl⟩⟩
theorem Ow(d:Qv)(x:Int)(hd:d.length<=4)(hb:∀y∈d++[x],-50<=y/\y<=50):IsSl (d++[x]++d.reverse) (d.length+1)/\(d++[x]++d.reverse).reverse=d++[x]++d.reverse:=by
 refine⟨⟨by simp;omega,E1,E1,λy hy=>?_⟩,KE⟩;rcases Yao.mp hy with hy|hy
 exact hb y hy;exact hb y<|yG _ (Ycn.mp hy)
theorem Ox:Rd A3 Ek Zd2:=by
 rintro _ E Q ⟨_,rfl,_,q⟩;show Ek E _ [.d .pen,.un,.un,.un,.un,.un,.un,.un];unfold Ek;refine bJ ?_;ext;refine ny E8 E8 λn0 hn0=>?_;ext;obtain⟨n,en⟩:∃n:Nat,n=n0+1:=⟨_,rfl⟩;rw[show(1+(n0:Int))=(n:Int) by omega];have n1:1<=n:=E1
 have n4:n<=4:=E1
 clear en hn0;refine bJ<|B.C.own_rl (λxs=>∃c:Qv,xs=c.map .int/\c.length=n/\∀y∈c,-50<=y/\y<=50) (λP hP=>?_) ?_
 ext;refine⟨E1,E1,?_⟩;refine zM (R:=λ_ y=>∃k:Int,y=.int k/\-50<=k/\k<=50) (λd hd Q hq=>?_) .un [] (by unfold rng;simp[aR];omega) λys hl hy=>?_;ext;refine ny E8 E8 λk hk=>?_;ext;exact hq _ ⟨_,rfl,E1,E1⟩;rw[dR];have ll:ys.length=n:=by rw[hl];unfold rng;simp
 refine hP _ ⟨ys.map uE,?_,by rw[bQ];exact ll,λy hy'=>?_⟩;rw[List.map_map];refine(tK _).symm.trans<|ir λy hy'=>?_;obtain⟨_,_,k,rfl,_⟩:=hy y hy';rfl
 obtain⟨z,hz,rfl⟩:=YbQ.mp hy';obtain⟨_,_,k,rfl,h1,h2⟩:=hy z hz;exact⟨h1,h2⟩;rintro _ ⟨c,rfl,cl,cb⟩;obtain⟨d,x,rfl⟩:∃d x,c=d++[x]:=⟨_,_,(EK (λz=>by rw[z]at cl;simp at cl;omega)).symm⟩;have dl:d.length+1=n:=by simpa using cl
 obtain⟨h,ev⟩:=Ow d x E1 cb;rw[dl]at h;dsimp only;refine B.C.pub_by (ρ':=[.d .pen,.d<|.int n,.d<|.lst<|(d++[x]).map .int,.un,.un,.un,.un,.un]) rfl ?_;generalize es:d++[x]++d.reverse=s at h ev;refine bJ<|cW (d:=aL s) (ρ':=[.d .pen,.d<|.int n,.d<|.lst<|(d++[x]).map .int,.d<|aL s,.un,.un,.un,.un]) rfl (λP hP=>?_) ?_
 ext;rw[Es,hV,List.map_singleton,List.dropLast_concat];refine⟨eh (by simp;omega),?_⟩;unfold aL at hP;rw[<-es,hV,hV,tN]at hP;exact hP;dsimp only;refine⟨s.map .int,rfl,λy hy=>by obtain⟨k,_,rfl⟩:=YbQ.mp hy;exact⟨k,rfl⟩,?_⟩;show aG _ _ _ _ [.un,.un,.un,.d<|aL s,.un,.un,.un,.un];have pa:=AF h ev;refine bJ<|cW (d:=aM<|jN s n) (ρ':=[.un,.un,.un,.d<|aL s,.d<|aM<|jN s n,.un,.un,.un]) rfl (λP hP=>?_) ?_
 ext;exact yh h ev hP;dsimp only;have pr:=Pa.rev h ev pa;generalize hP:jN s n=P at pa pr;have pl:=pa.len;have b1:∀X,Pa s n X->B.C.bx 7 (aM X) 3=true:=λX px=>F4.bx_rows (by rw[px.len];omega) λr hr=>⟨by rw[(px.lf r hr).len];omega,λy hy=>((px.lf r hr).sz y hy).mono<|E8⟩;refine bJ<|B.C.own_by (xs:=P.map aE) (ρ':=[.un,.un,.un,.d<|aL s,.d<|aM P,.ow<|P.map aE,.un,.un]) rfl (λP0 h0=>?_) ?_
 unfold aM;ext;exact h0;dsimp only;refine G.seq_inv (λρ=>∃s6 s7,ρ=[.un,.un,.un,.d<|aL s,.d<|aM P,.ow<|P.map aE,s6,s7]) (λnx hnx=>?_) ?_;simp only[bF];refine rT (xs:=[aM P,aM P.reverse]) (λP0 h0=>?_) ?_;have er:D.lst (P.map aE).reverse=aM P.reverse:=by unfold aM;rw[tN]
 rw[<-er]at h0;unfold aM at h0 ⊢;ext;exact⟨E8,h0⟩;refine mR (λds ρ=>(∀d∈ds,∃X,d=aM X/\Pa s n X/\qw s n X=qw s n P)/\∃s6 s7,ρ=[.un,.un,.un,.d<|aL s,.d<|aM P,.ow<|P.map aE,s6,s7]) ?_ (λρ ⟨_,e⟩=>hnx ρ e) _ _ ⟨λd hd=>?_,_,_,rfl⟩;rintro d' ds _ ⟨hds,s6,s7,rfl⟩ nx2 hnx2;obtain⟨X,rfl,px,eX⟩:=hds d' KE;have rX:∀{Q:QH},Q (.str<|rz<|aM X)->Zg2 [aM X] Q:=λq=>B.C.repr_bx (b1 X px) (F4.noD_rows X) q;show aG _ _ _ _ [.un,.un,.un,.d<|aL s,.d<|aM P,.ow<|P.map aE,.d<|aM X,s7];refine bJ<|cW (d:=.str<|rz<|aM X) (ρ':=[.un,.un,.un,.d<|aL s,.d<|aM P,.ow<|P.map aE,.d<|aM X,.d<|.str<|rz<|aM X]) rfl (λP0 h0=>?_) ?_
 ext;exact rX h0;dsimp only;refine bJ<|fh (b:=false) (B.C.or_by (b:=false) (c:=false) (λP' h'=>?_) λP' h'=>?_) (λe=>nomatch e) λ_=>?_
 ext;exact yy h ev px<|Iw h'
 ext;refine HE (Pa.pq h ev px) (by rw[px.ind h,px.len]) px.ap<|Nt h ev ?_;rw[eX,hP];exact zO (by unfold qw;rfl) h'
 dsimp only;refine fh (b:=false) (λP' h'=>?_) (λe=>nomatch e) λ_=>hnx2 _ ⟨λd hd=>hds d<|by simp[hd],_,_,rfl⟩;ext;exact rX<|Gc h'
 simp only[Yan,hJ,or_false]at hd;rcases hd with rfl|rfl
 exact⟨P,rfl,pa,rfl⟩;exact⟨P.reverse,rfl,pr,Ou P⟩;rintro _ ⟨s6,s7,rfl⟩;refine bJ<|fh (b:=false) (B.C.or_by (b:=false) (c:=false) (λP' h'=>?_) λP' h'=>?_) (λe=>nomatch e) λ_=>?_
 unfold aM;ext;rw[Es];exact Er h ev (by rw[List.length_dropLast,bQ];omega) (by rw[List.length_dropLast,bQ];omega)<|Et h'
 unfold aM;ext;rw[xy (i:=1) (b:=1) rfl];refine⟨eh (by simp;omega),?_⟩;exact Er h ev (by simp;omega) (by simp;omega)<|Et h'
 dsimp only;refine bJ ?_;refine⟨P.map aE,s.map .int,P.map aE,rfl,rfl,rfl,Ix pa,λy hy=>?_,Ix pa,eh (by rw[bQ];omega),E8,E8,E8,?_⟩;obtain⟨k,_,rfl⟩:=YbQ.mp hy;exact⟨k,rfl⟩;dsimp only;refine B.C.pub_by (ρ':=[.un,.un,.un,.d<|aL s,.d<|.lst<|P.map aE++[.non],.ow<|P.map aE,.un,.un]) rfl ?_;refine B.C.pub_by (ρ':=[.un,.un,.un,.d<|aL s,.d<|.lst<|P.map aE++[.non],.d<|.lst<|P.map aE,.un,.un]) rfl ?_;ext;refine yh h ev ?_;rw[hP];refine zO (x:=aM P) (Ov pa) ?_;ext;refine Er h ev (by simp;omega) (by simp;omega) ⟨rfl,⟨_,rfl⟩,?_⟩;exact q
structure Dm(s:Qv)(n:Nat):Prop where
 sl:IsSl s n
 n4:n<=4
 mid:∀i,i<n->19<=eT s n i i
 off:∀i j,i<n->j<n->i≠j->-6<=eT s n i j/\eT s n i j<=6
theorem Iy(f:Qy):∀n,0<n->∃m,m<n/\∀j,j<n->f j<=f m
 |0,h=>PQ h E8|1,_=>⟨0,E8,λj hj=>by rw[show j=0 by omega];exact Rat.le_refl⟩
 |n+2,_=>by
  obtain⟨m,hm,h⟩:=Iy f (n+1) E1;by_cases c:f (n+1)<=f m;exact ⟨m,E1,λj hj=>by
   rcases gD j (n+1) with g|g
   .exact h j g
   .rw[show j=n+1 by omega];exact c⟩
  refine⟨n+1,E1,λj hj=>?_⟩;rcases gD j (n+1) with g|g
  have:=h j g;grind;rw[show j=n+1 by omega];exact Rat.le_refl
def ab(x:Rat):Rat:=if x<0 then -x else x
theorem yz(x:Rat):0<=ab x:=by unfold ab;split<;>grind
theorem yA{x:Rat}:x<=ab x/\-ab x<=x:=by unfold ab;split<;>grind
theorem Eu{x:Rat}(h:ab x<=0):x=0:=by unfold ab at h;split at h<;>grind
theorem yB(x:Rat):ab x=x\/ab x = -x:=by unfold ab;split<;>grind
theorem Iz{f:Qy}{b:Rat}:∀{n:Nat},(∀j,j<n->f j<=b)->aO f n<=(n:Rat)*b
 |0,_=>by show(0:Rat)<=((0:Nat):Rat)*b;grind|n+1,h=>by have:=Iz (n:=n) λj hj=>h j E1;have h1:=h n E1;show aO f n+f n<=((n+1:Nat):Rat)*b;rw[show((n+1:Nat):Rat)=(n:Rat)+1 by norm_cast];grind
theorem Zs{e y b:Rat}(h1:-6<=e)(h2:e<=6)(h3:y<=b)(h4:-b<=y):e*y<=6*b/\-(6*b)<=e*y:=by
 have b0:0<=b:=by grind
 rcases Rat.le_total (a:=0) (b:=e) with c|c
 have a1:=y8 h3 c;have a2:=y8 h4 c;have a3:=y9 h2 b0;constructor<;>grind;have c':0<=-e:=by grind
 have a1:=y8 h3 c';have a2:=y8 h4 c';have a3:=y9 (show -e<=6 by grind) b0;constructor<;>grind
theorem Oy{y:Qw}(h:IsSl s n)(ly:y.length=n)(h0:∀r∈eO s n,cD r y=0)(hm:m<n):aO (λj=>(eT s n m j:Rat)*y.getD j 0) n=0:=by
 have e:=h0 (cP<|(List.range n).map λj=>eT s n m j) (by
  unfold eO;rw[uK h];exact YbQ.mpr ⟨_,YbQ.mpr ⟨m,Yah.mpr hm,rfl⟩,rfl⟩)
 rw[o6 _ _ n (by unfold cP;simp) ly]at e;refine Eq.trans (gb λj hj=>?_) e;congr 1;unfold cP;rw[List.map_map,bE,cV,jB hj];rfl
theorem Dm.nz(h:Dm s n):Nz s n:=by
 intro y ly h0 t ht;obtain⟨m,hm,hx⟩:=Iy (λj=>ab<|y.getD j 0) n E1;have e0:=Oy h.sl ly h0 hm;generalize hb:ab (y.getD m 0)=b at hx;have b0:0<=b:=by rw[<-hb];exact yz _
 obtain⟨e,he,hy⟩:∃e:Rat,(e=1\/e = -1)/\e*y.getD m 0 = -b:=by
  rcases yB (y.getD m 0) with z|z
  exact⟨-1,.inr rfl,by rw[<-hb,z];grind⟩;exact⟨1,.inl rfl,by rw[<-hb,z];grind⟩
 have key:aO (λj=>e*((eT s n m j:Rat)*y.getD j 0)-if j=m then -(25*b) else 0) n<=(n:Rat)*(6*b):=by
  refine Iz λj hj=>?_;by_cases z:j=m;rw[oI z,z];have m1:=h.mid m hm;have m2:(19:Rat)<=(eT s n m m:Rat):=by exact_mod_cast m1
  have m3:=y9 m2 b0;have m4:e*((eT s n m m:Rat)*y.getD m 0)=(eT s n m m:Rat)*(e*y.getD m 0):=by grind
  rw[m4,hy];grind;rw[jx z];obtain⟨o1,o2⟩:=h.off m j hm hj<|λw=>z w.symm;have q1:(-6:Rat)<=(eT s n m j:Rat):=by rw[show(-6:Rat)=((-6:Int):Rat) from rfl];exact Rat.intCast_le_intCast.mpr o1
  have q2:(eT s n m j:Rat)<=6:=by exact_mod_cast o2
  have:=hx j hj;obtain⟨l1,l2⟩:=yA (x:=y.getD j 0);obtain⟨r1,r2⟩:=Zs q1 q2 (y:=y.getD j 0) (b:=b) (by grind) (by grind);rcases he with rfl|rfl<;>grind
 rw[qv,Dt.sumN_mul,e0,mU (k:=m) hm λi _ ne=>by rw[jx ne],oI rfl]at key;have n4:=h.n4;have nr:(n:Rat)<=4:=by exact_mod_cast n4
 have:=y9 nr (show(0:Rat)<=6*b by grind);have bz:b<=0:=by grind
 exact Eu (by have:=hx t ht;grind)
theorem Dm.of{c:Qv}(n1:1<=n)(n4:n<=4)(cl:c.length=2*n-1)(cb:∀y∈c,-6<=y/\y<=6):Dm (c.set (n-1)<|c.getD (n-1) 0+25) n:=by
 have cg:∀j,j<2*n-1->-6<=c.getD j 0/\c.getD j 0<=6:=λj hj=>by rw[bE,bZ<|E1];exact cb _<|i3 _
 have sg:∀j,j<2*n-1->(c.set (n-1)<|c.getD (n-1) 0+25).getD j 0=if j=n-1 then c.getD (n-1) 0+25 else c.getD j 0:=λj hj=>by rw[bE,BD];by_cases z:n-1=j;rw[oI z,oI<|E1,oI z.symm];rfl;rw[jx z,jx<|λw=>z w.symm,<-bE]
 refine⟨⟨by rw[dQ];omega,n1,E1,λx hx=>?_⟩,n4,λi hi=>?_,λi j hi hj ne=>?_⟩;rcases List.mem_or_eq_of_mem_set hx with hx|rfl
 have:=cb x hx;omega;have:=cg (n-1) E1;omega;unfold eT;rw[show n-1-i+i=n-1 by omega,sg _<|E1,oI rfl];have:=cg (n-1) E1;omega;unfold eT;rw[sg _<|E1,jx<|E1];exact cg _ E1
theorem Oz{P:QG->Prop}{R:Int->Prop}(h:∀y∈ys,∃k:Int,y=.int k/\R k):∃c:Qv,ys=c.map .int/\c.length=ys.length/\∀k∈c,R k:=by
 refine⟨ys.map uE,?_,by rw[bQ],λk hk=>?_⟩;rw[List.map_map];refine(tK _).symm.trans<|ir λy hy=>?_;obtain⟨k,rfl,_⟩:=h y hy;rfl
 obtain⟨y,hy,rfl⟩:=YbQ.mp hk;obtain⟨k,rfl,r⟩:=h y hy;exact r
theorem IC{b:Nat}:∀{ys:QG},(∀y∈ys,∃q:Rat,y=aS q/\Sz b q)->∃r:Qw,ys=r.map aS/\r.length=ys.length/\∀q∈r,Sz b q
 |[],_=>⟨[],rfl,rfl,λ_ h=>nomatch h⟩
 |y::ys,h=>by
  obtain⟨q,rfl,hq⟩:=h y KE;obtain⟨r,rfl,hl,hr⟩:=IC (b:=b) (ys:=ys) λz hz=>h z (by simp[hz]);refine⟨q::r,rfl,KE,λz hz=>?_⟩;rcases Yan.mp hz with rfl|hz
  exact hq;exact hr z hz
def Rs(n:Nat)(X:K4):Prop:=∀r∈X,r.length=n/\∀y∈r,Sz 111 y
section
variable{X Y:K4}
theorem Rs.append(h:Rs n X)(h':Rs n Y):Rs n (X++Y):=λr hr=>(Yao.mp hr).elim (h r)<|h' r
theorem Rs.take(h:Rs n X):Rs n (X.take k):=λr hr=>h r<|vN hr
theorem Rs.drop(h:Rs n X):Rs n (X.drop k):=λr hr=>h r<|pA hr
end
theorem OA{X:K4}(hl:X.length<=5000)(h:Rs n X)(n4:n<=5000:=by omega):LP.G.Pk (.tup [.str "full",aM X]):=by
 refine⟨l7 KE λy hy=>?_,?_,?_⟩;simp only[Yan,hJ,or_false]at hy;rcases hy with rfl|rfl
 rfl;refine Cy (by rw[bQ];exact hl) λx hx=>?_;obtain⟨r,hr,rfl⟩:=YbQ.mp hx;exact qp (by rw[(h r hr).1];exact n4);have:dG 300 (aM X)=true:=by unfold aM;rw[dG,ZcB];intro x hx;obtain⟨r,hr,rfl⟩:=YbQ.mp hx;exact Zbt.mpr λy hy=>((h r hr).2 y hy).mono E8
 rw[dG,dE,dE,dE,this];rfl;intro a r ea _;injection ea with ea
 injection ea with ea _
 rw[<-ea];decide +kernel
theorem OB{a b:Qw}(n5:n<=5)(al:a.length=n)(as:∀y∈a,Sz 111 y)(bl:b.length=n)(bs:∀y∈b,Sz 111 y):LP.G.Pk (.tup [.str "full",aE a,aE b]):=by
 refine⟨l7 KE λy hy=>?_,?_,?_⟩;simp only[Yan,hJ,or_false]at hy;rcases hy with rfl|rfl|rfl
 rfl;exact qp E1;exact qp E1;have h1:dG 300 (aE a)=true:=Zbt.mpr λy hy=>(as y hy).mono E8;have h2:dG 300 (aE b)=true:=Zbt.mpr λy hy=>(bs y hy).mono E8;rw[dG,dE,dE,dE,dE,h1,h2];rfl;intro x r ea _;injection ea with ea
 injection ea with ea _
 rw[<-ea];decide +kernel
theorem OC(h:IsSl s n)(rl:r.length=n)(nz:Nz s n):LP.G.papB s n (.tup [.str "none",aE r])=false:=by
 show(if LP.G.isF (.str "none")=true then LP.G.isOnes s n (aE r) else LP.G.isN (.str "none")&&LP.G.isNou s n (aE r))=false;rw[show LP.G.isF (.str "none")=false from wp,jx<|E8,show LP.G.isN (.str "none")=true from wp,i4];unfold LP.G.isNou gS;rw[ji];by_cases e:bR s n r=LP.G.zeros n;have z:=nz r rl ((Hm h).mp e);have e2:r=List.replicate n 0:=vQ (by rw[lS,rl]) λi h1 h2=>by have:=z i E1;rw[bE,bZ h1]at this;rw[BC];exact this
 have this:r=LP.G.zeros n:=e2;rw[PR this];simp;rw[PU e];simp
theorem OD:Rd A1 Ei Zev:=by
 rintro _ E Q ⟨_,rfl,_,q⟩;show Ei E _ [.d .pen,.un,.un,.un,.un,.un,.un,.un,.un,.un,.un,.un,.un,.un,.un,.un,.un];unfold Ei;refine bJ ?_;ext;refine ny E8 E8 λn0 hn0=>?_;ext;obtain⟨n,en⟩:∃n:Nat,n=n0+2:=⟨_,rfl⟩
 rw[show(2+(n0:Int))=(n:Int) by omega];have n2:2<=n:=E1
 have n4:n<=4:=E1
 clear en hn0;refine bJ ?_;ext;refine ny E1 E1 λfc hat=>?_;ext;refine bJ<|LP.set_rl (λd=>∃r:Qw,d=aE r/\r.length=n/\∀y∈r,Sz 3 y) (λP hP=>?_) ?_
 .ext
  refine⟨E1,E1,?_⟩;refine zM (R:=λ_ y=>∃q:Rat,y=aS q/\Sz 3 q) (λd hd Q hq=>?_) .un [] (by unfold rng;simp[aR];omega) λys hl hy=>?_
  .ext
   refine ny E8 E8 λt ht=>?_;ext;refine ny E8 E8 λb hb=>?_;ext;exact Ea E1 (jK (n:=3) E1<|E8)<|hq _ ⟨_,rfl,z9 E1 (show _<8 by omega) (show _<8 by omega)⟩
  .rw[dR]
   obtain⟨r,rfl,rl,rs⟩:=IC (b:=3) (ys:=ys) λy h=>by obtain⟨_,_,h⟩:=hy y h;exact h
   exact hP _ ⟨r,rfl,by rw[rl,hl];unfold rng;simp,rs⟩
 rintro _ ⟨r,rfl,rl,rs⟩;dsimp only;refine bJ<|B.C.own_rl (λxs=>∃c:Qv,xs=c.map .int/\c.length=2*n-1/\∀y∈c,-6<=y/\y<=6) (λP hP=>?_) ?_
 .ext
  refine⟨⟨jK (n:=3) E8<|E8,jK (n:=3) E1<|E8⟩,E1,E1,?_⟩;refine zM (R:=λ_ y=>∃k:Int,y=.int k/\(-6<=k/\k<=6)) (λd hd Q hq=>?_) .un [] (by unfold rng;simp[aR];omega) λys hl hy=>?_
  .ext
   refine ny E8 E8 λk hk=>?_;ext;exact hq _ ⟨_,rfl,E1,E1⟩
  .rw[dR]
   obtain⟨c,rfl,cl,cb⟩:=Oz (P:=P) (ys:=ys) (R:=λk=>-6<=k/\k<=6) λy h=>by obtain⟨_,_,h⟩:=hy y h;exact h
   exact hP _ ⟨c,rfl,by rw[cl,hl];unfold rng;simp;omega,cb⟩
 rintro _ ⟨c,rfl,cl,cb⟩;dsimp only;have dm:=Dm.of (c:=c) E1 n4 cl cb;have h:=dm.sl;refine bJ<|Aq (xs:=c.map .int) (k:=n-1) (d:=.int<|c.getD (n-1) 0+25) (ρ':=[.d .pen,.d<|.int n,.d<|.int fc,.d<|aE r,.ow<|(c.set (n-1)<|c.getD (n-1) 0+25).map .int,.un,.un,.un,.un,.un,.un,.un,.un,.un,.un,.un,.un]) rfl (by rw[bQ];omega) (by rw[u7];rfl) (λP hP=>?_) (λP hP=>?_) ?_
 .ext
  refine⟨.int<|c.getD (n-1) 0,CW (k:=n-1) E1 ?_,?_⟩
  .rw[cV,bE,bZ<|E1];rfl
  ext;exact⟨rfl,hP⟩
 .ext
  rw[show(n:Int)-1=((n-1:Nat):Int) by omega];exact hP
 dsimp only;have nz:=dm.nz;clear dm cb cl;generalize c.set (n-1) (c.getD (n-1) 0+25)=s at h nz;refine B.C.pub_by (ρ':=[.d .pen,.d<|.int n,.d<|.int fc,.d<|aE r,.d<|.lst<|s.map .int,.un,.un,.un,.un,.un,.un,.un,.un,.un,.un,.un,.un]) rfl ?_;refine bJ<|cW (d:=aL s) (ρ':=[.d .pen,.d<|.int n,.d<|.int fc,.d<|aE r,.d<|aL s,.un,.un,.un,.un,.un,.un,.un,.un,.un,.un,.un,.un]) rfl (λP hP=>?_) ?_
 .ext
  exact hP
 dsimp only;refine bJ<|cW (d:=bD s n) (ρ':=[.d .pen,.d<|.int n,.d<|.int fc,.d<|aE r,.d<|aL s,.d<|bD s n,.un,.un,.un,.un,.un,.un,.un,.un,.un,.un,.un]) rfl (λP hP=>?_) ?_
 .ext
  exact NV h hP
 dsimp only;refine bJ<|LP.set_rl (λd=>∃B:K4,d=.lst (B.map lq)/\B.length=n/\∀r∈B,r.length=n/\∀y∈r,Sz 111 y) (λP hP=>?_) ?_
 .ext
  exact NW h n4 nz λR h1 h2=>hP _ ⟨R,rfl,h1,h2⟩
 rintro _ ⟨T,rfl,Tl,Ts⟩;dsimp only
 let Rw:K4:=(List.range n).map λj=>(List.range n).map λi=>(T.getD i []).getD j 0
 refine bJ<|B.C.own_by (xs:=Rw.map aE) (ρ':=[.d .pen,.d<|.int n,.d<|.int fc,.d<|aE r,.d<|aL s,.d<|bD s n,   .d (.lst<|T.map lq),.ow<|Rw.map aE,.un,.un,.un,.un,.un,.un,.un,.un,.un]) rfl (λP hP=>?_) ?_
 .ext
  refine⟨E1,E1,?_⟩;rw[jk];refine jj (g:=λk:Nat=>D.int (k:Int)) (f:=λj=>aE<|(List.range n).map λi=>(T.getD i []).getD j 0) (List.range n) (λj hj Q hq=>?_) .un [] (by simp[aR];omega) ?_
  .rw[Yah]at hj
   ext;refine⟨E1,E1,?_⟩;rw[jk];refine jj (g:=λk:Nat=>D.int (k:Int)) (f:=λi=>aS<|(T.getD i []).getD j 0) (List.range n) (λi hi Q hq=>?_) .un [] (by simp[aR];omega) ?_
   .rw[Yah]at hi
    ext;have mi:T.getD i []∈T:=jm E1;refine⟨_,rR (R:=T) (k:=i)<|E1,?_⟩;show∃d,eR ((G.rr T i).map aS) (j:Int)=some d/\_;exact⟨_,td (k:=j) (by show j<(T.getD i []).length;rw[(Ts _ mi).1];exact hj),hq⟩
   .rw[dR]
    ext;unfold aE at hq;rw[List.map_map]at hq;exact hq
  .rw[dR]
   have:Rw.map aE=(List.range n).map λj=>aE ((List.range n).map λi=>(T.getD i []).getD j 0):=by show List.map aE (List.map _ _)=_;rw[List.map_map];rfl
   rw[<-this];exact hP
 dsimp only;have hR:Rw.length=n:=by show(List.map _ _).length=n;rw[bQ,nb]
 have hS:Rs n Rw:=λx hx=>by
  obtain⟨j,hj,rfl⟩:=YbQ.mp hx;rw[Yah]at hj;refine⟨by rw[bQ,nb],λy hy=>?_⟩;obtain⟨i,hi,rfl⟩:=YbQ.mp hy;rw[Yah]at hi;have mi:T.getD i []∈T:=jm E1;obtain⟨t1,t2⟩:=Ts _ mi;refine t2 _ ?_;rw[bE (l:=T.getD i []),bZ<|E1];exact i3 _
 have hr:Rs n [r]:=λx hx=>by
  rw[YcC.mp hx];exact⟨rl,λy hy=>(rs y hy).mono<|E8⟩
 generalize Rw=R at hR hS;clear Ts Tl;refine B.C.pub_by (ρ':=[.d .pen,.d<|.int n,.d<|.int fc,.d<|aE r,.d<|aL s,.d<|bD s n,.d<|.lst<|T.map lq,.d<|aM R,.un,.un,.un,.un,.un,.un,.un,.un,.un]) rfl ?_;refine bJ<|cW (d:=aM<|R.take fc++[r]++R.drop (fc+1)) (ρ':=[.d .pen,.d<|.int n,.d<|.int fc,.d<|aE r,.d<|aL s,.d<|bD s n,.d<|.lst<|T.map lq,.d<|aM R,.d<|aM<|R.take fc++[r]++R.drop (fc+1),.un,.un,.un,.un,.un,.un,.un,.un]) rfl (λP hP=>?_) ?_
 .unfold aM at hP ⊢
  ext;rw[xy (b:=fc) rfl,show((fc:Int)+1)=((fc+1:Nat):Int) by omega,rn (by rw[bQ];omega)];rw[hV,hV,qx,Ycf,List.map_singleton]at hP;exact⟨E8,eh (by simp;omega),eh (by simp;omega),hP⟩
 dsimp only;refine B.C.pub_by (ρ':=[.d .pen,.d<|.int n,.d<|.int fc,.d<|aE r,.d<|aL s,.d<|bD s n,.d<|.lst<|T.map lq,.d<|aM R,.d<|aM<|R.take fc++[r]++R.drop (fc+1),.un,.un,.un,.un,.un,.un,.un,.un]) rfl ?_;have hB:Rs n (R.take fc++[r]++R.drop (fc+1)):=(hS.take.append hr).append hS.drop;have hBl:(R.take fc++[r]++R.drop (fc+1)).length=n:=by simp;omega
 generalize R.take fc++[r]++R.drop (fc+1)=Bt at hB hBl;refine bJ<|LP.set_rl (λd=>∃Ls:List (List<|Qw),d=.lst (Ls.map aM)/\Ls.length=8/\∀X∈Ls,Rs n X/\X.length<=5) (λP hP=>?_) ?_
 .have:=hP _ ⟨[R,R.reverse,Bt,R.drop 1++R.take 1,List.replicate n<|R.getD 0 [],List.replicate n r,R.dropLast,R++R.take 1],rfl,rfl,?_⟩
  .simp only[cG,f6]at this
   unfold aM at this ⊢;ext;rw[show bW (List.map aE R) (some 1) none=(R.drop 1).map aE from(rn (a:=1) (by rw[bQ];omega)).trans Ycf.symm,xy (i:=1) (b:=1) rfl,Es];refine⟨eh (by simp;omega),aE<|R.getD 0 [],aK (j:=0) (by rw[cV,bE,bZ<|E1];rfl),E8,E1,E1,eh<|E1,E8,E1,E1,eh<|E1,eh (by simp;omega),E8,?_⟩;rw[qA,qA];rw[tN,hV,qx,qz,qz,List.map_dropLast,hV,qx]at this;exact this
  .have h0:Rs n (List.replicate n<|R.getD 0 []):=λx hx=>by
    rw[(YcY.mp hx).2];exact hS _<|jm E1
   have h1:Rs n (List.replicate n r):=λx hx=>by
    rw[(YcY.mp hx).2];exact hr r KE
   intro X hX;simp only[Yan,hJ,or_false]at hX;rcases hX with rfl|rfl|rfl|rfl|rfl|rfl|rfl|rfl
   .exact⟨hS,E1⟩
   .exact⟨λx hx=>hS x<|Ycn.mp hx,by rw[rV];omega⟩
   .exact⟨hB,E1⟩
   .exact⟨hS.drop.append hS.take,by simp;omega⟩
   .exact⟨h0,by simp;omega⟩
   .exact⟨h1,by simp;omega⟩
   .exact⟨λx hx=>hS x<|vN (by rw[<-List.dropLast_eq_take];exact hx),by simp;omega⟩
   .exact⟨hS.append hS.take,by simp;omega⟩
 rintro _ ⟨Ls,rfl,Ll,hL⟩;dsimp only;refine G.seq_inv (λρ=>∃s10 s11 s12 s13,ρ=[.d .pen,.d<|.int n,.d<|.int fc,.d<|aE r,.d<|aL s,.d<|bD s n,.d<|.lst<|T.map lq,.d<|aM R,.d<|aM Bt,.d<|.lst<|Ls.map aM,s10,s11,s12,s13,.un,.un,.un]) (λnx hnx=>?_) ?_
 .simp only[bF]
  refine B.C.for_seq (LP.nm_at rfl) ?_;refine mR (λds ρ=>(∃L:List (List<|Qw),ds=L.map aM/\∀X∈L,Rs n X/\X.length<=5)/\∃s10 s11 s12 s13,ρ=[.d .pen,.d<|.int n,.d<|.int fc,.d<|aE r,.d<|aL s,.d<|bD s n,.d<|.lst<|T.map lq,.d<|aM R,.d<|aM Bt,.d<|.lst<|Ls.map aM,s10,s11,s12,s13,.un,.un,.un]) ?_ (λρ ⟨_,e⟩=>hnx ρ e) _ _ ⟨⟨Ls,rfl,hL⟩,_,_,_,_,rfl⟩;rintro d ds _ ⟨⟨L,e,hL2⟩,s10,s11,s12,s13,rfl⟩ nx2 hnx2;cases L with
  |nil=>cases e
  |cons X L=>
  rw[cG]at e;injection e with e1 e2
  subst e1;obtain⟨xs,xl⟩:=hL2 X KE;have nxt:∀s10 s11 s12 s13,nx2 [.d .pen,.d<|.int n,.d<|.int fc,.d<|aE r,.d<|aL s,.d<|bD s n,.d<|.lst<|T.map lq,.d<|aM R,.d<|aM Bt,.d<|.lst<|Ls.map aM,s10,s11,s12,s13,.un,.un,.un]:=λ_ _ _ _=>hnx2 _ ⟨⟨L,e2,λY hY=>hL2 Y<|by simp[hY]⟩,_,_,_,_,rfl⟩;have bx:B.C.bx 7 (aM X) 3=true:=F4.bx_rows E1 λr hr=>⟨by rw[(xs r hr).1];omega,λy hy=>((xs r hr).2 y hy).mono<|E8⟩;have rX:∀{Q:QH},Q (.str<|rz<|aM X)->Zg2 [aM X] Q:=λq=>B.C.repr_bx bx (F4.noD_rows X) q
  let v:Bool:=(X.length==n)&&LP.G.onesB s n 0 (X.map aE)
  have pv:LP.G.papB s n (.tup [.str "full",aM X])=v:=by
   show(if LP.G.isF (.str "full")=true then LP.G.isOnes s n (aM X) else(LP.G.isN (.str "full")&&LP.G.isNou s n (aM X)))=v;rw[show LP.G.isF (.str "full")=true from wp,oI rfl];show((X.map aE).length==n&&LP.G.onesB s n 0 (X.map aE))=v;rw[bQ]
  show aG _ _ _ _ [.d .pen,.d<|.int n,.d<|.int fc,.d<|aE r,.d<|aL s,.d<|bD s n,.d<|.lst<|T.map lq,.d<|aM R,.d<|aM Bt,.d<|.lst<|Ls.map aM,.d<|aM X,s11,s12,s13,.un,.un,.un];refine bJ<|cW (d:=.bl v) (ρ':=[.d .pen,.d<|.int n,.d<|.int fc,.d<|aE r,.d<|aL s,.d<|bD s n,.d<|.lst<|T.map lq,.d<|aM R,.d<|aM Bt,.d<|.lst<|Ls.map aM,.d<|aM X,.d<|.bl v,s12,s13,.un,.un,.un]) rfl (λP hP=>?_) ?_
  .unfold aM
   ext;rw[bQ]
   by_cases e:X.length=n
   .have ev:v=LP.G.onesB s n 0 (X.map aE):=by show((X.length==n)&&_)=_;rw[show(X.length==n)=true by simpa using e,i4]
    rw[oI (by rw[Qa];omega)];refine LP.G.lc_nums (b:=λi x=>gS s n x<|aX n i) (X.map aE) 0 (λx hx i Q hq=>?_) .un .un [] (eh (by rw[bQ,iF];omega)) ?_
    .obtain⟨r',hr',rfl⟩:=YbQ.mp hx
     obtain⟨r1,r2⟩:=xs r' hr';ext;refine Eb h r1 r2 ?_;have:=rm r';rw[r1]at this;unfold gS at hq;rw[this,ji,i4]at hq;exact hq
    .rw[dR]
     refine⟨_,rfl,?_⟩;rw[LP.G.ones_num,<-ev];exact hP
   .have ev:v=false:=by show((X.length==n)&&_)=_;rw[show(X.length==n)=false by simpa using e,u0]
    rw[jx (by rw[Qa];omega),<-ev];exact hP
  dsimp only;refine bJ<|cW (d:=.str<|rz<|aM X) (ρ':=[.d .pen,.d<|.int n,.d<|.int fc,.d<|aE r,.d<|aL s,.d<|bD s n,.d<|.lst<|T.map lq,.d<|aM R,.d<|aM Bt,.d<|.lst<|Ls.map aM,.d<|aM X,.d<|.bl v,.d<|.str<|rz<|aM X,s13,.un,.un,.un]) rfl (λP hP=>?_) ?_
  .ext
   exact rX hP
  dsimp only;refine bJ<|cW (d:=.bl v) (ρ':=[.d .pen,.d<|.int n,.d<|.int fc,.d<|aE r,.d<|aL s,.d<|bD s n,.d<|.lst<|T.map lq,.d<|aM R,.d<|aM Bt,.d<|.lst<|Ls.map aM,.d<|aM X,.d<|.bl v,.d<|.str<|rz<|aM X,.d<|.bl v,.un,.un,.un]) rfl (λP hP=>?_) ?_
  .ext
   refine⟨E8,LP.G.u_paper_good h ?_ ?_⟩
   .exact OA E1 xs
   .rw[pv];exact hP
  dsimp only;refine fh (b:=false) (λP hP=>?_) (λe=>nomatch e) λ_=>nxt _ _ _ _;ext;refine⟨"bool",rfl,E8,?_⟩;ext;refine zO (by cases v<;>decide +kernel) ?_;ext;exact rX<|Gc hP
 rintro _ ⟨s10,s11,s12,s13,rfl⟩;refine B.C.pub_by (ρ':=[.d .pen,.d<|.int n,.d<|.int fc,.d<|aE r,.d<|aL s,.d<|bD s n,.d<|.lst<|T.map lq,.d<|aM R,.d<|aM Bt,.d<|.lst<|Ls.map aM,s10,s11,s12,s13,.un,.un,.un]) rfl ?_;obtain⟨z,hz,mz⟩:∃z,eR (R.map aE) (-1)=some (aE z)/\z∈R:=by
  obtain⟨R',z,rfl⟩:∃R' z,R=R'++[z]:=⟨_,_,(EK (λe=>by rw[e]at hR;simp at hR;omega)).symm⟩
  exact⟨z,by rw[hV];exact pS _ _,KE⟩
 obtain⟨a0,ha,ma⟩:∃a,eR (R.map aE) 0=some (aE a)/\a∈R:=⟨R.getD 0 [],aK (j:=0) (by rw[cV,bE,bZ<|E1];rfl),jm<|E1⟩
 have hz':=hS z mz;have ha':=hS a0 ma;have hr':=hr r KE;refine G.seq_inv (λρ=>∃s10 s11 s12 s13 s14 s15,ρ=[.d .pen,.d<|.int n,.d<|.int fc,.d<|aE r,.d<|aL s,.d<|bD s n,.d<|.lst<|T.map lq,.d<|aM R,.d<|aM Bt,.d<|.lst<|Ls.map aM,s10,s11,s12,s13,s14,s15,.un]) (λnx hnx=>?_) ?_
 .simp only[bF]
  refine B.C.for_seq (xs:=[(a0,z),(a0,r),(r,z),(a0,a0),(z,a0)].map λp=>D.tup [aE p.1,aE p.2]) (λP hP=>?_) ?_
  .unfold aM
   ext;simp only[cG,f6]at hP;exact⟨_,ha,_,hz,E8,_,ha,E8,_,hz,E8,_,ha,_,ha,E8,_,hz,_,ha,E8,E8,hP⟩
  refine mR (λds ρ=>(∃L:List (Qw×Qw),ds=L.map (λp=>D.tup [aE p.1,aE p.2])/\∀p∈L,(p.1.length=n/\∀y∈p.1,Sz 111 y)/\(p.2.length=n/\∀y∈p.2,Sz 111 y))/\∃s10 s11 s12 s13 s14 s15,ρ=[.d .pen,.d<|.int n,.d<|.int fc,.d<|aE r,.d<|aL s,.d<|bD s n,.d<|.lst<|T.map lq,.d<|aM R,.d<|aM Bt,.d<|.lst<|Ls.map aM,s10,s11,s12,s13,s14,s15,.un]) ?_ (λρ ⟨_,e⟩=>hnx ρ e) _ _ ⟨⟨_,rfl,λp hp=>?_⟩,_,_,_,_,_,_,rfl⟩
  .rintro d ds _ ⟨⟨L,e,hL2⟩,s10,s11,s12,s13,s14,s15,rfl⟩ nx2 hnx2
   cases L with
   |nil=>cases e
   |cons p L=>
   obtain⟨a,b⟩:=p;rw[cG]at e;injection e with e1 e2
   subst e1;obtain⟨⟨al,as⟩,bl,bs⟩:=hL2 (a,b) KE;dsimp only at al as bl bs;have nxt:∀s10 s11 s12 s13 s14 s15,nx2 [.d .pen,.d<|.int n,.d<|.int fc,.d<|aE r,.d<|aL s,.d<|bD s n,.d<|.lst<|T.map lq,.d<|aM R,.d<|aM Bt,.d<|.lst<|Ls.map aM,s10,s11,s12,s13,s14,s15,.un]:=λ_ _ _ _ _ _=>hnx2 _ ⟨⟨L,e2,λY hY=>hL2 Y<|by simp[hY]⟩,_,_,_,_,_,_,rfl⟩
   let v:Bool:=decide (bR s n a=aX n 0)&&(decide (bR s n b=aX n (n-1)) && !decide (a.headD 0=0))
   have pv:LP.G.papB s n (.tup [.str "full",aE a,aE b])=v:=by
    show(LP.G.isF (.str "full")&&uO s n (.tup [aE a,aE b]) && !decide ((rQ<|aE a).headD 0=0))=v;rw[show LP.G.isF (.str "full")=true from wp,i4,ji];show(gS s n (aE a) (aX n 0)&&gS s n (aE b) (aX n<|n-1)&&_)=v;unfold gS;have i1:=rm a;have i2:=rm b;rw[al]at i1;rw[bl]at i2;rw[i1,i2,ji,ji,i4,i4,Bool.and_assoc]
   refine⟨rfl,?_⟩;simp only[bN,cS,gN,gG,gF];refine bJ<|cW (d:=.bl v) (ρ':=[.d .pen,.d<|.int n,.d<|.int fc,.d<|aE r,.d<|aL s,.d<|bD s n,.d<|.lst<|T.map lq,.d<|aM R,.d<|aM Bt,.d<|.lst<|Ls.map aM,s10,.d<|.bl v,s12,s13,.d<|aE a,.d<|aE b,.un]) rfl (λP hP=>?_) ?_
   .ext
    refine Eb (k:=0) h al as ?_;show if decide (bR s n a=aX n 0)=true then _ else _
    by_cases c1:bR s n a=aX n 0
    .rw[oI<|PR c1,show((n:Int)-1)=((n-1:Nat):Int) by omega]
     refine Eb h bl bs ?_;show if decide (bR s n b=aX n (n-1))=true then _ else _
     by_cases c2:bR s n b=aX n (n-1)
     .rw[oI<|PR c2]
      refine⟨_,td (k:=0)<|E1,?_⟩;unfold aS;ext;refine⟨_,aK (j:=0) rfl,jh (Ct _ _) (Ct _ _) ?_⟩;have ev:v = !((a.getD 0 0).num==0):=by
       show(decide _&&(decide _ && !decide (a.headD 0=0)))=_;rw[PR c1,PR c2,i4,i4];have:a.headD 0=a.getD 0 0:=by cases a<;>rfl
       rw[this];congr 1;rw[iD,PV,Qa,Ycq]
      rw[ev]at hP;simpa using hP
     .have ev:v=false:=by
       show(decide _&&(decide _&&_))=_;rw[PU c2,u0,Bool.and_false]
      rw[jx (by rw[PU c2];decide),<-ev];exact hP
    .have ev:v=false:=by
      show(decide _&&_)=_;rw[PU c1,u0]
     rw[jx (by rw[PU c1];decide),<-ev];exact hP
   dsimp only;refine fh (b:=false) (λP hP=>?_) (λe=>nomatch e) λ_=>nxt _ _ _ _ _ _;ext;refine⟨E8,LP.G.u_paper_good h ?_ ?_⟩
   .exact OB E1 al as bl bs
   rw[pv];exact A8 hP
  .simp only[Yan,hJ,or_false]at hp
   rcases hp with rfl|rfl|rfl|rfl|rfl
   .exact⟨ha',hz'⟩
   .exact⟨ha',hr'⟩
   .exact⟨hr',hz'⟩
   .exact⟨ha',ha'⟩
   .exact⟨hz',ha'⟩
 rintro _ ⟨s10,s11,s12,s13,s14,s15,rfl⟩;refine bJ<|fh (b:=false) (λP hP=>?_) (λe=>nomatch e) λ_=>?_
 .ext
  refine⟨E8,LP.G.u_paper_good h ?_ ?_⟩
  .exact LP.G.pk_row wp E1 λy hy=>(rs y hy).mono E8
  .rw[OC h rl nz]
   exact Et hP
 dsimp only;have pk:=LP.G.pap_pk h;have pg:=LP.G.pap_good h;have po:∀{E:QF} {Q:QH},Q (LP.papD s n)->S_paper_of [aL s] E Q:=λq=>.inl<|LP.u_paper_of h q;refine bJ ?_;refine⟨s.map .int,rfl,λd hd=>by obtain⟨k,_,rfl⟩:=YbQ.mp hd;exact⟨k,rfl⟩,E8,by show 16<17;decide,?_⟩;refine po ?_;have fin:aH (w2 (gIsC false) (wF S_paper_good<|aC (wN 4)<|aC (wF S_paper_of<|aC (wN 4) aA) aA)<|wC<|D.bl true) E { nx:=λ_=>Q .non,rt:=Q } [.d .pen,.d<|.int n,.d<|.int fc,.d<|aE r,.d<|aL s,.d<|bD s n,.d<|.lst<|T.map lq,.d<|aM R,.d<|aM Bt,.d<|.lst<|Ls.map aM,s10,s11,s12,s13,s14,s15,.un]:=by
  ext;refine po ?_;refine LP.G.u_paper_good h pk ?_;rw[pg];exact⟨rfl,q⟩
 have kp:=pk.kd;unfold LP.papD at kp ⊢
 by_cases e:fO s n=[]
 .rw[oI e]at kp ⊢
  refine⟨_,_,rfl,?_⟩;show∃d,eR _ 1=some d/\_;refine⟨_,aK (j:=1) rfl, "list",rfl,E8,?_⟩;refine⟨λ_=>⟨_,rfl,?_⟩,fin⟩;rw[kd,kM,kM,kM]at kp;simp only[cX]at kp;have:=(zQ kp.2.2.1).1;exact tM this E8
 .rw[jx e]at kp ⊢
  refine⟨_,_,rfl,?_⟩;show∃d,eR _ 1=some d/\_;refine⟨_,aK (j:=1) rfl, "tuple",rfl,E8,?_⟩;exact⟨λ(z:(false:Bool)=true)=>Bool.noConfusion z,fin⟩
theorem OE:Rd A4 En Zeu:=by
 rintro _ E Q ⟨_,rfl,_,q⟩;replace q:Q (.bl true):=q;show En E _ [.d .pen,.un,.un,.un,.un,.un,.un,.un];unfold En;refine bJ ?_;ext;refine ny (n:=5) E8 E8 λk hk=>?_;ext;refine bJ ?_;ext;refine⟨E8,⟨E8,E8,E8⟩,E8,ny (n:=7) E8 E8 λk7 hk7=>?_⟩;obtain ⟨bad,hat,hk1,hk2⟩:=LB (P:=λd=>kd d=true/\qq (-50) 50 d=false) (xs:=[D.int 51,D.int (-51),D.bl true,D.non,D.tup [D.int 0],D.str "0",D.int<|10 ^ Int.toNat 30]) (k:=k7) (by simpa using hk7) (by
  intro x hx;simp only[Yan,hJ,or_false]at hx;rcases hx with rfl|rfl|rfl|rfl|rfl|rfl|rfl<;>refine⟨?_,E8⟩<;>first|(rw[kd];done)|exact l7 E8<|by simp[kd])
 refine⟨_,hat,?_⟩;clear hat;ext;refine bJ<|B.C.own_rl (λxs=>∃c:Qv,xs=c.map .int/\c.length=5) (λP hP=>?_) ?_
 ext;refine⟨E8,E8,?_⟩;refine zM (R:=λ_ y=>∃k:Int,y=.int k) (λd hd Q hq=>?_) .un [] E8 λys hl hy=>?_;ext;refine ny E8 E8 λk hk=>?_;exact hq _ ⟨_,rfl⟩;rw[dR];refine hP _ ⟨ys.map uE,?_,by rw[bQ];exact hl⟩;rw[List.map_map];refine(tK _).symm.trans<|ir λy hy'=>?_;obtain⟨_,_,k,rfl⟩:=hy y hy';rfl
 rintro _ ⟨c,rfl,cl⟩;dsimp only;refine B.C.pub_by (ρ':=[.d .pen,.d<|.int k,.d bad,.d<|.lst<|c.map .int,.un,.un,.un,.un]) rfl ?_;have hks:∀x∈c.map D.int,kd x=true:=λx hx=>by obtain⟨i,_,rfl⟩:=YbQ.mp hx;rw[kd]
 obtain⟨c0,c',rfl⟩:∃c0 c',c=c0::c':=by
  cases c with
  |nil=>cases cl
  |cons a b=>exact⟨_,_,rfl⟩
 generalize ec:(c0::c').map D.int=gs at hks;have gl:gs.length=5:=by rw[<-ec,bQ];exact cl
 have g0:eR gs 0=some (.int c0):=by rw[<-ec];exact aK (j:=0) rfl
 have c1:=F9 (xs:=gs) (a:=none) (b:=some (k:Int));have c2:=F9 (xs:=gs) (a:=some<|(k:Int)+1) (b:=none);generalize eA:bW gs none (some (k:Int))=A at c1;generalize eB:bW gs (some<|(k:Int)+1) none=B' at c2;have hA:∀x∈A,kd x=true:=λx hx=>hks x<|jM (eA▸hx);have hB:∀x∈B',kd x=true:=λx hx=>hks x<|jM (eB▸hx);have nt:∀d∈[D.non,.tup [.int 1,.int 2],.tup [.int 51],.tup [],.lst gs,.int c0,.tup<|A++[bad]++B',.tup<|List.replicate 11<|D.int 0],kd d=true/\dM d=false:=λd hd=>by
  simp only[Yan,hJ,or_false]at hd;rcases hd with rfl|rfl|rfl|rfl|rfl|rfl|rfl|rfl
  exact⟨by rw[kd],rfl⟩;exact⟨l7 E8<|by simp[kd],E8⟩;exact⟨l7 E8<|by simp[kd],E8⟩;exact⟨l7 E8<|KE,E8⟩;exact⟨Cy E1 hks,rfl⟩;exact⟨by rw[kd],rfl⟩;refine⟨l7 (by simp;omega) λx hx=>?_,?_⟩;simp only[Yao,Yan,hJ,or_false]at hx;rcases hx with(hx|rfl)|hx
  exact hA x hx;exact hk1;exact hB x hx;unfold dM;simp[hk2];exact⟨l7 E8<|by simp[kd],E8⟩
 refine G.seq_inv (λρ=>∃s4 s5 s6,ρ=[.d .pen,.d<|.int k,.d bad,.d<|.lst gs,s4,s5,s6,.un]) (λnx hnx=>?_) ?_;simp only[bF];refine B.C.for_seq (xs:=[D.non,.tup [.int 1,.int 2],.tup [.int 51],.tup [],.lst gs,.int c0,.tup<|A++[bad]++B',.tup<|List.replicate 11<|D.int 0]) (λP h=>?_) ?_;ext;rw[eA,eB];exact⟨E8,E8,E8,_,g0,E8,eh<|E1,eh (by simp;omega),E8,E8,E8,E8,E8,by rw[qA];exact h⟩;refine mR (λds ρ=>(∀d∈ds,kd d=true/\dM d=false)/\∃s4 s5 s6,ρ=[.d .pen,.d<|.int k,.d bad,.d<|.lst gs,s4,s5,s6,.un]) ?_ (λρ ⟨_,e⟩=>hnx ρ e) _ _ ⟨nt,_,_,_,rfl⟩;rintro d ds _ ⟨hds,s4,s5,s6,rfl⟩ nx2 hnx2;obtain⟨hd1,hd2⟩:=hds d KE;have hn2:∀s5 s6,nx2 [.d .pen,.d<|.int k,.d bad,.d<|.lst gs,.d d,s5,s6,.un]:=λs5 s6=>hnx2 _ ⟨λd hd=>hds d<|by simp[hd],_,_,_,rfl⟩;show bH _ _ _ _ _ [.d .pen,.d<|.int k,.d bad,.d<|.lst gs,.d d,s5,s6,.un];simp only[bH,fb,aC,aA,wC,fW];refine⟨E8,E8,?_⟩;refine mR (λds ρ=>(∀d∈ds,∃m:Nat,d=.int m/\m<15)/\∃s5 s6,ρ=[.d .pen,.d<|.int k,.d bad,.d<|.lst gs,.d d,s5,s6,.un]) ?_ (λρ ⟨_,_,_,e⟩=>e▸hn2 _ _) _ _ ⟨λd hd=>?_,_,_,rfl⟩;rintro w ws _ ⟨hws,s5,s6,rfl⟩ nx3 hnx3;obtain⟨m,rfl,hm⟩:=hws w KE;have hn3:∀s5 s6,nx3 [.d .pen,.d<|.int k,.d bad,.d<|.lst gs,.d d,s5,s6,.un]:=λs5 s6=>hnx3 _ ⟨λd hd=>hws d<|by simp[hd],_,_,rfl⟩;show aG _ _ _ _ [.d .pen,.d<|.int k,.d bad,.d<|.lst gs,.d d,.d<|.int m,s6,.un];refine bJ<|cW (d:=.tup [.str "told"]) (ρ':=[.d .pen,.d<|.int k,.d bad,.d<|.lst gs,.d d,.d<|.int m,.d<|.tup [.str "told"],.un]) rfl (λP hP=>?_) ?_
 ext;exact⟨E8,hP⟩;dsimp only;refine bJ ?_;unfold AR;ext;refine NX hm hd1 hd2 ⟨E8,?_⟩;have ks:eZ (.tup [.str<|PySem.Str.ofString "slants"]) 60=true:=wp
 refine NY ⟨E8,jh ks ks ?_⟩;rw[oI rfl,Fj ks];exact hn3 _ _;unfold rng at hd;obtain⟨m,hm,rfl⟩:=YbQ.mp hd;exact⟨m,KE,by simpa using hm⟩;rintro _ ⟨s4,s5,s6,rfl⟩;ext;exact q
theorem OF{ps:List Pr}(n5:n<=5)(hl:ps.length=n)(hp:∀p∈ps,Pq 10 n p):xK n n (ps.map (·.2)):=by refine ClIn.z (b:=51) ⟨cO _,E1,by rw[bQ];omega,?_,λr hr=>?_⟩;exact(by decide:∀n:Nat,n<=5->3*bq 51 (n-1)<8990) n n5;obtain⟨p,hp',rfl⟩:=YbQ.mp hr;have P:=hp p hp';have:=I9.lf_of p.2 P.r;rw[P.l]at this;exact this.mono E1
theorem OG:Rd D8 Ij Zdm:=by
 rintro _ E Q ⟨⟨⟨s,n⟩,y⟩,rfl,⟨h,ev,hk,hz⟩,q⟩;dsimp only at h ev hk hz q;have n5:=h.n5;unfold Ij;walk_at "n";refine nu h ?_;walk_at "n";refine(.inl <| xS.ok ((10,s,n),y) rfl ⟨h,hk,hz,λxs _ hl=>by show 7+(3*10+1)*xs.length+3*10<8990;omega⟩ (by unfold xR;dsimp only;rw[oI ev]) ?_);unfold Q2.sqA at q;cases hG:uT s n y with
 |false=>rw[hG]at q;ext;exact q
 |true=>
  rw[hG]at q;obtain⟨ps,rfl,l10,hp⟩:=Q2.sqG_inv hG;rw[G3]at q;have P:=G4 hz λp hp'=>(hp p hp').1;unfold gC;ext;rw[bQ]
  by_cases hl:ps.length=n
  rotate_left
  .rw[PU hl]at q
   rw[oI (by simp;omega)];exact q
  rw[PR hl]at q;rw[jx<|by simp[hl]];walk_at "n";refine DH (f:=λp=>.bl<|decide (p.1.num>0)) _ (λp hp P hP=>?_) .un .un [] (eh (by simp;omega)) ⟨ps.map λp=>decide (p.1.num>0),by rw[dR,List.map_map];rfl,?_⟩
  .ext
   exact⟨_,rfl,trivial,hP⟩
  rw[show(ps.map λp=>decide (p.1.num>0)).all id=ps.all λp=>decide (0<p.1) by rw[yW];congr 1;funext p;exact Q2.num_gt _];ext;cases ha:ps.all λp=>decide (0<p.1) with
  |false=>rw[ha]at q;exact q
  |true=>
   rw[ha]at q;ext;refine DH (f:=λp=>aE p.2) _ (λp hp P hP=>hP) .un .un [] (eh (by simp;omega)) ?_;rw[dR];refine⟨((n,n),ps.map (·.2)),by dsimp only;unfold aM;rw[List.map_map];rfl,OF n5 hl P,?_⟩;dsimp only;rw[bQ,hl];exact q
theorem OH:Rd D9 Ik Ze7:=by
 rintro _ E Q ⟨⟨⟨s,n⟩,y⟩,rfl,⟨h,ev,hk,hz⟩,q⟩;dsimp only at h ev hk hz q;have n5:=h.n5;unfold Q2.noA at q;unfold Ik;walk_at "n";refine xq h hk ?_;cases hR:gZ n y with
 |false=>rw[hR]at q;ext;exact q
 |true=>
  rw[hR]at q;obtain⟨r,rfl,hl⟩:=sU hR;have hl:r.length=n:=by exact_mod_cast hl
  have sz:=Zbt.mp hz;rw[ji]at q;ext;refine⟨E8,nu h ⟨E1,E1,eh (by simp;omega),?_⟩⟩;have e:D.tup ((List.replicate ((n:Int)).toNat [D.tup [.int 0,.int 1]]).flatten)=aE (List.replicate n 0):=by rw[jA,qA];unfold aE;rw[qz];rfl
  rw[e];refine jh (rf _ _) (rf _ _) ?_;rw[Ak];by_cases e0:r=List.replicate n 0;rw[PR e0]at q ⊢;exact q;rw[PU e0]at q ⊢;ext;refine vC h ev hl hl (λx hx=>(sz x hx).mono<|E8) (λx hx=>(sz x hx).mono<|E8) ⟨_,rfl,trivial,?_⟩;show Q (.bl<|decide ((cB s n r r).num<=0));rw[Q2.num_le];exact q
theorem OI:Rd tD Ee Zhy:=by
 rintro ds E Q (⟨⟨⟨s,n⟩,x⟩,rfl,⟨h,tx⟩,q⟩|⟨⟨x,y⟩,rfl,⟨hk,e⟩,q⟩)
 rotate_left
 .unfold Ee
  walk_at "n";exact Eo hk e q
 dsimp only at h tx q;have hsl:=h.len;have h5:=h.n5;unfold Q2.abR at q;unfold Ee;walk_at "n";refine⟨aL s,rfl,Cz<|E1,?_⟩;dsimp only;unfold g6;rw[oI<|CD h];unfold g9;rw[fH];by_cases he:s.reverse=s
 rotate_left
 .rw[jx<|by simpa using he]
  rw[jx he]at q;exact q
 rw[oI<|by simpa using he];rw[oI he]at q;replace q:Q (.bl<|Q2.pG s n x):=q;dsimp only[exQ];walk_at "n";refine qb tx.k E8 λt ht=>?_;have tk:=tx.k;have tz:=tx.z;have to:=tx.o;cases x<;>cases ht<;>try exact q
 rename_i xs;obtain⟨hl,hx⟩:=qa tk;ext;simp only[show ii "tuple" "tuple" = true from rfl,gg,eG,if_false];ext
 match xs,hl,hx,q,to,tz with
 |[],_,_,q,_,_=>ext;exact q|[u],_,_,q,_,_=>ext;exact q|u::v::w::r,_,_,q,_,_=>ext;rw[oI (by simp;omega)];exact q
 |[u,v],_,hx,q,to,tz=>
  have ou:=to u v rfl;have hv:=hx v KE;have zv:dG 10 v=true:=by rw[dG,dE,dE,cX,cX]at tz;exact tz.2.1
  ext;rw[jx<|KE];replace q:Q (.bl (if fg u (.str "above")=true then Q2.sqA s n v else fg u (.str "not")&&Q2.noA s n v)):=q;walk_at "n";refine⟨_,rfl,jh ou wp ?_⟩;rw[jx<|E8];cases ha:fg u (.str "above") with
  |true=>
   rw[ha,oI rfl]at q;ext;exact⟨_,rfl,⟨((s,n),v),rfl,⟨h,he,hv,zv⟩,q⟩⟩
  |false=>
   rw[ha,jx<|E8]at q;ext;refine⟨_,rfl,jh ou wp ?_⟩;rw[jx<|E8];cases hb:fg u (.str "not") with
   |false=>rw[hb]at q;exact q
   |true=>
    rw[hb]at q;ext;exact⟨_,rfl,⟨((s,n),v),rfl,⟨h,he,hv,zv⟩,q⟩⟩
theorem OJ{E:QF}(q:Q (.bl true)):A4 [.pen] E Q:=⟨(),rfl,trivial,q⟩
theorem OK{E:QF}(q:Q (.bl true)):A2 [.pen] E Q:=⟨(),rfl,trivial,q⟩
theorem OL{E:QF}(q:Q (.bl true)):A3 [.pen] E Q:=⟨(),rfl,trivial,q⟩
theorem OM{E:QF}(q:Q (.bl true)):A1 [.pen] E Q:=⟨(),rfl,trivial,q⟩
theorem ON:Rd yq A7 Im:=by
 rintro _ E Q ⟨xs,rfl,hx,q⟩;dsimp only at hx q;show A7 E _ [.d<|.scr<|xs.map .int,.un,.un];generalize hS:D.scr (xs.map .int)=S;unfold A7;refine bJ ?_;have ec:∃cs:Qv,bW (xs.map D.int) (some 1) (some 3)=cs.map D.int/\cs.length<=63:=by
  refine⟨bW xs (some 1)<|some 3,?_,?_⟩
  .unfold bW
   rw[bQ,qx,Ycf]
  .unfold bW
   rw[m6,m8];omega
 obtain⟨cs,ec,hcs⟩:=ec;simp only[bF];refine B.C.for_seq (xs:=(xs.getD 0 0::cs).map D.int) (λP h=>?_) ?_
 .subst hS
  ext;refine Zj (i:=0) ?_;ext;rw[ec];exact⟨E8,by simp[aR];omega,h⟩
 clear ec hcs;refine mR (λds ρ=>(∃L:Qv,ds=L.map .int)/\∃s1 s2,ρ=[.d S,s1,s2]) ?_ ?_ _ _ ⟨⟨_,rfl⟩,_,_,rfl⟩
 rotate_left
 .rintro _ ⟨_,s1,s2,rfl⟩
  exact q
 rintro d ds _ ⟨⟨L,e⟩,s1,s2,rfl⟩ nx hnx;cases L with
 |nil=>cases e
 |cons c L=>
 rw[cG]at e;injection e with e1 e2
 subst e1;show aG _ _ _ _ [.d S,.d<|.int c,s2];refine bJ<|LP.set_by (d:=.pen) (ρ':=[.d S,.d<|.int c,.d .pen]) (by rfl) (λP h=>?_) ?_
 .ext
  exact Lu h
 dsimp only;refine bJ<|fh (b:=false) (B.C.or_by (b:=false) (c:=false) (λP h=>?_) λP h=>?_) (λe=>nomatch e) λ_=>?_
 .ext
  exact OJ h
 .ext
  exact OK h
 dsimp only;refine fh (b:=false) (B.C.or_by (b:=false) (c:=false) (λP h=>?_) λP h=>?_) (λe=>nomatch e) λ_=>hnx _ ⟨⟨L,e2⟩,_,_,rfl⟩
 .ext
  exact OL h
 .ext
  exact OM h
abbrev OO:Qx:=["table"]
abbrev OP:Qx:=["thing", "many"]
abbrev OQ:Qx:=["slants"]
abbrev OR:Qx:=["slants", "thing"]
theorem OS{ns:Qv}(hl:ns.length<=63)(hO:qX H)(hS:SqL K H a (ns.map V.int)):iO K yq [.ref a] H (λv _=>v=.bl true) λ_ _ _=>False:=by
 have rv:∀W:Wd,Reps K W (ns.map V.int) (ns.map D.int):=λW=>by
  clear hl hS;induction ns with
  |nil=>exact .nil|cons n ns ih=>exact .cons (.int n) ih
 have ok:WOk ⟨H,λ_=>False⟩ H:=⟨λ_ _ e=>e,λ_ e=>e.elim⟩;refine⟨[.scr<|ns.map .int],⟨H,λ_=>False⟩,ok,.cons (.scr ?_<|rv _) .nil,ns,rfl,hl,λv W' H' _ r=>?_⟩;rcases hS with(h|h)|h
 rcases hO a with z|⟨o,xs,z⟩
 rw[h]at z;cases z;rw[h]at z;cases z;exact .inl h;exact .inr h;cases r;rfl
def top(i:Nat):Stmt:=PySem.Challenge.pw_slanttables_k76_papers_and_squares_other.main.body.getD i<|.Pass ⟨0,0,0,0⟩
structure Bs(K:PN)(mg:Qt):Prop where
 aa:FnAt K mg "is_whole" (top 3)
 ab:FnAt K mg "is_within" (top 4)
 ac:FnAt K mg "are_within" (top 5)
 ad:FnAt K mg "common_divisor" (top 6)
 ae:FnAt K mg "is_share" (top 7)
 af:FnAt K mg "is_row_within" (top 8)
 ag:FnAt K mg "is_row" (top 9)
 ah:FnAt K mg "share_by" (top 10)
 ai:FnAt K mg "plus" (top 11)
 aj:FnAt K mg "minus" (top 12)
 ak:FnAt K mg "times" (top 13)
 al:FnAt K mg "by" (top 14)
 am:FnAt K mg "row_of" (top 15)
 an:FnAt K mg "one_at" (top 16)
 ao:FnAt K mg "row_by" (top 17)
 ap:FnAt K mg "row_less" (top 18)
 aq:FnAt K mg "sum_of_products" (top 19)
 ar:FnAt K mg "first_with" (top 21)
 as:FnAt K mg "without_place" (top 22)
 au:FnAt K mg "cleared" (top 23)
 av:FnAt K mg "are_independent" (top 24)
 aw:FnAt K mg "size_of" (top 42)
 ax:FnAt K mg "slants_good" (top 43)
 ay:FnAt K mg "need_slants" (top 44)
 az:FnAt K mg "table_of" (top 45)
 a0:FnAt K mg "turned_slants" (top 46)
 a1:FnAt K mg "corner" (top 47)
 a2:FnAt K mg "row_good" (top 48)
 a3:FnAt K mg "share_rows" (top 49)
 a4:FnAt K mg "times_row" (top 50)
 a5:FnAt K mg "makes" (top 51)
 a6:FnAt K mg "ends_good" (top 52)
 a7:FnAt K mg "need_whole_row" (top 53)
 a8:FnAt K mg "one_rows_good" (top 55)
 a9:FnAt K mg "nought_row_good" (top 56)
 ba:FnAt K mg "paper_good" (top 57)
 bb:FnAt K mg "back_rows" (top 58)
 bc:FnAt K mg "one_rows" (top 59)
 bd:FnAt K mg "paper_of" (top 60)
 be:FnAt K mg "is_full" (top 61)
 bf:FnAt K mg "need_full" (top 62)
 bg:FnAt K mg "free_row" (top 63)
 bh:FnAt K mg "free_rows" (top 64)
 bi:FnAt K mg "free_many" (top 65)
 bj:FnAt K mg "share_table" (top 67)
 bk:FnAt K mg "back_of" (top 68)
 bl:FnAt K mg "two_rows" (top 69)
 bm:FnAt K mg "table_without" (top 71)
 bn:FnAt K mg "table_number" (top 72)
 bo:FnAt K mg "number_of" (top 73)
 bp:FnAt K mg "corner_numbers" (top 74)
 bq:FnAt K mg "are_rising_places" (top 75)
 br:FnAt K mg "part_number" (top 76)
 bs:FnAt K mg "put_number" (top 77)
 bt:FnAt K mg "weak_sizes" (top 78)
 bu:FnAt K mg "first_weak" (top 80)
 bv:FnAt K mg "need_strong" (top 81)
 bw:FnAt K mg "first_step" (top 82)
 bx:FnAt K mg "longer_step" (top 83)
 bz:FnAt K mg "steps_of" (top 84)
 b0:FnAt K mg "is_even" (top 87)
 b1:FnAt K mg "need_even" (top 88)
 b2:FnAt K mg "pair_at" (top 89)
 b3:FnAt K mg "is_weighed" (top 90)
 b4:FnAt K mg "left_by" (top 91)
 b5:FnAt K mg "squares_good" (top 92)
 b6:FnAt K mg "lead_among" (top 93)
 b7:FnAt K mg "apart_from" (top 94)
 b8:FnAt K mg "apart_rows" (top 95)
 b9:FnAt K mg "squares_of" (top 96)
 ca:FnAt K mg "step_squares" (top 97)
 cb:FnAt K mg "steps_weights" (top 98)
 cd:FnAt K mg "is_above" (top 99)
 ce:FnAt K mg "above_squares_good" (top 100)
 cf:FnAt K mg "not_above_good" (top 101)
 cg:FnAt K mg "above_good" (top 102)
 ch:FnAt K mg "above_paper" (top 103)
 ci:FnAt K mg "form_at" (top 105)
 cj:FnAt K mg "are_apart" (top 106)
 ck:FnAt K mg "sign_paper_good" (top 107)
 cl:FnAt K mg "signs_by" (top 108)
 cm:FnAt K mg "sign_paper" (top 109)
 cn:FnAt K mg "signs_of" (top 110)
 co:FnAt K mg "_law_cell_at" (top 112)
 cp:FnAt K mg "_law_next" (top 113)
 cq:FnAt K mg "_law_pen_of" (top 114)
 cr:FnAt K mg "_law_draw" (top 115)
 cs:FnAt K mg "_law_refusal" (top 116)
 ct:FnAt K mg "_law_share" (top 117)
 cu:FnAt K mg "_law_less" (top 118)
 cv:FnAt K mg "_law_times" (top 119)
 cw:FnAt K mg "_law_table" (top 120)
 cx:FnAt K mg "_law_back" (top 121)
 cy:FnAt K mg "_law_is_unit" (top 122)
 cz:FnAt K mg "_law_full_right" (top 123)
 c0:FnAt K mg "_law_above_right" (top 124)
 c1:FnAt K mg "_law_signs_right" (top 125)
 c2:FnAt K mg "_law_asked" (top 126)
 c3:FnAt K mg "_law_none_right" (top 127)
 c4:FnAt K mg "law" (top 128)
 c5:mg "abs" = none
 c6:mg "enumerate" = none
 c7:CT K mg "NOUGHT" [(D.int<|0),(D.int<|1)]
 c8:mg "tuple" = none
 c9:mg "zip" = none
 da:mg "list" = none
 db:mg "range" = none
 dc:mg "len" = none
 dd:mg "bool" = none
 de:mg "int" = none
 df:mg "isinstance" = none
 dg:mg "all" = none
 dh:CI mg "GREATEST_SIZE" (5)
 di:CI mg "LEAST" (-50)
 dj:CI mg "MOST" (50)
 dk:XC K mg "NoSlants"
 dl:XC K mg "NotEven"
 dm:CI mg "MOST_SQUARES" (10)
 dn:XC K mg "NoRow"
 dp:CT K mg "ONE" [(D.int<|1),(D.int<|1)]
 dq:mg "repr" = none
 dr:XC K mg "NotFull"
 ds:XC K mg "NoNumber"
 dt:mg "ValueError" = none
 du:CC K mg "NoLine"
 dv:CC K mg "NoNumber"
 dw:CC K mg "NoRow"
 dx:CC K mg "NoSlants"
 dy:CC K mg "NoText"
 dz:CC K mg "NotEven"
 d0:CC K mg "NotFull"
 d1:CC K mg "NotStrong"
 d2:CC K mg "TooGreat"
 xi:XI K LX MX
 d3:XT K mg "SlantError" LX
 d4:mg "max" = none
section
variable{P:Program}{w:World}(Z:Bs K mg)
include Z
theorem ID:Fp P w K mg base 1 "_law_next" (Zi4.take 1) xz:=bU Lw Z.cp λsc hr hx hw=>aW (cL 0 (bC sL (bC eS (aD 0) aN) aN) sc)<|aU (bB<|bC sL (bC eS (bC eS (bC gP (aD 0)<|aD 0)<|bC gP aN<|aD 0) aN) aN)
theorem o9:Fp P w K mg base 2 "_law_draw" (Zi6.take 2) lH:=bU Ly Z.cr λsc hr hx hw=>aW (dA (dC (dD hr.units) (bG xc (aD 0) aN) aN) (aW (cL 2 (bC sL (bG xc (aD 0) aN)<|aD 1) sc)<|aW (Fg 0 0<|bC sM (bG xc (aD 0) aN)<|aD 1)<|aU<|bB<|aD 2) cZ)<|aW (Fg 0 2<|aQ (ID Z) hr hx<|Za (bC eS (aQ (ID Z) hr hx<|Za (bG xc (aD 0) aN) aF) aN) aF) (aU<|bB<|bC sL (bC sM (bG xc (aD 0) aN) aN)<|aD 1)
theorem yC:Fp P w K mg base 1 "_law_share" (ZhB.take 2) tE:=bU Og Z.ct λsc hr hx hw=>aW (dA (dC kJ (aD 1) aN) (aU<|vb 0 1 sc<|Za (bC gz aN<|aD 0)<|Za (bC gz aN<|aD 1) aF) cZ)<|aW (vb 2 3 sc<|Za (cJ Fb Z.c5 boot_abs<|Za (aD 0) aF)<|Za (aD 1) aF) (aW (i6<|Cn PassesOwn.never (NR<|aD 3)<|aU<|vb 2 3 sc<|Za (aD 3)<|Za (bC sL (aD 2)<|aD 3) aF)<|aU<|bB<|dP<|Za (bC sM (aD 0)<|aD 2)<|Za (bC sM (aD 1)<|aD 2) aF)
theorem OT:Fp P w K mg base 1 "first_with" (Zhu.take 2) Al:=bU Mr Z.ar λsc hr hx hw=>aW (i6<|jf PassesOwn.never rfl (sX Z.c6<|Za (aD 0) aF) (iR rfl<|d7 (bL 2 sc)<|d7 (bL 3 sc) iQ)<|aU<|dA (dC (cY hr.units) (bG aP (aD 3)<|aD 1)<|lK Z.c7) (aU<|bB<|aD 2) cZ)<|aU (bB qk)
theorem IE:Fp P w K mg base 1 "common_divisor" (Ze8.take 2) zT:=bU KZ Z.ad λsc hr hx hw=>aW (i6<|Cn PassesOwn.never (dC (cY hr.units) (aD 1) aN)<|aU<|vb 0 1 sc<|Za (aD 1)<|Za (bC sL (aD 0)<|aD 1) aF)<|aU (bB<|cJ Fb Z.c5 boot_abs<|Za (aD 0) aF)
theorem A9:Fp P w K mg base 2 "share_by" (ZjQ.take 2) uD:=bU Zm Z.ah λsc hr hx hw=>aW (Kw<|dC (cY hr.units) (aD 1) aN)<|aW (cL 2 (aQ (IE Z) hr hx<|Za (aD 0)<|Za (aD 1) aF) sc) (aW (dA (dC kJ (aD 1) aN) (aU<|cL 2 (ql qm<|aD 2) sc) cZ)<|aU<|bB<|dP<|Za (bC sM (aD 0)<|aD 2)<|Za (bC sM (aD 1)<|aD 2) aF)
theorem Ev:Fp P w K mg base 3 "by" (N_by.take 2) mP:=bU Go Z.al λsc hr hx hw=>aU<|bB (aQ (A9 Z) hr hx<|Za (bC gP (bG aP (aD 0) aN)<|bG aP (aD 1) aN)<|Za (bC gP (bG aP (aD 0) aN)<|bG aP (aD 1) aN) aF)
theorem IF:Fp P w K mg base 4 "row_by" (Znt.take 2) xI:=bU Mo Z.ao λsc hr hx hw=>aU<|bB (kI mK Z.c8 P7<|Za (PXL.px<|e7 ["part"] [1] rfl (e8<|aD 0) (λ_ _ _=>QK) (λ_ _ _=>dW)<|λ_ _ _=>(aQ (Ev Z) hr cQ<|Za (aD 0)<|Za (aD 1) aF)) aF)
theorem Ew:Fp P w K mg base 3 "minus" (Zo4.take 2) sS:=bU LR Z.aj λsc hr hx hw=>aU<|bB (aQ (A9 Z) hr hx<|Za (bC gz (bC gP (bG aP (aD 0) aN)<|bG aP (aD 1) aN)<|bC gP (bG aP (aD 1) aN)<|bG aP (aD 0) aN)<|Za (bC gP (bG aP (aD 0) aN)<|bG aP (aD 1) aN) aF)
theorem Ey:Fp P w K mg base 3 "times" (Zo3.take 2) rg:=bU FW Z.ak λsc hr hx hw=>aU<|bB (aQ (A9 Z) hr hx<|Za (bC gP (bG aP (aD 0) aN)<|bG aP (aD 1) aN)<|Za (bC gP (bG aP (aD 0) aN)<|bG aP (aD 1) aN) aF)
theorem Ba:Fp P w K mg base 4 "row_less" (ZjR.take 3) qt:=bU Mp Z.ap λsc hr hx hw=>aU<|bB (kI mK Z.c8 P7<|Za (PXL.px<|e7 ["left", "right"] [1] rfl (uA Z.c9<|Za (aD 0)<|Za (aD 2) aF) (λ_ _ _=>(iR rfl<|d7 QK<|d7 QK iQ)) (λ_ _ _=>dW)<|λ_ _ _=>(aQ (Ew Z) hr cQ<|Za (aD 0)<|Za (aQ (Ey Z) hr cQ<|Za (aD 2)<|Za (aD 1) aF) aF)) aF)
theorem IG:Fp P w K mg base 5 "without_place" (Zfy.take 3) xJ:=bU Ms Z.as λsc hr hx hw=>aU<|bB (PXL.px<|e7 ["row"] [1,2] rfl (e8<|aD 0) (λ_ _ _=>QK) (λ_ _ _=>dW)<|λ_ _ _=>(aQ (Ba Z) hr cQ<|Za (aD 0)<|Za (bG aP (aD 0)<|aD 2)<|Za (aD 1) aF))
theorem Ez:Fp P w K mg base 6 "cleared" (ZlS.take 2) vm:=bU Mv Z.au λsc hr hx hw=>aW (cL 2 (PXL.px<|gx aF) sc)<|aW (sP 3 (gx aF) sc) (aW (cL 4 (PXL.px<|zB zG Z.da Ql<|Za (aD 0) aF) sc)<|aW (i6<|jf PassesOwn.never rfl (kq Z.db<|Za (aD 1) aF) (bL 5 sc)<|aW (cL 6 (aQ (OT Z) hr cQ<|Za (aD 4)<|Za (aD 5) aF) sc)<|aU<|dA (dC uM (aD 6) qk) (aW (cL 7 (aQ (IF Z) hr cQ<|Za (bG aP (aD 4)<|aD 6)<|Za (bG aP (bG aP (aD 4)<|aD 6)<|aD 5) aF) sc)<|aW (cL 2 (bC eS (aQ (IG Z) hr cQ<|Za (aD 2)<|Za (aD 7)<|Za (aD 5) aF)<|PXL.px<|gx<|Za (aD 7) aF) sc)<|aW (cL 4 (aQ (IG Z) hr cQ<|Za (bC eS (iy (aD 4) i5<|gX<|aD 6)<|iy (aD 4) (gX<|bC eS (aD 6) aN) i5)<|Za (aD 7)<|Za (aD 5) aF) sc)<|aU<|xa 3<|aD 5) cZ)<|fQ 3<|aU<|bB<|dP<|Za (aD 2)<|Za (aD 3) aF)
theorem IH:Fp P w K mg base 7 "are_independent" (Zet.take 2) ye:=bU Nw Z.av λsc hr hx hw=>aU<|bB (fU (dD hr.units) (cJ gE Z.dc P6<|Za (bG aP (aQ (Ez Z) hr hx<|Za (aD 0)<|Za (aD 1) aF) aN) aF)<|cJ gE Z.dc P6<|Za (aD 0) aF)
theorem k6:Fp P w K mg base 1 "size_of" (ZlM.take 1) jJ:=bU Lj Z.aw λsc hr hx hw=>aU<|bB (bC sM (bC eS (cJ gE Z.dc P6<|Za (aD 0) aF) aN) aN)
theorem EA:Fp P w K mg base 1 "is_whole" (ZjU.take 1) xh:=bU KU Z.aa λsc hr hx hw=>aU<|bB (Zc (cJ kT Z.df P1<|Za (aD 0)<|Za (kK Z.de boot_int) aF)<|kH<|Ke<|cJ kT Z.df P1<|Za (aD 0)<|Za (kK Z.dd boot_bool) aF)
theorem II:Fp P w K mg base 2 "is_share" (ZjV.take 1) xj:=bU K3 Z.ae λsc hr hx hw=>aW (dA (PXW.pxt<|iN (fK<|fG<|cJ kT Z.df P1<|Za (aD 0)<|Za (kK Z.c8 P7) aF)<|jc<|dC (cY hr.units) (cJ gE Z.dc P6<|Za (aD 0) aF) aN) (aU<|bB eI) cZ)<|aW (Cm (aD 0)<|iR rfl<|d7 (bL 1 sc)<|d7 (bL 2 sc) iQ) (aW (dA (PXW.pxt<|iN (fK<|fG<|aQ (EA Z) hr hx<|Za (aD 1) aF)<|jc<|fK<|fG<|aQ (EA Z) hr hx<|Za (aD 2) aF) (aU<|bB eI) cZ)<|aU<|bB<|Zc (fU pZ (aD 2) aN)<|kH<|fU (dD hr.units) (aQ (IE Z) hr hx<|Za (aD 1)<|Za (aD 2) aF) aN)
theorem OU:Fp P w K mg base 3 "is_row_within" (ZfB.take 3) zU:=bU K6 Z.af λsc hr hx hw=>aW (dA (PXW.pxt<|iN (fK<|fG<|cJ kT Z.df P1<|Za (aD 0)<|Za (kK Z.c8 P7) aF)<|jc<|fK<|Kg lE lE (aD 1) (cJ gE Z.dc P6<|Za (aD 0) aF)<|aD 2) (aU<|bB eI) cZ)<|aU (bB<|cJ (sO rfl) Z.dg Qq<|Za (PXL.px<|e7 ["part"] [] rfl (e8<|aD 0) (λ_ _ _=>QK) (λ_ _ _=>dW)<|λ_ _ _=>(aQ (II Z) hr cQ<|Za (aD 0) aF)) aF)
theorem IJ:Fp P w K mg base 4 "is_row" (Znv.take 2) xk:=bU La Z.ag λsc hr hx hw=>aU<|bB (aQ (OU Z) hr hx<|Za (aD 0)<|Za (aD 1)<|Za (aD 1) aF)
theorem OV:Fp P w K mg base 5 "is_weighed" (Zht.take 2) Au:=bU MY Z.b3 λsc hr hx hw=>aW (dA (PXW.pxt<|iN (fK<|fG<|cJ kT Z.df P1<|Za (aD 0)<|Za (kK Z.c8 P7) aF)<|jc<|dC (cY hr.units) (cJ gE Z.dc P6<|Za (aD 0) aF) aN) (aU<|bB eI) cZ)<|aU (bB<|Zc (aQ (II Z) hr hx<|Za (bG aP (aD 0) aN) aF)<|Zc (fU (cY hr.units) (bG aP (aD 0) aN)<|lK Z.c7)<|kH<|aQ (IJ Z) hr hx<|Za (bG aP (aD 0) aN)<|Za (aD 1) aF)
theorem EB:Fp P w K mg base 1 "row_of" (Zns.take 1) xm:=bU Lg Z.am λsc hr hx hw=>aU<|bB (kI mK Z.c8 P7<|Za (PXL.px<|e7 ["number"] [] rfl (e8<|aD 0) (λ_ _ _=>QK) (λ_ _ _=>dW)<|λ_ _ _=>(dP<|Za (aD 0)<|Za aN aF)) aF)
theorem IK:Fp P w K mg base 2 "is_within" (ZiX.take 3) zR:=bU KW Z.ab λsc hr hx hw=>aU<|bB (Zc (aQ (EA Z) hr hx<|Za (aD 0) aF)<|kH<|Kf lE lE (aD 1) (aD 0)<|aD 2)
theorem OW:Fp P w K mg base 3 "are_within" (Zhv.take 3) zS:=bU KY Z.ac λsc hr hx hw=>aU<|bB (Zc (cJ kT Z.df P1<|Za (aD 0)<|Za (kK Z.c8 P7) aF)<|kH<|cJ (sO rfl) Z.dg Qq<|Za (PXL.px<|e7 ["number"] [1,2] rfl (e8<|aD 0) (λ_ _ _=>QK) (λ_ _ _=>dW)<|λ_ _ _=>(aQ (IK Z) hr cQ<|Za (aD 0)<|Za (aD 1)<|Za (aD 2) aF)) aF)
theorem OX:Fp P w K mg base 4 "slants_good" (ZgH.take 1) zW:=bU Lk Z.ax λsc hr hx hw=>aW (dA (PXW.pxt<|iN (fK<|fG<|aQ (OW Z) hr hx<|Za (aD 0)<|Za (At Z.di)<|Za (At Z.dj) aF)<|jc<|dC (dD hr.units) (bC sL (cJ gE Z.dc P6<|Za (aD 0) aF) aN) aN) (aU<|bB eI) cZ)<|aU (bB<|fU lE (aQ (k6 Z) hr hx<|Za (aD 0) aF)<|At Z.dh)
theorem uZ:Fp P w K mg base 5 "need_slants" (ZgK.take 1) nq:=bU Lm Z.ay λsc hr hx hw=>aU<|dA (fK<|fG<|aQ (OX Z) hr hx<|Za (aD 0) aF) (aU<|sV hw Z.dk) cZ
theorem Bb:Fp P w K mg base 6 "table_of" (ZjN.take 1) uF:=bU Ln Z.az λsc hr hx hw=>aW (kU<|aQ (uZ Z) hr hx<|Za (aD 0) aF)<|aW (cL 1 (aQ (k6 Z) hr hx<|Za (aD 0) aF) sc) (aU<|bB<|PXL.px<|e7 ["i"] [0,1] rfl (kq Z.db<|Za (aD 1) aF) (λ_ _ _=>QK) (λ_ _ _=>dW)<|λ_ _ _=>(PXL.px<|zB zG Z.da Ql<|Za (iy (aD 1) (gX<|bC gz (bC gz (aD 2) aN)<|aD 0)<|gX<|bC gz (bC gz (bC gP aN<|aD 2) aN)<|aD 0) aF))
theorem Bc:Fp P w K mg base 7 "share_rows" (Zd1.take 1) sT:=bU Lq Z.a3 λsc hr hx hw=>aU<|bB (PXL.px<|e7 ["numbers"] [] rfl (e8<|aQ (Bb Z) hr hx<|Za (aD 0) aF) (λ_ _ _=>QK) (λ_ _ _=>dW)<|λ_ _ _=>(aQ (EB Z) hr cQ<|Za (aD 0) aF))
theorem OY:Fp P w K mg base 7 "share_rows" N0 D7:=bU N9 Z.a3 λsc hr hx hw=>aU<|bB (PXL.px<|e7 ["numbers"] [] rfl (e8<|aQ (Bb Z) hr hx<|Za (aD 0) aF) (λ_ _ _=>QK) (λ_ _ _=>dW)<|λ_ _ _=>(aQ (EB Z) hr cQ<|Za (aD 0) aF))
theorem OZ:Fp P w K mg base 8 "left_by" (ZlO.take 2) Av:=bU MZ Z.b4 λsc hr hx hw=>aW (cL 2 (aQ (Bc Z) hr hx<|Za (aD 0) aF) sc)<|fQ 2 (aW (i6<|jf PassesOwn.never rfl (e8<|aD 1) (iR rfl<|d7 (bL 3 sc)<|d7 (bL 4 sc) iQ)<|fQ 2<|aU<|p9 2 ["row", "share"] [3,4] rfl sc (uA Z.c9<|Za (aD 2)<|Za (aD 4) aF) (λ_ _ _=>(iR rfl<|d7 QK<|d7 QK iQ)) (λ_ _ _=>dW)<|λ_ _ _=>(aQ (Ba Z) hr cQ<|Za (aD 0)<|Za (aQ (Ey Z) hr cQ<|Za (aD 2)<|Za (aD 1) aF)<|Za (aD 3) aF))<|fQ 2<|aU<|bB<|aD 2)
theorem O0:Fp P w K mg base 6 "turned_slants" (Zfz.take 1) zX:=bU Lo Z.a0 λsc hr hx hw=>aW (kU<|aQ (uZ Z) hr hx<|Za (aD 0) aF)<|aU (bB<|zF<|aD 0)
theorem O1:Fp P w K mg base 7 "is_even" (ZlQ.take 1) Db:=bU LW Z.b0 λsc hr hx hw=>aU<|bB (fU (dD hr.units) (aQ (O0 Z) hr hx<|Za (aD 0) aF)<|aD 0)
theorem vK:Fp P w K mg base 8 "need_even" (ZiW.take 1) qs:=bU LY Z.b1 λsc hr hx hw=>aU<|dA (fK<|fG<|aQ (O1 Z) hr hx<|Za (aD 0) aF) (aU<|sV hw Z.dl) cZ
theorem EC:Fp P w K mg base 9 "squares_good" (Zea.take 2) S_squares_good:=bU rd_squares_good Z.b5 (λsc hr hx hw=>aW (kU<|aQ (vK Z) hr hx<|Za (aD 0) aF)<|aW (cL 2 (aQ (k6 Z) hr hx<|Za (aD 0) aF) sc)<|aW (dA (PXW.pxt<|iN (fK<|fG<|cJ kT Z.df P1<|Za (aD 1)<|Za (kK Z.da Ql) aF)<|jc<|dC pZ (cJ gE Z.dc P6<|Za (aD 1) aF)<|At Z.dm) (aU<|bB eI) cZ)<|aW (dA (fK<|fG<|cJ (sO rfl) Z.dg Qq<|Za (PXL.px<|e7 ["part"] [2] rfl (e8<|aD 1) (λ_ _ _=>QK) (λ_ _ _=>dW)<|λ_ _ _=>(aQ (OV Z) hr cQ<|Za (aD 0)<|Za (aD 1) aF)) aF) (aU<|bB eI) cZ)<|aU<|bB<|fU (dD hr.units) (aQ (OZ Z) hr hx<|Za (aD 0)<|Za (aD 1) aF)<|bC gP (PXL.px<|gx<|Za (bC uJ (dP<|Za (lK Z.c7) aF)<|aD 2) aF)<|aD 2) (len:=orS.len (xS.len λ_=>rfl)<|xS.len λ_=>rfl) (mono:=orS.mono xS.mono xS.mono)
theorem O2:Fp P w K mg base 10 "above_squares_good" (Zdm.take 2) D8:=bU OG Z.ce λsc hr hx hw=>aW (cL 2 (aQ (k6 Z) hr hx<|Za (aD 0) aF) sc)<|aW (dA (PXW.pxt<|iN (fK<|fG<|aQ (EC Z) hr hx<|Za (aD 0)<|Za (aD 1) aF)<|jc<|dC (cY hr.units) (cJ gE Z.dc P6<|Za (aD 1) aF)<|aD 2) (aU<|bB eI) cZ) (aW (cL 3 (cJ (sO rfl) Z.dg Qq<|Za (PXL.px<|e7 ["weight", "row"] [] rfl (e8<|aD 1) (λ_ _ _=>(iR rfl<|d7 QK<|d7 QK iQ)) (λ_ _ _=>dW)<|λ_ _ _=>(fU pZ (bG aP (aD 0) aN) aN)) aF) sc)<|aU<|bB<|Zc (aD 3)<|kH<|aQ (IH Z) hr hx<|Za (PXL.px<|e7 ["weight", "row"] [] rfl (e8<|aD 1) (λ_ _ _=>(iR rfl<|d7 QK<|d7 QK iQ)) (λ_ _ _=>dW)<|λ_ _ _=>(aD 1))<|Za (aD 2) aF)
theorem yD:Fp P w K mg base 6 "row_good" (ZjS.take 2) rh:=bU Lp Z.a2 λsc hr hx hw=>aW (kU<|aQ (uZ Z) hr hx<|Za (aD 0) aF)<|aU (bB<|aQ (IJ Z) hr hx<|Za (aD 1)<|Za (aQ (k6 Z) hr hx<|Za (aD 0) aF) aF)
theorem O3:Fp P w K mg base 3 "plus" (Zqg.take 2) zV:=bU Lc Z.ai λsc hr hx hw=>aU<|bB (aQ (A9 Z) hr hx<|Za (bC eS (bC gP (bG aP (aD 0) aN)<|bG aP (aD 1) aN)<|bC gP (bG aP (aD 1) aN)<|bG aP (aD 0) aN)<|Za (bC gP (bG aP (aD 0) aN)<|bG aP (aD 1) aN) aF)
theorem IL:Fp P w K mg base 4 "sum_of_products" (Zes.take 2) xn:=bU Lh Z.aq λsc hr hx hw=>aW (cL 2 (lK Z.c7) sc)<|aW (i6<|jf PassesOwn.never rfl (uA Z.c9<|Za (aD 0)<|Za (aD 1) aF) (iR rfl<|d7 (bL 3 sc)<|d7 (bL 4 sc) iQ)<|aU<|cL 2 (aQ (O3 Z) hr cQ<|Za (aD 2)<|Za (aQ (Ey Z) hr cQ<|Za (aD 3)<|Za (aD 4) aF) aF) sc) (aU<|bB<|aD 2)
theorem Be:Fp P w K mg base 8 "times_row" (ZiU.take 2) uH:=bU Lr Z.a4 λsc hr hx hw=>aW (dA (fK<|fG<|aQ (yD Z) hr hx<|Za (aD 0)<|Za (aD 1) aF) (aU<|sV hw Z.dn) cZ)<|aU (bB<|kI mK Z.c8 P7<|Za (PXL.px<|e7 ["line"] [1] rfl (e8<|aQ (Bc Z) hr hx<|Za (aD 0) aF) (λ_ _ _=>QK) (λ_ _ _=>dW)<|λ_ _ _=>(aQ (IL Z) hr cQ<|Za (aD 0)<|Za (aD 1) aF)) aF)
theorem tF:Fp P w K mg base 9 "pair_at" (ZlN.take 3) lJ:=bU LZ Z.b2 λsc hr hx hw=>aW (kU<|aQ (vK Z) hr hx<|Za (aD 0) aF)<|aW (dA (fK<|fG<|aQ (yD Z) hr hx<|Za (aD 0)<|Za (aD 1) aF) (aU<|sV hw Z.dn) cZ) (aU<|bB<|aQ (IL Z) hr hx<|Za (aD 1)<|Za (aQ (Be Z) hr hx<|Za (aD 0)<|Za (aD 2) aF) aF)
theorem O4:Fp P w K mg base 10 "not_above_good" (Ze7.take 2) D9:=bU OH Z.cf λsc hr hx hw=>aW (dA (PXW.pxt<|iN (fK<|fG<|aQ (yD Z) hr hx<|Za (aD 0)<|Za (aD 1) aF)<|jc<|dC (dD hr.units) (aD 1)<|bC uJ (dP<|Za (lK Z.c7) aF)<|aQ (k6 Z) hr hx<|Za (aD 0) aF) (aU<|bB eI) cZ)<|aU (bB<|fU lE (bG aP (aQ (tF Z) hr hx<|Za (aD 0)<|Za (aD 1)<|Za (aD 1) aF) aN) aN)
theorem ED:Fp P w K mg base 11 "above_good" (Zhy.take 2) tD:=bU OI Z.cg (λsc hr hx hw=>aW (kU<|aQ (vK Z) hr hx<|Za (aD 0) aF)<|aW (dA (PXW.pxt<|iN (fK<|fG<|cJ kT Z.df P1<|Za (aD 1)<|Za (kK Z.c8 P7) aF)<|jc<|dC (cY hr.units) (cJ gE Z.dc P6<|Za (aD 1) aF) aN) (aU<|bB eI) cZ)<|aW (dA (dC (dD hr.units) (bG aP (aD 1) aN) gM) (aU<|bB<|aQ (O2 Z) hr hx<|Za (aD 0)<|Za (bG aP (aD 1) aN) aF) cZ)<|aU<|bB<|Zc (fU (dD hr.units) (bG aP (aD 1) aN) gM)<|kH<|aQ (O4 Z) hr hx<|Za (aD 0)<|Za (bG aP (aD 1) aN) aF) (len:=orS.len (xS.len λ_=>rfl)<|xS.len λ_=>rfl) (mono:=orS.mono xS.mono xS.mono)
theorem O5:Fp P w K mg base 10 "apart_from" (Zhx.take 3) AG:=bU Ny Z.b7 λsc hr hx hw=>aU<|bB (aQ (Ba Z) hr hx<|Za (aD 1)<|Za (aQ (Ev Z) hr hx<|Za (aQ (tF Z) hr hx<|Za (aD 0)<|Za (aD 1)<|Za (aD 2) aF)<|Za (aQ (tF Z) hr hx<|Za (aD 0)<|Za (aD 2)<|Za (aD 2) aF) aF)<|Za (aD 2) aF)
theorem IM:Fp P w K mg base 10 "lead_among" (Zhs.take 2) yf:=bU NA Z.b6 λsc hr hx hw=>fQ 4<|aW (i6<|jf PassesOwn.never rfl (sX Z.c6<|Za (aD 1) aF) (iR rfl<|d7 (bL 2 sc)<|d7 (bL 3 sc) iQ)<|aW (p9 4 ["other"] [3] rfl sc (e8<|iy (aD 1) (gX<|bC eS (aD 2) aN) i5) (λ_ _ _=>QK) (λ_ _ _=>dW)<|λ_ _ _=>(aQ (Ba Z) hr cQ<|Za (aD 1)<|Za (aQ (Ew Z) hr cQ<|Za (lK Z.c7)<|Za (lK Z.dp) aF)<|Za (aD 0) aF))<|fQ 4<|aU<|i6<|jf PassesOwn.never rfl (e8<|bC eS (PXL.px<|gx<|Za (aD 3) aF)<|aD 4) (bL 5 sc)<|aU<|dA (dC (cY hr.units) (aQ (tF Z) hr cQ<|Za (aD 0)<|Za (aD 5)<|Za (aD 5) aF)<|lK Z.c7) (aU<|bB<|dP<|Za (aD 2)<|Za (aD 5) aF) cZ) (aU<|bB qk)
theorem vL:Fp P w K mg base 2 "one_at" (Znu.take 2) rC:=bU Ma Z.an λsc hr hx hw=>aU<|bB (aQ (EB Z) hr hx<|Za (PXL.px<|e7 ["at"] [0] rfl (kq Z.db<|Za (aD 1) aF) (λ_ _ _=>QK) (λ_ _ _=>dW)<|λ_ _ _=>(kI zH Z.de boot_int<|Za (fU (dD hr.units) (aD 0)<|aD 1) aF)) aF)
theorem EE:Fp P w K mg base 11 "apart_rows" (Zhw.take 1) tu:=bU NC Z.b8 λsc hr hx hw=>aW (kU<|aQ (vK Z) hr hx<|Za (aD 0) aF)<|aW (cL 1 (aQ (k6 Z) hr hx<|Za (aD 0) aF) sc) (aW (sP 2 (gx aF) sc)<|aW (p9 3 ["place"] [1] rfl sc (kq Z.db<|Za (aD 1) aF) (λ_ _ _=>QK) (λ_ _ _=>dW)<|λ_ _ _=>(aQ (vL Z) hr cQ<|Za (aD 0)<|Za (aD 1) aF))<|fQ 3<|aW (cL 4 (aQ (IM Z) hr hx<|Za (aD 0)<|Za (aD 3) aF) sc)<|fQ 3<|aW (i6<|Cn PassesOwn.never (dC uM (aD 4) qk)<|aW (Cm (aD 4)<|iR rfl<|d7 (bL 5 sc)<|d7 (bL 6 sc) iQ)<|aW (xa 2<|aD 6)<|fQ 3<|aW (p9 3 ["row"] [0,6] rfl sc (e8<|bC eS (iy (aD 3) i5<|gX<|aD 5)<|iy (aD 3) (gX<|bC eS (aD 5) aN) i5) (λ_ _ _=>QK) (λ_ _ _=>dW)<|λ_ _ _=>(aQ (O5 Z) hr cQ<|Za (aD 1)<|Za (aD 0)<|Za (aD 2) aF))<|fQ 3<|aU<|cL 4 (aQ (IM Z) hr cQ<|Za (aD 0)<|Za (aD 3) aF) sc)<|fQ 2<|fQ 3<|aU<|bB<|bC eS (aD 2)<|aD 3)
theorem IN:Fp P w K mg base 12 "squares_of" (Zhp.take 1) S_squares_of:=bU Of Z.b9 (λsc hr hx hw=>aW (sP 1 (gx aF) sc)<|aW (jf PassesOwn.leaving rfl (e8<|aQ (EE Z) hr hx<|Za (aD 0) aF) (bL 2 sc)<|aW (cL 3 (aQ (tF Z) hr hx<|Za (aD 0)<|Za (aD 2)<|Za (aD 2) aF) sc)<|aU<|dA (dC (cY hr.units) (aD 3)<|lK Z.c7) (aU<|xa 1<|dP<|Za (aD 3)<|Za (aQ (IF Z) hr hx<|Za (aQ (Be Z) hr hx<|Za (aD 0)<|Za (aD 2) aF)<|Za (aD 3) aF) aF) cZ)<|fQ 1<|aU<|bB<|aD 1) (len:=orS.len (fnS.len λ_=>rfl)<|xS.len λ_=>rfl) (mono:=orS.mono fnS.mono xS.mono)
theorem Bf:Fp P w K mg base 13 "above_paper" (ZgL.take 1) rK:=bU NH Z.ch λsc hr hx hw=>aW (jf PassesOwn.leaving rfl (e8<|aQ (EE Z) hr hx<|Za (aD 0) aF) (bL 1 sc)<|aU<|dA (dC lE (bG aP (aQ (tF Z) hr hx<|Za (aD 0)<|Za (aD 1)<|Za (aD 1) aF) aN) aN) (aU<|bB<|dP<|Za gM<|Za (aD 1) aF) cZ)<|aU (bB<|dP<|Za gM<|Za (aQ ((IN Z).left fnS.mono) hr hx<|Za (aD 0) aF) aF)
theorem IO:Fp P w K mg base 14 "is_above" (ZjW.take 1) vF:=bU NI Z.cd λsc hr hx hw=>aU<|bB (fU (dD hr.units) (bG aP (aQ (Bf Z) hr hx<|Za (aD 0) aF) aN) gM)
theorem O6:Fp P w K mg base 15 "_law_above_right" (Zd3.take 1) A2:=bU Ot Z.c0 λsc hr hx hw=>aW (vb 1 2 sc<|Za (bC eS aN<|aQ (o9 Z) hr hx<|Za (aD 0)<|Za aN aF)<|Za (bC eS aN<|aQ (o9 Z) hr hx<|Za (aD 0)<|Za aN aF) aF)<|aW (vb 3 4 sc<|Za (bC uJ (dP<|Za (aD 2) aF)<|bC gz (bC gP aN<|aD 1) aN)<|Za (bC uJ (dP<|Za (dP<|Za aN<|Za aN aF) aF)<|aD 1) aF) (aW (i6<|jf PassesOwn.never rfl (Fe Z.db<|Za aN<|Za aN aF) (bL 5 sc)<|aW (cL 6 (bC gP (PXL.px<|gx<|Za (dP<|Za (aQ (yC Z) hr cQ<|Za (aD 2)<|Za (aD 5) aF)<|Za (aD 4) aF) aF)<|aD 5) sc)<|aW (dA (dC uM (aQ (EC Z) hr cQ<|Za (aD 3)<|Za (aD 6) aF) eI) (aU<|bB eI) cZ)<|aW (cL 7 (aQ (ED Z) hr cQ<|Za (aD 3)<|Za (dP<|Za gM<|Za (aD 6) aF) aF) sc)<|aU<|dA (PXW.pxt<|iN (fK<|fG<|cJ kT Z.df P1<|Za (aD 7)<|Za (kK Z.dd boot_bool) aF)<|jc<|dC (cY hr.units) (aD 7)<|Zc (fU (dD hr.units) (aD 1) aN)<|kH<|fU (dD hr.units) (aD 5) aN) (aU<|bB eI) cZ)<|aW (dA (dC (cY hr.units) (aQ (IO Z) hr hx<|Za (aD 3) aF)<|fU (dD hr.units) (aD 1) aN) (aU<|bB eI) cZ)<|HY 8 3 (aQ (Bf Z) hr hx<|Za (aD 3) aF) (fG<|cJ kT Z.df P1<|Za (bG aP (aD 8) aN)<|Za (kK Z.da Ql) aF) (aU<|bB<|fU uL (aQ (ED Z) hr hx<|Za (aD 3)<|Za (aQ (Bf Z) hr hx<|Za (aD 3) aF) aF) eI) sc)
theorem O7:Fp P w K mg base 1 "_law_cell_at" (ZfU.take 2) z7:=bU Lv Z.co λsc hr hx hw=>aW (dA (dC kJ (aD 1)<|cJ gE Z.dc P6<|Za (aD 0) aF) (aU<|bB<|bG aP (aD 0)<|aD 1) cZ)<|aU (bB aN)
theorem IP:Fp P w K mg base 2 "_law_less" (Zi5.take 2) uX:=bU Oh Z.cu λsc hr hx hw=>aU<|bB (aQ (yC Z) hr hx<|Za (bC gz (bC gP (bG aP (aD 0) aN)<|bG aP (aD 1) aN)<|bC gP (bG aP (aD 1) aN)<|bG aP (aD 0) aN)<|Za (bC gP (bG aP (aD 0) aN)<|bG aP (aD 1) aN) aF)
theorem O8:Fp P w K mg base 2 "_law_times" (Zhz.take 2) AY:=bU Oi Z.cv λsc hr hx hw=>aU<|bB (aQ (yC Z) hr hx<|Za (bC gP (bG aP (aD 0) aN)<|bG aP (aD 1) aN)<|Za (bC gP (bG aP (aD 0) aN)<|bG aP (aD 1) aN) aF)
theorem O9:Fp P w K mg base 3 "_law_back" (Zi7.take 1) A0:=bU Os Z.cx λsc hr hx hw=>aW (cL 1 (cJ gE Z.dc P6<|Za (aD 0) aF) sc)<|aW (sP 2 (gx aF) sc) (aW (i6<|jf PassesOwn.never rfl (sX Z.c6<|Za (aD 0) aF) (iR rfl<|d7 (bL 3 sc)<|d7 (bL 4 sc) iQ)<|aU<|xa 2<|bC eS (PXL.px<|e7 ["_law_number"] [] rfl (e8<|aD 4) (λ_ _ _=>QK) (λ_ _ _=>dW)<|λ_ _ _=>(dP<|Za (aD 0)<|Za aN aF))<|PXL.px<|e7 ["_law_place"] [3] rfl (kq Z.db<|Za (aD 1) aF) (λ_ _ _=>QK) (λ_ _ _=>dW)<|λ_ _ _=>(dP<|Za (kI zH Z.de boot_int<|Za (fU (dD hr.units) (aD 1)<|aD 0) aF)<|Za aN aF))<|fQ 5<|aW (i6<|jf PassesOwn.never rfl (kq Z.db<|Za (aD 1) aF) (bL 3 sc)<|aW (LE 5 2 ["_law_place"] [2,3] rfl sc (Fe Z.db<|Za (aD 3)<|Za (aD 1) aF) (λ_ _ _=>QK) (λ_ _ _=>(w4<|dC (cY hr.units) (bG aP (bG aP (aD 1)<|aD 0)<|aD 2)<|dP<|Za aN<|Za aN aF))<|λ_ _ _=>(aD 0))<|fQ 5<|aW (dA (dC (dD hr.units) (aD 5)<|PXL.px<|gx aF) (aU<|bB qk) cZ)<|fQ 5<|aW (LO 2 (dP<|Za (xb 2<|bG aP (aD 5) aN)<|Za (xb 2<|aD 3) aF) (aD 3)<|bG aP (aD 5) aN)<|aW (cL 6 (Co 2<|bG aP (bG aP (aD 2)<|aD 3)<|aD 3) sc)<|aW (zL 2 (aD 3)<|PXL.px<|e7 ["_law_one"] [6] rfl (e8<|xb 2<|aD 3) (λ_ _ _=>QK) (λ_ _ _=>dW)<|λ_ _ _=>(aQ (yC Z) hr cQ<|Za (bC gP (bG aP (aD 0) aN)<|bG aP (aD 1) aN)<|Za (bC gP (bG aP (aD 0) aN)<|bG aP (aD 1) aN) aF))<|aU<|i6<|jf PassesOwn.never rfl (e8<|PXL.px<|e7 ["_law_other"] [3] rfl (kq Z.db<|Za (aD 1) aF) (λ_ _ _=>QK) (λ_ _ _=>(w4<|dC (cY hr.units) (aD 0)<|aD 1))<|λ_ _ _=>(aD 0)) (bL 7 sc)<|aW (cL 8 (Co 2<|bG aP (bG aP (aD 2)<|aD 7)<|aD 3) sc)<|aU<|zL 2 (aD 7)<|PXL.px<|e7 ["_law_one", "_law_other"] [8] rfl (uA Z.c9<|Za (xb 2<|aD 7)<|Za (xb 2<|aD 3) aF) (λ_ _ _=>(iR rfl<|d7 QK<|d7 QK iQ)) (λ_ _ _=>dW)<|λ_ _ _=>(aQ (IP Z) hr cQ<|Za (aD 0)<|Za (aQ (O8 Z) hr cQ<|Za (aD 2)<|Za (aD 1) aF) aF))<|fQ 2<|aU<|bB<|PXL.px<|e7 ["_law_line"] [1] rfl (e8<|aD 2) (λ_ _ _=>QK) (λ_ _ _=>dW)<|λ_ _ _=>(iy (aD 0) (gX<|aD 1) i5))
theorem EF:Fp P w K mg base 3 "_law_is_unit" (ZfT.take 3) vH:=bU Ol Z.cy λsc hr hx hw=>aW (i6<|jf PassesOwn.never rfl (sX Z.c6<|Za (aD 0) aF) (iR rfl<|d7 (bL 3 sc)<|d7 (bL 4 sc) iQ)<|aW (cL 5 (dP<|Za aN<|Za aN aF) sc)<|aW (i6<|jf PassesOwn.never rfl (uA Z.c9<|Za (aD 4)<|Za (aD 1) aF) (iR rfl<|d7 (bL 6 sc)<|d7 (bL 7 sc) iQ)<|aU<|cL 5 (aQ (IP Z) hr cQ<|Za (aD 5)<|Za (dP<|Za (bC gz aN<|bC gP (aD 6)<|bG aP (aD 7) aN)<|Za (bG aP (aD 7) aN) aF) aF) sc)<|aU<|dA (dC (cY hr.units) (aD 5)<|dP<|Za (kI zH Z.de boot_int<|Za (fU (dD hr.units) (aD 3)<|aD 2) aF)<|Za aN aF) (aU<|bB eI) cZ)<|aU (bB eI)
theorem Pb:Fp P w K mg base 1 "_law_table" (ZhA.take 1) AZ:=bU Oj Z.cw λsc hr hx hw=>aW (cL 1 (bC sM (bC eS (cJ gE Z.dc P6<|Za (aD 0) aF) aN) aN) sc)<|aU (bB<|PXL.px<|e7 ["_law_row"] [0,1] rfl (kq Z.db<|Za (aD 1) aF) (λ_ _ _=>QK) (λ_ _ _=>dW)<|λ_ _ _=>(PXL.px<|e7 ["_law_column"] [0,1,2] rfl (kq Z.db<|Za (aD 2) aF) (λ_ _ _=>QK) (λ_ _ _=>dW)<|λ_ _ _=>(bG aP (aD 2)<|bC gz (bC eS (bC gz (aD 0)<|aD 1)<|aD 3) aN)))
theorem Bg:Fp P w K mg base 9 "makes" (Zo5.take 3) uP:=bU Mb Z.a5 λsc hr hx hw=>aU<|bB (Zc (aQ (yD Z) hr hx<|Za (aD 0)<|Za (aD 1) aF)<|kH<|fU (dD hr.units) (aQ (Be Z) hr hx<|Za (aD 0)<|Za (aD 1) aF)<|aD 2)
theorem Pc:Fp P w K mg base 10 "ends_good" (Zi0.take 2) Ai:=bU Mf Z.a6 λsc hr hx hw=>aW (dA (PXW.pxt<|iN (fK<|fG<|cJ kT Z.df P1<|Za (aD 1)<|Za (kK Z.c8 P7) aF)<|jc<|dC (cY hr.units) (cJ gE Z.dc P6<|Za (aD 1) aF) aN) (aU<|bB eI) cZ)<|aW (cL 2 (aQ (k6 Z) hr hx<|Za (aD 0) aF) sc) (aU<|bB<|Zc (aQ (Bg Z) hr hx<|Za (aD 0)<|Za (bG aP (aD 1) aN)<|Za (aQ (vL Z) hr hx<|Za aN<|Za (aD 2) aF) aF)<|kH<|aQ (Bg Z) hr hx<|Za (aD 0)<|Za (bG aP (aD 1) aN)<|Za (aQ (vL Z) hr hx<|Za (bC gz (aD 2) aN)<|Za (aD 2) aF) aF)
theorem Pd:Fp P w K mg base 10 "nought_row_good" ps_nought_row_good S_nought_row_good:=bU rd_nought_row_good Z.a9 λsc hr hx hw=>aW (cL 2 (bC uJ (dP<|Za (lK Z.c7) aF)<|aQ (k6 Z) hr hx<|Za (aD 0) aF) sc)<|aU (bB<|Zc (aQ (Bg Z) hr hx<|Za (aD 0)<|Za (aD 1)<|Za (aD 2) aF)<|kH<|fU (cY hr.units) (aD 1)<|aD 2)
theorem Pe:Fp P w K mg base 10 "one_rows_good" ps_one_rows_good S_one_rows_good:=bU rd_one_rows_good Z.a8 λsc hr hx hw=>aW (cL 2 (aQ (k6 Z) hr hx<|Za (aD 0) aF) sc)<|aW (dA (PXW.pxt<|iN (fK<|fG<|cJ kT Z.df P1<|Za (aD 1)<|Za (kK Z.da Ql) aF)<|jc<|dC (cY hr.units) (cJ gE Z.dc P6<|Za (aD 1) aF)<|aD 2) (aU<|bB eI) cZ) (aU<|bB<|cJ (sO rfl) Z.dg Qq<|Za (PXL.px<|e7 ["place", "row"] [0,2] rfl (sX Z.c6<|Za (aD 1) aF) (λ_ _ _=>(iR rfl<|d7 QK<|d7 QK iQ)) (λ_ _ _=>dW)<|λ_ _ _=>(aQ (Bg Z) hr cQ<|Za (aD 2)<|Za (aD 1)<|Za (aQ (vL Z) hr cQ<|Za (aD 0)<|Za (aD 3) aF) aF)) aF)
theorem Bh:Fp P w K mg base 11 "paper_good" ps_paper_good S_paper_good:=bU rd_paper_good Z.ba λsc hr hx hw=>aW (kU<|aQ (uZ Z) hr hx<|Za (aD 0) aF)<|aW (dA (PXW.pxt<|iN (fK<|fG<|cJ kT Z.df P1<|Za (aD 1)<|Za (kK Z.c8 P7) aF)<|jc<|dC Fy (cJ gE Z.dc P6<|Za (aD 1) aF)<|dP<|Za aN<|Za aN aF) (aU<|bB eI) cZ) (aW (dA (dC (dD hr.units) (cJ gE Z.dc P6<|Za (aD 1) aF) aN) (aU<|bB<|Zc (fU (dD hr.units) (bG aP (aD 1) aN) gM)<|Zc (aQ (Pc Z) hr hx<|Za (aD 0)<|Za (iy (aD 1) (gX aN) i5) aF)<|kH<|fU (cY hr.units) (bG aP (bG aP (aD 1) aN) aN)<|lK Z.c7) cZ)<|aW (dA (dC (dD hr.units) (bG aP (aD 1) aN) gM) (aU<|bB<|aQ (Pe Z) hr hx<|Za (aD 0)<|Za (bG aP (aD 1) aN) aF) cZ)<|aU<|bB<|Zc (fU (dD hr.units) (bG aP (aD 1) aN) gM)<|kH<|aQ (Pd Z) hr hx<|Za (aD 0)<|Za (bG aP (aD 1) aN) aF)
theorem Pf:Fp P w K mg base 4 "free_row" (ZjX.take 4) Am:=bU My Z.bg λsc hr hx hw=>aW (sP 4 (zB zG Z.da Ql<|Za (aQ (vL Z) hr hx<|Za (aD 0)<|Za (aD 1) aF) aF) sc)<|aW (i6<|jf PassesOwn.never rfl (uA Z.c9<|Za (aD 2)<|Za (aD 3) aF) (iR rfl<|d7 (bL 5 sc)<|d7 (bL 6 sc) iQ)<|aU<|zL 4 (aD 6)<|aQ (Ew Z) hr cQ<|Za (lK Z.c7)<|Za (bG aP (aD 5)<|aD 0) aF) (fQ 4<|aU<|bB<|kI mK Z.c8 P7<|Za (aD 4) aF)
theorem IQ:Fp P w K mg base 8 "free_rows" (ZiY.take 1) uS:=bU Mz Z.bh λsc hr hx hw=>aW (kU<|aQ (uZ Z) hr hx<|Za (aD 0) aF)<|aW (cL 1 (aQ (k6 Z) hr hx<|Za (aD 0) aF) sc) (aW (Cm (aQ (Ez Z) hr hx<|Za (aQ (Bc Z) hr hx<|Za (aD 0) aF)<|Za (aD 1) aF)<|iR rfl<|d7 (bL 2 sc)<|d7 (bL 3 sc) iQ)<|aU<|bB<|PXL.px<|e7 ["place"] [1,2,3] rfl (kq Z.db<|Za (aD 1) aF) (λ_ _ _=>QK) (λ_ _ _=>(w4<|dC Fy (aD 0)<|aD 3))<|λ_ _ _=>(aQ (Pf Z) hr cQ<|Za (aD 0)<|Za (aD 1)<|Za (aD 2)<|Za (aD 3) aF))
theorem IR:Fp P w K mg base 8 "back_rows" (Zi1.take 1) xO:=bU MK Z.bb λsc hr hx hw=>aW (cL 1 (aQ (k6 Z) hr hx<|Za (aD 0) aF) sc)<|aW (p9 2 ["place", "row"] [1] rfl sc (sX Z.c6<|Za (aQ (Bc Z) hr hx<|Za (aD 0) aF) aF) (λ_ _ _=>(iR rfl<|d7 QK<|d7 QK iQ)) (λ_ _ _=>dW)<|λ_ _ _=>(bC eS (aD 1)<|aQ (vL Z) hr cQ<|Za (aD 0)<|Za (aD 2) aF)) (fQ 2<|aU<|bB<|PXL.px<|e7 ["row"] [1] rfl (e8<|bG aP (aQ (Ez Z) hr hx<|Za (aD 2)<|Za (aD 1) aF) aN) (λ_ _ _=>QK) (λ_ _ _=>dW)<|λ_ _ _=>(iy (aD 0) (gX<|aD 1) i5))
theorem IS:Fp P w K mg base 9 "one_rows" (ZjT.take 1) xP:=bU ML Z.bc λsc hr hx hw=>aW (cL 1 (aQ (IR Z) hr hx<|Za (aD 0) aF) sc)<|aU (bB<|PXL.px<|e7 ["place"] [1] rfl (kq Z.db<|Za (cJ gE Z.dc P6<|Za (aD 1) aF) aF) (λ_ _ _=>QK) (λ_ _ _=>dW)<|λ_ _ _=>(kI mK Z.c8 P7<|Za (PXL.px<|e7 ["row"] [0] rfl (e8<|aD 1) (λ_ _ _=>QK) (λ_ _ _=>dW)<|λ_ _ _=>(bG aP (aD 0)<|aD 1)) aF))
theorem EG:Fp P w K mg base 10 "paper_of" (Zg8.take 1) S_paper_of:=bU rd_paper_of Z.bd (λsc hr hx hw=>aW (cL 1 (aQ (IQ Z) hr hx<|Za (aD 0) aF) sc)<|aW (dA (dC pZ (cJ gE Z.dc P6<|Za (aD 1) aF) aN) (aU<|bB<|dP<|Za gM<|Za (bG aP (aD 1) aN) aF) cZ)<|aU<|bB<|dP<|Za gM<|Za (aQ (IS Z) hr hx<|Za (aD 0) aF) aF) (len:=orS.len (fnS.len λ_=>rfl)<|xS.len λ_=>rfl) (mono:=orS.mono fnS.mono xS.mono)
theorem Pg:Fp P w K mg base 12 "_law_full_right" (Zev.take 1) A1:=bU OD Z.cz λsc hr hx hw=>aW (cL 1 (bC eS aN<|aQ (o9 Z) hr hx<|Za (aD 0)<|Za aN aF) sc)<|aW (cL 2 (aQ (o9 Z) hr hx<|Za (aD 0)<|Za (aD 1) aF) sc) (aW (cL 3 (kI mK Z.c8 P7<|Za (PXL.px<|e7 ["_law_place"] [0] rfl (kq Z.db<|Za (aD 1) aF) (λ_ _ _=>QK) (λ_ _ _=>dW)<|λ_ _ _=>(aQ (yC Z) hr cQ<|Za (bC gz (aQ (o9 Z) hr cQ<|Za (aD 1)<|Za aN aF) aN)<|Za (bC eS aN<|aQ (o9 Z) hr cQ<|Za (aD 1)<|Za aN aF) aF)) aF) sc)<|aW (p9 4 ["_law_place"] [0] rfl sc (kq Z.db<|Za (bC gz (bC gP aN<|aD 1) aN) aF) (λ_ _ _=>QK) (λ_ _ _=>dW)<|λ_ _ _=>(bC gz (aQ (o9 Z) hr cQ<|Za (aD 1)<|Za aN aF) aN))<|aW (zL 4 (bC gz (aD 1) aN)<|Co 4<|bC eS (bG aP (aD 4)<|bC gz (aD 1) aN) aN)<|fQ 4<|aW (cL 4 (kI mK Z.c8 P7<|Za (aD 4) aF) sc)<|aW (cL 5 (aQ (Pb Z) hr hx<|Za (aD 4) aF) sc)<|aW (cL 6 (aQ (O9 Z) hr hx<|Za (aD 5) aF) sc)<|aW (p9 7 ["_law_column"] [1,6] rfl sc (kq Z.db<|Za (aD 1) aF) (λ_ _ _=>QK) (λ_ _ _=>dW)<|λ_ _ _=>(kI mK Z.c8 P7<|Za (PXL.px<|e7 ["_law_place"] [0,2] rfl (kq Z.db<|Za (aD 1) aF) (λ_ _ _=>QK) (λ_ _ _=>dW)<|λ_ _ _=>(bG aP (bG aP (aD 2)<|aD 0)<|aD 1)) aF))<|fQ 7<|aW (cL 8 (bC eS (bC eS (iy (aD 7) i5<|gX<|aD 2)<|PXL.px<|gx<|Za (aD 3) aF)<|iy (aD 7) (gX<|bC eS (aD 2) aN) i5) sc)<|fQ 7<|aW (cL 9 (PXL.px<|gx<|Za (aD 7)<|Za (zF<|aD 7)<|Za (aD 8)<|Za (bC eS (iy (aD 7) (gX aN) i5)<|iy (aD 7) i5<|gX aN)<|Za (bC gP (PXL.px<|gx<|Za (bG aP (aD 7) aN) aF)<|aD 1)<|Za (bC gP (PXL.px<|gx<|Za (aD 3) aF)<|aD 1)<|Za (iy (aD 7) i5<|gX<|ql qm aN)<|Za (bC eS (aD 7)<|iy (aD 7) i5<|gX aN) aF) sc)<|aW (i6<|jf PassesOwn.never rfl (e8<|aD 9) (bL 10 sc)<|aW (cL 11 (Zc (fU (dD hr.units) (cJ gE Z.dc P6<|Za (aD 10) aF)<|aD 1)<|kH<|cJ (sO rfl) Z.dg Qq<|Za (PXL.px<|e7 ["_law_k", "_law_one"] [5] rfl (sX Z.c6<|Za (aD 10) aF) (λ_ _ _=>(iR rfl<|d7 QK<|d7 QK iQ)) (λ_ _ _=>dW)<|λ_ _ _=>(aQ (EF Z) hr cQ<|Za (aD 2)<|Za (aD 1)<|Za (aD 0) aF)) aF) sc)<|aW (cL 12 (cJ (Af hr.gd hr.units) Z.dq Ad<|Za (aD 10) aF) sc)<|aW (cL 13 (aQ (Bh Z) hr cQ<|Za (aD 4)<|Za (dP<|Za gM<|Za (aD 10) aF) aF) sc)<|aU<|dA (PXW.pxt<|iN (fK<|fG<|cJ kT Z.df P1<|Za (aD 13)<|Za (kK Z.dd boot_bool) aF)<|iN (dC (cY hr.units) (aD 13)<|aD 11)<|jc<|dC Gb (cJ (Af hr.gd hr.units) Z.dq Ad<|Za (aD 10) aF)<|aD 12) (aU<|bB eI) cZ)<|fQ 7<|aW (i6<|jf PassesOwn.never rfl (e8<|PXL.px<|gx<|Za (dP<|Za (bG aP (aD 7) aN)<|Za (bG aP (aD 7)<|ql qm aN) aF)<|Za (dP<|Za (bG aP (aD 7) aN)<|Za (aD 3) aF)<|Za (dP<|Za (aD 3)<|Za (bG aP (aD 7)<|ql qm aN) aF)<|Za (dP<|Za (bG aP (aD 7) aN)<|Za (bG aP (aD 7) aN) aF)<|Za (dP<|Za (bG aP (aD 7)<|ql qm aN)<|Za (bG aP (aD 7) aN) aF) aF) (iR rfl<|d7 (bL 14 sc)<|d7 (bL 15 sc) iQ)<|aW (cL 11 (Zc (aQ (EF Z) hr cQ<|Za (aD 5)<|Za (aD 14)<|Za aN aF)<|Zc (aQ (EF Z) hr cQ<|Za (aD 5)<|Za (aD 15)<|Za (bC gz (aD 1) aN) aF)<|kH<|fU (cY hr.units) (bG aP (bG aP (aD 14) aN) aN) aN) sc)<|aU<|dA (dC (cY hr.units) (aQ (Bh Z) hr cQ<|Za (aD 4)<|Za (dP<|Za gM<|Za (aD 14)<|Za (aD 15) aF) aF)<|aD 11) (aU<|bB eI) cZ)<|aW (dA (dC uM (aQ (Bh Z) hr hx<|Za (aD 4)<|Za (dP<|Za gM<|Za (aD 3) aF) aF) eI) (aU<|bB eI) cZ)<|HY 16 4 (aQ (EG Z) hr hx<|Za (aD 4) aF) (fG<|cJ kT Z.df P1<|Za (bG aP (aD 16) aN)<|Za (kK Z.da Ql) aF) (aU<|bB<|fU uL (aQ (Bh Z) hr hx<|Za (aD 4)<|Za (aQ (EG Z) hr hx<|Za (aD 4) aF) aF) eI) sc)
theorem Ph:Fp P w K mg base 9 "free_many" (ZiZ.take 1) xL:=bU MB Z.bi λsc hr hx hw=>aU<|bB (cJ gE Z.dc P6<|Za (aQ (IQ Z) hr hx<|Za (aD 0) aF) aF)
theorem Pi:Fp P w K mg base 10 "is_full" (ZlP.take 1) xM:=bU ME Z.be λsc hr hx hw=>aU<|bB (fU (dD hr.units) (aQ (Ph Z) hr hx<|Za (aD 0) aF) aN)
theorem IT:Fp P w K mg base 11 "need_full" (ZiV.take 1) xN:=bU MH Z.bf λsc hr hx hw=>aU<|dA (fK<|fG<|aQ (Pi Z) hr hx<|Za (aD 0) aF) (aU<|sV hw Z.dr) cZ
theorem Pl:Fp P w K mg base 12 "back_of" (ZlT.take 1) AS:=bU N7 Z.bk λsc hr hx hw=>aW (kU<|aQ (IT Z) hr hx<|Za (aD 0) aF)<|aU (bB<|kI mK Z.c8 P7<|Za (aQ (IR Z) hr hx<|Za (aD 0) aF) aF)
theorem IU:Fp P w K mg base 4 "are_rising_places" OP D6:=rP Z.bq
theorem IV:Fp P w K mg base 7 "table_number" OO Ze:=rP Z.bn
theorem Pm:Fp P w K mg base 8 "part_number" (ZgJ.take 3) AW:=bU Od Z.br λsc hr hx hw=>aW (kU<|aQ (uZ Z) hr hx<|Za (aD 0) aF)<|aW (cL 3 (aQ (k6 Z) hr hx<|Za (aD 0) aF) sc) (aW (dA (PXW.pxt<|iN (fK<|fG<|aQ (IU Z) hr hx<|Za (aD 1)<|Za (aD 3) aF)<|iN (fK<|fG<|aQ (IU Z) hr hx<|Za (aD 2)<|Za (aD 3) aF)<|jc<|dC (cY hr.units) (cJ gE Z.dc P6<|Za (aD 1) aF)<|cJ gE Z.dc P6<|Za (aD 2) aF) (aU<|sV hw Z.dn) cZ)<|aW (cL 4 (aQ (Bb Z) hr hx<|Za (aD 0) aF) sc)<|aU<|bB<|aQ (IV Z) hr hx<|Za (PXL.px<|e7 ["i"] [2,4] rfl (e8<|aD 1) (λ_ _ _=>QK) (λ_ _ _=>dW)<|λ_ _ _=>(PXL.px<|e7 ["j"] [0,2] rfl (e8<|aD 1) (λ_ _ _=>QK) (λ_ _ _=>dW)<|λ_ _ _=>(bG aP (bG aP (aD 2)<|aD 1)<|aD 0))) aF)
theorem Po:Fp P w K mg base 4 "need_whole_row" OR Ib:=rP Z.a7
theorem Pp:Fp P w K mg base 8 "put_number" (Zhr.take 3) AX:=bU Oe Z.bs λsc hr hx hw=>aW (kU<|aQ (uZ Z) hr hx<|Za (aD 0) aF)<|aW (dA (fK<|fG<|aQ (IK Z) hr hx<|Za (aD 1)<|Za aN<|Za (bC gz (aQ (k6 Z) hr hx<|Za (aD 0) aF) aN) aF) (aU<|sV hw Z.ds) cZ) (aW (kU<|aQ (Po Z) hr hx<|Za (aD 0)<|Za (aD 2) aF)<|aU<|bB<|aQ (IV Z) hr hx<|Za (PXL.px<|e7 ["line", "number"] [1] rfl (uA Z.c9<|Za (aQ (Bb Z) hr hx<|Za (aD 0) aF)<|Za (aD 2) aF) (λ_ _ _=>(iR rfl<|d7 QK<|d7 QK iQ)) (λ_ _ _=>dW)<|λ_ _ _=>(bC eS (bC eS (iy (aD 0) i5<|gX<|aD 2)<|PXL.px<|gx<|Za (aD 1) aF)<|iy (aD 0) (gX<|bC eS (aD 2) aN) i5)) aF)
theorem Ps:Fp P w K mg base 8 "share_table" (ZgI.take 1) AU:=bU Oa Z.bj λsc hr hx hw=>aU<|bB (kI mK Z.c8 P7<|Za (aQ (OY Z) hr hx<|Za (aD 0) aF) aF)
theorem Bi:Fp P w K mg base 12 "sign_paper" (Zhq.take 1) uV:=bU Zk Z.cm λsc hr hx hw=>aU<|bB (aQ (EE Z) hr hx<|Za (aD 0) aF)
theorem Pt:Fp P w K mg base 10 "form_at" (ZlR.take 2) AH:=bU Nx Z.ci λsc hr hx hw=>aU<|bB (aQ (tF Z) hr hx<|Za (aD 0)<|Za (aD 1)<|Za (aD 1) aF)
theorem Pu:Fp P w K mg base 10 "are_apart" (Zi2.take 2) AI:=bU ND Z.cj λsc hr hx hw=>aU<|bB (cJ (sO rfl) Z.dg Qq<|Za (PXL.px<|Nq ["at", "row", "other"] [0,1] rfl (sX Z.c6<|Za (aD 1) aF) (λ_ _ _=>(iR rfl<|d7 QK<|d7 QK iQ)) (λ_ _ _=>dW) (λ_ _ _=>(e8<|iy (aD 4) (gX<|bC eS (aD 0) aN) i5)) (λ_ _ _=>QK) (λ_ _ _=>dW)<|λ_ _ _=>(fU (dD hr.units) (aQ (tF Z) hr cQ<|Za (aD 3)<|Za (aD 1)<|Za (aD 2) aF)<|lK Z.c7)) aF)
theorem Zb:Fp P w K mg base 11 "sign_paper_good" (Zcz.take 2) S_sign_paper_good:=bU rd_sign_paper_good Z.ck (λsc hr hx hw=>aW (kU<|aQ (vK Z) hr hx<|Za (aD 0) aF)<|aW (cL 2 (aQ (k6 Z) hr hx<|Za (aD 0) aF) sc)<|aW (dA (PXW.pxt<|iN (fK<|fG<|cJ kT Z.df P1<|Za (aD 1)<|Za (kK Z.da Ql) aF)<|jc<|dC (cY hr.units) (cJ gE Z.dc P6<|Za (aD 1) aF)<|aD 2) (aU<|bB eI) cZ)<|aW (dA (fK<|fG<|cJ (sO rfl) Z.dg Qq<|Za (PXL.px<|e7 ["row"] [0] rfl (e8<|aD 1) (λ_ _ _=>QK) (λ_ _ _=>dW)<|λ_ _ _=>(aQ (yD Z) hr cQ<|Za (aD 1)<|Za (aD 0) aF)) aF) (aU<|bB eI) cZ)<|aU<|bB<|Zc (aQ (IH Z) hr hx<|Za (aD 1)<|Za (aD 2) aF)<|kH<|aQ (Pu Z) hr hx<|Za (aD 0)<|Za (aD 1) aF) (len:=orS.len (fnS.len λ_=>rfl)<|fnS.len λ_=>rfl) (mono:=orS.mono fnS.mono fnS.mono)
theorem IW:Fp P w K mg base 12 "signs_by" (ZjP.take 2) yg:=bU NE Z.cl λsc hr hx hw=>aW (dA (fK<|fG<|aQ ((Zb Z).left fnS.mono) hr hx<|Za (aD 0)<|Za (aD 1) aF) (aU<|sV hw Z.dn) cZ)<|aW (p9 2 ["row"] [0] rfl sc (e8<|aD 1) (λ_ _ _=>QK) (λ_ _ _=>dW)<|λ_ _ _=>(bG aP (aQ (Pt Z) hr cQ<|Za (aD 1)<|Za (aD 0) aF) aN)) (fQ 2<|aW (cL 3 (cJ gE Z.dc P6<|Za (PXL.px<|e7 ["top"] [] rfl (e8<|aD 2) (λ_ _ _=>QK) (λ_ _ _=>(w4<|dC pZ (aD 0) aN))<|λ_ _ _=>(aD 0)) aF) sc)<|fQ 2<|aW (cL 4 (cJ gE Z.dc P6<|Za (PXL.px<|e7 ["top"] [] rfl (e8<|aD 2) (λ_ _ _=>QK) (λ_ _ _=>(w4<|dC kJ (aD 0) aN))<|λ_ _ _=>(aD 0)) aF) sc)<|fQ 2<|aU<|bB<|dP<|Za (aD 3)<|Za (aD 4)<|Za (bC gz (bC gz (cJ gE Z.dc P6<|Za (aD 2) aF)<|aD 3)<|aD 4) aF)
theorem IX:Fp P w K mg base 13 "signs_of" (ZjO.take 1) vB:=bU NF Z.cn λsc hr hx hw=>aU<|bB (aQ (IW Z) hr hx<|Za (aD 0)<|Za (aQ (Bi Z) hr hx<|Za (aD 0) aF) aF)
theorem Pv:Fp P w K mg base 13 "steps_of" OQ Ia:=rP Z.bz
theorem IY:Fp P w K mg base 14 "step_squares" (ZfS.take 1) yo:=bU Ob Z.ca λsc hr hx hw=>aW (kU<|aQ (vK Z) hr hx<|Za (aD 0) aF)<|aW (cL 1 (aQ (k6 Z) hr hx<|Za (aD 0) aF) sc) (aW (p9 2 ["step"] [] rfl sc (e8<|aQ (Pv Z) hr hx<|Za (aD 0) aF) (λ_ _ _=>QK) (λ_ _ _=>dW)<|λ_ _ _=>(bG aP (aD 0) aN))<|fQ 2<|aU<|bB<|PXL.px<|e7 ["row"] [0,1] rfl (e8<|aD 2) (λ_ _ _=>QK) (λ_ _ _=>dW)<|λ_ _ _=>(dP<|Za (aQ (Ev Z) hr cQ<|Za (lK Z.dp)<|Za (bG aP (aD 0)<|ql qm aN) aF)<|Za (aQ (Be Z) hr cQ<|Za (aD 1)<|Za (bC eS (aD 0)<|bC uJ (dP<|Za (lK Z.c7) aF)<|bC gz (aD 2)<|cJ gE Z.dc P6<|Za (aD 0) aF) aF) aF))
theorem Pw:Fp P w K mg base 15 "steps_weights" (ZfA.take 1) AV:=bU Oc Z.cb λsc hr hx hw=>aU<|bB (PXL.px<|e7 ["weight", "row"] [] rfl (e8<|aQ (IY Z) hr hx<|Za (aD 0) aF) (λ_ _ _=>(iR rfl<|d7 QK<|d7 QK iQ)) (λ_ _ _=>dW)<|λ_ _ _=>(aD 0))
theorem Px:Fp P w K mg base 12 "two_rows" (ZjM.take 1) AT:=bU N8 Z.bl λsc hr hx hw=>aW (kU<|aQ (IT Z) hr hx<|Za (aD 0) aF)<|aW (cL 1 (aQ (IS Z) hr hx<|Za (aD 0) aF) sc) (aU<|bB<|dP<|Za (bG aP (aD 1) aN)<|Za (bG aP (aD 1)<|ql qm aN) aF)
theorem Py:Fp P w K mg base 16 "_law_asked" (ZhC.take 2) A6:=bU On Z.c2 λsc hr hx hw=>aW (dA (dC kJ (aD 0) aN) (aU<|bB<|xG hr hx (lL Z.bk (Pl Z)<|lL Z.bl (Px Z)<|lL Z.bj (Ps Z)<|lL Z.bd (EG Z) xH) (bG aP (PXL.px<|gx<|Za (iC Z.bk.cc)<|Za (iC Z.bl.cc)<|Za (iC Z.bj.cc)<|Za (iC Z.bd.cc) aF)<|aD 0)<|Za (aD 1) aF) cZ)<|aW (dA (dC kJ (aD 0) aN) (aU<|bB<|xG hr hx (lL Z.b9 (IN Z)<|lL Z.ca (IY Z)<|lL Z.cb (Pw Z)<|lL Z.cd (IO Z)<|lL Z.ch (Bf Z) xH) (bG aP (PXL.px<|gx<|Za (iC Z.b9.cc)<|Za (iC Z.ca.cc)<|Za (iC Z.cb.cc)<|Za (iC Z.cd.cc)<|Za (iC Z.ch.cc) aF)<|bC gz (aD 0) aN)<|Za (aD 1) aF) cZ) (aW (dA (dC kJ (aD 0) aN) (aU<|bB<|xG hr hx (lL Z.b5 (EC Z)<|lL Z.cg (ED Z) xH) (bG aP (PXL.px<|gx<|Za (iC Z.b5.cc)<|Za (iC Z.cg.cc) aF)<|bC gz (aD 0) aN)<|Za (aD 1)<|Za qk aF) cZ)<|aW (dA (dC kJ (aD 0) aN) (aU<|bB<|xG hr hx (lL Z.br (Pm Z)<|lL Z.bs (Pp Z) xH) (bG aP (PXL.px<|gx<|Za (iC Z.br.cc)<|Za (iC Z.bs.cc) aF)<|bC gz (aD 0) aN)<|Za (aD 1)<|Za qk<|Za qk aF) cZ)<|aU<|bB<|xG hr hx (lL Z.cm (Bi Z)<|lL Z.cn (IX Z) xH) (bG aP (PXL.px<|gx<|Za (iC Z.cm.cc)<|Za (iC Z.cn.cc) aF)<|bC gz (aD 0) aN)<|Za (aD 1) aF)
theorem Pz:CK P w K mg base 1 "_law_refusal" (Zeb.take 1) A5:=Dz (z:=El) (N:=Zeb) Z.cs (λsc _ _ _ _ _ _ hr=>(aW (sP 1 (gx<|Za (cJ (qr Z.xi) Z.df P1<|Za (aD 0)<|Za (iC Z.dx) aF)<|Za (cJ (qr Z.xi) Z.df P1<|Za (aD 0)<|Za (iC Z.dw) aF)<|Za (cJ (qr Z.xi) Z.df P1<|Za (aD 0)<|Za (iC Z.dv) aF)<|Za (cJ (qr Z.xi) Z.df P1<|Za (aD 0)<|Za (iC Z.du) aF) aF) sc)<|aW (sP 1 (Ky 1<|KA (aD 1)<|PXL.px<|gx<|Za (cJ (qr Z.xi) Z.df P1<|Za (aD 0)<|Za (iC Z.dz) aF)<|Za (cJ (qr Z.xi) Z.df P1<|Za (aD 0)<|Za (iC Z.d0) aF)<|Za (cJ (qr Z.xi) Z.df P1<|Za (aD 0)<|Za (iC Z.d1) aF)<|Za (cJ (qr Z.xi) Z.df P1<|Za (aD 0)<|Za (iC Z.dy) aF) aF) sc)<|aW (xa 1<|cJ (qr Z.xi) Z.df P1<|Za (aD 0)<|Za (iC Z.d2) aF)<|aW (dA (Kx 1<|PXW.pxt<|iN (fK<|fG<|cJ (qr Z.xi) Z.df P1<|Za (aD 0)<|Za (kK Z.dt LC) aF)<|jc<|dC (cY hr.units) (Fw PySem.F.slot_list_count PySem.F.type_list_count KR (aD 1)<|Za eI aF) aN) (aU<|bB<|dP<|Za gM aF) cZ)<|fQ 1<|aU<|bB<|dP<|Za (bG aP (PXL.px<|gx<|Za gM<|Za gM<|Za gM<|Za gM<|Za gM<|Za gM<|Za gM<|Za gM<|Za gM aF)<|Fw PySem.F.slot_list_index PySem.F.type_list_index KS (aD 1)<|Za eI aF) aF)) Om
theorem PB:Fp P w K mg base 17 "_law_none_right" (Zeu.take 1) A4:=bU OE Z.c3 λsc hr hx hw=>aW (cL 1 (aQ (o9 Z) hr hx<|Za (aD 0)<|Za aN aF) sc)<|aW (cL 2 (bG aP (PXL.px<|gx<|Za aN<|Za (ql qm aN)<|Za eI<|Za qk<|Za (dP<|Za aN aF)<|Za gM<|Za (bC E9 aN aN) aF)<|aQ (o9 Z) hr hx<|Za (aD 0)<|Za aN aF) sc) (aW (p9 3 ["_law_place"] [0] rfl sc (kq Z.db<|Za aN aF) (λ_ _ _=>QK) (λ_ _ _=>dW)<|λ_ _ _=>(aQ (o9 Z) hr cQ<|Za (aD 1)<|Za aN aF))<|fQ 3<|aW (i6<|jf PassesOwn.never rfl (e8<|PXL.px<|gx<|Za qk<|Za (dP<|Za aN<|Za aN aF)<|Za (dP<|Za aN aF)<|Za (dP aF)<|Za (aD 3)<|Za (bG aP (aD 3) aN)<|Za (kI mK Z.c8 P7<|Za (bC eS (bC eS (iy (aD 3) i5<|gX<|aD 1)<|PXL.px<|gx<|Za (aD 2) aF)<|iy (aD 3) (gX<|bC eS (aD 1) aN) i5) aF)<|Za (bC uJ (dP<|Za aN aF) aN) aF) (bL 4 sc)<|aU<|i6<|jf PassesOwn.never rfl (kq Z.db<|Za aN aF) (bL 5 sc)<|aW (cL 6 (dP<|Za gM aF) sc)<|aW (NS LX 7 (Py Z) hr Z.d3 sc (λ_ _=>(Za (aD 5)<|Za (aD 4) aF))<|λ_ _=>(aU<|cL 6 (KP (Pz Z) (hr.u.mark)<|Za (aD 7) aF) sc))<|aU<|dA (dC (cY hr.units) (aD 6)<|dP<|Za gM aF) (aU<|bB eI) cZ)<|aU<|bB eI)
theorem PC:Fp P w K mg base 1 "_law_pen_of" (ZgM.take 1) z8:=bU Lx Z.cq λsc hr hx hw=>aW (cL 1 (cJ (wZ rfl) Z.d4 boot_max<|Za (aD 0)<|Za (bC gz aN<|aD 0) aF) sc)<|aU (bB<|KB<|gx<|Za (aD 1)<|Za (kI zH Z.de boot_int<|Za (fU Ci (aD 1)<|bC E9 aN aN) aF)<|Za (bC sL (aD 1) aN) aF)
theorem PD:Fp P w K mg base 14 "_law_signs_right" (Zd2.take 1) A3:=bU Ox Z.c1 λsc hr hx hw=>aW (cL 1 (bC eS aN<|aQ (o9 Z) hr hx<|Za (aD 0)<|Za aN aF) sc)<|aW (p9 2 ["_law_place"] [0] rfl sc (kq Z.db<|Za (aD 1) aF) (λ_ _ _=>QK) (λ_ _ _=>dW)<|λ_ _ _=>(bC gz (aQ (o9 Z) hr cQ<|Za (aD 1)<|Za aN aF) aN)) (fQ 2<|aW (cL 3 (kI mK Z.c8 P7<|Za (bC eS (aD 2)<|zF<|iy (aD 2) i5<|gX<|ql qm aN) aF) sc)<|NQ 3<|AO (cL 4 (aQ (Bi Z) hr hx<|Za (aD 3) aF) sc)<|AO (sP 5 (zB zG Z.da Ql<|Za (aD 4) aF) sc)<|AO (i6<|jf PassesOwn.never rfl (e8<|dP<|Za (aD 4)<|Za (zF<|aD 4) aF) (bL 6 sc)<|aW (cL 7 (cJ (Af hr.gd hr.units) Z.dq Ad<|Za (aD 6) aF) sc)<|aW (dA (PXW.pxt<|iN (dC uM (aQ (Zb Z) hr cQ<|Za (aD 3)<|Za (aD 6) aF) eI)<|jc<|dC (cY hr.units) (aQ (IW Z) hr cQ<|Za (aD 3)<|Za (aD 6) aF)<|aQ (IX Z) hr cQ<|Za (aD 3) aF) (aU<|bB eI) cZ)<|aU<|dA (dC Gb (cJ (Af hr.gd hr.units) Z.dq Ad<|Za (aD 6) aF)<|aD 7) (aU<|bB eI) cZ)<|AO (dA (PXW.pxt<|iN (dC uM (aQ (Zb Z) hr hx<|Za (aD 3)<|Za (iy (aD 4) i5<|gX<|ql qm aN) aF) eI)<|jc<|dC uM (aQ (Zb Z) hr hx<|Za (aD 3)<|Za (bC eS (aD 4)<|iy (aD 4) i5<|gX aN) aF) eI) (aU<|bB eI) cZ)<|NP 4 3 5<|NO<|fQ 4<|fQ 5<|aU<|bB<|Zc (fU (dD hr.units) (aQ (Bi Z) hr hx<|Za (aD 3) aF)<|aD 5)<|kH<|fU uL (aQ (Zb Z) hr hx<|Za (aD 3)<|Za (aD 4) aF) eI)
theorem all_mk{l:PySem.W.OpenLaw}(hfa:mg "law" = some (.ref fa)):∃fd:FuncData,(∀(s:Shared) (v:Value),BindsTo s fd ⟨[v],[]⟩ [("_law_script",v)])/\∀base:Heap,K.In base->base.Ns mainGlobals mg->FnOk l.prog w K mg base (gu l.prog w) 18 fa fd ["_law_script"] (iO K yq):=
 MR (z:=A7) (N:=Im) Z.c4 hfa (λ_ sc _ _ _ _ _ _ _ hr hx hw=>(aW (i6<|jf PassesOwn.never rfl (e8<|bC eS (PXL.px<|gx<|Za (aQ (O7 Z) hr cQ<|Za (aD 0)<|Za aN aF) aF)<|iy (aD 0) (gX aN)<|gX aN) (bL 1 sc)<|aW (cL 2 (aQ (PC Z) hr cQ<|Za (aD 1) aF) sc)<|aW (dA (PXW.pxt<|iN (fK<|fG<|aQ (PB Z) hr cQ<|Za (aD 2) aF)<|jc<|fK<|fG<|aQ (O6 Z) hr cQ<|Za (aD 2) aF) (aU<|bB eI) cZ)<|aU<|dA (PXW.pxt<|iN (fK<|fG<|aQ (PD Z) hr cQ<|Za (aD 2) aF)<|jc<|fK<|fG<|aQ (Pg Z) hr cQ<|Za (aD 2) aF) (aU<|bB eI) cZ)<|aU<|bB eI)) ON
end
theorem walk{l:PySem.W.OpenLaw}{q:Program}{loose:Qx}{d:DefRec}{K:Params->PN}(hn:l.most=some 63)(hdf:d.params.defaults=[])
  (hY:∀(w:World) (h:Heap),YP w h->(K w.params).In h)
  (F:∀ (w:World) (mg:Qt) (fa:Addr) (h:Heap),(K w.params).In h->h.Ns mainGlobals mg->mg d.name=some (.ref fa)->
   ∃fd:FuncData,(∀(s:Shared) (u:Value),BindsTo s fd ⟨[u],[]⟩ [("_law_script",u)])/\∀base:Heap,(K w.params).In base->base.Ns mainGlobals mg->FnOk l.prog w (K w.params) mg base (gu l.prog w) 18 fa fd ["_law_script"] (iO (K w.params) yq)) :
  PySem.W.WalkO q loose XP YP l.row.toRowW d [] (λf vs=>PySem.call f vs):=
 L2.walk_of (n:=63) (k:=18) (x:= "_law_script") (CX:=λw=>gu l.prog w) (sp:=λw=>iO (K w.params) yq) hn E8 hdf ⟨rfl,rfl,E8,E8⟩ hY F (λ_ _ a ns hl hO hS=>OS hl hO hS) λ_ _ _ _ _ ⟨_,_,_,_,_,_,_,_,_,_,_,_,_,z⟩=>z
end B.C.Q0.Q3.Y6
end LP
namespace PySem.W.Fast
abbrev N:=Nat
def tw10479867910024928326:=N
def tw8839659136668434710:=N
def tw6486728279805431179:=N
def tw6490823305539903292:=N
def tw4702941997661827635:=N
def tw9629242288770415602:=N
def tw6671565861860948885:=N
def tw3931390689410691850:=N
def tw10156289841557160680:=N
def tw2888573160811304517:=N
def tw8253012916437422052:=N
def tw3236648949467328836:=N
def tw699882197265989604:=N
def tw10632390554519976913:=N
def tw15054951089296665476:=N
def tw16492961737701208210:=N
def tw17240704631265255047:=N
def tw6841427346248716021:=N
def tw2779025129811130768:=N
def tw15751254971124367197:=N
def tw858979088684478894:=N
def tw7669649645933294675:=N
def tw384826085488811650:=N
def tw2481323972157687997:=N
def tw6968400210366991824:=N
def tw5977969937758158388:=N
def tw767046465625803991:=N
def tw4254677423440154148:=N
def tw7709417866128490299:=N
def tw1291788893980424597:=N
def tw2370227536023610727:=N
def tw3258993143327638975:=N
def tw1051168804440122517:=N
def tw18374906548737944059:=N
def tw5738135169467303133:=N
def tw7677359409334711479:=N
def tw17975710091303413693:=N
def tw13732343897787498961:=N
def tw977234116863339541:=N
def tw5725046500404439673:=N
def tw10620951422849805523:=N
def tw6542805808031134479:=N
def tw15799794491223744503:=N
def tw6017753517689863266:=N
def tw9795669085147777797:=N
def tw1337531823299099550:=N
def tw12121857719219789884:=N
def tw8774773592334274305:=N
def tw5321311066480049446:=N
def tw17863917731548919316:=N
def tw165382897432454762:=N
def tw12256577846981070536:=N
def tw13585413955168559301:=N
def tw11975317713154730278:=N
def tw14812754222474360552:=N
def tw5332517284495864399:=N
def tw13847402248477674808:=N
def tw11811123675754097636:=N
def tw11660450111856802277:=N
def tw15253389844188356533:=N
def tw7360386978986930605:=N
def tw6428933094191985388:=N
def tw174472806092592643:=N
def tw10060636075137556415:=N
def tw10548962791957129349:=N
def tw3813937488318711409:=N
def tw5076474547804370122:=N
def tw9073267166382561349:=N
def tw7590120904193034161:=N
def tw16340546321163601830:=N
def tw4413225874595237797:=N
def tw11761872243839458289:=N
def tw1339946068014331468:=N
def tw793333329711581176:=N
def tw10303804903281955457:=N
def tw4140904009283327641:=N
def tw17684707798852696829:=N
def tw2961761604180647944:=N
def tw16641537952310549799:=N
def tw2723489178232305239:=N
def tw422144432590250794:=N
def tw3463008069037810267:=N
def tw11177703509049862884:=N
def tw18098365186193002762:=N
def tw10044394360863707727:=N
def tw15188973045909209608:=N
def tw1340331858311633790:=N
def tw9799767461496723071:=N
def tw16675235859862541530:=N
def tw8033781552234916240:=N
def tw2542940525164474486:=N
def tw15450063284647136543:=N
def tw7186935277491543057:=N
def tw7666425447611615300:=N
def tw8842262854023423347:=N
def tw6337854256815314090:=N
def tw5518978594441988875:=N
def tw13026471507832364246:=N
def tw8369653514080141190:=N
def tw4190127107993698218:=N
def tw7223400060090644674:=N
def tw12015704066605540717:=N
def tw5433060969986291415:=N
def tw12518629292206917258:=N
def tw2112749985876424814:=N
def tw4441299020047920928:=N
def tw7879191300386414205:=N
def tw16911498396771196528:=N
def tw17309324993692250516:=N
def tw16388729092986627454:=N
def tw12272537562285320504:=N
def tw10219363831682643993:=N
def tw11739311860347630005:=N
def tw5852844232717084635:=N
def tw708794196573665119:=N
def tw3901163840403808606:=N
def tw16128478323577885466:=N
def tw16754489156020843768:=N
def tw7564713766156735832:=N
def tw279252181145535559:=N
def tw14239998222094892999:=N
def tw5219387503088150:=N
def tw8789953088296906826:=N
def tw13368971987902048120:=N
def tw11973678967441714172:=N
def tw11818779592596728817:=N
def tw2981994569493615861:=N
def tw15493895783805648289:=N
def tw13453706195708126054:=N
def tw5895072667514344650:=N
def tw17934369657808858978:=N
def tw2412294744985956379:=N
def tw16853388949935015085:=N
def tw16224223657895928707:=N
def tw17156744981732458629:=N
def tw5560507641097976960:=N
def tw4885229367996650154:=N
def tw16430993020008124231:=N
def tw7193733069490987759:=N
def tw6757486856175252148:=N
def tw8328950446234827617:=N
def tw5885139568027605872:=N
def tw17255526149175918312:=N
def tw13571894257657765983:=N
def tw12511278628767945635:=N
def tw11857851854847430286:=N
def tw5437294127776559017:=N
def tw9647492609368163502:=N
def tw1776852850120366418:=N
def tw1539240509622672603:=N
def tw4798484380140408018:=N
def tw7756026796189536443:=N
def tw1785849454628574187:=N
def tw8871838468798128906:=N
def tw5976884073652610084:=N
def tw10790033932644174786:=N
def tw16472415258776157718:=N
def tw1442031565717732272:=N
def tw6470625989897208324:=N
def tw5131783440709422479:=N
def tw16108900210220837518:=N
def tw6356084538485473386:=N
def tw15584396287618689890:=N
def tw3760821372764260264:=N
def tw13270385372815808990:=N
def tw14750797763386165667:=N
def tw1688679238368783402:=N
def tw6213817889995416116:=N
def tw16875799831408451688:=N
def tw6807567674481868899:=N
def tw7299781874269270445:=N
def tw5404003815483089805:=N
def tw13782594211631999862:=N
def tw7235611590477582188:=N
def tw11022538638213636185:=N
def tw12150527170033063052:=N
def tw10621849293645084621:=N
def tw11098463708548018297:=N
def tw2021790830242537948:=N
def tw4550961344799231092:=N
def tw8116883791929266558:=N
def tw6028328434357135540:=N
def tw12028875403754656844:=N
def tw3054267284736750397:=N
def tw15191326003794407645:=N
def tw13926452906141016386:=N
def tw11537685195620299769:=N
def tw4398452930609848370:=N
def tw1225114643799092485:=N
def tw6298138827186032687:=N
def tw5162518594456120415:=N
def tw1838563313919157406:=N
def tw15548310749971154436:=N
def tw13423570516166784179:=N
def tw538499155506274966:=N
def tw784220170439579342:=N
def tw14029316838423185843:=N
def tw10415110295287844559:=N
def tw2266943099406800349:=N
def tw8233717248669311261:=N
def tw15534842387127779147:=N
def tw5460586737185205190:=N
def tw10852435463213798945:=N
def tw18428517235920971205:=N
def tw13465643544886361435:=N
def tw13421453196597903815:=N
def tw3367187325155532462:=N
def tw18384023704123662843:=N
def tw8408453517216143357:=N
def tw9217096052522863106:=N
def tw17889184270564724338:=N
def tw542070330603585462:=N
def tw10818343553982777815:=N
def tw2790834616390228266:=N
def tw16947579409885135354:=N
def tw15800461020476859854:=N
def tw17414960480137850644:=N
def tw13793481109033977755:=N
def tw8687886143730783348:=N
def tw2575076747128309976:=N
def tw12828088061032044547:=N
def tw93900822268696363:=N
def tw10861557311345970987:=N
def tw10242844089309998088:=N
def tw16086024759164463846:=N
def tw10433325665101782259:=N
def tw3725176368407998621:=N
def tw8284861344884057428:=N
def tw13492433529613551167:=N
def tw13613091472526066541:=N
def tw4595969894102409971:=N
def tw11183405700539090243:=N
def tw8812773139296259181:=N
def tw17594504936118807749:=N
def tw10915994707281131077:=N
def tw5277455360154343107:=N
def tw4562279625813970776:=N
def tw15306478901863826919:=N
def tw10162444338702359350:=N
def tw6589558938875996866:=N
def tw5495011449405065257:=N
def tw9648346935107531203:=N
def tw2751428796804157277:=N
def tw17595617027336634091:=N
def tw11982407779623313201:=N
def tw4266143534078015487:=N
def tw14219436316319498306:=N
def tw9982693921418393659:=N
def tw2079585959983466950:=N
def tw18326166964525967218:=N
def tw1965956521463490361:=N
def tw13252768198425597593:=N
def tw13177022743373490630:=N
def tw11733823221699491345:=N
def tw11502228674528874054:=N
def tw4980891797389758266:=N
def tw9936778716625712209:=N
def tw422676387067596673:=N
def tw2672292570921624792:=N
def tw9175368686384977325:=N
def tw8974731943998743334:=N
def tw5405106755040681235:=N
def tw6475027899190152112:=N
def tw8516821862083028451:=N
def tw6114170460864230488:=N
def tw5811103781267523576:=N
def tw13232468182090038637:=N
def tw4631358419292941934:=N
def tw11686672895099064539:=N
def tw16309094414813272802:=N
def tw4027078239068835072:=N
def tw6151447100737272721:=N
def tw6801109861291241513:=N
def tw12679309973798455931:=N
def tw7614220200169279524:=N
def tw6426696642332174808:=N
def tw15535666426240704133:=N
def tw9801699788626737406:=N
def tw9762820710748318595:=N
def tw9718646104971390421:=N
def tw9355051703495731914:=N
def tw8204428600168691910:=N
def tw8194729088820204843:=N
def tw800616355318479967:=N
def tw6974323810813367726:=N
def tw6834954167809294556:=N
def tw526657113532181696:=N
def tw5136592591247318100:=N
def tw5007712248141151800:=N
def tw4989299369307591255:=N
def tw4552576071612391952:=N
def tw4444438008000281158:=N
def tw4387123541647339228:=N
def tw4191399964463667326:=N
def tw4173033006583326786:=N
def tw4151818488979752885:=N
def tw4133417646230038124:=N
def tw4117458037296622742:=N
def tw3779419137072044955:=N
def tw3663082247597556066:=N
def tw3644711353525801280:=N
def tw3258902990862591820:=N
def tw3228857335541421443:=N
def tw310706117271383261:=N
def tw2984524321344383924:=N
def tw2974214835324182262:=N
def tw2748647942421194924:=N
def tw2692262013046435433:=N
def tw2558957698639637596:=N
def tw249222613502678895:=N
def tw2443132675651669481:=N
def tw2332665728829570023:=N
def tw1921654779208965470:=N
def tw190967253166089641:=N
def tw17712619314918586869:=N
def tw17033997114412545785:=N
def tw1670052517595366313:=N
def tw16536944081563103417:=N
def tw16491898161614194050:=N
def tw16337437224651625693:=N
def tw15537880449377146139:=N
def tw15212440299771205039:=N
def tw14305992431922216233:=N
def tw14166108646507647020:=N
def tw14163400194039637909:=N
def tw14073644084521472395:=N
def tw13463814452012416488:=N
def tw13048310653775848678:=N
def tw12778479529295495794:=N
def tw12633364584387548332:=N
def tw11836671275913262920:=N
def tw11663614366693486213:=N
def tw11311334617535762027:=N
def tw10979931547081931180:=N
def tw10621921968156948698:=N
def tw10469404872510731013:=N
def tw16772109223545638971:=N
def tw14498743542176244226:=N
def tw6202397452816272111:=N
def tw2344927495730560398:=N
def tw15403656066125345886:=N
def tw14061601239040986144:=N
def tw12922695287027672568:=N
def tw11087310464308926031:=N
def tw16394557225742826256:=N
def tw9869239094640659691:=N
def tw8175602114447475185:=N
def tw797686399227838041:=N
def tw6227232043115935201:=N
def tw5973286577897100564:=N
def tw5768159850789296446:=N
def tw5109887571630850591:=N
def tw5079885062431729060:=N
def tw4555375786965033592:=N
def tw3611123896990088225:=N
def tw3498690085289408185:=N
def tw18437567486297446947:=N
def tw18360525373782675128:=N
def tw18186746293061922817:=N
def tw17132500273676054479:=N
def tw15753614546572522331:=N
def tw15361800113195766865:=N
def tw15276710267810292250:=N
def tw14485164680780759892:=N
def tw14384099523657247869:=N
def tw13081891975166945861:=N
def tw13019851452593721636:=N
def tw12949225033375528159:=N
def tw12914151612688259523:=N
def tw12503341793346129050:=N
def tw11106621506155428143:=N
def tw10641410675972581411:=N
def tw10266373072779280464:=N
def tw10240842775770859507:=N
def tw6742879013577771825:=N
def tw2701972639232802246:=N
def tw17186994184565569286:=N
def tw16128886920106959252:=N
def tw17473681588512708068:=N
def tw7697230105611613997:=N
def tw7593686897428478225:=N
def tw6855973093965704435:=N
def tw200597129520781177:=N
def tw11658999995882799898:=N
def tw11441813929486791968:=N
def tw5666063695005354240:=N
def tw5028444247807075798:=N
def tw13874206121801465093:=N
def tw11216425841999850355:=N
def tw9016087808137388482:=N
def tw99833453350328786:=N
def tw8923647665587918393:=N
def tw7462991421454653921:=N
def tw458883508732477049:=N
def tw3846749682586782381:=N
def tw2691757278412799068:=N
def tw14485581271840885806:=N
def tw14121174448049111532:=N
def tw13532291922445508443:=N
def tw13250321602719874261:=N
def tw12442646101678530997:=N
def tw1210903993762341768:=N
def tw11188895935423809644:=N
def tw7214793191373579880:=N
def tw7175350090219074395:=N
def tw5701110336924953480:=N
def tw2206903727918840729:=N
def tw18074251736140554186:=N
def tw13457136589425371425:=N
def tw10823606304308408272:=N
def tw9009248168901154439:=N
def tw8990063137787131311:=N
def tw8417016549027780321:=N
def tw5226704088838066663:=N
def tw4994461692774779710:=N
def tw4948806211195307739:=N
def tw4918341846841882137:=N
def tw13479516242719723868:=N
def tw12035820871522661831:=N
def tw11654096773126452161:=N
def tw8146128553074625991:=N
def tw5215660018805188390:=N
def tw2767269248734627238:=N
def tw13937569032362852727:=N
def tw13662138305609337805:=N
def tw12320824523992904969:=N
def tw11878342828497522042:=N
def tw7636351990893149252:=N
def tw7511519212356025111:=N
def tw3973178024787116937:=N
def tw1018498908256890385:=N
def tw8096818439463925963:=N
def tw1920055384501396907:=N
def tw17800376648761495486:=N
def tw1734876731053711003:=N
def tw11288574871350829937:=N
def tw3536044071467187463:=N
def tw12979988997876454879:=N
def tw7361515983328161084:=N
def tw8508398120938380994:=N
def tw8071430556356908798:=N
def tw3768848731720593531:=N
def tw3023966399791259224:=N
def tw2322182133612436514:=N
def tw13136258052467468221:=N
def tw1240593384331854706:=N
def tw11840876287932319834:=N
def tw11379772951909966722:=N
def tw10965414460055396370:=N
def tw15129851284968278943:=N
def tw13037098920078861031:=N
def tw10409612580641293596:=N
def tw2576514868601059910:=N
def tw8717255673975371894:=N
def tw7927456587689063683:=N
def tw6305866669162339024:=N
def tw4603981243576023207:=N
def tw3826871459340240678:=N
def tw3169423377259225740:=N
def tw1796886507230641013:=N
def tw17852092120126875778:=N
def tw17707548966837773935:=N
def tw15918206315648581267:=N
def tw15663287346732791275:=N
def tw13592835054095429396:=N
def tw11730731650630178501:=N
def tw239102307256268542:=N
def tw8769388813018709754:=N
def tw5162493290826002404:=N
def tw11111817407738089722:=N
def tw9192594324234496679:=N
def tw18410062025212196011:=N
def tw9842161306075344619:=N
def tw9230887058954617060:=N
def tw8042287774786281338:=N
def tw7808161549234890260:=N
def tw7625157511686037253:=N
def tw7365564193364353072:=N
def tw7289622665295780348:=N
def tw6410031466983700077:=N
def tw5969367327685846528:=N
def tw5540937069663771145:=N
def tw4922030759827588734:=N
def tw433480505588752592:=N
def tw4101522508002708130:=N
def tw4079055597785761485:=N
def tw3139359083277840302:=N
def tw2956812004381353015:=N
def tw2722029384333253510:=N
def tw2275837488290871352:=N
def tw17616611487744751651:=N
def tw17381600837552589204:=N
def tw15127444467115746398:=N
def tw1502674266844260548:=N
def tw14558801010588499259:=N
def tw13839021620964637330:=N
def tw13584845456503022893:=N
def tw11410698620269626902:=N
def tw11351737799309475837:=N
def tw10218594261103551670:=N
def tw10046743324223026218:=N
def tw10502996609266702464:=N
def tw9454923865881211313:=N
def tw9098196748130578573:=N
def tw8319425520336021370:=N
def tw8100979349535284372:=N
def tw8096259782747602450:=N
def tw7141395086242970871:=N
def tw7104150008247885434:=N
def tw7069486236103967308:=N
def tw4755511024076902198:=N
def tw4627062432970103881:=N
def tw453787834299906781:=N
def tw4307918937518856084:=N
def tw4121254777593993360:=N
def tw17905267848027322043:=N
def tw17169574766881622762:=N
def tw12735007771006037905:=N
def tw11610754461190063350:=N
def tw11320413316191459312:=N
def tw10463970356799454:=N
def tw7817916022937529767:=N
def tw7476846555327367270:=N
def tw6993606895962057779:=N
def tw6054710797519036178:=N
def tw5899607200505369681:=N
def tw5567566520099116481:=N
def tw479194782551650385:=N
def tw2083270961473373437:=N
def tw1898553328148400705:=N
def tw18097790832456242319:=N
def tw17234501887694569682:=N
def tw15382481404377322265:=N
def tw1538093929175392303:=N
def tw15015730986123430804:=N
def tw14980613152460945622:=N
def tw14160770226223537916:=N
def tw13579379917391058507:=N
def tw11312188437730415835:=N
def tw10833497621173208906:=N
def tw5404839122712136601:=N
def tw330364325629014378:=N
def tw3162207256700576731:=N
def tw16138950775272159497:=N
def tw15175390378249440361:=N
def tw15066582249701369481:=N
def tw13389863744844503003:=N
def tw13329337909182907657:=N
def tw13158582007782102659:=N
def tw11177156192352080370:=N
def tw12069812576627616433:=N
def tw9858567597869142357:=N
def tw6690883994308181420:=N
def tw6212684846489616717:=N
def tw5293540309826283968:=N
def tw3372643503682526941:=N
def tw2025351163896395387:=N
def tw17334653641036914185:=N
def tw16767229246343255816:=N
def tw11899231492379785868:=N
def tw1183668544674791046:=N
def tw974190041292721607:=N
def tw9604135229998285612:=N
def tw9588823951392073745:=N
def tw9586339961788399502:=N
def tw9469372295066093541:=N
def tw9342550121250412635:=N
def tw9342436735468608823:=N
def tw9296644541790507501:=N
def tw898641578940004070:=N
def tw896602670746885573:=N
def tw8926237884382881217:=N
def tw842186179012007619:=N
def tw8411042830865090983:=N
def tw8331174370569299143:=N
def tw8169350894671534309:=N
def tw8075924195366863005:=N
def tw8040394451006079620:=N
def tw7921387454972796924:=N
def tw7915962443986884611:=N
def tw7884384119499323174:=N
def tw7877304383542798060:=N
def tw7875297035513080537:=N
def tw7839745850459115563:=N
def tw772693042258691684:=N
def tw7698461123031943418:=N
def tw7660357365751755268:=N
def tw7599709849663962769:=N
def tw7581140884813061402:=N
def tw7423754153242544944:=N
def tw7190950453611873824:=N
def tw7009252456011810456:=N
def tw6887751050841374898:=N
def tw6814130722795523183:=N
def tw6811183941431148325:=N
def tw6533535355986468701:=N
def tw6474367801861899382:=N
def tw6364805508386203172:=N
def tw6329124222076697476:=N
def tw6304308701143982927:=N
def tw627917364541830011:=N
def tw6137207855968804679:=N
def tw592174753576422163:=N
def tw5846553612062765914:=N
def tw5820565474581968857:=N
def tw5787326666410551468:=N
def tw5639560829651370685:=N
def tw5337613514973061513:=N
def tw5191886788486851092:=N
def tw475655990344723154:=N
def tw4601763538315910027:=N
def tw4549000213525815263:=N
def tw4419992593499998781:=N
def tw4368840854894187816:=N
def tw4351382727543358574:=N
def tw4295313295299967895:=N
def tw4254585600793862322:=N
def tw4239768437067928496:=N
def tw4137465980775282001:=N
def tw3986320800284898527:=N
def tw398369068027306380:=N
def tw3964208606585270861:=N
def tw3780580359363786518:=N
def tw3765345619052809906:=N
def tw3715722631913721514:=N
def tw359276402895181152:=N
def tw3420077604732649364:=N
def tw3274483187086727678:=N
def tw3108132309043477010:=N
def tw3045418372251722190:=N
def tw298272770881720800:=N
def tw2979446589609294342:=N
def tw2871407901784208515:=N
def tw2854807763983609273:=N
def tw2650277798183696557:=N
def tw2272468485896030586:=N
def tw2234551311301260529:=N
def tw2051993968133828871:=N
def tw1998490020169459276:=N
def tw1921838583156693328:=N
def tw1889452821561210741:=N
def tw1830895781273369400:=N
def tw18302423039736525469:=N
def tw18258776842514252840:=N
def tw18056114620835454670:=N
def tw17831730636679854950:=N
def tw17777402749889568028:=N
def tw17666503421022745641:=N
def tw17653123076369065648:=N
def tw17647290675830726063:=N
def tw17529849761339367323:=N
def tw17467489377374370543:=N
def tw17389569172289902070:=N
def tw17048848702639368285:=N
def tw17039741758682914107:=N
def tw16993119925729466642:=N
def tw16943208598662714207:=N
def tw16859319100583406219:=N
def tw16848921104489729534:=N
def tw16845002667051716122:=N
def tw16843785833602817554:=N
def tw16754912819112919960:=N
def tw16675808888817927299:=N
def tw16660641777351772199:=N
def tw16570130059026015973:=N
def tw16569494107819096518:=N
def tw16537487346214410148:=N
def tw16456411949122702476:=N
def tw16442160400542803665:=N
def tw16424241979576397657:=N
def tw16224246053988885618:=N
def tw16098084735955619540:=N
def tw16069429679837292987:=N
def tw15943721685001920931:=N
def tw15928227451358450582:=N
def tw15607746750564683352:=N
def tw15595582398141924601:=N
def tw15560906067975606629:=N
def tw15550574008956348115:=N
def tw15423428032323302445:=N
def tw15378018964948406971:=N
def tw15365916659400193142:=N
def tw15320260564101996607:=N
def tw15252884769238424813:=N
def tw15252663835213916331:=N
def tw15187342242894273269:=N
def tw15126719488143906184:=N
def tw15125108251128037211:=N
def tw15028483045751675312:=N
def tw1489481064578961945:=N
def tw14795600175415306361:=N
def tw14418868223173872784:=N
def tw14398584755527807827:=N
def tw14317479949958225863:=N
def tw142719164728977205:=N
def tw1413890150133947031:=N
def tw14125478602253028960:=N
def tw14068828488406993315:=N
def tw13897973823656861551:=N
def tw13824335128907852499:=N
def tw13753039558478431000:=N
def tw13693787438864755440:=N
def tw13581606990853285267:=N
def tw13501122633667758624:=N
def tw13477966540751772988:=N
def tw13155031871727311281:=N
def tw13155023169395266760:=N
def tw13140545976596036999:=N
def tw13050248652806888908:=N
def tw1300935033751312471:=N
def tw12763560989054718991:=N
def tw12736251631703555574:=N
def tw12558397395940645028:=N
def tw12512443678813564339:=N
def tw12410593264317423571:=N
def tw12326608604922191378:=N
def tw12040818829516414587:=N
def tw12019994847452085653:=N
def tw11970763086242708296:=N
def tw11948723361757002822:=N
def tw11899853528260306621:=N
def tw11871467248374362900:=N
def tw11867986826433606805:=N
def tw11761058546191455301:=N
def tw11709114734120540526:=N
def tw11660007282889477869:=N
def tw1163318077756337389:=N
def tw11576953636945643538:=N
def tw1142629965748567369:=N
def tw11388283542404250021:=N
def tw11171605064769479989:=N
def tw11163678499750948872:=N
def tw11105990910215225868:=N
def tw11037655429582954013:=N
def tw10931512482174981895:=N
def tw10926665120131251808:=N
def tw10922840895376224755:=N
def tw1073408881378640441:=N
def tw10641026207686568506:=N
def tw10637713919948312172:=N
def tw1049753467217660178:=N
def tw10394429007309182474:=N
def tw10355599715480890707:=N
def tw10344481547192933339:=N
def tw10331553939088149110:=N
def tw10272165357737600894:=N
def tw10156371686758735726:=N
def tw10115824715340077458:=N
def tw10078578952441362584:=N
def tw10025531079528544242:=N
def tw978146288092470999:=N
def tw960943632711356964:=N
def tw9297587194023535739:=N
def tw9218638575012738426:=N
def tw8965551897184173648:=N
def tw8952157127353159207:=N
def tw8790270121797735654:=N
def tw8461207008137062096:=N
def tw8242032639718563797:=N
def tw8236060320589008475:=N
def tw8145332326832553960:=N
def tw7982102877720550310:=N
def tw7974430404273714061:=N
def tw781231936428177608:=N
def tw7783102352925382572:=N
def tw7661744204745923978:=N
def tw7587360399261325839:=N
def tw7557065164365042868:=N
def tw7315417030334708993:=N
def tw7192453523268067812:=N
def tw7153841370723762468:=N
def tw6886003637310929819:=N
def tw6208365257653704954:=N
def tw5864877106513131188:=N
def tw5802412498526369478:=N
def tw5715043953119044423:=N
def tw5573968030883632605:=N
def tw5573809739403071263:=N
def tw5209389583942098806:=N
def tw4977366356017116445:=N
def tw4898885348317207350:=N
def tw4882165623757301731:=N
def tw4834851286503560152:=N
def tw4451402930916877135:=N
def tw4401842700288493912:=N
def tw4125662607428863310:=N
def tw3906885409400467318:=N
def tw3411793450338631174:=N
def tw3377825597306378506:=N
def tw3297590100486089421:=N
def tw3239889043579557279:=N
def tw2823794920977741308:=N
def tw2799366781305192813:=N
def tw2730086220707034047:=N
def tw2712188164621500055:=N
def tw2710382171422776906:=N
def tw2681712381952943600:=N
def tw255101223345949331:=N
def tw2129674752291647052:=N
def tw1893835663303856138:=N
def tw184687964176292980:=N
def tw18442905149095636840:=N
def tw18415778889069493835:=N
def tw18009648947947601071:=N
def tw17990471370359006212:=N
def tw17831923139440196950:=N
def tw17813118331878061651:=N
def tw17804019359007699617:=N
def tw17790285371310661521:=N
def tw17780816959867393669:=N
def tw17645628822653135170:=N
def tw17449160554242682539:=N
def tw17362692701874393483:=N
def tw17220499399181495667:=N
def tw1717724793170323169:=N
def tw17146537813959232112:=N
def tw17018006239122945010:=N
def tw16869670545037121848:=N
def tw16699864718647371381:=N
def tw16588144186530572503:=N
def tw16415562476848588454:=N
def tw1624515821094310619:=N
def tw16170793340780699573:=N
def tw16028048618811743032:=N
def tw16016464090607658363:=N
def tw15879364346392487403:=N
def tw15839868619748730547:=N
def tw15545279996195239171:=N
def tw1538877530414625379:=N
def tw15383345752423888157:=N
def tw15270540378910328161:=N
def tw15066307457402236785:=N
def tw14660774560481151678:=N
def tw14648242818072360890:=N
def tw14394647700030945762:=N
def tw14077487595737048866:=N
def tw13946111822565270038:=N
def tw13911190224929716875:=N
def tw13900020942313575604:=N
def tw13586802693377877771:=N
def tw13546468436034855754:=N
def tw1348776489257764554:=N
def tw13486394588801538796:=N
def tw13408050897831077492:=N
def tw13354083916995923872:=N
def tw1318966755084586838:=N
def tw12802039405829443838:=N
def tw12598779174693768264:=N
def tw1225698643366780409:=N
def tw12129270786960164996:=N
def tw12076215671375215724:=N
def tw12022761142777799938:=N
def tw11989129100495185254:=N
def tw11791124820675915509:=N
def tw11626855554815764336:=N
def tw11384421760047407650:=N
def tw11236618076774961412:=N
def tw10563973453779508859:=N
def tw10499444868094675298:=N
def tw10167503626333606393:=N
def tw10129381747959779496:=N
end PySem.W.Fast
open PySem PySem.W PyProof.Rows
set_option maxRecDepth 100000 in
set_option maxHeartbeats 0 in
theorem PySem.Challenge.cw_slanttables_k76_papers_and_squares_other_holds : PySem.Challenge.rw_slanttables_k76_papers_and_squares_other.Holds := by
  w_on;o_law;k_head;(case hw=>w_witness2)
  k_fill
  refine LP.B.C.Q0.Q3.Y6.walk (l:=PySem.Challenge.rw_slanttables_k76_papers_and_squares_other) rfl rfl (λw h Y=>PySem.W.kIn_of Y) ?F
  case F=>
    intro w mg fa h KX G hmg;refine LP.B.C.Q0.Q3.Y6.all_mk ?_ hmg;constructor
    all_goals first
      |(refine' LP.mkF KX G ?a ?l ?c ?k;(case a=>k_is);(case l=>k_is);(case c=>k_is);(case k=>k_is))
      |(refine' mg_none_of KX G ?a;case a=>k_is)
      |(refine' LP.mkC KX G ?a;case a=>k_is)
      |(refine' LP.mkI KX G ?a;case a=>k_is)
      |(refine' LP.mkT KX G ?a ?l;(case a=>k_is);(case l=>k_is))
      |(refine' LP.mkX KX G ?a ?e;(case a=>k_is);(case e=>k_exc))
      |(refine' LP.mkH KX G ?a ?e ?_;(case a=>k_is);(case e=>k_exc);intro n hn;simp only[LP.LX,Yan,hJ,or_false] at hn;first|(rcases hn with rfl|rfl|rfl|rfl|rfl|rfl|rfl|rfl|rfl|rfl|rfl<;>(refine' LP.exD ?a ?b;(case a=>k_is);(case b=>k_is)))|(rcases hn with rfl|rfl|rfl|rfl|rfl|rfl<;>(refine' LP.exD ?a ?b;(case a=>k_is);(case b=>k_is)))|(rcases hn with rfl|rfl|rfl<;>(refine' LP.exD ?a ?b;(case a=>k_is);(case b=>k_is)))|(subst hn;refine' LP.exD ?a ?b;(case a=>k_is);(case b=>k_is)))
      | (refine ⟨λn hn=>?_⟩;simp only [LP.LX,Yan,hJ,or_false] at hn;rcases hn with rfl | rfl | rfl | rfl | rfl | rfl<;>
         (refine' LP.exX ?a (LP.clsX_of ?g ?n ?b ?h ?c ?d ?t ?o) ?k ?_;(case a=>k_is);(case g=>k_is);(case n=>k_is);(case b=>k_is);(case h=>k_is);(case c=>k_is);(case d=>k_is);(case t=>k_is);(case o=>k_is);(case k=>kit_is)
          intro m hm;simp only[LP.MX,LP.LX,Yan,hJ,or_false] at hm;rcases hm with rfl|rfl|rfl|rfl|rfl|rfl|rfl|rfl|rfl<;>
           (refine' LP.exC ?a ?b;(case a=>k_is);(case b=>first|(refine Eq.trans (b:=some true) ?_ (by decide +kernel);kit_is)|(refine Eq.trans (b:=some false) ?_ (by decide +kernel);kit_is)))))
