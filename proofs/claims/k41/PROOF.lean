import PyProof.Rows.All
import Wide.All
import OpenK.AllK
import Wide.FinOn
import PySem.Challenge.RW_slanttables_k41_squares_told
abbrev Q7(x:PySem.Str):Prop:=(x==("__debug__" : PySem.Str))=false
set_option hygiene false
local macro_rules | `(tactic| walk_at "v")=>`(tactic| first|exact Or.inl rfl|exact Or.inr (Or.inl rfl)|exact Or.inr<|Or.inr rfl)
local macro_rules | `(tactic| walk_at "u")=>`(tactic| first|exact .inl rfl|exact .inr rfl|assumption)
theorem wp{p:Prop}(h:p:=by decide +kernel):p:=h
theorem E8{p:Prop}(h:p:=by omega):p:=h
theorem F4{p:Prop}(h:p:=by decide):p:=h
theorem KE{p:Prop}(h:p:=by simp):p:=h
theorem Fr{p:Prop}(h:p:=by rfl):p:=h
theorem Ri{p:Prop}(h:p:=by walk_at "u"):p:=h
theorem Rj{p:Prop}(h:p:=by intro _;rfl):p:=h
theorem Rk{p:Prop}(h:p:=by walk_at "v"):p:=h
theorem Rl{p:Prop}(h:p:=by first|exact Or.inl rfl|exact Or.inr rfl):p:=h
theorem Rm{p:Prop}(h:p:=by exact⟨rfl,rfl,rfl,wp,rfl,wp,wp⟩):p:=h
theorem Rn{p:Prop}(h:p:=by with_unfolding_all rfl):p:=h
theorem Ro{p:Prop}(h:p:=by first|exact fnS.len λ_=>rfl|exact xS.len λ_=>rfl|exact rlS.len λ_=>rfl):p:=h
theorem Rp{p:Prop}(h:p:=by first|exact fnS.mono|exact rlS.mono|exact xS.mono):p:=h
theorem dc{p:Prop}(h:p:=by intro _ _ _ _ _ _;(first|refine A4 ?_|refine A5 ?_|refine A6 ?_|refine A7 ?_);intros;rfl):p:=h
local macro_rules(kind:=«term{_}»)|`({$t})=>`(autoParam $t Fr._auto_1)
local macro_rules|`(($t :))=>`(autoParam $t F4._auto_1)
abbrev K4:=List (List Rat)
abbrev K5:=List (List Int)
abbrev K8:=List (PySem.Addr×PySem.Obj)
abbrev Lb:=PySem.Value->PySem.Shared->Prop
abbrev QW:=PySem.Str->Option PySem.Value
abbrev QX:=List PySem.Value
abbrev QY:=List Int
abbrev QZ:=List Rat
abbrev Q4:=List PySem.Str
abbrev Q5:=Nat->Rat
abbrev Q6:=List Nat
noncomputable section
set_option genSizeOf false
set_option genInjectivity false
set_option compiler.extract_closed false
set_option Elab.async false
set_option linter.all false
set_option maxRecDepth 100000
set_option exponentiation.threshold 2000
set_option exponentiation.threshold 400
set_option maxHeartbeats 8000000
def fz:=@if_neg
def ks:=@if_pos
def dv:=@PySem.Heap.lt_size
def dw:=@Nat.lt_of_lt_of_le
def iu:=@Nat.lt_irrefl
def BM:=@Array.append_assoc
def gY:=@Nat.ne_of_lt
def Yaf:=@List.mem_filter
def Yag:=@List.mem_range
def fL:=@Nat.le_trans
def gP:=@Nat.le_of_lt
def zI:=@List.filterMap_cons
def gZ:=@List.mem_cons_self
def fM:=@List.mem_cons_of_mem
def zJ:=@PySem.Heap.get?_none_of_le
def Yan:=@List.mem_cons
def Yao:=@List.mem_append
def u9:=@List.mem_append_left
def Yaq:=@List.getElem?_eq_some_iff
def dW:=@List.getElem?_set_self
def df:=@List.getElem?_set_ne
def zK:=@Array.length_toList
def dM:=@PySem.Heap.get?_push_of_some
def mP:=@Bool.false_ne_true
def zL:=@Nat.ne_of_gt
def g6:=@PySem.Heap.get?_push_size
def bZ:=@Nat.le_refl
def Yaz:=@List.mem_filterMap
def kI:=@List.mem_append_right
def fj:=@List.size_toArray
def oS:=@List.append_nil
def YaD:=@List.nodup_cons
def zM:=@List.of_mem_zip
def iC:=@List.length_take
def jR:=@List.getElem?_append_right
def mQ:=@List.getElem?_replicate
def kJ:=@List.getElem?_append_left
def cH:=@List.getElem?_map
def BN:=@List.getElem?_take_of_lt
def iD:=@List.mem_of_getElem?
def fN:=@List.length_append
def bH:=@List.length_map
def qv:=@List.length_replicate
theorem jS(n:Nat):(n:Int).toNat=n:=rfl
def lx:=@List.length_drop
def dX:=@Bool.and_eq_true
def vP:=@PySem.Heap.get?_update_self
def sR:=@PySem.Heap.get?_update_other
def dN:=@List.length_set
def sS:=@List.all_cons
def zN:=@List.any_cons
theorem iF{α}{a:α}{n}:List.replicate (n+1) a=a::List.replicate n a:=rfl
def va:=@List.flatten_cons
def oU:=@List.append_assoc
def rB:=@List.length_singleton
def oV:=@Nat.succ_mul
def vQ:=@Nat.add_comm
theorem dQ{α}(l:List α):[]++l=l:=rfl
def zO:=@Nat.mul_comm
def gG:=@List.map_nil
def c8:=@List.map_cons
def lT:=@List.lookup_cons
def sT:=@Bool.not_eq_true'
def BO:=@List.forIn_cons
def dU:=@Bool.false_eq_true
def lU:=@Option.map_some
def oW:=@PySem.Heap.size_push
def Ybd:=@List.all_eq_true
def BP:=@Bool.or_eq_true
def BQ:=@Nat.le_of_succ_le
def eV:=@Nat.lt_or_ge
def aZ:=@List.getD_eq_getElem?_getD
def jT:=@Nat.zero_le
def qw:=@List.ext_getElem?
def iX:=@List.getElem?_range
def BT:=@List.getElem?_reverse
def eA:=@List.getElem?_eq_none
def zP:=@List.reverse_cons
def zQ:=@List.length_reverse
def Ybp:=@Array.getElem?_eq_some_iff
def vb:=@List.contains_cons
def BU:=@PySem.Heap.get?_push_at
def oY:=@Nat.le_succ
theorem dR{α}{a:α}{l:List α}:(a::l).length=l.length+1:=rfl
theorem iw{α}:([]:List α).length=0:=rfl
def gQ:=@List.not_mem_nil
def BV:=@Int.toNat_of_nonneg
def Ybx:=@List.mem_iff_getElem
def bU:=@List.getElem?_eq_getElem
def sU:=@Bool.eq_iff_iff
def jn:=@List.getElem_mem
def sV:=@List.drop_zero
def sW:=@List.drop_eq_getElem_cons
def BW:=@List.drop_of_length_le
def rC:=@List.length_zipWith
def jU:=@Nat.pow_le_pow_right
def BX:=@Int.mul_ediv_cancel_left
def eI:=@Int.natAbs_mul
theorem oZ(n:Nat):(n:Int).natAbs=n:=rfl
def kx:=@Nat.pow_add
def zR:=@Nat.pow_pos
def mR:=@Nat.mul_le_mul_right
def BY:=@Nat.mul_ne_zero
def vc:=@Nat.pow_succ
def rD:=@Int.natAbs_add_le
def Fq:=@Int.sign_eq_neg_one_of_neg
def gD:=@Rat.div_def
def BZ:=@Rat.num_intCast
def B0:=@Rat.den_intCast
def zS:=@Nat.one_lt_two_pow
def YbU:=@List.mem_map
def B1:=@Int.gcd_pos_of_ne_zero_right
def zT:=@Int.neg_mul_neg
def zU:=@Int.mul_fdiv_cancel_left
def vR:=@Int.one_mul
def vS:=@Int.mul_zero
def dG:=@List.map_map
def jo:=@List.map_congr_left
def zV:=@List.map_id
def vd:=@Rat.num_divInt_den
def qb:=@List.getElem_map
theorem gR{α}{a:α}{l k:List α}:(a::l)++k=a::(l++k):=rfl
theorem eJ{α}{a:α}{l:List α}:(a::l)[0]? = some a:=rfl
theorem gb{α}{a:α}{n:Nat}{l:List α}:(a::l)[n+1]? = l[n]? :=rfl
theorem g9{α}{a b:α}{l:List α}:(a::l).set 0 b=b::l:=rfl
theorem hJ{α}{a b:α}{n}{l:List α}:(a::l).set (n+1) b=a::l.set n b:=rfl
def ly:=@List.replicate_zero
def Zz9:=@Int.fmod_eq_emod_of_nonneg
def fk:=@Bool.not_true
def zW:=@Bool.true_and
def mS:=@Nat.lt_of_le_of_lt
def B3:=@Rat.divInt_ofNat
def jV:=@Rat.add_zero
theorem B4{α}{β}{γ}{f:α->β->γ}{a b l k}:List.zipWith f (a::l) (b::k)=f a b::List.zipWith f l k:=rfl
def ve:=@Rat.zero_add
def sX:=@Nat.min_eq_left
def B5:=@Int.fdiv_eq_ediv_of_nonneg
def sY:=@List.map_drop
def lV:=@List.map_take
def qc:=@List.mem_of_mem_drop
def mT:=@List.mem_of_mem_take
def sZ:=@List.map_reverse
def B6:=@Int.fmod_nonneg_of_pos
def o1:=@List.mem_map_of_mem
def zX:=@List.range_succ_eq_map
def vf:=@List.getElem?_drop
def Ycu:=@List.mem_reverse
def mU:=@Bool.not_false
def vT:=@Rat.divInt_mul_divInt
def mV:=@Int.mul_ne_zero
def iY:=@List.length_range
def B7:=@List.map_replicate
def zY:=@Nat.mul_le_mul_left
def rE:=@List.map_set
def B8:=@List.mem_or_eq_of_mem_set
def ky:=@List.map_append
def vg:=@Nat.zero_add
def qx:=@Nat.mul_lt_mul''
def zZ:=@Int.natAbs_sub_le
def B9:=@List.getElem?_set
def Ca:=@List.range_succ
def z0:=@List.filter_cons_of_pos
def Cc:=@List.filter_cons_of_neg
def jp:=@Nat.mul_le_mul
def Cd:=@Rat.zero_divInt
def rF:=@Int.mul_comm
def Ce:=@Rat.divInt_mul_right
def kK:=@Rat.zero_mul
def vh:=@List.getElem_zipWith
def rG:=@Nat.not_lt_zero
def vU:=@Nat.lt_or_gt_of_ne
def YcT:=@List.mem_singleton
def vV:=@Rat.intCast_add
def fA:=@Rat.intCast_mul
def mW:=@Rat.mul_comm
def rH:=@Option.getD_some
def rJ:=@List.getElem?_take
def Cf:=@List.length_pos_of_mem
def o4:=@Rat.divInt_eq_div
def Cg:=@Rat.intCast_natCast
def td:=@List.ext_getElem
def vW:=@List.getElem_range
def vX:=@Rat.one_mul
def z5:=@Rat.inv_mul_cancel
def Yc6:=@List.filter_eq_nil_iff
def vY:=@Nat.sub_self
def Yc8:=@Rat.mul_eq_zero
def lA:=@Rat.mul_inv_cancel
def qy:=@Rat.intCast_sub
def Ch:=@List.filter_append
section
open PySem PySem.Spec PyProof.Rows PySem.W
def Qg:=@wpAny_bind
abbrev Qh:=W.Frag
def Qi:=@wpAny_pure
def Qj:=@absurd
def Qk:=@Option.some.inj
def Ql:=@boot_isinstance
def Qm:=@decide_eq_true
def Qn:=@boot_len
def Qo:=@decide_eq_true_eq
def Qp:=@PySem.mem_of_lookup
def Qq:=@Ne.symm
def Qr:=@wpAny_loadPart_at
def Qs:=@wpAny_field
def Qt:=@decide_eq_false
def Qu:=@wpAny_newObj_type
def Qv:=@wpAny_mono
def Qw:=@False.elim
def Qx:=@beq_self_eq_true
def Qy:=@wpAny_holding
def Qz:=@wpAny_truthy_bool
def QA:=@boot_tuple
def QC:=@wpAny_standAt
def QD:=@wpAny_call_entry
def QE:=@wpAny_seqItems
def QF:=@wpAny_setField_rec
def QG:=@wpAny_passesOwn
def QH:=@wpAny_isSubtype_exc
def QJ:=@wpAny_execs_nil
def QK:=@wpAny_Call_Name_kw
def QM:=@beq_iff_eq
def QN:=@wpAny_rule
def QO:=@wpAny_setField
def QP:=@wpAny_pyIter_list
def QQ:=@of_decide_eq_true
def QR:=@wpAny_pyIter_enum
def QS:=@wpAny_typeOf
def QT:=@wpAny_updateSeq_pair
def QU:=@beq_eq_false_iff_ne
def QV:=@wpAny_onRaise
end
namespace L2
open PySem PySem.Spec PyProof.Rows
variable{κ:Type}{a b it dx:Addr}{P prog:Program}{w:World}{h h':Heap}{x name qual:Str}{e c tg:Expr}{E1:K8}{s s':Shared}{g':Array GenState}{t' i j k n:Nat}{d':Drawn}{ch fp:List Addr}{N ps:Q4}{A:Around}{Q:Lb}{f:Value->Value->Sem Value}{pos pos' p:Pos}{K:Qh}{es:List Expr}{g:Int->Int->Int}{op:CmpOp}{body:List Stmt}{us:QX}{mA mg:QW}{kw:List (Str×Value)}{outer:List Env}{fd:FuncData}{scope:Scope}{osl:Array (Option Value)}
abbrev kz:=Sum Int Str
def rK:kz->Value->Bool
 |.inl k,v=>Value.isInt k v|.inr x,v=>Value.isStrOf x v
def Ci(w:World):kz->Int
 |.inl k=>hashInt k|.inr x=>hashStr w x
theorem bN:∀{k:kz} {v:Value},rK k v=true->(∃i t,k=Sum.inl i/\v=Value.int i t)\/(∃x t,k=Sum.inr x/\v=Value.str x t)
 |.inl i,v,h=>by obtain⟨t,e⟩:=Value.isInt_shape (k:=i) (v:=v) h;exact .inl ⟨i,t,rfl,e⟩
 |.inr x,v,h=>by obtain⟨t,e⟩:=Value.isStrOf_shape (x:=x) (v:=v) h;exact .inr ⟨x,t,rfl,e⟩
theorem tu(a b:Int):decide ((Sum.inl a:kz)=Sum.inl b)=(a==b):=by by_cases e:a=b;subst e;simp;have h:¬(Sum.inl a:kz)=Sum.inl b:=λq=>e (Sum.inl.inj q);rw[Qt h];exact(beq_eq_false_iff_ne.mpr e).symm
theorem tw(a b:Str):decide ((Sum.inr a:kz)=Sum.inr b)=decide (a=b):=by by_cases e:a=b;subst e;simp;have h:¬(Sum.inr a:kz)=Sum.inr b:=λq=>e (Sum.inr.inj q);rw[Qt h,Qt e]
theorem tx(a:Int)(b:Str):decide ((Sum.inl a:kz)=Sum.inr b)=false:=Qt<|λq=>nomatch q
theorem tz(a:Str)(b:Int):decide ((Sum.inr a:kz)=Sum.inl b)=false:=Qt<|λq=>nomatch q
def jq(prog:Program)(w:World):PySem.KeyKind prog w kz where
 is:=rK
 hash:=Ci w
 inj:=λv a b ha hb=>by
  rcases bN ha with⟨i,t,rfl,rfl⟩|⟨x,t,rfl,rfl⟩
  rcases bN hb with⟨j,u,rfl,e⟩|⟨y,u,rfl,e⟩
  injection e with e1 _;rw[e1]
  exact nomatch e;rcases bN hb with⟨j,u,rfl,e⟩|⟨y,u,rfl,e⟩
  exact nomatch e;injection e with e1 _;rw[e1]
 byValue:=λk v h=>by rcases bN h with⟨i,t,rfl,rfl⟩|⟨x,t,rfl,rfl⟩<;>rfl
 pyHash:=λhv h=>by
  rcases bN hv with⟨i,t,rfl,rfl⟩|⟨x,t,rfl,rfl⟩
  exact wpAny_pyHash_int h;exact wpAny_pyHash_str h
 eqBool:=λhu hv h=>by
  rcases bN hu with⟨i,t,rfl,rfl⟩|⟨x,t,rfl,rfl⟩
  rcases bN hv with⟨j,u,rfl,rfl⟩|⟨y,u,rfl,rfl⟩
  rw[tu]at h;exact wpAny_eqBool_int h;rw[tx]at h;exact SeqAt.EqAt.int_str i t y u _ _ _ _ h;rcases bN hv with⟨j,u,rfl,rfl⟩|⟨y,u,rfl,rfl⟩
  rw[tz]at h;exact SeqAt.EqAt.str_int x t j u _ _ _ _ h;rw[tw]at h;exact wpAny_eqBool_str h
 «strs»:=λk x t v h=>by
  rcases bN h with⟨i,u,rfl,e⟩|⟨y,u,rfl,e⟩
  exact nomatch e;injection e with e1 _
  subst e1;cases v<;>rfl
set_option genInjectivity true in
set_option genInjectivity true in
inductive V where
 |non|bl (b:Bool)|int (i:Int)|str (x:Str)|byt (b:Array UInt8)|flt (b:UInt64)|ref (a:Addr)|ty (n:String)
 deriving DecidableEq
abbrev Rg:=List V
variable{xs vs:Rg}{gV:Rg->Rg->Rg}
def RelV:V->Value->Prop
 |.non,u=>u=Value.none|.bl b,u=>u=Value.bool b|.int i,u=>∃t,u=Value.int i t|.str x,u=>∃t,u=Value.str x t|.byt b,u=>∃t,u=Value.bytes b t|.flt b,u=>∃t,u=Value.float b t|.ref a,u=>u=Value.ref a|.ty n,u=>u=Value.type n
abbrev Vals:Rg->QX->Prop:=Paired RelV
theorem Vals.length{xs:Rg}{us:QX}(r:Vals xs us):xs.length=us.length:=Paired.length r
theorem Vals.get:∀{xs:Rg} {us:QX} {i:Nat} {x:V},Vals xs us->xs[i]? = some x->∃u,us[i]? = some u/\RelV x u
 |_,_,_,_,.nil,e=>by simp at e|_,_,0,_,.cons r _,e=>by simp at e;subst e;exact⟨_,rfl,r⟩|_,_,i+1,x,.cons _ t,e=>by obtain⟨u,h1,h2⟩:=Vals.get (i:=i) (x:=x) t (by simpa using e);exact⟨u,by simpa using h1,h2⟩
theorem Vals.set{x:V}{u:Value}(r:RelV x u):∀{xs:Rg} {us:QX} (i:Nat),Vals xs us->Vals (xs.set i x) (us.set i u)
 |_,_,_,.nil=>.nil|_,_,0,.cons _ t=>.cons r t|_,_,i+1,.cons q t=>.cons q<|Vals.set r i t
theorem Vals.append:∀{xs ys:Rg} {us ws:QX},Vals xs us->Vals ys ws->Vals (xs++ys) (us++ws)
 |_,_,_,_,.nil,s=>s|_,_,_,_,.cons r t,s=>.cons r<|Vals.append t s
theorem Vals.take:∀{xs:Rg} {us:QX} (n:Nat),Vals xs us->Vals (xs.take n) (us.take n)
 |_,_,0,_=>.nil|_,_,_+1,.nil=>.nil|_,_,n+1,.cons r t=>.cons r<|Vals.take n t
theorem Vals.drop:∀{xs:Rg} {us:QX} (n:Nat),Vals xs us->Vals (xs.drop n) (us.drop n)
 |_,_,0,r=>r|_,_,_+1,.nil=>.nil|_,_,n+1,.cons _ t=>Vals.drop n t
def vZ:Option V->Option Value->Prop
 |some v,some u=>RelV v u|none,none=>True|_,_=>False
def KV:List (κ×V)->List (κ×Value)->Prop:=Paired λ(p:κ×V) (q:κ×Value)=>p.1=q.1/\RelV p.2 q.2
def kV:kz->V
 |.inl i=>.int i|.inr x=>.str x
set_option genInjectivity true in
set_option genInjectivity true in
inductive HO where
 |lst (xs:Rg)
 |tup (xs:Rg)
 |dK (kvs:List (kz×V))|dT (kvs:List (List kz×V))
 |set (S:Int->Bool) (n:Nat)
 |ins (C dx:Addr) (fs:List (Str×V))
 |own (x:Addr)
 |xd (fs:List (Str×V))
 |met (f x:Addr)
 |rng (lo hi:Int)
 |frz (o:Obj) (u:HO)
 |tbl (ps:Array Value)
 |ext (φ:Heap->Prop)
variable{o:HO}
abbrev Hp:=Addr->Option HO
variable{H H':Hp}
noncomputable def upd(H:Hp)(a:Addr)(o:HO):Hp:=λb=>if b=a then some o else H b
theorem aP:upd H a o a=some o:=by unfold upd;rw[ks rfl]
theorem aI(h:b≠a):upd H a o b=H b:=by unfold upd;rw[fz h]
theorem qz{u:HO}:upd (upd H a o) a u=upd H a u:=by funext b;unfold upd;split<;>rfl
theorem dD(h:H a=some o)(h':H b=none):a≠b:=by intro e;subst e;rw[h]at h';cases h'
section
variable(P:Program)(w:World)
def ObjOk(H:Hp)(h:Heap)(a:Addr):HO->Prop
 |.lst xs=>xs.length<=sizeLine/\∃(its:QX) (n:Nat),Vals xs its/\h.get? a=some { cls:=.type "list",data:=.seq its.toArray n }|.tup xs=>xs.length<=sizeLine/\∃its:QX,Vals xs its/\IsTup h a its.toArray|.dK kvs=>kvs.length<=sizeLine/\(a==sysModules)=false/\∃vs,KV kvs vs/\h.DictOf (jq P w) a vs
 |.dT kvs=>kvs.length<=sizeLine/\(a==sysModules)=false/\∃xs:List (List kz×Addr×Value),
   Paired (λ(p:List kz×V) (q:List kz×Addr×Value)=>p.1=q.1/\H q.2.1=some (.tup<|p.1.map kV)/\RelV p.2 q.2.2) kvs xs/\
   ∃o es ep,h.get? a=some o/\o.ExactDict/\o.data=.dict es ep/\es.toList=xs.map (entryOfKey<|tupleKind<|jq P w)/\(xs.map (·.1)).Nodup
 |.set S n=>h.SetOf (intKind P w) a S n
 |.ins C dx fs=>H dx=some (.own a)/\fs.length<=1000/\dx≠a/\h.get? a=some (W.instObj C dx)/\
   ∃mA,h.Ns1 dx mA/\(∀f,vZ (fs.lookup f)<|mA f)/\PySem.Within mA (fs.map (·.1))
 |.own _=>∃o,h.get? a=some o|.xd fs=>∃mA,h.Ns1 a mA/\∀f,vZ (fs.lookup f)<|mA f
 |.rng lo hi=>∃t u v,h.get? a=some { cls:=.type "range",data:=.fields #[.int lo t,.int hi u,.int 1 v] }|.frz o u=>h.get? a=some o/\ObjOk H h a u|.tbl ps=>h.get? a=some { cls:=.none,data:=.fields ps }|.met f x=>h.get? a=some (W.methodObj (.ref f)<|.ref x)|.ext φ=>φ h/\(∃o,h.get? a=some o)/\∀h1 h2:Heap,φ h1->(∀o,h1.get? a=some o->h2.get? a=some o)->φ h2
def HOk(H:Hp)(h:Heap):Prop:=∀a o,H a=some o->ObjOk P w H h a o
end
section
theorem ObjOk.lt(x:ObjOk P w H h a o):a<h.objs.size:=by
 cases o with
 |lst xs=>obtain⟨_,_,_,_,e⟩:=x;exact dv e
 |tup xs=>obtain⟨_,_,_,p⟩:=x;exact p.lt
 |dK kvs=>obtain⟨_,_,_,_,o,_,_,e,_⟩:=x;exact dv e
 |dT kvs=>obtain⟨_,_,_,_,o,_,_,e,_⟩:=x;exact dv e
 |set S n=>obtain⟨o,_,_,_,e,_⟩:=x;exact dv e
 |ins C dx fs=>obtain⟨_,_,_,e,_⟩:=x;exact dv e
 |own y=>obtain⟨_,e⟩:=x;exact dv e
 |xd fs=>obtain⟨_,⟨_,_,_,e,_⟩,_⟩:=x;exact dv e
 |rng lo hi=>obtain⟨_,_,_,e⟩:=x;exact dv e
 |frz ob u=>obtain⟨e,_⟩:=x;exact dv e
 |tbl ps=>exact dv (show h.get? a=some _ from x)|met f y=>exact dv (show h.get? a=some _ from x)|ext φ=>obtain⟨_,⟨_,e⟩,_⟩:=x;exact dv e
theorem Paired.mapP{α β:Type}{F G:α->β->Prop}:∀{l₁:List α} {l₂:List β},Paired F l₁ l₂->(∀a b,F a b->G a b)->Paired G l₁ l₂
 |_,_,.nil,_=>.nil|_,_,.cons r t,f=>.cons (f _ _ r)<|Paired.mapP t f
theorem ObjOk.stay(x:ObjOk P w H h a o)(k:∀b u,(b=a\/H b=some (.own a))->h.get? b=some u->h'.get? b=some u)
  (ho:∀b,H b=some (.own a)->H' b=some (.own a)) (ht:∀b xs,H b=some (.tup xs)->H' b=some (.tup xs)):ObjOk P w H' h' a o:=by
 induction o with
 |lst xs=>obtain⟨z,its,n,r,e⟩:=x;exact⟨z,its,n,r,k _ _ (.inl rfl) e⟩
 |tup xs=>obtain⟨z,its,r,ob,e,c⟩:=x;exact⟨z,its,r,ob,k _ _ (.inl rfl) e,c⟩
 |dK kvs=>obtain⟨z,y,vs,r,ob,es,ep,e,c⟩:=x;exact⟨z,y,vs,r,ob,es,ep,k _ _ (.inl rfl) e,c⟩
 |dT kvs=>
  obtain⟨z,y,xs,r,ob,es,ep,e,c⟩:=x;exact⟨z,y,xs,Paired.mapP r λp q z=>⟨z.1,ht _ _ z.2.1,z.2.2⟩,ob,es,ep,k _ _ (.inl rfl) e,c⟩
 |set S n=>obtain⟨ob,es,ep,t,e,c⟩:=x;exact⟨ob,es,ep,t,k _ _ (.inl rfl) e,c⟩
 |ins C dx fs=>
  obtain⟨d,z,ne,e,mA,⟨od,es,ep,e2,c⟩,r⟩:=x;exact⟨ho _ d,z,ne,k _ _ (.inl rfl) e,mA,⟨od,es,ep,k _ _ (.inr d) e2,c⟩,r⟩
 |own y=>obtain⟨ob,e⟩:=x;exact⟨ob,k _ _ (.inl rfl) e⟩
 |xd fs=>obtain⟨mA,⟨od,es,ep,e,c⟩,r⟩:=x;exact⟨mA,⟨od,es,ep,k _ _ (.inl rfl) e,c⟩,r⟩
 |rng lo hi=>obtain⟨t,u,v,e⟩:=x;exact⟨t,u,v,k _ _ (.inl rfl) e⟩
 |frz ob u ih=>obtain⟨e,q⟩:=x;exact⟨k _ _ (.inl rfl) e,ih q⟩
 |tbl ps=>
  have e:h.get? a=some { cls:=.none,data:=.fields ps }:=x;show h'.get? a=some { cls:=.none,data:=.fields ps };exact k a _ (.inl rfl) e
 |met f y=>
  have e:h.get? a=some (W.methodObj (.ref f)<|.ref y):=x;show h'.get? a=some (W.methodObj (.ref f)<|.ref y);exact k a _ (.inl rfl) e
 |ext φ=>obtain⟨p,⟨o,e⟩,st⟩:=x;exact⟨st _ _ p λo q=>k _ _ (.inl rfl) q,⟨o,k _ _ (.inl rfl) e⟩,st⟩
theorem HOk.lt(x:HOk P w H h)(e:H a=some o):a<h.objs.size:=(x a o e).lt
theorem HOk.fresh(x:HOk P w H h)(e:h.objs.size<=a):H a=none:=by
 cases q:H a with
 |none=>rfl|some u=>exact Qj (dw (x.lt q) e)<|iu _
theorem HOk.kept(x:HOk P w H h)(k:∀b u,h.get? b=some u->h'.get? b=some u):HOk P w H h':=λa o e=>(x a o e).stay (λb u _ q=>k b u q) (λ_ q=>q) λ_ _ q=>q
theorem HOk.laid(x:HOk P w H h)(k:∀b u,h.get? b=some u->h'.get? b=some u)(hp:h.objs.size<=a)(new:ObjOk P w (upd H a o) h' a o):HOk P w (upd H a o) h':=λb u e=>by have hn:=x.fresh hp;by_cases hb:b=a;subst hb;rw[aP]at e;cases e;exact new;rw[aI hb]at e;exact(x b u e).stay (λc v _ q=>k c v q) (λc q=>by rw[aI<|dD q hn];exact q) λc xs q=>by rw[aI<|dD q hn];exact q
end
def Rd(H:Hp)(a:Addr)(u:HO):Prop:=H a=some u\/∃o,H a=some (.frz o u)
theorem Rd.ok{u:HO}(r:Rd H a u)(x:HOk P w H h):ObjOk P w H h a u:=by
 rcases r with r|⟨o,r⟩
 exact x a u r;obtain⟨_,q⟩:=x a _ r;exact q
def z6:Option HO->Prop
 |some (.lst _)=>True|some (.dK _)=>True|some (.dT _)=>True|some (.set _ _)=>True|some (.ins _ _ _)=>True|some (.ext _)=>True|_=>False
section
variable{x e:Addr}{o':HO}
theorem HOk.write(ok:HOk P w H h)(mu:z6 (H x))(he:e=x\/H e=some (.own x))(k:∀b u,b≠e->h.get? b=some u->h'.get? b=some u)(heo:∃u,h'.get? e=some u)
  (new:ObjOk P w (upd H x o') h' x o'):HOk P w (upd H x o') h':=λb u q=>by
 have nown:∀c y,H c=some (.own y)->c≠x:=λc y r z=>by subst z;rw[r]at mu;exact mu
 have ntup:∀c xs,H c=some (.tup xs)->c≠x:=λc xs r z=>by subst z;rw[r]at mu;exact mu
 by_cases hb:b=x
 .subst hb;rw[aP]at q;cases q;exact new
 .rw[aI hb]at q
  by_cases hbe:b=e
  .have q':H b=some (.own x):=by
    rcases he with z|z
    .exact Qj (hbe.trans z) hb
    .rw[hbe];exact z
   rw[q]at q';cases q';obtain⟨v,hv⟩:=heo;exact⟨v,by rw[hbe];exact hv⟩
  .refine(ok b u q).stay (λc v hc r=>k c v ?_ r) (λc r=>by rw[aI<|nown c b r];exact r) λc xs r=>by rw[aI<|ntup c xs r];exact r
   rcases hc with rfl|hc
   .exact hbe
   .rintro rfl
    rcases he with z|z
    .exact nown c b hc z
    .rw[hc]at z;cases z;exact hb rfl
end
structure Un(fs ex:List Addr)(H H':Hp)(h h':Heap):Prop where
 keep:∀b o,h.get? b=some o->H b=none->b∉fs->b∉ex->h'.get? b=some o
 slot:∀b o,h.get? b=some o->H b=none->b∈fs->b∉ex->∃sl,h'.get? b=some { o with slots:=sl }
 free:∀b o,h.get? b=some o->H b=none->b∉ex->H' b=none
 there:∀b o,h.get? b=some o->b∉ex->∃o',h'.get? b=some o'
 tups:∀b xs,H b=some (.tup xs)->H' b=some (.tup xs)
 frzs:∀b o u,H b=some (.frz o u)->H' b=some (.frz o u)
 tbls:∀b ps,H b=some (.tbl ps)->∃more,H' b=some (.tbl<|ps++more)
 sys:mainGlobals∉ex->(∃o,h.get? mainGlobals=some o)->(∀xs,H sysModules≠some (.lst xs))->∀xs,H' sysModules≠some (.lst xs)
section
variable{fs fs' ex ex':List Addr}{H1 H2:Hp}{h1 h2:Heap}{x e:Addr}
theorem Un.any(u:Un fs ex H H1 h h1){ob:Obj}(q:h.get? b=some ob)(n:H b=none)(hx:b∉ex):∃sl,h1.get? b=some { ob with slots:=sl }:=by by_cases hb:b∈fs;exact u.slot b ob q n hb hx;exact⟨ob.slots,u.keep b ob q n hb hx⟩
theorem Un.trans(a:Un fs ex H H1 h h1)(b:Un fs ex H1 H2 h1 h2):Un fs ex H H2 h h2 where
 keep:=λc ob q n hc hx=>b.keep c ob (a.keep c ob q n hc hx) (a.free c ob q n hx) hc hx
 slot:=λc ob q n hc hx=>by obtain⟨sl,e1⟩:=a.slot c ob q n hc hx;obtain⟨sl',e2⟩:=b.slot c _ e1 (a.free c ob q n hx) hc hx;exact⟨sl',e2⟩
 free:=λc ob q n hx=>by obtain⟨o',e1⟩:=a.there c ob q hx;exact b.free c o' e1 (a.free c ob q n hx) hx
 there:=λc ob q hx=>by obtain⟨o',e1⟩:=a.there c ob q hx;exact b.there c o' e1 hx
 tups:=λc xs q=>b.tups c xs<|a.tups c xs q
 frzs:=λc ob xs q=>b.frzs c ob xs<|a.frzs c ob xs q
 tbls:=λc ps q=>by obtain⟨m1,e1⟩:=a.tbls c ps q;obtain⟨m2,e2⟩:=b.tbls c _ e1;exact⟨m1++m2,by rw[e2,BM]⟩
 sys:=λhx ⟨o,e⟩ n=>b.sys hx (a.there _ o e hx)<|a.sys hx ⟨o,e⟩ n
theorem Un.kept(k:∀b u,h.get? b=some u->h'.get? b=some u):Un fs ex H H h h':=
 ⟨λb ob q _ _ _=>k b ob q,λb ob q _ _ _=>⟨ob.slots,k b ob q⟩,λ_ _ _ n _=>n,λb ob q _=>⟨ob,k b ob q⟩,λ_ _ q=>q,λ_ _ _ q=>q,λ_ ps q=>⟨#[],by rw[q];simp⟩,λ_ _ n=>n⟩
theorem Un.refl:Un fs ex H H h h:=Un.kept λ_ _ q=>q
theorem Un.laid(k:∀b u,h.get? b=some u->h'.get? b=some u)(hp:h.objs.size<=a)(hn:H a=none):Un fs ex H (upd H a o) h h' where
 keep:=λb u q _ _ _=>k b u q
 slot:=λb u q _ _ _=>⟨u.slots,k b u q⟩
 free:=λb u q n _=>by rw[aI<|gY<|dw (dv q) hp];exact n
 there:=λb u q _=>⟨u,k b u q⟩
 tups:=λb xs q=>by rw[aI<|dD q hn];exact q
 frzs:=λb u xs q=>by rw[aI<|dD q hn];exact q
 tbls:=λb ps q=>⟨#[],by rw[aI<|dD q hn,q];simp⟩
 sys:=λ_ ⟨_,q⟩ n=>by rw[aI<|gY<|dw (Nat.lt_trans F4<|dv q) hp];exact n
theorem Un.write(mu:z6 (H x))(he:e=x\/H e=some (.own x))(k:∀b u,b≠e->h.get? b=some u->h'.get? b=some u)(heo:∃u,h'.get? e=some u)(hk:(∃us,H x=some (.lst us))\/∀us,o≠.lst us):Un fs ex H (upd H x o) h h':=by
 have hx:∀b,H b=none->b≠x:=λb n z=>by subst z;rw[n]at mu;exact mu
 have hb:∀b,H b=none->b≠e:=λb n z=>by
  subst z;rcases he with r|r
  exact hx b n r;rw[n]at r;cases r
 have hm:∀b u,H b=some u->¬z6 (some u)->b≠x:=λb u q nm z=>by subst z;rw[q]at mu;exact nm mu
 refine ⟨λb u q n _ _=>k b u (hb b n) q,λb u q n _ _=>⟨u.slots,k b u (hb b n) q⟩,λb u q n _=>by rw [aI<|hx b n];exact n,λb u q _=>?_,
  λb xs q=>by rw[aI<|hm b _ q λz=>z];exact q,λb u xs q=>by rw[aI<|hm b _ q λz=>z];exact q,λb ps q=>⟨#[],by rw[aI<|hm b _ q λz=>z,q];simp⟩,λ_ _ n ys=>by
   by_cases z:sysModules=x
   .rw[z,aP]
    rcases hk with⟨us,hk⟩|hk
    .exact Qj (z▸hk) (n us)
    .exact λy=>hk ys (Qk y)
   .rw[aI z];exact n ys⟩
 by_cases hbe:b=e;subst hbe;exact heo;exact⟨u,k b u hbe q⟩
end
noncomputable def z7(h:Heap)(H:Hp):List Addr:=(List.range h.objs.size).filter λa=>(H a).isSome
def jr(h:Heap)(H:Hp):Heap:=W.hideAll h<|z7 h H
theorem lW(h:Heap)(H:Hp):(jr h H).objs.size=h.objs.size:=W.hideAll_size _ _
theorem o7{o:Obj}(e:h.get? b=some o)(n:H b=none):(jr h H).get? b=some o:=
 W.hideAll_get _ e λhm=>by
  have q:(H b).isSome=true:=(Yaf.mp hm).2;rw[n]at q;simp at q
theorem qA{o:Obj}(e:(jr h H).get? b=some o):h.get? b=some o/\H b=none:=by
 have e':h.get? b=some o:=W.of_hideAll (z7 h H) e;refine⟨e',?_⟩;cases q:H b with
 |none=>rfl|some x=>have hm:b∈z7 h H:=Yaf.mpr ⟨Yag.mpr<|dv e',by simp[q]⟩;have z:(jr h H).get? b=none:=W.hideAll_none (z7 h H) hm;rw[z]at e;cases e
noncomputable def qB(g h:Heap)(L:Addr):K8:=(List.range h.objs.size).filterMap λa=>if a=L\/(g.get? a).isSome=true then none else(h.get? a).map λo=>(a,o)
def rest(g h:Heap)(L d:Addr):K8:=(qB g h L).filter λp=>decide (p.1≠d)
structure Mod(K:Qh)(mg:QW)(base:Heap):Prop where
 kin:K.In base
 glob:base.Ns mainGlobals mg
 blt:∃mb,base.Ns builtinsNs mb/\∀x:Str,x≠ "__name__" ->mb x=bootBuiltins x
 nolimit:base.NoLimit
structure Cx where
 prog:Program
 w:World
 K:Qh
 mg:Str->Option Value
 base:Heap
 A:Around
 N:Q4
 s₀:Shared
 H₀:Hp
 env:Env
 outer:List Env
 stack:List Env
 ex:List Addr
 fn:Str->Bool
 calm:Bool
 pn:K8
 xe:Value->Shared->Prop
abbrev Q8(X:Cx)(x:Str):Prop:=X.fn x=true\/X.env.scope.names.lookup x=some .local
abbrev Q9(X:Cx)(e:Expr)(es:List Expr):Prop:=starEach (e::es) X.env=(false,eval e X.env)::starEach es X.env
abbrev Ra(X:Cx)(pos:Pos)(es:List Expr):Prop:=(backTo pos<|starEach es X.env).any (·.1)=false
variable{X:Cx}
def dg(l:List Env):List Addr:=l.filterMap (·.frame)
abbrev Cx.fs(X:Cx):List Addr:=dg X.outer
def kA(sc:Scope)(x:Str):Prop:=sc.names.lookup x=some .local\/sc.names.lookup x=some .cell\/sc.names.lookup x=some .free
def lC(sc:Scope)(x:Str):Prop:=sc.names.lookup x=some .local\/sc.names.lookup x=some .cell
def Cj(env:Env)(h:Heap)(m:QW)(x:Str)(u:Value):Prop:=
 (env.kindOf x=some .local/\m x=some u)\/((env.kindOf x=some .cell\/env.kindOf x=some .free)/\∃c,env.cells.lookup x=some c/\h.IsCell c (some u))
structure Cx.Ok(X:Cx):Prop where
 mod:Mod X.K X.mg X.base
 kind:X.env.scope.kind=.function
 glob:X.env.globals=mainGlobals
 blt:X.env.builtins=builtinsNs
 above:X.s₀.heap.objs.size<=X.env.locals
 inj:∀x y c,X.env.cells.lookup x=some c->X.env.cells.lookup y=some c->x=y
 has:∀x,(X.env.kindOf x=some .cell\/X.env.kindOf x=some .free)->∃c,X.env.cells.lookup x=some c
 cab:∀x c,X.fn x=true->X.env.cells.lookup x=some c->X.s₀.heap.objs.size<=c
 hd:X.calm=true->X.A.handled=none
 frames:X.A.frames=some X.stack
 stk:X.stack=X.outer\/(X.stack=X.env::X.outer/\X.env.frame=some X.env.locals)
 exf:∀b∈X.ex,b≠X.env.locals/\∀x c,X.env.cells.lookup x=some c->c≠b
 bs:∀b o,X.base.get? b=some o->X.s₀.heap.get? b=some o/\X.H₀ b=none
 bsz:X.base.objs.size<=X.s₀.heap.objs.size
 noex:∀b o,X.base.get? b=some o->b∉X.ex
 exfs:∀b∈X.ex,b∉X.fs
 funs:X.s₀.heap.FunFrames X.base X.outer
 frf:∀b∈X.fs,X.H₀ b=none
 sys0:∀xs,X.H₀ sysModules≠some (.lst xs)
structure Inv(X:Cx)(E1:K8)(σ:List (Option V))(H:Hp)(s:Shared):Prop where
 ok:X.Ok
 os:s.os=X.s₀.os
 bare:AllBare s.gens
 base:Un X.fs X.ex X.H₀ H X.s₀.heap s.heap
 loc:∃m,s.heap.Ns X.env.locals m/\∀(i:Nat) (x:Str) (v:V),X.N[i]? = some x->σ[i]? = some (some v)->kA X.env.scope x->∃u,RelV v u/\Cj X.env s.heap m x u
 cell:∀x c,X.env.cells.lookup x=some c->∃v,s.heap.IsCell c v
 free:H X.env.locals=none
 freeC:∀x c,X.env.cells.lookup x=some c->H c=none
 pin:∀p∈X.pn++E1,s.heap.get? p.1=some p.2/\H p.1=none/\p.1≠X.env.locals/\p.1∉X.fs/\∀v,p.2.data≠.cell v
 hok:HOk X.prog X.w H s.heap
 len:σ.length=X.N.length
section
variable{σ:List (Option V)}
theorem Cx.Ok.nofr(ok:X.Ok){o:Obj}(e:X.base.get? b=some o):b∉X.fs:=λhb=>by have:=(ok.funs.mem hb).1;rw[e]at this;cases this
theorem Inv.bs(I:Inv X E1 σ H s):∀b o,X.base.get? b=some o->s.heap.get? b=some o/\H b=none:=λb o e=>
 ⟨I.base.keep b o (I.ok.bs b o e).1 (I.ok.bs b o e).2 (I.ok.nofr e)<|I.ok.noex b o e,I.base.free b o (I.ok.bs b o e).1 (I.ok.bs b o e).2<|I.ok.noex b o e⟩
theorem Inv.bk(I:Inv X E1 σ H s):∀b o,X.base.get? b=some o->s.heap.get? b=some o:=λb o e=>(I.bs b o e).1
theorem Inv.mod(I:Inv X E1 σ H s):Mod X.K X.mg X.base:=I.ok.mod
theorem Inv.hasG(I:Inv X E1 σ H s):∃o,s.heap.get? mainGlobals=some o:=by obtain⟨o,_,_,e,_⟩:=I.ok.mod.glob;exact⟨o,I.bk _ _ e⟩
theorem Inv.sysn(I:Inv X E1 σ H s):∀xs,H sysModules≠some (.lst xs):=by obtain⟨o,_,_,e,_⟩:=I.ok.mod.glob;exact I.base.sys (I.ok.noex _ _ e) ⟨o,(I.ok.bs _ _ e).1⟩ I.ok.sys0
theorem Inv.kIn(I:Inv X E1 σ H s):X.K.In s.heap:=I.ok.mod.kin.keeps I.bk
theorem Inv.lt(I:Inv X E1 σ H s):X.env.locals<s.heap.objs.size:=let⟨_,hn,_⟩:=I.loc;hn.lt
theorem Inv.sz(I:Inv X E1 σ H s):X.s₀.heap.objs.size<=s.heap.objs.size:=fL I.ok.above<|gP I.lt
theorem Inv.nofs(I:Inv X E1 σ H s)(h:s.heap.objs.size<=a):a∉X.fs:=λhb=>by obtain⟨_,o,ho,_⟩:=I.ok.funs.mem hb;exact Qj (dw (dv ho)<|fL I.sz h)<|iu _
theorem Inv.cne(I:Inv X E1 σ H s):∀x c,X.env.cells.lookup x=some c->c≠X.env.locals:=λx c e z=>by obtain⟨v,o,ho,hd⟩:=I.cell x c e;obtain⟨m,⟨o',es,ep,ho',hd',_⟩,_⟩:=I.loc;rw[z,ho']at ho;cases ho;rw[hd']at hd;cases hd
theorem Inv.funs(I:Inv X E1 σ H s):s.heap.FunFrames X.base X.outer:=by
 have all:∀(l:List Env),(∀b∈dg l,b∈X.fs)->X.s₀.heap.FunFrames X.base l->s.heap.FunFrames X.base l:=by
  intro l;induction l with
  |nil=>intro _ _;trivial|cons env r ih=>intro hs hl;obtain⟨hk,⟨L,o,hf,hn,ho,hd⟩,hr⟩:=hl;have hL:L∈X.fs:=hs L (by unfold dg;rw[zI,hf];exact gZ);obtain⟨sl,e⟩:=I.base.slot L o ho (I.ok.frf L hL) hL λz=>I.ok.exfs L z hL;exact⟨hk,⟨L,_,hf,hn,e,hd⟩,ih (λb hb=>hs b (by unfold dg;rw[zI,hf];exact fM _ hb)) hr⟩
 exact all X.outer (λ_ hb=>hb) I.ok.funs
theorem Inv.stack(I:Inv X E1 σ H s):s.heap.FunFrames X.base X.stack:=by
 rcases I.ok.stk with e|⟨e,hf⟩
 rw[e];exact I.funs;rw[e];obtain⟨m,hn,_⟩:=I.loc;refine .cons (by rw[I.ok.kind];decide) hf hn ?_ I.funs;exact zJ<|fL I.ok.bsz I.ok.above
theorem Inv.stkSub(I:Inv X E1 σ H s):∀b∈dg X.stack,b∈X.env.locals::X.fs:=λb hb=>by
 rcases I.ok.stk with e|⟨e,hf⟩
 rw[e]at hb;exact fM _ hb;rw[e]at hb;unfold dg at hb;rw[zI,hf]at hb;exact hb
theorem Inv.stkFree(I:Inv X E1 σ H s):∀b∈dg X.stack,H b=none:=λb hb=>by
 rcases Yan.mp (I.stkSub b hb) with e|hb
 rw[e];exact I.free;obtain⟨_,o,ho,_⟩:=I.ok.funs.mem hb;exact I.base.free b o ho (I.ok.frf b hb) λz=>I.ok.exfs b z hb
theorem Inv.step(I:Inv X E1 σ H s)
  (hch:∀b∈ch,(b∈X.ex\/X.s₀.heap.objs.size<=b)/\b≠X.env.locals/\(∀x c,X.env.cells.lookup x=some c->c≠b)/\∀p∈X.pn++E1,p.1≠b)
  (keep:∀b o,b≠X.env.locals->b∉X.fs->b∉ch->s.heap.get? b=some o->H b=none->h'.get? b=some o)
  (slot:∀b o,b≠X.env.locals->b∈X.fs->b∉ch->s.heap.get? b=some o->H b=none->∃sl,h'.get? b=some { o with slots:=sl }) (free:∀b o,b∉ch->s.heap.get? b=some o->H b=none->H' b=none)
  (there:∀b o,b∉ch->s.heap.get? b=some o->∃o',h'.get? b=some o')
  (tups:∀b xs,H b=some (.tup xs)->H' b=some (.tup xs)) (frzs:∀b o u,H b=some (.frz o u)->H' b=some (.frz o u)) (tbls:∀b ps,H b=some (.tbl ps)->∃more,H' b=some (.tbl<|ps++more))
  (ns:∀m,s.heap.Ns X.env.locals m->h'.Ns X.env.locals m) (hok:HOk X.prog X.w H' h') (hg:AllBare g') (sy:(∀xs,H sysModules≠some (.lst xs))->∀xs,H' sysModules≠some (.lst xs)) :
  Inv X E1 σ H' { s with heap:=h',gens:=g',drawn:=d',toks:=t' }:=by
 have neL:∀b o,X.s₀.heap.get? b=some o->b≠X.env.locals:=λb o e=>gY<|dw (dv e) I.ok.above;have neC:∀b o,X.s₀.heap.get? b=some o->b∉X.ex->b∉ch:=λb o e hx hb=>by
  rcases(hch b hb).1 with z|z
  .exact hx z
  .exact Qj (dw (dv e) z)<|iu _
 have cellK:∀x c,X.env.cells.lookup x=some c->∀v,s.heap.IsCell c v->h'.IsCell c v:=λx c e v ⟨o,ho,hd⟩=>by
  have nch:c∉ch:=λz=>(hch c z).2.2.1 x c e rfl
  by_cases hc:c∈X.fs
  .obtain⟨sl,q⟩:=slot c o (I.cne x c e) hc nch ho (I.freeC x c e)
   exact⟨_,q,hd⟩
  .exact⟨o,keep c o (I.cne x c e) hc nch ho<|I.freeC x c e,hd⟩
 refine⟨I.ok,I.os,hg,⟨λb o e n hb hx=>?_,λb o e n hb hx=>?_,λb o e n hx=>?_,λb o e hx=>?_,λb xs e=>tups b xs<|I.base.tups b xs e,λb o xs e=>frzs b o xs<|I.base.frzs b o xs e,λb ps e=>?_,λx0 e0 n=>sy<|I.base.sys x0 e0 n⟩,?_,λx c e=>?_,?_,λx c e=>?_,λp hp=>?_,hok,I.len⟩
 .exact keep b o (neL b o e) hb (neC b o e hx) (I.base.keep b o e n hb hx)<|I.base.free b o e n hx
 .obtain⟨sl,e1⟩:=I.base.slot b o e n hb hx
  obtain⟨sl',e2⟩:=slot b _ (neL b o e) hb (neC b o e hx) e1<|I.base.free b o e n hx;exact⟨sl',e2⟩
 .obtain⟨o',e1⟩:=I.base.there b o e hx
  exact free b o' (neC b o e hx) e1<|I.base.free b o e n hx
 .obtain⟨o',e1⟩:=I.base.there b o e hx
  exact there b o' (neC b o e hx) e1
 .obtain⟨m1,e1⟩:=I.base.tbls b ps e
  obtain⟨m2,e2⟩:=tbls b _ e1;exact⟨m1++m2,by rw[e2,BM]⟩
 .obtain⟨m,hn,hl⟩:=I.loc
  refine⟨m,ns m hn,λi x v e1 e2 e3=>?_⟩;obtain⟨u,r,l⟩:=hl i x v e1 e2 e3;refine⟨u,r,?_⟩;rcases l with l|⟨k,c,e,z⟩
  .exact .inl l
  .exact .inr ⟨k,c,e,cellK x c e _ z⟩
 .obtain⟨v,z⟩:=I.cell x c e
  exact⟨v,cellK x c e v z⟩
 .obtain⟨m,⟨o,_,_,ho,_⟩,_⟩:=I.loc
  exact free _ o (λz=>(hch _ z).2.1 rfl) ho I.free
 .obtain⟨v,o,ho,hd⟩:=I.cell x c e
  exact free c o (λz=>(hch c z).2.2.1 x c e rfl) ho<|I.freeC x c e
 .obtain⟨e,n,ne,nf,d⟩:=I.pin p hp
  have nch:p.1∉ch:=λz=>(hch p.1 z).2.2.2 p hp rfl;exact⟨keep p.1 p.2 ne nf nch e n,free p.1 p.2 nch e n,ne,nf,d⟩
theorem Inv.un(I:Inv X E1 σ H s)(u:Un X.fs [] H H' s.heap h')(hok:HOk X.prog X.w H' h'):Inv X E1 σ H' { s with heap:=h',toks:=t' }:=by
 obtain⟨m,⟨o,es,ep,ho,r⟩,_⟩:=id I.loc;obtain⟨sl,hL⟩:=u.any ho I.free KE;exact I.step (g':=s.gens) (d':=s.drawn) (ch:=[]) (λ_ z=>nomatch z) (λb o _ hb _ e n=>u.keep b o e n hb<|KE) (λb o _ hb _ e n=>u.slot b o e n hb<|KE) (λb o _ e n=>u.free b o e n<|KE) (λb o _ e=>u.there b o e<|KE) u.tups u.frzs u.tbls (λm' hm=>by
  obtain⟨o',es',ep',ho',r'⟩:=hm;rw[ho]at ho';cases ho';exact⟨_,es',ep',hL,r'⟩) hok I.bare<|u.sys KE I.hasG
theorem Inv.call(I:Inv X E1 σ H s)(u:Un (dg X.stack) ch H H' s.heap h')(hok:HOk X.prog X.w H' h')(hg:AllBare g')
  (hch:∀b∈ch,(b∈X.ex\/X.s₀.heap.objs.size<=b)/\b≠X.env.locals/\(∀x c,X.env.cells.lookup x=some c->c≠b)/\∀p∈X.pn++E1,p.1≠b) :
  Inv X E1 σ H' { s with heap:=h',gens:=g',drawn:=d',toks:=t' }:=by
 obtain⟨m,⟨o,es,ep,ho,r⟩,_⟩:=id I.loc;obtain⟨sl,hL⟩:=u.any ho I.free λz=>(hch _ z).2.1 rfl;exact I.step (ch:=ch) hch (λb o hL hb hc e n=>u.keep b o e n (λz=>(Yan.mp<|I.stkSub b z).elim hL hb) hc) (λb o _ _ hc e n=>u.any e n hc) (λb o hc e n=>u.free b o e n hc) (λb o hc e=>u.there b o e hc) u.tups u.frzs u.tbls (λm' hm=>by
  obtain⟨o',es',ep',ho',r'⟩:=hm;rw[ho]at ho';cases ho';exact ⟨_,es',ep',hL,r'⟩) hok hg<|u.sys (λz=>by
   obtain⟨o0,_,_,e0,_⟩:=I.ok.mod.glob;rcases(hch _ z).1 with y|y
   .exact I.ok.noex _ _ e0 y
   .exact Qj (dw (dv (I.ok.bs _ _ e0).1) y)<|iu _) I.hasG
theorem Inv.turned(I:Inv X E1 σ H s)(k:∀b o,b≠it->s.heap.get? b=some o->h'.get? b=some o)(hn:H it=none)(hL:it≠X.env.locals)
  (h1:it∈X.ex\/X.s₀.heap.objs.size<=it) (h2:∀x c,X.env.cells.lookup x=some c->c≠it) (h3:∀p∈X.pn++E1,p.1≠it):Inv X E1 σ H { s with heap:=h',toks:=t' }:=by
 have nit:∀b u,H b=some u->b≠it:=λb u e z=>by rw[z,hn]at e;cases e
 refine I.step (g':=s.gens) (d':=s.drawn) (ch:=[it]) (λb hb=>?_) (λb o _ _ hc e _=>k b o (λz=>hc<|by simp[z]) e) (λb o _ _ hc e _=>⟨o.slots,k b o (λz=>hc<|by simp[z]) e⟩) (λ_ _ _ _ n=>n)
  (λb o hc e=>⟨o,k b o (λz=>hc<|by simp[z]) e⟩) (λ_ _ e=>e) (λ_ _ _ e=>e) (λb ps e=>⟨#[],by rw[e];simp⟩) (λm hm=>?_) (λb u e=>?_) I.bare (λn=>n)
 .have e:b=it:=by simpa using hb
  subst e;exact⟨h1,hL,h2,h3⟩
 .obtain⟨o,es,ep,ho,r⟩:=hm
  exact⟨o,es,ep,k _ o (Qq hL) ho,r⟩
 .refine(I.hok b u e).stay (λc v hc q=>k c v ?_ q) (λ_ q=>q) λ_ _ q=>q
  rcases hc with z|z
  .rw[z];exact nit b u e
  .exact nit c _ z
theorem Inv.tok(I:Inv X E1 σ H s)(t:Nat):Inv X E1 σ H { s with toks:=t }:=I.un (h':=s.heap) (t':=t) Un.refl I.hok
theorem Inv.kept{t':Nat}(I:Inv X E1 σ H s)(k:∀b u,s.heap.get? b=some u->h'.get? b=some u):Inv X E1 σ H { s with heap:=h',toks:=t' }:=I.un (Un.kept k)<|I.hok.kept k
theorem Inv.laid{a:Addr}{o:HO}{t':Nat}(I:Inv X E1 σ H s)(k:∀b u,s.heap.get? b=some u->h'.get? b=some u)(hp:s.heap.objs.size<=a)(new:ObjOk X.prog X.w (upd H a o) h' a o) :
  Inv X E1 σ (upd H a o) { s with heap:=h',toks:=t' }:=I.un (Un.laid k hp<|I.hok.fresh hp)<|I.hok.laid k hp new
theorem Inv.write{x e:Addr}{o:HO}{t':Nat}(I:Inv X E1 σ H s)(mu:z6 (H x))(he:e=x\/H e=some (.own x))(k:∀b u,b≠e->s.heap.get? b=some u->h'.get? b=some u)(heo:∃u,h'.get? e=some u)
  (new:ObjOk X.prog X.w (upd H x o) h' x o) (hk:(∃us,H x=some (.lst us))\/∀us,o≠.lst us):Inv X E1 σ (upd H x o) { s with heap:=h',toks:=t' }:=I.un (Un.write mu he k heo hk)<|I.hok.write mu he k heo new
theorem Inv.pins_of{pins':K8}(I:Inv X E1 σ H s)(h:∀p∈pins',s.heap.get? p.1=some p.2/\H p.1=none/\p.1≠X.env.locals/\p.1∉X.fs/\∀v,p.2.data≠.cell v):Inv X pins' σ H s:=
 ⟨I.ok,I.os,I.bare,I.base,I.loc,I.cell,I.free,I.freeC,λp hp=>(Yao.mp hp).elim (λz=>I.pin p<|u9 _ z)<|h p,I.hok,I.len⟩
theorem jW(hN:N.Nodup)(a:N[i]? = some x)(b:N[j]? = some x):i=j:=by obtain⟨h1,e1⟩:=Yaq.mp a;obtain⟨h2,e2⟩:=Yaq.mp b;exact(List.getElem_inj hN).mp<|e1.trans e2.symm
theorem gp{M:Model}{E:Lb}{v:V}{u:Value}{Q:Unit->Shared->Prop}(I:Inv X E1 σ H s)(hN:X.N.Nodup)(hi:X.N[i]? = some x)(hx:lC X.env.scope x)(r:RelV v u)
  (h:∀s',Inv X E1 (σ.set i<|some v) H s'->(∃a,Heap.SameBut a s.heap s'.heap/\(a=X.env.locals\/X.env.cells.lookup x=some a))->Q () s') (hf:autoParam (Q8 X x) Ri._auto_1):wpAny M A (storeName X.env x u) Q E s:=by
 obtain⟨m,hn,hl⟩:=id I.loc;have hcls:(X.env.scope.kind==.class||(X.env.scope.kind==.module&&X.env.locals != X.env.globals))=false:=by rw[I.ok.kind];rfl
 have hiσ:i<σ.length:=by rw[I.len];exact(Yaq.mp hi).1
 have cne:=I.cne;have tracked:∀{a:Addr} {h':Heap},(∃o,s.heap.get? a=some o/\H a=none)->Heap.SameBut a s.heap h'->HOk X.prog X.w H h':=λ{a h'} ha hs b ob e=>by
  obtain⟨_,_,hfree⟩:=ha;refine(I.hok b ob e).stay (λc w' hc q=>(hs.2 c ?_).trans q) (λ_ q=>q) λ_ _ q=>q;rintro rfl;rcases hc with rfl|hc
  .rw[hfree]at e;cases e
  .rw[hfree]at hc;cases hc
 rcases hx with hk|hk
 .refine wpAny_storeName_local hk hn (λh' hn' hs=>?_) hcls
  obtain⟨oL,_,_,hoL,_⟩:=id hn;refine h _ ⟨I.ok,I.os,I.bare,⟨λb o e n hb hx=>?_,λb o e n hb hx=>?_,I.base.free,λb o e hx=>?_,I.base.tups,I.base.frzs,I.base.tbls,I.base.sys⟩,⟨_,hn',λj y v' e1 e2 e3=>?_⟩,λy c e=>?_,I.free,I.freeC,λp hp=>?_,tracked ⟨oL,hoL,I.free⟩ hs,by simpa using I.len⟩ ⟨_,hs,.inl rfl⟩
  .exact(hs.2 b<|gY<|dw (dv e) I.ok.above).trans (I.base.keep b o e n hb hx)
  .obtain⟨sl,e1⟩:=I.base.slot b o e n hb hx
   exact⟨sl,(hs.2 b<|gY<|dw (dv e) I.ok.above).trans e1⟩
  .obtain⟨o',e1⟩:=I.base.there b o e hx
   exact⟨o',(hs.2 b<|gY<|dw (dv e) I.ok.above).trans e1⟩
  .by_cases hj:j=i
   .subst hj
    rw[hi]at e1;cases e1;rw[dW hiσ]at e2;cases e2;exact⟨u,r,.inl ⟨hk,KE⟩⟩
   .rw[df<|Qq hj]at e2
    obtain⟨u',r',q⟩:=hl j y v' e1 e2 e3;refine⟨u',r',?_⟩;rcases q with⟨k,e⟩|⟨k,c,e,z⟩
    .refine .inl ⟨k,?_⟩
     have:y≠x:=λe=>hj<|jW hN e1 (e▸hi);simp[this,e]
    .exact .inr ⟨k,c,e,z.sameBut hs<|cne y c e⟩
  .obtain⟨w',z⟩:=I.cell y c e
   exact⟨w',z.sameBut hs<|cne y c e⟩
  .obtain⟨e,n,ne,nf,d⟩:=I.pin p hp
   exact⟨(hs.2 p.1 ne).trans e,n,ne,nf,d⟩
 .have hfn:X.fn x=true:=by
   rcases hf with z|z
   .exact z
   .rw[z]at hk;cases hk
  obtain⟨c,hc⟩:=I.ok.has x<|.inl hk;obtain⟨w',z⟩:=I.cell x c hc;refine wpAny_storeName_cell I.ok.kind hk hc z<|λh' hc' hs=>?_;obtain⟨oc,hoc,hocd⟩:=id z;refine h { s with heap:=h' } ⟨I.ok,I.os,I.bare,⟨λb o e n hb hx=>?_,λb o e n hb hx=>?_,I.base.free,λb o e hx=>?_,I.base.tups,I.base.frzs,I.base.tbls,I.base.sys⟩,⟨m,hn.sameBut hs<|Qq<|cne x c hc,λj y v' e1 e2 e3=>?_⟩,λy c' e=>?_,I.free,I.freeC,λp hp=>?_,tracked ⟨oc,hoc,I.freeC x c hc⟩ hs,by simpa using I.len⟩ ⟨c,hs,.inr hc⟩
  .exact(hs.2 b<|gY<|dw (dv e)<|I.ok.cab x c hfn hc).trans (I.base.keep b o e n hb hx)
  .obtain⟨sl,e1⟩:=I.base.slot b o e n hb hx
   exact⟨sl,(hs.2 b<|gY<|dw (dv e)<|I.ok.cab x c hfn hc).trans e1⟩
  .obtain⟨o',e1⟩:=I.base.there b o e hx
   exact⟨o',(hs.2 b<|gY<|dw (dv e)<|I.ok.cab x c hfn hc).trans e1⟩
  .by_cases hj:j=i
   .subst hj
    rw[hi]at e1;cases e1;rw[dW hiσ]at e2;cases e2;exact⟨u,r,.inr ⟨.inl hk,c,hc,hc'⟩⟩
   .rw[df<|Qq hj]at e2
    obtain⟨u',r',q⟩:=hl j y v' e1 e2 e3;refine⟨u',r',?_⟩;rcases q with q|⟨k,c',e,z'⟩
    .exact .inl q
    .refine .inr ⟨k,c',e,z'.sameBut hs ?_⟩
     rintro rfl;exact hj<|jW hN e1 (I.ok.inj _ _ _ e hc▸hi)
  .by_cases hcc:c'=c
   .subst hcc;exact⟨_,hc'⟩
   .obtain⟨w2,z2⟩:=I.cell y c' e
    exact⟨w2,z2.sameBut hs hcc⟩
  .obtain⟨e,n,ne,nf,d⟩:=I.pin p hp
   refine⟨(hs.2 p.1 ?_).trans e,n,ne,nf,d⟩;intro q;rw[q,hoc]at e;have q':oc=p.2:=Qk e;exact d w' (by rw[<-q'];exact hocd)
theorem eK{M:Model}{E:Lb}{v:V}{u:Value}{Q:Unit->Shared->Prop}(I:Inv X E1 σ H s)(hN:X.N.Nodup)(hi:X.N[i]? = some x)(hx:lC X.env.scope x)(r:RelV v u)
  (h:∀s',Inv X E1 (σ.set i<|some v) H s'->Q () s') (hf:autoParam (Q8 X x) Ri._auto_1):wpAny M A (storeName X.env x u) Q E s:=
 gp I hN hi hx r (λs' I' _=>h s' I') hf
theorem Inv.call'(I:Inv X E1 σ H s)(ho:s'.os=s.os)(u:Un (dg X.stack) ch H H' s.heap s'.heap)(hok:HOk X.prog X.w H' s'.heap)(hg:AllBare s'.gens)
  (hch:∀b∈ch,(b∈X.ex\/X.s₀.heap.objs.size<=b)/\b≠X.env.locals/\(∀x c,X.env.cells.lookup x=some c->c≠b)/\∀p∈X.pn++E1,p.1≠b):Inv X E1 σ H' s':=by
 obtain⟨h',g',d',t',o'⟩:=s';have e:o'=s.os:=ho;subst e;exact I.call (g':=g') (t':=t') (d':=d') u hok hg hch
end
abbrev XK:=Value->Option Addr->Hp->Prop
abbrev St:=List<|Option V
variable{σ:St}
abbrev VK:=V->Hp->Prop
abbrev TE:=St->Hp->VK->Prop
variable{ta te:TE}
abbrev TT:=St->Hp->(Bool->Hp->Prop)->Prop
variable{tc:TT}
abbrev TA:=St->Hp->(Rg->Hp->Prop)->Prop
variable{t:TA}
structure kL where
 nx:St->Hp->Prop
 rt:VK
 bk:St->Hp->Prop:=λ_ _=>False
 ct:St->Hp->Prop:=λ_ _=>False
abbrev TS:=kL->St->Hp->Prop
def EP(X:Cx)(E1:K8)(σ:St)(Q:VK)(u:Value)(s':Shared):Prop:=∃v H',Inv X E1 σ H' s'/\RelV v u/\Q v H'
def TP(X:Cx)(E1:K8)(σ:St)(Q:Bool->Hp->Prop)(b:Bool)(s':Shared):Prop:=∃H',Inv X E1 σ H' s'/\Q b H'
def AP(X:Cx)(E1:K8)(σ:St)(Q:Rg->Hp->Prop)(us:QX)(s':Shared):Prop:=∃vs H',Inv X E1 σ H' s'/\Vals vs us/\Q vs H'
def SP(X:Cx)(E1:K8)(D:kL)(f:Flow)(s':Shared):Prop:=
 match f with
 |.next=>∃σ' H',Inv X E1 σ' H' s'/\D.nx σ' H'|.brk=>∃σ' H',Inv X E1 σ' H' s'/\D.bk σ' H'|.cont=>∃σ' H',Inv X E1 σ' H' s'/\D.ct σ' H'|.ret u=>∃v σ' H',Inv X E1 σ' H' s'/\RelV v u/\D.rt v H'
def PE(X:Cx)(e:Expr)(t:TE):Prop:=
 ∀(E1:K8) (s:Shared) (σ:St) (H:Hp) (Q:VK),Inv X E1 σ H s->t σ H Q->wpAny (model X.prog X.w) X.A (eval e X.env) (EP X E1 σ Q) X.xe s
def PT(X:Cx)(e:Expr)(t:TT):Prop:=
 ∀(E1:K8) (s:Shared) (σ:St) (H:Hp) (Q:Bool->Hp->Prop),Inv X E1 σ H s->t σ H Q->wpAny (model X.prog X.w) X.A (isTrue e X.env<|eval e X.env) (TP X E1 σ Q) X.xe s
def PW(X:Cx)(e:Expr)(t:TT):Prop:=
 ∀(whole:Sem Value) (E1:K8) (s:Shared) (σ:St) (H:Hp) (Q:Bool->Hp->Prop),Inv X E1 σ H s->t σ H Q->wpAny (model X.prog X.w) X.A (isTrue e X.env whole) (TP X E1 σ Q) X.xe s
theorem PW.pt{t:TT}(h:PW X e t):PT X e t:=h _
def PA(X:Cx)(es:List Expr)(t:TA):Prop:=
 ∀(pos:Pos) (E1:K8) (s:Shared) (σ:St) (H:Hp) (Q:Rg->Hp->Prop),Inv X E1 σ H s->t σ H Q->wpAny (model X.prog X.w) X.A (spliced<|backTo pos<|starEach es X.env) (AP X E1 σ Q) X.xe s
def PS(X:Cx)(st:Stmt)(t:TS):Prop:=
 ∀(E1:K8) (s:Shared) (σ:St) (H:Hp) (D:kL),Inv X E1 σ H s->t D σ H->wpAny (model X.prog X.w) X.A (exec st X.env) (SP X E1 D) X.xe s
def lX(X:Cx)(st:List Stmt)(t:TS):Prop:=
 ∀(E1:K8) (s:Shared) (σ:St) (H:Hp) (D:kL),Inv X E1 σ H s->t D σ H->wpAny (model X.prog X.w) X.A (execs st X.env) (SP X E1 D) X.xe s
theorem bO{α:Type}{t:Sem α}{Q Q':α->Shared->Prop}{M:Model}{E:Lb}(h:wpAny M A t Q E s)(hQ:∀a s,Q a s->Q' a s):wpAny M A t Q' E s:=Qv h hQ λ_ _ x=>x
section
theorem Qe{a b:Expr}{tb:TE}(ha:PE X a ta)(hb:PE X b tb){R:V->V->Hp->Prop}(I:Inv X E1 σ H s)(h:ta σ H λx H1=>tb σ H1 λy H2=>R x y H2)
  {α:Type} {Q:α->Shared->Prop} {f:Value->Value->Sem α}
  (hf:∀v u s2 x y H2,Inv X E1 σ H2 s2->RelV x v->RelV y u->R x y H2->wpAny (model X.prog X.w) X.A (f v u) Q X.xe s2) :
  wpAny (model X.prog X.w) X.A (eval a X.env) (λv s₁=>wpAny (model X.prog X.w) X.A (eval b X.env) (λu s₂=>wpAny (model X.prog X.w) X.A (f v u) Q X.xe s₂) X.xe s₁) X.xe s:=by
 refine bO (ha E1 s σ H _ I h) λv s1 ⟨x,H1,I1,r1,q1⟩=>?_;refine bO (hb E1 s1 σ H1 _ I1 q1) λu s2 ⟨y,H2,I2,r2,q2⟩=>?_;exact hf v u s2 x y H2 I2 r1 r2 q2
def qC(i:Nat):TE:=λσ H Q=>∃v,σ[i]? = some (some v)/\Q v H
def tC(v:V):TE:=λ_ H Q=>Q v H
theorem db(hN:X.N[i]? = some x)(hv:kA X.env.scope x)(hd:(Q7 x:))(hcd:((x==("__classdict__" : Str))=false:)):PE X (.Name x pos) (qC i):=by
 intro E1 s σ H Q I h;obtain⟨v,e,h⟩:=h;obtain⟨m,hn,hl⟩:=I.loc;obtain⟨u,r,l⟩:=hl i x v hN e hv;have fin:EP X E1 σ Q u s:=⟨v,H,I,r,h⟩;rcases l with⟨hk,hm⟩|⟨hk,c,hc,hcell⟩
 exact wpAny_Name (wpAny_loadName_local I.ok.kind hk hn hm fin) hd;rcases hk with hk|hk
 exact wpAny_Name (wpAny_loadName_cell I.ok.kind hk hc hcell fin) hd;exact wpAny_Name (wpAny_loadName_free I.ok.kind hk hc hcell fin hcd) hd
theorem kM{i j pos}:PE X (.Constant (.int i) j pos) (tC<|.int i):=λ_ _ _ H _ I h=>wpAny_Constant_int ⟨.int i,H,I.tok _,⟨_,rfl⟩,h⟩
theorem v3{b j pos}:PE X (.Constant (.bool b) j pos) (tC<|.bl b):=λ_ _ _ H _ I h=>Constant_bool ⟨.bl b,H,I,rfl,h⟩
theorem tB{j pos}:PE X (.Constant .none j pos) (tC .non):=λ_ _ _ H _ I h=>Constant_none ⟨.non,H,I,rfl,h⟩
theorem tD{x j pos}:PE X (.Constant (.str x) j pos) (tC<|.str x):=λ_ _ _ H _ I h=>Calls.Constant_str ⟨.str x,H,I.tok _,⟨_,rfl⟩,h⟩
def Gl(X:Cx)(x:Str):Prop:=X.env.kindOf x=some .globalImplicit
theorem eW{E:Lb}{u:Value}(I:Inv X E1 σ H s)(hg:Gl X x)(hm:X.mg x=some u)(h:Q u s)
  (hd:(Q7 x:)):wpAny (model X.prog X.w) X.A (eval (.Name x pos) X.env) Q E s:=
 Calls.Name_function_global I.ok.kind hg (Calls.loadGlobal_global (by rw[I.ok.glob];exact I.mod.glob.keeps I.bk) hm h) hd
theorem eL{E:Lb}{u:Value}(I:Inv X E1 σ H s)(hg:Gl X x)(hm:X.mg x=none)(hv:bootBuiltins x=some u)(h:Q u s)
  (hn:(x≠ "__name__":)) (hd:(Q7 x:)):wpAny (model X.prog X.w) X.A (eval (.Name x pos) X.env) Q E s:=by
 obtain⟨mb,h1,h2⟩:=I.mod.blt;exact Calls.Name_function_global I.ok.kind hg (Calls.loadGlobal_builtin (by rw[I.ok.glob];exact I.mod.glob.keeps I.bk) hm (by rw[I.ok.blt];exact h1.keeps I.bk) ((h2 x hn).trans hv) h) hd
theorem qD{v:V}{u:Value}(hg:Gl X x)(hm:X.mg x=some u)(r:RelV v u)(hd:(Q7 x:)):PE X (.Name x pos) (tC v):=
 λ_ _ _ H _ I h=>eW I hg hm ⟨v,H,I,r,h⟩ hd
theorem qE{v:V}{u:Value}(hg:Gl X x)(hm:X.mg x=none)(hv:bootBuiltins x=some u)(r:RelV v u)(hn:(x≠ "__name__":))(hd:(Q7 x:)):PE X (.Name x pos) (tC v):=
 λ_ _ _ H _ I h=>eL I hg hm hv ⟨v,H,I,r,h⟩ hn hd
variable{a b:Expr}{tb:TE}
variable{tA tB':TT}{rest:List Expr}
def Ck(t u:TT):TT:=λσ H Q=>t σ H λc H1=>if c=true then u σ H1 Q else Q false H1
def JP(t u:TT):TT:=λσ H Q=>t σ H λc H1=>if c=true then Q true H1 else u σ H1 Q
def Cm(t:TT):TT:=λσ H Q=>t σ H λc H1=>Q (!c) H1
theorem qF(ha:PT X a tA):PW X (.BoolOp .And [a] pos) tA:=by
 intro wh E1 s σ H Q I h;refine isTrue_and<|bO (ha E1 s σ H Q I h) λc s1 e=>?_;cases c with
 |true=>exact isTrue_and_nil e|false=>exact e
theorem tE(ha:PT X a tA):PW X (.BoolOp .Or [a] pos) tA:=by
 intro wh E1 s σ H Q I h;refine isTrue_or<|bO (ha E1 s σ H Q I h) λc s1 e=>?_;cases c with
 |false=>exact isTrue_or_nil e|true=>exact e
theorem tF(ha:PT X a tA)(hb:PW X (.BoolOp .And (b::rest) pos) tB'):PW X (.BoolOp .And (a::b::rest) pos) (Ck tA tB'):=by
 intro wh E1 s σ H Q I h;refine isTrue_and<|bO (ha E1 s σ H _ I h) λc s1 ⟨H1,I1,q1⟩=>?_;cases c with
 |true=>exact hb wh E1 s1 σ H1 Q I1 q1|false=>exact⟨H1,I1,q1⟩
theorem v4(ha:PT X a tA)(hb:PW X (.BoolOp .Or (b::rest) pos) tB'):PW X (.BoolOp .Or (a::b::rest) pos) (JP tA tB'):=by
 intro wh E1 s σ H Q I h;refine isTrue_or<|bO (ha E1 s σ H _ I h) λc s1 ⟨H1,I1,q1⟩=>?_;cases c with
 |true=>exact⟨H1,I1,q1⟩|false=>exact hb wh E1 s1 σ H1 Q I1 q1
theorem tG(ha:PT X a tA):PT X (.UnaryOp .Not a pos) (Cm tA):=by intro E1 s σ H Q I h;exact isTrue_not<|ha E1 s σ H (λc H1=>Q (!c) H1) I h
def v6(ta tb:TE):TE:=λσ H Q=>ta σ H λx H1=>∃c,x=.bl c/\if c=true then tb σ H1 Q else Q (.bl false) H1
def v7(ta:TE):TE:=λσ H Q=>ta σ H λx H1=>∃c,x=.bl c/\Q (.bl (!c)) H1
theorem tH{op}{t:TE}(h:PE X a t):PE X (.BoolOp op [a] pos) t:=λE1 s σ H Q I hw=>BoolOp_one<|h E1 s σ H Q I hw
theorem tI(ha:PE X a ta)(hb:PE X (.BoolOp .And (b::rest) pos) tb):PE X (.BoolOp .And (a::b::rest) pos) (v6 ta tb):=by
 intro E1 s σ H Q I h;refine BoolOp_and<|bO (ha E1 s σ H _ I h) λv s1 ⟨x,H1,I1,r1,q1⟩=>?_;obtain⟨c,rfl,q1⟩:=q1;cases r1;refine Qz ?_;cases c with
 |true=>exact hb E1 s1 σ H1 Q I1 q1|false=>exact⟨.bl false,H1,I1,rfl,q1⟩
theorem tJ(ha:PE X a ta):PE X (.UnaryOp .Not a pos) (v7 ta):=by intro E1 s σ H Q I h;refine UnaryOp_<|bO (ha E1 s σ H _ I h) λv s1 ⟨x,H1,I1,r1,q1⟩=>?_;obtain⟨c,rfl,q1⟩:=q1;cases r1;exact not_of<|Qz ⟨.bl (!c),H1,I1,rfl,q1⟩
def JQ(t:TT)(ta tb:TE):TE:=λσ H Q=>t σ H λc H1=>if c=true then ta σ H1 Q else tb σ H1 Q
theorem o8(hc:PT X c tA)(ha:PE X a ta)(hb:PE X b tb):PE X (.IfExp c a b pos) (JQ tA ta tb):=by
 intro E1 s σ H Q I h;refine wpAny_IfExp<|bO (hc E1 s σ H _ I h) λd s1 ⟨H1,I1,q1⟩=>?_;cases d with
 |true=>exact ha E1 s1 σ H1 Q I1 q1|false=>exact hb E1 s1 σ H1 Q I1 q1
end
def SqL(K:Qh)(H:Hp)(a:Addr)(xs:Rg):Prop:=
 Rd H a (.lst xs)\/
  ∃(o:Obj) (its:Array Value) (n:Nat),K.lookup a=some o/\o.cls=.type "list" /\o.dict=none/\o.data=.seq its n/\its.size<=sizeLine/\Vals xs its.toList
def SqT(K:Qh)(H:Hp)(a:Addr)(xs:Rg):Prop:=
 Rd H a (.tup xs)\/
  ∃(o:Obj) (its:Array Value) (n:Nat),K.lookup a=some o/\o.cls=.type "tuple" /\o.data=.seq its n/\its.size<=sizeLine/\Vals xs its.toList
noncomputable def Cn:Value->Option V
 |.none=>some .non|.bool b=>some<|.bl b
 |.int i _=>some<|.int i
 |.str x _=>some<|.str x
 |.bytes b _=>some<|.byt b
 |.float b _=>some<|.flt b
 |.ref a=>some<|.ref a
 |.type n=>some<|.ty n
 |_=>none
theorem RelV.abs{x:V}{u:Value}(r:RelV x u):Cn u=some x:=by
 cases x with
 |non=>cases r;rfl
 |bl _=>cases r;rfl
 |int _=>obtain⟨t,rfl⟩:=r;rfl
 |str _=>obtain⟨t,rfl⟩:=r;rfl
 |byt _=>obtain⟨t,rfl⟩:=r;rfl
 |flt _=>obtain⟨t,rfl⟩:=r;rfl
 |ref _=>cases r;rfl
 |ty _=>cases r;rfl
theorem RelV.inj{x y:V}{u:Value}(r:RelV x u)(q:RelV y u):x=y:=Qk<|r.abs.symm.trans q.abs
theorem Vals.inj:∀{xs ys:Rg} {us:QX},Vals xs us->Vals ys us->xs=ys
 |_,_,_,.nil,.nil=>rfl|_,_,_,.cons r t,.cons r' t'=>by rw[r.inj r',Vals.inj t t']
section
variable{ys:Rg}
theorem SqL.of(h:H a=some (.lst xs)):SqL K H a xs:=.inl<|.inl h
theorem SqT.of(h:H a=some (.tup xs)):SqT K H a xs:=.inl<|.inl h
theorem Inv.list(I:Inv X E1 σ H s)(h:SqL X.K H a xs):∃its:QX,Vals xs its/\PlainL s.heap a its.toArray/\xs.length<=sizeLine:=by
 rcases h with h|⟨o,its,n,hk,hc,hd,hs,hz,r⟩
 obtain⟨z,its,n,r,e⟩:=h.ok I.hok;exact⟨its,r,⟨_,n,e,rfl,rfl,rfl⟩,z⟩;refine⟨its.toList,r,⟨o,n,I.kIn a o hk,hc,hd,by simpa using hs⟩,?_⟩;have e:=r.length;simp only[zK]at e;omega
theorem Inv.tuple(I:Inv X E1 σ H s)(h:SqT X.K H a xs):∃its:QX,Vals xs its/\IsTup s.heap a its.toArray/\xs.length<=sizeLine:=by
 rcases h with h|⟨o,its,n,hk,hc,hs,hz,r⟩
 obtain⟨z,its,r,p⟩:=h.ok I.hok;exact⟨its,r,p,z⟩;refine⟨its.toList,r,⟨o,I.kIn a o hk,hc,n,by simpa using hs⟩,?_⟩;have e:=r.length;simp only[zK]at e;omega
theorem Inv.list_inj(I:Inv X E1 σ H s)(h:SqL X.K H a xs)(h':SqL X.K H a ys):xs=ys:=by
 obtain⟨its,r,⟨o,n,e,_,_,d⟩,_⟩:=I.list h;obtain⟨its',r',⟨o',n',e',_,_,d'⟩,_⟩:=I.list h';rw[e]at e';cases e';rw[d]at d';injection d' with d1 _
 have:its=its':=by simpa using congrArg Array.toList d1
 subst this;exact r.inj r'
theorem Inv.tuple_inj(I:Inv X E1 σ H s)(h:SqT X.K H a xs)(h':SqT X.K H a ys):xs=ys:=by
 obtain⟨its,r,⟨o,e,_,n,d⟩,_⟩:=I.tuple h;obtain⟨its',r',⟨o',e',_,n',d'⟩,_⟩:=I.tuple h';rw[e]at e';cases e';rw[d]at d';injection d' with d1 _
 have:its=its':=by simpa using congrArg Array.toList d1
 subst this;exact r.inj r'
end
abbrev Cx.wish(X:Cx)(E:Lb):Cx:={ X with xe:=E }
abbrev Cx.nox(X:Cx):Cx:=X.wish λ_ _=>False
theorem Cx.Ok.wish{X:Cx}(ok:X.Ok)(E:Lb):(X.wish E).Ok:=
 ⟨ok.mod,ok.kind,ok.glob,ok.blt,ok.above,ok.inj,ok.has,ok.cab,ok.hd,ok.frames,ok.stk,ok.exf,ok.bs,ok.bsz,ok.noex,ok.exfs,ok.funs,ok.frf,ok.sys0⟩
theorem Cx.Ok.unwish{E:Lb}(ok:(X.wish E).Ok):X.Ok:=
 ⟨ok.mod,ok.kind,ok.glob,ok.blt,ok.above,ok.inj,ok.has,ok.cab,ok.hd,ok.frames,ok.stk,ok.exf,ok.bs,ok.bsz,ok.noex,ok.exfs,ok.funs,ok.frf,ok.sys0⟩
section
variable{E:Lb}
theorem Inv.wish(I:Inv X E1 σ H s)(E:Lb):Inv (X.wish E) E1 σ H s:=⟨I.ok.wish E,I.os,I.bare,I.base,I.loc,I.cell,I.free,I.freeC,I.pin,I.hok,I.len⟩
theorem Inv.unwish(I:Inv (X.wish E) E1 σ H s):Inv X E1 σ H s:=⟨I.ok.unwish,I.os,I.bare,I.base,I.loc,I.cell,I.free,I.freeC,I.pin,I.hok,I.len⟩
theorem SP.unwish{D:kL}{f:Flow}{s':Shared}(h:SP (X.wish E) E1 D f s'):SP X E1 D f s':=by
 cases f with
 |next=>obtain⟨σ',H',I,q⟩:=h;exact⟨σ',H',I.unwish,q⟩
 |brk=>obtain⟨σ',H',I,q⟩:=h;exact⟨σ',H',I.unwish,q⟩
 |cont=>obtain⟨σ',H',I,q⟩:=h;exact⟨σ',H',I.unwish,q⟩
 |ret u=>obtain⟨v,σ',H',I,r,q⟩:=h;exact⟨v,σ',H',I.unwish,r,q⟩
end
section
variable{st:Stmt}{rest:List Stmt}{t u:TS}
def v8:TS:=λD σ H=>D.nx σ H
def Co(t u:TS):TS:=λD σ H=>t { D with nx:=u D } σ H
theorem qG:lX X [] v8:=λ_ _ σ H _ I h=>QJ ⟨σ,H,I,h⟩
theorem jX(h1:PS X st t)(h2:lX X rest u):lX X (st::rest) (Co t u):=by
 intro E1 s σ H D I h;refine wpAny_execs_cons<|bO (h1 E1 s σ H { D with nx:=u D } I h) λf s1 q=>?_;cases f with
 |next=>obtain⟨σ',H',I',q⟩:=q;exact h2 E1 s1 σ' H' D I' q
 |ret v=>exact q|brk=>exact q|cont=>exact q
theorem eX(h1:PS X st t):lX X [st] t:=by
 intro E1 s σ H D I h;refine wpAny_execs_cons<|bO (h1 E1 s σ H D I h) λf s1 q=>?_;cases f with
 |next=>exact QJ q|ret v=>exact q|brk=>exact q|cont=>exact q
theorem Inv.quiet(I:Inv X E1 σ H s):interactive X.env=false:=by simp[interactive,I.ok.kind]
def v9(te:TE):TS:=λD σ H=>te σ H λ_ H1=>D.nx σ H1
theorem jt(he:PE X e te)(hs:{swapsWith e none pos.line X.env=pure false}):PS X (.Expr e pos) (v9 te):=by intro E1 s σ H D I h;exact wpAny_Expr_any (bO (he E1 s σ H _ I h) λv s1 ⟨x,H1,I1,r1,q1⟩=>⟨σ,H1,I1,q1⟩) I.quiet hs
def Cp(te:TE):TS:=λD σ H=>te σ H D.rt
theorem kN(he:PE X e te):PS X (.Return (some e) pos) (Cp te):=by intro E1 s σ H D I h;exact wpAny_Return_some<|bO (he E1 s σ H _ I h) λv s1 ⟨x,H1,I1,r1,q1⟩=>⟨x,σ,H1,I1,r1,q1⟩
def Cq(c:TT)(t u:TS):TS:=λD σ H=>c σ H λb H1=>if b=true then t D σ H1 else u D σ H1
theorem wd{a b:List Stmt}(hc:PT X c tc)(ha:lX X a t)(hb:lX X b u):PS X (.If c a b pos) (Cq tc t u):=by
 intro E1 s σ H D I h;refine wpAny_If<|bO (hc E1 s σ H _ I h) λd s1 ⟨H1,I1,q1⟩=>?_;cases d with
 |true=>exact ha E1 s1 σ H1 D I1 q1|false=>exact hb E1 s1 σ H1 D I1 q1
def tK:TS:=λ_ _ _=>False
theorem lY{sts:List Stmt}:lX X sts tK:=λ_ _ _ _ _ _ h=>h.elim
end
abbrev TG:=V->St->Hp->(St->Hp->Prop)->Prop
abbrev tL:=Rg->St->Hp->(St->Hp->Prop)->Prop
def PG(X:Cx)(target:Expr)(t:TG):Prop:=
 ∀(E1:K8) (s:Shared) (σ:St) (H:Hp) (v:V) (u:Value) (Q:St->Hp->Prop),Inv X E1 σ H s->RelV v u->t v σ H Q->
  wpAny (model X.prog X.w) X.A (assign target X.env u) (λ_ s'=>∃σ' H',Inv X E1 σ' H' s'/\Q σ' H') X.xe s
def wg(X:Cx)(ts:List Expr)(t:tL):Prop:=
 ∀(E1:K8) (s:Shared) (σ:St) (H:Hp) (vs:Rg) (us:QX) (Q:St->Hp->Prop),Inv X E1 σ H s->Vals vs us->t vs σ H Q->
  wpAny (model X.prog X.w) X.A (assignInOrder ((assignEach ts X.env).map (·.2)) us) (λ_ s'=>∃σ' H',Inv X E1 σ' H' s'/\Q σ' H') X.xe s
abbrev tM:=V->V->V->Hp->(Hp->Prop)->Prop
def wj(X:Cx)(t:tM):Prop:=
 ∀(E1:K8) (s:Shared) (σ:St) (H:Hp) (o i v:V) (ov iv u:Value) (Q:Hp->Prop),Inv X E1 σ H s->RelV o ov->RelV i iv->RelV v u->t o i v H Q->
  wpAny (model X.prog X.w) X.A (setItem ov iv u) (λ_ s'=>∃H',Inv X E1 σ H' s'/\Q H') X.xe s
abbrev z8:=V->V->Hp->VK->Prop
def Fs(X:Cx)(op:Operator)(t:z8):Prop:=
 ∀(E1:K8) (s:Shared) (σ:St) (H:Hp) (x y:V) (v u:Value) (Q:VK),Inv X E1 σ H s->RelV x v->RelV y u->t x y H Q->
  wpAny (model X.prog X.w) X.A (inplaceOp op v u) (EP X E1 σ Q) X.xe s
section
def lD(i:Nat):TG:=λv σ H Q=>Q (σ.set i<|some v) H
theorem lE(hN:X.N.Nodup)(hi:X.N[i]? = some x)(hx:lC X.env.scope x)(hf:autoParam (Q8 X x) Ri._auto_1):PG X (.Name x pos) (lD i):=by intro E1 s σ H v u Q I r h;exact wpAny_assign_Name<|eK I hN hi hx r (λs' I'=>⟨_,H,I',h⟩) hf
def Cr:tL:=λvs σ H Q=>vs=[]/\Q σ H
def wn(t:TG)(u:tL):tL:=λvs σ H Q=>∃v r,vs=v::r/\t v σ H λσ' H'=>u r σ' H' Q
theorem lF:wg X [] Cr:=by intro E1 s σ H vs us Q I r h;obtain⟨e,h⟩:=h;subst e;cases r;exact assignInOrder_nil ⟨σ,H,I,h⟩
theorem hU{t:TG}{u:tL}(h1:PG X e t)(h2:wg X es u)
  (hs:{(assignEach (e::es) X.env).map (·.2)=assign e X.env::(assignEach es X.env).map (·.2)}):wg X (e::es) (wn t u):=by
 intro E1 s σ H vs us Q I r h;obtain⟨v,vr,e1,h⟩:=h;subst e1;cases r with
 |cons r rr=>
  rw[hs];refine assignInOrder_cons<|bO (h1 E1 s σ H _ _ _ I r h) λ_ s1 ⟨σ1,H1,I1,q1⟩=>?_;exact h2 E1 s1 σ1 H1 _ _ Q I1 rr q1
def Ct(K:Qh)(n:Nat)(t:tL):TG:=λv σ H Q=>∃a xs,v=.ref a/\SqT K H a xs/\xs.length=n/\t xs σ H Q
theorem o9{t:tL}(hc:X.calm=true)(h:wg X es t)
  (hn:{(assignEach es X.env).length=n}) (hst:{(assignEach es X.env).findIdx? (·.1)=none}):PG X (.Tuple es k pos) (Ct X.K n t):=by
 intro E1 s σ H v u Q I r hw;obtain⟨a,xs,e1,hq,hl,hw⟩:=hw;subst e1;cases r;obtain⟨its,rv,ht,hz⟩:=I.tuple hq;refine assign_Tuple_tuple (I.ok.hd hc) ht (by simp[hn,<-hl,rv.length]) hst λh' hx=>?_;have I1:Inv X E1 σ H { s with heap:=h' }:=I.kept (t':=s.toks) λb o e=>hx b o (gY<|dv e) e;exact h E1 _ σ H xs _ Q I1 (by simpa using rv) hw
def Cu(to ti:TE)(t:tM):TG:=λv σ H Q=>to σ H λo H1=>ti σ H1 λi H2=>t o i v H2 λH3=>Q σ H3
theorem ju{o i:Expr}{to ti:TE}{t:tM}(ho:PE X o to)(hi:PE X i ti)(hs:wj X t)
  (ha:autoParam (∀ v,assign (.Subscript o i pos) X.env v=(do
   let ov <-holding [v] (eval o X.env)
   let iv <-holding [v,ov] (eval i X.env)
   standAt pos
   holding [v,ov,iv] (setItem ov iv v)
   release [v,ov,iv] [])) Rj._auto_1):PG X (.Subscript o i pos) (Cu to ti t):=by
 intro E1 s σ H v u Q I r h;rw[ha];refine Qg<|Qy (bO (ho E1 s σ H _ I h) λov s1 ⟨x,H1,I1,r1,q1⟩=>?_);refine Qg<|Qy (bO (hi E1 s1 σ H1 _ I1 q1) λiv s2 ⟨y,H2,I2,r2,q2⟩=>?_);refine Qg<|QC (Qg<|Qy<|bO (hs E1 s2 σ H2 x y v ov iv u _ I2 r1 r2 r q2) λ_ s3 ⟨H3,I3,q3⟩=>?_);exact wpAny_release ⟨σ,H3,I3,q3⟩
def tN(te:TE)(g:TG):TS:=λD σ H=>te σ H λx H1=>g x σ H1 D.nx
theorem jv{g:TG}(he:PE X e te)(hg:PG X tg g)(hs:{swapsWithSole [tg] e pos.line X.env=pure false})(hw:{swappedStores [tg] e X.env=pure none})
  (h1:{(assignEach [tg] X.env).map (·.2)=[assign tg X.env]}):PS X (.Assign [tg] e pos) (tN te g):=by
 intro E1 s σ H D I h;refine wpAny_Assign_stores (bO (he E1 s σ H _ I h) λv s1 ⟨x,H1,I1,r1,q1⟩=>?_) hs hw;rw[h1];exact bO (hg E1 s1 σ H1 x v _ I1 r1 q1) λ_ s2 q=>q
theorem jw(hN:X.N.Nodup)(hi:X.N[i]? = some x)(hx:lC X.env.scope x)(he:PE X e te)(hs:{swapsWith e (some<|.Name x pos') pos.line X.env=pure false})(hf:autoParam (Q8 X x) Ri._auto_1) :
  PS X (.Assign [.Name x pos'] e pos) (tN te<|lD i):=by
 intro E1 s σ H D I h;refine wpAny_Assign_Name (bO (he E1 s σ H _ I h) λv s1 ⟨y,H1,I1,r1,q1⟩=>?_) hs;exact eK I1 hN hi hx r1 (λs2 I2=>⟨_,H1,I2,q1⟩) hf
def Cv(i j:Nat)(ta:TA):TS:=λD σ H=>ta σ H λvs H1=>∃v w,vs=[v,w]/\D.nx ((σ.set i<|some v).set j<|some w) H1
theorem tO{y:Str}{a b:Expr}{ta:TA}{px py pt:Pos}{kt k2 pt2}(hc:X.calm=true)(hN:X.N.Nodup)(hi:X.N[i]? = some x)(hj:X.N[j]? = some y)(hij:i≠j)
  (hx:X.env.scope.names.lookup x=some .local) (hy:X.env.scope.names.lookup y=some .local) (ha:PA X [a,b] ta)
  (hw:swappedStores [.Tuple [.Name x px,.Name y py] kt pt] (.Tuple [a,b] k2 pt2) X.env=pure (some [x,y]))
  (hs:{swapsWithSole [.Tuple [.Name x px,.Name y py] kt pt] (.Tuple [a,b] k2 pt2) pos.line X.env=pure false}) :
  PS X (.Assign [.Tuple [.Name x px,.Name y py] kt pt] (.Tuple [a,b] k2 pt2) pos) (Cv i j ta):=by
 intro E1 s σ H D I h;rw[exec_Assign_arm];refine Qg<|QC ?_;rw[hs];refine Qg<|Qi ?_;rw[fz<|F4];refine Qg<|Tuple_ (bO (ha _ E1 s σ H _ I h) λus s1 ⟨vs,H1,I1,r1,q1⟩=>?_);obtain⟨v,w,e1,q1⟩:=q1;subst e1;obtain⟨u1,u2,rfl,rv,rw'⟩:∃u1 u2,us=[u1,u2]/\RelV v u1/\RelV w u2:=by
  cases r1 with
  |cons p q=>
   cases q with
   |cons p' q'=>
    cases q';exact⟨_,_,rfl,p,p'⟩
 refine Qu ?_ (by show 2<=sizeLine;decide);have I2:Inv X E1 σ H1 { s1 with heap:=s1.heap.push { cls:=.type "tuple",data:=.seq [u1,u2].toArray } }:=I1.kept (t':=s1.toks) λb o e=>dM _ e;rw[hw];refine Qg<|Qi ?_;show wpAny (model X.prog X.w) X.A (do rule "assign.swapped-stores";let items <-unpackItems (.ref s1.heap.objs.size) 2 none;assignInOrder [λv=>bindName X.env y v,λv=>bindName X.env x v] items.reverse;pure Flow.next) _ _ _;refine Qg<|QN (Qg<|unpackItems_tuple (items:=#[u1,u2]) (I.ok.hd hc) (IsTup.new s1.heap _) λh' hx'=>?_);have I3:=I2.kept (h':=h') (t':=s1.toks) λb o e=>hx' b o (gY<|dv e) e;show wpAny _ _ (assignInOrder [λv=>bindName X.env y v,λv=>bindName X.env x v] [u2,u1] >>= λ_=>pure Flow.next) _ _ _;refine Qg<|assignInOrder_cons (wpAny_bindName<|eK I3 hN hj (.inl hy) rw' (λs2 I4=>?_)<|.inr hy);refine assignInOrder_cons<|wpAny_bindName (eK I4 hN hi (.inl hx) rv (λs3 I5=>assignInOrder_nil<|Qi ?_)<|.inr hx);rw[List.set_comm _ _<|Qq hij]at I5;exact⟨_,H1,I5,q1⟩
def Cw(i:Nat)(te:TE)(ti:z8):TS:=λD σ H=>∃x,σ[i]? = some (some x)/\te σ H λy H1=>ti x y H1 λz H2=>D.nx (σ.set i<|some z) H2
theorem tP{op:Operator}{ti:z8}(hN:X.N.Nodup)(hi:X.N[i]? = some x)(hx:lC X.env.scope x)(he:PE X e te)(ho:Fs X op ti)(hf:autoParam (Q8 X x) Ri._auto_1) :
  PS X (.AugAssign (.Name x pos') op e pos) (Cw i te ti):=by
 intro E1 s σ H D I h;obtain⟨v,e1,h⟩:=h;obtain⟨m,hn,hl⟩:=I.loc;have vis:kA X.env.scope x:=by rcases hx with k|k;exact .inl k;exact .inr<|.inl k
 obtain⟨u,r,l⟩:=hl i x v hi e1 vis;refine wpAny_AugAssign_Name ?_;have go:wpAny (model X.prog X.w) X.A (eval e X.env) (λw s₂=>wpAny (model X.prog X.w) X.A (inplaceOp op u w) (λr s₃=>wpAny (model X.prog X.w) X.A (storeName X.env x r) (λ_=>SP X E1 D .next) X.xe s₃) X.xe s₂) X.xe s:=by
  refine bO (he E1 s σ H _ I h) λw s1 ⟨y,H1,I1,r1,q1⟩=>?_;refine bO (ho E1 s1 σ H1 v y u w _ I1 r r1 q1) λz s2 ⟨zv,H2,I2,r2,q2⟩=>?_;exact eK I2 hN hi hx r2 (λs3 I3=>⟨_,H2,I3,q2⟩) hf
 rcases l with⟨hk,hm⟩|⟨hk,c,hc,hcell⟩
 .exact wpAny_loadName_local I.ok.kind hk hn hm go
 .rcases hk with hk|hk
  .exact wpAny_loadName_cell I.ok.kind hk hc hcell go
  .rcases hx with k|k
   .have:X.env.scope.names.lookup x=some .free:=hk
    rw[k]at this;cases this
   .have:X.env.scope.names.lookup x=some .free:=hk
    rw[k]at this;cases this
def JR(f:Int->Int->Int):z8:=λx y H Q=>∃i j,x=.int i/\y=.int j/\Q (.int<|f i j) H
theorem tQ:Fs X .Add (JR λi j=>i+j):=by intro E1 s σ H x y v u Q I r1 r2 h;obtain⟨i,j,e1,e2,q⟩:=h;subst e1;subst e2;obtain⟨t,rfl⟩:=r1;obtain⟨t',rfl⟩:=r2;exact iadd_int ⟨.int _,H,I.tok _,⟨_,rfl⟩,q⟩
end
section
def tR(c:TT)(tb:TS):TS:=λD σ H=>∃W:Nat->St->Hp->Prop,(∃m,W m σ H)/\∀m σ H,W m σ H->
 c σ H λb H1=>if b=true then∃N:St->Hp->Prop,(∀σ' H',N σ' H'->∃m',m'<m/\W m' σ' H')/\tb { D with nx:=N,ct:=N,bk:=D.nx } σ H1 else D.nx σ H1
theorem pj{tb:TS}(hp:PassesOwn (model X.prog X.w) X.A X.env X.xe)(hc:PT X c tc)(hb:lX X body tb):PS X (.While c body [] pos) (tR tc tb):=by
 intro E1 s σ H D I h;obtain⟨W,⟨m0,w0⟩,turn⟩:=h;refine wpAny_While<|codeAny_whileLoop (λn s'=>∃σ' H',Inv X E1 σ' H' s'/\W n σ' H') ?_ m0 ⟨σ,H,I,w0⟩;rintro n s1 ⟨σ1,H1,I1,w1⟩;refine QG hp<|bO (hc E1 s1 σ1 H1 _ I1<|turn n σ1 H1 w1) λb s2 ⟨H2,I2,q2⟩=>?_;cases b with
 |true=>
  obtain⟨N,hN,q2⟩:=q2;rw[ks rfl];refine QG hp<|bO (hb E1 s2 σ1 H2 _ I2 q2) λf s3 q3=>?_;cases f with
  |next=>
   obtain⟨σ3,H3,I3,n3⟩:=q3;obtain⟨m',hm,w3⟩:=hN σ3 H3 n3;exact⟨m',hm,σ3,H3,I3,w3⟩
  |cont=>
   obtain⟨σ3,H3,I3,n3⟩:=q3;obtain⟨m',hm,w3⟩:=hN σ3 H3 n3;exact⟨m',hm,σ3,H3,I3,w3⟩
  |brk=>exact q3|ret v=>exact q3
 |false=>rw[fz mP];exact QJ ⟨σ1,H2,I2,q2⟩
end
structure It where
 go:Nat->Hp->Prop
 yld:Nat->Hp->V->Hp->Prop
 stop:Nat->Hp->Prop
def fO(X:Cx)(E1:K8)(H:Hp)(b:Addr):Prop:=
 H b=none/\b≠X.env.locals/\b∉X.fs/\(b∈X.ex\/X.s₀.heap.objs.size<=b)/\(∀x c,X.env.cells.lookup x=some c->c≠b)/\∀p∈X.pn++E1,p.1≠b
theorem Inv.fpOk(I:Inv X E1 σ H s)(hb:s.heap.objs.size<=b)(hn:H' b=none):fO X E1 H' b:=by
 refine⟨hn,zL<|dw I.lt hb,I.nofs hb,.inr<|fL I.sz hb,λx c e z=>?_,λp hp z=>?_⟩;obtain⟨v,q⟩:=I.cell x c e;exact Qj (dw q.lt (by rw[z];exact hb))<|iu _
 exact Qj (dw (dv (I.pin p hp).1) (by rw[z];exact hb))<|iu _
structure jY(P:Program)(w:World)(K:Qh)(tg:Expr)(J:It)(fp:List Addr)(it:Addr)(tn:Nat->Heap->Prop):Prop where
 mem:it∈fp
 obj:∀i h,tn i h->∀b∈fp,∃o,h.get? b=some o/\∀v,o.data≠.cell v
 keep:∀i h h',tn i h->(∀b∈fp,∀o,h.get? b=some o->h'.get? b=some o)->tn i h'
 item:∀(X:Cx),X.prog=P->X.w=w->X.K=K->X.calm=true->∀(i:Nat) (E1:K8) (s:Shared) (σ:St) (H:Hp) (E:Lb),Inv X E1 σ H s->(∀b∈fp,fO X E1 H b)->tn i s.heap->J.go i H->
  wpAny (model P w) X.A (pyNext<|.ref it) (λr s1=>∃ u,r=some u/\
   wpAny (model P w) X.A (letOwnedTupleGo tg (.ref it) u) (λ_ s2=>∃x H',Inv X E1 σ H' s2/\RelV x u/\J.yld i H x H'/\tn (i+1) s2.heap/\∀b∈fp,H' b=none) E s1) E s
 done:∀(X:Cx),X.prog=P->X.w=w->X.K=K->X.calm=true->∀(i:Nat) (E1:K8) (s:Shared) (σ:St) (H:Hp) (E:Lb),Inv X E1 σ H s->(∀b∈fp,fO X E1 H b)->tn i s.heap->J.stop i H->
  wpAny (model P w) X.A (pyNext<|.ref it) (λr s1=>r=none/\Inv X E1 σ H s1) E s
 self:∀(A:Around) (i:Nat) (s:Shared) (Q:Lb) (E:Lb),tn i s.heap->Q (.ref it) s->wpAny (model P w) A (pyIter<|.ref it) Q E s
abbrev TI:=St->Hp->(It->Hp->Prop)->Prop
def Ft(X:Cx)(E1:K8)(σ:St)(tg:Expr)(R:It->Hp->Prop)(itv:Value)(s2:Shared):Prop:=
 ∃(it:Addr) (fp:List Addr) (tn:Nat->Heap->Prop) (J:It) (H':Hp),itv=.ref it/\Inv X E1 σ H' s2/\jY X.prog X.w X.K tg J fp it tn/\tn 0 s2.heap/\(∀b∈fp,fO X E1 H' b)/\R J H'
def PI(X:Cx)(tg iter:Expr)(wi:TI):Prop:=
 ∀(E1:K8) (s:Shared) (σ:St) (H:Hp) (R:It->Hp->Prop),Inv X E1 σ H s->wi σ H R->
  wpAny (model X.prog X.w) X.A (eval iter X.env) (λv s1=>wpAny (model X.prog X.w) X.A (pyIter v) (Ft X E1 σ tg R) X.xe s1) X.xe s
theorem pk{M:Model}{E:Lb}{u:Value}{o:Obj}{n:String}{vs:Array Value}{Q:Unit->Shared->Prop}(ho:s.heap.get? it=some o)(hc:o.cls = .type n)(hd:o.data = .fields vs)
    (hn:["enumerate", "zip", "dict_itemiterator", "dict_reverseitemiterator", "odict_iterator", "itertools.zip_longest", "itertools.pairwise"].contains n=false) (hQ:Q () s):wpAny M A (letOwnedTupleGo tg (.ref it) u) Q E s:=by
  unfold letOwnedTupleGo;cases tg<;>first
    |exact Qi hQ
    | (cases u<;>first
        |exact Qi hQ
        | (refine Qg (wpAny_load ho ?_)
           rw[hc,hd];show wpAny M A (if(["enumerate", "zip", "dict_itemiterator", "dict_reverseitemiterator", "odict_iterator", "itertools.zip_longest", "itertools.pairwise"].contains n&&vs[0]? == some (rawInt _))=true then _ else _) Q E s;rw[fz (by intro h;rw[hn,Bool.false_and]at h;cases h)];exact Qi hQ))
def Cy(K:Qh)(a:Addr):It:=
 ⟨λi H=>∃xs x,SqL K H a xs/\xs[i]? = some x,λi H x H'=>H'=H/\∀xs,SqL K H a xs->xs[i]? = some x,λi H=>∃xs,SqL K H a xs/\xs.length<=i⟩
def Cz(K:Qh)(a:Addr):It:=
 ⟨λi H=>∃xs x,SqT K H a xs/\xs[i]? = some x,λi H x H'=>H'=H/\∀xs,SqT K H a xs->xs[i]? = some x,λi H=>∃xs,SqT K H a xs/\xs.length<=i⟩
def wq(lo:Int)(n:Nat):It:=⟨λi _=>i<n,λi H x H'=>H'=H/\x=.int (lo+i),λi _=>n<=i⟩
theorem i4(a it:Addr):jY P w K tg (Cy K a) [it] it (λi h=>h.IsListIter it a i) where
 mem:=KE
 obj:=λi h st b hb=>by
  have e:b=it:=by simpa using hb
  subst e;obtain⟨o,e,c,d⟩:=st;exact⟨o,e,λv z=>by rw[d]at z;cases z⟩
 keep:=λi h h' st k=>st.at λo e=>k it KE o e
 item:=by intro X hP hw hK hc i E1 s σ H E I hf st hg;subst hP hw hK;obtain⟨xs,x,hq,hx⟩:=hg;obtain⟨its,rv,p,hz⟩:=I.list hq;obtain⟨u,hu,ru⟩:=rv.get hx;obtain⟨f0,f1,f2,f3,f4,f5⟩:=hf it KE;refine wpAny_pyNext_list_item st p.isList (x:=u) (by simpa using hu) λh' st' sb=>?_;have I1:Inv X E1 σ H { s with heap:=h' }:=I.turned (t':=s.toks) (λb o hb e=>(sb.2 b hb).trans e) f0 f1 f3 f4 f5;obtain⟨o,e,c,d⟩:=id st';exact⟨u,rfl,pk (s:={ s with heap:=h' }) e c d F4 ⟨x,H,I1,ru,⟨rfl,λys hy=>by rw[I.list_inj hy hq];exact hx⟩,st',λb hb=>(hf b hb).1⟩⟩
 done:=by intro X hP hw hK hc i E1 s σ H E I hf st hg;subst hP hw hK;obtain⟨xs,hq,hx⟩:=hg;obtain⟨its,rv,p,hz⟩:=I.list hq;obtain⟨f0,f1,f2,f3,f4,f5⟩:=hf it KE;have hl:=rv.length;exact wpAny_pyNext_list_end (I.ok.hd hc) st p.isList (by simp;omega) λh' eb=>⟨rfl,I.turned (t':=s.toks) (λb o hb e=>eb b o hb e) f0 f1 f3 f4 f5⟩
 self:=λ_ _ _ _ _ st h=>wpAny_pyIter_listiter st h
theorem kO(a it:Addr):jY P w K tg (Cz K a) [it] it (λi h=>h.IsTupleIter it a i) where
 mem:=KE
 obj:=λi h st b hb=>by
  have e:b=it:=by simpa using hb
  subst e;obtain⟨o,e,c,d⟩:=st;exact⟨o,e,λv z=>by rw[d]at z;cases z⟩
 keep:=λi h h' st k=>st.at λo e=>k it KE o e
 item:=by intro X hP hw hK hc i E1 s σ H E I hf st hg;subst hP hw hK;obtain⟨xs,x,hq,hx⟩:=hg;obtain⟨its,rv,p,hz⟩:=I.tuple hq;obtain⟨u,hu,ru⟩:=rv.get hx;obtain⟨f0,f1,f2,f3,f4,f5⟩:=hf it KE;refine wpAny_pyNext_tuple_item st (show s.heap.IsTuple a its.toArray from p) (x:=u) (by simpa using hu) λh' st' sb=>?_;have I1:Inv X E1 σ H { s with heap:=h' }:=I.turned (t':=s.toks) (λb o hb e=>(sb.2 b hb).trans e) f0 f1 f3 f4 f5;obtain⟨o,e,c,d⟩:=id st';exact⟨u,rfl,pk (s:={ s with heap:=h' }) e c d F4 ⟨x,H,I1,ru,⟨rfl,λys hy=>by rw[I.tuple_inj hy hq];exact hx⟩,st',λb hb=>(hf b hb).1⟩⟩
 done:=by intro X hP hw hK hc i E1 s σ H E I hf st hg;subst hP hw hK;obtain⟨xs,hq,hx⟩:=hg;obtain⟨its,rv,p,hz⟩:=I.tuple hq;obtain⟨f0,f1,f2,f3,f4,f5⟩:=hf it KE;have hl:=rv.length;exact wpAny_pyNext_tuple_end (I.ok.hd hc) st (show s.heap.IsTuple a its.toArray from p) (by simp;omega) λh' eb=>⟨rfl,I.turned (t':=s.toks) (λb o hb e=>eb b o hb e) f0 f1 f3 f4 f5⟩
 self:=λ_ _ _ _ _ st h=>wpAny_pyIter_tupleiter st h
theorem kP(it:Addr)(lo:Int)(n:Nat):jY P w K tg (wq lo n) [it] it (λi h=>IsRangeIter h it (lo+(i:Nat)*1) ((n:Int)-(i:Nat)) 1) where
 mem:=KE
 obj:=λi h st b hb=>by
  have e:b=it:=by simpa using hb
  subst e;exact ⟨_,st,λv z=>by
   have z':Data.fields _=Data.cell v:=z;cases z'⟩
 keep:=λi h h' st k=>k it KE _ st
 item:=by intro X hP hw hK hc i E1 s σ H E I hf st hg;subst hP hw hK;obtain⟨f0,f1,f2,f3,f4,f5⟩:=hf it KE;have W:=Walks.range (prog:=X.prog) (w:=X.w) (I.ok.hd hc) it lo 1 n;refine W.item i s _ _ hg st λv h' tk hv st' kk=>?_;obtain⟨t,rfl⟩:=hv;have I1:Inv X E1 σ H { s with heap:=h',toks:=tk }:=I.turned (λb o hb e=>kk b o (by simpa using hb) e) f0 f1 f3 f4 f5;refine⟨_,rfl,pk (s:={ s with heap:=h',toks:=tk }) (n:= "range_iterator") st' rfl rfl F4 ⟨.int<|lo+i,H,I1,⟨t,?_⟩,⟨rfl,rfl⟩,st',λb hb=>(hf b hb).1⟩⟩;rw[Int.mul_one]
 done:=by intro X hP hw hK hc i E1 s σ H E I hf st hg;subst hP hw hK;obtain⟨f0,f1,f2,f3,f4,f5⟩:=hf it KE;exact wpAny_pyNext_range_end (I.ok.hd hc) st (by have:n<=i:=hg;omega) λh' eb=>⟨rfl,I.turned (t':=s.toks) (λb o hb e=>eb b o hb e) f0 f1 f3 f4 f5⟩
 self:=λ_ _ _ _ _ st h=>wpAny_pyIter_rangeiter st h
section
def wu(K:Qh)(tl:TE):TI:=λσ H R=>tl σ H λx H1=>∃a,x=.ref a/\(∃xs,SqL K H1 a xs)/\R (Cy K a) H1
theorem qH{l:Expr}{tl:TE}(hl:PE X l tl):PI X tg l (wu X.K tl):=by
 intro E1 s σ H R I h;refine bO (hl E1 s σ H _ I h) λv s1 ⟨x,H1,I1,r1,q1⟩=>?_;obtain⟨a,e,⟨xs,hq⟩,q⟩:=q1;subst e;cases r1;obtain⟨its,rv,p,hz⟩:=I1.list hq;refine QP p.isList ?_;refine⟨s1.heap.objs.size,[s1.heap.objs.size],_,_,H1,rfl,I1.kept (t':=s1.toks) λb o e=>dM _ e,i4 a _,⟨_,g6 _ rfl,rfl,rfl⟩,λb hb=>?_,q⟩;have e:b=s1.heap.objs.size:=by simpa using hb
 subst e;exact I1.fpOk (bZ _)<|I1.hok.fresh (bZ _)
theorem jZ{R:It->Hp->Prop}{E:Lb}{lo hi:Int}{t u v:Tok}{tk:Nat}(I:Inv X E1 σ H s)(h1:-(2^62)<=lo)(h2:lo<2^62)(h3:-(2^62)<=hi)(h4:hi<2^62)
  (q:R (wq lo (hi-lo).toNat) H):wpAny (model X.prog X.w) X.A (pyIter<|.ref s.heap.objs.size) (Ft X E1 σ tg R) E { s with heap:=s.heap.push { cls:=.type "range",data:=.fields #[.int lo t,.int hi u,.int 1 v] },toks:=tk }:=by
 refine wpAny_pyIter_range (IsRange.new ..) (small_one h1 h2 h3 h4) ?_;have I1:Inv X E1 σ H { s with heap:=s.heap.push { cls:=.type "range",data:=.fields #[.int lo t,.int hi u,.int 1 v] },toks:=tk }:=I.kept λb o e=>dM _ e;refine ⟨(s.heap.push { cls:=.type "range",data:=.fields #[.int lo t,.int hi u,.int 1 v] }).objs.size,[(s.heap.push { cls:=.type "range",data:=.fields #[.int lo t,.int hi u,.int 1 v] }).objs.size],_,_,H,rfl,
  I1.kept (t':=tk) λb o e=>dM _ e,kP _ lo (hi-lo).toNat,?_,λb hb=>?_,q⟩
 .have e1:lo+((0:Nat):Int)*1=lo:=KE
  have e2:(((hi-lo).toNat:Nat):Int)-((0:Nat):Int)=Builtin.Range.rangeSize lo hi 1:=by rw[rangeSize_one];split<;>omega
  show IsRangeIter _ _ (lo+((0:Nat):Int)*1) ((((hi-lo).toNat:Nat):Int)-((0:Nat):Int)) 1;rw[e1,e2];exact g6 _ rfl
 .have e:b=(s.heap.push { cls:=.type "range",data:=.fields #[.int lo t,.int hi u,.int 1 v] }).objs.size:=by simpa using hb
  subst e;exact I1.fpOk (bZ _)<|I1.hok.fresh (bZ _)
def ww(ta:TA):TI:=λσ H R=>ta σ H λvs H1=>∃j:Int,vs=[.int j]/\-(2^62)<=j/\j<2^62/\R (wq 0 j.toNat) H1
def wx(ta:TA):TI:=λσ H R=>ta σ H λvs H1=>∃i j:Int,vs=[.int i,.int j]/\(-(2^62)<=i/\i<2^62/\-(2^62)<=j/\j<2^62)/\R (wq i (j-i).toNat) H1
theorem lZ{a:Expr}{ta:TA}(hg:Gl X "range")(hm:X.mg "range" = none)(ha:PA X [a] ta)(hs:{starEach [a] X.env=[(false,eval a X.env)]}):PI X tg (.Call (.Name "range" p) [a] [] pos) (ww ta):=by
 intro E1 s σ H R I h;refine Call_<|eL I hg hm boot_range (PyProof.Rows.callWith_type1 (bO (ha pos E1 s σ H _ I h) λus s1 ⟨vs,H1,I1,r1,q1⟩=>?_) hs rfl);obtain⟨j,e,q1,q2,q⟩:=q1;subst e;cases r1 with
 |cons r rr=>cases rr;obtain⟨t,rfl⟩:=r;exact call_range_1<|jZ I1 E8 E8 q1 q2 (by simpa using q)
theorem l3{a b:Expr}{ta:TA}(hg:Gl X "range")(hm:X.mg "range" = none)(ha:PA X [a,b] ta)(hs:{starEach [a,b] X.env=[(false,eval a X.env),(false,eval b X.env)]})(hs2:{starEach [b] X.env=[(false,eval b X.env)]}) :
  PI X tg (.Call (.Name "range" p) [a,b] [] pos) (wx ta):=by
 intro E1 s σ H R I h;refine Call_<|eL I hg hm boot_range (PyProof.Rows.callWith_type1 (bO (ha pos E1 s σ H _ I h) λus s1 ⟨vs,H1,I1,r1,q1⟩=>?_) (by rw[hs,hs2]) (by rw[hs2];rfl));obtain⟨i,j,e,⟨q1,q2,q3,q4⟩,q⟩:=q1;subst e;cases r1 with
 |cons r rr=>
  cases rr with
  |cons r' rr=>
   cases rr;obtain⟨t,rfl⟩:=r;obtain⟨t',rfl⟩:=r';exact call_range_2<|jZ I1 q1 q2 q3 q4 q
def CA(wi:TI)(g:TG)(tb:TS):TS:=λD σ H=>wi σ H λJ H1=>∃W:Nat->Nat->St->Hp->Prop,(∃m,W 0 m σ H1)/\∀i m σ H,W i m σ H->
 (J.stop i H/\D.nx σ H)\/(J.go i H/\∃N:St->Hp->Prop,(∀σ' H',N σ' H'->∃m',m'<m/\W (i+1) m' σ' H')/\∀x H',J.yld i H x H'->g x σ H' λσ2 H2=>tb { D with nx:=N,ct:=N,bk:=D.nx } σ2 H2)
def hV(fp:List Addr)(h:Heap):K8:=fp.filterMap λb=>(h.get? b).map λo=>(b,o)
theorem d9{o:Obj}(hb:b∈fp)(e:h.get? b=some o):(b,o)∈hV fp h:=Yaz.mpr ⟨b,hb,by rw[e];rfl⟩
theorem l4{p:Addr×Obj}(hp:p∈hV fp h):p.1∈fp/\h.get? p.1=some p.2:=by
 obtain⟨b,hb,e⟩:=Yaz.mp hp;cases q:h.get? b with
 |none=>rw[q]at e;cases e
 |some o=>rw[q]at e;have e':(b,o)=p:=Qk e;subst e';exact⟨hb,q⟩
theorem Inv.pinned(I:Inv X E1 σ H s)(hf:∀b∈fp,fO X E1 H b)(ho:∀b∈fp,∃o,s.heap.get? b=some o/\∀v,o.data≠.cell v):Inv X (E1++hV fp s.heap) σ H s:=
 I.pins_of λp hp=>(Yao.mp hp).elim (λz=>I.pin p<|kI _ z) λz=>by
  obtain⟨hb,e⟩:=l4 z;obtain⟨f0,f1,f2,_⟩:=hf p.1 hb;obtain⟨o,e',d⟩:=ho p.1 hb;rw[e]at e';cases e';exact⟨e,f0,f1,f2,d⟩
theorem Inv.unpinned{pl:K8}(I:Inv X (E1++pl) σ H s):Inv X E1 σ H s:=I.pins_of λp hp=>I.pin p<|kI _ (u9 _ hp)
theorem pp{iter:Expr}{wi:TI}{g:TG}{tb:TS}(hp:PassesOwn (model X.prog X.w) X.A X.env X.xe)(hc:X.calm=true)(hi:PI X tg iter wi)(hg:PG X tg g)(hb:lX X body tb)
  (hs:autoParam (∀x,foldedSetIterable iter X.env x=pure x) Rj._auto_1):PS X (.For tg iter body [] pos) (CA wi g tb):=by
 intro E1 s σ H D I h;refine wpAny_For (bO (hi E1 s σ H _ I h) λv s1 h1=>bO h1 λitv s2 h2=>?_) hs;obtain⟨it,fp,tn,J,H2,e,I2,T,st2,f2,W,⟨m0,w0⟩,turn⟩:=h2;subst e
 have stat:∀{H':Hp},(∀b∈fp,H' b=none)->∀b∈fp,fO X E1 H' b:=λhn b hb=>⟨hn b hb,(f2 b hb).2⟩;refine codeAny_forLoop_any (λn s'=>∃i σ' H',Inv X E1 σ' H' s'/\tn i s'.heap/\(∀b∈fp,H' b=none)/\W i n σ' H') ?_ m0 ⟨0,σ,H2,I2,st2,λb hb=>(f2 b hb).1,w0⟩;rintro n s3 ⟨i,σ3,H3,I3,st3,fr3,w3⟩;rcases turn i n σ3 H3 w3 with⟨stop,qn⟩|⟨go,N,hN,step⟩
 .refine QG hp (bO (T.done X rfl rfl rfl hc i E1 s3 σ3 H3 X.xe I3 (stat fr3) st3 stop) λr s4 ⟨hr,I4⟩=>?_)
  subst hr;exact QJ ⟨σ3,H3,I4,qn⟩
 .refine QG hp (bO (T.item X rfl rfl rfl hc i E1 s3 σ3 H3 X.xe I3 (stat fr3) st3 go) λr s4 ⟨u,hr,h4⟩=>?_)
  subst hr;refine QG hp<|bO h4 λ_ s5 z0=>?_;obtain⟨x,H5,I5,r5,y5,st5,fr5⟩:=z0;have I5':=I5.pinned (stat fr5)<|T.obj _ _ st5;refine QG hp<|bO (hg _ s5 σ3 H5 x u _ I5' r5<|step x H5 y5) λ_ s6 ⟨σ6,H6,I6,q6⟩=>?_;refine QG hp<|bO (hb _ s6 σ6 H6 _ I6 q6) λf s7 q7=>?_;have again:∀{σ7:St} {H7:Hp},Inv X (E1++hV fp s5.heap) σ7 H7 s7->N σ7 H7->∃m,m<n/\∃i σ' H',Inv X E1 σ' H' s7/\tn i s7.heap/\(∀b∈fp,H' b=none)/\W i m σ' H':=λ{σ7 H7} I7 n7=>by
   obtain⟨m',hm,w7⟩:=hN σ7 H7 n7;refine⟨m',hm,i+1,σ7,H7,I7.unpinned,T.keep _ _ _ st5 λb hb o e=>(I7.pin (b,o)<|kI _<|kI _<|d9 hb e).1,λb hb=>?_,w7⟩;obtain⟨o,e,d⟩:=T.obj _ _ st5 b hb;exact(I7.pin (b,o)<|kI _<|kI _<|d9 hb e).2.1
  cases f with
  |next=>obtain⟨σ7,H7,I7,n7⟩:=q7;exact again I7 n7
  |cont=>obtain⟨σ7,H7,I7,n7⟩:=q7;exact again I7 n7
  |brk=>obtain⟨σ7,H7,I7,q7⟩:=q7;exact⟨σ7,H7,I7.unpinned,q7⟩
  |ret v=>obtain⟨x7,σ7,H7,I7,r7,q7⟩:=q7;exact⟨x7,σ7,H7,I7.unpinned,r7,q7⟩
end
abbrev R2:=V->V->Hp->VK->Prop
variable{r r':R2}
def OpR(X:Cx)(f:Value->Value->Sem Value)(r:R2):Prop:=
 ∀(E1:K8) (s:Shared) (σ:St) (H:Hp) (x y:V) (v u:Value) (Q:VK),Inv X E1 σ H s->RelV x v->RelV y u->r x y H Q->
  wpAny (model X.prog X.w) X.A (f v u) (EP X E1 σ Q) X.xe s
def z9(X:Cx)(f:Value->Sem Value)(r:V->Hp->VK->Prop):Prop:=
 ∀(E1:K8) (s:Shared) (σ:St) (H:Hp) (x:V) (v:Value) (Q:VK),Inv X E1 σ H s->RelV x v->r x H Q->
  wpAny (model X.prog X.w) X.A (f v) (EP X E1 σ Q) X.xe s
def eM(X:Cx)(f:Value)(r:Rg->Hp->VK->Prop):Prop:=
 ∀(E1:K8) (s:Shared) (σ:St) (H:Hp) (xs:Rg) (us:QX) (Q:VK),Inv X E1 σ H s->Vals xs us->r xs H Q->
  wpAny (model X.prog X.w) X.A (call f us) (EP X E1 σ Q) X.xe s
def CB(X:Cx)(r:V->Hp->(Bool->Hp->Prop)->Prop):Prop:=
 ∀(E1:K8) (s:Shared) (σ:St) (H:Hp) (x:V) (v:Value) (Q:Bool->Hp->Prop),Inv X E1 σ H s->RelV x v->r x H Q->
  wpAny (model X.prog X.w) X.A (truthy v) (TP X E1 σ Q) X.xe s
def Aa(r:R2)(ta tb:TE):TE:=λσ H Q=>ta σ H λx H1=>tb σ H1 λy H2=>r x y H2 Q
def JS(r:V->Hp->VK->Prop)(ta:TE):TE:=λσ H Q=>ta σ H λx H1=>r x H1 Q
def rI(C:Int->Int->Prop)(g:Int->Int->V):R2:=λx y H Q=>∃i j,x=.int i/\y=.int j/\C i j/\Q (g i j) H
def qI(g:Int->Int->V):R2:=λx y H Q=>∃i j,x=.int i/\y=.int j/\Q (g i j) H
def rU(g:Int->V):V->Hp->VK->Prop:=λx H Q=>∃i,x=.int i/\Q (g i) H
section
variable{a b:Expr}{tb tc:TE}
theorem tS(ha:PE X a ta)(hb:PE X b tb){R:V->V->Hp->Prop}(I:Inv X E1 σ H s)
  (h:ta σ H λx H1=>tb σ H1 λy H2=>R x y H2)
  (hf:∀v u s2 x y H2,Inv X E1 σ H2 s2->RelV x v->RelV y u->R x y H2->wpAny (model X.prog X.w) X.A (f v u) Q X.xe s2) :
  wpAny (model X.prog X.w) X.A (eval a X.env) (λv s₁=>wpAny (model X.prog X.w) X.A (eval b X.env) (λu s₂=>wpAny (model X.prog X.w) X.A (f v u) Q X.xe s₂) X.xe s₁) X.xe s:=by
 refine bO (ha E1 s σ H _ I h) λv s1 ⟨x,H1,I1,r1,q1⟩=>?_;refine bO (hb E1 s1 σ H1 _ I1 q1) λu s2 ⟨y,H2,I2,r2,q2⟩=>?_;exact hf v u s2 x y H2 I2 r1 r2 q2
theorem rL{op:Operator}(ho:OpR X (binaryOp op) r)(ha:PE X a ta)(hb:PE X b tb):PE X (.BinOp a op b pos) (Aa r ta tb):=by intro E1 s σ H Q I h;exact wpAny_BinOp<|tS ha hb I h λv u s2 x y H2 I2 rx ry q=>ho E1 s2 σ H2 x y v u Q I2 rx ry q
theorem rM{op:UnaryOp}{r:V->Hp->VK->Prop}(ho:z9 X (unaryOp op) r)(ha:PE X a ta):PE X (.UnaryOp op a pos) (JS r ta):=by intro E1 s σ H Q I h;exact UnaryOp_<|bO (ha E1 s σ H _ I h) λv s1 ⟨x,H1,I1,r1,q1⟩=>ho E1 s1 σ H1 x v Q I1 r1 q1
theorem Ab{C:Int->Int->Prop}
  (rule:∀(i j:Int) (t u:Tok) (s:Shared) (Q:Lb) (E:Lb),C i j->Q (.int (g i j) s.toks) { s with toks:=s.toks+1 }->wpAny (model X.prog X.w) X.A (f (.int i t)<|.int j u) Q E s) :
  OpR X f (rI C λi j=>.int<|g i j):=by
 intro E1 s σ H x y v u Q I rx ry h;obtain⟨i,j,rfl,rfl,hc,q⟩:=h;obtain⟨t,rfl⟩:=rx;obtain⟨t',rfl⟩:=ry;exact rule i j t t' s _ _ hc ⟨.int<|g i j,H,I.tok _,⟨_,rfl⟩,q⟩
theorem wy
  (rule:∀(i j:Int) (t u:Tok) (s:Shared) (Q:Lb) (E:Lb),Q (.int (g i j) s.toks) { s with toks:=s.toks+1 }->wpAny (model X.prog X.w) X.A (f (.int i t)<|.int j u) Q E s) :
  OpR X f (qI λi j=>.int<|g i j):=by
 intro E1 s σ H x y v u Q I rx ry h;obtain⟨i,j,rfl,rfl,q⟩:=h;obtain⟨t,rfl⟩:=rx;obtain⟨t',rfl⟩:=ry;exact rule i j t t' s _ _ ⟨.int<|g i j,H,I.tok _,⟨_,rfl⟩,q⟩
theorem qJ{g:Int->Int->Bool}
  (rule:∀(i j:Int) (t u:Tok) (s:Shared) (Q:Lb) (E:Lb),Q (.bool<|g i j) s->wpAny (model X.prog X.w) X.A (f (.int i t)<|.int j u) Q E s) :
  OpR X f (qI λi j=>.bl<|g i j):=by
 intro E1 s σ H x y v u Q I rx ry h;obtain⟨i,j,rfl,rfl,q⟩:=h;obtain⟨t,rfl⟩:=rx;obtain⟨t',rfl⟩:=ry;exact rule i j t t' s _ _ ⟨.bl<|g i j,H,I,rfl,q⟩
def tU(i j:Int):Prop:=0<=j/\j<=1000000/\i.natAbs<2^64
theorem tV:OpR X (binaryOp .Add) (qI λi j=>.int<|i+j):=wy λ_ _ _ _ _ _ _ q=>add_int q
theorem tW:OpR X (binaryOp .Sub) (qI λi j=>.int<|i-j):=wy λ_ _ _ _ _ _ _ q=>sub_int q
theorem qK:OpR X (binaryOp .Mod) (rI (λ_ j=>j≠0) λi j=>.int<|i.fmod j):=Ab λ_ _ _ _ _ _ _ hc q=>mod_int' hc q
theorem tX:OpR X (binaryOp .Pow) (rI tU λi j=>.int<|i^j.toNat):=Ab λ_ _ _ _ _ _ _ hc q=>pow_int_small hc.1 hc.2.1 hc.2.2 q
theorem JT{f:Value->Sem Value}{g:Int->Int}
  (rule:∀(i:Int) (t:Tok) (s:Shared) (Q:Lb) (E:Lb),Q (.int (g i) s.toks) { s with toks:=s.toks+1 }->wpAny (model X.prog X.w) X.A (f<|.int i t) Q E s) :
  z9 X f (rU λi=>.int<|g i):=by
 intro E1 s σ H x v Q I rx h;obtain⟨i,rfl,q⟩:=h;obtain⟨t,rfl⟩:=rx;exact rule i t s _ _ ⟨.int<|g i,H,I.tok _,⟨_,rfl⟩,q⟩
theorem pz:z9 X (unaryOp .USub) (rU λi=>.int (-i)):=JT λ_ _ _ _ _ q=>neg_int q
end
section
variable{a b:Expr}{tb tc:TE}
theorem tY{Q:VK}{k k':Bool}(I:Inv X E1 σ H s)(q:Q (.bl k) H)(e:k=k'):EP X E1 σ Q (.bool k') s:=by subst e;exact⟨.bl k,H,I,rfl,q⟩
theorem OpR.or(h:OpR X f r)(h':OpR X f r'):OpR X f (λx y H Q=>r x y H Q\/r' x y H Q):=by
 intro E1 s σ H x y v u Q I rx ry q;rcases q with q|q
 exact h E1 s σ H x y v u Q I rx ry q;exact h' E1 s σ H x y v u Q I rx ry q
theorem pA(b:Expr)(h:(op≠.In:))(h2:(op≠.NotIn:)):behindInMarks op b=false:=by
 have e1:(op==CmpOp.In)=false:=by cases op<;>first|rfl|exact Qj rfl h
 have e2:(op==CmpOp.NotIn)=false:=by cases op<;>first|rfl|exact Qj rfl h2
 cases b<;>simp[behindInMarks,e1,e2]
theorem qL(ho:OpR X (compareOp op) r)(ha:PE X a ta)(hb:PE X b tb)(hm:behindInMarks op b=false):PE X (.Compare a [op] [b] pos) (Aa r ta tb):=by intro E1 s σ H Q I h;exact wpAny_Compare1 (tS ha hb I h λv u s2 x y H2 I2 rx ry q=>ho E1 s2 σ H2 x y v u Q I2 rx ry q) hm
def rN(t:TE):TT:=λσ H Q=>t σ H λx H'=>∃k,x=.bl k/\Q k H'
theorem qM(ho:OpR X (compareOp op) r)(ha:PE X a ta)(hb:PE X b tb)(hm:behindInMarks op b=false):PT X (.Compare a [op] [b] pos) (rN<|Aa r ta tb):=by
 intro E1 s σ H Q I h;refine wpAny_isTrue_Compare1 (bO (ha E1 s σ H _ I h) λv s1 ⟨x,H1,I1,r1,q1⟩=>bO (hb E1 s1 σ H1 _ I1 q1) λu s2 ⟨y,H2,I2,r2,q2⟩=>
  bO (ho E1 s2 σ H2 x y v u _ I2 r1 r2 q2) λc s3 ⟨z,H3,I3,r3,k,e,q3⟩=>?_) hm
 subst e;cases r3;exact Qz ⟨H3,I3,q3⟩
def pB(r r':R2)(ta tb tc:TE):TE:=λσ H Q=>ta σ H λx H1=>tb σ H1 λy H2=>r x y H2 λz H3=>∃k,z=.bl k/\
 (if k=true then tc σ H3 λw' H4=>r' y w' H4 Q else Q (.bl false) H3)
theorem pC{op':CmpOp}(ho:OpR X (compareOp op) r)(ho':OpR X (compareOp op') r')(ha:PE X a ta)(hb:PE X b tb)(hc:PE X c tc)
  (hm:autoParam (lastMarks [op,op'] [b,c]=false) Rn._auto_1):PE X (.Compare a [op,op'] [b,c] pos) (pB r r' ta tb tc):=by
 intro E1 s σ H Q I h;refine Compare_chain (bO (ha E1 s σ H _ I h) λv s1 ⟨x,H1,I1,r1,q1⟩=>chain_link (bO (hb E1 s1 σ H1 _ I1 q1) λu s2 ⟨y,H2,I2,r2,q2⟩=>
  bO (ho E1 s2 σ H2 x y v u _ I2 r1 r2 q2) λd s3 ⟨z,H3,I3,r3,k,e,q3⟩=>?_)) hm
 subst e;cases r3;refine Qz ?_;cases k with
 |false=>exact ite_ff ⟨.bl false,H3,I3,rfl,q3⟩|true=>exact ite_tt<|chain_last (bO (hc E1 s3 σ H3 _ I3 q3) λw' s4 ⟨z',H4,I4,r4,q4⟩=>ho' E1 s4 σ H4 y z' u w' Q I4 r2 r4 q4)
theorem pD{op':CmpOp}(ho:OpR X (compareOp op) r)(ho':OpR X (compareOp op') r')(ha:PE X a ta)(hb:PE X b tb)(hc:PE X c tc)
  (hm:autoParam (lastMarks [op,op'] [b,c]=false) Rn._auto_1):PT X (.Compare a [op,op'] [b,c] pos) (rN<|pB r r' ta tb tc):=by
 intro E1 s σ H Q I h;refine isTrue_chain (bO (ha E1 s σ H _ I h) λv s1 ⟨x,H1,I1,r1,q1⟩=>test_link (bO (hb E1 s1 σ H1 _ I1 q1) λu s2 ⟨y,H2,I2,r2,q2⟩=>
  bO (ho E1 s2 σ H2 x y v u _ I2 r1 r2 q2) λd s3 ⟨z,H3,I3,r3,k,e,q3⟩=>?_)) hm
 subst e;cases r3;refine Qz ?_;cases k with
 |false=>
  obtain⟨k',e',q'⟩:=q3;cases e';exact ite_ff ⟨H3,I3,q'⟩
 |true=>
  refine ite_tt<|test_last (bO (hc E1 s3 σ H3 _ I3 q3) λw' s4 ⟨z',H4,I4,r4,q4⟩=>bO (ho' E1 s4 σ H4 y z' u w' _ I4 r2 r4 q4) λd' s5 ⟨z2,H5,I5,r5,k2,e2,q5⟩=>?_);subst e2;cases r5;exact Qz ⟨H5,I5,q5⟩
def wD(K:Qh)(x:V)(H:Hp)(k:Bool):Prop:=
 match x with
 |.non=>k=false|.bl b=>k=b|.int i=>k=(i != 0)|.str y=>y.length<=sizeLine/\k=((y.length:Int) != 0)|.byt y=>y.size<=sizeLine/\k=((y.size:Int) != 0)|.ref p=>(∃xs,SqL K H p xs/\k = !xs.isEmpty)\/(∃xs,SqT K H p xs/\k = !xs.isEmpty)\/∃kvs,H p=some (.dK kvs)/\k = !kvs.isEmpty|_=>False
theorem kQ{kvs:List (κ×V)}{vs:List (κ×Value)}(r:KV kvs vs):(!vs.isEmpty) = !kvs.isEmpty:=by cases r<;>rfl
theorem hW{its:QX}(r:Vals xs its):(!its.toArray.isEmpty) = !xs.isEmpty:=by cases r<;>simp
theorem gu:(sizeLine:Nat)<2^63:=by rw[sizeLine_eq];decide
theorem tZ:CB X (λx H Q=>∃k,wD X.K x H k/\Q k H):=by
 intro E1 s σ H x v Q I rx h;obtain⟨k,e,q⟩:=h;have hl:=gu;have hs:sizeLine=16777216:=sizeLine_eq;cases x with
 |non=>cases rx;have e':k=false:=e;subst e';exact truthy_none ⟨H,I,q⟩
 |bl b=>cases rx;have e':k=b:=e;subst e';exact Qz ⟨H,I,q⟩
 |int i=>obtain⟨t,rfl⟩:=rx;have e':k=(i != 0):=e;subst e';exact PySem.P.truthy_int ⟨H,I,q⟩
 |str y=>obtain⟨t,rfl⟩:=rx;obtain⟨hy,e'⟩:y.length<=sizeLine/\k=((y.length:Int) != 0):=e;subst e';exact PySem.P.truthy_str E8 ⟨H,I.tok _,q⟩
 |byt y=>obtain⟨t,rfl⟩:=rx;obtain⟨hy,e'⟩:y.size<=sizeLine/\k=((y.size:Int) != 0):=e;subst e';exact W.truthy_bytes E8 ⟨H,I.tok _,q⟩
 |ref p=>
  cases rx;have e':(∃xs,SqL X.K H p xs/\k = !xs.isEmpty)\/(∃xs,SqT X.K H p xs/\k = !xs.isEmpty)\/∃kvs,H p=some (.dK kvs)/\k = !kvs.isEmpty:=e;rcases e' with⟨xs,hx,e'⟩|⟨xs,hx,e'⟩|⟨kvs,hx,e'⟩
  subst e';obtain⟨its,r,pl,hz⟩:=I.list hx;have hlen:=r.length;exact wpAny_truthy_list pl.isList (by simp only[fj];omega) ⟨H,I.tok _,by rw[hW r];exact q⟩;subst e';obtain⟨its,r,pl,hz⟩:=I.tuple hx;have hlen:=r.length;exact truthy_tuple pl (by simp only[fj];omega) ⟨H,I.tok _,by rw[hW r];exact q⟩;subst e';obtain⟨hz,hS,vs,r,m⟩:kvs.length<=sizeLine/\(p==sysModules)=false/\∃vs,KV kvs vs/\s.heap.DictOf (jq X.prog X.w) p vs:=I.hok p _ hx;have hlen:kvs.length=vs.length:=Paired.length r;exact wpAny_truthy_dict hS m E8 ⟨H,I.tok _,by rw[kQ r];exact q⟩
 |_=>exact(show False from e).elim
theorem pE(ha:PE X a ta)(he:∀whole,isTrue a X.env whole=(do let v <-whole;standAt a.pos;holding [v] (truthy v))) :
  PT X a (λσ H Q=>ta σ H λx H'=>∃k,wD X.K x H' k/\Q k H'):=by
 intro E1 s σ H Q I h;exact isTrue_plain (bO (ha E1 s σ H _ I h) λv s1 ⟨x,H1,I1,r1,q1⟩=>tZ E1 s1 σ H1 x v Q I1 r1 q1)<|he _
theorem fP{x:V}(r:Vals [x] us):∃u,us=[u]/\RelV x u:=by
 cases r with
 |cons r1 r2=>cases r2;exact⟨_,rfl,r1⟩
theorem lG{x y:V}(r:Vals [x,y] us):∃u w',us=[u,w']/\RelV x u/\RelV y w':=by
 cases r with
 |cons r1 r2=>
  cases r2 with
  |cons r3 r4=>cases r4;exact⟨_,_,rfl,r1,r3⟩
theorem pF:eM X (.builtin "abs") (λxs H Q=>∃i,xs=[.int i]/\Q (.int (if i<0 then -i else i)) H):=by intro E1 s σ H xs us Q I r h;obtain⟨i,rfl,q⟩:=h;obtain⟨u,rfl,t,rfl⟩:=fP r;exact call_abs_int λu tk=>⟨.int (if i<0 then -i else i),H,I.tok _,⟨_,rfl⟩,q⟩
theorem l6(hc:X.calm=true):eM X (.builtin "max") (λxs H Q=>∃i j,xs=[.int i,.int j]/\Q (.int (if j>i then j else i)) H):=by intro E1 s σ H xs us Q I r h;obtain⟨i,j,rfl,q⟩:=h;obtain⟨u,w',rfl,⟨t,rfl⟩,⟨t',rfl⟩⟩:=lG r;refine max_two_ints (I.ok.hd hc) λh' tk k=>⟨_,H,I.kept k,?_,q⟩;by_cases hj:j>i;rw[ks hj,ks hj];exact⟨_,rfl⟩;rw[fz hj,fz hj];exact⟨_,rfl⟩
theorem l7:eM X (.type "int") (λxs H Q=>(∃i,xs=[.int i]/\Q (.int i) H)\/∃k,xs=[.bl k]/\Q (.int (if k then 1 else 0)) H):=by
 intro E1 s σ H xs us Q I r h;rcases h with⟨i,rfl,q⟩|⟨k,rfl,q⟩
 obtain⟨u,rfl,t,rfl⟩:=fP r;exact call_int_int ⟨.int i,H,I,⟨_,rfl⟩,q⟩;obtain⟨u,rfl,r1⟩:=fP r;cases r1;exact call_int_bool ⟨.int (if k then 1 else 0),H,I.tok _,⟨_,rfl⟩,q⟩
end
section
variable{C:Addr}{fs:List (Str×V)}{f:Str}{v:V}{E:Lb}
theorem qN{env:Env}{f:Str}(hb:attributeBase e f env (eval e env)=eval e env)
  (h:wpAny (model prog w) A (eval e env) (λo s₁=>wpAny (model prog w) A (getAttr o f true) Q E s₁) E s):wpAny (model prog w) A (eval (.Attribute e f pos) env) Q E s:=
 Attribute_any_ h (by rw[arm_eval_Attribute,hb])
end
structure Room(k:Nat)(A:Around):Prop where
 hd:A.handled=none
 gd:A.guards=some []
 dp:A.depth+3*k+5<recursionLimit
 un:A.units+16*k+200<cLine
theorem Room.mono(r:Room k A)(h:j<=k):Room j A:=⟨r.hd,r.gd,by have:=r.dp;omega,by have:=r.un;omega⟩
theorem Room.deeper{k:Nat}{A:Around}(r:Room (k+1) A)(env:Env):Room k (A.deeper env):=
 ⟨r.hd,r.gd,by have:=r.dp;show A.depth+1+3*k+5<_;omega,by have:=r.un;show A.units+3+16*k+200<_;omega⟩
theorem kR{C:Addr}:(A.under<|.builtin "type.__call__" ⟨.ref C::us,kw⟩).depth=A.depth+1:=by first|rfl|simp[Around.under,Code.weight,Code.isCreation,Code.isGuard,Code.isCaller,Code.frames,Code.isFrame,guardIds]
theorem kS{C:Addr}:(A.under<|.builtin "type.__call__" ⟨.ref C::us,kw⟩).units=A.units+1:=by first|rfl|simp[Around.under,Code.cUnits,Code.frames,Code.isFrame]
theorem Room.make(r:Room (k+1) A)(C:Addr)(us:QX)(kw:List (Str×Value)):Room k (A.under<|.builtin "type.__call__" ⟨.ref C::us,kw⟩):=
 ⟨r.hd,by first|exact r.gd|simp[Around.under,Code.weight,Code.isCreation,Code.isGuard,Code.isCaller,Code.frames,Code.isFrame,guardIds,r.gd],by have:=r.dp;rw[kR];omega,by have:=r.un;rw[kS];omega⟩
theorem Room.depth{k:Nat}{A:Around}(r:Room k A):A.depth<recursionLimit:=by have:=r.dp;omega
theorem Room.units{k:Nat}{A:Around}(r:Room k A):A.units+64<cLine:=by have:=r.un;omega
def wE:TA:=λ_ H Q=>Q [] H
def rO(ta:TE)(tr:TA):TA:=λσ H Q=>ta σ H λx H1=>tr σ H1 λxs H2=>Q (x::xs) H2
section
theorem jy:PA X [] wE:=λ_ _ _ _ H Q I h=>Calls.spliced_nil ⟨[],H,I,.nil,h⟩
theorem gS(ha:PE X e te)(hr:PA X es t)(hs:{starEach (e::es) X.env=(false,eval e X.env)::starEach es X.env}):PA X (e::es) (rO te t):=by intro pos E1 s σ H Q I h;rw[hs];show wpAny _ _ (spliced ((false,eval e X.env)::backTo pos (starEach es X.env))) _ _ s;refine Calls.spliced_cons<|bO (ha E1 s σ H _ I h) λu s1 ⟨x,H1,I1,r1,q1⟩=>?_;exact bO (hr pos E1 s1 σ H1 _ I1 q1) λus s2 ⟨xs,H2,I2,r2,q2⟩=>⟨x::xs,H2,I2,.cons r1 r2,q2⟩
def CD(t:TA):TE:=λσ H Q=>t σ H λxs H1=>xs.length<=sizeLine/\∀p,H1 p=none->Q (.ref p) (upd H1 p<|.tup xs)
def CG(t:TA):TE:=λσ H Q=>t σ H λxs H1=>xs.length<=sizeLine/\∀p,H1 p=none->Q (.ref p) (upd H1 p<|.lst xs)
theorem t7{x1}(h:PA X es t):PE X (.Tuple es x1 pos) (CD t):=by intro E1 s σ H Q I hq;refine wpAny_Tuple_spliced<|bO (h pos E1 s σ H _ I hq) λus s1 ⟨xs,H1,I1,r,z,q⟩=>⟨by rw[<-r.length];exact z,?_⟩;have hf:H1 s1.heap.objs.size=none:=I1.hok.fresh<|bZ _;refine⟨.ref s1.heap.objs.size,upd H1 s1.heap.objs.size<|.tup xs,I1.laid (t':=s1.toks) (λb u e=>dM _ e) (bZ _) ?_,rfl,q _ hf⟩;exact⟨z,us,r,⟨_,g6 _ rfl,rfl,_,rfl⟩⟩
theorem t8(h:PA X es t):PE X (.List es pos) (CG t):=by intro E1 s σ H Q I hq;refine wpAny_List_spliced<|bO (h pos E1 s σ H _ I hq) λus s1 ⟨xs,H1,I1,r,z,q⟩=>⟨by rw[<-r.length];exact z,?_⟩;have hf:H1 s1.heap.objs.size=none:=I1.hok.fresh<|bZ _;refine⟨.ref s1.heap.objs.size,upd H1 s1.heap.objs.size<|.lst xs,I1.laid (t':=s1.toks) (λb u e=>dM _ e) (bZ _) ?_,rfl,q _ hf⟩;exact⟨z,us,0,r,g6 _ rfl⟩
end
abbrev Sp:=Rg->Hp->VK->XK->Prop
abbrev mX:=List Env->Hp->Shared->XK->Value->Shared->Prop
variable{CX:mX}
structure Env0(P:Program)(w:World)(K:Qh)(mg:QW)(base:Heap)(A:Around)(outer:List Env)(s:Shared)(H:Hp):Prop where
 frames:A.frames=some outer
 mod:Mod K mg base
 bs:∀b o,base.get? b=some o->s.heap.get? b=some o/\H b=none
 bsz:base.objs.size<=s.heap.objs.size
 funs:s.heap.FunFrames base outer
 frf:∀b∈dg outer,H b=none
 hok:HOk P w H s.heap
 bare:AllBare s.gens
 sysn:∀xs,H sysModules≠some (.lst xs)
def CE(outer:List Env)(P:Program)(w:World)(H:Hp)(s:Shared)(Q:VK)(u:Value)(s':Shared):Prop:=
 ∃v H',s'.os=s.os/\AllBare s'.gens/\Un (dg outer) [] H H' s.heap s'.heap/\HOk P w H' s'.heap/\RelV v u/\Q v H'
def CR(CX:mX)(outer:List Env)(P:Program)(w:World)(H:Hp)(s:Shared)(Q:VK)(E:XK)(r:Result)(s':Shared):Prop:=
 match r with
 |.ok (.ret u)=>CE outer P w H s Q u s'|.ok _=>False|.error e=>CX outer H s E e s'
structure eD(P:Program)(w:World)(K:Qh)(mg:QW)(base:Heap)(CX:mX)(k:Nat)(f:Addr)(fd:FuncData)(ps:Q4)(sp:Sp):Prop where
 len:∀vs H Q E,sp vs H Q E->vs.length=ps.length
 run:∀(A:Around) (outer:List Env) (s:Shared) (H:Hp) (args:Args) (us:QX) (vs:Rg) (Q:VK) (E:XK),Room k A->Env0 P w K mg base A outer s H->BindsTo s fd args (ps.zip us)->Vals vs us->sp vs H Q E->
  codeAny (model P w) A (.call (.ref f) args) (CR CX outer P w H s Q E) s
theorem Env0.make{base:Heap}(e:Env0 P w K mg base A outer s H)(C:Addr)(us:QX)(kw:List (Str×Value)) :
  Env0 P w K mg base (A.under<|.builtin "type.__call__" ⟨.ref C::us,kw⟩) outer s H:=⟨by first|exact e.frames|(simpa[Around.under,Code.envs,Code.isFrame,pushEnvs] using e.frames),e.mod,e.bs,e.bsz,e.funs,e.frf,e.hok,e.bare,e.sysn⟩
section
theorem Inv.env0(I:Inv X E1 σ H s):Env0 X.prog X.w X.K X.mg X.base X.A X.stack s H:=
 ⟨I.ok.frames,I.ok.mod,I.bs,fL I.ok.bsz I.sz,I.stack,I.stkFree,I.hok,I.bare,I.sysn⟩
theorem Inv.after{Q:VK}{u:Value}(I:Inv X E1 σ H s)(h:CE X.stack X.prog X.w H s Q u s'):EP X E1 σ Q u s':=by obtain⟨v,H',os,bare,un,hok,r,q⟩:=h;obtain⟨hh,g,d,t,os'⟩:=s';obtain rfl:os'=s.os:=os;exact⟨v,H',I.call (h':=hh) (g':=g) (d':=d) (t':=t) (ch:=[]) un hok bare<|λb z=>Qj z<|KE,r,q⟩
end
def rP(sp:Sp)(dvs:Rg)(E:XK)(t:TA):TE:=λσ H Q=>t σ H λvs H1=>sp (vs++dvs) H1 Q E
def Binds(K:Qh)(fd:FuncData)(ps:Q4)(ds:QX):Prop:=
 ∀(s:Shared) (us:QX),K.In s.heap->(us++ds).length=ps.length->BindsTo s fd ⟨us,[]⟩ (ps.zip<|us++ds)
theorem Binds.all(h:∀us:QX,us.length=ps.length->bindArgs fd ⟨us,[]⟩=pure (ps.zip us)):Binds K fd ps []:=λs us _ hl=>by rw[oS]at hl ⊢;exact .of_eq<|h us hl
def cF(CX:mX)(X:Cx)(E:XK):Prop:=∀(E1:K8) (σ:St) (H:Hp) (s:Shared) (e:Value) (s':Shared),Inv X E1 σ H s->CX X.stack H s E e s'->X.xe e s'
section
variable{f C:Addr}{sp:Sp}{dvs:Rg}{ds:QX}{E:XK}{m:Str}{apos:Pos}{o:Expr}
theorem pG{Q:VK}(F:eD X.prog X.w X.K X.mg X.base CX k f fd ps sp)(hr:Room k X.A)(hb:Binds X.K fd ps ds)(hd:Vals dvs ds)(hx:cF CX X E)
  (I:Inv X E1 σ H s) (r:Vals vs us) (h:sp (vs++dvs) H Q E):wpAny (model X.prog X.w) X.A (call (.ref f) us) (EP X E1 σ Q) X.xe s:=by
 have r2:Vals (vs++dvs) (us++ds):=r.append hd;have hl:(us++ds).length=ps.length:=by rw[<-r2.length];exact F.len _ _ _ _ h
 refine wpAny_call<|codeAny_mono (F.run X.A X.stack s H ⟨us,[]⟩ (us++ds) (vs++dvs) Q E hr I.env0 (hb s us I.kIn hl) r2 h) λr s' hq=>?_;cases r with
 |error e=>exact hx E1 σ H s e s' I hq
 |ok fl=>
  cases fl with
  |ret u=>exact I.after hq|next=>exact Qw hq|brk=>exact Qw hq|cont=>exact Qw hq
theorem lH(F:eD X.prog X.w X.K X.mg X.base CX k f fd ps sp)(hr:Room k X.A)(hg:Gl X x)(hm:X.mg x=some (.ref f))(hk:W.keepIn X.K (.ref f)=true)(hb:Binds X.K fd ps ds)(hd:Vals dvs ds)(hx:cF CX X E)
  (ha:PA X (e::es) t) (hdb:(Q7 x:)) (he:{Q9 X e es}) (hpl:{Ra X pos es}) :
  PE X (.Call (.Name x p) (e::es) [] pos) (rP sp dvs E t):=by
 intro E1 s σ H Q I h;refine QK<|eW I hg hm ?_ hdb;refine W.callWith_K (h₀:=X.base) I.ok.mod.kin hk (bO (ha pos E1 s σ H _ I h) λus s1 ⟨vs,H1,I1,r,q⟩=>⟨I1.kIn,?_⟩) he hpl;exact pG F hr hb hd hx I1 r q
end
structure cG(N P:Q4)(sc:Scope):Prop where
 kind:sc.kind=.function
 co:sc.isCoroutine=false
 gen:sc.isGenerator=false
 nd:N.Nodup
 pre:N.take P.length=P
 par:∀x∈P,sc.names.lookup x=some .local\/sc.names.lookup x=some .cell
 nofree:∀y∈sc.names,y.2≠.free
theorem i6{kindOf:Str->Option NameKind}{x:Str}:∀{binds:List (Str×Value)} {m:QW},(∀v,(x,v)∉binds)->bindL kindOf binds m x=m x
 |[],_,_=>rfl
 |(n,v)::r,m,h=>by
  unfold bindL;rw[i6 λw hw=>h w<|fM _ hw];split;have:x≠n:=by rintro rfl;exact h v gZ
  simp[this];rfl
theorem i7{kindOf:Str->Option NameKind}{x:Str}:∀{binds:List (Str×Value)} {m:QW},(∀v,(x,v)∉binds)->bindC kindOf binds m x=m x
 |[],_,_=>rfl
 |(n,v)::r,m,h=>by
  unfold bindC;rw[i7 λw hw=>h w<|fM _ hw];split;rfl;have:x≠n:=by rintro rfl;exact h v gZ
  simp[this]
theorem gv{kindOf:Str->Option NameKind}{x:Str}{v:Value}:∀{P:Q4} {vs:QX} {i:Nat} {m:QW},P.Nodup->P[i]? = some x->vs[i]? = some v->kindOf x=some .local->
  bindL kindOf (P.zip vs) m x=some v
 |[],_,_,_,_,h,_,_=>by simp at h|_::_,[],_,_,_,_,h,_=>by simp at h
 |p::P,w::vs,0,m,nd,h1,h2,hk=>by
  simp at h1 h2;subst h1;subst h2;show bindL kindOf ((p,w)::P.zip vs) m p=_;unfold bindL;rw[i6 λv hv=>(YaD.mp nd).1 (zM hv).1,ks hk];simp
 |p::P,w::vs,i+1,m,nd,h1,h2,hk=>by
  show bindL kindOf ((p,w)::P.zip vs) m x=_;unfold bindL;exact gv (i:=i) (YaD.mp nd).2 (by simpa using h1) (by simpa using h2) hk
theorem gw{kindOf:Str->Option NameKind}{x:Str}{v:Value}:∀{P:Q4} {vs:QX} {i:Nat} {m:QW},P.Nodup->P[i]? = some x->vs[i]? = some v->kindOf x≠some .local->
  bindC kindOf (P.zip vs) m x=some v
 |[],_,_,_,_,h,_,_=>by simp at h|_::_,[],_,_,_,_,h,_=>by simp at h
 |p::P,w::vs,0,m,nd,h1,h2,hk=>by
  simp at h1 h2;subst h1;subst h2;show bindC kindOf ((p,w)::P.zip vs) m p=_;unfold bindC;rw[i7 λv hv=>(YaD.mp nd).1 (zM hv).1,fz hk];simp
 |p::P,w::vs,i+1,m,nd,h1,h2,hk=>by
  show bindC kindOf ((p,w)::P.zip vs) m x=_;unfold bindC;exact gw (i:=i) (YaD.mp nd).2 (by simpa using h1) (by simpa using h2) hk
def start(N:Q4)(vs:Rg):St:=vs.map some++List.replicate (N.length-vs.length) none
noncomputable def c9(CX:mX)(P:Program)(w:World)(K:Qh)(mg:QW)(base:Heap)(N:Q4)(qual:Str)(scope:Scope)(f:Addr)(cd:Value)(A:Around)(outer:List Env)(s:Shared)(H:Hp)(E:XK):Cx where
 prog:=P
 w:=w
 K:=K
 mg:=mg
 base:=base
 A:=A.deeper<|envOfC qual scope s.heap.objs.size f cd
 N:=N
 s₀:=s
 H₀:=H
 env:=envOfC qual scope s.heap.objs.size f cd
 outer:=outer
 stack:=envOfC qual scope s.heap.objs.size f cd::outer
 ex:=[]
 calm:=true
 fn:=λ_=>true
 pn:=[]
 xe:=λe s'=>wpAny (model P w) (A.deeper<|envOfC qual scope s.heap.objs.size f cd) (leaving (envOfC qual scope s.heap.objs.size f cd) e) (λ_ s''=>CX outer H s E e s'') (λe' s''=>CX outer H s E e' s'') s'
theorem eN{sc:Scope}(h:sc.names.lookup x=some .cell):∃c,(cellsFrom n sc.names []).lookup x=some c:=by have q:=W.cellsFrom_some sc.names n []<|.inl h;exact Option.isSome_iff_exists.mp q
theorem l8{base:Heap}{f:Addr}{cd:Value}{s1:Shared}{E:XK}
  (S:cG N ps scope) (hd:A.handled=none) (e0:Env0 P w K mg base A outer s H) (hl:vs.length=ps.length) (r:Vals vs us)
  (x:InCallC s s.heap.objs.size (bindL (envOfC qual scope s.heap.objs.size f cd).kindOf (ps.zip us) λ_=>none) (cellsFrom (s.heap.objs.size+1) scope.names []) (bindC (envOfC qual scope s.heap.objs.size f cd).kindOf (ps.zip us) λ_=>none) s1) :
  Inv (c9 CX P w K mg base N qual scope f cd A outer s H E) [] (start N vs) H s1:=by
 have hpl:ps.length<=N.length:=by have:=congrArg List.length S.pre;rw[iC]at this;omega
 obtain⟨h1,tk,rfl,hk⟩:=x.done;have noA:∀b:Addr,b∉(c9 CX P w K mg base N qual scope f cd A outer s H E).ex:=λb z=>Qj (show b∈([]:List Addr) from z) KE;refine ⟨⟨e0.mod,S.kind,rfl,rfl,bZ _,λy z c h1 h2=>?_,λy hy=>?_,λy c _ h=>?_,λ_=>hd,Around.frames_deeper e0.frames,.inr ⟨rfl,rfl⟩,λb z=>Qj z<|noA b,e0.bs,e0.bsz,λb _ _=>noA b,λb z=>Qj z<|noA b,e0.funs,e0.frf,e0.sysn⟩,
  rfl,e0.bare,Un.kept hk,⟨_,x.toInCall.ns,λi y v h1 h2 h3=>?_⟩,λy c h=>⟨_,x.cell y c h⟩,e0.hok.fresh<|bZ _,λy c h=>?_,λp hp=>Qj (show p∈([]:K8) from hp)<|KE,e0.hok.kept hk,?_⟩
 .exact name_of_addr x.apart (Qp h1)<|Qp h2
 .have hy:scope.names.lookup y=some .cell\/scope.names.lookup y=some .free:=hy
  rcases hy with hy|hy
  .exact eN hy
  .exact Qj rfl<|S.nofree _ (Qp hy)
 .exact gP<|x.above y c (Qp h)
 .have hi:i<vs.length:=by
   unfold start at h2
   by_cases hi:i<vs.length
   .exact hi
   .rw[jR<|by simpa using hi]at h2
    rw[mQ]at h2;split at h2<;>cases h2
  have ha:vs[i]? = some v:=by
   unfold start at h2;rw[kJ<|by simpa using hi,cH]at h2;cases e:vs[i]? with
   |none=>rw[e]at h2;cases h2
   |some a=>rw[e]at h2;cases h2;rfl
  obtain⟨u,hu,rv⟩:=r.get ha;have hp:ps[i]? = some y:=by
   rw[<-S.pre,BN<|E8];exact h1
  have ndP:ps.Nodup:=by rw[<-S.pre];exact S.nd.sublist<|List.take_sublist _ _
  refine⟨u,rv,?_⟩;rcases S.par y (iD hp) with k|k
  .exact .inl ⟨k,gv ndP hp hu k⟩
  .obtain⟨c,e⟩:=eN (n:=s.heap.objs.size+1) k
   refine .inr ⟨.inl k,c,e,?_⟩;have q:=x.cell y c e;rw[gw ndP hp hu (by show scope.names.lookup y≠_;rw[k];decide)]at q;exact q
 .exact e0.hok.fresh<|gP (x.above y c<|Qp h)
 .unfold start
  show _=N.length;rw[fN,bH,qv];omega
theorem pH{base:Heap}{f:Addr}{params:Arguments}{dV kV doc pm cdv ct oc:Value}{an od:Option Addr}
 {sp:Sp} (lk:K.lookup f=some ⟨oc,od,.func<|W.fnOf name qual params body scope dV kV doc pm an cdv ct,osl⟩) (hcd:W.codeIn K cdv qual=true) (S:cG N ps scope)
  (len:∀vs H Q E,sp vs H Q E->vs.length=ps.length)
  (hbody:∀ (A:Around) (outer:List Env) (s:Shared) (H:Hp) (vs:Rg) (Q:VK) (E:XK),Room k (A.deeper<|envOfC qual scope s.heap.objs.size f cdv)->sp vs H Q E->
   ∃t,lX (c9 CX P w K mg base N qual scope f cdv A outer s H E) body t/\t { nx:=λ_ H'=>Q .non H',rt:=Q } (start N vs) H) :
  eD P w K mg base CX (k+1) f (W.fnOf name qual params body scope dV kV doc pm an cdv ct) ps sp:=by
 refine⟨len,λA outer s H args us vs Q E hr e0 hb r hsp=>?_⟩;have hl:=len _ _ _ _ hsp;have KX:K.In s.heap:=e0.mod.kin.keeps λb o e=>(e0.bs b o e).1;have lim:s.heap.NoLimit:=e0.mod.nolimit.keeps λb o e=>(e0.bs b o e).1;have hkind:∀y∈ps.zip us,scope.names.lookup y.1=some .local\/(scope.names.lookup y.1=some .cell/\((cellsFrom (s.heap.objs.size+1) scope.names []).lookup y.1).isSome=true):=λ⟨n,v⟩ hy=>by
  rcases S.par n (zM hy).1 with q|q
  .exact .inl q
  .exact .inr ⟨q,W.cellsFrom_some _ _ _<|.inl q⟩
 refine codeAny_call_function hr.depth (KX _ _ lk) rfl S.co S.gen rfl (W.codeRec_of KX hcd)<|hb _ _ _ _ ?_;refine wpAny_newFunctionEnv_cells S.kind hkind λenv he s1 x=>?_;subst he;refine⟨lim.keeps x.toInCall.keep,codeAny_func ?_⟩;obtain⟨t,ht,hq⟩:=hbody A outer s H vs Q E (hr.deeper _) hsp;have I:Inv (c9 CX P w K mg base N qual scope f cdv A outer s H E) [] (start N vs) H s1:=l8 S hr.hd e0 hl r x;refine Qv (ht [] s1 (start N vs) H _ I hq) (λfl s' hs=>?_) λe s' hs=>hs;have fin:∀{σ':St} {H':Hp} {v:V} {u:Value},Inv (c9 CX P w K mg base N qual scope f cdv A outer s H E) [] σ' H' s'->RelV v u->Q v H'->CE outer P w H s Q u s':=
  λ{σ' H' v u} J rv q=>⟨v,H',J.os,J.bare,J.base,J.hok,rv,q⟩
 cases fl with
 |ret u=>
  obtain⟨v,σ',H',J,rv,q⟩:=hs;exact fin J rv q
 |next=>
  obtain⟨σ',H',J,q⟩:=hs;exact fin (v:=V.non) (u:=Value.none) J rfl q
 |brk=>
  obtain⟨_,_,_,q⟩:=hs;exact Qw q
 |cont=>
  obtain⟨_,_,_,q⟩:=hs;exact Qw q
section
variable{id T:String}{r:Rg->Hp->VK->Prop}
def Fu(r:Rg->Hp->VK->Prop)(t:TA):TE:=λσ H Q=>t σ H λvs H1=>r vs H1 Q
theorem pI(hc:eM X (.builtin id) r)(hg:Gl X x)(hm:X.mg x=none)(hv:bootBuiltins x=some (.builtin id))(ha:PA X (e::es) t)(hn:(x≠ "__name__":))(hdb:(Q7 x:))
  (he:{Q9 X e es}) (hpl:{Ra X pos es}):PE X (.Call (.Name x p) (e::es) [] pos) (Fu r t):=by
 intro E1 s σ H Q I h;refine QK<|eL I hg hm hv ?_ hn hdb;exact PyProof.Rows.callWith_builtin1 (bO (ha pos E1 s σ H _ I h) λus s1 ⟨vs,H1,I1,r1,q1⟩=>hc E1 s1 σ H1 vs us Q I1 r1 q1) he hpl
theorem i8(hc:eM X (.type T) r)(hg:Gl X x)(hm:X.mg x=none)(hv:bootBuiltins x=some (.type T))(ha:PA X (e::es) t)(hn:(x≠ "__name__":))(hdb:(Q7 x:))
  (he:{Q9 X e es}) (hpl:{Ra X pos es}):PE X (.Call (.Name x p) (e::es) [] pos) (Fu r t):=by
 intro E1 s σ H Q I h;refine QK<|eL I hg hm hv ?_ hn hdb;exact PyProof.Rows.callWith_type1 (bO (ha pos E1 s σ H _ I h) λus s1 ⟨vs,H1,I1,r1,q1⟩=>hc E1 s1 σ H1 vs us Q I1 r1 q1) he hpl
end
end L2
namespace HT
open PySem PyProof.Rows
section
variable{prog:Program}{w:World}{A:Around}{E:Lb}{s:Shared}
theorem cat_tup{t b:Addr}{vs ws:QX}{Q:Lb}(ht:IsTup s.heap t vs.toArray)(hb:IsTup s.heap b ws.toArray)(hv:vs≠[])
  (h1:ws=[]->Q (.ref t) s) (h2:ws≠[]->Q (.ref s.heap.objs.size) { s with heap:=s.heap.push { cls:=.type "tuple",data:=.seq (vs++ws).toArray } })
  (hsz:vs.length+ws.length<=sizeLine):wpAny (model prog w) A (binaryOp .Add (.ref t)<|.ref b) Q E s:=by
 obtain⟨⟨cls,dd,data,sl⟩,ho,hc,n,hd⟩:=id ht;obtain⟨⟨cls2,dd2,data2,sl2⟩,ho2,hc2,n2,hd2⟩:=id hb;simp only at hc hd hc2 hd2;subst hc hd hc2 hd2;have e:vs.toArray++ws.toArray=(vs++ws).toArray:=KE
 by_cases hw:ws=[]
 .exact concat_meets ⟨_,ho,rfl⟩ ⟨_,ho2,rfl⟩ noFill_tuple_add seq_tuple_add F.slot_tuple_add F.entry_tuple_add (F.args_tuple_add_2 _ _)
   (tuple_addW1 t b vs.toArray ws.toArray n n2 dd dd2 sl sl2 (by simpa using hv)<|by simp[hw]) ⟨ho,ho2,h1 hw⟩
 .refine concat_meets ⟨_,ho,rfl⟩ ⟨_,ho2,rfl⟩ noFill_tuple_add seq_tuple_add F.slot_tuple_add F.entry_tuple_add (F.args_tuple_add_2 _ _)
   (tuple_addW2 t b vs.toArray ws.toArray n n2 dd dd2 sl sl2 (by simpa using hv) (by simpa using hw) (by rw[fj,fj];exact hsz)) ⟨ho,ho2,?_⟩
  rw[e];exact h2 hw
def sIx(n d:Nat):Option Int->Nat
 |none=>d|some v=>if v<0 then(v+(n:Int)).toNat else min v.toNat n
theorem sIx_none(n d:Nat):sIx n d none=d:=rfl
theorem sIx_nat(n d k:Nat):sIx n d (some (k:Int))=min k n:=by show(if(k:Int)<0 then((k:Int)+(n:Int)).toNat else min (k:Int).toNat n)=min k n;rw[fz<|E8,jS]
theorem t9(n d:Nat)(hd:d<=n)(o:Option Int):sIx n d o<=n:=by
 cases o with
 |none=>exact hd|some v=>show(if v<0 then(v+(n:Int)).toNat else min v.toNat n)<=n;by_cases hv:v<0;rw[ks hv];omega;rw[fz hv];exact Nat.min_le_right _ _
theorem lJ(v:Int)(n d:Nat):(if v<0 then max (v+(n:Int)) 0 else min v (n:Int))=((sIx n d (some v):Nat):Int):=by show(if v<0 then max (v+(n:Int)) 0 else min v (n:Int))=(((if v<0 then(v+(n:Int)).toNat else min v.toNat n):Nat):Int);by_cases hv:v<0;simp only[ks hv];omega;simp only[fz hv];omega
theorem kT(lo hi:Option Int)(n:Nat):Builtin.Slice.sliceAdjust lo hi 1 (n:Int)=(((sIx n 0 lo:Nat):Int),((sIx n n hi:Nat):Int)):=by
 have h1:¬((1:Int)<0):=E8
 unfold Builtin.Slice.sliceAdjust;simp only[h1,if_false];refine Prod.ext ?_ ?_;cases lo with
 |none=>rfl|some v=>exact lJ v n 0
 cases hi with
 |none=>rfl|some v=>exact lJ v n n
theorem kU(i j:Nat):Builtin.Slice.slicePlaces (i:Int) (j:Int) 1=j-i:=by
 unfold Builtin.Slice.slicePlaces;have h1:(1:Int)>0:=E8
 simp only[h1,if_true,Int.ediv_one];split<;>omega
theorem hX{v:Value}{o:Option Int}{Q:Option Int->Shared->Prop}(p:IsPart v o)(h:Q o s):wpAny (model prog w) A (Builtin.Slice.slicePartIndex v) Q E s:=by
 cases p with
 |none=>exact slicePart_none h|int i t=>exact slicePart_int h
theorem dY{sl:Addr}{vl vu:Value}{lo hi:Option Int}{n:Nat}{Q:Int×Int×Nat->Shared->Prop}(hs:s.heap.IsSliceOf sl vl vu .none)(pl:IsPart vl lo)(pu:IsPart vu hi)
  (h:Q (((sIx n 0 lo:Nat):Int),1,sIx n n hi-sIx n 0 lo) s):wpAny (model prog w) A (Builtin.Slice.sliceApplied (.ref sl)<|pure (n:Int)) Q E s:=by
 obtain⟨os,hos,hcs,hds⟩:=id hs;unfold Builtin.Slice.sliceApplied Builtin.Slice.sliceFields;refine Qg<|Qg (Qs hos hds (x:=vl) rfl<|Qg<|Qs hos hds (x:=vu) rfl<|Qg<|Qs hos hds (x:=.none) rfl<|Qi ?_);refine Qg<|slicePart_none ?_;show wpAny _ _ (if((1:Int)==0)=true then _ else _) _ _ s;rw[fz<|F4];refine Qg<|hX pl (Qg<|hX pu<|Qg<|Qi ?_);show wpAny _ _ (match Builtin.Slice.sliceAdjust lo hi 1 (n:Int) with|(lo,hi)=>pure (lo,(1:Int),Builtin.Slice.slicePlaces lo hi 1)) _ _ s;rw[kT lo hi n];show wpAny _ _ (pure (((sIx n 0 lo:Nat):Int),(1:Int),Builtin.Slice.slicePlaces ((sIx n 0 lo:Nat):Int) ((sIx n n hi:Nat):Int) 1)) _ _ s;rw[kU];exact Qi h
theorem pJ(xs:Array Value)(i k:Nat):((List.range k).filterMap λ(m:Nat)=>xs[((i:Int)+(m:Int)*1).toNat]?).toArray=((xs.toList.drop i).take k).toArray:=by
 have e:(λ(m:Nat)=>xs[((i:Int)+(m:Int)*1).toNat]?)=λm=>xs[i+m]?:=by
  funext m;have:((i:Int)+(m:Int)*1).toNat=i+m:=E8
  rw[this]
 rw[e];have:=pick_run xs i k;rw[List.filterMap_map]at this;have e2:((λx=>xs[x]?)∘λx=>i+x)=λm=>xs[i+m]?:=rfl;rw[e2]at this;rw[this]
theorem getItem_tuple_cut{t sl:Addr}{items:Array Value}{vl vu:Value}{lo hi:Option Int}{Q:Lb}(ht:IsTup s.heap t items)(hs:s.heap.IsSliceOf sl vl vu .none)(pl:IsPart vl lo)(pu:IsPart vu hi)
  (hw:¬(sIx items.size 0 lo=0/\sIx items.size items.size hi=items.size))
  (h:Q (.ref s.heap.objs.size) { s with heap:=s.heap.push { cls:=.type "tuple",data:=.seq ((items.toList.drop<|sIx items.size 0 lo).take<|sIx items.size items.size hi-sIx items.size 0 lo).toArray } })
  (hsz:items.size<=sizeLine):wpAny (model prog w) A (getItem (.ref t)<|.ref sl) Q E s:=by
 have htake:sizeOk (.seq ((items.toList.drop<|sIx items.size 0 lo).take<|sIx items.size items.size hi-sIx items.size 0 lo).toArray):=by
  show((items.toList.drop<|sIx items.size 0 lo).take<|sIx items.size items.size hi-sIx items.size 0 lo).toArray.size<=sizeLine;rw[fj,iC,lx,zK];omega
 have hj:sIx items.size items.size hi<=items.size:=t9 _ _ (bZ _) hi;obtain⟨os,hos,hcs,hds⟩:=id hs;have hTs:s.TypeIs (.ref sl) "slice" :=⟨os,hos,hcs⟩
 unfold getItem
 try with_reducible refine Qy ?_
 first|refine Qg (Qi ?_)|skip
 refine Qg<|wpAny_sequenceKey ht.typeIs F4 ?_;refine Qg (wpAny_callSpecial?_slot (name:=Str.ofString "__getitem__") ht.typeIs PyProof.Rows.slot_tuple_getitem
  (QD PyProof.Rows.slot_tuple_getitem ht.typeIs entry_tuple_getitem ?_<|args_tuple_getitem _ _))
 show wpAny _ _ (Builtin.Tuple.tupleItemsOf (.ref t) >>= _) _ _ s;refine Qg<|tupleItemsOf_ ht ?_;refine Qg<|QS hTs ?_;rw[ks<|F4];refine Qg<|dY hs pl pu ?_;have hno:¬((((sIx items.size 0 lo:Nat):Int)==0&&(1:Int)==1&&(sIx items.size items.size hi-sIx items.size 0 lo)==items.size)=true):=by
  intro q;rw[dX,dX]at q;have q1:((sIx items.size 0 lo:Nat):Int)=0:=eq_of_beq q.1.1;have q2:sIx items.size items.size hi-sIx items.size 0 lo=items.size:=eq_of_beq q.2;exact hw ⟨E8,E8⟩
 show wpAny _ _ (if(((sIx items.size 0 lo:Nat):Int)==0&&(1:Int)==1&&(sIx items.size items.size hi-sIx items.size 0 lo)==items.size)=true then _ else _) _ _ s;rw[fz hno,pJ]
 first
  |exact Qg (m:=Builtin.Tuple.tupleExact _)<|Qu (Qi ⟨_,rfl,Qi h⟩) htake
  |exact Qg (m:=Builtin.Tuple.tupleExact _)<|Qu (Qg<|Qi<|Qi ⟨_,rfl,Qi h⟩) htake
  |exact Qg<|Qg (m:=Builtin.Tuple.tupleExact _) (Qu (Qi<|Qi ⟨_,rfl,Qi h⟩) htake)
  |exact Qg<|Qg (m:=Builtin.Tuple.tupleExact _) (Qu (Qi ⟨_,rfl,Qi h⟩) htake)
end
end HT
namespace L2
open PySem PySem.Spec PyProof.Rows
variable{X:Cx}{e:Expr}{pos:Pos}{r:V->Option Int->Option Int->Hp->VK->Prop}{xs:Rg}{n j t':Nat}{i:Int}{E1:K8}{σ:St}{H:Hp}{s:Shared}{its':QX}{f:Array Value->Array Value}{A:Around}{x:V}{T:String}
abbrev TO:=St->Hp->(Option Int->Hp->Prop)->Prop
def PO(X:Cx)(e:Option Expr)(t:TO):Prop:=
 ∀(E1:K8) (s:Shared) (σ:St) (H:Hp) (Q:Option Int->Hp->Prop),Inv X E1 σ H s->t σ H Q->
  wpAny (model X.prog X.w) X.A (evalPart e X.env) (λu s'=>∃o H',Inv X E1 σ H' s'/\IsPart u o/\Q o H') X.xe s
def qO:TO:=λ_ H Q=>Q none H
def wG(t:TE):TO:=λσ H Q=>t σ H λx H1=>∃i,x=.int i/\Q (some i) H1
section
variable{te:TE}{lo hi:Option Expr}{tl th:TO}{p2:Pos}
theorem qP:PO X none qO:=by intro E1 s σ H Q I h;rw[evalPart_none];exact Qi ⟨none,H,I,.none,h⟩
theorem qQ(h:PE X e te):PO X (some e) (wG te):=by intro E1 s σ H Q I hw;rw[evalPart_some];refine bO (h E1 s σ H _ I hw) λu s1 ⟨x,H1,I1,r1,q1⟩=>?_;obtain⟨i,rfl,q⟩:=q1;obtain⟨t,rfl⟩:=r1;exact⟨some i,H1,I1,.int i t,q⟩
def SlR(X:Cx)(r:V->Option Int->Option Int->Hp->VK->Prop):Prop:=
 ∀(E1:K8) (s:Shared) (σ:St) (H:Hp) (x:V) (v vl vu:Value) (lo hi:Option Int) (sl:Addr) (Q:VK),Inv X E1 σ H s->RelV x v->s.heap.IsSliceOf sl vl vu .none->IsPart vl lo->IsPart vu hi->r x lo hi H Q->
  ∃T id,typeLookup (.type T) "__getitem__" = pure (some<|.builtin id)/\s.TypeIs v T/\wpAny (model X.prog X.w) X.A (getItem v<|.ref sl) (EP X E1 σ Q) X.xe s
theorem SlR.or{r':V->Option Int->Option Int->Hp->VK->Prop}(h:SlR X r)(h':SlR X r'):SlR X (λx lo hi H Q=>r x lo hi H Q\/r' x lo hi H Q):=by
 intro E1 s σ H x v vl vu lo hi sl Q I rx hs pl pu q;rcases q with q|q
 exact h E1 s σ H x v vl vu lo hi sl Q I rx hs pl pu q;exact h' E1 s σ H x v vl vu lo hi sl Q I rx hs pl pu q
def JU(r:V->Option Int->Option Int->Hp->VK->Prop)(te:TE)(tl th:TO):TE:=λσ H Q=>te σ H λx H1=>tl σ H1 λl H2=>th σ H2 λu H3=>r x l u H3 Q
theorem j0(hr:SlR X r)(he:PE X e te)(hl:PO X lo tl)(hu:PO X hi th):PE X (.Subscript e (.Slice lo hi none p2) pos) (JU r te tl th):=by intro E1 s σ H Q I h;refine Subscript_<|bO (he E1 s σ H _ I h) λv s1 ⟨x,H1,I1,r1,q1⟩=>?_;refine wpAny_Slice<|bO (hl E1 s1 σ H1 _ I1 q1) λvl s2 ⟨l,H2,I2,pl,q2⟩=>bO (hu E1 s2 σ H2 _ I2 q2) λvu s3 ⟨u,H3,I3,pu,q3⟩=>?_;rw[evalPart_none];refine Qi ?_;have I4:Inv X E1 σ H3 { s3 with heap:=s3.heap.push { cls:=.type "slice",data:=.fields #[vl,vu,.none] } }:=I3.kept (t':=s3.toks) λb ob q=>dM _ q;obtain⟨T,id,hT,ht,hg⟩:=hr E1 { s3 with heap:=s3.heap.push { cls:=.type "slice",data:=.fields #[vl,vu,.none] } } σ H3 x v vl vu l u s3.heap.objs.size Q I4 r1 (Heap.IsSliceOf.new ..) pl pu q3;show wpAny (model X.prog X.w) X.A (subscriptTail e (.Slice lo hi none p2) v<|.ref s3.heap.objs.size) (EP X E1 σ Q) X.xe { s3 with heap:=s3.heap.push { cls:=.type "slice",data:=.fields #[vl,vu,.none] } };exact tail_any (ops:=[.ref s3.heap.objs.size,v]) ht hT hg (by with_unfolding_all rfl)
def j3(xs:Rg)(lo hi:Option Int):Rg:=(xs.drop<|HT.sIx xs.length 0 lo).take<|HT.sIx xs.length xs.length hi-HT.sIx xs.length 0 lo
theorem gE(xs:Rg)(lo hi:Option Int):(j3 xs lo hi).length<=xs.length:=by unfold j3;rw[iC,lx];omega
def CH(K:Qh):V->Option Int->Option Int->Hp->VK->Prop:=λx lo hi H Q=>∃a xs,x=.ref a/\SqT K H a xs/\
 ¬(HT.sIx xs.length 0 lo=0/\HT.sIx xs.length xs.length hi=xs.length)/\∀p,H p=none->Q (.ref p) (upd H p<|.tup<|j3 xs lo hi)
theorem sl_tup:SlR X (CH X.K):=by
 intro E1 s σ H x v vl vu lo hi sl Q I rx hs pl pu h;obtain⟨a,xs,rfl,hx,hw,q⟩:=h;cases rx;obtain⟨its,r,ht,hz⟩:=I.tuple hx;have hlen:its.toArray.size=xs.length:=by rw[fj];exact r.length.symm
 refine⟨"tuple",_,PyProof.Rows.slot_tuple_getitem.lookup,ht.typeIs,?_⟩;refine HT.getItem_tuple_cut ht hs pl pu (by rw[hlen];exact hw) ?_ (by rw[hlen];exact hz);rw[hlen];refine⟨.ref s.heap.objs.size,_,I.laid (t':=s.toks) (o:=.tup<|j3 xs lo hi) (λb ob q=>dM _ q) (bZ _) ?_,rfl,q _<|I.hok.fresh<|bZ _⟩;exact⟨fL (gE xs lo hi) hz,_,(r.drop<|HT.sIx xs.length 0 lo).take<|HT.sIx xs.length xs.length hi-HT.sIx xs.length 0 lo,IsTup.new _ _⟩
def wH(K:Qh):R2:=λx y H Q=>∃a b xs ys,x=.ref a/\y=.ref b/\SqT K H a xs/\SqT K H b ys/\xs≠[]/\xs.length+ys.length<=sizeLine/\
 (ys=[]->Q (.ref a) H)/\(ys≠[]->∀p,H p=none->Q (.ref p) (upd H p<|.tup<|xs++ys))
theorem Vals.nil_iff{us:QX}(r:Vals xs us):us=[]↔xs=[]:=by
 cases r with
 |nil=>simp|cons _ _=>simp
theorem qR:OpR X (binaryOp .Add) (wH X.K):=by intro E1 s σ H x y v u Q I rx ry h;obtain⟨a,b,xs,ys,rfl,rfl,ha,hb,hx,hz,q1,q2⟩:=h;cases rx;cases ry;obtain⟨its,r1,p1,_⟩:=I.tuple ha;obtain⟨its2,r2,p2,_⟩:=I.tuple hb;refine HT.cat_tup p1 p2 (λz=>hx<|r1.nil_iff.mp z) (λz=>⟨.ref a,H,I,rfl,q1<|r2.nil_iff.mp z⟩) (λz=>?_) (by rw[<-r1.length,<-r2.length];exact hz);refine⟨.ref s.heap.objs.size,_,I.laid (t':=s.toks) (o:=.tup<|xs++ys) (λb ob q=>dM _ q) (bZ _) ?_,rfl,q2 (λw=>z<|r2.nil_iff.mpr w) _<|I.hok.fresh<|bZ _⟩;exact⟨by rw[fN];exact hz,_,r1.append r2,IsTup.new _ _⟩
end
def j4(n:Nat)(i:Int):Option Nat:=if 0<=i then(if i<n then some i.toNat else none) else if -(n:Int)<=i then some (i+n).toNat else none
def eG{α:Type}(xs:List α)(i:Int):Option α:=(j4 xs.length i).bind λj=>xs[j]?
theorem lK(h:j4 n i=some j):seqIndex? i n=some j/\j<n/\-(n:Int)<=i/\i<n:=by unfold j4 at h;by_cases h0:0<=i;rw[ks h0]at h;by_cases h1:i<n;rw[ks h1]at h;have e:i.toNat=j:=Qk h;exact⟨by rw[seqIndex_of h0 h1,e],E8,E8,h1⟩;rw[fz h1]at h;cases h;rw[fz h0]at h;by_cases h1:-(n:Int)<=i;rw[ks h1]at h;have e:(i+n).toNat=j:=Qk h;exact⟨by rw[seqIndex_neg E8 h1,e],E8,h1,E8⟩;rw[fz h1]at h;cases h
theorem jz{α:Type}{xs:List α}{v:α}(h:eG xs i=some v):∃j,seqIndex? i xs.length=some j/\xs[j]? = some v/\j<xs.length/\-(xs.length:Int)<=i/\i<xs.length:=by
 unfold eG at h;cases e:j4 xs.length i with
 |none=>rw[e]at h;cases h
 |some j=>rw[e]at h;obtain⟨h1,h2,h3,h4⟩:=lK e;exact⟨j,h1,h,h2,h3,h4⟩
theorem aS{α:Type}{xs:List α}{v:α}(h:xs[j]? = some v):eG xs (j:Int)=some v:=by
 have hj:j<xs.length:=(Yaq.mp h).1;have e:j4 xs.length (j:Int)=some j:=by unfold j4;rw[ks<|E8,ks<|E8];simp
 unfold eG;rw[e];exact h
theorem j5{α:Type}(xs:List α)(v:α):eG (xs++[v]) (-1)=some v:=by
 have hl:(xs++[v]).length=xs.length+1:=KE
 have e:j4 (xs++[v]).length (-1)=some xs.length:=by unfold j4;rw[hl,fz<|F4,ks<|E8];congr 1;omega
 unfold eG;rw[e];show(xs++[v])[xs.length]? = some v;simp
def jA(b:Expr):Prop:=∀o i,subscripted b false o i=operate [o,i] (getItem o i)
def IxR(X:Cx)(r:R2):Prop:=
 ∀(value slice:Expr) (E1:K8) (s:Shared) (σ:St) (H:Hp) (x y:V) (v u:Value) (Q:VK),Inv X E1 σ H s->RelV x v->RelV y u->r x y H Q->
  subscripted slice false v u=operate [v,u] (getItem v u)->wpAny (model X.prog X.w) X.A (subscriptTail value slice v u) (EP X E1 σ Q) X.xe s
def CJ(X:Cx)(id:String)(r:V->Rg->Hp->VK->Prop):Prop:=
 ∀(E1:K8) (s:Shared) (σ:St) (H:Hp) (x:V) (xs:Rg) (v:Value) (us:QX) (Q:VK),Inv X E1 σ H s->RelV x v->Vals xs us->r x xs H Q->
  wpAny (model X.prog X.w) X.A (call (.builtin id) (v::us)) (EP X E1 σ Q) X.xe s
section
variable{a b:Expr}{ta tb:TE}
theorem IxR.or{r r':R2}(h:IxR X r)(h':IxR X r'):IxR X (λx y H Q=>r x y H Q\/r' x y H Q):=by
 intro value slice E1 s σ H x y v u Q I rx ry q hs;rcases q with q|q
 exact h value slice E1 s σ H x y v u Q I rx ry q hs;exact h' value slice E1 s σ H x y v u Q I rx ry q hs
theorem rR{r:R2}(hr:IxR X r)(ha:PE X a ta)(hb:PE X b tb)(hs:jA b):PE X (.Subscript a b pos) (Aa r ta tb):=by intro E1 s σ H Q I h;exact Subscript_<|tS ha hb I h λv u s2 x y H2 I2 rx ry q=>hr a b E1 s2 σ H2 x y v u Q I2 rx ry q (hs _ _)
def wI(K:Qh):R2:=λx y H Q=>∃p xs i v,x=.ref p/\y=.int i/\SqL K H p xs/\eG xs i=some v/\Q v H
def wJ(K:Qh):R2:=λx y H Q=>∃p xs i v,x=.ref p/\y=.int i/\SqT K H p xs/\eG xs i=some v/\Q v H
def wK:R2:=λx y H Q=>∃z i c,x=.str z/\y=.int i/\z.length<=sizeLine/\eG z.cps.toList i=some c/\Q (.str ⟨#[c]⟩) H
theorem ix_list:IxR X (wI X.K):=by
 intro value slice E1 s σ H x y v u Q I rx ry h hs;obtain⟨p,xs,i,z,rfl,rfl,hq,he,q⟩:=h;cases rx;obtain⟨t,rfl⟩:=ry;obtain⟨its,r,pl,hz⟩:=I.list hq;obtain⟨j,h1,h2,h3,h4,h5⟩:=jz he;obtain⟨w,ew,rw'⟩:=r.get h2;have hl:=r.length;have hn:=gu;have fin:EP X E1 σ Q w s:=⟨z,H,I,rw',q⟩;by_cases h0:0<=i;have hj:i.toNat=j:=by rw[seqIndex_of h0 h5]at h1;exact Qk h1
 exact item_listR pl.isList h0 E8 (by rw[hj];simpa using ew) fin hs;have hj:(i+(its.toArray.size:Int)).toNat=j:=by rw[seqIndex_neg E8 h4]at h1;rw[fj,<-hl];exact Qk h1
 exact subscriptTail_builtinR (x:=w) pl.isList.typeIs slot_list_getitem.lookup
  (wpAny_getItem_list_neg (Q:=λr s'=>r=w/\EP X E1 σ Q r s') pl.isList E8 (by rw[fj]<;>omega) E8 (by rw[hj];simpa using ew) ⟨rfl,fin⟩) hs
theorem ix_tup:IxR X (wJ X.K):=by
 intro value slice E1 s σ H x y v u Q I rx ry h hs;obtain⟨p,xs,i,z,rfl,rfl,hq,he,q⟩:=h;cases rx;obtain⟨t,rfl⟩:=ry;obtain⟨its,r,pl,hz⟩:=I.tuple hq;obtain⟨j,h1,h2,h3,h4,h5⟩:=jz he;obtain⟨w,ew,rw'⟩:=r.get h2;have hl:=r.length;have hn:=gu;have fin:EP X E1 σ Q w s:=⟨z,H,I,rw',q⟩;exact subscriptTail_builtinR (x:=w) pl.typeIs slot_tuple_getitem.lookup
  (getItem_tuple (j:=j) (Q:=λr s'=>r=w/\EP X E1 σ Q r s') pl E8 E8 (by rw[fj,<-hl];exact h1) (by simpa using ew) ⟨rfl,fin⟩) hs
theorem ua:IxR X wK:=by
 intro value slice E1 s σ H x y v u Q I rx ry h hs;obtain⟨z,i,c,rfl,rfl,hz,he,q⟩:=h;obtain⟨t,rfl⟩:=rx;obtain⟨t',rfl⟩:=ry;obtain⟨j,h1,h2,h3,h4,h5⟩:=jz he;have hl:z.cps.toList.length=z.length:=by simp[Str.length]
 rw[hl]at h1 h4 h5;have hn:=gu;exact tail_any (typeIs_str s z t) slot_str_getitem.lookup (getItem_str (c:=c) (by
  have e1:decide (i < -(2^63:Int))=false:=Qt E8;have e2:decide (i ≥ 2^63)=false:=Qt E8;rw[e1,e2,Bool.or_false]) (by rw[h1];simpa using h2) ⟨.str ⟨#[c]⟩,H,I.tok _,⟨_,rfl⟩,q⟩) hs
def Fv(K:Qh):R2:=λx y H Q=>wI K x y H Q\/wJ K x y H Q\/wK x y H Q
theorem kW:IxR X (Fv X.K):=ix_list.or<|ix_tup.or ua
theorem kX(its:QX)(n j:Nat)(u:Value):Obj.mapSeq (·.setIfInBounds j u) { cls:=.type "list",data:=.seq its.toArray n }={ cls:=.type "list",data:=.seq (its.set j u).toArray n }:=by simp[Obj.mapSeq]
theorem Inv.lst{E1:K8}{σ:St}{H:Hp}{s:Shared}{p:Addr}{xs:Rg}(I:Inv X E1 σ H s)(h:H p=some (.lst xs)) :
  ∃(its:QX) (n:Nat),Vals xs its/\s.heap.get? p=some { cls:=.type "list",data:=.seq its.toArray n }/\xs.length<=sizeLine:=by
 obtain⟨z,its,n,r,e⟩:=I.hok p _ h;exact⟨its,n,r,e,z⟩
theorem Inv.lstUpd{p:Addr}{ys:Rg}{its:QX}{n':Nat}{f:Obj->Obj}(I:Inv X E1 σ H s)(h:H p=some (.lst xs))
  (ho:s.heap.get? p=some { cls:=.type "list",data:=.seq its.toArray n }) (hf:f { cls:=.type "list",data:=.seq its.toArray n }={ cls:=.type "list",data:=.seq its'.toArray n' }) (r:Vals ys its') (hz:ys.length<=sizeLine) (t:Nat) :
  Inv X E1 σ (upd H p<|.lst ys) { s with heap:=s.heap.update p f,toks:=t }:=by
 have e:(s.heap.update p f).get? p=some { cls:=.type "list",data:=.seq its'.toArray n' }:=by
  rw[vP f ho (by rw[hf]<;>rfl),hf]
 refine I.write (x:=p) (e:=p) (by rw[h];trivial) (.inl rfl) (λb u hb q=>(sR _ _<|Qq hb).trans q) ⟨_,e⟩ ?_<|.inl ⟨_,h⟩;exact⟨hz,its',n',r,e⟩
def wO:V->V->V->Hp->(Hp->Prop)->Prop:=λo i v H Q=>∃p xs k j,o=.ref p/\i=.int k/\H p=some (.lst xs)/\j4 xs.length k=some j/\Q (upd H p<|.lst<|xs.set j v)
theorem fQ:wj X wO:=by
 intro E1 s σ H o i v ov iv u Q I ro ri rv h;obtain⟨p,xs,k,j,rfl,rfl,hp,hj,q⟩:=h;cases ro;obtain⟨t,rfl⟩:=ri;obtain⟨its,n,r,ho,hz⟩:=I.lst hp;obtain⟨h1,h2,h3,h4⟩:=lK hj;have hl:=r.length;have hn:=gu;have I':Inv X E1 σ (upd H p<|.lst<|xs.set j v) { s with heap:=s.heap.update p (Obj.mapSeq (·.setIfInBounds j u)) }:=
  I.lstUpd hp ho (kX its n j u) (r.set rv j) (by rw[dN];exact hz) s.toks
 by_cases h0:0<=k;have hk:k.toNat=j:=by rw[seqIndex_of h0 h4]at h1;exact Qk h1
 exact W.ki_setAt ho h0 E8 (by rw[fj,<-hl];exact h4) (by rw[hk];exact⟨_,I',q⟩);have hk:(k+(its.toArray.size:Int)).toNat=j:=by rw[seqIndex_neg E8 h3]at h1;rw[fj,<-hl];exact Qk h1
 exact W.ki_setBack ho E8 (by rw[fj,<-hl];exact h3) E8 (by rw[hk];exact⟨_,I',q⟩)
theorem jB(lo hi:Option Int)(n:Nat):(sliceBounds lo hi none n).1=((HT.sIx n 0 lo:Nat):Int)/\(sliceBounds lo hi none n).2.1=((HT.sIx n n hi:Nat):Int)/\(sliceBounds lo hi none n).2.2=1:=by
 refine⟨?_,?_,rfl⟩;cases lo with
 |none=>simp[sliceBounds,HT.sIx]|some i=>simp only[sliceBounds,HT.sIx,Option.getD_none,show(1:Int)>0 by decide,if_true];by_cases h:i<0;simp only[h,if_true]<;>omega;simp only[h,if_false]<;>omega
 cases hi with
 |none=>simp[sliceBounds,HT.sIx]|some i=>simp only[sliceBounds,HT.sIx,Option.getD_none,show(1:Int)>0 by decide,if_true];by_cases h:i<0;simp only[h,if_true]<;>omega;simp only[h,if_false]<;>omega
theorem iG(its:QX)(lo hi:Option Int):slicePick its.toArray lo hi none=((its.drop<|HT.sIx its.length 0 lo).take<|HT.sIx its.length its.length hi-HT.sIx its.length 0 lo).toArray:=by obtain⟨h1,h2,h3⟩:=jB lo hi its.toArray.size;unfold slicePick;rw[h1,h2,h3];simp only[sliceRange_one,pick_run,fj]<;>rfl
def CK(K:Qh):V->Option Int->Option Int->Hp->VK->Prop:=λx lo hi H Q=>∃a xs,x=.ref a/\SqL K H a xs/\∀p,H p=none->Q (.ref p) (upd H p<|.lst<|j3 xs lo hi)
theorem sl_list:SlR X (CK X.K):=by intro E1 s σ H x v vl vu lo hi sl Q I rx hs pl pu h;obtain⟨a,xs,rfl,hx,q⟩:=h;cases rx;obtain⟨its,r,ht,hz⟩:=I.list hx;have hlen:=r.length;refine⟨"list",_,slot_list_getitem.lookup,ht.isList.typeIs,?_⟩;refine wpAny_getItem_list_slice ht.isList hs pl pu .none KE ?_ (by rw[fj]<;>omega);rw[iG,<-hlen];refine⟨.ref s.heap.objs.size,_,I.laid (t':=s.toks) (o:=.lst<|j3 xs lo hi) (λb ob q=>dM _ q) (bZ _) ?_,rfl,q _<|I.hok.fresh<|bZ _⟩;exact⟨fL (gE xs lo hi) hz,_,0,(r.drop<|HT.sIx xs.length 0 lo).take<|HT.sIx xs.length xs.length hi-HT.sIx xs.length 0 lo,g6 _ rfl⟩
def fS:V->Bool
 |.non=>true|.bl _=>true|.int _=>true|.str _=>true|_=>false
noncomputable def rS:V->V->Bool
 |.non,.non=>true|.bl a,.bl b=>a==b|.bl a,.int b=>(if a then 1 else 0)==b|.int a,.bl b=>a==(if b then 1 else 0)|.int a,.int b=>a==b|.str a,.str b=>a==b|_,_=>false
theorem ub{y:V}{u v:Value}(ry:RelV y u)(rx:RelV x v)(fy:fS y=true)(fx:fS x=true):SeqAt.EqAt A s u v (rS y x):=by
 cases y with
 |non=>
  cases ry;cases x with
  |non=>cases rx;exact SeqAt.EqAt.same _
  |bl b=>cases rx;exact SeqAt.EqAt.none_bool b
  |int b=>obtain⟨t,rfl⟩:=rx;exact SeqAt.EqAt.none_int b t
  |str b=>obtain⟨t,rfl⟩:=rx;exact SeqAt.EqAt.none_str b t
  |_=>exact Qj (show false=true from fx) mP
 |bl a=>
  cases ry;cases x with
  |non=>cases rx;exact SeqAt.EqAt.bool_none a
  |bl b=>cases rx;exact SeqAt.EqAt.bool_bool a b
  |int b=>obtain⟨t,rfl⟩:=rx;exact SeqAt.EqAt.bool_int a b t
  |str b=>obtain⟨t,rfl⟩:=rx;exact SeqAt.EqAt.bool_str a b t
  |_=>exact Qj (show false=true from fx) mP
 |int a=>
  obtain⟨t',rfl⟩:=ry;cases x with
  |non=>cases rx;exact SeqAt.EqAt.int_none a t'
  |bl b=>cases rx;exact SeqAt.EqAt.int_bool a t' b
  |int b=>obtain⟨t,rfl⟩:=rx;exact SeqAt.EqAt.int_int a t' b t
  |str b=>obtain⟨t,rfl⟩:=rx;exact SeqAt.EqAt.int_str a t' b t
  |_=>exact Qj (show false=true from fx) mP
 |str a=>
  obtain⟨t',rfl⟩:=ry;cases x with
  |non=>cases rx;exact SeqAt.EqAt.str_none a t'
  |bl b=>cases rx;exact SeqAt.EqAt.str_bool a t' b
  |int b=>obtain⟨t,rfl⟩:=rx;exact SeqAt.EqAt.str_int a t' b t
  |str b=>obtain⟨t,rfl⟩:=rx;exact SeqAt.EqAt.str_str a t' b t
  |_=>exact Qj (show false=true from fx) mP
 |_=>exact Qj (show false=true from fy) mP
def qS(x:V)(u:Value):Bool:=match u with|.none=>rS .non x|.bool b=>rS (.bl b) x|.int i _=>rS (.int i) x|.str z _=>rS (.str z) x|_=>false
theorem pK{y:V}{u:Value}(r:RelV y u)(f:fS y=true):qS x u=rS y x:=by
 cases y with
 |non=>cases r;rfl
 |bl b=>cases r;rfl
 |int i=>obtain⟨t,rfl⟩:=r;rfl
 |str z=>obtain⟨t,rfl⟩:=r;rfl
 |_=>exact Qj (show false=true from f) mP
theorem jC{x:V}:∀{xs:Rg} {us:QX},Vals xs us->xs.all fS=true->us.any (qS x)=xs.any λy=>rS y x
 |_,_,.nil,_=>rfl|y::xs,u::us,.cons r t,f=>by rw[sS,dX]at f;rw[zN,zN,pK r f.1,jC t f.2]
theorem hZ{A:Around}{s:Shared}{x:V}{v:Value}(rx:RelV x v)(fx:fS x=true):∀{xs:Rg} {us:QX},Vals xs us->xs.all fS=true->∀u∈us,SeqAt.EqAt A s u v (qS x u)
 |_,_,.nil,_=>λu hu=>by cases hu
 |y::xs,u::us,.cons r t,f=>λu' hu=>by
  rw[sS,dX]at f;rcases Yan.mp hu with rfl|hu
  rw[pK r f.1];exact ub r rx f.1 fx;exact hZ rx fx t f.2 u' hu
def Ac(x:V)(xs:Rg):Bool:=xs.any λy=>rS y x
def Fw(K:Qh)(neg:Bool):R2:=λx y H Q=>∃p xs,y=.ref p/\(SqL K H p xs\/SqT K H p xs)/\fS x=true/\xs.all fS=true/\Q (.bl (if neg then !Ac x xs else Ac x xs)) H
theorem md:OpR X (compareOp .In) (Fw X.K false):=by
 intro E1 s σ H x y v u Q I rx ry h;obtain⟨p,xs,rfl,hq,fx,fs,q⟩:=h;cases ry;rcases hq with hq|hq
 obtain⟨its,r,pl,hz⟩:=I.list hq;refine SeqAt.in_listAt (qS x) pl.isList (λw hw=>hZ rx fx r fs w<|by simpa using hw) ⟨.bl _,H,I,rfl,?_⟩;rw[show its.toArray.any (qS x)=its.any (qS x) by simp,jC r fs];exact q;obtain⟨its,r,pl,hz⟩:=I.tuple hq;refine SeqAt.in_tupleAt (qS x) pl (λw hw=>hZ rx fx r fs w<|by simpa using hw) ⟨.bl _,H,I,rfl,?_⟩;rw[show its.toArray.any (qS x)=its.any (qS x) by simp,jC r fs];exact q
theorem jD:eM X (.builtin "len") (λxs H Q=>∃p ys,xs=[.ref p]/\(SqL X.K H p ys\/SqT X.K H p ys)/\Q (.int ys.length) H):=by
 intro E1 s σ H xs us Q I r h;obtain⟨p,ys,rfl,hq,q⟩:=h;obtain⟨u,rfl,rx⟩:=fP r;cases rx;have hn:=gu;rcases hq with hq|hq
 obtain⟨its,r',pl,hz⟩:=I.list hq;have hlen:=r'.length;exact Calls.call_len_list pl.isList (by simp only[fj]<;>omega) ⟨.int ys.length,H,I.tok _,⟨s.toks+1,by rw[fj,hlen]⟩,q⟩;obtain⟨its,r',pl,hz⟩:=I.tuple hq;have hlen:=r'.length;exact len_tuple pl (by simp only[fj]<;>omega) ⟨.int ys.length,H,I.tok _,⟨s.toks+1,by rw[fj,hlen]⟩,q⟩
theorem jE:eM X (.type "list") (λxs H Q=>∃p ys,xs=[.ref p]/\(SqL X.K H p ys\/SqT X.K H p ys)/\∀l,H l=none->Q (.ref l) (upd H l<|.lst ys)):=by
 intro E1 s σ H xs us Q I r h;obtain⟨p,ys,rfl,hq,q⟩:=h;obtain⟨u,rfl,rx⟩:=fP r;cases rx;have fin:∀(its:QX),Vals ys its->ys.length<=sizeLine->∀(h':Heap) (c':Nat),(∀b o',s.heap.get? b=some o'->h'.get? b=some o')->
   h'.get? s.heap.objs.size=some { cls:=.type "list",dict:=none,data:=.seq its.toArray c',slots:=#[] }->EP X E1 σ Q (.ref s.heap.objs.size) { s with heap:=h' }:=λits r' hz h' c' kp e=>
  ⟨.ref s.heap.objs.size,_,I.laid (t':=s.toks) kp (bZ _) (show ObjOk X.prog X.w _ h' _ (.lst ys) from⟨hz,its,c',r',e⟩),rfl,q _<|I.hok.fresh<|bZ _⟩
 rcases hq with hq|hq
 obtain⟨its,r',pl,hz⟩:=I.list hq;have hlen:=r'.length;obtain⟨o,ho,hc,n,hd⟩:=pl.isList;exact call_list_seq p (.inl rfl) ho hc hd (λh' c' kp e=>fin its r' hz h' c' kp e) (by simp only[fj]<;>omega);obtain⟨its,r',pl,hz⟩:=I.tuple hq;have hlen:=r'.length;obtain⟨o,ho,hc,n,hd⟩:=pl;exact call_list_seq p (.inr rfl) ho hc hd (λh' c' kp e=>fin its r' hz h' c' kp e) (by simp only[fj]<;>omega)
theorem iH:eM X (.type "tuple") (λxs H Q=>∃p ys,xs=[.ref p]/\((SqL X.K H p ys/\∀l,H l=none->Q (.ref l) (upd H l<|.tup ys))\/(SqT X.K H p ys/\Q (.ref p) H))):=by
 intro E1 s σ H xs us Q I r h;obtain⟨p,ys,rfl,h⟩:=h;obtain⟨u,rfl,rx⟩:=fP r;cases rx;rcases h with⟨hq,q⟩|⟨hq,q⟩
 obtain⟨its,r',pl,hz⟩:=I.list hq;have hlen:=r'.length;refine call_tuple_list pl.isList (λh' kp=>?_) (by simp only[fj]<;>omega);have I1:Inv X E1 σ H { s with heap:=h' }:=I.kept (t':=s.toks) kp;have I2:Inv X E1 σ (upd H h'.objs.size<|.tup ys) { s with heap:=h'.push { cls:=.type "tuple",data:=.seq its.toArray } }:=
  I1.laid (t':=s.toks) (λb o e=>dM _ e) (bZ _) (show ObjOk X.prog X.w _ _ _ (.tup ys) from⟨hz,its,r',IsTup.new _ _⟩)
 exact⟨.ref h'.objs.size,_,I2,rfl,q _<|I1.hok.fresh<|bZ _⟩;obtain⟨its,r',pl,hz⟩:=I.tuple hq;exact call_tuple_same pl ⟨.ref p,H,I,rfl,q⟩
def Fx(K:Qh)(T:String)(x:V)(H:Hp):Prop:=match x with
 |.str _=>T = "str"|.int _=>T = "int"
 |.ref p=>(T = "list" /\∃xs,SqL K H p xs)\/(T = "tuple" /\∃o,K.lookup p=some o/\o.cls=.type "tuple" /\o.dict=none)\/
   (T = "dict" /\((∃kvs,H p=some (.dK kvs))\/∃kvs,H p=some (.dT kvs)))\/(T = "set" /\∃S n,H p=some (.set S n))
 |_=>False
theorem uc{v:Value}(I:Inv X E1 σ H s)(r:RelV x v)(ty:Fx X.K T x H) :
  s.TypeIs v T/\∀a,v=.ref a->∃ob,s.heap.get? a=some ob/\ob.dict=none:=by
 cases x with
 |str z=>
  obtain⟨t,rfl⟩:=r;cases(show T = "str" from ty);exact⟨typeIs_str s z t,λ_ e=>nomatch e⟩
 |int i=>
  obtain⟨t,rfl⟩:=r;cases(show T = "int" from ty);exact⟨typeIs_int s i t,λ_ e=>nomatch e⟩
 |ref p=>
  cases r;rcases ty with⟨rfl,xs,hq⟩|⟨rfl,o,hk,hc,hd⟩|⟨rfl,hk⟩|⟨rfl,S,n,hk⟩
  .obtain⟨its,_,pl,_⟩:=I.list hq
   refine⟨pl.isList.typeIs,λa e=>?_⟩;cases e;obtain⟨o,n,e,c,hd,_⟩:=pl;exact⟨o,e,hd⟩
  .refine⟨⟨o,I.kIn p o hk,hc⟩,λa e=>?_⟩
   cases e;exact⟨o,I.kIn _ o hk,hd⟩
  .have z:∃o,s.heap.get? p=some o/\o.ExactDict:=by
    rcases hk with⟨kvs,hk⟩|⟨kvs,hk⟩
    .obtain⟨_,_,_,_,o,_,_,e,ex,_⟩:=I.hok p _ hk
     exact⟨o,e,ex⟩
    .obtain⟨_,_,_,_,o,_,_,e,ex,_⟩:=I.hok p _ hk
     exact⟨o,e,ex⟩
   obtain⟨o,e,ex⟩:=z;refine⟨⟨o,e,ex.1⟩,λa e2=>?_⟩;cases e2;exact⟨o,e,ex.2.1⟩
  .obtain⟨o,_,_,_,e,ex,_⟩:=I.hok p _ hk
   refine⟨⟨o,e,ex.1⟩,λa e2=>?_⟩;cases e2;exact⟨o,e,ex.2.1⟩
 |_=>exact Qw ty
def JV(K:Qh)(T:String)(r:V->Rg->Hp->VK->Prop)(to:TE)(t:TA):TE:=λσ H Q=>to σ H λx H1=>Fx K T x H1/\t σ H1 λxs H2=>r x xs H2 Q
variable{o:Expr}{es:List Expr}{to:TE}{t:TA}{name:Str}{apos cpos:Pos}{id:String}{r:V->Rg->Hp->VK->Prop}
theorem pL(pa:PlainAttrs T)(slot:Slot T name id)(hty:typeOf (.builtin id)=pure (.type "method_descriptor"))(hm:CJ X id r)(ho:PE X o to)(ha:PA X (e::es) t)
  (hbase:{attributeBase o name X.env (eval o X.env)=eval o X.env})
  (hfew:{((backTo cpos<|starEach (e::es) X.env).all (λx=>!x.1) && (backToKw cpos<|keywordEach [] X.env).all (λx=>x.1.isSome)
   && decide ((e::es).length+([]:List Keyword).length+(if([]:List Keyword).isEmpty then 0 else 1)<30))=true})
  (hline:{(apos.endLine==cpos.line)=true}) (hs:{starEach (e::es) X.env=(false,eval e X.env)::starEach es X.env}) (hplain:{(backTo cpos<|starEach es X.env).any (·.1)=false}) :
  PE X (.Call (.Attribute o name apos) (e::es) [] cpos) (JV X.K T r to t):=by
 intro E1 s σ H Q I h;refine wpAny_Call_method_late hbase hfew hline rfl<|bO (ho E1 s σ H _ I h) λv s1 z0=>?_;obtain⟨x,H1,I1,r1,ty,q1⟩:=z0;obtain⟨h1,h2⟩:=uc I1 r1 ty;refine⟨T,id,pa,slot,hty,h1,h2,?_⟩;have hA:=ha cpos E1 s1 σ H1 _ I1 q1;rw[hs]at hA ⊢;refine Calls.callWith_builtin (by show(false||(backTo cpos<|starEach es X.env).any (·.1))=false;rw[hplain]<;>rfl)<|Calls.evalArgs_plain ?_;exact bO hA λus s2 ⟨vs,H2,I2,r2,q2⟩=>hm E1 s2 σ H2 x vs v us Q I2 r1 r2 q2
/- xs.append(e),list.index on a module's tuple .. are CJ facts of 06m -/
end
def JW(X:Cx)(id:String)(r:V->Rg->Hp->VK->Prop):Prop:=
 ∀(E1:K8) (s:Shared) (σ:St) (H:Hp) (x:V) (xs:Rg) (v:Value) (us:QX) (Q:VK),Inv X E1 σ H s->RelV x v->Vals xs us->r x xs H Q->
  wpAny (model X.prog X.w) X.A (call (.builtin id) (v::us)) (EP X E1 σ Q) X.xe s
theorem Vals.one:∀{x:V} {us:QX},Vals [x] us->∃u,us=[u]/\RelV x u
 |_,_,.cons r .nil=>⟨_,rfl,r⟩
theorem Vals.rep{xs:Rg}{us:QX}(h:Vals xs us):∀k:Nat,Vals (List.replicate k xs).flatten (List.replicate k us).flatten
 |0=>.nil|k+1=>by rw[iF,iF,va,va];exact Vals.append h<|Vals.rep h k
theorem eY(its:QX):∀(k:Nat) (acc:QX),
  List.foldl (λx1 x2=>x1++x2) acc.toArray (List.replicate k its.toArray)=(acc++(List.replicate k its).flatten).toArray
 |0,acc=>KE
 |k+1,acc=>by
  have e:acc.toArray++its.toArray=(acc++its).toArray:=KE
  have e2:(acc++its)++(List.replicate k its).flatten=acc++(List.replicate (k+1) its).flatten:=by
   rw[iF,va,oU]
  rw[<-e2,<-eY its k (acc++its),<-e,iF,List.foldl_cons]
section
variable{l b:Addr}{ys zs:Rg}
theorem Inv.lset{its:QX}(I:Inv X E1 σ H s)(hH:H l=some (.lst xs))
  (e:s.heap.get? l=some { cls:=.type "list",data:=.seq its.toArray n }) (hf:f its.toArray=its'.toArray) (hv:Vals ys its') (hz:ys.length<=sizeLine) :
  Inv X E1 σ (upd H l<|.lst ys) { s with heap:=s.heap.update l<|Obj.mapSeq f,toks:=t' }:=by
 have q:=PySem.IsL.update e f;rw[hf]at q;refine I.write (x:=l) (e:=l) (by rw[hH];exact trivial) (.inl rfl) (λb' u hb hu=>(sR s.heap (Obj.mapSeq f)<|Qq hb).trans hu) ⟨_,q⟩ ?_<|.inl ⟨_,hH⟩;exact⟨hz,its',_,hv,q⟩
theorem Inv.lnew{its:QX}(I:Inv X E1 σ H s)(hv:Vals ys its)(hz:ys.length<=sizeLine) :
  Inv X E1 σ (upd H s.heap.objs.size<|.lst ys) { s with heap:=s.heap.push { cls:=.type "list",data:=.seq its.toArray },toks:=t' }:=
 I.laid (λ_ _ q=>dM _ q) (bZ _) ⟨hz,its,0,hv,g6 _ rfl⟩
theorem Inv.fresh(I:Inv X E1 σ H s):H s.heap.objs.size=none:=I.hok.fresh<|bZ _
theorem Inv.lstM(I:Inv X E1 σ H s)(hH:H l=some (.lst xs)):xs.length<=sizeLine/\∃(its:QX) (n:Nat),Vals xs its/\xs.length=its.length/\s.heap.get? l=some { cls:=.type "list",data:=.seq its.toArray n }:=by obtain⟨z,its,n,r,e⟩:=I.hok l _ hH;exact⟨z,its,n,r,r.length,e⟩
theorem pM(h:n<=sizeLine):Builtin.List.listTooLong n=false:=by unfold Builtin.List.listTooLong;exact Qt E8
end
section
def qT:V->Rg->Hp->VK->Prop:=λx vs H Q=>∃l xs y,x=.ref l/\vs=[y]/\H l=some (.lst xs)/\xs.length<sizeLine/\Q .non (upd H l<|.lst<|xs++[y])
theorem i9:JW X "list.append" qT:=by intro E1 s σ H x vs v us Q I rx rv h;obtain⟨l,xs,y,rfl,rfl,hH,hz,q⟩:=h;cases rx;obtain⟨u,rfl,ru⟩:=rv.one;obtain⟨z,its,n,r,hl,e⟩:=I.lstM hH;refine call_meets F.slot_list_append ⟨_,e,rfl⟩ F.entry_list_append (F.args_list_append_2 _ _) (PySem.list_append l its.toArray n u (by rw[fj];omega)) ⟨e,?_⟩;refine⟨.non,_,I.lset (its':=its++[u]) hH e KE (r.append<|.cons ru .nil) ?_,rfl,q⟩;rw[fN,rB];omega
def CL:R2:=λx y H Q=>∃l k xs,x=.ref l/\y=.int k/\H l=some (.lst xs)/\-(2^63)<=k/\k<2^63/\xs.length*k.toNat<=sizeLine/\
 ∀p,H p=none->Q (.ref p) (upd H p<|.lst (List.replicate k.toNat xs).flatten)
theorem jF{α:Type}(xs:List α)(k:Nat):(List.replicate k xs).flatten.length=k*xs.length:=by
 induction k with
 |zero=>simp|succ k ih=>rw[iF,va,fN,ih,oV,vQ]
theorem ud:OpR X (binaryOp .Mult) CL:=by
 intro E1 s σ H x y v u Q I rx ry h;obtain⟨l,k,xs,rfl,rfl,hH,h1,h2,hz,q⟩:=h;cases rx;obtain⟨t,rfl⟩:=ry;obtain⟨z,its,n,r,hl,e⟩:=I.lstM hH;have hlen:its.toArray.size*k.toNat<=sizeLine:=by rw[fj,<-hl];exact hz
 have hcap:¬its.toArray.size*k.toNat>(2^63-1)/8:=by
  have:(sizeLine:Nat)<=(2^63-1)/8:=F4
  omega
 have hfit:¬(!Builtin.List.listFitsIndex k)=true:=by rw[fitsIndex_both h1 h2];exact mP
 have hlong:¬Builtin.List.listTooLong (its.toArray.size*k.toNat)=true:=by rw[pM hlen];exact mP
 have hnew:List.foldl (λx1 x2=>x1++x2) #[] (List.replicate (if its.toArray.isEmpty=true then 0 else k.toNat) its.toArray)=(List.replicate k.toNat its).flatten.toArray:=by
  have f0:∀m:Nat,List.foldl (λx1 x2=>x1++x2) #[] (List.replicate m its.toArray)=(List.replicate m its).flatten.toArray:=λm=>by have:=eY its m [];rw[dQ]at this;exact this
  rw[f0];cases its with
  |nil=>simp|cons a r'=>rw[fz<|KE]
 refine wpAny_binaryOp_repeat_ref (T:= "list") (U:= "int") F4 ⟨_,e,rfl⟩ (λs'=>typeIs_int s' k t) noFill_list_mul F.fills_int_mul F.slot_int_rmul repeat_list F.slot_int_index.lookup
  (call_meets F.slot_int_rmul (typeIs_int s k t) F.entry_int_rmul (F.args_int_rmul_2 _ _) (int___rmul___int_list k t l its.toArray n)
   ⟨e,rfl,⟨_,e,rfl⟩,call_meets F.slot_list_mul ⟨_,e,rfl⟩ F.entry_list_mul (F.args_list_mul_2 _ _) (AutoListH.list___mul___list_int_3 l its.toArray n k t hfit hcap hlong) ⟨e,?_⟩⟩)
 rw[hnew];exact⟨.ref _,_,I.lnew (t':=s.toks) (r.rep k.toNat) (by rw[jF,zO];exact hz),rfl,q _ I.fresh⟩
end
end L2
namespace Att
open PySem PySem.W PySem.Calls PyProof.Rows
theorem gH{P:Params}{h:Heap}:∀(ns:QY) (vs:QX),WellAll P h vs (ns.map WData.int)->IntsAre vs ns:=by
 intro ns;induction ns with
 |nil=>intro vs w;rw[gG]at w;cases w;exact .nil
 |cons n ns ih=>
  intro vs w;rw[c8]at w;cases w with
  |cons a b=>
   cases a;exact .cons _ _<|ih _ b
theorem mf{l:OpenLaw}{n:Nat}(hn:l.most=some n){P:Params}{h:Heap}{args:List WData}{vals:QX}
  (hpre:l.row.toRowW.claim.pre args=true) (hwl:WellAll P h vals args) :
  ∃a vs ns,vals=[Value.ref a]/\args=[WData.list<|ns.map WData.int]/\h.get? a=some { cls:=.type "list",data:=.seq vs.toArray }/\IntsAre vs ns/\ns.length<=n:=by
 have hsh:WShape.hasAll [] args [.list .int]=true:=(pre_splitW hpre).1;have hc:l.pre.holds [] { args:=args }=true:=(pre_splitW hpre).2;obtain⟨d,r,rfl,h1,h2⟩:=hasAllW_cons hsh;obtain rfl:=hasAllW_nil h2;obtain⟨xs,rfl,h3⟩:=hasW_list h1;obtain⟨ns,rfl⟩:=items_int h3;have hlen:ns.length<=n:=by
  unfold OpenLaw.pre at hc;have h4:(WTm.not<|.lt (.lit<|.int (n:Int))<|.len<|.arg 0).holds [] { args:=[.list<|ns.map .int] }=true:=by
   have h4:=(holds_andW hc).1;rw[hn]at h4;exact h4
  have h5:=condW_of h4<|w_not (w_lt w_lit<|w_len_list<|w_arg rfl);rw[bH]at h5;refine Nat.le_of_not_lt λq=>?_;have q':(n:Int)<((ns.length:Nat):Int):=E8
  first
   |(rw[Qm q']at h5;exact Qj h5<|F4)
   |(simp at h5;omega)
 cases hwl with
 |cons w1 w2=>
  cases w2;cases w1 with
  |list ho hall=>exact⟨_,_,ns,rfl,rfl,ho,gH ns _ hall,hlen⟩
theorem mh(l:OpenLaw)(args:List WData):l.row.toRowW.claim.post args (.bool true) args=true:=
 postW_of (r:=l.row.toRowW) (X:=(true==true))
  (show WShape.has [] (.bool true) .bool=true by first|rfl|decide|simp[WShape.has,WShape.arms,WShape.armsAll])
  (show(WTm.eq .res<|.lit<|.bool true).value [] { args:=args,res:=some<|.bool true,after:=args }=some (.bool<|true==true) from w_eq_bool (w_res rfl) w_lit) rfl
theorem attach_call{l:OpenLaw}{n:Nat}{q:Program}{loose:Q4}{XP:(QW)->Heap->Prop}{YP:World->Heap->Prop}{d:DefRec}
  (hn:l.most=some n) (hdf:d.params.defaults=[])
  (call:∀ (w:World) (s₀ s₁:Shared) (mg mb:QW) (fa:Addr) (o:Obj) (pm cd doc:Value) (a:Addr) (vs:QX) (ns:QY),
   Ground q loose [] XP w s₀ mg mb s₁.heap->YP w s₁.heap->
   s₁.heap.get? fa=some o->o.data=.func (docDef d.name d.params d.body d.scope pm cd doc)->s₁.heap.CodeRec cd d.name->mg d.name=some (.ref fa)->
   s₁.heap.get? a=some { cls:=.type "list",data:=.seq vs.toArray }->IntsAre vs ns->ns.length<=n->(a==sysModules)=false->s₁.gens = #[]->
   codeAny (model l.prog w) callerA (.call (.ref fa) ⟨[.ref a],[]⟩) (λr s'=>r=.ok (.ret<|.bool true)/\OldK s₁.heap s'.heap/\s'.os=s₁.os/\AllBare s'.gens) s₁) :
  WalkO q loose XP YP l.row.toRowW d [] (λf vs=>PySem.call f vs):=by
 intro w s₀ s₁ mg mb G Y fa o pm cd doc dV kV ho hd hcd hD hmg hg args vals as hpre hlay hrd hwl hlo;obtain rfl:dV=.none:=Dflts.none hD hdf;obtain rfl:kV=.none:=Dflts.noKw hD;obtain⟨a,vs,ns,rfl,rfl,hobj,hints,hlen⟩:=mf hn hpre hwl;have hsy:(a == sysModules)=false:=hlo a (by
  cases hrd with
  |cons h1 h2=>cases h1;simp)
 refine enter_call<|codeAny_mono (call w s₀ s₁ mg mb fa o pm cd doc a vs ns G Y ho (fd_plain hd) hcd hmg hobj hints hlen hsy hg) λr s' hq=>?_;obtain⟨rfl,h2,h3,h4⟩:=hq;exact⟨.inl ⟨.bool true,.bool true,[],rfl,λ_=>rfl,.bool true,mh l _,λ_=>⟨List.Pairwise.nil,λ_ hm=>(nomatch hm)⟩⟩,h2,h3,h4⟩
end Att
namespace L2
open PySem PySem.Spec PyProof.Rows
variable{P:Program}{w:World}{K:Qh}{mg:QW}{k:Nat}{fd:FuncData}{x:Str}{l:W.OpenLaw}{XP:(QW)->Heap->Prop}{YP:World->Heap->Prop}{st:Stmt}{f:Addr}{osl:Array (Option Value)}{X:Cx}{pos:Pos}{scope sc:Scope}{env:Env}{A:Around}{s:Shared}{Q:Env->Shared->Prop}{E1:K8}{σ:St}{vars:Q4}{sel:Q6}{fp:List Addr}{tn:Nat->Heap->Prop}{wi:TI}
theorem ja:∀{vs:QX} {ns:QY},IntsAre vs ns->Vals (ns.map V.int) vs
 |_,_,.nil=>.nil|_,_,.cons n t h=>.cons ⟨t,rfl⟩<|ja h
def qU(H:Hp):Prop:=∀b,H b=none\/∃o xs,H b=some (.frz o<|.lst xs)
theorem pN{mb:QW}{CX:mX}{fa a:Addr}{sp:Sp}{s₁:Shared}{vs:QX}{ns:QY}
  (KX:K.In s₁.heap) (hns:s₁.heap.Ns mainGlobals mg) (hb:s₁.heap.Ns builtinsNs mb) (hbb:∀x:Str,x≠ "__name__" ->mb x=bootBuiltins x) (hlim:s₁.heap.NoLimit) (hg:s₁.gens = #[])
  (ha:s₁.heap.get? a=some { cls:=.type "list",data:=.seq vs.toArray }) (hi:IntsAre vs ns) (hl:ns.length<=sizeLine) (hsy:(a==sysModules)=false) (hr:Room k callerA)
  (F:∀base:Heap,K.In base->base.Ns mainGlobals mg->eD P w K mg base CX k fa fd [x] sp) (hbind:∀(s:Shared) (u:Value),BindsTo s fd ⟨[u],[]⟩ [(x,u)])
  (hsp:∀H:Hp,qU H->SqL K H a (ns.map V.int)->sp [.ref a] H (λv _=>v=.bl true) λ_ _ _=>False)
  (hCX:∀H e s',CX [] H s₁ (λ_ _ _=>False) e s'->False) :
  codeAny (model P w) callerA (.call (.ref fa) ⟨[.ref a],[]⟩) (λr s'=>r=.ok (.ret<|.bool true)/\OldK s₁.heap s'.heap/\s'.os=s₁.os/\AllBare s'.gens) s₁:=by
 have rv:=ja hi;have lenV:=hi.length
 have core:∀H:Hp,qU H->SqL K H a (ns.map V.int)->HOk P w H s₁.heap->(∀b,H b≠none->b=a)->(H a≠none->K.lookup a=none)->
   codeAny (model P w) callerA (.call (.ref fa) ⟨[.ref a],[]⟩) (λr s'=>r=.ok (.ret<|.bool true)/\OldK s₁.heap s'.heap/\s'.os=s₁.os/\AllBare s'.gens) s₁:=by
  intro H hO hS hok hA hK;have base_of:∀{b:Addr} {o:Obj},s₁.heap.get? b=some o->H b=none->(jr s₁.heap H).get? b=some o:=λe n=>o7 e n;have noA:∀{b:Addr} {o:Obj} {es:Array DictEntry} {ep:Nat},s₁.heap.get? b=some o->o.data=.dict es ep->H b=none:=λ{b o es ep} e d=>by
   cases q:H b with
   |none=>rfl
   |some u=>
    have e':b=a:=hA b (by rw[q];simp);subst e';rw[ha]at e;cases e;have d':Data.seq vs.toArray _=Data.dict es ep:=d;cases d'
  have nsK:∀{b:Addr} {m:QW},s₁.heap.Ns b m->(jr s₁.heap H).Ns b m:=λ{b m} ⟨o,es,ep,e,d,r⟩=>⟨o,es,ep,base_of e<|noA e d,d,r⟩;have hKb:K.In (jr s₁.heap H):=λb o e=>base_of (KX b o e) (by
   cases q:H b with
   |none=>rfl
   |some u=>
    have e':b=a:=hA b (by rw[q];simp);subst e';rw[hK (by rw[q];simp)]at e;cases e)
  have hM:Mod K mg (jr s₁.heap H):=⟨hKb,nsK hns,⟨mb,nsK hb,hbb⟩,let⟨mc,h1,h2⟩:=hlim;⟨mc,nsK h1,h2⟩⟩
  have e0:Env0 P w K mg (jr s₁.heap H) callerA [] s₁ H:=⟨rfl,hM,λb o e=>qA e,Nat.le_of_eq<|lW _ _,trivial,λb hb=>Qj (show b∈([]:List Addr) from hb)<|KE,hok,.of_eq hg,λxs q=>Qj (hA sysModules (by rw[q];simp)).symm (beq_eq_false_iff_ne.mp hsy)⟩
  refine codeAny_mono ((F _ hKb<|nsK hns).run callerA [] s₁ H ⟨[.ref a],[]⟩ [.ref a] [.ref a] _ _ hr e0 (hbind s₁<|.ref a) (.cons rfl .nil)<|hsp H hO hS) λr s' h=>?_;cases r with
  |error e=>exact(hCX H e s' h).elim
  |ok fl=>
   cases fl with
   |next=>exact Qw h|brk=>exact Qw h|cont=>exact Qw h
   |ret u=>
    obtain⟨v,H',os,bare,un,hok',r',q⟩:=h;have q':v=.bl true:=q;subst q';obtain rfl:u=Value.bool true:=r';refine⟨rfl,OldK.of_keep λb o e=>?_,os,bare⟩;cases q:H b with
    |none=>exact un.keep b o e q (by intro z;exact Qj (show b∈([]:List Addr) from z)<|KE) KE
    |some u=>
     rcases hO b with z|⟨ob,xs,z⟩
     .rw[q]at z;cases z
     .have z2:=un.frzs b ob _ z
      obtain⟨e1,_⟩:=hok b _ z;obtain⟨e2,_⟩:=hok' b _ z2;rw[e]at e1;cases e1;exact e2
 cases hk:K.lookup a with
 |some o=>
  have e:=KX a o hk;rw[ha]at e;cases e;refine core (λ_=>none) (λ_=>.inl rfl) (.inr ⟨_,vs.toArray,_,hk,rfl,rfl,rfl,by rw[fj,lenV];exact hl,by simpa using rv⟩) (λb u z=>by have z':(none:Option HO)=some u:=z;cases z') (λb z=>Qj rfl z) λz=>Qj rfl z
 |none=>
  refine core (λb=>if b=a then some (.frz { cls:=.type "list",data:=.seq vs.toArray }<|.lst<|ns.map V.int) else none) (λb=>?_) (.inl<|.inr ⟨{ cls:=.type "list",data:=.seq vs.toArray },ks rfl⟩) (λb u z=>?_) (λb z=>?_) λ_=>hk
  .by_cases hb:b=a
   .exact .inr ⟨_,_,ks hb⟩
   .exact .inl<|fz hb
  .by_cases hb:b=a
   .have z':=(ks hb).symm.trans z
    cases z';subst hb;exact⟨ha,by rw[bH];exact hl,vs,_,rv,ha⟩
   .have z':=(fz hb).symm.trans z
    cases z'
  .by_cases hb:b=a
   .exact hb
   .exact Qj (fz hb) z
theorem walk_of{n:Nat}{q:Program}{loose:Q4}{d:DefRec}{K:Params->Qh}{CX:World->mX}{sp:World->Sp}
  (hn:l.most=some n) (hn2:n<=sizeLine) (hdf:d.params.defaults=[]) (hr:Room k callerA)
  (hY:∀(w:World) (h:Heap),YP w h->(K w.params).In h)
  (F:∀ (w:World) (mg:QW) (fa:Addr) (h:Heap),(K w.params).In h->h.Ns mainGlobals mg->mg d.name=some (.ref fa)->
   ∃fd:FuncData,(∀(s:Shared) (u:Value),BindsTo s fd ⟨[u],[]⟩ [(x,u)])/\
    ∀base:Heap,(K w.params).In base->base.Ns mainGlobals mg->eD l.prog w (K w.params) mg base (CX w) k fa fd [x] (sp w))
  (hsp:∀(w:World) (H:Hp) (a:Addr) (ns:QY),ns.length<=n->qU H->SqL (K w.params) H a (ns.map V.int)->sp w [.ref a] H (λv _=>v=.bl true) λ_ _ _=>False)
  (hCX:∀(w:World) (H:Hp) (s:Shared) (e:Value) (s':Shared),CX w [] H s (λ_ _ _=>False) e s'->False) :
  W.WalkO q loose XP YP l.row.toRowW d [] (λf vs=>PySem.call f vs):=by
 refine Att.attach_call hn hdf λw s₀ s₁ mg mb fa o pm cd doc a vs ns G Y ho hd hcd hmg hobj hints hlen hsy hg=>?_;have KX:=hY w _ Y;obtain⟨fd,hb,hF⟩:=F w mg fa _ KX G.T.g hmg;exact pN KX G.T.g G.T.b G.T.builtins G.T.nolimit hg hobj hints (fL hlen hn2) hsy hr hF hb (λH hO hS=>hsp w H a ns hlen hO hS) λH e s'=>hCX w H s₁ e s'
def cK(s:Stmt):Arguments:=match s with|.FunctionDef _ a _ _ _ _ _ _ _ _=>a|_=>{ posonlyargs:=[],args:=[],vararg:=none,kwonlyargs:=[],kw_defaults:=[],kwarg:=none,defaults:=[] }
def bA(s:Stmt):List Stmt:=match s with|.FunctionDef _ _ b _ _ _ _ _ _ _=>b|_=>[]
def aG(s:Stmt):Scope:=match s with|.FunctionDef _ _ _ _ _ _ sc _ _ _=>sc|_=>{ kind:=.function,names:=[],isGenerator:=false,isCoroutine:=false }
abbrev Fy:mX:=λ_ _ _ _ _ _=>False
abbrev E0:XK:=λ_ _ _=>False
structure Fun(K:Qh)(x qual:Str)(st:Stmt)(f:Addr)(fd:FuncData):Prop where
 ex:∃(oc:Value) (od:Option Addr) (kV doc pm:Value) (an:Option Addr) (cdv ct:Value) (osl:Array (Option Value)),
  fd=W.fnOf x qual (cK st) (bA st) (aG st) .none kV doc pm an cdv ct/\K.lookup f=some ⟨oc,od,.func fd,osl⟩/\W.codeIn K cdv qual=true
 kp:W.keepIn K (.ref f)=true
section
variable{base:Heap}
theorem Fun.binds{qual:Str}{ps:Q4}(F:Fun K x qual st f fd)
  (h:∀(kV doc pm:Value) (an:Option Addr) (cdv ct:Value) (us:QX),us.length=ps.length->bindArgs (W.fnOf x qual (cK st) (bA st) (aG st) .none kV doc pm an cdv ct) ⟨us,[]⟩=pure (ps.zip us)):Binds K fd ps []:=by
 obtain⟨oc,od,kV,doc,pm,an,cdv,ct,osl,rfl,lk,hcd⟩:=F.ex;exact .all<|h kV doc pm an cdv ct
theorem pO{qual:Str}{oc:Value}{od an:Option Addr}{kV doc pm cdv ct:Value}(l:K.lookup f=some ⟨oc,od,.func<|W.fnOf x qual (cK st) (bA st) (aG st) .none kV doc pm an cdv ct,osl⟩)
  (c:W.codeIn K cdv qual=true) (k:W.keepIn K (.ref f)=true):Fun K x qual st f (W.fnOf x qual (cK st) (bA st) (aG st) .none kV doc pm an cdv ct):=⟨⟨oc,od,kV,doc,pm,an,cdv,ct,osl,rfl,l,c⟩,k⟩
end
section
theorem pv(i:Nat)(hN:{X.N[i]? = some x})(hv:autoParam (kA X.env.scope x) Rk._auto_1)(hd:(Q7 x:))
  (hcd:((x==("__classdict__" : Str))=false:)):PE X (.Name x pos) (qC i):=db hN hv hd hcd
end
def rT:List (Str×NameKind)->Bool
 |[]=>true|(n,_)::r=>!(r.any λy=>y.1==n)&&rT r
def mi(sc outer:Scope):Bool:=
 decide (sc.kind=.function)&&rT sc.names&&sc.names.all λy=>!decide (y.2=.free)||(decide (outer.names.lookup y.1=some .cell)||decide (outer.names.lookup y.1=some .free))
theorem CM{α:Type}:∀{l:List (Str×α)} {n:Str},(l.any λy=>y.1==n)=false->l.lookup n=none
 |[],_,_=>rfl
 |(k,v)::r,n,h=>by
  simp only[zN,Bool.or_eq_false_iff]at h;have e:(n==k)=false:=by have:=h.1;simp only[QU]at this ⊢;exact λz=>this z.symm
  rw[lT,e];exact CM h.2
theorem CN:∀{l:List (Str×NameKind)} {n:Str} {k:NameKind},rT l=true->(n,k)∈l->l.lookup n=some k
 |(m,j)::r,n,k,nd,h=>by
  simp only[rT,dX,sT]at nd;rcases Yan.mp h with e|h2
  cases e;simp;have hm:n≠m:=by rintro rfl;have:(r.any λy=>y.1==n)=true:=List.any_eq_true.mpr ⟨_,h2,KE⟩;rw[nd.1]at this;cases this
  rw[lT,beq_eq_false_iff_ne.mpr hm];exact CN nd.2 h2
noncomputable def dE(cells:List (Str×Addr)):List (Str×NameKind)->List (Str×Addr)->List (Str×Addr)
 |[],acc=>acc|(n,k)::r,acc=>if k==.free then dE cells r ((n,(cells.lookup n).getD 0)::acc) else dE cells r acc
theorem wP{cells:List (Str×Addr)}{x:Str}:∀{names:List (Str×NameKind)} {acc:List (Str×Addr)},rT names=true->
  ((names.lookup x=some .free->∃c,(dE cells names acc).lookup x=some c/\(cells.lookup x).getD 0=c)/\(names.lookup x≠some .free->(dE cells names acc).lookup x=acc.lookup x))
 |[],acc,_=>⟨λh=>by simp at h,λ_=>rfl⟩
 |(m,k)::r,acc,nd=>by
  simp only[rT,dX,sT]at nd
  by_cases hm:x=m
  .subst hm
   have hr:r.lookup x=none:=CM nd.1;rw[show List.lookup x ((x,k)::r)=some k by simp];have ih:=@wP cells x r
   by_cases hk:k=.free
   .subst hk
    refine⟨λ_=>⟨_,?_,rfl⟩,λh=>Qj rfl h⟩;show(dE cells r ((x,_)::acc)).lookup x=_;rw[(ih nd.2).2 (by rw[hr];simp)];simp
   .refine⟨λh=>Qj (Qk h) hk,λ_=>?_⟩
    have:dE cells ((x,k)::r) acc=dE cells r acc:=by
     show(if k==.free then _ else _)=_;rw[fz<|by simpa using hk]
    rw[this,(ih nd.2).2 (by rw[hr];simp)]
  .have e:List.lookup x ((m,k)::r)=r.lookup x:=by rw[lT,beq_eq_false_iff_ne.mpr hm]
   rw[e]
   by_cases hk:k=.free
   .subst hk
    have ih:=@wP cells x r ((m,(cells.lookup m).getD 0)::acc) nd.2;have e2:List.lookup x ((m,(cells.lookup m).getD 0)::acc)=acc.lookup x:=by rw[lT,beq_eq_false_iff_ne.mpr hm]
    rw[e2]at ih;exact ih
   .have:dE cells ((m,k)::r) acc=dE cells r acc:=by
     show(if k==.free then _ else _)=_;rw[fz<|by simpa using hk]
    rw[this];exact @wP cells x r acc nd.2
theorem Fz(h:∀y∈scope.names,y.2=.free->∃c,env.cells.lookup y.1=some c):closureFor scope env=pure (dE env.cells scope.names []):=by
 have gen:∀ (names:List (Str×NameKind)) (acc:List (Str×Addr)),(∀ y∈names,y.2 = .free->∃ c,env.cells.lookup y.1=some c)->
     (forIn names acc (fun (x:Str×NameKind) (r:List (Str×Addr))=>(if (x.2 == NameKind.free)=true then (do
       let c <-cellOf env x.1
       pure (ForInStep.yield ((x.1,c)::r))) else pure (ForInStep.yield r):Sem (ForInStep<|List<|Str×Addr))))=(pure (dE env.cells names acc):Sem (List<|Str×Addr)):=by
   intro names
   induction names with
   |nil=>intro acc _;rfl
   |cons y r ih=>
     intro acc hh;obtain⟨n,k⟩:=y;rw[BO]
     by_cases hk:k=.free
     · subst hk
       obtain⟨c,hc⟩:=hh (n,.free) gZ rfl;have hc':env.cells.lookup n=some c:=hc;have e:cellOf env n=pure c:=by unfold cellOf;rw[hc']
       simp only[Qx,if_true,e];have:=ih ((n,c)::acc) λy hy=>hh y<|fM _ hy;have e3:dE env.cells ((n,.free)::r) acc=dE env.cells r ((n,c)::acc):=by
         show(if _ then _ else _)=_;rw[hc'];rfl
       rw[e3,<-this];rfl
     · have hb:(k==NameKind.free)=false:=by simpa using hk
       simp only[hb,dU,if_false];have:=ih acc λy hy=>hh y<|fM _ hy;have e3:dE env.cells ((n,k)::r) acc=dE env.cells r acc:=by
         show(if _ then _ else _)=_;rw[fz<|by simpa using hk]
       rw[e3,<-this];rfl
 unfold closureFor;have:=gen scope.names [] h;first
  |exact this
  | (show (forIn scope.names [] _ >>= λcs=>pure cs)=_
     refine Eq.trans (congrArg (· >>= λcs=>pure cs) this) rfl)
theorem rV{x:Str}:∀(names:List (Str×NameKind)) (n:Nat) (acc acc':List (Str×Addr)),rT names=true->
  ((names.lookup x=some .cell->(cellsFrom n names acc).lookup x=(cellsFrom n names acc').lookup x)/\(names.lookup x≠some .cell->(cellsFrom n names acc).lookup x=acc.lookup x))
 |[],_,_,_,_=>⟨λh=>by simp at h,λ_=>rfl⟩
 |(m,k)::r,n,acc,acc',nd=>by
  simp only[rT,dX,sT]at nd
  by_cases hm:x=m
  .subst hm
   have hr:r.lookup x=none:=CM nd.1;rw[show List.lookup x ((x,k)::r)=some k by simp]
   by_cases hk:k=.cell
   .subst hk
    refine⟨λ_=>?_,λh=>Qj rfl h⟩;have a:=(@rV x r (n+1) ((x,n)::acc) acc' nd.2).2 (by rw[hr];simp);have b:=(@rV x r (n+1) ((x,n)::acc') acc' nd.2).2 (by rw[hr];simp);show(cellsFrom (n+1) r ((x,n)::acc)).lookup x=(cellsFrom (n+1) r ((x,n)::acc')).lookup x;rw[a,b];simp
   .refine⟨λh=>Qj (Qk h) hk,λ_=>?_⟩
    have e:cellsFrom n ((x,k)::r) acc=cellsFrom n r acc:=by
     show(if k==.cell then _ else _)=_;rw[fz<|by simpa using hk]
    rw[e,(@rV x r n acc acc' nd.2).2 (by rw[hr];simp)]
  .have e:List.lookup x ((m,k)::r)=r.lookup x:=by rw[lT,beq_eq_false_iff_ne.mpr hm]
   rw[e]
   by_cases hk:k=.cell
   .subst hk
    have ih:=@rV x r (n+1) ((m,n)::acc) ((m,n)::acc') nd.2;have e2:List.lookup x ((m,n)::acc)=acc.lookup x:=by rw[lT,beq_eq_false_iff_ne.mpr hm]
    rw[e2]at ih;exact ih
   .have e3:∀a:List (Str×Addr),cellsFrom n ((m,k)::r) a=cellsFrom n r a:=λa=>by
     show(if k==.cell then _ else _)=_;rw[fz<|by simpa using hk]
    rw[e3,e3];exact @rV x r n acc acc' nd.2
theorem FA:(relabel sc env).names.lookup x=(sc.names.lookup x).map λk=>if(k==NameKind.free&&env.scope.kind==.function&&env.kindOf x==some .cell)=true then .cell else k:=by
 show List.lookup x (sc.names.map _)=_;generalize sc.names=l;induction l with
 |nil=>rfl|cons y r ih=>obtain⟨m,k⟩:=y;by_cases hx:x=m;subst hx;simp only[c8];by_cases hc:(k==NameKind.free&&env.scope.kind==.function&&env.kindOf x==some .cell)=true;rw[ks hc];simp only[lT,Qx,lU];rw[ks hc];rw[fz hc];simp only[lT,Qx,lU];rw[fz hc];have hb:(x==m)=false:=beq_eq_false_iff_ne.mpr hx;simp only[c8];by_cases hc:(k==NameKind.free&&env.scope.kind==.function&&env.kindOf m==some .cell)=true;rw[ks hc];simp only[lT,hb];exact ih;rw[fz hc];simp only[lT,hb];exact ih
def kB(sc:Scope)(env:Env)(C:Addr):Env:=
 { scope:=relabel sc env,locals:=C,globals:=env.globals,cells:=cellsFrom (C+1) sc.names<|dE env.cells sc.names [],qual:=env.qual,func:=none,code:=env.code,frame:=env.frame,builtins:=env.builtins }
theorem JX{M:Model}{E:Lb}
  (h:Q { scope:=sc,locals:=s.heap.objs.size,globals:=env.globals,cells:=cellsFrom (s.heap.objs.size+1) sc.names<|dE env.cells sc.names [],qual:=env.qual,func:=none,code:=env.code,frame:=env.frame,builtins:=env.builtins }
   { s with heap:=pushCells (s.heap.push { cls:=.type "dict",data:=.dict #[] }) sc.names }) :
  wpAny M A (newFunctionEnv sc env.globals (dE env.cells sc.names []) [] env.qual none .none<|some env) Q E s:=by
 simp only[newFunctionEnv,Option.isSome_some,if_true];refine Qg<|wpAny_alloc ?_;refine Qg<|wpAny_layCells _ (λname kind cells=>by cases hkc:kind==NameKind.cell<;>simp[hkc]) _ _ _ _ ?_;rw[show({ s with heap:=s.heap.push { cls:=.type "dict",data:=.dict #[] } }:Shared).heap.objs.size=s.heap.objs.size+1 from oW ..];exact Qg<|Qi (Qi h)
def Cx.lc(X:Cx)(sc:Scope)(vars:Q4)(sel:Q6)(s:Shared)(H:Hp)(fp:List Addr):Cx where
 prog:=X.prog
 w:=X.w
 K:=X.K
 mg:=X.mg
 base:=X.base
 A:=X.A
 N:=vars++sel.map λj=>X.N.getD j ""
 s₀:=s
 H₀:=H
 env:=kB sc X.env s.heap.objs.size
 outer:=X.stack
 stack:=X.stack
 ex:=fp
 fn:=λx=>decide (sc.names.lookup x=some .cell)
 calm:=X.calm
 pn:=[]
 xe:=λ_ _=>False
def rW(N:Q4)(sc:Scope)(sel:Q6):Bool:=sel.all λj=>match N[j]? with|some x=>decide (sc.names.lookup x=some .free)|none=>false
noncomputable def iI(nv:Nat)(sel:Q6)(σ:St):St:=List.replicate nv none++sel.map λj=>(σ[j]?).getD none
section
variable{H:Hp}
theorem CO(I:Inv X E1 σ H s)(ok:mi sc X.env.scope=true):∀y∈sc.names,y.2=.free->∃c,X.env.cells.lookup y.1=some c:=λy hy hk=>by
 simp only[mi,dX,Ybd,BP,sT,Qo,decide_eq_false_iff_not]at ok;rcases ok.2 y hy with z|z
 exact Qj hk z;exact I.ok.has y.1 z
theorem JY(I:Inv X E1 σ H s)(ok:mi sc X.env.scope=true)(so:rW X.N sc sel=true)(hf:∀b∈fp,fO X E1 H b)(ho:∀b∈fp,∃o,s.heap.get? b=some o)(ha:{X.env.scope.kind=.function}) :
  Inv (X.lc sc vars sel s H fp) [] (iI vars.length sel σ) H { s with heap:=pushCells (s.heap.push { cls:=.type "dict",data:=.dict #[] }) sc.names }:=by
 have hcl:=CO I ok;have ok':=ok;simp only[mi,dX,Ybd,BP,sT,Qo,decide_eq_false_iff_not]at ok';obtain⟨⟨hk,nd⟩,hfree⟩:=ok';have szp:(s.heap.push { cls:=.type "dict",data:=.dict #[] }).objs.size=s.heap.objs.size+1:=oW ..;have keep:∀b o,s.heap.get? b=some o->(pushCells (s.heap.push { cls:=.type "dict",data:=.dict #[] }) sc.names).get? b=some o:=λb o e=>pushCells_keeps _ _ _ _<|dM _ e;have okc:=cellsFrom_ok sc.names (s.heap.push { cls:=.type "dict",data:=.dict #[] }) (s.heap.objs.size+1) [] ⟨λ_ _ hm=>(nomatch hm),List.Pairwise.nil⟩ (by rw[szp];exact bZ _);rw[szp]at okc
 have own:∀x,sc.names.lookup x=some .cell->∃c,(kB sc X.env s.heap.objs.size).cells.lookup x=some c/\(x,c)∈cellsFrom (s.heap.objs.size+1) sc.names []:=λx hx=>by
  have e:=(rV sc.names (s.heap.objs.size+1) (dE X.env.cells sc.names []) [] nd).1 hx;obtain⟨c,hc⟩:=eN (sc:=sc) (n:=s.heap.objs.size+1) hx;exact⟨c,by show(cellsFrom _ _ _).lookup x=_;rw[e];exact hc,Qp hc⟩
 have clo:∀x,sc.names.lookup x=some .free->∃c,(kB sc X.env s.heap.objs.size).cells.lookup x=some c/\X.env.cells.lookup x=some c:=λx hx=>by
  have e:=(rV sc.names (s.heap.objs.size+1) (dE X.env.cells sc.names []) [] nd).2 (by rw[hx];decide);obtain⟨c,h1,h2⟩:=(@wP X.env.cells x sc.names [] nd).1 hx;obtain⟨c',h3⟩:=hcl (x,.free) (Qp hx) rfl;have h3':X.env.cells.lookup x=some c':=h3;rw[h3']at h2;have h4:c'=c:=h2;subst h4;exact⟨c',by show(cellsFrom _ _ _).lookup x=_;rw[e];exact h1,h3'⟩
 have oth:∀x c,(kB sc X.env s.heap.objs.size).cells.lookup x=some c->sc.names.lookup x=some .cell\/sc.names.lookup x=some .free:=λx c hc=>by
  by_cases h1:sc.names.lookup x=some .cell
  .exact .inl h1
  .by_cases h2:sc.names.lookup x=some .free
   .exact .inr h2
   .have e:=(rV sc.names (s.heap.objs.size+1) (dE X.env.cells sc.names []) [] nd).2 h1
    have e2:=(@wP X.env.cells x sc.names [] nd).2 h2;have hc':(cellsFrom (s.heap.objs.size+1) sc.names<|dE X.env.cells sc.names []).lookup x=some c:=hc;rw[e,e2]at hc';simp at hc'
 have ownC:∀x c,(x,c)∈cellsFrom (s.heap.objs.size+1) sc.names []->(pushCells (s.heap.push { cls:=.type "dict",data:=.dict #[] }) sc.names).IsCell c none/\s.heap.objs.size+1<=c:=λx c h=>okc.empty x c h;have cloLt:∀x c,X.env.cells.lookup x=some c->c<s.heap.objs.size:=λx c h=>by
  obtain⟨v,q⟩:=I.cell x c h;exact q.lt
 have noA:∀b∈fp,b<s.heap.objs.size:=λb hb=>by obtain⟨o,e⟩:=ho b hb;exact dv e
 refine ⟨⟨I.ok.mod,hk,I.ok.glob,I.ok.blt,bZ _,λx y c h1 h2=>?_,λx hx=>?_,λx c hx h=>?_,I.ok.hd,I.ok.frames,.inl rfl,λb hb=>⟨gY<|noA b hb,λx c h=>?_⟩,I.bs,fL I.ok.bsz I.sz,λb o e hb=>?_,λb hb hq=>?_,I.stack,I.stkFree,I.sysn⟩,
  rfl,I.bare,Un.kept keep,⟨λ_=>none,?_,λi x v h1 h2 h3=>?_⟩,λx c h=>?_,I.hok.fresh<|bZ _,λx c h=>?_,λp hp=>Qj (show p∈([]:K8) from hp)<|KE,I.hok.kept keep,?_⟩
 ·-- inj
  replace h1:(kB sc X.env s.heap.objs.size).cells.lookup x=some c:=h1;replace h2:(kB sc X.env s.heap.objs.size).cells.lookup y=some c:=h2;rcases oth x c h1 with k1|k1<;>rcases oth y c h2 with k2|k2
  .obtain⟨c1,e1,m1⟩:=own x k1
   obtain⟨c2,e2,m2⟩:=own y k2;rw[h1]at e1;rw[h2]at e2;cases e1;cases e2;exact name_of_addr okc.apart m1 m2
  .obtain⟨c1,e1,m1⟩:=own x k1
   obtain⟨c2,e2,m2⟩:=clo y k2;rw[h1]at e1;rw[h2]at e2;cases e1;cases e2;exact Qj (dw (cloLt y c m2)<|BQ (ownC x c m1).2)<|iu _
  .obtain⟨c1,e1,m1⟩:=clo x k1
   obtain⟨c2,e2,m2⟩:=own y k2;rw[h1]at e1;rw[h2]at e2;cases e1;cases e2;exact Qj (dw (cloLt x c m1)<|BQ (ownC y c m2).2)<|iu _
  .obtain⟨c1,e1,m1⟩:=clo x k1
   obtain⟨c2,e2,m2⟩:=clo y k2;rw[h1]at e1;rw[h2]at e2;cases e1;cases e2;exact I.ok.inj x y c m1 m2
 ·-- has
  have hx':(relabel sc X.env).names.lookup x=some .cell\/(relabel sc X.env).names.lookup x=some .free:=hx;rw[FA]at hx';cases q:sc.names.lookup x with
  |none=>rw[q]at hx';simp at hx'
  |some k=>
   cases k with
   |cell=>obtain⟨c,e,_⟩:=own x q;exact⟨c,e⟩
   |free=>obtain⟨c,e,_⟩:=clo x q;exact⟨c,e⟩
   | «local»=>rw[q]at hx';simp at hx'|globalExplicit=>rw[q]at hx';simp at hx'|globalImplicit=>rw[q]at hx';simp at hx'
 .have hx':sc.names.lookup x=some .cell:=QQ hx
  obtain⟨c1,e1,m1⟩:=own x hx';have h':(kB sc X.env s.heap.objs.size).cells.lookup x=some c:=h;rw[h']at e1;cases e1;have:=(ownC x c m1).2;show s.heap.objs.size<=c;omega
 .rcases oth x c h with k|k
  .obtain⟨c1,e1,m1⟩:=own x k
   rw[show(kB sc X.env s.heap.objs.size).cells.lookup x=some c from h]at e1;cases e1;exact λz=>Qj (dw (noA b hb)<|BQ (ownC x c m1).2) (by rw[z];exact iu _)
  .obtain⟨c1,e1,m1⟩:=clo x k
   rw[show(kB sc X.env s.heap.objs.size).cells.lookup x=some c from h]at e1;cases e1;exact(hf b hb).2.2.2.2.1 x c m1
 .have q:=(hf b hb).2.2.2.1
  rcases q with q|q
  .exact I.ok.noex b o e q
  .exact Qj (dw (dv (I.ok.bs b o e).1) q)<|iu _
 .rcases Yan.mp (I.stkSub b hq) with z|z
  .exact(hf b hb).2.1 z
  .exact(hf b hb).2.2.1 z
 ·-- the names' dict
  refine Heap.Ns.keeps (h:=s.heap.push { cls:=.type "dict",data:=.dict #[] }) ?_<|λb o e=>pushCells_keeps _ _ _ _ e;exact⟨_,#[],_,g6 _ rfl,rfl,λe he=>Qj he<|KE,λ_=>rfl⟩
 ·-- what is seen
  have hi:vars.length<=i:=by
   rcases eV i vars.length with z|z
   .exfalso
    unfold iI at h2;rw[kJ<|by simpa using z,mQ]at h2;split at h2<;>cases h2
   .exact z
  unfold iI at h2;rw[jR<|by simpa using hi,qv,cH]at h2;have h1':(vars++sel.map λj=>X.N.getD j "")[i]? = some x:=h1;rw[jR hi,cH]at h1';cases q:sel[i-vars.length]? with
  |none=>rw[q]at h2;cases h2
  |some j=>
   rw[q]at h1' h2;have e1:X.N.getD j "" = x:=Qk h1';have e2:(σ[j]?).getD none=some v:=Qk h2;have hj:∃y,X.N[j]? = some y/\sc.names.lookup y=some .free:=by
    have:=Ybd.mp so j<|iD q;cases z:X.N[j]? with
    |none=>rw[z]at this;cases this
    |some y=>rw[z]at this;exact⟨y,rfl,QQ this⟩
   obtain⟨y,hy,hyf⟩:=hj;have:y=x:=by
    rw[<-e1,aZ,hy];rfl
   subst this;have e3:σ[j]? = some (some v):=by
    cases z:σ[j]? with
    |none=>rw[z]at e2;cases e2
    |some w=>rw[z]at e2;exact congrArg some e2
   obtain⟨c,k1,k2⟩:=clo y hyf;have vis:kA X.env.scope y:=by
    rcases hfree (y,.free) (Qp hyf) with z|z|z
    .exact Qj rfl z
    .exact .inr<|.inl z
    .exact .inr<|.inr z
   obtain⟨m,hn,hl⟩:=I.loc;obtain⟨u,r,l⟩:=hl j y v hy e3 vis;refine⟨u,r,?_⟩;have notloc:X.env.kindOf y≠some .local:=by
    rcases hfree (y,.free) (Qp hyf) with z|z|z
    .exact Qj rfl z
    .show X.env.scope.names.lookup y≠_;rw[z];decide
    .show X.env.scope.names.lookup y≠_;rw[z];decide
   rcases l with⟨z,_⟩|⟨_,c',e',q'⟩
   .exact Qj z notloc
   .rw[k2]at e';cases e'
    have kk:(kB sc X.env s.heap.objs.size).kindOf y=some .cell\/(kB sc X.env s.heap.objs.size).kindOf y=some .free:=by
     show(relabel sc X.env).names.lookup y=_\/(relabel sc X.env).names.lookup y=_;rw[FA,hyf];simp only[lU];split
     .exact .inl rfl
     .exact .inr rfl
    exact .inr ⟨kk,c,k1,q'.keeps keep⟩
 .rcases oth x c h with k|k
  .obtain⟨c1,e1,m1⟩:=own x k
   rw[show(kB sc X.env s.heap.objs.size).cells.lookup x=some c from h]at e1;cases e1;exact⟨none,(ownC x c m1).1⟩
  .obtain⟨c1,e1,m1⟩:=clo x k
   rw[show(kB sc X.env s.heap.objs.size).cells.lookup x=some c from h]at e1;cases e1;obtain⟨v,q⟩:=I.cell x c m1;exact⟨v,q.keeps keep⟩
 .rcases oth x c h with k|k
  .obtain⟨c1,e1,m1⟩:=own x k
   rw[show(kB sc X.env s.heap.objs.size).cells.lookup x=some c from h]at e1;cases e1;exact I.hok.fresh (by have:=(ownC x c m1).2;omega)
  .obtain⟨c1,e1,m1⟩:=clo x k
   rw[show(kB sc X.env s.heap.objs.size).cells.lookup x=some c from h]at e1;cases e1;exact I.freeC x c m1
 .show(iI vars.length sel σ).length=(vars++sel.map _).length
  unfold iI;simp
end
def PF(X:Cx)(ifs:List Expr)(t:TT):Prop:=
 ∀(E1:K8) (s:Shared) (σ:St) (H:Hp) (Q:Bool->Hp->Prop),Inv X E1 σ H s->t σ H Q->
  wpAny (model X.prog X.w) X.A (forIn ifs true λc r=>if r=true then do let ok <-isTrue c X.env (eval c X.env);pure (ForInStep.yield ok) else pure (ForInStep.yield r)) (TP X E1 σ Q) X.xe s
def wQ:TT:=λ_ H Q=>Q true H
theorem JZ:PF X [] wQ:=λ_ _ _ H _ I h=>wpAny_tests_nil ⟨H,I,h⟩
theorem J0{c:Expr}{t:TT}(h:PT X c t):PF X [c] t:=λE1 s σ H Q I q=>wpAny_tests_one<|h E1 s σ H Q I q
def wS(g:TG)(tf:TT)(te:TE)(J:It)(D:Addr)(Q:Hp->Prop)(W:Nat->Nat->Rg->St->Hp->Prop):Prop:=
 ∀ i m ys σ2 H2,W i m ys σ2 H2->H2 D=some (.lst ys)/\((J.stop i H2/\Q H2)\/(J.go i H2/\∀ x H3,J.yld i H2 x H3->g x σ2 H3 λσ4 H4=>tf σ4 H4 λb H5=>
  if b=true then te σ4 H5 λv H6=>H6 D=some (.lst ys)/\ys.length<sizeLine/\∃m',m'<m/\W (i+1) m' (ys++[v]) σ4 (upd H6 D<|.lst<|ys++[v]) else∃m',m'<m/\W (i+1) m' ys σ4 H5))
def Ad(wi:TI)(nv:Nat)(sel:Q6)(g:TG)(tf:TT)(te:TE):TE:=λσ H Q=>wi σ H λJ H1=>∀D,H1 D=none->
 ∃W:Nat->Nat->Rg->St->Hp->Prop,(∃m,W 0 m [] (iI nv sel σ)<|upd H1 D<|.lst [])/\wS g tf te J D (Q<|.ref D) W
section
variable{H1:Hp}{s2:Shared}{elt target iter:Expr}{ifs:List Expr}{g:TG}{tf:TT}{te:TE}
theorem J1{prog:Program}{R:Result->Shared->Prop}{it acc:Value}(I:Nat->Shared->Prop)
  (turn:∀ n s,I n s->wpAny (model prog w) A (pyNext it) (λr s₁=>match r with
   |none=>R (.ok .next) s₁
   | some v=>wpAny (model prog w) A (letOwnedTupleGo target it v) (λ_ s₁'=>wpAny (model prog w) A (assign target env v) (λ_ s₂=>
     wpAny (model prog w) A (forIn ifs true λc r=>if r=true then do let ok <- isTrue c env (eval c env);pure (ForInStep.yield ok) else pure (ForInStep.yield r)) (λok s₃=>
      if ok=true then wpAny (model prog w) A (eval elt env) (λx s₄=>
       wpAny (model prog w) A (call (.builtin "list.append") [acc,x]) (λ_ s₅=>∃m,m<n/\I m s₅) (λ_ _=>False) s₄) (λ_ _=>False) s₃
      else∃m,m<n/\I m s₃) (λ_ _=>False) s₂) (λ_ _=>False) s₁') (λ_ _=>False) s₁) (λ_ _=>False) s)
  (n:Nat) (h:I n s) :
  codeAny (model prog w) A (.compLoop (.ListComp elt [⟨target,iter,ifs,0⟩] scope pos) 0 it acc env) R s:=by
 refine codeAny_loop rfl I (λn s hI=>?_) n h;show wpAny _ A ((compTurn (.ListComp elt [⟨target,iter,ifs,0⟩] scope pos) 0 it acc env).onRaise (λx=>do noteFrame x env;theTreesLotGoes x)) _ _ s;refine wpAny_noted ?_;rw[compTurn_list];refine Qg<|QC (Qg<|Qv (turn n s hI) (λr s₁ h₁=>?_) λ_ _ h'=>h'.elim);cases r with
 |none=>exact Qi h₁
 |some v=>
  refine Qg<|Qv h₁ (λ_ s₁' h₁'=>?_) λ_ _ h'=>h'.elim;refine Qg<|Qv h₁' (λ_ s₂ h₂=>Qg<|Qv h₂ (λok s₃ h₃=>?_) λ_ _ h'=>h'.elim) λ_ _ h'=>h'.elim;cases ok with
  |false=>exact Qi ⟨rfl,h₃⟩
  |true=>
   exact Qg<|Qg (Qv h₃ (λx s₄ h₄=>Qg<|Qv h₄ (λ_ s₅ h₅=>Qi<|Qi ⟨rfl,h₅⟩) λ_ _ h'=>h'.elim) λ_ _ h'=>h'.elim)
theorem FC{J:It}{it:Addr}{Q:VK}{E:Lb}{R:Value->Addr->Result->Shared->Prop}(hc:X.calm=true)
  (hg:∀s H fp,PG (X.lc sc vars sel s H fp) target g) (hf:∀s H fp,PF (X.lc sc vars sel s H fp) ifs tf) (he:∀s H fp,PE (X.lc sc vars sel s H fp) elt te)
  (ok:mi sc X.env.scope=true) (so:rW X.N sc sel=true)
  (I2:Inv X E1 σ H1 s2) (T:jY X.prog X.w X.K target J fp it tn) (st2:tn 0 s2.heap) (f2:∀b∈fp,fO X E1 H1 b)
  (q:∀D,H1 D=none->∃W:Nat->Nat->Rg->St->Hp->Prop,(∃m,W 0 m [] (iI vars.length sel σ)<|upd H1 D<|.lst [])/\wS g tf te J D (Q<|.ref D) W)
  (hR:∀D C H' s',Inv X E1 σ H' s'->Q (.ref D) H'->(∃m,s'.heap.Ns C m)->fO X E1 H' C->R (.ref D) C (.ok .next) s') :
  wpAny (model X.prog X.w) X.A (newList []) (λacc s₃=>wpAny (model X.prog X.w) X.A (newFunctionEnv sc X.env.globals (dE X.env.cells sc.names []) [] X.env.qual none .none<|some X.env) (λcenv s₄=>
   codeAny (model X.prog X.w) X.A (.compStart (.ListComp elt [⟨target,iter,ifs,0⟩] sc pos) 0 (.ref it) acc { cenv with scope:=relabel sc X.env }) (R acc cenv.locals) s₄) E s₃) E s2:=by
 refine Qu ?_;have hD0:H1 s2.heap.objs.size=none:=I2.hok.fresh<|bZ _;obtain⟨W,⟨m0,w0⟩,turn⟩:=q _ hD0;have I3:Inv X E1 σ (upd H1 s2.heap.objs.size<|.lst []) { s2 with heap:=s2.heap.push { cls:=.type "list",data:=.seq ([]:QX).toArray },toks:=s2.toks }:=I2.lnew (ys:=[]) .nil<|jT _;have ho2:∀b∈fp,∃o,s2.heap.get? b=some o/\∀v,o.data≠.cell v:=T.obj _ _ st2;have lt2:∀b∈fp,b<s2.heap.objs.size:=λb hb=>by obtain⟨o,e,_⟩:=ho2 b hb;exact dv e
 have f3:∀b∈fp,fO X E1 (upd H1 s2.heap.objs.size<|.lst []) b:=λb hb=>⟨by rw[aI<|gY<|lt2 b hb];exact(f2 b hb).1,(f2 b hb).2⟩;have ho3:∀b∈fp,∃o,(s2.heap.push { cls:=.type "list",data:=.seq ([]:QX).toArray }).get? b=some o:=λb hb=>by obtain⟨o,e,_⟩:=ho2 b hb;exact⟨o,dM _ e⟩
 refine JX (s:={ s2 with heap:=s2.heap.push { cls:=.type "list",data:=.seq ([]:QX).toArray },toks:=s2.toks }) ?_;generalize hs3:({ s2 with heap:=s2.heap.push { cls:=.type "list",data:=.seq ([]:QX).toArray },toks:=s2.toks }:Shared)=s3 at I3 ⊢;have kp23:∀b o,s2.heap.get? b=some o->s3.heap.get? b=some o:=λb o e=>by rw[<-hs3];exact dM _ e
 have sz3:s3.heap.objs.size=s2.heap.objs.size+1:=by rw[<-hs3];exact oW ..
 have os3:s3.os=s2.os:=by rw[<-hs3]
 have ho3':∀b∈fp,∃o,s3.heap.get? b=some o:=λb hb=>by rw[<-hs3];exact ho3 b hb
 have I4:=JY (vars:=vars) I3 ok so f3 ho3' I2.ok.kind;have kp4:∀b o,s3.heap.get? b=some o->(pushCells (s3.heap.push { cls:=.type "dict",data:=.dict #[] }) sc.names).get? b=some o:=λb o e=>pushCells_keeps _ _ _ _<|dM _ e;have st4:tn 0 (pushCells (s3.heap.push { cls:=.type "dict",data:=.dict #[] }) sc.names):=T.keep _ _ _ st2 λb hb o e=>kp4 b o<|kp23 b o e
 have stat:∀{H':Hp},(∀b∈fp,H' b=none)->∀b∈fp,fO (X.lc sc vars sel s3 (upd H1 s2.heap.objs.size<|.lst []) fp) [] H' b:=λ{H'} hn b hb=>by
  refine⟨hn b hb,(I4.ok.exf b hb).1,I4.ok.exfs b hb,.inl hb,λx c e z=>(I4.ok.exf b hb).2 x c e z,λp hp=>Qj (show p∈([]:K8) from hp)<|KE⟩
 have loop:codeAny (model X.prog X.w) X.A (.compLoop (.ListComp elt [⟨target,iter,ifs,0⟩] sc pos) 0 (.ref it) (.ref s2.heap.objs.size)<|kB sc X.env s3.heap.objs.size)
   (R (.ref s2.heap.objs.size) s3.heap.objs.size) { s3 with heap:=pushCells (s3.heap.push { cls:=.type "dict",data:=.dict #[] }) sc.names }:=by
  refine J1 (λn s'=>∃i ys σ' H',Inv (X.lc sc vars sel s3 (upd H1 s2.heap.objs.size<|.lst []) fp) [] σ' H' s'/\tn i s'.heap/\(∀b∈fp,H' b=none)/\W i n ys σ' H') ?_ m0
   ⟨0,[],_,_,I4,st4,λb hb=>(f3 b hb).1,w0⟩
  rintro n s5 ⟨i,ys,σ5,H5,I5,st5,fr5,w5⟩;obtain⟨hD,⟨stop,qn⟩|⟨go,step⟩⟩:=turn i n ys σ5 H5 w5
  .refine bO (T.done (X.lc sc vars sel s3 (upd H1 s2.heap.objs.size<|.lst []) fp) rfl rfl rfl hc i [] s5 σ5 H5 _ I5 (stat fr5) st5 stop) λr s6 ⟨hr,I6⟩=>?_
   subst hr;have un:Un (dg X.stack) fp H1 H5 s2.heap s6.heap:=by
    have a:Un (dg X.stack) fp H1 (upd H1 s2.heap.objs.size<|.lst []) s2.heap s3.heap:=Un.laid kp23 (bZ _) hD0;exact a.trans I6.base
   have I7:Inv X E1 σ H5 s6:=I2.call' (ch:=fp) (I6.os.trans os3) un I6.hok I6.bare λb hb=>⟨(f2 b hb).2.2.2.1,(f2 b hb).2.1,(f2 b hb).2.2.2.2.1,(f2 b hb).2.2.2.2.2⟩;refine hR _ _ H5 s6 I7 qn ?_ ?_
   .obtain⟨m,hn,_⟩:=I6.loc
    exact⟨m,hn⟩
   .exact I3.fpOk (bZ _) I6.free
  .refine bO (T.item (X.lc sc vars sel s3 (upd H1 s2.heap.objs.size<|.lst []) fp) rfl rfl rfl hc i [] s5 σ5 H5 _ I5 (stat fr5) st5 go) λr s6 ⟨u,hr,h6⟩=>?_
   subst hr;refine bO h6 λ_ s7 z0=>?_;obtain⟨x,H7,I7,r7,y7,st7,fr7⟩:=z0;have I7':=I7.pinned (stat fr7)<|T.obj _ _ st7;refine bO (hg _ _ _ _ s7 σ5 H7 x u _ I7' r7<|step x H7 y7) λ_ s8 ⟨σ8,H8,I8,q8⟩=>?_;refine bO (hf _ _ _ _ s8 σ8 H8 _ I8 q8) λb s9 ⟨H9,I9,q9⟩=>?_;have back:∀{σ':St} {H':Hp} {s':Shared},Inv (X.lc sc vars sel s3 (upd H1 s2.heap.objs.size<|.lst []) fp) ([]++hV fp s7.heap) σ' H' s'->tn (i+1) s'.heap/\∀b∈fp,H' b=none:=λ{σ' H' s'} I'=>by
    refine⟨T.keep _ _ _ st7 λb hb o e=>(I'.pin (b,o)<|kI _<|kI _<|d9 hb e).1,λb hb=>?_⟩;obtain⟨o,e,d⟩:=T.obj _ _ st7 b hb;exact(I'.pin (b,o)<|kI _<|kI _<|d9 hb e).2.1
   cases b with
   |false=>
    rw[fz<|F4]at q9 ⊢;obtain⟨m',hm,w9⟩:=q9;exact⟨m',hm,i+1,ys,σ8,H9,I9.unpinned,(back I9).1,(back I9).2,w9⟩
   |true=>
    rw[ks rfl]at q9 ⊢;refine bO (he _ _ _ _ s9 σ8 H9 _ I9 q9) λv sA z0=>?_;obtain⟨y,HA,IA,rA,hDA,hz,m',hm,wA⟩:=z0;obtain⟨z,its,nn,rr,hl,e⟩:=IA.lstM hDA;refine call_meets F.slot_list_append ⟨_,e,rfl⟩ F.entry_list_append (F.args_list_append_2 _ _) (PySem.list_append _ its.toArray nn v (by rw[fj];omega)) ⟨e,?_⟩;have IB:=IA.lset (its':=its++[v]) (f:=(·.push v)) (t':=sA.toks) hDA e KE (rr.append<|.cons rA .nil) (by rw[fN,rB];omega);exact⟨m',hm,i+1,ys++[y],σ8,_,IB.unpinned,(back IB).1,(back IB).2,wA⟩
 exact codeAny_compStart_list loop<|T.self _ 0 _ _ _ st4 loop
theorem wU(vars:Q4)(sel:Q6)(hc:X.calm=true)(hi:PI X target iter wi)
  (ok:mi sc X.env.scope=true) (so:rW X.N sc sel=true)
  (hg:∀s H fp,PG (X.lc sc vars sel s H fp) target g) (hf:∀s H fp,PF (X.lc sc vars sel s H fp) ifs tf) (he:∀s H fp,PE (X.lc sc vars sel s H fp) elt te)
  (hs:autoParam (∀x,foldedSetIterable iter X.env x=pure x) Rj._auto_1):PE X (.ListComp elt [⟨target,iter,ifs,0⟩] sc pos) (Ad wi vars.length sel g tf te):=by
 intro E1 s σ H Q I h;rw[eval_ListComp];have ok':=ok;simp only[mi,dX,Qo]at ok';refine wpAny_comprehension_free (use:=none) rfl hs (Fz<|CO I ok) ok'.1.1 (λx hx hl=>?_) ?_
 .obtain⟨n,k⟩:=x
  have hl':k=.local:=hl;subst hl';exact CN ok'.1.2 hx
 .refine bO (hi E1 s σ H _ I h) λv s1 h1=>bO h1 λitv s2 h2=>?_
  obtain⟨it,fp,tn,J,H2,e,I2,T,st2,f2,q⟩:=h2;subst e;refine FC (Q:=Q) hc hg hf he ok so I2 T st2 f2 q λD C H' s' I' q' hn fC=>?_;obtain⟨m,hn⟩:=hn;refine⟨m,hn,λh' hs'=>?_⟩;obtain⟨f0,f1,f2,f3,f4,f5⟩:=fC;exact⟨.ref D,H',I'.turned (t':=s'.toks) (λb o hb e=>(hs'.2 b hb).trans e) f0 f1 f3 f4 f5,rfl,q'⟩
theorem CP{i:Nat}{pos' spos:Pos}(vars:Q4)(sel:Q6)(hc:X.calm=true)(hN:X.N.Nodup)(hix:X.N[i]? = some x)(hx:lC X.env.scope x)(hi:PI X target iter wi)
  (ok:mi sc X.env.scope=true) (so:rW X.N sc sel=true)
  (hg:∀s H fp,PG (X.lc sc vars sel s H fp) target g) (hf:∀s H fp,PF (X.lc sc vars sel s H fp) ifs tf) (he:∀s H fp,PE (X.lc sc vars sel s H fp) elt te)
  (hsw:swapsWith (.ListComp elt [⟨target,iter,ifs,0⟩] sc pos) (some<|.Name x pos') spos.line X.env=pure true)
  (hs:autoParam (∀x,foldedSetIterable iter X.env x=pure x) Rj._auto_1) (hfn:autoParam (Q8 X x) Ri._auto_1) :
  PS X (.Assign [.Name x pos'] (.ListComp elt [⟨target,iter,ifs,0⟩] sc pos) spos) (tN (Ad wi vars.length sel g tf te)<|lD i):=by
 intro E1 s σ H D I h;rw[exec_Assign_Name_used _ _ _ _ hsw];refine Qg<|QC (Qg ?_);show wpAny _ X.A (do let _ <-comprehension (.ListComp elt [⟨target,iter,ifs,0⟩] sc pos) sc X.env _ (newList []) false (eval iter X.env) (some<|assign (.Name x pos') X.env)) _ _ s;have ok':=ok;simp only[mi,dX,Qo]at ok';refine Qg<|Qv (wpAny_comprehension_free (use:=some<|assign (.Name x pos') X.env) (Q:=λ_ s'=>SP X E1 D .next s') rfl hs (Fz<|CO I ok) ok'.1.1 (λx hx hl=>?_) ?_) (λ_ s' q=>Qi<|Qi q) λ_ _ e=>e
 .obtain⟨n,k⟩:=x
  have hl':k=.local:=hl;subst hl';exact CN ok'.1.2 hx
 .refine bO (hi E1 s σ H _ I h) λv s1 h1=>bO h1 λitv s2 h2=>?_
  obtain⟨it,fp,tn,J,H2,e,I2,T,st2,f2,q⟩:=h2;subst e;refine FC (Q:=λv H'=>lD i v σ H' D.nx) hc hg hf he ok so I2 T st2 f2 q λD' C H' s' I' q' hn fC=>?_;obtain⟨m,hn⟩:=hn;obtain⟨f0,f1,f2,f3,f4,f5⟩:=id fC;refine wpAny_assign_Name<|gp I' hN hix hx (v:=.ref D') rfl (λs'' I'' ⟨a,sb,ha⟩=>?_) hfn;have hCa:C≠a:=by
   rcases ha with z|z
   .rw[z];exact f1
   .exact Qq<|f4 x a z
  refine⟨m,hn.sameBut sb hCa,λh' hs'=>?_⟩;exact⟨_,H',I''.turned (t':=s''.toks) (λb o hb e=>(hs'.2 b hb).trans e) f0 f1 f3 f4 f5,q'⟩
end
end L2
namespace HT
open PySem PySem.Spec PyProof.Rows
section
variable{prog:Program}{w:World}{A:Around}{E:Lb}{s:Shared}
theorem getItem_tuple_whole{t sl:Addr}{items:Array Value}{vl vu:Value}{lo hi:Option Int}{Q:Lb}(ht:IsTup s.heap t items)(hs:s.heap.IsSliceOf sl vl vu .none)(pl:IsPart vl lo)(pu:IsPart vu hi)
  (hw:sIx items.size 0 lo=0/\sIx items.size items.size hi=items.size) (h:Q (.ref t) s):wpAny (model prog w) A (getItem (.ref t)<|.ref sl) Q E s:=by
 obtain⟨os,hos,hcs,hds⟩:=id hs;have hTs:s.TypeIs (.ref sl) "slice" :=⟨os,hos,hcs⟩
 unfold getItem
 try with_reducible refine Qy ?_
 first|refine Qg (Qi ?_)|skip
 refine Qg<|wpAny_sequenceKey ht.typeIs F4 ?_;refine Qg (wpAny_callSpecial?_slot (name:=Str.ofString "__getitem__") ht.typeIs PyProof.Rows.slot_tuple_getitem
  (QD PyProof.Rows.slot_tuple_getitem ht.typeIs entry_tuple_getitem ?_<|args_tuple_getitem _ _))
 show wpAny _ _ (Builtin.Tuple.tupleItemsOf (.ref t) >>= _) _ _ s;refine Qg<|tupleItemsOf_ ht ?_;refine Qg<|QS hTs ?_;rw[ks<|F4];refine Qg<|dY hs pl pu ?_;have hyes:(((sIx items.size 0 lo:Nat):Int)==0&&(1:Int)==1&&(sIx items.size items.size hi-sIx items.size 0 lo)==items.size)=true:=by
  rw[hw.1,hw.2];simp
 show wpAny _ _ (if(((sIx items.size 0 lo:Nat):Int)==0&&(1:Int)==1&&(sIx items.size items.size hi-sIx items.size 0 lo)==items.size)=true then _ else _) _ _ s;rw[ks hyes];have ex:Builtin.Tuple.tupleIsExact (.ref t)=(do return(<-typeOf (.ref t))==.type "tuple"):=rfl;rw[ex];refine Qg<|Qg (QS ht.typeIs<|Qi ?_);rw[ks<|F4]
 first
  |exact Qg<|QN (Qg<|Qi<|Qi ⟨_,rfl,Qi h⟩)
  |exact Qg<|QN (Qi ⟨_,rfl,Qi h⟩)
  |exact Qg<|QN (Qg<|Qi ⟨_,rfl,Qi h⟩)
theorem J2{sl:Addr}{tk:Tok}{n:Nat}{Q:Int×Int×Nat->Shared->Prop}(hs:s.heap.IsSliceOf sl .none .none (.int (-1) tk))
  (h:Q ((n:Int)-1,-1,n) s):wpAny (model prog w) A (Builtin.Slice.sliceApplied (.ref sl)<|pure (n:Int)) Q E s:=by
 obtain⟨os,hos,hcs,hds⟩:=id hs;unfold Builtin.Slice.sliceApplied Builtin.Slice.sliceFields;refine Qg<|Qg (Qs hos hds (x:=.none) rfl<|Qg<|Qs hos hds (x:=.none) rfl<|Qg<|Qs hos hds (x:=.int (-1) tk) rfl<|Qi ?_);refine Qg<|slicePart_int ?_;show wpAny _ _ (if((-1:Int)==0)=true then _ else _) _ _ s;rw[fz<|F4];refine Qg<|slicePart_none (Qg<|slicePart_none<|Qg<|Qi ?_);show wpAny _ _ (match Builtin.Slice.sliceAdjust none none (-1) (n:Int) with|(lo,hi)=>pure (lo,(-1:Int),Builtin.Slice.slicePlaces lo hi (-1))) _ _ s;have e:Builtin.Slice.sliceAdjust none none (-1) (n:Int)=((n:Int)-1,-1):=by
  unfold Builtin.Slice.sliceAdjust;simp
 rw[e];have e2:Builtin.Slice.slicePlaces ((n:Int)-1) (-1) (-1)=n:=by
  unfold Builtin.Slice.slicePlaces;simp
  try omega
 show wpAny _ _ (pure ((n:Int)-1,(-1:Int),Builtin.Slice.slicePlaces ((n:Int)-1) (-1) (-1))) _ _ s;rw[e2];exact Qi h
theorem pick_rev(xs:Array Value):((List.range xs.size).filterMap λ(m:Nat)=>xs[((xs.size:Int)-1+(m:Int)*(-1)).toNat]?)=xs.toList.reverse:=by
 refine qw λi=>?_;have gen:∀(l:Q6),(∀m∈l,m<xs.size)->(l.filterMap λ(m:Nat)=>xs[((xs.size:Int)-1+(m:Int)*(-1)).toNat]?)=l.map λm=>xs.toList.getD (xs.size-1-m) .none:=by
  intro l;induction l with
  |nil=>intro _;rfl
  |cons m r ih=>
   intro hm;have h1:m<xs.size:=hm m gZ;have h2:((xs.size:Int)-1+(m:Int)*(-1)).toNat=xs.size-1-m:=E8
   have h3:xs.size-1-m<xs.size:=E8
   rw[zI,h2,Array.getElem?_eq_getElem h3,c8,ih λk hk=>hm k<|fM _ hk];simp[aZ,h3]
 rw[gen _ λm hm=>Yag.mp hm];by_cases hi:i<xs.size;rw[cH,iX hi,BT<|by simpa using hi];simp[aZ];rw[Array.getElem?_eq_getElem<|E8];simp;rw[eA (by simp;omega),eA (by simp;omega)]
theorem getItem_tuple_rev{t sl:Addr}{items:Array Value}{tk:Tok}{Q:Lb}(ht:IsTup s.heap t items)(hs:s.heap.IsSliceOf sl .none .none (.int (-1) tk))(hsz:items.size<=sizeLine)
  (h:Q (.ref s.heap.objs.size) { s with heap:=s.heap.push { cls:=.type "tuple",data:=.seq items.toList.reverse.toArray } }):wpAny (model prog w) A (getItem (.ref t)<|.ref sl) Q E s:=by
 have htake:sizeOk (.seq items.toList.reverse.toArray):=by
  show items.toList.reverse.toArray.size<=sizeLine;simpa using hsz
 obtain⟨os,hos,hcs,hds⟩:=id hs;have hTs:s.TypeIs (.ref sl) "slice" :=⟨os,hos,hcs⟩
 unfold getItem
 try with_reducible refine Qy ?_
 first|refine Qg (Qi ?_)|skip
 refine Qg<|wpAny_sequenceKey ht.typeIs F4 ?_;refine Qg (wpAny_callSpecial?_slot (name:=Str.ofString "__getitem__") ht.typeIs PyProof.Rows.slot_tuple_getitem
  (QD PyProof.Rows.slot_tuple_getitem ht.typeIs entry_tuple_getitem ?_<|args_tuple_getitem _ _))
 show wpAny _ _ (Builtin.Tuple.tupleItemsOf (.ref t) >>= _) _ _ s;refine Qg<|tupleItemsOf_ ht ?_;refine Qg<|QS hTs ?_;rw[ks<|F4];refine Qg<|J2 hs ?_;show wpAny _ _ (if((((items.size:Int)-1)==0&&(-1:Int)==1&&items.size==items.size)=true) then _ else _) _ _ s;rw[fz<|KE,pick_rev]
 first
  |exact Qg (m:=Builtin.Tuple.tupleExact _)<|Qu (Qi ⟨_,rfl,Qi h⟩) htake
  |exact Qg (m:=Builtin.Tuple.tupleExact _)<|Qu (Qg<|Qi<|Qi ⟨_,rfl,Qi h⟩) htake
  |exact Qg<|Qg (m:=Builtin.Tuple.tupleExact _) (Qu (Qi<|Qi ⟨_,rfl,Qi h⟩) htake)
  |exact Qg<|Qg (m:=Builtin.Tuple.tupleExact _) (Qu (Qi ⟨_,rfl,Qi h⟩) htake)
end
end HT
namespace L2
open PySem PySem.Spec PyProof.Rows
variable{X:Cx}{e tg:Expr}{pos p:Pos}{xs vs ys:Array Value}{us bm bmB:QX}{A:Around}{s:Shared}{P prog:Program}{env:Env}{outer:List Env}{l b a f:Addr}{Q:Lb}{oe o:Obj}{h h':Heap}{w:World}{g:Array GenState}{d:Drawn}{t t' i n1 k:Nat}{os:OsState}{nm q x n name qual:Str}{N sn ns ps:Q4}{hdct ab κ κ':Bool}{col:Option Bool}{dd:Option Addr}{newId:String}{mN m mg:QW}{y:Option Value}{tk:Tok}{H:Hp}{K:Qh}{scope:Scope}{cd:Value}{E1:K8}{σ:St}{es:List Expr}{ta:TA}{fd:FuncData}
section
variable{te:TE}{p2:Pos}
def wV(K:Qh):V->Option Int->Option Int->Hp->VK->Prop:=λx lo hi H Q=>∃a xs,x=.ref a/\SqT K H a xs/\
 (HT.sIx xs.length 0 lo=0/\HT.sIx xs.length xs.length hi=xs.length)/\Q (.ref a) H
theorem J3:SlR X (wV X.K):=by
 intro E1 s σ H x v vl vu lo hi sl Q I rx hs pl pu h;obtain⟨a,xs,rfl,hx,hw,q⟩:=h;cases rx;obtain⟨its,r,ht,hz⟩:=I.tuple hx;have hlen:its.toArray.size=xs.length:=by rw[fj];exact r.length.symm
 refine⟨"tuple",_,PyProof.Rows.slot_tuple_getitem.lookup,ht.typeIs,?_⟩;exact HT.getItem_tuple_whole ht hs pl pu (by rw[hlen];exact hw) ⟨.ref a,H,I,rfl,q⟩
def CQ(r:V->Hp->VK->Prop)(te:TE):TE:=λσ H Q=>te σ H λx H1=>r x H1 Q
def CU(K:Qh):V->Hp->VK->Prop:=λx H Q=>∃a xs,x=.ref a/\((SqT K H a xs/\∀p,H p=none->Q (.ref p) (upd H p<|.tup xs.reverse))\/(SqL K H a xs/\∀p,H p=none->Q (.ref p) (upd H p<|.lst xs.reverse)))
theorem Vals.rev{xs:Rg}(r:Vals xs us):Vals xs.reverse us.reverse:=by
 induction xs generalizing us with
 |nil=>cases r;exact .nil
 |cons x xs ih=>cases r with|cons r t=>rw[zP,zP];exact(ih t).append<|.cons r .nil
theorem J4(its:QX):slicePick its.toArray none none (some (-1))=its.reverse.toArray:=by
 have e:slicePick its.toArray none none (some (-1))=((sliceRange ((its.length:Int)-1) (-1) (-1)).filterMap (its.toArray[·]?)).toArray:=by unfold slicePick sliceBounds;simp
 rw[e];congr 1;have h:=HT.pick_rev its.toArray;rw[fj]at h;have h':its.toArray.toList.reverse=its.reverse:=KE
 rw[h']at h;rw[<-h];unfold sliceRange;simp only[show¬((-1:Int)>0) by decide,if_false];have hn:(if(-1:Int)<(its.length:Int)-1 then(its.length:Int) else 0).toNat=its.length:=by split<;>omega
 simp;rw[hn];rfl
theorem Ka{j pos3 pos4}(he:PE X e te):PE X (.Subscript e (.Slice none none (some<|.UnaryOp .USub (.Constant (.int 1) j pos3) pos4) p2) pos) (CQ (CU X.K) te):=by
 intro E1 s σ H Q I h;refine Subscript_<|bO (he E1 s σ H _ I h) λv s1 z0=>?_;obtain⟨x,H1,I1,r1,a,xs,ex,q1⟩:=z0;subst ex;cases r1;refine wpAny_Slice ?_;rw[evalPart_none];refine Qi<|Qi ?_;rw[evalPart_some];refine bO (rM (pz (X:=X)) kM E1 s1 σ H1 (λx H'=>x=.int (-1)/\H'=H1) I1 ⟨1,rfl,rfl,rfl⟩) λu s3 z0=>?_;obtain⟨y,H3,I3,r3,e3,e4⟩:=z0;subst e3;obtain rfl:=e4.symm;obtain⟨tk,rfl⟩:=r3;have I4:Inv X E1 σ H1 { s3 with heap:=s3.heap.push { cls:=.type "slice",data:=.fields #[.none,.none,.int (-1) tk] } }:=I3.kept (t':=s3.toks) λb ob q=>dM _ q;show wpAny (model X.prog X.w) X.A (subscriptTail e (.Slice none none (some<|.UnaryOp .USub (.Constant (.int 1) j pos3) pos4) p2) (.ref a)<|.ref s3.heap.objs.size) (EP X E1 σ Q) X.xe { s3 with heap:=s3.heap.push { cls:=.type "slice",data:=.fields #[.none,.none,.int (-1) tk] } };rcases q1 with⟨hx,q1⟩|⟨hx,q1⟩
 obtain⟨its,r,ht,hz⟩:=I4.tuple hx;have hlen:=r.length;refine tail_any (ops:=[.ref a,.ref s3.heap.objs.size]) ht.typeIs PyProof.Rows.slot_tuple_getitem.lookup (HT.getItem_tuple_rev ht (Heap.IsSliceOf.new ..) (by rw[fj];omega) ?_) (by with_unfolding_all rfl);refine⟨.ref _,_,I4.laid (t':=s3.toks) (o:=.tup xs.reverse) (λb ob q=>dM _ q) (bZ _) ?_,rfl,q1 _<|I4.hok.fresh<|bZ _⟩;exact⟨by rw[zQ];exact hz,_,r.rev,IsTup.new _ _⟩;obtain⟨its,r,ht,hz⟩:=I4.list hx;have hlen:=r.length;refine tail_any (ops:=[.ref a,.ref s3.heap.objs.size]) ht.isList.typeIs slot_list_getitem.lookup (wpAny_getItem_list_slice ht.isList (Heap.IsSliceOf.new ..) .none .none (.int (-1) tk) KE ?_ (by rw[fj];omega)) (by with_unfolding_all rfl);rw[J4];refine⟨.ref _,_,I4.laid (t':=s3.toks) (o:=.lst xs.reverse) (λb ob q=>dM _ q) (bZ _) ?_,rfl,q1 _<|I4.hok.fresh<|bZ _⟩;exact⟨by rw[zQ];exact hz,_,0,r.rev,g6 _ rfl⟩
end
namespace Fl
def mj(P:Obj->Prop):Prop:=∀(o:Obj) f,P o->P (o.mapFields f)
theorem Kb(o:Obj)(f:Array Value->Array Value):(o.mapFields f).dict=o.dict:=by unfold Obj.mapFields;split<;>rfl
def Is(cls:Value)(dx:Option Addr)(o:Obj):Prop:=o.cls=cls/\o.dict=dx
theorem Is.firm{cls:Value}{dx:Option Addr}:mj (Is cls dx):=λo f h=>⟨(Obj.cls_mapFields o f).trans h.1,(Kb o f).trans h.2⟩
def Tr(P:Obj->Prop)(base:Heap)(e:Addr)(fl:Value)(h:Heap):Prop:=
 ∃(oe:Obj) (vs:Array Value) (T:Addr) (oT:Obj) (ts:Array Value),h.get? e=some oe/\P oe/\oe.data=.fields vs/\vs[1]? = some (.ref T)/\base.get? T=none/\T≠e/\h.get? T=some oT/\oT.data=.fields ts/\ts[3]? = some fl
structure Up(P:Obj->Prop)(base:Heap)(l:List Env)(e:Addr)(fl:Value)(h:Heap):Prop where
 st:base.StaysIn h
 new:base.get? e=none
 fr:h.FunFrames base l
 tr:Tr P base e fl h
section
variable{M:Model}{E:Lb}{P:Obj->Prop}{base:Heap}{l:List Env}{L e:Addr}{fl:Value}{Q:Unit->Shared->Prop}
theorem entry(hP:mj P){head:Value}{b:Bool}(hA:A.frames=some (env::outer))(hl:s.heap.FunFrames base (env::outer))(hf:env.frame=some L)(he:s.heap.get? e=some oe)(hp:P oe)
  (st:base.StaysIn s.heap) (new:base.get? e=none) (hd:oe.data=.fields vs) (hz:1<vs.size) (k:∀h',Up P base (env::outer) e (rawInt L) h'->s.heap.UpToSlots h'->Q () { s with heap:=h' }) :
  wpAny M A (do let a <-frameOf env;let pl <-entryPlaceOf L b;let c <-EntryCells.newEntry head a .none (rawInt L) .none pl;setField (.ref e) 1 c) Q E s:=by
 have out:e∉(env::outer).filterMap (·.frame):=λz=>by
  obtain⟨_,o,ho,nf⟩:=hl.mem z;cases he.symm.trans ho;exact nf vs hd
 refine Qg<|wpAny_frameOf_fun hA hl hf λh1 so=>?_;refine Qg<|wpAny_entryPlaceOf λpl place=>?_;unfold EntryCells.newEntry newFields;refine Qg<|Qu ?_ (place.sizeOk5 _ _ _ _ _);generalize ho:({ cls:=.type "traceback",dict:=none,data:=.fields ([head,.ref L,.none,rawInt L,.none]++(if pl.isEmpty then List.replicate 6 Value.none else pl)).toArray }:Obj)=ob;have e1:h1.get? e=some oe:=(so.2.1 e out).trans he;have ne:h1.objs.size≠e:=zL<|dv e1;have e2:(h1.push ob).get? e=some oe:=dM ob e1;have fr0:ob.isFreed=false:=by rw[<-ho];exact Obj.isFreed_of_fields rfl
 refine QO e2 hd hz<|k _ ?_ ?_
 .have e3:=vP (Obj.mapFields (·.setIfInBounds 1 (Value.ref h1.objs.size))) e2 (Obj.isFreed_of_fields<|Obj.data_mapFields hd _)
  have oth:∀{c o},c≠e->h1.get? c=some o->((h1.push ob).update e (Obj.mapFields (·.setIfInBounds 1 (Value.ref h1.objs.size)))).get? c=some o:=λne hc=>(sR _ _<|Qq ne).trans (dM ob hc);refine⟨λc o hc=>?_,new,hl.of_keeps λc o hc nf=>?_,_,_,h1.objs.size,ob,_,e3,hP _ _ hp,Obj.data_mapFields hd _,by simp[hz],?_,ne,(sR _ _<|Qq ne).trans (g6 h1 fr0),by rw[<-ho],?_⟩
  .exact oth (λz=>by rw[z,new]at hc;cases hc)<|(so.2.1 c λz=>by rw[(hl.mem z).1]at hc;cases hc).trans (st c o hc)
  .obtain⟨sl,hs⟩:=so.2.2 c o hc
   exact⟨_,oth (λz=>by rw[z,he]at hc;cases hc;exact nf vs hd) hs,rfl⟩
  .cases q:base.get? h1.objs.size with
   |none=>rfl
   |some o=>
    have:h1.get? h1.objs.size=some o:=(so.2.1 _ λz=>by rw[(hl.mem z).1]at q;cases q).trans (st _ o q);exact Qj (dv this)<|iu _
  .rcases place with rfl|⟨_,_,_,_,_,_,_,rfl⟩<;>simp
 .intro c o hc nf
  obtain⟨sl,hs⟩:=so.2.2 c o hc;exact⟨sl,(sR _ _ (Qq λz=>by rw[z,he]at hc;cases hc;exact nf vs hd)).trans (dM ob hs)⟩
theorem Kc(hP:mj P)(hA:A.frames=some (env::outer))(hl:s.heap.FunFrames base (env::outer))(hf:env.frame=some L)(he:s.heap.get? e=some oe)(hp:P oe)
  (st:base.StaysIn s.heap) (new:base.get? e=none) (hd:oe.data=.fields vs) (h1:vs[1]? = some .none) (k:∀h',Up P base (env::outer) e (rawInt L) h'->s.heap.UpToSlots h'->Q () { s with heap:=h' }) :
  wpAny M A (noteFrame (.ref e) env) Q E s:=by
 unfold noteFrame;simp only[hf];refine Qg<|Qs he hd h1 ?_;rw[fz<|F4];exact entry hP hA hl hf he hp st new hd (Ybp.mp h1).1 k
theorem note(hP:mj P)(hA:A.frames=some (env::outer))(hf:env.frame=some L)(u:Up P base (env::outer) e .none s.heap)
  (k:∀h',Up P base (env::outer) e (rawInt L) h'->s.heap.UpToSlots h'->Q () { s with heap:=h' }):wpAny M A (noteFrame (.ref e) env) Q E s:=by
 obtain⟨st,new,fr,oe,vs,T,oT,ts,he,hp,hd,h1,nT,Te,hT,dT,h3⟩:=u;unfold noteFrame;simp only[hf];refine Qg<|Qs he hd h1 ?_;rw[ks (show(Value.ref T != Value.none)=true from KE)];refine Qg<|Qs hT dT h3 ?_;rw[fz<|by simp[rawInt]];refine Qg<|QO hT dT (Ybp.mp h3).1 ?_;have oth:∀{c o},c≠T->s.heap.get? c=some o->(s.heap.update T (Obj.mapFields (·.setIfInBounds 3 Value.none))).get? c=some o:=λne hc=>(sR _ _<|Qq ne).trans hc;have notT:∀{c o},s.heap.get? c=some o->(∀vs,o.data≠.fields vs)->c≠T:=λhc nf z=>by
  rw[z,hT]at hc;cases hc;exact nf ts dT
 refine entry hP hA (fr.of_keeps λc o hc nf=>⟨o,oth (notT hc nf) hc,rfl⟩) hf (oth (Qq Te) he) hp (λc o hc=>oth (λz=>by rw[z,nT]at hc;cases hc)<|st c o hc) new hd (Ybp.mp h1).1 λh' u' up=>k h' u' λc o hc nf=>up c o (oth (notT hc nf) hc) nf
theorem lands(u:Up P base l e fl s.heap)(k:∀h',Up P base l e .none h'->s.heap.UpToSlots h'->Q () { s with heap:=h' }):wpAny M A (setFlight (.ref e) none) Q E s:=by
 obtain⟨st,new,fr,oe,vs,T,oT,ts,he,hp,hd,h1,nT,Te,hT,dT,h3⟩:=u;have oth:∀{c o},c≠T->s.heap.get? c=some o->(s.heap.update T (Obj.mapFields (·.setIfInBounds 3 ((none:Option Addr).elim Value.none λf=>rawInt f)))).get? c=some o:=λne hc=>(sR _ _<|Qq ne).trans hc;have notT:∀{c o},s.heap.get? c=some o->(∀vs,o.data≠.fields vs)->c≠T:=λhc nf z=>by rw[z,hT]at hc;cases hc;exact nf ts dT
 have z3:=(Ybp.mp h3).1;unfold setFlight;refine Qg<|Qs he hd h1 ?_;rw[ks (show(Value.ref T != Value.none)=true from KE)];refine QO hT dT z3<|k _ ⟨λc o hc=>oth (λz=>by rw[z,nT]at hc;cases hc)<|st c o hc,new,fr.of_keeps λc o hc nf=>⟨o,oth (notT hc nf) hc,rfl⟩,oe,vs,T,_,_,oth (Qq Te) he,hp,hd,h1,nT,Te,vP _ hT<|Obj.isFreed_of_fields<|Obj.data_mapFields dT _,Obj.data_mapFields dT _,by simp[z3]⟩ λc o hc nf=>⟨o.slots,oth (notT hc nf) hc⟩
theorem Up.there(u:Up P base l e fl h):∃ob,h.get? e=some ob/\P ob/\∃vs,ob.data=.fields vs:=by obtain⟨oe,vs,_,_,_,he,hp,hd,_⟩:=u.tr;exact⟨oe,he,hp,vs,hd⟩
theorem leaves(hP:mj P)(hA:A.frames=some (env::outer))(hf:env.frame=some L)(u:Up P base (env::outer) e .none s.heap)(k:∀h',Up P base outer e .none h'->s.heap.UpToSlots h'->Q () { s with heap:=h' }) :
  wpAny M A (leaving env<|.ref e) Q E s:=by
 unfold leaving;exact Qg<|note hP hA hf u λh1 u1 up1=>lands (s:={ s with heap:=h1 }) u1 λh2 u2 up2=>k h2 ⟨u2.st,u2.new,u2.fr.2.2,u2.tr⟩ (up1.trans up2)
theorem leaves_new(hP:mj P)(hA:A.frames=some (env::outer))(hl:s.heap.FunFrames base (env::outer))(hf:env.frame=some L)(he:s.heap.get? e=some oe)(hp:P oe)
  (st:base.StaysIn s.heap) (new:base.get? e=none) (hd:oe.data=.fields vs) (h1:vs[1]? = some .none) (k:∀h',Up P base outer e .none h'->s.heap.UpToSlots h'->Q () { s with heap:=h' }):wpAny M A (leaving env<|.ref e) Q E s:=by
 unfold leaving;exact Qg<|Kc hP hA hl hf he hp st new hd h1 λh1 u1 up1=>lands (s:={ s with heap:=h1 }) u1 λh2 u2 up2=>k h2 ⟨u2.st,u2.new,u2.fr.2.2,u2.tr⟩ (up1.trans up2)
end
abbrev ue(C t:Addr)(dx:Option Addr):Obj:={ cls:=.ref C,dict:=dx,data:=.fields #[.ref t,.none,.none,.none,.bool false,.none] }
section
variable{M:Model}{E:Lb}
variable{C N fI:Addr}{bs:QX}{sub:QX}{k0 k1 k2 k3 k5:Option Value}{B initId:String}{rest:QX}{oI:Obj}
theorem Kd{x:Sem Value}{Q:Flow->Shared->Prop}(hb:bm.contains (.type "BaseException")=true)(hh:A.handled=none)
  (hx:wpAny M A x (λv s1=>∃e t dx,v=.ref e/\s1.heap.get? C=some (excClassObj nm q C N bs bm hdct sn sub ab col dd k0 k1 k2 k3 k5 newId)/\s1.heap.get? e=some (ue C t dx)/\E (.ref e) s1) E s) :
  wpAny M A (raiseStmt env (some x) none) Q E s:=by
 have isB:(Value.ref C::bm).contains (.type "BaseException")=true:=by
  rw[vb,hb,Bool.or_true]
 unfold raiseStmt;refine Qg<|Qv hx (λv s1 y=>?_) λ_ _ z=>z;obtain⟨e,t,dx,rfl,cC,ce,k⟩:=y;obtain⟨hp,g,d,tk,os⟩:=s1
 repeat (first|with_reducible refine Qr ce ?_|with_reducible refine Qr cC ?_|(with_reducible refine QH cC ?_;rw[isB])|wp_step)
 exact wpAny_raiseNew_none hh k
theorem Ke(F:ExcBaseFacts B newId initId bmB)(T:OwnTail h bmB bm){Q:Fin->Shared->Prop}(hC:h.get? C=some (excClassObj nm q C N bs bm hdct sn sub ab col dd k0 k1 k2 k3 k5 newId))(hn:h.Ns N mN)(hi:mN "__init__" = some (.ref fI))
  (hf:h.get? fI=some oI) (hc:oI.cls=.type "function") (k:∀h' e,Heap.MadeExcOf h h' e (.ref C) rest->wpAny (model prog w) A (call (.ref fI) (.ref e::rest)) (λr s'=>r=.none/\Q (.done<|.ret<|.ref e) s') E ⟨h',g,d,t,os⟩)
  (hr:rest.length<=sizeLine:=by size_fits):wpAny (model prog w) A (Builtin.«type.__call__» ⟨.ref C::rest,[]⟩) Q E ⟨h,g,d,t,os⟩:=by
 repeat (first|with_reducible refine Qr hC ?_|with_reducible refine wpAny_madeBy_exc hC ?_|wp_step)
 refine codeAny_call_builtin_code (Code.quiet_builtin _ F.quiet)<|wpAny_check_new_subT F T hC (codeAny_exc_new_subT F T hC ?_ hr);show wpAny _ _ _ _ _ _;generalize e0:h.push { cls:=.type "tuple",data:=.seq rest.toArray }=h0;generalize e1:h0.push (ue C h.objs.size none)=h1;have sz0:h0.objs.size=h.objs.size+1:=by rw[<-e0,oW]
 have up:∀b o,h.get? b=some o->h1.get? b=some o:=λb o z=>by
  rw[<-e1,<-e0];exact dM _<|dM _ z
 have at1:h1.get? (h.objs.size+1)=some (ue C h.objs.size none):=by
  rw[<-e1];exact BU sz0.symm rfl
 have att:h1.get? h.objs.size=some { cls:=.type "tuple",data:=.seq rest.toArray }:=by
  rw[<-e1,<-e0];exact dM _<|BU rfl rfl
 have C1:=up _ _ hC;have N1:h1.Ns N mN:=by
  obtain⟨o,es,ep,z,r⟩:=hn;exact⟨o,es,ep,up _ _ z,r⟩
 have T1:OwnTail h1 bmB bm:=T.keeps up;have me:(Value.ref C::bm).contains (.ref C)=true:=KE
 unfold isInstance
 repeat (first|with_reducible refine Qr at1 ?_|(with_reducible refine QH C1 ?_;rw[me])|wp_step)
 show wpAny _ _ (typeLookup (.ref C) _) _ _ _;refine wpAny_typeLookup_tail C1 N1 T1 F.mroIs F.init.lookup ?_;rw[hi];refine Qy<|Qg ?_;unfold bindSpecial;refine Qg<|QS (T:= "function") ⟨_,up _ _ hf,hc⟩ ?_;rw[ks<|F4];have new1:h.get? (h.objs.size+1)=none:=zJ<|oY _;have new0:h.get? h.objs.size=none:=zJ<|bZ _;refine Qi<|Qg (Qv (k h1 (h.objs.size+1) ⟨up,new1,h.objs.size,at1,new0,att⟩) (λr s' z=>?_) λ_ _ z=>z);obtain⟨rfl,z⟩:=z
 wp_walk
 exact z
theorem Kf(F:ExcBaseFacts B newId initId bmB)(T:OwnTail h bmB bm)(hC:h.get? C=some (excClassObj nm q C N bs bm hdct sn sub ab col dd k0 k1 k2 k3 k5 newId))(hn:h.Ns N mN)(hi:mN "__init__" = some (.ref fI))
  (hf:h.get? fI=some oI) (hc:oI.cls=.type "function") (k:∀h' e,Heap.MadeExcOf h h' e (.ref C) rest->wpAny (model prog w) (A.under<|.builtin "type.__call__" ⟨.ref C::rest,[]⟩) (call (.ref fI) (.ref e::rest)) (λr s'=>r=.none/\Q (.ref e) s') E ⟨h',g,d,t,os⟩)
  (hr:rest.length<=sizeLine:=by size_fits):wpAny (model prog w) A (call (.ref C) rest) Q E ⟨h,g,d,t,os⟩:=by
 have q1:=tc_lookup;have q2:=tc_bind<|.ref C;have q3:(⟨h,g,d,t,os⟩:Shared).TypeIs (.ref C) "type" :=⟨_,hC,rfl⟩
 refine wpAny_call<|codeAny_of_tree ?_;show wpAny _ _ (callAny (.ref C) _) _ _ _
 repeat (any_goals (first|assumption|with_reducible refine Qr hC ?_|wp_step))
 refine⟨rfl,codeAny_call_builtin_at (Code.quiet_builtin _<|wp) entry_typeCall<|wpAny_check_type_call_sub hC<|Ke (hr:=hr) F T hC hn hi hf hc k⟩
theorem Kg(F:ExcBaseFacts B newId initId bmB){np cpos:Pos}{args:List Expr}{Q:Flow->Shared->Prop}(hb:bm.contains (.type "BaseException")=true)(hh:A.handled=none)(hp:(backTo cpos<|starEach args env).any (·.1)=false)(hi:mN "__init__" = some (.ref fI))(hc:oI.cls=.type "function")
  (k:wpAny (model prog w) A (eval (.Name x np) env) (λf s1=>f = .ref C/\wpAny (model prog w) A (evalArgs (.ref C) true (backTo cpos<|starEach args env) [])
   (λa s2=>a.kw=[]/\a.pos.length<=sizeLine/\s2.heap.get? C=some (excClassObj nm q C N bs bm hdct sn sub ab col dd k0 k1 k2 k3 k5 newId)/\s2.heap.Ns N mN/\OwnTail s2.heap bmB bm/\s2.heap.get? fI=some oI/\
    ∀h' e,Heap.MadeExcOf s2.heap h' e (.ref C) a.pos->wpAny (model prog w) (A.under<|.builtin "type.__call__" ⟨.ref C::a.pos,[]⟩) (call (.ref fI) (.ref e::a.pos))
     (λr s3=>r=.none/\∃t dx,s3.heap.get? C=some (excClassObj nm q C N bs bm hdct sn sub ab col dd k0 k1 k2 k3 k5 newId)/\s3.heap.get? e=some (ue C t dx)/\E (.ref e) s3) E { s2 with heap:=h' }) E s1) E s) :
  wpAny (model prog w) A (exec (.Raise (some<|.Call (.Name x np) args [] cpos) none pos) env) Q E s:=by
 rw[arm_exec_Raise];refine Qg<|QC (Kd (C:=C) (nm:=nm) (q:=q) (N:=N) (bs:=bs) (bm:=bm) (hdct:=hdct) (sn:=sn) (sub:=sub) (ab:=ab) (col:=col) (dd:=dd) (k0:=k0) (k1:=k1) (k2:=k2) (k3:=k3) (k5:=k5) (newId:=newId) hb hh ?_);refine Qg<|Qv (wpAny_Call_ofName<|Qv k (λf s1 y=>?_) λ_ _ z=>z) (λv s3 y=>Qg<|QC<|Qi y) λ_ _ z=>z;obtain⟨rfl,y⟩:=y;unfold callWith;refine Qg<|Qy (Qv y (λa s2 y=>Qg<|QC ?_) λ_ _ z=>z);obtain⟨ap,ak⟩:=a;obtain⟨rfl,hl,cC,cN,T,cI,y⟩:=y;obtain⟨hp',g,d,tk,os⟩:=s2;simp only[hp];refine Qg<|wpAny_keeperOf_exc cC (Qg<|Kf (hr:=hl) F T cC cN hi cI hc λh' e m=>Qv (y h' e m) (λr s3 z=>?_) λ_ _ z=>z);obtain⟨rfl,t,dx,z1,z2,z3⟩:=z;exact⟨rfl,Qg<|Qy<|wpAny_point<|Qi ⟨e,t,dx,rfl,z1,z2,z3⟩⟩
end
end Fl
namespace Fl
open PySem.Builtin PySem.Builtin.ObjectAttr
inductive Tl (h:Heap) (ns:Q4) (bmB:QX):QX->Prop
 |last:Tl h ns bmB bmB
 |more {a:Addr} {c:Value} {dd:Option Addr} {cd:ClassData} {sl:Array (Option Value)} {m:QW} {l:QX}:h.get? a=some ⟨c,dd,.cls cd,sl⟩->h.Ns cd.ns m->(∀n∈ns,m n=none)->Tl h ns bmB l->Tl h ns bmB (.ref a::l)
section
variable{l:QX}
theorem Tl.has(T:Tl h ns bmB l){X:String}{b:Bool}(q:bmB.contains (.type X)=b):l.contains (.type X)=b:=by
 induction T with
 |last=>exact q|more _ _ _ _ ih=>rw[vb,ih];rfl
theorem Tl.keeps(T:Tl h ns bmB l)(k:∀b o,h.get? b=some o->h'.get? b=some o):Tl h' ns bmB l:=by
 induction T with
 |last=>exact .last|more a b c _ ih=>exact .more (k _ _ a) (b.keeps k) c ih
theorem Tl.own(T:Tl h ns bmB l)(i:("__init__" : Str)∈ns):OwnTail h bmB l:=by
 induction T with
 |last=>exact .base|more a b c _ ih=>exact .own a b (c _ i) ih
theorem Tl.passes(T:Tl h ns bmB l)(self:Value)(what:Str):refuseLoop self what l=refuseLoop self what bmB:=by
 induction T with
 |last=>rfl|more _ _ _ _ ih=>rw[refuseLoop_ref,ih]
end
section
variable{M:Model}{E:Lb}
variable{C N x:Addr}{bs:QX}{sub:QX}{k0 k1 k2 k3 k5:Option Value}{B sa owner:String}
theorem wW{l:QX}{Q:Option Value->Shared->Prop}(T:Tl h ns bmB l)(i:n∈ns)(r:lookupAlong bmB n=pure y)(k:Q y ⟨h,g,d,t,os⟩):wpAny M A (lookupAlong l n) Q E ⟨h,g,d,t,os⟩:=by
 induction T with
 |last=>rw[r];exact Qi k|more a b c _ ih=>rw[lookupAlong_cons];refine Qg<|wpAny_classOwn_cls a b ?_;rw[c n i];exact ih
theorem j6{Q:Option Value->Shared->Prop}(hC:h.get? C=some (excClassObj nm q C N bs bm hdct sn sub ab col dd k0 k1 k2 k3 k5 newId))(hN:h.Ns N mN)(hm:mN n=none)(T:Tl h ns bmB bm)(i:n∈ns)
  (b:mroOf (.type B)=pure bmB) (hB:typeLookup (.type B) n=pure y) (k:Q y ⟨h,g,d,t,os⟩):wpAny M A (typeLookup (.ref C) n) Q E ⟨h,g,d,t,os⟩:=by
 have r:lookupAlong bmB n=pure y:=by
  rw[typeLookup_eq,b]at hB;exact hB
 rw[typeLookup_eq];refine Qg<|wpAny_mroOf_exc hC ?_;rw[lookupAlong_cons];refine Qg<|wpAny_classOwn_exc hC hN ?_;rw[hm];exact wW T i r k
theorem Kh{v:Value}{Q:Unit->Shared->Prop}(SF:StoreFacts B bmB sa owner)(hC:h.get? C=some (excClassObj nm q C N bs bm true sn sub ab col dd k0 k1 k2 k3 k5 newId))(hN:h.Ns N mN)(T:Tl h ns bmB bm)
  (m1:mN "__setattr__" = none) (m2:mN name=none) (i1:("__setattr__" : Str)∈ns) (i2:name∈ns) (hB:typeLookup (.type B) name=pure none) (hx:h.get? x=some o) (hc:o.cls=.ref C) (hd:o.dict=none) (hv:o.data=.fields vs)
  (k:∀h' tk dx m,h.get? dx=none->dx≠x->h'.get? x=some { o with dict:=some dx }->h'.Ns1 dx m->m name=some v->(∀n,n≠name->m n=none)->(∀b u,b≠x->h.get? b=some u->h'.get? b=some u)->Q () ⟨h',g,d,tk,os⟩) :
  wpAny (model prog w) A (setAttr (.ref x) name v) Q E ⟨h,g,d,t,os⟩:=by
 have bi:=SF.slot.bind<|.ref x;have own:(Value.ref C::bm).contains (.type owner)=true:=by rw[vb,T.has SF.hasOwner,Bool.or_true]
 have pass:=SF.passes<|.ref x;unfold setAttr callSpecial? specialOf
 repeat (any_goals (first|assumption|(with_reducible refine Qr hx ?_;rw[hc])|with_reducible refine j6 hC hN m1 T i1 SF.mro SF.slot.lookup ?_|wp_step))
 refine codeAny_call_builtin SF.slot.plain SF.entry ?_;simp only[checkBuiltinCall,SF.kind,SF.split];refine Qg ?_;unfold isInstance
 repeat (first|(with_reducible refine Qr hx ?_;rw[hc])|(with_reducible refine QH hC ?_;rw[own])|wp_step)
 have chk:∀{R:Unit->Shared->Prop} {z:Shared},R () z->wpAny (model prog w) A.in1 (match Manifest.signature? sa with|some sig=>Bind.checkArgs sa sig ⟨[.ref x]++[.str name t,v],[]⟩|_=>pure ()) R (λe s'=>E e s') z:=by
  intro R z r;cases e:Manifest.signature? sa with
  |none=>exact Qi r
  |some sig=>
   have ar:=SF.args (.ref x) (.str name t) v;simp only[argsOk,e]at ar;have ar':Bind.checkArgs sa sig ⟨[.ref x]++[.str name t,v],[]⟩=pure ():=ar;show wpAny _ _ (Bind.checkArgs sa sig ⟨[.ref x]++[.str name t,v],[]⟩) _ _ _;rw[ar'];exact Qi r
 refine chk ?_;clear chk;unfold Builtin.«object.__setattr__»
 repeat (first|rw[refuse_eq]|(rw[refuseLoop_ref,T.passes,pass])|(with_reducible refine Qr hx ?_;rw[hc])|with_reducible refine wpAny_mroOf_exc hC ?_|with_reducible refine j6 hC hN m2 T i2 SF.mro hB ?_|wp_step)
 rw[hd,fz<|by simp[typeHasDict],hv];generalize e1:h.push { cls:=.type "dict",data:=.dict #[] }=h1;have in1:∀b u,h.get? b=some u->h1.get? b=some u:=λb u z=>by rw[<-e1];exact dM _ z
 have nx:x≠h.objs.size:=gY<|dv hx;refine Qg<|wpAny_alloc' ?_;rw[e1];refine Qg<|wpAny_update' (in1 _ _ hx) (Qi ?_);have fr:({ o with dict:=some h.objs.size }:Obj).isFreed=false:=Obj.isFreed_of_fields hv;generalize e2:(h1.update x λo=>{ cls:=o.cls,dict:=some h.objs.size,data:=o.data,slots:=o.slots })=h2;have at2:h2.get? x=some { o with dict:=some h.objs.size }:=by rw[<-e2];exact vP _ (in1 _ _ hx) fr
 have oth:∀b,b≠x->h2.get? b=h1.get? b:=λb ne=>by rw[<-e2];exact Heap.get?_update_ne _ _ _ _ ne
 have new2:h2.get? h.objs.size=some { cls:=.type "dict",data:=.dict #[] }:=by
  rw[oth _<|Qq nx,<-e1];exact BU rfl rfl
 have emp:h2.Ns h.objs.size (λ_=>none):=⟨_,#[],_,new2,rfl,λe z=>Qj z<|KE,λ_=>rfl⟩
 show wpAny _ _ (storeInDict h.objs.size (.str name t) name v) _ _ _;unfold storeInDict newKeyGuard;refine Qg<|Qi (Qg<|wpAny_nsSet1 (Heap.Ns1.of_empty emp) λh3 n3 same=>?_);obtain⟨oD,es,ep,g1,g2,g3⟩:=n3.count<|Within.cons name v Within.nil;refine Qg<|wpAny_lookBehind g1 (by rw[g2];exact pastItsLine_dict<|fL g3 (by rw[dR,iw,sizeLine_eq];omega)) ?_
 wp_walk
 refine k h3 _ h.objs.size _ (zJ<|bZ _) (Qq nx) ((same.2 x nx).trans at2) n3 KE (λn ne=>by simp[ne]) λb u ne z=>?_;exact(same.2 b<|gY<|dv z).trans ((oth b ne).trans (in1 b u z))
end
section
variable{M:Model}{E:Lb}
variable{C N dx:Addr}{bs:QX}{sub:QX}{k0 k1 k2 k3 k5:Option Value}{B:String}{v:Value}
theorem Ki{Q:PySem.Fin->Shared->Prop}(FB:ExcAttrBase B bmB)(hC:h.get? C=some (excClassObj nm q C N bs bm true sn sub ab col dd k0 k1 k2 k3 k5 newId))(hN:h.Ns N mN)(T:Tl h ns bmB bm)
  (m3:mN name=none) (i3:name∈ns) (hB:typeLookup (.type B) name=pure none)
  (hx:h.get? a=some o) (hc:o.cls=.ref C) (hd:o.dict=some dx) (hv:o.data=.fields vs) (hm:h.Ns dx m) (hn:m name=some v) (k:Q (.done<|.ret v) ⟨h,g,d,t,os⟩):wpAny (model prog w) A (Builtin.«object.__getattribute__» ⟨[.ref a,.str name tk],[]⟩) Q E ⟨h,g,d,t,os⟩:=by
 repeat (any_goals (first|assumption|(with_reducible refine Qr hx ?_;rw[hc])|with_reducible refine j6 hC hN m3 T i3 FB.mro hB ?_|wp_step))
 rw[hv];dsimp only;unfold instanceDict
 repeat (any_goals (first|assumption|with_reducible refine Qr hx ?_|wp_step))
 rw[hd,hc];dsimp only
 repeat (any_goals (first|assumption|(with_reducible refine wpAny_nsGet hm ?_;rw[hn])|with_reducible refine Qr hC ?_|wp_step))
theorem get_field{ex:Bool}(FB:ExcAttrBase B bmB)(hC:h.get? C=some (excClassObj nm q C N bs bm true sn sub ab col dd k0 k1 k2 k3 k5 newId))(hN:h.Ns N mN)(T:Tl h ns bmB bm)
  (m1:mN "__getattribute__" = none) (m2:mN "__getattr__" = none) (m3:mN name=none) (i1:("__getattribute__" : Str)∈ns) (i2:("__getattr__" : Str)∈ns) (i3:name∈ns) (hB:typeLookup (.type B) name=pure none)
  (hx:h.get? a=some o) (hc:o.cls=.ref C) (hd:o.dict=some dx) (hv:o.data=.fields vs) (hm:h.Ns dx m) (hn:m name=some v) (ho:handedOut v=pure v) (k:Q v ⟨h,g,d,t+1,os⟩):wpAny (model prog w) A (getAttr (.ref a) name ex) Q E ⟨h,g,d,t,os⟩:=by
 have bi:=FB.ga.bind<|.ref a;have x0:(ex&&onTheHeap (Value.builtin "BaseException.__getattribute__"))=false:=by cases ex<;>rfl
 have x2:(Value.builtin "BaseException.__getattribute__" == Value.builtin "object.__getattribute__")=false:=wp
 have x1:(onTheHeap (Value.ref C)&&Value.builtin "BaseException.__getattribute__" == Value.builtin "object.__getattribute__")=false:=by rw[x2];rfl
 have kd:builtinKind "BaseException.__getattribute__" = some .slot:=wp
 have sp:splitId "BaseException.__getattribute__" = some ("BaseException", "__getattribute__"):=wp
 have isB:(Value.ref C::bm).contains (.type "BaseException")=true:=by rw[vb,T.has FB.hasBase];rfl
 have ar:=F.args_bexc_ga (.ref a)<|.str name t;have chk:∀{M:Model} {A:Around} {E:Lb} {R:Unit->Shared->Prop} {u:Nat},R () ⟨h,g,d,u,os⟩->wpAny M A (checkBuiltinCall "BaseException.__getattribute__" ⟨[.ref a]++[.str name t],[]⟩) R E ⟨h,g,d,u,os⟩:=by
  intro M A E R u r;simp only[checkBuiltinCall,kd,sp];refine Qg ?_;unfold isInstance
  repeat (first|(with_reducible refine Qr hx ?_;rw[hc])|(with_reducible refine QH hC ?_;rw[isB])|wp_step)
  exact r
 unfold getAttr
 repeat (any_goals (first|assumption|(with_reducible refine Qr hx ?_;rw[hc])|with_reducible refine j6 hC hN m1 T i1 FB.mro FB.ga.lookup ?_|with_reducible refine j6 hC hN m2 T i2 FB.mro FB.noGetattr ?_|wp_step))
 refine codeAny_call_builtin FB.ga.plain F.entry_bexc_ga<|chk (Ki FB hC hN T m3 i3 hB hx hc hd hv hm hn ?_);show wpAny _ _ (handedOut v) _ _ _;rw[ho];exact Qi k
end
end Fl
def dj(P:Program)(w:World):mX:=λouter H s E e s'=>∃(ea:Addr) (cls:Value) (dx:Option Addr) (H':Hp) (B:Heap),e=.ref ea/\Fl.Up (Fl.Is cls dx) B outer ea .none s'.heap/\s'.os=s.os/\AllBare s'.gens/\Un (dg outer) [] H H' s.heap s'.heap/\HOk P w H' s'.heap/\
 (∀b o,s.heap.get? b=some o->b∉dg outer->∃o',B.get? b=some o')/\(∀b u,H' b=some u->∃o,B.get? b=some o)/\E cls dx H'
theorem cU:cF (dj P w) X E0:=by rintro _ _ _ _ _ _ _ ⟨_,_,_,_,_,_,_,_,_,_,_,_,_,z⟩;exact z.elim
theorem HOk.through{B h2:Heap}(hok:HOk P w H h)(hT:∀ b u,H b=some u->∃ o,B.get? b=some o)(s1:B.StaysIn h)(s2:B.StaysIn h2):HOk P w H h2:=λa o e=>(hok a o e).stay (λb u hb q=>by
  have hb':∃v,H b=some v:=by
   rcases hb with rfl|hb
   .exact⟨_,e⟩
   .exact⟨_,hb⟩
  obtain⟨v,hv⟩:=hb';obtain⟨o',eB⟩:=hT b v hv;have:=s1 b o' eB;rw[q]at this;cases this;exact s2 b _ eB) (λ_ z=>z) λ_ _ z=>z
section
variable{base:Heap}{E:XK}
theorem wX{l:List Env}(h:b∈dg l):b∈dg (env::l):=by unfold dg at h ⊢;obtain⟨e,h1,h2⟩:=Yaz.mp h;exact Yaz.mpr ⟨e,fM _ h1,h2⟩
theorem FD:cF (dj P w) (c9 (dj P w) P w K mg base N qual scope f cd A outer s H E) E:=by
 rintro E1 σ H1 s1 _ s' I ⟨ea,cls,dx,H',B,rfl,fl,hos,hbare,un,hok,hB,hT,hE⟩;have nostk:∀b o,s.heap.get? b=some o->b∉dg outer->b∉dg (envOfC qual scope s.heap.objs.size f cd::outer):=λb o e hb hm=>by
  rcases Yan.mp (I.stkSub b hm) with z|z
  have l1:=dv e;have l2:s.heap.objs.size<=(envOfC qual scope s.heap.objs.size f cd).locals:=I.ok.above;have z':b=(envOfC qual scope s.heap.objs.size f cd).locals:=z;rw[<-z']at l2;exact Qj (dw l1 l2)<|iu _
  exact hb z
 have ib:Un (dg outer) [] H H1 s.heap s1.heap:=I.base;show wpAny (model P w) (A.deeper<|envOfC qual scope s.heap.objs.size f cd) (leaving (envOfC qual scope s.heap.objs.size f cd)<|.ref ea) (λ_ s''=>dj P w outer H s E (.ref ea) s'') _ s';refine Fl.leaves Fl.Is.firm I.ok.frames rfl fl λh2 fl2 up=>?_;have frm:∀b,b∈dg (envOfC qual scope s.heap.objs.size f cd::outer)->∃o,s'.heap.get? b=some o/\∀vs,o.data≠.fields vs:=λb hb=>(fl.fr.mem hb).2;refine⟨ea,cls,dx,H',B,rfl,fl2,hos.trans I.os,hbare,⟨λb o e n hb _=>?_,λb o e n hb _=>?_,λb o e n _=>?_,λb o e _=>?_,λb xs e=>un.tups b xs<|ib.tups b xs e,λb o xs e=>un.frzs b o xs<|ib.frzs b o xs e,λb ps e=>?_,λ_ ⟨o,e⟩ n=>un.sys KE (ib.there _ o e<|KE)<|ib.sys KE ⟨o,e⟩ n⟩,hok.through hT fl.st fl2.st,λb o e hb=>?_,hT,hE⟩;have e1:=ib.keep b o e n hb KE;have n1:=ib.free b o e n KE;have e2:=un.keep b o e1 n1 (nostk b o e hb) KE;obtain⟨o',eB⟩:=hB b o e1<|nostk b o e hb;have:=fl.st b o' eB;rw[e2]at this;cases this;exact fl2.st b _ eB
 obtain⟨sl,e1⟩:=ib.slot b o e n hb KE;have n1:=ib.free b o e n KE;obtain⟨sl',e2⟩:=un.slot b _ e1 n1 (wX hb) KE;obtain⟨o3,e3,nf⟩:=frm b<|wX hb;rw[e2]at e3;cases e3;obtain⟨sl3,e4⟩:=up b _ e2 nf;exact⟨sl3,e4⟩
 obtain⟨o',e1⟩:=ib.there b o e KE;exact un.free b o' e1 (ib.free b o e n<|KE) KE;obtain⟨o',e1⟩:=ib.there b o e KE;by_cases hb:b∈dg (envOfC qual scope s.heap.objs.size f cd::outer);obtain⟨o3,e3,nf⟩:=frm b hb;obtain⟨sl3,e4⟩:=up b _ e3 nf;exact⟨_,e4⟩;obtain⟨o2,eB⟩:=hB b o' e1 hb;exact⟨o2,fl2.st b _ eB⟩;obtain⟨m1,e1⟩:=ib.tbls b ps e;obtain⟨m2,e2⟩:=un.tbls b _ e1;exact⟨m1++m2,by rw[e2,BM]⟩;obtain⟨o',e1⟩:=ib.there b o e KE;exact hB b o' e1<|nostk b o e hb
def jG(X:Cx)(E:XK):Prop:=∀(E1:K8) (σ:St) (H:Hp) (s:Shared) (h':Heap) (e:Addr) (cls:Value) (args:QX),Inv X E1 σ H s->Heap.MadeExcOf s.heap h' e cls args->E cls none H->X.xe (.ref e) { s with heap:=h' }
theorem FE:jG (c9 (dj P w) P w K mg base N qual scope f cd A outer s H E) E:=by
 intro E1 σ H1 s1 h2 e cls args I hx hE;have ib:Un (dg outer) [] H H1 s.heap s1.heap:=I.base;have neL:∀b o,s.heap.get? b=some o->b∉dg outer->b∉dg (envOfC qual scope s.heap.objs.size f cd::outer):=λb o e hb hm=>by
  rcases Yan.mp (I.stkSub b hm) with z|z
  have l1:=dv e;have l2:s.heap.objs.size<=(envOfC qual scope s.heap.objs.size f cd).locals:=I.ok.above;have z':b=(envOfC qual scope s.heap.objs.size f cd).locals:=z;rw[<-z']at l2;exact Qj (dw l1 l2)<|iu _
  exact hb z
 have stk:s1.heap.FunFrames base (envOfC qual scope s.heap.objs.size f cd::outer):=I.stack;have frm:∀b,b∈dg (envOfC qual scope s.heap.objs.size f cd::outer)->∃o,s1.heap.get? b=some o/\∀vs,o.data≠.fields vs:=λb hb=>(stk.mem hb).2;have inB:∀{b o},s1.heap.get? b=some o->b∉dg (envOfC qual scope s.heap.objs.size f cd::outer)->(W.hideAll s1.heap<|dg (envOfC qual scope s.heap.objs.size f cd::outer)).get? b=some o:=λe hb=>W.hideAll_get _ e hb;have hT:∀b u,H1 b=some u->∃o,(W.hideAll s1.heap<|dg (envOfC qual scope s.heap.objs.size f cd::outer)).get? b=some o:=λb u hu=>by
  have hb:b∉dg (envOfC qual scope s.heap.objs.size f cd::outer):=λhm=>by have:=I.stkFree b hm;rw[hu]at this;cases this
  have l:=I.hok.lt hu;have:∃o,s1.heap.get? b=some o:=by
   have q:=I.hok b u hu;cases u with
   |lst xs=>obtain⟨_,_,_,_,e⟩:=q;exact⟨_,e⟩
   |tup xs=>obtain⟨_,_,_,o,e,_⟩:=q;exact⟨_,e⟩
   |dK kvs=>obtain⟨_,_,_,_,o,_,_,e,_⟩:=q;exact⟨_,e⟩
   |dT kvs=>obtain⟨_,_,_,_,o,_,_,e,_⟩:=q;exact⟨_,e⟩
   |set S n=>obtain⟨o,_,_,_,e,_⟩:=q;exact⟨_,e⟩
   |ins C dx fs=>obtain⟨_,_,_,e,_⟩:=q;exact⟨_,e⟩
   |own y=>obtain⟨o,e⟩:=q;exact⟨_,e⟩
   |xd fs=>obtain⟨_,⟨o,_,_,e,_⟩,_⟩:=q;exact⟨_,e⟩
   |rng lo hi=>obtain⟨_,_,_,e⟩:=q;exact⟨_,e⟩
   |frz ob u=>obtain⟨e,_⟩:=q;exact⟨_,e⟩
   |tbl ps=>exact⟨_,(show s1.heap.get? b=some _ from q)⟩|met f y=>exact⟨_,(show s1.heap.get? b=some _ from q)⟩|ext φ=>obtain⟨_,⟨o,e⟩,_⟩:=q;exact⟨_,e⟩
  obtain⟨o,e⟩:=this;exact⟨o,inB e hb⟩
 show wpAny (model P w) (A.deeper<|envOfC qual scope s.heap.objs.size f cd) (leaving (envOfC qual scope s.heap.objs.size f cd)<|.ref e) (λ_ s''=>dj P w outer H s E (.ref e) s'') _ _;obtain⟨tt,he,_,_⟩:=hx.there;have newB:(W.hideAll s1.heap<|dg (envOfC qual scope s.heap.objs.size f cd::outer)).get? e=none:=by
  cases q:(W.hideAll s1.heap<|dg (envOfC qual scope s.heap.objs.size f cd::outer)).get? e with
  |none=>rfl|some o=>have:=W.of_hideAll _ q;rw[hx.new]at this;cases this
 refine Fl.leaves_new (P:=Fl.Is cls none) (base:=W.hideAll s1.heap<|dg (envOfC qual scope s.heap.objs.size f cd::outer)) Fl.Is.firm I.ok.frames ((W.funFrames_hide stk λenv he b hb=>Yaz.mpr ⟨env,he,hb⟩).of_keeps λb o hb _=>⟨o,hx.keeps b o hb,rfl⟩) rfl he ⟨rfl,rfl⟩
  (λb o q=>hx.keeps b o<|W.of_hideAll _ q) newB rfl rfl λh3 fl up=>?_
 have st1:(W.hideAll s1.heap<|dg (envOfC qual scope s.heap.objs.size f cd::outer)).StaysIn s1.heap:=λb o q=>W.of_hideAll _ q;refine⟨e,cls,none,H1,_,rfl,fl,I.os,I.bare,⟨λb o e n hb _=>?_,λb o e n hb _=>?_,λb o e n _=>ib.free b o e n<|KE,λb o e _=>?_,λb xs e=>ib.tups b xs e,λb o xs e=>ib.frzs b o xs e,λb ps e=>ib.tbls b ps e,λ_ eg n=>ib.sys KE eg n⟩,I.hok.through hT st1 fl.st,λb o e hb=>?_,hT,hE⟩;exact fl.st b o<|inB (ib.keep b o e n hb<|KE) (neL b o e hb)
 obtain⟨sl,e1⟩:=ib.slot b o e n hb KE;obtain⟨o3,e3,nf⟩:=frm b<|wX hb;rw[e1]at e3;cases e3;obtain⟨sl3,e4⟩:=up b _ (hx.keeps b _ e1) nf;exact⟨sl3,e4⟩
 obtain⟨o',e1⟩:=ib.there b o e KE;by_cases hb:b∈dg (envOfC qual scope s.heap.objs.size f cd::outer);obtain⟨o3,e3,nf⟩:=frm b hb;obtain⟨sl3,e4⟩:=up b _ (hx.keeps b _ e3) nf;exact⟨_,e4⟩;exact⟨o',fl.st b o'<|inB e1 hb⟩;obtain⟨o',e1⟩:=ib.there b o e KE;exact⟨o',inB e1<|neL b o e hb⟩
end
section
def CV(K:Qh)(tl:TE):TI:=λσ H R=>tl σ H λx H1=>∃a,x=.ref a/\(((∃xs,SqL K H1 a xs)/\R (Cy K a) H1)\/((∃xs,SqT K H1 a xs)/\R (Cz K a) H1))
theorem Kj{l:Expr}{tl:TE}(hl:PE X l tl):PI X tg l (CV X.K tl):=by
 intro E1 s σ H R I h;refine bO (hl E1 s σ H _ I h) λv s1 ⟨x,H1,I1,r1,q1⟩=>?_;obtain⟨a,e,⟨⟨xs,hq⟩,q⟩|⟨⟨xs,hq⟩,q⟩⟩:=q1;subst e;cases r1;obtain⟨its,rv,p,hz⟩:=I1.list hq;refine QP p.isList ?_;refine⟨s1.heap.objs.size,[s1.heap.objs.size],_,_,H1,rfl,I1.kept (t':=s1.toks) λb o e=>dM _ e,i4 a _,⟨_,g6 _ rfl,rfl,rfl⟩,λb hb=>?_,q⟩;have e:b=s1.heap.objs.size:=by simpa using hb
 subst e;exact I1.fpOk (bZ _)<|I1.hok.fresh (bZ _)
 subst e;cases r1;obtain⟨its,rv,p,hz⟩:=I1.tuple hq;refine wpAny_pyIter_tuple (show s1.heap.IsTuple a its.toArray from p) ?_;refine⟨s1.heap.objs.size,[s1.heap.objs.size],_,_,H1,rfl,I1.kept (t':=s1.toks) λb o e=>dM _ e,kO a _,⟨_,g6 _ rfl,rfl,rfl⟩,λb hb=>?_,q⟩;have e:b=s1.heap.objs.size:=by simpa using hb
 subst e;exact I1.fpOk (bZ _)<|I1.hok.fresh (bZ _)
end
theorem Inv.turnedL(ts:List Addr)(I:Inv X E1 σ H s)(k:∀b o,b∉ts->s.heap.get? b=some o->h'.get? b=some o)
  (hf:∀b∈ts,fO X E1 H b):Inv X E1 σ H { s with heap:=h',toks:=t' }:=by
 refine I.step (g':=s.gens) (d':=s.drawn) (ch:=ts) (λb hb=>?_) (λb o _ _ hc e _=>k b o hc e) (λb o _ _ hc e _=>⟨o.slots,k b o hc e⟩) (λ_ _ _ _ n=>n)
  (λb o hc e=>⟨o,k b o hc e⟩) (λ_ _ e=>e) (λ_ _ _ e=>e) (λb ps e=>⟨#[],by rw[e];simp⟩) (λm hm=>?_) (λb u e=>?_) I.bare (λn=>n)
 .obtain⟨_,f1,_,f3,f4,f5⟩:=hf b hb
  exact⟨f3,f1,f4,f5⟩
 .obtain⟨o,es,ep,ho,r⟩:=hm
  exact⟨o,es,ep,k _ o (λz=>(hf _ z).2.1 rfl) ho,r⟩
 .have nt:∀c v,H c=some v->c∉ts:=λc v q z=>by rw[(hf c z).1]at q;cases q
  refine(I.hok b u e).stay (λc v hc q=>k c v ?_ q) (λ_ q=>q) λ_ _ q=>q;rcases hc with z|z
  .rw[z];exact nt b u e
  .exact nt c _ z
def SIt(κ:Bool)(h:Heap)(it l:Addr)(i:Nat):Prop:=match κ with|true=>h.IsTupleIter it l i|false=>h.IsListIter it l i
def SSq(κ:Bool)(h:Heap)(l:Addr)(xs:Array Value):Prop:=match κ with|true=>h.IsTuple l xs|false=>h.IsList l xs
section
variable{it:Addr}
theorem SIt.keep(x:SIt κ h it l i)(k:∀o,h.get? it=some o->h'.get? it=some o):SIt κ h' it l i:=by cases κ;exact Heap.IsListIter.at x k;exact Heap.IsTupleIter.at x k
theorem SIt.obj(x:SIt κ h it l i):∃o,h.get? it=some o/\(∀v,o.data≠.cell v):=by
 cases κ;all_goals
  obtain⟨o,e,_,d⟩:=x;exact⟨o,e,λv z=>by rw[d]at z;cases z⟩
theorem SSq.keep(x:SSq κ h l xs)(k:∀o,h.get? l=some o->h'.get? l=some o):SSq κ h' l xs:=by
 cases κ;all_goals
  obtain⟨o,e,r⟩:=x;exact⟨o,k o e,r⟩
end
section
variable{E:Lb}{it:Addr}{x:Value}
theorem wY(hi:SIt κ s.heap it l i)(hl:SSq κ s.heap l xs)(hx:xs[i]? = some x)(q:∀h',SIt κ h' it l (i+1)->Heap.SameBut it s.heap h'->Q x { s with heap:=h' }) :
  wpAny (model prog w) A (Builtin.SmallTypes.nextOf<|.ref it) Q E s:=by
 cases κ with
 |false=>exact wpAny_nextOf_list_item hi hl hx q
 |true=>
  have ht:s.heap.IsTupleIter it l i:=hi;obtain⟨ob,hob,hcl,hda⟩:=id ht;obtain⟨sq,hsq,_,nn,hds⟩:=(show s.heap.IsTuple l xs from hl)
  unfold Builtin.SmallTypes.nextOf;refine Qg<|wpAny_callSpecial?_slot (name:=Str.ofString "__next__") ht.typeIs F.slot_tuple_iterator_next (QD F.slot_tuple_iterator_next ht.typeIs F.entry_tuple_iterator_next ?_<|F.args_tuple_iterator_next_1 _);show wpAny _ _ (field (.ref it) 0 >>= _) _ E s;refine Qg<|Qs hob hda (x:=.ref l) rfl ?_;show wpAny _ _ (if(Value.ref l==Value.none)=true then _ else _) _ E s;rw[fz (show¬((Value.ref l==Value.none)=true) by exact mP)];show wpAny _ _ (field (.ref it) 1 >>= _) _ E s;refine Qg<|Qs hob hda (x:=.int i 0) rfl ?_;show wpAny _ _ (seqItems? (.ref l) >>= _) _ E s;refine Qg<|QE hsq hds ?_;simp only[jS,hx];refine Qg<|QO hob hda KE (Qi ⟨x,rfl,Qi<|q _ ?_<|Heap.SameBut.update ..⟩);exact⟨_,vP _ hob<|Obj.isFreed_of_fields<|Obj.data_mapFields hda _,(Obj.cls_mapFields ..).trans hcl,by rw[Obj.data_mapFields hda];simp[rawInt]⟩
theorem vj(hh:A.handled=none)(hi:SIt κ s.heap it l i)(hl:SSq κ s.heap l xs)(hx:xs[i]? = none)
  (q:∀h' e,Heap.ExtBut it s.heap h'->(∃o,h'.get? e=some o/\o.cls=.type "StopIteration")->E (.ref e) { s with heap:=h' }) :
  wpAny (model prog w) A (Builtin.SmallTypes.nextOf<|.ref it) Q E s:=by
 cases κ with
 |false=>exact wpAny_nextOf_list_end hh hi hl hx q
 |true=>
  have ht:s.heap.IsTupleIter it l i:=hi;obtain⟨ob,hob,hcl,hda⟩:=id ht;obtain⟨sq,hsq,_,nn,hds⟩:=(show s.heap.IsTuple l xs from hl)
  unfold Builtin.SmallTypes.nextOf;refine Qg<|wpAny_callSpecial?_slot (name:=Str.ofString "__next__") ht.typeIs F.slot_tuple_iterator_next (QD F.slot_tuple_iterator_next ht.typeIs F.entry_tuple_iterator_next ?_<|F.args_tuple_iterator_next_1 _);show wpAny _ _ (field (.ref it) 0 >>= _) _ E s;refine Qg<|Qs hob hda (x:=.ref l) rfl ?_;show wpAny _ _ (if(Value.ref l==Value.none)=true then _ else _) _ E s;rw[fz (show¬((Value.ref l==Value.none)=true) by exact mP)];show wpAny _ _ (field (.ref it) 1 >>= _) _ E s;refine Qg<|Qs hob hda (x:=.int i 0) rfl ?_;show wpAny _ _ (seqItems? (.ref l) >>= _) _ E s;refine Qg<|QE hsq hds ?_;simp only[jS,hx];refine Qg<|QN (Qg<|QO hob hda KE ?_);show wpAny _ _ (newExc (.type "StopIteration") [] >>= _) _ E _;refine Qg ?_;simp only[newExc,newTuple];refine Qg<|Qu ?_ (by size_fits);refine Qg (m:=firstArgMember _ _)<|wpAny_of_eq (a:=Value.none) (by first|rfl|(rw[firstArgMember];rfl)) (Qu ?_<|by size_fits);simp only[raiseNew];refine Qg<|wpAny_handled ?_;rw[show A.in1.handled=none from hh];exact Qg<|Qi (wpAny_throw<|q _ _ (((Heap.SameBut.update ..).extBut.push _).push _) ⟨_,g6 _ rfl,rfl⟩)
end
structure wZ(z TI TO j1 j2:Addr):Prop where
 a:TI≠z
 b:TO≠z
 c:j1≠z
 d:j2≠z
 e:TI≠TO
 f:TI≠j1
 g:TI≠j2
 h:TO≠j1
 i:TO≠j2
 j:j1≠j2
def vm(z TI TO j1 j2 l:Addr):Prop:=l≠z/\l≠TI/\l≠TO/\l≠j1/\l≠j2
section
variable{E:Lb}{z TI TO j1 j2 l1 l2:Addr}{x y a b:Value}
theorem Kk(D:wZ z TI TO j1 j2)(d1:vm z TI TO j1 j2 l1)(d2:vm z TI TO j1 j2 l2)
  (zz:IsZip s.heap z TI TO .none) (zi:IsPair s.heap TI (.ref j1) (.ref j2)) (zo:IsPair s.heap TO a b) (u1:SIt κ s.heap j1 l1 i) (u2:SIt κ' s.heap j2 l2 i) (v1:SSq κ s.heap l1 xs) (v2:SSq κ' s.heap l2 ys) (ex:xs[i]? = some x) (ey:ys[i]? = some y)
  (q:∀ h',IsZip h' z TI TO (rawInt s.heap.objs.size)->IsPair h' TO x y->SIt κ h' j1 l1 (i+1)->SIt κ' h' j2 l2 (i+1)->IsPair h' s.heap.objs.size x y->h'.objs.size=s.heap.objs.size+1->
   (∀c o,c≠z->c≠TO->c≠j1->c≠j2->s.heap.get? c=some o->h'.get? c=some o)->Q (.ref s.heap.objs.size) { s with heap:=h' }) :
  wpAny (model prog w) A (Builtin.«zip.__next__» ⟨[.ref z],[]⟩) (λfin s'=>∃v,fin=.done (.ret v)/\Q v s') E s:=by
 obtain⟨o1z,_,o1O,o11,o12⟩:=d1;obtain⟨o2z,_,o2O,o21,o22⟩:=d2;show wpAny _ _ (field (.ref z) 2 >>= _) _ E _;refine Qg<|Qs zz rfl (x:=.bool false) rfl ?_;show wpAny _ _ (field (.ref z) 3 >>= _) _ E _;refine Qg<|Qs zz rfl (x:=.ref TI) rfl (Qg<|QE zi rfl ?_);show wpAny _ _ (Builtin.SmallTypes.ownedTupleIsFree (.ref z) >>= _) _ E _;refine Qg ?_;unfold Builtin.SmallTypes.ownedTupleIsFree;refine Qg<|Qs zz rfl (x:=.none) rfl (Qi ?_);simp only[if_true];refine Qg<|QN (Qg<|Qs zz rfl (x:=.ref TO) rfl<|Qg<|QF zz KE λg1 zz1 k1=>?_);replace zz1:IsZip g1 z TI TO .ellipsis:=zz1;refine Qg ?_;simp only[List.zipIdx_cons,List.zipIdx_nil,BO,List.forIn_nil];refine Qg<|Qg (QV ?_);show wpAny _ _ (Builtin.SmallTypes.nextOf (.ref j1) >>= _) _ _ _;refine Qg<|wY (u1.keep λo e=>k1.extBut _ o D.c e) (v1.keep λo e=>k1.extBut _ o o1z e) ex λg2 u1' k2=>Qi ?_;have zo2:IsPair g2 TO a b:=k2.extBut _ _ D.h<|k1.extBut _ _ D.b zo;refine Qg<|QE zo2 rfl (Qg<|QT zo2 λg3 zo3 k3=>?_);replace zo3:IsPair g3 TO x b:=zo3;refine Qg<|wpAny_letGo (Qi ?_);refine Qg<|Qg (QV ?_);show wpAny _ _ (Builtin.SmallTypes.nextOf (.ref j2) >>= _) _ _ _;refine Qg<|wY (u2.keep λo e=>k3.extBut _ o D.i.symm<|k2.extBut _ o D.j.symm<|k1.extBut _ o D.d e) (v2.keep λo e=>k3.extBut _ o o2O<|k2.extBut _ o o21<|k1.extBut _ o o2z e) ey λg4 u2' k4=>Qi ?_;have zo4:IsPair g4 TO x b:=k4.extBut _ _ D.i zo3;refine Qg<|QE zo4 rfl (Qg<|QT zo4 λg5 zo5 k5=>?_);replace zo5:IsPair g5 TO x y:=zo5;refine Qg<|wpAny_letGo (Qi<|Qi<|Qg<|QE zo5 rfl<|Qg<|wpAny_newTuple ?_);have sz:g5.objs.size=s.heap.objs.size:=by rw[k5.1,k4.1,k3.1,k2.1,k1.1]
 have zz5:IsZip g5 z TI TO .ellipsis:=k5.extBut _ _ D.b.symm<|k4.extBut _ _ D.d.symm (k3.extBut _ _ D.b.symm<|k2.extBut _ _ D.c.symm zz1);have kk:∀c o,c≠z->c≠TO->c≠j1->c≠j2->s.heap.get? c=some o->g5.get? c=some o:=λc o c1 c2 c3 c4 e=>k5.extBut _ _ c2<|k4.extBut _ _ c4 (k3.extBut _ _ c2<|k2.extBut _ _ c3<|k1.extBut _ _ c1 e);have r1:SIt κ g5 j1 l1 (i+1):=u1'.keep λo e=>k5.extBut _ o D.h.symm<|k4.extBut _ o D.j (k3.extBut _ o D.h.symm e);have r2:SIt κ' g5 j2 l2 (i+1):=u2'.keep λo e=>k5.extBut _ o D.i.symm e;have zlt:z<g5.objs.size:=dv zz5;show wpAny _ _ (Builtin.SmallTypes.ownedTupleHandOut (.ref z) (.ref g5.objs.size) >>= _) _ E _;refine Qg ?_;unfold Builtin.SmallTypes.ownedTupleHandOut;have zz6:IsZip (g5.push { cls:=.type "tuple",data:=.seq #[x,y] }) z TI TO .ellipsis:=dM _ zz5;refine Qg<|QF zz6 KE λg7 zz7 k7=>?_;replace zz7:IsZip g7 z TI TO (rawInt g5.objs.size):=zz7;refine QF zz7 KE λg8 zz8 k8=>?_;replace zz8:IsZip g8 z TI TO (rawInt g5.objs.size):=zz8;have up:∀c o,c≠z->g5.get? c=some o->g8.get? c=some o:=λc o c1 e=>k8.extBut _ _ c1<|k7.extBut _ _ c1 (dM _ e);have tt8:IsPair g8 g5.objs.size x y:=k8.extBut _ _ (zL zlt)<|k7.extBut _ _ (zL zlt) (g6 _ rfl);have sz8:g8.objs.size=g5.objs.size+1:=by rw[k8.1,k7.1,oW]
 rw[sz]at zz8 tt8 sz8;refine Qi ⟨_,rfl,?_⟩;show Q (.ref g5.objs.size) _;rw[sz];exact q g8 zz8 (up _ _ D.b zo5) (r1.keep λo e=>up _ o D.c e) (r2.keep λo e=>up _ o D.d e) tt8 sz8 λc o c1 c2 c3 c4 e=>up c o c1<|kk c o c1 c2 c3 c4 e
theorem Kl{Q:Fin->Shared->Prop}(hh:A.handled=none)(D:wZ z TI TO j1 j2)(d1:vm z TI TO j1 j2 l1)(d2:vm z TI TO j1 j2 l2)
  (zz:IsZip s.heap z TI TO .none) (zi:IsPair s.heap TI (.ref j1) (.ref j2)) (zo:IsPair s.heap TO a b) (u1:SIt κ s.heap j1 l1 i) (u2:SIt κ' s.heap j2 l2 i) (v1:SSq κ s.heap l1 xs) (v2:SSq κ' s.heap l2 ys) (en:xs[i]? = none\/ys[i]? = none)
  (q:∀h' e,(∀c o,c≠z->c≠TO->c≠j1->c≠j2->s.heap.get? c=some o->h'.get? c=some o)->(∃o,h'.get? e=some o/\o.cls=.type "StopIteration")->E (.ref e) { s with heap:=h' }) :
  wpAny (model prog w) A (Builtin.«zip.__next__» ⟨[.ref z],[]⟩) Q E s:=by
 obtain⟨o1z,_,o1O,o11,o12⟩:=d1;obtain⟨o2z,_,o2O,o21,o22⟩:=d2;show wpAny _ _ (field (.ref z) 2 >>= _) _ E _;refine Qg<|Qs zz rfl (x:=.bool false) rfl ?_;show wpAny _ _ (field (.ref z) 3 >>= _) _ E _;refine Qg<|Qs zz rfl (x:=.ref TI) rfl (Qg<|QE zi rfl ?_);show wpAny _ _ (Builtin.SmallTypes.ownedTupleIsFree (.ref z) >>= _) _ E _;refine Qg ?_;unfold Builtin.SmallTypes.ownedTupleIsFree;refine Qg<|Qs zz rfl (x:=.none) rfl (Qi ?_);simp only[if_true];refine Qg<|QN (Qg<|Qs zz rfl (x:=.ref TO) rfl<|Qg<|QF zz KE λg1 zz1 k1=>?_);replace zz1:IsZip g1 z TI TO .ellipsis:=zz1;refine Qg ?_;simp only[List.zipIdx_cons,List.zipIdx_nil,BO,List.forIn_nil];refine Qg<|Qg (QV ?_);show wpAny _ _ (Builtin.SmallTypes.nextOf (.ref j1) >>= _) _ _ _;cases ex:xs[i]? with
 |none=>
  refine Qg<|vj hh (u1.keep λo e=>k1.extBut _ o D.c e) (v1.keep λo e=>k1.extBut _ o o1z e) ex λg2 e k2 ⟨oe,e1,e2⟩=>?_;have zz2:IsZip g2 z TI TO .ellipsis:=k2 _ _ D.c.symm zz1;have ne:e≠z:=λr=>by subst r;rw[zz2]at e1;cases e1;simp at e2
  exact QF zz2 KE λg3 _ k3=>q g3 e (λc o c1 _ c3 _ r=>k3.extBut _ _ c1<|k2 _ _ c3<|k1.extBut _ _ c1 r) ⟨oe,k3.extBut _ _ ne e1,e2⟩
 |some x=>
  have ey:ys[i]? = none:=en.elim (λh=>by rw[ex]at h;cases h) id;refine Qg<|wY (u1.keep λo e=>k1.extBut _ o D.c e) (v1.keep λo e=>k1.extBut _ o o1z e) ex λg2 u1' k2=>Qi ?_;have zo2:IsPair g2 TO a b:=k2.extBut _ _ D.h<|k1.extBut _ _ D.b zo;refine Qg<|QE zo2 rfl (Qg<|QT zo2 λg3 zo3 k3=>?_);refine Qg<|wpAny_letGo (Qi ?_);refine Qg<|Qg (QV ?_);show wpAny _ _ (Builtin.SmallTypes.nextOf (.ref j2) >>= _) _ _ _;refine Qg<|vj hh (u2.keep λo e=>k3.extBut _ o D.i.symm<|k2.extBut _ o D.j.symm<|k1.extBut _ o D.d e) (v2.keep λo e=>k3.extBut _ o o2O<|k2.extBut _ o o21<|k1.extBut _ o o2z e) ey λg4 e k4 ⟨oe,e1,e2⟩=>?_;have zz4:IsZip g4 z TI TO .ellipsis:=k4 _ _ D.d.symm<|k3.extBut _ _ D.b.symm (k2.extBut _ _ D.c.symm zz1);have ne:e≠z:=λr=>by subst r;rw[zz4]at e1;cases e1;simp at e2
  exact QF zz4 KE λg5 _ k5=>q g5 e (λc o c1 c2 c3 c4 r=>k5.extBut _ _ c1<|k4 _ _ c4<|k3.extBut _ _ c2<|k2.extBut _ _ c3<|k1.extBut _ _ c1 r) ⟨oe,k5.extBut _ _ ne e1,e2⟩
end
section
theorem Inv.turnedN{o:HO}(ts:List Addr)(I:Inv X E1 σ H s)(k:∀b o,b∉ts->s.heap.get? b=some o->h'.get? b=some o)
  (hf:∀b∈ts,fO X E1 H b) (hp:s.heap.objs.size<=a) (new:ObjOk X.prog X.w (upd H a o) h' a o):Inv X E1 σ (upd H a o) { s with heap:=h',toks:=t' }:=by
 have hn:H a=none:=I.hok.fresh hp;have nea:∀b u,H b=some u->b≠a:=λb u e z=>by rw[z,hn]at e;cases e
 have neb:∀b u,s.heap.get? b=some u->b≠a:=λb u e z=>by subst z;exact Qj (dw (dv e) hp)<|iu _
 refine I.step (g':=s.gens) (d':=s.drawn) (ch:=ts) (λb hb=>?_) (λb o _ _ hc e _=>k b o hc e) (λb o _ _ hc e _=>⟨o.slots,k b o hc e⟩) (λb u _ e n=>by rw[aI<|neb b u e];exact n)
  (λb o hc e=>⟨o,k b o hc e⟩) (λb xs e=>by rw [aI<|nea _ _ e];exact e) (λb _ _ e=>by rw [aI<|nea _ _ e];exact e) (λb ps e=>⟨#[],by rw [aI<|nea _ _ e,e];simp⟩) (λm hm=>?_) (λb u e=>?_) I.bare (λn ys=>by
   obtain⟨og,eg⟩:=I.hasG;rw[aI<|gY<|dw (Nat.lt_trans F4<|dv eg) hp];exact n ys)
 .obtain⟨_,f1,_,f3,f4,f5⟩:=hf b hb
  exact⟨f3,f1,f4,f5⟩
 .obtain⟨o,es,ep,ho,r⟩:=hm
  exact⟨o,es,ep,k _ o (λz=>(hf _ z).2.1 rfl) ho,r⟩
 .by_cases hb:b=a
  .subst hb;rw[aP]at e;cases e;exact new
  .rw[aI hb]at e
   have nt:∀c v,H c=some v->c∉ts:=λc v q z=>by rw[(hf c z).1]at q;cases q
   refine(I.hok b u e).stay (λc v hc q=>k c v ?_ q) (λc q=>by rw[aI<|nea _ _ q];exact q) λc _ q=>by rw[aI<|nea _ _ q];exact q
   rcases hc with z|z
   .rw[z];exact nt b u e
   .exact nt c _ z
def Sq(K:Qh)(κ:Bool)(H:Hp)(a:Addr)(xs:Rg):Prop:=match κ with|true=>SqT K H a xs|false=>SqL K H a xs
theorem Inv.sq{xs:Rg}(I:Inv X E1 σ H s)(h:Sq X.K κ H a xs):∃its:QX,Vals xs its/\SSq κ s.heap a its.toArray/\xs.length<=sizeLine:=by
 cases κ with
 |false=>obtain⟨its,r,p,hz⟩:=I.list h;exact⟨its,r,p.isList,hz⟩
 |true=>obtain⟨its,r,p,hz⟩:=I.tuple h;exact⟨its,r,(show s.heap.IsTuple a its.toArray from p),hz⟩
theorem Inv.sq_inj{xs ys:Rg}(I:Inv X E1 σ H s)(h:Sq X.K κ H a xs)(h':Sq X.K κ H a ys):xs=ys:=by
 cases κ with
 |false=>exact I.list_inj h h'|true=>exact I.tuple_inj h h'
theorem Inv.sq_out{xs:Rg}(I:Inv X E1 σ H s)(h:Sq X.K κ H a xs)(f:fO X E1 H b):a≠b:=by
 rintro rfl;have hk:∀o,X.K.lookup a=some o->False:=λo e=>by
  have e1:=I.ok.mod.kin a o e;rcases f.2.2.2.1 with z|z
  exact I.ok.noex a o e1 z;exact Qj (dw (dv (I.ok.bs a o e1).1) z)<|iu _
 have hr:∀u,Rd H a u->False:=λu r=>by
  rcases r with r|⟨o,r⟩
  rw[f.1]at r;cases r;rw[f.1]at r;cases r
 cases κ with
 |false=>
  rcases h with h|⟨o,_,_,e,_⟩
  exact hr _ h;exact hk o e
 |true=>
  rcases h with h|⟨o,_,_,e,_⟩
  exact hr _ h;exact hk o e
end
def FF(K:Qh)(κ κ':Bool)(a b:Addr):It:=
  ⟨λi H=>∃ xs ys x y,Sq K κ H a xs/\Sq K κ' H b ys/\xs[i]? = some x/\ys[i]? = some y,
   λi H v H'=>∃p x y,v=.ref p/\H p=none/\H'=upd H p (.tup [x,y])/\(∀xs,Sq K κ H a xs->xs[i]? = some x)/\(∀ys,Sq K κ' H b ys->ys[i]? = some y),
   λi H=>∃xs ys,Sq K κ H a xs/\Sq K κ' H b ys/\(xs.length<=i\/ys.length<=i)⟩
theorem Km{ps:Pos}(a b z TI TO j1 j2:Addr)(D:wZ z TI TO j1 j2) :
  jY P w K (.Tuple es n1 ps) (FF K κ κ' a b) [z,TI,TO,j1,j2] z (λi h=>IsZip h z TI TO .none/\IsPair h TI (.ref j1) (.ref j2)/\(∃u v,IsPair h TO u v)/\SIt κ h j1 a i/\SIt κ' h j2 b i) where
 mem:=KE
 obj:=λi h ⟨q1,q2,⟨u,v,q3⟩,q4,q5⟩ c hc=>by
  simp only[Yan,gQ,or_false]at hc;rcases hc with rfl|rfl|rfl|rfl|rfl
  .exact⟨_,q1,λv e=>by cases e⟩
  .exact⟨_,q2,λv e=>by cases e⟩
  .exact⟨_,q3,λv e=>by cases e⟩
  .exact q4.obj
  .exact q5.obj
 keep:=λi h h' ⟨q1,q2,⟨u,v,q3⟩,q4,q5⟩ k=>
  ⟨k z KE _ q1,k TI KE _ q2,⟨u,v,k TO KE _ q3⟩,q4.keep λo e=>k j1 KE o e,q5.keep λo e=>k j2 KE o e⟩
 item:=by
  intro X hP hw hK hc i E1 s σ H E I hf ⟨q1,q2,⟨u,v,q3⟩,q4,q5⟩ hg;subst hP hw hK;obtain⟨xs,ys,x,y,hx,hy,ex,ey⟩:=hg;obtain⟨its,rv,p,hz⟩:=I.sq hx;obtain⟨its',rv',p',hz'⟩:=I.sq hy;obtain⟨ux,hux,rux⟩:=rv.get ex;obtain⟨uy,huy,ruy⟩:=rv'.get ey;have out:∀{κ:Bool} {c:Addr} {xs:Rg},Sq X.K κ H c xs->vm z TI TO j1 j2 c:=λhq=>
   ⟨I.sq_out hq<|hf z<|KE,I.sq_out hq<|hf TI<|KE,I.sq_out hq<|hf TO<|KE,I.sq_out hq<|hf j1<|KE,I.sq_out hq<|hf j2<|KE⟩
  have hT:s.TypeIs (.ref z) "zip" :=⟨_,q1,rfl⟩
  unfold pyNext;refine Qg<|wpAny_attempt (wpAny_callSpecial?_slot (name:=Str.ofString "__next__") hT F.slot_zip_next (QD F.slot_zip_next hT F.entry_zip_next
   (Kk D (out hx) (out hy) q1 q2 q3 q4 q5 p p' (x:=ux) (y:=uy) (by simpa using hux) (by simpa using huy) λh' a1 a2 a3 a4 a5 a6 a7=>Qi ⟨_,rfl,?_⟩) (F.args_zip_next_1 _)))
  refine wpAny_letOwnedTupleGo_zip (s:={ s with heap:=h' }) a1 λh2 b1 b2=>?_;have lt:∀{c o},s.heap.get? c=some o->c≠s.heap.objs.size:=λe=>gY<|dv e;have zl:=lt q1;have up:∀c o,c∉[z,TI,TO,j1,j2]->s.heap.get? c=some o->h2.get? c=some o:=λc o hc e=>by
   simp only[Yan,gQ,or_false,not_or]at hc;exact b2.extBut _ _ hc.1<|a7 c o hc.1 hc.2.2.1 hc.2.2.2.1 hc.2.2.2.2 e
  refine⟨.ref s.heap.objs.size,upd H s.heap.objs.size<|.tup [x,y],Inv.turnedN (s:=s) (t':=s.toks) [z,TI,TO,j1,j2] I up hf (bZ _) ?_,rfl,⟨s.heap.objs.size,x,y,rfl,I.fresh,rfl,λxs' h'=>by rw[I.sq_inj h' hx];exact ex,λys' h'=>by rw[I.sq_inj h' hy];exact ey⟩,?_,λc hc=>?_⟩
  .refine⟨by rw[sizeLine_eq];simp,[ux,uy],.cons rux<|.cons ruy .nil,?_⟩
   exact⟨_,b2.extBut _ _ (Qq zl) a5,rfl,_,rfl⟩
  .exact⟨b1,b2.extBut _ _ D.a<|a7 _ _ D.a D.e D.f D.g q2,⟨_,_,b2.extBut _ _ D.b a2⟩,a3.keep λo e=>b2.extBut _ o D.c e,a4.keep λo e=>b2.extBut _ o D.d e⟩
  .have he:∃o,s.heap.get? c=some o:=by
    simp only[Yan,gQ,or_false]at hc;rcases hc with rfl|rfl|rfl|rfl|rfl
    .exact⟨_,q1⟩
    .exact⟨_,q2⟩
    .exact⟨_,q3⟩
    .obtain⟨o,e,_⟩:=q4.obj;exact⟨o,e⟩
    .obtain⟨o,e,_⟩:=q5.obj;exact⟨o,e⟩
   obtain⟨o,e⟩:=he;rw[aI<|lt e];exact(hf c hc).1
 done:=by
  intro X hP hw hK hc i E1 s σ H E I hf ⟨q1,q2,⟨u,v,q3⟩,q4,q5⟩ hg;subst hP hw hK;obtain⟨xs,ys,hx,hy,en⟩:=hg;obtain⟨its,rv,p,hz⟩:=I.sq hx;obtain⟨its',rv',p',hz'⟩:=I.sq hy;have l1:=rv.length;have l2:=rv'.length;have out:∀{κ:Bool} {c:Addr} {xs:Rg},Sq X.K κ H c xs->vm z TI TO j1 j2 c:=λhq=>
   ⟨I.sq_out hq<|hf z<|KE,I.sq_out hq<|hf TI<|KE,I.sq_out hq<|hf TO<|KE,I.sq_out hq<|hf j1<|KE,I.sq_out hq<|hf j2<|KE⟩
  have hT:s.TypeIs (.ref z) "zip" :=⟨_,q1,rfl⟩
  unfold pyNext;refine Qg<|wpAny_attempt (wpAny_callSpecial?_slot (name:=Str.ofString "__next__") hT F.slot_zip_next (QD F.slot_zip_next hT F.entry_zip_next
   (Kl (I.ok.hd hc) D (out hx) (out hy) q1 q2 q3 q4 q5 p p' (by rcases en with z|z;exact .inl (by simp;omega);exact .inr (by simp;omega)) λh' e k ⟨o,e1,e2⟩=>?_) (F.args_zip_next_1 _)))
  refine Qg<|wpAny_isInstance (s:={ s with heap:=h' }) (T:= "StopIteration") (b:=true) ⟨o,e1,e2⟩ isSubtype_stop (Qi ⟨rfl,?_⟩);refine I.turnedL (t':=s.toks) [z,TI,TO,j1,j2] (λc o hc e=>?_) hf;simp only[Yan,gQ,or_false,not_or]at hc;exact k c o hc.1 hc.2.2.1 hc.2.2.2.1 hc.2.2.2.2 e
 self:=λ_ _ _ _ _ st h=>wpAny_pyIter_zip st.1 h
noncomputable def io(κ:Bool)(l:Addr):Obj:={ cls:=.type (match κ with|true=> "tuple_iterator" |false=> "list_iterator"),data:=.fields #[.ref l,.int 0 0] }
theorem Ae{j:Addr}(e:h.get? j=some (io κ l)):SIt κ h j l 0:=by cases κ;all_goals exact⟨_,e,rfl,rfl⟩
theorem uf{E:Lb}(hl:SSq κ s.heap l xs)(q:Q (.ref s.heap.objs.size) { s with heap:=s.heap.push (io κ l) }) :
  wpAny (model prog w) A (pyIter<|.ref l) Q E s:=by
 cases κ with
 |false=>exact QP hl q|true=>exact wpAny_pyIter_tuple hl q
abbrev w4(κ:Bool)(h:Heap)(l1:Addr):Heap:=h.push<|io κ l1
abbrev w6(κ κ':Bool)(h:Heap)(l1 l2:Addr):Heap:=(w4 κ h l1).push<|io κ' l2
abbrev w8(κ κ':Bool)(h:Heap)(l1 l2:Addr):Heap:=(w6 κ κ' h l1 l2).push { cls:=.type "tuple",data:=.seq #[.ref h.objs.size,.ref (w4 κ h l1).objs.size] }
abbrev xa(κ κ':Bool)(h:Heap)(l1 l2:Addr):Heap:=(w8 κ κ' h l1 l2).push { cls:=.type "tuple",data:=.seq #[.none,.none] }
abbrev qd(κ κ':Bool)(h:Heap)(l1 l2:Addr):Heap:=(xa κ κ' h l1 l2).push { cls:=.type "zip",data:=.fields #[.none,.bool false,.bool false,.ref (w6 κ κ' h l1 l2).objs.size,.ref (w8 κ κ' h l1 l2).objs.size] }
theorem Kn(κ κ':Bool)(l1 l2:Addr)(xs ys:Array Value) :
  Meets (Builtin.«zip.__new__» ⟨[.type "zip",.ref l1,.ref l2],[]⟩) (λ_ R s=>SSq κ s.heap l1 xs/\SSq κ' s.heap l2 ys/\R (.ok<|.ret<|.ref (xa κ κ' s.heap l1 l2).objs.size) { s with heap:=qd κ κ' s.heap l1 l2 }):=
 .of_wp λprog w A R s h=>by
  obtain⟨hp,g,d,tk,os⟩:=s;obtain⟨hl1,hl2,h⟩:=h;have hsub:=sub_zip;have L1:SSq κ (Shared.heap ⟨hp,g,d,tk,os⟩) l1 xs:=hl1;have L2':SSq κ' (Shared.heap ⟨hp.push<|io κ l1,g,d,tk,os⟩) l2 ys:=hl2.keep λo e=>dM _ e
  wp_walk using uf L1,uf L2'
  exact⟨_,rfl,h⟩
theorem Ko{E:Lb}{l1 l2:Addr}(hl1:SSq κ s.heap l1 xs)(hl2:SSq κ' s.heap l2 ys)
  (h:∀ h',IsZip h' (s.heap.objs.size+4) (s.heap.objs.size+2) (s.heap.objs.size+3) .none->IsPair h' (s.heap.objs.size+2) (.ref s.heap.objs.size) (.ref<|s.heap.objs.size+1)->
   IsPair h' (s.heap.objs.size+3) .none .none->SIt κ h' s.heap.objs.size l1 0->SIt κ' h' (s.heap.objs.size+1) l2 0->
   (∀c o,s.heap.get? c=some o->h'.get? c=some o)->Q (.ref<|s.heap.objs.size+4) { s with heap:=h' }) :
  wpAny (model prog w) A (call (.type "zip") [.ref l1,.ref l2]) Q E s:=by
 refine callType_new F.called_zip F4 (F.typeCall_zip_2 _ _) (F.newCall_zip_2 _ _) (λobj=>F.args_object_init_3 obj _ _) F.entry_zip_new (Kn κ κ' l1 l2 xs ys) ⟨hl1,hl2,?_⟩;have z1:(w4 κ s.heap l1).objs.size=s.heap.objs.size+1:=oW ..;have z2:(w6 κ κ' s.heap l1 l2).objs.size=s.heap.objs.size+2:=by rw[oW,z1]
 have z3:(w8 κ κ' s.heap l1 l2).objs.size=s.heap.objs.size+3:=by rw[oW,z2]
 have z4:(xa κ κ' s.heap l1 l2).objs.size=s.heap.objs.size+4:=by rw[oW,z3]
 have up5:∀{c o},(xa κ κ' s.heap l1 l2).get? c=some o->(qd κ κ' s.heap l1 l2).get? c=some o:=λe=>dM _ e;have up4:∀{c o},(w8 κ κ' s.heap l1 l2).get? c=some o->(qd κ κ' s.heap l1 l2).get? c=some o:=λe=>up5<|dM _ e;have up3:∀{c o},(w6 κ κ' s.heap l1 l2).get? c=some o->(qd κ κ' s.heap l1 l2).get? c=some o:=λe=>up4<|dM _ e;have up2:∀{c o},(w4 κ s.heap l1).get? c=some o->(qd κ κ' s.heap l1 l2).get? c=some o:=λe=>up3<|dM _ e;have ob:∀κ l,(io κ l).isFreed=false:=λκ l=>rfl;have g5:(qd κ κ' s.heap l1 l2).get? (xa κ κ' s.heap l1 l2).objs.size=some _:=g6 _ rfl;have g4:(qd κ κ' s.heap l1 l2).get? (w8 κ κ' s.heap l1 l2).objs.size=some _:=up5<|g6 _ rfl;have g3:(qd κ κ' s.heap l1 l2).get? (w6 κ κ' s.heap l1 l2).objs.size=some _:=up4<|g6 _ rfl;have g2:(qd κ κ' s.heap l1 l2).get? (w4 κ s.heap l1).objs.size=some _:=up3<|g6 _ (ob κ' l2);have g1:(qd κ κ' s.heap l1 l2).get? s.heap.objs.size=some _:=up2<|g6 _ (ob κ l1);show _/\_;rw[z2,z3,z4]at g5;rw[z1,z2]at g3;rw[z3]at g4;rw[z1]at g2;rw[z4];exact⟨⟨_,g5,rfl⟩,h _ g5 g3 g4 (Ae g1) (Ae g2) λc o x=>up2<|dM _ x⟩
theorem Kp(n:Nat):wZ (n+4) (n+2) (n+3) n (n+1):=
 ⟨(by omega:n+2≠n+4),(by omega:n+3≠n+4),(by omega:n≠n+4),(by omega:n+1≠n+4),(by omega:n+2≠n+3),(by omega:n+2≠n),(by omega:n+2≠n+1),(by omega:n+3≠n),(by omega:n+3≠n+1),(by omega:n≠n+1)⟩
theorem CW(n b:Nat)(h:b=n+4\/b=n+2\/b=n+3\/b=n\/b=n+1):n<=b:=E8
section
def CY(K:Qh)(ta:TA):TI:=λσ H R=>ta σ H λvs H1=>∃κ κ' a b,vs=[.ref a,.ref b]/\(∃xs,Sq K κ H1 a xs)/\(∃ys,Sq K κ' H1 b ys)/\R (FF K κ κ' a b) H1
theorem Kq{a b:Expr}{ps:Pos}(hg:Gl X "zip")(hm:X.mg "zip" = none)(ha:PA X [a,b] ta)(hs:{starEach [a,b] X.env=[(false,eval a X.env),(false,eval b X.env)]})(hs2:{starEach [b] X.env=[(false,eval b X.env)]}) :
  PI X (.Tuple es n1 ps) (.Call (.Name "zip" p) [a,b] [] pos) (CY X.K ta):=by
 intro E1 s σ H R I h;refine Call_<|eL I hg hm boot_zip (PyProof.Rows.callWith_type1 (bO (ha pos E1 s σ H _ I h) λus s1 ⟨vs,H1,I1,r1,q1⟩=>?_) (by rw[hs,hs2]) (by rw[hs2];rfl));obtain⟨κ,κ',l1,l2,e,⟨xs,hx⟩,⟨ys,hy⟩,q⟩:=q1;subst e;cases r1 with
 |cons r rr=>
  cases rr with
  |cons r' rr=>
   cases rr;cases r;cases r';obtain⟨its,rv,p1,hz⟩:=I1.sq hx;obtain⟨its',rv',p2,hz'⟩:=I1.sq hy;refine Ko p1 p2 λh' a1 a2 a3 a4 a5 k=>wpAny_pyIter_zip (s:={ s1 with heap:=h' }) a1 ?_;have D:wZ (s1.heap.objs.size+4) (s1.heap.objs.size+2) (s1.heap.objs.size+3) s1.heap.objs.size (s1.heap.objs.size+1):=Kp _;refine⟨_,[s1.heap.objs.size+4,s1.heap.objs.size+2,s1.heap.objs.size+3,s1.heap.objs.size,s1.heap.objs.size+1],_,_,H1,rfl,I1.kept (t':=s1.toks) k,Km (κ:=κ) (κ':=κ') l1 l2 _ _ _ _ _ D,⟨a1,a2,⟨_,_,a3⟩,a4,a5⟩,λb hb=>?_,q⟩;have hb':s1.heap.objs.size<=b:=by
    simp only[Yan,gQ,or_false]at hb;exact CW _ _ hb
   exact I1.fpOk hb'<|I1.hok.fresh hb'
end
theorem FG{C:Addr}(X:K.In h)(q:W.excIn K C bmB newId=true) :
  ∃(bm:QX) (N:Addr) (nm qn:Str) (bs:QX) (hd:Bool) (sn:Q4) (sub:QX) (ab:Bool) (col:Option Bool) (dd:Option Addr) (k0 k1 k2 k3 k5:Option Value) (mN:QW),
   h.get? C=some (excClassObj nm qn C N bs bm hd sn sub ab col dd k0 k1 k2 k3 k5 newId)/\h.Ns N mN/\mN "__init__" = none/\OwnTail h bmB bm:=by
 unfold W.excIn at q;split at q
 .rename_i dd cd sl ho
  split at q
  .rename_i C' bm k0 k1 k2 k3 n k5 hm hs
   simp only[dX,QM,sT]at q;obtain⟨⟨⟨⟨⟨rfl,rfl⟩,hdel⟩,ht⟩,hok⟩,hni⟩:=q;obtain⟨nm,bs,mro,ns,qn,hd,sn,sub,ab,col,del⟩:=cd;dsimp only at hm hdel hok hni;subst hm hdel;have hsl:sl = #[k0,k1,k2,k3,some<|.builtin n,k5]:=by
    cases sl with
    |mk l=>exact congrArg Array.mk hs
   subst hsl;exact⟨bm,ns,nm,qn,bs,hd,sn,sub,ab,col,dd,k0,k1,k2,k3,k5,_,X _ _ ho,.of_isNs<|W.isNs_of_in X hok,W.nsMap_none_of_in X hok hni,W.tail_of_in X ht⟩
  .cases q
 .cases q
section
variable{EX:XK}{C:Addr}{np cpos:Pos}{B initId:String}
theorem Kr(hr:jG X EX)(hc:X.calm=true)(hm:X.mg x=some (.ref C))(hq:W.excIn X.K C bmB newId=true)(FB:ExcBaseFacts B newId initId bmB)(hg:{Gl X x})(hd:(Q7 x:)) :
  PS X (.Raise (some<|.Call (.Name x np) [] [] cpos) none pos) (λ_ _ H=>EX (.ref C) none H):=by
 intro E1 s σ H D I h;obtain⟨bm,N,nm,qn,bs,hdc,sn,sub,ab,col,dd,k0,k1,k2,k3,k5,mN,hC,hN,hni,T⟩:=FG I.kIn hq;refine wpAny_Raise_call_subT (C:=C) (nm:=nm) (q:=qn) (N:=N) (bs:=bs) (bm:=bm) (hdct:=hdc) (sn:=sn) (sub:=sub) (ab:=ab) (col:=col) (dd:=dd) (k0:=k0) (k1:=k1) (k2:=k2) (k3:=k3) (k5:=k5)
  FB (mN:=mN) (T.hasType FB.hasBase) (I.ok.hd hc) rfl hni (eW I hg hm ⟨rfl,?_⟩ hd)
 exact evalArgs_empty ⟨rfl,jT _,hC,hN,T,λh' e hx=>hr E1 σ H s h' e (.ref C) [] I hx h⟩
end
section
variable{H':Hp}{s':Shared}{B h2:Heap}
theorem Inv.fsStk(I:Inv X E1 σ H s)(hb:b∈X.fs):b∈dg X.stack:=by
 rcases I.ok.stk with z|⟨z,_⟩
 rw[z];exact hb;rw[z];exact wX hb
theorem Inv.fly(I:Inv X E1 σ H s)(hos:s'.os=s.os)(hbare:AllBare s'.gens)(un:Un (dg X.stack) [] H H' s.heap s'.heap)(hok:HOk X.prog X.w H' s'.heap)
  (hB:∀b o,s.heap.get? b=some o->b∉dg X.stack->∃o',B.get? b=some o') (hT:∀b u,H' b=some u->∃o,B.get? b=some o) (st1:B.StaysIn s'.heap) (st2:B.StaysIn h2) (up:s'.heap.UpToSlots h2)
  (frm:∀b∈dg X.stack,∃o,s'.heap.get? b=some o/\∀vs,o.data≠.fields vs):Inv X E1 σ H' { s' with heap:=h2 }:=by
 have I':Inv X E1 σ H' s':=I.call' hos un hok hbare (ch:=[])<|λb z=>Qj z KE;have nostk:∀b o,X.s₀.heap.get? b=some o->b∉X.fs->b∉dg X.stack:=λb o e hb hm=>by
  rcases Yan.mp (I.stkSub b hm) with z|z
  .have l1:=dv e
   have l2:=I.ok.above;rw[<-z]at l2;exact Qj (dw l1 l2)<|iu _
  .exact hb z
 have inB:∀{b o},s.heap.get? b=some o->b∉dg X.stack->∀{u},s'.heap.get? b=some u->h2.get? b=some u:=λ{b o} e hb {u} q=>by
  obtain⟨o',eB⟩:=hB b o e hb;have:=st1 b o' eB;rw[q]at this;cases this;exact st2 b _ eB
 have cellK:∀c v,s'.heap.IsCell c v->h2.IsCell c v:=λc v ⟨o,ho,hd⟩=>by
  obtain⟨sl,e⟩:=up c o ho λvs z=>by rw[hd]at z;cases z
  exact⟨_,e,hd⟩
 refine⟨I'.ok,I'.os,I'.bare,⟨λb o e n hb hx=>?_,λb o e n hb hx=>?_,I'.base.free,λb o e hx=>?_,I'.base.tups,I'.base.frzs,I'.base.tbls,I'.base.sys⟩,?_,λx c e=>?_,I'.free,I'.freeC,λp hp=>?_,hok.through hT st1 st2,I'.len⟩
 .exact inB (I.base.keep b o e n hb hx) (nostk b o e hb)<|I'.base.keep b o e n hb hx
 .obtain⟨sl,e1⟩:=I'.base.slot b o e n hb hx
  obtain⟨o3,e3,nf⟩:=frm b<|I.fsStk hb;rw[e1]at e3;cases e3;obtain⟨sl2,e4⟩:=up b _ e1 nf;exact⟨sl2,e4⟩
 .obtain⟨o',e1⟩:=I'.base.there b o e hx
  by_cases hb:b∈dg X.stack
  .obtain⟨o3,e3,nf⟩:=frm b hb
   obtain⟨sl,e4⟩:=up b _ e3 nf;exact⟨_,e4⟩
  .obtain⟨o2,e2⟩:=I.base.there b o e hx
   exact⟨o',inB e2 hb e1⟩
 .obtain⟨m,hn,hl⟩:=I'.loc
  refine⟨m,up.ns hn,λi x v e1 e2 e3=>?_⟩;obtain⟨u,r,l⟩:=hl i x v e1 e2 e3;refine⟨u,r,?_⟩;rcases l with l|⟨k,c,e,z⟩
  .exact .inl l
  .exact .inr ⟨k,c,e,cellK c _ z⟩
 .obtain⟨v,z⟩:=I'.cell x c e
  exact⟨v,cellK c v z⟩
 .obtain⟨e,n,ne,nf,d⟩:=I'.pin p hp
  obtain⟨e0,n0,_⟩:=I.pin p hp;have hb:p.1∉dg X.stack:=λhm=>by
   rcases Yan.mp (I.stkSub _ hm) with z|z
   .exact ne z
   .exact nf z
  exact⟨inB e0 hb e,n,ne,nf,d⟩
theorem Inv.track{u:HO}(I:Inv X E1 σ H s)(hn:H a=none)(h0:X.s₀.heap.get? a=none)(hL:a≠X.env.locals)(hC:∀x c,X.env.cells.lookup x=some c->c≠a)(hP:∀p∈X.pn++E1,p.1≠a)
  (new:ObjOk X.prog X.w (upd H a u) s.heap a u) (hu:∀us,u≠.lst us):Inv X E1 σ (upd H a u) s:=by
 have nea:∀b v,H b=some v->b≠a:=λb v e z=>by rw[z,hn]at e;cases e
 refine ⟨I.ok,I.os,I.bare,⟨I.base.keep,I.base.slot,λb o e n hx=>?_,I.base.there,λb xs e=>?_,λb o xs e=>?_,λb ps e=>?_,λx0 e0 n ys=>by
   by_cases z:sysModules=a
   .rw[z,aP];exact λy=>hu ys (Qk y)
   .rw[aI z];exact I.base.sys x0 e0 n ys⟩,I.loc,I.cell,?_,λx c e=>?_,λp hp=>?_,λb v e=>?_,I.len⟩
 .rw[aI (λz=>by rw[z,h0]at e;cases e)]
  exact I.base.free b o e n hx
 .have:=I.base.tups b xs e
  rw[aI<|nea _ _ this];exact this
 .have:=I.base.frzs b o xs e
  rw[aI<|nea _ _ this];exact this
 .obtain⟨m,e1⟩:=I.base.tbls b ps e
  exact⟨m,by rw[aI<|nea _ _ e1];exact e1⟩
 .rw[aI<|Qq hL];exact I.free
 .rw[aI<|hC x c e];exact I.freeC x c e
 .obtain⟨e,n,r⟩:=I.pin p hp
  exact⟨e,by rw[aI<|hP p hp];exact n,r⟩
 .by_cases hb:b=a
  .subst hb;rw[aP]at e;cases e;exact new
  .rw[aI hb]at e
   exact(I.hok b v e).stay (λ_ _ _ q=>q) (λc q=>by rw[aI<|nea _ _ q];exact q) λc _ q=>by rw[aI<|nea _ _ q];exact q
end
abbrev Cx.tr(X:Cx)(E:Lb)(E1:K8):Cx:={ X with xe:=E,pn:=X.pn++E1 }
abbrev Cx.hnd(X:Cx)(e:Addr)(E:Lb):Cx:={ X with A:=X.A.mark<|some<|.ref e,calm:=false,xe:=E }
section
variable{pins':K8}{E:Lb}{e:Addr}
theorem Inv.tr(I:Inv X E1 σ H s):Inv (X.tr E E1) [] σ H s:=⟨⟨I.ok.mod,I.ok.kind,I.ok.glob,I.ok.blt,I.ok.above,I.ok.inj,I.ok.has,I.ok.cab,I.ok.hd,I.ok.frames,I.ok.stk,I.ok.exf,I.ok.bs,I.ok.bsz,I.ok.noex,I.ok.exfs,I.ok.funs,I.ok.frf,I.ok.sys0⟩,I.os,I.bare,I.base,I.loc,I.cell,I.free,I.freeC,λp hp=>I.pin p<|by simpa using hp,I.hok,I.len⟩
theorem Inv.untr(I:Inv (X.tr E E1) pins' σ H s):Inv X E1 σ H s:=⟨⟨I.ok.mod,I.ok.kind,I.ok.glob,I.ok.blt,I.ok.above,I.ok.inj,I.ok.has,I.ok.cab,I.ok.hd,I.ok.frames,I.ok.stk,I.ok.exf,I.ok.bs,I.ok.bsz,I.ok.noex,I.ok.exfs,I.ok.funs,I.ok.frf,I.ok.sys0⟩,I.os,I.bare,I.base,I.loc,I.cell,I.free,I.freeC,λp hp=>I.pin p<|u9 _ hp,I.hok,I.len⟩
theorem SP.untr{D:kL}{f:Flow}{s':Shared}(h:SP (X.tr E E1) pins' D f s'):SP X E1 D f s':=by
 cases f with
 |next=>obtain⟨σ',H',I,q⟩:=h;exact⟨σ',H',I.untr,q⟩
 |brk=>obtain⟨σ',H',I,q⟩:=h;exact⟨σ',H',I.untr,q⟩
 |cont=>obtain⟨σ',H',I,q⟩:=h;exact⟨σ',H',I.untr,q⟩
 |ret u=>obtain⟨v,σ',H',I,r,q⟩:=h;exact⟨v,σ',H',I.untr,r,q⟩
theorem Inv.hnd(I:Inv X E1 σ H s):Inv (X.hnd e E) E1 σ H s:=⟨⟨I.ok.mod,I.ok.kind,I.ok.glob,I.ok.blt,I.ok.above,I.ok.inj,I.ok.has,I.ok.cab,(λz=>by cases z),I.ok.frames,I.ok.stk,I.ok.exf,I.ok.bs,I.ok.bsz,I.ok.noex,I.ok.exfs,I.ok.funs,I.ok.frf,I.ok.sys0⟩,I.os,I.bare,I.base,I.loc,I.cell,I.free,I.freeC,I.pin,I.hok,I.len⟩
theorem Inv.unhnd(hd:X.calm=true->X.A.handled=none)(I:Inv (X.hnd e E) E1 σ H s):Inv X E1 σ H s:=⟨⟨I.ok.mod,I.ok.kind,I.ok.glob,I.ok.blt,I.ok.above,I.ok.inj,I.ok.has,I.ok.cab,hd,I.ok.frames,I.ok.stk,I.ok.exf,I.ok.bs,I.ok.bsz,I.ok.noex,I.ok.exfs,I.ok.funs,I.ok.frf,I.ok.sys0⟩,I.os,I.bare,I.base,I.loc,I.cell,I.free,I.freeC,I.pin,I.hok,I.len⟩
end
theorem Ks{M:Model}{E:Lb}{ea C Cs:Addr}{Q:Bool->Shared->Prop}(X:K.In s.heap)(hs:W.excIn K Cs bmB newId=true)(hbase:bmB.contains (.type "BaseException")=true)
  (he:∃oe,s.heap.get? ea=some oe/\oe.cls=.ref C) (hsub:W.mroIn K C (.ref Cs)=some true) (q:Q true s):wpAny M A (excMatches (.ref ea)<|.ref Cs) Q E s:=by
 obtain⟨bm,N,nm,qn,bs,hd,sn,sub,ab,col,dd,k0,k1,k2,k3,k5,mN,hC,hN,hni,T⟩:=FG X hs;obtain⟨oe,he,hcls⟩:=he;have hcB:(Value.ref Cs::bm).contains (.type "BaseException")=true:=by rw[vb,T.hasType hbase,Bool.or_true]
 have f:=tc_notTuple;have LS:W.Looks M s.heap (isSubtype (.ref C)<|.ref Cs) true:=W.looks_mroIn X hsub;obtain⟨hh,g,d,tk,os⟩:=s;unfold excMatches
 repeat (first|(with_reducible refine Qr he ?_;rw[hcls])|with_reducible refine Qr hC ?_|(with_reducible refine QH hC ?_;rw[hcB])|with_reducible refine LS.at ?_|wp_step)
 exact q
section
theorem Inv.names(I:Inv X E1 σ H s)(hn:h'.Ns X.env.locals m)(hs:Heap.SameBut X.env.locals s.heap h'):Inv X E1 (List.replicate σ.length none) H { s with heap:=h',toks:=t' }:=by
 have ne:∀b o,X.s₀.heap.get? b=some o->b≠X.env.locals:=λb o e=>gY<|dw (dv e) I.ok.above;have same:∀b,b≠X.env.locals->h'.get? b=s.heap.get? b:=λb hb=>hs.2 b hb;have nH:∀b u,H b=some u->b≠X.env.locals:=λb u e z=>by rw[z,I.free]at e;cases e
 refine⟨I.ok,I.os,I.bare,⟨λb o e n hb hx=>?_,λb o e n hb hx=>?_,I.base.free,λb o e hx=>?_,I.base.tups,I.base.frzs,I.base.tbls,I.base.sys⟩,⟨m,hn,λi x v _ e2 _=>?_⟩,λx c e=>?_,I.free,I.freeC,λp hp=>?_,λb u e=>?_,by rw[qv];exact I.len⟩;show h'.get? b=_;rw[same b<|ne b o e];exact I.base.keep b o e n hb hx;obtain⟨sl,e1⟩:=I.base.slot b o e n hb hx;refine⟨sl,?_⟩;show h'.get? b=_;rw[same b<|ne b o e];exact e1;obtain⟨o',e1⟩:=I.base.there b o e hx;refine⟨o',?_⟩;show h'.get? b=_;rw[same b<|ne b o e];exact e1;rw[mQ]at e2;split at e2<;>cases e2;obtain⟨v,o,ho,hd⟩:=I.cell x c e;refine⟨v,o,?_,hd⟩;show h'.get? c=_;rw[same c<|I.cne x c e];exact ho;obtain⟨e,n,nl,r⟩:=I.pin p hp;refine⟨?_,n,nl,r⟩;show h'.get? p.1=_;rw[same _ nl];exact e;refine(I.hok b u e).stay (λc v hc q=>?_) (λ_ q=>q) λ_ _ q=>q;show h'.get? c=_;rw[same c ?_];exact q;rcases hc with rfl|hc
 exact nH _ _ e;exact nH _ _ hc
end
structure RoomU(k:Nat)(A:Around):Prop where
 dp:A.depth+3*k+5<recursionLimit
 un:A.units+16*k+200<cLine
theorem RoomU.mono{j:Nat}(r:RoomU k A)(h:j<=k):RoomU j A:=⟨by have:=r.dp;omega,by have:=r.un;omega⟩
theorem RoomU.deeper{k:Nat}{A:Around}(r:RoomU (k+1) A)(env:Env):RoomU k (A.deeper env):=
 ⟨by have:=r.dp;show A.depth+1+3*k+5<_;omega,by have:=r.un;show A.units+3+16*k+200<_;omega⟩
theorem RoomU.depth{k:Nat}{A:Around}(r:RoomU k A):A.depth<recursionLimit:=by have:=r.dp;omega
theorem RoomU.units{k:Nat}{A:Around}(r:RoomU k A):A.units+64<cLine:=by have:=r.un;omega
theorem Room.u(r:Room k A):RoomU k A:=⟨r.dp,r.un⟩
theorem RoomU.mark{k:Nat}{A:Around}{v:Option Value}(r:RoomU k A):RoomU k (A.mark v):=⟨r.dp,r.un⟩
structure Af(P:Program)(w:World)(K:Qh)(mg:QW)(base:Heap)(k:Nat)(f:Addr)(fd:FuncData)(ps:Q4)(sp:Sp):Prop where
 len:∀vs H Q E,sp vs H Q E->vs.length=ps.length
 run:∀(A:Around) (outer:List Env) (s:Shared) (H:Hp) (args:Args) (us:QX) (vs:Rg) (Q:VK) (E:XK),RoomU k A->Env0 P w K mg base A outer s H->BindsTo s fd args (ps.zip us)->Vals vs us->sp vs H Q E->
  codeAny (model P w) A (.call (.ref f) args) (CR Fy outer P w H s Q E) s
def ug(P:Program)(w:World)(K:Qh)(mg:QW)(base:Heap)(N:Q4)(qual:Str)(scope:Scope)(f:Addr)(cd:Value)(A:Around)(outer:List Env)(s:Shared)(H:Hp):Cx:=
 { c9 Fy P w K mg base N qual scope f cd A outer s H E0 with calm:=false,xe:=λ_ _=>False }
theorem Kt{base:Heap}{s1:Shared}{vs:Rg}
  (S:cG N ps scope) (e0:Env0 P w K mg base A outer s H) (hl:vs.length=ps.length) (r:Vals vs us)
  (x:InCallC s s.heap.objs.size (bindL (envOfC qual scope s.heap.objs.size f cd).kindOf (ps.zip us) λ_=>none) (cellsFrom (s.heap.objs.size+1) scope.names []) (bindC (envOfC qual scope s.heap.objs.size f cd).kindOf (ps.zip us) λ_=>none) s1) :
  Inv (ug P w K mg base N qual scope f cd A outer s H) [] (start N vs) H s1:=by
 have hpl:ps.length<=N.length:=by have:=congrArg List.length S.pre;rw[iC]at this;omega
 obtain⟨h1,tk,rfl,hk⟩:=x.done;have noA:∀b:Addr,b∉(ug P w K mg base N qual scope f cd A outer s H).ex:=λb z=>Qj (show b∈([]:List Addr) from z) KE;refine ⟨⟨e0.mod,S.kind,rfl,rfl,bZ _,λy z c h1 h2=>?_,λy hy=>?_,λy c _ h=>?_,(λz=>by cases z),Around.frames_deeper e0.frames,.inr ⟨rfl,rfl⟩,λb z=>Qj z<|noA b,e0.bs,e0.bsz,λb _ _=>noA b,λb z=>Qj z<|noA b,e0.funs,e0.frf,e0.sysn⟩,
  rfl,e0.bare,Un.kept hk,⟨_,x.toInCall.ns,λi y v h1 h2 h3=>?_⟩,λy c h=>⟨_,x.cell y c h⟩,e0.hok.fresh<|bZ _,λy c h=>?_,λp hp=>Qj (show p∈([]:K8) from hp)<|KE,e0.hok.kept hk,?_⟩
 .exact name_of_addr x.apart (Qp h1)<|Qp h2
 .have hy:scope.names.lookup y=some .cell\/scope.names.lookup y=some .free:=hy
  rcases hy with hy|hy
  .exact eN hy
  .exact Qj rfl<|S.nofree _ (Qp hy)
 .exact gP<|x.above y c (Qp h)
 .have hi:i<vs.length:=by
   unfold start at h2
   by_cases hi:i<vs.length
   .exact hi
   .rw[jR<|by simpa using hi]at h2
    rw[mQ]at h2;split at h2<;>cases h2
  have ha:vs[i]? = some v:=by
   unfold start at h2;rw[kJ<|by simpa using hi,cH]at h2;cases e:vs[i]? with
   |none=>rw[e]at h2;cases h2
   |some a=>rw[e]at h2;cases h2;rfl
  obtain⟨u,hu,rv⟩:=r.get ha;have hp:ps[i]? = some y:=by
   rw[<-S.pre,BN<|E8];exact h1
  have ndP:ps.Nodup:=by rw[<-S.pre];exact S.nd.sublist<|List.take_sublist _ _
  refine⟨u,rv,?_⟩;rcases S.par y (iD hp) with k|k
  .exact .inl ⟨k,gv ndP hp hu k⟩
  .obtain⟨c,e⟩:=eN (n:=s.heap.objs.size+1) k
   refine .inr ⟨.inl k,c,e,?_⟩;have q:=x.cell y c e;rw[gw ndP hp hu (by show scope.names.lookup y≠_;rw[k];decide)]at q;exact q
 .exact e0.hok.fresh<|gP (x.above y c<|Qp h)
 .unfold start
  show _=N.length;rw[fN,bH,qv];omega
theorem Fun.okU{base:Heap}{st:Stmt}{sp:Sp}(F:Fun K x qual st f fd)(S:cG N ps (aG st))(len:∀vs H Q E,sp vs H Q E->vs.length=ps.length)
  (hbody:∀ (cdv:Value) (A:Around) (outer:List Env) (s:Shared) (H:Hp) (vs:Rg) (Q:VK) (E:XK),RoomU k (A.deeper<|envOfC qual (aG st) s.heap.objs.size f cdv)->sp vs H Q E->
   ∃t,lX (ug P w K mg base N qual (aG st) f cdv A outer s H) (bA st) t/\t { nx:=λ_ H'=>Q .non H',rt:=Q } (start N vs) H):Af P w K mg base (k+1) f fd ps sp:=by
 obtain⟨oc,od,kV,doc,pm,an,cdv,ct,osl,rfl,lk,hcd⟩:=F.ex;refine⟨len,λA outer s H args us vs Q E hr e0 hb r hsp=>?_⟩;have hl:=len _ _ _ _ hsp;have KX:K.In s.heap:=e0.mod.kin.keeps λb o e=>(e0.bs b o e).1;have lim:s.heap.NoLimit:=e0.mod.nolimit.keeps λb o e=>(e0.bs b o e).1;have hkind:∀y∈ps.zip us,(aG st).names.lookup y.1=some .local\/((aG st).names.lookup y.1=some .cell/\((cellsFrom (s.heap.objs.size+1) (aG st).names []).lookup y.1).isSome=true):=λ⟨n,v⟩ hy=>by
  rcases S.par n (zM hy).1 with q|q
  .exact .inl q
  .exact .inr ⟨q,W.cellsFrom_some _ _ _<|.inl q⟩
 refine codeAny_call_function hr.depth (KX _ _ lk) rfl S.co S.gen rfl (W.codeRec_of KX hcd)<|hb _ _ _ _ ?_;refine wpAny_newFunctionEnv_cells S.kind hkind λenv he s1 x=>?_;subst he;refine⟨lim.keeps x.toInCall.keep,codeAny_func ?_⟩;obtain⟨t,ht,hq⟩:=hbody cdv A outer s H vs Q E (hr.deeper _) hsp;have I:Inv (ug P w K mg base N qual (aG st) f cdv A outer s H) [] (start N vs) H s1:=Kt S e0 hl r x;refine Qv (ht [] s1 (start N vs) H _ I hq) (λfl s' hs=>?_) λe s' hs=>hs.elim;have fin:∀{σ':St} {H':Hp} {v:V} {u:Value},Inv (ug P w K mg base N qual (aG st) f cdv A outer s H) [] σ' H' s'->RelV v u->Q v H'->CE outer P w H s Q u s':=
  λ{σ' H' v u} J rv q=>⟨v,H',J.os,J.bare,J.base,J.hok,rv,q⟩
 cases fl with
 |ret u=>
  obtain⟨v,σ',H',J,rv,q⟩:=hs;exact fin J rv q
 |next=>
  obtain⟨σ',H',J,q⟩:=hs;exact fin (v:=V.non) (u:=Value.none) J rfl q
 |brk=>
  obtain⟨_,_,_,q⟩:=hs;exact Qw q
 |cont=>
  obtain⟨_,_,_,q⟩:=hs;exact Qw q
section
variable{sp:Sp}{E:XK}{t:TA}
theorem Ku(F:Af X.prog X.w X.K X.mg X.base k f fd ps sp)(hr:RoomU k X.A)(hg:Gl X x)(hm:X.mg x=some (.ref f))(hk:W.keepIn X.K (.ref f)=true)(hb:Binds X.K fd ps [])
  (ha:PA X (e::es) t) (hdb:(Q7 x:)) (he:{Q9 X e es}) (hpl:{Ra X pos es}) :
  PE X (.Call (.Name x p) (e::es) [] pos) (rP sp [] E t):=by
 have F':∀(E1:K8) (σ:St) (H:Hp) (s:Shared) (Q:VK) (us:QX) (vs:Rg),Inv X E1 σ H s->Vals vs us->sp (vs++[]) H Q E->wpAny (model X.prog X.w) X.A (call (.ref f) us) (EP X E1 σ Q) X.xe s:=by
  intro E1 σ H s Q us vs I r h;have r2:Vals (vs++[]) (us++[]):=by simpa using r
  have hl:(us++[]).length=ps.length:=by rw[<-r2.length];exact F.len _ _ _ _ h
  refine wpAny_call<|codeAny_mono (F.run X.A X.stack s H ⟨us,[]⟩ (us++[]) (vs++[]) Q E hr I.env0 (hb s us I.kIn hl) r2 h) λr s' hq=>?_;cases r with
  |error e=>exact Qw hq
  |ok fl=>
   cases fl with
   |ret u=>exact I.after hq|next=>exact Qw hq|brk=>exact Qw hq|cont=>exact Qw hq
 intro E1 s σ H Q I h;refine QK<|eW I hg hm ?_ hdb;refine W.callWith_K (h₀:=X.base) I.ok.mod.kin hk (bO (ha pos E1 s σ H _ I h) λus s1 ⟨vs,H1,I1,r,q⟩=>⟨I1.kIn,?_⟩) he hpl;exact F' E1 σ H1 s1 Q us vs I1 r q
end
section
open PySem PySem.Spec PySem.Calls PyProof.Rows PySem.W Builtin Builtin.ObjectAttr Builtin.Getset_descriptor
def XAt(h:Heap)(x C:Addr):Prop:=∃ox,h.get? x=some ox/\ox.cls=.ref C/\notCls ox=true
structure iJ(K:Frag)(D:Addr):Prop where
 ga:findIn K (.ref D) "__getattribute__" = some (some<|.builtin "BaseException.__getattribute__")
 gn:findIn K (.ref D) "__getattr__" = some none
 be:mroIn K D (.type "BaseException")=some true
 is:(clsIn K D).isSome=true
 at':findIn K (.ref D) "__class__" = some (some<|.builtin "object.__class__")
 gt:specialIn K (.builtin "object.__class__") "__get__" = some (some<|.builtin "getset_descriptor.__get__")
 tk:takesIn K (.builtin "object.__class__")=some true
 ob:mroIn K D (.type "object")=some true
section
variable{E:Lb}{K:Frag}{x D:Addr}
theorem XAt.type{M:Model}(I:XAt h x D):Looks M h (typeOf<|.ref x) (.ref D):=by obtain⟨ox,h1,h2,_⟩:=I;exact h2▸(Looks.ld h1).andThen .now
theorem Kv{M:Model}(X:K.In h)(c:iJ K D):Looks M h (find (.ref x) (.ref D) "__class__") (.bind (.builtin "getset_descriptor.__get__")<|.builtin "object.__class__"):=by have L1:=looks_findIn (M:=M) X c.at';have L2:Looks M h (getOf<|some<|.builtin "object.__class__") (some<|.builtin "getset_descriptor.__get__"):=looks_specialIn X c.gt;have L3:=looks_takesIn (M:=M) X c.tk;refine L1.andThen<|L2.andThen ?_;exact(show Looks M h (dataDescriptor? (some<|.builtin "object.__class__")<|some<|.builtin "getset_descriptor.__get__") (some (.builtin "getset_descriptor.__get__",.builtin "object.__class__")) from L3.andThen .now).andThen<|Looks.tag .now
theorem Kw{tp:Value}{R:Result->Shared->Prop}(X:K.In s.heap)(I:XAt s.heap x D)(hm:mroIn K D (.type "object")=some true)
  (h:R (.ok<|.ret<|.ref D) s):codeAny (model prog w) A (.call (.builtin "getset_descriptor.__get__") ⟨[.builtin "object.__class__",.ref x,tp],[]⟩) R s:=by
 obtain⟨hh,g,dr,t,os⟩:=s;have L0:=I.type (M:=model prog w);have L1:=looks_mroIn (M:=model prog w) X hm;refine codeAny_call_builtin KF.slot_gs.plain KF.entry_gs<|KF.slot_gs.check _ _ _ _ _ _ _ _ KF.type_class (KF.args_gs _ _ _) ?_;unfold Builtin.«getset_descriptor.__get__» descrGet;rw[dga_obj];refine Qg<|Qi ?_;unfold descrGetter descrCheckInstance descrNameAndClass isInstance;simp only[KF.owner_class]
 repeat lk
 refine⟨Code.quiet_builtin _<|wp,codeAny_builtin KF.entry_class ?_⟩;unfold Builtin.«object.__class__» shownTypeOf
 repeat lk
 exact h
theorem Kx{M:Model}{nameV:Value}{Q:Unit->Shared->Prop}(X:K.In s.heap)(I:XAt s.heap x D)(c:iJ K D)(hq:Q () s):wpAny M A (checkBuiltinCall "BaseException.__getattribute__" ⟨[.ref x,nameV],[]⟩) Q E s:=by
 have hk:builtinKind "BaseException.__getattribute__" = some .slot:=wp
 have hsplit:splitId "BaseException.__getattribute__" = some ("BaseException", "__getattribute__"):=wp
 have ha:=F.args_bexc_ga (.ref x) nameV;have L0:=I.type (M:=M);have L1:=looks_mroIn (M:=M) X c.be;simp only[checkBuiltinCall,hk,hsplit];refine Qg ?_;unfold isInstance;refine Qg<|L0.at (L1.at ?_)
 repeat (first|assumption|wp_step)
theorem Ky{Q:Fin->Shared->Prop}(X:K.In s.heap)(I:XAt s.heap x D)(c:iJ K D)(hq:Q (.done<|.ret<|.ref D) s) :
  wpAny (model prog w) A (Builtin.«object.__getattribute__» ⟨[.ref x,.str "__class__" tk],[]⟩) Q E s:=by
 obtain⟨hh,g,d,t,os⟩:=s;have L0:=I.type (M:=model prog w);have L2:=Kv (x:=x) (M:=model prog w) X c
 repeat (any_goals (first|assumption|(with_reducible refine L0.at ?_)|(with_reducible refine L2.at ?_)|wp_step))
 exact Kw (K:=K) (s:=⟨hh,g,d,t,os⟩) X I c.ob<|Qi hq
theorem xb{R:Result->Shared->Prop}(X:K.In s.heap)(I:XAt s.heap x D)(c:iJ K D)(hq:R (.ok<|.ret<|.ref D) s) :
  codeAny (model prog w) A (.call (.builtin "BaseException.__getattribute__") ⟨[.ref x,.str "__class__" tk],[]⟩) R s:=
 codeAny_call_builtin F.attr_ValueError.ga.plain F.entry_bexc_ga (Kx X I c<|Ky X I c hq)
theorem Kz{Q:Option Value->Shared->Prop}(X:K.In s.heap)(I:XAt s.heap x D)(c:iJ K D)(h:Q (some<|.ref D) { s with toks:=s.toks+1 }):wpAny (model prog w) A (getAttr? (.ref x) "__class__") Q E s:=by
 obtain⟨hh,g,d,t,os⟩:=s;have L0:=I.type (M:=model prog w);have L1:=looks_findIn (M:=model prog w) X c.ga;have L3:=looks_findIn (M:=model prog w) X c.gn;have f3:=F.attr_ValueError.ga.bind<|.ref x;have hx2:(Value.builtin "BaseException.__getattribute__" == Value.builtin "object.__getattribute__")=false:=wp
 have hx1:(onTheHeap (Value.ref D)&&Value.builtin "BaseException.__getattribute__" == Value.builtin "object.__getattribute__")=false:=by rw[hx2];rfl
 unfold getAttr? getAttrBy?;repeat (any_goals (first|assumption|(with_reducible refine L0.at ?_)|(with_reducible refine L1.at ?_)|(with_reducible refine L3.at ?_)|wp_step))
 exact xb (K:=K) (s:=⟨hh,g,d,t+1,os⟩) X I c<|handed_on rfl (Qi h)
theorem FH(c:iJ K D):KitX K (.ref x) (.ref D) (λh=>XAt h x D) where
 ty:=λ_ _ _ I=>I.type
 it:=λ_ _ X _=>by
  have hcD:=c.is;unfold clsIn at hcD;split at hcD;rename_i c' d' cd' sl' ho;intro A' Q' E' s' k q;unfold isType loadHead;exact Qg<|wpAny_loadPart (k _ _<|X _ _ ho) (Qi q)
  cases hcD
 ne:=λh tp dd its n sl X htp=>by
  have hcD:=c.is;refine Bool.eq_false_iff.mpr λq=>?_;have e:D=tp:=Value.ref.inj<|beq_iff_eq.mp q;subst e;unfold clsIn at hcD;split at hcD
  rename_i c' d' cd' sl' ho;have z:=(X _ _ ho).symm.trans htp;cases z;cases hcD
 ca:=λX I k=>Kz X I c k
end
end
theorem KA:fillsNumberSlot (.type "tuple") "mul" = pure false:=
 PySem.fillsNumberSlot_seq (id:= "tuple.__mul__") (r:=some<|.builtin "tuple.__rmul__") F.slot_tuple_mul.lookup wp F.slot_tuple_rmul.lookup wp
theorem KB:seqRepeat? (.type "tuple")=pure (some<|.builtin "tuple.__mul__"):=by unfold seqRepeat?;rw[PySem.seqSlot_of (T:= "tuple") (name:= "__mul__") (id:= "tuple.__mul__") F.slot_tuple_mul.lookup<|wp,PySem.seqSlot_of (T:= "tuple") (name:= "__rmul__") (id:= "tuple.__rmul__") F.slot_tuple_rmul.lookup<|wp];rfl
theorem KC(a:Int)(t:Tok)(l:Addr)(items:Array Value)(n:Nat)(dd:Option Addr)(sl:Array (Option Value)) :
  Meets (Builtin.«int.__rmul__» ⟨[.int a t,.ref l],[]⟩) (λ_ R s=>s.heap.get? l=some { cls:=.type "tuple",dict:=dd,data:=.seq items n,slots:=sl }/\R (.ok<|.ret Value.notImplemented) s):=
 .of_wp λprog w A R s h=>by obtain⟨hp,g,d,tk,os⟩:=s;obtain⟨hl,h⟩:=h;wp_walk;exact⟨_,rfl,h⟩
theorem KD(l:Addr)(items:Array Value)(n:Nat)(dd:Option Addr)(sl:Array (Option Value))(k:Int)(t:Tok)(h1:-(2^63)<=k)(h1':k<2^63)(h2:(items.isEmpty||k==1)=true) :
  Meets (Builtin.«tuple.__mul__» ⟨[.ref l,.int k t],[]⟩) (λ_ R s=>s.heap.get? l=some { cls:=.type "tuple",dict:=dd,data:=.seq items n,slots:=sl }/\R (.ok<|.ret<|Value.ref l) s):=by
 intro prog w A R s h;obtain⟨hp,g,d,tk,os⟩:=s;obtain⟨hl,h⟩:=h;have f1:=AutoSeq1.idx_int;have c1:¬(decide (k < -2^63)||decide (k ≥ 2^63))=true:=by simp;omega
 unfold Builtin.«tuple.__mul__»
 wp_walk using wpAny_loadPart' hl
 rw[fz c1]
 wp_walk using wpAny_loadPart' hl
 exact h
theorem KG(l:Addr)(items:Array Value)(n:Nat)(dd:Option Addr)(sl:Array (Option Value))(k:Int)(t:Tok)(h1:-(2^63)<=k)(h1':k<2^63)(h2:¬(items.isEmpty||k==1)=true)(h3:k<=0) :
  Meets (Builtin.«tuple.__mul__» ⟨[.ref l,.int k t],[]⟩) (λ_ R s=>s.heap.get? l=some { cls:=.type "tuple",dict:=dd,data:=.seq items n,slots:=sl }/\R (.ok<|.ret<|Value.ref s.heap.objs.size) { s with heap:=s.heap.push { cls:=Value.type "tuple",data:=Data.seq #[] } }):=by
 intro prog w A R s h;obtain⟨hp,g,d,tk,os⟩:=s;obtain⟨hl,h⟩:=h;have f1:=AutoSeq1.idx_int;have c1:¬(decide (k < -2^63)||decide (k ≥ 2^63))=true:=by simp;omega
 have c2:(decide (k<=0)||items.isEmpty)=true:=by simp[h3]
 unfold Builtin.«tuple.__mul__»
 wp_walk using wpAny_loadPart' hl
 rw[fz c1]
 wp_walk using wpAny_loadPart' hl
 exact h
theorem KH(l:Addr)(items:Array Value)(n:Nat)(dd:Option Addr)(sl:Array (Option Value))(k:Int)(t:Tok)(h1:-(2^63)<=k)(h1':k<2^63)(h2:¬(items.isEmpty||k==1)=true)(h3:0<k)(h4:items.size*k.toNat<=sizeLine) :
  Meets (Builtin.«tuple.__mul__» ⟨[.ref l,.int k t],[]⟩) (λ_ R s=>s.heap.get? l=some { cls:=.type "tuple",dict:=dd,data:=.seq items n,slots:=sl }/\R (.ok<|.ret<|Value.ref s.heap.objs.size) { s with heap:=s.heap.push { cls:=Value.type "tuple",data:=Data.seq (List.foldl (λx1 x2=>x1++x2) #[] (List.replicate k.toNat items)) } }):=by
 intro prog w A R s h;obtain⟨hp,g,d,tk,os⟩:=s;obtain⟨hl,h⟩:=h;have f1:=AutoSeq1.idx_int;have c1:¬(decide (k < -2^63)||decide (k ≥ 2^63))=true:=by simp;omega
 have c2:¬(decide (k<=0)||items.isEmpty)=true:=by
  have:items.isEmpty=false:=by cases q:items.isEmpty<;>simp_all
  simp[this];omega
 have hk:(items.size:Int)*k=((items.size*k.toNat:Nat):Int):=by rw[Int.natCast_mul,BV<|E8]
 have hsl:(sizeLine:Nat)=2^24:=rfl;have c3:¬((items.size:Int)*k>(2^63-1)/8):=by rw[hk];omega
 have c4:¬Builtin.Tuple.tupleTooMany ((items.size:Int)*k)=true:=λz=>by have z':=QQ z;rw[hk]at z';omega
 unfold Builtin.«tuple.__mul__»
 wp_walk using wpAny_loadPart' hl
 rw[fz c1]
 wp_walk using wpAny_loadPart' hl
 rw[fz c3]
 wp_walk using wpAny_loadPart' hl
 rw[fz c4]
 wp_walk using wpAny_loadPart' hl
 have hnew:List.foldl (λx1 x2=>x1++x2) #[] (List.replicate k.toNat items)=(List.replicate k.toNat items.toList).flatten.toArray:=by
  have:=eY items.toList k.toNat [];rw[dQ]at this;simpa using this
 have c5:¬((List.foldl (λx1 x2=>x1++x2) #[] (List.replicate k.toNat items)).size>sizeLine):=by
  rw[hnew,fj,jF,zK,zO];omega
 rw[fz c5]
 wp_walk using wpAny_loadPart' hl
 exact h
section
theorem Inv.tnew{ys:Rg}{its:QX}(I:Inv X E1 σ H s)(hv:Vals ys its)(hz:ys.length<=sizeLine) :
  Inv X E1 σ (upd H s.heap.objs.size<|.tup ys) { s with heap:=s.heap.push { cls:=.type "tuple",data:=.seq its.toArray },toks:=t' }:=
 I.laid (λ_ _ q=>dM _ q) (bZ _) ⟨hz,its,hv,IsTup.new _ _⟩
def xc(K:Qh):R2:=λx y H Q=>∃l k xs,x=.ref l/\y=.int k/\SqT K H l xs/\-(2^63)<=k/\k<2^63/\xs.length*k.toNat<=sizeLine/\
 ((xs=[]\/k=1)->Q (.ref l) H)/\∀p,H p=none->Q (.ref p) (upd H p<|.tup (List.replicate k.toNat xs).flatten)
theorem KI:OpR X (binaryOp .Mult) (xc X.K):=by
 intro E1 s σ H x y v u Q I rx ry h;obtain⟨l,k,xs,rfl,rfl,hq,h1,h2,hz,q1,q2⟩:=h;cases rx;obtain⟨t,rfl⟩:=ry;obtain⟨its,r,pl,_⟩:=I.tuple hq;have hl:xs.length=its.length:=r.length;obtain⟨⟨cls,dd,data,sl⟩,ho,hc,n,hd⟩:=id pl;simp only at hc hd;subst hc hd;refine wpAny_binaryOp_repeat_ref (T:= "tuple") (U:= "int") F4 ⟨_,ho,rfl⟩ (λs'=>typeIs_int s' k t) KA F.fills_int_mul F.slot_int_rmul KB F.slot_int_index.lookup
  (call_meets F.slot_int_rmul (typeIs_int s k t) F.entry_int_rmul (F.args_int_rmul_2 _ _) (KC k t l its.toArray n dd sl) ⟨ho,rfl,⟨_,ho,rfl⟩,?_⟩)
 by_cases hs:(its.toArray.isEmpty||k==1)=true;refine call_meets F.slot_tuple_mul ⟨_,ho,rfl⟩ F.entry_tuple_mul (F.args_tuple_mul_2 _ _) (KD l its.toArray n dd sl k t h1 h2 hs) ⟨ho,⟨.ref l,H,I,rfl,q1 ?_⟩⟩;rw[BP]at hs;rcases hs with hs|hs
 exact .inl<|r.nil_iff.mp (by simpa using hs)
 exact .inr<|beq_iff_eq.mp hs
 by_cases h3:k<=0;refine call_meets F.slot_tuple_mul ⟨_,ho,rfl⟩ F.entry_tuple_mul (F.args_tuple_mul_2 _ _) (KG l its.toArray n dd sl k t h1 h2 hs h3) ⟨ho,⟨.ref _,_,I.tnew (its:=[]) (ys:=(List.replicate k.toNat xs).flatten) (t':=s.toks) ?_ ?_,rfl,q2 _ I.fresh⟩⟩;rw[show k.toNat=0 by omega];exact .nil;rw[show k.toNat=0 by omega];exact jT _;have hnew:List.foldl (λx1 x2=>x1++x2) #[] (List.replicate k.toNat its.toArray)=(List.replicate k.toNat its).flatten.toArray:=by have:=eY its k.toNat [];rw[dQ]at this;exact this
 refine call_meets F.slot_tuple_mul ⟨_,ho,rfl⟩ F.entry_tuple_mul (F.args_tuple_mul_2 _ _) (KH l its.toArray n dd sl k t h1 h2 hs E8 (by rw[fj,<-hl];exact hz)) ⟨ho,?_⟩;rw[hnew];exact⟨.ref _,_,I.tnew (t':=s.toks) (r.rep k.toNat) (by rw[jF,zO];exact hz),rfl,q2 _ I.fresh⟩
end
theorem KJ(hh:A.handled=none)(it l:Addr)(hne:l≠it)(xs:Array Value):Draws prog w A it [it,l] xs.size (λi v=>xs[i]? = some v) (λi h=>SIt κ h it l i/\SSq κ h l xs) where
 live:=λ_ _ st=>let⟨o,ho,_⟩:=st.1.obj;⟨o,ho⟩
 frame:=λ_ _ _ st hk=>⟨st.1.keep λo e=>hk it KE o e,st.2.keep λo e=>hk l KE o e⟩
 item:=λi s Q E hi st hQ=>wY st.1 st.2 (x:=xs[i]) (by simp[hi]) λh' hit' hs'=>hQ _ h' s.toks (by simp[hi]) ⟨hit',st.2.keep λo e=>hs'.extBut l o hne e⟩ hs'
 done:=λs Q E st hE=>vj hh st.1 st.2 KE hE
theorem KK(hh:A.handled=none)(it l:Addr)(xs:Array Value)(n:Nat)(hn:xs[n]? = none):Draws prog w A it [it,l] n (λ_ _=>False) (λj h=>j=n/\SIt κ h it l n/\SSq κ h l xs) where
 live:=λ_ _ st=>let⟨o,ho,_⟩:=st.2.1.obj;⟨o,ho⟩
 frame:=λ_ _ _ st hk=>⟨st.1,st.2.1.keep λo e=>hk it KE o e,st.2.2.keep λo e=>hk l KE o e⟩
 item:=λi s Q E hi st hQ=>Qj st.1<|gY hi
 done:=λs Q E st hE=>vj hh st.2.1 st.2.2 hn hE
abbrev qe(κ:Bool)(h:Heap)(l:Addr):Heap:=h.push<|io κ l
abbrev CZ(κ:Bool)(h:Heap)(l:Addr):Heap:=(qe κ h l).push { cls:=.type "enumerate",data:=.fields #[.none,.bool false,.ref h.objs.size,rawInt 0,.none,.none] }
theorem KM(l:Addr)(xs:Array Value)(n:Nat)(dct:Option Addr)(sl:Array (Option Value)) :
  Meets (Builtin.«enumerate.__new__» ⟨[.type "enumerate",.ref l],[]⟩) (λ_ R s=>s.heap.get? l=some { cls:=.type "tuple",dict:=dct,data:=.seq xs n,slots:=sl }/\R (.ok<|.ret<|.ref (qe true s.heap l).objs.size) { s with heap:=CZ true s.heap l }):=
 .of_wp λprog w A R s h=>by
  obtain⟨hp,g,d,tk,os⟩:=s;obtain⟨hl,h⟩:=h;have hsub:=sub_enumerate;have hT:SSq true (Shared.heap ⟨hp,g,d,tk,os⟩) l xs:=(show Heap.IsTuple _ l xs from⟨_,hl,rfl,n,rfl⟩)
  wp_walk using AutoSeq1.wpAny_loadPart' hl
  refine wpAny_stack_any λst=>(Qi ?_);split
  .rename_i c _ _ _ _ _
   cases(c==Value.type "enumerate")<;>(wp_walk using AutoSeq1.wpAny_loadPart' hl,uf hT;exact⟨_,rfl,h⟩)
  .wp_walk using AutoSeq1.wpAny_loadPart' hl,uf hT
   exact⟨_,rfl,h⟩
theorem KN{E:Lb}(hL:SSq κ s.heap l xs)
  (h:∀h',IsEnum h' (s.heap.objs.size+1) s.heap.objs.size 0 .none->SIt κ h' s.heap.objs.size l 0->(∀b o,s.heap.get? b=some o->h'.get? b=some o)->Q (.ref<|s.heap.objs.size+1) { s with heap:=h' }) :
  wpAny (model prog w) A (call (.type "enumerate") [.ref l]) Q E s:=by
 cases κ with
 |false=>exact call_enumerate_list hL λh' he hi _ hk=>h h' he hi hk
 |true=>
  obtain⟨⟨c,dct,dt,sl⟩,hl,hc,n,hd⟩:=(show s.heap.IsTuple l xs from hL)
  replace hc:c=.type "tuple" :=hc;replace hd:dt=.seq xs n:=hd;subst hc hd;refine callType_new F.called_enumerate F4 (F.typeCall_enumerate_1 _) (F.newCall_enumerate_1 _) (λobj=>F.args_object_init_2 obj _) F.entry_enumerate_new (KM l xs n dct sl) ⟨hl,?_⟩;have hz:(qe true s.heap l).objs.size=s.heap.objs.size+1:=oW ..;have g2:(CZ true s.heap l).get? (qe true s.heap l).objs.size=some _:=g6 _ rfl;have g1:(CZ true s.heap l).get? s.heap.objs.size=some _:=dM _<|g6 _ rfl;show _/\_;rw[hz]at g2 ⊢;exact⟨⟨_,g2,rfl⟩,h _ g2 (Ae g1) λb o x=>dM _<|dM _ x⟩
def FI(K:Qh)(κ:Bool)(a:Addr):It:=
  ⟨λi H=>∃ xs x,Sq K κ H a xs/\xs[i]? = some x,
   λi H v H'=>∃p x,v=.ref p/\H p=none/\H'=upd H p (.tup [.int i,x])/\∀xs,Sq K κ H a xs->xs[i]? = some x,
   λi H=>∃xs,Sq K κ H a xs/\xs.length<=i⟩
theorem KO{ps:Pos}(a e it:Addr)(hne:e≠it) :
  jY P w K (.Tuple es n1 ps) (FI K κ a) [e,it] e (λi h=>(∃old,IsEnum h e it i old)/\SIt κ h it a i) where
 mem:=KE
 obj:=λi h ⟨⟨old,q1⟩,q2⟩ c hc=>by
  simp only[Yan,gQ,or_false]at hc;rcases hc with rfl|rfl
  .exact⟨_,q1,λv e=>by cases e⟩
  .exact q2.obj
 keep:=λi h h' ⟨⟨old,q1⟩,q2⟩ k=>⟨⟨old,k e KE _ q1⟩,q2.keep λo x=>k it KE o x⟩
 item:=by
  intro X hP hw hK hc i E1 s σ H E I hf ⟨⟨old,q1⟩,q2⟩ hg;subst hP hw hK;obtain⟨xs,x,hx,ex⟩:=hg;obtain⟨its,rv,p,hz⟩:=I.sq hx;obtain⟨ux,hux,rux⟩:=rv.get ex;have oe:=I.sq_out hx<|hf e KE;have oi:=I.sq_out hx<|hf it KE;have hi:i<its.toArray.size:=by have:=(Yaq.mp hux).1;simpa using this
  refine wpAny_pyNext_enum_itemD (KJ (κ:=κ) (A:=X.A.in1) (I.ok.hd hc) it a oi its.toArray) q1 ⟨q2,p⟩ hi hne (by simp[hne,Qq oe]) λy h' tk b1 b2 b3 b4 b5 b6=>⟨_,rfl,?_⟩;have ey:y=ux:=by
   have:its[i]? = some y:=by simpa using b1
   rw[hux]at this;exact(Qk this).symm
  subst ey;refine wpAny_letOwnedTupleGo_enum (s:={ s with heap:=h',toks:=tk+1 }) b2 λh2 c1 c2=>?_;have lt:∀{c o},s.heap.get? c=some o->c≠s.heap.objs.size:=λz=>gY<|dv z;have el:=lt q1;have up:∀c o,c∉[e,it]->s.heap.get? c=some o->h2.get? c=some o:=λc o hc z=>by
   simp only[Yan,gQ,or_false,not_or]at hc;exact c2.extBut _ _ hc.1<|b6 c o hc.1 hc.2 z
  refine⟨.ref s.heap.objs.size,upd H s.heap.objs.size<|.tup [.int i,x],Inv.turnedN (s:=s) (t':=tk+1) [e,it] I up hf (bZ _) ?_,rfl,⟨s.heap.objs.size,x,rfl,I.fresh,rfl,λxs' h'=>by rw[I.sq_inj h' hx];exact ex⟩,?_,λc hc=>?_⟩
  .refine⟨by rw[sizeLine_eq];simp,[.int i tk,y],.cons ⟨_,rfl⟩<|.cons rux .nil,?_⟩
   exact⟨_,c2.extBut _ _ (Qq el) b4,rfl,_,rfl⟩
  .exact⟨⟨_,by simpa using c1⟩,b3.1.keep λo z=>c2.extBut _ o (Qq hne) z⟩
  .have he:∃o,s.heap.get? c=some o:=by
    simp only[Yan,gQ,or_false]at hc;rcases hc with rfl|rfl
    .exact⟨_,q1⟩
    .obtain⟨o,z,_⟩:=q2.obj;exact⟨o,z⟩
   obtain⟨o,z⟩:=he;rw[aI<|lt z];exact(hf c hc).1
 done:=by
  intro X hP hw hK hc i E1 s σ H E I hf ⟨⟨old,q1⟩,q2⟩ hg;subst hP hw hK;obtain⟨xs,hx,en⟩:=hg;obtain⟨its,rv,p,hz⟩:=I.sq hx;have l1:=rv.length;have oi:=I.sq_out hx<|hf it KE;refine wpAny_pyNext_enum_endD (KK (κ:=κ) (A:=X.A.in1) (I.ok.hd hc) it a its.toArray i (by simp;omega)) q1 ⟨rfl,q2,p⟩ λh' k=>⟨rfl,?_⟩;refine I.turnedL (t':=s.toks) [e,it] (λc o hc z=>?_) hf;simp only[Yan,gQ,or_false,not_or]at hc;exact k c o hc.2 z
 self:=λ_ _ _ _ _ st h=>let⟨⟨_,q⟩,_⟩:=st;QR q h
theorem FJ(n b:Nat)(h:b=n+1\/b=n):n<=b:=E8
section
def xg(K:Qh)(ta:TA):TI:=λσ H R=>ta σ H λvs H1=>∃κ a,vs=[.ref a]/\(∃xs,Sq K κ H1 a xs)/\R (FI K κ a) H1
theorem KP{a:Expr}{ps:Pos}(hg:Gl X "enumerate")(hm:X.mg "enumerate" = none)(ha:PA X [a] ta)(hs:{starEach [a] X.env=[(false,eval a X.env)]}) :
  PI X (.Tuple es n1 ps) (.Call (.Name "enumerate" p) [a] [] pos) (xg X.K ta):=by
 intro E1 s σ H R I h;refine Call_<|eL I hg hm boot_enumerate (PyProof.Rows.callWith_type1 (bO (ha pos E1 s σ H _ I h) λus s1 ⟨vs,H1,I1,r1,q1⟩=>?_) hs rfl);obtain⟨κ,l,rfl,⟨xs,hx⟩,q⟩:=q1;cases r1 with
 |cons r rr=>
  cases rr;cases r;obtain⟨its,rv,p1,hz⟩:=I1.sq hx;refine KN p1 λh' a1 a2 k=>QR (s:={ s1 with heap:=h' }) a1 ?_;refine⟨_,[s1.heap.objs.size+1,s1.heap.objs.size],_,_,H1,rfl,I1.kept (t':=s1.toks) k,KO (κ:=κ) l _ _<|Nat.succ_ne_self _,⟨⟨_,a1⟩,a2⟩,λb hb=>?_,q⟩;have hb':s1.heap.objs.size<=b:=by
   simp only[Yan,gQ,or_false]at hb;exact FJ _ _ hb
  exact I1.fpOk hb'<|I1.hok.fresh hb'
end
section
variable{CX:mX}{E:XK}{c:Expr}{tc:TE}{t:TA}
def KQ(X:Cx)(CX:mX)(E:XK)(tc:TE)(t:TA):TE:=λσ H Q=>tc σ H λx H1=>∃(f:Addr) (k:Nat) (fd:FuncData) (ps:Q4) (sp:Sp),x=.ref f/\eD X.prog X.w X.K X.mg X.base CX k f fd ps sp/\Room k X.A/\W.keepIn X.K (.ref f)=true/\Binds X.K fd ps []/\t σ H1 λvs H2=>sp vs H2 Q E
theorem KR(hx:cF CX X E)(hc:PE X c tc)(ha:PA X (e::es) t)
  (hcall:{eval (.Call c (e::es) [] pos) X.env=(do callWith pos (<-eval c X.env) [] (backTo pos<|starEach (e::es) X.env) (backToKw pos<|keywordEach [] X.env))})
  (he:{Q9 X e es}) (hpl:{Ra X pos es}) :
  PE X (.Call c (e::es) [] pos) (KQ X CX E tc t):=by
 intro E1 s σ H Q I h;rw[hcall];refine Qg<|bO (hc E1 s σ H _ I h) λu s1 z0=>?_;obtain⟨x,H1,I1,r1,f,k,fd,ps,sp,ex,F,hr,hk,hb,q1⟩:=z0;subst ex;cases r1;refine W.callWith_K (h₀:=X.base) I1.ok.mod.kin hk (bO (ha pos E1 s1 σ H1 _ I1 q1) λus s2 ⟨vs,H2,I2,r,q⟩=>⟨I2.kIn,?_⟩) he hpl;exact pG F hr hb .nil hx I2 r (by rw[oS];exact q)
end
end L2
namespace PySem
theorem KS{prog:Program}{w:World}{A:Around}{E:Lb}{s:Shared}{T newId initId:String}{Bn Bi:Builtin}{args:QX}{kw:List (Str×Value)}{S:Spec}{Q Q₁:Lb}(ft:TypeCalled T newId initId)
  (hct:checkTypeCall T ⟨args,kw⟩=pure ()) (hcn:checkBuiltinCall newId ⟨.type T::args,kw⟩=pure ())
  (entryN:entryFor table newId=some Bn) (entryI:entryFor table initId=some Bi) (g:Meets (Bn ⟨.type T::args,kw⟩) S)
  (h:S A.in1 (wants Q₁ E) s)
  (hnext:∀obj s₁,Q₁ obj s₁->s₁.TypeIs obj T/\argsOk initId ⟨obj::args,kw⟩/\∃Si,Meets (Bi ⟨obj::args,kw⟩) Si/\Si A.in1 (wants (λr s₂=>r=.none/\Q obj s₂) E) s₁) :
  wpAny (model prog w) A (call (.type T) args kw) Q E s:=by
 obtain⟨c,tl,hmro⟩:=ft.mro;have hmade:=ft.made;have hsub:=ft.sub;refine wpAny_call<|codeAny_of_tree ?_;show wpAny _ _ (callAny (.type T) _) _ _ _;refine Qi ⟨Code.quiet_builtin _<|wp,codeAny_builtin F.entry_type_call ?_⟩;rw[Around.under_plain (weight_type_call_type T args kw)<|units_type_call_type T args kw];have h1:=ft.notType;have h2:=ft.canCreate
 repeat (any_goals (first|assumption|wp_step))
 refine codeAny_mono (codeAny_call_builtin ft.plain entryN<|wpAny_of_eq hcn<|g prog w A.in1 _ s h) λr s₁ hr=>?_;cases r with
 |error e=>exact hr
 |ok fl=>
  cases fl with
  |ret obj=>
   obtain⟨hT,hok,Si,gi,hsi⟩:=hnext _ _ hr;have hli:=ft.init.lookup;have hbi:=ft.init.bind obj
   repeat (any_goals (first|assumption|wp_step))
   refine codeAny_mono (codeAny_call_builtin ft.init.plain entryI<|ft.init.check _ _ _ _ _ _ _ _ hT hok<|gi prog w A.in1 _ s₁ hsi) λr₂ s₂ hr₂=>?_;cases r₂ with
   |error e=>exact hr₂
   |ok fl₂=>
    cases fl₂ with
    |ret r=>
     obtain⟨rfl,hq⟩:=hr₂
     repeat (any_goals (first|assumption|wp_step))
    |_=>exact hr₂.elim
  |_=>exact hr.elim
theorem KU{T newId:String}{self:Value}{rest:QX}{kw:List (Str×Value)}(hl:typeLookup (.type T) "__init__" = pure (some<|.builtin "object.__init__"))
  (hm:Bind.madeBy (.type T)=pure (some newId)) (hne:(some newId != some "object.__new__")=true) :
  Meets (Builtin.«object.__init__» ⟨self::rest,kw⟩) (λ_ R s=>s.TypeIs self T/\R (.ok<|.ret .none) s):=by
 refine Meets.of_wp λprog w A R s hs=>?_;obtain⟨hT,hq⟩:=hs;cases rest with
 |nil=>
  cases kw with
  |nil=>exact Qi ⟨_,rfl,hq⟩
  |cons k kw=>
   repeat (any_goals (first|assumption|wp_step))
   exact⟨_,rfl,hq⟩
 |cons a rest=>
  repeat (any_goals (first|assumption|wp_step))
  exact⟨_,rfl,hq⟩
theorem KW{M:Model}{A:Around}{E:Lb}{s:Shared}{env:Env}{pos:Pos}{T:String}{e:Expr}{rest:List Expr}{kws:List Keyword}{Q:Lb}
  (h:wpAny M A (spliced<|backTo pos<|starEach (e::rest) env) (λvs s₁=>wpAny M A (evalAll ((backToKw pos<|keywordEach kws env).map (·.2)))
   (λkvs s₂=>wpAny M A (call (.type T) vs (((backToKw pos<|keywordEach kws env).filterMap (·.1)).zip kvs)) Q E s₂) E s₁) E s)
  (he:{backTo pos (starEach (e::rest) env)=(false,eval e env)::backTo pos (starEach rest env)})
  (hplain:{(backTo pos<|starEach (e::rest) env).any (·.1)=false})
  (hall:{(backToKw pos<|keywordEach kws env).all (·.1.isSome)=true})
  (hkw:{(backToKw pos<|keywordEach kws env).any (·.1.isNone)=false}) :
  wpAny M A (callWith pos (.type T) [] (backTo pos<|starEach (e::rest) env)<|backToKw pos<|keywordEach kws env) Q E s:=by
 rw[he]at h hplain ⊢;unfold callWith;refine Qg<|Qy (Qv (PyProof.Rows.evalArgs_kwB (Q:=λa s₁=>wpAny M A (call (.type T) ([]++a.pos) a.kw) Q E s₁) hall h) (λa s₁ h₁=>Qg<|QC ?_) λ_ _ x=>x);simp only[hplain,hkw,Bool.or_false];refine Qg<|Qi ?_;exact Qg<|Qv h₁ (λr s₂ hr=>Qg<|Qy<|wpAny_point<|Qi hr) λ_ _ x=>x
end PySem
namespace L2
open PySem PySem.Spec PyProof.Rows
variable{prog P:Program}{w:World}{A:Around}{s:Shared}{Q:Lb}{K:Qh}{es f2 ifs:List Expr}{n1 k:Nat}{ps pos:Pos}{X:Cx}{a elt:Expr}{h:Heap}{m mg:QW}{fI e b:Addr}{newId:String}{f qual:Str}{H H1:Hp}{scope sc:Scope}{fd:FuncData}{E1:K8}{σ:St}{vars:Q4}{sel:Q6}{te:TE}{wi2:TI}
theorem KY(a b:Value):checkTypeCall "enumerate" ⟨[a],[("start",b)]⟩=pure ():=by kernel_rfl
theorem KZ(a b:Value):checkBuiltinCall "enumerate.__new__" ⟨[.type "enumerate",a],[("start",b)]⟩=pure ():=by kernel_rfl
theorem K0(o a b:Value):argsOk "object.__init__" ⟨[o,a],[("start",b)]⟩:=by unfold argsOk;kernel_rfl
theorem K1(l:Addr)(xs:Array Value)(n:Nat)(t:Tok)(dct:Option Addr)(sl:Array (Option Value)) :
  Meets (Builtin.«enumerate.__new__» ⟨[.type "enumerate",.ref l],[("start",.int 1 t)]⟩) (λ_ R s=>s.heap.get? l=some { cls:=.type "list",dict:=dct,data:=.seq xs n,slots:=sl }/\
   R (.ok<|.ret<|.ref (qe false s.heap l).objs.size) { s with heap:=(qe false s.heap l).push { cls:=.type "enumerate",data:=.fields #[.none,.bool false,.ref s.heap.objs.size,rawInt 1,.none,.none] } }):=
 .of_wp λprog w A R s h=>by
  obtain⟨hp,g,d,tk,os⟩:=s;obtain⟨hl,h⟩:=h;have hsub:=sub_enumerate;have hT:SSq false (Shared.heap ⟨hp,g,d,tk,os⟩) l xs:=(show Heap.IsList _ l xs from⟨_,hl,rfl,n,rfl⟩)
  wp_walk using AutoSeq1.wpAny_loadPart' hl
  refine wpAny_stack_any λst=>(Qi ?_);split
  .rename_i c _ _ _ _ _
   cases(c==Value.type "enumerate")
   .wp_walk using AutoSeq1.wpAny_loadPart' hl,uf hT
    exact⟨_,rfl,h⟩
   .wp_walk using AutoSeq1.wpAny_loadPart' hl,uf hT
    exact⟨_,rfl,h⟩
  .wp_walk using AutoSeq1.wpAny_loadPart' hl,uf hT
   exact⟨_,rfl,h⟩
theorem K2{E:Lb}{l:Addr}{t:Tok}{xs:Array Value}(hL:SSq false s.heap l xs)
  (h:∀h',IsEnum h' (s.heap.objs.size+1) s.heap.objs.size 1 .none->SIt false h' s.heap.objs.size l 0->(∀b o,s.heap.get? b=some o->h'.get? b=some o)->Q (.ref<|s.heap.objs.size+1) { s with heap:=h' }) :
  wpAny (model prog w) A (call (.type "enumerate") [.ref l] [("start",.int 1 t)]) Q E s:=by
 obtain⟨⟨c,dct,dt,sl⟩,hl,hc,n,hd⟩:=(show s.heap.IsList l xs from hL)
 replace hc:c=.type "list" :=hc;replace hd:dt=.seq xs n:=hd;subst hc hd;refine KS (Q₁:=λobj s₁=>s₁.TypeIs obj "enumerate" /\Q obj s₁) F.called_enumerate (KY _ _) (KZ _ _) F.entry_enumerate_new F.entry_object_init (K1 l xs n t dct sl) ⟨hl,?_⟩ λobj _ hq=>⟨hq.1,K0 obj _ _,_,KU F.called_enumerate.init.lookup F.called_enumerate.made<|F4,hq.1,rfl,hq.2⟩;have hz:(qe false s.heap l).objs.size=s.heap.objs.size+1:=oW ..;have g2:((qe false s.heap l).push { cls:=.type "enumerate",data:=.fields #[.none,.bool false,.ref s.heap.objs.size,rawInt 1,.none,.none] }).get? (qe false s.heap l).objs.size=some _:=g6 _ rfl;have g1:((qe false s.heap l).push { cls:=.type "enumerate",data:=.fields #[.none,.bool false,.ref s.heap.objs.size,rawInt 1,.none,.none] }).get? s.heap.objs.size=some _:=dM _<|g6 _ rfl;show _/\_;rw[hz]at g2 ⊢;exact⟨⟨_,g2,rfl⟩,h _ g2 (Ae g1) λb o x=>dM _<|dM _ x⟩
theorem K3(hh:A.handled=none)(it l:Addr)(hne:l≠it)(xs:Array Value):Draws prog w A it [it,l] (xs.size+1) (λi v=>xs[i-1]? = some v) (λi h=>1<=i/\SIt false h it l (i-1)/\SSq false h l xs) where
 live:=λ_ _ st=>let⟨o,ho,_⟩:=st.2.1.obj;⟨o,ho⟩
 frame:=λ_ _ _ st hk=>⟨st.1,st.2.1.keep λo e=>hk it KE o e,st.2.2.keep λo e=>hk l KE o e⟩
 item:=λi s Q E hi st hQ=>by
  have h2:=st.1;have hi':i-1<xs.size:=E8
  exact wY st.2.1 st.2.2 (x:=xs[i-1]) (by simp[hi']) λh' hit' hs'=>hQ _ h' s.toks (by simp[hi']) ⟨E8,by rw[show i+1-1=i-1+1 by omega];exact hit',st.2.2.keep λo e=>hs'.extBut l o hne e⟩ hs'
 done:=λs Q E st hE=>vj hh st.2.1 st.2.2 KE hE
theorem K6(hh:A.handled=none)(it l:Addr)(xs:Array Value)(n:Nat)(hn:xs[n]? = none):Draws prog w A it [it,l] (n+1) (λ_ _=>False) (λj h=>j=n+1/\SIt false h it l n/\SSq false h l xs) where
 live:=λ_ _ st=>let⟨o,ho,_⟩:=st.2.1.obj;⟨o,ho⟩
 frame:=λ_ _ _ st hk=>⟨st.1,st.2.1.keep λo e=>hk it KE o e,st.2.2.keep λo e=>hk l KE o e⟩
 item:=λi s Q E hi st hQ=>Qj st.1<|gY hi
 done:=λs Q E st hE=>vj hh st.2.1 st.2.2 hn hE
def xh(K:Qh)(a:Addr):It:=
  ⟨λi H=>∃ xs x,Sq K false H a xs/\xs[i]? = some x,
   λi H v H'=>∃p x,v=.ref p/\H p=none/\H'=upd H p (.tup [.int ((i+1:Nat):Int),x])/\∀xs,Sq K false H a xs->xs[i]? = some x,
   λi H=>∃xs,Sq K false H a xs/\xs.length<=i⟩
theorem K7(a e it:Addr)(hne:e≠it) :
  jY P w K (.Tuple es n1 ps) (xh K a) [e,it] e (λi h=>(∃old,IsEnum h e it ((i+1:Nat):Int) old)/\SIt false h it a i) where
 mem:=KE
 obj:=λi h ⟨⟨old,q1⟩,q2⟩ c hc=>by
  simp only[Yan,gQ,or_false]at hc;rcases hc with rfl|rfl
  .exact⟨_,q1,λv e=>by cases e⟩
  .exact q2.obj
 keep:=λi h h' ⟨⟨old,q1⟩,q2⟩ k=>⟨⟨old,k e KE _ q1⟩,q2.keep λo x=>k it KE o x⟩
 item:=by
  intro X hP hw hK hc i E1 s σ H E I hf ⟨⟨old,q1⟩,q2⟩ hg;subst hP hw hK;obtain⟨xs,x,hx,ex⟩:=hg;obtain⟨its,rv,p,hz⟩:=I.sq hx;obtain⟨ux,hux,rux⟩:=rv.get ex;have oe:=I.sq_out hx<|hf e KE;have oi:=I.sq_out hx<|hf it KE;have hi:i<its.toArray.size:=by have:=(Yaq.mp hux).1;simpa using this
  refine wpAny_pyNext_enum_itemD (i:=i+1) (K3 (A:=X.A.in1) (I.ok.hd hc) it a oi its.toArray) q1 ⟨E8,by rw[Nat.add_sub_cancel];exact q2,p⟩ E8 hne (by simp[hne,Qq oe]) λy h' tk b1 b2 b3 b4 b5 b6=>⟨_,rfl,?_⟩;have ey:y=ux:=by
   have:its[i]? = some y:=by simpa using b1
   rw[hux]at this;exact(Qk this).symm
  subst ey;refine wpAny_letOwnedTupleGo_enum (s:={ s with heap:=h',toks:=tk+1 }) b2 λh2 c1 c2=>?_;have lt:∀{c o},s.heap.get? c=some o->c≠s.heap.objs.size:=λz=>gY<|dv z;have el:=lt q1;have up:∀c o,c∉[e,it]->s.heap.get? c=some o->h2.get? c=some o:=λc o hc z=>by
   simp only[Yan,gQ,or_false,not_or]at hc;exact c2.extBut _ _ hc.1<|b6 c o hc.1 hc.2 z
  refine⟨.ref s.heap.objs.size,upd H s.heap.objs.size<|.tup [.int ((i+1:Nat):Int),x],Inv.turnedN (s:=s) (t':=tk+1) [e,it] I up hf (bZ _) ?_,rfl,⟨s.heap.objs.size,x,rfl,I.fresh,rfl,λxs' h'=>by rw[I.sq_inj h' hx];exact ex⟩,?_,λc hc=>?_⟩
  .refine⟨by rw[sizeLine_eq];simp,[.int ((i+1:Nat):Int) tk,y],.cons ⟨_,rfl⟩<|.cons rux .nil,?_⟩
   exact⟨_,c2.extBut _ _ (Qq el) b4,rfl,_,rfl⟩
  .refine⟨⟨y,?_⟩,?_⟩
   .have e1:(((i+1+1:Nat)):Int)=((i+1:Nat):Int)+1:=E8
    rw[e1];exact c1
   .have:=b3.2.1.keep (h':=h2) λo z=>c2.extBut _ o (Qq hne) z
    rwa [show i+1+1-1=i+1 by omega]at this
  .have he:∃o,s.heap.get? c=some o:=by
    simp only[Yan,gQ,or_false]at hc;rcases hc with rfl|rfl
    .exact⟨_,q1⟩
    .obtain⟨o,z,_⟩:=q2.obj;exact⟨o,z⟩
   obtain⟨o,z⟩:=he;rw[aI<|lt z];exact(hf c hc).1
 done:=by
  intro X hP hw hK hc i E1 s σ H E I hf ⟨⟨old,q1⟩,q2⟩ hg;subst hP hw hK;obtain⟨xs,hx,en⟩:=hg;obtain⟨its,rv,p,hz⟩:=I.sq hx;have l1:=rv.length;have oi:=I.sq_out hx<|hf it KE;refine wpAny_pyNext_enum_endD (K6 (A:=X.A.in1) (I.ok.hd hc) it a its.toArray i (by simp;omega)) q1 ⟨rfl,q2,p⟩ λh' k=>⟨rfl,?_⟩;refine I.turnedL (t':=s.toks) [e,it] (λc o hc z=>?_) hf;simp only[Yan,gQ,or_false,not_or]at hc;exact k c o hc.2 z
 self:=λ_ _ _ _ _ st h=>let⟨⟨_,q⟩,_⟩:=st;QR q h
section
def La(K:Qh)(ta:TA):TI:=λσ H R=>ta σ H λvs H1=>∃a,vs=[.ref a]/\(∃xs,Sq K false H1 a xs)/\R (xh K a) H1
theorem Lc{ta:TA}{p kp cp:Pos}{j:Nat}(hg:Gl X "enumerate")(hm:X.mg "enumerate" = none)(ha:PA X [a] ta)(hs:{starEach [a] X.env=[(false,eval a X.env)]}) :
  PI X (.Tuple es n1 ps) (.Call (.Name "enumerate" p) [a] [⟨some "start",.Constant (.int 1) j cp,kp⟩] pos) (La X.K ta):=by
 intro E1 s σ H R I h;refine QK<|eL I hg hm boot_enumerate ?_;refine KW (bO (ha pos E1 s σ H _ I h) λus s1 ⟨vs,H1,I1,r1,q1⟩=>?_) (by rw[hs];rfl) (by rw[hs];rfl);obtain⟨l,rfl,⟨xs,hx⟩,q⟩:=q1;cases r1 with
 |cons r rr=>
  cases rr;cases r;refine PyProof.Rows.kws_cons<|wpAny_Constant_int (PyProof.Rows.kws_nil ?_);obtain⟨its,rv,p1,hz⟩:=I1.sq hx;refine K2 (s:={ s1 with toks:=s1.toks+1 }) p1 λh' a1 a2 k=>QR (s:={ s1 with heap:=h',toks:=s1.toks+1 }) a1 ?_;refine⟨_,[s1.heap.objs.size+1,s1.heap.objs.size],_,_,H1,rfl,I1.kept (t':=s1.toks+1) k,K7 l _ _<|Nat.succ_ne_self _,⟨⟨_,a1⟩,a2⟩,λb hb=>?_,q⟩;have hb':s1.heap.objs.size<=b:=by
   simp only[Yan,gQ,or_false]at hb;exact FJ _ _ hb
  exact I1.fpOk hb'<|I1.hok.fresh hb'
end
namespace Fl
def quiet(f:Str):Q4:=["__setattr__", "__getattribute__", "__getattr__",f]
noncomputable def Ag(K:Qh)(ns:Q4)(bmB:QX):QX->Bool
 |[]=>bmB==[]
 |v::r=>(v::r)==bmB||match v with
  | .ref a=>(match K.lookup a with
   |some ⟨_,_,.cls cd,_⟩=>W.nsOkIn K cd.ns&&ns.all (λn=>W.nsIn K cd.ns n==some none)&&Ag K ns bmB r
   |_=>false)
  |_=>false
theorem FK{K:Qh}{h:Heap}{ns:Q4}{bmB:QX}(X:K.In h):∀{l:QX},Ag K ns bmB l=true->Tl h ns bmB l
 |[],e=>by rw[<-beq_iff_eq.mp e];exact .last
 |v::r,e=>by
  unfold Ag at e;rcases Bool.or_eq_true_iff.mp e with q|q
  rw[<-beq_iff_eq.mp q];exact .last;split at q;split at q;rename_i ho;simp only[dX,Ybd,QM]at q;exact .more (X _ _ ho) (.of_isNs<|W.isNs_of_in X q.1.1) (λn hn=>W.nsMap_none_of_in X q.1.1<|q.1.2 n hn)<|FK X q.2
  cases q;cases q
theorem xj{N:Addr}{n:Str}{v:Value}(X:K.In h)(G:h.Ns N m)(e:W.nsIn K N n=some (some v)):m n=some v:=by obtain⟨ob,es,ep,at1,at2,_,fnd⟩:=G;unfold W.nsIn at e;split at e;rename_i z;have y:=X _ _ z;rw[at1]at y;cases y;cases at2;split at e;rename_i found;cases e;rw[<-fnd];unfold nsFind findBy;rw[<-Array.find?_toList,found];rfl;split at e<;>cases e;cases e
def clsF(K:Qh)(C:Addr)(bmB:QX)(newId:String)(f:Str)(fI:Addr):Bool:=match K.lookup C with
 | some ⟨.type "type",_,.cls cd,sl⟩=>(match cd.mro,sl.toList with
  |.ref C'::bm,[_,_,_,_,some<|.builtin n,_]=>C'==C&&n==newId && !cd.hasDel&&cd.hasDict&&Ag K ("__init__" ::quiet f) bmB bm&&W.nsOkIn K cd.ns&&W.nsIn K cd.ns "__init__" == some (some<|.ref fI)&&(quiet f).all (λn=>W.nsIn K cd.ns n==some none)
  |_,_=>false)
 |_=>false
structure CF(h:Heap)(C:Addr)(bmB:QX)(newId:String)(f:Str)(fI:Addr):Prop where
 h:∃(bm:QX) (N:Addr) (nm qn:Str) (bs:QX) (sn:Q4) (sub:QX) (ab:Bool) (col:Option Bool) (dd:Option Addr) (k0 k1 k2 k3 k5:Option Value) (mN:QW),
  h.get? C=some (excClassObj nm qn C N bs bm true sn sub ab col dd k0 k1 k2 k3 k5 newId)/\h.Ns N mN/\mN "__init__" = some (.ref fI)/\(∀n∈quiet f,mN n=none)/\Tl h ("__init__" ::quiet f) bmB bm
theorem clsF_of{C:Addr}{bmB:QX}(X:K.In h)(q:clsF K C bmB newId f fI=true):CF h C bmB newId f fI:=by
 unfold clsF at q;split at q;rename_i dd cd sl ho;split at q;rename_i C' bm k0 k1 k2 k3 n k5 hm hs;simp only[dX,QM,sT,Ybd]at q;obtain⟨⟨⟨⟨⟨⟨⟨rfl,rfl⟩,hdel⟩,hdc⟩,ht⟩,hok⟩,hi⟩,hq⟩:=q;obtain⟨nm,bs,mro,ns,qn,hd,sn,sub,ab,col,del⟩:=cd;dsimp only at hm hdel hok hi hq hdc;subst hm hdel hdc;have hsl:sl = #[k0,k1,k2,k3,some<|.builtin n,k5]:=by
  cases sl with
  |mk l=>exact congrArg Array.mk hs
 subst hsl;have jQ:h.Ns ns (h.nsMap ns):=.of_isNs<|W.isNs_of_in X hok;exact⟨bm,ns,nm,qn,bs,sn,sub,ab,col,dd,k0,k1,k2,k3,k5,_,X _ _ ho,jQ,xj X jQ hi,λm hm=>W.nsMap_none_of_in X hok<|hq m hm,FK X ht⟩
 cases q;cases q
def exX(C t e:Addr)(dx:Option Addr):HO:=.ext λh=>h.get? e=some (ue C t dx)
def rem(H:Hp)(e:Addr):Hp:=λb=>if b=e then none else H b
theorem rem_ne(h:b≠e):rem H e b=H b:=fz h
theorem Le:rem H e e=none:=ks rfl
theorem FL{u:HO}(h:rem H e b=some u):b≠e/\H b=some u:=by unfold rem at h;split at h;cases h;rename_i ne;exact⟨ne,h⟩
theorem HOk.obj(k:HOk P w H h){u:HO}(e:H b=some u):∃o,h.get? b=some o:=by
 have q:=k b u e;cases u with
 |lst xs=>obtain⟨_,_,_,_,e⟩:=q;exact⟨_,e⟩
 |tup xs=>obtain⟨_,_,_,o,e,_⟩:=q;exact⟨_,e⟩
 |dK kvs=>obtain⟨_,_,_,_,o,_,_,e,_⟩:=q;exact⟨_,e⟩
 |dT kvs=>obtain⟨_,_,_,_,o,_,_,e,_⟩:=q;exact⟨_,e⟩
 |set S n=>obtain⟨o,_,_,_,e,_⟩:=q;exact⟨_,e⟩
 |ins C dx fs=>obtain⟨_,_,_,e,_⟩:=q;exact⟨_,e⟩
 |own y=>obtain⟨o,e⟩:=q;exact⟨_,e⟩
 |xd fs=>obtain⟨_,⟨o,_,_,e,_⟩,_⟩:=q;exact⟨_,e⟩
 |rng lo hi=>obtain⟨_,_,_,e⟩:=q;exact⟨_,e⟩
 |frz ob u=>obtain⟨e,_⟩:=q;exact⟨_,e⟩
 |tbl ps=>exact⟨_,(show h.get? b=some _ from q)⟩|met f y=>exact⟨_,(show h.get? b=some _ from q)⟩|ext φ=>obtain⟨_,⟨o,e⟩,_⟩:=q;exact⟨_,e⟩
def RaisD(X:Cx)(E:XK):Prop:=∀(E1:K8) (σ:St) (H:Hp) (s:Shared) (e C t:Addr) (dx:Option Addr),Inv X E1 σ H s->H e=some (exX C t e dx)->X.s₀.heap.get? e=none->E (.ref C) dx (rem H e)->X.xe (.ref e) s
section
variable{base:Heap}{N:Q4}{f:Addr}{cd:Value}{outer:List Env}{E:XK}
theorem raisd_cx:RaisD (c9 (dj P w) P w K mg base N qual scope f cd A outer s H E) E:=by
 intro E1 σ H1 s1 e C t dx I he new hE;have ib:Un (dg outer) [] H H1 s.heap s1.heap:=I.base;have obj:s1.heap.get? e=some (ue C t dx):=(I.hok e _ he).1;generalize hS:envOfC qual scope s.heap.objs.size f cd::outer=S;have neL:∀b o,s.heap.get? b=some o->b∉dg outer->b∉dg S:=λb o q hb hm=>by
  rw[<-hS]at hm;rcases Yan.mp (I.stkSub b hm) with z|z
  have l2:s.heap.objs.size<=(envOfC qual scope s.heap.objs.size f cd).locals:=I.ok.above;have z':b=(envOfC qual scope s.heap.objs.size f cd).locals:=z;rw[<-z']at l2;exact Qj (dw (dv q) l2)<|iu _
  exact hb z
 have stk:s1.heap.FunFrames base S:=by rw[<-hS];exact I.stack
 have frm:∀b,b∈dg S->∃o,s1.heap.get? b=some o/\∀vs,o.data≠.fields vs:=λb hb=>(stk.mem hb).2;have noE:∀b o,s.heap.get? b=some o->b≠e:=λb o q z=>by rw[z]at q;have new':s.heap.get? e=none:=new;rw[new']at q;cases q
 have eF:e∉dg S:=λz=>by obtain⟨o,q,nf⟩:=frm e z;rw[obj]at q;cases q;exact nf _ rfl
 let B:=W.hideAll s1.heap (e::dg S);have inB:∀{b o},s1.heap.get? b=some o->b≠e->b∉dg S->B.get? b=some o:=λq ne hb=>W.hideAll_get _ q λz=>(Yan.mp z).elim ne hb;have st:B.StaysIn s1.heap:=λb o q=>W.of_hideAll _ q;have newB:B.get? e=none:=W.hideAll_none _<|gZ ..;have hT:∀b u,rem H1 e b=some u->∃o,B.get? b=some o:=λb u q=>by obtain⟨ne,q⟩:=FL q;obtain⟨o,z⟩:=HOk.obj I.hok q;refine⟨o,inB z ne λhm=>?_⟩;rw[<-hS]at hm;have:=I.stkFree b hm;rw[q]at this;cases this
 have hok1:HOk P w (rem H1 e) s1.heap:=λb u q=>by obtain⟨ne,q⟩:=FL q;refine(I.hok b u q).stay (λ_ _ _ z=>z) (λc z=>?_) λc xs z=>?_;rw[rem_ne (λy=>by rw[y,he]at z;cases z)];exact z;rw[rem_ne (λy=>by rw[y,he]at z;cases z)];exact z
 show wpAny (model P w) (A.deeper<|envOfC qual scope s.heap.objs.size f cd) (leaving (envOfC qual scope s.heap.objs.size f cd)<|.ref e) (λ_ s''=>dj P w outer H s E (.ref e) s'') _ _;have fB:s1.heap.FunFrames B (envOfC qual scope s.heap.objs.size f cd::outer):=by rw[hS];exact W.funFrames_hide stk λenv hv b hb=>fM _<|Yaz.mpr ⟨env,hv,hb⟩
 refine leaves_new (P:=Is (.ref C) dx) Is.firm I.ok.frames fB rfl obj ⟨rfl,rfl⟩ st newB rfl rfl λh3 fl up=>?_;refine ⟨e,.ref C,dx,rem H1 e,B,rfl,fl,I.os,I.bare,⟨λb o q n hb _=>?_,λb o q n hb _=>?_,λb o q n _=>?_,λb o q _=>?_,λb xs q=>?_,λb o xs q=>?_,λb ps q=>?_,λ_ eg n ys=>by
   by_cases y:sysModules=e
   .rw[y,Le];exact λz=>by cases z
   .rw[rem_ne y];exact ib.sys KE eg n ys⟩,HOk.through hok1 hT st fl.st,λb o q hb=>?_,hT,hE⟩
 exact fl.st b o<|inB (ib.keep b o q n hb<|KE) (noE b o q) (neL b o q hb)
 obtain⟨sl,e1⟩:=ib.slot b o q n hb KE;obtain⟨o3,e3,nf⟩:=frm b (by rw[<-hS];exact wX hb);rw[e1]at e3;cases e3;obtain⟨sl3,e4⟩:=up b _ e1 nf;exact⟨sl3,e4⟩;rw[rem_ne<|noE b o q];exact ib.free b o q n KE;obtain⟨o',e1⟩:=ib.there b o q KE;by_cases hb:b∈dg S;obtain⟨o3,e3,nf⟩:=frm b hb;obtain⟨sl3,e4⟩:=up b _ e3 nf;exact⟨_,e4⟩;exact⟨o',fl.st b o'<|inB e1 (noE b o q) hb⟩;have:=ib.tups b xs q;rw[rem_ne (λy=>by rw[y,he]at this;cases this)];exact this;have:=ib.frzs b o xs q;rw[rem_ne (λy=>by rw[y,he]at this;cases this)];exact this;obtain⟨m,e1⟩:=ib.tbls b ps q;exact⟨m,by rw[rem_ne (λy=>by rw[y,he]at e1;cases e1)];exact e1⟩;obtain⟨o',e1⟩:=ib.there b o q KE;exact⟨o',inB e1 (noE b o q)<|neL b o q hb⟩
end
abbrev bmV:QX:=[.type "ValueError",.type "Exception",.type "BaseException",.type "object"]
section
variable{C:Addr}{o value:Expr}{pos':Pos}
def xm(C:Addr)(f:Str):TS:=λD σ H=>∃e t k,σ[0]? = some (some<|.ref e)/\σ[1]? = some (some<|.int k)/\H e=some (exX C t e none)/\∀d,H d=none->d≠e->D.nx σ (upd (upd H e<|exX C t e<|some d) d<|.xd [(f,.int k)])
theorem jw(hq:clsF X.K C bmV newId f fI=true)(hB:typeLookup (.type "ValueError") f=pure none)(ho:PE X o (qC 0))(hv:PE X value (qC 1))(hs:swapsWith value (some<|.Attribute o f pos') pos.line X.env=pure false) :
  PS X (.Assign [.Attribute o f pos'] value pos) (xm C f):=by
 rintro E1 s σ H D I ⟨e,t,k,h0,h1,he,q⟩;refine plainObj_wpAny_Assign_Attribute (bO (hv E1 s σ H (λv H'=>v=.int k/\H'=H) I ⟨_,h1,rfl,rfl⟩) λu s1 ⟨y,H1,I1,ry,ey,eH⟩=>?_) hs;subst ey eH;refine bO (ho E1 s1 σ H1 (λv H'=>v=.ref e/\H'=H1) I1 ⟨_,h0,rfl,rfl⟩) λov s2 z0=>?_;obtain⟨x,H2,I2,rx,ex,eH⟩:=z0;subst ex eH;cases rx;have obj:s2.heap.get? e=some (ue C t none):=(I2.hok e _ he).1;obtain⟨bm,N,nm,qn,bs,sn,sub,ab,col,dd,k0,k1,k2,k3,k5,mN,hC,hN,_,qm,T⟩:=(clsF_of I2.kIn hq).h;obtain⟨hp,g,dr,tk,os⟩:=s2;dsimp only at obj hC hN T I2;refine Kh (B:= "ValueError") F.store_ValueError hC hN T (qm _<|by simp[quiet]) (qm _<|by simp[quiet]) (by simp[quiet]) (by simp[quiet]) hB obj rfl rfl rfl λh' tk' d m nd ne x1 x2 x3 x4 x5=>?_;have Hd:H2 d=none:=by
  cases z:H2 d with
  |none=>rfl
  |some w=>
   obtain⟨o,y⟩:=HOk.obj I2.hok z;have y':hp.get? d=some o:=y;rw[nd]at y';cases y'
 have ned:∀{b o},hp.get? b=some o->b≠d:=λz y=>by rw[y,nd]at z;cases z
 have nee:∀{b},H2 b=none->b≠e:=λz y=>by rw[y,he]at z;cases z
 have at1:∀{b},b≠d->b≠e->upd (upd H2 e<|exX C t e<|some d) d (.xd [(f,.int k)]) b=H2 b:=λy z=>by rw[aI y,aI z]
 have un:Un X.fs [] H2 (upd (upd H2 e<|exX C t e<|some d) d<|.xd [(f,.int k)]) hp h':=by
  refine ⟨λb o z n _ _=>x5 b o (nee n) z,λb o z n _ _=>⟨o.slots,x5 b o (nee n) z⟩,λb o z n _=>?_,λb o z _=>?_,λb xs z=>?_,λb o xs z=>?_,λb ps z=>⟨#[],?_⟩,λ_ _ n ys=>by
   by_cases y:sysModules=d
   .rw[y,aP];exact λz=>by cases z
   by_cases v:sysModules=e
   .rw[aI y,v,aP];exact λz=>by first|cases z|(unfold exX at z;cases z)
   .rw[at1 y v];exact n ys⟩
  .rw[at1 (ned z)<|nee n];exact n
  .by_cases y:b=e
   .rw[y];exact⟨_,x1⟩
   .exact⟨o,x5 b o y z⟩
  .rw[at1 (λy=>by rw[y,Hd]at z;cases z) (λy=>by rw[y,he]at z;cases z)];exact z
  .rw[at1 (λy=>by rw[y,Hd]at z;cases z) (λy=>by rw[y,he]at z;cases z)];exact z
  .rw[at1 (λy=>by rw[y,Hd]at z;cases z) (λy=>by rw[y,he]at z;cases z),z];simp
 have hok:HOk X.prog X.w (upd (upd H2 e<|exX C t e<|some d) d<|.xd [(f,.int k)]) h':=λb u z=>by
  by_cases y:b=d
  .subst y
   rw[aP]at z;cases z;refine⟨m,x2,λn=>?_⟩
   by_cases w:n=f
   .subst w
    rw[x3];simp only[lT,Qx];exact ry
   .rw[x4 n w]
    have:(n==f)=false:=beq_eq_false_iff_ne.mpr w;simp only[lT,this,List.lookup_nil];trivial
  .rw[aI y]at z
   by_cases w:b=e
   .subst w
    rw[aP]at z;cases z;exact⟨x1,⟨_,x1⟩,λ_ _ p r=>r _ p⟩
   .rw[aI w]at z
    refine(I2.hok b u z).stay (λc v hc r=>?_) (λc r=>?_) λc xs r=>?_
    .refine x5 c v (λp=>?_) r
     rcases hc with hc|hc
     .exact w<|hc.symm.trans p
     .rw[p,he]at hc;cases hc
    .rw[at1 (λp=>by rw[p,Hd]at r;cases r) (λp=>by rw[p,he]at r;cases r)];exact r
    .rw[at1 (λp=>by rw[p,Hd]at r;cases r) (λp=>by rw[p,he]at r;cases r)];exact r
 exact⟨σ,_,I2.un (t':=tk') un hok,q d Hd ne⟩
end
def spI(C:Addr)(f:Str):Sp:=λvs H Q _=>∃e t k,vs=[.ref e,.int k]/\H e=some (exX C t e none)/\∀d,H d=none->d≠e->Q .non (upd (upd H e<|exX C t e<|some d) d<|.xd [(f,.int k)])
theorem init_ok{base:Heap}{x a0 a1:Str}{st:Stmt}{C fJ:Addr}{p0 p1 pos':Pos}(F:Fun K x qual st fI fd)(sc:cG [a0,a1] [a0,a1] (aG st))
  (hq:clsF K C bmV newId f fJ=true) (hB:typeLookup (.type "ValueError") f=pure none) (hb:bA st=[.Assign [.Attribute (.Name a0 p0) f pos'] (.Name a1 p1) pos])
  (hs:∀env,swapsWith (.Name a1 p1) (some<|.Attribute (.Name a0 p0) f pos') pos.line env=pure false) (d0:Q7 a0) (d1:Q7 a1) (c0:(a0==("__classdict__" : Str))=false) (c1:(a1==("__classdict__" : Str))=false) :
  eD P w K mg base (dj P w) (k+1) fI fd [a0,a1] (spI C f):=by
 obtain⟨oc,od,kV,doc,pm,an,cdv,ct,osl,rfl,lk,hcd⟩:=F.ex;have v0:kA (aG st) a0:=(sc.par a0<|KE).elim .inl λz=>.inr<|.inl z;have v1:kA (aG st) a1:=(sc.par a1<|KE).elim .inl λz=>.inr<|.inl z;refine pH lk hcd sc (λvs H Q E ⟨e,t,k,z,_⟩=>by rw[z];rfl) λA outer s H vs Q E hr hsp=>?_;obtain⟨e,t,k,rfl,he,q⟩:=hsp;refine⟨xm C f,?_,e,t,k,rfl,rfl,he,q⟩;rw[hb];exact eX<|jw (X:=c9 (dj P w) P w K mg base [a0,a1] qual (aG st) fI cdv A outer s H E) hq hB (db rfl v0 d0 c0) (db rfl v1 d1 c1) (hs _)
section
variable{EX:XK}{C:Addr}{x:Str}{ps:Q4}{ta:TE}{np cpos:Pos}
theorem ps_raisef(hr:RaisD X EX)(hc:X.calm=true)(hm:X.mg x=some (.ref C))(hq:clsF X.K C bmV "ValueError.__new__" f fI=true)(Fi:eD X.prog X.w X.K X.mg X.base (dj X.prog X.w) k fI fd ps (spI C f))(hro:Room (k+1) X.A)(hb:Binds X.K fd ps [])(hl:∃od osl,X.K.lookup fI=some ⟨.type "function",od,.func fd,osl⟩)
  (ha:PE X a ta) (hg:{Gl X x}) (hd:(Q7 x:)) (he:{starEach [a] X.env=[(false,eval a X.env)]}) (hex:{X.ex=[]}) :
  PS X (.Raise (some<|.Call (.Name x np) [a] [] cpos) none pos) (λ_ σ H=>ta σ H λv H1=>∃n,v=.int n/\∀d,H1 d=none->EX (.ref C) (some d) (upd H1 d<|.xd [(f,.int n)])):=by
 intro E1 s σ H D I h;obtain⟨bm,N,nm,qn,bs,sn,sub,ab,col,dd,k0,k1,k2,k3,k5,mN,hC,hN,hi,qm,T⟩:=(clsF_of I.mod.kin hq).h;have isB:bm.contains (.type "BaseException")=true:=T.has wp;obtain⟨od,osl,lI⟩:=hl;have hoI:=I.mod.kin _ _ lI;refine Kg (C:=C) (nm:=nm) (q:=qn) (N:=N) (bs:=bs) (bm:=bm) (hdct:=true) (sn:=sn) (sub:=sub) (ab:=ab) (col:=col) (dd:=dd) (k0:=k0) (k1:=k1) (k2:=k2) (k3:=k3) (k5:=k5) (mN:=mN) (fI:=fI) (oI:=⟨.type "function",od,.func fd,osl⟩) F.excBase_ValueError isB (I.ok.hd hc) (by rw[he];rfl) hi rfl<|eW I hg hm ⟨rfl,?_⟩ hd;have hp:=gS (X:=X) (e:=a) (es:=[]) ha jy (by rw[he];rfl);have go:=hp cpos E1 s σ H (λvs H1=>match vs with|[v]=>∃n,v=.int n/\∀d,H1 d=none->EX (.ref C) (some d) (upd H1 d<|.xd [(f,.int n)])|_=>False) I;rw[he]at go ⊢;refine Calls.evalArgs_plain<|bO (go (by
  unfold rO wE;exact h)) λus s2 ⟨vs,H2,I2,rv,q⟩=>?_
 obtain⟨v,rfl⟩:∃v,vs=[v]:=by
  match vs,q with
  |[v],_=>exact⟨v,rfl⟩
 obtain⟨n,rfl,q⟩:=q;have ul:us.length=1:=rv.length.symm;refine⟨rfl,by rw[ul];decide,I2.bk _ _ hC,hN.keeps I2.bk,(T.keeps I2.bk).own<|KE,I2.bk _ _ hoI,λh' e m=>?_⟩;obtain⟨t,at1,_,_⟩:=m.there;have I3:Inv X E1 σ H2 { s2 with heap:=h' }:=I2.kept (t':=s2.toks) m.keeps;have noE:∀{b o},s2.heap.get? b=some o->b≠e:=λz y=>by rw[y,m.new]at z;cases z
 have He:H2 e=none:=by
  cases z:H2 e with
  |none=>rfl|some u=>obtain⟨o,y⟩:=HOk.obj I2.hok z;exact Qj rfl<|noE y
 have h0:X.s₀.heap.get? e=none:=by
  cases z:X.s₀.heap.get? e with
  |none=>rfl|some o=>obtain⟨o',y⟩:=I2.base.there e o z (by rw[hex];simp);exact Qj rfl<|noE y
 have hL:e≠X.env.locals:=λz=>by
  obtain⟨_,⟨o,_,_,y,_⟩,_⟩:=I2.loc;exact noE y z.symm
 have I4:Inv X E1 σ (upd H2 e<|exX C t e none) { s2 with heap:=h' }:=I3.track He h0 hL (λy c z w=>by
  obtain⟨v,o,ho,_⟩:=I2.cell y c z;exact noE ho w) (λp hp w=>noE (I2.pin p hp).1 w) ⟨at1,⟨_,at1⟩,λ_ _ p r=>r _ p⟩ (λ_ z=>by first|cases z|(unfold exX at z;cases z))
 have hlen:(Value.ref e::us++[]).length=ps.length:=by
  have:=Fi.len [.ref e,.int n] (upd H2 e<|exX C t e none) (λ_ _=>True) E0 ⟨e,t,n,rfl,aP,λ_ _ _=>trivial⟩;rw[<-this,oS,dR,ul];rfl
 have bi:=hb { s2 with heap:=h' } (.ref e::us) I4.kIn hlen;rw[oS]at bi;refine wpAny_call<|codeAny_mono (Fi.run _ X.stack _ _ ⟨.ref e::us,[]⟩ (.ref e::us) [.ref e,.int n] (λv H5=>v = .non/\∃ d,H2 d=none/\d≠e/\H5=upd (upd H2 e<|exX C t e<|some d) d (.xd [(f,.int n)])) E0 (hro.make C us []) (I4.env0.make C us []) bi (.cons rfl rv)
  ⟨e,t,n,rfl,aP,λd hd ne=>⟨rfl,d,by rw[aI ne]at hd;exact hd,ne,by rw[qz]⟩⟩) λr s3 z=>?_
 cases r with
 |error e'=>exact(cU E1 σ _ _ e' s3 I4 z:_)
 |ok fl=>
  cases fl with
  |ret u=>
   obtain⟨v,H',I5,r5,rfl,d,hd,ne,rfl⟩:=I4.after z;have e5:upd (upd H2 e<|exX C t e<|some d) d (.xd [(f,.int n)]) e=some (exX C t e<|some d):=by rw[aI<|Qq ne,aP]
   refine⟨r5,t,some d,I5.bk _ _ hC,(I5.hok e _ e5).1,hr E1 σ _ s3 e C t (some d) I5 e5 h0 ?_⟩;have:rem (upd (upd H2 e<|exX C t e<|some d) d<|.xd [(f,.int n)]) e=upd H2 d (.xd [(f,.int n)]):=by
    funext b;unfold rem upd
    by_cases y:b=e
    .rw[ks y,fz<|λw=>ne<|w.symm.trans y,y,He]
    .rw[fz y,fz y]
   rw[this];exact q d hd
  |next=>exact Qw z|brk=>exact Qw z|cont=>exact Qw z
end
end Fl
end L2
namespace LP
open PySem PySem.Spec PyProof.Rows L2
variable{n a k b i j n1 m:Nat}{dx od an:Option Addr}{K:Qh}{vs us:Rg}{e c tg elt target iter ix:Expr}{H H1 H2 H0:Hp}{o:HO}{σ:L2.St}{X:Cx}{EX:XK}{pos p p2 pos' spos apos cpos np:Pos}{x qual name:Str}{op:CmpOp}{es ifs:List Expr}{t:K5}{T L U:Nat->Q5}{f fa:Addr}{fd:FuncData}{ps vars:Q4}{E1:K8}{s:QY}{lo hi:Option Expr}{st:Stmt}{sts body suite:List Stmt}{sc:Scope}{sel:Q6}{P:Program}{mg:QW}{q q0:Rat}{r l row:QZ}{A:Nat->Nat->Int}{h:Heap}{osl sl:Array (Option Value)}{v':Nat->Int}{XP:(QW)->Heap->Prop}{YP:World->Heap->Prop}
set_option genInjectivity true in
set_option genInjectivity true in
inductive D where
 |non|bl (b:Bool)|int (i:Int)|str (x:Str)|tup (xs:List D)|lst (xs:List D)|dic|pen|cls (n:Str)|exc (n:Str)|ty (n:String)|scr (xs:List D)|pl (k:Nat) (b:Addr)
abbrev Rc:=List D
abbrev Rf:=D->Prop
variable{ds xs ys:Rc}{d y:D}{xss:List Rc}{Q:Rf}{Q' QL:Rc->Prop}
structure Wd where
 G:Hp
 Pn:Addr->Prop
variable{W' W1 W2 W0:Wd}
def KT(K:Qh)(a:Addr)(vs:Rg):Prop:=
 ∃(o:Obj) (its:Array Value) (n:Nat),K.lookup a=some o/\o.cls=.type "tuple" /\o.data=.seq its n/\its.size<=sizeLine/\Vals vs its.toList
def h7(K:Qh)(n:Str):Option Addr:=match W.nsIn K mainGlobals n with|some (some<|.ref a)=>some a|_=>none
def xtab:List (Str×Str×Str×Int):=[("NotStrong1", "NotStrong", "size",1),("NotStrong2", "NotStrong", "size",2),("NotStrong3", "NotStrong", "size",3),("NotStrong4", "NotStrong", "size",4),("NotStrong5", "NotStrong", "size",5),("NoText0", "NoText", "row",0),("NoText1", "NoText", "row",1),("NoText2", "NoText", "row",2),("NoText3", "NoText", "row",3),("NoText4", "NoText", "row",4),("NoText5", "NoText", "row",5),("NoText6", "NoText", "row",6),("NoText7", "NoText", "row",7),("NoText8", "NoText", "row",8),("NoText9", "NoText", "row",9),("NoText10", "NoText", "row",10),("NoText11", "NoText", "row",11),("NoText12", "NoText", "row",12),("NoText13", "NoText", "row",13),("NoText14", "NoText", "row",14),("NoText15", "NoText", "row",15)]
def iK(n:Str):Option (Str×Str×Int):=(xtab.find? λr=>r.1==n).map (·.2)
def jH(n:Str):Str:=match iK n with|some r=>r.1|none=>n
def pP(C a:Addr)(dx:Option Addr):HO:=.ext λh=>∃oe,h.get? a=some oe/\oe.cls=.ref C/\W.notCls oe=true/\oe.dict=dx/\∃vs,oe.data=.fields vs
def XD(W:Wd)(n:Str)(dx:Option Addr):Prop:=∀c f k,iK n=some (c,f,k)->∃d,dx=some d/\W.G d=some (.xd [(f,.int k)])
theorem XD.none{W:Wd}{n:Str}(h:iK n=none):XD W n dx:=λc f k e=>by rw[h]at e;cases e
theorem XD.mono{W:Wd}{n:Str}(g:∀a o,W.G a=some o->W'.G a=some o)(h:XD W n dx):XD W' n dx:=λc f k e=>let⟨d,e1,e2⟩:=h c f k e;⟨d,e1,g _ _ e2⟩
theorem Lg{n:Str}(h:iK n=none):jH n=n:=by unfold jH;rw[h]
def AtR(K:Qh)(W:Wd)(a:Addr)(k:Nat)(b:Addr):Prop:=match k with|0=>a=b|1=>∃C dx,W.G a=some (.ins C dx [("standing",.ref b)])/\h7 K "Desk" = some C|_=>∃C dx,W.G a=some (pP C a<|some dx)/\h7 K "TooGreat" = some C/\W.G dx=some (.xd [("many",.int 7),("most",.int 5)])
theorem AtR.keep{W:Wd}{a:Addr}{b:Addr}(g:∀a o,W.G a=some o->(∀us,o≠.lst us)->W'.G a=some o)(h:AtR K W a k b):AtR K W' a k b:=by unfold AtR at h ⊢;split;exact h;obtain⟨C,dx,h1,h2⟩:=h;exact⟨C,dx,g _ _ h1<|λ_ z=>HO.noConfusion z,h2⟩;rename_i h0 h1;split at h;exact Qj rfl h0;exact Qj rfl h1;obtain⟨C,dx,q1,q2,q3⟩:=h;exact⟨C,dx,g _ _ q1 (λ_ z=>by unfold pP at z;cases z),q2,g _ _ q3 λ_ z=>by cases z⟩
def KL(K:Qh)(a:Addr)(vs:Rg):Prop:=
 ∃(o:Obj) (its:Array Value) (n:Nat),K.lookup a=some o/\o.cls=.type "list" /\o.dict=none/\o.data=.seq its n/\its.size<=sizeLine/\Vals vs its.toList
mutual
inductive Rep (K:Qh) (W:Wd):V->D->Prop
 |non:Rep K W .non .non
 |bl (b:Bool):Rep K W (.bl b) (.bl b)
 |int (i:Int):Rep K W (.int i) (.int i)
 |str (x:Str):Rep K W (.str x) (.str x)
 |tup {a:Addr} {vs:Rg} {ds:Rc}:W.G a=some (.tup vs)->Reps K W vs ds->Rep K W (.ref a) (.tup ds)
 |ktup {a:Addr} {vs:Rg} {ds:Rc}:KT K a vs->Reps K W vs ds->Rep K W (.ref a) (.tup ds)
 |lst {a:Addr} {vs:Rg} {ds:Rc}:W.G a=some (.lst vs)->Reps K W vs ds->Rep K W (.ref a) (.lst ds)
 |scr {a:Addr} {vs:Rg} {ds:Rc}:((∃o,W.G a=some (.frz o<|.lst vs))\/KL K a vs)->Reps K W vs ds->Rep K W (.ref a) (.scr ds)
 |dic {a:Addr}:W.G a=some (.dK [])->Rep K W (.ref a) .dic
 |pen {a:Addr}:W.Pn a->Rep K W (.ref a) .pen
 |cls {a:Addr} {n:Str}:h7 K n=some a->Rep K W (.ref a) (.cls n)
 |exc {a C:Addr} {n:Str} {dx:Option Addr}:W.G a=some (pP C a dx)->h7 K (jH n)=some C->XD W n dx->Rep K W (.ref a) (.exc n)
 |ty (n:String):Rep K W (.ty n) (.ty n)
 |pl {a:Addr} {k:Nat} {b:Addr}:AtR K W a k b->Rep K W (.ref a) (.pl k b)
inductive Reps (K:Qh) (W:Wd):Rg->Rc->Prop
 |nil:Reps K W [] []
 |cons {v:V} {d:D} {vs:Rg} {ds:Rc}:Rep K W v d->Reps K W vs ds->Reps K W (v::vs) (d::ds)
end
section
variable{W:Wd}
mutual
theorem Rep.mono(g:∀a o,W.G a=some o->W'.G a=some o)(p:∀a,W.Pn a->W'.Pn a):∀{v:V} {d:D},Rep K W v d->Rep K W' v d:=λh=>by cases h with
 |non=>exact .non
 |bl b=>exact .bl b
 |int i=>exact .int i
 |str x=>exact .str x
 |tup e r=>exact .tup (g _ _ e)<|Reps.mono g p r
 |ktup e r=>exact .ktup e<|Reps.mono g p r
 |lst e r=>exact .lst (g _ _ e)<|Reps.mono g p r
 |scr e r=>exact .scr (e.elim (λ⟨o,z⟩=>.inl ⟨o,g _ _ z⟩) .inr)<|Reps.mono g p r
 |dic e=>exact .dic<|g _ _ e
 |pen e=>exact .pen<|p _ e
 |cls e=>exact .cls e
 |exc e h x=>exact .exc (g _ _ e) h<|x.mono g
 |ty n=>exact .ty n
 |pl h=>exact .pl<|h.keep λa o e _=>g a o e
theorem Reps.mono(g:∀a o,W.G a=some o->W'.G a=some o)(p:∀a,W.Pn a->W'.Pn a):∀{vs:Rg} {ds:Rc},Reps K W vs ds->Reps K W' vs ds
 |_,_,.nil=>.nil|_,_,.cons r t=>.cons (Rep.mono g p r)<|Reps.mono g p t
end
theorem Reps.length:∀{vs:Rg} {ds:Rc},Reps K W vs ds->vs.length=ds.length
 |_,_,.nil=>rfl|_,_,.cons _ t=>by simp[Reps.length t]
theorem Reps.get:∀{vs:Rg} {ds:Rc} {i:Nat} {d:D},Reps K W vs ds->ds[i]? = some d->∃v,vs[i]? = some v/\Rep K W v d
 |_,_,_,_,.nil,e=>by simp at e|_,_,0,_,.cons r _,e=>by simp at e;subst e;exact⟨_,rfl,r⟩|_,_,i+1,d,.cons _ t,e=>by obtain⟨u,h1,h2⟩:=Reps.get (i:=i) (d:=d) t (by simpa using e);exact⟨u,by simpa using h1,h2⟩
theorem Reps.append:∀{vs us:Rg} {ds es:Rc},Reps K W vs ds->Reps K W us es->Reps K W (vs++us) (ds++es)
 |_,_,_,_,.nil,s=>s|_,_,_,_,.cons r t,s=>.cons r<|Reps.append t s
theorem Reps.take:∀{vs:Rg} {ds:Rc} (n:Nat),Reps K W vs ds->Reps K W (vs.take n) (ds.take n)
 |_,_,0,_=>.nil|_,_,_+1,.nil=>.nil|_,_,n+1,.cons r t=>.cons r<|Reps.take n t
theorem Reps.drop:∀{vs:Rg} {ds:Rc} (n:Nat),Reps K W vs ds->Reps K W (vs.drop n) (ds.drop n)
 |_,_,0,r=>r|_,_,_+1,.nil=>.nil|_,_,n+1,.cons _ t=>Reps.drop n t
theorem Reps.set{v:V}{d:D}(r:Rep K W v d):∀{vs:Rg} {ds:Rc} (i:Nat),Reps K W vs ds->Reps K W (vs.set i v) (ds.set i d)
 |_,_,_,.nil=>.nil|_,_,0,.cons _ t=>.cons r t|_,_,i+1,.cons q t=>.cons q<|Reps.set r i t
theorem Reps.rev(r:Reps K W vs ds):Reps K W vs.reverse ds.reverse:=by
 induction vs generalizing ds with
 |nil=>cases r;exact .nil
 |cons v vs ih=>cases r with|cons r t=>rw[zP,zP];exact(ih t).append<|.cons r .nil
theorem Reps.one(r:Reps K W us [d]):∃v,us=[v]/\Rep K W v d:=by cases r with|cons r t=>cases t;exact⟨_,rfl,r⟩
theorem Reps.two{e:D}(r:Reps K W us [d,e]):∃v u,us=[v,u]/\Rep K W v d/\Rep K W u e:=by cases r with|cons r t=>cases t with|cons r' t=>cases t;exact⟨_,_,rfl,r,r'⟩
end
def Zo4(H:Hp)(a:Addr):Prop:=∃i j k:Int,H a=some (.lst [.int i,.int j,.int k])
structure WOk(W:Wd)(H:Hp):Prop where
 g:∀a o,W.G a=some o->H a=some o
 p:∀a,W.Pn a->Zo4 H a/\W.G a=none
structure Ext(W:Wd)(H:Hp)(W':Wd)(H':Hp):Prop where
 ok:WOk W' H'
 g:∀a o,W.G a=some o->W'.G a=some o
 p:∀a,W.Pn a->W'.Pn a
 gf:∀a,W.G a=none->W'.G a≠none->H a=none
 pf:∀a,¬W.Pn a->W'.Pn a->H a=none
 h:∀a o,H a=some o->¬W.Pn a->H' a=some o
section
variable{W:Wd}
theorem Ext.refl(ok:WOk W H):Ext W H W H:=⟨ok,λ_ _ e=>e,λ_ e=>e,λ_ e n=>Qj e n,λ_ n e=>Qj e n,λ_ _ e _=>e⟩
theorem Zo4.ne{a:Addr}(p:Zo4 H a):H a≠none:=by obtain⟨_,_,_,e⟩:=p;rw[e];simp
theorem Ext.isN(x:Ext W H W1 H1){a:Addr}(h:H1 a=none):H a=none:=by
 cases q:H a with
 |none=>rfl
 |some o=>
  by_cases hp:W.Pn a;exact Qj h<|(x.ok.p a<|x.p a hp).1.ne
  rw[x.h a o q hp]at h;cases h
theorem Ext.trans(x:Ext W H W1 H1)(y:Ext W1 H1 W2 H2):Ext W H W2 H2 where
 ok:=y.ok
 g:=λa o e=>y.g a o<|x.g a o e
 p:=λa e=>y.p a<|x.p a e
 gf:=λa e n=>by
  cases q:W1.G a with
  |none=>exact x.isN<|y.gf a q n
  |some o=>exact x.gf a e (by rw[q];simp)
 pf:=λa e n=>by by_cases q:W1.Pn a;exact x.pf a e q;exact x.isN<|y.pf a q n
 h:=λa o e n=>y.h a o (x.h a o e n) λq=>by have:=x.pf a n q;rw[e]at this;cases this
theorem Ext.rep(x:Ext W H W1 H1){v:V}(r:Rep K W v d):Rep K W1 v d:=r.mono x.g x.p
theorem Ext.reps(x:Ext W H W1 H1){v:Rg}{d:Rc}(r:Reps K W v d):Reps K W1 v d:=r.mono x.g x.p
def Wd.put(W:Wd)(a:Addr)(o:HO):Wd:=⟨upd W.G a o,W.Pn⟩
theorem Ext.put{a:Addr}{o:HO}(ok:WOk W H)(h:H a=none):Ext W H (W.put a o) (upd H a o) where
 ok:=⟨λb u e=>by
   unfold Wd.put at e;dsimp only at e
   by_cases hb:b=a
   .subst hb;rw[aP]at e ⊢;exact e
   .rw[aI hb]at e ⊢;exact ok.g b u e,
  λb hb=>by
   have⟨p1,p2⟩:=ok.p b hb;have hne:b≠a:=λz=>p1.ne (by rw[z];exact h);refine⟨?_,by unfold Wd.put;dsimp only;rw[aI hne];exact p2⟩;obtain⟨i,j,k,e⟩:=p1;exact⟨i,j,k,by rw[aI hne];exact e⟩⟩
 g:=λb u e=>by
  have:b≠a:=λz=>by have:=ok.g b u e;rw[z,h]at this;cases this
  unfold Wd.put;dsimp only;rw[aI this];exact e
 p:=λb e=>e
 gf:=λb e n=>by by_cases hb:b=a;rw[hb];exact h;unfold Wd.put at n;dsimp only at n;rw[aI hb]at n;exact Qj e n
 pf:=λb n e=>Qj e n
 h:=λb u e _=>by
  have:b≠a:=λz=>by rw[z,h]at e;cases e
  rw[aI this];exact e
theorem Ext.new{a:Addr}(ok:WOk W H)(h:H a=none):Ext W H W (upd H a o) where
 ok:=⟨λb u e=>by
   have q:=ok.g b u e;have:b≠a:=λz=>by rw[z,h]at q;cases q
   rw[aI this];exact q,
  λb hb=>by
   have⟨p1,p2⟩:=ok.p b hb;have hne:b≠a:=λz=>p1.ne (by rw[z];exact h);obtain⟨i,j,k,e⟩:=p1;exact⟨⟨i,j,k,by rw[aI hne];exact e⟩,p2⟩⟩
 g:=λ_ _ e=>e
 p:=λ_ e=>e
 gf:=λ_ e n=>Qj e n
 pf:=λ_ n e=>Qj e n
 h:=λb u e _=>by
  have:b≠a:=λz=>by rw[z,h]at e;cases e
  rw[aI this];exact e
theorem WOk.fresh(ok:WOk W H){a:Addr}(h:H a=none):W.G a=none/\¬W.Pn a:=by
 refine⟨?_,λp=>(ok.p a p).1.ne h⟩;cases q:W.G a with
 |none=>rfl|some o=>have:=ok.g a o q;rw[h]at this;cases this
theorem Ext.pub{a:Addr}(x:Ext W H W1 H1)(h:H a=none)(e:H1 a=some o)(n:¬W1.Pn a)(ng:W1.G a=none):Ext W H (W1.put a o) H1 where
 ok:=⟨λb u q=>by
   unfold Wd.put at q
   by_cases hb:b=a
   .subst hb;dsimp only at q;rw[aP]at q;cases q;exact e
   .dsimp only at q;rw[aI hb]at q;exact x.ok.g b u q,
  λb hb=>by
   have⟨p1,p2⟩:=x.ok.p b hb;have hne:b≠a:=λz=>n (by rw[<-z];exact hb);exact⟨p1,by unfold Wd.put;dsimp only;rw[aI hne];exact p2⟩⟩
 g:=λb u q=>by
  have q1:=x.g b u q;have:b≠a:=λz=>by rw[z,ng]at q1;cases q1
  unfold Wd.put;dsimp only;rw[aI this];exact q1
 p:=x.p
 gf:=λb q m=>by by_cases hb:b=a;rw[hb];exact h;unfold Wd.put at m;dsimp only at m;rw[aI hb]at m;exact x.gf b q m
 pf:=x.pf
 h:=x.h
theorem qf{a:Addr}(ng:W.G a=none):∀b u,W.G b=some u->(W.put a o).G b=some u:=λb u q=>by
 have:b≠a:=λz=>by rw[z,ng]at q;cases q
 unfold Wd.put;dsimp only;rw[aI this];exact q
theorem Ext.chg{a:Addr}{o':HO}(x:Ext W H W1 H1)(h:H a=none)(e:H1 a=some o)(n:¬W1.Pn a)(ng:W1.G a=none):Ext W H W1 (upd H1 a o') where
 ok:=⟨λb u q=>by
   have:b≠a:=λz=>by rw[z,ng]at q;cases q
   rw[aI this];exact x.ok.g b u q,
  λb hb=>by
   have⟨p1,p2⟩:=x.ok.p b hb;have hne:b≠a:=λz=>n (by rw[<-z];exact hb);obtain⟨i,j,k,e⟩:=p1;exact⟨⟨i,j,k,by rw[aI hne];exact e⟩,p2⟩⟩
 g:=x.g
 p:=x.p
 gf:=x.gf
 pf:=x.pf
 h:=λb u q m=>by
  have:b≠a:=λz=>by rw[z,h]at q;cases q
  rw[aI this];exact x.h b u q m
end
inductive SV where
 |un|d (x:D)|ow (xs:Rc)|oo (xss:List Rc)
abbrev cV:=List SV
variable{ρ ρ':cV}
def Own1(K:Qh)(H0:Hp)(W:Wd)(H:Hp)(b:Addr)(xs:Rc):Prop:=∃vs,H b=some (HO.lst vs)/\W.G b=none/\¬W.Pn b/\H0 b=none/\Reps K W vs xs
structure OwnT(K:Qh)(H0:Hp)(W:Wd)(H:Hp)(a:Addr)(bs:List Addr)(xss:List Rc):Prop where
 a1:H a=some (HO.lst<|bs.map V.ref)
 a2:W.G a=none
 a3:¬W.Pn a
 a4:H0 a=none
 nd:(a::bs).Nodup
 len:bs.length=xss.length
 row:∀(i:Nat) b,bs[i]? = some b->∃xs,xss[i]? = some xs/\Own1 K H0 W H b xs
structure OOs(K:Qh)(H0:Hp)(W:Wd)(σ:L2.St)(H:Hp)(ρ:cV):Prop where
 t:∀(i:Nat) xss,ρ[i]? = some (SV.oo xss)->∃a bs,σ[i]? = some (some<|V.ref a)/\OwnT K H0 W H a bs xss/\∀(j:Nat) ys c,ρ[j]? = some (SV.ow ys)->σ[j]? = some (some<|V.ref c)->c∉a::bs
 u:∀(i j:Nat) xss yss,ρ[i]? = some (SV.oo xss)->ρ[j]? = some (SV.oo yss)->i=j
structure SOk(K:Qh)(W0:Wd)(H0:Hp)(W:Wd)(σ:L2.St)(H:Hp)(ρ:cV):Prop where
 ext:Ext W0 H0 W H
 len:ρ.length=σ.length
 d:∀(i:Nat) x,ρ[i]? = some (SV.d x)->∃v:V,σ[i]? = some (some v)/\Rep K W v x
 o:∀(i:Nat) xs,ρ[i]? = some (SV.ow xs)->∃a vs,σ[i]? = some (some<|V.ref a)/\H a=some (HO.lst vs)/\W.G a=none/\¬W.Pn a/\H0 a=none/\Reps K W vs xs
 ne:∀(i j:Nat) xs ys a,i≠j->ρ[i]? = some (SV.ow xs)->ρ[j]? = some (SV.ow ys)->σ[i]? = some (some<|V.ref a)->σ[j]?≠some (some<|V.ref a)
 oo:OOs K H0 W σ H ρ
section
variable{W:Wd}
theorem SOk.ok(s:SOk K W0 H0 W σ H ρ):WOk W H:=s.ext.ok
theorem Own1.step{b:Addr}(o:Own1 K H0 W H b xs)(x:Ext W H W1 H1):Own1 K H0 W1 H1 b xs:=by
 obtain⟨vs,e2,e3,e4,e5,r⟩:=o;refine⟨vs,x.h b _ e2 e4,?_,λq=>?_,e5,x.reps r⟩;cases q:W1.G b with
 |none=>rfl|some o=>have:=x.gf b e3 (by rw[q];simp);rw[e2]at this;cases this
 have:=x.pf b e4 q;rw[e2]at this;cases this
theorem OwnT.step{a:Addr}{bs:List Addr}{xss:List Rc}(o:OwnT K H0 W H a bs xss)(x:Ext W H W1 H1):OwnT K H0 W1 H1 a bs xss:=by
 refine⟨x.h a _ o.a1 o.a3,?_,λq=>?_,o.a4,o.nd,o.len,λi b e=>let⟨xs,e1,q⟩:=o.row i b e;⟨xs,e1,q.step x⟩⟩;cases q:W1.G a with
 |none=>rfl|some u=>have:=x.gf a o.a2 (by rw[q];simp);rw[o.a1]at this;cases this
 have:=x.pf a o.a3 q;rw[o.a1]at this;cases this
theorem OwnT.here{a c:Addr}{bs:List Addr}(o:OwnT K H0 W H a bs xss)(h:H c=none):c∉a::bs:=λq=>by
 rcases Yan.mp q with rfl|q
 rw[o.a1]at h;cases h;obtain⟨i,hi,rfl⟩:=Ybx.mp q;obtain⟨xs,_,vs,e,_⟩:=o.row i _<|bU hi;rw[e]at h;cases h
theorem OwnT.noPen{a c:Addr}{bs:List Addr}(o:OwnT K H0 W H a bs xss)(h:W.Pn c):c∉a::bs:=λq=>by
 rcases Yan.mp q with rfl|q
 exact o.a3 h;obtain⟨i,hi,rfl⟩:=Ybx.mp q;obtain⟨xs,_,vs,_,_,e,_⟩:=o.row i _<|bU hi;exact e h
theorem OwnT.upd{a c:Addr}{o':HO}{bs:List Addr}{xss:List Rc}(o:OwnT K H0 W H a bs xss)(h:c∉a::bs):OwnT K H0 W (upd H c o') a bs xss:=by have ha:a≠c:=λz=>h (by rw[z];simp);refine⟨by rw[aI ha];exact o.a1,o.a2,o.a3,o.a4,o.nd,o.len,λi b e=>?_⟩;obtain⟨xs,e1,vs,q⟩:=o.row i b e;have hb:b≠c:=λz=>h (by rw[<-z];exact fM _<|iD e);exact⟨xs,e1,vs,by rw[aI hb];exact q⟩
theorem OwnT.put{a c:Addr}{o':HO}{bs:List Addr}{xss:List Rc}(o:OwnT K H0 W H a bs xss)(h:c∉a::bs)(hc:W.G c=none):OwnT K H0 (W.put c o') H a bs xss:=by have ha:a≠c:=λz=>h (by rw[z];simp);refine⟨o.a1,by unfold Wd.put;dsimp only;rw[aI ha];exact o.a2,o.a3,o.a4,o.nd,o.len,λi b e=>?_⟩;obtain⟨xs,e1,vs,q1,q2,q3,q4,q5⟩:=o.row i b e;have hb:b≠c:=λz=>h (by rw[<-z];exact fM _<|iD e);exact⟨xs,e1,vs,q1,by unfold Wd.put;dsimp only;rw[aI hb];exact q2,q3,q4,q5.mono (qf hc) λ_ z=>z⟩
theorem OOs.none(h:∀(i:Nat) xss,ρ[i]?≠some (SV.oo xss)):OOs K H0 W σ H ρ:=⟨λi xss e=>Qj e<|h i xss,λi j xss yss e=>Qj e<|h i xss⟩
theorem OOs.step(o:OOs K H0 W σ H ρ)(x:Ext W H W1 H1):OOs K H0 W1 σ H1 ρ:=⟨λi xss e=>let⟨a,bs,e1,q,n⟩:=o.t i xss e;⟨a,bs,e1,q.step x,n⟩,o.u⟩
theorem OOs.set{σ':L2.St}(o:OOs K H0 W σ H ρ){i:Nat}{y:SV}(hy:∀xss,y≠.oo xss)(hσ:∀j,i≠j->σ'[j]? = σ[j]?)(hw:∀ys c,y=.ow ys->σ'[i]? = some (some<|V.ref c)->∀(j:Nat) xss a bs,i≠j->ρ[j]? = some (SV.oo xss)->σ[j]? = some (some<|V.ref a)->OwnT K H0 W H a bs xss->(∀(j:Nat) ys c,ρ[j]? = some (SV.ow ys)->σ[j]? = some (some<|V.ref c)->c∉a::bs)->c∉a::bs):OOs K H0 W σ' H (ρ.set i y):=by
 have nt:∀{j:Nat} {xss:List Rc},(ρ.set i y)[j]? = some (SV.oo xss)->i≠j/\ρ[j]? = some (SV.oo xss):=λ{j xss} e=>by
  by_cases h:i=j;subst h;by_cases hi:i<ρ.length;rw[dW hi]at e;cases e;exact Qj rfl<|hy xss
  rw[eA (by rw[dN];omega)]at e;cases e;rw[df h]at e;exact⟨h,e⟩
 refine⟨λj xss e=>?_,λj k xss yss e1 e2=>o.u j k xss yss (nt e1).2 (nt e2).2⟩;obtain⟨h,e'⟩:=nt e;clear e;obtain⟨a,bs,e1,q,n⟩:=o.t j xss e';refine⟨a,bs,by rw[hσ j h];exact e1,q,λk ys c ek ec=>?_⟩;by_cases hk:i=k;subst hk;by_cases hi:i<ρ.length;rw[dW hi]at ek;cases ek;exact hw ys c rfl ec j xss a bs h e' e1 q n;rw[eA (by rw[dN];omega)]at ek;cases ek;rw[df hk]at ek;rw[hσ k hk]at ec;exact n k ys c ek ec
theorem SOk.step(s:SOk K W0 H0 W σ H ρ)(x:Ext W H W1 H1):SOk K W0 H0 W1 σ H1 ρ where
 ext:=s.ext.trans x
 len:=s.len
 d:=λi y e=>let⟨v,e1,r⟩:=s.d i y e;⟨v,e1,x.rep r⟩
 o:=λi ys e=>by
  obtain⟨a,vs,e1,e2,e3,e4,e5,r⟩:=s.o i ys e;refine⟨a,vs,e1,x.h a _ e2 e4,?_,λq=>?_,e5,x.reps r⟩;cases q:W1.G a with
  |none=>rfl|some o=>have:=x.gf a e3 (by rw[q];simp);rw[e2]at this;cases this
  have:=x.pf a e4 q;rw[e2]at this;cases this
 ne:=s.ne
 oo:=s.oo.step x
end
abbrev Ex:=Str
abbrev Rb:=Ex->Prop
def vn(K:Qh)(W:Wd)(_:Hp)(cls:Value)(dx:Option Addr)(ex:Ex):Prop:=∃C,h7 K (jH ex)=some C/\cls=.ref C/\XD W ex dx
def jN(K:Qh)(W0:Wd)(H0:Hp)(E:Rb)(EX:XK):Prop:=∀ex W' H' cls dx,E ex->Ext W0 H0 W' H'->vn K W' H' cls dx ex->EX cls dx H'
abbrev WE:=(Rb)->cV->(Rf)->Prop
variable{wa wb wc w we wv wo:WE}
abbrev WT:=(Rb)->cV->(Bool->Prop)->Prop
variable{wt wf:WT}
abbrev WA:=(Rb)->cV->(Rc->Prop)->Prop
variable{wi:WA}
def RQ(K:Qh)(W:Wd)(H:Hp)(Q:VK)(d:D):Prop:=∀v W' H',Ext W H W' H'->Rep K W' v d->Q v H'
structure PX(X:Cx)(EX:XK)(e:Expr)(w:WE):Prop where
 t:∃t,PE X e t/\∀W0 H0 W σ H ρ E Q,SOk X.K W0 H0 W σ H ρ->jN X.K W0 H0 E EX->w E ρ (RQ X.K W H Q)->t σ H Q
 mono:∀E ρ P P',(∀d,P d->P' d)->w E ρ P->w E ρ P'
structure j7(X:Cx)(EX:XK)(e:Expr)(w:WT):Prop where
 t:∃t,PT X e t/\∀W0 H0 W σ H ρ E Q,SOk X.K W0 H0 W σ H ρ->jN X.K W0 H0 E EX->w E ρ (λb=>∀W' H',Ext W H W' H'->Q b H')->t σ H Q
 mono:∀E ρ P P',(∀d,P d->P' d)->w E ρ P->w E ρ P'
structure jb(X:Cx)(EX:XK)(es:List Expr)(w:WA):Prop where
 t:∃t,PA X es t/\∀W0 H0 W σ H ρ E Q,SOk X.K W0 H0 W σ H ρ->jN X.K W0 H0 E EX->w E ρ (λds=>∀vs W' H',Ext W H W' H'->Reps X.K W' vs ds->Q vs H')->t σ H Q
 mono:∀E ρ P P',(∀d,P d->P' d)->w E ρ P->w E ρ P'
structure PXL(X:Cx)(EX:XK)(e:Expr)(w:WA):Prop where
 t:∃t,PE X e t/\∀W0 H0 W σ H ρ E Q,SOk X.K W0 H0 W σ H ρ->jN X.K W0 H0 E EX->
  w E ρ (λds=>∀a vs W' H',Ext W H W' H'->H' a=some (.lst vs)->W'.G a=none->¬W'.Pn a->H a=none->Reps X.K W' vs ds->Q (.ref a) H')->t σ H Q
 mono:∀E ρ P P',(∀d,P d->P' d)->w E ρ P->w E ρ P'
structure Nds where
 nx:cV->Prop
 rt:D->Prop
 bk:cV->Prop:=λ_=>False
 ct:cV->Prop:=λ_=>False
variable{N:Nds}
structure Wle(F W:Wd):Prop where
 g:∀a o,F.G a=some o->W.G a=some o
 p:∀a,F.Pn a->W.Pn a
theorem Wle.refl(F:Wd):Wle F F:=⟨λ_ _ e=>e,λ_ e=>e⟩
theorem Wle.trans{F W V:Wd}(a:Wle F W)(b:Wle W V):Wle F V:=⟨λx o e=>b.g x o<|a.g x o e,λx e=>b.p x<|a.p x e⟩
theorem Wle.ext{F W:Wd}(a:Wle F W)(x:Ext W H W1 H1):Wle F W1:=a.trans ⟨x.g,x.p⟩
structure C0(K:Qh)(W0:Wd)(H0:Hp)(F:Wd)(Dn:kL)(N:Nds):Prop where
 nx:∀W σ H ρ,SOk K W0 H0 W σ H ρ->Wle F W->N.nx ρ->Dn.nx σ H
 rt:∀d v W H,Ext W0 H0 W H->Rep K W v d->N.rt d->Dn.rt v H
 bk:∀W σ H ρ,SOk K W0 H0 W σ H ρ->Wle F W->N.bk ρ->Dn.bk σ H
 ct:∀W σ H ρ,SOk K W0 H0 W σ H ρ->Wle F W->N.ct ρ->Dn.ct σ H
structure Nds.le(N N':Nds):Prop where
 nx:∀ρ,N.nx ρ->N'.nx ρ
 rt:∀d,N.rt d->N'.rt d
 bk:∀ρ,N.bk ρ->N'.bk ρ
 ct:∀ρ,N.ct ρ->N'.ct ρ
abbrev WS:=(Rb)->Nds->cV->Prop
variable{z z' zb:WS}
structure PZ(X:Cx)(EX:XK)(st:Stmt)(z:WS):Prop where
 t:∃t,PS X st t/\∀W0 H0 F W σ H ρ E Dn N,SOk X.K W0 H0 W σ H ρ->Wle F W->jN X.K W0 H0 E EX->C0 X.K W0 H0 F Dn N->z E N ρ->t Dn σ H
 mono:∀E ρ N N',N.le N'->z E N ρ->z E N' ρ
structure iy(X:Cx)(EX:XK)(st:List Stmt)(z:WS):Prop where
 t:∃t,lX X st t/\∀W0 H0 F W σ H ρ E Dn N,SOk X.K W0 H0 W σ H ρ->Wle F W->jN X.K W0 H0 E EX->C0 X.K W0 H0 F Dn N->z E N ρ->t Dn σ H
 mono:∀E ρ N N',N.le N'->z E N ρ->z E N' ρ
section
variable{W:Wd}{Q:VK}
theorem RQ.ext(h:RQ K W H Q d)(x:Ext W H W1 H1):RQ K W1 H1 Q d:=λv W' H' y r=>h v W' H' (x.trans y) r
theorem RQ.now(h:RQ K W H Q d)(ok:WOk W H){v:V}(r:Rep K W v d):Q v H:=h v W H (.refl ok) r
theorem RQ.tup{vs:Rg}{ds:Rc}(h:RQ K W H Q (.tup ds))(ok:WOk W H)(r:Reps K W vs ds){p:Addr}(hp:H p=none):Q (.ref p) (upd H p<|.tup vs):=by have x:=Ext.put (o:=.tup vs) ok hp;exact h _ _ _ x<|.tup (by unfold Wd.put;dsimp only;rw[aP]) (x.reps r)
theorem RQ.lst{vs:Rg}{ds:Rc}(h:RQ K W H Q (.lst ds))(ok:WOk W H)(r:Reps K W vs ds){p:Addr}(hp:H p=none):Q (.ref p) (upd H p<|.lst vs):=by have x:=Ext.put (o:=.lst vs) ok hp;exact h _ _ _ x<|.lst (by unfold Wd.put;dsimp only;rw[aP]) (x.reps r)
theorem Rep.sqt{a:V}(r:Rep K W a (.tup ds))(ok:WOk W H):∃p vs,a=.ref p/\SqT K H p vs/\Reps K W vs ds:=by
 cases r with
 |tup e r=>exact⟨_,_,rfl,.inl<|.inl<|ok.g _ _ e,r⟩|ktup e r=>exact⟨_,_,rfl,.inr e,r⟩
theorem Rep.sql{a:V}(r:Rep K W a (.lst ds))(ok:WOk W H):∃p vs,a=.ref p/\SqL K H p vs/\Reps K W vs ds:=by
 cases r with
 |lst e r=>exact⟨_,_,rfl,.inl<|.inl<|ok.g _ _ e,r⟩
theorem Rep.sqs{a:V}(r:Rep K W a (.scr ds))(ok:WOk W H):∃p vs,a=.ref p/\SqL K H p vs/\Reps K W vs ds:=by
 cases r with
 |scr e r=>exact⟨_,_,rfl,e.elim (λ⟨o,e⟩=>.inl<|.inr ⟨o,ok.g _ _ e⟩) .inr,r⟩
end
section
def wN(i:Nat):WE:=λ_ ρ Q=>match ρ[i]? with|some (.d x)=>Q x|_=>False
theorem aE(i:Nat)(hN:{X.N[i]? = some x})(hv:autoParam (kA X.env.scope x) Rk._auto_1)(hd:(Q7 x:))
  (hcd:((x==("__classdict__" : Str))=false:)):PX X EX (.Name x pos) (wN i):=by
 refine⟨⟨_,db hN hv hd hcd,λW0 H0 W σ H ρ E Q s _ h=>?_⟩,λE ρ P P' hp h=>?_⟩
 .unfold wN at h
  split at h
  .rename_i x e
   obtain⟨v,e1,r⟩:=s.d i x e;exact⟨v,e1,h.now s.ok r⟩
  .exact h.elim
 .unfold wN at h ⊢
  split at h
  .exact hp _ h
  .exact h.elim
def wC(d:D):WE:=λ_ _ Q=>Q d
theorem wC.mono:∀(E:Rb) ρ P P',(∀d,P d->P' d)->wC d E ρ P->wC d E ρ P':=λ_ _ _ _ hp h=>hp _ h
theorem aM{i j}:PX X EX (.Constant (.int i) j pos) (wC<|.int i):=⟨⟨_,kM,λ_ _ _ _ _ _ _ _ s _ h=>RQ.now h s.ok<|.int i⟩,wC.mono⟩
theorem jc{b j}:PX X EX (.Constant (.bool b) j pos) (wC<|.bl b):=⟨⟨_,v3,λ_ _ _ _ _ _ _ _ s _ h=>RQ.now h s.ok<|.bl b⟩,wC.mono⟩
theorem xo{j}:PX X EX (.Constant .none j pos) (wC .non):=⟨⟨_,tB,λ_ _ _ _ _ _ _ _ s _ h=>RQ.now h s.ok .non⟩,wC.mono⟩
theorem ml{x j}:PX X EX (.Constant (.str x) j pos) (wC<|.str x):=⟨⟨_,tD,λ_ _ _ _ _ _ _ _ s _ h=>RQ.now h s.ok<|.str x⟩,wC.mono⟩
theorem C2{v:V}{u:Value}(hm:X.mg x=some u)(r:RelV v u)(rd:∀W,Rep X.K W v d)(hg:{Gl X x})(hd:(Q7 x:)):PX X EX (.Name x pos) (wC d):=
 ⟨⟨_,qD hg hm r hd,λ_ _ _ _ _ _ _ _ s _ h=>RQ.now h s.ok<|rd _⟩,wC.mono⟩
theorem Lh{v:V}{u:Value}(hm:X.mg x=none)(hv:bootBuiltins x=some u)(r:RelV v u)(rd:∀W,Rep X.K W v d)(hg:{Gl X x})(hn:(x≠ "__name__":))(hd:(Q7 x:)):PX X EX (.Name x pos) (wC d):=
 ⟨⟨_,qE hg hm hv r hn hd,λ_ _ _ _ _ _ _ _ s _ h=>RQ.now h s.ok<|rd _⟩,wC.mono⟩
end
abbrev G2:=D->D->(Rf)->Prop
structure h8(X:Cx)(f:Value->Value->Sem Value)(g:G2):Prop where
 t:∃r,OpR X f r/\∀W H x y dx dy Q,WOk W H->Rep X.K W x dx->Rep X.K W y dy->g dx dy (RQ X.K W H Q)->r x y H Q
 mono:∀x y P P',(∀d,P d->P' d)->g x y P->g x y P'
section
variable{a b:Expr}
def w2(g:G2)(wa wb:WE):WE:=λE ρ Q=>wa E ρ λx=>wb E ρ λy=>g x y Q
theorem w2.mono{g:G2}(ha:PX X EX a wa)(hb:PX X EX b wb)(hg:∀x y P P',(∀d,P d->P' d)->g x y P->g x y P'):∀E ρ P P',(∀d,P d->P' d)->w2 g wa wb E ρ P->w2 g wa wb E ρ P':=
 λE ρ P P' hp h=>ha.mono E ρ _ _ (λx hx=>hb.mono E ρ _ _ (λy hy=>hg x y _ _ hp hy) hx) h
theorem mo{ta tb:TE}{R:V->V->Hp->Prop}{G:D->Rf}{W:Wd}{E:Rb}(hma:∀E ρ P P',(∀d,P d->P' d)->wa E ρ P->wa E ρ P')(hmb:∀E ρ P P',(∀d,P d->P' d)->wb E ρ P->wb E ρ P')
  (ka:∀W0 H0 W σ H ρ E Q,SOk X.K W0 H0 W σ H ρ->jN X.K W0 H0 E EX->wa E ρ (RQ X.K W H Q)->ta σ H Q) (kb:∀W0 H0 W σ H ρ E Q,SOk X.K W0 H0 W σ H ρ->jN X.K W0 H0 E EX->wb E ρ (RQ X.K W H Q)->tb σ H Q)
  (s:SOk X.K W0 H0 W σ H ρ) (eo:jN X.K W0 H0 E EX) (h:wa E ρ λx=>wb E ρ λy=>G x y)
  (k:∀W2 H2 x y dx dy,Ext W H W2 H2->Rep X.K W2 x dx->Rep X.K W2 y dy->G dx dy->R x y H2):ta σ H λx H1=>tb σ H1 λy H2=>R x y H2:=
 ka W0 H0 W σ H ρ E _ s eo (hma E ρ _ _ (λdx hx v W1 H1 x1 r1=>kb W0 H0 W1 σ H1 ρ E _ (s.step x1) eo<|hmb E ρ _ _ (λdy hy u W2 H2 x2 r2=>k W2 H2 v u dx dy (x1.trans x2) (x2.rep r1) r2 hy) hx) h)
theorem bB{op:Operator}{g:G2}(ho:h8 X (binaryOp op) g)(ha:PX X EX a wa)(hb:PX X EX b wb):PX X EX (.BinOp a op b pos) (w2 g wa wb):=by obtain⟨ta,pa,ka⟩:=ha.t;obtain⟨tb,pb,kb⟩:=hb.t;obtain⟨r,pr,kr⟩:=ho.t;refine⟨⟨_,rL pr pa pb,λW0 H0 W σ H ρ E Q s eo h=>?_⟩,w2.mono ha hb ho.mono⟩;exact mo ha.mono hb.mono ka kb s eo h λW2 H2 x y dx dy x2 rx ry hg=>kr W2 H2 x y dx dy Q x2.ok rx ry<|ho.mono _ _ _ _ (λd hd=>RQ.ext hd x2) hg
theorem mq{g:G2}(ho:h8 X (compareOp op) g)(ha:PX X EX a wa)(hb:PX X EX b wb)(hm:behindInMarks op b=false:=by first|exact pA _|with_unfolding_all rfl):PX X EX (.Compare a [op] [b] pos) (w2 g wa wb):=by obtain⟨ta,pa,ka⟩:=ha.t;obtain⟨tb,pb,kb⟩:=hb.t;obtain⟨r,pr,kr⟩:=ho.t;refine⟨⟨_,qL pr pa pb hm,λW0 H0 W σ H ρ E Q s eo h=>?_⟩,w2.mono ha hb ho.mono⟩;exact mo ha.mono hb.mono ka kb s eo h λW2 H2 x y dx dy x2 rx ry hg=>kr W2 H2 x y dx dy Q x2.ok rx ry<|ho.mono _ _ _ _ (λd hd=>RQ.ext hd x2) hg
def isB(Q:Bool->Prop):D->Prop
 |.bl b=>Q b|_=>False
theorem isB.mono{Q Q':Bool->Prop}(h:∀b,Q b->Q' b):∀d,isB Q d->isB Q' d
 |.bl b,z=>h b z|.non,z=>z|.int _,z=>z|.str _,z=>z|.tup _,z=>z|.lst _,z=>z|.dic,z=>z|.pen,z=>z|.cls _,z=>z|.exc _,z=>z|.ty _,z=>z|.scr _,z=>z|.pl _ _,z=>z
def wT(w:WE):WT:=λE ρ Q=>w E ρ<|isB Q
theorem uh{Q:Bool->Prop}(h:isB Q d):∃b,d=.bl b/\Q b:=by
 cases d with
 |bl b=>exact⟨b,rfl,h⟩|_=>exact h.elim
theorem wT.mono{w:WE}(h:∀E ρ P P',(∀d,P d->P' d)->w E ρ P->w E ρ P'):∀E ρ P P',(∀d,P d->P' d)->wT w E ρ P->wT w E ρ P':=λE ρ _ _ hp z=>h E ρ _ _ (isB.mono hp) z
theorem dF{g:G2}(ho:h8 X (compareOp op) g)(ha:PX X EX a wa)(hb:PX X EX b wb)(hm:behindInMarks op b=false:=by first|exact pA _|with_unfolding_all rfl):j7 X EX (.Compare a [op] [b] pos) (wT<|w2 g wa wb):=by obtain⟨ta,pa,ka⟩:=ha.t;obtain⟨tb,pb,kb⟩:=hb.t;obtain⟨r,pr,kr⟩:=ho.t;refine⟨⟨_,qM pr pa pb hm,λW0 H0 W σ H ρ E Q s eo h=>?_⟩,wT.mono<|w2.mono ha hb ho.mono⟩;refine mo ha.mono hb.mono ka kb s eo h λW2 H2 x y dx dy x2 rx ry hg=>kr W2 H2 x y dx dy _ x2.ok rx ry<|ho.mono _ _ _ _ (λd hd v W' H' x' r'=>?_) hg;obtain⟨b,rfl,q⟩:=uh hd;cases r';exact⟨b,rfl,q W' H'<|x2.trans x'⟩
theorem ge(ha:PX X EX a wa)(he:autoParam (∀whole,isTrue a X.env whole=(do let v <-whole;standAt a.pos;holding [v] (truthy v))) Rj._auto_1):j7 X EX a (wT wa):=by obtain⟨ta,pa,ka⟩:=ha.t;refine⟨⟨_,pE pa he,λW0 H0 W σ H ρ E Q s eo h=>?_⟩,wT.mono ha.mono⟩;refine ka W0 H0 W σ H ρ E _ s eo<|ha.mono _ _ _ _ (λd hd v W' H' x' r'=>?_) h;obtain⟨b,rfl,q⟩:=uh hd;cases r';exact⟨b,rfl,q W' H' x'⟩
def bK(w:WT):WT:=λE ρ Q=>w E ρ λb=>Q (!b)
theorem fT{w:WT}(ha:j7 X EX a w):j7 X EX (.UnaryOp .Not a pos) (bK w):=by obtain⟨ta,pa,ka⟩:=ha.t;refine⟨⟨_,tG pa,λW0 H0 W σ H ρ E Q s eo h=>?_⟩,λE ρ P P' hp h=>ha.mono _ _ _ _ (λb hb=>hp _ hb) h⟩;exact ka W0 H0 W σ H ρ E _ s eo h
structure PXW(X:Cx)(EX:XK)(e:Expr)(w:WT):Prop where
 t:∃t,PW X e t/\∀W0 H0 W σ H ρ E Q,SOk X.K W0 H0 W σ H ρ->jN X.K W0 H0 E EX->w E ρ (λb=>∀W' H',Ext W H W' H'->Q b H')->t σ H Q
 mono:∀E ρ P P',(∀d,P d->P' d)->w E ρ P->w E ρ P'
theorem PXW.pxt{w:WT}(h:PXW X EX a w):j7 X EX a w:=let⟨t,p,k⟩:=h.t;⟨⟨t,p.pt,k⟩,h.mono⟩
variable{rest:List Expr}
def e8(w w':WT):WT:=λE ρ Q=>w E ρ λb=>if b=true then w' E ρ Q else Q false
def dZ(w w':WT):WT:=λE ρ Q=>w E ρ λb=>if b=true then Q true else w' E ρ Q
theorem Li{w:WT}(ha:j7 X EX a w):PXW X EX (.BoolOp .And [a] pos) w:=let⟨t,p,k⟩:=ha.t;⟨⟨t,qF p,k⟩,ha.mono⟩
theorem lL{w:WT}(ha:j7 X EX a w):PXW X EX (.BoolOp .Or [a] pos) w:=let⟨t,p,k⟩:=ha.t;⟨⟨t,tE p,k⟩,ha.mono⟩
theorem Lj{w w':WT}(ha:j7 X EX a w)(hb:PXW X EX (.BoolOp .And (b::rest) pos) w'):PXW X EX (.BoolOp .And (a::b::rest) pos) (e8 w w'):=by
 obtain⟨ta,pa,ka⟩:=ha.t;obtain⟨tb,pb,kb⟩:=hb.t;refine⟨⟨_,tF pa pb,λW0 H0 W σ H ρ E Q s eo h=>?_⟩,λE ρ P P' hp h=>ha.mono _ _ _ _ (λb hb'=>?_) h⟩;refine ka W0 H0 W σ H ρ E _ s eo (ha.mono _ _ _ _ (λb hb' W1 H1 x1=>?_) h);cases b with
 |true=>rw[ks rfl]at hb' ⊢;exact kb W0 H0 W1 σ H1 ρ E _ (s.step x1) eo<|hb.mono _ _ _ _ (λb hq W' H' x'=>hq W' H'<|x1.trans x') hb'
 |false=>rw[fz<|F4]at hb' ⊢;exact hb' W1 H1 x1
 cases b with
 |true=>rw[ks rfl]at hb' ⊢;exact hb.mono _ _ _ _ hp hb'|false=>rw[fz<|F4]at hb' ⊢;exact hp _ hb'
theorem jd{w w':WT}(ha:j7 X EX a w)(hb:PXW X EX (.BoolOp .Or (b::rest) pos) w'):PXW X EX (.BoolOp .Or (a::b::rest) pos) (dZ w w'):=by
 obtain⟨ta,pa,ka⟩:=ha.t;obtain⟨tb,pb,kb⟩:=hb.t;refine⟨⟨_,v4 pa pb,λW0 H0 W σ H ρ E Q s eo h=>?_⟩,λE ρ P P' hp h=>ha.mono _ _ _ _ (λb hb'=>?_) h⟩;refine ka W0 H0 W σ H ρ E _ s eo (ha.mono _ _ _ _ (λb hb' W1 H1 x1=>?_) h);cases b with
 |true=>rw[ks rfl]at hb' ⊢;exact hb' W1 H1 x1|false=>rw[fz<|F4]at hb' ⊢;exact kb W0 H0 W1 σ H1 ρ E _ (s.step x1) eo<|hb.mono _ _ _ _ (λb hq W' H' x'=>hq W' H'<|x1.trans x') hb'
 cases b with
 |true=>rw[ks rfl]at hb' ⊢;exact hp _ hb'|false=>rw[fz<|F4]at hb' ⊢;exact hb.mono _ _ _ _ hp hb'
end
section
variable{a b:Expr}{rest:List Expr}
def gT(wa wb:WE):WE:=λE ρ Q=>wa E ρ (isB λb=>if b=true then wb E ρ Q else Q (.bl false))
def fU(wa wb:WE):WE:=λE ρ Q=>wa E ρ (isB λb=>if b=true then Q (.bl true) else wb E ρ Q)
def j8(wa:WE):WE:=λE ρ Q=>wa E ρ<|isB λb=>Q (.bl (!b))
theorem ui{op}(h:PX X EX a wa):PX X EX (.BoolOp op [a] pos) wa:=let⟨t,q,k⟩:=h.t;⟨⟨t,tH q,k⟩,h.mono⟩
theorem rX(ha:PX X EX a wa)(hb:PX X EX (.BoolOp .And (b::rest) pos) wb):PX X EX (.BoolOp .And (a::b::rest) pos) (gT wa wb):=by
 obtain⟨ta,pa,ka⟩:=ha.t;obtain⟨tb,pb,kb⟩:=hb.t;refine⟨⟨_,tI pa pb,λW0 H0 W σ H ρ E Q s eo h=>?_⟩,λE ρ P P' hp h=>ha.mono _ _ _ _ (isB.mono λb hb'=>?_) h⟩;refine ka W0 H0 W σ H ρ E _ s eo (ha.mono _ _ _ _ (λd hd v W1 H1 x1 r1=>?_) h);obtain⟨b,rfl,q⟩:=uh hd;cases r1;refine⟨b,rfl,?_⟩;cases b with
 |true=>rw[ks rfl]at q ⊢;exact kb W0 H0 W1 σ H1 ρ E _ (s.step x1) eo<|hb.mono _ _ _ _ (λd hd=>RQ.ext hd x1) q
 |false=>rw[fz<|F4]at q ⊢;exact q _ W1 H1 x1<|.bl false
 cases b with
 |true=>rw[ks rfl]at hb' ⊢;exact hb.mono _ _ _ _ hp hb'|false=>rw[fz<|F4]at hb' ⊢;exact hp _ hb'
theorem FM(ha:PX X EX a wa):PX X EX (.UnaryOp .Not a pos) (j8 wa):=by obtain⟨ta,pa,ka⟩:=ha.t;refine⟨⟨_,tJ pa,λW0 H0 W σ H ρ E Q s eo h=>?_⟩,λE ρ P P' hp h=>ha.mono _ _ _ _ (isB.mono λb hb'=>hp _ hb') h⟩;refine ka W0 H0 W σ H ρ E _ s eo<|ha.mono _ _ _ _ (λd hd v W1 H1 x1 r1=>?_) h;obtain⟨b,rfl,q⟩:=uh hd;cases r1;exact⟨b,rfl,q _ W1 H1 x1<|.bl _⟩
def kC(wt:WT)(wa wb:WE):WE:=λE ρ Q=>wt E ρ λb=>if b=true then wa E ρ Q else wb E ρ Q
theorem xq(hc:j7 X EX c wt)(ha:PX X EX a wa)(hb:PX X EX b wb):PX X EX (.IfExp c a b pos) (kC wt wa wb):=by
 obtain⟨ta,pa,ka⟩:=ha.t;obtain⟨tb,pb,kb⟩:=hb.t;obtain⟨tc,pc,kc⟩:=hc.t;refine⟨⟨_,o8 pc pa pb,λW0 H0 W σ H ρ E Q s eo h=>?_⟩,λE ρ P P' hp h=>hc.mono _ _ _ _ (λb hb'=>?_) h⟩;refine kc W0 H0 W σ H ρ E _ s eo (hc.mono _ _ _ _ (λb q W1 H1 x1=>?_) h);cases b with
 |true=>rw[ks rfl]at q ⊢;exact ka W0 H0 W1 σ H1 ρ E _ (s.step x1) eo<|ha.mono _ _ _ _ (λd hd=>RQ.ext hd x1) q
 |false=>rw[fz<|F4]at q ⊢;exact kb W0 H0 W1 σ H1 ρ E _ (s.step x1) eo<|hb.mono _ _ _ _ (λd hd=>RQ.ext hd x1) q
 cases b with
 |true=>rw[ks rfl]at hb' ⊢;exact ha.mono _ _ _ _ hp hb'|false=>rw[fz<|F4]at hb' ⊢;exact hb.mono _ _ _ _ hp hb'
def Zbq(g g':G2)(wa wb wc:WE):WE:=λE ρ Q=>wa E ρ λx=>wb E ρ λy=>g x y (isB λk=>if k=true then wc E ρ λz=>g' y z Q else Q (.bl false))
theorem Zbq.mono{g g':G2}(ha:PX X EX a wa)(hb:PX X EX b wb)(hc:PX X EX c wc)(hg:∀x y P P',(∀d,P d->P' d)->g x y P->g x y P')(hg':∀x y P P',(∀d,P d->P' d)->g' x y P->g' x y P') :
  ∀E ρ P P',(∀d,P d->P' d)->Zbq g g' wa wb wc E ρ P->Zbq g g' wa wb wc E ρ P':=λE ρ P P' hp h=>
 ha.mono _ _ _ _ (λx hx=>hb.mono _ _ _ _ (λy hy=>hg x y _ _ (isB.mono λk hk=>by
  cases k with
  |true=>rw[ks rfl]at hk ⊢;exact hc.mono _ _ _ _ (λz hz=>hg' y z _ _ hp hz) hk
  |false=>rw[fz<|F4]at hk ⊢;exact hp _ hk) hy) hx) h
theorem Lk{op':CmpOp}{g g':G2}(ho:h8 X (compareOp op) g)(ho':h8 X (compareOp op') g')(ha:PX X EX a wa)(hb:PX X EX b wb)(hc:PX X EX c wc)
  (hm:autoParam (lastMarks [op,op'] [b,c]=false) Rn._auto_1):PX X EX (.Compare a [op,op'] [b,c] pos) (Zbq g g' wa wb wc):=by
 obtain⟨ta,pa,ka⟩:=ha.t;obtain⟨tb,pb,kb⟩:=hb.t;obtain⟨tc,pc,kc⟩:=hc.t;obtain⟨r,pr,kr⟩:=ho.t;obtain⟨r',pr',kr'⟩:=ho'.t;refine⟨⟨_,pC pr pr' pa pb pc hm,λW0 H0 W σ H ρ E Q s eo h=>?_⟩,Zbq.mono ha hb hc ho.mono ho'.mono⟩;refine mo ha.mono hb.mono ka kb s eo h λW2 H2 x y dx dy x2 rx ry hg=>kr W2 H2 x y dx dy _ x2.ok rx ry<|ho.mono _ _ _ _ (λd hd v W3 H3 x3 r3=>?_) hg;obtain⟨k,rfl,q⟩:=uh hd;cases r3;refine⟨k,rfl,?_⟩;cases k with
 |true=>
  rw[ks rfl]at q ⊢;refine kc W0 H0 W3 σ H3 ρ E _ (s.step<|x2.trans x3) eo<|hc.mono _ _ _ _ (λdz hz w W4 H4 x4 r4=>?_) q;exact kr' W4 H4 y w dy dz Q x4.ok (x4.rep<|x3.rep ry) r4<|ho'.mono _ _ _ _ (λd hd=>RQ.ext hd<|x2.trans<|x3.trans x4) hz
 |false=>rw[fz<|F4]at q ⊢;exact q _ W3 H3 (x2.trans x3)<|.bl false
theorem Ll{op':CmpOp}{g g':G2}(ho:h8 X (compareOp op) g)(ho':h8 X (compareOp op') g')(ha:PX X EX a wa)(hb:PX X EX b wb)(hc:PX X EX c wc)
  (hm:autoParam (lastMarks [op,op'] [b,c]=false) Rn._auto_1):j7 X EX (.Compare a [op,op'] [b,c] pos) (wT<|Zbq g g' wa wb wc):=by
 obtain⟨ta,pa,ka⟩:=ha.t;obtain⟨tb,pb,kb⟩:=hb.t;obtain⟨tc,pc,kc⟩:=hc.t;obtain⟨r,pr,kr⟩:=ho.t;obtain⟨r',pr',kr'⟩:=ho'.t;refine⟨⟨_,pD pr pr' pa pb pc hm,λW0 H0 W σ H ρ E Q s eo h=>?_⟩,wT.mono<|Zbq.mono ha hb hc ho.mono ho'.mono⟩;refine mo ha.mono hb.mono ka kb s eo h λW2 H2 x y dx dy x2 rx ry hg=>kr W2 H2 x y dx dy _ x2.ok rx ry<|ho.mono _ _ _ _ (λd hd v W3 H3 x3 r3=>?_) hg;obtain⟨k,rfl,q⟩:=uh hd;cases r3;refine⟨k,rfl,?_⟩;cases k with
 |true=>
  rw[ks rfl]at q ⊢;refine kc W0 H0 W3 σ H3 ρ E _ (s.step<|x2.trans x3) eo<|hc.mono _ _ _ _ (λdz hz w W4 H4 x4 r4=>?_) q;refine kr' W4 H4 y w dy dz _ x4.ok (x4.rep<|x3.rep ry) r4<|ho'.mono _ _ _ _ (λd hd v5 W5 H5 x5 r5=>?_) hz;obtain⟨b,rfl,q'⟩:=uh hd;cases r5;exact⟨b,rfl,q' W5 H5<|x2.trans<|x3.trans<|x4.trans x5⟩
 |false=>rw[fz<|F4]at q ⊢;exact⟨false,rfl,q W3 H3<|x2.trans x3⟩
def aA:WA:=λ_ _ Q=>Q []
def aC(w:WE)(t:WA):WA:=λE ρ Q=>w E ρ λx=>t E ρ λxs=>Q (x::xs)
theorem aK:jb X EX [] aA:=⟨⟨_,jy,λ_ _ W _ H _ _ _ s _ h=>h [] W H (.refl s.ok) .nil⟩,λ_ _ _ _ hp h=>hp _ h⟩
theorem Za{t:WA}(ha:PX X EX e w)(hr:jb X EX es t)(hs:{starEach (e::es) X.env=(false,eval e X.env)::starEach es X.env}):jb X EX (e::es) (aC w t):=by obtain⟨ta,pa,ka⟩:=ha.t;obtain⟨tr,pr,kr⟩:=hr.t;refine⟨⟨_,gS pa pr hs,λW0 H0 W σ H ρ E Q s eo h=>?_⟩,λE ρ P P' hp h=>ha.mono _ _ _ _ (λd hd=>hr.mono _ _ _ _ (λds hds=>hp _ hds) hd) h⟩;refine ka W0 H0 W σ H ρ E _ s eo<|ha.mono _ _ _ _ (λd hd v W1 H1 x1 r1=>?_) h;exact kr W0 H0 W1 σ H1 ρ E _ (s.step x1) eo<|hr.mono _ _ _ _ (λds hds vs W2 H2 x2 r2=>hds _ W2 H2 (x1.trans x2)<|.cons (x2.rep r1) r2) hd
def aO:Nat:=10000
theorem pQ(h:n<=aO):n<=sizeLine:=fL h (by rw[sizeLine_eq];decide)
def bD(t:WA):WE:=λE ρ Q=>t E ρ λxs=>xs.length<=aO/\Q (.tup xs)
def bP(t:WA):WA:=λE ρ Q=>t E ρ λxs=>xs.length<=aO/\Q xs
theorem eO{t:WA}{x1}(h:jb X EX es t):PX X EX (.Tuple es x1 pos) (bD t):=by obtain⟨ta,pa,ka⟩:=h.t;refine⟨⟨_,t7 pa,λW0 H0 W σ H ρ E Q s eo hw=>?_⟩,λE ρ P P' hp z=>h.mono _ _ _ _ (λds hds=>⟨hds.1,hp _ hds.2⟩) z⟩;refine ka W0 H0 W σ H ρ E _ s eo<|h.mono _ _ _ _ (λds hds vs W1 H1 x1 r1=>?_) hw;refine⟨by rw[r1.length];exact pQ hds.1,λq hq=>?_⟩;exact(RQ.ext hds.2 x1).tup x1.ok r1 hq
theorem gx{t:WA}(h:jb X EX es t):PXL X EX (.List es pos) (bP t):=by obtain⟨ta,pa,ka⟩:=h.t;refine⟨⟨_,t8 pa,λW0 H0 W σ H ρ E Q s eo hw=>?_⟩,λE ρ P P' hp z=>h.mono _ _ _ _ (λds hds=>⟨hds.1,hp _ hds.2⟩) z⟩;refine ka W0 H0 W σ H ρ E _ s eo<|h.mono _ _ _ _ (λds hds vs W1 H1 x1 r1=>?_) hw;refine⟨by rw[r1.length];exact pQ hds.1,λq hq=>?_⟩;exact hds.2 q vs W1 _ (x1.trans<|.new x1.ok hq) aP (x1.ok.fresh hq).1 (x1.ok.fresh hq).2 (x1.isN hq) r1
def wL(t:WA):WE:=λE ρ Q=>t E ρ λds=>Q<|.lst ds
theorem PXL.px{t:WA}(h:PXL X EX e t):PX X EX e (wL t):=by obtain⟨ta,pa,ka⟩:=h.t;refine⟨⟨_,pa,λW0 H0 W σ H ρ E Q s eo hw=>?_⟩,λE ρ P P' hp z=>h.mono _ _ _ _ (λds hds=>hp _ hds) z⟩;refine ka W0 H0 W σ H ρ E _ s eo<|h.mono _ _ _ _ (λds hds a vs W1 H1 x1 e1 e2 e3 e4 r1=>?_) hw;refine hds _ _ _ (x1.pub e4 e1 e3 e2)<|.lst (by unfold Wd.put;dsimp only;rw[aP]) (r1.mono (qf e2) λ_ z=>z)
structure fo(X:Cx)(f:Value)(g:Rc->(Rf)->Prop):Prop where
 t:∃r,eM X f r/\∀W H vs ds Q,WOk W H->Reps X.K W vs ds->g ds (RQ X.K W H Q)->r vs H Q
 mono:∀ds P P',(∀d,P d->P' d)->g ds P->g ds P'
structure rY(X:Cx)(f:Value)(g:Rc->(Rc->Prop)->Prop):Prop where
 t:∃r,eM X f r/\∀W H vs ds Q,WOk W H->Reps X.K W vs ds->g ds (λes=>∀a us,H a=none->Reps X.K W us es->Q (.ref a) (upd H a<|.lst us))->r vs H Q
 mono:∀ds P P',(∀d,P d->P' d)->g ds P->g ds P'
def wB(g:Rc->(Rf)->Prop)(t:WA):WE:=λE ρ Q=>t E ρ λds=>g ds Q
def aB(g:Rc->(Rc->Prop)->Prop)(t:WA):WA:=λE ρ Q=>t E ρ λds=>g ds Q
variable{id T:String}{t:WA}
theorem cP{g:Rc->(Rf)->Prop}(hc:fo X (.builtin id) g)(hm:X.mg x=none)(hv:bootBuiltins x=some (.builtin id))(ha:jb X EX (e::es) t)(hg:{Gl X x})(hn:(x≠ "__name__":))(hdb:(Q7 x:))
  (he:{Q9 X e es}) (hpl:{Ra X pos es}):PX X EX (.Call (.Name x p) (e::es) [] pos) (wB g t):=by
 obtain⟨ta,pa,ka⟩:=ha.t;obtain⟨r,pr,kr⟩:=hc.t;refine⟨⟨_,pI pr hg hm hv pa hn hdb he hpl,λW0 H0 W σ H ρ E Q s eo h=>?_⟩,λE ρ P P' hp z=>ha.mono _ _ _ _ (λds hds=>hc.mono _ _ _ hp hds) z⟩;exact ka W0 H0 W σ H ρ E _ s eo<|ha.mono _ _ _ _ (λds hds vs W1 H1 x1 r1=>kr W1 H1 vs ds Q x1.ok r1<|hc.mono _ _ _ (λd hd=>RQ.ext hd x1) hds) h
theorem qg{g:Rc->(Rf)->Prop}(hc:fo X (.type T) g)(hm:X.mg x=none)(hv:bootBuiltins x=some (.type T))(ha:jb X EX (e::es) t)(hg:{Gl X x})(hn:(x≠ "__name__":))(hdb:(Q7 x:))
  (he:{Q9 X e es}) (hpl:{Ra X pos es}):PX X EX (.Call (.Name x p) (e::es) [] pos) (wB g t):=by
 obtain⟨ta,pa,ka⟩:=ha.t;obtain⟨r,pr,kr⟩:=hc.t;refine⟨⟨_,i8 pr hg hm hv pa hn hdb he hpl,λW0 H0 W σ H ρ E Q s eo h=>?_⟩,λE ρ P P' hp z=>ha.mono _ _ _ _ (λds hds=>hc.mono _ _ _ hp hds) z⟩;exact ka W0 H0 W σ H ρ E _ s eo<|ha.mono _ _ _ _ (λds hds vs W1 H1 x1 r1=>kr W1 H1 vs ds Q x1.ok r1<|hc.mono _ _ _ (λd hd=>RQ.ext hd x1) hds) h
theorem C3{g:Rc->(Rc->Prop)->Prop}(hc:rY X (.type T) g)(hm:X.mg x=none)(hv:bootBuiltins x=some (.type T))(ha:jb X EX (e::es) t)(hg:{Gl X x})(hn:(x≠ "__name__":))(hdb:(Q7 x:))
  (he:{Q9 X e es}) (hpl:{Ra X pos es}):PXL X EX (.Call (.Name x p) (e::es) [] pos) (aB g t):=by
 obtain⟨ta,pa,ka⟩:=ha.t;obtain⟨r,pr,kr⟩:=hc.t;refine⟨⟨_,i8 pr hg hm hv pa hn hdb he hpl,λW0 H0 W σ H ρ E Q s eo h=>?_⟩,λE ρ P P' hp z=>ha.mono _ _ _ _ (λds hds=>hc.mono _ _ _ hp hds) z⟩;refine ka W0 H0 W σ H ρ E _ s eo<|ha.mono _ _ _ _ (λds hds vs W1 H1 x1 r1=>kr W1 H1 vs ds Q x1.ok r1<|hc.mono _ _ _ (λes' hd a us hn' r2=>?_) hds) h;exact hd a us W1 _ (x1.trans<|.new x1.ok hn') aP (x1.ok.fresh hn').1 (x1.ok.fresh hn').2 (x1.isN hn') r2
abbrev bV:=Rc->(Rb)->(Rf)->Prop
def qh(S:bV):Prop:=∀ds E E' Q Q',(∀ex,E ex->E' ex)->(∀d,Q d->Q' d)->S ds E Q->S ds E' Q'
def h9(K:Qh)(S:bV):Sp:=λvs H Q EX=>∃ds W,WOk W H/\Reps K W vs ds/\S ds (λex=>∀W' H' cls dx,Ext W H W' H'->vn K W' H' cls dx ex->EX cls dx H') (RQ K W H Q)
def wF(S:bV)(t:WA):WE:=λE ρ Q=>t E ρ λds=>S ds E Q
theorem Lm{CX:mX}{S:bV}(F:eD X.prog X.w X.K X.mg X.base CX k f fd ps (h9 X.K S))(hS:qh S)(hr:Room k X.A)(hm:X.mg x=some (.ref f))(hk:PySem.W.keepIn X.K (.ref f)=true)(hb:Binds X.K fd ps [])
  (hx:cF CX X EX) (ha:jb X EX (e::es) t) (hg:{Gl X x}) (hdb:(Q7 x:)) (he:{Q9 X e es}) (hpl:{Ra X pos es}) :
  PX X EX (.Call (.Name x p) (e::es) [] pos) (wF S t):=by
 obtain⟨ta,pa,ka⟩:=ha.t;refine⟨⟨_,lH F hr hg hm hk hb .nil hx pa hdb he hpl,λW0 H0 W σ H ρ E Q s eo h=>?_⟩,λE ρ P P' hp z=>ha.mono _ _ _ _ (λds hds=>hS _ _ _ _ _ (λ_ q=>q) hp hds) z⟩;refine ka W0 H0 W σ H ρ E _ s eo<|ha.mono _ _ _ _ (λds hds vs W1 H1 x1 r1=>?_) h;refine⟨ds,W1,x1.ok,by rw[oS];exact r1,hS _ _ _ _ _ (λex hex W' H' cls dx x' r'=>?_) (λd hd=>RQ.ext hd x1) hds⟩;exact eo ex W' H' cls dx hex (s.ext.trans<|x1.trans x') r'
structure C4(X:Cx)(g:G2):Prop where
 t:∃r,IxR X r/\∀W H x y dx dy Q,WOk W H->Rep X.K W x dx->Rep X.K W y dy->g dx dy (RQ X.K W H Q)->r x y H Q
 mono:∀x y P P',(∀d,P d->P' d)->g x y P->g x y P'
theorem bG{g:G2}(ho:C4 X g)(ha:PX X EX a wa)(hb:PX X EX b wb)(hs:jA b:=by exact λ_ _=>rfl):PX X EX (.Subscript a b pos) (w2 g wa wb):=by obtain⟨ta,pa,ka⟩:=ha.t;obtain⟨tb,pb,kb⟩:=hb.t;obtain⟨r,pr,kr⟩:=ho.t;refine⟨⟨_,rR pr pa pb hs,λW0 H0 W σ H ρ E Q s eo h=>?_⟩,w2.mono ha hb ho.mono⟩;exact mo ha.mono hb.mono ka kb s eo h λW2 H2 x y dx dy x2 rx ry hg=>kr W2 H2 x y dx dy Q x2.ok rx ry<|ho.mono _ _ _ _ (λd hd=>RQ.ext hd x2) hg
structure FN(X:Cx)(f:Value->Sem Value)(g:D->(Rf)->Prop):Prop where
 t:∃r,z9 X f r/\∀W H x dx Q,WOk W H->Rep X.K W x dx->g dx (RQ X.K W H Q)->r x H Q
 mono:∀x P P',(∀d,P d->P' d)->g x P->g x P'
def w1(g:D->(Rf)->Prop)(wa:WE):WE:=λE ρ Q=>wa E ρ λx=>g x Q
theorem ms{op:UnaryOp}{g:D->(Rf)->Prop}(ho:FN X (unaryOp op) g)(ha:PX X EX a wa):PX X EX (.UnaryOp op a pos) (w1 g wa):=by obtain⟨ta,pa,ka⟩:=ha.t;obtain⟨r,pr,kr⟩:=ho.t;refine⟨⟨_,rM pr pa,λW0 H0 W σ H ρ E Q s eo h=>?_⟩,λE ρ P P' hp z=>ha.mono _ _ _ _ (λd hd=>ho.mono _ _ _ hp hd) z⟩;exact ka W0 H0 W σ H ρ E _ s eo<|ha.mono _ _ _ _ (λd hd v W1 H1 x1 r1=>kr W1 H1 v d Q x1.ok r1<|ho.mono _ _ _ (λd hd=>RQ.ext hd x1) hd) h
structure rZ(X:Cx)(EX:XK)(e:Option Expr)(w:(Rb)->cV->(Option Int->Prop)->Prop):Prop where
 t:∃t,PO X e t/\∀W0 H0 W σ H ρ E Q,SOk X.K W0 H0 W σ H ρ->jN X.K W0 H0 E EX->w E ρ (λo=>∀W' H',Ext W H W' H'->Q o H')->t σ H Q
 mono:∀E ρ P P',(∀d,P d->P' d)->w E ρ P->w E ρ P'
def isI(Q:Int->Prop):D->Prop
 |.int i=>Q i|_=>False
theorem isI.mono{Q Q':Int->Prop}(h:∀b,Q b->Q' b):∀d,isI Q d->isI Q' d
 |.int b,z=>h b z|.non,z=>z|.bl _,z=>z|.str _,z=>z|.tup _,z=>z|.lst _,z=>z|.dic,z=>z|.pen,z=>z|.cls _,z=>z|.exc _,z=>z|.ty _,z=>z|.scr _,z=>z|.pl _ _,z=>z
theorem qV{Q:Int->Prop}(h:isI Q d):∃b,d=.int b/\Q b:=by
 cases d with
 |int b=>exact⟨b,rfl,h⟩|_=>exact h.elim
def fq:(Rb)->cV->(Option Int->Prop)->Prop:=λ_ _ Q=>Q none
def eh(w:WE):(Rb)->cV->(Option Int->Prop)->Prop:=λE ρ Q=>w E ρ<|isI λi=>Q (some i)
theorem kE:rZ X EX none fq:=⟨⟨_,qP,λ_ _ W _ H _ _ _ s _ h=>h W H<|.refl s.ok⟩,λ_ _ _ _ hp h=>hp _ h⟩
theorem iz(ha:PX X EX a wa):rZ X EX (some a) (eh wa):=by obtain⟨ta,pa,ka⟩:=ha.t;refine⟨⟨_,qQ pa,λW0 H0 W σ H ρ E Q s eo h=>?_⟩,λE ρ P P' hp z=>ha.mono _ _ _ _ (isI.mono λi hi=>hp _ hi) z⟩;refine ka W0 H0 W σ H ρ E _ s eo<|ha.mono _ _ _ _ (λd hd v W1 H1 x1 r1=>?_) h;obtain⟨i,rfl,q⟩:=qV hd;cases r1;exact⟨i,rfl,q W1 H1 x1⟩
def cJ{α:Type}(xs:List α)(lo hi:Option Int):List α:=(xs.drop<|HT.sIx xs.length 0 lo).take<|HT.sIx xs.length xs.length hi-HT.sIx xs.length 0 lo
def gCut(x:D)(lo hi:Option Int)(Q:Rf):Prop:=match x with
 |.tup xs=>Q<|.tup (cJ xs lo hi)
 |.lst xs=>Q<|.lst (cJ xs lo hi)
 |.scr xs=>Q<|.lst (cJ xs lo hi)
 |_=>False
end
variable{S:bV}
def Bd(i:Int):Prop:=i.natAbs<2^8990
theorem Bd.log{i:Int}(h:Bd i):i.natAbs.log2<8990:=by by_cases h0:i.natAbs=0;rw[h0];decide;exact(Nat.log2_lt h0).mpr h
theorem Bd.bits{i:Int}(h:Bd i):Builtin.Int.intBits i<=2^20:=by
 unfold Builtin.Int.intBits;have:=h.log;have e:(2:Nat)^20=1048576:=F4
 split<;>omega
def r8(i j:Int):Prop:=Bd i/\Bd j
def C5(_ j:Int):Prop:=j≠0/\Bd j
section
theorem Zq:OpR X (binaryOp .Mult) (rI r8 λi j=>.int<|i*j):=Ab λ_ _ _ _ _ _ _ hc q=>mul_int q<|IntMulOk.of_bits hc.1.bits hc.2.bits
theorem Ln:OpR X (binaryOp .FloorDiv) (rI C5 λi j=>.int<|i.fdiv j):=Ab λ_ _ _ _ _ _ _ hc q=>floordiv_int hc.1 q<|.inl (PyProof.noPylong_of_log2 (by have:=hc.2.log;omega))
def gI2(C:Int->Int->Prop)(kd:Int->Int->D):G2:=λx y Q=>match x,y with|.int i,.int j=>C i j/\Q (kd i j)|_,_=>False
theorem gI2.mono{C:Int->Int->Prop}{kd:Int->Int->D}:∀x y P P',(∀d,P d->P' d)->gI2 C kd x y P->gI2 C kd x y P':=λx y P P' hp hg=>by unfold gI2 at hg ⊢;split at hg;exact⟨hg.1,hp _ hg.2⟩;exact hg.elim
theorem gI2.get{C:Int->Int->Prop}{kd:Int->Int->D}{x:D}(h:gI2 C kd x y Q):∃i j,x=.int i/\y=.int j/\C i j/\Q (kd i j):=by unfold gI2 at h;split at h;exact⟨_,_,rfl,rfl,h.1,h.2⟩;exact h.elim
theorem sd{f:Value->Value->Sem Value}{C:Int->Int->Prop}{k:Int->Int->V}{kd:Int->Int->D}(h:OpR X f (rI C k))(hk:∀W i j,Rep X.K W (k i j)<|kd i j):h8 X f (gI2 C kd):=
 ⟨⟨_,h,λW H x y dx dy Q ok rx ry hg=>by
  obtain⟨i,j,rfl,rfl,hc,q⟩:=hg.get;cases rx;cases ry;exact⟨_,_,rfl,rfl,hc,q.now ok<|hk _ _ _⟩⟩,gI2.mono⟩
theorem vo{f:Value->Value->Sem Value}{k:Int->Int->V}(h:OpR X f (qI k)):OpR X f (rI (λ_ _=>True) k):=λE1 s σ H x y v u Q I rx ry ⟨i,j,e1,e2,_,q⟩=>h E1 s σ H x y v u Q I rx ry ⟨i,j,e1,e2,q⟩
theorem je:h8 X (binaryOp .Sub) (gI2 (λ_ _=>True) λi j=>.int<|i-j):=sd (vo tW) λ_ _ _=>.int _
theorem se:h8 X (binaryOp .Mod) (gI2 (λ_ j=>j≠0) λi j=>.int<|i.fmod j):=sd qK λ_ _ _=>.int _
theorem qi:h8 X (binaryOp .FloorDiv) (gI2 C5 λi j=>.int<|i.fdiv j):=sd Ln λ_ _ _=>.int _
theorem xr:h8 X (binaryOp .Pow) (gI2 tU λi j=>.int<|i^j.toNat):=sd tX λ_ _ _=>.int _
theorem Lo:OpR X (compareOp .Lt) (qI λi j=>.bl<|decide (i<j)):=qJ λ_ _ _ _ _ _ _ q=>lt_int q
theorem Lp:OpR X (compareOp .LtE) (qI λi j=>.bl<|decide (i<=j)):=qJ λ_ _ _ _ _ _ _ q=>le_int q
theorem Lq:OpR X (compareOp .Gt) (qI λi j=>.bl<|decide (i>j)):=qJ λ_ _ _ _ _ _ _ q=>gt_int q
theorem Lr:OpR X (compareOp .GtE) (qI λi j=>.bl<|decide (i ≥ j)):=qJ λ_ _ _ _ _ _ _ q=>ge_int q
theorem mw:h8 X (compareOp .Lt) (gI2 (λ_ _=>True) λi j=>.bl<|decide (i<j)):=sd (vo Lo) λ_ _ _=>.bl _
theorem pR:h8 X (compareOp .LtE) (gI2 (λ_ _=>True) λi j=>.bl<|decide (i<=j)):=sd (vo Lp) λ_ _ _=>.bl _
theorem qW:h8 X (compareOp .Gt) (gI2 (λ_ _=>True) λi j=>.bl<|decide (i>j)):=sd (vo Lq) λ_ _ _=>.bl _
theorem C6:h8 X (compareOp .GtE) (gI2 (λ_ _=>True) λi j=>.bl<|decide (i ≥ j)):=sd (vo Lr) λ_ _ _=>.bl _
theorem mx:FN X (unaryOp .USub) (λx Q=>isI (λi=>Q<|.int (-i)) x):=
 ⟨⟨_,pz,λW H x dx Q ok rx hg=>by
  obtain⟨i,rfl,q⟩:=qV hg;cases rx;exact⟨i,rfl,q.now ok<|.int _⟩⟩,λx P P' hp h=>isI.mono (λi hi=>hp _ hi) x h⟩
mutual
def iM:D->Option PyData
 |.non=>some .none|.bl b=>some<|.bool b
 |.int i=>some<|.int i
 |.str x=>some<|.str x
 |.tup xs=>(gy xs).map .tuple|.lst xs=>(gy xs).map .list|.dic=>none|.pen=>none|.cls _=>none|.exc _=>none|.ty _=>none|.pl _ _=>none|.scr _=>none
def gy:Rc->Option (List PyData)
 |[]=>some []
 |x::r=>match iM x,gy r with
  |some a,some b=>some (a::b)|_,_=>none
end
variable{s:Shared}{W:Wd}
mutual
theorem xu(I:Inv X E1 σ H s)(ok:WOk W H):∀{v:V} {d:D} {u:Value} {p:PyData},Rep X.K W v d->RelV v u->iM d=some p->∃as,Reads s.heap u p as:=by
 intro v d u p h0 r e;cases h0 with
 |non=>cases e;cases r;exact⟨_,.none⟩
 |bl b=>cases e;cases r;exact⟨_,.bool b⟩
 |int i=>cases e;obtain⟨t,rfl⟩:=r;exact⟨_,.int i t⟩
 |str x=>cases e;obtain⟨t,rfl⟩:=r;exact⟨_,.str x t⟩
 |@tup _ _ ds e0 rs=>
  cases r;cases q:gy ds with
  |none=>rw[iM,q]at e;cases e
  |some ps=>rw[iM,q]at e;cases e;obtain⟨its,rv,⟨o,h1,h2,n,h3⟩,_⟩:=I.tuple (xs:=_)<|SqT.of (ok.g _ _ e0);obtain⟨as,ra⟩:=Ah I ok rs rv q;exact⟨_,.tuple h1 h2 h3<|by simpa using ra⟩
 |@ktup _ _ ds e0 rs=>
  cases r;cases q:gy ds with
  |none=>rw[iM,q]at e;cases e
  |some ps=>rw[iM,q]at e;cases e;obtain⟨its,rv,⟨o,h1,h2,n,h3⟩,_⟩:=I.tuple (xs:=_)<|.inr e0;obtain⟨as,ra⟩:=Ah I ok rs rv q;exact⟨_,.tuple h1 h2 h3<|by simpa using ra⟩
 |@lst _ _ ds e0 rs=>
  cases r;cases q:gy ds with
  |none=>rw[iM,q]at e;cases e
  |some ps=>rw[iM,q]at e;cases e;obtain⟨its,rv,⟨o,n,h1,h2,h3,h4⟩,_⟩:=I.list (xs:=_)<|SqL.of (ok.g _ _ e0);obtain⟨as,ra⟩:=Ah I ok rs rv q;exact⟨_,.list h1 h2 h4<|by simpa using ra⟩
 |dic _=>rw[iM]at e;cases e
 |pen _=>rw[iM]at e;cases e
 |cls _=>rw[iM]at e;cases e
 |exc _ _ _=>rw[iM]at e;cases e
 |ty _=>rw[iM]at e;cases e
 |pl _=>rw[iM]at e;cases e
 |scr _ _=>rw[iM]at e;cases e
theorem Ah(I:Inv X E1 σ H s)(ok:WOk W H):∀{vs:Rg} {ds:Rc} {us:QX} {ps:List PyData},Reps X.K W vs ds->Vals vs us->gy ds=some ps->∃as,ReadsAll s.heap us ps as
 |_,_,us,ps,.nil,r,e=>by rw[gy]at e;cases e;cases r;exact⟨_,.nil⟩
 |_,d::ds,us,ps,.cons rd rs,r,e=>by
  rw[gy]at e;cases q1:iM d with
  |none=>rw[q1]at e;cases e
  |some a=>
   cases q2:gy ds with
   |none=>rw[q1,q2]at e;cases e
   |some b=>
    rw[q1,q2]at e;cases e;cases r with
    |cons r1 r2=>
     obtain⟨as,ra⟩:=xu I ok rd r1 q1;obtain⟨bs,rb⟩:=Ah I ok rs r2 q2;exact⟨_,.cons ra rb⟩
end
def gEq(neg:Bool):G2:=λx y Q=>∃p q,iM x=some p/\iM y=some q/\PySem.SeqAt.shaped p=true/\PySem.SeqAt.shaped q=true/\Q (.bl (if neg then !PyData.eqv p q else PyData.eqv p q))
theorem gEq.mono{neg:Bool}:∀x y P P',(∀d,P d->P' d)->gEq neg x y P->gEq neg x y P':=λx y P P' hp ⟨p,q,h1,h2,h3,h4,h5⟩=>⟨p,q,h1,h2,h3,h4,hp _ h5⟩
theorem dA(hu:X.A.units+64<cLine):h8 X (compareOp .Eq) (gEq false):=by refine⟨⟨λx y H Q=>∃W dx dy,WOk W H/\Rep X.K W x dx/\Rep X.K W y dy/\gEq false dx dy (RQ X.K W H Q),?_,λW H x y dx dy Q ok rx ry hg=>⟨W,dx,dy,ok,rx,ry,hg⟩⟩,gEq.mono⟩;rintro E1 s σ H x y v u Q I rx ry ⟨W,dx,dy,ok,r1,r2,p,q,h1,h2,h3,h4,h5⟩;obtain⟨as,ra⟩:=xu I ok r1 rx h1;obtain⟨bs,rb⟩:=xu I ok r2 ry h2;exact eq_dataH ra rb h3 h4 hu ⟨.bl _,H,I,rfl,h5.now ok<|.bl _⟩
theorem dS(hu:X.A.units+64<cLine):h8 X (compareOp .NotEq) (gEq true):=by refine⟨⟨λx y H Q=>∃W dx dy,WOk W H/\Rep X.K W x dx/\Rep X.K W y dy/\gEq true dx dy (RQ X.K W H Q),?_,λW H x y dx dy Q ok rx ry hg=>⟨W,dx,dy,ok,rx,ry,hg⟩⟩,gEq.mono⟩;rintro E1 s σ H x y v u Q I rx ry ⟨W,dx,dy,ok,r1,r2,p,q,h1,h2,h3,h4,h5⟩;obtain⟨as,ra⟩:=xu I ok r1 rx h1;obtain⟨bs,rb⟩:=xu I ok r2 ry h2;exact ne_dataH ra rb h3 h4 hu ⟨.bl _,H,I,rfl,h5.now ok<|.bl _⟩
end
section
variable{a:Expr}
def gAdd:G2:=λx y Q=>match x,y with
 |.int i,.int j=>Q<|.int (i+j)
 |.lst xs,.lst ys=>xs.length+ys.length<=aO/\Q (.lst<|xs++ys)|.tup xs,.tup ys=>xs.length+ys.length<=aO/\Q (.tup<|xs++ys)|_,_=>False
theorem gAdd.mono:∀x y P P',(∀d,P d->P' d)->gAdd x y P->gAdd x y P':=λx y P P' hp hg=>by unfold gAdd at hg ⊢;split at hg;exact hp _ hg;exact⟨hg.1,hp _ hg.2⟩;exact⟨hg.1,hp _ hg.2⟩;exact hg.elim
def xv(K:Qh):R2:=λx y H Q=>∃l b xs zs,x=.ref l/\y=.ref b/\SqL K H l xs/\SqL K H b zs/\xs.length+zs.length<=sizeLine/\∀p,H p=none->Q (.ref p) (upd H p<|.lst<|xs++zs)
theorem Znq:OpR X (binaryOp .Add) (xv X.K):=by
 intro E1 s σ H x y v u Q I rx ry h;obtain⟨l,b,xs,zs,rfl,rfl,hH,hB,hz,q⟩:=h;cases rx;cases ry;obtain⟨its,r,pl,z⟩:=I.list hH;obtain⟨its2,r2,D4,z2⟩:=I.list hB;have hl:=r.length;have hl2:=r2.length;obtain⟨⟨cls,dd,data,sl⟩,n,ho,hc,_,hd⟩:=pl;obtain⟨⟨cls2,dd2,data2,sl2⟩,n2,ho2,hc2,_,hd2⟩:=D4;simp only at hc hd hc2 hd2;subst hc hd hc2 hd2;have e:its.toArray++its2.toArray=(its++its2).toArray:=KE
 refine concat_meets ⟨_,ho,rfl⟩ ⟨_,ho2,rfl⟩ noFill_list_add seq_list_add PySem.F.slot_list_add PySem.F.entry_list_add (PySem.F.args_list_add_2 _ _) (list_addW l b its.toArray its2.toArray n n2 dd dd2 sl sl2 (by simp;omega)) ⟨ho,ho2,?_⟩;rw[e];exact⟨.ref _,_,I.lnew (t':=s.toks) (r.append r2) (by rw[fN];omega),rfl,q _ I.fresh⟩
def Ls(K:Qh):R2:=λx y H Q=>∃a b xs ys,x=.ref a/\y=.ref b/\SqT K H a xs/\SqT K H b ys/\xs.length+ys.length<=sizeLine/\
 (xs=[]->Q (.ref b) H)/\(ys=[]->Q (.ref a) H)/\∀p,H p=none->Q (.ref p) (upd H p<|.tup<|xs++ys)
theorem Lu:OpR X (binaryOp .Add) (Ls X.K):=by
 intro E1 s σ H x y v u Q I rx ry h;obtain⟨a,b,xs,ys,rfl,rfl,ha,hb,hz,q1,q2,q3⟩:=h;by_cases hx:xs=[];cases rx;cases ry;obtain⟨its,r1,p1,_⟩:=I.tuple ha;obtain⟨its2,r2,p2,_⟩:=I.tuple hb;have hi:its=[]:=r1.nil_iff.mpr hx;obtain⟨⟨cls,dd,data,sl⟩,ho,hc,n,hd⟩:=id p1;obtain⟨⟨cls2,dd2,data2,sl2⟩,ho2,hc2,n2,hd2⟩:=id p2;simp only at hc hd hc2 hd2;subst hc hd hc2 hd2;exact concat_meets ⟨_,ho,rfl⟩ ⟨_,ho2,rfl⟩ noFill_tuple_add seq_tuple_add PySem.F.slot_tuple_add PySem.F.entry_tuple_add (PySem.F.args_tuple_add_2 _ _)
  (tuple_addW0 a b its.toArray its2.toArray n n2 dd dd2 sl sl2<|by simp[hi]) ⟨ho,ho2,⟨.ref b,H,I,rfl,q1 hx⟩⟩
 exact qR E1 s σ H _ _ v u Q I rx ry ⟨a,b,xs,ys,rfl,rfl,ha,hb,hx,hz,q2,λ_=>q3⟩
theorem ee:h8 X (binaryOp .Add) gAdd:=by
 refine⟨⟨_,(vo tV).or<|Znq.or Lu,λW H x y dx dy Q ok rx ry hg=>?_⟩,gAdd.mono⟩;unfold gAdd at hg;split at hg;cases rx;cases ry;exact .inl ⟨_,_,rfl,rfl,trivial,hg.now ok<|.int _⟩;obtain⟨p,vs,rfl,h1,r1⟩:=rx.sql ok;obtain⟨q,us,rfl,h2,r2⟩:=ry.sql ok;refine .inr<|.inl ⟨p,q,vs,us,rfl,rfl,h1,h2,by rw[r1.length,r2.length];exact pQ hg.1,λa ha=>hg.2.lst ok (r1.append r2) ha⟩
 obtain⟨p,vs,rfl,h1,r1⟩:=rx.sqt ok;obtain⟨q,us,rfl,h2,r2⟩:=ry.sqt ok;rename_i xs ys;refine .inr<|.inr ⟨p,q,vs,us,rfl,rfl,h1,h2,by rw[r1.length,r2.length];exact pQ hg.1,λe=>?_,λe=>?_,λa ha=>hg.2.tup ok (r1.append r2) ha⟩
 subst e;cases r1;exact hg.2.now ok ry;subst e;cases r2;rw[oS]at hg;exact hg.2.now ok rx;exact hg.elim
def gMul:G2:=λx y Q=>match x,y with|.int i,.int j=>r8 i j/\Q (.int<|i*j)|.lst xs,.int k=>k<1000/\-1000<k/\xs.length*k.toNat<=aO/\Q (.lst (List.replicate k.toNat xs).flatten)|_,_=>False
theorem gMul.mono:∀x y P P',(∀d,P d->P' d)->gMul x y P->gMul x y P':=λx y P P' hp hg=>by unfold gMul at hg ⊢;split at hg;exact⟨hg.1,hp _ hg.2⟩;exact⟨hg.1,hg.2.1,hg.2.2.1,hp _ hg.2.2.2⟩;exact hg.elim
theorem FO{W:Wd}(r:Reps K W vs ds)(n:Nat):Reps K W (List.replicate n vs).flatten (List.replicate n ds).flatten:=by
 induction n with
 |zero=>exact .nil|succ n ih=>rw[iF,iF,va,va];exact r.append ih
theorem dO:h8 X (binaryOp .Mult) gMul:=by
 refine⟨⟨_,Zq.or ud,λW H x y dx dy Q ok rx ry hg=>?_⟩,gMul.mono⟩;unfold gMul at hg;split at hg;cases rx;cases ry;exact .inl ⟨_,_,rfl,rfl,hg.1,hg.2.now ok<|.int _⟩;cases ry;cases rx with
 | @lst l vs _ e r=>refine .inr ⟨l,_,vs,rfl,rfl,ok.g _ _ e,E8,E8,?_,λp hp=>hg.2.2.2.lst ok (FO r _) hp⟩;rw[r.length];exact pQ hg.2.2.1
 exact hg.elim
theorem Ai{W:Wd}(r:Reps K W vs xs){i:Int}(h:eG xs i=some d):∃v,eG vs i=some v/\Rep K W v d:=by
 unfold eG at h ⊢;rw[r.length];cases q:j4 xs.length i with
 |none=>rw[q]at h;cases h
 |some k=>rw[q]at h;obtain⟨v,e,rv⟩:=r.get (show xs[k]? = some d from h);exact⟨v,e,rv⟩
def gIx:G2:=λx y Q=>isI (λi=>match x with
 |.tup xs=>∃d,eG xs i=some d/\Q d|.lst xs=>∃d,eG xs i=some d/\Q d|.scr xs=>∃d,eG xs i=some d/\Q d
 |_=>False) y
theorem gIx.mono:∀ x y P P',(∀ d,P d->P' d)->gIx x y P->gIx x y P':=λx y P P' hp hg=>isI.mono (λi h=>by
 split at h
 .obtain⟨d,e,q⟩:=h;exact⟨d,e,hp _ q⟩
 .obtain⟨d,e,q⟩:=h;exact⟨d,e,hp _ q⟩
 .obtain⟨d,e,q⟩:=h;exact⟨d,e,hp _ q⟩
 .exact h.elim) y hg
theorem aQ:C4 X gIx:=by
 refine⟨⟨_,kW,λW H x y dx dy Q ok rx ry hg=>?_⟩,gIx.mono⟩;obtain⟨i,rfl,h⟩:=qV hg;cases ry;split at h;obtain⟨d,e,q⟩:=h;obtain⟨p,vs,rfl,h1,r1⟩:=rx.sqt ok;obtain⟨v,e1,rv⟩:=Ai r1 e;exact .inr<|.inl ⟨p,vs,i,v,rfl,rfl,h1,e1,q.now ok rv⟩
 obtain⟨d,e,q⟩:=h;obtain⟨p,vs,rfl,h1,r1⟩:=rx.sql ok;obtain⟨v,e1,rv⟩:=Ai r1 e;exact .inl ⟨p,vs,i,v,rfl,rfl,h1,e1,q.now ok rv⟩;obtain⟨d,e,q⟩:=h;obtain⟨p,vs,rfl,h1,r1⟩:=rx.sqs ok;obtain⟨v,e1,rv⟩:=Ai r1 e;exact .inl ⟨p,vs,i,v,rfl,rfl,h1,e1,q.now ok rv⟩;exact h.elim
theorem Reps.cut{W:Wd}(r:Reps K W vs ds)(lo hi:Option Int):Reps K W (j3 vs lo hi) (cJ ds lo hi):=by unfold j3 cJ;rw[r.length];exact(r.drop _).take _
theorem Lv{lo hi:Option Int}(h:HT.sIx xs.length 0 lo=0/\HT.sIx xs.length xs.length hi=xs.length):cJ xs lo hi=xs:=by unfold cJ;rw[h.1,h.2];simp
theorem gCut.mono{lo hi:Option Int}:∀x P P',(∀d,P d->P' d)->gCut x lo hi P->gCut x lo hi P':=λx P P' hp hg=>by unfold gCut at hg ⊢;split at hg;exact hp _ hg;exact hp _ hg;exact hp _ hg;exact hg.elim
def cL(wa:WE)(wl wh:(Rb)->cV->(Option Int->Prop)->Prop):WE:=λE ρ Q=>wa E ρ λx=>wl E ρ λl=>wh E ρ λh=>gCut x l h Q
theorem jO{wl wh}(ha:PX X EX a wa)(hl:rZ X EX lo wl)(hh:rZ X EX hi wh):PX X EX (.Subscript a (.Slice lo hi none p2) pos) (cL wa wl wh):=by
 obtain⟨ta,pa,ka⟩:=ha.t;obtain⟨tl,pl,kl⟩:=hl.t;obtain⟨th,ph,kh⟩:=hh.t;refine⟨⟨_,j0 (sl_list.or<|sl_tup.or J3) pa pl ph,λW0 H0 W σ H ρ E Q s eo h=>?_⟩,λE ρ P P' hp h=>ha.mono _ _ _ _ (λx hx=>hl.mono _ _ _ _ (λl hl'=>hh.mono _ _ _ _ (λu hu=>gCut.mono x _ _ hp hu) hl') hx) h⟩;refine ka W0 H0 W σ H ρ E _ s eo<|ha.mono _ _ _ _ (λdx hx v W1 H1 x1 r1=>?_) h;refine kl W0 H0 W1 σ H1 ρ E _ (s.step x1) eo<|hl.mono _ _ _ _ (λl hl' W2 H2 x2=>?_) hx;refine kh W0 H0 W2 σ H2 ρ E _ ((s.step x1).step x2) eo<|hh.mono _ _ _ _ (λu hu W3 H3 x3=>?_) hl';have r3:=(x2.trans x3).rep r1;have hu':=gCut.mono dx _ _ (λd hd=>RQ.ext hd<|x1.trans<|x2.trans x3) hu;unfold gCut at hu';split at hu'
 obtain⟨p,vs,rfl,h1,rr⟩:=r3.sqt x3.ok;rename_i xs;by_cases hw:HT.sIx vs.length 0 l=0/\HT.sIx vs.length vs.length u=vs.length;refine .inr (.inr ⟨p,vs,rfl,h1,hw,?_⟩);rw[rr.length]at hw;rw[Lv hw]at hu';exact hu'.now x3.ok r3;exact .inr<|.inl ⟨p,vs,rfl,h1,hw,λq hq=>hu'.tup x3.ok (rr.cut l u) hq⟩
 obtain⟨p,vs,rfl,h1,rr⟩:=r3.sql x3.ok;exact .inl ⟨p,vs,rfl,h1,λq hq=>hu'.lst x3.ok (rr.cut l u) hq⟩;obtain⟨p,vs,rfl,h1,rr⟩:=r3.sqs x3.ok;exact .inl ⟨p,vs,rfl,h1,λq hq=>hu'.lst x3.ok (rr.cut l u) hq⟩;exact hu'.elim
def gRev:D->(Rf)->Prop:=λx Q=>match x with
 |.tup xs=>Q<|.tup xs.reverse
 |.lst xs=>Q<|.lst xs.reverse
 |_=>False
theorem gRev.mono:∀x P P',(∀d,P d->P' d)->gRev x P->gRev x P':=λx P P' hp hg=>by unfold gRev at hg ⊢;split at hg;exact hp _ hg;exact hp _ hg;exact hg.elim
theorem xw{j pos3 pos4}(ha:PX X EX a wa):PX X EX (.Subscript a (.Slice none none (some<|.UnaryOp .USub (.Constant (.int 1) j pos3) pos4) p2) pos) (w1 gRev wa):=by
 obtain⟨ta,pa,ka⟩:=ha.t;refine⟨⟨_,Ka pa,λW0 H0 W σ H ρ E Q s eo h=>?_⟩,λE ρ P P' hp h=>ha.mono _ _ _ _ (λx hx=>gRev.mono x _ _ hp hx) h⟩;refine ka W0 H0 W σ H ρ E _ s eo<|ha.mono _ _ _ _ (λdx hx v W1 H1 x1 r1=>?_) h;have hu':=gRev.mono dx _ _ (λd hd=>RQ.ext hd x1) hx;unfold gRev at hu';split at hu'
 obtain⟨p,vs,rfl,h1,rr⟩:=r1.sqt x1.ok;exact⟨p,vs,rfl,.inl ⟨h1,λq hq=>hu'.tup x1.ok rr.rev hq⟩⟩;obtain⟨p,vs,rfl,h1,rr⟩:=r1.sql x1.ok;exact⟨p,vs,rfl,.inr ⟨h1,λq hq=>hu'.lst x1.ok rr.rev hq⟩⟩;exact hu'.elim
def bQ:Rc->(Rf)->Prop:=λds Q=>match ds with
 |[.tup xs]=>Q<|.int xs.length
 |[.lst xs]=>Q<|.int xs.length
 |[.scr xs]=>Q<|.int xs.length
 |_=>False
theorem eP:fo X (.builtin "len") bQ:=by refine⟨⟨_,jD,λW H vs ds Q ok r hg=>?_⟩,λds P P' hp hg=>?_⟩;unfold bQ at hg;split at hg;obtain⟨v,rfl,rv⟩:=r.one;obtain⟨p,us,rfl,h1,rr⟩:=rv.sqt ok;exact⟨p,us,rfl,.inr h1,by rw[rr.length];exact hg.now ok<|.int _⟩;obtain⟨v,rfl,rv⟩:=r.one;obtain⟨p,us,rfl,h1,rr⟩:=rv.sql ok;exact⟨p,us,rfl,.inl h1,by rw[rr.length];exact hg.now ok<|.int _⟩;obtain⟨v,rfl,rv⟩:=r.one;obtain⟨p,us,rfl,h1,rr⟩:=rv.sqs ok;exact⟨p,us,rfl,.inl h1,by rw[rr.length];exact hg.now ok<|.int _⟩;exact hg.elim;unfold bQ at hg ⊢;split at hg;exact hp _ hg;exact hp _ hg;exact hp _ hg;exact hg.elim
def ia{α:Type}:Rc->(Rc->Prop)->Prop:=λds Q=>match ds with|[.tup xs]=>Q xs|[.lst xs]=>Q xs|[.scr xs]=>Q xs|_=>False
theorem C7:rY X (.type "list") (ia (α:=Unit)):=by refine⟨⟨_,jE,λW H vs ds Q ok r hg=>?_⟩,λds P P' hp hg=>?_⟩;unfold ia at hg;split at hg;obtain⟨v,rfl,rv⟩:=r.one;obtain⟨p,us,rfl,h1,rr⟩:=rv.sqt ok;exact⟨p,us,rfl,.inr h1,λl hl=>hg l us hl rr⟩;obtain⟨v,rfl,rv⟩:=r.one;obtain⟨p,us,rfl,h1,rr⟩:=rv.sql ok;exact⟨p,us,rfl,.inl h1,λl hl=>hg l us hl rr⟩;obtain⟨v,rfl,rv⟩:=r.one;obtain⟨p,us,rfl,h1,rr⟩:=rv.sqs ok;exact⟨p,us,rfl,.inl h1,λl hl=>hg l us hl rr⟩;exact hg.elim;unfold ia at hg ⊢;split at hg;exact hp _ hg;exact hp _ hg;exact hp _ hg;exact hg.elim
def lM:Rc->(Rf)->Prop:=λds Q=>match ds with
 |[.tup xs]=>Q<|.tup xs
 |[.lst xs]=>Q<|.tup xs
 |_=>False
theorem vq:fo X (.type "tuple") lM:=by refine⟨⟨_,iH,λW H vs ds Q ok r hg=>?_⟩,λds P P' hp hg=>?_⟩;unfold lM at hg;split at hg;obtain⟨v,rfl,rv⟩:=r.one;obtain⟨p,us,rfl,h1,rr⟩:=rv.sqt ok;exact⟨p,us,rfl,.inr ⟨h1,hg.now ok rv⟩⟩;obtain⟨v,rfl,rv⟩:=r.one;obtain⟨p,us,rfl,h1,rr⟩:=rv.sql ok;exact⟨p,us,rfl,.inl ⟨h1,λl hl=>hg.tup ok rr hl⟩⟩;exact hg.elim;unfold lM at hg ⊢;split at hg;exact hp _ hg;exact hp _ hg;exact hg.elim
def jI:Rc->(Rf)->Prop:=λds Q=>match ds with
 |[.int i]=>Q<|.int (if i<0 then -i else i)
 |_=>False
theorem C8:fo X (.builtin "abs") jI:=by refine⟨⟨_,pF,λW H vs ds Q ok r hg=>?_⟩,λds P P' hp hg=>?_⟩;unfold jI at hg;split at hg;obtain⟨v,rfl,rv⟩:=r.one;cases rv;exact⟨_,rfl,hg.now ok<|.int _⟩;exact hg.elim;unfold jI at hg ⊢;split at hg;exact hp _ hg;exact hg.elim
def kY:Rc->(Rf)->Prop:=λds Q=>match ds with
 |[.int i,.int j]=>Q<|.int (if j>i then j else i)
 |_=>False
theorem xy(hc:X.calm=true):fo X (.builtin "max") kY:=by refine⟨⟨_,l6 hc,λW H vs ds Q ok r hg=>?_⟩,λds P P' hp hg=>?_⟩;unfold kY at hg;split at hg;obtain⟨v,u,rfl,rv,ru⟩:=r.two;cases rv;cases ru;exact⟨_,_,rfl,hg.now ok<|.int _⟩;exact hg.elim;unfold kY at hg ⊢;split at hg;exact hp _ hg;exact hg.elim
def ic:Rc->(Rf)->Prop:=λds Q=>match ds with
 |[.int i]=>Q<|.int i
 |[.bl b]=>Q<|.int (if b then 1 else 0)
 |_=>False
theorem Aj:fo X (.type "int") ic:=by refine⟨⟨_,l7,λW H vs ds Q ok r hg=>?_⟩,λds P P' hp hg=>?_⟩;unfold ic at hg;split at hg;obtain⟨v,rfl,rv⟩:=r.one;cases rv;exact .inl ⟨_,rfl,hg.now ok<|.int _⟩;obtain⟨v,rfl,rv⟩:=r.one;cases rv;exact .inr ⟨_,rfl,hg.now ok<|.int _⟩;exact hg.elim;unfold ic at hg ⊢;split at hg;exact hp _ hg;exact hp _ hg;exact hg.elim
end
section
variable{a:Expr}
noncomputable def Ak:D->Option String
 |.non=>some "NoneType" |.bl _=>some "bool" |.int _=>some "int" |.str _=>some "str" |.tup _=>some "tuple" |.lst _=>some "list" |.dic=>some "dict"
 |.pen=>none|.cls _=>none|.exc _=>none|.ty _=>none|.scr _=>none|.pl _ _=>none
def iN(t T:String):Bool:=t==T||(t == "bool" && T == "int")
def Al:List String:=["int", "bool", "str", "tuple", "list"]
theorem Lw(K:Qh){t T:String}(ht:Ak d=some t)(hT:T∈Al):PySem.W.kitOne K (.type t) (.type T)=some (iN t T):=by
 simp only[Al,Yan,gQ,or_false]at hT;cases d<;>first
  |(cases ht;done)
  |(cases ht;rcases hT with rfl|rfl|rfl|rfl|rfl<;>rfl)
def gIs:Rc->(Rf)->Prop:=λds Q=>match ds with|[x,.ty T]=>∃t,Ak x=some t/\T∈Al/\Q (.bl<|iN t T)|_=>False
theorem gIs.mono:∀ds P P',(∀d,P d->P' d)->gIs ds P->gIs ds P':=λds P P' hp hg=>by unfold gIs at hg ⊢;split at hg;obtain⟨t,h1,h2,h3⟩:=hg;exact⟨t,h1,h2,hp _ h3⟩;exact hg.elim
theorem mY:fo X (.builtin "isinstance") gIs:=by
 refine⟨⟨λvs H Q=>∃W ds,WOk W H/\Reps X.K W vs ds/\gIs ds (RQ X.K W H Q),?_,λW H vs ds Q ok r hg=>⟨W,ds,ok,r,hg⟩⟩,gIs.mono⟩;rintro E1 s σ H vs us Q I rv ⟨W,ds,ok,rs,hg⟩;unfold gIs at hg;split at hg;rename_i x T;obtain⟨t,h1,h2,q⟩:=hg;obtain⟨v,w',rfl,r1,r2⟩:=rs.two;cases r2;obtain⟨u,u2,rfl,ru,ru2⟩:=lG rv;obtain rfl:u2=Value.type T:=ru2;have e:=Lw X.K h1 h2;have fin:∀tk,EP X E1 σ Q (.bool<|iN t T) { s with toks:=tk }:=λtk=>⟨.bl _,H,I.tok tk,rfl,q.now ok<|.bl _⟩;cases r1 with
 |non=>cases h1;cases ru;exact PySem.W.kia_one PySem.W.kitx_none I.kIn True.intro e (λz=>nomatch z) fin
 |bl b=>cases h1;cases ru;exact PySem.W.kia_one PySem.W.kitx_bool I.kIn True.intro e (λz=>nomatch z) fin
 |int i=>cases h1;obtain⟨t',rfl⟩:=ru;exact PySem.W.kia_one PySem.W.kitx_int I.kIn True.intro e (λz=>nomatch z) fin
 |str i=>cases h1;obtain⟨t',rfl⟩:=ru;exact PySem.W.kia_one PySem.W.kitx_str I.kIn True.intro e (λz=>nomatch z) fin
 |tup e0 rr=>cases h1;cases ru;obtain⟨its,_,⟨o,h1,h2,_⟩,_⟩:=I.tuple<|SqT.of (ok.g _ _ e0);exact PySem.W.kia_one PySem.W.kitx_tuple I.kIn ⟨o,h1,h2⟩ e (λz=>nomatch z) fin
 |ktup e0 rr=>cases h1;cases ru;obtain⟨its,_,⟨o,h1,h2,_⟩,_⟩:=I.tuple<|.inr e0;exact PySem.W.kia_one PySem.W.kitx_tuple I.kIn ⟨o,h1,h2⟩ e (λz=>nomatch z) fin
 |lst e0 rr=>cases h1;cases ru;obtain⟨its,_,⟨o,n,h1,h2,_⟩,_⟩:=I.list<|SqL.of (ok.g _ _ e0);exact PySem.W.kia_one PySem.W.kitx_list I.kIn ⟨o,h1,h2⟩ e (λz=>nomatch z) fin
 | @dic a e0=>cases h1;cases ru;obtain⟨_,_,vs,_,p⟩:=(show ObjOk X.prog X.w H s.heap a (.dK []) from I.hok a _ (ok.g _ _ e0));obtain⟨o,es,ep,h1,h2,_⟩:=p;exact PySem.W.kia_one PySem.W.kitx_dict I.kIn ⟨o,h1,h2.1⟩ e (λz=>nomatch z) fin
 |pen _=>cases h1
 |cls _=>cases h1
 |exc _ _=>cases h1
 |ty _=>cases h1
 |pl _=>cases h1
 |scr _ _=>cases h1
 exact hg.elim
theorem Lx(hc:X.calm=true):eM X (.builtin "all") (λxs H Q=>∃(p:Addr) (bs:List Bool),xs=[.ref p]/\SqL X.K H p (bs.map V.bl)/\Q (.bl<|bs.all id) H):=by
 intro E1 s σ H xs us Q I r h;obtain⟨p,bs,rfl,hq,q⟩:=h;obtain⟨u,rfl,ru⟩:=fP r;cases ru;obtain⟨its,rv,pl,hz⟩:=I.list hq;have hpl:p<s.heap.objs.size:=by obtain⟨o,n,e,_⟩:=pl;exact dv e
 have hits:its=bs.map Value.bool:=by
  clear hz pl hq q;induction bs generalizing its with
  |nil=>cases rv;rfl
  |cons b bs ih=>
   cases rv with
   |cons r1 r2=>
    obtain rfl:_=Value.bool b:=r1;rw[c8,ih _ r2]
 subst hits;refine call_all_walk<|QP pl.isList ?_;have hh:X.A.in1.handled=none:=I.ok.hd hc;refine⟨s.heap.objs.size,_,_,_,_,_,λi=>(bs[i]?).getD true,rfl,Walks.list hh _ p (gY hpl) (bs.map Value.bool).toArray,⟨⟨_,g6 _ rfl,rfl,rfl⟩,pl.isList.at λo e=>dM _ e⟩,λi v s' Q' E' hP hQ=>?_,λh' tk hk=>?_⟩
 have hP':(bs.map Value.bool)[i]? = some v:=by simpa using hP
 rw[cH]at hP';cases e:bs[i]? with
 |none=>rw[e]at hP';cases hP'
 |some b=>
  rw[e]at hP';have:v=Value.bool b:=(Qk hP').symm;subst this;refine Qz ?_;have e2:(bs[i]?).getD true=b:=by rw[e];rfl
  dsimp only at hQ;rw[e2]at hQ;exact hQ
 have e:((List.range (bs.map Value.bool).toArray.size).all λi=>(bs[i]?).getD true)=bs.all id:=by
  rw[fj,bH,sU,Ybd,Ybd];constructor;intro h b hb;obtain⟨i,hi,e⟩:=Ybx.mp hb;have:=h i<|Yag.mpr hi;rw[bU hi]at this;rw[<-e];exact this
  intro h i hi;have hi':=Yag.mp hi;rw[bU hi'];exact h _<|jn hi'
 rw[e];refine⟨.bl<|bs.all id,H,?_,rfl,q⟩;refine I.kept λb o e=>hk b o ?_<|dM _ e;intro z;have:b=s.heap.objs.size:=by simpa using z
 exact Qj (dv e) (by rw[this];exact iu _)
def j9:Rc->(Rf)->Prop:=λds Q=>match ds with|[.lst xs]=>∃bs:List Bool,xs=bs.map D.bl/\Q (.bl<|bs.all id)|_=>False
theorem FP{K:Qh}{W:Wd}:∀{vs:Rg} {bs:List Bool},Reps K W vs (bs.map D.bl)->vs=bs.map V.bl
 |_,[],.nil=>rfl|_,b::bs,.cons r t=>by cases r;rw[c8,FP t]
theorem Am(hc:X.calm=true):fo X (.builtin "all") j9:=by refine⟨⟨_,Lx hc,λW H vs ds Q ok r hg=>?_⟩,λds P P' hp hg=>?_⟩;unfold j9 at hg;split at hg;obtain⟨bs,rfl,q⟩:=hg;obtain⟨v,rfl,rv⟩:=r.one;obtain⟨p,us,rfl,h1,rr⟩:=rv.sql ok;rw[FP rr]at h1;exact⟨p,bs,rfl,h1,q.now ok<|.bl _⟩;exact hg.elim;unfold j9 at hg ⊢;split at hg;obtain⟨bs,e,q⟩:=hg;exact⟨bs,e,hp _ q⟩;exact hg.elim
end
section
variable{W:Wd}
theorem SOk.set(s:SOk K W0 H0 W σ H ρ){i:Nat}{v:V}{x:D}(r:Rep K W v x):SOk K W0 H0 W (σ.set i<|some v) H (ρ.set i<|.d x) where
 ext:=s.ext
 len:=by rw[dN,dN];exact s.len
 d:=λj y e=>by by_cases h:i=j;subst h;by_cases hi:i<ρ.length;rw[dW hi]at e;cases e;exact⟨v,dW (by rw[<-s.len];exact hi),r⟩;rw[eA (by rw[dN];omega)]at e;cases e;rw[df h]at e ⊢;exact s.d j y e
 o:=λj ys e=>by by_cases h:i=j;subst h;by_cases hi:i<ρ.length;rw[dW hi]at e;cases e;rw[eA (by rw[dN];omega)]at e;cases e;rw[df h]at e ⊢;exact s.o j ys e
 ne:=λj k xs ys a hjk e1 e2 e3=>by
  have nj:i≠j:=λh=>by subst h;by_cases hi:i<ρ.length;rw[dW hi]at e1;cases e1;rw[eA (by rw[dN];omega)]at e1;cases e1
  have nk:i≠k:=λh=>by subst h;by_cases hi:i<ρ.length;rw[dW hi]at e2;cases e2;rw[eA (by rw[dN];omega)]at e2;cases e2
  rw[df nj]at e1 e3;rw[df nk]at e2 ⊢;exact s.ne j k xs ys a hjk e1 e2 e3
 oo:=s.oo.set (λ_ h=>by cases h) (λj h=>df h) λ_ _ h=>by cases h
theorem SOk.own(s1:SOk K W0 H0 W1 σ H1 ρ)(x:Ext W1 H1 W H){a:Addr}(hz:H1 a=none)(h1:H a=some (.lst vs))(h2:W.G a=none)(h3:¬W.Pn a)(r:Reps K W vs xs):SOk K W0 H0 W (σ.set i<|some<|.ref a) H (ρ.set i<|.ow xs):=by
 have s:=s1.step x;have h4:H0 a=none:=s1.ext.isN hz;have hn:∀(j:Nat) ys b,j≠i->ρ[j]? = some (SV.ow ys)->σ[j]? = some (some<|V.ref b)->b≠a:=λj ys b _ ej eb q=>by obtain⟨b',us,q1,q2,_⟩:=s1.o j ys ej;rw[eb]at q1;cases q1;rw[q,hz]at q2;cases q2
 exact{
  ext:=s.ext
  len:=by rw[dN,dN];exact s.len
  d:=λj y e=>by
    by_cases h:i=j
    · subst h
      by_cases hi:i<ρ.length
      · rw[dW hi]at e;cases e
      · rw[eA (by rw[dN];omega)]at e;cases e
    · rw[df h]at e ⊢;exact s.d j y e
  o:=λj ys e=>by
    by_cases h:i=j
    · subst h
      by_cases hi:i<ρ.length
      · rw[dW hi]at e
        cases e;exact⟨a,vs,dW (by rw[<-s.len];exact hi),h1,h2,h3,h4,r⟩
      · rw[eA (by rw[dN];omega)]at e;cases e
    · rw[df h]at e ⊢;exact s.o j ys e
  ne:=λj k ys zs b hjk e1 e2 e3 e4=>by
    by_cases hj:i=j
    · subst hj
      by_cases hi:i<ρ.length
      · rw[dW (by rw[<-s.len];exact hi)]at e3
        cases e3;rw[df hjk]at e2 e4;exact hn k zs _ (Qq hjk) e2 e4 rfl
      · rw[eA (by rw[dN];omega)]at e1;cases e1
    · by_cases hk:i=k
      · subst hk
        by_cases hi:i<ρ.length
        · rw[dW (by rw[<-s.len];exact hi)]at e4
          cases e4;rw[df hj]at e1 e3;exact hn j ys _ (Qq hj) e1 e3 rfl
        · rw[eA (by rw[dN];omega)]at e2;cases e2
      · rw[df hj]at e1 e3
        rw[df hk]at e2 e4;exact s.ne j k ys zs b hjk e1 e2 e3 e4
  oo:=by
    refine⟨λj xss e=>?_,λj k xss yss e1 e2=>?_⟩
    · have h:i≠j:=λh=>by
        subst h
        by_cases hi:i<ρ.length
        · rw[dW hi]at e;cases e
        · rw[eA (by rw[dN];omega)]at e;cases e
      rw[df h]at e;obtain⟨a',bs,e1,q,n⟩:=s1.oo.t j xss e;refine⟨a',bs,by rw[df h];exact e1,q.step x,λk ys c ek ec=>?_⟩
      by_cases hk:i=k
      · subst hk
        by_cases hi:i<ρ.length
        · rw[dW (by rw[<-s.len];exact hi)]at ec
          cases ec;exact q.here hz
        · rw[eA (by rw[dN];omega)]at ek;cases ek
      · rw[df hk]at ek ec
        exact n k ys c ek ec
    · have g:∀ {j:Nat} {xss:List Rc},(ρ.set i<|.ow xs)[j]? = some (SV.oo xss)->ρ[j]? = some (SV.oo xss):=fun {j xss} e=>by
        by_cases h:i=j
        · subst h
          by_cases hi:i<ρ.length
          · rw[dW hi]at e;cases e
          · rw[eA (by rw[dN];omega)]at e;cases e
        · rw[df h]at e;exact e
      exact s.oo.u j k xss yss (g e1) (g e2) }
noncomputable def pub(i:Nat)(ρ:cV):cV:=match ρ[i]? with
 |some (.ow xs)=>ρ.set i<|.d (.lst xs)
 |_=>ρ
theorem SOk.pub(s:SOk K W0 H0 W σ H ρ)(i:Nat):∃W',SOk K W0 H0 W' σ H (LP.pub i ρ)/\Wle W W':=by
 unfold LP.pub;split;rename_i xs e;obtain⟨a,vs,e1,e2,e3,e4,e5,r⟩:=s.o i xs e;have hi:i<ρ.length:=(Yaq.mp e).1;refine⟨W.put a<|.lst vs,⟨s.ext.pub e5 e2 e4 e3,by rw[dN];exact s.len,λj y ej=>?_,λj ys ej=>?_,λj k ys zs b hjk ej ek e6=>?_,?_⟩,⟨qf e3,λ_ z=>z⟩⟩;by_cases h:i=j;subst h;rw[dW hi]at ej;cases ej;exact⟨_,e1,.lst (by unfold Wd.put;dsimp only;rw[aP])<|r.mono (qf e3) λ_ z=>z⟩;rw[df h]at ej;obtain⟨v,q1,q2⟩:=s.d j y ej;exact⟨v,q1,q2.mono (qf e3) λ_ z=>z⟩;have h:i≠j:=λh=>by subst h;rw[dW hi]at ej;cases ej
 rw[df h]at ej;obtain⟨b,us,q1,q2,q3,q4,q5,rr⟩:=s.o j ys ej;have hba:b≠a:=λz=>s.ne i j xs ys a h e ej e1 (by rw[<-z];exact q1);refine⟨b,us,q1,q2,?_,q4,q5,rr.mono (qf e3) λ_ z=>z⟩;unfold Wd.put;dsimp only;rw[aI hba];exact q3;have h:i≠j:=λh=>by subst h;rw[dW hi]at ej;cases ej
 have h':i≠k:=λh=>by subst h;rw[dW hi]at ek;cases ek
 rw[df h]at ej;rw[df h']at ek;exact s.ne j k ys zs b hjk ej ek e6;exact OOs.set ⟨λj xss ej=>let⟨a',bs,q1,q,n⟩:=s.oo.t j xss ej;⟨a',bs,q1,q.put (n i xs a e e1) e3,n⟩,s.oo.u⟩ (λ_ h=>by cases h) (λ_ _=>rfl) λ_ _ h=>by cases h
 exact⟨W,s,.refl W⟩
theorem SOk.chg(s:SOk K W0 H0 W σ H ρ){i:Nat}{a:Addr}{xs ys:Rc}{us:Rg}(e:ρ[i]? = some (.ow xs))(e1:σ[i]? = some (some<|.ref a))(r:Reps K W us ys):SOk K W0 H0 W σ (upd H a<|.lst us) (ρ.set i<|.ow ys):=by
 obtain⟨a',vs,q1,q2,q3,q4,q5,rr⟩:=s.o i xs e;rw[e1]at q1;cases q1;have hi:i<ρ.length:=(Yaq.mp e).1;refine⟨s.ext.chg q5 q2 q4 q3,by rw[dN];exact s.len,λj y ej=>?_,λj zs ej=>?_,λj k ys' zs b hjk ej ek e6=>?_,OOs.set ⟨λj xss ej=>let⟨a',bs,p1,q,n⟩:=s.oo.t j xss ej;⟨a',bs,p1,q.upd<|n i xs a e e1,n⟩,s.oo.u⟩ (λ_ h=>by cases h) (λ_ _=>rfl) λys c _ ec j xss a' bs _ ej ea _ n=>n i xs c e ec⟩;have h:i≠j:=λh=>by subst h;rw[dW hi]at ej;cases ej
 rw[df h]at ej;exact s.d j y ej;by_cases h:i=j;subst h;rw[dW hi]at ej;cases ej;exact⟨a,us,e1,aP,q3,q4,q5,r⟩;rw[df h]at ej;obtain⟨b,ws,p1,p2,p3,p4,p5,pr⟩:=s.o j zs ej;have hba:b≠a:=λz=>s.ne i j xs zs a h e ej e1 (by rw[<-z];exact p1);exact⟨b,ws,p1,by rw[aI hba];exact p2,p3,p4,p5,pr⟩;by_cases h:i=j;subst h;rw[df hjk]at ek;exact s.ne i k xs zs b hjk e ek e6;rw[df h]at ej;by_cases h':i=k;subst h';intro z;exact s.ne i j xs ys' b h e ej z e6;rw[df h']at ek;exact s.ne j k ys' zs b hjk ej ek e6
end
section
variable{rest:List Stmt}{a b:Expr}
def cW:WS:=λ_ N ρ=>N.nx ρ
def aL(z z':WS):WS:=λE N ρ=>z E { N with nx:=z' E N } ρ
theorem Nds.le_nx{N':Nds}(h:N.le N'){n n':cV->Prop}(hn:∀ρ,n ρ->n' ρ):Nds.le { N with nx:=n } { N' with nx:=n' }:=⟨hn,h.rt,h.bk,h.ct⟩
theorem dH:iy X EX [] cW:=⟨⟨_,qG,λ_ _ _ W σ H ρ _ Dn N s fl _ no h=>no.nx W σ H ρ s fl h⟩,λ_ _ _ _ hl h=>hl.nx _ h⟩
theorem aV(h1:PZ X EX st z)(h2:iy X EX rest z'):iy X EX (st::rest) (aL z z'):=by obtain⟨t1,p1,k1⟩:=h1.t;obtain⟨t2,p2,k2⟩:=h2.t;refine⟨⟨_,jX p1 p2,λW0 H0 F W σ H ρ E Dn N s fl eo no h=>?_⟩,λE ρ N N' hl h=>h1.mono _ _ _ _ (Nds.le_nx hl λρ' h'=>h2.mono _ _ _ _ hl h') h⟩;exact k1 W0 H0 F W σ H ρ E _ { N with nx:=z' E N } s fl eo ⟨λW1 σ1 H1 ρ1 s1 f1 hn=>k2 W0 H0 F W1 σ1 H1 ρ1 E Dn N s1 f1 eo no hn,no.rt,no.bk,no.ct⟩ h
theorem aX(h1:PZ X EX st z):iy X EX [st] z:=by obtain⟨t1,p1,k1⟩:=h1.t;exact⟨⟨_,eX p1,k1⟩,h1.mono⟩
def bM(i:Nat)(z:WS):WS:=λE N ρ=>z E N<|pub i ρ
theorem gz(i:Nat)(h:iy X EX sts z):iy X EX sts (bM i z):=by obtain⟨t,p,k⟩:=h.t;refine⟨⟨t,p,λW0 H0 F W σ H ρ E Dn N s fl eo no h=>?_⟩,λE ρ N N' hl q=>h.mono _ _ _ _ hl q⟩;obtain⟨W',s',f'⟩:=s.pub i;exact k W0 H0 F W' σ H _ E Dn N s' (fl.trans f') eo no h
theorem C9:iy X EX sts (λ_ _ _=>False):=⟨⟨_,lY,λ_ _ _ _ _ _ _ _ _ _ _ _ _ _ h=>h.elim⟩,λ_ _ _ _ _ h=>h⟩
def gF(w:WE):WS:=λE N ρ=>w E ρ λ_=>N.nx ρ
theorem qX(he:PX X EX e w)(hs:{swapsWith e none pos.line X.env=pure false}):PZ X EX (.Expr e pos) (gF w):=by obtain⟨t,p,k⟩:=he.t;refine⟨⟨_,jt p hs,λW0 H0 F W σ H ρ E Dn N s fl eo no h=>?_⟩,λE ρ N N' hl q=>he.mono _ _ _ _ (λ_=>hl.nx ρ) q⟩;exact k W0 H0 W σ H ρ E _ s eo<|he.mono _ _ _ _ (λd hd v W1 H1 x1 r1=>no.nx W1 σ H1 ρ (s.step x1) (fl.ext x1) hd) h
def aN(w:WE):WS:=λE N ρ=>w E ρ N.rt
theorem bJ(he:PX X EX e w):PZ X EX (.Return (some e) pos) (aN w):=by obtain⟨t,p,k⟩:=he.t;refine⟨⟨_,kN p,λW0 H0 F W σ H ρ E Dn N s fl eo no h=>?_⟩,λE ρ N N' hl q=>he.mono _ _ _ _ hl.rt q⟩;exact k W0 H0 W σ H ρ E _ s eo<|he.mono _ _ _ _ (λd hd v W1 H1 x1 r1=>no.rt d v W1 H1 (s.ext.trans x1) r1 hd) h
def cR(w:WT)(z z':WS):WS:=λE N ρ=>w E ρ λb=>if b=true then z E N ρ else z' E N ρ
theorem dI{w:WT}{as bs:List Stmt}(hc:j7 X EX c w)(ha:iy X EX as z)(hb:iy X EX bs z'):PZ X EX (.If c as bs pos) (cR w z z'):=by
 obtain⟨t,p,k⟩:=hc.t;obtain⟨ta,pa,ka⟩:=ha.t;obtain⟨tb,pb,kb⟩:=hb.t;refine⟨⟨_,wd p pa pb,λW0 H0 F W σ H ρ E Dn N s fl eo no h=>?_⟩,λE ρ N N' hl q=>hc.mono _ _ _ _ (λb hb'=>?_) q⟩;refine k W0 H0 W σ H ρ E _ s eo (hc.mono _ _ _ _ (λb hb' W1 H1 x1=>?_) h);cases b with
 |true=>rw[ks rfl]at hb' ⊢;exact ka W0 H0 F W1 σ H1 ρ E Dn N (s.step x1) (fl.ext x1) eo no hb'|false=>rw[fz<|F4]at hb' ⊢;exact kb W0 H0 F W1 σ H1 ρ E Dn N (s.step x1) (fl.ext x1) eo no hb'
 cases b with
 |true=>rw[ks rfl]at hb' ⊢;exact ha.mono _ _ _ _ hl hb'|false=>rw[fz<|F4]at hb' ⊢;exact hb.mono _ _ _ _ hl hb'
def aR(i:Nat)(w:WE):WS:=λE N ρ=>w E ρ λx=>N.nx<|ρ.set i (.d x)
theorem cB(i:Nat)(he:PX X EX e w)(hN:X.N.Nodup)(hi:{X.N[i]? = some x})(hx:autoParam (lC X.env.scope x) Rl._auto_1)(hs:{swapsWith e (some<|.Name x pos') pos.line X.env=pure false})
  (hf:autoParam (Q8 X x) Ri._auto_1):PZ X EX (.Assign [.Name x pos'] e pos) (aR i w):=by
 obtain⟨t,p,k⟩:=he.t;refine⟨⟨_,jw hN hi hx p hs hf,λW0 H0 F W σ H ρ E Dn N s fl eo no h=>?_⟩,λE ρ N N' hl q=>he.mono _ _ _ _ (λ_=>hl.nx _) q⟩;exact k W0 H0 W σ H ρ E _ s eo<|he.mono _ _ _ _ (λd hd v W1 H1 x1 r1=>no.nx W1 _ H1 _ ((s.step x1).set r1) (fl.ext x1) hd) h
def bX(i:Nat)(t:WA):WS:=λE N ρ=>t E ρ λxs=>N.nx<|ρ.set i (.ow xs)
theorem qj(i:Nat){t:WA}(he:PXL X EX e t)(hN:X.N.Nodup)(hi:{X.N[i]? = some x})(hx:autoParam (lC X.env.scope x) Rl._auto_1)(hs:{swapsWith e (some<|.Name x pos') pos.line X.env=pure false})
  (hf:autoParam (Q8 X x) Ri._auto_1):PZ X EX (.Assign [.Name x pos'] e pos) (bX i t):=by
 obtain⟨t,p,k⟩:=he.t;refine⟨⟨_,jw hN hi hx p hs hf,λW0 H0 F W σ H ρ E Dn N s fl eo no h=>?_⟩,λE ρ N N' hl q=>he.mono _ _ _ _ (λ_=>hl.nx _) q⟩;refine k W0 H0 W σ H ρ E _ s eo<|he.mono _ _ _ _ (λxs hd a vs W1 H1 x1 e1 e2 e3 e4 r1=>no.nx W1 _ H1 _ (s.own x1 e4 e1 e2 e3 r1) (fl.ext x1) hd) h
end
def qY(K:Qh)(W:Wd)(J:It)(ds:Rc):Prop:=
 ∀W2 H2 (i:Nat),(∀a o,W.G a=some o->W2.G a=some o)->(∀a,W.Pn a->W2.Pn a)->WOk W2 H2->
  (∀d,ds[i]? = some d->J.go i H2/\∀x H3,J.yld i H2 x H3->∃W3,Ext W2 H2 W3 H3/\Rep K W3 x d)/\(ds.length<=i->J.stop i H2)
structure lN(X:Cx)(EX:XK)(tg iter:Expr)(w:WA):Prop where
 t:∃t,PI X tg iter t/\∀W0 H0 W σ H ρ E R,SOk X.K W0 H0 W σ H ρ->jN X.K W0 H0 E EX->w E ρ (λds=>∀W' H' J,Ext W H W' H'->qY X.K W' J ds->R J H')->t σ H R
 mono:∀E ρ P P',(∀d,P d->P' d)->w E ρ P->w E ρ P'
section
variable{a b:Expr}
def isL(Q:Rc->Prop):D->Prop
 |.lst xs=>Q xs|_=>False
theorem Da{Q:Rc->Prop}(h:isL Q d):∃xs,d=.lst xs/\Q xs:=by
 cases d with
 |lst xs=>exact⟨xs,rfl,h⟩|_=>exact h.elim
theorem isL.mono{Q:Rc->Prop}(h:∀b,Q b->Q' b):∀d,isL Q d->isL Q' d:=λd z=>by obtain⟨xs,rfl,q⟩:=Da z;exact h _ q
def An(Q:Rc->Prop):D->Prop
 |.tup xs=>Q xs|_=>False
def iL(w:WE):WA:=λE ρ Q=>w E ρ<|isL Q
def iT(w:WE):WA:=λE ρ Q=>w E ρ<|An Q
noncomputable def rng(lo:Int)(n:Nat):Rc:=(List.range n).map λ(k:Nat)=>D.int<|lo+k
theorem FQ{W:Wd}(lo:Int)(n:Nat):qY K W (wq lo n) (rng lo n):=by
 intro W2 H2 i g2 p2 ok2;refine⟨λd hd=>?_,λhi=>?_⟩;unfold rng at hd;rw[cH]at hd;by_cases hi:i<n;rw[iX hi]at hd;cases hd;refine⟨hi,λx H3 y=>?_⟩;obtain⟨rfl,rfl⟩:=y;exact⟨W2,.refl ok2,.int _⟩;rw[eA<|by simpa using hi]at hd;cases hd;have:(rng lo n).length=n:=by unfold rng;simp
 rw[this]at hi;exact hi
def i1(Q:Rc->Prop):Rc->Prop
 |[.int j]=>-10000<=j/\j<10000/\Q (rng 0 j.toNat)|_=>False
def i2(Q:Rc->Prop):Rc->Prop
 |[.int i,.int j]=>(-10000<=i/\i<10000/\-10000<=j/\j<10000)/\Q (rng i (j-i).toNat)|_=>False
theorem i1.mono{Q:Rc->Prop}(h:∀b,Q b->Q' b):∀d,i1 Q d->i1 Q' d:=λd z=>by unfold i1 at z ⊢;split at z;exact⟨z.1,z.2.1,h _ z.2.2⟩;exact z.elim
theorem i2.mono{Q:Rc->Prop}(h:∀b,Q b->Q' b):∀d,i2 Q d->i2 Q' d:=λd z=>by unfold i2 at z ⊢;split at z;exact⟨z.1,h _ z.2⟩;exact z.elim
def fD(t:WA):WA:=λE ρ Q=>t E ρ<|i1 Q
def ig(t:WA):WA:=λE ρ Q=>t E ρ<|i2 Q
theorem kF{t:WA}(hm:X.mg "range" = none)(ha:jb X EX [a] t)(hg:{Gl X "range"})(hs:{starEach [a] X.env=[(false,eval a X.env)]}):lN X EX tg (.Call (.Name "range" p) [a] [] pos) (fD t):=by
 obtain⟨t,q,k⟩:=ha.t;refine⟨⟨_,lZ hg hm q hs,λW0 H0 W σ H ρ E R s eo h=>?_⟩,λE ρ P P' hp h=>ha.mono _ _ _ _ (i1.mono hp) h⟩;refine k W0 H0 W σ H ρ E _ s eo<|ha.mono _ _ _ _ (λds hd vs W1 H1 x1 r1=>?_) h;unfold i1 at hd;split at hd
 obtain⟨v,rfl,rv⟩:=r1.one;cases rv;exact⟨_,rfl,E8,E8,hd.2.2 W1 H1 _ x1<|FQ _ _⟩;exact hd.elim
theorem vt{t:WA}(hm:X.mg "range" = none)(ha:jb X EX [a,b] t)(hg:{Gl X "range"})(hs:{starEach [a,b] X.env=[(false,eval a X.env),(false,eval b X.env)]})(hs2:{starEach [b] X.env=[(false,eval b X.env)]}) :
  lN X EX tg (.Call (.Name "range" p) [a,b] [] pos) (ig t):=by
 obtain⟨t,q,k⟩:=ha.t;refine⟨⟨_,l3 hg hm q hs hs2,λW0 H0 W σ H ρ E R s eo h=>?_⟩,λE ρ P P' hp h=>ha.mono _ _ _ _ (i2.mono hp) h⟩;refine k W0 H0 W σ H ρ E _ s eo<|ha.mono _ _ _ _ (λds hd vs W1 H1 x1 r1=>?_) h;unfold i2 at hd;split at hd
 .obtain⟨v,u,rfl,rv,ru⟩:=r1.two
  cases rv;cases ru;exact⟨_,_,rfl,⟨E8,E8,E8,E8⟩,hd.2 W1 H1 _ x1<|FQ _ _⟩
 .exact hd.elim
end
abbrev WG:=D->cV->(cV->Prop)->Prop
variable{g:WG}
def Zie(ρ:cV):Prop:=∀(i:Nat),(∀xs,ρ[i]?≠some (SV.ow xs))/\∀xss,ρ[i]?≠some (SV.oo xss)
structure pS(X:Cx)(tg:Expr)(g:WG):Prop where
 t:∃t,PG X tg t/\∀W0 H0 W σ H ρ d v Q,SOk X.K W0 H0 W σ H ρ->Rep X.K W v d->g d ρ (λρ'=>∀σ',SOk X.K W0 H0 W σ' H ρ'->Q σ' H)->t v σ H Q
 mono:∀d ρ P P',(∀r,P r->P' r)->g d ρ P->g d ρ P'
 own:∀d ρ P,Zie ρ->g d ρ P->g d ρ (λr=>Zie r/\P r)
section
theorem Zie.set{ρ:cV}(h:Zie ρ)(i:Nat)(d:D):Zie (ρ.set i<|.d d):=λj=>by by_cases hj:i=j;subst hj;by_cases hi:i<ρ.length;rw[dW hi];exact⟨λ_ e=>(by cases e),λ_ e=>(by cases e)⟩;rw[eA (by rw[dN];omega)];exact⟨λ_ e=>(by cases e),λ_ e=>(by cases e)⟩;rw[df hj];exact h j
def gN(i:Nat):WG:=λd ρ k=>k<|ρ.set i (.d d)
theorem bY(i:Nat)(hN:X.N.Nodup)(hi:{X.N[i]? = some x})(hx:autoParam (lC X.env.scope x) Rl._auto_1)(hf:autoParam (Q8 X x) Ri._auto_1) :
  pS X (.Name x pos) (gN i):=
 ⟨⟨_,lE hN hi hx hf,λW0 H0 W σ H ρ d v Q s r h=>h _<|s.set r⟩,λd ρ P P' hp h=>hp _ h,λd ρ P ho h=>⟨ho.set i d,h⟩⟩
theorem Rh{i:Nat}(hd:{decide X.N.Nodup=true})(hi:{X.N[i]? = some x})(hx:autoParam (lC X.env.scope x) Rl._auto_1)(hf:autoParam (Q8 X x) Ri._auto_1) :
  pS X (.Name x pos) (gN i):=bY i (of_decide_eq_true hd) hi hx hf
end
noncomputable def ZbP(nv:Nat)(sel:Q6)(ρ:cV):cV:=List.replicate nv .un++sel.map λj=>match ρ[j]? with|some (.d x)=>.d x|_=>.un
theorem ZbP.own(nv:Nat)(sel:Q6)(ρ:cV):Zie (ZbP nv sel ρ):=λi=>by
 have key:∀sv,(ZbP nv sel ρ)[i]? = some sv->sv=.un\/∃x,sv=.d x:=λsv e=>by
  unfold ZbP at e;rcases eV i nv with h|h
  rw[kJ<|by simpa using h,mQ]at e;rw[ks h]at e;cases e;exact .inl rfl;rw[jR<|by simpa using h,cH]at e;cases q:sel[i-(List.replicate nv SV.un).length]? with
  |none=>rw[q]at e;cases e
  |some j=>rw[q]at e;have e':=Qk e;dsimp only at e';split at e';exact .inr ⟨_,e'.symm⟩;exact .inl e'.symm
 refine⟨λxs e=>?_,λxs e=>?_⟩;rcases key _ e with z|⟨x,z⟩<;>cases z
 rcases key _ e with z|⟨x,z⟩<;>cases z
def No:Ex->Prop:=λ_=>False
def lcW(g:WG)(wf:WT)(we:WE):Rc->cV->Rc->(Rc->Prop)->Prop
 |[],_,acc,Q=>Q acc|d::ds,ρ,acc,Q=>g d ρ λρ2=>wf No ρ2 λb=>if b=true then we No ρ2 λy=>acc.length<aO/\lcW g wf we ds ρ2 (acc++[y]) Q else lcW g wf we ds ρ2 acc Q
structure sf(X:Cx)(EX:XK)(ifs:List Expr)(w:WT):Prop where
 t:∃t,PF X ifs t/\∀W0 H0 W σ H ρ E Q,SOk X.K W0 H0 W σ H ρ->jN X.K W0 H0 E EX->w E ρ (λb=>∀W' H',Ext W H W' H'->Q b H')->t σ H Q
 mono:∀E ρ P P',(∀d,P d->P' d)->w E ρ P->w E ρ P'
def cX:WT:=λ_ _ Q=>Q true
section
theorem eQ:sf X EX [] cX:=⟨⟨_,JZ,λ_ _ W _ H _ _ _ s _ h=>h W H<|.refl s.ok⟩,λ_ _ _ _ hp h=>hp _ h⟩
theorem Db(h:j7 X EX c wf):sf X EX [c] wf:=let⟨t,q,k⟩:=h.t;⟨⟨t,J0 q,k⟩,h.mono⟩
theorem lcW.mono(hg:∀d ρ P P',(∀r,P r->P' r)->g d ρ P->g d ρ P')(hf:∀E ρ P P',(∀d,P d->P' d)->wf E ρ P->wf E ρ P')(he:∀E ρ P P',(∀d,P d->P' d)->we E ρ P->we E ρ P') :
  ∀ds ρ acc P P',(∀xs,P xs->P' xs)->lcW g wf we ds ρ acc P->lcW g wf we ds ρ acc P'
 |[],_,acc,P,P',hp,h=>hp _ h
 | d::ds,ρ,acc,P,P',hp,h=>hg _ _ _ _ (λr hr=>hf _ _ _ _ (λb hb=>by
   cases b with
   |true=>rw[ks rfl]at hb ⊢;exact he _ _ _ _ (λy hy=>⟨hy.1,lcW.mono hg hf he ds r _ P P' hp hy.2⟩) hb
   |false=>rw[fz<|F4]at hb ⊢;exact lcW.mono hg hf he ds r _ P P' hp hb) hr) h
def aLC(wi:WA)(nv:Nat)(sel:Q6)(g:WG)(wf:WT)(we:WE):WA:=λE ρ Q=>wi E ρ λds=>lcW g wf we ds (ZbP nv sel ρ) [] Q
theorem aLC.mono(hi:lN X EX target iter wi)(hg:∀d ρ P P',(∀r,P r->P' r)->g d ρ P->g d ρ P')(hf:∀E ρ P P',(∀d,P d->P' d)->wf E ρ P->wf E ρ P')(he:∀E ρ P P',(∀d,P d->P' d)->we E ρ P->we E ρ P') :
  ∀E ρ P P',(∀d,P d->P' d)->aLC wi vars.length sel g wf we E ρ P->aLC wi vars.length sel g wf we E ρ P':=λE ρ P P' hp h=>hi.mono _ _ _ _ (λds hds=>lcW.mono hg hf he ds _ _ _ _ hp hds) h
theorem SOk.lc{W:Wd}(s:SOk X.K W0 H0 W σ H ρ)(nv:Nat)(sel:Q6):SOk X.K W0 H0 W (iI nv sel σ) H (ZbP nv sel ρ) where
 ext:=s.ext
 len:=by unfold ZbP iI;simp
 d:=λi x e=>by
  unfold ZbP at e;rcases eV i nv with h|h
  rw[kJ<|by simpa using h,mQ]at e;split at e<;>cases e;rw[jR<|by simpa using h,cH,qv]at e;cases q:sel[i-nv]? with
  |none=>rw[q]at e;cases e
  |some j=>rw[q]at e;have e':=Qk e;dsimp only at e';split at e';rename_i y ey;cases e';obtain⟨v,ev,r⟩:=s.d j x ey;refine⟨v,?_,r⟩;unfold iI;rw[jR<|by simpa using h,qv,cH,q];show some ((σ[j]?).getD none)=_;rw[ev];rfl;cases e'
 o:=λi xs e=>Qj e<|(ZbP.own nv sel ρ i).1 xs
 ne:=λi j xs ys a _ e=>Qj e<|(ZbP.own nv sel ρ i).1 xs
 oo:=.none λi=>(ZbP.own nv sel ρ i).2
theorem SOk.chgD{W:Wd}{a:Addr}{o':HO}(s:SOk K W0 H0 W σ H ρ)(ho:Zie ρ)(h0:H0 a=none)(h1:H a=some o)(h2:¬W.Pn a)(h3:W.G a=none):SOk K W0 H0 W σ (upd H a o') ρ:=
 ⟨s.ext.chg h0 h1 h2 h3,s.len,s.d,λi xs e=>Qj e<|(ho i).1 xs,λi j xs ys a _ e=>Qj e<|(ho i).1 xs,.none λi=>(ho i).2⟩
theorem Dc(hi:lN X EX target iter wi)(hg:∀s H fp,pS (X.lc sc vars sel s H fp) target g)(hf:∀s H fp,sf (X.lc sc vars sel s H fp) E0 ifs wf)(he:∀s H fp,PX (X.lc sc vars sel s H fp) E0 elt we) :
  ∃(ti:TI) (tg:TG) (tf:TT) (te:TE),PI X target iter ti/\(∀s H fp,PG (X.lc sc vars sel s H fp) target tg)/\(∀s H fp,PF (X.lc sc vars sel s H fp) ifs tf)/\(∀s H fp,PE (X.lc sc vars sel s H fp) elt te)/\
   ∀W0 H0 W σ H ρ E Q,SOk X.K W0 H0 W σ H ρ->jN X.K W0 H0 E EX->
    aLC wi vars.length sel g wf we E ρ (λds=>∀a vs W' H',Ext W H W' H'->H' a=some (.lst vs)->W'.G a=none->¬W'.Pn a->H a=none->Reps X.K W' vs ds->Q (.ref a) H')->Ad ti vars.length sel tg tf te σ H Q:=by
 obtain⟨ti,pi,ki⟩:=hi.t;refine ⟨ti,λv σ H Q=>∃ W0 H0 W ρ d,SOk X.K W0 H0 W σ H ρ/\Rep X.K W v d/\g d ρ (λρ'=>∀ σ',SOk X.K W0 H0 W σ' H ρ'->Q σ' H),
  λσ H Q=>∃W0 H0 W ρ,SOk X.K W0 H0 W σ H ρ/\wf No ρ (λb=>∀W' H',Ext W H W' H'->Q b H'),
  λσ H Q=>∃W0 H0 W ρ,SOk X.K W0 H0 W σ H ρ/\we No ρ (RQ X.K W H Q),pi,λs1 H1 fp=>?_,λs1 H1 fp=>?_,λs1 H1 fp=>?_,?_⟩
 .obtain⟨t,q,k⟩:=(hg s1 H1 fp).t
  rintro E1 s σ H v u Q I r ⟨W0,H0,W,ρ,d,s',r',h⟩;exact q E1 s σ H v u Q I r<|k W0 H0 W σ H ρ d v Q s' r' h
 .obtain⟨t,q,k⟩:=(hf s1 H1 fp).t
  rintro E1 s σ H Q I ⟨W0,H0,W,ρ,s',h⟩;exact q E1 s σ H Q I<|k W0 H0 W σ H ρ No Q s' (λ_ _ _ _ _ z=>z.elim) h
 .obtain⟨t,q,k⟩:=(he s1 H1 fp).t
  rintro E1 s σ H Q I ⟨W0,H0,W,ρ,s',h⟩;exact q E1 s σ H Q I<|k W0 H0 W σ H ρ No Q s' (λ_ _ _ _ _ z=>z.elim) h
 .have gm:=(hg {} (λ_=>none) []).mono
  have go:=(hg {} (λ_=>none) []).own;have fm:=(hf {} (λ_=>none) []).mono;have em:=(he {} (λ_=>none) []).mono;intro W0 H0 W σ H ρ E Q s eo h;refine ki W0 H0 W σ H ρ E _ s eo<|hi.mono _ _ _ _ (λds hds W1 H1 J x1 it D hD=>?_) h;have hDf:=x1.ok.fresh hD;have hD0:H0 D=none:=s.ext.isN<|x1.isN hD;refine ⟨λi m ys σ2 H2=>m=ds.length - i/\i<=ds.length/\∃ W2 ρ2 acc,Ext W1 H1 W2 H2/\SOk X.K W0 H0 W2 σ2 H2 ρ2/\Zie ρ2/\H2 D=some (.lst ys)/\W2.G D=none/\¬ W2.Pn D/\Reps X.K W2 ys acc/\
   lcW g wf we (ds.drop i) ρ2 acc (λds=>∀a vs W' H',Ext W H W' H'->H' a=some (.lst vs)->W'.G a=none->¬W'.Pn a->H a=none->Reps X.K W' vs ds->Q (.ref a) H'),⟨_,rfl,jT _,W1,_,[],.new x1.ok hD,?_,ZbP.own _ _ ρ,aP,hDf.1,hDf.2,.nil,by rw[sV];exact hds⟩,?_⟩
  .exact(((s.step x1).step<|.new x1.ok hD).lc vars.length sel)
  .rintro i m ys σ2 H2 ⟨rfl,hi',W2,ρ2,acc,x2,s2,no2,hD2,g2,p2,r2,q2⟩
   refine⟨hD2,?_⟩;obtain⟨itg,its⟩:=it W2 H2 i x2.g x2.p x2.ok;rcases eV i ds.length with hlt|hge
   .have hd:ds[i]? = some ds[i]:=bU hlt
    obtain⟨go',yl⟩:=itg _ hd;refine .inr ⟨go',λx H3 y=>?_⟩;obtain⟨W3,x3,r3⟩:=yl x H3 y;rw[sW hlt]at q2;have keepD:∀{W' H'},Ext W2 H2 W' H'->H' D=some (.lst ys)/\W'.G D=none/\¬W'.Pn D:=λ{W' H'} x'=>by
     refine⟨x'.h D _ hD2 p2,?_,λz=>?_⟩
     .cases q:W'.G D with|none=>rfl|some o=>have:=x'.gf D g2 (by rw[q];simp);rw[hD2]at this;cases this
     .have:=x'.pf D p2 z;rw[hD2]at this;cases this
    refine⟨W0,H0,W3,ρ2,ds[i],s2.step x3,r3,gm _ _ _ _ (λρ4 hr σ4 s4=>?_)<|go _ _ _ no2 q2⟩;obtain⟨no4,hr⟩:=hr;refine⟨W0,H0,W3,ρ4,s4,fm _ _ _ _ (λb hb W5 H5 x5=>?_) hr⟩;cases b with
    |false=>
     rw[fz<|F4]at hb ⊢;have kD:=keepD<|x3.trans x5;exact⟨ds.length-(i+1),E8,rfl,hlt,W5,ρ4,acc,x2.trans<|x3.trans x5,s4.step x5,no4,kD.1,kD.2.1,kD.2.2,(x3.trans x5).reps r2,hb⟩
    |true=>
     rw[ks rfl]at hb ⊢;refine⟨W0,H0,W5,ρ4,s4.step x5,em _ _ _ _ (λy hy v W6 H6 x6 r6=>?_) hb⟩;have xx:=x3.trans<|x5.trans x6;have kD:=keepD xx;have hl:ys.length=acc.length:=r2.length;refine⟨kD.1,by rw[hl];exact dw hy.1<|pQ<|bZ _,ds.length-(i+1),E8,rfl,hlt,W6,ρ4,acc++[y],(x2.trans xx).chg hD kD.1 kD.2.2 kD.2.1,?_,no4,aP,kD.2.1,kD.2.2,(xx.reps r2).append<|.cons r6 .nil,hy.2⟩;exact((s4.step x5).step x6).chgD no4 hD0 kD.1 kD.2.2 kD.2.1
   .have e:i=ds.length:=E8
    refine .inl ⟨its hge,?_⟩;rw[BW hge]at q2;exact q2 D ys W2 H2 (x1.trans x2) hD2 g2 p2 (x1.isN hD) r2
theorem gA(vars:Q4)(sel:Q6)(hc:X.calm=true)(hi:lN X EX target iter wi)(hg:∀s H fp,pS (X.lc sc vars sel s H fp) target g)(hf:∀s H fp,sf (X.lc sc vars sel s H fp) E0 ifs wf)(he:∀s H fp,PX (X.lc sc vars sel s H fp) E0 elt we)
  (ok:{mi sc X.env.scope=true}) (so:{rW X.N sc sel=true}) (hs:autoParam (∀x,foldedSetIterable iter X.env x=pure x) Rj._auto_1):PXL X EX (.ListComp elt [⟨target,iter,ifs,0⟩] sc pos) (aLC wi vars.length sel g wf we):=by
 obtain⟨ti,tg,tf,te,pi,pg,pf,pe,k⟩:=Dc hi hg hf he;exact⟨⟨_,wU vars sel hc pi ok so pg pf pe hs,k⟩,aLC.mono hi (hg {} (λ_=>none) []).mono (hf {} (λ_=>none) []).mono (he {} (λ_=>none) []).mono⟩
theorem uj(i:Nat)(vars:Q4)(sel:Q6)(hc:X.calm=true)(hN:X.N.Nodup)(hi:lN X EX target iter wi)(hg:∀s H fp,pS (X.lc sc vars sel s H fp) target g)(hf:∀s H fp,sf (X.lc sc vars sel s H fp) E0 ifs wf)(he:∀s H fp,PX (X.lc sc vars sel s H fp) E0 elt we)
  (hix:{X.N[i]? = some x}) (hx:autoParam (lC X.env.scope x) Rl._auto_1)
  (hsw:{swapsWith (.ListComp elt [⟨target,iter,ifs,0⟩] sc pos) (some<|.Name x pos') spos.line X.env=pure true})
  (ok:{mi sc X.env.scope=true}) (so:{rW X.N sc sel=true}) (hs:autoParam (∀x,foldedSetIterable iter X.env x=pure x) Rj._auto_1) (hfn:autoParam (Q8 X x) Ri._auto_1) :
  PZ X EX (.Assign [.Name x pos'] (.ListComp elt [⟨target,iter,ifs,0⟩] sc pos) spos) (bX i<|aLC wi vars.length sel g wf we):=by
 obtain⟨ti,tg,tf,te,pi,pg,pf,pe,k⟩:=Dc hi hg hf he;have am:=aLC.mono (vars:=vars) (sel:=sel) hi (hg {} (λ_=>none) []).mono (hf {} (λ_=>none) []).mono (he {} (λ_=>none) []).mono;refine⟨⟨_,CP vars sel hc hN hix hx pi ok so pg pf pe hsw hs hfn,λW0 H0 F W σ H ρ E Dn N s fl eo no h=>?_⟩,λE ρ N N' hl q=>am _ _ _ _ (λ_=>hl.nx _) q⟩;refine k W0 H0 W σ H ρ E _ s eo<|am _ _ _ _ (λxs hd a vs W1 H1 x1 e1 e2 e3 e4 r1=>no.nx W1 _ H1 _ (s.own x1 e4 e1 e2 e3 r1) (fl.ext x1) hd) h
def ZbA(g:WG)(zb:WS)(E:Rb)(N:Nds):Rc->cV->Prop
 |[],ρ=>N.nx ρ|d::ds,ρ=>g d ρ λρ1=>zb E { nx:=ZbA g zb E N ds,rt:=N.rt,bk:=N.nx,ct:=ZbA g zb E N ds } ρ1
def bF(wi:WA)(g:WG)(zb:WS):WS:=λE N ρ=>wi E ρ λds=>ZbA g zb E N ds ρ
theorem ZbA.mono{zb:WS}(hg:∀d ρ P P',(∀r,P r->P' r)->g d ρ P->g d ρ P')(hb:∀E ρ N N',N.le N'->zb E N ρ->zb E N' ρ){E:Rb}{N N':Nds}(hl:N.le N'):∀ds ρ,ZbA g zb E N ds ρ->ZbA g zb E N' ds ρ
 |[],ρ,h=>hl.nx _ h|d::ds,ρ,h=>hg _ _ _ _ (λr hr=>hb E r { nx:=ZbA g zb E N ds,rt:=N.rt,bk:=N.nx,ct:=ZbA g zb E N ds } _ ⟨ZbA.mono hg hb hl ds,hl.rt,hl.nx,ZbA.mono hg hb hl ds⟩ hr) h
theorem gU(hp:PassesOwn (model X.prog X.w) X.A X.env X.xe)(hc:X.calm=true)(hi:lN X EX target iter wi)(hg:pS X target g)(hb:iy X EX body zb)
  (hs:autoParam (∀x,foldedSetIterable iter X.env x=pure x) Rj._auto_1):PZ X EX (.For target iter body [] pos) (bF wi g zb):=by
 obtain⟨ti,pi,ki⟩:=hi.t;obtain⟨tg,pg,kg⟩:=hg.t;obtain⟨tb,pb,kb⟩:=hb.t;refine⟨⟨_,pp hp hc pi pg pb hs,λW0 H0 F W σ H ρ E Dn N s fl eo no h=>?_⟩,λE ρ N N' hl q=>hi.mono _ _ _ _ (λds hds=>ZbA.mono hg.mono hb.mono hl ds ρ hds) q⟩;refine ki W0 H0 W σ H ρ E _ s eo<|hi.mono _ _ _ _ (λds hds W1 H1 J x1 it=>?_) h;refine⟨λi m σ2 H2=>m=ds.length-i/\i<=ds.length/\∃W2 ρ2,SOk X.K W0 H0 W2 σ2 H2 ρ2/\Wle W1 W2/\ZbA g zb E N (ds.drop i) ρ2,⟨_,rfl,jT _,W1,ρ,s.step x1,.refl W1,by rw[sV];exact hds⟩,?_⟩;rintro i m σ2 H2 ⟨rfl,hi',W2,ρ2,s2,f2,q2⟩;obtain⟨itg,its⟩:=it W2 H2 i f2.g f2.p s2.ok;have fF:∀{V:Wd},Wle W1 V->Wle F V:=λf=>(fl.ext x1).trans f;rcases eV i ds.length with hlt|hge
 .have hd:ds[i]? = some ds[i]:=bU hlt
  obtain⟨go',yl⟩:=itg _ hd;rw[sW hlt]at q2;refine .inr ⟨go',λσ3 H3=>∃W3 ρ3,SOk X.K W0 H0 W3 σ3 H3 ρ3/\Wle W1 W3/\ZbA g zb E N (ds.drop<|i+1) ρ3,λσ3 H3 ⟨W3,ρ3,s3,f3,q3⟩=>⟨ds.length-(i+1),E8,rfl,hlt,W3,ρ3,s3,f3,q3⟩,λx H3 y=>?_⟩;obtain⟨W3,x3,r3⟩:=yl x H3 y;refine kg W0 H0 W3 σ2 H3 ρ2 ds[i] x _ (s2.step x3) r3<|hg.mono _ _ _ _ (λρ4 hr σ4 s4=>?_) q2;refine kb W0 H0 W1 W3 σ4 H3 ρ4 E _ { nx:=ZbA g zb E N<|ds.drop<|i+1,rt:=N.rt,bk:=N.nx,ct:=ZbA g zb E N (ds.drop<|i+1) } s4 (f2.ext x3) eo ⟨λW5 σ5 H5 ρ5 s5 f5 h5=>⟨W5,ρ5,s5,f5,h5⟩,no.rt,λW5 σ5 H5 ρ5 s5 f5 h5=>no.nx W5 σ5 H5 ρ5 s5 (fF f5) h5,λW5 σ5 H5 ρ5 s5 f5 h5=>⟨W5,ρ5,s5,f5,h5⟩⟩ hr
 .have e:i=ds.length:=E8
  refine .inl ⟨its hge,?_⟩;rw[BW hge]at q2;exact no.nx W2 σ2 H2 ρ2 s2 (fF f2) q2
end
def dP(N:Q4)(ds:Rc):cV:=ds.map .d++List.replicate (N.length-ds.length) .un
abbrev Rd(S:Rc->(Rb)->(Rf)->Prop)(z:WS)(N:Q4):Prop:=∀ds E Q,S ds E Q->z E { nx:=λ_=>Q .non,rt:=Q } (dP N ds)
theorem Dd{W:Wd}{N:Q4}(ok:WOk W H)(r:Reps K W vs ds):SOk K W H W (start N vs) H (dP N ds) where
 ext:=.refl ok
 len:=by unfold dP L2.start;simp[r.length]
 d:=λi x e=>by
  unfold dP at e;rcases eV i ds.length with h|h
  rw[kJ<|by simpa using h,cH]at e;cases q:ds[i]? with
  |none=>rw[q]at e;cases e
  |some y=>rw[q]at e;cases e;obtain⟨v,ev,rv⟩:=r.get q;refine⟨v,?_,rv⟩;unfold L2.start;rw[kJ (by rw[bH,r.length];exact h),cH,ev];rfl
  rw[jR<|by simpa using h,mQ]at e;split at e<;>cases e
 o:=λi xs e=>by
  unfold dP at e;rcases eV i ds.length with h|h
  rw[kJ<|by simpa using h,cH]at e;cases q:ds[i]? with
  |none=>rw[q]at e;cases e
  |some y=>rw[q]at e;cases e
  rw[jR<|by simpa using h,mQ]at e;split at e<;>cases e
 ne:=λi j xs ys a _ e=>by
  unfold dP at e;rcases eV i ds.length with h|h
  rw[kJ<|by simpa using h,cH]at e;cases q:ds[i]? with
  |none=>rw[q]at e;cases e
  |some y=>rw[q]at e;cases e
  rw[jR<|by simpa using h,mQ]at e;split at e<;>cases e
 oo:=.none λi xs e=>by
  unfold dP at e;rcases eV i ds.length with h|h
  rw[kJ<|by simpa using h,cH]at e;cases q:ds[i]? with
  |none=>rw[q]at e;cases e
  |some y=>rw[q]at e;cases e
  rw[jR<|by simpa using h,mQ]at e;split at e<;>cases e
section
variable{w:World}{base:Heap}
theorem uk{N:Q4}(F:Fun K x qual st f fd)(sc:cG N ps (aG st))(len:∀ds E Q,S ds E Q->ds.length=ps.length)
  (hbody:∀ (cdv:Value) (A:Around) (outer:List Env) (s:Shared) (H:Hp) (E:XK),Room k (A.deeper<|envOfC qual (aG st) s.heap.objs.size f cdv)->
   cF (dj P w) (c9 (dj P w) P w K mg base N qual (aG st) f cdv A outer s H E) E->jG (c9 (dj P w) P w K mg base N qual (aG st) f cdv A outer s H E) E->
   iy (c9 (dj P w) P w K mg base N qual (aG st) f cdv A outer s H E) E (bA st) z)
  (h:∀ds E Q,S ds E Q->z E { nx:=λ_=>Q .non,rt:=Q } (dP N ds)):eD P w K mg base (dj P w) (k+1) f fd ps (h9 K S):=by
 obtain⟨oc,od,kV,doc,pm,an,cdv,ct,osl,rfl,lk,hcd⟩:=F.ex;refine pH lk hcd sc (λvs H Q E hs=>?_) λA outer s H vs Q E hr hs=>?_
 .obtain⟨ds,W,_,r,hS⟩:=hs
  rw[r.length];exact len _ _ _ hS
 .obtain⟨ds,W,ok,r,hS⟩:=hs
  obtain⟨t,p,k⟩:=(hbody cdv A outer s H E hr FD FE).t;refine ⟨t,p,k W H W W (start N vs) H (dP N ds) (λex=>∀ W' H' cls dx,Ext W H W' H'->vn K W' H' cls dx ex->E cls dx H') _ { nx:=λ_=>RQ K W H Q .non,rt:=RQ K W H Q } (Dd ok r) (.refl W) (λex W' H' cls dx he x r=>he W' H' cls dx x r)
   ⟨λW1 σ1 H1 ρ1 s1 _ q=>q _ W1 H1 s1.ext .non,λd v W1 H1 x1 r1 q=>q v W1 H1 x1 r1,λ_ _ _ _ _ _ q=>q.elim,λ_ _ _ _ _ _ q=>q.elim⟩ (h ds _ _ hS)⟩
end
structure Fp(P:Program)(w:World)(K:Qh)(mg:QW)(base:Heap)(k:Nat)(x:Str)(ps:Q4)(S:bV):Prop where
 ok:∃f fd,eD P w K mg base (dj P w) k f fd ps (h9 K S)/\mg x=some (.ref f)/\PySem.W.keepIn K (.ref f)=true/\Binds K fd ps []
 mono:qh S
section
variable{t:WA}
theorem aW(G:Fp X.prog X.w X.K X.mg X.base k x ps S)(hr:Room j X.A)(hx:cF (dj X.prog X.w) X EX)(ha:jb X EX (e::es) t)(hk:(k<=j:))(hg:{Gl X x})(hdb:(Q7 x:))(he:{Q9 X e es})(hpl:{Ra X pos es}) :
  PX X EX (.Call (.Name x p) (e::es) [] pos) (wF S t):=by
 obtain⟨f,fd,F,hm,kp,hb⟩:=G.ok;exact Lm F G.mono (hr.mono hk) hm kp hb hx ha hg hdb he hpl
def bE(z:WS):WS:=λ_ N ρ=>z No N ρ
theorem gg(h:PZ X.nox E0 st z):PZ X EX st (bE z):=by obtain⟨t,p,k⟩:=h.t;refine⟨⟨t,λE1 s σ H D I hw=>Qv (p E1 s σ H D (I.wish _) hw) (λ_ _ q=>q.unwish) λ_ _ z=>Qw z,λW0 H0 F W σ H ρ E Dn N s fl eo no q=>k W0 H0 F W σ H ρ No Dn N s fl (λ_ _ _ _ _ z=>z.elim) no q⟩,λE ρ N N' hl q=>h.mono _ _ _ _ hl q⟩
end
section
variable{a b:Expr}
def isS(Q:Rc->Prop):D->Prop
 |.lst xs=>Q xs|.tup xs=>Q xs|_=>False
theorem isS.mono{Q:Rc->Prop}(h:∀b,Q b->Q' b):∀d,isS Q d->isS Q' d:=λd z=>by cases d<;>first|exact h _ z|exact z
def iS(w:WE):WA:=λE ρ Q=>w E ρ<|isS Q
theorem fV(he:PX X EX e w):lN X EX tg e (iS w):=by
 obtain⟨t,q,k⟩:=he.t;refine⟨⟨_,Kj q,λW0 H0 W σ H ρ E R s eo h=>?_⟩,λE ρ P P' hp h=>he.mono _ _ _ _ (isS.mono hp) h⟩;refine k W0 H0 W σ H ρ E _ s eo<|he.mono _ _ _ _ (λd hd v W1 H1 x1 r1=>?_) h;have keyT:∀{l:Addr} {vs:Rg} {xs:Rc},(∀W' H' J,Ext W H W' H'->qY X.K W' J xs->R J H')->(∀W2 H2,(∀a o,W1.G a=some o->W2.G a=some o)->WOk W2 H2->SqT X.K H2 l vs)->Reps X.K W1 vs xs->(∃ys,SqT X.K H1 l ys)/\R (Cz X.K l) H1:=by intro l vs xs hq sq rr;refine⟨⟨vs,sq W1 H1 (λ_ _ z=>z) x1.ok⟩,hq W1 H1 _ x1 λW2 H2 i g2 p2 ok2=>⟨λd hd=>?_,λhi=>⟨vs,sq W2 H2 g2 ok2,by rw[rr.length];exact hi⟩⟩⟩;obtain⟨v,ev,rv⟩:=rr.get hd;refine⟨⟨vs,v,sq W2 H2 g2 ok2,ev⟩,λx H3 y=>?_⟩;obtain⟨rfl,y⟩:=y;have:=y vs<|sq W2 _ g2 ok2;rw[ev]at this;cases this;exact⟨W2,.refl ok2,rv.mono g2 p2⟩
 cases r1 with
 | @lst l vs xs e1 rr=>have hq:∀W' H' J,Ext W H W' H'->qY X.K W' J xs->R J H':=hd;refine⟨l,rfl,.inl ⟨⟨vs,SqL.of<|x1.ok.g _ _ e1⟩,hq W1 H1 _ x1 λW2 H2 i g2 p2 ok2=>⟨λd hd=>?_,λhi=>⟨vs,SqL.of<|ok2.g _ _<|g2 _ _ e1,by rw[rr.length];exact hi⟩⟩⟩⟩;obtain⟨v,ev,rv⟩:=rr.get hd;have sq:SqL X.K H2 l vs:=SqL.of<|ok2.g _ _ (g2 _ _ e1);refine⟨⟨vs,v,sq,ev⟩,λx H3 y=>?_⟩;obtain⟨rfl,y⟩:=y;have:=y vs sq;rw[ev]at this;cases this;exact⟨W2,.refl ok2,rv.mono g2 p2⟩
 |tup e1 rr=>exact⟨_,rfl,.inr<|keyT hd (λW2 H2 g2 ok2=>SqT.of<|ok2.g _ _<|g2 _ _ e1) rr⟩|ktup e1 rr=>exact⟨_,rfl,.inr<|keyT hd (λW2 H2 g2 ok2=>.inr e1) rr⟩|non=>exact hd.elim|bl _=>exact hd.elim|int _=>exact hd.elim|str _=>exact hd.elim|dic _=>exact hd.elim|pen _=>exact hd.elim|cls _=>exact hd.elim|exc _ _=>exact hd.elim|ty _=>exact hd.elim|pl _=>exact hd.elim|scr _ _=>exact hd.elim
theorem my{T:String}(hm:X.mg x=none)(hv:bootBuiltins x=some (.type T))(hg:{Gl X x})(hn:(x≠ "__name__":))(hd:(Q7 x:)):PX X EX (.Name x pos) (wC<|.ty T):=
 Lh (v:=.ty T) hm hv rfl (λ_=>.ty T) hg hn hd
theorem Ly{i:Int}{t:Tok}(hm:X.mg x=some (.int i t))(hg:{Gl X x})(hd:(Q7 x:)):PX X EX (.Name x pos) (wC<|.int i):=
 C2 (v:=.int i) hm ⟨t,rfl⟩ (λ_=>.int i) hg hd
theorem Lz{a:Addr}(hm:X.mg x=some (.ref a))(hk:KT X.K a vs)(hr:∀W,Reps X.K W vs ds)(hg:{Gl X x})(hd:(Q7 x:)):PX X EX (.Name x pos) (wC<|.tup ds):=
 C2 (v:=.ref a) hm rfl (λW=>.ktup hk<|hr W) hg hd
end
theorem LA{neg:Bool}{i j:Int}(h:Q (.bl (if neg then !(i==j) else i==j))):gEq neg (.int i) (.int j) Q:=by refine⟨.int i,.int j,rfl,rfl,rfl,rfl,?_⟩;exact h
theorem kZ{neg:Bool}{i j:Int}:gEq neg (.int i) (.int j) Q↔Q (.bl (if neg then !(i==j) else i==j)):=
 ⟨λ⟨p,q,h1,h2,_,_,h⟩=>by cases h1;cases h2;exact h,LA⟩
section
variable{a b:Expr}
abbrev um:=Rc->cV->(cV->Prop)->Prop
structure qZ(X:Cx)(ts:List Expr)(g:um):Prop where
 t:∃t,wg X ts t/\∀W0 H0 W σ H ρ ds vs Q,SOk X.K W0 H0 W σ H ρ->Reps X.K W vs ds->g ds ρ (λρ'=>∀σ',SOk X.K W0 H0 W σ' H ρ'->Q σ' H)->t vs σ H Q
 mono:∀d ρ P P',(∀r,P r->P' r)->g d ρ P->g d ρ P'
 own:∀d ρ P,Zie ρ->g d ρ P->g d ρ (λr=>Zie r/\P r)
def et:um:=λds ρ k=>match ds with|[]=>k ρ|_=>False
def c7(g:WG)(gs:um):um:=λds ρ k=>match ds with
 |d::ds=>g d ρ λρ'=>gs ds ρ' k
 |_=>False
theorem ke:qZ X [] et:=by
 refine⟨⟨_,lF,λW0 H0 W σ H ρ ds vs Q s r h=>?_⟩,λd ρ P P' hp h=>?_,λd ρ P ho h=>?_⟩;cases r with
 |nil=>exact⟨rfl,h σ s⟩|cons _ _=>exact h.elim
 cases d with
 |nil=>exact hp _ h|cons _ _=>exact h.elim
 cases d with
 |nil=>exact⟨ho,h⟩|cons _ _=>exact h.elim
theorem eZ{gs:um}(h1:pS X e g)(h2:qZ X es gs)(hs:{(assignEach (e::es) X.env).map (·.2)=assign e X.env::(assignEach es X.env).map (·.2)}):qZ X (e::es) (c7 g gs):=by
 obtain⟨t1,p1,k1⟩:=h1.t;obtain⟨t2,p2,k2⟩:=h2.t;refine⟨⟨_,hU p1 p2 hs,λW0 H0 W σ H ρ ds vs Q s r h=>?_⟩,λd ρ P P' hp h=>?_,λd ρ P ho h=>?_⟩;cases r with
 |nil=>exact h.elim|cons r rr=>exact⟨_,_,rfl,k1 W0 H0 W σ H ρ _ _ _ s r<|h1.mono _ _ _ _ (λρ' h' σ' s'=>k2 W0 H0 W σ' H ρ' _ _ Q s' rr h') h⟩
 cases d with
 |nil=>exact h.elim|cons d ds=>exact h1.mono _ _ _ _ (λr hr=>h2.mono _ _ _ _ hp hr) h
 cases d with
 |nil=>exact h.elim|cons d ds=>exact h1.mono _ _ _ _ (λr hr=>h2.own _ _ _ hr.1 hr.2)<|h1.own _ _ _ ho h
def ez(n:Nat)(gs:um):WG:=λd ρ k=>match d with|.tup xs=>xs.length=n/\gs xs ρ k|_=>False
theorem kf{gs:um}(hc:X.calm=true)(h:qZ X es gs)(hn:{(assignEach es X.env).length=n})(hst:{(assignEach es X.env).findIdx? (·.1)=none}):pS X (.Tuple es k pos) (ez n gs):=by obtain⟨t,p,kk⟩:=h.t;refine⟨⟨_,o9 hc p hn hst,λW0 H0 W σ H ρ d v Q s r q=>?_⟩,λd ρ P P' hp q=>?_,λd ρ P ho q=>?_⟩;unfold ez at q;split at q;obtain⟨a,vs,rfl,h1,rr⟩:=r.sqt s.ok;exact⟨a,vs,rfl,h1,rr.length.trans q.1,kk W0 H0 W σ H ρ _ _ Q s rr q.2⟩;exact q.elim;unfold ez at q ⊢;split at q;exact⟨q.1,h.mono _ _ _ _ hp q.2⟩;exact q.elim;unfold ez at q ⊢;split at q;exact⟨q.1,h.own _ _ _ ho q.2⟩;exact q.elim
def eE(w:WE)(g:WG):WS:=λE N ρ=>w E ρ λd=>g d ρ N.nx
theorem FR(he:PX X EX e w)(hg:pS X tg g)(hs:{swapsWithSole [tg] e pos.line X.env=pure false})(hw:{swappedStores [tg] e X.env=pure none})
  (h1:{(assignEach [tg] X.env).map (·.2)=[assign tg X.env]}):PZ X EX (.Assign [tg] e pos) (eE w g):=by
 obtain⟨t,p,k⟩:=he.t;obtain⟨t2,p2,k2⟩:=hg.t;refine⟨⟨_,jv p p2 hs hw h1,λW0 H0 F W σ H ρ E Dn N s fl eo no h=>?_⟩,λE ρ N N' hl q=>he.mono _ _ _ _ (λd hd=>hg.mono _ _ _ _ hl.nx hd) q⟩;refine k W0 H0 W σ H ρ E _ s eo<|he.mono _ _ _ _ (λd hd v W1 H1 x1 r1=>?_) h;exact k2 W0 H0 W1 σ H1 ρ d v _ (s.step x1) r1<|hg.mono _ _ _ _ (λρ' h' σ' s'=>no.nx W1 σ' H1 ρ' s' (fl.ext x1) h') hd
def eR(i j:Nat)(t:WA):WS:=λE N ρ=>t E ρ λds=>match ds with
 |[x,y]=>N.nx<|(ρ.set i<|.d x).set j (.d y)
 |_=>False
theorem FS(i j:Nat){y:Str}{t:WA}{px py pt:Pos}{kt k2 pt2}(hN:X.N.Nodup)(ha:jb X EX [a,b] t)(hc:{X.calm=true})(hi:{X.N[i]? = some x})(hj:{X.N[j]? = some y})(hij:(i≠j:))
  (hx:{X.env.scope.names.lookup x=some .local}) (hy:{X.env.scope.names.lookup y=some .local})
  (hw:{swappedStores [.Tuple [.Name x px,.Name y py] kt pt] (.Tuple [a,b] k2 pt2) X.env=pure (some [x,y])})
  (hs:{swapsWithSole [.Tuple [.Name x px,.Name y py] kt pt] (.Tuple [a,b] k2 pt2) pos.line X.env=pure false}) :
  PZ X EX (.Assign [.Tuple [.Name x px,.Name y py] kt pt] (.Tuple [a,b] k2 pt2) pos) (eR i j t):=by
 obtain⟨ta,p,k⟩:=ha.t;refine⟨⟨_,tO hc hN hi hj hij hx hy p hw hs,λW0 H0 F W σ H ρ E Dn N s fl eo no h=>?_⟩,λE ρ N N' hl q=>ha.mono _ _ _ _ (λds hd=>?_) q⟩
 .refine k W0 H0 W σ H ρ E _ s eo (ha.mono _ _ _ _ (λds hd vs W1 H1 x1 r1=>?_) h)
  split at hd
  .obtain⟨v,u,rfl,rv,ru⟩:=r1.two
   exact⟨v,u,rfl,no.nx W1 _ H1 _ (((s.step x1).set rv).set ru) (fl.ext x1) hd⟩
  .exact hd.elim
 .split at hd
  .exact hl.nx _ hd
  .exact hd.elim
def uo(c:WT)(zb:WS):WS:=λE N ρ=>∃I:Nat->cV->Prop,(∃m,I m ρ)/\∀m ρ,I m ρ->c E ρ λb=>
 if b=true then zb E { nx:=λρ'=>∃m',m'<m/\I m' ρ',rt:=N.rt,bk:=N.nx,ct:=λρ'=>∃m',m'<m/\I m' ρ' } ρ else N.nx ρ
theorem Ao(hp:PassesOwn (model X.prog X.w) X.A X.env X.xe)(hc:j7 X EX c wt)(hb:iy X EX body zb):PZ X EX (.While c body [] pos) (uo wt zb):=by
 obtain⟨tc,pc,kc⟩:=hc.t;obtain⟨tb,pb,kb⟩:=hb.t;refine⟨⟨_,pj hp pc pb,λW0 H0 F W σ H ρ E Dn N s fl eo no h=>?_⟩,λE ρ N N' hl q=>?_⟩;obtain⟨I,⟨m0,i0⟩,turn⟩:=h;refine⟨λm σ H=>∃W ρ,SOk X.K W0 H0 W σ H ρ/\Wle F W/\I m ρ,⟨m0,W,ρ,s,fl,i0⟩,?_⟩;rintro m σ2 H2 ⟨W2,ρ2,s2,f2,i2⟩;refine kc W0 H0 W2 σ2 H2 ρ2 E _ s2 eo<|hc.mono _ _ _ _ (λb hb' W3 H3 x3=>?_) (turn m ρ2 i2);cases b with
 |true=>
  rw[ks rfl]at hb' ⊢;refine⟨λσ4 H4=>∃m',m'<m/\∃W ρ,SOk X.K W0 H0 W σ4 H4 ρ/\Wle F W/\I m' ρ,λσ4 H4 ⟨m',hm,q⟩=>⟨m',hm,q⟩,?_⟩;exact kb W0 H0 F W3 σ2 H3 ρ2 E _ { nx:=λρ'=>∃m',m'<m/\I m' ρ',rt:=N.rt,bk:=N.nx,ct:=λρ'=>∃m',m'<m/\I m' ρ' } (s2.step x3) (f2.ext x3) eo
   ⟨λW5 σ5 H5 ρ5 s5 f5 ⟨m',hm,q⟩=>⟨m',hm,W5,ρ5,s5,f5,q⟩,no.rt,λW5 σ5 H5 ρ5 s5 f5 q=>no.nx W5 σ5 H5 ρ5 s5 f5 q,λW5 σ5 H5 ρ5 s5 f5 ⟨m',hm,q⟩=>⟨m',hm,W5,ρ5,s5,f5,q⟩⟩ hb'
 |false=>rw[fz<|F4]at hb' ⊢;exact no.nx W3 σ2 H3 ρ2 (s2.step x3) (f2.ext x3) hb'
 obtain⟨I,i0,turn⟩:=q;refine⟨I,i0,λm ρ i=>hc.mono _ _ _ _ (λb hb'=>?_)<|turn m ρ i⟩;cases b with
 |true=>rw[ks rfl]at hb' ⊢;exact hb.mono E ρ { nx:=λρ'=>∃m',m'<m/\I m' ρ',rt:=N.rt,bk:=N.nx,ct:=λρ'=>∃m',m'<m/\I m' ρ' } _ ⟨λ_ z=>z,hl.rt,hl.nx,λ_ z=>z⟩ hb'|false=>rw[fz<|F4]at hb' ⊢;exact hl.nx _ hb'
theorem LB{tc:TT}(hc:PT X c tc)(hs:{exec (.Assert c none pos) X.env=(do standAt pos;if<-isTrue c X.env (eval c X.env) then pure .next else assertFails c.pos (evalOpt none X.env))}):PS X (.Assert c none pos) (λD σ H=>tc σ H λb H1=>b=true/\D.nx σ H1):=by intro E1 s σ H D I h;rw[hs];refine Qg<|QC (Qg<|bO (hc E1 s σ H _ I h) λb s1 ⟨H1,I1,e,q⟩=>?_);subst e;rw[ks rfl];exact Qi ⟨σ,H1,I1,q⟩
def kG(c:WT):WS:=λE N ρ=>c E ρ λb=>b=true/\N.nx ρ
theorem LC(hc:j7 X EX c wt)(hs:{exec (.Assert c none pos) X.env=(do standAt pos;if<-isTrue c X.env (eval c X.env) then pure .next else assertFails c.pos (evalOpt none X.env))}):PZ X EX (.Assert c none pos) (kG wt):=by obtain⟨tc,pc,kc⟩:=hc.t;refine⟨⟨_,LB pc hs,λW0 H0 F W σ H ρ E Dn N s fl eo no h=>?_⟩,λE ρ N N' hl q=>hc.mono _ _ _ _ (λb hb=>⟨hb.1,hl.nx _ hb.2⟩) q⟩;exact kc W0 H0 W σ H ρ E _ s eo<|hc.mono _ _ _ _ (λb hb W1 H1 x1=>⟨hb.1,no.nx W1 σ H1 ρ (s.step x1) (fl.ext x1) hb.2⟩) h
def da(i:Nat)(w:WE):WS:=λE N ρ=>match ρ[i]? with
 |some (.ow xs)=>w E ρ λd=>xs.length<aO/\N.nx (ρ.set i<|.ow<|xs++[d])
 |_=>False
theorem xz(i:Nat)(he:PX X EX e w)(hN:{X.N[i]? = some x})(hv:autoParam (kA X.env.scope x) Rk._auto_1)(hd:(Q7 x:))
  (hcd:((x==("__classdict__" : Str))=false:)) (hbase:{attributeBase (.Name x p) "append" X.env (eval (.Name x p) X.env)=eval (.Name x p) X.env})
  (hfew:{((backTo cpos<|starEach [e] X.env).all (λx=>!x.1)&&(backToKw cpos<|keywordEach [] X.env).all (λx=>x.1.isSome)&&decide ([e].length+([]:List Keyword).length+(if([]:List Keyword).isEmpty then 0 else 1)<30))=true})
  (hline:{(apos.endLine==cpos.line)=true}) (hs:{starEach [e] X.env=(false,eval e X.env)::starEach [] X.env}) (hplain:{(backTo cpos<|starEach [] X.env).any (·.1)=false})
  (hsw:{swapsWith (.Call (.Attribute (.Name x p) "append" apos) [e] [] cpos) none pos.line X.env=pure false}):PZ X EX (.Expr (.Call (.Attribute (.Name x p) "append" apos) [e] [] cpos) pos) (da i w):=by
 obtain⟨t,pe,k⟩:=he.t;refine⟨⟨_,jt (pL PySem.F.plainAttrs_list PySem.F.slot_list_append PySem.F.type_list_append i9 (db hN hv hd hcd) (gS pe jy hs) hbase hfew hline hs hplain) hsw,λW0 H0 F W σ H ρ E Dn N s fl eo no h=>?_⟩,λE ρ N N' hl q=>?_⟩
 .unfold da at h
  split at h
  .rename_i xs ex
   obtain⟨a,vs,e1,e2,e3,e4,e5,r⟩:=s.o i xs ex;refine⟨_,e1,.inl ⟨rfl,vs,SqL.of e2⟩,?_⟩;refine k W0 H0 W σ H ρ E _ s eo<|he.mono _ _ _ _ (λd hd v W1 H1 x1 r1=>?_) h;have e2':=x1.h a _ e2 e4;refine⟨a,vs,v,rfl,rfl,e2',by rw[r.length];exact dw hd.1<|pQ<|bZ _,?_⟩;exact no.nx W1 σ _ _ ((s.step x1).chg ex e1<|(x1.reps r).append<|.cons r1 .nil) (fl.ext x1) hd.2
  .exact h.elim
 .unfold da at q ⊢
  split at q
  .exact he.mono _ _ _ _ (λd hd=>⟨hd.1,hl.nx _ hd.2⟩) q
  .exact q.elim
end
section
variable{ps:Pos}{a b:Expr}
theorem Rep.sq{W:Wd}{v:V}{Q:Rc->Prop}(r:Rep K W v d)(h:isS Q d):∃κ l vs xs,v=.ref l/\Reps K W vs xs/\Q xs/\∀W2 H2,(∀a o,W.G a=some o->W2.G a=some o)->WOk W2 H2->Sq K κ H2 l vs:=by
 cases r with
 |lst e1 rr=>exact⟨false,_,_,_,rfl,rr,h,λW2 H2 g ok=>SqL.of<|ok.g _ _<|g _ _ e1⟩|tup e1 rr=>exact⟨true,_,_,_,rfl,rr,h,λW2 H2 g ok=>SqT.of<|ok.g _ _<|g _ _ e1⟩|ktup e1 rr=>exact⟨true,_,_,_,rfl,rr,h,λW2 H2 g ok=>.inr e1⟩|_=>exact h.elim
def eT(xs ys:Rc):Rc:=List.zipWith (λx y=>.tup [x,y]) xs ys
def iZ(t:WA):WA:=λE ρ Q=>t E ρ λds=>match ds with|[x,y]=>isS (λxs=>isS (λys=>Q<|eT xs ys) y) x|_=>False
theorem De{t:WA}(hm:X.mg "zip" = none)(ha:jb X EX [a,b] t)(hg:{Gl X "zip"})(hs:{starEach [a,b] X.env=[(false,eval a X.env),(false,eval b X.env)]})(hs2:{starEach [b] X.env=[(false,eval b X.env)]}) :
  lN X EX (.Tuple es n1 ps) (.Call (.Name "zip" p) [a,b] [] pos) (iZ t):=by
 obtain⟨t,q,k⟩:=ha.t;refine⟨⟨_,Kq hg hm q hs hs2,λW0 H0 W σ H ρ E R s eo h=>?_⟩,λE ρ P P' hp h=>ha.mono _ _ _ _ (λds hd=>?_) h⟩
 .refine k W0 H0 W σ H ρ E _ s eo (ha.mono _ _ _ _ (λds hd vs W1 H1 x1 r1=>?_) h)
  split at hd
  .obtain⟨v,u,rfl,rv,ru⟩:=r1.two
   obtain⟨κ,l,vs,xs,rfl,rr,hd,sq⟩:=rv.sq hd;obtain⟨κ',l',us,ys,rfl,rr',hd,sq'⟩:=ru.sq hd;refine⟨κ,κ',l,l',rfl,⟨vs,sq W1 H1 (λ_ _ z=>z) x1.ok⟩,⟨us,sq' W1 H1 (λ_ _ z=>z) x1.ok⟩,hd W1 H1 _ x1 λW2 H2 i g2 p2 ok2=>⟨λd hd=>?_,λhi=>?_⟩⟩
   .have s1:=sq W2 H2 g2 ok2
    have s2:=sq' W2 H2 g2 ok2;unfold eT at hd;rw[List.getElem?_zipWith]at hd;cases ex:xs[i]? with
    |none=>rw[ex]at hd;cases hd
    |some x=>
     cases ey:ys[i]? with
     |none=>rw[ex,ey]at hd;cases hd
     |some y=>
      rw[ex,ey]at hd;cases hd;obtain⟨vx,evx,rvx⟩:=rr.get ex;obtain⟨vy,evy,rvy⟩:=rr'.get ey;refine⟨⟨vs,us,vx,vy,s1,s2,evx,evy⟩,λz H3 hy=>?_⟩;obtain⟨q,x',y',rfl,hq,rfl,e1,e2⟩:=hy;have e1:=e1 _ s1;have e2:=e2 _ s2;rw[evx]at e1;rw[evy]at e2;cases e1;cases e2;have xt:=Ext.put (o:=.tup [vx,vy]) ok2 hq;exact⟨_,xt,.tup (by unfold Wd.put;dsimp only;rw[aP])<|.cons (xt.rep<|rvx.mono g2 p2)<|.cons (xt.rep<|rvy.mono g2 p2) .nil⟩
   .refine⟨vs,us,sq W2 H2 g2 ok2,sq' W2 H2 g2 ok2,?_⟩
    rw[rr.length,rr'.length];unfold eT at hi;rw[rC]at hi;omega
  .exact hd.elim
 .split at hd
  .exact isS.mono (λxs h1=>isS.mono (λys h2=>hp _ h2) _ h1) _ hd
  .exact hd.elim
def gI(i:Nat)(wi wv:WE):WS:=λE N ρ=>match ρ[i]? with
 |some (.ow xs)=>wv E ρ λd=>wi E ρ (isI λk=>∃j,j4 xs.length k=some j/\N.nx (ρ.set i<|.ow<|xs.set j d))
 |_=>False
theorem Aq(i:Nat){wi:WE}(hix:PX X EX ix wi)(he:PX X EX e wv)(hN:{X.N[i]? = some x})(hv:autoParam (kA X.env.scope x) Rk._auto_1)(hd:(Q7 x:))
  (hcd:((x==("__classdict__" : Str))=false:))
  (ha:autoParam (∀ v,assign (.Subscript (.Name x p) ix spos) X.env v=(do
   let ov <-holding [v] (eval (.Name x p) X.env)
   let iv <-holding [v,ov] (eval ix X.env)
   standAt spos
   holding [v,ov,iv] (setItem ov iv v)
   release [v,ov,iv] [])) Rj._auto_1)
  (hs:{swapsWithSole [.Subscript (.Name x p) ix spos] e pos.line X.env=pure false}) (hw:{swappedStores [.Subscript (.Name x p) ix spos] e X.env=pure none})
  (h1:{(assignEach [.Subscript (.Name x p) ix spos] X.env).map (·.2)=[assign (.Subscript (.Name x p) ix spos) X.env]}):PZ X EX (.Assign [.Subscript (.Name x p) ix spos] e pos) (gI i wi wv):=by
 obtain⟨t,pe,k⟩:=he.t;obtain⟨ti,pi,ki⟩:=hix.t;refine⟨⟨_,jv pe (ju (db hN hv hd hcd) pi fQ ha) hs hw h1,λW0 H0 F W σ H ρ E Dn N s fl eo no h=>?_⟩,λE ρ N N' hl q=>?_⟩
 .unfold gI at h
  split at h
  .rename_i xs ex
   obtain⟨a,vs,e1,e2,e3,e4,e5,r⟩:=s.o i xs ex;refine k W0 H0 W σ H ρ E _ s eo<|he.mono _ _ _ _ (λd hd v W1 H1 x1 r1=>⟨_,e1,?_⟩) h;refine ki W0 H0 W1 σ H1 ρ E _ (s.step x1) eo<|hix.mono _ _ _ _ (λdi hdi vi W2 H2 x2 r2=>?_) hd;obtain⟨kk,rfl,j,hj,hn⟩:=qV hdi;cases r2;have xx:=x1.trans x2;have e2':=xx.h a _ e2 e4;refine⟨a,vs,kk,j,rfl,rfl,e2',by rw[r.length];exact hj,?_⟩;exact no.nx W2 σ _ _ ((s.step xx).chg ex e1<|Reps.set (x2.rep r1) j<|xx.reps r) (fl.ext xx) hn
  .exact h.elim
 .unfold gI at q ⊢
  split at q
  .exact he.mono _ _ _ _ (λd hd=>hix.mono _ _ _ _ (isI.mono λkk ⟨j,hj,hn⟩=>⟨j,hj,hl.nx _ hn⟩) hd) q
  .exact q.elim
end
mutual
def fW:D->Bool
 |.lst _=>false|.scr _=>false|.dic=>false|.tup xs=>kj xs|.non=>true|.bl _=>true|.int _=>true|.str _=>true|.pen=>true|.cls _=>true|.exc _=>true|.ty _=>true|.pl _ _=>true
def kj:Rc->Bool
 |[]=>true|x::r=>fW x&&kj r
end
def Wd.rem(W:Wd)(a:Addr):Wd:=⟨λb=>if b=a then none else W.G b,W.Pn⟩
section
variable{W:Wd}{a:Addr}
theorem Wd.rem_ne{b:Addr}(h:b≠a):(W.rem a).G b=W.G b:=by unfold Wd.rem;dsimp only;rw[fz h]
theorem Wd.rem_same:(W.rem a).G a=none:=by unfold Wd.rem;dsimp only;rw[ks rfl]
mutual
theorem Rep.rem(h:W.G a=some (.lst us)):∀{v:V} {d:D},Rep K W v d->fW d=true->Rep K (W.rem a) v d:=λh0 f=>by cases h0 with
 |non=>exact .non
 |bl b=>exact .bl b
 |int i=>exact .int i
 |str x=>exact .str x
 |tup e r=>exact .tup (by rw[Wd.rem_ne (λz=>by rw[z,h]at e;cases e)];exact e)<|Reps.rem h r (by rw[fW]at f;exact f)
 |ktup e r=>exact .ktup e<|Reps.rem h r (by rw[fW]at f;exact f)
 |lst e r=>rw[fW]at f;cases f
 |scr e r=>rw[fW]at f;cases f
 |dic e=>rw[fW]at f;cases f
 |pen e=>exact .pen e
 |cls e=>exact .cls e
 |exc e n x=>exact .exc (by rw[Wd.rem_ne (λz=>by rw[z,h]at e;cases e)];exact e) n λc f k q=>let⟨d,e1,e2⟩:=x c f k q;⟨d,e1,by rw[Wd.rem_ne (λz=>by rw[z,h]at e2;cases e2)];exact e2⟩
 |ty n=>exact .ty n
 |pl q=>exact .pl (q.keep λc o e m=>by rw[Wd.rem_ne λz=>m us (by rw[z,h]at e;cases e;rfl)];exact e)
theorem Reps.rem(h:W.G a=some (.lst us)):∀{vs:Rg} {ds:Rc},Reps K W vs ds->kj ds=true->Reps K (W.rem a) vs ds
 |_,_,.nil,_=>.nil|_,_,.cons r t,f=>by rw[kj,dX]at f;exact .cons (Rep.rem h r f.1)<|Reps.rem h t f.2
end
theorem Ext.bor(x:Ext (W.put a<|.lst us) H W2 H2)(hg:W.G a=none):Ext W H (W2.rem a) H2 where
 ok:=⟨λb o e=>by
   by_cases hb:b=a
   .subst hb;rw[Wd.rem_same]at e;cases e
   .rw[Wd.rem_ne hb]at e;exact x.ok.g b o e,
  λb hb=>⟨(x.ok.p b hb).1,by
   by_cases hba:b=a
   .subst hba;exact Wd.rem_same
   .rw[Wd.rem_ne hba];exact(x.ok.p b hb).2⟩⟩
 g:=λb o e=>by
  have hb:b≠a:=λz=>by rw[z,hg]at e;cases e
  rw[Wd.rem_ne hb];exact x.g b o (by unfold Wd.put;dsimp only;rw[aI hb];exact e)
 p:=x.p
 gf:=λb e n=>by by_cases hb:b=a;subst hb;exact Qj Wd.rem_same n;rw[Wd.rem_ne hb]at n;exact x.gf b (by unfold Wd.put;dsimp only;rw[aI hb];exact e) n
 pf:=x.pf
 h:=x.h
theorem SOk.pubAt(s:SOk K W0 H0 W σ H ρ)(e:ρ[i]? = some (.ow xs))(e1:σ[i]? = some (some<|V.ref a))(e2:H a=some (.lst us))(e3:W.G a=none)(e4:¬W.Pn a)(e5:H0 a=none)(r:Reps K W us xs) :
  SOk K W0 H0 (W.put a<|.lst us) σ H (LP.pub i ρ):=by
 have ep:LP.pub i ρ=ρ.set i (.d<|.lst xs):=by unfold LP.pub;rw[e]
 rw[ep];have hi:i<ρ.length:=(Yaq.mp e).1;refine⟨s.ext.pub e5 e2 e4 e3,by rw[dN];exact s.len,λj y ej=>?_,λj ys ej=>?_,λj k ys zs b hjk ej ek e6=>?_,OOs.set ⟨λj xss ej=>let⟨a',bs,q1,q,n⟩:=s.oo.t j xss ej;⟨a',bs,q1,q.put (n i xs a e e1) e3,n⟩,s.oo.u⟩ (λ_ h=>by cases h) (λ_ _=>rfl) λ_ _ h=>by cases h⟩
 .by_cases h:i=j
  .subst h
   rw[dW hi]at ej;cases ej;exact⟨_,e1,.lst (by unfold Wd.put;dsimp only;rw[aP])<|r.mono (qf e3) λ_ z=>z⟩
  .rw[df h]at ej
   obtain⟨v,q1,q2⟩:=s.d j y ej;exact⟨v,q1,q2.mono (qf e3) λ_ z=>z⟩
 .have h:i≠j:=λh=>by subst h;rw[dW hi]at ej;cases ej
  rw[df h]at ej;obtain⟨b,us',q1,q2,q3,q4,q5,rr⟩:=s.o j ys ej;have hba:b≠a:=λz=>s.ne i j xs ys a h e ej e1 (by rw[<-z];exact q1);refine⟨b,us',q1,q2,?_,q4,q5,rr.mono (qf e3) λ_ z=>z⟩;unfold Wd.put;dsimp only;rw[aI hba];exact q3
 .have h:i≠j:=λh=>by subst h;rw[dW hi]at ej;cases ej
  have h':i≠k:=λh=>by subst h;rw[dW hi]at ek;cases ek
  rw[df h]at ej;rw[df h']at ek;exact s.ne j k ys zs b hjk ej ek e6
theorem SOk.lend(s:SOk K W0 H0 W σ H ρ)(i:Nat):(LP.pub i ρ=ρ)\/∃a us,SOk K W0 H0 (W.put a<|.lst us) σ H (LP.pub i ρ)/\W.G a=none/\H a=some (.lst us)/\(W.put a<|.lst us).G a=some (.lst us):=by
 cases e:ρ[i]? with
 |none=>exact .inl (by unfold LP.pub;rw[e])
 |some sv=>
  cases sv with
  |un=>exact .inl (by unfold LP.pub;rw[e])|d x=>exact .inl (by unfold LP.pub;rw[e])|oo xss=>exact .inl (by unfold LP.pub;rw[e])
  |ow xs=>
   obtain⟨a,us,e1,e2,e3,e4,e5,r⟩:=s.o i xs e;exact .inr ⟨a,us,s.pubAt e e1 e2 e3 e4 e5 r,e3,e2,by unfold Wd.put;dsimp only;rw[aP]⟩
end
section
variable{ps:Pos}{a b:Expr}
def dB(i:Nat)(w:WE):WE:=λE ρ Q=>w E (pub i ρ) λd=>fW d=true/\Q d
theorem uq(i:Nat)(he:PX X EX e w):PX X EX e (dB i w):=by
 obtain⟨t,q,k⟩:=he.t;refine⟨⟨t,q,λW0 H0 W σ H ρ E Q s eo h=>?_⟩,λE ρ P P' hp h=>he.mono _ _ _ _ (λd hd=>⟨hd.1,hp _ hd.2⟩) h⟩;unfold dB at h;rcases s.lend i with ep|⟨a,us,s',e3,e2,e6⟩
 rw[ep]at h;exact k W0 H0 W σ H ρ E Q s eo<|he.mono _ _ _ _ (λd hd=>hd.2) h
 exact k W0 H0 _ σ H _ E Q s' eo<|he.mono _ _ _ _ (λd hd v W2 H2 x2 r2=>hd.2 v _ H2 (x2.bor e3)<|r2.rem (x2.g _ _ e6) hd.1) h
def fX(i:Nat)(w:WT):WT:=λE ρ Q=>w E (pub i ρ) Q
def dm(i:Nat)(t:WA):WA:=λE ρ Q=>t E (pub i ρ) λds=>kj ds=true/\Q ds
theorem Df(i:Nat){t:WA}(he:PXL X EX e t):PXL X EX e (dm i t):=by
 obtain⟨t,q,k⟩:=he.t;refine⟨⟨t,q,λW0 H0 W σ H ρ E Q s eo h=>?_⟩,λE ρ P P' hp h=>he.mono _ _ _ _ (λd hd=>⟨hd.1,hp _ hd.2⟩) h⟩;unfold dm at h;rcases s.lend i with ep|⟨a,us,s',e3,e2,e6⟩
 rw[ep]at h;exact k W0 H0 W σ H ρ E Q s eo<|he.mono _ _ _ _ (λd hd=>hd.2) h
 refine k W0 H0 _ σ H _ E Q s' eo (he.mono _ _ _ _ (λd hd b vs W2 H2 x2 h1 h2 h3 h4 r2=>?_) h);have hb:b≠a:=λz=>by rw[z,e2]at h4;cases h4
 exact hd.2 b vs _ H2 (x2.bor e3) h1 (by rw[Wd.rem_ne hb];exact h2) h3 h4<|r2.rem (x2.g _ _ e6) hd.1
def cY(i:Nat)(wb:WE):WE:=λE ρ Q=>match ρ[i]? with|some (.ow xs)=>wb E ρ (isI λk=>∃d,eG xs k=some d/\Q d)|_=>False
theorem sh(i:Nat)(hb:PX X EX b wb)(hN:{X.N[i]? = some x})(hv:autoParam (kA X.env.scope x) Rk._auto_1)(hd:(Q7 x:))
  (hcd:((x==("__classdict__" : Str))=false:)) (hs:jA b:=by exact λ_ _=>rfl):PX X EX (.Subscript (.Name x p) b pos) (cY i wb):=by
 obtain⟨tb,pb,kb⟩:=hb.t;refine⟨⟨_,rR kW (db hN hv hd hcd) pb hs,λW0 H0 W σ H ρ E Q s eo h=>?_⟩,λE ρ P P' hp h=>?_⟩
 .unfold cY at h
  split at h
  .rename_i xs ex
   obtain⟨a,vs,e1,e2,e3,e4,e5,r⟩:=s.o i xs ex;refine⟨_,e1,kb W0 H0 W σ H ρ E _ s eo<|hb.mono _ _ _ _ (λd hd v W1 H1 x1 r1=>?_) h⟩;obtain⟨kk,rfl,d,hat,hq⟩:=qV hd;cases r1;obtain⟨v,e6,rv⟩:=Ai (x1.reps r) hat;exact .inl ⟨a,vs,kk,v,rfl,rfl,SqL.of<|x1.h a _ e2 e4,e6,hq v W1 H1 x1 rv⟩
  .exact h.elim
 .unfold cY at h ⊢
  split at h
  .exact hb.mono _ _ _ _ (isI.mono λk ⟨d,h1,h2⟩=>⟨d,h1,hp _ h2⟩) h
  .exact h.elim
def NL(K:Qh)(W:Wd)(H:Hp)(Q:VK)(ds:Rc):Prop:=∀a vs W' H',Ext W H W' H'->H' a=some (.lst vs)->W'.G a=none->¬W'.Pn a->H a=none->Reps K W' vs ds->Q (.ref a) H'
theorem NL.new{K:Qh}{W W1:Wd}{H H1:Hp}{Q:VK}{ds:Rc}{vs:Rg}(h:NL K W H Q ds)(x1:Ext W H W1 H1)(r:Reps K W1 vs ds){q:Addr}(hq:H1 q=none):Q (.ref q) (upd H1 q<|.lst vs):=
 h q vs W1 _ (x1.trans<|.new x1.ok hq) aP (x1.ok.fresh hq).1 (x1.ok.fresh hq).2 (x1.isN hq) r
def fb(wa wb:WE):WA:=λE ρ Q=>wa E ρ<|isL λxs=>wb E ρ (isL λys=>xs.length+ys.length<=aO/\Q (xs++ys))
theorem LD(ha:PX X EX a wa)(hb:PX X EX b wb):PXL X EX (.BinOp a .Add b pos) (fb wa wb):=by obtain⟨ta,pa,ka⟩:=ha.t;obtain⟨tb,pb,kb⟩:=hb.t;refine⟨⟨_,rL Znq pa pb,λW0 H0 W σ H ρ E Q s eo h=>?_⟩,λE ρ P P' hp h=>ha.mono _ _ _ _ (isL.mono λxs hx=>hb.mono _ _ _ _ (isL.mono λys hy=>⟨hy.1,hp _ hy.2⟩) hx) h⟩;refine ka W0 H0 W σ H ρ E _ s eo<|ha.mono _ _ _ _ (λd hd v W1 H1 x1 r1=>?_) h;obtain⟨xs,rfl,hd⟩:=Da hd;refine kb W0 H0 W1 σ H1 ρ E _ (s.step x1) eo<|hb.mono _ _ _ _ (λd hd u W2 H2 x2 r2=>?_) hd;obtain⟨ys,rfl,hd⟩:=Da hd;obtain⟨p,vs,rfl,h1,q1⟩:=(x2.rep r1).sql x2.ok;obtain⟨q,us,rfl,h2,q2⟩:=r2.sql x2.ok;exact⟨p,q,vs,us,rfl,rfl,h1,h2,by rw[q1.length,q2.length];exact pQ hd.1,λa ha=>NL.new hd.2 (x1.trans x2) (q1.append q2) ha⟩
def fY(wa wb:WE):WA:=λE ρ Q=>wa E ρ<|isL λxs=>wb E ρ (isI λk=>k<1000/\-1000<k/\xs.length*k.toNat<=aO/\Q (List.replicate k.toNat xs).flatten)
def aCut(wa:WE)(wl wh:(Rb)->cV->(Option Int->Prop)->Prop):WA:=λE ρ Q=>wa E ρ λx=>wl E ρ λl=>wh E ρ λh=>match x with
 |.lst xs=>Q<|cJ xs l h
 |.scr xs=>Q<|cJ xs l h
 |_=>False
theorem aCut.mono{wl wh}{lo hi:Option Expr}(ha:PX X EX a wa)(hl:rZ X EX lo wl)(hh:rZ X EX hi wh):∀E ρ P P',(∀d,P d->P' d)->aCut wa wl wh E ρ P->aCut wa wl wh E ρ P':=
 λE ρ P P' hp h=>ha.mono _ _ _ _ (λx hx=>hl.mono _ _ _ _ (λl hl'=>hh.mono _ _ _ _ (λu hu=>by
  split at hu
  .exact hp _ hu
  .exact hp _ hu
  .exact hu.elim) hl') hx) h
theorem LE{wl wh}(ha:PX X EX a wa)(hl:rZ X EX lo wl)(hh:rZ X EX hi wh):PXL X EX (.Subscript a (.Slice lo hi none p2) pos) (aCut wa wl wh):=by
 obtain⟨ta,pa,ka⟩:=ha.t;obtain⟨tl,pl,kl⟩:=hl.t;obtain⟨th,ph,kh⟩:=hh.t;refine⟨⟨_,j0 sl_list pa pl ph,λW0 H0 W σ H ρ E Q s eo h=>?_⟩,aCut.mono ha hl hh⟩;refine ka W0 H0 W σ H ρ E _ s eo<|ha.mono _ _ _ _ (λdx hx v W1 H1 x1 r1=>?_) h;refine kl W0 H0 W1 σ H1 ρ E _ (s.step x1) eo<|hl.mono _ _ _ _ (λl hl' W2 H2 x2=>?_) hx;refine kh W0 H0 W2 σ H2 ρ E _ ((s.step x1).step x2) eo<|hh.mono _ _ _ _ (λu hu W3 H3 x3=>?_) hl';have r3:=(x2.trans x3).rep r1;split at hu
 obtain⟨p,vs,rfl,h1,rr⟩:=r3.sql x3.ok;exact⟨p,vs,rfl,h1,λq hq=>NL.new hu (x1.trans<|x2.trans x3) (rr.cut l u) hq⟩;obtain⟨p,vs,rfl,h1,rr⟩:=r3.sqs x3.ok;exact⟨p,vs,rfl,h1,λq hq=>NL.new hu (x1.trans<|x2.trans x3) (rr.cut l u) hq⟩;exact hu.elim
end
section
variable{W:Wd}{a:Addr}{i j k:Int}
def Wd.pen(W:Wd)(a:Addr):Wd:=⟨W.G,λb=>b=a\/W.Pn b⟩
theorem Ext.pen(x:Ext W H W1 H1)(h:H a=none)(e:H1 a=some (.lst [.int i,.int j,.int k]))(ng:W1.G a=none):Ext W H (W1.pen a) H1 where
 ok:=⟨x.ok.g,λb hb=>by
  rcases hb with rfl|hb
  .exact⟨⟨i,j,k,e⟩,ng⟩
  .exact x.ok.p b hb⟩
 g:=x.g
 p:=λb hb=>.inr<|x.p b hb
 gf:=x.gf
 pf:=λb n hb=>by
  rcases hb with rfl|hb
  exact h;exact x.pf b n hb
 h:=x.h
theorem Ext.ink(x:Ext W H W1 H1)(hp:W1.Pn a):Ext W H W1 (upd H1 a<|.lst [.int i,.int j,.int k]) where
 ok:=⟨λb o e=>by
   have hb:b≠a:=λz=>by rw[z,(x.ok.p a hp).2]at e;cases e
   rw[aI hb];exact x.ok.g b o e,
  λb hb=>by
   by_cases hba:b=a
   .subst hba;exact⟨⟨i,j,k,aP⟩,(x.ok.p b hb).2⟩
   .obtain⟨⟨i',j',k',e⟩,n⟩:=x.ok.p b hb
    exact⟨⟨i',j',k',by rw[aI hba];exact e⟩,n⟩⟩
 g:=x.g
 p:=x.p
 gf:=x.gf
 pf:=x.pf
 h:=λb o e n=>by
  have q:=x.h b o e n;have hb:b≠a:=λz=>by subst z;have:=x.pf b n hp;rw[e]at this;cases this
  rw[aI hb];exact q
theorem SOk.ink(s:SOk K W0 H0 W σ H ρ)(hp:W.Pn a):SOk K W0 H0 W σ (upd H a<|.lst [.int i,.int j,.int k]) ρ where
 ext:=s.ext.ink hp
 len:=s.len
 d:=s.d
 o:=λn ys e=>by obtain⟨b,vs,e1,e2,e3,e4,e5,r⟩:=s.o n ys e;exact⟨b,vs,e1,by rw[aI<|λz=>e4 (by rw[z];exact hp)];exact e2,e3,e4,e5,r⟩
 ne:=s.ne
 oo:=⟨λn xss e=>let⟨a',bs,e1,q,m⟩:=s.oo.t n xss e;⟨a',bs,e1,q.upd<|q.noPen hp,m⟩,s.oo.u⟩
end
section
variable{ps:Pos}{a b:Expr}
def fc(t:WA):WE:=λE ρ Q=>t E ρ λds=>(∃i j k,ds=[.int i,.int j,.int k])/\Q .pen
theorem LF{t:WA}(he:PXL X EX e t):PX X EX e (fc t):=by
 obtain⟨t,q,k⟩:=he.t;refine⟨⟨t,q,λW0 H0 W σ H ρ E Q s eo h=>?_⟩,λE ρ P P' hp h=>he.mono _ _ _ _ (λd hd=>⟨hd.1,hp _ hd.2⟩) h⟩;refine k W0 H0 W σ H ρ E Q s eo<|he.mono _ _ _ _ (λds hd a vs W1 H1 x1 e1 e2 e3 e4 r1=>?_) h;obtain⟨⟨i,j,k,rfl⟩,hd⟩:=hd;have ev:vs=[.int i,.int j,.int k]:=by cases r1 with|cons r t=>cases r;cases t with|cons r t=>cases r;cases t with|cons r t=>cases r;cases t;rfl
 subst ev;exact hd _ _ _ (x1.pen e4 e1 e2)<|.pen (.inl rfl)
def d6:G2:=λx y Q=>x=.pen/\(y=.int 0\/y=.int 1\/y=.int 2)/\∀n,Q<|.int n
theorem xA:C4 X d6:=by
 refine⟨⟨_,kW,λW H x y dx dy Q ok rx ry hg=>?_⟩,λx y P P' hp h=>⟨h.1,h.2.1,λn=>hp _<|h.2.2 n⟩⟩;obtain⟨rfl,hy,hq⟩:=hg;cases rx with
 | @pen a hp=>
  obtain⟨⟨i,j,k,e⟩,ng⟩:=ok.p a hp;have key:∀(m:Int) (v:V),eG [V.int i,.int j,.int k] m=some v->(∃n,v=.int n)->Fv X.K (.ref a) (.int m) H Q:=λm v hv ⟨n,hn⟩=>by subst hn;exact .inl ⟨a,_,m,_,rfl,rfl,SqL.of e,hv,(hq n).now ok<|.int n⟩
  rcases hy with rfl|rfl|rfl
  cases ry;exact key 0 (.int i) rfl ⟨i,rfl⟩;cases ry;exact key 1 (.int j) rfl ⟨j,rfl⟩;cases ry;exact key 2 (.int k) rfl ⟨k,rfl⟩
def eU(i:Nat)(wv:WE):WS:=λE N ρ=>ρ[i]? = some (.d .pen)/\wv E ρ (isI λ_=>N.nx ρ)
theorem FT(i:Nat)(m:Int){j}{ipos:Pos}(he:PX X EX e wv)(hm:(m=0\/m=1\/m=2:))(hN:{X.N[i]? = some x})(hv:autoParam (kA X.env.scope x) Rk._auto_1)(hd:(Q7 x:))
  (hcd:((x==("__classdict__" : Str))=false:))
  (ha:autoParam (∀ v,assign (.Subscript (.Name x p) (.Constant (.int m) j ipos) spos) X.env v=(do
   let ov <-holding [v] (eval (.Name x p) X.env)
   let iv <-holding [v,ov] (eval (.Constant (.int m) j ipos) X.env)
   standAt spos
   holding [v,ov,iv] (setItem ov iv v)
   release [v,ov,iv] [])) Rj._auto_1)
  (hs:{swapsWithSole [.Subscript (.Name x p) (.Constant (.int m) j ipos) spos] e pos.line X.env=pure false}) (hw:{swappedStores [.Subscript (.Name x p) (.Constant (.int m) j ipos) spos] e X.env=pure none})
  (h1:{(assignEach [.Subscript (.Name x p) (.Constant (.int m) j ipos) spos] X.env).map (·.2)=[assign (.Subscript (.Name x p) (.Constant (.int m) j ipos) spos) X.env]}):PZ X EX (.Assign [.Subscript (.Name x p) (.Constant (.int m) j ipos) spos] e pos) (eU i wv):=by
 obtain⟨t,pe,k⟩:=he.t;refine⟨⟨_,jv pe (ju (db hN hv hd hcd) kM fQ ha) hs hw h1,λW0 H0 F W σ H ρ E Dn N s fl eo no h=>?_⟩,λE ρ N N' hl q=>⟨q.1,he.mono _ _ _ _ (isI.mono λ_ hn=>hl.nx _ hn) q.2⟩⟩;obtain⟨hpen,h⟩:=h;obtain⟨v0,e0,r0⟩:=s.d i .pen hpen;cases r0 with
 | @pen a hp=>
  refine k W0 H0 W σ H ρ E _ s eo<|he.mono _ _ _ _ (λd hd v W1 H1 x1 r1=>⟨_,e0,?_⟩) h;obtain⟨n,rfl,hn⟩:=qV hd;cases r1;have hp1:=x1.p a hp;obtain⟨⟨i',j',k',e'⟩,ng⟩:=x1.ok.p a hp1;rcases hm with rfl|rfl|rfl
  .exact⟨a,_,0,0,rfl,rfl,e',rfl,no.nx W1 σ _ ρ ((s.step x1).ink hp1) (fl.ext x1) hn⟩
  .exact⟨a,_,1,1,rfl,rfl,e',rfl,no.nx W1 σ _ ρ ((s.step x1).ink hp1) (fl.ext x1) hn⟩
  .exact⟨a,_,2,2,rfl,rfl,e',rfl,no.nx W1 σ _ ρ ((s.step x1).ink hp1) (fl.ext x1) hn⟩
end
abbrev jf:G2:=gI2 (λ_ _=>True) λi j=>.int<|i-j
abbrev si:G2:=gI2 (λ_ j=>j≠0) λi j=>.int<|i.fmod j
abbrev iO:G2:=gI2 C5 λi j=>.int<|i.fdiv j
abbrev xB:G2:=gI2 tU λi j=>.int<|i^j.toNat
abbrev mz:G2:=gI2 (λ_ _=>True) λi j=>.bl<|decide (i<j)
abbrev pT:G2:=gI2 (λ_ _=>True) λi j=>.bl<|decide (i<=j)
abbrev pV:G2:=gI2 (λ_ _=>True) λi j=>.bl<|decide (i>j)
abbrev Dg:G2:=gI2 (λ_ _=>True) λi j=>.bl<|decide (i ≥ j)
abbrev jJ:D->(Rf)->Prop:=λx Q=>isI (λi=>Q<|.int (-i)) x
abbrev km:WS:=λ_ _ _=>False
def fnS{α:Type}(enc:α->Rc)(dom:α->Prop)(val:α->D):bV:=λds _ Q=>∃a,ds=enc a/\dom a/\Q (val a)
theorem fnS.mono{α:Type}{enc:α->Rc}{dom:α->Prop}{val:α->D}:qh (fnS enc dom val):=λds E E' Q Q' _ hQ ⟨a,h1,h2,h3⟩=>⟨a,h1,h2,hQ _ h3⟩
theorem fnS.len{α:Type}{enc:α->Rc}{dom:α->Prop}{val:α->D}(hp:∀a,(enc a).length=ps.length):∀ds E Q,fnS enc dom val ds E Q->ds.length=ps.length:=λds E Q ⟨a,h1,_⟩=>by rw[h1];exact hp a
def exQ(E:Rb)(Q:Rf):Except Str D->Prop
 |.ok v=>Q v|.error e=>E e
theorem exQ.mono{E E':Rb}{Q':Rf}(hE:∀e,E e->E' e)(hQ:∀d,Q d->Q' d):∀r,exQ E Q r->exQ E' Q' r
 |.ok v,h=>hQ v h|.error e,h=>hE e h
def xS{α:Type}(enc:α->Rc)(dom:α->Prop)(res:α->Except Str D):bV:=λds E Q=>∃a,ds=enc a/\dom a/\exQ E Q (res a)
theorem xS.mono{α:Type}{enc:α->Rc}{dom:α->Prop}{res:α->Except Str D}:qh (xS enc dom res):=λds E E' Q Q' hE hQ ⟨a,h1,h2,h3⟩=>⟨a,h1,h2,exQ.mono hE hQ _ h3⟩
theorem xS.ok{α:Type}{enc:α->Rc}{dom:α->Prop}{res:α->Except Str D}{E:Rb}{v:D}(a:α)(h:ds=enc a)(hd:dom a)(e:res a=.ok v)(q:Q v):xS enc dom res ds E Q:=⟨a,h,hd,by rw[e];exact q⟩
theorem xS.err{α:Type}{enc:α->Rc}{dom:α->Prop}{res:α->Except Str D}{E:Rb}{n:Str}(a:α)(h:ds=enc a)(hd:dom a)(e:res a=.error n)(q:E n):xS enc dom res ds E Q:=⟨a,h,hd,by rw[e];exact q⟩
theorem xS.len{α:Type}{enc:α->Rc}{dom:α->Prop}{res:α->Except Str D}(hp:∀a,(enc a).length=ps.length):∀ds E Q,xS enc dom res ds E Q->ds.length=ps.length:=λds E Q ⟨a,h1,_⟩=>by rw[h1];exact hp a
def rlS{α:Type}(enc:α->Rc)(dom:α->Prop)(rel:α->Rf):bV:=λds _ Q=>∃a,ds=enc a/\dom a/\∀d,rel a d->Q d
theorem rlS.mono{α:Type}{enc:α->Rc}{dom:α->Prop}{rel:α->Rf}:qh (rlS enc dom rel):=λds E E' Q Q' _ hQ ⟨a,h1,h2,h3⟩=>⟨a,h1,h2,λd r=>hQ _<|h3 d r⟩
theorem rlS.len{α:Type}{enc:α->Rc}{dom:α->Prop}{rel:α->Rf}(hp:∀a,(enc a).length=ps.length):∀ds E Q,rlS enc dom rel ds E Q->ds.length=ps.length:=λds E Q ⟨a,h1,_⟩=>by rw[h1];exact hp a
theorem Fp.of{w:World}{base:Heap}(h:eD P w K mg base (dj P w) k f fd ps (h9 K S))(m:qh S)(hm:mg x=some (.ref f))(kp:PySem.W.keepIn K (.ref f)=true)(hb:Binds K fd ps []) :
  Fp P w K mg base k x ps S:=⟨⟨f,fd,h,hm,kp,hb⟩,m⟩
section
variable{tail:cV}{Q:Rc->Prop}
theorem vv{f:D->D}(h:∀d∈ds,∀Q:D->Prop,Q (f d)->we No (.d d::tail) Q):∀(sv:SV) (acc:Rc),acc.length+ds.length<=aO->Q (acc++ds.map f)->lcW (gN 0) cX we ds (sv::tail) acc Q:=by
 induction ds with
 |nil=>intro sv acc _ hq;simpa[lcW] using hq|cons d ds ih=>intro sv acc hl hq;rw[lcW];show we No (SV.d d::tail) _;refine h d (gZ ..) _ ⟨?_,?_⟩;rw[dR]at hl;omega;refine ih (λd hd=>h d<|fM _ hd) (.d d) _ ?_ ?_;rw[fN,rB];rw[dR]at hl;omega;rw[oU];exact hq
theorem FU{R:D->Rf}(h:∀d∈ds,∀Q:D->Prop,(∀y,R d y->Q y)->we No (.d d::tail) Q):∀(sv:SV) (acc:Rc),acc.length+ds.length<=aO->(∀ys,ys.length=ds.length->(∀y∈ys,∃d,d∈ds/\R d y)->Q (acc++ys))->lcW (gN 0) cX we ds (sv::tail) acc Q:=by
 induction ds with
 |nil=>intro sv acc _ hq;simpa[lcW] using hq [] rfl KE
 |cons d ds ih=>
  intro sv acc hl hq;rw[lcW];show we No (SV.d d::tail) _;refine h d (gZ ..) _ λy hy=>⟨?_,?_⟩;rw[dR]at hl;omega;refine ih (λd hd=>h d<|fM _ hd) (.d d) _ ?_ λys hl' hys=>?_;rw[fN,rB];rw[dR]at hl;omega;rw[oU];refine hq (y::ys) (by rw[dR,dR,hl']) λz hz=>?_;rcases Yan.mp hz with rfl|hz
  exact⟨d,gZ ..,hy⟩;obtain⟨d',h1,h2⟩:=hys z hz;exact⟨d',fM _ h1,h2⟩
end
mutual
def dq:D->Nat->Bool
 |.non,_=>true|.bl _,_=>true|.int _,_=>true|.str x,_=>PyData.canLay0<|.str x
 |.tup xs,n=>decide (0<n)&&gJ xs (n-1)|.lst xs,n=>decide (0<n)&&gJ xs (n-1)|.dic,_=>false|.pen,_=>false|.cls _,_=>false|.exc _,_=>false|.ty _,_=>false|.pl _ _,_=>false|.scr _,_=>false
def gJ:Rc->Nat->Bool
 |[],_=>true|x::r,n=>dq x n&&gJ r n
end
mutual
def pd:D->PyData
 |.non=>.none|.bl b=>.bool b|.int i=>.int i|.str x=>.str x|.tup xs=>.tuple<|iP xs
 |.lst xs=>.list<|iP xs
 |.dic=>.none|.pen=>.none|.cls _=>.none|.exc _=>.none|.ty _=>.none|.pl _ _=>.none|.scr _=>.none
def iP:Rc->List PyData
 |[]=>[]|x::r=>pd x::iP r
end
mutual
theorem Ar:∀(x:D) (n:Nat),dq x n=true->iM x=some (pd x)/\(pd x).canLay0=true/\(pd x).depth<=n
 |.non,n,_=>⟨rfl,rfl,by rw[pd,PyData.depth];exact jT _⟩|.bl _,n,_=>⟨rfl,rfl,by rw[pd,PyData.depth];exact jT _⟩|.int _,n,_=>⟨rfl,rfl,by rw[pd,PyData.depth];exact jT _⟩|.str x,n,h=>⟨rfl,by rw[dq]at h;exact h,by rw[pd,PyData.depth];exact jT _⟩|.tup xs,n,h=>by rw[dq,dX,Qo]at h;obtain⟨h1,h2,h3⟩:=Dh xs (n-1) h.2;refine⟨by rw[iM,h1,pd];rfl,by rw[pd,PyData.canLay0];exact h2,by rw[pd,PyData.depth];omega⟩
 |.lst xs,n,h=>by rw[dq,dX,Qo]at h;obtain⟨h1,h2,h3⟩:=Dh xs (n-1) h.2;refine⟨by rw[iM,h1,pd];rfl,by rw[pd,PyData.canLay0];exact h2,by rw[pd,PyData.depth];omega⟩
 |.dic,n,h=>by rw[dq]at h;cases h
 |.pen,n,h=>by rw[dq]at h;cases h
 |.cls _,n,h=>by rw[dq]at h;cases h
 |.exc _,n,h=>by rw[dq]at h;cases h
 |.ty _,n,h=>by rw[dq]at h;cases h
 |.pl _ _,n,h=>by rw[dq]at h;cases h
 |.scr _,n,h=>by rw[dq]at h;cases h
theorem Dh:∀(xs:Rc) (n:Nat),gJ xs n=true->gy xs=some (iP xs)/\PyData.canLayAll0 (iP xs)=true/\PyData.depthAll (iP xs)<=n
 |[],n,_=>⟨by rw[gy,iP],by rw[iP,PyData.canLayAll0],by rw[iP,PyData.depthAll];exact jT _⟩|x::r,n,h=>by rw[gJ,dX]at h;obtain⟨h1,h2,h3⟩:=Ar x n h.1;obtain⟨q1,q2,q3⟩:=Dh r n h.2;exact⟨by rw[gy,h1,q1,iP],by rw[iP,PyData.canLayAll0,h2,q2];rfl,by rw[iP,PyData.depthAll];omega⟩
end
def k6(x y:D):Bool:=PyData.eqv (pd x)<|pd y
theorem rc{x:D}{neg:Bool}(hx:dq x 60=true)(hy:dq y 60=true)(h:Q (.bl (if neg then !k6 x y else k6 x y))):gEq neg x y Q:=by obtain⟨a1,a2,a3⟩:=Ar x 60 hx;obtain⟨b1,b2,b3⟩:=Ar y 60 hy;refine⟨pd x,pd y,a1,b1,?_,?_,h⟩;unfold PySem.SeqAt.shaped;rw[a2,Qm<|E8];rfl;unfold PySem.SeqAt.shaped;rw[b2,Qm<|E8];rfl
mutual
theorem FV:∀p:PyData,p.canLay0=true->PyData.eqv p p=true
 |.none,_=>by rw[PyData.eqv]|.bool b,_=>by rw[PyData.eqv];exact Qx b|.int i,_=>by rw[PyData.eqv];exact Qx i|.str x,_=>by rw[PyData.eqv];exact Qx x|.list xs,h=>by rw[PyData.eqv];exact Di xs (by rw[PyData.canLay0]at h;exact h)|.tuple xs,h=>by rw[PyData.eqv];exact Di xs (by rw[PyData.canLay0]at h;exact h)|.dict _,h=>by rw[PyData.canLay0]at h;cases h
theorem Di:∀ps:List PyData,PyData.canLayAll0 ps=true->PyData.eqvAll ps ps=true
 |[],_=>by rw[PyData.eqvAll]|p::ps,h=>by rw[PyData.canLayAll0,dX]at h;rw[PyData.eqvAll,FV p h.1,Di ps h.2];rfl
end
theorem LG{x:D}(h:dq x n=true):k6 x x=true:=FV _ (Ar x n h).2.1
theorem ur{x:D}{neg:Bool}(hx:dq x 60=true)(h:Q (.bl (!neg))):gEq neg x x Q:=by refine rc hx hx ?_;rw[LG hx];cases neg<;>exact h
theorem Zl(i:Int)(n:Nat):dq (.int i) n=true:=by rw[dq]
theorem FW(h:∀x∈xs,dq x n=true):gJ xs n=true:=by
 induction xs with
 |nil=>rw[gJ]|cons x xs ih=>rw[gJ,h x<|gZ ..,ih λy hy=>h y<|fM _ hy];rfl
theorem xC(h:∀x∈xs,dq x n=true):dq (.tup xs) (n+1)=true:=by rw[dq,FW (n:=n+1-1) h];simp
theorem xD(h:∀x∈xs,dq x n=true):dq (.lst xs) (n+1)=true:=by rw[dq,FW (n:=n+1-1) h];simp
mutual
theorem Dj:∀(x:D) {n m:Nat},n<=m->dq x n=true->dq x m=true
 |.non,_,_,_,_=>by rw[dq]|.bl _,_,_,_,_=>by rw[dq]|.int _,_,_,_,_=>by rw[dq]|.str x,_,_,_,h=>by rw[dq]at h ⊢;exact h|.tup xs,n,m,l,h=>by rw[dq,dX,Qo]at h ⊢;exact⟨E8,Dk xs E8 h.2⟩|.lst xs,n,m,l,h=>by rw[dq,dX,Qo]at h ⊢;exact⟨E8,Dk xs E8 h.2⟩|.dic,_,_,_,h=>by rw[dq]at h;cases h
 |.pen,_,_,_,h=>by rw[dq]at h;cases h
 |.cls _,_,_,_,h=>by rw[dq]at h;cases h
 |.exc _,_,_,_,h=>by rw[dq]at h;cases h
 |.ty _,_,_,_,h=>by rw[dq]at h;cases h
 |.pl _ _,_,_,_,h=>by rw[dq]at h;cases h
 |.scr _,_,_,_,h=>by rw[dq]at h;cases h
theorem Dk:∀(xs:Rc) {n m:Nat},n<=m->gJ xs n=true->gJ xs m=true
 |[],_,_,_,_=>by rw[gJ]|x::r,n,m,l,h=>by rw[gJ,dX]at h ⊢;exact⟨Dj x l h.1,Dk r l h.2⟩
end
noncomputable def aU(q:Rat):D:=.tup [.int q.num,.int (q.den:Int)]
def aH(r:QZ):D:=.tup<|r.map aU
def Sz(n:Nat)(q:Rat):Prop:=q.num.natAbs<2^n/\q.den<2^n
theorem Sz.mono(l:n<=m)(h:Sz n q):Sz m q:=
 have:=jU (n:=2) F4 l
 ⟨dw h.1 this,dw h.2 this⟩
theorem FX{a:Int}{g:Nat}(hg:g≠0)(h:(g:Int)∣a):(a/(g:Int)).natAbs<=a.natAbs:=by
 obtain⟨c,rfl⟩:=h;have hg':(g:Int)≠0:=by exact_mod_cast hg
 rw[BX _ hg',eI,oZ];exact Nat.le_mul_of_pos_left _ E8
theorem FY(a:Int)(hb:b≠0):(mkRat a b).num.natAbs<=a.natAbs/\(mkRat a b).den<=b:=by rw[Rat.num_mkRat,Rat.den_mkRat,fz hb,fz hb];refine⟨FX (λz=>?_)<|Int.ofNat_dvd_left.mpr<|Nat.gcd_dvd_right ..,Nat.div_le_self _ _⟩;rw[Nat.gcd_eq_zero_iff]at z;exact hb z.1
theorem sj(h:a<2^n)(h':b<2^m):a*b<2^(n+m):=by
 rw[kx];rcases Nat.eq_zero_or_pos a with rfl|ha
 rw[Nat.zero_mul];exact Nat.mul_pos (zR<|F4)<|zR F4
 exact dw (Nat.mul_lt_mul_of_pos_left h' ha)<|mR _ (gP h)
theorem Sz.add{p:Rat}(h:Sz n p)(h':Sz m q):Sz (n+m+1) (p+q):=by
 rw[Rat.add_def'];have z:p.den*q.den≠0:=BY p.den_nz q.den_nz;have:=FY (p.num*q.den+q.num*p.den) z;have a1:=sj h.1 h'.2;have a2:=sj h'.1 h.2;have a3:=sj h.2 h'.2;rw[vQ m n]at a2;have e:2^(n+m+1)=2^(n+m)+2^(n+m):=by rw[vc];omega
 have t:=rD (p.num*q.den)<|q.num*p.den;rw[eI,eI,oZ,oZ]at t;exact⟨E8,E8⟩
theorem Sz.neg{p:Rat}(h:Sz n p):Sz n (-p):=⟨by rw[Rat.neg_num,Int.natAbs_neg];exact h.1,h.2⟩
theorem Sz.sub{p:Rat}(h:Sz n p)(h':Sz m q):Sz (n+m+1) (p-q):=by rw[Rat.sub_eq_add_neg];exact h.add h'.neg
theorem Sz.mul{p:Rat}(h:Sz n p)(h':Sz m q):Sz (n+m) (p*q):=by rw[Rat.mul_def'];have z:p.den*q.den≠0:=BY p.den_nz q.den_nz;have:=FY (p.num*q.num) z;have a1:=sj h.1 h'.1;have a3:=sj h.2 h'.2;rw[eI]at this;exact⟨E8,E8⟩
theorem Sz.inv{p:Rat}(h:Sz n p):Sz n p⁻¹:=by
 unfold Sz;rw[Rat.num_inv,Rat.den_inv,eI,oZ];have:=p.den_pos;have h1:=h.1;have h2:=h.2;constructor;rcases Int.lt_trichotomy p.num 0 with z|z|z
 rw[Fq z];simpa using h2;rw[z];simp;omega;rw[Int.sign_eq_one_of_pos z];simpa using h2;split;omega;exact h1
theorem Sz.div{p:Rat}(h:Sz n p)(h':Sz m q):Sz (n+m) (p/q):=by rw[gD];exact h.mul h'.inv
theorem Sz.int(i:Int)(hn:0<n)(h:i.natAbs<2^n):Sz n (i:Rat):=⟨by rw[BZ];exact h,by rw[B0];exact zS<|E8⟩
theorem Sz.zero(hn:0<n):Sz n (0:Rat):=⟨by rw[Rat.zero_num];exact Nat.two_pow_pos n,by rw[Rat.zero_den];exact zS<|E8⟩
theorem Sz.bd(h:Sz n q)(l:n<=8990):Bd q.num/\Bd (q.den:Int):=by have:=h.mono l;exact⟨this.1,by unfold Bd;rw[oZ];exact this.2⟩
def B2(p q:Rat):Prop:=∃n m,Sz n p/\Sz m q/\n+m<8990
theorem B2.of{p:Rat}(h:Sz n p)(h':Sz m q)(l:n+m<8990):B2 p q:=⟨n,m,h,h',l⟩
theorem B2.mul{p:Rat}(h:B2 p q):r8 p.num q.den/\r8 q.num p.den/\r8 p.den q.den/\r8 p.num q.num/\Bd ((p.den:Int)*q.den)/\(p.den:Int)*q.den≠0/\r8 p.den q.num/\(Bd<|(p.den:Int)*q.num):=by
 obtain⟨n,m,h1,h2,l⟩:=h;have b1:=h1.bd E8;have b2:=h2.bd E8;refine⟨⟨b1.1,b2.2⟩,⟨b2.1,b1.2⟩,⟨b1.2,b2.2⟩,⟨b1.1,b2.1⟩,?_,?_,⟨b1.2,b2.1⟩,?_⟩;have:=sj h1.2 h2.2;unfold Bd;rw[eI,oZ,oZ];exact dw this<|jU F4 E8
 have:=BY p.den_nz q.den_nz;exact_mod_cast this;have:=sj h1.2 h2.1;unfold Bd;rw[eI,oZ];exact dw this<|jU F4 E8
def du:QZ->QZ->Rat
 |[],_=>0|_::_,[]=>0|x::xs,y::ys=>x*y+du xs ys
theorem ut(q:Rat)(n:Nat):dq (aU q) (n+1)=true:=xC (by simp[dq])
theorem LH(r:QZ)(n:Nat):dq (aH r) (n+2)=true:=xC λx hx=>by obtain⟨q,_,rfl⟩:=YbU.mp hx;exact ut q n
def aT(xs:QY):D:=.tup<|xs.map .int
def aY(xs:QY):D:=.lst<|xs.map .int
theorem As(xs:QY)(n:Nat):dq (aT xs) (n+1)=true:=xC λx hx=>by obtain⟨i,_,rfl⟩:=YbU.mp hx;rw[dq]
theorem FZ{t b:Int}(hb:b≠0):(t.fdiv (if b<0 then -(Int.gcd t b:Int) else(Int.gcd t b:Int))=(Rat.divInt t b).num)/\(b.fdiv (if b<0 then -(Int.gcd t b:Int) else(Int.gcd t b:Int))=((Rat.divInt t b).den:Int)):=by
 have hg:0<Int.gcd t b:=B1 _ hb;have hg':(0:Int)<(Int.gcd t b:Int):=by exact_mod_cast hg
 obtain⟨c,hc⟩:=Int.gcd_dvd_left (a:=t) (b:=b);obtain⟨d,hd⟩:=Int.gcd_dvd_right (a:=t) (b:=b);rw[Rat.num_divInt,Rat.den_divInt,fz hb,Int.gcd_comm b t];generalize Int.gcd t b=g at *;subst hc hd;have gne:(g:Int)≠0:=E8
 split;rename_i h;have hd:d<0:=by
  rcases Int.lt_or_le d 0 with z|z
  exact z;have:=Int.mul_nonneg (Int.le_of_lt hg') z;omega
 rw[Fq h];constructor;rw[show(g:Int)*c=(-(g:Int))*(-c) by rw[zT],zU _<|E8,zT,show(-1:Int)*((g:Int)*c)=(g:Int)*(-c) by rw[Int.neg_mul,vR,Int.mul_neg],BX _ gne];rw[show(g:Int)*d=(-(g:Int))*(-d) by rw[zT],zU _<|E8,zT,eI,oZ,Nat.mul_div_cancel_left _ hg];omega;rename_i h;have hd:0<d:=by
  rcases Int.lt_or_le 0 d with z|z
  exact z;exfalso;have h1:(g:Int)*d<=0:=by
   have:=Int.mul_le_mul_of_nonneg_left z<|Int.le_of_lt hg'
   rwa [vS]at this
  omega
 have hp:0<(g:Int)*d:=Int.mul_pos hg' hd;rw[Int.sign_eq_one_of_pos hp,vR];constructor;rw[zU _ gne,BX _ gne];rw[zU _ gne,eI,oZ,Nat.mul_div_cancel_left _ hg];omega
mutual
def kd:D->Bool
 |.tup xs=>decide (xs.length<=5000)&&sr xs|.lst xs=>decide (xs.length<=5000)&&sr xs|.non=>true|.bl _=>true|.int _=>true|.str _=>true|.dic=>true|.pen=>false|.cls _=>false|.exc _=>false|.ty _=>false|.pl _ _=>false|.scr _=>false
def sr:Rc->Bool
 |[]=>true|x::r=>kd x&&sr r
end
theorem Dl:∀{xs:Rc},sr xs=true->∀x∈xs,kd x=true
 |x::r,h,y,hy=>by
  rw[sr,dX]at h;rcases Yan.mp hy with rfl|hy
  exact h.1;exact Dl h.2 y hy
theorem Dm:∀{xs:Rc},(∀x∈xs,kd x=true)->sr xs=true
 |[],_=>by rw[sr]|x::r,h=>by rw[sr,h x<|gZ ..,Dm λy hy=>h y<|fM _ hy];rfl
theorem uu(h:kd (.tup xs)=true):xs.length<=5000/\∀x∈xs,kd x=true:=by rw[kd,dX,Qo]at h;exact⟨h.1,Dl h.2⟩
theorem LI(h:kd (.lst xs)=true):xs.length<=5000/\∀x∈xs,kd x=true:=by rw[kd,dX,Qo]at h;exact⟨h.1,Dl h.2⟩
theorem At(h1:xs.length<=5000)(h2:∀x∈xs,kd x=true):kd (.tup xs)=true:=by rw[kd,Qm h1,Dm h2];rfl
theorem LJ(h1:xs.length<=5000)(h2:∀x∈xs,kd x=true):kd (.lst xs)=true:=by rw[kd,Qm h1,Dm h2];rfl
theorem xE{x:D}(h:kd x=true):∃t,Ak x=some t:=by
 cases x<;>first
  |exact⟨_,rfl⟩
  |(rw[kd]at h;cases h)
theorem Do(q:Rat):kd (aU q)=true:=At KE (by simp[kd])
theorem Au(h:r.length<=5000):kd (aH r)=true:=At (by simpa using h) λx hx=>by obtain⟨q,_,rfl⟩:=YbU.mp hx;exact Do q
theorem LK{r:QY}(h:r.length<=5000):kd (aT r)=true:=At (by simpa using h) λx hx=>by obtain⟨q,_,rfl⟩:=YbU.mp hx;rw[kd]
def qk:D->Bool
 |.int _=>true|_=>false
noncomputable def k9(l m:Int):D->Bool
 |.int i=>decide (l<=i)&&decide (i<=m)|_=>false
def mB(l m:Int):D->Bool
 |.tup xs=>xs.all<|k9 l m
 |_=>false
noncomputable def de:D->Bool
 |.tup [.int t,.int b]=>decide (0<b)&&(Int.gcd t b==1)|_=>false
def gW(n:Int):D->Bool
 |.tup xs=>((xs.length:Int)==n)&&xs.all de|_=>false
def xF(l m:Int):D->Bool
 |.tup xs=>decide (l<=(xs.length:Int))&&decide ((xs.length:Int)<=m)&&xs.all de|_=>false
def uv:bV:=fnS (λx:D=>[x]) (λx=>kd x=true) λx=>.bl<|qk x
def xG:bV:=fnS (λx:D×Int×Int=>[x.1,.int x.2.1,.int x.2.2]) (λx=>kd x.1=true) λx=>.bl<|k9 x.2.1 x.2.2 x.1
def Av:bV:=fnS (λx:D×Int×Int=>[x.1,.int x.2.1,.int x.2.2]) (λx=>kd x.1=true) λx=>.bl<|mB x.2.1 x.2.2 x.1
def xH:bV:=fnS (λx:Int×Int=>[.int x.1,.int x.2]) (λ_=>True) λx=>.int<|Int.gcd x.1 x.2
def Aw:bV:=fnS (λx:D=>[x]) (λx=>kd x=true) λx=>.bl<|de x
def Ax:bV:=fnS (λx:D×Int×Int=>[x.1,.int x.2.1,.int x.2.2]) (λx=>kd x.1=true) λx=>.bl<|xF x.2.1 x.2.2 x.1
def xI:bV:=fnS (λx:D×Int=>[x.1,.int x.2]) (λx=>kd x.1=true) λx=>.bl<|gW x.2 x.1
def uw:bV:=fnS (λx:Int×Int=>[.int x.1,.int x.2]) (λx=>x.2≠0/\Bd x.2) λx=>aU<|Rat.divInt x.1 x.2
def Ay:bV:=fnS (λx:Rat×Rat=>[aU x.1,aU x.2]) (λx=>B2 x.1 x.2) λx=>aU<|x.1+x.2
def uz:bV:=fnS (λx:Rat×Rat=>[aU x.1,aU x.2]) (λx=>B2 x.1 x.2) λx=>aU<|x.1-x.2
def uA:bV:=fnS (λx:Rat×Rat=>[aU x.1,aU x.2]) (λx=>B2 x.1 x.2) λx=>aU<|x.1*x.2
def mC:bV:=fnS (λx:Rat×Rat=>[aU x.1,aU x.2]) (λx=>B2 x.1 x.2/\x.2≠0) λx=>aU<|x.1/x.2
def ii(b:Bool)(xs:Rc):D:=if b then .tup xs else .lst xs
def uB:bV:=fnS (λx:Bool×QY=>[ii x.1<|x.2.map .int]) (λx=>x.2.length<=5000) λx=>aH<|x.2.map λ(i:Int)=>(i:Rat)
def BR(p q:QZ):Prop:=∃n m,(∀x∈p,Sz n x)/\(∀x∈q,Sz m x)/\p.length*(n+m+1)+(n+m)+1<8990
def xJ:bV:=fnS (λx:(Bool×Bool)×QZ×QZ=>[ii x.1.1<|x.2.1.map aU,ii x.1.2<|x.2.2.map aU]) (λx=>BR x.2.1 x.2.2) λx=>aU<|du x.2.1 x.2.2
structure IsSl(s:QY)(n:Nat):Prop where
 len:s.length+1=2*n
 n1:1<=n
 n5:n<=5
 b:∀x∈s,-50<=x/\x<=50
noncomputable def tbl(s:QY)(n:Nat):K5:=(List.range n).map λi=>(s.drop<|n-1-i).take n
def bC(s:QY)(n:Nat):D:=.lst<|(tbl s n).map aY
def fZ:D->Bool
 |.tup xs=>xs.all (k9 (-50) 50)&&decide (xs.length%2=1)&&decide (xs.length<=9)|_=>false
abbrev SL:=QY×Nat
def mZ:bV:=fnS (λx:Rc=>[.tup x]) (λx=>x.length<=5000) λx=>.int<|((x.length:Int)+1)/2
def Az:bV:=fnS (λx:D=>[x]) (λx=>kd x=true) λx=>.bl<|fZ x
noncomputable def vw:D->Int
 |.int i=>i|_=>0
def sI:D->QY
 |.tup xs=>xs.map vw|_=>[]
def sN(x:D):Nat:=((sI x).length+1)/2
def ij(x:D)(v:Except Str D):Except Str D:=if fZ x=true then v else .error "NoSlants"
def ql:bV:=xS (λx:D=>[x]) (λx=>kd x=true) λx=>ij x<|.ok .non
def xK:bV:=xS (λx:D=>[x]) (λx=>kd x=true) λx=>ij x<|.ok (bC (sI x)<|sN x)
def hd(r:QY):Int:=r.headD 0
def AA:bV:=xS (λx:D=>[x]) (λx=>kd x=true) λx=>ij x<|.ok (aT (sI x).reverse)
def cor(s:QY)(n k:Nat):QY:=(s.drop<|n-k).take<|2*k-1
def uC:bV:=xS (λx:D×D=>[x.1,x.2]) (λx=>kd x.1=true/\kd x.2=true) λx=>ij x.1 (if k9 1 (sN x.1) x.2=true then .ok (aT<|cor (sI x.1) (sN x.1) (vw x.2).toNat) else .error "NoNumber")
def vz:bV:=xS (λx:D×D=>[x.1,x.2]) (λx=>kd x.1=true/\kd x.2=true) λx=>ij x.1<|.ok (.bl<|gW (sN x.1) x.2)
noncomputable def dJ(r:QY):QZ:=r.map λ(i:Int)=>(i:Rat)
def AB:bV:=fnS (λx:SL=>[aT x.1]) (λx=>IsSl x.1 x.2) λx=>.lst<|(tbl x.1 x.2).map λr=>aH (dJ r)
def bR(s:QY)(n:Nat)(r:QZ):QZ:=(tbl s n).map λline=>du (dJ line) r
def BS(r:QZ):Prop:=∃m,(∀x∈r,Sz m x)/\m<=1400
noncomputable def uD:D->Rat
 |.tup [.int t,.int b]=>Rat.divInt t b|_=>0
def rQ:D->QZ
 |.tup xs=>xs.map uD|_=>[]
def ss:bV:=xS (λx:D×D=>[x.1,x.2]) (λx=>kd x.1=true/\kd x.2=true/\∀r,x.2=aH r->BS r) λx=>ij x.1 (if gW (sN x.1) x.2=true then .ok (aH<|bR (sI x.1) (sN x.1)<|rQ x.2) else .error "NoRow")
section
variable{E:Rb}{x:D}{l m a b:Int}{p:Rat}
theorem LL(h:kd x=true)(q:Q (.bl<|k9 l m x)):xG [x,.int l,.int m] E Q:=⟨(x,l,m),rfl,h,q⟩
theorem LM(h:kd x=true)(q:Q (.bl<|mB l m x)):Av [x,.int l,.int m] E Q:=⟨(x,l,m),rfl,h,q⟩
theorem LN(h:kd x=true)(q:Q (.bl<|xF l m x)):Ax [x,.int l,.int m] E Q:=⟨(x,l,m),rfl,h,q⟩
theorem LO(h:kd x=true)(q:Q (.bl<|gW a x)):xI [x,.int a] E Q:=⟨(x,a),rfl,h,q⟩
theorem Dp(h:B2 p q)(z:Q (aU<|p-q)):uz [aU p,aU q] E Q:=⟨(p,q),rfl,h,z⟩
theorem F0(h:B2 p q)(z:Q (aU<|p*q)):uA [aU p,aU q] E Q:=⟨(p,q),rfl,h,z⟩
theorem uE(h:B2 p q)(h':q≠0)(z:Q (aU<|p/q)):mC [aU p,aU q] E Q:=⟨(p,q),rfl,⟨h,h'⟩,z⟩
theorem F1{xs:QY}(h:xs.length<=5000)(q:Q (aH<|dJ xs)):uB [aY xs] E Q:=⟨(false,xs),rfl,h,q⟩
theorem LQ{xs:QY}(h:xs.length<=5000)(q:Q (aH<|dJ xs)):uB [aT xs] E Q:=⟨(true,xs),rfl,h,q⟩
theorem F2{p q:QZ}(h:BR p q)(z:Q (aU<|du p q)):xJ [aH p,aH q] E Q:=⟨((true,true),p,q),rfl,h,z⟩
theorem IsSl.l9(h:IsSl s n):s.length<=9:=by have:=h.len;have:=h.n5;omega
theorem F3(h:xs.length<=5000)(q:Q (.int<|((xs.length:Int)+1)/2)):mZ [.tup xs] E Q:=⟨xs,rfl,h,q⟩
theorem uF(h:IsSl s n)(q:Q (.int n)):mZ [aT s] E Q:=by
 have:=h.l9;have:=h.len;refine F3 (by simp;omega) ?_;have e:(((s.map D.int).length:Int)+1)/2=n:=by rw[bH];omega
 rw[e];exact q
theorem LR(h:kd x=true)(q:Q (.bl<|fZ x)):Az [x] E Q:=⟨x,rfl,h,q⟩
theorem LT(h:IsSl s n):fZ (aT s)=true:=by unfold fZ aT;simp only[bH];have hl:=h.len;have h5:=h.n5;have h1:=h.n1;rw[Qm (by omega:s.length%2=1),Qm (by omega:s.length<=9),Bool.and_true,Bool.and_true,Ybd];intro x hx;obtain⟨i,hi,rfl⟩:=YbU.mp hx;have:=h.b i hi;simp[k9,this.1,this.2]
theorem IsSl.kd{s:QY}{n:Nat}(h:IsSl s n):kd (aT s)=true:=LK (by have:=h.l9;omega)
theorem Dq(q:Rat):de (aU q)=true:=by
 unfold de aU;have h1:(0:Int)<(q.den:Int):=by exact_mod_cast q.den_pos
 have h2:Int.gcd q.num (q.den:Int)=1:=q.reduced;simp[h2,q.den_pos]
theorem AC(r:QZ):gW r.length (aH r)=true:=by unfold gW aH;simp[Dq]
theorem fw(s:QY):sI (aT s)=s:=by show(s.map D.int).map vw=s;rw[dG];exact(jo λ_ _=>rfl).trans (zV _)
theorem IsSl.sN(h:IsSl s n):sN (aT s)=n:=by unfold LP.sN;rw[fw];have:=h.len;omega
theorem gK(h:IsSl s n){v:Except Str D}:ij (aT s) v=v:=by unfold ij;rw[LT h,ks rfl]
theorem m6{v:Except Str D}(h:fZ x=false):ij x v=.error "NoSlants" :=by unfold ij;rw[h,fz<|F4]
theorem m7(h:fZ x=true):∃s n,x=aT s/\IsSl s n:=by
 cases x<;>try (cases h;done)
 rename_i xs;simp only[fZ,dX,Qo,Ybd]at h;obtain⟨⟨h1,h2⟩,h3⟩:=h;have e:xs=(xs.map vw).map D.int:=by rw[dG];refine((jo λx hx=>?_).trans (zV _)).symm;have:=h1 x hx;cases x<;>first|rfl|cases this
 refine⟨xs.map vw,(xs.length+1)/2,by unfold aT;rw[<-e],⟨by rw[bH];omega,E8,E8,λi hi=>?_⟩⟩;obtain⟨x,hx,rfl⟩:=YbU.mp hi;have:=h1 x hx;cases x<;>first|(cases this;done)|skip
 simp only[k9,dX,Qo]at this;exact this
theorem uG(q:Rat):uD (aU q)=q:=by unfold uD aU;exact vd q
theorem re(r:QZ):rQ (aH r)=r:=by show(r.map aU).map uD=r;rw[dG];exact(jo λq _=>uG q).trans (zV _)
theorem LU{r':QZ}(h:aH r=aH r'):r=r':=by rw[<-re r,h,re]
theorem Dr(h:de d=true):∃q,d=aU q:=by
 unfold de at h;split at h;rename_i t b;simp only[dX,Qo,QM]at h;have hb:((b.toNat:Nat):Int)=b:=BV E8;refine⟨⟨t,b.toNat,E8,?_⟩,?_⟩;have:b.natAbs=b.toNat:=E8
 have h2:=h.2;unfold Int.gcd at h2;rw[this]at h2;exact h2;unfold aU;rw[hb];cases h
theorem F5:∀{xs:Rc},xs.all de=true->∃r:QZ,xs=r.map aU
 |[],_=>⟨[],rfl⟩|x::xs,h=>by rw[sS,dX]at h;obtain⟨q,rfl⟩:=Dr h.1;obtain⟨r,rfl⟩:=F5 h.2;exact⟨q::r,rfl⟩
theorem AD{a:Int}(h:gW a x=true):∃r,x=aH r/\(r.length:Int)=a:=by
 cases x<;>try (cases h;done)
 rename_i xs;simp only[gW,dX,QM]at h;obtain⟨r,rfl⟩:=F5 h.2;exact⟨r,rfl,by simpa using h.1⟩
theorem F6(h:IsSl s n)(q:Q .non):ql [aT s] E Q:=xS.ok (aT s) rfl h.kd (gK h) q
theorem F7(h:kd x=true)(hb:fZ x=false)(e:E "NoSlants"):ql [x] E Q:=xS.err x rfl h (m6 hb) e
theorem F8(h:IsSl s n)(q:Q (bC s n)):xK [aT s] E Q:=xS.ok (aT s) rfl h.kd (by(try dsimp only);rw[gK h,fw,h.sN]) q
theorem LV(h:IsSl s n)(q:Q (aT s.reverse)):AA [aT s] E Q:=xS.ok (aT s) rfl h.kd (by(try dsimp only);rw[gK h,fw]) q
theorem Ds(h:IsSl s n)(h1:1<=k)(h2:k<=n)(q:Q (aT<|cor s n k)):uC [aT s,.int k] E Q:=xS.ok (aT s,.int k) rfl ⟨h.kd,by rw [kd]⟩ (by
 have e:k9 1 (n:Int) (.int k)=true:=by simp[k9];omega
 dsimp only;rw[gK h,h.sN,fw,e,ks rfl];rfl) q
theorem F9(h:IsSl s n)(hk:kd x=true)(q:Q (.bl<|gW n x)):vz [aT s,x] E Q:=xS.ok (aT s,x) rfl ⟨h.kd,hk⟩ (by(try dsimp only);rw[gK h,h.sN]) q
theorem LW(h:kd x=true)(hk:kd y=true)(hb:fZ x=false)(e:E "NoSlants"):vz [x,y] E Q:=xS.err (x,y) rfl ⟨h,hk⟩ (m6 hb) e
theorem LY(h:IsSl s n)(q:Q (.lst<|(tbl s n).map λr=>aH<|dJ r)):AB [aT s] E Q:=⟨(s,n),rfl,h,q⟩
theorem xL(h:IsSl s n)(hl:r.length=n)(hb:BS r)(q:Q (aH<|bR s n r)):ss [aT s,aH r] E Q:=xS.ok (aT s,aH r) rfl ⟨h.kd,Au (by have:=h.n5;omega),λr' e=>by rw [<- LU e];exact hb⟩ (by
 have er:gW n (aH r)=true:=by rw[<-hl];exact AC r
 dsimp only;rw[gK h,h.sN,fw,er,ks rfl,re]) q
end
theorem uH{C:Addr}(h:PySem.W.nsIn K mainGlobals x=some (some<|.ref C)):h7 K x=some C:=by unfold h7;rw[h]
section
variable{C:Addr}{newId initId:String}{bmB:QX}
def jg(x:Str):WS:=λE _ _=>E x
structure XC(K:Qh)(mg:QW)(x:Str):Prop where
 h:∃(C:Addr) (newId initId:String) (bmB:QX),h7 K x=some C/\mg x=some (.ref C)/\PySem.W.excIn K C bmB newId=true/\ExcBaseFacts "ValueError" newId initId bmB
theorem xM(hr:jG X EX)(hx:XC X.K X.mg x)(hc:{X.calm=true})(hxn:(iK x=none:))(hg:{Gl X x})(hd:(Q7 x:)) :
  PZ X EX (.Raise (some<|.Call (.Name x np) [] [] cpos) none pos) (jg x):=by
 obtain⟨C,newId,initId,bmB,h1,h2,h3,h4⟩:=hx.h;exact⟨⟨_,Kr hr hc h2 h3 h4 hg hd,λW0 H0 F W σ H ρ E Dn N s fl eo no q=>eo x W H (.ref C) none q s.ext ⟨C,by rw[Lg hxn];exact h1,rfl,.none hxn⟩⟩,λE ρ N N' hl q=>q⟩
end
def xN(n i:Nat)(ex:Str):cV:=(List.replicate n SV.un).set i<|.d (.exc ex)
structure XT(K:Qh)(mg:QW)(x:Str)(L:Q4):Prop where
 h:∃(C:Addr) (newId:String) (bmB:QX),mg x=some (.ref C)/\PySem.W.excIn K C bmB newId=true/\bmB.contains (.type "BaseException")=true/\∀n∈L,∀D,h7 K (jH n)=some D->PySem.W.mroIn K D (.ref C)=some true
section
def fE(L:Q4)(n i:Nat)(zb zh:WS):WS:=λ_ N ρ=>∃E':Ex->Prop,(∀ex,E' ex->ex∈L/\zh No { nx:=λ_=>False,rt:=N.rt } (xN n i ex))/\zb E' N ρ
theorem LZ(L:Q4)(i:Nat){n cx:Str}{b0:Stmt}{zh:WS}{hpos:Pos}(hcx:XT X.K X.mg cx L)(hN:X.N.Nodup)
  (hb:∀xe E1 EX',cF (dj X.prog X.w) (X.tr xe E1) EX'->iy (X.tr xe E1) EX' body zb) (hh:∀e xe,iy (X.hnd e xe) E0 (b0::suite) zh)
  (hstk:X.stack=X.env::X.outer/\X.env.frame=some X.env.locals:=by exact⟨rfl,rfl⟩) (hi:{X.N[i]? = some n}) (hx:{X.env.scope.names.lookup n=some .local})
  (hg:{Gl X cx}) (hd:(Q7 cx:)) (hkf:{X.env.scope.kind=.function}) (hex:{X.ex=[]}) :
  PZ X EX (.Try body [.ExceptHandler (some<|.Name cx np) (some n) (b0::suite) hpos] [] [] pos) (fE L X.N.length i zb zh):=by
 have hbm:=(hb (λ_ _=>False) [] E0 cU).mono;refine⟨⟨λD σ H=>∃W0 H0 F W ρ N,SOk X.K W0 H0 W σ H ρ/\Wle F W/\C0 X.K W0 H0 F D N/\fE L X.N.length i zb zh No N ρ,?_,λW0 H0 F W σ H ρ E Dn N s fl eo no h=>⟨W0,H0,F,W,ρ,N,s,fl,no,h⟩⟩,λE ρ N N' hl ⟨E',h1,h2⟩=>⟨E',λex he=>⟨(h1 ex he).1,(hh 0 λ_ _=>False).mono _ _ { nx:=λ_=>False,rt:=N.rt } { nx:=λ_=>False,rt:=N'.rt } ⟨λ_ z=>z,hl.rt,λ_ z=>z,λ_ z=>z⟩ (h1 ex he).2⟩,hbm _ _ _ _ hl h2⟩⟩;rintro E1 s σ H D I ⟨W0,H0,F,W,ρ,N,so,fl,no,E',hE',hz⟩;obtain⟨Cs,newId,bmB,hm,hexc,hbase,hsub⟩:=hcx.h;have hcalm:=I.ok.hd
 let Eh:Value->Shared->Prop:=λe s1=>wpAny (model X.prog X.w) X.A (noteFrame e X.env) (λ_ s2=>wpAny (model X.prog X.w) X.A (setFlight e none) (λ_ s3=>wpAny (model X.prog X.w) X.A (handleBy e X.env [.ExceptHandler (some<|.Name cx np) (some n) (b0::suite) hpos]) (SP X E1 D) X.xe s3) X.xe s2) X.xe s1
 have pass:cF (dj X.prog X.w) (X.tr Eh E1) (λcls dx H'=>∃W' ex,Ext W0 H0 W' H'/\vn X.K W' H' cls dx ex/\E' ex):=by
  rintro pins' σ1 H1 s1 _ s' I1 ⟨ea,cls,dx,H',B,rfl,fly,hos,hbare,un,hok,hB,hT,W',ex,x',⟨C,hcl,rfl,hxd⟩,he⟩;have J:Inv X E1 σ1 H1 s1:=I1.untr;obtain⟨hL,hw⟩:=hE' ex he;have fly':Fl.Up (Fl.Is (.ref C) dx) B (X.env::X.outer) ea .none s'.heap:=by rw[<-hstk.1];exact fly
  have frm:∀b∈dg X.stack,∃o,s'.heap.get? b=some o/\∀vs,o.data≠.fields vs:=λb hb=>(fly.fr.mem hb).2;show wpAny (model X.prog X.w) X.A (noteFrame (.ref ea) X.env) _ _ s';refine Fl.note Fl.Is.firm (by rw[J.ok.frames,hstk.1]) hstk.2 fly' λh4 held4 up4=>?_;refine Fl.lands (s:={ s' with heap:=h4 }) held4 λh5 fl5 up5=>?_;have up45:=up4.trans up5;have J5:Inv X E1 σ1 H' { s' with heap:=h5 }:=J.fly hos hbare un hok hB hT fly.st fl5.st up45 frm;refine wpAny_handleBy_cons (codeAny_handlers_test ?_) (by intro q;cases q);refine eW (X:=X.hnd ea X.xe) J5.hnd hg hm ?_ hd;refine Ks J5.kIn hexc hbase (let⟨ob,z1,z2,_⟩:=fl5.there;⟨ob,z1,z2.1⟩) (hsub ex hL C hcl) ?_;refine codeAny_handlers_suite_as ?_;refine Fl.lands (s:={ s' with heap:=h5 }) fl5 λh6 fl6 up6=>?_;have J6:Inv X E1 σ1 H' { s' with heap:=h6 }:=J.fly hos hbare un hok hB hT fly.st fl6.st (up45.trans up6) frm
  obtain⟨oe0,g1,g2,vs0,g3⟩:=fly.there;have nofr:ea∉dg X.stack:=λhm=>by
   obtain⟨o,e,nf⟩:=frm ea hm;rw[g1]at e;cases e;exact nf _ g3
  have nB:B.get? ea=none:=fly.new;have noS:s1.heap.get? ea=none:=by
   cases q:s1.heap.get? ea with
   |none=>rfl|some o=>obtain⟨o',e⟩:=hB ea o q nofr;rw[nB]at e;cases e
  have hn':H' ea=none:=by
   cases q:H' ea with
   |none=>rfl|some u=>obtain⟨o,e⟩:=hT ea u q;rw[nB]at e;cases e
  have no0:X.s₀.heap.get? ea=none:=by
   cases q:X.s₀.heap.get? ea with
   |none=>rfl
   |some o=>
    obtain⟨o',e⟩:=J.base.there ea o q (by rw[hex];simp);rw[noS]at e;cases e
  have nL:ea≠X.env.locals:=λz=>by
   obtain⟨m,⟨o,es,ep,ho,_⟩,_⟩:=J.loc;rw[<-z,noS]at ho;cases ho
  have nC:∀x c,X.env.cells.lookup x=some c->c≠ea:=λx c e z=>by
   obtain⟨v,o,ho,_⟩:=J.cell x c e;rw[z,noS]at ho;cases ho
  have nP:∀p∈X.pn++E1,p.1≠ea:=λp hp z=>by
   have:=(J.pin p hp).1;rw[z,noS]at this;cases this
  obtain⟨oe,q1,q2,vs,q3⟩:=fl6.there;refine gp (X:=X.hnd ea X.xe) (v:=.ref ea) J6.hnd hN hi (Or.inl hx) rfl (λs7 J7 sb=>?_)<|.inr hx;have hat:∃oe,s7.heap.get? ea=some oe/\oe.cls=.ref C/\PySem.W.notCls oe=true/\oe.dict=dx/\∃vs,oe.data=.fields vs:=by
   obtain⟨a,hs,ha⟩:=sb;have hne:ea≠a:=λz=>by
    rcases ha with ha|ha
    .exact nL<|z.trans ha
    .exact nC _ _ ha z.symm
   refine⟨oe,(hs.2 ea hne).trans q1,q2.1,?_,q2.2,vs,q3⟩;unfold PySem.W.notCls;rw[q3]
  have J8:Inv (X.hnd ea λ_ _=>False) E1 (σ1.set i<|some<|.ref ea) (upd H' ea<|pP C ea dx) s7:=by
   refine((J7.unhnd hcalm).hnd).track hn' no0 nL nC nP ⟨hat,?_,?_⟩ (λ_ z=>by first|cases z|(unfold pP at z;cases z))
   .obtain⟨o,e,_⟩:=hat;exact⟨o,e⟩
   .rintro g1 g2 ⟨o,e,r⟩ k
    exact⟨o,k o e,r⟩
  have xt:Ext W' H' (W'.put ea<|pP C ea dx) (upd H' ea<|pP C ea dx):=Ext.put x'.ok hn';have hil:i<X.N.length:=(Yaq.mp hi).1;have so2:SOk X.K W0 H0 (W'.put ea<|pP C ea dx) (σ1.set i<|some<|.ref ea) (upd H' ea<|pP C ea dx) (xN X.N.length i ex):=by
   have hlen:σ1.length=X.N.length:=J.len;have slot:∀(j:Nat) sv,(xN X.N.length i ex)[j]? = some sv->sv=.un\/(j=i/\sv=.d (.exc ex)):=λj sv e=>by
    unfold xN at e
    by_cases h:i=j
    .subst h
     rw[dW<|by simpa using hil]at e;cases e;exact .inr ⟨rfl,rfl⟩
    .rw[df h,mQ]at e
     split at e
     .cases e;exact .inl rfl
     .cases e
   refine⟨x'.trans xt,by unfold xN;rw[dN,dN,qv,hlen],λj y e=>?_,λj ys e=>?_,λj k ys zs b _ e=>?_,.none λj xss e=>?_⟩
   .rcases slot j _ e with z|⟨rfl,z⟩
    .cases z
    .cases z
     exact⟨.ref ea,dW (by rw[hlen];exact hil),.exc (by unfold Wd.put;dsimp only;rw[aP]) hcl<|hxd.mono xt.g⟩
   .rcases slot j _ e with z|⟨_,z⟩<;>cases z
   .rcases slot j _ e with z|⟨_,z⟩<;>cases z
   .rcases slot j _ e with z|⟨_,z⟩<;>cases z
  obtain⟨th,ph,kh⟩:=(hh ea λ_ _=>False).t;refine Qv (ph E1 s7 _ _ { nx:=λ_ _=>False,rt:=D.rt } J8 (kh W0 H0 _ _ _ _ _ No _ { nx:=λ_=>False,rt:=N.rt } so2 (.refl _) (λ_ _ _ _ _ z=>z.elim)
   ⟨λ_ _ _ _ _ _ z=>z.elim,no.rt,λ_ _ _ _ _ _ z=>z.elim,λ_ _ _ _ _ _ z=>z.elim⟩ hw)) (λf s9 q=>?_) λ_ _ z=>z.elim
  cases f with
  |next=>obtain⟨_,_,_,z⟩:=q;exact z.elim
  |brk=>obtain⟨_,_,_,z⟩:=q;exact z.elim
  |cont=>obtain⟨_,_,_,z⟩:=q;exact z.elim
  |ret u=>
   obtain⟨v,σ9,H9,J9,r9,q9⟩:=q;have K9:=J9.unhnd hcalm;obtain⟨m,hns,_⟩:=K9.loc;exact wpAny_nameGoes hx hns (by rw[hkf];rfl) λh' m' hn2 hs2=>⟨v,_,H9,K9.names hn2 hs2,r9,q9⟩
 obtain⟨tb,pb,kb⟩:=(hb Eh E1 _ pass).t;refine wpAny_Try_except<|Qv (pb [] s σ H D I.tr<|kb W0 H0 F W σ H ρ E' D N so fl (λex W' H' cls dx he x r=>⟨W',ex,x,r,he⟩) no hz) (λf s1 q=>?_) λe s1 q=>q;cases f with
 |next=>exact QJ q.untr|brk=>exact q.untr|cont=>exact q.untr|ret u=>exact q.untr
end
section
variable{w:World}{base:Heap}
theorem Du{N:Q4}(F:Fun K x qual st f fd)(sc:cG N ps (aG st))(len:∀ds E Q,S ds E Q->ds.length=ps.length)
  (hbody:∀ (cdv:Value) (A:Around) (outer:List Env) (s:Shared) (H:Hp),RoomU k (A.deeper<|envOfC qual (aG st) s.heap.objs.size f cdv)->
   iy (ug P w K mg base N qual (aG st) f cdv A outer s H) E0 (bA st) z)
  (h:∀ds E Q,S ds E Q->z No { nx:=λ_=>Q .non,rt:=Q } (dP N ds)):Af P w K mg base (k+1) f fd ps (h9 K S):=by
 refine F.okU sc (λvs H Q E hs=>?_) λcdv A outer s H vs Q E hr hs=>?_
 .obtain⟨ds,W,_,r,hS⟩:=hs
  rw[r.length];exact len _ _ _ hS
 .obtain⟨ds,W,ok,r,hS⟩:=hs
  obtain⟨t,p,k⟩:=(hbody cdv A outer s H hr).t;exact ⟨t,p,k W H W W (start N vs) H (dP N ds) No _ { nx:=λ_=>RQ K W H Q .non,rt:=RQ K W H Q } (Dd ok r) (.refl W) (λ_ _ _ _ _ z=>z.elim)
   ⟨λW1 σ1 H1 ρ1 s1 _ q=>q _ W1 H1 s1.ext .non,λd v W1 H1 x1 r1 q=>q v W1 H1 x1 r1,λ_ _ _ _ _ _ q=>q.elim,λ_ _ _ _ _ _ q=>q.elim⟩ (h ds _ _ hS)⟩
structure AE(P:Program)(w:World)(K:Qh)(mg:QW)(base:Heap)(k:Nat)(x:Str)(ps:Q4)(S:bV):Prop where
 ok:∃f fd,Af P w K mg base k f fd ps (h9 K S)/\mg x=some (.ref f)/\PySem.W.keepIn K (.ref f)=true/\Binds K fd ps []
 mono:qh S
end
section
variable{t:WA}
theorem Ga(G:AE X.prog X.w X.K X.mg X.base k x ps S)(hr:RoomU j X.A)(ha:jb X EX (e::es) t)(hk:(k<=j:))(hg:{Gl X x})(hdb:(Q7 x:))(he:{Q9 X e es})(hpl:{Ra X pos es}) :
  PX X EX (.Call (.Name x p) (e::es) [] pos) (wF S t):=by
 obtain⟨f,fd,F,hm,kp,hb⟩:=G.ok;obtain⟨ta,pa,ka⟩:=ha.t;have hS:=G.mono;refine⟨⟨_,Ku (E:=EX) F (hr.mono hk) hg hm kp hb pa hdb he hpl,λW0 H0 W σ H ρ E Q s eo h=>?_⟩,λE ρ P P' hp z=>ha.mono _ _ _ _ (λds hds=>hS _ _ _ _ _ (λ_ q=>q) hp hds) z⟩;refine ka W0 H0 W σ H ρ E _ s eo<|ha.mono _ _ _ _ (λds hds vs W1 H1 x1 r1=>?_) h;refine⟨ds,W1,x1.ok,by rw[oS];exact r1,hS _ _ _ _ _ (λex hex W' H' cls dx x' r'=>?_) (λd hd=>RQ.ext hd x1) hds⟩;exact eo ex W' H' cls dx hex (s.ext.trans<|x1.trans x') r'
end
structure XI(K:Qh)(L M:Q4):Prop where
 c:∀n∈L,∃D,h7 K (jH n)=some D/\iJ K D/\PySem.W.kitOne K (.ref D) (.type "ValueError")=some true/\∀m∈M,∃C,h7 K m=some C/\PySem.W.kitOne K (.ref D) (.ref C)=some (jH n==m)
section
variable{a:Expr}{L M:Q4}
def gIsX(L M:Q4):Rc->(Rf)->Prop:=λds Q=>match ds with|[.exc n,.cls m]=>n∈L/\m∈M/\Q (.bl<|jH n==m)|[.exc n,.ty T]=>n∈L/\T = "ValueError" /\Q (.bl true)|_=>False
theorem gIsX.mono:∀ds P P',(∀d,P d->P' d)->gIsX L M ds P->gIsX L M ds P':=λds P P' hp hg=>by unfold gIsX at hg ⊢;split at hg;exact⟨hg.1,hg.2.1,hp _ hg.2.2⟩;exact⟨hg.1,hg.2.1,hp _ hg.2.2⟩;exact hg.elim
theorem qo(hx:XI X.K L M):fo X (.builtin "isinstance") (gIsX L M):=by
 refine⟨⟨λvs H Q=>∃W ds,WOk W H/\Reps X.K W vs ds/\gIsX L M ds (RQ X.K W H Q),?_,λW H vs ds Q ok r hg=>⟨W,ds,ok,r,hg⟩⟩,gIsX.mono⟩;rintro E1 s σ H vs us Q I rv ⟨W,ds,ok,rs,hg⟩;have fin:∀{b:Bool},RQ X.K W H Q (.bl b)->∀tk,EP X E1 σ Q (.bool b) { s with toks:=tk }:=λq tk=>⟨.bl _,H,I.tok tk,rfl,q.now ok<|.bl _⟩;have j6:∀{x:V} {u:Value} {n:Str},n∈L->Rep X.K W x (.exc n)->RelV x u->∃a D,u=.ref a/\h7 X.K (jH n)=some D/\XAt s.heap a D:=λ{x u n} hn r ru=>by
  cases r with
  | @exc a C n dx e0 e1 _=>cases ru;obtain⟨hx,_⟩:=(show ObjOk X.prog X.w H s.heap a (pP C a dx) from I.hok a _ (ok.g _ _ e0));exact⟨a,C,rfl,e1,let⟨oe,z1,z2,z3,_⟩:=hx;⟨oe,z1,z2,z3⟩⟩
 unfold gIsX at hg;split at hg;rename_i n m;obtain⟨h1,h2,q⟩:=hg;obtain⟨v,w',rfl,r1,r2⟩:=rs.two;obtain⟨u,u2,rfl,ru,ru2⟩:=lG rv;obtain⟨a,D,rfl,hD,hat⟩:=j6 h1 r1 ru;obtain⟨D',e1,cx,_,hm⟩:=hx.c n h1;rw[hD]at e1;cases e1;obtain⟨C,e2,hk⟩:=hm m h2;cases r2 with
 |cls e3=>rw[e3]at e2;cases e2;cases ru2;exact PySem.W.kia_one (FH cx) I.kIn hat hk (λz=>nomatch z)<|fin q
 rename_i n T;obtain⟨h1,rfl,q⟩:=hg;obtain⟨v,w',rfl,r1,r2⟩:=rs.two;obtain⟨u,u2,rfl,ru,ru2⟩:=lG rv;obtain⟨a,D,rfl,hD,hat⟩:=j6 h1 r1 ru;obtain⟨D',e1,cx,hk,_⟩:=hx.c n h1;rw[hD]at e1;cases e1;cases r2;obtain rfl:u2=Value.type "ValueError" :=ru2;exact PySem.W.kia_one (FH cx) I.kIn hat hk (λz=>nomatch z)<|fin q
 exact hg.elim
theorem L4{a:Addr}(hm:X.mg x=some (.ref a))(hc:h7 X.K x=some a)(hg:{Gl X x})(hd:(Q7 x:)):PX X EX (.Name x pos) (wC<|.cls x):=
 C2 (v:=.ref a) hm rfl (λW=>.cls hc) hg hd
end
structure Dv(X:Cx)(id:String)(g:D->Rc->(Rf)->Prop):Prop where
 t:∃r,CJ X id r/\∀W H x vs dx ds Q,WOk W H->Rep X.K W x dx->Reps X.K W vs ds->g dx ds (RQ X.K W H Q)->r x vs H Q
 ty:∀dx ds P,g dx ds P->∃xs,dx=.lst xs
 mono:∀x ds P P',(∀d,P d->P' d)->g x ds P->g x ds P'
def wM(g:D->Rc->(Rf)->Prop)(wo:WE)(t:WA):WE:=λE ρ Q=>wo E ρ λx=>(∃xs,x=.lst xs)/\t E ρ λds=>g x ds Q
section
variable{o:Expr}{t:WA}{id:String}{g:D->Rc->(Rf)->Prop}
theorem Gb(slot:Slot "list" name id)(hty:typeOf (.builtin id)=pure (.type "method_descriptor"))(hm:Dv X id g)(ho:PX X EX o wo)(ha:jb X EX (e::es) t)
  (hbase:{attributeBase o name X.env (eval o X.env)=eval o X.env})
  (hfew:{((backTo cpos<|starEach (e::es) X.env).all (λx=>!x.1) && (backToKw cpos<|keywordEach [] X.env).all (λx=>x.1.isSome)
   && decide ((e::es).length+([]:List Keyword).length+(if([]:List Keyword).isEmpty then 0 else 1)<30))=true})
  (hline:{(apos.endLine==cpos.line)=true}) (hs:{starEach (e::es) X.env=(false,eval e X.env)::starEach es X.env}) (hplain:{(backTo cpos<|starEach es X.env).any (·.1)=false}) :
  PX X EX (.Call (.Attribute o name apos) (e::es) [] cpos) (wM g wo t):=by
 obtain⟨to,po,ko⟩:=ho.t;obtain⟨ta,pa,ka⟩:=ha.t;obtain⟨r,pr,kr⟩:=hm.t;refine⟨⟨_,pL PySem.F.plainAttrs_list slot hty pr po pa hbase hfew hline hs hplain,λW0 H0 W σ H ρ E Q s eo h=>?_⟩,λE ρ P P' hp z=>ho.mono _ _ _ _ (λx ⟨h1,h2⟩=>⟨h1,ha.mono _ _ _ _ (λds hds=>hm.mono _ _ _ _ hp hds) h2⟩) z⟩;refine ko W0 H0 W σ H ρ E _ s eo<|ho.mono _ _ _ _ (λd hd v W1 H1 x1 r1=>?_) h;obtain⟨⟨xs,rfl⟩,h2⟩:=hd;cases r1 with
 | @lst a vs ds e1 rr=>
  refine⟨.inl ⟨rfl,vs,SqL.of<|x1.ok.g _ _ e1⟩,?_⟩;refine ka W0 H0 W1 σ H1 ρ E _ (s.step x1) eo<|ha.mono _ _ _ _ (λds hds us W2 H2 x2 r2=>?_) h2;exact kr W2 H2 _ us _ ds Q x2.ok (.lst (x2.g _ _ e1)<|rr.mono x2.g x2.p) r2<|hm.mono _ _ _ _ (λd hd=>RQ.ext hd<|x1.trans x2) hds
end
def AF(bs:List Bool):Rc:=bs.map .bl
def Dw:D->Rc->(Rf)->Prop:=λx ds Q=>∃bs b,x=.lst (AF bs)/\ds=[.bl b]/\Q (.int (bs.countP (· == b):Nat))
def Dx:D->Rc->(Rf)->Prop:=λx ds Q=>∃bs b j,x=.lst (AF bs)/\ds=[.bl b]/\bs[j]? = some b/\(∀i<j,bs[i]?≠some b)/\Q (.int (j:Nat))
theorem Dy{K:Qh}{W:Wd}:∀{bs:List Bool} {vs:Rg} {its:QX},Reps K W vs (AF bs)->Vals vs its->its=bs.map Value.bool
 |[],_,_,.nil,.nil=>rfl|b::bs,_,_,.cons r1 r2,.cons v1 v2=>by cases r1;obtain rfl:_=Value.bool b:=v1;rw[Dy r2 v2];rfl
theorem Gc(k:Bool):∀(bs:List Bool),(bs.map Value.bool).countP (isBoolOf k)=bs.countP (· == k)
 |[]=>rfl|b::bs=>by rw[c8,List.countP_cons,List.countP_cons,Gc k bs];rfl
section
theorem L5:Dv X "list.count" Dw:=by
 refine⟨⟨λx vs H Q=>∃W dx ds,WOk W H/\Rep X.K W x dx/\Reps X.K W vs ds/\Dw dx ds (RQ X.K W H Q),?_,λW H x vs dx ds Q ok r rs hg=>⟨W,dx,ds,ok,r,rs,hg⟩⟩,λdx ds P ⟨bs,b,h,_⟩=>⟨_,h⟩,λx ds P P' hp ⟨bs,b,h1,h2,h3⟩=>⟨bs,b,h1,h2,hp _ h3⟩⟩;rintro E1 s σ H x vs v us Q I rx rv ⟨W,dx,ds,ok,r,rs,bs,b,rfl,rfl,q⟩;obtain⟨y,rfl,ry⟩:=rs.one;cases ry;obtain⟨u,rfl,ru⟩:=fP rv;obtain rfl:u=Value.bool b:=ru;cases r with
 | @lst a xs ds e1 rr=>
  cases rx;obtain⟨its,rvs,pl,hz⟩:=I.list<|SqL.of (ok.g _ _ e1);have hits:=Dy rr rvs;subst hits;obtain⟨⟨cls,dd,data,sl⟩,ho,hc,n,hd⟩:=pl.isList;simp only at hc hd;subst hc hd;refine call_meets PySem.F.slot_list_count ⟨_,ho,rfl⟩ PySem.F.entry_list_count (PySem.F.args_list_count_2 _ _) (SeqAt.list_countAt a _ n dd sl (.bool b)<|isBoolOf b) ⟨ho,λy hy=>?_,?_⟩
  have hy':y∈bs.map Value.bool:=by simpa using hy
  obtain⟨c,_,rfl⟩:=YbU.mp hy';exact PySem.SeqAt.EqAt.bool_bool c b;rw[show((bs.map Value.bool).toArray.toList)=bs.map Value.bool from rfl,Gc];exact⟨.int _,H,I.tok _,⟨_,rfl⟩,q.now ok<|.int _⟩
theorem L6:Dv X "list.index" Dx:=by
 refine⟨⟨λx vs H Q=>∃W dx ds,WOk W H/\Rep X.K W x dx/\Reps X.K W vs ds/\Dx dx ds (RQ X.K W H Q),?_,λW H x vs dx ds Q ok r rs hg=>⟨W,dx,ds,ok,r,rs,hg⟩⟩,λdx ds P ⟨bs,b,j,h,_⟩=>⟨_,h⟩,λx ds P P' hp ⟨bs,b,j,h1,h2,h3,h4,h5⟩=>⟨bs,b,j,h1,h2,h3,h4,hp _ h5⟩⟩;rintro E1 s σ H x vs v us Q I rx rv ⟨W,dx,ds,ok,r,rs,bs,b,j,rfl,rfl,hj,hno,q⟩;obtain⟨y,rfl,ry⟩:=rs.one;cases ry;obtain⟨u,rfl,ru⟩:=fP rv;obtain rfl:u=Value.bool b:=ru;cases r with
 | @lst a xs ds e1 rr=>
  cases rx;obtain⟨its,rvs,pl,hz⟩:=I.list<|SqL.of (ok.g _ _ e1);have hits:=Dy rr rvs;subst hits;have hlen:xs.length=bs.length:=by rw[rr.length];unfold AF;rw[bH]
  obtain⟨⟨cls,dd,data,sl⟩,ho,hc,n,hd⟩:=pl.isList;simp only at hc hd;subst hc hd;have hjl:j<bs.length:=(Yaq.mp hj).1;have hsz:((bs.map Value.bool).toArray).size=bs.length:=KE
  refine call_meets PySem.F.slot_list_index ⟨_,ho,rfl⟩ PySem.F.entry_list_index (PySem.F.args_list_index_2 _ _) (SeqAt.list_indexAt a _ n dd sl (.bool b) (isBoolOf b) j (by rw[hsz];exact hjl) ?_ ?_ ?_) ⟨ho,λy hy=>?_,?_⟩;rw[sizeLine_eq]at hz;have:bs.length<=2^62:=by first|(have:=hz;simp at this;omega)|omega
  have:=hjl;omega;have:=(Yaq.mp hj).2;simp only[List.getElem_toArray,qb,isBoolOf];rw[this];simp;intro m hm hlt;have hm':m<bs.length:=by rw[hsz]at hm;exact hm
  have:=hno m hlt;rw[bU hm']at this;simp only[List.getElem_toArray,qb,isBoolOf];exact Bool.eq_false_iff.mpr λz=>this (by rw[beq_iff_eq.mp z]);have hy':y∈bs.map Value.bool:=by simpa using hy
  obtain⟨c,_,rfl⟩:=YbU.mp hy';exact PySem.SeqAt.EqAt.bool_bool c b;exact⟨.int _,H,I.tok _,⟨_,rfl⟩,q.now ok<|.int _⟩
end
section
def ZdZ:G2:=λx y Q=>match x,y with|.tup xs,.int k=>k<1000/\-1000<k/\xs.length*k.toNat<=aO/\Q (.tup (List.replicate k.toNat xs).flatten)|_,_=>False
theorem ZdZ.mono:∀x y P P',(∀d,P d->P' d)->ZdZ x y P->ZdZ x y P':=λx y P P' hp hg=>by unfold ZdZ at hg ⊢;split at hg;exact⟨hg.1,hg.2.1,hg.2.2.1,hp _ hg.2.2.2⟩;exact hg.elim
theorem L7:h8 X (binaryOp .Mult) ZdZ:=by
 refine⟨⟨_,KI,λW H x y dx dy Q ok rx ry hg=>?_⟩,ZdZ.mono⟩;unfold ZdZ at hg;split at hg;obtain⟨p,vs,rfl,h1,r1⟩:=rx.sqt ok;cases ry;rename_i xs k;refine⟨p,k,vs,rfl,rfl,h1,E8,E8,by rw[r1.length];exact pQ hg.2.2.1,λe=>?_,λa ha=>hg.2.2.2.tup ok (FO r1 _) ha⟩;have e':(List.replicate k.toNat xs).flatten=xs:=by
  rcases e with e|e
  subst e;cases r1;simp;subst e;simp
 have q:=hg.2.2.2;rw[e']at q;exact q.now ok rx;exact hg.elim
end
section
def its(js:QY):Rc:=js.map .int
def gIn(neg:Bool):G2:=λx y Q=>∃i js,x=.int i/\(y=.lst (its js)\/y=.tup (its js))/\Q (.bl (if neg then !js.contains i else js.contains i))
theorem gIn.mono{neg:Bool}:∀x y P P',(∀d,P d->P' d)->gIn neg x y P->gIn neg x y P':=λx y P P' hp ⟨i,js,h1,h2,h3⟩=>⟨i,js,h1,h2,hp _ h3⟩
theorem DA{K:Qh}{W:Wd}:∀{js:QY} {vs:Rg},Reps K W vs (its js)->vs=js.map V.int
 |[],_,.nil=>rfl|j::js,_,.cons r t=>by cases r;rw[DA t];rfl
theorem DB(i:Int):∀js:QY,Ac (.int i) (js.map V.int)=js.contains i
 |[]=>rfl|j::js=>by have ih:=DB i js;unfold Ac at ih ⊢;rw[c8,zN,ih,vb];congr 1;show(j==i)=(i==j);rw[sU,QM,QM];exact⟨Eq.symm,Eq.symm⟩
theorem DC:∀js:QY,(js.map V.int).all fS=true
 |[]=>rfl|j::js=>by rw[c8,sS,DC js];rfl
theorem xO{neg:Bool}{W:Wd}{x y:V}{dx dy:D}{Q:VK}(ok:WOk W H)(rx:Rep X.K W x dx)(ry:Rep X.K W y dy)(hg:gIn neg dx dy (RQ X.K W H Q)):Fw X.K neg x y H Q:=by
 obtain⟨i,js,rfl,h,q⟩:=hg;cases rx;rcases h with rfl|rfl
 obtain⟨p,vs,rfl,h1,r1⟩:=ry.sql ok;obtain rfl:=DA r1;exact⟨p,_,rfl,.inl h1,rfl,DC js,by rw[DB];exact q.now ok<|.bl _⟩;obtain⟨p,vs,rfl,h1,r1⟩:=ry.sqt ok;obtain rfl:=DA r1;exact⟨p,_,rfl,.inr h1,rfl,DC js,by rw[DB];exact q.now ok<|.bl _⟩
theorem DD:h8 X (compareOp .In) (gIn false):=⟨⟨_,md,λW H x y dx dy Q ok rx ry hg=>xO ok rx ry hg⟩,gIn.mono⟩
end
abbrev Zjd:Q4:=["thing"]
def Gd:WS:=(aN<|gT (wB gIs<|aC (wN 0)<|aC (wC<|.ty "int") aA)<|j8<|wB gIs<|aC (wN 0)<|aC (wC<|.ty "bool") aA)
abbrev Zix:Q4:=["thing", "least", "most"]
def Ge:WS:=(aN<|gT (wF uv<|aC (wN 0) aA)<|Zbq pT pT (wN 1) (wN 0)<|wN 2)
abbrev ZgV:Q4:=["thing", "least", "most"]
def Gf:WS:=(aN<|gT (wB gIs<|aC (wN 0)<|aC (wC<|.ty "tuple") aA)<|wB j9<|aC (wL<|aLC (iS<|wN 0) 1 [1,2] (gN 0) cX<|wF xG<|aC (wN 0)<|aC (wN 1)<|aC (wN 2) aA) aA)
abbrev ZeF:Q4:=["one", "other"]
def Gg:WS:=(aL (bE<|uo (wT<|w2 (gEq true) (wN 1)<|wC<|.int<|0)<|eR 0 1<|aC (wN 1)<|aC (w2 si (wN 0)<|wN 1) aA)<|aN<|wB jI<|aC (wN 0) aA)
abbrev Zje:Q4:=["thing", "top", "bottom"]
def Gh:WS:=(aL (cR (dZ (bK<|wT<|wB gIs<|aC (wN 0)<|aC (wC<|.ty "tuple") aA)<|wT<|w2 (gEq true) (wB bQ<|aC (wN 0) aA)<|wC<|.int<|2) (aN<|wC<|D.bl false) cW)<|aL (eE (wN 0)<|ez 2<|c7 (gN 1)<|c7 (gN 2) et)<|aL (cR (dZ (bK<|wT<|wF uv<|aC (wN 1) aA)<|bK<|wT<|wF uv<|aC (wN 2) aA) (aN<|wC<|D.bl false) cW)<|aN<|gT (w2 pV (wN 2)<|wC<|.int<|0)<|w2 (gEq false) (wF xH<|aC (wN 1)<|aC (wN 2) aA)<|wC<|.int<|1)
abbrev Zf:Q4:=["thing", "least", "most"]
def Gi:WS:=(aL (cR (dZ (bK<|wT<|wB gIs<|aC (wN 0)<|aC (wC<|.ty "tuple") aA)<|bK<|wT<|Zbq pT pT (wN 1) (wB bQ<|aC (wN 0) aA)<|wN 2) (aN<|wC<|D.bl false) cW)<|aN<|wB j9<|aC (wL<|aLC (iS<|wN 0) 1 [] (gN 0) cX<|wF Aw<|aC (wN 0) aA) aA)
abbrev Zmg:Q4:=["thing", "many"]
def Gj:WS:=(aN<|wF Ax<|aC (wN 0)<|aC (wN 1)<|aC (wN 1) aA)
abbrev Zja:Q4:=["top", "bottom", "divisor"]
def Gk:WS:=(aL (kG<|wT<|w2 (gEq true) (wN 1)<|wC<|.int<|0)<|aL (aR 2<|wF xH<|aC (wN 0)<|aC (wN 1) aA)<|aL (cR (wT<|w2 mz (wN 1)<|wC<|.int<|0) (aR 2<|w1 jJ<|wN 2) cW)<|aN<|bD<|aC (w2 iO (wN 0)<|wN 2)<|aC (w2 iO (wN 1)<|wN 2) aA)
abbrev ZpB:Q4:=["one", "other"]
def Gm:WS:=(aN<|wF uw<|aC (w2 gAdd (w2 gMul (w2 gIx (wN 0)<|wC<|.int<|0)<|w2 gIx (wN 1)<|wC<|.int<|1)<|w2 gMul (w2 gIx (wN 1)<|wC<|.int<|0)<|w2 gIx (wN 0)<|wC<|.int<|1)<|aC (w2 gMul (w2 gIx (wN 0)<|wC<|.int<|1)<|w2 gIx (wN 1)<|wC<|.int<|1) aA)
abbrev Zoa:Q4:=["one", "other"]
def Gn:WS:=(aN<|wF uw<|aC (w2 gMul (w2 gIx (wN 0)<|wC<|.int<|0)<|w2 gIx (wN 1)<|wC<|.int<|0)<|aC (w2 gMul (w2 gIx (wN 0)<|wC<|.int<|1)<|w2 gIx (wN 1)<|wC<|.int<|1) aA)
abbrev Zmd:Q4:=["numbers"]
def Go:WS:=(aN<|wB lM<|aC (wL<|aLC (iS<|wN 0) 1 [] (gN 0) cX<|bD<|aC (wN 0)<|aC (wC<|.int<|1) aA) aA)
abbrev Zd2:Q4:=["one", "other", "total", "left", "right"]
def Gp:WS:=(aL (aR 2<|wC<|D.tup [(D.int<|0),(D.int<|1)])<|aL (bE<|bF (iZ<|aC (wN 0)<|aC (wN 1) aA) (ez 2<|c7 (gN 3)<|c7 (gN 4) et)<|aR 2<|wF Ay<|aC (wN 2)<|aC (wF uA<|aC (wN 3)<|aC (wN 4) aA) aA)<|aN<|wN 2)
abbrev ZkJ:Q4:=["slants"]
def Zk:WS:=(aN<|w2 iO (w2 gAdd (wB bQ<|aC (wN 0) aA)<|wC<|.int<|1)<|wC<|.int<|2)
abbrev Zf9:Q4:=["thing"]
def Gq:WS:=(aL (cR (dZ (bK<|wT<|wF Av<|aC (wN 0)<|aC (wC<|.int (-50))<|aC (wC<|.int<|50) aA)<|wT<|w2 (gEq false) (w2 si (wB bQ<|aC (wN 0) aA)<|wC<|.int<|2)<|wC<|.int<|0) (aN<|wC<|D.bl false) cW)<|aN<|w2 pT (wF mZ<|aC (wN 0) aA)<|wC<|.int<|5)
abbrev Zg:Q4:=["thing"]
def Gr:WS:=(cR (bK<|wT<|wF Az<|aC (wN 0) aA) (jg<|PySem.Str.ofString "NoSlants") cW)
abbrev Zj:Q4:=["slants", "size"]
def Gu:WS:=(aL (gF<|wF ql<|aC (wN 0) aA)<|aL (aR 1<|wF mZ<|aC (wN 0) aA)<|aN<|wL<|aLC (fD<|aC (wN 1) aA) 1 [0,1] (gN 0) cX<|wL<|aB (ia (α:=Unit))<|aC (cL (wN 1) (eh<|w2 jf (w2 jf (wN 2)<|wC<|.int<|1)<|wN 0)<|eh<|w2 jf (w2 jf (w2 gMul (wC<|.int<|2)<|wN 2)<|wC<|.int<|1)<|wN 0) aA)
abbrev Ze7:Q4:=["slants"]
def Gv:WS:=(aL (gF<|wF ql<|aC (wN 0) aA)<|aN<|w1 gRev<|wN 0)
abbrev Zmh:Q4:=["slants", "size", "whole_size"]
def Gw:WS:=(aL (gF<|wF ql<|aC (wN 0) aA)<|aL (aR 2<|wF mZ<|aC (wN 0) aA)<|aL (cR (bK<|wT<|wF xG<|aC (wN 1)<|aC (wC<|.int<|1)<|aC (wN 2) aA) (jg<|PySem.Str.ofString "NoNumber") cW)<|aN<|cL (wN 0) (eh<|w2 jf (wN 2)<|wN 1)<|eh<|w2 jf (w2 gAdd (wN 2)<|wN 1)<|wC<|.int<|1)
abbrev Zjc:Q4:=["slants", "thing"]
def Gx:WS:=(aL (gF<|wF ql<|aC (wN 0) aA)<|aN<|wF xI<|aC (wN 1)<|aC (wF mZ<|aC (wN 0) aA) aA)
abbrev ZgR:Q4:=["slants"]
def Gy:WS:=(aN<|wL<|aLC (iS<|wF xK<|aC (wN 0) aA) 1 [] (gN 0) cX<|wF uB<|aC (wN 0) aA)
abbrev Ziu:Q4:=["slants", "row"]
def Gz:WS:=(aL (cR (bK<|wT<|wF vz<|aC (wN 0)<|aC (wN 1) aA) (jg<|PySem.Str.ofString "NoRow") cW)<|aN<|wB lM<|aC (wL<|aLC (iS<|wF AB<|aC (wN 0) aA) 1 [1] (gN 0) cX<|wF xJ<|aC (wN 0)<|aC (wN 1) aA) aA)
local macro_rules | `(tactic| walk_at "w")=>`(tactic| simp only[aN,cR,aR,cW,gF,bM,bX,bF,kG,eR,eE,da,gI,eU,km,bE,jg,gT,fU,j8,e8,dZ,bK,wT,kC,w1,w2,wB,wF,wL,bD,cL,Zbq,aB,bP,aC,aA,aLC,ZbP,cX,iS,iL,iT,fD,ig,iZ,i1,i2,isS,isL,An,isB,isI,fq,eh,wN,wC,gN,ez,c7,et,gI2,gAdd,gMul,gIx,d6,gCut,gRev,bQ,ia,lM,jI,kY,ic,kZ,fc,dB,fX,dm,cY,fb,fY,aCut,dP,pub,c8,gG,dR,iw,gR,dQ,List.replicate,eJ,gb,g9,hJ,Nat.reduceSub,Nat.reduceAdd,iF,ly,true_and,dU,if_true,if_false,ite_true,ite_false])
local macro_rules | `(tactic| walk_at "g")=>`(tactic| ((try dsimp only at *);repeat (first|walk_at "w"|simp only[aL]);(try dsimp only)))
theorem rf{x:D}{T:String}(h:kd x=true)(hT:T∈Al)(q:∀t,Ak x=some t->Q (.bl<|iN t T)):gIs [x,.ty T] Q:=by obtain⟨t,ht⟩:=xE h;exact⟨t,ht,hT,q t ht⟩
theorem GA:Rd uv Gd Zjd:=by
 rintro _ E Q ⟨x,rfl,hk,q⟩;unfold Gd;((try simp only[aL]);(try walk_at "w"));refine rf hk F4 λt ht=>?_;cases x<;>cases ht<;>first
  |exact q
  |exact rf hk F4 λt ht=>by cases ht;exact q
theorem L8:Rd xG Ge Zix:=by
 rintro _ E Q ⟨⟨x,l,m⟩,rfl,hk,q⟩;unfold Ge;walk_at "g";refine⟨x,rfl,hk,?_⟩;cases x<;>try exact q
 rename_i i;simp only[qk,isB,if_true,gI2,true_and];by_cases h:l<=i;simp only[h,decide_true,if_true];simpa[k9,h] using q;simp only[h,decide_false,if_false,dU];simpa[k9,h] using q
theorem L9:Rd Av Gf ZgV:=by
 rintro _ E Q ⟨⟨x,l,m⟩,rfl,hk,q⟩;unfold Gf;walk_at "g";refine rf hk F4 λt ht=>?_;cases x<;>cases ht<;>try exact q
 rename_i xs;obtain⟨hl,hx⟩:=uu hk;show lcW _ _ _ xs _ _ _;refine vv (f:=λd=>.bl<|k9 l m d) (λd hd Q hq=>?_) .un [] (by simp[aO];omega) ?_;walk_at "g";exact⟨(d,l,m),rfl,hx d hd,hq⟩;refine⟨xs.map<|k9 l m,KE,?_⟩;simpa[List.all_map,Function.comp_def,mB] using q
theorem GB(a b:Int):Int.gcd b (a.fmod b)=Int.gcd a b:=by
 have e:a.fmod b=a-b*a.fdiv b:=by have:=Int.mul_fdiv_add_fmod a b;omega
 rw[e,Int.gcd_sub_mul_left_right,Int.gcd_comm]
theorem GC(a:Int){b:Int}(h:b≠0):(a.fmod b).natAbs<b.natAbs:=by
 have key:∀a b:Int,0<b->0<=a.fmod b/\a.fmod b<b:=λa b z=>by rw[Zz9 _<|Int.le_of_lt z];exact⟨Int.emod_nonneg _<|E8,Int.emod_lt_of_pos _ z⟩
 rcases Int.lt_or_lt_of_ne h with z|z
 have h1:=key (-a) (-b) E8;rw[Int.neg_fmod_neg]at h1;omega;have h1:=key a b z;omega
theorem Ma:Rd xH Gg ZeF:=by
 rintro _ E Q ⟨⟨a,b⟩,rfl,_,q⟩;unfold Gg;walk_at "g";refine⟨λm ρ=>∃x y:Int,m=y.natAbs/\ρ=[.d<|.int x,.d<|.int y]/\Int.gcd x y=Int.gcd a b,⟨_,a,b,rfl,rfl,rfl⟩,?_⟩;rintro m _ ⟨x,y,rfl,rfl,hg⟩;walk_at "g";by_cases hy:y=0;subst hy;simp only[Qx,fk,dU,if_false];rw[Int.gcd_zero_right]at hg;rw[<-hg]at q;have:(if x<0 then -x else x)=((x.natAbs:Nat):Int):=by split<;>omega
 rw[this];exact q;rw[ks<|by simpa using hy];exact⟨hy,_,GC x hy,_,_,rfl,rfl,by rw[GB];exact hg⟩
theorem GD(h:xs.length≠2):de (.tup xs)=false:=by unfold de;split;rename_i e;cases e;exact Qj rfl h;rfl
theorem GE{a b:D}(h:qk a=false):de (.tup [a,b])=false:=by unfold de;split;rename_i e;cases e;cases h;rfl
theorem GF{a b:D}(h:qk b=false):de (.tup [a,b])=false:=by unfold de;split;rename_i e;cases e;cases h;rfl
theorem AG{a:D}(h:qk a=true):∃i,a=.int i:=by
 cases a<;>first
  |exact⟨_,rfl⟩
  |cases h
theorem Mb:Rd Aw Gh Zje:=by
 rintro _ E Q ⟨x,rfl,hk,q⟩;unfold Gh;walk_at "g";refine rf hk F4 λt ht=>?_;cases x<;>cases ht<;>try exact q
 rename_i xs;obtain⟨hl,hx⟩:=uu hk;walk_at "g";simp only[show iN "tuple" "tuple" = true from rfl,fk,dU,if_false]
 by_cases h2:xs.length=2
 .match xs,h2,hx,q with
  |[a,b],_,hx,q=>
  rw[fz<|KE];walk_at "g";refine⟨a,rfl,hx a<|KE,?_⟩;walk_at "g";cases ha:qk a with
  |false=>rw[GE ha]at q;exact q
  |true=>
   obtain⟨i,rfl⟩:=AG ha;simp only[fk,dU,if_false];refine⟨b,rfl,hx b<|KE,?_⟩;walk_at "g";cases hb:qk b with
   |false=>rw[GF hb]at q;exact q
   |true=>
    obtain⟨j,rfl⟩:=AG hb;simp only[fk,dU,if_false];walk_at "g"
    by_cases h:0<j
    .simp only[show j>0 from h,decide_true,if_true]
     refine⟨(i,j),rfl,trivial,?_⟩;walk_at "g";have:de (.tup [.int i,.int j])=(((Int.gcd i j:Nat):Int)==1):=by
      simp only[de,h,decide_true,zW];rw[sU];simp;omega
     rw[this]at q;simpa using q
    .have h':¬j>0:=h
     simp only[h',decide_false,if_false,dU];simpa[de,h] using q
 .rw[GD h2]at q
  rw[ks<|by simpa using λz=>h2<|by exact_mod_cast z];exact q
theorem Mc:Rd Ax Gi Zf:=by
 rintro _ E Q ⟨⟨x,l,m⟩,rfl,hk,q⟩;unfold Gi;walk_at "g";refine rf hk F4 λt ht=>?_;cases x<;>cases ht<;>try exact q
 rename_i xs;obtain⟨hl,hx⟩:=uu hk;walk_at "g";simp only[show iN "tuple" "tuple" = true from rfl,fk,dU,if_false];simp only[xF]at q;cases h1:decide (l<=(xs.length:Int)) with
 |false=>rw[h1]at q;simpa using q
 |true=>
  cases h2:decide ((xs.length:Int)<=m) with
  |false=>rw[h1,h2]at q;simpa using q
  |true=>
   simp only[if_true,fk,dU,if_false];walk_at "g";refine vv (f:=λd=>.bl<|de d) (λd hd Q hq=>?_) .un [] (by simp[aO];omega) ?_
   .walk_at "g"
    exact⟨d,rfl,hx d hd,hq⟩
   .refine⟨xs.map de,KE,?_⟩
    rw[h1,h2]at q;simpa[List.all_map,Function.comp_def] using q
theorem Md(n:Int)(x:D):xF n n x=gW n x:=by
 cases x<;>try rfl
 rename_i xs;simp only[xF,gW];congr 1;rw[sU];simp;omega
theorem Me:Rd xI Gj Zmg:=by rintro _ E Q ⟨⟨x,n⟩,rfl,hk,q⟩;unfold Gj;walk_at "g";refine LN hk ?_;rw[Md];exact q
theorem Bd.le{i j:Int}(h:i.natAbs<=j.natAbs)(b:Bd j):Bd i:=mS h b
theorem Mf:Rd uw Gk Zja:=by
 rintro _ E Q ⟨⟨t,b⟩,rfl,⟨hb,hd⟩,q⟩;unfold Gk;walk_at "g";refine⟨by simpa using hb,(t,b),rfl,trivial,?_⟩;walk_at "g";have hg:0<Int.gcd t b:=B1 _ hb;have hle:Int.gcd t b<=b.natAbs:=Nat.le_of_dvd E8<|Int.gcd_dvd_natAbs_right ..;obtain⟨e1,e2⟩:=FZ (t:=t) hb;unfold aU at q;rw[<-e1,<-e2]at q
 by_cases h:b<0;simp only[h,decide_true,if_true]at q ⊢;refine⟨⟨E8,Bd.le E8 hd⟩,⟨E8,Bd.le E8 hd⟩,by simp[aO],q⟩;simp only[h,decide_false,if_false,dU]at q ⊢;refine⟨⟨E8,Bd.le E8 hd⟩,⟨E8,Bd.le E8 hd⟩,by simp[aO],q⟩
theorem qp(h:Q (.int q.num)):gIx (aU q) (.int 0) Q:=⟨_,rfl,h⟩
theorem f7(h:Q (.int q.den)):gIx (aU q) (.int 1) Q:=⟨_,rfl,h⟩
theorem Mg:Rd Ay Gm ZpB:=by
 rintro _ E Q ⟨⟨p,q⟩,rfl,hb,h⟩;obtain⟨b1,b2,b3,b4,b5,b6,b7,b8⟩:=hb.mul;unfold Gm;simp only[aN,wF,aC,w2,wN,wC,dP,c8,gR,eJ,gb];refine qp<|f7 ⟨b1,qp<|f7 ⟨b2,f7<|f7 ⟨b3,?_⟩⟩⟩;refine⟨(_,_),rfl,⟨b6,b5⟩,?_⟩;dsimp only at h ⊢;have e:Rat.divInt (p.num*q.den+q.num*p.den) ((p.den:Int)*q.den)=p+q:=by rw[Rat.add_def',<-B3];rfl
 rw[e];exact h
theorem Mh:Rd uA Gn Zoa:=by
 rintro _ E Q ⟨⟨p,q⟩,rfl,hb,h⟩;obtain⟨b1,b2,b3,b4,b5,b6,b7,b8⟩:=hb.mul;unfold Gn;simp only[aN,wF,aC,w2,wN,wC,dP,c8,gR,eJ,gb];refine qp<|qp ⟨b4,f7<|f7 ⟨b3,?_⟩⟩;refine⟨(_,_),rfl,⟨b6,b5⟩,?_⟩;dsimp only at h ⊢;have e:Rat.divInt (p.num*q.num) ((p.den:Int)*q.den)=p*q:=by rw[Rat.mul_def',<-B3];rfl
 rw[e];exact h
theorem Mi{b:Bool}{Q:Rc->Prop}(h:Q xs):isS Q (ii b xs):=by cases b<;>exact h
theorem xP(i:Int):aU (i:Rat)=.tup [.int i,.int 1]:=by unfold aU;rw[BZ,B0];rfl
theorem Mj:Rd uB Go Zmd:=by
 rintro _ E Q ⟨⟨b,xs⟩,rfl,hl,q⟩;dsimp only at hl q;unfold Go;simp only[aN,wB,aC,aA,wL,aLC,iS,wN,dP,ZbP,List.replicate,c8,gG,gR,dQ,eJ];refine Mi<|vv (f:=λd=>.tup [d,.int 1]) (λd hd Q hq=>?_) .un [] (by simp[aO];omega) ?_
 walk_at "g";exact⟨by simp[aO],hq⟩;have e:(xs.map D.int).map (λd=>D.tup [d,.int 1])=(xs.map λ(i:Int)=>(i:Rat)).map aU:=by rw[dG,dG];exact jo λi _=>(xP i).symm
 rw[dQ,e];exact q
theorem GG{n m:Nat}:∀(p q:QZ) {k:Nat},(∀x∈p,Sz n x)->(∀x∈q,Sz m x)->p.length<=k->Sz (k*(n+m+1)+1) (du p q)
 |[],_,k,_,_,_=>by rw[du];exact Sz.zero E8|_::_,[],k,_,_,_=>by rw[du];exact Sz.zero E8|x::p,y::q,0,_,_,h=>by simp at h|x::p,y::q,k+1,h1,h2,hk=>by rw[du];have a:=(h1 x<|KE).mul<|h2 y KE;have b:=GG p q (k:=k) (λz hz=>h1 z<|by simp[hz]) (λz hz=>h2 z<|by simp[hz]) (by simpa using hk);refine(a.add b).mono ?_;rw[oV];omega
theorem Mk:Rd xJ Gp Zd2:=by
 rintro _ E Q ⟨⟨⟨b1,b2⟩,p,q⟩,rfl,⟨n,m,hp,hq,hb⟩,h⟩;dsimp only at hp hq hb h;unfold Gp;simp only[aL,aR,wC,dP,c8,gG,dR,iw,gR,dQ,List.replicate,hJ,g9,bE,bF,iZ,aC,aA,wN,eJ,gb,Nat.reduceSub,Nat.reduceAdd];have key:∀(p' q':QZ) (s:Rat) (sv sv':SV) (j:Nat),(∀x∈p',Sz n x)->(∀x∈q',Sz m x)->Sz (j*(n+m+1)+1) s->j+p'.length<=p.length->s+du p' q'=du p q->
   ZbA (ez 2<|c7 (gN 3)<|c7 (gN 4) et) (aR 2<|wF Ay<|aC (wN 2)<|aC (wF uA<|aC (wN 3)<|aC (wN 4) aA) aA) No { nx:=aN (wN 2) E { nx:=λ_=>Q .non,rt:=Q },rt:=Q,bk:=λ_=>False,ct:=λ_=>False }
    (eT (p'.map aU)<|q'.map aU) [.d<|ii b1<|p.map aU,.d<|ii b2<|q.map aU,.d<|aU s,sv,sv']:=by
  intro p'
  induction p' with
  |nil=>
   intro q' s sv sv' j _ _ _ _ he;rw[du,jV]at he;simp only[eT,gG,List.zipWith_nil_left,ZbA];show Q (aU s);rw[he];exact h
  |cons x p' ih=>
   intro q' s sv sv' j h1 h2 h3 h4 he;cases q' with
   |nil=>
    rw[du,jV]at he;simp only[eT,gG,List.zipWith_nil_right,ZbA];show Q (aU s);rw[he];exact h
   |cons y q'=>
    have hx:=h1 x KE;have hy:=h2 y KE;rw[dR]at h4;have hj:j*(n+m+1)<=p.length*(n+m+1):=mR _ E8;have hj':(j+1)*(n+m+1)<=p.length*(n+m+1):=mR _ E8;rw[oV]at hj';simp only[eT,c8,B4,ZbA];refine⟨rfl,?_⟩;simp only[c7,et,gN,aR,wF,aC,aA,wN,eJ,gb,hJ,g9];refine⟨(x,y),rfl,B2.of hx hy<|E8,?_⟩;refine⟨(s,x*y),rfl,B2.of h3 (hx.mul hy)<|E8,?_⟩;refine ih q' (s+x*y) _ _ (j+1) (λz hz=>h1 z<|by simp[hz]) (λz hz=>h2 z<|by simp[hz]) ?_ E8 ?_
    .refine(h3.add<|hx.mul hy).mono ?_
     rw[oV];omega
    .rw[du]at he
     rw[Rat.add_assoc];exact he
 have e0:D.tup [D.int 0,D.int 1]=aU 0:=rfl;rw[e0];have k:=key p q 0 .un .un 0 hp hq (Sz.zero<|E8) E8<|ve _;cases b1<;>cases b2<;>exact k
theorem iA{α:Type}{we:WE}{tail:cV}{Q:Rc->Prop}{g f:α->D}:∀(L:List α),(∀a∈L,∀Q:D->Prop,Q (f a)->we No (.d (g a)::tail) Q)->∀(sv:SV) (acc:Rc),acc.length+L.length<=aO->Q (acc++L.map f)->lcW (gN 0) cX we (L.map g) (sv::tail) acc Q
 |[],_,sv,acc,_,hq=>by simpa[lcW] using hq|a::L,h,sv,acc,hl,hq=>by rw[c8,lcW];show we No (SV.d (g a)::tail) _;rw[dR]at hl;refine h a (gZ ..) _ ⟨E8,iA L (λd hd=>h d<|fM _ hd) _ _ ?_ ?_⟩;rw[fN,rB];omega;rw[oU];exact hq
theorem GH{α:Type}{xs:List α}{i:Int}{x:α}(hi:i=k)(h:xs[k]? = some x):eG xs i=some x:=by rw[hi];exact aS h
theorem Ml{α:Type}{xs:List α}(h:a<=b)(hb:b<=xs.length):cJ xs (some (a:Int)) (some (b:Int))=(xs.drop a).take (b-a):=by unfold cJ;rw[HT.sIx_nat,HT.sIx_nat,sX hb,sX<|fL h hb]
theorem GI{α:Type}{xs:List α}{i j:Int}(hi:i=a)(hj:j=b)(h:a<=b)(hb:b<=xs.length):cJ xs (some i) (some j)=(xs.drop a).take (b-a):=by rw[hi,hj];exact Ml h hb
theorem AH{α:Type}{xs:List α}(h:a<=xs.length):cJ xs (some (a:Int)) none=xs.drop a:=by unfold cJ;rw[HT.sIx_nat,HT.sIx_none,sX h,<-lx,List.take_length]
theorem qq{α:Type}{xs:List α}{i:Int}(hi:i=b):cJ xs none (some i)=xs.take b:=by
 unfold cJ;rw[hi,HT.sIx_nat,HT.sIx_none,sV,Nat.sub_zero];rcases Nat.le_total b xs.length with h|h
 rw[sX h];rw[Nat.min_eq_right h,List.take_length,List.take_of_length_le h]
theorem lg{i:Int}(h:i.natAbs<2^n)(l:n<=8990):Bd i:=dw h<|jU F4 l
theorem Mm:Rd mZ Zk ZkJ:=by rintro _ E Q ⟨x,rfl,hl,q⟩;unfold Zk;walk_at "g";refine⟨⟨F4,lg (n:=2) F4<|E8⟩,?_⟩;rw[B5 _<|F4];exact q
theorem Mo:Rd Az Gq Zf9:=by
 rintro _ E Q ⟨x,rfl,hk,q⟩;unfold Gq;walk_at "g";refine LM hk ?_;walk_at "g";cases ha:mB (-50) 50 x with
 |false=>
  have:fZ x=false:=by
   cases x<;>try rfl
   simp only[mB]at ha;simp only[fZ,ha,Bool.false_and]
  rw[this]at q;simpa using q
 |true=>
  cases x<;>try (cases ha;done)
  rename_i xs;obtain⟨hl,hx⟩:=uu hk;walk_at "g";simp only[fk,dU,if_false];refine⟨F4,?_⟩;simp only[mB]at ha;simp only[fZ,ha,zW]at q;rw[Zz9 _<|F4];by_cases h:xs.length%2=1;rw[fz (by simp;omega)];walk_at "g";refine F3 hl ?_;walk_at "g";rw[Qm h,zW]at q;have e:decide (((xs.length:Int)+1)/2<=5)=decide (xs.length<=9):=by rw[decide_eq_decide];omega
  rw[e];exact q;rw[ks (by simp;omega)];rw[Qt h,Bool.false_and]at q;exact q
theorem Mp:Rd ql Gr Zg:=by
 rintro _ E Q ⟨x,rfl,h,q⟩;unfold Gr;walk_at "g";refine LR h ?_;walk_at "g";unfold ij at q;cases e:fZ x with
 |false=>rw[e]at q;exact q|true=>rw[e]at q;exact q
theorem AI{x:D}{E:Rb}(h:kd x=true)(hb:fZ x=false->E "NoSlants")(hg:∀s n,x=aT s->IsSl s n->Q .non):ql [x] E Q:=by
 cases e:fZ x with
 |false=>exact F7 h e<|hb e
 |true=>obtain⟨s,n,rfl,hs⟩:=m7 e;exact F6 hs<|hg s n rfl hs
theorem lh{x:D}{v:Except Str D}{E:Rb}(e:fZ x=false)(q:exQ E Q (ij x v)):E "NoSlants" :=by rw[m6 e]at q;exact q
theorem li{v:Except Str D}{E:Rb}(h:IsSl s n)(q:exQ E Q (ij (aT s) v)):exQ E Q v:=by rw[gK h]at q;exact q
theorem Mq(h:i<n):(tbl s n)[i]? = some ((s.drop<|n-1-i).take n):=by unfold tbl;rw[cH,iX h];rfl
theorem Mr:Rd xK Gu Zj:=by
 rintro _ E Q ⟨x,rfl,hk,q⟩;unfold Gu;walk_at "g";refine AI hk (λe=>lh e q) λs n e h=>?_;subst e;replace q:Q (bC s n):=by have:=li h q;rw[fw,h.sN]at this;exact this
 refine uF h ?_;walk_at "g";have h5:=h.n5;have hl:=h.len;refine⟨E8,E8,?_⟩;rw[jS];refine vv (f:=λd=>match d with|.int i=>aY ((s.drop<|n-1-i.toNat).take n)|_=>.non) (λd hd Q hq=>?_) .un [] (by simp[rng,aO];omega) ?_;obtain⟨i,hi,rfl⟩:=YbU.mp hd;rw[Yag]at hi;walk_at "g";refine⟨⟨lg (n:=2) F4<|E8,lg (n:=10) E8<|E8⟩,?_⟩;have e:cJ (s.map D.int) (some<|(n:Int)-1-(0+(i:Int))) (some<|2*(n:Int)-1-(0+(i:Int)))=((s.drop<|n-1-i).take n).map D.int:=by rw[GI (a:=n-1-i) (b:=2*n-1-i) E8 E8 E8 (by rw[bH];omega),show 2*n-1-i-(n-1-i)=n by omega,<-sY,<-lV]
 show Q (D.lst<|cJ (s.map D.int) _ _);rw[e];have e2:(0+(i:Int)).toNat=i:=E8
 rw[e2]at hq;exact hq;have e:(rng 0 n).map (λd=>match d with|.int i=>aY ((s.drop<|n-1-i.toNat).take n)|_=>.non)=(tbl s n).map aY:=by unfold rng tbl;rw[dG,dG];refine jo λi _=>?_;simp
 rw[dQ,e];exact q
theorem gX(s:QY)(n:Nat):(tbl s n).length=n:=by simp[tbl]
theorem kH(h:IsSl s n):∀r∈tbl s n,r.length=n/\∀x∈r,-50<=x/\x<=50:=by intro r hr;unfold tbl at hr;obtain⟨i,hi,rfl⟩:=YbU.mp hr;rw[Yag]at hi;have hl:=h.len;refine⟨by rw[iC,lx];omega,λx hx=>h.b x<|qc<|mT hx⟩
theorem Ms:Rd AA Gv Ze7:=by
 rintro _ E Q ⟨x,rfl,hk,q⟩;unfold Gv;walk_at "g";refine AI hk (λe=>lh e q) λs n e h=>?_;subst e;replace q:Q (aT s.reverse):=by have:=li h q;rw[fw]at this;exact this
 unfold aT;walk_at "g";rw[<-sZ];exact q
theorem Mu:Rd uC Gw Zmh:=by
 rintro _ E Q ⟨⟨x,k⟩,rfl,⟨hk,hk2⟩,q⟩;dsimp only at hk hk2 q;unfold Gw;walk_at "g";refine AI hk (λe=>lh e q) λs n e h=>?_;subst e;replace q:=li h q;rw[h.sN,fw]at q;have hl:=h.len;refine uF h ?_;walk_at "g";refine LL hk2 ?_;walk_at "g";cases e:k9 1 (n:Int) k with
 |false=>rw[e]at q;exact q
 |true=>
  rw[e]at q;have q:Q (aT<|cor s n (vw k).toNat):=q;obtain⟨i,rfl⟩:∃i,k=.int i:=by cases k<;>first|exact⟨_,rfl⟩|cases e
  simp only[k9,dX,Qo]at e;obtain⟨k,rfl⟩:∃k:Nat,i=k:=⟨i.toNat,E8⟩;simp only[fk,dU,if_false];unfold aT;walk_at "g";rw[GI (a:=n-k) (b:=n+k-1) E8 E8 E8 (by rw[bH];omega),show n+k-1-(n-k)=2*k-1 by omega,<-sY,<-lV];exact q
theorem Mv:Rd vz Gx Zjc:=by rintro _ E Q ⟨⟨x,y⟩,rfl,⟨hk,hk2⟩,q⟩;dsimp only at hk hk2 q;unfold Gx;walk_at "g";refine AI hk (λe=>lh e q) λs n e h=>?_;subst e;replace q:=li h q;rw[h.sN]at q;exact uF h<|LO hk2 q
theorem Mw:Rd AB Gy ZgR:=by
 rintro _ E Q ⟨⟨s,n⟩,rfl,h,q⟩;have h5:=h.n5;unfold Gy;walk_at "g";refine F8 h ?_;unfold bC;walk_at "g";refine vv (f:=λd=>match d with|.lst xs=>.tup (xs.map λx=>.tup [x,.int 1])|_=>.non) (λd hd Q hq=>?_) .un [] (by simp[gX,aO];omega) ?_;obtain⟨r,hr,rfl⟩:=YbU.mp hd;walk_at "g";have:=(kH h r hr).1;refine F1 E8 ?_;have e:aH (dJ r)=.tup ((r.map D.int).map λx=>.tup [x,.int 1]):=by unfold aH dJ;rw[dG,dG];exact congrArg D.tup<|jo λi _=>xP i
 rw[e];exact hq;have e:((tbl s n).map aY).map (λd=>match d with|.lst xs=>.tup (xs.map λx=>.tup [x,.int 1])|_=>.non)=(tbl s n).map λr=>aH (dJ r):=by rw[dG];refine jo λr _=>?_;unfold aH dJ;simp only[Function.comp_apply,aY];rw[dG,dG];exact congrArg D.tup<|jo λi _=>(xP i).symm
 rw[dQ,e];exact q
theorem AJ{x:Int}(h:-50<=x/\x<=50):Sz 6 (x:Rat):=Sz.int x E8 E8
theorem Mx:Rd ss Gz Ziu:=by
 rintro _ E Q ⟨⟨x,y⟩,rfl,⟨hk,hk2,hbs⟩,q⟩;dsimp only at hk hk2 hbs q;unfold Gz;walk_at "g";cases e:fZ x with
 |false=>exact LW hk hk2 e<|lh e q
 |true=>
 obtain⟨s,n,rfl,h⟩:=m7 e;have h5:=h.n5;refine F9 h hk2 ?_;replace q:=li h q;rw[h.sN,fw]at q;walk_at "g";cases er:gW n y with
 |false=>rw[er]at q;exact q
 |true=>
 rw[er]at q;obtain⟨r,rfl,hl'⟩:=AD er;have hl:r.length=n:=E8
 have q:Q (aH<|bR s n<|rQ<|aH r):=q;rw[re]at q;obtain⟨m,hm,hb⟩:=hbs r rfl;simp only[fk,dU,if_false];refine LY h ?_;walk_at "g";have key:∀line∈tbl s n,BR (dJ line) r:=λline hline=>by
  obtain⟨h1,h2⟩:=kH h line hline;refine⟨6,m,λx hx=>?_,hm,?_⟩
  .obtain⟨i,hi,rfl⟩:=YbU.mp hx
   exact AJ<|h2 i hi
  .have:(dJ line).length=n:=by unfold dJ;rw[bH];exact h1
   rw[this];have:n*(6+m+1)<=5*(6+m+1):=mR _ h5;omega
 refine iA (g:=λline=>aH<|dJ line) (f:=λline=>aU<|du (dJ line) r) (tbl s n) (λline hl' Q hq=>?_) .un [] (by simp[gX,aO];omega) ?_
 .walk_at "g"
  exact F2 (key line hl') hq
 .have e:(tbl s n).map (λline=>aU<|du (dJ line) r)=(bR s n r).map aU:=by
   unfold bR;rw[dG];rfl
  rw[dQ,e];exact q
def AK:bV:=fnS (λx:QY×Nat=>[.scr<|x.1.map .int,.int x.2]) (λ_=>True) λx=>.int<|x.1.getD x.2 0
def xQ:bV:=rlS (λx:Int=>[.int x]) (λ_=>True) λ_ d=>∃j:Int,d=.int j
def AL:bV:=fnS (λx:Int=>[.int x]) (λ_=>True) λ_=>.pen
def pW:bV:=rlS (λm:Nat=>[.pen,.int m]) (λm=>0<m/\m<2^30) λm d=>∃k:Nat,d=.int k/\k<m
def vA:bV:=uw
def GJ:bV:=rlS (λ_:Unit=>[.pen]) (λ_=>True) λ_ d=>∃s n,IsSl s n/\d=aT s
section
variable{E:Rb}{x:D}{l m a b:Int}{p:Rat}
theorem My{xs:QY}(q:Q (.int<|xs.getD i 0)):AK [.scr<|xs.map .int,.int i] E Q:=⟨(xs,i),rfl,trivial,q⟩
theorem GK(q:∀j:Int,Q<|.int j):xQ [.int a] E Q:=⟨a,rfl,trivial,λd ⟨j,hd⟩=>by rw[hd];exact q j⟩
theorem Mz(q:Q .pen):AL [.int a] E Q:=⟨a,rfl,trivial,q⟩
theorem su(h:0<n)(h':n<2^30)(q:∀k:Nat,k<n->Q (.int k)):pW [.pen,.int n] E Q:=⟨n,rfl,⟨h,h'⟩,λd ⟨k,hd,hk⟩=>by rw[hd];exact q k hk⟩
theorem MA(q:∀s n,IsSl s n->Q (aT s)):GJ [.pen] E Q:=⟨(),rfl,trivial,λd ⟨s,n,h,hd⟩=>by rw[hd];exact q s n h⟩
end
abbrev Zfs:Q4:=["_law_script", "_law_k"]
def GL:WS:=(aL (cR (wT<|w2 mz (wN 1)<|wB bQ<|aC (wN 0) aA) (aN<|w2 gIx (wN 0)<|wN 1) cW)<|aN<|wC<|.int<|0)
abbrev Ziy:Q4:=["_law_seed"]
def GM:WS:=(aL (aR 0<|w2 si (w2 gAdd (wN 0)<|wC<|.int<|7919)<|wC<|.int<|2147483647)<|aN<|w2 si (w2 gAdd (w2 gAdd (w2 gMul (wN 0)<|wN 0)<|w2 gMul (wC<|.int<|48271)<|wN 0)<|wC<|.int<|12345)<|wC<|.int<|2147483629)
abbrev Zgb:Q4:=["_law_cell", "_law_left"]
def GN:WS:=(aL (aR 1<|wB kY<|aC (wN 0)<|aC (w2 jf (wC<|.int<|0)<|wN 0) aA)<|aN<|fc<|bP<|aC (wN 1)<|aC (wB ic<|aC (w2 Dg (wN 1)<|w2 xB (wC<|.int<|10)<|wC<|.int<|18) aA)<|aC (w2 si (wN 1)<|wC<|.int<|1000003) aA)
abbrev Ziz:Q4:=["_law_pen", "_law_many", "_law_found"]
def GO:WS:=(aL (cR (wT<|w2 (gEq false) (w2 d6 (wN 0)<|wC<|.int<|1)<|wC<|.int<|1) (aL (aR 2<|w2 si (w2 d6 (wN 0)<|wC<|.int<|0)<|wN 1)<|aL (eU 0<|w2 iO (w2 d6 (wN 0)<|wC<|.int<|0)<|wN 1)<|aN<|wN 2) cW)<|aL (eU 0<|wF xQ<|aC (w2 gAdd (wF xQ<|aC (w2 d6 (wN 0)<|wC<|.int<|2) aA)<|wC<|.int<|7) aA)<|aN<|w2 si (w2 iO (w2 d6 (wN 0)<|wC<|.int<|2)<|wC<|.int<|64)<|wN 1)
theorem MB:Rd AK GL Zfs:=by rintro _ E Q ⟨⟨xs,i⟩,rfl,_,q⟩;unfold GL;walk_at "g";by_cases h:i<xs.length;rw[ks<|by simp[h]];refine⟨.int<|xs.getD i 0,GH rfl ?_,q⟩;rw[cH,aZ,bU h];rfl;rw[fz (by simp;omega)];rw[aZ,eA<|E8]at q;exact q
theorem MC:Rd xQ GM Ziy:=by rintro _ E Q ⟨x,rfl,_,q⟩;unfold GM;walk_at "g";have h1:=B6 (x+7919) (show(0:Int)<2147483647 by decide);have h2:=Int.fmod_lt_of_pos (x+7919) (show(0:Int)<2147483647 by decide);have b:Bd ((x+7919).fmod 2147483647):=lg (n:=32) E8 E8;exact⟨F4,⟨b,b⟩,⟨lg (n:=32) F4<|E8,b⟩,F4,q _ ⟨_,rfl⟩⟩
theorem MD:Rd AL GN Zgb:=by rintro _ E Q ⟨x,rfl,_,q⟩;unfold GN;walk_at "g";exact⟨⟨F4,F4,F4⟩,F4,F4,⟨_,_,_,rfl⟩,q⟩
theorem ME:Rd pW GO Ziz:=by
 rintro _ E Q ⟨m,rfl,⟨h0,h1⟩,q⟩;have hb:Bd (m:Int):=lg (n:=30) E8 E8;have fin:∀x:Int,Q (.int<|x.fmod m):=λx=>by have h1:=B6 x (show(0:Int)<m by omega);have h2:=Int.fmod_lt_of_pos x (show(0:Int)<m by omega);exact q _ ⟨(x.fmod m).toNat,by rw[BV h1],E8⟩
 unfold GO;walk_at "g";refine⟨KE,λj=>?_⟩;walk_at "g";split;refine⟨KE,λi=>⟨E8,?_⟩⟩;walk_at "g";exact⟨KE,λi'=>⟨⟨E8,hb⟩,fin i⟩⟩;refine⟨KE,λk=>GK λk1=>?_⟩;walk_at "g";refine GK λk2=>?_;walk_at "g";exact⟨KE,λk3=>⟨⟨F4,lg (n:=7) F4<|E8⟩,E8,fin _⟩⟩
theorem GP(x:Int):(if x<0 then -x else x)=((x.natAbs:Nat):Int):=by split<;>omega
theorem xR{t b:Int}(hb:b≠0)(h1:t.natAbs<2^n)(h2:b.natAbs<2^n):Sz n (Rat.divInt t b):=by
 unfold Sz;rw[Rat.num_divInt,Rat.den_divInt,fz hb];have hg:Int.gcd b t≠0:=by have:=Int.gcd_pos_of_ne_zero_left t hb;omega
 refine⟨mS (FX hg ?_) ?_,mS (Nat.div_le_self _ _) h2⟩;exact Int.dvd_mul_of_dvd_right<|Int.gcd_dvd_right ..
 rw[eI,Int.natAbs_sign_of_ne_zero hb,Nat.one_mul];exact h1
local macro_rules | `(tactic| ext)=>`(tactic| ((try dsimp only at *);(try walk_at "w");(try dsimp only)))
theorem bW{E:Rb}(h:z E { N with nx:=z' E N } ρ):aL z z' E N ρ:=h
theorem uI{E:Rb}(I:cV->Prop)(hz:∀nx:cV->Prop,(∀ρ,I ρ->nx ρ)->z E { N with nx:=nx } ρ)(hr:∀ρ,I ρ->z' E N ρ):aL z z' E N ρ:=hz _ hr
theorem ik{c:WT}{E:Rb}{b:Bool}(hc:∀Q:Bool->Prop,Q b->c E ρ Q)(h1:b=true->zb E N ρ)(h2:b=false->N.nx ρ):cR c zb cW E N ρ:=by
 refine hc _ ?_;cases b with
 |true=>rw[ks rfl];exact h1 rfl|false=>rw[fz<|F4];exact h2 rfl
theorem DE(xs:QY):kj (xs.map D.int)=true:=by
 induction xs with
 |nil=>rfl|cons x xs ih=>rw[c8,kj,ih];rfl
theorem GQ(h:∀y∈ys,∃i:Int,y=.int i/\-50<=i/\i<=50):∃s:QY,ys=s.map D.int/\∀x∈s,-50<=x/\x<=50:=by
 induction ys with
 |nil=>exact⟨[],rfl,KE⟩
 |cons y ys ih=>
  obtain⟨s,rfl,hs⟩:=ih λz hz=>h z (by simp[hz]);obtain⟨i,rfl,h1,h2⟩:=h y KE;exact ⟨i::s,rfl,λx hx=>by
   rcases Yan.mp hx with rfl|hx
   .exact⟨h1,h2⟩
   .exact hs x hx⟩
abbrev LX:Q4:=["NoSlants", "NoRow", "NoNumber", "NoLine", "NotEven", "NotFull"]
abbrev MX:Q4:=["NoSlants", "NoRow", "NoNumber", "NoLine", "NotEven", "NotFull", "NotStrong", "NoText", "TooGreat"]
noncomputable def MF(n:Str):Str:=if n == "NoSlants" then "slants" else if n == "NoRow" then "row" else if n == "NoNumber" then "number" else if n == "NoLine" then "line" else if n == "NotEven" then "even" else "full"
mutual
def jK(m:Nat):D->Bool
 |.int i=>decide (i.natAbs<2^m)|.tup xs=>fG m xs|.lst xs=>fG m xs|_=>true
def fG(m:Nat):Rc->Bool
 |[]=>true|x::r=>jK m x&&fG m r
end
theorem AM{m:Nat}:∀{xs:Rc},fG m xs=true↔∀x∈xs,jK m x=true
 |[]=>by simp[fG]|x::r=>by rw[fG,dX,AM];simp
theorem Zjq:jK m (aU q)=true↔Sz m q:=by unfold aU Sz;rw[jK,fG,fG,fG,jK,jK];simp
theorem Zdq:jK m (aH r)=true↔∀x∈r,Sz m x:=by
 unfold aH;rw[jK,AM];constructor;intro h x hx;exact Zjq.mp<|h _ (o1 hx)
 intro h x hx;obtain⟨q,hq,rfl⟩:=YbU.mp hx;exact Zjq.mpr<|h q hq
def xT:bV:=uv
section
variable{E:Rb}{x:D}
theorem GR(h:kd x=true)(q:Q (.bl<|qk x)):xT [x] E Q:=⟨x,rfl,h,q⟩
end
abbrev ZgY:Q4:=["_law_found"]
def MG:WS:=(aN<|gT (wB gIs<|aC (wN 0)<|aC (wC<|.ty "int") aA)<|j8<|wB gIs<|aC (wN 0)<|aC (wC<|.ty "bool") aA)
def sm:Nat->(Q5)->Rat
 |0,_=>0|n+1,f=>f 0+sm n λi=>f<|i+1
theorem AN:∀{n:Nat} {f g:Q5},(∀i,i<n->f i=g i)->sm n f=sm n g
 |0,_,_,_=>rfl|n+1,f,g,h=>by rw[sm,sm,h 0<|E8,AN λi hi=>h (i+1)<|E8]
theorem GS:∀(n:Nat) (f g:Q5),sm n (λi=>f i+g i)=sm n f+sm n g
 |0,_,_=>by rw[sm,sm,sm,jV]|n+1,f,g=>by rw[sm,sm,sm,GS n (λi=>f<|i+1) λi=>g<|i+1];grind
theorem DF:∀(n:Nat) (c:Rat) (f:Q5),c*sm n f=sm n λi=>c*f i
 |0,c,_=>by rw[sm,sm,Rat.mul_zero]|n+1,c,f=>by rw[sm,sm,<-DF n c λi=>f<|i+1];grind
theorem GT:∀{n:Nat} {f:Q5},(∀i,i<n->f i=0)->sm n f=0
 |0,_,_=>rfl|n+1,f,h=>by rw[sm,h 0<|E8,GT λi hi=>h (i+1)<|E8,jV]
theorem GU(m:Nat):∀(n:Nat) (f:Nat->Q5),(sm n λi=>sm m λj=>f i j)=sm m λj=>sm n λi=>f i j
 |0,f=>by rw[sm];exact(GT λ_ _=>rfl).symm|n+1,f=>by rw[sm,GU m n λi j=>f (i+1) j,<-GS];rfl
theorem AO:∀(n:Nat) (f g:Q5),du ((List.range n).map f) ((List.range n).map g)=sm n λi=>f i*g i
 |0,_,_=>rfl|n+1,f,g=>by rw[zX,c8,c8,dG,dG,du,sm,<-AO n (λi=>f<|i+1) λi=>g<|i+1];rfl
theorem Zn{α:Type}(r:List α)(d:α):r=(List.range r.length).map λi=>r.getD i d:=by
 refine qw λi=>?_;rcases eV i r.length with h|h
 rw[cH,iX h,lU,aZ,bU h];rfl;rw[eA h,eA<|by simpa using h]
theorem GV{α:Type}{f g:Nat->α}(h:∀i,i<n->f i=g i):(List.range n).map f=(List.range n).map g:=
 jo λi hi=>h i<|Yag.mp hi
def ent(s:QY)(n i j:Nat):Int:=s.getD (n-1-i+j) 0
theorem DG(h:IsSl s n):tbl s n=(List.range n).map λi=>(List.range n).map λj=>ent s n i j:=by
 unfold tbl;refine GV λi hi=>qw λj=>?_;have hl:=h.len;rcases eV j n with hj|hj
 rw[BN hj,vf,cH,iX hj,bU<|E8];unfold ent;rw[lU,aZ,bU<|E8];rfl;rw[eA (by rw[iC];omega),eA<|by simpa using hj]
theorem IsSl.rev(h:IsSl s n):IsSl s.reverse n:=⟨by rw[zQ];exact h.len,h.n1,h.n5,λx hx=>h.b x<|Ycu.mp hx⟩
theorem MH(h:IsSl s n)(hi:i<n)(hj:j<n):ent s.reverse n i j=ent s n j i:=by have hl:=h.len;unfold ent;rw[aZ,aZ,BT<|E8];congr 2;omega
theorem jh(h:IsSl s n)(h1:1<=k)(h2:k<=n):IsSl (cor s n k) k:=by have hl:=h.len;have h5:=h.n5;refine⟨?_,h1,E8,λx hx=>h.b x<|qc<|mT hx⟩;unfold cor;rw[iC,lx];omega
theorem GW(h:IsSl s n)(hr:r.length=n):bR s n r=(List.range n).map λi=>sm n λj=>(ent s n i j:Rat)*r.getD j 0:=by
 unfold bR;rw[DG h,dG];refine GV λi hi=>?_;show du (dJ<|(List.range n).map λj=>ent s n i j) r=_;unfold dJ;rw[dG];conv=>lhs;rw[Zn r 0,hr]
 exact AO n _ _
theorem GX{o:QZ}(h:IsSl s n)(hr:r.length=n)(ho:o.length=n):du o (bR s n r)=du r (bR s.reverse n o):=by
 rw[GW h hr,GW h.rev ho];conv=>lhs;rw[Zn o 0,ho]
 conv=>rhs;rw[Zn r 0,hr]
 rw[AO,AO];have e1:(sm n λi=>o.getD i 0*sm n λj=>(ent s n i j:Rat)*r.getD j 0)=sm n λi=>sm n λj=>o.getD i 0*((ent s n i j:Rat)*r.getD j 0):=AN λi _=>DF _ _ _;rw[e1,GU];refine AN λj hj=>?_;rw[DF];refine AN λi hi=>?_;rw[MH h hj hi];grind
noncomputable def cQ(n p:Nat):QZ:=(List.range n).map λj=>if j=p then 1 else 0
theorem DH{g:WG}{zb:WS}{E:Rb}{N:Nds}(I:cV->Prop):∀(ds:Rc),(∀d∈ds,∀ρ,I ρ->∀nx:cV->Prop,(∀ρ,I ρ->nx ρ)->g d ρ λρ1=>zb E { nx:=nx,rt:=N.rt,bk:=N.nx,ct:=nx } ρ1)->(∀ρ,I ρ->N.nx ρ)->∀ρ,I ρ->ZbA g zb E N ds ρ
 |[],_,hn,ρ,i=>hn ρ i|d::ds,h,hn,ρ,i=>h d (gZ ..) ρ i _<|DH I ds (λd hd=>h d<|fM _ hd) hn
theorem xU{g:WG}{zb:WS}{E:Rb}{N:Nds}(I:Rc->cV->Prop)(h:∀d ds ρ,I (d::ds) ρ->∀nx:cV->Prop,(∀ρ,I ds ρ->nx ρ)->g d ρ λρ1=>zb E { nx:=nx,rt:=N.rt,bk:=N.nx,ct:=nx } ρ1)(hn:∀ρ,I [] ρ->N.nx ρ):∀(ds:Rc) ρ,I ds ρ->ZbA g zb E N ds ρ
 |[],ρ,i=>hn ρ i|d::ds,ρ,i=>h d ds ρ i _<|xU I h hn ds
theorem pX(n:Nat):rng 0 n=(List.range n).map λ(k:Nat)=>D.int (k:Int):=by unfold rng;exact jo λk _=>by rw[Int.zero_add]
section
variable{QI:Int->Prop}{QB:Bool->Prop}{i j:Int}{b:Bool}{o o':Option Int}
theorem lO:isB QB (.bl b)=QB b:=rfl
theorem m8:isI QI (.int i)=QI i:=rfl
theorem m9:isL QL (.lst xs)=QL xs:=rfl
theorem nb:isL QL (aY s)=QL (s.map .int):=rfl
theorem nc:isL QL (bC s n)=QL ((tbl s n).map aY):=rfl
theorem nh:An QL (.tup xs)=QL xs:=rfl
theorem nr:isS QL (.lst xs)=QL xs:=rfl
theorem nu:isS QL (.tup xs)=QL xs:=rfl
theorem nw:isS QL (aH r)=QL (r.map aU):=rfl
theorem ny:isS QL (aT s)=QL (s.map .int):=rfl
theorem nA:isS QL (aY s)=QL (s.map .int):=rfl
theorem nD:isS QL (bC s n)=QL ((tbl s n).map aY):=rfl
theorem nE:bQ [.tup xs] Q=Q (.int xs.length):=rfl
theorem nF:bQ [.lst xs] Q=Q (.int xs.length):=rfl
theorem nG:bQ [.scr xs] Q=Q (.int xs.length):=rfl
theorem nI:bQ [aH r] Q=Q (.int r.length):=by show Q (.int ((r.map aU).length:Int))=_;rw[bH]
theorem nJ:bQ [aT s] Q=Q (.int s.length):=by show Q (.int ((s.map D.int).length:Int))=_;rw[bH]
theorem nK:bQ [aY s] Q=Q (.int s.length):=by show Q (.int ((s.map D.int).length:Int))=_;rw[bH]
theorem nM:bQ [bC s n] Q=Q (.int n):=by show Q (.int (((tbl s n).map aY).length:Int))=_;rw[bH,gX]
theorem nN:gIx (.tup xs) (.int i) Q = ∃d,eG xs i=some d/\Q d:=rfl
theorem nO:gIx (.lst xs) (.int i) Q = ∃d,eG xs i=some d/\Q d:=rfl
theorem nQ:gIx (.scr xs) (.int i) Q = ∃d,eG xs i=some d/\Q d:=rfl
theorem nR:gIx (aH r) (.int i) Q = ∃d,eG (r.map aU) i=some d/\Q d:=rfl
theorem nS:gIx (aT s) (.int i) Q = ∃d,eG (s.map .int) i=some d/\Q d:=rfl
theorem nU:gIx (aY s) (.int i) Q = ∃d,eG (s.map .int) i=some d/\Q d:=rfl
theorem nV:gIx (bC s n) (.int i) Q = ∃d,eG ((tbl s n).map aY) i=some d/\Q d:=rfl
theorem nX:gCut (.tup xs) o o' Q=Q (.tup<|cJ xs o o'):=rfl
theorem nY:gCut (.lst xs) o o' Q=Q (.lst<|cJ xs o o'):=rfl
theorem nZ:gCut (.scr xs) o o' Q=Q (.lst<|cJ xs o o'):=rfl
theorem n4:gCut (aH r) o o' Q=Q (.tup<|cJ (r.map aU) o o'):=rfl
theorem n6:gCut (aT s) o o' Q=Q (.tup<|cJ (s.map .int) o o'):=rfl
theorem n8:gCut (aY s) o o' Q=Q (.lst<|cJ (s.map .int) o o'):=rfl
theorem n9:gCut (bC s n) o o' Q=Q (.lst<|cJ ((tbl s n).map aY) o o'):=rfl
theorem oa:gRev (.tup xs) Q=Q (.tup xs.reverse):=rfl
theorem oh:gRev (.lst xs) Q=Q (.lst xs.reverse):=rfl
theorem oj:gRev (aH r) Q=Q (aH r.reverse):=by show Q (.tup (r.map aU).reverse)=_;rw[<-sZ];rfl
theorem ol:gRev (aT s) Q=Q (aT s.reverse):=by show Q (.tup (s.map D.int).reverse)=_;rw[<-sZ];rfl
theorem om:gRev (aY s) Q=Q (aY s.reverse):=by show Q (.lst (s.map D.int).reverse)=_;rw[<-sZ];rfl
theorem oq{α:Type}:ia (α:=α) [.tup xs] QL=QL xs:=rfl
theorem ot{α:Type}:ia (α:=α) [.lst xs] QL=QL xs:=rfl
theorem ou{α:Type}:ia (α:=α) [aT s] QL=QL (s.map .int):=rfl
theorem oy:lM [.tup xs] Q=Q (.tup xs):=rfl
theorem oz:lM [.lst xs] Q=Q (.tup xs):=rfl
theorem oA:lM [aY s] Q=Q (aT s):=rfl
theorem oB:gAdd (.int i) (.int j) Q=Q (.int<|i+j):=rfl
theorem oC:gAdd (.lst xs) (.lst ys) Q=(xs.length+ys.length<=aO/\Q (.lst<|xs++ys)):=rfl
theorem oE:gAdd (.tup xs) (.tup ys) Q=(xs.length+ys.length<=aO/\Q (.tup<|xs++ys)):=rfl
theorem oF:gMul (.int i) (.int j) Q=(r8 i j/\Q (.int<|i*j)):=rfl
theorem oG:gMul (.lst xs) (.int j) Q=(j<1000/\-1000<j/\xs.length*j.toNat<=aO/\Q (.lst (List.replicate j.toNat xs).flatten)):=rfl
theorem gB{C:Int->Int->Prop}{kd:Int->Int->D}:gI2 C kd (.int i) (.int j) Q=(C i j/\Q (kd i j)):=rfl
theorem oH:jI [.int i] Q=Q (.int (if i<0 then -i else i)):=rfl
theorem oJ:kY [.int i,.int j] Q=Q (.int (if j>i then j else i)):=rfl
theorem oK:ic [.bl b] Q=Q (.int (if b then 1 else 0)):=rfl
theorem oM:ic [.int i] Q=Q (.int i):=rfl
theorem oN:j9 [.lst xs] Q = ∃bs:List Bool,xs=bs.map D.bl/\Q (.bl<|bs.all id):=rfl
theorem gL:i1 QL [.int j]=(-10000<=j/\j<10000/\QL (rng 0 j.toNat)):=rfl
theorem gM:i2 QL [.int i,.int j]=((-10000<=i/\i<10000/\-10000<=j/\j<10000)/\QL (rng i (j-i).toNat)):=rfl
end
def fe:Nat->Rc->Rc
 |_,[]=>[]|i,x::xs=>.tup [.int i,x]::fe (i+1) xs
def iE(t:WA):WA:=λE ρ Q=>t E ρ λds=>match ds with|[x]=>isS (λxs=>Q<|fe 0 xs) x|_=>False
def Em(i:Nat)(t:WA):WS:=λE N ρ=>match ρ[i]? with
 |some (.ow xs)=>t E ρ λys=>xs.length+ys.length<=aO/\N.nx (ρ.set i<|.ow<|xs++ys)
 |_=>False
def ND(wt:WT)(wa wb:WA):WA:=λE ρ Q=>wt E ρ λk=>if k=true then wa E ρ Q else wb E ρ Q
local macro_rules | `(tactic| walk_at "w")=>`(tactic| simp only[iE,aN,cR,aR,cW,gF,bM,bX,bF,kG,eR,eE,da,gI,eU,km,bE,jg,fE,wM,ZdZ,gT,fU,j8,e8,dZ,bK,wT,kC,w1,w2,wB,wF,wL,bD,cL,Zbq,aB,bP,aC,aA,aLC,ZbP,cX,iS,iL,iT,fD,ig,iZ,fq,eh,wN,wC,gN,ez,c7,et,d6,kZ,fc,dB,fX,dm,cY,fb,fY,aCut,dP,pub,c8,gG,dR,iw,gR,dQ,List.replicate,eJ,gb,g9,hJ,Nat.reduceSub,Nat.reduceAdd,iF,ly,true_and,dU,if_true,if_false,ite_true,ite_false,jS,fk,mU,lO,m8,m9,nb,nc,nh,nr,nu,nw,ny,nA,nD,nE,nF,nG,nI,nJ,nK,nM,nN,nO,nQ,nR,nS,nU,nV,nX,nY,nZ,n4,n6,n8,n9,oa,oh,oj,ol,om,oq,ot,ou,oy,oz,oA,oB,oC,oE,oF,oG,gB,oH,oJ,oK,oM,oN,gL,gM,Em,ND])
local macro_rules | `(tactic| walk_at "n")=>`(tactic| ((try dsimp only);(refine bW ?_);ext))
theorem MI:Rd xT MG ZgY:=GA
theorem MJ(a b c d:Int):k6 (.tup [.int a,.int b]) (.tup [.int c,.int d])=(a==c&&b==d):=by simp[k6,pd,iP,PyData.eqv,PyData.eqvAll]
theorem MK(h:xs.length+ys.length<=aO)(q:Q (.tup<|xs++ys)):gAdd (.tup xs) (.tup ys) Q:=⟨h,q⟩
theorem ji(h:n<=5000):n<=aO:=by unfold aO;omega
theorem uJ{E:Rb}(I:Nat->cV->Prop)(n:Nat)(h:∀k,k<n->∀ρ,I k ρ->∀nx:cV->Prop,(∀ρ,I (k+1) ρ->nx ρ)->g (.int k) ρ λρ1=>zb E { nx:=nx,rt:=N.rt,bk:=N.nx,ct:=nx } ρ1)(hn:∀ρ,I n ρ->N.nx ρ)(ρ:cV)(h0:I 0 ρ):ZbA g zb E N (rng 0 n) ρ:=by
 refine xU (λds ρ=>∃k,k<=n/\ds=(rng 0 n).drop k/\I k ρ) ?_ ?_ _ ρ ⟨0,jT _,by rw[sV],h0⟩;rintro d ds ρ ⟨k,hk,e,i⟩ nx hnx;have hlen:(rng 0 n).length=n:=by unfold rng;simp
 have hkn:k<n:=by
  rcases eV k n with z|z
  exact z;rw[List.drop_eq_nil_of_le<|E8]at e;cases e
 rw[sW<|E8]at e;injection e with e1 e2
 have e3:(rng 0 n)[k]' E8=.int k:=by unfold rng;simp
 rw[e1,e3];exact h k hkn ρ i nx λρ' i'=>hnx ρ' ⟨k+1,hkn,e2,i'⟩;rintro ρ ⟨k,hk,e,i⟩;have hlen:(rng 0 n).length=n:=by unfold rng;simp
 have hkn:k=n:=by
  rcases eV k n with z|z
  rw[sW<|E8]at e;cases e;omega
 subst hkn;exact hn ρ i
theorem ML:bootBuiltins "ValueError" = some (.type "ValueError"):=wp
theorem clsX_of{D:Addr}(g:PySem.W.findIn K (.ref D) "__getattribute__" = some (some<|.builtin "BaseException.__getattribute__"))(gn:PySem.W.findIn K (.ref D) "__getattr__" = some none)(be:PySem.W.mroIn K D (.type "BaseException")=some true)(h:PySem.W.hasDictIn K D=true)(a:PySem.W.findIn K (.ref D) "__class__" = some (some<|.builtin "object.__class__"))(gt:PySem.W.specialIn K (.builtin "object.__class__") "__get__" = some (some<|.builtin "getset_descriptor.__get__"))(tk:PySem.W.takesIn K (.builtin "object.__class__")=some true)(ob:PySem.W.mroIn K D (.type "object")=some true):iJ K D:=
 ⟨g,gn,be,by obtain⟨cd,hc,_⟩:=PySem.W.any_some h;rw[hc];rfl,a,gt,tk,ob⟩
section
def DI:WE:=λ_ _ _=>False
theorem MM:PX X EX e DI:=⟨⟨λ_ _ _=>False,λ_ _ _ _ _ _ h=>h.elim,λ_ _ _ _ _ _ _ _ _ _ h=>h.elim⟩,λ_ _ _ _ _ h=>h⟩
theorem MN{t:WA}{T:TE}(k:∀W0 H0 W σ H ρ E Q,SOk X.K W0 H0 W σ H ρ->jN X.K W0 H0 E EX->t E ρ (λds=>∀a vs W' H',Ext W H W' H'->H' a=some (.lst vs)->W'.G a=none->¬W'.Pn a->H a=none->Reps X.K W' vs ds->Q (.ref a) H')->T σ H Q)
  (m:∀E ρ P P',(∀d,P d->P' d)->t E ρ P->t E ρ P') (i:Nat):∀W0 H0 W σ H ρ E Q,SOk X.K W0 H0 W σ H ρ->jN X.K W0 H0 E EX->dm i t E ρ (λds=>∀a vs W' H',Ext W H W' H'->H' a=some (.lst vs)->W'.G a=none->¬W'.Pn a->H a=none->Reps X.K W' vs ds->Q (.ref a) H')->T σ H Q:=by
 intro W0 H0 W σ H ρ E Q s eo h;unfold dm at h;rcases s.lend i with ep|⟨a,us,s',e3,e2,e6⟩
 .rw[ep]at h
  exact k W0 H0 W σ H ρ E Q s eo<|m _ _ _ _ (λd hd=>hd.2) h
 .refine k W0 H0 _ σ H _ E Q s' eo (m _ _ _ _ (λd hd b vs W2 H2 x2 h1 h2 h3 h4 r2=>?_) h)
  have hb:b≠a:=λz=>by rw[z,e2]at h4;cases h4
  exact hd.2 b vs _ H2 (x2.bor e3) h1 (by rw[Wd.rem_ne hb];exact h2) h3 h4<|r2.rem (x2.g _ _ e6) hd.1
theorem DJ(i j:Nat)(vars:Q4)(sel:Q6)(hc:X.calm=true)(hN:X.N.Nodup)(hi:lN X EX target iter wi)(hg:∀s H fp,pS (X.lc sc vars sel s H fp) target g)(hf:∀s H fp,sf (X.lc sc vars sel s H fp) E0 ifs wf)(he:∀s H fp,PX (X.lc sc vars sel s H fp) E0 elt we)
  (hix:{X.N[i]? = some x}) (hx:autoParam (lC X.env.scope x) Rl._auto_1)
  (hsw:{swapsWith (.ListComp elt [⟨target,iter,ifs,0⟩] sc pos) (some<|.Name x pos') spos.line X.env=pure true})
  (ok:{mi sc X.env.scope=true}) (so:{rW X.N sc sel=true}) (hs:autoParam (∀x,foldedSetIterable iter X.env x=pure x) Rj._auto_1) (hfn:autoParam (Q8 X x) Ri._auto_1) :
  PZ X EX (.Assign [.Name x pos'] (.ListComp elt [⟨target,iter,ifs,0⟩] sc pos) spos) (bX i<|dm j<|aLC wi vars.length sel g wf we):=by
 obtain⟨ti,tg,tf,te,pi,pg,pf,pe,k⟩:=Dc hi hg hf he;have am:=aLC.mono (vars:=vars) (sel:=sel) hi (hg {} (λ_=>none) []).mono (hf {} (λ_=>none) []).mono (he {} (λ_=>none) []).mono;refine⟨⟨_,CP vars sel hc hN hix hx pi ok so pg pf pe hsw hs hfn,λW0 H0 F W σ H ρ E Dn N s fl eo no h=>?_⟩,λE ρ N N' hl q=>am _ _ _ _ (λ_ hq=>⟨hq.1,hl.nx _ hq.2⟩) q⟩;refine MN k am j W0 H0 W σ H ρ E _ s eo<|am _ _ _ _ (λxs hd=>⟨hd.1,λa vs W1 H1 x1 e1 e2 e3 e4 r1=>no.nx W1 _ H1 _ (s.own x1 e4 e1 e2 e3 r1) (fl.ext x1) hd.2⟩) h
def GY:D->Bool
 |.non=>true|.bl _=>true|_=>false
def DK:D->D->Bool
 |.non,.non=>true|.bl a,.bl b=>a==b|_,_=>false
def gIsC(neg:Bool):G2:=λx y Q=>GY y=true/\Q (.bl (if neg then !DK x y else DK x y))
theorem gIsC.mono{neg:Bool}:∀x y P P',(∀d,P d->P' d)->gIsC neg x y P->gIsC neg x y P':=λ_ _ _ _ hp h=>⟨h.1,hp _ h.2⟩
theorem MO{W:Wd}{x y:V}{v u:Value}{dx dy:D}(r1:Rep K W x dx)(r2:Rep K W y dy)(rx:RelV x v)(ry:RelV y u)(h:GY dy=true):plainIs v u=true/\(v==u)=DK dx dy:=by
 cases r2<;>first
  |(cases h;done)
  | (cases ry;cases r1<;>first
      |(cases rx;first|exact⟨rfl,rfl⟩|(rename_i a b;cases a<;>cases b<;>exact⟨rfl,rfl⟩))
      |(obtain⟨t,rfl⟩:=rx;exact⟨rfl,rfl⟩))
theorem GZ:h8 X (compareOp .IsNot) (gIsC true):=by refine⟨⟨λx y H Q=>∃W dx dy,WOk W H/\Rep X.K W x dx/\Rep X.K W y dy/\gIsC true dx dy (RQ X.K W H Q),?_,λW H x y dx dy Q ok rx ry hg=>⟨W,dx,dy,ok,rx,ry,hg⟩⟩,gIsC.mono⟩;rintro E1 s σ H x y v u Q I rx ry ⟨W,dx,dy,ok,r1,r2,h1,h2⟩;obtain⟨p,e⟩:=MO r1 r2 rx ry h1;exact wpAny_isNot_plain p<|tY I (h2.now ok<|.bl _) (by rw[e];rfl)
end
mutual
def G0:D->Bool
 |.lst _=>false|.tup xs=>xV xs|_=>true
def xV:Rc->Bool
 |[]=>true|x::r=>G0 x&&xV r
end
mutual
def G1:D->Bool
 |.dic=>false|.tup xs=>uK xs|.lst xs=>uK xs|_=>true
def uK:Rc->Bool
 |[]=>true|x::r=>G1 x&&uK r
end
def dl(x:D):Bool:=G0 x||G1 x
def mD(B:K4)(j:Nat):QZ:=B.map λl=>l.getD j 0
section
variable{E:Rb}{x:D}
theorem G3(B:K4)(j:Nat):(mD B j).length=B.length:=by unfold mD;rw[bH]
end
namespace B
def Zd:bV:=xH
def uL:bV:=Aw
def AQ:bV:=xI
def xW:bV:=GJ
def xX:bV:=fnS (λx:SL=>[aT x.1]) (λx=>IsSl x.1 x.2) λx=>bC x.1 x.2
section
variable{E:Rb}{x:D}{a b:Int}
theorem G4(q:Q (.int<|Int.gcd a b)):Zd [.int a,.int b] E Q:=⟨(a,b),rfl,trivial,q⟩
theorem Zc(h:kd x=true)(q:Q (.bl<|de x)):uL [x] E Q:=⟨x,rfl,h,q⟩
theorem MP(h:kd x=true)(q:Q (.bl<|gW a x)):AQ [x,.int a] E Q:=⟨(x,a),rfl,h,q⟩
theorem G5(q:∀s n,IsSl s n->Q (aT s)):xW [.pen] E Q:=MA q
theorem G6(h:IsSl s n)(q:Q (bC s n)):xX [aT s] E Q:=⟨(s,n),rfl,h,q⟩
end
abbrev Zjf:Q4:=["_law_one", "_law_other"]
def G7:WS:=(aL (aR 0<|wB jI<|aC (wN 0) aA)<|aL (aR 1<|wB jI<|aC (wN 1) aA)<|aL (bE<|uo (wT<|w2 (gEq true) (wN 1)<|wC<|.int<|0)<|eR 0 1<|aC (wN 1)<|aC (w2 si (wN 0)<|wN 1) aA)<|aN<|wN 0)
abbrev Zg0:Q4:=["_law_top", "_law_bottom", "_law_both"]
def G8:WS:=(aL (aR 2<|wF Zd<|aC (wN 0)<|aC (wN 1) aA)<|aL (cR (wT<|w2 mz (wN 1)<|wC<|.int<|0) (aR 2<|w1 jJ<|wN 2) cW)<|aN<|bD<|aC (w2 iO (wN 0)<|wN 2)<|aC (w2 iO (wN 1)<|wN 2) aA)
abbrev Zbz:Q4:=["_law_thing"]
def AR:WS:=(aL (cR (dZ (bK<|wT<|wB gIs<|aC (wN 0)<|aC (wC<|.ty "tuple") aA)<|dZ (wT<|w2 (gEq true) (wB bQ<|aC (wN 0) aA)<|wC<|.int<|2)<|dZ (bK<|wT<|wF xT<|aC (w2 gIx (wN 0)<|wC<|.int<|0) aA)<|bK<|wT<|wF xT<|aC (w2 gIx (wN 0)<|wC<|.int<|1) aA) (aN<|wC<|D.bl false) cW)<|aN<|gT (w2 pV (w2 gIx (wN 0)<|wC<|.int<|1)<|wC<|.int<|0)<|w2 (gEq false) (wF Zd<|aC (w2 gIx (wN 0)<|wC<|.int<|0)<|aC (w2 gIx (wN 0)<|wC<|.int<|1) aA)<|wC<|.int<|1)
abbrev Zfb:Q4:=["_law_thing", "_law_size"]
def G9:WS:=(aN<|gT (wB gIs<|aC (wN 0)<|aC (wC<|.ty "tuple") aA)<|gT (w2 (gEq false) (wB bQ<|aC (wN 0) aA)<|wN 1)<|wB j9<|aC (wL<|aLC (iS<|wN 0) 1 [] (gN 0) cX<|wF uL<|aC (wN 0) aA) aA)
abbrev ZeH:Q4:=["_law_pen", "_law_size", "_law_most", "_law_found", "_law_way", "_law_step"]
def Ha:WS:=(aL (aR 1<|w2 gAdd (wC<|.int<|1)<|wF pW<|aC (wN 0)<|aC (wC<|.int<|5) aA)<|aL (aR 2<|w2 gIx (wL<|bP<|aC (wC<|.int<|1)<|aC (wC<|.int<|2)<|aC (wC<|.int<|3)<|aC (wC<|.int<|9)<|aC (wC<|.int<|50) aA)<|wF pW<|aC (wN 0)<|aC (wC<|.int<|5) aA)<|aL (bX 3<|aLC (fD<|aC (w2 jf (w2 gMul (wC<|.int<|2)<|wN 1)<|wC<|.int<|1) aA) 1 [0,2] (gN 0) cX<|w2 jf (wF pW<|aC (wN 1)<|aC (w2 gAdd (w2 gMul (wC<|.int<|2)<|wN 2)<|wC<|.int<|1) aA)<|wN 2)<|aL (aR 4<|wF pW<|aC (wN 0)<|aC (wC<|.int<|10) aA)<|aL (aR 5<|w2 gAdd (wC<|.int<|1)<|wF pW<|aC (wN 0)<|aC (wC<|.int<|3) aA)<|aL (cR (wT<|w2 (gEq false) (wN 4)<|wC<|.int<|0) (bX 3<|dm 3<|aCut (w2 gMul (cL (wN 3) fq<|eh<|wN 5)<|wC<|.int<|9) fq<|eh<|wB bQ<|aC (wN 3) aA) cW)<|aL (cR (wT<|w2 (gEq false) (wN 4)<|wC<|.int<|1) (gI 3 (w2 jf (wN 1)<|wC<|.int<|1)<|w2 gIx (wL<|bP<|aC (wC<|.int<|50)<|aC (w1 jJ<|wC<|.int<|50)<|aC (wC<|.int<|0) aA)<|wF pW<|aC (wN 0)<|aC (wC<|.int<|3) aA) cW)<|aL (cR (wT<|w2 (gEq false) (wN 4)<|wC<|.int<|2) (bX 3<|dm 3<|aLC (iS<|wN 3) 1 [0] (gN 0) cX<|w2 gMul (wN 0)<|wB ic<|aC (w2 (gEq false) (wF pW<|aC (wN 1)<|aC (wC<|.int<|3) aA)<|wC<|.int<|0) aA) cW)<|aL (cR (wT<|w2 (gIn false) (wN 4)<|bD<|aC (wC<|.int<|3)<|aC (wC<|.int<|4)<|aC (wC<|.int<|5) aA) (bX 3<|dm 3<|fb (cL (wN 3) fq<|eh<|wN 1)<|w1 gRev<|cL (wN 3) fq<|eh<|w2 jf (wN 1)<|wC<|.int<|1) cW)<|bM 3<|aN<|wB lM<|aC (wN 3) aA)
abbrev Zfa:Q4:=["_law_slants", "_law_size"]
def Hb:WS:=(aL (aR 1<|w2 iO (w2 gAdd (wB bQ<|aC (wN 0) aA)<|wC<|.int<|1)<|wC<|.int<|2)<|aN<|wL<|aLC (fD<|aC (wN 1) aA) 1 [0,1] (gN 0) cX<|wL<|aLC (fD<|aC (wN 2) aA) 1 [0,1,2] (gN 0) cX<|w2 gIx (wN 2)<|w2 jf (w2 gAdd (w2 jf (wN 0)<|wN 1)<|wN 3)<|wC<|.int<|1)
theorem MQ(h:PyData.canLay0 (.str x)=true):dq (.str x) n=true:=by rw[dq];exact h
theorem MR:Rd Zd G7 Zjf:=by
 rintro _ E Q ⟨⟨a,b⟩,rfl,_,q⟩;unfold G7;walk_at "n";walk_at "n";refine bW ?_;rw[GP,GP];simp only[bE,uo];refine⟨λm ρ=>∃x y:Int,m=y.natAbs/\ρ=[.d<|.int x,.d<|.int y]/\0<=x/\0<=y/\Int.gcd x y=Int.gcd a b,⟨_,_,_,rfl,rfl,E8,E8,by simp[Int.gcd]⟩,?_⟩;rintro m _ ⟨x,y,rfl,rfl,hx,hy0,hg⟩;ext;by_cases hy:y=0;subst hy;simp only[Qx,fk,dU,if_false];rw[Int.gcd_zero_right]at hg;rw[<-hg]at q;have:x=((x.natAbs:Nat):Int):=E8
 rw[<-this]at q;exact q;rw[ks<|by simpa using hy];refine⟨hy,?_⟩;ext;exact⟨_,GC x hy,_,_,rfl,rfl,hy0,B6 _<|E8,by rw[GB];exact hg⟩
theorem MS:Rd vA G8 Zg0:=by
 rintro _ E Q ⟨⟨t,b⟩,rfl,⟨hb,hd⟩,q⟩;have hg:0<Int.gcd t b:=B1 _ hb;have hle:Int.gcd t b<=b.natAbs:=Nat.le_of_dvd E8<|Int.gcd_dvd_natAbs_right ..;obtain⟨e1,e2⟩:=FZ (t:=t) hb;unfold aU at q;dsimp only at q e1 e2;rw[<-e1,<-e2]at q;unfold G8;walk_at "n";refine G4 ?_;walk_at "n"
 by_cases h:b<0;simp only[h,decide_true,if_true]at q ⊢;ext;refine⟨⟨E8,Bd.le E8 hd⟩,⟨E8,Bd.le E8 hd⟩,by simp[aO],q⟩;simp only[h,decide_false,if_false,dU]at q ⊢;ext;refine⟨⟨E8,Bd.le E8 hd⟩,⟨E8,Bd.le E8 hd⟩,by simp[aO],q⟩
theorem MT:Rd AQ G9 Zfb:=by
 rintro _ E Q ⟨⟨x,n⟩,rfl,hk,q⟩;unfold G9;ext;refine rf hk F4 λt ht=>?_;cases x<;>cases ht<;>try exact q
 rename_i xs;obtain⟨hl,hx⟩:=uu hk;ext;simp only[show iN "tuple" "tuple" = true from rfl,if_true];by_cases h:(xs.length:Int)=n;rw[ks<|by simp[h]];refine vv (f:=λd=>.bl<|de d) (λd hd Q hq=>?_) .un [] (by simp[aO];omega) ?_;ext;exact Zc (hx d hd) hq;refine⟨xs.map de,KE,?_⟩;simpa[List.all_map,Function.comp_def,gW,h] using q;rw[fz<|by simpa using h];have e:((xs.length:Int)==n)=false:=by simpa using h
 simpa[gW,e] using q
theorem rd__law_share_like:Rd uL AR Zbz:=by
 rintro _ E Q ⟨x,rfl,hk,q⟩;unfold AR;walk_at "n";refine rf hk F4 λt ht=>?_;cases x<;>cases ht<;>try exact q
 rename_i xs;obtain⟨hl,hx⟩:=uu hk;ext;simp only[show iN "tuple" "tuple" = true from rfl,fk,dU,if_false]
 by_cases h2:xs.length=2
 .match xs,h2,hx,q with
  |[a,b],_,hx,q=>
  rw[fz<|KE];refine⟨a,rfl,GR (hx a<|KE) ?_⟩;ext;cases ha:qk a with
  |false=>rw[GE ha]at q;exact q
  |true=>
   obtain⟨i,rfl⟩:=AG ha;simp only[fk,dU,if_false];refine⟨b,rfl,GR (hx b<|KE) ?_⟩;ext;cases hb:qk b with
   |false=>rw[GF hb]at q;exact q
   |true=>
    obtain⟨j,rfl⟩:=AG hb;simp only[fk,dU,if_false];ext;refine⟨_,rfl,?_⟩;ext
    by_cases h:0<j
    .simp only[show j>0 from h,decide_true,if_true]
     refine⟨_,rfl,_,rfl,G4 ?_⟩;ext;have:de (.tup [.int i,.int j])=(((Int.gcd i j:Nat):Int)==1):=by
      simp only[de,h,decide_true,zW];rw[sU];simp;omega
     rw[this]at q;simpa using q
    .have h':¬j>0:=h
     simp only[h',decide_false,if_false,dU];simpa[de,h] using q
 .rw[GD h2]at q
  rw[ks<|by simpa using λz=>h2<|by exact_mod_cast z];exact q
theorem MU:Rd xX Hb Zfa:=by
 rintro _ E Q ⟨⟨s,n⟩,rfl,h,q⟩;dsimp only at h q;have h5:=h.n5;have hsl:=h.len;unfold Hb;walk_at "n";refine⟨⟨F4,lg (n:=2) F4<|E8⟩,?_⟩;rw[B5 _<|F4,show((s.length:Int)+1)/2=n by omega];ext;refine⟨E8,E8,?_⟩;rw[pX];refine iA (g:=λk:Nat=>D.int (k:Int)) (f:=λi=>aY<|(List.range n).map λj=>ent s n i j) (List.range n) (λi hi Q hq=>?_) .un [] (by simp[aO];omega) ?_;rw[Yag]at hi;ext;refine⟨E8,E8,?_⟩;rw[pX];refine iA (g:=λk:Nat=>D.int (k:Int)) (f:=λj=>D.int<|ent s n i j) (List.range n) (λj hj Q hq=>?_) .un [] (by simp[aO];omega) ?_;rw[Yag]at hj;ext;have e1:(s.map D.int)[n-1-i+j]? = some (.int<|ent s n i j):=by unfold ent;rw[cH,aZ,bU<|E8];rfl
 exact⟨_,GH (k:=n-1-i+j) E8 e1,hq⟩;rw[dQ];unfold aY at hq;rw[dG]at hq;exact hq;rw[dQ];unfold bC at q;rw[DG h,dG]at q;exact q
theorem bd_le{i:Int}(h:i.natAbs<=2^k)(l:k<8990):Bd i:=mS h<|Nat.pow_lt_pow_right F4 l
theorem dot_step{t b:Int}{x y:Rat}(hb:b≠0):Rat.divInt (t*(x.den:Int)*(y.den:Int)+x.num*y.num*b) (b*(x.den:Int)*(y.den:Int))=Rat.divInt t b+x*y:=by
 have hx:((x.den:Int))≠0:=by have:=x.den_nz;omega
 have hy:((y.den:Int))≠0:=by have:=y.den_nz;omega
 conv=>rhs;rw[<-vd x,<-vd y]
 rw[vT,Rat.divInt_add_divInt _ _ hb<|mV hx hy,Int.mul_assoc,Int.mul_assoc b]
theorem uM{E:Rb}(h:ρ[i]? = some (.d d)):∀P:D->Prop,P d->wN i E ρ P:=λP q=>by unfold wN;rw[h];exact q
theorem MV:Rd xW Ha ZeH:=by
 rintro _ E Q ⟨_,rfl,_,q⟩;have fin:∀(s:QY) (n:Nat),s.length+1=2*n->1<=n->n<=5->(∀x∈s,-50<=x/\x<=50)->Q (D.tup<|s.map D.int):=λs n h1 h2 h3 h4=>q _ ⟨s,n,⟨h1,h2,h3,h4⟩,rfl⟩;unfold Ha;walk_at "n";refine su (n:=5) F4 F4 λk hk=>?_;ext;walk_at "n";refine⟨F4,su (n:=5) F4 F4 λsp hsp=>?_⟩;have hgr:∃g:Nat,(1<=g/\g<=50)/\eG [D.int 1,D.int 2,D.int 3,D.int 9,D.int 50] (sp:Int)=some (.int g):=by
  have:sp=0\/sp=1\/sp=2\/sp=3\/sp=4:=E8
  rcases this with rfl|rfl|rfl|rfl|rfl
  exact⟨1,F4,rfl⟩;exact⟨2,F4,rfl⟩;exact⟨3,F4,rfl⟩;exact⟨9,F4,rfl⟩;exact⟨50,F4,rfl⟩
 obtain⟨g,hg,hat⟩:=hgr;refine⟨_,hat,?_⟩;walk_at "n";refine⟨⟨lg (n:=2) F4<|E8,lg (n:=10) E8<|E8⟩,E8,E8,?_⟩;refine FU (R:=λ_ y=>∃i:Int,y=.int i/\-50<=i/\i<=50) (λd hd Q hq=>?_) .un [] (by simp[rng,aO];omega) λys hl hys=>?_;ext;refine⟨⟨lg (n:=2) F4<|E8,lg (n:=10) E8<|E8⟩,?_⟩;have e:(2:Int)*(g:Int)+1=((2*g+1:Nat):Int):=E8
 rw[e];refine su E8 E8 λj hj=>?_;ext;exact hq _ ⟨_,rfl,E8,E8⟩;obtain⟨s,rfl,hs⟩:=GQ λy hy=>let⟨_,_,h⟩:=hys y hy;h;simp only[rng,bH,iY]at hl;rw[dQ];have hm:∀x∈s,-50<=x/\x<=50:=hs;have hsl:s.length+1=2*(1+k):=E8
 have hn:(1:Int)+(k:Int)=((1+k:Nat):Int):=E8
 generalize 1+k=n at hn hsl;have n1:1<=n:=E8
 have n5:n<=5:=E8
 rw[hn];clear hl hys hat hsp hk q hn;walk_at "n";refine su (n:=10) F4 F4 λway hw=>?_;walk_at "n";refine su (n:=3) F4 F4 λst hst=>?_;ext;have c1:∀{s:QY},s.length+1=2*n->cJ (s.map D.int) none (some (n:Int))=(s.take n).map D.int:=λ_=>by rw[qq rfl,lV]
 have c2:∀{s:QY},s.length+1=2*n->cJ (s.map D.int) none (some<|(n:Int)-1)=(s.take<|n-1).map D.int:=λ_=>by rw[qq (b:=n-1)<|E8,lV]
 have c3:∀{s:QY},cJ (s.map D.int) none (some<|1+(st:Int))=(s.take<|1+st).map D.int:=λ{s}=>by rw[qq (b:=1+st)<|E8,lV]
 have mt:∀{s:QY} {j:Nat},(∀x∈s,-50<=x/\x<=50)->∀x∈s.take j,-50<=x/\x<=50:=λh x hx=>h x<|mT hx;have fl:∀(m:Nat) (l:QY),(List.replicate m<|l.map D.int).flatten=(List.replicate m l).flatten.map D.int:=λm l=>by rw[List.map_flatten,B7]
 refine uI (λρ=>∃s:QY,ρ=[.d .pen,.d<|.int n,.d<|.int g,.ow<|s.map .int,.d<|.int way,.d<|.int<|1+(st:Int)]/\s.length+1=2*n/\∀x∈s,-50<=x/\x<=50) (λnx hnx=>?_) ?_;ext;split;have hlt:(s.take<|1+st).length<=9:=by rw[iC];omega
 rw[c3,fl,qq (b:=s.length)<|by rw[bH],<-lV];refine⟨F4,F4,?_,DE _,hnx _ ⟨_,rfl,?_,λx hx=>?_⟩⟩;rw[bH,iC];have:(9:Int).toNat=9:=rfl;rw[this];unfold aO;omega;rw[iC,List.length_flatten,B7,List.sum_replicate_nat,iC];have e9:(9:Int).toNat=9:=rfl;rw[e9];have:9*1<=9*min (1+st) s.length:=zY _ E8;omega;have:=mT hx;rw[List.mem_flatten]at this;obtain⟨l,hl,hxl⟩:=this;rw[(List.mem_replicate.mp hl).2]at hxl;exact mt hm x hxl;exact hnx _ ⟨s,rfl,hsl,hm⟩;clear hs hm hsl s;rintro _ ⟨s,rfl,hsl,hm⟩;refine uI (λρ=>∃s:QY,ρ=[.d .pen,.d<|.int n,.d<|.int g,.ow<|s.map .int,.d<|.int way,.d<|.int<|1+(st:Int)]/\s.length+1=2*n/\∀x∈s,-50<=x/\x<=50) (λnx hnx=>?_) ?_;ext;split;refine⟨F4,su (n:=3) F4 F4 λk3 hk3=>?_⟩;have hv:∃i:Int,(-50<=i/\i<=50)/\eG [D.int 50,D.int (-50),D.int 0] (k3:Int)=some (.int i):=by
  have:k3=0\/k3=1\/k3=2:=E8
  rcases this with rfl|rfl|rfl
  exact⟨50,F4,rfl⟩;exact⟨-50,F4,rfl⟩;exact⟨0,F4,rfl⟩
 obtain⟨i,hi,hat⟩:=hv;refine⟨_,hat,?_⟩;ext;refine⟨n-1,?_,hnx _ ⟨s.set (n-1) i,by rw[rE],by rw[dN];exact hsl,λx hx=>?_⟩⟩;unfold j4;rw[ks<|E8,ks (by rw[bH];omega),show((n:Int)-1).toNat=n-1 by omega];rcases B8 hx with hx|rfl
 exact hm x hx;exact hi;exact hnx _ ⟨s,rfl,hsl,hm⟩;clear hm hsl s;rintro _ ⟨s,rfl,hsl,hm⟩;refine uI (λρ=>∃s:QY,ρ=[.d .pen,.d<|.int n,.d<|.int g,.ow<|s.map .int,.d<|.int way,.d<|.int<|1+(st:Int)]/\s.length+1=2*n/\∀x∈s,-50<=x/\x<=50) (λnx hnx=>?_) ?_;ext;split;refine FU (R:=λ_ y=>∃i:Int,y=.int i/\-50<=i/\i<=50) (λd hd Q hq=>?_) .un [] (by simp[aO];omega) λys hl hys=>?_;obtain⟨i,hi,rfl⟩:=YbU.mp hd;have hi':=hm i hi;ext;refine su (n:=3) F4 F4 λk3 hk3=>?_;ext;refine⟨⟨lg (n:=10) E8<|E8,?_⟩,hq _ ⟨_,rfl,?_⟩⟩;split<;>exact lg (n:=2) F4 E8;split<;>omega;obtain⟨s',rfl,hs'⟩:=GQ λy hy=>let⟨_,_,h⟩:=hys y hy;h;rw[dQ];rw[bH,bH]at hl;exact⟨DE _,hnx _ ⟨s',rfl,E8,hs'⟩⟩;exact hnx _ ⟨s,rfl,hsl,hm⟩;clear hm hsl s;rintro _ ⟨s,rfl,hsl,hm⟩;refine uI (λρ=>∃s:QY,ρ=[.d .pen,.d<|.int n,.d<|.int g,.ow<|s.map .int,.d<|.int way,.d<|.int<|1+(st:Int)]/\s.length+1=2*n/\∀x∈s,-50<=x/\x<=50) (λnx hnx=>?_) ?_;ext;refine⟨F4,way,[3,4,5],rfl,.inr rfl,?_⟩;ext;split;rw[c1 hsl,c2 hsl,<-sZ,<-ky];refine⟨?_,DE _,hnx _ ⟨_,rfl,?_,λx hx=>?_⟩⟩;simp[aO];omega;simp only[fN,zQ,iC];omega;rcases Yao.mp hx with hx|hx
 exact mt hm x hx;exact mt hm x<|Ycu.mp hx
 exact hnx _ ⟨s,rfl,hsl,hm⟩;clear hm hsl s;rintro _ ⟨s,rfl,hsl,hm⟩;ext;exact fin s n hsl n1 n5 hm
end B
section
variable{ps:Pos}{a b:Expr}
theorem DL:∀(i:Nat) (xs:Rc),(fe i xs).length=xs.length
 |_,[]=>rfl|i,x::xs=>by rw[fe,dR,dR,DL]
theorem DM:∀(i j:Nat) (xs:Rc) (d:D),(fe i xs)[j]? = some d->∃x,xs[j]? = some x/\d=.tup [.int ((i+j:Nat):Int),x]
 |_,_,[],_,h=>by simp[fe]at h|i,0,x::xs,d,h=>by rw[fe,eJ]at h;exact⟨x,rfl,(Qk h).symm⟩|i,j+1,x::xs,d,h=>by rw[fe,gb]at h;obtain⟨y,e1,e2⟩:=DM (i+1) j xs d h;exact⟨y,by rw[gb];exact e1,by rw[e2,show i+1+j=i+(j+1) by omega]⟩
theorem uN{t:WA}(hm:X.mg "enumerate" = none)(ha:jb X EX [a] t)(hg:{Gl X "enumerate"})(hs:{starEach [a] X.env=[(false,eval a X.env)]}) :
  lN X EX (.Tuple es n1 ps) (.Call (.Name "enumerate" p) [a] [] pos) (iE t):=by
 obtain⟨t,q,k⟩:=ha.t;refine⟨⟨_,KP hg hm q hs,λW0 H0 W σ H ρ E R s eo h=>?_⟩,λE ρ P P' hp h=>ha.mono _ _ _ _ (λds hd=>?_) h⟩
 .refine k W0 H0 W σ H ρ E _ s eo (ha.mono _ _ _ _ (λds hd vs W1 H1 x1 r1=>?_) h)
  split at hd
  .obtain⟨v,rfl,rv⟩:=r1.one
   obtain⟨κ,l,vs,xs,rfl,rr,hd,sq⟩:=rv.sq hd;refine⟨κ,l,rfl,⟨vs,sq W1 H1 (λ_ _ z=>z) x1.ok⟩,hd W1 H1 _ x1 λW2 H2 i g2 p2 ok2=>⟨λd hd=>?_,λhi=>?_⟩⟩
   .have s1:=sq W2 H2 g2 ok2
    obtain⟨x,ex,rfl⟩:=DM 0 i xs d hd;obtain⟨vx,evx,rvx⟩:=rr.get ex;refine⟨⟨vs,vx,s1,evx⟩,λz H3 hy=>?_⟩;obtain⟨q,x',rfl,hq,rfl,e1⟩:=hy;have e1:=e1 _ s1;rw[evx]at e1;cases e1;have xt:=Ext.put (o:=.tup [.int i,vx]) ok2 hq;rw[vg];exact⟨_,xt,.tup (by unfold Wd.put;dsimp only;rw[aP])<|.cons (.int _)<|.cons (xt.rep<|rvx.mono g2 p2) .nil⟩
   .refine⟨vs,sq W2 H2 g2 ok2,?_⟩
    rw[rr.length];rw[DL]at hi;omega
  .exact hd.elim
 .split at hd
  .exact isS.mono (λxs h1=>hp _ h1) _ hd
  .exact hd.elim
end
section
variable{p1 ps sp1 sp2:Pos}{a b:Expr}
def is2(Q:D->Rf):D->Prop
 |.tup [x,y]=>Q x y|_=>False
theorem is2.mono{Q Q':D->Rf}(h:∀x y,Q x y->Q' x y):∀d,is2 Q d->is2 Q' d:=λd z=>by unfold is2 at z ⊢;split at z;exact h _ _ z;exact z.elim
theorem MW{Q:D->Rf}(h:is2 Q d):∃x y,d=.tup [x,y]/\Q x y:=by unfold is2 at h;split at h;exact⟨_,_,rfl,h⟩;exact h.elim
def rg(i:Nat)(wv w1 w2:WE):WS:=λE N ρ=>match ρ[i]? with
 |some (.ow xs)=>wv E ρ<|is2 λx y=>w1 E ρ (isI λk1=>∃j1,j4 xs.length k1=some j1/\w2 E (ρ.set i<|.ow<|xs.set j1 x) (isI λk2=>∃j2,j4 xs.length k2=some j2/\N.nx (ρ.set i<|.ow<|(xs.set j1 x).set j2 y)))
 |_=>False
theorem Hc(i:Nat){w1 w2:WE}{f7 ix2:Expr}{kt:Nat}{pt:Pos}(he:PX X EX e wv)(h1:PX X EX f7 w1)(h2:PX X EX ix2 w2)(hc:{X.calm=true})(hN:{X.N[i]? = some x})(hv:autoParam (kA X.env.scope x) Rk._auto_1)(hd:(Q7 x:))
  (hcd:((x==("__classdict__" : Str))=false:))
  (ha1:autoParam (∀ v,assign (.Subscript (.Name x p1) f7 sp1) X.env v=(do
   let ov <-holding [v] (eval (.Name x p1) X.env)
   let iv <-holding [v,ov] (eval f7 X.env)
   standAt sp1
   holding [v,ov,iv] (setItem ov iv v)
   release [v,ov,iv] [])) Rj._auto_1)
  (ha2:autoParam (∀ v,assign (.Subscript (.Name x p2) ix2 sp2) X.env v=(do
   let ov <-holding [v] (eval (.Name x p2) X.env)
   let iv <-holding [v,ov] (eval ix2 X.env)
   standAt sp2
   holding [v,ov,iv] (setItem ov iv v)
   release [v,ov,iv] [])) Rj._auto_1)
  (hs1:{(assignEach [.Subscript (.Name x p1) f7 sp1,.Subscript (.Name x p2) ix2 sp2] X.env).map (·.2)=assign (.Subscript (.Name x p1) f7 sp1) X.env::(assignEach [.Subscript (.Name x p2) ix2 sp2] X.env).map (·.2)})
  (hs2:{(assignEach [.Subscript (.Name x p2) ix2 sp2] X.env).map (·.2)=assign (.Subscript (.Name x p2) ix2 sp2) X.env::(assignEach [] X.env).map (·.2)})
  (hn:{(assignEach [.Subscript (.Name x p1) f7 sp1,.Subscript (.Name x p2) ix2 sp2] X.env).length=2}) (hst:{(assignEach [.Subscript (.Name x p1) f7 sp1,.Subscript (.Name x p2) ix2 sp2] X.env).findIdx? (·.1)=none})
  (hs:{swapsWithSole [.Tuple [.Subscript (.Name x p1) f7 sp1,.Subscript (.Name x p2) ix2 sp2] kt pt] e pos.line X.env=pure false}) (hw:{swappedStores [.Tuple [.Subscript (.Name x p1) f7 sp1,.Subscript (.Name x p2) ix2 sp2] kt pt] e X.env=pure none})
  (h3:{(assignEach [.Tuple [.Subscript (.Name x p1) f7 sp1,.Subscript (.Name x p2) ix2 sp2] kt pt] X.env).map (·.2)=[assign (.Tuple [.Subscript (.Name x p1) f7 sp1,.Subscript (.Name x p2) ix2 sp2] kt pt) X.env]}) :
  PZ X EX (.Assign [.Tuple [.Subscript (.Name x p1) f7 sp1,.Subscript (.Name x p2) ix2 sp2] kt pt] e pos) (rg i wv w1 w2):=by
 obtain⟨t,pe,k⟩:=he.t;obtain⟨t1,pi1,k1⟩:=h1.t;obtain⟨t2,pi2,k2⟩:=h2.t;refine⟨⟨_,jv pe (o9 hc (hU (ju (db hN hv hd hcd) pi1 fQ ha1) (hU (ju (db hN hv hd hcd) pi2 fQ ha2) lF hs2) hs1) hn hst) hs hw h3,λW0 H0 F W σ H ρ E Dn N s fl eo no h=>?_⟩,λE ρ N N' hl q=>?_⟩
 .unfold rg at h
  split at h
  .rename_i xs ex
   obtain⟨a,vs,e1,e2,e3,e4,e5,r⟩:=s.o i xs ex;have hi:i<ρ.length:=(Yaq.mp ex).1;refine k W0 H0 W σ H ρ E _ s eo<|he.mono _ _ _ _ (λd hd v W1 H1 x1 r1=>?_) h;obtain⟨dx,dy,rfl,hd⟩:=MW hd;obtain⟨q,us,rfl,sq,ru⟩:=r1.sqt x1.ok;obtain⟨vx,vy,rfl,rx,ry⟩:=ru.two;refine⟨q,[vx,vy],rfl,sq,rfl,vx,[vy],rfl,⟨_,e1,?_⟩⟩;refine k1 W0 H0 W1 σ H1 ρ E _ (s.step x1) eo<|h1.mono _ _ _ _ (λdi hdi vi W2 H2 x2 r2=>?_) hd;obtain⟨kk,rfl,j,hj,hn2⟩:=qV hdi;cases r2;have xx:=x1.trans x2;have e2':=xx.h a _ e2 e4;refine⟨a,vs,kk,j,rfl,rfl,e2',by rw[r.length];exact hj,?_⟩;have s2:=(s.step xx).chg ex e1<|Reps.set (x2.rep rx) j (xx.reps r);refine⟨vy,[],rfl,⟨_,e1,?_⟩⟩;have ex2:(ρ.set i<|.ow<|xs.set j dx)[i]? = some (.ow<|xs.set j dx):=dW hi;obtain⟨a',vs',f1,f2,f3,f4,f5,fr⟩:=s2.o i _ ex2;refine k2 W0 H0 W2 σ _ _ E _ s2 eo<|h2.mono _ _ _ _ (λdk hdk vk W3 H3 x3 r3=>?_) hn2;obtain⟨k',rfl,j',hj',hn3⟩:=qV hdk;cases r3;have ea:a'=a:=by rw[e1]at f1;cases f1;rfl
   subst ea;have e2'':=x3.h _ _ f2 f4;refine⟨_,vs',k',j',rfl,rfl,e2'',by rw[fr.length,dN];exact hj',rfl,?_⟩;have s3:=(s2.step x3).chg ex2 e1<|Reps.set (x3.rep<|x2.rep ry) j' (x3.reps fr);rw[List.set_set]at s3;exact no.nx W3 σ _ _ s3 ((fl.ext xx).ext x3 |> λz=>z) hn3
  .exact h.elim
 .unfold rg at q ⊢
  split at q
  .exact he.mono _ _ _ _ (is2.mono λx y hxy=>h1.mono _ _ _ _ (isI.mono λk1 ⟨j1,a1,b1⟩=>⟨j1,a1,h2.mono _ _ _ _ (isI.mono λk2 ⟨j2,a2,b2⟩=>⟨j2,a2,hl.nx _ b2⟩) b1⟩) hxy) q
  .exact q.elim
end
def Hf(f l:QZ)(i j k:Nat):Rat:=f.getD (i-k) 0*l.getD (f.length-1-j+k) 0
def MY(f l:QZ)(i j k:Nat):Rat:=l.getD (i-k-1) 0*f.getD (f.length-j+k) 0
def sp(f l:QZ)(i j:Nat):Nat->Rat
 |0=>0|k+1=>if k<min i j then sp f l i j k+Hf f l i j k-MY f l i j k else sp f l i j k+Hf f l i j k
abbrev Zob:Q4:=["one", "other"]
def Hg:WS:=(aN<|wF uw<|aC (w2 jf (w2 gMul (w2 gIx (wN 0)<|wC<|.int<|0)<|w2 gIx (wN 1)<|wC<|.int<|1)<|w2 gMul (w2 gIx (wN 1)<|wC<|.int<|0)<|w2 gIx (wN 0)<|wC<|.int<|1)<|aC (w2 gMul (w2 gIx (wN 0)<|wC<|.int<|1)<|w2 gIx (wN 1)<|wC<|.int<|1) aA)
abbrev N_by:Q4:=["one", "other"]
def xY:WS:=(aN<|wF uw<|aC (w2 gMul (w2 gIx (wN 0)<|wC<|.int<|0)<|w2 gIx (wN 1)<|wC<|.int<|1)<|aC (w2 gMul (w2 gIx (wN 0)<|wC<|.int<|1)<|w2 gIx (wN 1)<|wC<|.int<|0) aA)
namespace B
theorem set_by{E:Rb}(e:ρ.set i (.d d)=ρ')(hw:∀P:D->Prop,P d->w E ρ P)(h:N.nx ρ'):aR i w E N ρ:=hw _ (by rw[e];exact h)
end B
theorem MZ:Rd uz Hg Zob:=by
 rintro _ E Q ⟨⟨p,q⟩,rfl,hb,h⟩;obtain⟨b1,b2,b3,b4,b5,b6,b7,b8⟩:=hb.mul;unfold Hg;simp only[aN,wF,aC,w2,wN,wC,dP,c8,gR,eJ,gb];refine qp<|f7 ⟨b1,qp<|f7 ⟨b2,?_⟩⟩;dsimp only;simp only[gB,true_and];refine f7<|f7 ⟨b3,?_⟩;refine⟨(_,_),rfl,⟨b6,b5⟩,?_⟩;dsimp only at h ⊢;have e:Rat.divInt (p.num*q.den-q.num*p.den) ((p.den:Int)*q.den)=p-q:=by rw[Rat.sub_def',<-B3];rfl
 rw[e];exact h
theorem xZ:Rd mC xY N_by:=by
 rintro _ E Q ⟨⟨p,q⟩,rfl,⟨hb,h0⟩,h⟩;dsimp only at hb h0 h;obtain⟨b1,b2,b3,b4,b5,b6,b7,b8⟩:=hb.mul;unfold xY;simp only[aN,wF,aC,w2,wN,wC,dP,c8,gR,eJ,gb];refine qp<|f7 ⟨b1,f7<|qp ⟨b7,?_⟩⟩;have hq:q.num≠0:=λz=>h0<|Rat.num_eq_zero.mp z;refine⟨(_,_),rfl,⟨mV (by exact_mod_cast p.den_nz) hq,b8⟩,?_⟩;dsimp only at h ⊢;have e:Rat.divInt (p.num*q.den) ((p.den:Int)*q.num)=p/q:=by
  rw[gD,Rat.inv_def];have:p*Rat.divInt (q.den:Int) q.num=Rat.divInt p.num p.den*Rat.divInt (q.den:Int) q.num:=by rw[vd]
  rw[this,vT]
 rw[e];exact h
theorem DN(p q:Rat):k6 (aU p) (aU q)=decide (p=q):=by unfold aU;rw[MJ,sU];simp only[dX,QM,Qo];constructor;rintro⟨h1,h2⟩;exact Rat.ext h1 (by exact_mod_cast h2);rintro rfl;exact⟨rfl,rfl⟩
theorem Hh:aU 0=.tup [.int 0,.int 1]:=rfl
namespace B.C
noncomputable def ga(r:QY)(k:Nat):Int:=r.getD k 0
def gr(t:K5)(k:Nat):QY:=t.getD k []
def fg(row here:QY)(a:Nat)(last:Int):QY:=(List.range row.length).map λj=>(ga row j*ga here a-ga row a*ga here j).fdiv last
def il(t:K5)(a:Nat):Q6:=((List.range<|t.length-a).map (a + ·)).filter λk=>ga (gr t k) a != 0
def bL(t:K5)(a g:Nat):K5:=(t.set a<|gr t g).set g<|gr t a
def cE(t:K5)(a k:Nat)(last:Int):K5:=(List.range t.length).map λi=>if a<i/\i<k then fg (gr t i) (gr t a) a last else gr t i
structure St3 where
 t:K5
 s:Int
 l:Int
def gO(a:Nat)(x:St3):Option St3:=match il x.t a with
 |[]=>none
 |g::_=>let t1:=bL x.t a g
  let t2:=cE t1 a t1.length x.l
  some ⟨t2,x.s*(1-2*(if g=a then 0 else 1)),ga (gr t2 a) a⟩
noncomputable def dh(t:K5):Nat->Option St3
 |0=>some ⟨t,1,1⟩|a+1=>(dh t a).bind<|gO a
def f8(t:K5):Int:=match dh t t.length with|none=>0|some x=>x.s*x.l
def lj(c:Nat):Nat->Nat
 |0=>c|a+1=>2*lj c a+1
abbrev bt:Nat->Nat:=lj 6
structure Sm(b n:Nat)(t:K5):Prop where
 len:t.length=n
 row:∀r∈t,r.length=n
 sm:∀r∈t,∀x∈r,x.natAbs<2^b
structure DO(c n a:Nat)(x:St3):Prop where
 t:Sm (lj c a) n x.t
 s:x.s=1\/x.s = -1
 l0:x.l≠0
 l:x.l.natAbs<2^lj c a
theorem M0{a b:Int}(h:b≠0):(a.fdiv b).natAbs<=a.natAbs:=Int.natAbs_fdiv_le_natAbs a b
theorem Sm.gr{b n k:Nat}{t:K5}(h:Sm b n t)(hk:k<n):t[k]? = some (gr t k)/\(C.gr t k).length=n/\∀x∈C.gr t k,x.natAbs<2^b:=by
 have e:=h.len;have:t[k]? = some (C.gr t k):=by unfold C.gr;rw[aZ,bU<|E8];rfl
 have hm:=iD this;exact⟨this,h.row _ hm,h.sm _ hm⟩
theorem ga_lt{r:QY}(h:∀x∈r,x.natAbs<2^b):(ga r k).natAbs<2^b:=by
 unfold ga;rw[aZ];cases e:r[k]? with
 |none=>exact Nat.two_pow_pos b|some v=>exact h _<|iD e
theorem ga_get{r:QY}(h:r.length=n)(hk:k<n):r[k]? = some (ga r k):=by unfold ga;rw[aZ,bU<|E8];rfl
theorem M1{w x y z:Int}(h1:w.natAbs<2^b)(h2:x.natAbs<2^b)(h3:y.natAbs<2^b)(h4:z.natAbs<2^b):(w*x-y*z).natAbs<2^(2*b+1):=by
 have m1:(w*x).natAbs<2^b*2^b:=by rw[eI];exact qx h1 h2
 have m2:(y*z).natAbs<2^b*2^b:=by rw[eI];exact qx h3 h4
 have:=zZ (w*x)<|y*z;rw[vc,show 2*b=b+b by omega,kx];omega
theorem Hi{row here:QY}{last:Int}(h1:row.length=n)(h2:∀x∈row,x.natAbs<2^b)(h3:∀x∈here,x.natAbs<2^b)(hl:last≠0):(fg row here a last).length=n/\∀x∈fg row here a last,x.natAbs<2^(2*b+1):=by refine⟨by unfold fg;rw[bH,iY];exact h1,λx hx=>?_⟩;obtain⟨j,_,rfl⟩:=YbU.mp hx;exact mS (M0 hl)<|M1 (ga_lt h2) (ga_lt h3) (ga_lt h2) (ga_lt h3)
theorem vB{r:QY}(h:i<t.length):gr (t.set i r) k=if k=i then r else gr t k:=by unfold gr;rw[aZ,B9,aZ];by_cases e:i=k;subst e;rw[ks rfl,ks rfl,ks h];rfl;rw[fz e,fz<|Qq e]
theorem ya{g:Nat}(h:Sm b n t)(ha:a<n)(hg:g<n):Sm b n (bL t a g):=by
 have e:=h.len;have m:∀r∈bL t a g,r∈t:=λr hr=>by
  unfold bL at hr;rcases B8 hr with hr|rfl
  rcases B8 hr with hr|rfl
  exact hr;exact iD (h.gr hg).1;exact iD (h.gr ha).1
 exact⟨by unfold bL;rw[dN,dN];exact e,λr hr=>h.row r<|m r hr,λr hr=>h.sm r<|m r hr⟩
theorem AS{g:Nat}(h:Sm b n t)(ha:a<n)(hg:g<n):gr (bL t a g) a=gr t g:=by have e:=h.len;unfold bL;rw[vB (by rw[dN];omega)];by_cases z:a=g;subst z;rw[ks rfl];rw[fz z,vB<|E8,ks rfl]
theorem DP{g:Nat}(h:Sm b n t)(hg:g∈il t a):a<=g/\g<n/\ga (gr t g) a≠0:=by have e:=h.len;unfold il at hg;obtain⟨h1,h2⟩:=Yaf.mp hg;obtain⟨k,hk,rfl⟩:=YbU.mp h1;rw[Yag]at hk;exact⟨E8,E8,by simpa using h2⟩
theorem vC{l:Int}(hi:i<t.length):gr (cE t a k l) i=if a<i/\i<k then fg (gr t i) (gr t a) a l else gr t i:=by show(cE t a k l).getD i []=_;unfold cE;rw[aZ,cH,iX hi];rfl
theorem AT{l:Int}(h:Sm b n t)(ha:a<n)(hl:l≠0):Sm (2*b+1) n (cE t a k l):=by
 have e:=h.len;have key:∀r∈cE t a k l,r.length=n/\∀x∈r,x.natAbs<2^(2*b+1):=λr hr=>by
  unfold cE at hr;obtain⟨i,hi,rfl⟩:=YbU.mp hr;have hi':i<n:=by rw[<-e];simpa using hi
  split;exact Hi (h.gr hi').2.1 (h.gr hi').2.2 (h.gr ha).2.2 hl;exact⟨(h.gr hi').2.1,λx hx=>dw ((h.gr hi').2.2 x hx)<|jU F4<|E8⟩
 exact⟨by unfold cE;rw[bH,iY];exact e,λr hr=>(key r hr).1,λr hr=>(key r hr).2⟩
theorem M2{c:Nat}{x y:St3}(h:DO c n a x)(ha:a<n)(e:gO a x=some y):DO c n (a+1) y:=by
 unfold gO at e;split at e;cases e;rename_i g gs eg;cases e;obtain⟨g1,g2,g3⟩:=DP h.t (g:=g) (by rw[eg];simp);have w:=ya h.t ha g2;have r:=AT (k:=(bL x.t a g).length) w ha h.l0;have el:ga (gr (cE (bL x.t a g) a (bL x.t a g).length x.l) a) a=ga (gr x.t g) a:=by rw[vC (by rw[w.len];exact ha),fz<|E8,AS h.t ha g2]
 refine⟨r,?_,?_,?_⟩;show x.s*_=1\/x.s*_ = -1;rcases h.s with e|e<;>rw[e]<;>split<;>decide
 show ga _ _≠0;rw[el];exact g3;exact ga_lt (r.gr ha).2.2
theorem DQ{c n:Nat}{t:K5}(h:Sm c n t)(hc:1<=c):∀{a:Nat},a<=n->∀{x:St3},dh t a=some x->DO c n a x
 |0,_,x,e=>by cases e;exact⟨h,.inl rfl,show(1:Int)≠0 by decide,zS (by show c≠0;omega)⟩
 |a+1,ha,x,e=>by
  rw[dh]at e;cases e1:dh t a with
  |none=>rw[e1]at e;cases e
  |some y=>rw[e1]at e;exact M2 (DQ h hc E8 e1) E8 e
theorem Hj{t:K5}{a:Nat}(h:dh t a=none):∀k:Nat,dh t (a+k)=none
 |0=>h|k+1=>by rw[<-Nat.add_assoc,dh,Hj h k];rfl
def tabD(t:K5):D:=.lst<|t.map aY
def AU:bV:=fnS (λx:(QY×QY)×Nat×Int=>[aY x.1.1,aY x.1.2,.int x.2.1,.int x.2.2]) (λx=>x.1.1.length<=5/\x.1.2.length=x.1.1.length/\x.2.1<x.1.1.length/\(∀y∈x.1.1,y.natAbs<2^8989)/\(∀y∈x.1.2,y.natAbs<2^8989)/\x.2.2≠0/\x.2.2.natAbs<2^8989) λx=>aY<|fg x.1.1 x.1.2 x.2.1 x.2.2
def DR:bV:=fnS (λt:K5=>[tabD t]) (λt=>Sm 10 t.length t/\t.length<=5) λt=>.int<|f8 t
abbrev ZgZ:Q4:=["_law_row", "_law_here", "_law_at", "_law_last", "_law_found", "_law_j", "_law_number"]
def DS:WS:=(aL (bX 4<|bP aA)<|aL (bE<|bF (fD<|aC (wB bQ<|aC (wN 0) aA) aA) (gN 5)<|aL (aR 6<|w2 jf (w2 gMul (w2 gIx (wN 0)<|wN 5)<|w2 gIx (wN 1)<|wN 2)<|w2 gMul (w2 gIx (wN 0)<|wN 2)<|w2 gIx (wN 1)<|wN 5)<|da 4<|w2 iO (wN 6)<|wN 3)<|bM 4<|aN<|wN 4)
abbrev ZeI:Q4:=["_law_table", "_law_rows", "_law_sign", "_law_last", "_law_at", "_law_good", "_law_k"]
def DT:WS:=(aL (bX 1<|aLC (iS<|wN 0) 1 [] (gN 0) cX<|wL<|aB (ia (α:=Unit))<|aC (wN 0) aA)<|aL (aR 2<|wC<|.int<|1)<|aL (aR 3<|wC<|.int<|1)<|bM 5<|aL (bE<|bF (fD<|aC (dB 1<|wB bQ<|aC (wN 1) aA) aA) (gN 4)<|aL (bX 5<|dm 1<|aLC (ig<|aC (wN 4)<|aC (wB bQ<|aC (wN 1) aA) aA) 1 [1,4] (gN 0) (wT<|w2 (gEq true) (w2 gIx (w2 gIx (wN 1)<|wN 0)<|wN 2)<|wC<|.int<|0)<|wN 0)<|bM 5<|aL (cR (wT<|w2 (gEq false) (wN 5)<|wL<|bP aA) (aN<|wC<|.int<|0) cW)<|bM 5<|aL (rg 1 (bD<|aC (cY 1<|w2 gIx (wN 5)<|wC<|.int<|0)<|aC (cY 1<|wN 4) aA) (wN 4)<|w2 gIx (wN 5)<|wC<|.int<|0)<|bM 5<|aL (aR 2<|w2 gMul (wN 2)<|w2 jf (wC<|.int<|1)<|w2 gMul (wC<|.int<|2)<|wB ic<|aC (w2 (gEq true) (w2 gIx (wN 5)<|wC<|.int<|0)<|wN 4) aA)<|aL (bE<|bF (ig<|aC (w2 gAdd (wN 4)<|wC<|.int<|1)<|aC (dB 1<|wB bQ<|aC (wN 1) aA) aA) (gN 6)<|gI 1 (wN 6)<|wF AU<|aC (cY 1<|wN 6)<|aC (cY 1<|wN 4)<|aC (wN 4)<|aC (wN 3) aA)<|aR 3<|dB 1<|w2 gIx (w2 gIx (wN 1)<|wN 4)<|wN 4)<|aN<|w2 gMul (wN 2)<|wN 3)
theorem sx{x:Int}(h:x.natAbs<2^b)(hb:b<=8990):Bd x:=dw h<|jU F4 hb
theorem uO{r:QY}{a:Int}(hk:k<r.length)(ea:a=k)(q:Q (.int<|ga r k)):gIx (aY r) (.int a) Q:=by subst ea;exact⟨_,aS (by rw[cH,ga_get rfl hk];rfl),q⟩
theorem M3:Rd AU DS ZgZ:=by
 rintro _ E Q ⟨⟨⟨row,here⟩,a,last⟩,rfl,⟨h5,hh,ha,s1,s2,l0,s3⟩,q⟩;dsimp only at h5 hh ha s1 s2 l0 s3 q;have b1:∀k,Bd (ga row k):=λk=>sx (ga_lt s1) F4;have b2:∀k,Bd (ga here k):=λk=>sx (ga_lt s2) F4;show DS E _ [.d<|aY row,.d<|aY here,.d<|.int a,.d<|.int last,.un,.un,.un];unfold DS;walk_at "n";refine⟨F4,?_⟩;refine bW ?_;simp only[bE,bF];ext;refine⟨E8,E8,?_⟩;refine uJ (λn ρ=>∃s5 s6,ρ=[.d<|aY row,.d<|aY here,.d<|.int a,.d<|.int last,.ow<|(List.range n).map λj=>D.int<|(ga row j*ga here a-ga row a*ga here j).fdiv last,s5,s6]) row.length ?_ ?_ _ ⟨_,_,rfl⟩;rintro j hj _ ⟨s5,s6,rfl⟩ nx hnx;show aL _ _ _ _ [.d<|aY row,.d<|aY here,.d<|.int a,.d<|.int last,.ow<|(List.range j).map λj=>D.int<|(ga row j*ga here a-ga row a*ga here j).fdiv last,.d<|.int j,s6];rw[Ca,ky]at hnx;have hvl:((List.range j).map<|λj=>D.int<|(ga row j*ga here a-ga row a*ga here j).fdiv last).length=j:=by rw[bH,iY]
 generalize (List.range j).map (λj=>D.int<|(ga row j*ga here a-ga row a*ga here j).fdiv last)=vs at hnx hvl;have hlen:vs.length=j:=hvl;refine bW<|B.set_by (d:=.int<|ga row j*ga here a-ga row a*ga here j) (ρ':=[.d<|aY row,.d<|aY here,.d<|.int a,.d<|.int last,.ow vs,.d<|.int j,.d<|.int<|ga row j*ga here a-ga row a*ga here j]) (by rfl) (λP hP=>?_) ?_
 simp only[w2,wN,eJ,gb];refine uO hj rfl<|uO E8 rfl ⟨⟨b1 _,b2 _⟩,uO ha rfl<|uO E8 rfl ⟨⟨b1 _,b2 _⟩,?_⟩⟩;exact⟨trivial,hP⟩
 dsimp only;ext;exact⟨⟨l0,sx s3<|F4⟩,by rw[hlen];unfold aO;omega,hnx _ ⟨_,_,rfl⟩⟩;rintro _ ⟨s5,s6,rfl⟩;ext;unfold fg aY at q;rw[dG]at q;exact q
end B.C
theorem DU{E:Rb}(lo:Int)(I:Nat->cV->Prop)(n:Nat)(h:∀k,k<n->∀ρ,I k ρ->∀nx:cV->Prop,(∀ρ,I (k+1) ρ->nx ρ)->g (.int<|lo+k) ρ λρ1=>zb E { nx:=nx,rt:=N.rt,bk:=N.nx,ct:=nx } ρ1)(hn:∀ρ,I n ρ->N.nx ρ)(ρ:cV)(h0:I 0 ρ):ZbA g zb E N (rng lo n) ρ:=by
 refine xU (λds ρ=>∃k,k<=n/\ds=(rng lo n).drop k/\I k ρ) ?_ ?_ _ ρ ⟨0,jT _,by rw[sV],h0⟩;rintro d ds ρ ⟨k,hk,e,i⟩ nx hnx;have hlen:(rng lo n).length=n:=by unfold rng;simp
 rcases eV k n with hkn|hkn
 rw[sW<|E8]at e;injection e with e1 e2
 have e3:d=.int (lo+k):=by rw[e1];unfold rng;simp
 rw[e3];exact h k hkn ρ i nx λρ' i'=>hnx ρ' ⟨k+1,E8,e2,i'⟩;rw[List.drop_eq_nil_of_le<|E8]at e;cases e;rintro ρ ⟨k,hk,e,i⟩;have hlen:(rng lo n).length=n:=by unfold rng;simp
 have:k=n:=by have:=congrArg List.length e;rw[lx,hlen]at this;simp at this;omega
 subst this;exact hn ρ i
theorem AV{α:Type}{wf:WT}{tail:cV}{Q:Rc->Prop}{g:α->D}{p:α->Bool}:∀(L:List α),(∀a∈L,∀P:Bool->Prop,P (p a)->wf No (.d (g a)::tail) P)->∀(sv:SV) (acc:Rc),acc.length+L.length<=aO->Q (acc++(L.filter p).map g)->lcW (gN 0) wf (wN 0) (L.map g) (sv::tail) acc Q
 |[],_,sv,acc,_,hq=>by simpa[lcW] using hq
 |a::L,h,sv,acc,hl,hq=>by
  rw[c8,lcW];show wf No (SV.d (g a)::tail) _;rw[dR]at hl;refine h a KE _ ?_;cases e:p a with
  |true=>rw[ks rfl];refine⟨E8,AV L (λb hb=>h b<|by simp[hb]) _ _ (by rw[fN,rB];omega) ?_⟩;rw[z0 e,c8]at hq;rw[oU];exact hq|false=>rw[fz<|F4];refine AV L (λb hb=>h b<|by simp[hb]) _ _ E8 ?_;rw[Cc (by rw[e];decide)]at hq;exact hq
namespace B.C
theorem M4{l:Int}(hk:k<=a+1):cE t a k l=t:=by
 unfold cE;refine qw λi=>?_;rw[cH];rcases eV i t.length with z|z
 rw[iX z];simp only[lU];rw[fz<|E8];unfold gr;rw[aZ,bU z];rfl;rw[eA<|by simpa using z,eA z];rfl
theorem M5{l:Int}(ha:a<k)(hk:k<t.length):cE t a (k+1) l=(cE t a k l).set k (fg (gr (cE t a k l) k) (gr (cE t a k l) a) a l):=by
 have e1:gr (cE t a k l) k=gr t k:=by rw[vC hk,fz<|E8]
 have e2:gr (cE t a k l) a=gr t a:=by rw[vC<|E8,fz<|E8]
 rw[e1,e2];refine qw λi=>?_;rw[B9];unfold cE;rw[cH,cH,bH,iY];rcases eV i t.length with z|z
 rw[iX z];simp only[lU];by_cases c:k=i;subst c;rw[ks rfl,ks z,ks ⟨ha,E8⟩];rw[fz c];by_cases d:a<i/\i<k;rw[ks ⟨d.1,E8⟩,ks d];rw[fz<|E8,fz d];rw[eA<|by simpa using z];rw[fz<|E8];rfl
theorem AW{c:Nat}(h:a<=b):lj c a<=lj c b:=by
 induction h with
 |refl=>exact bZ _|step _ ih=>rw[lj];omega
theorem own_by{t:WA}{E:Rb}(e:ρ.set i (.ow xs)=ρ')(ht:∀P:Rc->Prop,P xs->t E ρ P)(h:N.nx ρ'):bX i t E N ρ:=ht _ (by rw[e];exact h)
theorem pub_by{E:Rb}(e:pub i ρ=ρ')(h:z E N ρ'):bM i z E N ρ:=by unfold bM;rw[e];exact h
theorem ixN_nat(h:k<n):j4 n (k:Int)=some k:=by unfold j4;rw[ks<|E8,ks<|E8,jS]
theorem gr_map{a:Int}(hk:k<t.length)(ea:a=k):eG (t.map aY) a=some (aY<|gr t k):=by subst ea;refine aS ?_;rw[cH];unfold gr;rw[aZ,bU hk];rfl
theorem Hk(L:Q6):kj (L.map λ(k:Nat)=>D.int (k:Int))=true:=by
 induction L with
 |nil=>rfl|cons a L ih=>rw[c8,kj,ih];rfl
theorem Hl{w1 w2:WE}{E:Rb}{x:D}{k1 k2:Nat}(e:ρ[i]? = some (.ow xs))(hv:∀P:D->Prop,P (.tup [x,y])->wv E ρ P)(h1:∀P:D->Prop,P (.int k1)->w1 E ρ P)(h2:∀P:D->Prop,P (.int k2)->w2 E (ρ.set i<|.ow<|xs.set k1 x) P)
  (l1:k1<xs.length) (l2:k2<xs.length) (h:N.nx (ρ.set i<|.ow<|(xs.set k1 x).set k2 y)):rg i wv w1 w2 E N ρ:=by
 unfold rg;rw[e];exact hv _<|h1 _ ⟨k1,ixN_nat l1,h2 _ ⟨k2,ixN_nat l2,h⟩⟩
theorem M6:Rd DR DT ZeI:=by
 rintro _ E Q ⟨t,rfl,⟨h,h5⟩,q⟩;dsimp only at h h5 q;generalize hn:t.length=n at h h5;unfold f8 at q;rw[hn]at q;show DT E _ [.d<|tabD t,.un,.un,.un,.un,.un,.un];unfold DT;refine bW ?_;unfold tabD;ext;refine iA (g:=aY) (f:=aY) t (λr hr Q hq=>?_) .un [] (by simp[aO];omega) ?_
 .unfold aY
  ext;exact hq
 rw[dQ];walk_at "n";walk_at "n";refine bW ?_;simp only[bE,bF];ext;refine⟨rfl,E8,by rw[bH];omega,?_⟩;rw[bH,hn];refine uJ (λa ρ=>∃x s4 s5 s6,dh t a=some x/\ρ=[.d<|.lst<|t.map aY,.ow<|x.t.map aY,.d<|.int x.s,.d<|.int x.l,s4,s5,s6]) n ?_ ?_ _ ⟨⟨t,1,1⟩,_,_,_,rfl,rfl⟩
 rotate_left
 .rintro _ ⟨x,s4,s5,s6,ex,rfl⟩
  rw[ex]at q;have o:=DQ h F4 (bZ _) ex;ext;refine⟨⟨?_,sx o.l<|fL (AW (c:=10) h5)<|F4⟩,q⟩;rcases o.s with z|z<;>rw[z]<;>exact sx (b:=1) F4 F4
 rintro a ha _ ⟨x,s4,s5,s6,ex,rfl⟩ nx hnx;have o:=DQ h F4 E8 ex;have xl:=o.t.len;show aL _ _ _ _ [.d<|.lst<|t.map aY,.ow<|x.t.map aY,.d<|.int x.s,.d<|.int x.l,.d<|.int a,s5,s6];have hl:(x.t.map aY).length=n:=by rw[bH];exact xl
 refine bW<|own_by (xs:=(il x.t a).map λ(k:Nat)=>D.int (k:Int)) (ρ':=[.d<|.lst<|t.map aY,.ow<|x.t.map aY,.d<|.int x.s,.d<|.int x.l,.d<|.int a,.ow<|(il x.t a).map λ(k:Nat)=>D.int (k:Int),s6]) (by rfl) (λP hP=>?_) ?_
 .ext
  rw[bH,xl];refine⟨E8,?_⟩;have el:rng (a:Int) ((n:Int)-(a:Int)).toNat=((List.range<|n-a).map (a + ·)).map λ(k:Nat)=>D.int (k:Int):=by
   unfold rng;rw[dG,show((n:Int)-(a:Int)).toNat=n-a by omega];exact jo λk _=>KE
  rw[el];refine AV (p:=λk=>ga (gr x.t k) a != 0) _ (λk hk P hP=>?_) .un [] (by simp[aO];omega) ?_
  .obtain⟨k',hk',rfl⟩:=YbU.mp hk
   rw[Yag]at hk';ext;refine⟨_,gr_map E8 rfl,?_⟩;refine uO (k:=a) (by rw[(o.t.gr (k:=a+k')<|E8).2.1];exact ha) rfl ?_;ext;exact hP
  .rw[dQ]
   refine⟨Hk _,?_⟩;unfold il at hP;rw[xl]at hP;exact hP
 have bb:lj 10 a<=175:=by
  have:a<=4:=E8
  exact fL (AW this) F4
 dsimp only;refine pub_by (ρ':=[.d<|.lst<|t.map aY,.ow<|x.t.map aY,.d<|.int x.s,.d<|.int x.l,.d<|.int a,.d<|.lst<|(il x.t a).map λ(k:Nat)=>D.int (k:Int),s6]) rfl ?_;have er:dh t (a+1)=gO a x:=by rw[dh,ex];rfl
 cases eg:il x.t a with
 |nil=>
  have:dh t n=none:=by
   have z:dh t (a+1)=none:=by rw[er];unfold gO;rw[eg]
   have:=Hj z<|n-(a+1);rw[show a+1+(n-(a+1))=n by omega]at this;exact this
  rw[this]at q;refine bW<|ik (b:=true) (λP hP=>?_) (λ_=>q) λe=>nomatch e;ext;exact⟨F4,ur wp hP⟩
 |cons g gs=>
 obtain⟨g1,g2,g3⟩:=DP o.t (g:=g) (by rw[eg];simp);generalize hG:(List.map (λ(k:Nat)=>D.int (k:Int)) (g::gs))=G;have hGa:eG G 0=some (.int g):=by rw[<-hG];exact aS (j:=0) rfl
 refine bW<|ik (b:=false) (λP hP=>?_) (λe=>nomatch e) λ_=>?_
 .ext
  refine⟨F4,?_⟩;rw[<-hG];refine rc (Dj _ (n:=1) F4<|xD λd hd=>?_) wp ?_
  .obtain⟨k,_,rfl⟩:=YbU.mp hd
   exact Zl _ _
  .have:k6 (.lst<|List.map (λ(k:Nat)=>D.int (k:Int)) (g::gs)) (.lst [])=false:=by
    unfold k6;rw[c8,pd,pd,PyData.eqv,iP,iP,PyData.eqvAll]
   rw[this];exact hP
 dsimp only;refine pub_by (ρ':=[.d<|.lst<|t.map aY,.ow<|x.t.map aY,.d<|.int x.s,.d<|.int x.l,.d<|.int a,.d<|.lst G,s6]) rfl ?_;refine bW ?_;have hsw:((x.t.map aY).set a<|aY<|gr x.t g).set g (aY<|gr x.t a)=(bL x.t a g).map aY:=by unfold bL;rw[rE,rE]
 have w:=ya o.t ha g2;have wl:=w.len;have pre:rg 1 (bD<|aC (cY 1<|w2 gIx (wN 5)<|wC<|.int<|0)<|aC (cY 1<|wN 4) aA) (wN 4) (w2 gIx (wN 5)<|wC<|.int<|0)=rg 1 (bD<|aC (cY 1<|w2 gIx (wN 5)<|wC<|.int<|0)<|aC (cY 1<|wN 4) aA) (wN 4) (w2 gIx (wN 5)<|wC<|.int<|0):=rfl;clear pre;generalize ht1:bL x.t a g=t1 at hsw w wl;refine Hl (xs:=x.t.map aY) (x:=aY<|gr x.t g) (y:=aY<|gr x.t a) (k1:=a) (k2:=g) rfl (λP hP=>?_) (λP hP=>hP) (λP hP=>⟨_,hGa,hP⟩) (by rw[hl];exact ha) (by rw[hl];exact g2) ?_
 .refine⟨_,hGa,_,gr_map E8 rfl,_,gr_map E8 rfl,show 2<=aO by decide,hP⟩
 rw[hsw];dsimp only;refine pub_by (ρ':=[.d<|.lst<|t.map aY,.ow<|t1.map aY,.d<|.int x.s,.d<|.int x.l,.d<|.int a,.d<|.lst G,s6]) rfl ?_;generalize hs':x.s*(1-2*(if g=a then(0:Int) else 1))=s';refine bW<|B.set_by (d:=.int s') (ρ':=[.d<|.lst<|t.map aY,.ow<|t1.map aY,.d<|.int s',.d<|.int x.l,.d<|.int a,.d<|.lst G,s6]) (by rfl) (λP hP=>?_) ?_
 .ext
  refine⟨_,hGa,?_⟩;ext;have e1:(if(!((g:Int)==(a:Int)))=true then(1:Int) else 0)=if g=a then 0 else 1:=by
   by_cases z:g=a
   .subst z;simp
   .rw[fz z]
    have:((g:Int)==(a:Int))=false:=by rw[QU];omega
    rw[this];rfl
  rw[e1,hs'];refine⟨⟨?_,?_⟩,⟨?_,?_⟩,hP⟩
  all_goals first|exact sx (b:=3) F4 F4|(split<;>exact sx (b:=3) F4<|F4)|(rcases o.s with z|z<;>rw[z]<;>exact sx (b:=3) F4<|F4)
 dsimp only;refine bW ?_;simp only[bE,bF];ext;rw[bH,wl];refine⟨rfl,E8,?_⟩;have e0:t1.map aY=(cE t1 a (a+1+0) x.l).map aY:=by rw[M4<|E8]
 rw[e0];refine DU ((a:Int)+1) (λk ρ=>∃s6,ρ=[.d<|.lst<|t.map aY,.ow<|(cE t1 a (a+1+k) x.l).map aY,.d<|.int s',.d<|.int x.l,.d<|.int a,.d<|.lst G,s6]) _ ?_ ?_ _ ⟨_,rfl⟩
 .rintro k hk _ ⟨s6,rfl⟩ nx2 hnx2
  have hk':a+1+k<n:=E8
  have r:=AT (k:=a+1+k) w ha o.l0;have rl:=r.len;have nxt:=M5 (t:=t1) (a:=a) (k:=a+1+k) (l:=x.l) E8 E8;rw[show a+1+(k+1)=a+1+k+1 by omega,nxt]at hnx2;generalize cE t1 a (a+1+k) x.l=R at r rl hnx2;have b3:2*lj 10 a+1<=223:=by
   have:lj 10 a<=lj 10 3:=AW E8;exact fL (Nat.succ_le_succ<|zY 2 this) F4
  simp only[gN,hJ,g9];show gI _ _ _ _ _ [.d<|.lst<|t.map aY,.ow<|R.map aY,.d<|.int s',.d<|.int x.l,.d<|.int a,.d<|.lst G,.d<|.int<|(a:Int)+1+k];refine⟨_,gr_map (t:=R) (k:=a+1+k) E8<|E8,_,gr_map (t:=R) (k:=a) E8 rfl,?_⟩;have up:∀{y:Int},y.natAbs<2^(2*lj 10 a+1)->y.natAbs<2^8989:=λh=>dw h<|jU F4 E8;refine⟨((gr R<|a+1+k,gr R a),a,x.l),rfl,⟨?_,?_,?_,λy hy=>up<|(r.gr hk').2.2 y hy,λy hy=>up<|(r.gr ha).2.2 y hy,o.l0,dw o.l<|jU F4<|E8⟩,?_⟩
  .show(gr R<|a+1+k).length<=5
   rw[(r.gr hk').2.1];exact h5
  .show(gr R a).length=(gr R<|a+1+k).length
   rw[(r.gr hk').2.1,(r.gr ha).2.1]
  .show a<(gr R<|a+1+k).length
   rw[(r.gr hk').2.1];exact ha
  .refine⟨a+1+k,?_,?_⟩
   .rw[bH,rl,show(a:Int)+1+(k:Int)=((a+1+k:Nat):Int) by omega]
    exact ixN_nat hk'
   .rw[rE]at hnx2
    exact hnx2 _ ⟨_,rfl⟩
 .rintro _ ⟨s6,rfl⟩
  rw[show a+1+((n:Int)-((a:Int)+1)).toNat=n by omega];have r:=AT (k:=n) w ha o.l0;have rl:=r.len;have er2:dh t (a+1)=some ⟨cE t1 a n x.l,s',ga (gr (cE t1 a n x.l) a) a⟩:=by
   rw[er];unfold gO;rw[eg];show some (St3.mk (cE (bL x.t a g) a (bL x.t a g).length x.l) _ _)=_;rw[ht1,wl,hs']
  generalize cE t1 a n x.l=R at r rl er2;dsimp only;refine B.set_by (d:=.int<|ga (gr R a) a) (ρ':=[.d<|.lst<|t.map aY,.ow<|R.map aY,.d<|.int s',.d<|.int<|ga (gr R a) a,.d<|.int a,.d<|.lst G,s6]) (by rfl) (λP hP=>?_)<|hnx _ ⟨_,_,_,_,er2,rfl⟩;ext;refine⟨_,gr_map (t:=R) (k:=a) E8 rfl,uO (k:=a) (by rw[(r.gr ha).2.1];exact ha) rfl ⟨rfl,hP⟩⟩
def Dz:Nat->QZ->QZ->Prop
 |_,[],_=>True|_,_::_,[]=>True|N,x::p,y::q=>∃n m,Sz n x/\Sz m y/\n+m+1<=N/\Dz (N-(n+m+1)) p q
def sB:bV:=fnS (λx:(Bool×Bool)×QZ×QZ=>[ii x.1.1<|x.2.1.map aU,ii x.1.2<|x.2.2.map aU]) (λx=>Dz 8989 x.2.1 x.2.2) λx=>aU<|du x.2.1 x.2.2
section
variable{E:Rb}{f:QZ}{a x y:Rat}
theorem M7(h1:Sz k a)(h2:Sz n x)(h3:Sz m y)(hb:k+n+m+3<=8989)(q:Q (aU<|a+x*y)):sB [.lst [aU a,aU x],.lst [.tup [.int 1,.int 1],aU y]] E Q:=by
 have e:du [a,x] [1,y]=a+x*y:=by simp only[du,Rat.mul_one,jV]
 refine⟨((false,false),[a,x],[1,y]),rfl,⟨k,1,h1,Sz.int (n:=1) 1 F4<|F4,E8,n,m,h2,h3,E8,trivial⟩,?_⟩;dsimp only;rw[e];exact q
end
abbrev Zjg:Q4:=["_law_one", "_law_other", "_law_top", "_law_bottom", "_law_left", "_law_right"]
def Hm:WS:=(aL (aR 2<|wC<|.int<|0)<|aL (aR 3<|wC<|.int<|1)<|aL (bE<|bF (iZ<|aC (wN 0)<|aC (wN 1) aA) (ez 2<|c7 (gN 4)<|c7 (gN 5) et)<|aL (aR 2<|w2 gAdd (w2 gMul (w2 gMul (wN 2)<|w2 gIx (wN 4)<|wC<|.int<|1)<|w2 gIx (wN 5)<|wC<|.int<|1)<|w2 gMul (w2 gMul (w2 gIx (wN 4)<|wC<|.int<|0)<|w2 gIx (wN 5)<|wC<|.int<|0)<|wN 3)<|aR 3<|w2 gMul (w2 gMul (wN 3)<|w2 gIx (wN 4)<|wC<|.int<|1)<|w2 gIx (wN 5)<|wC<|.int<|1)<|aN<|wF vA<|aC (wN 2)<|aC (wN 3) aA)
theorem DV{a b:Int}{E:Rb}(h:b≠0)(h':Bd b)(q:Q (aU<|Rat.divInt a b)):vA [.int a,.int b] E Q:=⟨(a,b),rfl,⟨h,h'⟩,q⟩
theorem M8(y:Rat):aU (-y)=.tup [.int<|0-y.num,.int y.den]:=by unfold aU;rw[Rat.neg_num,Rat.neg_den,Int.zero_sub]
noncomputable def cutL(r:QY)(i:Nat):QY:=r.take i++r.drop (i+1)
def uP(t:K5)(i j:Nat):K5:=(t.take j++t.drop (j+1)).map λr=>cutL r i
def sgn(i j:Nat):Int:=1-2*(((i:Int)+j)%2)
theorem cut_mem{α:Type}{r:List α}{x:α}(h:x∈r.take i++r.drop (i+1)):x∈r:=by
 rcases Yao.mp h with h|h
 exact mT h;exact qc h
theorem prt_sm(h:Sm 6 n t)(hi:i<n)(hj:j<n):Sm 6 (n-1) (uP t i j):=by
 have e:=h.len;refine⟨?_,λr hr=>?_,λr hr x hx=>?_⟩;unfold uP;simp only[bH,fN,iC,lx];omega;obtain⟨r',hr',rfl⟩:=YbU.mp hr;have:=h.row r'<|cut_mem hr';unfold cutL;simp only[fN,iC,lx];omega
 obtain⟨r',hr',rfl⟩:=YbU.mp hr;exact h.sm r' (cut_mem hr') x<|cut_mem hx
theorem sgn_one(i j:Nat):sgn i j=1\/sgn i j = -1:=by unfold sgn;omega
end B.C
def lP(x:D):Bool:=decide ((sI x).reverse=sI x)
def M9(x:D):Except Str D:=ij x<|.ok (.bl<|lP x)
def DW(s:QY)(n:Nat)(y z:D):Except Str D:=if gW n y=true/\gW n z=true then .ok (aU<|du (rQ y)<|bR s n<|rQ z) else .error "NoRow"
def DX(x y z:D):Except Str D:=ij x (if lP x=true then DW (sI x) (sN x) y z else .error "NotEven")
def DY:bV:=xS (λx:D=>[x]) (λx=>kd x=true) M9
def uQ:bV:=xS (λx:D=>[x]) (λx=>kd x=true) λx=>ij x (if lP x=true then .ok .non else .error "NotEven")
def qr:bV:=xS (λx:D×D×D=>[x.1,x.2.1,x.2.2]) (λx=>kd x.1=true/\kd x.2.1=true/\kd x.2.2=true/\jK 170 x.2.1=true/\jK 170 x.2.2=true) λx=>DX x.1 x.2.1 x.2.2
abbrev ZkL:Q4:=["slants"]
def Hn:WS:=(aN<|w2 (gEq false) (wF AA<|aC (wN 0) aA)<|wN 0)
abbrev Ziw:Q4:=["slants"]
def Ho:WS:=(cR (bK<|wT<|wF DY<|aC (wN 0) aA) (jg<|PySem.Str.ofString "NotEven") cW)
abbrev ZkK:Q4:=["slants", "one", "other"]
def Hq:WS:=(aL (gF<|wF uQ<|aC (wN 0) aA)<|aL (cR (bK<|wT<|wF vz<|aC (wN 0)<|aC (wN 1) aA) (jg<|PySem.Str.ofString "NoRow") cW)<|aN<|wF xJ<|aC (wN 1)<|aC (wF ss<|aC (wN 0)<|aC (wN 2) aA) aA)
theorem Hr(a b:QY):k6 (aT a) (aT b)=decide (a=b):=by
 unfold k6 aT;rw[pd,pd,PyData.eqv];induction a generalizing b with
 |nil=>cases b<;>simp[iP,PyData.eqvAll]
 |cons x a ih=>
  cases b with
  |nil=>simp[iP,PyData.eqvAll]
  |cons y b=>
   rw[c8,c8,iP,iP,PyData.eqvAll,ih b,pd,pd,PyData.eqv,sU];simp
theorem Na(h:IsSl s n)(hm:∀x∈r,Sz m x):∀x∈bR s n r,Sz (5*(6+m+1)+1) x:=by intro x hx;unfold bR at hx;obtain⟨line,hl,rfl⟩:=YbU.mp hx;obtain⟨h1,h2⟩:=kH h line hl;refine GG _ _ (λx hx=>?_) hm (by unfold dJ;rw[bH,h1];exact h.n5);obtain⟨i,hi,rfl⟩:=YbU.mp hx;exact AJ<|h2 i hi
theorem DZ{p:QZ}(h:IsSl s n)(hp:p.length=n)(h1:∀x∈p,Sz 170 x)(h2:∀x∈r,Sz 170 x):BR p (bR s n r):=by refine⟨170,_,h1,Na h h2,?_⟩;rw[hp];have h5:=h.n5;have:n*(170+(5*(6+170+1)+1)+1)<=5*(170+(5*(6+170+1)+1)+1):=mR _ h5;omega
theorem Nb:Rd DY Hn ZkL:=by
 rintro _ E Q ⟨x,rfl,hk,q⟩;unfold Hn;ext;cases e:fZ x with
 |false=>exact xS.err x rfl hk (m6 e)<|lh e q
 |true=>obtain⟨s,n,rfl,h⟩:=m7 e;refine LV h<|rc (As _ 59) (As _ 59) ?_;replace q:=li h q;unfold lP at q;rw[fw]at q;simp only[dU,if_false];rw[Hr];exact q
theorem Nc:Rd uQ Ho Ziw:=by
 rintro _ E Q ⟨x,rfl,hk,q⟩;unfold Ho;ext;cases e:fZ x with
 |false=>exact xS.err x rfl hk (m6 e)<|lh e q
 |true=>
  obtain⟨s,n,rfl,h⟩:=m7 e;replace q:=li h q;refine xS.ok (aT s) rfl hk (gK h) ?_;ext;cases ev:lP (aT s) with
  |true=>rw[ev]at q;simpa[exQ] using q|false=>rw[ev]at q;simpa[exQ] using q
theorem Nd:Rd qr Hq ZkK:=by
 rintro _ E Q ⟨⟨x,y,z⟩,rfl,⟨hk,hk1,hk2,hs1,hs2⟩,q⟩;dsimp only at hk hk1 hk2 hs1 hs2 q;unfold Hq;walk_at "n";cases e:fZ x with
 |false=>exact xS.err x rfl hk (m6 e)<|lh e q
 |true=>
 obtain⟨s,n,rfl,h⟩:=m7 e;replace q:=li h q;cases ev:lP (aT s) with
 |false=>
  rw[ev]at q;exact xS.err (aT s) rfl hk (by(try dsimp only);rw[gK h,ev];rfl) q
 |true=>
 rw[ev,fw,h.sN]at q;simp only[if_true]at q;refine xS.ok (aT s) rfl hk (v:=.non) (by(try dsimp only);rw[gK h,ev];rfl) ?_;walk_at "n";refine F9 h hk1 ?_;ext;unfold DW at q;cases e1:gW n y with
 |false=>rw[e1]at q;simpa[exQ] using q
 |true=>
 obtain⟨p,rfl,hp'⟩:=AD e1;have hp:p.length=n:=E8
 simp only[fk,dU,if_false];rw[e1]at q;cases e2:gW n z with
 |false=>
  rw[e2]at q;exact xS.err (aT s,z) rfl ⟨hk,hk2,λr er=>⟨170,Zdq.mp (by rw[<-er];exact hs2),F4⟩⟩ (by(try dsimp only);rw[gK h,h.sN,e2];rfl) (by simpa[exQ] using q)
 |true=>
 obtain⟨r,rfl,hr'⟩:=AD e2;have hr:r.length=n:=E8
 rw[e2,re,re]at q;refine xL h hr ⟨170,Zdq.mp hs2,F4⟩<|F2 (DZ h hp (Zdq.mp hs1)<|Zdq.mp hs2) ?_;simpa[exQ] using q
namespace B.C
mutual
def bx(b:Nat):D->Nat->Bool
 |.non,_=>true|.bl _,_=>true|.int i,_=>decide (i.natAbs<2^300)|.str x,_=>decide (x.cps.size<=4)&&x.cps.toList.all λc=>decide (c<16^8)
 |.dic,_=>true|.tup xs,n=>decide (0<n)&&decide (xs.length<=b)&&D0 b xs (n-1)|.lst xs,n=>decide (0<n)&&decide (xs.length<=b)&&D0 b xs (n-1)|.pen,_=>false|.cls _,_=>false|.exc _,_=>false|.ty _,_=>false|.pl _ _,_=>false|.scr _,_=>false
def D0(b:Nat):Rc->Nat->Bool
 |[],_=>true|x::r,n=>bx b x n&&D0 b r n
end
end B.C
namespace B.C
theorem for_seq{E:Rb}(hw:∀P:D->Prop,P (.lst xs)->w E ρ P)(h:ZbA g zb E N xs ρ):bF (iS w) g zb E N ρ:=hw _ h
theorem pair_at{w1 w2:WE}{E:Rb}{a b:D}(h1:∀P:D->Prop,P a->w1 E ρ P)(h2:∀P:D->Prop,P b->w2 E ρ P):∀P:D->Prop,P (.tup [a,b])->bD (aC w1<|aC w2 aA) E ρ P:=λP h=>h1 _<|h2 _ ⟨show 2<=aO by decide,h⟩
theorem tbl_Sm(h:IsSl s n):Sm 6 n (tbl s n):=⟨gX s n,λr hr=>(kH h r hr).1,λr hr x hx=>by
 have:=(kH h r hr).2 x hx;show x.natAbs<64;omega⟩
set_option maxHeartbeats 2000000 in
theorem Nf:Rd sB Hm Zjg:=by
 rintro _ E Q ⟨⟨⟨b1,b2⟩,p,q⟩,rfl,hd,h⟩;dsimp only at hd h;obtain⟨N0,hN0,hd⟩:∃N,N<8990/\Dz N p q:=⟨8989,F4,hd⟩;unfold Hm;have key:∀(p' q':QZ) (t b:Int) (sv sv':SV) (j:Nat),Dz (N0-j) p' q'->t.natAbs<=2^j->b.natAbs<=2^j->b≠0->j<=N0->Rat.divInt t b+du p' q'=du p q->
   ZbA (ez 2<|c7 (gN 4)<|c7 (gN 5) et) (aL (aR 2<|w2 gAdd (w2 gMul (w2 gMul (wN 2)<|w2 gIx (wN 4)<|wC<|.int<|1)<|w2 gIx (wN 5)<|wC<|.int<|1)<|w2 gMul (w2 gMul (w2 gIx (wN 4)<|wC<|.int<|0)<|w2 gIx (wN 5)<|wC<|.int<|0)<|wN 3)<|aR 3<|w2 gMul (w2 gMul (wN 3)<|w2 gIx (wN 4)<|wC<|.int<|1)<|w2 gIx (wN 5)<|wC<|.int<|1)
    No { nx:=aN (wF vA<|aC (wN 2)<|aC (wN 3) aA) E { nx:=λ_=>Q .non,rt:=Q },rt:=Q,bk:=λ_=>False,ct:=λ_=>False }
    (eT (p'.map aU)<|q'.map aU) [.d<|ii b1<|p.map aU,.d<|ii b2<|q.map aU,.d<|.int t,.d<|.int b,sv,sv']:=by
  intro p'
  induction p' with
  |nil=>
   intro q' t b sv sv' j _ h3 h4 h5 h6 he;rw[du,jV]at he;simp only[eT,gG,List.zipWith_nil_left,ZbA];ext;exact DV h5 (B.bd_le h4<|E8) (by rw[he];exact h)
  |cons x p' ih=>
   intro q' t b sv sv' j hz h3 h4 h5 h6 he;cases q' with
   |nil=>
    rw[du,jV]at he;simp only[eT,gG,List.zipWith_nil_right,ZbA];ext;exact DV h5 (B.bd_le h4<|E8) (by rw[he];exact h)
   |cons y q'=>
    obtain⟨n,m,hx,hy,hnm,hz'⟩:=hz;simp only[eT,c8,B4,ZbA];refine⟨rfl,?_⟩;ext;walk_at "n";have xd:((x.den:Int)).natAbs<=2^n:=by simpa using gP hx.2
    have yd:((y.den:Int)).natAbs<=2^m:=by simpa using gP hy.2
    have xn:x.num.natAbs<=2^n:=gP hx.1;have yn:y.num.natAbs<=2^m:=gP hy.1;have mm:∀{i k:Int} {c d:Nat},i.natAbs<=2^c->k.natAbs<=2^d->(i*k).natAbs<=2^(c+d):=λh h'=>by
     rw[eI,kx];exact jp h h'
    have t1:=mm h3 xd;have t2:=mm t1 yd;have t3:=mm xn yn;have t4:=mm t3 h4;have t5:=mm h4 xd;have t6:=mm t5 yd;refine f7 ⟨⟨B.bd_le h3<|E8,B.bd_le xd<|E8⟩,f7 ⟨⟨B.bd_le t1<|E8,B.bd_le yd<|E8⟩,qp<|qp ⟨⟨B.bd_le xn<|E8,B.bd_le yn<|E8⟩,⟨⟨B.bd_le t3<|E8,B.bd_le h4<|E8⟩,?_⟩⟩⟩⟩;ext;refine f7 ⟨⟨B.bd_le h4<|E8,B.bd_le xd<|E8⟩,f7 ⟨⟨B.bd_le t5<|E8,B.bd_le yd<|E8⟩,?_⟩⟩;refine ih q' _ _ _ _ (j+(n+m+1)) (by rw[Nat.sub_add_eq];exact hz') ?_ ?_ ?_ E8 ?_
    .refine fL (rD _ _) ?_
     rw[show j+(n+m+1)=(j+n+m)+1 by omega,vc];have t4':(x.num*y.num*b).natAbs<=2^(j+n+m):=by rw[show j+n+m=n+m+j by omega];exact t4
     omega
    .exact fL t6<|jU F4 E8
    .exact mV (mV h5 (by have:=x.den_nz;omega)) (by have:=y.den_nz;omega)
    .rw[B.dot_step h5,Rat.add_assoc]
     rw[du]at he;exact he
 walk_at "n";walk_at "n";have k:=key p q 0 1 .un .un 0 hd KE KE F4 E8 (by rw[Cd,ve]);cases b1<;>cases b2<;>exact k
def Hs:bV:=uv
abbrev Zbz:Q4:=["_law_thing"]
def AR:WS:=(aL (cR (dZ (bK<|wT<|wB gIs<|aC (wN 0)<|aC (wC<|.ty "tuple") aA)<|dZ (wT<|w2 (gEq true) (wB bQ<|aC (wN 0) aA)<|wC<|.int<|2)<|dZ (bK<|wT<|wF Hs<|aC (w2 gIx (wN 0)<|wC<|.int<|0) aA)<|bK<|wT<|wF Hs<|aC (w2 gIx (wN 0)<|wC<|.int<|1) aA) (aN<|wC<|D.bl false) cW)<|aN<|gT (w2 pV (w2 gIx (wN 0)<|wC<|.int<|1)<|wC<|.int<|0)<|w2 (gEq false) (wF Zd<|aC (w2 gIx (wN 0)<|wC<|.int<|0)<|aC (w2 gIx (wN 0)<|wC<|.int<|1) aA)<|wC<|.int<|1)
theorem rd__law_share_like:Rd uL AR Zbz:=B.rd__law_share_like
end B.C
def AX:bV:=fnS (λx:Nat×Nat=>[.int x.1,.int x.2]) (λx=>x.2<=5) λx=>aH<|cQ x.2 x.1
section
variable{E:Rb}{x:D}
theorem Ng(h:n<=5)(q:Q (aH<|cQ n k)):AX [.int k,.int n] E Q:=⟨(k,n),rfl,h,q⟩
end
abbrev Zmf:Q4:=["place", "many"]
def Ht:WS:=(aN<|wF uB<|aC (wL<|aLC (fD<|aC (wN 1) aA) 1 [0] (gN 0) cX<|wB ic<|aC (w2 (gEq false) (wN 0)<|wN 1) aA) aA)
theorem sC(n k:Nat):(cQ n k).length=n:=by unfold cQ;rw[bH,iY]
theorem Nh(n k:Nat):dJ ((List.range n).map λi:Nat=>if(i:Int)=(k:Int) then(1:Int) else 0)=cQ n k:=by unfold dJ cQ;rw[dG];refine jo λi _=>?_;show(((if(i:Int)=(k:Int) then(1:Int) else 0):Int):Rat)=_;by_cases e:i=k;rw[ks<|E8,ks e];rfl;rw[fz<|E8,fz e];rfl
theorem Ni:Rd AX Ht Zmf:=by rintro _ E Q ⟨⟨k,n⟩,rfl,h,q⟩;dsimp only at h q;unfold Ht;ext;refine⟨E8,E8,?_⟩;rw[pX];refine iA (g:=λi:Nat=>D.int (i:Int)) (f:=λi:Nat=>D.int (if(i:Int)=(k:Int) then 1 else 0)) (List.range n) (λi hi Q hq=>?_) .un [] (by simp[aO];omega) ?_;ext;by_cases e:(i:Int)=(k:Int);rw[ks e]at hq;simpa[e] using hq;rw[fz e]at hq;simpa[e] using hq;have:=F1 (E:=E) (Q:=Q) (xs:=(List.range n).map λi:Nat=>if(i:Int)=(k:Int) then(1:Int) else 0) (by simp;omega) (by rw[Nh];exact q);unfold aY at this;rw[dG]at this;exact this
def bS(a:QZ)(s:Rat)(c:QZ):QZ:=List.zipWith (λl r=>l-s*r) a c
noncomputable def dL(a:QZ)(s:Rat):QZ:=a.map λx=>x/s
structure Cl where
 ld:K4
 pl:Q6
 rs:K4
structure Lf(b m:Nat)(row:QZ):Prop where
 ex:∃(c:QY) (e:Int),c.length=m/\e≠0/\e.natAbs<2^b/\(∀x∈c,x.natAbs<2^b)/\row=c.map λx=>Rat.divInt x e
theorem Lf.len(h:Lf b m row):row.length=m:=by obtain⟨c,e,h1,_,_,_,rfl⟩:=h.ex;rw[bH];exact h1
theorem Lf.sz(h:Lf b m row):∀x∈row,Sz b x:=by obtain⟨c,e,h1,h2,h3,h4,rfl⟩:=h.ex;intro x hx;obtain⟨y,hy,rfl⟩:=YbU.mp hx;exact xR h2 (h4 y hy) h3
theorem Lf.get(h:Lf b m row)(hk:k<m):row[k]? = some (row.getD k 0)/\Sz b (row.getD k 0):=by
 have e:row[k]? = some (row.getD k 0):=by rw[aZ,bU (by rw[h.len];exact hk)];rfl
 exact⟨e,h.sz _<|iD e⟩
theorem Lf.int{c:QY}(hb:0<b)(h:∀x∈c,x.natAbs<2^b):Lf b c.length (dJ c):=by refine⟨c,1,rfl,F4,?_,h,?_⟩;show 1<2^b;exact zS E8;unfold dJ;exact jo λx _=>by have:=vd (x:Rat);rw[BZ,B0]at this;exact this.symm
theorem Nj{c e:Int}(he:e≠0):Rat.divInt c e≠0↔c≠0:=by
 constructor;rintro h rfl;exact h<|Cd e
 intro h z;have e1:Rat.divInt c e*Rat.divInt e c=1:=by rw[vT,rF e c];have:=Ce (n:=1) (d:=1)<|mV h he;rw[vR]at this;rw[this];rfl
 rw[z,kK]at e1;exact Qj e1 F4
theorem Lf.norm{p:Nat}(h:Lf b m row)(hp:p<m)(h0:row.getD p 0≠0):Lf b m (dL row<|row.getD p 0):=by
 obtain⟨c,e,h1,h2,h3,h4,rfl⟩:=h.ex;have hc:c[p]? = some (c.getD p 0):=by rw[aZ,bU<|E8];rfl
 have eg:(c.map λx=>Rat.divInt x e).getD p 0=Rat.divInt (c.getD p 0) e:=by rw[aZ,cH,hc];rfl
 rw[eg]at h0 ⊢;have hc0:c.getD p 0≠0:=(Nj h2).mp h0;refine⟨c,c.getD p 0,h1,hc0,h4 _<|iD hc,h4,?_⟩;unfold dL;rw[dG];refine jo λx _=>?_;show Rat.divInt x e/(Rat.divInt (c.getD p 0) e)=Rat.divInt x (c.getD p 0);rw[gD,Rat.inv_divInt,vT _ _ ,rF e];exact Ce h2
theorem Nk{w x y z:Int}(h1:w.natAbs<2^b)(h2:x.natAbs<2^b)(h3:y.natAbs<2^b)(h4:z.natAbs<2^b):(w*x-y*z).natAbs<2^(2*b+1):=by
 have m1:(w*x).natAbs<2^b*2^b:=by rw[eI];exact qx h1 h2
 have m2:(y*z).natAbs<2^b*2^b:=by rw[eI];exact qx h3 h4
 have:=zZ (w*x)<|y*z;rw[vc,show 2*b=b+b by omega,kx];omega
theorem Lf.less{p:Nat}{piv:QZ}(h:Lf b m row)(hq:Lf b m piv)(hp:p<m):Lf (2*b+1) m (bS row (row.getD p 0) piv):=by
 obtain⟨c,e,h1,h2,h3,h4,rfl⟩:=h.ex;obtain⟨d,f,g1,g2,g3,g4,rfl⟩:=hq.ex;have hc:c[p]? = some (c.getD p 0):=by rw[aZ,bU<|E8];rfl
 have eg:(c.map λx=>Rat.divInt x e).getD p 0=Rat.divInt (c.getD p 0) e:=by rw[aZ,cH,hc];rfl
 rw[eg];have bc:(c.getD p 0).natAbs<2^b:=h4 _<|iD hc;refine⟨List.zipWith (λx y=>x*f-c.getD p 0*y) c d,e*f,by rw[rC];omega,mV h2 g2,?_,λz hz=>?_,?_⟩
 rw[eI,vc,show 2*b=b+b by omega,kx];have:=qx h3 g3;omega;obtain⟨i,hi,e1⟩:=Ybx.mp hz;rw[vh]at e1;rw[<-e1];exact Nk (h4 _<|jn _) g3 bc<|g4 _ (jn _)
 unfold bS;rw[List.zipWith_map,List.map_zipWith];refine congrArg (λg=>List.zipWith g c d) ?_;funext x y;rw[vT,Rat.divInt_sub_divInt _ _ h2<|mV h2 g2];rw[show x*(e*f)-c.getD p 0*y*e=(x*f-c.getD p 0*y)*e by grind,rF e<|e*f];exact(Ce h2)
def bq(b:Nat):Nat->Nat
 |0=>b|k+1=>2*bq b k+1
theorem qs{R:K4}(h:a<R.length):R.getD a []∈R:=by rw[aZ,bU h];exact jn _
theorem lQ{α:Type}{R:List α}{r:α}(h:r∈R.take a++R.drop (a+1)):r∈R:=by
 rcases Yao.mp h with h|h
 exact mT h;exact qc h
def jj(R:K4):D:=.lst<|R.map aH
noncomputable def yb(xs:Q6):D:=.lst<|xs.map λ(k:Nat)=>D.int (k:Int)
def uR:bV:=fnS (λx:Nat×QZ×Rat=>[aH x.2.1,aU x.2.2]) (λx=>2*x.1<8990/\x.2.1.length<=1000/\(∀y∈x.2.1,Sz x.1 y)/\Sz x.1 x.2.2/\x.2.2≠0) λx=>aH<|dL x.2.1 x.2.2
def rh:bV:=fnS (λx:(Nat×Nat×Nat)×QZ×Rat×QZ=>[aH x.2.1,aU x.2.2.1,aH x.2.2.2]) (λx=>x.1.1+x.1.2.1+x.1.2.2<8990/\x.2.1.length<=1000/\(∀y∈x.2.1,Sz x.1.1 y)/\Sz x.1.2.1 x.2.2.1/\∀y∈x.2.2.2,Sz x.1.2.2 y) λx=>aH<|bS x.2.1 x.2.2.1 x.2.2.2
def mE(s:QY)(n:Nat):K4:=(tbl s n).map dJ
def D1(n:Nat):Nat->K4->K4
 |_,[]=>[]|k,r::R=>(r++cQ n k)::D1 n (k+1) R
section
variable{E:Rb}{x:D}{w p:Nat}{t lead:QZ}{R L:K4}{pl:Q6}
theorem AY(h1:2*b<8990)(h2:r.length<=1000)(h3:∀y∈r,Sz b y)(h4:Sz b q0)(h5:q0≠0)(q:Q (aH<|dL r q0)):uR [aH r,aU q0] E Q:=⟨(b,r,q0),rfl,⟨h1,h2,h3,h4,h5⟩,q⟩
theorem Nm{c:Nat}(h0:a+b+c<8990)(h1:r.length<=1000)(h2:∀y∈r,Sz a y)(h3:Sz b q0)(h4:∀y∈t,Sz c y)(q:Q (aH<|bS r q0 t)):rh [aH r,aU q0,aH t] E Q:=⟨((a,b,c),r,q0,t),rfl,⟨h0,h1,h2,h3,h4⟩,q⟩
theorem AZ(h1:3*b<8990)(h2:r.length<=1000)(h3:∀y∈r,Sz b y)(h4:Sz b q0)(h5:∀y∈t,Sz b y)(q:Q (aH<|bS r q0 t)):rh [aH r,aU q0,aH t] E Q:=Nm (a:=b) (b:=b) (c:=b) E8 h2 h3 h4 h5 q
end
abbrev Zme:Q4:=["row", "share"]
def D2:WS:=(aN<|wB lM<|aC (wL<|aLC (iS<|wN 0) 1 [1] (gN 0) cX<|wF mC<|aC (wN 0)<|aC (wN 1) aA) aA)
abbrev Zjb:Q4:=["one", "share", "other"]
def D3:WS:=(aN<|wB lM<|aC (wL<|aLC (iZ<|aC (wN 0)<|aC (wN 2) aA) 2 [1] (ez 2<|c7 (gN 0)<|c7 (gN 1) et) cX<|wF uz<|aC (wN 0)<|aC (wF uA<|aC (wN 2)<|aC (wN 1) aA) aA) aA)
theorem Nn:Rd uR D2 Zme:=by rintro _ E Q ⟨⟨b,r,q0⟩,rfl,⟨h1,h2,h3,h4,h5⟩,q⟩;dsimp only at h1 h2 h3 h4 h5 q;show D2 E _ [.d<|aH r,.d<|aU q0];unfold D2 aH;ext;refine iA (g:=aU) (f:=λx:Rat=>aU<|x/q0) r (λx hx Q hq=>?_) .un [] (by simp[aO];omega) ?_;ext;exact uE (B2.of (h3 x hx) h4<|E8) h5 hq;ext;unfold aH dL at q;rw[dG]at q;exact q
theorem Hu{we:WE}{tail:cV}{Q:Rc->Prop}{f:Rat->Rat->D}:∀(A C:QZ),(∀x∈A,∀y∈C,∀Q:D->Prop,Q (f x y)->we No (.d (aU x)::.d (aU y)::tail) Q)->∀(sv sv':SV) (acc:Rc),acc.length+A.length<=aO->Q (acc++List.zipWith f A C)->lcW (ez 2<|c7 (gN 0)<|c7 (gN 1) et) cX we (eT (A.map aU)<|C.map aU) (sv::sv'::tail) acc Q
 |[],C,_,sv,sv',acc,_,hq=>by simpa[lcW,eT] using hq|x::A,[],_,sv,sv',acc,_,hq=>by simpa[lcW,eT] using hq
 |x::A,y::C,h,sv,sv',acc,hl,hq=>by
  have e:eT ((x::A).map aU) ((y::C).map aU)=.tup [aU x,aU y]::eT (A.map aU) (C.map aU):=by simp[eT]
  rw[e,lcW];refine⟨rfl,?_⟩;rw[dR]at hl;refine h x KE y KE _ ⟨E8,Hu A C (λa ha c hc=>h a (by simp[ha]) c<|by simp[hc]) _ _ _ (by simp;omega) ?_⟩;rw[oU];simpa using hq
theorem Np:Rd rh D3 Zjb:=by
 rintro _ E Q ⟨⟨⟨a,b,c⟩,r,q0,t⟩,rfl,⟨h1,h2,h3,h4,h5⟩,q⟩;dsimp only at h1 h2 h3 h4 h5 q;show D3 E _ [.d<|aH r,.d<|aU q0,.d<|aH t];unfold D3 aH;ext;refine Hu (f:=λx y=>aU<|x-q0*y) r t (λx hx y hy Q hq=>?_) .un .un [] (by simp[aO];omega) ?_;ext;exact F0 (B2.of h4 (h5 y hy)<|E8)<|Dp (B2.of (h3 x hx) (h4.mul<|h5 y hy)<|E8) hq
 ext;unfold aH bS at q;rw[List.map_zipWith]at q;exact q
theorem uS{E:Rb}(e:ρ.set i (.d d)=ρ')(hw:∀P:D->Prop,P d->w E ρ P)(h:N.nx ρ'):aR i w E N ρ:=hw _ (by rw[e];exact h)
theorem yc{E:Rb}(e:ρ[i]? = some (.ow xs))(hl:xs.length<aO)(e2:ρ.set i (.ow<|xs++[d])=ρ')(hw:∀P:D->Prop,P d->w E ρ P)(h:N.nx ρ'):da i w E N ρ:=by unfold da;rw[e];exact hw _ ⟨hl,by rw[e2];exact h⟩
theorem Hv(h:k<r.length):eG (r.map aU) (k:Int)=some (aU<|r.getD k 0):=by refine aS ?_;rw[cH,aZ,bU h];rfl
theorem Nq(h:IsSl s n):∀r∈mE s n,Lf 6 n r:=λr hr=>by
 unfold mE at hr;obtain⟨t,ht,rfl⟩:=YbU.mp hr;obtain⟨h1,h2⟩:=kH h t ht;have:=Lf.int (b:=6) (c:=t) F4 λx hx=>by have:=h2 x hx;show _<64;omega
 rw[h1]at this;exact this
theorem Hw:(mE s n).length=n:=by unfold mE;rw[bH,gX]
section
namespace Dt
abbrev R:=Nat->Int
noncomputable def m2(a b:R)(p q:Nat):Int:=a p*b q-a q*b p
def m3(a b c:R)(p q r:Nat):Int:=c r*m2 a b p q-c q*m2 a b p r+c p*m2 a b q r
def m4(a b c d:R)(p q r s:Nat):Int:=d s*m3 a b c p q r-d r*m3 a b c p q s+d q*m3 a b c p r s-d p*m3 a b c q r s
def m5(a b c d e:R)(p q r s t:Nat):Int:=e t*m4 a b c d p q r s-e s*m4 a b c d p q r t+e r*m4 a b c d p q s t-e q*m4 a b c d p r s t+e p*m4 a b c d q r s t
section
variable(a b c d e:R)(p q r s t j:Nat)
theorem s0:m2 a b p j*1=b j*a p-b p*a j:=by unfold m2;grind
theorem s1:m3 a b c p q j*a p=m2 a c p j*m2 a b p q-m2 a c p q*m2 a b p j:=by unfold m3 m2;grind
theorem s2:m4 a b c d p q r j*m2 a b p q=m3 a b d p q j*m3 a b c p q r-m3 a b d p q r*m3 a b c p q j:=by unfold m4 m3 m2;grind
theorem pl:m3 a b c p q r*m3 a b c p s j=m3 a b c p q s*m3 a b c p r j-m3 a b c p q j*m3 a b c p r s:=by unfold m3 m2;grind
theorem D4:m3 a b c p q r*m3 a b c q s j=m3 a b c p q s*m3 a b c q r j-m3 a b c p q j*m3 a b c q r s:=by unfold m3 m2;grind
theorem Nr:m3 a b c p q r*m3 a b c r s j=m3 a b c p r s*m3 a b c q r j-m3 a b c p r j*m3 a b c q r s:=by unfold m3 m2;grind
theorem s3:m5 a b c d e p q r s j*m3 a b c p q r=m4 a b c e p q r j*m4 a b c d p q r s-m4 a b c e p q r s*m4 a b c d p q r j:=by have h1:=pl a b c p q r s j;have h2:=D4 a b c p q r s j;have h3:=Nr a b c p q r s j;unfold m5 m4;generalize m3 a b c p q r=x1 at *;generalize m3 a b c p q s=x2 at *;generalize m3 a b c p q j=x3 at *;generalize m3 a b c p r s=x4 at *;generalize m3 a b c p r j=x5 at *;generalize m3 a b c p s j=x6 at *;generalize m3 a b c q r s=x7 at *;generalize m3 a b c q r j=x8 at *;generalize m3 a b c q s j=x9 at *;generalize m3 a b c r s j=y1 at *;generalize d p=d1;generalize d q=d2;generalize d r=d3;generalize d s=d4;generalize d j=d5;generalize e p=e1;generalize e q=e2;generalize e r=e3;generalize e s=e4;generalize e j=e5;grind
theorem ye:m2 b a p q = - m2 a b p q:=by unfold m2;grind
theorem Hx:m3 b a c p q r = - m3 a b c p q r:=by unfold m3 m2;grind
theorem A0:m3 a c b p q r = - m3 a b c p q r:=by unfold m3 m2;grind
theorem yf:m3 c b a p q r = - m3 a b c p q r:=by unfold m3 m2;grind
theorem Hy:m4 b a c d p q r s = - m4 a b c d p q r s:=by unfold m4 m3 m2;grind
theorem Hz:m4 a c b d p q r s = - m4 a b c d p q r s:=by unfold m4 m3 m2;grind
theorem HB:m4 c b a d p q r s = - m4 a b c d p q r s:=by unfold m4 m3 m2;grind
theorem A1:m4 a b d c p q r s = - m4 a b c d p q r s:=by unfold m4 m3 m2;grind
theorem A2:m4 a d c b p q r s = - m4 a b c d p q r s:=by unfold m4 m3 m2;grind
theorem yg:m4 d b c a p q r s = - m4 a b c d p q r s:=by unfold m4 m3 m2;grind
theorem yh:m5 b a c d e p q r s t = - m5 a b c d e p q r s t:=by unfold m5 m4 m3 m2;grind
theorem yi:m5 a c b d e p q r s t = - m5 a b c d e p q r s t:=by unfold m5 m4 m3 m2;grind
theorem yj:m5 c b a d e p q r s t = - m5 a b c d e p q r s t:=by unfold m5 m4 m3 m2;grind
theorem ym:m5 a b d c e p q r s t = - m5 a b c d e p q r s t:=by unfold m5 m4 m3 m2;grind
theorem yo:m5 a d c b e p q r s t = - m5 a b c d e p q r s t:=by unfold m5 m4 m3 m2;grind
theorem yp:m5 d b c a e p q r s t = - m5 a b c d e p q r s t:=by unfold m5 m4 m3 m2;grind
theorem HC:m5 a b c e d p q r s t = - m5 a b c d e p q r s t:=by unfold m5 m4 m3 m2;grind
theorem HD:m5 a b e d c p q r s t = - m5 a b c d e p q r s t:=by unfold m5 m4 m3 m2;grind
theorem HE:m5 a e c d b p q r s t = - m5 a b c d e p q r s t:=by unfold m5 m4 m3 m2;grind
theorem HF:m5 e b c d a p q r s t = - m5 a b c d e p q r s t:=by unfold m5 m4 m3 m2;grind
end
def M(A:Nat->R):Nat->Nat->R
 |0,i,j=>A i j|1,i,j=>m2 (A 0) (A i) 0 j|2,i,j=>m3 (A 0) (A 1) (A i) 0 1 j|3,i,j=>m4 (A 0) (A 1) (A 2) (A i) 0 1 2 j|4,i,j=>m5 (A 0) (A 1) (A 2) (A 3) (A i) 0 1 2 3 j|_,_,_=>0
def dt(A:Nat->R):Nat->Int
 |0=>1|k+1=>M A k k k
theorem Nt(A:Nat->R)(hk:k<4)(i j:Nat):M A (k+1) i j*dt A k=M A k i j*M A k k k-M A k i k*M A k k j:=by
 match k,hk with
 |0,_=>exact s0 _ _ _ _|1,_=>exact s1 _ _ _ _ _ _|2,_=>exact s2 _ _ _ _ _ _ _ _|3,_=>exact s3 _ _ _ _ _ _ _ _ _ _
theorem HG{A B:Nat->R}{i':Nat}(h:∀l,l<k->A l=B l)(hi:A i=B i'):M A k i j=M B k i' j:=by
 match k with
 |0=>show A i j=B i' j;rw[hi]|1=>show m2 _ _ _ _=m2 _ _ _ _;rw[hi,h 0<|E8]|2=>show m3 _ _ _ _ _ _=m3 _ _ _ _ _ _;rw[hi,h 0<|E8,h 1<|E8]|3=>show m4 _ _ _ _ _ _ _ _=m4 _ _ _ _ _ _ _ _;rw[hi,h 0<|E8,h 1<|E8,h 2<|E8]|4=>show m5 _ _ _ _ _ _ _ _ _ _=m5 _ _ _ _ _ _ _ _ _ _;rw[hi,h 0<|E8,h 1<|E8,h 2<|E8,h 3<|E8]|_+5=>rfl
def sw(A:Nat->R)(x y:Nat):Nat->R:=λi=>if i=x then A y else if i=y then A x else A i
theorem D7(A:Nat->R){x y:Nat}(hn:n<=5)(hxy:x<y)(hy:y<n):dt (sw A x y) n = - dt A n:=by
 match n,hn,y,hy,x,hxy with
 |1,_,0,_,x,h=>exact Qj h<|rG x
 |2,_,1,_,0,_=>exact ye _ _ _ _|3,_,1,_,0,_=>exact Hx _ _ _ _ _ _|3,_,2,_,0,_=>exact yf _ _ _ _ _ _|3,_,2,_,1,_=>exact A0 _ _ _ _ _ _|4,_,1,_,0,_=>exact Hy _ _ _ _ _ _ _ _|4,_,2,_,0,_=>exact HB _ _ _ _ _ _ _ _|4,_,2,_,1,_=>exact Hz _ _ _ _ _ _ _ _|4,_,3,_,0,_=>exact yg _ _ _ _ _ _ _ _|4,_,3,_,1,_=>exact A2 _ _ _ _ _ _ _ _|4,_,3,_,2,_=>exact A1 _ _ _ _ _ _ _ _|5,_,1,_,0,_=>exact yh _ _ _ _ _ _ _ _ _ _|5,_,2,_,0,_=>exact yj _ _ _ _ _ _ _ _ _ _|5,_,2,_,1,_=>exact yi _ _ _ _ _ _ _ _ _ _|5,_,3,_,0,_=>exact yp _ _ _ _ _ _ _ _ _ _|5,_,3,_,1,_=>exact yo _ _ _ _ _ _ _ _ _ _|5,_,3,_,2,_=>exact ym _ _ _ _ _ _ _ _ _ _|5,_,4,_,0,_=>exact HF _ _ _ _ _ _ _ _ _ _|5,_,4,_,1,_=>exact HE _ _ _ _ _ _ _ _ _ _|5,_,4,_,2,_=>exact HD _ _ _ _ _ _ _ _ _ _|5,_,4,_,3,_=>exact HC _ _ _ _ _ _ _ _ _ _
end Dt
end
section
namespace Dt
noncomputable def sumI(f:Nat->Int):Nat->Int
 |0=>0|n+1=>sumI f n+f n
theorem yr{f g:Nat->Int}:∀{n:Nat},(∀i,i<n->f i=g i)->sumI f n=sumI g n
 |0,_=>rfl|n+1,h=>by rw[sumI,sumI,yr<|λi hi=>h i<|E8,h n<|E8]
theorem A3{f:Nat->Int}:∀{n:Nat},(∀i,i<n->f i=0)->sumI f n=0
 |0,_=>rfl|n+1,h=>by rw[sumI,A3<|λi hi=>h i<|E8,h n<|E8];rfl
theorem HH(f g:Nat->Int):∀n:Nat,sumI (λi=>f i+g i) n=sumI f n+sumI g n
 |0=>rfl|n+1=>by rw[sumI,sumI,sumI,HH f g n];omega
theorem D8(f:Nat->Int)(c:Int):∀n:Nat,sumI (λi=>c*f i) n=c*sumI f n
 |0=>by simp[sumI]|n+1=>by rw[sumI,sumI,D8 f c n,Int.mul_add]
theorem HI(f:Nat->Nat->Int)(m:Nat):∀n:Nat,sumI (λi=>sumI (λj=>f i j) m) n=sumI (λj=>sumI (λi=>f i j) n) m
 |0=>by rw[sumI];exact(A3 λ_ _=>rfl).symm|n+1=>by rw[sumI,HI f m n,<-HH];rfl
theorem HJ{f:Nat->Int}{k:Nat}:∀{n:Nat},k<n->(∀i,i<n->i≠k->f i=0)->sumI f n=f k
 |0,h,_=>by omega|n+1,h,h0=>by rw[sumI];by_cases e:k=n;subst e;rw[A3<|λi hi=>h0 i E8<|E8,Int.zero_add];rw[HJ (k:=k) E8<|λi hi hk=>h0 i E8 hk,h0 n E8<|Qq e,Int.add_zero]
def sk(k i:Nat):Nat:=if i<k then i else i+1
def cut(A:Nat->R)(k j:Nat):Nat->R:=λi l=>A (sk k i)<|sk j l
def sg(n:Nat):Int:=if n%2=0 then 1 else -1
def iB(A:Nat->R)(n k j:Nat):Int:=sg (k+j)*dt (cut A k j) (n-1)
def rep(A:Nat->R)(k:Nat)(x:R):Nat->R:=λi=>if i=k then x else A i
theorem yC(A:Nat->R)(x:R)(hn:n<=5)(hk:k<n):sumI (λj=>x j*iB A n k j) n=dt (rep A k x) n:=by
 match n,hn,k,hk with
 |1,_,0,_=>show 0+x 0*(1*1)=x 0;grind|2,_,0,_=>show 0+x 0*(1*(A 1) 1)+x 1*(-1*(A 1) 0)=m2 x (A 1) 0 1;unfold m2;grind|2,_,1,_=>show 0+x 0*(-1*(A 0) 1)+x 1*(1*(A 0) 0)=m2 (A 0) x 0 1;unfold m2;grind|3,_,0,_=>show 0+x 0*(1*m2 (A 1) (A 2) 1 2)+x 1*(-1*m2 (A 1) (A 2) 0 2)+x 2*(1*m2 (A 1) (A 2) 0 1)=m3 x (A 1) (A 2) 0 1 2;unfold m3 m2;grind|3,_,1,_=>show 0+x 0*(-1*m2 (A 0) (A 2) 1 2)+x 1*(1*m2 (A 0) (A 2) 0 2)+x 2*(-1*m2 (A 0) (A 2) 0 1)=m3 (A 0) x (A 2) 0 1 2;unfold m3 m2;grind|3,_,2,_=>show 0+x 0*(1*m2 (A 0) (A 1) 1 2)+x 1*(-1*m2 (A 0) (A 1) 0 2)+x 2*(1*m2 (A 0) (A 1) 0 1)=m3 (A 0) (A 1) x 0 1 2;unfold m3 m2;grind|4,_,0,_=>show 0+x 0*(1*m3 (A 1) (A 2) (A 3) 1 2 3)+x 1*(-1*m3 (A 1) (A 2) (A 3) 0 2 3)+x 2*(1*m3 (A 1) (A 2) (A 3) 0 1 3)+x 3*(-1*m3 (A 1) (A 2) (A 3) 0 1 2)=m4 x (A 1) (A 2) (A 3) 0 1 2 3;unfold m4 m3 m2;grind|4,_,1,_=>show 0+x 0*(-1*m3 (A 0) (A 2) (A 3) 1 2 3)+x 1*(1*m3 (A 0) (A 2) (A 3) 0 2 3)+x 2*(-1*m3 (A 0) (A 2) (A 3) 0 1 3)+x 3*(1*m3 (A 0) (A 2) (A 3) 0 1 2)=m4 (A 0) x (A 2) (A 3) 0 1 2 3;unfold m4 m3 m2;grind|4,_,2,_=>show 0+x 0*(1*m3 (A 0) (A 1) (A 3) 1 2 3)+x 1*(-1*m3 (A 0) (A 1) (A 3) 0 2 3)+x 2*(1*m3 (A 0) (A 1) (A 3) 0 1 3)+x 3*(-1*m3 (A 0) (A 1) (A 3) 0 1 2)=m4 (A 0) (A 1) x (A 3) 0 1 2 3;unfold m4 m3 m2;grind|4,_,3,_=>show 0+x 0*(-1*m3 (A 0) (A 1) (A 2) 1 2 3)+x 1*(1*m3 (A 0) (A 1) (A 2) 0 2 3)+x 2*(-1*m3 (A 0) (A 1) (A 2) 0 1 3)+x 3*(1*m3 (A 0) (A 1) (A 2) 0 1 2)=m4 (A 0) (A 1) (A 2) x 0 1 2 3;unfold m4 m3 m2;grind|5,_,0,_=>show 0+x 0*(1*m4 (A 1) (A 2) (A 3) (A 4) 1 2 3 4)+x 1*(-1*m4 (A 1) (A 2) (A 3) (A 4) 0 2 3 4)+x 2*(1*m4 (A 1) (A 2) (A 3) (A 4) 0 1 3 4)+x 3*(-1*m4 (A 1) (A 2) (A 3) (A 4) 0 1 2 4)+x 4*(1*m4 (A 1) (A 2) (A 3) (A 4) 0 1 2 3)=m5 x (A 1) (A 2) (A 3) (A 4) 0 1 2 3 4;unfold m5 m4 m3 m2;grind|5,_,1,_=>show 0+x 0*(-1*m4 (A 0) (A 2) (A 3) (A 4) 1 2 3 4)+x 1*(1*m4 (A 0) (A 2) (A 3) (A 4) 0 2 3 4)+x 2*(-1*m4 (A 0) (A 2) (A 3) (A 4) 0 1 3 4)+x 3*(1*m4 (A 0) (A 2) (A 3) (A 4) 0 1 2 4)+x 4*(-1*m4 (A 0) (A 2) (A 3) (A 4) 0 1 2 3)=m5 (A 0) x (A 2) (A 3) (A 4) 0 1 2 3 4;unfold m5 m4 m3 m2;grind|5,_,2,_=>show 0+x 0*(1*m4 (A 0) (A 1) (A 3) (A 4) 1 2 3 4)+x 1*(-1*m4 (A 0) (A 1) (A 3) (A 4) 0 2 3 4)+x 2*(1*m4 (A 0) (A 1) (A 3) (A 4) 0 1 3 4)+x 3*(-1*m4 (A 0) (A 1) (A 3) (A 4) 0 1 2 4)+x 4*(1*m4 (A 0) (A 1) (A 3) (A 4) 0 1 2 3)=m5 (A 0) (A 1) x (A 3) (A 4) 0 1 2 3 4;unfold m5 m4 m3 m2;grind|5,_,3,_=>show 0+x 0*(-1*m4 (A 0) (A 1) (A 2) (A 4) 1 2 3 4)+x 1*(1*m4 (A 0) (A 1) (A 2) (A 4) 0 2 3 4)+x 2*(-1*m4 (A 0) (A 1) (A 2) (A 4) 0 1 3 4)+x 3*(1*m4 (A 0) (A 1) (A 2) (A 4) 0 1 2 4)+x 4*(-1*m4 (A 0) (A 1) (A 2) (A 4) 0 1 2 3)=m5 (A 0) (A 1) (A 2) x (A 4) 0 1 2 3 4;unfold m5 m4 m3 m2;grind|5,_,4,_=>show 0+x 0*(1*m4 (A 0) (A 1) (A 2) (A 3) 1 2 3 4)+x 1*(-1*m4 (A 0) (A 1) (A 2) (A 3) 0 2 3 4)+x 2*(1*m4 (A 0) (A 1) (A 2) (A 3) 0 1 3 4)+x 3*(-1*m4 (A 0) (A 1) (A 2) (A 3) 0 1 2 4)+x 4*(1*m4 (A 0) (A 1) (A 2) (A 3) 0 1 2 3)=m5 (A 0) (A 1) (A 2) (A 3) x 0 1 2 3 4;unfold m5 m4 m3 m2;grind
theorem Nu(A:Nat->R)(k:Nat):rep A k (A k)=A:=by funext i;unfold rep;split;rename_i h;rw[h];rfl
theorem yE(A:Nat->R)(hn:n<=5)(hi:i<n)(hk:k<n)(ne:i≠k):dt (rep A k<|A i) n=0:=by
 have e:∀x y,(x=i/\y=k)\/(x=k/\y=i)->sw (rep A k<|A i) x y=rep A k (A i):=λx y h=>by
  funext l;unfold sw rep;rcases h with⟨rfl,rfl⟩|⟨rfl,rfl⟩
  by_cases h1:l=x;subst h1;simp[ne];by_cases h2:l=y;subst h2;simp[h1,ne];simp[h1,h2];by_cases h1:l=x;subst h1;simp[ne];by_cases h2:l=y;subst h2;simp[h1];simp[h1,h2]
 rcases vU ne with h|h
 have:=D7 (rep A k<|A i) hn h hk;rw[e _ _<|.inl ⟨rfl,rfl⟩]at this;omega;have:=D7 (rep A k<|A i) hn h hi;rw[e _ _<|.inr ⟨rfl,rfl⟩]at this;omega
theorem yF(A:Nat->R)(hn:n<=5):dt (λi j=>A j i) n=dt A n:=by
 match n,hn with
 |0,_=>rfl|1,_=>rfl|2,_=>show m2 (λj=>A j 0) (λj=>A j 1) 0 1=m2 (A 0) (A 1) 0 1;unfold m2;grind|3,_=>show m3 (λj=>A j 0) (λj=>A j 1) (λj=>A j 2) 0 1 2=m3 (A 0) (A 1) (A 2) 0 1 2;unfold m3 m2;grind|4,_=>show m4 (λj=>A j 0) (λj=>A j 1) (λj=>A j 2) (λj=>A j 3) 0 1 2 3=m4 (A 0) (A 1) (A 2) (A 3) 0 1 2 3;unfold m4 m3 m2;grind|5,_=>show m5 (λj=>A j 0) (λj=>A j 1) (λj=>A j 2) (λj=>A j 3) (λj=>A j 4) 0 1 2 3 4=m5 (A 0) (A 1) (A 2) (A 3) (A 4) 0 1 2 3 4;unfold m5 m4 m3 m2;grind
theorem HX(A:Nat->R)(hn:n<=5)(hi:i<n)(hk:k<n):sumI (λj=>A i j*iB A n k j) n=if i=k then dt A n else 0:=by rw[yC A (A i) hn hk];split;rename_i h;rw[h,Nu];rename_i h;exact yE A hn hi hk h
theorem yG(A:Nat->R)(hn:n<=5)(hi:i<n)(hj:j<n):sumI (λk=>A k i*iB A n k j) n=if i=j then dt A n else 0:=by
 have:=HX (λi j=>A j i) hn hi hj;rw[yF A hn]at this;rw[<-this];refine yr λk _=>?_;unfold iB;rw[<-yF (cut A k j) (by omega),vQ];rfl
theorem Nv(A:Nat->R)(hn:n<=5){w:Nat->Int}(h:∀i,i<n->sumI (λj=>A i j*w j) n=0)(hj:j<n):dt A n*w j=0:=by
 have e:sumI (λk=>iB A n k j*sumI (λl=>A k l*w l) n) n=dt A n*w j:=by
  rw[yr (g:=λk=>sumI (λl=>iB A n k j*(A k l*w l)) n)<|λk _=>(D8 _ _ n).symm,HI];rw [yr (g:=λl=>w l*sumI (λk=>A k l*iB A n k j) n) (λl _=>by
   rw[<-D8];exact yr λk _=>by rw[rF<|w l,<-Int.mul_assoc,rF<|iB A n k j])]
  rw[HJ (k:=j) hj<|λi hi ne=>by rw[yG A hn hi hj,fz ne,vS],yG A hn hj hj,ks rfl,rF]
 rw[<-e];exact A3 λk hk=>by rw[h k hk,vS]
end Dt
end
namespace Dt
open B.C
def tA(t:K5):Nat->R:=λi j=>ga (gr t i) j
theorem yH(P:Nat->R)(ha:a<=4)(hk:k<a)(j:Nat):M P a k j=0:=by
 have z:=yE (λl c=>P l (if c<a then c else j)) (n:=a+1) (i:=k) (k:=a) E8 E8 E8 E8;rw[<-z];have h1:a=1\/a=2\/a=3\/a=4:=E8
 rcases h1 with rfl|rfl|rfl|rfl<;>rfl
def nv(P:Nat->R)(a:Nat):Nat->Int:=λj=>match a,j with|0,0=>1|1,0=>- P 0 1|1,1=>P 0 0|2,0=>m2 (P 0) (P 1) 1 2|2,1=>- m2 (P 0) (P 1) 0 2|2,2=>m2 (P 0) (P 1) 0 1|3,0=>- m3 (P 0) (P 1) (P 2) 1 2 3|3,1=>m3 (P 0) (P 1) (P 2) 0 2 3|3,2=>- m3 (P 0) (P 1) (P 2) 0 1 3|3,3=>m3 (P 0) (P 1) (P 2) 0 1 2|4,0=>m4 (P 0) (P 1) (P 2) (P 3) 1 2 3 4|4,1=>- m4 (P 0) (P 1) (P 2) (P 3) 0 2 3 4|4,2=>m4 (P 0) (P 1) (P 2) (P 3) 0 1 3 4|4,3=>- m4 (P 0) (P 1) (P 2) (P 3) 0 1 2 4|4,4=>m4 (P 0) (P 1) (P 2) (P 3) 0 1 2 3|_,_=>0
theorem Nw(P:Nat->R)(ha:a<=4)(h:a<j):nv P a j=0:=by
 match a,ha,j,h with
 |0,_,_+1,_=>rfl|1,_,_+2,_=>rfl|2,_,_+3,_=>rfl|3,_,_+4,_=>rfl|4,_,_+5,_=>rfl
theorem yI(P:Nat->R)(ha:a<=4):nv P a a=dt P a:=by
 match a,ha with
 |0,_=>rfl|1,_=>rfl|2,_=>rfl|3,_=>rfl|4,_=>rfl
theorem HY{f:Nat->Int}{m:Nat}:∀{n:Nat},m<=n->(∀j,m<=j->f j=0)->sumI f n=sumI f m
 |0,h,_=>by rw[Nat.le_zero.mp h]|n+1,h,h0=>by by_cases e:m=n+1;rw[e];rw[sumI,h0 n<|E8,Int.add_zero];exact HY E8 h0
theorem Nx(P:Nat->R)(ha:a<=4)(hn:a<n):sumI (λj=>P k j*nv P a j) n=M P a k a:=by
 rw[HY (m:=a+1) E8<|λj hj=>by rw[Nw P ha<|E8,vS]]
 match a,ha with
 |0,_=>show 0+P k 0*1=P k 0;omega|1,_=>show 0+P k 0*(- P 0 1)+P k 1*P 0 0=m2 (P 0) (P k) 0 1;unfold m2;grind|2,_=>show 0+P k 0*m2 (P 0) (P 1) 1 2+P k 1*(- m2 (P 0) (P 1) 0 2)+P k 2*m2 (P 0) (P 1) 0 1=m3 (P 0) (P 1) (P k) 0 1 2;unfold m3;grind|3,_=>show 0+P k 0*(- m3 (P 0) (P 1) (P 2) 1 2 3)+P k 1*m3 (P 0) (P 1) (P 2) 0 2 3+P k 2*(- m3 (P 0) (P 1) (P 2) 0 1 3)+P k 3*m3 (P 0) (P 1) (P 2) 0 1 2=m4 (P 0) (P 1) (P 2) (P k) 0 1 2 3;unfold m4;grind|4,_=>show 0+P k 0*m4 (P 0) (P 1) (P 2) (P 3) 1 2 3 4+P k 1*(- m4 (P 0) (P 1) (P 2) (P 3) 0 2 3 4)+P k 2*m4 (P 0) (P 1) (P 2) (P 3) 0 1 3 4+P k 3*(- m4 (P 0) (P 1) (P 2) (P 3) 0 1 2 4)+P k 4*m4 (P 0) (P 1) (P 2) (P 3) 0 1 2 3=m5 (P 0) (P 1) (P 2) (P 3) (P k) 0 1 2 3 4;unfold m5;grind
structure Br(A:Nat->R)(n a:Nat)(x:St3)(P:Nat->R):Prop where
 sm:∃b,Sm b n x.t
 l0:x.l≠0
 sgn:dt A n=x.s*dt P n
 last:x.l=dt P a
 ent:∀i,a<=i->i<n->∀j,j<n->ga (gr x.t i) j=M P a i j
 row:∀i,i<n->∃i',i'<n/\A i=P i'
theorem Ny{A B:Nat->R}(h:∀l,l<k->A l=B l):dt A k=dt B k:=by
 cases k with
 |zero=>rfl|succ k=>exact HG (λl hl=>h l<|E8)<|h k E8
theorem Ei{row here:QY}{l:Int}(hj:j<row.length):ga (fg row here a l) j=(ga row j*ga here a-ga row a*ga here j).fdiv l:=by show(fg row here a l).getD j 0=_;unfold fg;rw[aZ,cH,iX hj];rfl
theorem Br.step{A:Nat->R}{x y:St3}{P:Nat->R}(h:Br A n a x P)(hn:n<=5)(ha:a<n)(e:gO a x=some y):∃P',Br A n (a+1) y P':=by
 obtain⟨b,sm⟩:=h.sm;have xl:=sm.len;unfold gO at e;split at e;cases e;rename_i g gs eg;cases e;obtain⟨g1,g2,g3⟩:=DP sm (g:=g) (by rw[eg];simp);have w:=ya sm ha g2;have wl:=w.len;have swr:∀k,k<n->gr (bL x.t a g) k=if k=g then gr x.t a else if k=a then gr x.t g else gr x.t k:=λk hk=>by unfold bL;rw[vB (by rw[dN];omega),vB<|E8]
 refine⟨sw P a g,⟨_,AT (k:=(bL x.t a g).length) w ha h.l0⟩,?_,?_,?_,λi hi hin j hj=>?_,λi hi=>?_⟩;show ga (gr (cE (bL x.t a g) a (bL x.t a g).length x.l) a) a≠0;rw[vC<|E8,fz<|E8,AS sm ha g2];exact g3;show dt A n=x.s*(1-2*(if g=a then 0 else 1))*dt (sw P a g) n;rw[h.sgn];by_cases e:g=a;subst e;rw[ks rfl,show sw P g g=P from by funext i;unfold sw;split<;>simp_all];grind;rw[fz e,D7 P hn (by omega:a<g) g2];grind;show ga (gr (cE (bL x.t a g) a (bL x.t a g).length x.l) a) a=M (sw P a g) a a a;rw[vC<|E8,fz<|E8,AS sm ha g2,h.ent g g1 g2 a ha];exact(HG (λl hl=>by unfold sw;rw[fz<|E8,fz<|E8]) (by unfold sw;rw[ks rfl])).symm;have hai:a<i:=E8
 have hA:∀k,a<=k->k<n->∀j,j<n->ga (gr (bL x.t a g) k) j=M (sw P a g) a k j:=λk hk hkn j hj=>by
  have mv:∀k',a<=k'->k'<n->P k'=sw P a g k->M P a k' j=M (sw P a g) a k j:=λk' h1 h2 h3=>HG (λl hl=>by unfold sw;rw[fz<|E8,fz<|E8]) h3
  rw[swr k hkn];by_cases e1:k=g;subst e1;rw[ks rfl,h.ent a (bZ _) ha j hj];refine mv a (bZ _) ha ?_;unfold sw;by_cases e2:k=a;subst e2;rw[ks rfl];rw[fz e2,ks rfl];rw[fz e1];by_cases e2:k=a;subst e2;rw[ks rfl,h.ent g g1 g2 j hj];refine mv g g1 g2 ?_;unfold sw;rw[ks rfl];rw[fz e2,h.ent k hk hkn j hj];refine mv k hk hkn ?_;unfold sw;rw[fz e2,fz e1]
 show ga (gr (cE (bL x.t a g) a (bL x.t a g).length x.l) i) j=M (sw P a g) (a+1) i j;rw[vC<|E8,ks ⟨hai,E8⟩,Ei (by rw[(w.gr hin).2.1];exact hj),hA i E8 hin j hj,hA a (bZ _) ha a ha,hA i E8 hin a ha,hA a (bZ _) ha j hj,<-Nt (sw P a g) (k:=a) E8 i j];have el:dt (sw P a g) a=x.l:=by rw[h.last];exact Ny λl hl=>by unfold sw;rw[fz<|E8,fz<|E8]
 rw[el];exact Int.mul_fdiv_cancel _ h.l0;obtain⟨i',h1,h2⟩:=h.row i hi;by_cases e1:i'=a;subst e1;refine⟨g,g2,?_⟩;rw[h2];unfold sw;by_cases e2:g=i';subst e2;rw[ks rfl];rw[fz e2,ks rfl];by_cases e2:i'=g;subst e2;refine⟨a,ha,?_⟩;rw[h2];unfold sw;rw[ks rfl];refine⟨i',h1,?_⟩;rw[h2];unfold sw;rw[fz e1,fz e2]
theorem Br.run{b n:Nat}{t:K5}(h:Sm b n t)(hn:n<=5):∀{a:Nat},a<=n->∀{x:St3},dh t a=some x->∃P,Br (tA t) n a x P
 |0,_,x,e=>by cases e;exact⟨tA t,⟨b,h⟩,show(1:Int)≠0 by decide,by show _=1*_;rw[vR],rfl,λi _ _ j _=>rfl,λi hi=>⟨i,hi,rfl⟩⟩
 |a+1,ha,x,e=>by
  rw[dh]at e;cases e1:dh t a with
  |none=>rw[e1]at e;cases e
  |some y=>rw[e1]at e;obtain⟨P,hP⟩:=Br.run h hn E8 e1;exact hP.step hn E8 e
theorem HZ{t:K5}:∀{n:Nat},dh t n=none->∃a x,a<n/\dh t a=some x/\il x.t a=[]
 |0,e=>by cases e
 |n+1,e=>by
  rw[dh]at e;cases e1:dh t n with
  |none=>obtain⟨a,x,h1,h2,h3⟩:=HZ e1;exact⟨a,x,E8,h2,h3⟩
  |some x=>rw[e1]at e;refine⟨n,x,E8,e1,?_⟩;have e:gO n x=none:=e;unfold gO at e;split at e;assumption;cases e
theorem Nz(h:Sm b n t)(hn:n<=5):(f8 t=dt (tA t) n/\f8 t≠0/\∃x,dh t n=some x)\/(f8 t=0/\∃w:Nat->Int,(∃a,a<n/\w a≠0)/\∀i,i<n->sumI (λj=>tA t i j*w j) n=0):=by
 unfold f8;rw[h.len];cases e:dh t n with
 |some x=>
  obtain⟨P,hP⟩:=Br.run h hn (bZ _) e;refine .inl ⟨?_,?_,x,rfl⟩;show x.s*x.l=_;rw[hP.last,hP.sgn];show x.s*x.l≠0;refine mV ?_ hP.l0;have:∀{a:Nat} {x:St3},dh t a=some x->x.s≠0:=λ{a}=>by
   induction a with
   |zero=>intro x e;cases e;exact show(1:Int)≠0 by decide
   |succ a ih=>
    intro x e;rw[dh]at e;cases e1:dh t a with
    |none=>rw[e1]at e;cases e
    |some y=>
     rw[e1]at e;have e:gO a y=some x:=e;unfold gO at e;split at e
     .cases e
     .cases e
      exact mV (ih e1) (by split<;>decide)
  exact this e
 |none=>
  obtain⟨a,x,ha,ea,eg⟩:=HZ e;obtain⟨P,hP⟩:=Br.run h hn (gP ha) ea;obtain⟨b',sm⟩:=hP.sm;have xl:=sm.len;have z:∀k,k<n->M P a k a=0:=λk hk=>by
   by_cases hka:k<a;exact yH P E8 hka a;rw[<-hP.ent k E8 hk a ha];refine Classical.byContradiction λc=>?_;have:k∈il x.t a:=by unfold il;refine Yaf.mpr ⟨YbU.mpr ⟨k-a,Yag.mpr<|E8,E8⟩,by simpa using c⟩
   rw[eg]at this;cases this
  refine .inr ⟨rfl,nv P a,⟨a,ha,?_⟩,λi hi=>?_⟩;rw[yI P<|E8,<-hP.last];exact hP.l0;obtain⟨i',h1,h2⟩:=hP.row i hi;rw[h2,Nx P E8 ha];exact z i' h1
theorem num_dt(h:Sm b n t)(hn:n<=5):f8 t=dt (tA t) n:=by
 rcases Nz h hn with⟨e,_⟩|⟨e,w,⟨a,ha,wa⟩,hw⟩
 exact e;rw[e];rcases Int.mul_eq_zero.mp (Nv (tA t) hn hw ha) with z|z
 exact z.symm;exact Qj z wa
end Dt
def FnAt(K:Qh)(mg:QW)(x:Str)(st:Stmt):Prop:=∃f fd,Fun K x x st f fd/\mg x=some (.ref f)/\h7 K x=some f
def CC(K:Qh)(mg:QW)(x:Str):Prop:=∃a,mg x=some (.ref a)/\h7 K x=some a
def CI(mg:QW)(x:Str)(i:Int):Prop:=∃t,mg x=some (.int i t)
def CT(K:Qh)(mg:QW)(x:Str)(ds:Rc):Prop:=∃a vs,mg x=some (.ref a)/\KT K a vs/\∀W,Reps K W vs ds
section
theorem FnAt.cc(F:FnAt K mg x st):CC K mg x:=let⟨f,_,_,m,q⟩:=F;⟨f,m,q⟩
theorem mkF(X:K.In h)(G:h.Ns mainGlobals mg){oc:Value}{kV doc pm cdv ct:Value}(a:PySem.W.nsIn K mainGlobals x=some (some<|.ref f))(l:K.lookup f=some ⟨oc,od,.func<|PySem.W.fnOf x x (cK st) (bA st) (aG st) .none kV doc pm an cdv ct,osl⟩)
  (c:PySem.W.codeIn K cdv x=true) (k:PySem.W.keepIn K (.ref f)=true):FnAt K mg x st:=⟨f,_,pO l c k,PySem.W.mg_of X G a,uH a⟩
theorem mkC(X:K.In h)(G:h.Ns mainGlobals mg)(a:PySem.W.nsIn K mainGlobals x=some (some<|.ref f)):CC K mg x:=⟨f,PySem.W.mg_of X G a,uH a⟩
theorem mkI(X:K.In h)(G:h.Ns mainGlobals mg){i:Int}{t:Tok}(a:PySem.W.nsIn K mainGlobals x=some (some<|.int i t)):CI mg x i:=⟨t,PySem.W.mg_of X G a⟩
theorem mkT(X:K.In h)(G:h.Ns mainGlobals mg){d:Option Addr}{i j:Int}{t u:Tok}(a:PySem.W.nsIn K mainGlobals x=some (some<|.ref f))(l:K.lookup f=some ⟨.type "tuple",d,.seq #[.int i t,.int j u] n,sl⟩):CT K mg x [.int i,.int j]:=
 ⟨f,[.int i,.int j],PySem.W.mg_of X G a,⟨_,_,_,l,rfl,rfl,(by show 2<=sizeLine;decide),.cons ⟨_,rfl⟩<|.cons ⟨_,rfl⟩ .nil⟩,λ_=>.cons (.int _)<|.cons (.int _) .nil⟩
theorem mkX(X:K.In h)(G:h.Ns mainGlobals mg)(a:PySem.W.nsIn K mainGlobals x=some (some<|.ref f))(e:PySem.W.excIn K f [.type "ValueError",.type "Exception",.type "BaseException",.type "object"] "ValueError.__new__" = true):XC K mg x:=
 ⟨f,_,_,_,uH a,PySem.W.mg_of X G a,e,PySem.F.excBase_ValueError⟩
theorem mkH(X:K.In h)(G:h.Ns mainGlobals mg){L:Q4}(a:PySem.W.nsIn K mainGlobals x=some (some<|.ref f))(e:PySem.W.excIn K f [.type "ValueError",.type "Exception",.type "BaseException",.type "object"] "ValueError.__new__" = true)
  (m:∀n∈L,∃D,PySem.W.nsIn K mainGlobals (jH n)=some (some<|.ref D)/\PySem.W.mroIn K D (.ref f)=some true):XT K mg x L:=
 ⟨f,_,_,PySem.W.mg_of X G a,e,wp,λn hn D hD=>by
  obtain⟨D',e1,e2⟩:=m n hn;rw[uH e1]at hD;cases hD;exact e2⟩
end
section
variable{w:World}{base:Heap}{N:Q4}
universe u
theorem A4{α:Sort u}{F G:QX->α}(h:∀a,F [a]=G [a]):∀us:QX,us.length=1->F us=G us
 |[_],_=>h _
theorem A5{α:Sort u}{F G:QX->α}(h:∀a b,F [a,b]=G [a,b]):∀us:QX,us.length=2->F us=G us
 |a::t,e=>A4 (F:=λt=>F (a::t)) (G:=λt=>G (a::t)) (h a) t (Nat.succ.inj e)
theorem A6{α:Sort u}{F G:QX->α}(h:∀a b c,F [a,b,c]=G [a,b,c]):∀us:QX,us.length=3->F us=G us
 |a::t,e=>A5 (F:=λt=>F (a::t)) (G:=λt=>G (a::t)) (h a) t (Nat.succ.inj e)
theorem A7{α:Sort u}{F G:QX->α}(h:∀a b c d,F [a,b,c,d]=G [a,b,c,d]):∀us:QX,us.length=4->F us=G us
 |a::t,e=>A6 (F:=λt=>F (a::t)) (G:=λt=>G (a::t)) (h a) t (Nat.succ.inj e)
theorem vD(h:FnAt K mg x st)
  (hbody:∀ (sc:N.Nodup) (f:Addr) (cdv:Value) (A:Around) (outer:List Env) (s:Shared) (H:Hp) (E:XK),Room k (A.deeper<|envOfC x (aG st) s.heap.objs.size f cdv)->
   cF (dj P w) (c9 (dj P w) P w K mg base N x (aG st) f cdv A outer s H E) E->jG (c9 (dj P w) P w K mg base N x (aG st) f cdv A outer s H E) E->
   iy (c9 (dj P w) P w K mg base N x (aG st) f cdv A outer s H E) E (bA st) z)
  (rd:Rd S z N)
  (sc:autoParam (cG N ps (aG st)) Rm._auto_1)
  (len:autoParam (∀ds E Q,S ds E Q->ds.length=ps.length) Ro._auto_1)
  (hb:autoParam (∀ (kV doc pm:Value) (an:Option Addr) (cdv ct:Value) (us:QX),us.length=ps.length->bindArgs (PySem.W.fnOf x x (cK st) (bA st) (aG st) .none kV doc pm an cdv ct) ⟨us,[]⟩=pure (ps.zip us)) dc._auto_1)
  (mono:autoParam (qh S) Rp._auto_1):Fp P w K mg base (k+1) x ps S:=by
 obtain⟨f,fd,F,m,q⟩:=h;exact Fp.of (uk (z:=z) F sc len (λcdv A outer s H E hr hx hw=>hbody sc.nd f cdv A outer s H E hr hx hw) rd) mono m F.kp<|F.binds hb
theorem cS(rd:Rd S z N)(h:FnAt K mg x st)
  (hbody:∀ {f:Addr} {cdv:Value} {A:Around} {outer:List Env} {s:Shared} {H:Hp} {E:XK} (sc:N.Nodup),Room k (A.deeper<|envOfC x (aG st) s.heap.objs.size f cdv)->
   cF (dj P w) (c9 (dj P w) P w K mg base N x (aG st) f cdv A outer s H E) E->jG (c9 (dj P w) P w K mg base N x (aG st) f cdv A outer s H E) E->
   iy (c9 (dj P w) P w K mg base N x (aG st) f cdv A outer s H E) E (bA st) z)
  (sc:autoParam (cG N ps (aG st)) Rm._auto_1)
  (len:autoParam (∀ds E Q,S ds E Q->ds.length=ps.length) Ro._auto_1)
  (hb:autoParam (∀ (kV doc pm:Value) (an:Option Addr) (cdv ct:Value) (us:QX),us.length=ps.length->bindArgs (PySem.W.fnOf x x (cK st) (bA st) (aG st) .none kV doc pm an cdv ct) ⟨us,[]⟩=pure (ps.zip us)) dc._auto_1)
  (mono:autoParam (qh S) Rp._auto_1):Fp P w K mg base (k+1) x ps S:=by
 obtain⟨f,fd,F,m,q⟩:=h;exact Fp.of (uk (z:=z) F sc len (λcdv A outer s H E hr hx hw=>hbody sc.nd hr hx hw) rd) mono m F.kp<|F.binds hb
theorem yJ(h:FnAt K mg x st)
  (hbody:∀ (sc:N.Nodup) (f:Addr) (cdv:Value) (A:Around) (outer:List Env) (s:Shared) (H:Hp),RoomU k (A.deeper<|envOfC x (aG st) s.heap.objs.size f cdv)->
   iy (ug P w K mg base N x (aG st) f cdv A outer s H) E0 (bA st) z)
  (rd:∀ds E Q,S ds E Q->z No { nx:=λ_=>Q .non,rt:=Q } (dP N ds))
  (sc:autoParam (cG N ps (aG st)) Rm._auto_1)
  (len:autoParam (∀ds E Q,S ds E Q->ds.length=ps.length) Ro._auto_1)
  (hb:autoParam (∀ (kV doc pm:Value) (an:Option Addr) (cdv ct:Value) (us:QX),us.length=ps.length->bindArgs (PySem.W.fnOf x x (cK st) (bA st) (aG st) .none kV doc pm an cdv ct) ⟨us,[]⟩=pure (ps.zip us)) dc._auto_1)
  (mono:autoParam (qh S) Rp._auto_1):AE P w K mg base (k+1) x ps S:=by
 obtain⟨f,fd,F,m,q⟩:=h;exact⟨⟨f,fd,Du (z:=z) F sc len (λcdv A outer s H hr=>hbody sc.nd f cdv A outer s H hr) rd,m,F.kp,F.binds hb⟩,mono⟩
theorem NA{l:PySem.W.OpenLaw}(h:FnAt K mg x st)(hfa:mg x=some (.ref fa))
  (hbody:∀ (base:Heap) (sc:N.Nodup) (f:Addr) (cdv:Value) (A:Around) (outer:List Env) (s:Shared) (H:Hp) (E:XK),Room k (A.deeper<|envOfC x (aG st) s.heap.objs.size f cdv)->
   cF (dj l.prog w) (c9 (dj l.prog w) l.prog w K mg base N x (aG st) f cdv A outer s H E) E->jG (c9 (dj l.prog w) l.prog w K mg base N x (aG st) f cdv A outer s H E) E->
   iy (c9 (dj l.prog w) l.prog w K mg base N x (aG st) f cdv A outer s H E) E (bA st) z)
  (rd:Rd S z N)
  (sc:autoParam (cG N ["_law_script"] (aG st)) Rm._auto_1)
  (len:∀ds E Q,S ds E Q->ds.length=1:=by exact fnS.len (ps:=["_law_script"]) λ_=>rfl)
  (hb:∀(kV doc pm:Value) (an:Option Addr) (cdv ct:Value) (s:Shared) (v:Value),BindsTo s (PySem.W.fnOf x x (cK st) (bA st) (aG st) .none kV doc pm an cdv ct) ⟨[v],[]⟩ [("_law_script",v)]:=by exact λ_ _ _ _ _ _ _ _=>.of_eq rfl) :
  ∃fd:FuncData,(∀(s:Shared) (v:Value),BindsTo s fd ⟨[v],[]⟩ [("_law_script",v)])/\∀base:Heap,K.In base->base.Ns mainGlobals mg->eD l.prog w K mg base (dj l.prog w) (k+1) fa fd ["_law_script"] (h9 K S):=by
 obtain⟨f,fd,F,m,q⟩:=h;rw[m]at hfa;cases hfa;refine⟨fd,?_,λbase _ _=>uk (z:=z) F sc len (λcdv A outer s H E hr hx hw=>hbody base sc.nd _ cdv A outer s H E hr hx hw) rd⟩;obtain⟨_,_,_,_,_,_,_,_,_,rfl,_⟩:=F.ex;exact hb _ _ _ _ _ _
end
section
variable{l:List (Str×bV)}
theorem Zb(h:CC X.K X.mg x)(hg:{Gl X x})(hd:(Q7 x:)):PX X EX (.Name x pos) (wC<|.cls x):=let⟨_,m,q⟩:=h;L4 m q hg hd
theorem Ej{i:Int}(h:CI X.mg x i)(hg:{Gl X x})(hd:(Q7 x:)):PX X EX (.Name x pos) (wC<|.int i):=let⟨_,m⟩:=h;Ly m hg hd
theorem p7(h:CT X.K X.mg x ds)(hg:{Gl X x})(hd:(Q7 x:)):PX X EX (.Name x pos) (wC<|.tup ds):=let⟨_,_,m,k,r⟩:=h;Lz m k r hg hd
end
section
variable{n m:Str}{D C:Addr}{M:Q4}
theorem exD(a:PySem.W.nsIn K mainGlobals n=some (some<|.ref D))(b:PySem.W.mroIn K D (.ref f)=some true):∃D,PySem.W.nsIn K mainGlobals n=some (some<|.ref D)/\PySem.W.mroIn K D (.ref f)=some true:=⟨D,a,b⟩
theorem exX(a:PySem.W.nsIn K mainGlobals n=some (some<|.ref D))(c:iJ K D)(k:PySem.W.kitOne K (.ref D) (.type "ValueError")=some true)(h:∀m∈M,∃C,h7 K m=some C/\PySem.W.kitOne K (.ref D) (.ref C)=some (n==m)) :
  ∃D,h7 K n=some D/\iJ K D/\PySem.W.kitOne K (.ref D) (.type "ValueError")=some true/\∀m∈M,∃C,h7 K m=some C/\PySem.W.kitOne K (.ref D) (.ref C)=some (n==m):=⟨D,uH a,c,k,h⟩
theorem exC(a:PySem.W.nsIn K mainGlobals m=some (some<|.ref C))(b:PySem.W.kitOne K (.ref D) (.ref C)=some (n==m)):∃C,h7 K m=some C/\PySem.W.kitOne K (.ref D) (.ref C)=some (n==m):=⟨C,uH a,b⟩
end
theorem Ext.none{W W':Wd}{H H':Hp}{a:Addr}(x:Ext W H W' H')(h:H' a=none):H a=none:=by
 cases e:H a with
 |none=>rfl|some o=>by_cases p:W.Pn a;obtain⟨po,_⟩:=x.ok.p a (x.p a p);unfold Zo4 at po;rw[h]at po;simp at po;rw[x.h a o e p]at h;cases h
abbrev jm:=Rc->(Rb)->(Rc->Prop)->Prop
variable{Ss:List (Str×jm)}
abbrev jL:=(Rb)->(Rc->Prop)->cV->Prop
def uU(S:jm):Prop:=∀ds E E' Q Q',(∀ex,E ex->E' ex)->(∀d,Q d->Q' d)->S ds E Q->S ds E' Q'
def p8(K:Qh)(W:Wd)(H:Hp)(Q:VK)(rs:Rc):Prop:=∀a vs W' H',Ext W H W' H'->H' a=some (.lst vs)->W'.G a=none->¬W'.Pn a->H a=none->Reps K W' vs rs->Q (.ref a) H'
structure qt(X:Cx)(EX:XK)(sts:List Stmt)(z:jL):Prop where
 t:∃t,lX X sts t/\∀W0 H0 F W σ H ρ E Dn (QL:Rc->Prop),SOk X.K W0 H0 W σ H ρ->Wle F W->jN X.K W0 H0 E EX->(∀rs,QL rs->p8 X.K W0 H0 Dn.rt rs)->z E QL ρ->t Dn σ H
 mono:∀E ρ Q Q',(∀ds,Q ds->Q' ds)->z E Q ρ->z E Q' ρ
section
variable{rest:List Stmt}
def ls(w:WA):jL:=λE QL ρ=>w E ρ QL
theorem Ek{w:WA}(he:PXL X EX e w):qt X EX [.Return (some e) pos] (ls w):=by obtain⟨t,p,k⟩:=he.t;refine⟨⟨_,eX<|kN p,λW0 H0 F W σ H ρ E Dn QL s fl eo no h=>?_⟩,λE ρ Q Q' hq z=>he.mono _ _ _ _ hq z⟩;exact k W0 H0 W σ H ρ E _ s eo<|he.mono _ _ _ _ (λds hds a vs W' H' x1 h1 g1 g2 hn rr=>no ds hds a vs W' H' (s.ext.trans x1) h1 g1 g2 (s.ext.none hn) rr) h
def lu(z:WS)(z':jL):jL:=λE QL ρ=>z E { nx:=z' E QL,rt:=λ_=>False } ρ
theorem yK{z':jL}(h1:PZ X EX st z)(h2:qt X EX rest z'):qt X EX (st::rest) (lu z z'):=by obtain⟨t1,p1,k1⟩:=h1.t;obtain⟨t2,p2,k2⟩:=h2.t;refine⟨⟨_,jX p1 p2,λW0 H0 F W σ H ρ E Dn QL s fl eo no h=>?_⟩,λE ρ Q Q' hq hz=>h1.mono E ρ { nx:=z' E Q,rt:=λ_=>False } { nx:=z' E Q',rt:=λ_=>False } ⟨λρ' h'=>h2.mono _ _ _ _ hq h',λ_ q=>q,λ_ q=>q,λ_ q=>q⟩ hz⟩;exact k1 W0 H0 F W σ H ρ E _ { nx:=z' E QL,rt:=λ_=>False } s fl eo ⟨λW1 σ1 H1 ρ1 s1 f1 hn=>k2 W0 H0 F W1 σ1 H1 ρ1 E Dn QL s1 f1 eo no hn,λ_ _ _ _ _ _ q=>q.elim,λ_ _ _ _ _ _ q=>q.elim,λ_ _ _ _ _ _ q=>q.elim⟩ h
end
def Ia(K:Qh)(S:jm):Sp:=λvs H Q EX=>∃ds W,WOk W H/\Reps K W vs ds/\S ds (λex=>∀W' H' cls dx,Ext W H W' H'->vn K W' H' cls dx ex->EX cls dx H') (p8 K W H Q)
structure sD(P:Program)(w:World)(K:Qh)(mg:QW)(base:Heap)(k:Nat)(x:Str)(ps:Q4)(S:jm):Prop where
 ok:∃f fd,eD P w K mg base (dj P w) k f fd ps (Ia K S)/\mg x=some (.ref f)/\PySem.W.keepIn K (.ref f)=true/\Binds K fd ps []
 mono:uU S
section
variable{t:WA}{S:jm}
def aF(S:jm)(t:WA):WA:=λE ρ Q=>t E ρ λds=>S ds E Q
theorem Ib(G:sD X.prog X.w X.K X.mg X.base k x ps S)(hr:Room j X.A)(hx:cF (dj X.prog X.w) X EX)(ha:jb X EX (e::es) t)(hk:(k<=j:))(hg:{Gl X x})(hdb:(Q7 x:))(he:{Q9 X e es})(hpl:{Ra X pos es}) :
  PXL X EX (.Call (.Name x p) (e::es) [] pos) (aF S t):=by
 obtain⟨f,fd,F,hm,kp,hb⟩:=G.ok;have hS:=G.mono;obtain⟨ta,pa,ka⟩:=ha.t;refine⟨⟨_,lH F (hr.mono hk) hg hm kp hb .nil hx pa hdb he hpl,λW0 H0 W σ H ρ E Q s eo h=>?_⟩,λE ρ P P' hp z=>ha.mono _ _ _ _ (λds hds=>hS _ _ _ _ _ (λ_ q=>q) hp hds) z⟩;refine ka W0 H0 W σ H ρ E _ s eo<|ha.mono _ _ _ _ (λds hds vs W1 H1 x1 r1=>?_) h;refine⟨ds,W1,x1.ok,by rw[oS];exact r1,hS _ _ _ _ _ (λex hex W' H' cls dx x' r'=>?_) (λrs hrs a vs' W' H' x' h1 g1 g2 hn rr=>hrs a vs' W' H' (x1.trans x') h1 g1 g2 (x1.none hn) rr) hds⟩;exact eo ex W' H' cls dx hex (s.ext.trans<|x1.trans x') r'
end
section
variable{w:World}{base:Heap}{N:Q4}{S:jm}{z:jL}
theorem El{N:Q4}{S:jm}{z:jL}(F:Fun K x qual st f fd)(sc:cG N ps (aG st))(len:∀ds E Q,S ds E Q->ds.length=ps.length)
  (hbody:∀ (cdv:Value) (A:Around) (outer:List Env) (s:Shared) (H:Hp) (E:XK),Room k (A.deeper<|envOfC qual (aG st) s.heap.objs.size f cdv)->
   cF (dj P w) (c9 (dj P w) P w K mg base N qual (aG st) f cdv A outer s H E) E->jG (c9 (dj P w) P w K mg base N qual (aG st) f cdv A outer s H E) E->
   qt (c9 (dj P w) P w K mg base N qual (aG st) f cdv A outer s H E) E (bA st) z)
  (h:∀ds E Q,S ds E Q->z E Q (dP N ds)):eD P w K mg base (dj P w) (k+1) f fd ps (Ia K S):=by
 obtain⟨oc,od,kV,doc,pm,an,cdv,ct,osl,rfl,lk,hcd⟩:=F.ex;refine pH lk hcd sc (λvs H Q E hs=>?_) λA outer s H vs Q E hr hs=>?_
 .obtain⟨ds,W,_,r,hS⟩:=hs
  rw[r.length];exact len _ _ _ hS
 .obtain⟨ds,W,ok,r,hS⟩:=hs
  obtain⟨t,p,k⟩:=(hbody cdv A outer s H E hr FD FE).t;refine⟨t,p,k W H W W (start N vs) H (dP N ds) (λex=>∀W' H' cls dx,Ext W H W' H'->vn K W' H' cls dx ex->E cls dx H') _ (p8 K W H Q) (Dd ok r) (.refl W) (λex W' H' cls dx he x r=>he W' H' cls dx x r) (λrs hrs=>hrs)<|h ds _ _ hS⟩
theorem rj(h:FnAt K mg x st)
  (hbody:∀ (sc:N.Nodup) (f:Addr) (cdv:Value) (A:Around) (outer:List Env) (s:Shared) (H:Hp) (E:XK),Room k (A.deeper<|envOfC x (aG st) s.heap.objs.size f cdv)->
   cF (dj P w) (c9 (dj P w) P w K mg base N x (aG st) f cdv A outer s H E) E->jG (c9 (dj P w) P w K mg base N x (aG st) f cdv A outer s H E) E->
   qt (c9 (dj P w) P w K mg base N x (aG st) f cdv A outer s H E) E (bA st) z)
  (rd:∀ds E Q,S ds E Q->z E Q (dP N ds)) (len:∀ds E Q,S ds E Q->ds.length=ps.length) (mono:uU S)
  (sc:autoParam (cG N ps (aG st)) Rm._auto_1)
  (hb:autoParam (∀ (kV doc pm:Value) (an:Option Addr) (cdv ct:Value) (us:QX),us.length=ps.length->bindArgs (PySem.W.fnOf x x (cK st) (bA st) (aG st) .none kV doc pm an cdv ct) ⟨us,[]⟩=pure (ps.zip us)) dc._auto_1):sD P w K mg base (k+1) x ps S:=by
 obtain⟨f,fd,F,m,q⟩:=h;exact⟨⟨f,fd,El (z:=z) F sc len (λcdv A outer s H E hr hx hw=>hbody sc.nd f cdv A outer s H E hr hx hw) rd,m,F.kp,F.binds hb⟩,mono⟩
end
section
def p9(i:Nat)(w:WE):WS:=λE N ρ=>match ρ[i]? with
 |some (.d<|.int c)=>w E ρ<|isI λd=>N.nx (ρ.set i<|.d<|.int<|c+d)
 |_=>False
theorem vE(i:Nat)(he:PX X EX e w)(hN:X.N.Nodup)(hi:{X.N[i]? = some x})(hx:autoParam (lC X.env.scope x) Rl._auto_1)
  (hf:autoParam (Q8 X x) Ri._auto_1):PZ X EX (.AugAssign (.Name x pos') .Add e pos) (p9 i w):=by
 obtain⟨t,p,k⟩:=he.t;refine⟨⟨_,tP hN hi hx p tQ hf,λW0 H0 F W σ H ρ E Dn N s fl eo no h=>?_⟩,λE ρ N N' hl q=>?_⟩
 .unfold p9 at h
  split at h
  .rename_i c ec
   obtain⟨v,e1,r⟩:=s.d i _ ec;cases r;refine⟨_,e1,k W0 H0 W σ H ρ E _ s eo<|he.mono _ _ _ _ (λd hd v W1 H1 x1 r1=>?_) h⟩;obtain⟨dn,rfl,hn⟩:=qV hd;cases r1;exact⟨c,dn,rfl,rfl,no.nx W1 _ H1 _ ((s.step x1).set<|.int _) (fl.ext x1) hn⟩
  .exact h.elim
 .unfold p9 at q ⊢
  split at q
  .exact he.mono _ _ _ _ (λd hd=>isI.mono (λn hn=>hl.nx _ hn) _ hd) q
  .exact q.elim
end
section
variable{t:WA}
def mK(Ss:List (Str×jm))(wc:WE)(t:WA):WA:=λE ρ Q=>wc E ρ λd=>∃x∈Ss,d=.cls x.1/\t E ρ λds=>x.2 ds E Q
def uV(X:Cx)(j:Nat)(x:Str×jm):Prop:=∃a k ps,X.mg x.1=some (.ref a)/\h7 X.K x.1=some a/\k<=j/\sD X.prog X.w X.K X.mg X.base k x.1 ps x.2
theorem Ic(hr:Room j X.A)(hx:cF (dj X.prog X.w) X EX)(hG:∀x∈Ss,uV X j x)(hc:PX X EX c wc)(ha:jb X EX (e::es) t)
  (hcall:{eval (.Call c (e::es) [] pos) X.env=(do callWith pos (<-eval c X.env) [] (backTo pos<|starEach (e::es) X.env) (backToKw pos<|keywordEach [] X.env))})
  (he:{Q9 X e es}) (hpl:{Ra X pos es}) :
  PXL X EX (.Call c (e::es) [] pos) (mK Ss wc t):=by
 obtain⟨tc,pc,kc⟩:=hc.t;obtain⟨ta,pa,ka⟩:=ha.t;refine⟨⟨_,KR hx pc pa hcall he hpl,λW0 H0 W σ H ρ E Q s eo h=>?_⟩,λE ρ P P' hp z=>hc.mono _ _ _ _ (λd ⟨x,hm,ed,q⟩=>⟨x,hm,ed,ha.mono _ _ _ _ (λds hds=>?_) q⟩) z⟩
 .refine kc W0 H0 W σ H ρ E _ s eo (hc.mono _ _ _ _ (λd ⟨x,hm,ed,q⟩ v W1 H1 x1 r1=>?_) h)
  subst ed;obtain⟨a,k,ps,hma,hca,hk,⟨f,fd,F,hmf,kp,hb⟩,mono⟩:=hG x hm;cases r1 with
  |cls ec=>
   rw[hca]at ec;cases ec;rw[hma]at hmf;cases hmf;refine⟨_,k,fd,ps,_,rfl,F,hr.mono hk,kp,hb,ka W0 H0 W1 σ H1 ρ E _ (s.step x1) eo<|ha.mono _ _ _ _ (λds hds vs W2 H2 x2 r2=>?_) q⟩;have xx:=x1.trans x2;refine⟨ds,W2,x2.ok,r2,mono _ _ _ _ _ (λex hex W' H' cls dx x' r'=>?_) (λrs hrs b vs' W' H' x' h1 g1 g2 hn rr=>hrs b vs' W' H' (xx.trans x') h1 g1 g2 (xx.none hn) rr) hds⟩;exact eo ex W' H' cls dx hex (s.ext.trans<|xx.trans x') r'
 .obtain⟨a,k,ps,_,_,_,G⟩:=hG x hm
  exact G.mono _ _ _ _ _ (λ_ q=>q) hp hds
theorem Id:∀x∈([]:List (Str×jm)),uV X j x:=λ_ h=>nomatch h
theorem NB{a:Str×jm}{l:List (Str×jm)}(h:uV X j a)(t:∀x∈l,uV X j x):∀x∈a::l,uV X j x:=λx hx=>(Yan.mp hx).elim (λe=>e▸h)<|t x
def uW(zb:jL):jL:=λ_ QL ρ=>zb No QL ρ
theorem NC{n cx:Str}{zb:jL}{hpos:Pos}
  (hb:∀xe E1 EX',cF (dj X.prog X.w) (X.tr xe E1) EX'->qt (X.tr xe E1) EX' body zb):qt X EX [.Try body [.ExceptHandler (some<|.Name cx np) (some n) suite hpos] [] [] pos] (uW zb):=by
 have hbm:=(hb (λ_ _=>False) [] E0 cU).mono;refine⟨⟨_,eX (t:=λD σ H=>∃W0 H0 F W ρ QL,SOk X.K W0 H0 W σ H ρ/\Wle F W/\(∀rs,QL rs->p8 X.K W0 H0 D.rt rs)/\zb No QL ρ) ?_,λW0 H0 F W σ H ρ E Dn QL s fl eo no h=>⟨W0,H0,F,W,ρ,QL,s,fl,no,h⟩⟩,λE ρ Q Q' hq z=>hbm _ _ _ _ hq z⟩;rintro E1 s σ H D I ⟨W0,H0,F,W,ρ,QL,so,fl,no,hz⟩;obtain⟨tb,pb,kb⟩:=(hb (λ_ _=>False) E1 E0 cU).t;refine wpAny_Try_except<|Qv (pb [] s σ H D I.tr<|kb W0 H0 F W σ H ρ No D QL so fl (λex W' H' cls dx he x r=>he.elim) no hz) (λf s1 q=>?_) λe s1 q=>q.elim;cases f with
 |next=>exact QJ q.untr|brk=>exact q.untr|cont=>exact q.untr|ret u=>exact q.untr
end
section
end
section
variable{a b:Expr}
end
namespace B.C.Q0
abbrev Pr:=Rat×QZ
def gh(p:Pr):D:=.tup [aU p.1,aH p.2]
def e7(ps:List Pr):D:=.lst<|ps.map gh
structure Pq(b n:Nat)(p:Pr):Prop where
 l:p.2.length=n
 w:Sz b p.1
 r:∀y∈p.2,Sz b y
def fH(n:Int):D->Bool
 |.tup [w,r]=>de w&&(!decide (uD w=0))&&gW n r|_=>false
def Ie(n:Int):D->Bool
 |.lst xs=>decide (xs.length<=10)&&xs.all (fH n)|_=>false
def En:D->Pr
 |.tup [w,r]=>(uD w,rQ r)|_=>(0,[])
def sqs:D->List Pr
 |.lst xs=>xs.map En|_=>[]
def gs:List Pr->Nat->Nat->Rat
 |[],_,_=>0|p::ps,i,j=>p.1*(p.2.getD i 0*p.2.getD j 0)+gs ps i j
def tT(s:QY)(n i j:Nat):Int:=ga (gr (tbl s n) i) j
def sE(s:QY)(n:Nat)(ps:List Pr):Prop:=∀i,i<n->∀j,j<n->gs ps i j=(tT s n i j:Rat)
instance(s:QY)(n:Nat)(ps:List Pr):Decidable (sE s n ps):=by unfold sE;infer_instance
def vF(s:QY)(n:Nat)(x:D):Bool:=Ie n x&&decide (sE s n<|sqs x)
noncomputable def ku(t:K5)(k:Nat):K5:=(t.take k).map (·.take k)
def Stg(s:QY)(n m:Nat):Prop:=∀k,k<m->f8 (ku (tbl s n)<|k+1)≠0
def A8(b k:Nat):Prop:=7+(3*b+1)*k+3*b<8990
def rk(b:Nat)(x:D):Prop:=∀xs,x=.lst xs->xs.length<=10->A8 b xs.length
def A9:bV:=rlS (λ_:Unit=>[.pen]) (λ_=>True) λ_ d=>∃s n,IsSl s n/\s.reverse=s/\d=aT s
def uX:bV:=fnS (λx:(Nat×SL)×D=>[bC x.1.2.1 x.1.2.2,x.2]) (λx=>IsSl x.1.2.1 x.1.2.2/\x.1.2.1.reverse=x.1.2.1/\kd x.2=true/\jK x.1.1 x.2=true/\rk x.1.1 x.2) λx=>.bl<|vF x.1.2.1 x.1.2.2 x.2
def yL:bV:=rlS (λx:SL=>[bC x.1 x.2]) (λx=>IsSl x.1 x.2) λx d=>∃m:Nat,d=.int m/\m<=x.2/\Stg x.1 x.2 m/\(m<x.2->f8 (ku (tbl x.1 x.2)<|m+1)=0)
section
variable{E:Rb}{x:D}{c:Nat}{i:Int}{t:QZ}{ps:List Pr}
theorem NE(q:∀s n,IsSl s n->s.reverse=s->Q (aT s)):A9 [.pen] E Q:=⟨(),rfl,trivial,λd ⟨s,n,h,h1,e⟩=>by rw[e];exact q s n h h1⟩
theorem Ig(h:IsSl s n)(h0:s.reverse=s)(h1:kd x=true)(h2:jK b x=true)(h3:rk b x)(q:Q (.bl<|vF s n x)):uX [bC s n,x] E Q:=⟨((b,s,n),x),rfl,⟨h,h0,h1,h2,h3⟩,q⟩
theorem Ih(h:IsSl s n)(q:∀m:Nat,m<=n->Stg s n m->(m<n->f8 (ku (tbl s n)<|m+1)=0)->Q (.int m)):yL [bC s n] E Q:=⟨(s,n),rfl,h,λd ⟨m,e,h1,h2,h3⟩=>by rw[e];exact q m h1 h2 h3⟩
end
abbrev Zfr:Q4:=["_law_pen", "_law_found", "_law_size"]
def Ii:WS:=(aL (aR 1<|wF xW<|aC (wN 0) aA)<|aL (aR 2<|w2 iO (w2 gAdd (wB bQ<|aC (wN 1) aA)<|wC<|.int<|1)<|wC<|.int<|2)<|aL (cR (wT<|w2 (gEq false) (wF pW<|aC (wN 0)<|aC (wC<|.int<|4) aA)<|wC<|.int<|0) (aR 1<|w2 gAdd (cL (wN 1) fq<|eh<|w2 jf (wN 2)<|wC<|.int<|1)<|bD<|aC (wC<|.int<|50) aA) cW)<|aN<|w2 gAdd (cL (wN 1) fq<|eh<|wN 2)<|w1 gRev<|cL (wN 1) fq<|eh<|w2 jf (wN 2)<|wC<|.int<|1)
abbrev ZdD:Q4:=["_law_table", "_law_thing", "_law_one", "_law_i", "_law_j", "_law_parts"]
def Ij:WS:=(aL (cR (dZ (bK<|wT<|wB gIs<|aC (wN 1)<|aC (wC<|.ty "list") aA)<|wT<|w2 pV (wB bQ<|aC (wN 1) aA)<|wC<|.int<|10) (aN<|wC<|D.bl false) cW)<|aL (bE<|bF (iS<|wN 1) (gN 2)<|aL (cR (dZ (bK<|wT<|wB gIs<|aC (wN 2)<|aC (wC<|.ty "tuple") aA)<|dZ (wT<|w2 (gEq true) (wB bQ<|aC (wN 2) aA)<|wC<|.int<|2)<|dZ (bK<|wT<|wF uL<|aC (w2 gIx (wN 2)<|wC<|.int<|0) aA)<|wT<|w2 (gEq false) (w2 gIx (wN 2)<|wC<|.int<|0)<|bD<|aC (wC<|.int<|0)<|aC (wC<|.int<|1) aA) (aN<|wC<|D.bl false) cW)<|cR (bK<|wT<|wF AQ<|aC (w2 gIx (wN 2)<|wC<|.int<|1)<|aC (wB bQ<|aC (wN 0) aA) aA) (aN<|wC<|D.bl false) cW)<|bM 5<|aL (bE<|bF (fD<|aC (wB bQ<|aC (wN 0) aA) aA) (gN 3)<|bM 5<|bE<|bF (fD<|aC (w2 gAdd (wN 3)<|wC<|.int<|1) aA) (gN 4)<|aL (bX 5<|aLC (iS<|wN 1) 2 [3,4] (ez 2<|c7 (gN 0)<|c7 (gN 1) et) cX<|wF sB<|aC (wL<|bP<|aC (w2 gIx (wN 1)<|wN 2) aA)<|aC (wL<|bP<|aC (w2 gIx (wN 1)<|wN 3) aA) aA)<|bM 5<|cR (wT<|w2 (gEq true) (wF sB<|aC (wL<|aLC (iS<|wN 1) 2 [] (ez 2<|c7 (gN 0)<|c7 (gN 1) et) cX<|wN 0)<|aC (wN 5) aA)<|bD<|aC (w2 gIx (w2 gIx (wN 0)<|wN 3)<|wN 4)<|aC (wC<|.int<|1) aA) (aN<|wC<|D.bl false) cW)<|aN<|wC<|D.bl true)
abbrev ZeG:Q4:=["_law_table", "_law_many"]
def Ik:WS:=(aL (aR 1<|wC<|.int<|0)<|aL (bE<|uo (e8 (wT<|w2 mz (wN 1)<|wB bQ<|aC (wN 0) aA)<|wT<|w2 (gEq true) (wF DR<|aC (wL<|aLC (iS<|cL (wN 0) fq<|eh<|w2 gAdd (wN 1)<|wC<|.int<|1) 1 [1] (gN 0) cX<|cL (wN 0) fq<|eh<|w2 gAdd (wN 1)<|wC<|.int<|1) aA)<|wC<|.int<|0)<|aR 1<|w2 gAdd (wN 1)<|wC<|.int<|1)<|aN<|wN 1)
theorem NF(q:Rat):k6 (aU q) (.tup [.int 0,.int 1])=decide (q=0):=by rw[<-Hh,DN]
def en(R:K4)(i j:Nat):Rat:=(R.getD i []).getD j 0
theorem NG{x:D}(h:fH n x=true):∃p:Pr,x=gh p/\p.2.length=n/\p.1≠0:=by unfold fH at h;split at h;rename_i w r;rw[dX,dX]at h;obtain⟨p,rfl⟩:=Dr h.1.1;obtain⟨t,rfl,ht⟩:=AD h.2;exact⟨(p,t),rfl,by exact_mod_cast ht,by simpa[uG] using h.1.2⟩;cases h
theorem NH(p:Pr):En (gh p)=p:=by show(uD<|aU p.1,rQ<|aH p.2)=p;rw[uG,re]
theorem Il{n:Nat}:∀{xs:Rc},xs.all (fH n)=true->∃ps:List Pr,xs=ps.map gh/\∀p∈ps,p.2.length=n/\p.1≠0
 |[],_=>⟨[],rfl,λ_ h=>nomatch h⟩|x::r,h=>by rw[sS,dX]at h;obtain⟨p,rfl,hp⟩:=NG h.1;obtain⟨ps,rfl,hps⟩:=Il h.2;exact⟨p::ps,rfl,λq hq=>by rcases Yan.mp hq with rfl|hq;exact hp;exact hps q hq⟩
theorem Im(ps:List Pr):sqs (e7 ps)=ps:=by show(ps.map gh).map En=ps;rw[dG];exact(jo λp _=>NH p).trans (zV _)
theorem yM{ps:List Pr}(h:jK b (e7 ps)=true)(hn:∀p∈ps,p.2.length=n):∀p∈ps,Pq b n p:=λp hp=>by unfold e7 at h;rw[jK,AM]at h;have:=h _<|o1 hp;unfold gh at this;rw[jK,fG,fG,fG,dX,dX,Zjq,Zdq]at this;exact⟨hn p hp,this.1,this.2.1⟩
theorem NI:Rd A9 Ii Zfr:=by
 rintro _ E Q ⟨_,rfl,_,q⟩;have fin:∀ (s:QY) (n:Nat),s.length=n->1<=n->n<=5->(∀ x∈s,-50<=x/\x<=50)->Q (D.tup<|(s.map D.int)++((s.take<|n - 1).map D.int).reverse):=λs n h1 h2 h3 h4=>q _ ⟨s++(s.take<|n - 1).reverse,n,⟨by simp;omega,h2,h3,λx hx=>by
  rcases Yao.mp hx with hx|hx
  .exact h4 x hx
  .exact h4 x<|mT<|Ycu.mp hx⟩,by
   rw[List.reverse_append,List.reverse_reverse];have:s=s.take (n-1)++s.drop (n-1):=(List.take_append_drop _ _).symm;have hd:∃a,s.drop (n-1)=[a]:=List.length_eq_one_iff.mp (by rw[lx];omega);obtain⟨a,ha⟩:=hd;rw[ha]at this;have t:s.take (n-1)=(s.take (n-1)++[a]).take (n-1):=by rw[<-this]
   generalize s.take (n-1)=u at *;subst this;simp,by unfold aT;rw[ky,sZ]⟩
 unfold Ii;walk_at "n";refine G5 λs n h=>?_;have h1:=h.n1;have h5:=h.n5;have hsl:=h.len;have hb:=h.b;unfold aT;walk_at "n";refine⟨⟨F4,lg (n:=2) F4<|E8⟩,?_⟩;rw[bH,B5 _<|F4,show((s.length:Int)+1)/2=n by omega];have c1:∀{l:QY},cJ (l.map D.int) none (some (n:Int))=(l.take n).map D.int:=λ{l}=>by rw[qq rfl,lV]
 have c2:∀{l:QY},cJ (l.map D.int) none (some<|(n:Int)-1)=(l.take<|n-1).map D.int:=λ{l}=>by rw[qq (b:=n-1)<|E8,lV]
 refine uI (λρ=>∃l:QY,ρ=[.d .pen,.d<|.tup<|l.map .int,.d<|.int n]/\n<=l.length/\l.length<=10/\∀x∈l,-50<=x/\x<=50) (λnx hnx=>?_) ?_;ext;refine su (n:=4) F4 F4 λk hk=>?_;ext;split;rw[c2];refine⟨F4,ji (by simp;omega),?_⟩;exact hnx _ ⟨s.take (n - 1)++[50],KE,by simp;omega,by simp;omega,λx hx=>by
  rcases Yao.mp hx with hx|hx
  .exact hb x (mT hx)
  .rw[YcT.mp hx];decide⟩
 exact hnx _ ⟨s,rfl,E8,E8,hb⟩;rintro _ ⟨l,rfl,hl1,hl2,hlb⟩;ext;rw[c1,c2];refine MK (ji (by simp;omega)) ?_;have:=fin (l.take n) n (by simp;omega) h1 h5 λx hx=>hlb x<|mT hx;rw[List.take_take,sX<|E8]at this;exact this
end B.C.Q0
namespace B.C.Q0
theorem NJ{E:Rb}(e:ρ[i]? = some (.ow xs))(hl:xs.length<aO)(e2:ρ.set i (.ow<|xs++[d])=ρ')(hw:∀P:D->Prop,P d->w E ρ P)(h:N.nx ρ'):da i w E N ρ:=by unfold da;rw[e];exact hw _ ⟨hl,by rw[e2];exact h⟩
theorem NK{wi:WE}{E:Rb}(e:ρ[i]? = some (.ow xs))(hk:k<xs.length)(e2:ρ.set i (.ow<|xs.set k d)=ρ')(hv:∀P:D->Prop,P d->wv E ρ P)(hi:∀P:D->Prop,P (.int k)->wi E ρ P)(h:N.nx ρ'):gI i wi wv E N ρ:=by unfold gI;rw[e];exact hv _<|hi _ ⟨k,B.C.ixN_nat hk,by rw[e2];exact h⟩
end B.C.Q0
namespace B.C.Q0
theorem Io{g:G2}{E:Rb}{x:D}{b:Bool}(ha:∀P:D->Prop,P x->wa E ρ P)(hb:∀P:D->Prop,P y->wb E ρ P)(hg:∀P:D->Prop,P (.bl b)->g x y P):∀P:Bool->Prop,P b->wT (w2 g wa wb) E ρ P:=λP h=>ha _<|hb _ (hg _ h)
theorem Ba{E:Rb}(R:Rf)(hw:∀P:D->Prop,(∀d,R d->P d)->w E ρ P)(h:∀d,R d->N.nx (ρ.set i<|.d d)):aR i w E N ρ:=hw _ h
theorem NM(ps:List Pr):dq (e7 ps) 60=true:=xD λx hx=>by
 obtain⟨p,_,rfl⟩:=YbU.mp hx;refine xC λy hy=>?_;simp only[Yan,gQ,or_false]at hy;rcases hy with rfl|rfl
 exact ut _ _;exact LH _ _
end B.C.Q0
noncomputable def aJ(f:Q5):Nat->Rat
 |0=>0|n+1=>aJ f n+f n
theorem cM{f g:Q5}:∀{n:Nat},(∀i,i<n->f i=g i)->aJ f n=aJ g n
 |0,_=>rfl|n+1,h=>by rw[aJ,aJ,cM<|λi hi=>h i<|E8,h n<|E8]
theorem lR{f:Q5}:∀{n:Nat},(∀i,i<n->f i=0)->aJ f n=0
 |0,_=>rfl|n+1,h=>by rw[aJ,lR<|λi hi=>h i<|E8,h n<|E8,jV]
theorem jP{f:Q5}{k:Nat}:∀{n:Nat},k<n->(∀i,i<n->i≠k->f i=0)->aJ f n=f k
 |0,h,_=>by omega|n+1,h,h0=>by rw[aJ];by_cases e:k=n;subst e;rw[lR<|λi hi=>h0 i E8<|E8,ve];rw[jP (k:=k) E8<|λi hi hk=>h0 i E8 hk,h0 n E8<|Qq e,jV]
theorem oO(f g:Q5):∀n:Nat,aJ (λi=>f i-g i) n=aJ f n-aJ g n
 |0=>by simp only[aJ];grind|n+1=>by rw[aJ,aJ,aJ,oO f g n];grind
theorem vG(f:Q5):∀n:Nat,aJ f (n+1)=f 0+aJ (λi=>f<|i+1) n
 |0=>by simp only[aJ];grind|n+1=>by rw[aJ,vG f n,aJ];grind
theorem yN:∀(r x:QZ) (n:Nat),r.length=n->x.length=n->du r x=aJ (λj=>r.getD j 0*x.getD j 0) n
 |[],[],_,h,_=>by subst h;rfl|[],_::_,n,h,h'=>by simp at h h';omega|_::_,[],n,h,h'=>by simp at h h';omega|a::r,y::x,n,h,h'=>by subst h;rw[du,yN r x r.length rfl<|by simpa using h',dR,vG];rfl
theorem Ip{c x:QZ}(h:r.length=c.length):du (bS r q c) x=du r x-q*du c x:=by
 unfold bS;induction r generalizing c x with
 |nil=>
  cases c with
  |nil=>show(0:Rat)=0-q*0;grind|cons _ _=>simp at h
 |cons a r ih=>
  cases c with
  |nil=>simp at h
  |cons b c=>
   cases x with
   |nil=>show(0:Rat)=0-q*0;grind
   |cons y x=>
    rw[B4,du,du,du,ih<|by simpa using h];grind
theorem uY(hi:i<n):(cQ n k).getD i 0=if i=k then 1 else 0:=by unfold cQ;rw[aZ,cH,iX hi];rfl
theorem NN{R:K4}(h:a<R.length)(t:QZ):t∈R↔t=R.getD a []\/t∈R.take a++R.drop (a+1):=by
 have e:R=R.take a++R.getD a []::R.drop (a+1):=by
  conv=>lhs;rw[<-List.take_append_drop a R]
  rw[sW h,aZ,bU h];rfl
 conv=>lhs;rw[e]
 simp only[Yao,Yan];constructor;rintro(h|h|h);exact .inr<|.inl h
 exact .inl h;exact .inr<|.inr h
 rintro(h|h|h);exact .inr<|.inl h
 exact .inl h;exact .inr<|.inr h
namespace Dt
open B.C
theorem Bb(f g:Q5):∀n:Nat,aJ (λi=>f i+g i) n=aJ f n+aJ g n
 |0=>by simp only[aJ];grind|n+1=>by rw[aJ,aJ,aJ,Bb f g n];grind
theorem sumN_mul(f:Q5)(c:Rat):∀n:Nat,aJ (λi=>c*f i) n=c*aJ f n
 |0=>by simp only[aJ];grind|n+1=>by rw[aJ,aJ,sumN_mul f c n];grind
theorem sumN_swap(f:Nat->Q5)(m:Nat):∀n:Nat,aJ (λi=>aJ (λj=>f i j) m) n=aJ (λj=>aJ (λi=>f i j) n) m
 |0=>by rw[aJ];exact(lR λ_ _=>rfl).symm|n+1=>by rw[aJ,sumN_swap f m n,<-Bb];rfl
theorem vH(f:Nat->Int):∀n:Nat,aJ (λi=>((f i:Int):Rat)) n=((sumI f n:Int):Rat)
 |0=>rfl|n+1=>by rw[aJ,sumI,vH f n,vV]
theorem null_q(A:Nat->R)(hn:n<=5){w:Q5}(h:∀i,i<n->aJ (λj=>(A i j:Rat)*w j) n=0)(hj:j<n):(dt A n:Rat)*w j=0:=by
 have e:aJ (λk=>(iB A n k j:Rat)*aJ (λl=>(A k l:Rat)*w l) n) n=(dt A n:Rat)*w j:=by
  rw[cM (g:=λk=>aJ (λl=>(iB A n k j:Rat)*((A k l:Rat)*w l)) n)<|λk _=>(sumN_mul _ _ n).symm,sumN_swap];rw [cM (g:=λl=>w l*((sumI (λk=>A k l*iB A n k j) n:Int):Rat)) (λl _=>by
   rw[<-vH,<-sumN_mul];exact cM λk _=>by rw[fA];grind)]
  rw[jP (k:=j) hj (λi hi ne=>by rw[yG A hn hi hj,fz ne];exact Rat.mul_zero _),yG A hn hj hj,ks rfl,mW]
 rw[<-e];exact lR λk hk=>by rw[h k hk,Rat.mul_zero]
theorem Bc{A B:Nat->R}(h:∀i,i<n->∀j,j<n->A i j=B i j):dt A n=dt B n:=by
 induction n generalizing A B with
 |zero=>rfl
 |succ k ih=>
  rcases eV 4 k with hk|hk
  obtain⟨k,rfl⟩:=Nat.exists_eq_add_of_lt hk;rw[show 4+k+1=k+5 by omega];rfl
  have a:=HX A (n:=k+1) (i:=k) (k:=k) E8 E8 E8;rw[ks rfl,yr (g:=λj=>B k j*iB B (k+1) k j) λj hj=>?_,HX B E8 E8 E8,ks rfl]at a
  .exact a.symm
  .unfold iB
   rw[h k E8 j hj,Nat.add_sub_cancel,ih (A:=cut A k j) (B:=cut B k j) λi hi l hl=>?_];unfold cut sk;exact h _ (by split<;>omega) _ (by split<;>omega)
theorem NO(h:IsSl s n)(hi:i<n):((mE s n).getD i []).getD j 0=(tA (tbl s n) i j:Rat):=by
 have l:=gX s n;unfold mE tA gr ga;have e:(tbl s n)[i]? = some ((tbl s n).getD i []):=by rw[aZ,bU<|E8];rfl
 rw[aZ (l:=List.map dJ<|tbl s n),cH,e];show(dJ<|(tbl s n).getD i []).getD j 0=_;unfold dJ;rw[aZ,cH,aZ (l:=(tbl s n).getD i [])];cases((tbl s n).getD i [])[j]? with
 |none=>rfl|some v=>rfl
theorem NP{x:QZ}(h:IsSl s n)(hi:i<n)(hx:x.length=n):du ((mE s n).getD i []) x=aJ (λj=>(tA (tbl s n) i j:Rat)*x.getD j 0) n:=by have hm:(mE s n).getD i []∈mE s n:=qs (by rw[Hw];exact hi);rw[yN _ x n (Nq h _ hm).len hx];exact cM λj _=>by rw[NO h hi]
theorem NQ(n:Nat):(List.range n).Pairwise (· < ·):=List.pairwise_lt_range
def fK(s:QY)(n:Nat):K4:=if dt (tA<|tbl s n) n=0 then[[]] else[]
def uZ(s:QY)(n:Nat):K4:=(List.range n).map λi=>(List.range n).map λk=>(iB (tA<|tbl s n) n k i:Rat)/(dt (tA<|tbl s n) n:Rat)
theorem rm(h:IsSl s n):fK s n=[]↔dt (tA<|tbl s n) n≠0:=by unfold fK;split<;>simp_all
theorem NR{a b:QZ}:(a++b).getD j 0=if j<a.length then a.getD j 0 else b.getD (j-a.length) 0:=by split;rename_i h;rw[aZ,kJ h,aZ];rename_i h;rw[aZ,jR<|E8,aZ]
theorem sumN_split(f:Q5)(n:Nat):∀m:Nat,aJ f (n+m)=aJ f n+aJ (λj=>f<|n+j) m
 |0=>by rw[aJ,Nat.add_zero,jV]|m+1=>by rw[<-Nat.add_assoc,aJ,sumN_split f n m,aJ];grind
theorem sF(h:IsSl s n)(e:fK s n=[]):(uZ s n).length=n/\∀i k,i<n->k<n->((uZ s n).getD i []).getD k 0=(iB (tA<|tbl s n) n k i:Rat)/(dt (tA<|tbl s n) n:Rat):=by unfold uZ;exact⟨KE,λi k hi hk=>by simp[aZ,hi,hk]⟩
end Dt
namespace B.C.Q0
theorem Iq(h:IsSl s n)(hi:i<n)(hj:j<n):tT s n i j=s.getD (n-1-i+j) 0:=by unfold tT ga gr;have hl:=h.len;simp only[aZ];rw[Mq hi];simp only[rH];rw[rJ,ks hj,vf]
theorem Ir(h:IsSl s n)(he:s.reverse=s)(hi:i<n)(hj:j<n):tT s n i j=tT s n j i:=by
 have hl:=h.len;rw[Iq h hi hj,Iq h hj hi];simp only[aZ];conv=>lhs;rw[<-he]
 rw[BT<|E8];rw[show s.length-1-(n-1-i+j)=n-1-j+i by omega]
structure Nl(s:QY)(n a:Nat)(L:Nat->Q5):Prop where
 sym:∀i j,i<n->j<n->L i j=L j i
 zero:∀i j,i<n->j<n->i<a->L i j=0
 vec:∀c,a<=c->c<n->∃x:Nat->Rat,x c=1/\(∀j,a<=j->j≠c->x j=0)/\∀i,i<n->aJ (λj=>(tT s n i j:Rat)*x j) n=L i c
theorem Nl.start(h:IsSl s n)(he:s.reverse=s):Nl s n 0 λi j=>(tT s n i j:Rat) where
 sym:=λi j hi hj=>by rw[Ir h he hi hj]
 zero:=λi j _ _ h=>Qj h E8
 vec:=λc _ hc=>⟨λj=>if j=c then 1 else 0,ks rfl,λj _ hj=>fz hj,λi hi=>by
  rw[jP (k:=c) hc (λj _ hj=>by dsimp only;rw[fz hj,Rat.mul_zero])];dsimp only;rw[ks rfl,Rat.mul_one]⟩
theorem Nl.step{L':Nat->Q5}(h:Nl s n a L)(ha:a<n)(h0:L a a≠0)(e:∀i j,i<n->j<n->L' i j=L i j-L a i*(L a j/L a a)):Nl s n (a+1) L' where
 sym:=λi j hi hj=>by rw[e i j hi hj,e j i hj hi,h.sym i j hi hj];grind
 zero:=λi j hi hj hl=>by
  rw[e i j hi hj];rcases eV i a with hia|hia
  rw[h.zero i j hi hj hia,h.sym a i ha hi,h.zero i a hi ha hia];grind;have:i=a:=E8
  subst this;grind
 vec:=λc hc hcn=>by
  obtain⟨x,x1,x2,x3⟩:=h.vec c E8 hcn;obtain⟨y,y1,y2,y3⟩:=h.vec a (bZ a) ha;refine⟨λj=>x j-L a c/L a a*y j,?_,λj hj hjc=>?_,λi hi=>?_⟩;show x c-L a c/L a a*y c=1;rw[x1,y2 c E8<|E8];grind;show x j-L a c/L a a*y j=0;rw[x2 j E8 hjc,y2 j E8<|E8];grind;have:aJ (λj=>(tT s n i j:Rat)*(x j-L a c/L a a*y j)) n=aJ (λj=>(tT s n i j:Rat)*x j-L a c/L a a*((tT s n i j:Rat)*y j)) n:=cM λj _=>by grind
  rw[this,oO,Dt.sumN_mul,x3 i hi,y3 i hi,e i c hi hcn,h.sym a i ha hi];grind
theorem Eo(hs:IsSl s n)(ha:a<n):Sm 10 (a+1) (ku (tbl s n)<|a+1):=by
 have hl:=gX s n;exact ⟨by unfold ku;simp [hl];omega,λr hr=>by
  unfold ku at hr;obtain⟨r0,hr0,rfl⟩:=YbU.mp hr;have:=(kH hs r0<|mT hr0).1;rw[iC];omega,λr hr x hx=>by
  unfold ku at hr;obtain⟨r0,hr0,rfl⟩:=YbU.mp hr;have:=(kH hs r0<|mT hr0).2 x (mT hx);show x.natAbs<1024;omega⟩
theorem Nl.piv(h:Nl s n a L)(hs:IsSl s n)(hm:m<=n)(ha:a<m)(hst:Stg s n m):L a a≠0:=by
 intro z;have h5:=hs.n5;have hl:=gX s n;obtain⟨y,y1,y2,y3⟩:=h.vec a (bZ a) E8;have sm:=Eo (a:=a) hs E8;have nd:=Dt.num_dt sm E8;have ext:∀i,i<a+1->∀j,j<a+1->Dt.tA (ku (tbl s n)<|a+1) i j=tT s n i j:=λi hi j hj=>by unfold Dt.tA ku tT ga gr;simp only[aZ];rw[cH,rJ,ks hi,bU (l:=tbl s n)<|E8];simp only[lU,rH];rw[rJ,ks hj]
 have nq:=Dt.null_q (Dt.tA<|ku (tbl s n)<|a+1) (n:=a+1) E8 (w:=y) (λi hi=>?_) (j:=a) E8;rw[y1,Rat.mul_one]at nq;refine hst a ha ?_;rw[nd];exact_mod_cast nq;have e1:aJ (λj=>(Dt.tA (ku (tbl s n)<|a+1) i j:Rat)*y j) (a+1)=aJ (λj=>(tT s n i j:Rat)*y j) (a+1):=cM λj hj=>by rw[ext i hi j hj]
 have e2:aJ (λj=>(tT s n i j:Rat)*y j) n=aJ (λj=>(tT s n i j:Rat)*y j) (a+1):=by obtain⟨d,rfl⟩:∃d,n=a+1+d:=⟨n-(a+1),E8⟩;rw[Dt.sumN_split,lR (n:=d)<|λj _=>by rw[y2 (a+1+j) E8<|E8,Rat.mul_zero],jV]
 rw[e1,<-e2,y3 i<|E8];rcases eV i a with hia|hia
 exact h.zero i a E8 E8 hia;have:i=a:=E8
 subst this;exact z
theorem NS:Rd yL Ik ZeG:=by
 rintro _ E Q ⟨⟨s,n⟩,rfl,h,q⟩;dsimp only at h q;have h5:=h.n5;unfold Ik;show aL _ _ _ _ [.d<|bC s n,.un];refine bW<|set_by (d:=.int 0) (ρ':=[.d<|bC s n,.d<|.int 0]) rfl (λP h=>h) ?_;dsimp only;refine bW ?_;simp only[bE,uo];refine⟨λk ρ=>∃m:Nat,k+m=n/\m<=n/\Stg s n m/\ρ=[.d<|bC s n,.d<|.int m],⟨n,0,E8,E8,λk hk=>Qj hk<|E8,rfl⟩,?_⟩;rintro k _ ⟨m,hk,hm,hst,rfl⟩;ext
 by_cases hmn:m<n;rw[Qm<|by exact_mod_cast hmn];ext;rw[qq (b:=m+1)<|E8,<-lV];have hl:=gX s n;refine iA (g:=aY) (f:=λr=>aY<|r.take<|m+1) ((tbl s n).take<|m+1) (λr hr Q hq=>?_) .un [] (by simp[aO];omega) ?_;unfold aY;ext;rw[qq (b:=m+1)<|E8,<-lV];exact hq;have sm:=Eo (a:=m) h hmn;refine⟨ku (tbl s n)<|m+1,?_,⟨by rw[sm.len];exact sm,by rw[sm.len];omega⟩,?_⟩;unfold tabD ku;dsimp only;rw[dG];rfl;dsimp only;ext;by_cases hz:f8 (ku (tbl s n)<|m+1)=0;rw[hz];ext;exact q _ ⟨m,rfl,hm,hst,λ_=>hz⟩;rw[ks<|by simpa using hz];refine⟨k-1,E8,m+1,E8,E8,λj hj=>?_,rfl⟩;rcases eV j m with hjm|hjm
 exact hst j hjm;rw[show j=m by omega];exact hz;rw[Qt<|by simpa using hmn];ext;exact q _ ⟨m,rfl,hm,hst,λz=>Qj z hmn⟩
theorem yP{we:WE}{tail:cV}{Q:Rc->Prop}{f:Pr->D}:∀(L:List Pr),(∀p∈L,∀Q:D->Prop,Q (f p)->we No (.d (aU p.1)::.d (aH p.2)::tail) Q)->∀(sv sv':SV) (acc:Rc),acc.length+L.length<=aO->Q (acc++L.map f)->lcW (ez 2<|c7 (gN 0)<|c7 (gN 1) et) cX we (L.map gh) (sv::sv'::tail) acc Q
 |[],_,sv,sv',acc,_,hq=>by rw[gG,lcW];simpa using hq|p::L,h,sv,sv',acc,hl,hq=>by rw[c8,lcW];refine⟨rfl,?_⟩;show we No (SV.d (aU p.1)::SV.d (aH p.2)::tail) _;rw[dR]at hl;refine h p KE _ ⟨E8,yP L (λa ha=>h a<|by simp[ha]) _ _ _ (by simp;omega) ?_⟩;rw[oU];simpa using hq
theorem Iu{b n i j:Nat}:∀{ps:List Pr} {N:Nat},(∀p∈ps,Pq b n p)->i<n->j<n->ps.length*(3*b+1)<=N->Dz N (ps.map (·.1)) (ps.map λp=>p.2.getD i 0*p.2.getD j 0)
 |[],_,_,_,_,_=>trivial
 |p::ps,N,h,hi,hj,hl=>by
  have hp:=h p KE;rw[dR,oV]at hl;have g:∀k,k<n->Sz b (p.2.getD k 0):=λk hk=>by rw[aZ,bU (by rw[hp.l];exact hk)];exact hp.r _<|jn _
  exact⟨b,b+b,hp.w,(g i hi).mul<|g j hj,E8,Iu (λq hq=>h q<|by simp[hq]) hi hj<|E8⟩
theorem Iv(i j:Nat):∀ps:List Pr,du (ps.map (·.1)) (ps.map λp=>p.2.getD i 0*p.2.getD j 0)=gs ps i j
 |[]=>rfl|p::ps=>by rw[c8,c8,du,gs,Iv i j ps]
theorem Iw{E:Rb}{x y:Rat}(h1:Sz n x)(h2:Sz m y)(hb:n+m+1<=8989)(q:Q (aU<|x*y)):sB [.lst [aU x],.lst [aU y]] E Q:=by refine⟨((false,false),[x],[y]),rfl,⟨n,m,h1,h2,hb,trivial⟩,?_⟩;show Q (aU<|x*y+0);rw[jV];exact q
theorem Ep(a b c d e f:SV):∃g,pub 5 [a,b,c,d,e,f]=[a,b,c,d,e,g]:=by cases f<;>exact⟨_,rfl⟩
theorem NT{ps:List Pr}(h:IsSl s n)(he:s.reverse=s)(hl:∀i,i<n->∀j,j<i+1->gs ps i j=(tT s n i j:Rat)):sE s n ps:=λi hi j hj=>by
 have gsym:∀(ps:List Pr) (i j:Nat),gs ps i j=gs ps j i:=λps i j=>by
  induction ps with
  |nil=>rfl|cons p ps ih=>rw[gs,gs,ih];grind
 rcases eV j (i+1) with h1|h1
 exact hl i hi j h1;rw[gsym,hl j hj i<|E8,Ir h he hj hi]
theorem NU:Rd uX Ij ZdD:=by
 rintro _ E Q ⟨⟨⟨b,s,n⟩,x⟩,rfl,⟨h,he,hk,hz,hf⟩,q⟩;dsimp only at h he hk hz hf q;have h5:=h.n5;unfold Ij;walk_at "n";refine rf hk F4 λt ht=>?_;cases x<;>cases ht<;>try exact q
 rename_i xs;obtain⟨hl,hx⟩:=LI hk;ext;simp only[show iN "list" "list" = true from rfl,fk,dU,if_false];replace q:Q (.bl ((decide (xs.length<=10)&&xs.all (fH n))&&decide (sE s n<|sqs<|.lst xs))):=q;ext;by_cases h10:xs.length<=10;rw[fz (by simp;omega)];refine uI (λρ=>xs.all (fH n)=true/\∃s2,ρ=[.d<|bC s n,.d<|.lst xs,s2,.un,.un,.un]) (λnx hnx=>?_) ?_;show bF _ _ _ _ _ _;refine for_seq (xs:=xs) (uM rfl) ?_;refine xU (λds ρ=>∃a s2,xs=a++ds/\a.all (fH n)=true/\ρ=[.d<|bC s n,.d<|.lst xs,s2,.un,.un,.un]) ?_ ?_ _ _ ⟨[],_,rfl,rfl,rfl⟩;rintro d ds _ ⟨a,s2,hxs,ha,rfl⟩ nx2 hnx2;show aL _ _ _ _ [.d<|bC s n,.d<|.lst xs,.d d,.un,.un,.un];have hd:kd d=true:=hx d (by rw[hxs];simp);have bad:fH n d=false->Q (.bl false):=λz=>by
  have:xs.all (fH n)=false:=by rw[hxs,List.all_append,sS,z];simp
  rw[this]at q;simpa using q
 have good:fH n d=true->nx2 [.d<|bC s n,.d<|.lst xs,.d d,.un,.un,.un]:=λz=>hnx2 _ ⟨a++[d],_,by rw[hxs];simp,by rw[List.all_append,ha,sS,z];rfl,rfl⟩;clear hnx2 hnx q ha hxs;walk_at "n";refine rf hd F4 λt ht=>?_;cases d<;>cases ht<;>try exact bad rfl
 rename_i ys;obtain⟨hyl,hy⟩:=uu hd;simp only[show iN "tuple" "tuple" = true from rfl,fk,dU,if_false];ext
 match ys,hyl,hy,bad,good with
 |[],_,_,bad,_=>ext;exact bad rfl|[u],_,_,bad,_=>ext;exact bad rfl|u::v::w::r,_,_,bad,_=>ext;rw[ks (by simp;omega)];exact bad rfl
 |[u,v],_,hy,bad,good=>
  ext;rw[fz<|KE];refine⟨_,rfl,Zc (hy u<|KE) ?_⟩;cases hu:de u with
  |false=>ext;exact bad (by rw[fH,hu];rfl)
  |true=>
   obtain⟨p,rfl⟩:=Dr hu;ext;refine⟨_,rfl,F4,rc (ut _ _) F4 ?_⟩;rw[fz<|KE,NF];cases hp:decide (p=0) with
   |true=>ext;exact bad (by rw[fH,hu,uG,hp];rfl)
   |false=>
    ext;refine⟨_,rfl,MP (hy v<|KE) ?_⟩;cases hv:gW n v with
    |false=>ext;exact bad (by rw[fH,hu,uG,hp,hv];rfl)|true=>ext;exact good (by rw[fH,hu,uG,hp,hv];rfl)
 rintro _ ⟨a,s2,hxs,ha,rfl⟩;rw[oS]at hxs;subst hxs;exact hnx _ ⟨ha,_,rfl⟩;rintro _ ⟨ha,s2,rfl⟩;obtain⟨ps,rfl,hps⟩:=Il ha;rw[ha,Qm h10,show sqs (.lst<|ps.map gh)=ps from Im ps]at q;have hpq:=yM hz λp hp=>(hps p hp).1;have hf:A8 b ps.length:=by have:=hf _ rfl h10;rwa [bH]at this
 unfold A8 at hf;rw[bH]at h10;clear hps hx hl hk hz ha;show aL _ _ _ _ [.d<|bC s n,.d<|e7 ps,s2,.un,.un,.un];refine uI (λρ=>(∀i,i<n->∀j,j<i+1->gs ps i j=(tT s n i j:Rat))/\∃s2 s3 s4 s5,ρ=[.d<|bC s n,.d<|e7 ps,s2,s3,s4,s5]) (λnx hnx=>?_) ?_;show bF _ _ _ _ _ _;ext;refine⟨E8,E8,?_⟩;refine uJ (λk ρ=>(∀i,i<k->∀j,j<i+1->gs ps i j=(tT s n i j:Rat))/\∃s2 s3 s4 s5,ρ=[.d<|bC s n,.d<|e7 ps,s2,s3,s4,s5]) n ?_ (λρ hρ=>hnx ρ hρ) _ ⟨λi hi=>Qj hi<|E8,_,_,_,_,rfl⟩;rintro k hkn _ ⟨hk,s2,s3,s4,s5,rfl⟩ nx2 hnx2;obtain⟨s5',e5⟩:=Ep (.d<|bC s n) (.d<|e7 ps) s2 (.d<|.int k) s4 s5;show bF _ _ _ _ _ (pub 5 [.d<|bC s n,.d<|e7 ps,s2,.d<|.int k,s4,s5]);rw[e5];clear e5;ext;refine⟨E8,E8,?_⟩;rw[show((k:Int)+1)=((k+1:Nat):Int) by omega];refine uJ (λl ρ=>(∀j,j<l->gs ps k j=(tT s n k j:Rat))/\∃s2 s4 s5,ρ=[.d<|bC s n,.d<|e7 ps,s2,.d<|.int k,s4,s5]) (k+1) ?_ ?_ _ ⟨λj hj=>Qj hj<|E8,_,_,_,rfl⟩;rintro l hlk _ ⟨hl,s2,s4,s5,rfl⟩ nx3 hnx3;have hln:l<n:=E8
 have gk:∀p∈ps,∀k,k<n->(p.2.map aU)[k]? = some (aU<|p.2.getD k 0)/\Sz b (p.2.getD k 0):=λp hp k hk=>by have:=hpq p hp;rw[aZ,cH,bU (by rw[this.l];exact hk)];exact⟨rfl,this.r _<|jn _⟩
 show aL _ _ _ _ [.d<|bC s n,.d<|e7 ps,s2,.d<|.int k,.d<|.int l,s5];refine bW<|own_by (xs:=ps.map λp=>aU<|p.2.getD k 0*p.2.getD l 0) (ρ':=[.d<|bC s n,.d<|e7 ps,s2,.d<|.int k,.d<|.int l,.ow<|ps.map λp=>aU<|p.2.getD k 0*p.2.getD l 0]) rfl (λP hP=>?_) ?_
 unfold e7;ext;refine yP (f:=λp=>aU<|p.2.getD k 0*p.2.getD l 0) ps (λp hp Q hq=>?_) .un .un [] (by simp[aO];omega) (by simpa using hP);unfold aH;ext;refine⟨_,aS (gk p hp k hkn).1,F4,_,aS (gk p hp l hln).1,F4,Iw (gk p hp k hkn).2 (gk p hp l hln).2 (by have:1<=ps.length:=Cf hp;have:=zY (3*b+1) this;omega) hq⟩;dsimp only;unfold bM;rw[show pub 5 [.d<|bC s n,.d<|e7 ps,s2,.d<|.int k,.d<|.int l,.ow<|ps.map λp=>aU<|p.2.getD k 0*p.2.getD l 0]=[.d<|bC s n,.d<|e7 ps,s2,.d<|.int k,.d<|.int l,.d<|.lst<|ps.map λp=>aU<|p.2.getD k 0*p.2.getD l 0] from rfl];refine ik (b:=!decide (gs ps k l=(tT s n k l:Rat))) (Io (x:=aU<|gs ps k l) (y:=aU (tT s n k l:Rat)) (λP hP=>?_) (λP hP=>?_)<|λP hP=>rc (ut _ _) (ut _ _) ?_) (λe=>?_) λe=>?_;unfold e7;ext;refine yP (f:=λp=>aU p.1) ps (λp hp Q hq=>?_) .un .un [] (by simp[aO];omega) ?_;ext;exact hq;refine⟨((false,false),ps.map (·.1),ps.map λp=>p.2.getD k 0*p.2.getD l 0),by simp[ii],Iu hpq hkn hln (by rw[zO];omega),?_⟩;dsimp only;rw[Iv];exact hP;rw[xP]at hP;ext;have ht:=gX s n;have hr:=(kH h _<|jn (show k<(tbl s n).length by omega)).1;refine⟨aY<|gr (tbl s n) k,aS (by unfold gr;rw[aZ,cH,bU<|E8];rfl),?_⟩;ext;refine⟨.int<|tT s n k l,aS ?_,F4,hP⟩;unfold tT ga gr;simp only[aZ];rw[cH,bU (l:=tbl s n)<|E8];simp only[rH];rw[bU<|E8];rfl;rw[ks rfl,DN];exact hP;have e:¬gs ps k l=(tT s n k l:Rat):=by simpa using e
 rw[Qt (λz:sE s n ps=>e<|z k hkn l hln)]at q;exact q;have e:gs ps k l=(tT s n k l:Rat):=by simpa using e
 refine hnx3 _ ⟨λj hj=>?_,_,_,_,rfl⟩;rcases eV j l with h1|h1
 exact hl j h1;rw[show j=l by omega];exact e;rintro _ ⟨hl,s2,s4,s5,rfl⟩;refine hnx2 _ ⟨λi hi j hj=>?_,_,_,_,_,rfl⟩;rcases eV i k with h1|h1
 exact hk i h1 j hj;have:i=k:=E8
 subst this;exact hl j hj;rintro _ ⟨hlow,s2,s3,s4,s5,rfl⟩;rw[Qm<|NT h he hlow]at q;exact q;rw[ks (by simp;omega)];rw[Qt h10]at q;exact q
theorem Er:∀r:QZ,kj (r.map aU)=true
 |[]=>by rw[gG,kj]|q::r=>by rw[c8,kj,Er r];rfl
def lq(r:QZ):D:=.lst<|r.map aU
theorem Es(x w:Rat)(h0:w≠0):Rat.divInt (x.num*(w.den:Int)) ((x.den:Int)*w.num)=x/w:=by
 have e:∀q:Rat,(q.num:Rat)/((q.den:Nat):Rat)=q:=λq=>by have:=vd q;rw[o4,Cg]at this;exact this
 have hd:∀q:Rat,((q.den:Nat):Rat)≠0:=λq=>by exact_mod_cast q.den_nz
 have hw:(w.num:Rat)≠0:=by intro z;have:=e w;rw[z]at this;exact h0 (by rw[<-this];grind)
 rw[o4,fA,fA,Cg,Cg];have e1:=e x;have e2:=e w;have d1:=hd x;have d2:=hd w;generalize (x.num:Rat)=a at *;generalize ((x.den:Nat):Rat)=b at *;generalize (w.num:Rat)=c at *;generalize ((w.den:Nat):Rat)=d at *;rw[<-e1,<-e2];grind
theorem NV(h:a<=4):bq 6 a<=111:=by
 match a,h with
 |0,_=>decide|1,_=>decide|2,_=>decide|3,_=>decide|4,_=>decide
theorem rn{R:K4}(hl:R.length=n)(hr:∀r∈R,r.length=n)(hi:i<n)(hj:j<n):R[i]? = some (R.getD i [])/\R.getD i []∈R/\(R.getD i []).length=n/\(R.getD i [])[j]? = some (en R i j):=by
 have e:R.getD i []=R[i]' E8:=by rw[aZ,bU<|E8];rfl
 have hm:R.getD i []∈R:=by rw[e];exact jn _
 refine⟨by rw[e,bU],hm,hr _ hm,?_⟩;unfold en;rw[aZ (l:=R.getD i []),bU (l:=R.getD i []) (by rw[hr _ hm];exact hj)];rfl
def upd(R:K4)(a k:Nat):QZ:=bS (R.getD k []) (en R a a*(dL (R.getD a [])<|en R a a).getD k 0)<|dL (R.getD a []) (en R a a)
def RR(R:K4)(a n i:Nat):K4:=(List.range n).map λk=>if k<i then upd R a k else R.getD k []
theorem NW{R:K4}(hl:R.length=n):RR R a n 0=R:=by unfold RR;refine td (by simp[hl]) λi h1 h2=>?_;rw[qb,vW,fz<|E8,aZ,bU h2];rfl
theorem NX{R:K4}(hi:i<n):(RR R a n i).set i (upd R a i)=RR R a n (i+1):=by unfold RR;refine td KE λk h1 h2=>?_;rw[List.getElem_set];simp only[qb,vW];split;rename_i e;subst e;rw[ks<|E8];rename_i e;by_cases hk:k<i;rw[ks hk,ks<|E8];rw[fz hk,fz<|E8]
theorem yQ{R:K4}(hi:i<n):(RR R a n i)[i]? = some (R.getD i []):=by unfold RR;rw[cH,iX hi];simp
theorem by_at{s:Rat}(hk:k<r.length):(dL r s)[k]? = some (r.getD k 0/s):=by unfold dL;rw[cH,aZ,bU hk];rfl
theorem NY{R:K4}(hl:R.length=n)(hr:∀r∈R,r.length=n)(ha:a<n)(hk:k<n)(h0:en R a a≠0)(sy:en R a k=en R k a):upd R a k=bS (R.getD k []) ((R.getD k []).getD a 0) (dL (R.getD a [])<|en R a a):=by have ea:=rn hl hr ha hk;unfold upd;rw[show(dL (R.getD a [])<|en R a a).getD k 0=en R a k/en R a a by rw[aZ,by_at (by rw[ea.2.2.1];exact hk)];rfl];rw[show en R a a*(en R a k/en R a a)=(R.getD k []).getD a 0 by rw[sy];show _=en R k a;grind]
theorem Ix{R:K4}(hl:R.length=n)(hr:∀r∈R,r.length=n)(ha:a<n)(hi:i<n)(hj:j<n)(h0:en R a a≠0):(upd R a i).getD j 0=en R i j-en R a i*(en R a j/en R a a):=by
 have ea:=rn hl hr ha hi;have ej:=rn hl hr ha hj;have ei:=rn hl hr hi hj;have lb:(dL (R.getD a [])<|en R a a).length=n:=by unfold dL;rw[bH];exact ea.2.2.1
 have e1:(dL (R.getD a [])<|en R a a)[j]? = some (en R a j/en R a a):=by_at (by rw[ea.2.2.1];exact hj);have e2:(dL (R.getD a [])<|en R a a).getD i 0=en R a i/en R a a:=by rw[aZ,by_at (by rw[ea.2.2.1];exact hi)];rfl
 unfold upd bS;rw[aZ,List.getElem?_zipWith,ei.2.2.2,e1,e2];show en R i j-en R a a*(en R a i/en R a a)*(en R a j/en R a a)=_;grind
theorem NZ(L:Q6)(f:Q5):kj (L.map λk=>aU<|f k)=true:=by have:=Er<|L.map f;rw[dG]at this;exact this
end B.C.Q0
namespace Dt
open B.C
theorem Iy{r:QY}{l:Nat}(hi:i<=r.length):ga (cutL r i) l=ga r (sk i l):=by unfold cutL ga sk;rw[aZ,aZ,List.getElem?_append,iC,sX hi];by_cases h:l<i;rw[ks h,ks h,rJ,ks h];rw[fz h,fz h,vf,show i+1+(l-i)=l+1 by omega]
theorem N2(h:t.length=n)(hj:j<=n)(hk:k+1<n):gr (uP t i j) k=cutL (gr t<|sk j k) i:=by
 have e:(t.take j++t.drop (j+1))[k]? = some (gr t<|sk j k):=by unfold gr sk;rw[List.getElem?_append,iC,h,sX hj];by_cases hh:k<j;rw[ks hh,ks hh,rJ,ks hh,aZ,bU<|E8];rfl;rw[fz hh,fz hh,vf,show j+1+(k-j)=k+1 by omega,aZ,bU<|E8];rfl
 show(uP t i j).getD k []=_;unfold uP;rw[aZ,cH,e];rfl
theorem N3(h:Sm 6 n t)(hn:n<=5)(hi:i<n)(hj:j<n):f8 (uP t i j)*sgn i j=iB (tA t) n j i:=by
 unfold iB;rw[num_dt (prt_sm h hi hj)<|E8,rF];have e1:sgn i j=sg (j+i):=by unfold sgn sg;split<;>omega
 rw[e1];congr 1;refine Bc λa ha b hb=>?_;show ga (gr (uP t i j) a) b=ga (gr t<|sk j a) (sk i b);have ha':sk j a<n:=by unfold sk;split<;>omega
 rw[N2 h.len E8<|E8,Iy (by rw[(h.gr ha').2.1];omega)]
end Dt
namespace Gs
open Dt
def dl(i j:Nat):Rat:=if i=j then 1 else 0
theorem sG(i:Nat):dl i i=1:=ks rfl
theorem sH(h:i≠j):dl i j=0:=fz h
theorem Zp(f:Q5)(hk:k<n):aJ (λi=>dl k i*f i) n=f k:=by rw[jP hk<|λi _ ne=>by rw[sH<|Qq ne,kK],sG,vX]
theorem N4(f:Q5)(hk:k<n):aJ (λi=>f i*dl i k) n=f k:=by rw[jP hk<|λi _ ne=>by rw[sH ne,Rat.mul_zero],sG,Rat.mul_one]
theorem Iz(f:Q5):∀n:Nat,aJ (λk=>f<|n-1-k) n=aJ f n
 |0=>rfl|n+1=>by rw[vG,aJ];rw[cM (g:=λk=>f<|n-1-k) (λi hi=>by show f (n+1-1-(i+1))=_;congr 1;omega),Iz f n];show f (n+1-1-0)+_=_;rw[show n+1-1-0=n by omega];grind
structure Bk(n:Nat)(T B:Nat->Q5):Prop where
 tb:∀i j,i<n->j<n->aJ (λk=>T i k*B k j) n=dl i j
 bt:∀i j,i<n->j<n->aJ (λk=>B i k*T k j) n=dl i j
theorem Bk.uniq{B:Nat->Q5}(h:Bk n T B){X:Q5}(hj:j<n)(e:∀i,i<n->aJ (λk=>T i k*X k) n=dl i j)(hk:k<n):X k=B k j:=by
 rw[<-Zp X hk];rw [cM (g:=λi=>aJ (λm=>B k m*(T m i*X i)) n) (λi hi=>by
  rw[<-h.bt k i hk hi,mW,<-sumN_mul];exact cM λm _=>by grind),sumN_swap]
 rw[cM (g:=λm=>B k m*dl m j)<|λm hm=>by rw[sumN_mul,e m hm]];exact N4 (λm=>B k m) hj
theorem yR(h:IsSl s n)(e:fK s n=[]):Bk n (λi j=>(tA (tbl s n) i j:Rat)) (λi j=>((uZ s n).getD i []).getD j 0):=by
 obtain⟨_,b⟩:=sF h e;have dz:(dt (tA<|tbl s n) n:Rat)≠0:=by exact_mod_cast (rm h).mp e
 constructor;intro i j hi hj;rw[cM (g:=λk=>(dt (tA<|tbl s n) n:Rat)⁻¹*((tA (tbl s n) i k*iB (tA<|tbl s n) n j k:Int):Rat)) (λk hk=>by rw[b k j hk hj,fA,gD];grind),sumN_mul,vH,HX _ h.n5 hi hj];unfold dl;split;exact z5 _ dz;exact Rat.mul_zero _;intro i j hi hj;rw[cM (g:=λk=>(dt (tA<|tbl s n) n:Rat)⁻¹*((tA (tbl s n) k j*iB (tA<|tbl s n) n k i:Int):Rat)) (λk hk=>by rw[b i k hi hk,fA,gD];grind),sumN_mul,vH,yG _ h.n5 hj hi];unfold dl;by_cases z:j=i;rw[ks z,ks z.symm];exact z5 _ dz;rw[fz z,fz<|Qq z];exact Rat.mul_zero _
theorem tA_ent(h:IsSl s n)(hi:i<n)(hj:j<n):tA (tbl s n) i j=ent s n i j:=by unfold tA B.C.gr B.C.ga;rw[DG h,aZ (l:=List.map _ _),cH,iX hi];show((List.range n).map λj=>ent s n i j).getD j 0=_;rw[aZ,cH,iX hj];rfl
structure Tz(n:Nat)(T:Nat->Q5):Prop where
 sl:∀i j i' j',i<n->j<n->i'<n->j'<n->i+j'=i'+j->T i j=T i' j'
theorem yS(h:IsSl s n):Tz n (λi j=>(tA (tbl s n) i j:Rat)):=⟨λi j i' j' hi hj hi' hj' e=>by
 show((tA (tbl s n) i j:Int):Rat)=((tA (tbl s n) i' j':Int):Rat)
 rw[tA_ent h hi hj,tA_ent h hi' hj'];unfold ent;rw[show n-1-i+j=n-1-i'+j' by omega]⟩
theorem Bk.per{B:Nat->Q5}(h:Bk n T B)(t:Tz n T)(hi:i<n)(hj:j<n):B (n-1-j) (n-1-i)=B i j:=by
 refine h.uniq (X:=λk=>B (n-1-j)<|n-1-k) hj (λi hi=>?_) hi;rw [cM (g:=λk=>(λm=>B (n - 1 - j) m*T m (n - 1 - i))<|n - 1 - k) (λk hk=>by
  show T i k*_=_*T (n-1-k) (n-1-i);rw[t.sl i k (n-1-k) (n-1-i) hi hk E8 E8<|E8,mW]),Iz<|λm=>B (n-1-j) m*T m (n-1-i),h.bt _ _ E8<|E8]
 unfold dl;by_cases z:i=j;rw[ks z,ks<|E8];rw[fz z,fz<|E8]
end Gs
theorem set_by{E:Rb}(e:ρ.set i (.d d)=ρ')(hw:∀P:D->Prop,P d->w E ρ P)(h:N.nx ρ'):aR i w E N ρ:=hw _ (by rw[e];exact h)
theorem ret_by{E:Rb}(hw:∀P:D->Prop,P d->w E ρ P)(h:N.rt d):aN w E N ρ:=hw _ h
theorem pair_at{w1 w2:WE}{E:Rb}{a b:D}(h1:∀P:D->Prop,P a->w1 E ρ P)(h2:∀P:D->Prop,P b->w2 E ρ P):∀P:D->Prop,P (.tup [a,b])->bD (aC w1<|aC w2 aA) E ρ P:=λP h=>h1 _<|h2 _ ⟨show 2<=aO by decide,h⟩
theorem own_by{t:WA}{E:Rb}(e:ρ.set i (.ow xs)=ρ')(ht:∀P:Rc->Prop,P xs->t E ρ P)(h:N.nx ρ'):bX i t E N ρ:=ht _ (by rw[e];exact h)
theorem uM{E:Rb}(h:ρ[i]? = some (.d d)):∀P:D->Prop,P d->wN i E ρ P:=λP q=>by unfold wN;rw[h];exact q
theorem c_at{E:Rb}:∀P:D->Prop,P d->wC d E ρ P:=λ_ h=>h
namespace Gs
open Dt
section
theorem IC{B:K4}(hk:k<B.length):(mD B j).getD k 0=(B.getD k []).getD j 0:=by unfold mD;rw[aZ (l:=List.map _ _),cH,bU hk,aZ (l:=B),bU hk];rfl
end
end Gs
section
variable{o a b:Expr}{t:WA}{id:String}{g:Str->Rc->(Rf)->Prop}
def CS(mg:QW)(x y:Str):Prop:=∃t,mg x=some (.str y t)
theorem Qf{y:Str}(X:K.In h)(G:h.Ns mainGlobals mg){t:Tok}(a:PySem.W.nsIn K mainGlobals x=some (some<|.str y t)):CS mg x y:=⟨t,PySem.W.mg_of X G a⟩
end
section
variable{ps kp cp:Pos}{a:Expr}
def Et(t:WA):WA:=λE ρ Q=>t E ρ λds=>∃xs,ds=[.lst xs]/\Q (fe 1 xs)
theorem N5{t:WA}(hm:X.mg "enumerate" = none)(ha:jb X EX [a] t)(hg:{Gl X "enumerate"})(hs:{starEach [a] X.env=[(false,eval a X.env)]}) :
  lN X EX (.Tuple es n1 ps) (.Call (.Name "enumerate" p) [a] [⟨some "start",.Constant (.int 1) j cp,kp⟩] pos) (Et t):=by
 obtain⟨t,q,k⟩:=ha.t;refine⟨⟨_,Lc hg hm q hs,λW0 H0 W σ H ρ E R s eo h=>?_⟩,λE ρ P P' hp h=>ha.mono _ _ _ _ (λds ⟨xs,e,z⟩=>⟨xs,e,hp _ z⟩) h⟩;refine k W0 H0 W σ H ρ E _ s eo<|ha.mono _ _ _ _ (λds ⟨xs,e,hd⟩ vs W1 H1 x1 r1=>?_) h;subst e;obtain⟨v,rfl,rv⟩:=r1.one;cases rv with
 | @lst l vs _ e1 rr=>
  have sq:∀W2 H2,(∀a o,W1.G a=some o->W2.G a=some o)->WOk W2 H2->Sq X.K false H2 l vs:=λW2 H2 g ok=>SqL.of<|ok.g _ _ (g _ _ e1);refine⟨l,rfl,⟨vs,sq W1 H1 (λ_ _ z=>z) x1.ok⟩,hd W1 H1 _ x1 λW2 H2 i g2 p2 ok2=>⟨λd hd=>?_,λhi=>?_⟩⟩
  .have s1:=sq W2 H2 g2 ok2
   obtain⟨x,ex,rfl⟩:=DM 1 i xs d hd;obtain⟨vx,evx,rvx⟩:=rr.get ex;refine⟨⟨vs,vx,s1,evx⟩,λz H3 hy=>?_⟩;obtain⟨q,x',rfl,hq,rfl,e1⟩:=hy;have e1:=e1 _ s1;rw[evx]at e1;cases e1;have xt:=Ext.put (o:=.tup [.int ((i+1:Nat):Int),vx]) ok2 hq;rw[vQ 1 i];exact⟨_,xt,.tup (by unfold Wd.put;dsimp only;rw[aP])<|.cons (.int _)<|.cons (xt.rep<|rvx.mono g2 p2) .nil⟩
  .refine⟨vs,sq W2 H2 g2 ok2,?_⟩
   rw[rr.length];rw[DL]at hi;omega
end
open Dt
abbrev tabD:=B.C.tabD
abbrev Sm:=B.C.Sm
def im(t:K5)(j:Nat):K5:=(t.drop 1).map λr=>B.C.cutL r j
def cD(t:K5):Int:=dt (tA t) t.length
def vI(s:QY)(n:Nat):QY:=(List.range n).map λk=>cD<|tbl (cor s n<|k+1) (k+1)
def d8(s:QY)(n:Nat):Q6:=((List.range n).filter λk=>cD (tbl (cor s n<|k+1)<|k+1)==0).map (· + 1)
def Be:bV:=fnS (λx:Nat×K5=>[tabD x.2,.int x.1]) (λx=>x.2.length<=5/\(∀r∈x.2,r.length=x.2.length)/\x.1<x.2.length) λx=>tabD<|im x.2 x.1
def lv(i:Nat):bV:=fnS (λt:K5=>[tabD t]) (λt=>Sm 10 t.length t/\t.length<=i/\i<=5) λt=>.int<|cD t
def Eu:bV:=lv 5
def Ev(x:D):Except Str D:=ij x<|.ok (.int<|cD<|tbl (sI x)<|sN x)
def Ew(x:D):Except Str D:=ij x<|.ok (.lst<|(vI (sI x)<|sN x).map .int)
def Ey(x:D):Except Str D:=ij x<|.ok (yb<|d8 (sI x)<|sN x)
def yT:bV:=xS (λx:D=>[x]) (λx=>kd x=true) Ev
def yU:bV:=xS (λx:D=>[x]) (λx=>kd x=true) Ew
def Bf:bV:=xS (λx:D=>[x]) (λx=>kd x=true) Ey
section
variable{E:Rb}{x:D}
theorem N6(h1:t.length<=5)(h2:∀r∈t,r.length=t.length)(h3:k<t.length)(q:Q (tabD<|im t k)):Be [tabD t,.int k] E Q:=⟨(k,t),rfl,⟨h1,h2,h3⟩,q⟩
theorem N7(h:Sm 10 t.length t)(h5:t.length<=5)(q:Q (.int<|cD t)):Eu [tabD t] E Q:=⟨t,rfl,⟨h,h5,bZ _⟩,q⟩
theorem N8(h:IsSl s n)(q:Q (.int<|cD<|tbl s n)):yT [aT s] E Q:=xS.ok (aT s) rfl h.kd (by(try dsimp only);unfold Ev;rw[gK h,fw,h.sN]) q
theorem N9(h:IsSl s n)(q:Q (.lst<|(vI s n).map .int)):yU [aT s] E Q:=xS.ok (aT s) rfl h.kd (by(try dsimp only);unfold Ew;rw[gK h,fw,h.sN]) q
theorem Oa(h:kd x=true)(hb:fZ x=false)(e:E "NoSlants"):yU [x] E Q:=xS.err x rfl h (m6 hb) e
theorem Ob(h:IsSl s n)(q:Q (yb<|d8 s n)):Bf [aT s] E Q:=xS.ok (aT s) rfl h.kd (by(try dsimp only);unfold Ey;rw[gK h,fw,h.sN]) q
end
theorem Bg(t:K5)(j:Nat):(im t j).length=t.length-1:=by unfold im;rw[bH,lx]
theorem Ez(h:Sm b n t)(hj:j<n):Sm b (n-1) (im t j):=by
 refine⟨by rw[Bg,h.len],λr hr=>?_,λr hr x hx=>?_⟩;obtain⟨r',hr',rfl⟩:=YbU.mp hr;have:=h.row r'<|qc hr';unfold B.C.cutL;simp only[fN,iC,lx];omega
 obtain⟨r',hr',rfl⟩:=YbU.mp hr;exact h.sm r' (qc hr') x<|B.C.cut_mem hx
theorem Oc(h:Sm b n t)(hj:j<n):cD (im t j)=dt (cut (tA t) 0 j) (n-1):=by
 have e:=h.len;unfold cD;rw[Bg,e];refine Bc λi hi k hk=>?_;show B.C.ga (B.C.gr (im t j) i) k=B.C.ga (B.C.gr t<|sk 0 i) (sk j k);have e1:B.C.gr (im t j) i=B.C.cutL (B.C.gr t<|i+1) j:=by show(im t j).getD i []=_;unfold im B.C.gr;rw[aZ,cH,vf,aZ,vQ 1 i,bU<|E8];rfl
 rw[e1,show sk 0 i=i+1 from rfl,Iy (by rw[(h.gr (k:=i+1)<|E8).2.1];omega)]
theorem ID(h:Sm b n t)(n1:1<=n)(hn:n<=5):sumI (λj=>tA t 0 j*(sg j*cD (im t j))) n=cD t:=by have:=HX (tA t) hn (i:=0) (k:=0) E8 E8;rw[ks rfl]at this;rw[show cD t=dt (tA t) n from by unfold cD;rw[h.len],<-this];refine yr λj hj=>?_;unfold iB;rw[Oc h hj,vg]
theorem IE{f:Nat->Int}{B:Nat}:∀{n:Nat},(∀j,j<n->(f j).natAbs<=B)->(sumI f n).natAbs<=n*B
 |0,_=>by simp[sumI]|n+1,h=>by rw[sumI,oV];have h1:=IE (n:=n) λj hj=>h j E8;have h2:=h n E8;have:=rD (sumI f n)<|f n;omega
theorem EA(j:Nat):(sg j).natAbs=1:=by unfold sg;split<;>rfl
theorem Od{Z:Nat}(h:Sm b n t)(n1:1<=n)(hB:(cD<|im t j).natAbs<=Z):(tA t 0 j*(sg j*cD (im t j))).natAbs<=2^b*Z:=by rw[eI,eI,EA,Nat.one_mul];exact jp (gP<|B.C.ga_lt (h.gr (k:=0)<|E8).2.2) hB
theorem Zm{b:Nat}:∀{n:Nat} {t:K5},Sm b n t->n<=5->(cD t).natAbs<=2^(n*(b+3))
 |0,t,h,_=>by unfold cD;rw[h.len,Nat.zero_mul];exact bZ 1|n+1,t,h,hn=>by rw[<-ID h E8 hn];refine fL (IE (B:=2^b*2^(n*(b+3))) λj hj=>Od h E8<|Zm (Ez h hj)<|E8) ?_;rw[show(n+1)*(b+3)=3+(b+n*(b+3)) from by rw[oV];omega,kx,<-kx 2 b];exact jp E8<|bZ _
theorem EB(h:IsSl s n)(hk:k<=n)(hi:i<k)(hj:j<k):ent (cor s n k) k i j=ent s n i j:=by unfold ent cor;rw[aZ,rJ,ks<|E8,vf,aZ,show n-k+(k-1-i+j)=n-1-i+j by omega]
theorem Oe(h:IsSl s n):Sm 10 n (tbl s n):=⟨gX s n,λr hr=>(kH h r hr).1,λr hr x hx=>by
 have:=(kH h r hr).2 x hx;show x.natAbs<1024;omega⟩
abbrev Ze8:Q4:=["table", "column"]
def EC:WS:=(aN<|wL<|aLC (iS<|cL (wN 0) (eh<|wC<|.int<|1) fq) 1 [1] (gN 0) cX<|w2 gAdd (cL (wN 0) fq<|eh<|wN 1)<|cL (wN 0) (eh<|w2 gAdd (wN 1)<|wC<|.int<|1) fq)
abbrev sJ:Q4:=["table", "total", "sign", "column", "number"]
abbrev u3:Q4:=["table"]
def oP(W:WA->WE):WS:=(aL (cR (wT<|w2 (gEq false) (wB bQ<|aC (wN 0) aA)<|wC<|.int<|0) (aN<|wC<|.int<|1) cW)<|aL (aR 1<|wC<|.int<|0)<|aL (aR 2<|wC<|.int<|1)<|aL (bE<|bF (iE<|aC (w2 gIx (wN 0)<|wC<|.int<|0) aA) (ez 2<|c7 (gN 3)<|c7 (gN 4) et)<|aL (p9 1<|w2 gMul (w2 gMul (wN 2)<|wN 4)<|W<|aC (wF Be<|aC (wN 0)<|aC (wN 3) aA) aA)<|aR 2<|w1 jJ<|wN 2)<|aN<|wN 1)
abbrev Ziv:Q4:=["slants"]
def ED:WS:=(aN<|wF Eu<|aC (wF xK<|aC (wN 0) aA) aA)
abbrev ZeE:Q4:=["slants"]
def EE:WS:=(aL (gF<|wF ql<|aC (wN 0) aA)<|aN<|wL<|aLC (ig<|aC (wC<|.int<|1)<|aC (w2 gAdd (wF mZ<|aC (wN 0) aA)<|wC<|.int<|1) aA) 1 [0] (gN 0) cX<|wF yT<|aC (wF uC<|aC (wN 1)<|aC (wN 0) aA) aA)
abbrev ZgQ:Q4:=["slants"]
def EF:WS:=(aN<|wL<|aLC (Et<|aC (wF yU<|aC (wN 0) aA) aA) 2 [] (ez 2<|c7 (gN 0)<|c7 (gN 1) et) (wT<|w2 (gEq false) (wN 1)<|wC<|.int<|0)<|wN 0)
theorem IF{g:WG}{zb:WS}{E:Rb}{N:Nds}(I:Nat->cV->Prop):∀(xs:Rc) (k0:Nat),(∀k d,xs[k]? = some d->∀ρ,I (k0+k) ρ->∀nx:cV->Prop,(∀ρ,I (k0+k+1) ρ->nx ρ)->g (.tup [.int ((k0+k:Nat):Int),d]) ρ λρ1=>zb E { nx:=nx,rt:=N.rt,bk:=N.nx,ct:=nx } ρ1)->(∀ρ,I (k0+xs.length) ρ->N.nx ρ)->∀ρ,I k0 ρ->ZbA g zb E N (fe k0 xs) ρ
 |[],k0,_,hn,ρ,i=>hn ρ i
 | x::xs,k0,h,hn,ρ,i=>h 0 x rfl ρ i _<|IF I xs (k0+1) (λk d hd ρ hi nx hnx=>by
   have:=h (k+1) d hd ρ (by rw[show k0+(k+1)=k0+1+k by omega];exact hi) nx (λρ hρ=>hnx ρ (by rw[show k0+1+k+1=k0+(k+1)+1 by omega];exact hρ));rw[show k0+1+k=k0+(k+1) by omega];exact this) (λρ hρ=>hn ρ (by rw[dR,show k0+(xs.length+1)=k0+1+xs.length by omega];exact hρ))
theorem Of:Rd Be EC Ze8:=by rintro _ E Q ⟨⟨k,t⟩,rfl,⟨h5,hr,hk⟩,q⟩;dsimp only at h5 hr hk q;show EC E _ [.d<|.lst<|t.map aY,.d<|.int k];unfold EC;ext;rw[show cJ (t.map aY) (some 1) none=(t.map aY).drop 1 from AH (a:=1) (by rw[bH];omega),<-sY];refine iA (g:=aY) (f:=λr=>aY<|B.C.cutL r k) (t.drop 1) (λr hr' Q hq=>?_) .un [] (ji (by simp;omega)) ?_;have rl:=hr r (qc hr');unfold aY at hq ⊢;ext;rw[qq (b:=k) rfl,show((k:Int)+1)=((k+1:Nat):Int) from rfl,AH (by rw[bH];omega)];unfold B.C.cutL at hq;rw[ky,lV,sY]at hq;exact⟨ji (by simp;omega),hq⟩;unfold tabD B.C.tabD im at q;rw[dG]at q;exact q
theorem Bh{x:Int}(h:x.natAbs<=2^b)(hb:b<8990):Bd x:=mS h<|Nat.pow_lt_pow_right F4 hb
theorem Og:∀ds E Q,lv 0 ds E Q->oP (λ_=>DI) E { nx:=λ_=>Q .non,rt:=Q } (dP sJ ds):=by
 rintro _ E Q ⟨t,rfl,⟨h,h0,_⟩,q⟩;dsimp only at h h0 q;have e:t=[]:=List.length_eq_zero_iff.mp E8;subst e;show oP _ E _ [.d<|.lst [],.un,.un,.un,.un];unfold oP;refine bW<|ik (b:=true) (λP hP=>?_) (λ_=>?_) λe=>nomatch e
 ext;exact hP;exact q
theorem yV(i:Nat):∀ds E Q,lv (i+1) ds E Q->oP (wF<|lv i) E { nx:=λ_=>Q .non,rt:=Q } (dP sJ ds):=by
 rintro _ E Q ⟨t,rfl,⟨h,hi,i5⟩,q⟩;dsimp only at h hi i5 q;show oP _ E _ [.d<|.lst<|t.map aY,.un,.un,.un,.un];unfold oP;by_cases t0:t=[];subst t0;refine bW<|ik (b:=true) (λP hP=>?_) (λ_=>?_) λe=>nomatch e
 ext;exact hP;exact q;generalize hn:t.length=n at h hi;have n1:1<=n:=by rw[<-hn];exact List.length_pos_iff.mpr t0
 refine bW<|ik (b:=false) (λP hP=>?_) (λe=>nomatch e) λ_=>?_
 ext;rw[bH,hn,show((n:Int)==0)=false from by rw[QU];omega];exact hP;dsimp only;refine bW<|LP.set_by (d:=.int 0) (ρ':=[.d<|.lst<|t.map aY,.d<|.int 0,.un,.un,.un]) (by rfl) LP.c_at ?_;dsimp only;refine bW<|LP.set_by (d:=.int 1) (ρ':=[.d<|.lst<|t.map aY,.d<|.int 0,.d<|.int 1,.un,.un]) (by rfl) LP.c_at ?_;dsimp only;refine bW ?_;simp only[bE,bF];obtain⟨g1,g2,g3⟩:=h.gr (k:=0) E8;ext;refine⟨aY<|B.C.gr t 0,B.C.gr_map (k:=0) E8 rfl,?_⟩;have s5:∀k,k<n->(cD<|im t k).natAbs<=2^((n-1)*(10+3)):=λk hk=>Zm (Ez h hk) E8;refine IF (λk ρ=>∃s3 s4,ρ=[.d<|.lst<|t.map aY,.d<|.int<|sumI (λj=>tA t 0 j*(sg j*cD (im t j))) k,.d<|.int<|sg k,s3,s4]) _ 0 ?_ ?_ _ ⟨_,_,rfl⟩
 rintro k d hd _ ⟨s3,s4,rfl⟩ nx hnx;rw[vg]at hnx ⊢;have hk:k<n:=by have:=(Yaq.mp hd).1;rw[bH,g2]at this;exact this
 have ed:d=.int (tA t 0 k):=by rw[cH,B.C.ga_get g2 hk]at hd;exact(Qk hd).symm
 subst ed;refine⟨rfl,?_⟩;simp only[c7,et,gN,hJ,g9];show aL _ _ _ _ [.d<|.lst<|t.map aY,.d<|.int<|sumI (λj=>tA t 0 j*(sg j*cD (im t j))) k,.d<|.int<|sg k,.d<|.int k,.d<|.int<|tA t 0 k];generalize hS:sumI (λj=>tA t 0 j*(sg j*cD (im t j))) k=Sk;have eS:sumI (λj=>tA t 0 j*(sg j*cD (im t j))) (k+1)=Sk+sg k*tA t 0 k*cD (im t k):=by rw[sumI,hS];grind
 have ba:(tA t 0 k).natAbs<=2^10:=gP<|B.C.ga_lt g3;have bs:(sg k).natAbs<=2^0:=by rw[EA];exact bZ 1
 refine bW ?_;simp only[p9,gb,eJ,w2,wN];refine⟨⟨Bh bs<|F4,Bh ba<|F4⟩,?_⟩;simp only[wF,aC,aA,wN,gb,eJ];refine N6 (t:=t) E8 (λr hr=>by rw[h.row r hr,hn]) E8 ?_;refine⟨im t k,rfl,⟨?_,?_,E8⟩,?_⟩;rw[Bg,hn];exact Ez h hk;rw[Bg,hn];omega;have hb4:(n-1)*(10+3)<8990:=mS (jp (show n-1<=4 by omega)<|bZ<|10+3) F4;have b1:(sg k*tA t 0 k).natAbs<=2^10:=by rw[eI,EA,Nat.one_mul];exact ba
 refine⟨⟨Bh b1<|F4,Bh (s5 k hk) hb4⟩,?_⟩;try dsimp only
 show aR 2 (w1 jJ<|wN 2) _ _ [.d<|.lst<|t.map aY,.d<|.int<|Sk+sg k*tA t 0 k*cD (im t k),.d<|.int<|sg k,.d<|.int k,.d<|.int<|tA t 0 k];refine LP.set_by (d:=.int<|sg<|k+1) (ρ':=[.d<|.lst<|t.map aY,.d<|.int<|Sk+sg k*tA t 0 k*cD (im t k),.d<|.int<|sg<|k+1,.d<|.int k,.d<|.int<|tA t 0 k]) (by rfl) (λP hP=>?_)<|hnx _ ⟨_,_,by rw[eS]⟩;have:sg (k+1) = - sg k:=by unfold sg;by_cases z:k%2=0;rw[ks z,fz<|E8];rw[fz z,ks<|E8];rfl
 rw[this]at hP;exact hP;rintro _ ⟨s3,s4,rfl⟩;rw[bH,g2,vg,ID h n1<|E8];exact q
theorem Oh:Rd yT ED Ziv:=by
 rintro _ E Q ⟨x,rfl,hk,q⟩;show ED E _ [.d x];unfold ED;ext;unfold Ev at q;cases e:fZ x with
 |false=>exact xS.err x rfl hk (m6 e)<|lh e q
 |true=>
 obtain⟨s,n,rfl,h⟩:=m7 e;replace q:=li h q;rw[fw,h.sN]at q;have:=Oe h;exact F8 h<|N7 (t:=tbl s n) (by rw[gX];exact this) (by rw[gX];exact h.n5) q
theorem Oi(h:IsSl s n){Q:Rc->Prop}(q:Q ((vI s n).map .int)):lcW (gN 0) cX (wF yT<|aC (wF uC<|aC (wN 1)<|aC (wN 0) aA) aA) (rng 1 n) [.un,.d<|aT s] [] Q:=by
 have n5:=h.n5;have e:rng 1 n=(List.range n).map λ(k:Nat)=>D.int ((k+1:Nat):Int):=by unfold rng;exact jo λk _=>by simp;omega
 rw[e];refine iA (g:=λk:Nat=>D.int ((k+1:Nat):Int)) (f:=λk=>D.int<|cD<|tbl (cor s n<|k+1)<|k+1) (List.range n) (λk hk Q hq=>?_) .un [] (ji (by simp;omega)) ?_;rw[Yag]at hk;ext;exact Ds h E8 E8<|N8 (jh h E8<|E8) hq
 unfold vI at q;rw[dG]at q;exact q
theorem Oj:Rd yU EE ZeE:=by
 rintro _ E Q ⟨x,rfl,hk,q⟩;show EE E _ [.d x];unfold EE;refine bW ?_;simp only[gF,wF,aC,aA,wN,eJ];unfold Ew at q;cases e:fZ x with
 |false=>exact F7 hk e<|lh e q
 |true=>
 obtain⟨s,n,rfl,h⟩:=m7 e;replace q:=li h q;rw[fw,h.sN]at q;have n5:=h.n5;refine F6 h ?_;simp only[aN,wL,aLC,ig,wF,aC,aA,wN,wC,w2,ZbP,eJ,c8,gG,List.replicate,gR,dQ];refine uF h ?_;ext;refine⟨E8,?_⟩;rw[show((n:Int)+1-1).toNat=n by omega];exact Oi h q
theorem EG{Q:Rc->Prop}(f:Nat->Int)(P:Nat->Bool)(hP:∀k,P k=(f k==0)):∀(n k0:Nat) (sv sv':SV) (acc:Rc),acc.length+n<=5000->Q (acc++(((List.range n).filter λk=>P<|k0+k).map λk=>D.int ((k0+k+1:Nat):Int)))->lcW (ez 2<|c7 (gN 0)<|c7 (gN 1) et) (wT<|w2 (gEq false) (wN 1)<|wC<|.int<|0) (wN 0) (fe (k0+1)<|(List.range n).map λk=>D.int<|f<|k0+k) (sv::sv'::[]) acc Q
 |0,k0,sv,sv',acc,_,hq=>by simpa[lcW,fe] using hq
 |n+1,k0,sv,sv',acc,hl,hq=>by
  rw[zX,c8,dG,fe,lcW];refine⟨rfl,?_⟩;show wT (w2 (gEq false) (wN 1)<|wC<|.int 0) No (SV.d (.int ((k0+1:Nat):Int))::SV.d (.int<|f<|k0+0)::[]) _;simp only[wT,w2,wN,wC,gb,eJ,kZ];have eq1:(λk=>D.int<|f<|k0+k)∘Nat.succ=λk=>D.int (f<|k0+1+k):=by funext k;show D.int (f<|k0+(k+1))=_;rw[show k0+(k+1)=k0+1+k by omega]
  rw[eq1];have eq2:((List.map Nat.succ<|List.range n).filter λk=>P<|k0+k).map (λk=>D.int ((k0+k+1:Nat):Int))=((List.range n).filter λk=>P<|k0+1+k).map λk=>D.int ((k0+1+k+1:Nat):Int):=by
   rw[List.filter_map,dG];have:((λk=>P<|k0+k)∘Nat.succ)=λk=>P (k0+1+k):=by funext k;show P (k0+(k+1))=_;rw[show k0+(k+1)=k0+1+k by omega]
   rw[this];exact jo λk _=>by show D.int ((k0+(k+1)+1:Nat):Int)=_;rw[show k0+(k+1)+1=k0+1+k+1 by omega]
  rw[zX]at hq;have b0:(f (k0+0)==0)=P (k0+0):=(hP _).symm;cases e:P (k0+0) with
  |true=>rw[z0<|by exact e,c8,eq2]at hq;rw[lO,b0,e,ks (show(if false=true then !true else true)=true from rfl)];show acc.length<aO/\_;refine⟨by unfold aO;omega,?_⟩;exact EG f P hP n (k0+1) _ _ _ (by simp;omega) (by rw[oU];exact hq)|false=>rw[Cc (by rw[e];decide),eq2]at hq;rw[lO,b0,e,fz (show¬(if false=true then !false else false)=true by decide)];exact EG f P hP n (k0+1) _ _ _ E8 hq
theorem Ol(h:IsSl s n){Q:Rc->Prop}(q:Q ((d8 s n).map λ(k:Nat)=>D.int (k:Int))):lcW (ez 2<|c7 (gN 0)<|c7 (gN 1) et) (wT<|w2 (gEq false) (wN 1)<|wC<|.int<|0) (wN 0) (fe 1<|(vI s n).map .int) (.un::.un::[]) [] Q:=by
 have n5:=h.n5;unfold vI;rw[dG];have:=EG (Q:=Q) (λk=>cD<|tbl (cor s n<|k+1)<|k+1) (λk=>cD (tbl (cor s n<|k+1)<|k+1) == 0) (λ_=>rfl) n 0 .un .un [] (by simp;omega) (by
  unfold d8 at q;rw[dG]at q;simp only[vg,dQ];exact q)
 simp only[vg]at this;exact this
theorem Om:Rd Bf EF ZgQ:=by
 rintro _ E Q ⟨x,rfl,hk,q⟩;show EF E _ [.d x];unfold EF;simp only[aN,wL,aLC,Et,wF,aC,aA,wN,ZbP,eJ,c8,gG,List.replicate,gR,dQ];unfold Ey at q;cases e:fZ x with
 |false=>exact Oa hk e<|lh e q
 |true=>
 obtain⟨s,n,rfl,h⟩:=m7 e;replace q:=li h q;rw[fw,h.sN]at q;refine N9 h ⟨_,rfl,?_⟩;exact Ol h q
namespace Gs
section
variable{B:Nat->Q5}
theorem Bk.solve(h:Bk n T B){X y:Q5}(e:∀i,i<n->aJ (λk=>T i k*X k) n=y i)(hk:k<n):X k=aJ (λm=>B k m*y m) n:=by
 rw[<-Zp X hk];rw [cM (g:=λi=>aJ (λm=>B k m*(T m i*X i)) n) (λi hi=>by
  rw[<-h.bt k i hk hi,mW,<-sumN_mul];exact cM λm _=>by grind),sumN_swap]
 exact cM λm hm=>by rw[sumN_mul,e m hm]
end
theorem IG{a c:QZ}(h:a.length=c.length):(bS a q c).getD j 0=a.getD j 0-q*c.getD j 0:=by unfold bS;simp only[aZ];by_cases hj:j<a.length;rw[bU (by rw[rC];omega),bU hj,bU<|E8,vh];rfl;rw[eA (by rw[rC];omega),eA<|E8,eA<|E8];show(0:Rat)=0-q*0;grind
theorem oQ{a c:QZ}(h:a.length=c.length):(bS a q c).length=a.length:=by unfold bS;rw[rC];omega
theorem by_at{a:QZ}:(dL a q).getD j 0=a.getD j 0/q:=by
 unfold dL;rw[aZ,cH,aZ];cases a[j]? with
 |none=>show(0:Rat)=0/_;rw[gD,kK]|some x=>rfl
theorem IH{a:QZ}:(dL a q).length=a.length:=by unfold dL;rw[bH]
theorem ext_at{a b:QZ}(ha:a.length=n)(hb:b.length=n)(h:∀k,k<n->a.getD k 0=b.getD k 0):a=b:=by
 refine td (by rw[ha,hb]) λt h1 h2=>?_;have e1:a[t]=a.getD t 0:=by rw[aZ,bU h1];rfl
 have e2:b[t]=b.getD t 0:=by rw[aZ,bU h2];rfl
 rw[e1,e2];exact h t E8
section
theorem cor_cor(hk:k<=n)(hj:j<=k)(j1:1<=j)(h:IsSl s n):cor (cor s n k) k j=cor s n j:=by have hl:=h.len;unfold cor;rw[List.drop_take,List.drop_drop,List.take_take];congr 1;omega;congr 1;omega
def Stg(s:QY)(n:Nat):Prop:=∀k,1<=k->k<=n->fK (cor s n k) k=[]
theorem wk_stg(h:IsSl s n):d8 s n=[]↔Stg s n:=by
 unfold d8 Stg;rw[List.map_eq_nil_iff,Yc6];constructor;intro e k k1 kn;have:=e (k-1)<|Yag.mpr E8;rw[show k-1+1=k by omega]at this;refine(rm<|jh h k1 kn).mpr λz=>this ?_;unfold cD;rw[gX,z];rfl
 intro e a ha z;rw[Yag]at ha;have:=(rm<|jh h E8<|E8).mp<|e (a+1) E8 E8;apply this;have z':cD (tbl (cor s n<|a+1)<|a+1)=0:=by simpa using z
 unfold cD at z';rw[gX]at z';exact z'
theorem Stg.cor(h:IsSl s n)(g:Stg s n)(k1:1<=k)(kn:k<=n):Stg (cor s n k) k:=λj j1 jk=>by rw[cor_cor kn jk j1 h];exact g j j1 E8
theorem On(h:IsSl s n):LP.cor s n n=s:=by have:=h.len;unfold LP.cor;rw[vY,sV,List.take_of_length_le<|E8]
theorem Stg.full(h:IsSl s n)(g:Stg s n):fK s n=[]:=by have:=g n h.n1<|bZ _;rw[On h]at this;exact this
def fh(s:QY)(n:Nat):QZ:=mD (uZ s n) 0
def lstF(s:QY)(n:Nat):QZ:=mD (uZ s n)<|n-1
def bq(s:QY)(n i j:Nat):Rat:=((uZ s n).getD i []).getD j 0
def tq(s:QY)(n i j:Nat):Rat:=(tA (tbl s n) i j:Rat)
theorem bkq(h:IsSl s n)(e:fK s n=[]):Bk n (tq s n) (bq s n):=yR h e
theorem tzq(h:IsSl s n):Tz n (tq s n):=yS h
theorem rp(h:IsSl s n)(e:fK s n=[]):(fh s n).length=n:=by unfold fh;rw[G3,(sF h e).1]
theorem lst_len(h:IsSl s n)(e:fK s n=[]):(lstF s n).length=n:=by unfold lstF;rw[G3,(sF h e).1]
theorem yW(h:IsSl s n)(e:fK s n=[])(hk:k<n):(fh s n).getD k 0=bq s n k 0:=IC (by rw[(sF h e).1];exact hk)
theorem lst_at'(h:IsSl s n)(e:fK s n=[])(hk:k<n):(lstF s n).getD k 0=bq s n k (n-1):=IC (by rw[(sF h e).1];exact hk)
theorem tq_cor(h:IsSl s n)(k1:1<=k)(hk:k<=n)(hi:i<k)(hj:j<k):tq (cor s n k) k i j=tq s n i j:=by unfold tq;rw[tA_ent (jh h k1 hk) hi hj,tA_ent h E8<|E8,EB h hk hi hj]
theorem Oo(h:IsSl s n)(hi:i<n)(hj:j<n):(iB (tA<|tbl s n) n j i).natAbs<=2^36:=by
 have hs:=B.C.tbl_Sm h;have n5:=h.n5;have p:=B.C.prt_sm hs hi hj;rw[<-N3 hs n5 hi hj,eI];have e:(B.C.sgn i j).natAbs=1:=by rcases B.C.sgn_one i j with z|z<;>rw[z]<;>rfl
 rw[e,Nat.mul_one,num_dt p<|E8];have:=Zm p E8;unfold cD at this;rw[p.len]at this;refine fL this<|jU F4 ?_;have:n-1<=4:=E8
 exact fL (jp this<|bZ<|6+3) F4
theorem yX(h:IsSl s n):(dt (tA<|tbl s n) n).natAbs<=2^45:=by have hs:=B.C.tbl_Sm h;have:=Zm hs h.n5;unfold cD at this;rw[gX]at this;exact fL this<|jU F4 (fL (jp h.n5<|bZ<|6+3)<|F4)
theorem II(h:IsSl s n)(e:fK s n=[])(hi:i<n)(hj:j<n):Sz 50 (bq s n i j):=by unfold bq;rw[(sF h e).2 i j hi hj,<-o4];have a:=Oo h hi hj;have b:=yX h;exact xR ((rm h).mp e) (mS a<|F4)<|mS b F4
theorem Op(h:IsSl s n)(e:fK s n=[]):∀x∈fh s n,Sz 50 x:=λx hx=>by
 obtain⟨i,hi,ex⟩:=Ybx.mp hx;rw[rp h e]at hi;have:(fh s n).getD i 0=x:=by rw[aZ,bU (by rw[rp h e];exact hi)];exact ex
 rw[<-this,yW h e hi];exact II h e hi E8
theorem lst_sz(h:IsSl s n)(e:fK s n=[]):∀x∈lstF s n,Sz 50 x:=λx hx=>by
 obtain⟨i,hi,ex⟩:=Ybx.mp hx;rw[lst_len h e]at hi;have:(lstF s n).getD i 0=x:=by rw[aZ,bU (by rw[lst_len h e];exact hi)];exact ex
 rw[<-this,lst_at' h e hi];exact II h e hi (by have:=h.n1;omega)
theorem tims_len(r:QZ):(bR s n r).length=n:=by unfold bR;rw[bH,gX]
theorem tims_at(h:IsSl s n)(hr:r.length=n)(hi:i<n):(bR s n r).getD i 0=aJ (λj=>tq s n i j*r.getD j 0) n:=by
 have e1:bR s n r=(mE s n).map λl=>du l r:=by unfold bR mE;rw[dG];rfl
 rw[e1,aZ,cH];have:(mE s n)[i]? = some ((mE s n).getD i []):=by rw[aZ,bU (by rw[Hw];exact hi)];rfl
 rw[this];exact NP h hi hr
theorem bq00(h:IsSl s n)(e:fK s n=[])(e':n=1\/2<=n/\fK (cor s n<|n-1) (n-1)=[]):bq s n 0 0≠0:=by
 have n1:=h.n1;unfold bq;rw[(sF h e).2 0 0 E8<|E8];have dz:(dt (tA<|tbl s n) n:Rat)≠0:=by exact_mod_cast (rm h).mp e
 have cz:(iB (tA<|tbl s n) n 0 0:Rat)≠0:=by
  have:iB (tA<|tbl s n) n 0 0≠0:=by
   unfold iB;rw[show sg (0+0)=1 from rfl,vR];rcases e' with rfl|⟨n2',e'⟩
   exact show(1:Int)≠0 by decide
   have n2:1<=n-1:=E8
   have c:=jh h n2<|Nat.sub_le n 1;have:=(rm c).mp e';rw[<-Bc (A:=tA<|tbl (cor s n<|n-1)<|n-1) (B:=cut (tA<|tbl s n) 0 0) λi hi j hj=>?_]
   exact this;show _=tA (tbl s n) (i+1) (j+1);rw[tA_ent c hi hj,EB h (Nat.sub_le n 1) hi hj,tA_ent h E8<|E8];unfold ent;rw[show n-1-i+j=n-1-(i+1)+(j+1) by omega]
  exact_mod_cast this
 intro z;rw[gD]at z;rcases Yc8.mp z with z|z
 exact cz z;have:=lA _ dz;rw[z,Rat.mul_zero]at this;exact Qj this F4
end
section
theorem EH{a:QZ}:(a++[0]).getD k 0=a.getD k 0:=by
 rw[NR];split;rfl;rename_i h;have:a.getD k 0=0:=by rw[aZ,eA<|E8];rfl
 rw[this];cases k-a.length<;>rfl
theorem Oq{a:QZ}:((0:Rat)::a).getD (k+1) 0=a.getD k 0:=List.getD_cons_succ
def cO(s:QY)(n:Nat):QZ:=fh (cor s (n+1) n) n++[0]
def cZ(s:QY)(n:Nat):QZ:=0::lstF (cor s (n+1) n) n
def gC(s:QY)(n:Nat):Rat:=(bR s (n+1)<|cO s n).getD n 0
def ip(s:QY)(n:Nat):Rat:=(bR s (n+1)<|cZ s n).getD 0 0
def f9(s:QY)(n:Nat):Rat:=1-gC s n*ip s n
theorem EI(h:IsSl s (n+1))(n1:1<=n)(ec:fK (cor s (n+1) n) n=[])(hi:i<n+1):aJ (λk=>tq s (n+1) i k*(cO s n).getD k 0) (n+1)=if i=n then gC s n else dl i 0:=by
 have c:=jh h n1<|oY n;have bl:(cO s n).length=n+1:=by unfold cO;rw[fN,rp c ec];rfl
 split;rename_i e;subst e;rw[<-tims_at h bl hi];rfl;rename_i e;have hi':i<n:=E8
 rw[aJ];have z:(cO s n).getD n 0=0:=by unfold cO;rw[EH,aZ,eA (by rw[rp c ec];exact bZ _)];rfl
 rw[z,Rat.mul_zero,jV,<-(bkq c ec).tb i 0 hi' E8];refine cM λk hk=>?_;unfold cO;rw[EH,yW c ec hk,tq_cor h n1 (oY n) hi' hk]
theorem EJ(h:IsSl s (n+1))(n1:1<=n)(ec:fK (cor s (n+1) n) n=[])(hi:i<n+1):aJ (λk=>tq s (n+1) i k*(cZ s n).getD k 0) (n+1)=if i=0 then ip s n else dl i n:=by
 have c:=jh h n1<|oY n;have bl:(cZ s n).length=n+1:=by unfold cZ;rw[dR,lst_len c ec]
 split;rename_i e;subst e;rw[<-tims_at h bl hi];rfl;rename_i e;obtain⟨i',rfl⟩:∃i',i=i'+1:=⟨i-1,E8⟩;rw[vG];have z:(cZ s n).getD 0 0=0:=rfl;rw[z,Rat.mul_zero,ve];have:dl (i'+1) n=dl i' (n-1):=by unfold dl;by_cases q:i'+1=n;rw[ks q,ks<|E8];rw[fz q,fz<|E8]
 rw[this,<-(bkq c ec).tb i' (n-1) E8 E8];refine cM λk hk=>?_;unfold cZ;rw[Oq,lst_at' c ec hk,tq_cor h n1 (oY n) E8 hk,(tzq h).sl (i'+1) (k+1) i' k E8 E8 E8 E8<|E8]
theorem EK(h:IsSl s (n+1))(n1:1<=n)(e:fK s (n+1)=[])(ec:fK (cor s (n+1) n) n=[])(e2:n=1\/2<=n/\fK (cor s (n+1)<|n-1) (n-1)=[]):f9 s n≠0:=by
 intro z;have c:=jh h n1<|oY n;have b0:bq (cor s (n+1) n) n 0 0≠0:=bq00 c ec<|e2.imp id λ⟨a,b⟩=>⟨a,by rw[cor_cor (oY n) (Nat.sub_le n 1) E8 h];exact b⟩;have x:=(bkq h e).solve (X:=λk=>(cO s n).getD k 0 - gC s n*(cZ s n).getD k 0) (y:=λ_=>0) (λi hi=>by
  rw[cM (g:=λk=>tq s (n+1) i k*(cO s n).getD k 0-gC s n*(tq s (n+1) i k*(cZ s n).getD k 0))<|λk _=>by grind,oO,sumN_mul,EI h n1 ec hi,EJ h n1 ec hi];unfold f9 at z
  by_cases i0:i=0
  .subst i0
   rw[fz<|E8,ks rfl,sG];exact z
  .rw[fz i0]
   by_cases i2:i=n
   .subst i2;rw[ks rfl,sG];grind
   .rw[fz i2,sH i2,sH i0];grind) (k:=0) E8
 rw[lR<|λm _=>Rat.mul_zero _]at x;have:(cO s n).getD 0 0=bq (cor s (n+1) n) n 0 0:=by unfold cO;rw[EH,yW c ec<|E8]
 rw[this]at x;have z2:(cZ s n).getD 0 0=0:=rfl;rw[z2]at x;exact b0 (by grind)
theorem Os(h:IsSl s (n+1))(n1:1<=n)(e:fK s (n+1)=[])(ec:fK (cor s (n+1) n) n=[])(e2:n=1\/2<=n/\fK (cor s (n+1)<|n-1) (n-1)=[]):dL (bS (cO s n) (gC s n)<|cZ s n) (f9 s n)=fh s (n+1):=by
 have c:=jh h n1<|oY n;have lz:=EK h n1 e ec e2;have bl:(cO s n).length=n+1:=by unfold cO;rw[fN,rp c ec];rfl
 have el:(cZ s n).length=n+1:=by unfold cZ;rw[dR,lst_len c ec]
 refine ext_at (n:=n+1) (by rw[IH,oQ<|E8,bl]) (rp h e) λk hk=>?_;rw[yW h e hk];refine(bkq h e).uniq (X:=λk=>(dL (bS (cO s n) (gC s n)<|cZ s n)<|f9 s n).getD k 0) E8 (λi hi=>?_) hk;rw[cM (g:=λk=>(f9 s n)⁻¹*(tq s (n+1) i k*(cO s n).getD k 0-gC s n*(tq s (n+1) i k*(cZ s n).getD k 0))) (λk _=>by rw[by_at,IG<|E8,gD];grind),sumN_mul,oO,sumN_mul,EI h n1 ec hi,EJ h n1 ec hi];by_cases i0:i=0;subst i0;rw[fz<|E8,ks rfl,sG];exact z5 _ lz;rw[fz i0,sH i0];by_cases i2:i=n;subst i2;rw[ks rfl,sG];grind;rw[fz i2,sH i2];grind
theorem Ot(h:IsSl s (n+1))(n1:1<=n)(e:fK s (n+1)=[])(ec:fK (cor s (n+1) n) n=[])(e2:n=1\/2<=n/\fK (cor s (n+1)<|n-1) (n-1)=[]):dL (bS (cZ s n) (ip s n)<|cO s n) (f9 s n)=lstF s (n+1):=by
 have c:=jh h n1<|oY n;have lz:=EK h n1 e ec e2;have bl:(cO s n).length=n+1:=by unfold cO;rw[fN,rp c ec];rfl
 have el:(cZ s n).length=n+1:=by unfold cZ;rw[dR,lst_len c ec]
 refine ext_at (n:=n+1) (by rw[IH,oQ<|E8,el]) (lst_len h e) λk hk=>?_;rw[lst_at' h e hk,show n+1-1=n by omega];refine(bkq h e).uniq (X:=λk=>(dL (bS (cZ s n) (ip s n)<|cO s n)<|f9 s n).getD k 0) E8 (λi hi=>?_) hk;rw[cM (g:=λk=>(f9 s n)⁻¹*(tq s (n+1) i k*(cZ s n).getD k 0-ip s n*(tq s (n+1) i k*(cO s n).getD k 0))) (λk _=>by rw[by_at,IG<|E8,gD];grind),sumN_mul,oO,sumN_mul,EI h n1 ec hi,EJ h n1 ec hi];by_cases i2:i=n;subst i2;rw[fz<|E8,ks rfl,sG];have:(f9 s i)⁻¹*f9 s i=1:=z5 _ lz;unfold f9 at this ⊢;rw[mW<|ip s i];exact this;rw[fz i2,sH i2];by_cases i0:i=0;subst i0;rw[ks rfl,sG];grind;rw[fz i0,sH i0];grind
end
end Gs
open Gs
def iR(s:QY)(n:Nat):D:=.tup [aH<|fh s n,aH<|lstF s n]
def IJ:Q6->D
 |[]=>.non|k::_=>.int (k:Int)
def EL(x:D):Except Str D:=ij x<|.ok (IJ<|d8 (sI x)<|sN x)
def Bj:bV:=xS (λx:D=>[x]) (λx=>kd x=true) EL
def Bl:bV:=fnS (λx:SL=>[aT x.1]) (λx=>IsSl x.1 x.2/\Stg x.1 x.2) λx=>iR (cor x.1 x.2 1) 1
def Bm:bV:=fnS (λx:SL=>[aT x.1,iR (cor x.1 (x.2+1) x.2) x.2]) (λx=>IsSl x.1 (x.2+1)/\1<=x.2/\Stg x.1 (x.2+1)) λx=>iR x.1<|x.2+1
section
variable{E:Rb}{x:D}{r:QY}
theorem IK(h:IsSl s n)(q:Q (IJ<|d8 s n)):Bj [aT s] E Q:=xS.ok (aT s) rfl h.kd (by(try dsimp only);unfold EL;rw[gK h,fw,h.sN]) q
theorem Ou(h:IsSl s n)(g:Stg s n)(q:Q (iR (cor s n 1) 1)):Bl [aT s] E Q:=⟨(s,n),rfl,⟨h,g⟩,q⟩
theorem Ov(h:IsSl s (n+1))(n1:1<=n)(g:Stg s (n+1))(q:Q (iR s<|n+1)):Bm [aT s,iR (cor s (n+1) n) n] E Q:=⟨(s,n),rfl,⟨h,n1,g⟩,q⟩
end
abbrev ZgT:Q4:=["slants", "sizes"]
def EM:WS:=(aL (aR 1<|wF Bf<|aC (wN 0) aA)<|aN<|kC (wT<|w2 pV (wB bQ<|aC (wN 1) aA)<|wC<|.int<|0) (w2 gIx (wN 1)<|wC<|.int<|0)<|wC D.non)
abbrev ZgU:Q4:=["slants", "row"]
def EN:WS:=(aL (aR 1<|wF uR<|aC (bD<|aC (wC<|D.tup [(D.int<|1),(D.int<|1)]) aA)<|aC (w2 gIx (wF uB<|aC (wF uC<|aC (wN 0)<|aC (wC<|.int<|1) aA) aA)<|wC<|.int<|0) aA)<|aN<|bD<|aC (wN 1)<|aC (wN 1) aA)
abbrev Zga:Q4:=["slants", "step", "first", "last", "below", "above", "left"]
def EO:WS:=(aL (aR 2<|w2 gAdd (w2 gIx (wN 1)<|wC<|.int<|0)<|bD<|aC (wC<|D.tup [(D.int<|0),(D.int<|1)]) aA)<|aL (aR 3<|w2 gAdd (bD<|aC (wC<|D.tup [(D.int<|0),(D.int<|1)]) aA)<|w2 gIx (wN 1)<|wC<|.int<|1)<|aL (aR 4<|w2 gIx (wF ss<|aC (wN 0)<|aC (wN 2) aA)<|w1 jJ<|wC<|.int<|1)<|aL (aR 5<|w2 gIx (wF ss<|aC (wN 0)<|aC (wN 3) aA)<|wC<|.int<|0)<|aL (aR 6<|wF uz<|aC (wC<|D.tup [(D.int<|1),(D.int<|1)])<|aC (wF uA<|aC (wN 4)<|aC (wN 5) aA) aA)<|aN<|bD<|aC (wF uR<|aC (wF rh<|aC (wN 2)<|aC (wN 4)<|aC (wN 3) aA)<|aC (wN 6) aA)<|aC (wF uR<|aC (wF rh<|aC (wN 3)<|aC (wN 5)<|aC (wN 2) aA)<|aC (wN 6) aA) aA)
section
theorem IL{b:Nat}:∀{a c:QZ},(∀x∈a,Sz 7 x)->(∀x∈c,Sz b x)->Sz (a.length*(b+8)+1) (du a c)
 |[],c,_,_=>by unfold du;exact Sz.zero E8|_::_,[],_,_=>by unfold du;exact Sz.zero E8|x::a,y::c,ha,hc=>by rw[du];have ih:=IL (a:=a) (c:=c) (b:=b) (λz hz=>ha z<|by simp[hz]) λz hz=>hc z (by simp[hz]);exact(((ha x<|KE).mul<|hc y<|KE).add ih).mono (by rw[dR,oV];omega)
theorem IM(h:IsSl s n)(hr:∀x∈r,Sz b x):∀x∈bR s n r,Sz (5*(b+8)+1) x:=λx hx=>by
 unfold bR at hx;obtain⟨l,hl,rfl⟩:=YbU.mp hx;obtain⟨h1,h2⟩:=kH h l hl;have:=IL (a:=dJ l) (c:=r) (b:=b) (λz hz=>by
  obtain⟨i,hi,rfl⟩:=YbU.mp hz;exact(AJ<|h2 i hi).mono<|F4) hr
 have e:(dJ l).length=n:=by unfold dJ;rw[bH];exact h1
 rw[e]at this;exact this.mono (by have:=jp h.n5 (bZ<|b+8);omega)
theorem IN(h:IsSl s n)(hr:∀x∈r,Sz b x)(hi:i<n):(bR s n r)[i]? = some ((bR s n r).getD i 0)/\Sz (5*(b+8)+1) ((bR s n r).getD i 0):=by
 have e:(bR s n r)[i]? = some ((bR s n r).getD i 0):=by rw[aZ,bU (by rw[tims_len];exact hi)];rfl
 exact⟨e,IM h hr _<|iD e⟩
theorem Ow(hn:r.length=n)(h:1<=n):eG (r.map aU) (-1)=some (aU<|r.getD (n-1) 0):=by unfold eG j4;rw[bH,hn,fz<|F4,ks<|E8,show(-1+(n:Int)).toNat=n-1 by omega];show(r.map aU)[n-1]? = _;rw[cH,aZ,bU<|E8];rfl
end
theorem Ox:Rd Bj EM ZgT:=by
 rintro _ E Q ⟨x,rfl,hk,q⟩;show EM E _ [.d x,.un];unfold EM;unfold EL at q;cases e:fZ x with
 |false=>
  refine bW ?_;ext;exact xS.err x rfl hk (m6 e)<|lh e q
 |true=>
 obtain⟨s,n,rfl,h⟩:=m7 e;replace q:=li h q;rw[fw,h.sN]at q;refine bW<|LP.set_by (d:=yb<|d8 s n) (ρ':=[.d<|aT s,.d<|yb<|d8 s n]) (by rfl) (λP hP=>?_) ?_
 .ext
  exact Ob h hP
 dsimp only;generalize d8 s n=W at q;unfold yb;cases W with
 |nil=>
  ext;exact q
 |cons k W=>
  ext;rw[Qm<|KE];simp only[if_true];exact⟨_,aS (j:=0) rfl,q⟩
theorem Oy(h:IsSl s 1)(e:fK s 1=[]):s.getD 0 0≠0/\dL [1] (s.getD 0 0:Rat)=fh s 1:=by
 have hl:=h.len;have d:dt (tA<|tbl s 1) 1=s.getD 0 0:=by show tA (tbl s 1) 0 0=_;rw[tA_ent h F4<|F4];rfl
 refine⟨by rw[<-d];exact(rm h).mp e,?_⟩;refine ext_at (n:=1) rfl (rp h e) λk hk=>?_;obtain rfl:k=0:=E8
 rw[yW h e<|F4];unfold Gs.bq;rw[(sF h e).2 0 0 F4<|F4,d];rfl
theorem Oz:Rd Bl EN ZgU:=by
 rintro _ E Q ⟨⟨s,n⟩,rfl,⟨h,g⟩,q⟩;dsimp only at h g q;have n1:=h.n1;have c:=jh h (bZ 1) n1;have ec:=g 1 (bZ _) n1;obtain⟨z,ef⟩:=Oy c ec;have cl:=c.len;have c5:(cor s n 1).length<=5000:=E8
 have q':Q (.tup [aH<|fh (cor s n 1) 1,aH<|fh (cor s n 1) 1]):=q;clear q;show EN E _ [.d<|aT s,.un];unfold EN;refine bW<|LP.set_by (d:=aH<|fh (cor s n 1) 1) (ρ':=[.d<|aT s,.d<|aH<|fh (cor s n 1) 1]) (by rfl) (λP hP=>?_) ?_
 ext;refine⟨F4,?_⟩;refine Ds h (bZ 1) n1<|LQ (xs:=cor s n 1) c5 ?_;have c0:(dJ<|cor s n 1).getD 0 0=((cor s n 1).getD 0 0:Rat):=by unfold dJ;rw[aZ,cH,aZ,bU<|E8];rfl
 refine⟨_,Hv (r:=dJ<|cor s n 1) (k:=0) (by unfold dJ;rw[bH];omega),?_⟩;rw[c0];rw[<-ef]at hP;have b0:-50<=(cor s n 1).getD 0 0/\(cor s n 1).getD 0 0<=50:=by refine c.b _ ?_;rw[aZ,bU<|E8];exact jn _
 exact AY (b:=10) (r:=[1]) F4 F4 (λy hy=>by rw[YcT.mp hy];exact Sz.int (n:=10) 1 F4<|F4) ((AJ b0).mono<|F4) (by exact_mod_cast z) hP;dsimp only;ext;exact⟨F4,q'⟩
theorem OA:Rd Bm EO Zga:=by
 rintro _ E Q ⟨⟨s,n⟩,rfl,⟨h,n1,g⟩,q⟩;dsimp only at h n1 g q;have n5:=h.n5;have c:=jh h n1<|oY n;have ec:=g n n1<|oY n;have e:=g.full h;have e2:n=1\/2<=n/\fK (cor s (n+1)<|n-1) (n-1)=[]:=by
  rcases eV n 2 with z|z
  exact .inl E8;exact .inr ⟨z,g (n-1) E8<|E8⟩
 have lz:=EK h n1 e ec e2;have lf:=Os h n1 e ec e2;have ll:=Ot h n1 e ec e2;have fl:=rp c ec;have el:=lst_len c ec;have bl:(cO s n).length=n+1:=by unfold cO;rw[fN,fl];rfl
 have nl:(cZ s n).length=n+1:=by unfold cZ;rw[dR,el]
 have bs:∀x∈cO s n,Sz 50 x:=λx hx=>by
  unfold cO at hx;rcases Yao.mp hx with hx|hx
  exact Op c ec x hx;rw[YcT.mp hx];exact Sz.zero F4
 have es:∀x∈cZ s n,Sz 50 x:=λx hx=>by
  unfold cZ at hx;rcases Yan.mp hx with rfl|hx
  exact Sz.zero F4;exact lst_sz c ec x hx
 obtain⟨g1,z1⟩:=IN (i:=n) h bs E8;obtain⟨g2,z2⟩:=IN (i:=0) h es E8;have zb:Sz 291 (gC s n):=z1;have za:Sz 291 (ip s n):=z2;have zl:Sz 600 (f9 s n):=((Sz.int (n:=1) 1 F4<|F4).sub<|zb.mul za).mono F4;have q':Q (.tup [aH<|fh s<|n+1,aH<|lstF s<|n+1]):=q;clear q;have hb:D.tup ((fh (cor s (n+1) n) n).map aU++[D.tup [.int 0,.int 1]])=aH (cO s n):=by unfold cO aH;rw[ky];rfl
 have he:D.tup ([D.tup [.int 0,.int 1]]++(lstF (cor s (n+1) n) n).map aU)=aH (cZ s n):=rfl;show EO E _ [.d<|aT s,.d<|iR (cor s (n+1) n) n,.un,.un,.un,.un,.un];unfold EO;refine bW<|LP.set_by (d:=aH<|cO s n) (ρ':=[.d<|aT s,.d<|iR (cor s (n+1) n) n,.d<|aH<|cO s n,.un,.un,.un,.un]) (by rfl) (λP hP=>?_) ?_
 unfold iR;ext;refine⟨_,aS (j:=0) rfl,F4,?_⟩;rw[<-hb]at hP;exact⟨ji (by simp;omega),hP⟩;dsimp only;refine bW<|LP.set_by (d:=aH<|cZ s n) (ρ':=[.d<|aT s,.d<|iR (cor s (n+1) n) n,.d<|aH<|cO s n,.d<|aH<|cZ s n,.un,.un,.un]) (by rfl) (λP hP=>?_) ?_
 unfold iR;ext;refine⟨F4,_,aS (j:=1) rfl,?_⟩;rw[<-he]at hP;exact⟨ji (by simp;omega),hP⟩;dsimp only;refine bW<|LP.set_by (d:=aU<|gC s n) (ρ':=[.d<|aT s,.d<|iR (cor s (n+1) n) n,.d<|aH<|cO s n,.d<|aH<|cZ s n,.d<|aU<|gC s n,.un,.un]) (by rfl) (λP hP=>?_) ?_
 ext;refine xL h bl ⟨50,bs,F4⟩ ⟨_,Ow (tims_len _)<|E8,?_⟩;exact hP;dsimp only;refine bW<|LP.set_by (d:=aU<|ip s n) (ρ':=[.d<|aT s,.d<|iR (cor s (n+1) n) n,.d<|aH<|cO s n,.d<|aH<|cZ s n,.d<|aU<|gC s n,.d<|aU<|ip s n,.un]) (by rfl) (λP hP=>?_) ?_
 ext;refine xL h nl ⟨50,es,F4⟩ ⟨_,Hv (k:=0) (by rw[tims_len];omega),?_⟩;exact hP;dsimp only;refine bW<|LP.set_by (d:=aU<|f9 s n) (ρ':=[.d<|aT s,.d<|iR (cor s (n+1) n) n,.d<|aH<|cO s n,.d<|aH<|cZ s n,.d<|aU<|gC s n,.d<|aU<|ip s n,.d<|aU<|f9 s n]) (by rfl) (λP hP=>?_) ?_
 ext;refine F0 (B2.of zb za<|F4) ?_;have:=Dp (E:=E) (Q:=P) (p:=1) (q:=gC s n*ip s n) (B2.of (Sz.int (n:=1) 1 F4<|F4) (zb.mul za)<|F4) hP;exact this;dsimp only;refine LP.ret_by (d:=.tup [aH<|fh s<|n+1,aH<|lstF s<|n+1]) (LP.pair_at (λP hP=>?_)<|λP hP=>?_) q';ext;refine AZ (b:=291) F4 E8 (λy hy=>(bs y hy).mono<|F4) zb (λy hy=>(es y hy).mono<|F4) ?_;rw[<-lf]at hP;refine AY (b:=700) F4 (by rw[oQ<|E8];omega) (λy hy=>?_) (zl.mono<|F4) lz hP;unfold bS at hy;obtain⟨i,hi,ey⟩:=Ybx.mp hy;rw[vh]at ey;rw[<-ey];exact((bs _<|jn _).sub<|zb.mul<|es _<|jn _).mono F4;ext;refine AZ (b:=291) F4 E8 (λy hy=>(es y hy).mono<|F4) za (λy hy=>(bs y hy).mono<|F4) ?_;rw[<-ll]at hP;refine AY (b:=700) F4 (by rw[oQ<|E8];omega) (λy hy=>?_) (zl.mono<|F4) lz hP;unfold bS at hy;obtain⟨i,hi,ey⟩:=Ybx.mp hy;rw[vh]at ey;rw[<-ey];exact((es _<|jn _).sub<|za.mul<|bs _<|jn _).mono F4
theorem IO(r:QZ):fW (aH r)=true:=by
 unfold aH;rw[fW];induction r with
 |nil=>rfl|cons a r ih=>rw[c8,kj,ih];rfl
theorem OB(s:QY)(n:Nat):fW (iR s n)=true:=by unfold iR;rw[fW,kj,kj,kj,IO,IO];rfl
theorem OC:eG (xs++[d]) (-1)=some d:=j5 xs d
theorem OD{r:Q6}(h:IsSl s n)(e:d8 s n=k::r):1<=k/\k<=n/\fK (cor s n k) k≠[]/\∀j,1<=j->j<k->fK (cor s n j) j=[]:=by
 have key:∀j,j<n->(cD (tbl (cor s n<|j+1)<|j+1)==0)=true->j+1∈d8 s n:=λj hj z=>by unfold d8;exact YbU.mpr ⟨j,Yaf.mpr ⟨Yag.mpr hj,z⟩,rfl⟩
 have pw:(d8 s n).Pairwise (· < ·):=by unfold d8;rw[List.pairwise_map];exact((NQ n).filter _).imp λh=>E8
 have hk:k∈d8 s n:=by rw[e];simp
 have hk':=hk;unfold d8 at hk';obtain⟨i,hi,rfl⟩:=YbU.mp hk';obtain⟨h1,h2⟩:=Yaf.mp hi;rw[Yag]at h1;refine⟨E8,E8,λz=>?_,λj j1 jk=>?_⟩;have:=(rm<|jh h E8<|E8).mp z;apply this;have z':cD (tbl (cor s n<|i+1)<|i+1)=0:=by simpa using h2
 unfold cD at z';rw[gX]at z';exact z';refine(rm<|jh h j1<|E8).mpr λz=>?_;have m:=key (j - 1) E8 (by
  rw[show j-1+1=j by omega];unfold cD;rw[gX,z];rfl)
 rw[show j-1+1=j by omega,e]at m;rw[e]at pw;rcases Yan.mp m with z2|z2
 omega;have:=(List.pairwise_cons.mp pw).1 j z2;omega
structure XF(P:Program)(w:World)(K:Qh)(mg:QW)(base:Heap)(x f:Str)(k:Nat):Prop where
 h:∃(C fI:Addr) (fd:FuncData) (ps:Q4),h7 K x=some C/\mg x=some (.ref C)/\Fl.clsF K C Fl.bmV "ValueError.__new__" f fI=true/\eD P w K mg base (dj P w) k fI fd ps (Fl.spI C f)/\Binds K fd ps []/\∃od osl,K.lookup fI=some ⟨.type "function",od,.func fd,osl⟩
theorem IP{n c f:Str}{k:Int}(h:iK n=some (c,f,k)):jH n=c:=by unfold jH;rw[h]
section
variable{f:Str}{a:Expr}
def IQ(x f:Str)(wa:WE):WS:=λE _ ρ=>wa E ρ λd=>∃(n:Int) (ex:Str),d=.int n/\iK ex=some (x,f,n)/\E ex
theorem OE(hr:Fl.RaisD X EX)(hx:XF X.prog X.w X.K X.mg X.base x f k)(hro:Room (k+1) X.A)(ha:PX X EX a wa)(hc:{X.calm=true})(hg:{Gl X x})(hd:(Q7 x:))(he:{starEach [a] X.env=[(false,eval a X.env)]})(hex:{X.ex=[]}) :
  PZ X EX (.Raise (some<|.Call (.Name x np) [a] [] cpos) none pos) (IQ x f wa):=by
 obtain⟨C,fI,fd,ps,h1,h2,h3,h4,h5,h6⟩:=hx.h;obtain⟨ta,pa,ka⟩:=ha.t;refine⟨⟨_,Fl.ps_raisef hr hc h2 h3 h4 hro h5 h6 pa hg hd he hex,λW0 H0 F W σ H ρ E Dn N s fl eo no q=>ka W0 H0 W σ H ρ E _ s eo<|ha.mono _ _ _ _ (λd ⟨n,ex,ed,er,hE⟩=>?_) q⟩,λE ρ N N' hl q=>q⟩;subst ed;intro v W' H' x' r';cases r';refine⟨n,rfl,λd hd=>?_⟩;have xt:Ext W' H' (W'.put d<|.xd [(f,.int n)]) (upd H' d<|.xd [(f,.int n)]):=Ext.put x'.ok hd;refine eo ex _ _ _ _ hE (s.ext.trans<|x'.trans xt) ⟨C,by rw[IP er];exact h1,rfl,λc f' k' e'=>?_⟩;rw[er]at e';cases e';exact⟨d,rfl,by unfold Wd.put;dsimp only;rw[aP]⟩
def yY(x f:Str):D->(Rf)->Prop:=λd Q=>match d with|.exc n=>∃k,iK n=some (x,f,k)/\Q (.int k)|_=>False
theorem OF{C fI:Addr}(h1:h7 X.K x=some C)(h2:Fl.clsF X.K C Fl.bmV "ValueError.__new__" f fI=true)(hB:typeLookup (.type "ValueError") f=pure none)(ha:PX X EX a wa)(hb:{attributeBase a f X.env (eval a X.env)=eval a X.env}) :
  PX X EX (.Attribute a f pos) (w1 (yY x f) wa):=by
 obtain⟨ta,pa,ka⟩:=ha.t;refine⟨⟨λσ H Q=>ta σ H λv H1=>∃e dx k,v=.ref e/\H1 e=some (pP C e<|some dx)/\H1 dx=some (.xd [(f,.int k)])/\Q (.int k) H1,?_,λW0 H0 W σ H ρ E Q s eo q=>ka W0 H0 W σ H ρ E _ s eo<|ha.mono _ _ _ _ (λd q=>?_) q⟩,λE ρ P P' hp q=>ha.mono _ _ _ _ (λd q=>?_) q⟩
 .intro E1 s σ H Q I h
  refine qN hb<|bO (pa E1 s σ H _ I h) λu s1 z0=>?_;obtain⟨v,H1,I1,rv,e,dx,k,ev,e1,e2,q⟩:=z0;subst ev;cases rv;obtain⟨oe,g1,g2,_,g3,vs,g4⟩:=(I1.hok e _ e1).1;obtain⟨m,n1,n2⟩:=I1.hok dx _ e2;have nf:=n2 f;simp only[lT,Qx]at nf;obtain⟨bm,N,nm,qn,bs,sn,sub,ab,col,dd,k0,k1,k2,k3,k5,mN,hC,hN,_,qm,T⟩:=(Fl.clsF_of I1.kIn h2).h;obtain⟨w,ew,rw'⟩:∃w,m f=some w/\RelV (.int k) w:=by
   cases z:m f with
   |none=>rw[z]at nf;exact nf.elim|some w=>rw[z]at nf;exact⟨w,rfl,nf⟩
  obtain⟨tk,rfl⟩:=rw';obtain⟨hp,g,dr,tk',os⟩:=s1;exact Fl.get_field PySem.F.attrBase_ValueError hC hN T (qm _<|by simp[Fl.quiet]) (qm _<|by simp[Fl.quiet]) (qm _<|by simp[Fl.quiet]) (by simp[Fl.quiet]) (by simp[Fl.quiet]) (by simp[Fl.quiet]) hB g1 g2 g3 g4 n1.ns ew rfl ⟨.int k,H1,I1.tok _,⟨_,rfl⟩,q⟩
 .unfold yY at q
  split at q
  .rename_i n
   obtain⟨k,ek,q⟩:=q;intro v W' H' x' r';cases r' with
   | @exc e C' _ dx e0 ec xd=>
    obtain⟨d,rfl,ed⟩:=xd _ _ _ ek;rw[IP ek,h1]at ec;cases ec;exact⟨e,d,k,rfl,x'.ok.g _ _ e0,x'.ok.g _ _ ed,q _ _ _ x'<|.int _⟩
  .exact q.elim
 .unfold yY at q ⊢
  split at q
  .obtain⟨k,ek,q⟩:=q
   exact⟨k,ek,hp _ q⟩
  .exact q.elim
end
def EQ(s:Stmt):Stmt:=match s with|.ClassDef _ _ _ (b::_) _ _ _ _ _ _ _=>b|s=>s
structure XK1(K:Qh)(mg:QW)(x qual f:Str)(st:Stmt):Prop where
 h:∃(C fI:Addr) (od:Option Addr) (osl:Array (Option Value)) (kV doc pm:Value) (an:Option Addr) (cdv ct:Value),h7 K x=some C/\mg x=some (.ref C)/\Fl.clsF K C Fl.bmV "ValueError.__new__" f fI=true/\
  K.lookup fI=some ⟨.type "function",od,.func<|PySem.W.fnOf "__init__" qual (cK st) (bA st) (aG st) .none kV doc pm an cdv ct,osl⟩/\PySem.W.codeIn K cdv qual=true/\PySem.W.keepIn K (.ref fI)=true
section
variable{w:World}{base:Heap}{f:Str}
theorem mkXF{hp:Heap}(X:K.In hp)(G:hp.Ns mainGlobals mg){C fI:Addr}{kV doc pm cdv ct:Value}{dd:Option Addr}{cd:ClassData}(a:PySem.W.nsIn K mainGlobals x=some (some<|.ref C))(lc:K.lookup C=some ⟨.type "type",dd,.cls cd,sl⟩)(ni:PySem.W.nsIn K cd.ns "__init__" = some (some<|.ref fI))(q:Fl.clsF K C Fl.bmV "ValueError.__new__" f fI=true)
  (l:K.lookup fI=some ⟨.type "function",od,.func<|PySem.W.fnOf "__init__" qual (cK st) (bA st) (aG st) .none kV doc pm an cdv ct,osl⟩) (c:PySem.W.codeIn K cdv qual=true) (kp:PySem.W.keepIn K (.ref fI)=true):XK1 K mg x qual f st:=
 ⟨C,fI,od,osl,kV,doc,pm,an,cdv,ct,uH a,PySem.W.mg_of X G a,q,l,c,kp⟩
theorem XK1.xf(h:XK1 K mg x qual f st)(hB:typeLookup (.type "ValueError") f=pure none)(sc:autoParam (cG [("self" : Str),f] [("self" : Str),f] (aG st)) Rm._auto_1)
  (hb:∃p0 p1 pos pos',bA st=[.Assign [.Attribute (.Name "self" p0) f pos'] (.Name f p1) pos]/\∀env,swapsWith (.Name f p1) (some<|.Attribute (.Name "self" p0) f pos') pos.line env=pure false:=by exact⟨_,_,_,_,rfl,λ_=>rfl⟩)
  (bi:∀ (kV doc pm:Value) (an:Option Addr) (cdv ct:Value) (us:QX),us.length=[("self" : Str),f].length->bindArgs (PySem.W.fnOf "__init__" qual (cK st) (bA st) (aG st) .none kV doc pm an cdv ct) ⟨us,[]⟩=pure ([("self" : Str),f].zip us):=by
   intro _ _ _ _ _ _ us hl
   match us,hl with|[_,_],_=>rfl)
  (d1:(Q7 f:)) (c1:((f==("__classdict__" : Str))=false:)):XF P w K mg base x f (k+1):=by
 obtain⟨C,fI,od,osl,kV,doc,pm,an,cdv,ct,h1,h2,h3,h4,h5,h6⟩:=h.h;obtain⟨p0,p1,pos,pos',e1,e2⟩:=hb;have F:=pO h4 h5 h6;exact⟨C,fI,_,_,h1,h2,h3,Fl.init_ok F sc h3 hB e1 e2 F4 d1 F4 c1,F.binds bi,od,osl,h4⟩
section
variable{a:Expr}
theorem OG(h:XK1 X.K X.mg x qual f st)(hB:typeLookup (.type "ValueError") f=pure none)(ha:PX X EX a wa)(hb:{attributeBase a f X.env (eval a X.env)=eval a X.env}):PX X EX (.Attribute a f pos) (w1 (yY x f) wa):=by obtain⟨C,fI,_,_,_,_,_,_,_,_,h1,_,h3,_⟩:=h.h;exact OF h1 h3 hB ha hb
end
theorem IR:typeLookup (.type "ValueError") "size" = pure none:=by rw[typeLookup_type,builtinLookup_eq_fast];kernel_rfl
end
def jQ(k:Nat):Str:=match k with|1=> "NotStrong1" |2=> "NotStrong2" |3=> "NotStrong3" |4=> "NotStrong4" |_=> "NotStrong5"
theorem OH(h1:1<=k)(h5:k<=5):iK (jQ k)=some (("NotStrong" : Str),("size" : Str),(k:Int)):=by
 have:k=1\/k=2\/k=3\/k=4\/k=5:=E8
 rcases this with rfl|rfl|rfl|rfl|rfl<;>decide +kernel
namespace G.V9.W
def u4(s:QY)(n:Nat)(v:Except Str D):Except Str D:=match d8 s n with|[]=>v|k::_=>.error<|jQ k
theorem ER{v:Except Str D}(h:IsSl s n)(g:Stg s n):u4 s n v=v:=by unfold u4;rw[(wk_stg h).mpr g]
theorem stR_bad{r:Q6}{v:Except Str D}(e:d8 s n=k::r):u4 s n v=.error (jQ k):=by unfold u4;rw[e]
def stsD(s:QY)(n:Nat):D:=.lst<|(List.range n).map λk=>iR (cor s n<|k+1) (k+1)
def S_need_strong:bV:=xS (λx:D=>[x]) (λx=>kd x=true) λx=>ij x<|u4 (sI x) (sN x) (.ok .non)
def S_steps_of:bV:=xS (λx:D=>[x]) (λx=>kd x=true) λx=>ij x<|u4 (sI x) (sN x) (.ok<|stsD (sI x)<|sN x)
section
variable{E:Rb}{x:D}{r:QY}
theorem OI(h:IsSl s n)(g:Stg s n)(q:Q .non):S_need_strong [aT s] E Q:=xS.ok (aT s) rfl h.kd (by(try dsimp only);rw[gK h,fw,h.sN,ER h g]) q
theorem OJ(h:IsSl s n){l:Q6}(e:d8 s n=k::l)(q:E (jQ k)):S_need_strong [aT s] E Q:=xS.err (aT s) rfl h.kd (by(try dsimp only);rw[gK h,fw,h.sN,stR_bad e]) q
theorem u_steps_of(h:IsSl s n)(g:Stg s n)(q:Q (stsD s n)):S_steps_of [aT s] E Q:=xS.ok (aT s) rfl h.kd (by(try dsimp only);rw[gK h,fw,h.sN,ER h g]) q
end
abbrev Zc4:Q4:=["slants", "size"]
def z_need_strong:WS:=(aL (aR 1<|wF Bj<|aC (wN 0) aA)<|cR (wT<|w2 (gIsC true) (wN 1)<|wC D.non) (IQ (PySem.Str.ofString "NotStrong") (PySem.Str.ofString "size")<|wN 1) cW)
abbrev Zfi:Q4:=["slants", "steps", "size"]
def z_steps_of:WS:=(aL (gF<|wF S_need_strong<|aC (wN 0) aA)<|aL (bX 1<|bP<|aC (wF Bl<|aC (wN 0) aA) aA)<|aL (bE<|bF (ig<|aC (wC<|.int<|2)<|aC (w2 gAdd (wF mZ<|aC (wN 0) aA)<|wC<|.int<|1) aA) (gN 2)<|da 1<|dB 1<|wF Bm<|aC (wF uC<|aC (wN 0)<|aC (wN 2) aA)<|aC (w2 gIx (wN 1)<|w1 jJ<|wC<|.int<|1) aA)<|bM 1<|aN<|wN 1)
theorem rd_need_strong:Rd S_need_strong z_need_strong Zc4:=by
 rintro _ E Q ⟨x,rfl,hk,q⟩;show z_need_strong E _ [.d x,.un];unfold z_need_strong;cases e:fZ x with
 |false=>
  refine bW ?_;simp only[aR,wF,aC,aA,wN,eJ];exact xS.err x rfl hk (m6 e)<|lh e q
 |true=>
 obtain⟨s,n,rfl,h⟩:=m7 e;replace q:=li h q;rw[fw,h.sN]at q;unfold u4 at q;cases ew:d8 s n with
 |nil=>
  rw[ew]at q;refine bW<|LP.set_by (d:=.non) (ρ':=[.d<|aT s,.d .non]) (by rfl) (λP hP=>?_) ?_
  .ext
   refine IK h ?_;rw[ew];exact hP
  dsimp only;refine ik (b:=false) (λP hP=>?_) (λe=>nomatch e) λ_=>q;ext;exact⟨rfl,hP⟩
 |cons k l=>
  rw[ew]at q;obtain⟨k1,kn,_⟩:=OD h ew;refine bW<|LP.set_by (d:=.int k) (ρ':=[.d<|aT s,.d<|.int k]) (by rfl) (λP hP=>?_) ?_
  .ext
   refine IK h ?_;rw[ew];exact hP
  dsimp only;refine ik (b:=true) (λP hP=>?_) (λ_=>?_) λe=>nomatch e
  .ext
   exact⟨rfl,hP⟩
  .exact⟨(k:Int),jQ k,rfl,OH k1 (by have:=h.n5;omega),q⟩
theorem rd_steps_of:Rd S_steps_of z_steps_of Zfi:=by
 rintro _ E Q ⟨x,rfl,hk,q⟩;show z_steps_of E _ [.d x,.un,.un];unfold z_steps_of;refine bW ?_;simp only[gF,wF,aC,aA,wN,eJ];cases e:fZ x with
 |false=>exact xS.err x rfl hk (m6 e)<|lh e q
 |true=>
 obtain⟨s,n,rfl,h⟩:=m7 e;replace q:=li h q;rw[fw,h.sN]at q;cases ew:d8 s n with
 |cons k l=>
  rw[stR_bad ew]at q;exact OJ h ew q
 |nil=>
 have g:=(wk_stg h).mp ew;rw[ER h g]at q;have n1:=h.n1;have n5:=h.n5;refine OI h g ?_
 let f:Nat->D:=λk=>iR (cor s n<|k+1)<|k+1
 refine bW<|LP.own_by (xs:=(List.range 1).map f) (ρ':=[.d<|aT s,.ow<|(List.range 1).map f,.un]) (by rfl) (λP hP=>?_) ?_
 .simp only[bP,wF,aC,aA,wN,eJ]
  exact Ou h g ⟨show 1<=aO by decide,hP⟩
 dsimp only;refine bW ?_;simp only[bE,bF,ig,aC,aA,wC,w2,wF,wN,eJ];refine uF h ?_;ext;refine⟨E8,?_⟩;rw[show((n:Int)+1-2).toNat=n-1 by omega];refine DU 2 (λk ρ=>∃s2,ρ=[.d<|aT s,.ow<|(List.range<|k+1).map f,s2]) (n-1) ?_ ?_ _ ⟨_,rfl⟩
 .rintro k hk _ ⟨s2,rfl⟩ nx hnx
  have c:=jh h (show 1<=k+2 by omega) (show k+2<=n by omega);have gc:=g.cor h (show 1<=k+2 by omega) (show k+2<=n by omega);simp only[gN,hJ,g9];show da _ _ _ _ [.d<|aT s,.ow<|(List.range<|k+1).map f,.d<|.int<|2+k];rw[Ca,ky]at hnx;have hl:((List.range<|k+1).map f).length=k+1:=KE
  have ha:eG ((List.range<|k+1).map f) (-1)=some (iR (cor s n<|k+1)<|k+1):=by
   rw[Ca,ky];exact OC
  generalize (List.range<|k+1).map f=L at hl ha hnx;simp only[da,dB,pub,wF,aC,aA,wN,w2,w1,wC,eJ,gb,hJ,g9];have eC:(2+(k:Int))=((k+2:Nat):Int):=E8
  rw[eC];refine Ds h (show 1<=k+2 by omega) (show k+2<=n by omega) ?_;ext;refine⟨_,ha,?_⟩;have:=Ov (E:=No) (Q:=λd=>fW d=true/\L.length<aO/\nx [.d<|aT s,.ow<|L++[d],.d<|.int ((k+2:Nat):Int)]) c (show 1<=k+1 by omega) gc ⟨OB _ _,by rw[hl];unfold aO;omega,hnx _ ⟨_,rfl⟩⟩;rw[Gs.cor_cor (show k+2<=n by omega) (show k+1<=k+2 by omega) E8 h]at this;exact this
 .rintro _ ⟨s2,rfl⟩
  rw[show n-1+1=n by omega];dsimp only;refine B.C.pub_by (ρ':=[.d<|aT s,.d<|.lst<|(List.range n).map f,s2]) rfl ?_;exact q
end G.V9.W
abbrev LX5:Q4:=["NoSlants", "NoRow", "NoNumber", "NoLine", "NotEven", "NotFull", "NotStrong1", "NotStrong2", "NotStrong3", "NotStrong4", "NotStrong5"]
theorem IS(h1:1<=k)(h5:k<=5):jQ k∈LX5:=by
 have:k=1\/k=2\/k=3\/k=4\/k=5:=E8
 rcases this with rfl|rfl|rfl|rfl|rfl<;>simp[jQ]
def qa(n:Str):Str:=if jH n == "NotStrong" then "strong" else MF n
theorem OK(h1:1<=k)(h5:k<=5):qa (jQ k) = "strong" :=by
 have:k=1\/k=2\/k=3\/k=4\/k=5:=E8
 rcases this with rfl|rfl|rfl|rfl|rfl<;>decide +kernel
namespace G.V9.W
def S__law_kind_of:bV:=fnS (λn:Str=>[.exc n]) (λn=>n∈LX5) λn=>.str<|qa n
theorem u__law_kind_of{E:Rb}{n:Str}(h:n∈LX5)(q:Q (.str<|qa n)):S__law_kind_of [.exc n] E Q:=⟨n,rfl,h,q⟩
abbrev ZbI:Q4:=["_law_e", "_law_marks"]
def z__law_kind_of:WS:=(aL (aR 1<|wL<|bP<|aC (wB (gIsX LX5 MX)<|aC (wN 0)<|aC (wC<|.cls<|PySem.Str.ofString "NoSlants") aA)<|aC (wB (gIsX LX5 MX)<|aC (wN 0)<|aC (wC<|.cls<|PySem.Str.ofString "NoRow") aA)<|aC (wB (gIsX LX5 MX)<|aC (wN 0)<|aC (wC<|.cls<|PySem.Str.ofString "NoNumber") aA)<|aC (wB (gIsX LX5 MX)<|aC (wN 0)<|aC (wC<|.cls<|PySem.Str.ofString "NoLine") aA) aA)<|aL (aR 1<|w2 gAdd (wN 1)<|wL<|bP<|aC (wB (gIsX LX5 MX)<|aC (wN 0)<|aC (wC<|.cls<|PySem.Str.ofString "NotEven") aA)<|aC (wB (gIsX LX5 MX)<|aC (wN 0)<|aC (wC<|.cls<|PySem.Str.ofString "NotFull") aA)<|aC (wB (gIsX LX5 MX)<|aC (wN 0)<|aC (wC<|.cls<|PySem.Str.ofString "NotStrong") aA) aA)<|aL (aR 1<|w2 gAdd (wN 1)<|wL<|bP<|aC (wB (gIsX LX5 MX)<|aC (wN 0)<|aC (wC<|.cls<|PySem.Str.ofString "NoText") aA)<|aC (wB (gIsX LX5 MX)<|aC (wN 0)<|aC (wC<|.cls<|PySem.Str.ofString "TooGreat") aA) aA)<|aL (cR (dZ (bK<|wT<|wB (gIsX LX5 MX)<|aC (wN 0)<|aC (wC<|.ty "ValueError") aA)<|wT<|w2 (gEq true) (wM Dw (wN 1)<|aC (wC<|D.bl true) aA)<|wC<|.int<|1) (aN<|wC<|D.str<|PySem.Str.ofString "other") cW)<|aN<|w2 gIx (wL<|bP<|aC (wC<|D.str<|PySem.Str.ofString "slants")<|aC (wC<|D.str<|PySem.Str.ofString "row")<|aC (wC<|D.str<|PySem.Str.ofString "number")<|aC (wC<|D.str<|PySem.Str.ofString "line")<|aC (wC<|D.str<|PySem.Str.ofString "even")<|aC (wC<|D.str<|PySem.Str.ofString "full")<|aC (wC<|D.str<|PySem.Str.ofString "strong")<|aC (wC<|D.str<|PySem.Str.ofString "text")<|aC (wC<|D.str<|PySem.Str.ofString "great") aA)<|wM Dx (wN 1)<|aC (wC<|D.bl true) aA)
theorem rq{n m:Str}(h:n∈LX5)(hm:m∈MX)(q:Q (.bl<|jH n==m)):gIsX LX5 MX [.exc n,.cls m] Q:=⟨h,hm,q⟩
theorem rd__law_kind_of:∀ds E Q,S__law_kind_of ds E Q->z__law_kind_of No { nx:=λ_=>Q .non,rt:=Q } (dP ZbI ds):=by
 rintro _ E Q ⟨n,rfl,hn,q⟩;unfold z__law_kind_of;walk_at "n";refine rq hn KE<|rq hn KE (rq hn KE<|rq hn KE ⟨F4,?_⟩);walk_at "n";refine rq hn KE<|rq hn KE (rq hn KE ⟨F4,?_⟩);ext;refine⟨F4,?_⟩;walk_at "n";refine rq hn KE<|rq hn KE ⟨F4,?_⟩;ext;refine⟨F4,?_⟩;have key:(MX.map (jH n == ·)).countP (· == true)=1/\∃j:Nat,(MX.map (jH n == ·))[j]? = some true/\(∀i<j,(MX.map (jH n == ·))[i]?≠some true)/\[D.str "slants",.str "row",.str "number",.str "line",.str "even",.str "full",.str "strong",.str "text",.str "great"][j]? = some (.str<|qa n):=by
  simp only[LX5,Yan,gQ,or_false]at hn;rcases hn with rfl|rfl|rfl|rfl|rfl|rfl|rfl|rfl|rfl|rfl|rfl
  exact⟨wp,0,wp,wp,by first|rfl|decide +kernel⟩;exact⟨wp,1,wp,wp,by first|rfl|decide +kernel⟩;exact⟨wp,2,wp,wp,by first|rfl|decide +kernel⟩;exact⟨wp,3,wp,wp,by first|rfl|decide +kernel⟩;exact⟨wp,4,wp,wp,by first|rfl|decide +kernel⟩;exact⟨wp,5,wp,wp,by first|rfl|decide +kernel⟩;exact⟨wp,6,wp,wp,by rfl⟩;exact⟨wp,6,wp,wp,by rfl⟩;exact⟨wp,6,wp,wp,by rfl⟩;exact⟨wp,6,wp,wp,by rfl⟩;exact⟨wp,6,wp,wp,by rfl⟩
 obtain⟨k1,j,k2,k3,k4⟩:=key;walk_at "n";refine⟨hn,rfl,?_⟩;ext;refine⟨⟨_,rfl⟩,⟨MX.map (jH n == ·),true,rfl,rfl,?_⟩⟩;rw[k1];ext;refine⟨F4,⟨_,rfl⟩,MX.map (jH n == ·),true,j,rfl,rfl,k2,k3,?_⟩;exact⟨_,aS k4,q⟩
end G.V9.W
section
def rz(i:Nat):jL:=λ_ QL ρ=>match ρ[i]? with|some (.ow xs)=>QL xs|_=>False
theorem OL(i:Nat)(hN:{X.N[i]? = some x})(hv:kA X.env.scope x:=by first|exact .inl rfl|exact .inr<|.inl rfl)(hd:(Q7 x:))(hcd:((x==("__classdict__" : Str))=false:)):qt X EX [.Return (some<|.Name x p) pos] (rz i):=by refine⟨⟨_,eX<|kN<|db hN hv hd hcd,λW0 H0 F W σ H ρ E Dn QL s fl eo no h=>?_⟩,λE ρ Q Q' hq z=>?_⟩;unfold rz at h;split at h;rename_i xs e;obtain⟨a,vs,e1,e2,e3,e4,e5,e6⟩:=s.o i xs e;exact⟨.ref a,e1,no xs h a vs W H s.ext e2 e3 e4 e5 e6⟩;exact h.elim;unfold rz at z ⊢;split at z;exact hq _ z;exact z.elim
end
def bf(T:Nat->Q5)(n:Nat)(u v:Q5):Rat:=aJ (λi=>u i*aJ (λj=>T i j*v j) n) n
def gj(c:Q5)(U:Nat->Q5)(m:Nat):Nat->Rat:=λk=>aJ (λa=>c a*U a k) m
section
theorem sK{u v u' v':Q5}(hu:∀i,i<n->u i=u' i)(hv:∀i,i<n->v i=v' i):bf T n u v=bf T n u' v':=
 cM λi hi=>by rw[hu i hi,cM (g:=λj=>T i j*v' j) λj hj=>by rw[hv j hj]]
theorem sL(hT:∀i j,i<n->j<n->T i j=T j i)(u v:Q5):bf T n u v=bf T n v u:=by unfold bf;rw[cM (g:=λi=>aJ (λj=>u i*(T i j*v j)) n) λi _=>by rw[sumN_mul],sumN_swap];refine cM λj hj=>?_;rw[<-sumN_mul];exact cM λi hi=>by rw[hT i j hi hj];grind
theorem sM(u:Q5)(c:Q5)(U:Nat->Q5):∀m:Nat,bf T n u (gj c U m)=aJ (λa=>c a*bf T n u (U a)) m
 |0=>by rw[aJ];refine lR λi _=>?_;rw[lR λj _=>by show T i j*0=0;rw[Rat.mul_zero],Rat.mul_zero]
 |m+1=>by rw[aJ,<-sM u c U m];unfold bf;rw[<-sumN_mul,<-Bb];refine cM λi _=>?_;rw[cM (g:=λj=>T i j*gj c U m j+c m*(T i j*U m j)) λj _=>by show T i j*(gj c U m j+c m*U m j)=_;grind,Bb,sumN_mul];grind
theorem vJ(u v w:Q5)(q:Rat):bf T n u (λk=>v k-q*w k)=bf T n u v-q*bf T n u w:=by unfold bf;rw[<-sumN_mul,<-oO];refine cM λi _=>?_;rw[cM (g:=λj=>T i j*v j-q*(T i j*w j)) λj _=>by grind,oO,sumN_mul];grind
structure Ap(T:Nat->Q5)(n:Nat)(U:Nat->Q5):Prop where
 ap:∀a b,a<n->b<n->a≠b->bf T n (U a) (U b)=0
 fu:∀x:Nat->Rat,(∀a,a<n->aJ (λk=>U a k*x k) n=0)->∀k,k<n->x k=0
def cE(m:Nat)(f:Q5):QZ:=(List.range m).map f
theorem IT(m:Nat)(f:Q5):(cE m f).length=m:=by unfold cE;rw[bH,iY]
theorem IU(f:Q5)(hk:k<m):(cE m f).getD k 0=f k:=by unfold cE;rw[aZ,cH,iX hk];rfl
theorem wish:∀(m:Nat) (L:List Q5),L.length<m->∃x:Nat->Rat,(∃k,k<m/\x k≠0)/\∀f∈L,aJ (λj=>f j*x j) m=0
 |0,L,h=>Qj h<|rG _
 |m+1,L,h=>by
  by_cases z:∃f∈L,f m≠0;obtain⟨f,hf,fm⟩:=z;obtain⟨a,b,rfl⟩:=List.append_of_mem hf;obtain⟨x,⟨k,hk,xk⟩,hx⟩:=wish m ((a++b).map λg j=>g j-g m/f m*f j) (by simp at h ⊢;omega);have s:∀(g:Q5) v,aJ (λj=>g j*(if j=m then v else x j)) (m+1)=aJ (λj=>g j*x j) m+g m*v:=λg v=>by rw[aJ,ks rfl,cM (g:=λj=>g j*x j) λj hj=>by rw[fz<|E8]]
  have e:∀g∈a++b,aJ (λj=>g j*x j) m=g m/f m*aJ (λj=>f j*x j) m:=λg hg=>by have:=hx _<|o1 (f:=λ(g:Q5) j=>g j-g m/f m*f j) hg;rw[cM (g:=λj=>g j*x j-g m/f m*(f j*x j)) λj _=>by grind,oO,Dt.sumN_mul]at this;grind
  have fi:=lA _ fm;refine⟨λj=>if j=m then -(aJ (λj=>f j*x j) m*(f m)⁻¹) else x j,⟨k,E8,by dsimp only;rw[fz<|E8];exact xk⟩,λg hg=>?_⟩;rw[s];rcases Yao.mp hg with q|q
  rw[e g<|u9 _ q,gD];grind;rcases Yan.mp q with rfl|q
  generalize (g m)⁻¹=y at *;generalize aJ (λj=>g j*x j) m=w;have:w+g m * -(w*y)=w-w*(g m*y):=by grind
  rw[this,fi];grind;rw[e g<|kI _ q,gD];grind;refine⟨λj=>if j=m then 1 else 0,⟨m,E8,KE⟩,λf hf=>?_⟩;rw[jP (k:=m) E8 λj _ ne=>by dsimp only;rw[fz ne,Rat.mul_zero]];dsimp only;rw[ks rfl,Rat.mul_one];exact Classical.byContradiction λc=>z ⟨f,hf,c⟩
def mL(a:Nat):Nat->Rat:=λj=>if j=a then 1 else 0
theorem Bo(x:Q5)(ha:a<m):aJ (λj=>mL a j*x j) m=x a:=by rw[jP ha λi _ ne=>by unfold mL;rw[fz ne,kK]];unfold mL;rw[ks rfl,vX]
theorem Ap.ind(h:Ap T n U){c:Q5}(h0:∀k,k<n->gj c U n k=0):∀a,a<n->c a=0:=λt ht=>by
 refine Classical.byContradiction λhc=>?_;obtain ⟨x,⟨k,hk,hx⟩,hz⟩:=wish n (((List.range n).filter λa=>decide (a≠t)).map U) (by
  rw[bH];have:=List.length_filter_lt_length_iff_exists (p:=λa=>decide (a≠t)) (l:=List.range n);rw[iY]at this;exact this.mpr ⟨t,Yag.mpr ht,KE⟩)
 have oth:∀a,a<n->a≠t->aJ (λk=>U a k*x k) n=0:=λa ha ne=>hz _<|o1 (Yaf.mpr ⟨Yag.mpr ha,by simpa using ne⟩);have s:aJ (λa=>c a*aJ (λk=>U a k*x k) n) n=0:=by rw[cM (g:=λa=>aJ (λk=>c a*(U a k*x k)) n) λa _=>by rw[sumN_mul],sumN_swap];refine lR λk hk=>?_;rw[cM (g:=λa=>x k*(c a*U a k)) λa _=>by grind,sumN_mul];have:=h0 k hk;unfold gj at this;rw[this,Rat.mul_zero]
 rw[jP ht λa ha ne=>by rw[oth a ha ne,Rat.mul_zero]]at s;have z:aJ (λk=>U t k*x k) n=0:=by
  rcases Yc8.mp s with e|e
  exact Qj e hc;exact e
 have al:∀a,a<n->aJ (λk=>U a k*x k) n=0:=λa ha=>by by_cases e:a=t;rw[e];exact z;exact oth a ha e
 exact hx<|h.fu x al k hk
def ES(n:Nat)(p:Nat->Bool):Nat:=((List.range n).filter p).length
theorem IV{α:Type}(p:α->Bool):∀l:List α,(l.filter λa=>!p a).length+(l.filter p).length=l.length
 |[]=>rfl|a::l=>by have:=IV p l;cases e:p a<;>simp[List.filter_cons,e]<;>omega
theorem OM(n:Nat)(p:Nat->Bool):ES n (λa=>!p a)+ES n p=n:=by have:=IV p<|List.range n;rw[iY]at this;exact this
end
def nul(T:Nat->Q5)(n:Nat)(U:Nat->Q5)(a:Nat):Bool:=decide (bf T n (U a) (U a)=0)
section
theorem sumN_cut{f:Q5}{m:Nat}:∀{n:Nat},m<=n->(∀i,m<=i->i<n->f i=0)->aJ f n=aJ f m
 |0,h,_=>by rw[Nat.le_zero.mp h]|n+1,h,h0=>by by_cases e:m=n+1;rw[e];rw[aJ,sumN_cut E8<|λi h1 h2=>h0 i h1<|E8,h0 n E8<|E8,jV]
end
namespace Pj
noncomputable def tb:Nat->Nat->Nat
 |_,0=>0|b,1=>b|b,2=>2*b+1|b,r+3=>b+tb (2*b+1) (r+2)+4
theorem IW{a:Nat->Int}{x:Q5}{b t:Nat}:∀{r:Nat},(∀k,k<r->(a k).natAbs<2^b)->(∀k,k<r->∃z:Int,z.natAbs<=2^t/\x k=z)->∃z:Int,z.natAbs<=r*2^(b+t)/\aJ (λk=>(a k:Rat)*x k) r=z
 |0,_,_=>⟨0,KE,rfl⟩
 |r+1,ha,h=>by
  obtain⟨z,z1,hz⟩:=IW (a:=a) (r:=r) (λk hk=>ha k<|E8) λk hk=>h k E8;obtain⟨y,y1,hy⟩:=h r E8;refine⟨z+a r*y,?_,?_⟩;have h1:(a r*y).natAbs<=2^(b+t):=by rw[eI,kx];exact jp (gP<|ha r<|E8) y1
  have:=rD z<|a r*y;rw[oV];omega
  rw[aJ,hz,hy,vV,fA]
theorem Bp{r:Nat}{a:Nat->Nat->Int}(hu:∀y:Nat->Rat,(∀i,i<m->aJ (λk=>(a i k:Rat)*y k) (r+1)=0)->∀k,k<r+1->y k=0):∃i,i<m/\a i r≠0:=by
 apply Classical.byContradiction;intro hn;have:=hu (λk=>if k=r then 1 else 0) (λi hi=>by
  rw[jP (k:=r) E8 λj hj hjr=>by rw[fz hjr,Rat.mul_zero]];have:a i r=0:=Classical.byContradiction λz=>hn ⟨i,hi,z⟩;rw[this,ks rfl];rw[Rat.mul_one];rfl) r E8
 rw[ks rfl]at this;exact Qj this F4
theorem IX{r i0:Nat}{a:Nat->Nat->Int}{c:Nat->Int}{x:Q5}(hi0:i0<m)(hh:a i0 r≠0)(hx:∀i,i<m->aJ (λk=>(a i k:Rat)*x k) (r+1)=(c i:Rat))(hu:∀y:Nat->Rat,(∀i,i<m->aJ (λk=>(a i k:Rat)*y k) (r+1)=0)->∀k,k<r+1->y k=0) :
  (∀i,i<m->aJ (λk=>((a i k*a i0 r-a i r*a i0 k:Int):Rat)*x k) r=((c i*a i0 r-a i r*c i0:Int):Rat))/\∀y:Nat->Rat,(∀i,i<m->aJ (λk=>((a i k*a i0 r-a i r*a i0 k:Int):Rat)*y k) r=0)->∀k,k<r->y k=0:=by
 have hq:((a i0 r:Int):Rat)≠0:=λz=>hh (by exact_mod_cast z);have split:∀(y:Q5) (i:Nat),aJ (λk=>((a i k*a i0 r-a i r*a i0 k:Int):Rat)*y k) r=(a i0 r:Rat)*aJ (λk=>(a i k:Rat)*y k) r-(a i r:Rat)*aJ (λk=>(a i0 k:Rat)*y k) r:=λy i=>by
  rw[<-sumN_mul,<-sumN_mul,<-oO];refine cM λk hk=>?_;rw[qy,fA,fA];grind
 refine⟨λi hi=>?_,λy hy k hk=>?_⟩
 .rw[split]
  have e1:=hx i hi;have e2:=hx i0 hi0;rw[aJ]at e1 e2;rw[qy,fA,fA,<-e1,<-e2];grind
 .have:=hu (λk=>if k=r then -(aJ (λk=>(a i0 k:Rat)*y k) r) / (a i0 r:Rat) else y k) (λi hi=>by
   rw[aJ,ks rfl,cM (g:=λk=>(a i k:Rat)*y k) λk hk=>by rw[fz<|E8]];have:=hy i hi;rw[split]at this;grind) k E8
  rw[fz<|E8]at this;exact this
theorem yZ{x y z w:Int}(h1:x.natAbs<2^b)(h2:y.natAbs<2^b)(h3:z.natAbs<2^b)(h4:w.natAbs<2^b):(x*y-z*w).natAbs<2^(2*b+1):=by
 have p1:(x*y).natAbs<2^(2*b):=by rw[eI,show 2*b=b+b by omega,kx];exact qx h1 h2
 have p2:(z*w).natAbs<2^(2*b):=by rw[eI,show 2*b=b+b by omega,kx];exact qx h3 h4
 rw[vc];omega
theorem y0:∀(r b m:Nat) (a:Nat->Nat->Int) (c:Nat->Int) (x:Q5),r<=8->(∀i,i<m->∀k,k<r->(a i k).natAbs<2^b)->(∀i,i<m->(c i).natAbs<2^b)->(∀i,i<m->aJ (λk=>(a i k:Rat)*x k) r=(c i:Rat))->(∀y:Nat->Rat,(∀i,i<m->aJ (λk=>(a i k:Rat)*y k) r=0)->∀k,k<r->y k=0)->∃D:Int,D≠0/\D.natAbs<=2^tb b r/\∀k,k<r->∃z:Int,z.natAbs<=2^tb b r/\(D:Rat)*x k=(z:Rat)
 |0,b,m,a,c,x,_,_,_,_,_=>⟨1,F4,by simp[tb],λk hk=>E8⟩|1,b,m,a,c,x,_,hb,hc,hx,hu=>by obtain⟨i0,hi0,hh⟩:=Bp hu;refine⟨a i0 0,hh,gP<|hb i0 hi0 0<|E8,λk hk=>⟨c i0,gP<|hc i0 hi0,?_⟩⟩;have:=hx i0 hi0;rw[show k=0 by omega];simp only[aJ]at this;grind
 |2,b,m,a,c,x,_,hb,hc,hx,hu=>by obtain⟨i0,hi0,hh⟩:=Bp hu;obtain⟨h1,h2⟩:=IX hi0 hh hx hu;obtain⟨i1,hi1,hh1⟩:=Bp (a:=λi k=>a i k*a i0 1-a i 1*a i0 k) h2;have e0:=hx i0 hi0;have e1:=hx i1 hi1;simp only[aJ]at e0 e1;refine⟨a i1 0*a i0 1-a i1 1*a i0 0,hh1,gP<|yZ (hb _ hi1 _<|E8) (hb _ hi0 _<|E8) (hb _ hi1 _<|E8)<|hb _ hi0 _<|E8,λk hk=>?_⟩;by_cases hk0:k=0;refine⟨c i1*a i0 1-a i1 1*c i0,gP<|yZ (hc _ hi1) (hb _ hi0 _<|E8) (hb _ hi1 _<|E8)<|hc _ hi0,?_⟩;rw[hk0,qy,fA,fA,qy,fA,fA,<-e0,<-e1];grind;refine⟨a i1 0*c i0-a i0 0*c i1,gP<|yZ (hb _ hi1 _<|E8) (hc _ hi0) (hb _ hi0 _<|E8)<|hc _ hi1,?_⟩;rw[show k=1 by omega,qy,fA,fA,qy,fA,fA,<-e0,<-e1];grind
 |r+3,b,m,a,c,x,hr,hb,hc,hx,hu=>by
  obtain⟨i0,hi0,hh⟩:=Bp hu;obtain⟨h1,h2⟩:=IX hi0 hh hx hu;obtain⟨D,d0,dl,dx⟩:=y0 (r+2) (2*b+1) m (λi k=>a i k*a i0 (r+2)-a i (r+2)*a i0 k) (λi=>c i*a i0 (r+2)-a i (r+2)*c i0) x E8 (λi hi k hk=>yZ (hb _ hi _<|E8) (hb _ hi0 _<|E8) (hb _ hi _<|E8)<|hb _ hi0 _<|E8) (λi hi=>yZ (hc _ hi) (hb _ hi0 _<|E8) (hb _ hi _<|E8)<|hc _ hi0) h1 h2;have hmul:∀y z:Int,y.natAbs<=2^tb (2*b+1) (r+2)->z.natAbs<2^b->(y*z).natAbs<=2^(b+tb (2*b+1) (r+2)):=λy z hy hz=>by rw[eI,vQ,kx];exact jp hy<|gP hz
  have h16:2^(b+tb (2*b+1) (r+2)+4)=2^(b+tb (2*b+1) (r+2))*16:=by rw[kx]
  refine⟨D*a i0 (r+2),mV d0 hh,?_,λk hk=>?_⟩;have:=hmul D _ dl (hb i0 hi0 (r+2)<|E8);rw[tb,h16];omega;by_cases e:k=r+2;subst e;obtain⟨z,z1,hz⟩:=IW (a:=a i0) (x:=λk=>(D:Rat)*x k) (r:=r+2) (λk hk=>hb i0 hi0 k<|E8) dx;refine⟨D*c i0-z,?_,?_⟩;have h3:=hmul D _ dl (hc i0 hi0);have h4:=zZ (D*c i0) z;have h5:(r+2)*2^(b+tb (2*b+1) (r+2))<=8*2^(b+tb (2*b+1) (r+2)):=mR _ E8;rw[tb,h16];omega;have e2:=hx i0 hi0;rw[aJ]at e2;have:aJ (λj=>(a i0 j:Rat)*((D:Rat)*x j)) (r+2)=(D:Rat)*aJ (λj=>(a i0 j:Rat)*x j) (r+2):=by rw[<-sumN_mul];exact cM λj _=>by grind
  rw[this]at hz;rw[qy,fA,fA,<-hz,<-e2];grind;obtain⟨z,z1,hz⟩:=dx k E8;refine⟨z*a i0 (r+2),?_,?_⟩;have:=hmul z _ z1 (hb i0 hi0 (r+2)<|E8);rw[tb,h16];omega;rw[fA,fA,<-hz];grind
def bI(A:Nat->Nat->Int)(n:Nat)(u v:Nat->Int):Int:=sumI (λi=>u i*sumI (λj=>A i j*v j) n) n
theorem bI_cast(A:Nat->Nat->Int)(n:Nat)(u v:Nat->Int):bf (λa b=>((A a b:Int):Rat)) n (λi=>(u i:Rat)) (λi=>(v i:Rat))=((bI A n u v:Int):Rat):=by unfold bf bI;rw[<-vH];refine cM λi _=>?_;rw[fA,<-vH];congr 1;exact cM λj _=>by rw[fA]
theorem sumI_bd{f:Nat->Int}{c:Nat}:∀{n:Nat},(∀i,i<n->(f i).natAbs<=c)->(sumI f n).natAbs<=n*c
 |0,_=>by simp[sumI]|n+1,h=>by have h1:=sumI_bd (f:=f) (n:=n) λi hi=>h i E8;have h2:=h n E8;have h3:=rD (sumI f n)<|f n;rw[sumI,oV];omega
theorem IY{u v:Nat->Int}(hn:n<=5)(hA:∀i j,i<n->j<n->(A i j).natAbs<=50)(hu:∀i,i<n->(u i).natAbs<=2)(hv:∀i,i<n->(v i).natAbs<=2):(bI A n u v).natAbs<2^13:=by
 have h1:∀i,i<n->(sumI (λj=>A i j*v j) n).natAbs<=500:=λi hi=>by
  have:=sumI_bd (f:=λj=>A i j*v j) (c:=100) (n:=n) λj hj=>by rw[eI];exact jp (hA i j hi hj)<|hv j hj
  have:n*100<=5*100:=mR _ hn;omega
 have:=sumI_bd (f:=λi=>u i*sumI (λj=>A i j*v j) n) (c:=1000) (n:=n) λi hi=>by rw[eI];exact jp (hu i hi)<|h1 i hi
 have:n*1000<=5*1000:=mR _ hn;unfold bI;omega
theorem ET:∀{k:Nat},k<=4->tb 13 k<=159
 |0,_=>by decide|1,_=>by decide|2,_=>by decide|3,_=>by decide|4,_=>by decide|k+5,h=>E8
structure Mt(A:Nat->Nat->Int)(n k:Nat)(M:Nat->Nat->Int):Prop where
 sz:∀i,i<k->∀j,j<n->(M i j).natAbs<=2
 one:∀y:Nat->Rat,(∀i,i<k->aJ (λj=>((bI A n (M i) (M j):Int):Rat)*y j) k=0)->∀j,j<k->y j=0
def Lt(A:Nat->Nat->Int)(n k:Nat)(M:Nat->Nat->Int)(v:Nat->Int)(r:Q5):Prop:=
 (∃x:Nat->Rat,∀j,j<n->r j=(v j:Rat)-aJ (λi=>x i*(M i j:Rat)) k)/\∀i,i<k->bf (λa b=>((A a b:Int):Rat)) n (λj=>(M i j:Rat)) r=0
section
variable{M:Nat->Nat->Int}
theorem Lt.lf(hn:n<=5)(hA:∀i j,i<n->j<n->(A i j).natAbs<=50)(mt:Mt A n k M)(hk:k<=4){v:Nat->Int}(hv:∀j,j<n->(v j).natAbs<=2){r:Q5}(h:Lt A n k M v r):Lf 163 n (cE n r):=by
 obtain⟨⟨x,hx⟩,h0⟩:=h;have sys:∀i,i<k->aJ (λj=>((bI A n (M i) (M j):Int):Rat)*x j) k=((bI A n (M i) v:Int):Rat):=λi hi=>by
  have e:=h0 i hi;rw[sK (u':=λj=>(M i j:Rat)) (v':=λj=>(v j:Rat)-1*gj x (λi j=>(M i j:Rat)) k j) (λ_ _=>rfl) (λj hj=>by rw[hx j hj];unfold gj;grind),vJ,sM,bI_cast]at e;have e2:aJ (λj=>((bI A n (M i) (M j):Int):Rat)*x j) k=aJ (λa=>x a*bf (λa b=>((A a b:Int):Rat)) n (λj=>(M i j:Rat)) λj=>(M a j:Rat)) k:=cM λa _=>by rw[bI_cast];grind
  rw[e2];grind
 obtain⟨D,d0,dl,dx⟩:=y0 k 13 k (λi j=>bI A n (M i)<|M j) (λi=>bI A n (M i) v) x E8 (λi hi j hj=>IY hn hA (mt.sz i hi)<|mt.sz j hj) (λi hi=>IY hn hA (mt.sz i hi) hv) sys mt.one;have tb4:=ET hk;have p2:2^tb 13 k<=2^159:=jU F4 tb4;have e163:2^163=2^159*16:=F4
 have hz:∀j,j<n->∃z:Int,z.natAbs<2^163/\r j=Rat.divInt z D:=λj hj=>by
  have hD:((D:Int):Rat)≠0:=λz=>d0 (by exact_mod_cast z);obtain⟨z,z1,z2⟩:∃z:Int,z.natAbs<=k*(2^159*2)/\(D:Rat)*aJ (λi=>x i*(M i j:Rat)) k=(z:Rat):=by
   have:∀m,m<=k->∃z:Int,z.natAbs<=m*(2^159*2)/\(D:Rat)*aJ (λi=>x i*(M i j:Rat)) m=(z:Rat):=λm=>by
    induction m with
    |zero=>exact λ_=>⟨0,KE,by simp[aJ]⟩
    |succ m ih=>
     intro hm;obtain⟨z,z1,z2⟩:=ih E8;obtain⟨w,w1,w2⟩:=dx m E8;refine⟨z+w*M m j,?_,?_⟩;have:=rD z (w*M m j);have h2:(w*M m j).natAbs<=2^159*2:=by rw[eI];exact jp (fL w1 p2)<|mt.sz m E8 j hj
     rw[oV];omega;rw[aJ,vV,fA,<-z2,<-w2];grind
   exact this k<|bZ _
  refine⟨D*v j-z,?_,?_⟩;have h1:=zZ (D*v j) z;have h2:(D*v j).natAbs<=2^159*2:=by rw[eI];exact jp (fL dl p2)<|hv j hj
  have h3:k*(2^159*2)<=4*(2^159*2):=mR _ hk;omega;rw[hx j hj,o4,qy,fA,<-z2,gD];have:=lA _ hD;grind
 obtain⟨c,hc⟩:∃c:Nat->Int,∀j,j<n->(c j).natAbs<2^163/\r j=Rat.divInt (c j) D:=⟨λj=>if h:j<n then Classical.choose (hz j h) else 0,λj hj=>by dsimp only;rw[dif_pos hj];exact Classical.choose_spec<|hz j hj⟩;refine⟨(List.range n).map c,D,KE,d0,mS (fL dl p2)<|E8,λy hy=>?_,?_⟩;obtain⟨j,hj,rfl⟩:=YbU.mp hy;exact(hc j<|Yag.mp hj).1;unfold cE;rw[dG];exact jo λj hj=>(hc j<|Yag.mp hj).2
end
section
variable{M:Nat->Nat->Int}
abbrev cA(A:Nat->Nat->Int):Nat->Nat->Rat:=λa b=>((A a b:Int):Rat)
def nxt(M:Nat->Nat->Int)(k:Nat)(v:Nat->Int):Nat->Nat->Int:=λi=>if i<k then M i else v
theorem Lt.v{v:Nat->Int}{l:Q5}(h:Lt A n k M v l)(hs:∀i j,i<n->j<n->A i j=A j i){w:Q5}(hw:∀i,i<k->bf (cA A) n (λj=>(M i j:Rat)) w=0):bf (cA A) n (λj=>(v j:Rat)) w=bf (cA A) n l w:=by
 obtain⟨⟨x,hx⟩,_⟩:=h;have sy:∀i j,i<n->j<n->cA A i j=cA A j i:=λi j hi hj=>by show((A i j:Int):Rat)=_;rw[hs i j hi hj]
 rw[sL sy l w,sK (u:=w) (u':=w) (v:=l) (v':=λj=>(v j:Rat)-1*gj x (λi j=>(M i j:Rat)) k j) (λ_ _=>rfl) (λj hj=>by rw[hx j hj];unfold gj;grind),vJ,sM,lR λa ha=>by rw[sL sy,hw a ha,Rat.mul_zero],sL sy];grind
theorem Mt.next(m:Mt A n k M)(hs:∀i j,i<n->j<n->A i j=A j i){v:Nat->Int}(hv:∀j,j<n->(v j).natAbs<=2){l:Q5}(h:Lt A n k M v l)(h0:bf (cA A) n l l≠0):Mt A n (k+1) (nxt M k v):=by
 have sy:∀i j,i<n->j<n->cA A i j=cA A j i:=λi j hi hj=>by show((A i j:Int):Rat)=_;rw[hs i j hi hj]
 refine⟨λi hi j hj=>?_,λy hy=>?_⟩;unfold nxt;split;exact m.sz i ‹_› j hj;exact hv j hj;have hw:∀i,i<k+1->bf (cA A) n (λj=>(nxt M k v i j:Rat)) (gj y (λi j=>(nxt M k v i j:Rat))<|k+1)=0:=λi hi=>by rw[sM,<-hy i hi];exact cM λj _=>by rw[bI_cast];grind
 have old:∀i,i<k->nxt M k v i=M i:=λi hi=>by unfold nxt;rw[ks hi]
 have new:nxt M k v k=v:=by unfold nxt;rw[fz<|iu k]
 have e1:=h.v hs (w:=gj y (λi j=>(nxt M k v i j:Rat))<|k+1) λi hi=>by have:=hw i E8;rwa [old i hi]at this
 have e2:=hw k E8;rw[new,e1,sM,aJ,lR λa ha=>by rw[old a ha,sL sy,h.2 a ha,Rat.mul_zero],new,sL sy l,h.v hs h.2]at e2;have yk:y k=0:=by
  rcases Yc8.mp (show y k*bf (cA A) n l l=0 by grind) with e|e
  exact e;exact Qj e h0
 have rest:=m.one y λi hi=>by have:=hy i E8;rw[aJ,yk,Rat.mul_zero,jV]at this;rw[<-this];exact cM λj hj=>by rw[old i hi,old j hj]
 intro j hj;by_cases e:j=k;rw[e];exact yk;exact rest j E8
theorem Lt.next{v:Nat->Int}{l r:Q5}(h:Lt A n k M v l)(h':Lt A n k M v' r)(hs:∀i j,i<n->j<n->A i j=A j i)(h0:bf (cA A) n l l≠0):Lt A n (k+1) (nxt M k v) v' (λj=>r j-bf (cA A) n r l/bf (cA A) n l l*l j):=by
 have sy:∀i j,i<n->j<n->cA A i j=cA A j i:=λi j hi hj=>by show((A i j:Int):Rat)=_;rw[hs i j hi hj]
 have old:∀i,i<k->nxt M k v i=M i:=λi hi=>by unfold nxt;rw[ks hi]
 have new:nxt M k v k=v:=by unfold nxt;rw[fz<|iu k]
 have z:∀i,i<k->bf (cA A) n (λj=>(M i j:Rat)) (λj=>r j-bf (cA A) n r l/bf (cA A) n l l*l j)=0:=λi hi=>by rw[vJ,h.2 i hi,h'.2 i hi];grind
 refine⟨?_,λi hi=>?_⟩;obtain⟨x,hx⟩:=h.1;obtain⟨x',hx'⟩:=h'.1;refine⟨λi=>if i<k then x' i-bf (cA A) n r l/bf (cA A) n l l*x i else bf (cA A) n r l/bf (cA A) n l l,λj hj=>?_⟩;rw[aJ];dsimp only;generalize bf (cA A) n r l/bf (cA A) n l l=q;rw[fz<|iu k,new,cM (g:=λi=>x' i*(M i j:Rat)-q*(x i*(M i j:Rat))) (λi hi=>by rw[ks hi,old i hi];grind),oO,sumN_mul,hx j hj,hx' j hj];grind;by_cases e:i=k;subst e;rw[new];refine(h.v hs z).trans ?_;rw[vJ,sL sy l r];have:=lA _ h0;rw[gD];grind;rw[old i<|E8];exact z i E8
theorem Lt.add{v:Nat->Int}{l r:Q5}(h:Lt A n k M v l)(h':Lt A n k M v' r):Lt A n k M (λj=>v j+v' j) (λj=>l j - -1*r j):=by refine⟨?_,λi hi=>by rw[vJ,h.2 i hi,h'.2 i hi];grind⟩;obtain⟨x,hx⟩:=h.1;obtain⟨x',hx'⟩:=h'.1;refine⟨λi=>x i - -1*x' i,λj hj=>?_⟩;dsimp only;rw[cM (g:=λi=>x i*(M i j:Rat) - -1*(x' i*(M i j:Rat)))<|λi hi=>by grind,oO,sumN_mul,hx j hj,hx' j hj,vV];grind
end
end Pj
def cT(s:QY)(n:Nat)(u v:QZ):Rat:=du u<|bR s n v
def mM(s:QY)(n:Nat):K4->Option QZ
 |[]=>none|l::L=>if cT s n l l=0 then mM s n L else some l
noncomputable def iq(s:QY)(n:Nat):Nat->K4->Option (Nat×QZ)
 |_,[]=>none
 |k,r::R=>match mM s n (r::R.map λo=>bS r (-1) o) with
  |some l=>some (k,l)|none=>iq s n (k+1) R
def iU(s:QY)(n:Nat)(l r:QZ):QZ:=bS r (cT s n r l/cT s n l l) l
noncomputable def u5(s:QY)(n:Nat):Nat->K4->K4->K4
 |0,f,R=>f++R
 |k+1,f,R=>match iq s n 0 R with
  |none=>f++R|some (a,l)=>u5 s n k (f++[l])<|(R.take a++R.drop (a+1)).map (iU s n l)
def dC(s:QY)(n:Nat):K4:=u5 s n n []<|(List.range n).map (cQ n)
theorem IZ{s:QY}{n:Nat}:∀{L:K4},mM s n L=none->∀l∈L,cT s n l l=0
 |[],_,l,hl=>by cases hl
 |x::L,h,l,hl=>by
  rw[mM]at h;split at h;rcases Yan.mp hl with rfl|hl
  assumption;exact IZ h l hl;cases h
theorem I0{s:QY}{n:Nat}{l:QZ}:∀{L:K4},mM s n L=some l->l∈L/\cT s n l l≠0
 |[],h=>by cases h
 |x::L,h=>by rw[mM]at h;split at h;obtain⟨h1,h2⟩:=I0 h;exact⟨fM _ h1,h2⟩;rename_i hx;cases h;exact⟨gZ ..,hx⟩
theorem Ja{s:QY}{n:Nat}:∀{k:Nat} {R:K4},iq s n k R=none->(∀r∈R,cT s n r r=0)/\R.Pairwise λr o=>cT s n (bS r (-1) o) (bS r (-1) o)=0
 |_,[],_=>⟨KE,.nil⟩
 |k,r::R,h=>by
  rw[iq]at h;cases e:mM s n (r::R.map λo=>bS r (-1) o) with
  |some l=>rw[e]at h;cases h
  |none=>
   rw[e]at h;obtain⟨h1,h2⟩:=Ja (k:=k+1) (R:=R) h;have z:=IZ e;refine⟨λx hx=>?_,List.pairwise_cons.mpr ⟨λo ho=>z _<|fM _<|o1 ho,h2⟩⟩;rcases Yan.mp hx with rfl|hx
   exact z _<|gZ ..
   exact h1 x hx
theorem Jb{s:QY}{n:Nat}{a:Nat}{l:QZ}:∀{k:Nat} {R:K4},iq s n k R=some (a,l)->∃i,a=k+i/\i<R.length/\(l=R.getD i []\/∃o∈R.drop (i+1),l=bS (R.getD i []) (-1) o)/\cT s n l l≠0
 |_,[],h=>by cases h
 |k,r::R,h=>by
  rw[iq]at h;cases e:mM s n (r::R.map λo=>bS r (-1) o) with
  |some l'=>
   rw[e]at h;cases h;obtain⟨h1,h2⟩:=I0 e;refine⟨0,rfl,KE,?_,h2⟩;rcases Yan.mp h1 with e1|h1
   exact .inl e1;obtain⟨o,ho,e1⟩:=YbU.mp h1;exact .inr ⟨o,ho,e1.symm⟩
  |none=>rw[e]at h;obtain⟨i,h1,h2,h3,h4⟩:=Jb (k:=k+1) (R:=R) h;exact⟨i+1,E8,by simpa using h2,by simpa using h3,h4⟩
def gq(r:QZ):Nat->Rat:=λj=>r.getD j 0
abbrev sA(s:QY)(n:Nat):Nat->Nat->Int:=tA<|tbl s n
section
theorem mO(h:IsSl s n){u v:QZ}(hu:u.length=n)(hv:v.length=n):cT s n u v=bf (Pj.cA<|sA s n) n (gq u) (gq v):=by unfold cT;rw[yN u _ n hu<|Gs.tims_len v];exact cM λi hi=>by rw[Gs.tims_at h hv hi];rfl
theorem oQ{o:QZ}(hr:r.length=n)(ho:o.length=n):(bS r q o).length=n:=by unfold bS;rw[rC];omega
theorem Bq{o:QZ}(hr:r.length=n)(ho:o.length=n):∀j,j<n->gq (bS r q o) j=gq r j-q*gq o j:=λj hj=>by unfold gq bS;simp only[aZ];rw[bU (by rw[rC];omega),bU<|E8,bU<|E8,vh];rfl
theorem EU(hr:r.length=n):cE n (gq r)=r:=by
 refine qw λi=>?_;unfold cE gq;rw[cH];rcases eV i n with hi|hi
 rw[iX hi,bU<|E8];show some (r.getD i 0)=_;rw[aZ,bU<|E8];rfl;rw[eA (by rw[iY];exact hi),eA<|E8];rfl
theorem EV(h:IsSl s n)(ev:s.reverse=s):∀i j,i<n->j<n->sA s n i j=sA s n j i:=λi j hi hj=>by
 have e1:=mO h (sC n i)<|sC n j;have e2:=mO h (sC n j)<|sC n i;have e3:cT s n (cQ n i) (cQ n j)=cT s n (cQ n j) (cQ n i):=by unfold cT;rw[GX h (sC n j)<|sC n i,ev]
 have key:∀a b,a<n->b<n->bf (Pj.cA<|sA s n) n (gq<|cQ n a) (gq<|cQ n b)=((sA s n a b:Int):Rat):=λa b ha hb=>by unfold bf;rw[jP ha λi hi ne=>by show(cQ n a).getD i 0*_=0;rw[uY hi,fz ne,kK],jP hb λj hj ne=>by show _*(cQ n b).getD j 0=0;rw[uY hj,fz ne,Rat.mul_zero]];show(cQ n a).getD a 0*(_*(cQ n b).getD b 0)=_;rw[uY ha,uY hb,ks rfl,ks rfl,vX,Rat.mul_one]
 rw[e1,e2,key i j hi hj,key j i hj hi]at e3;exact_mod_cast e3
theorem y4(h:IsSl s n):∀i j,i<n->j<n->(sA s n i j).natAbs<=50:=λi j hi hj=>by show(tA (tbl s n) i j).natAbs<=50;rw[Gs.tA_ent h hi hj];have hl:=h.len;unfold ent;rw[aZ,bU<|E8];have:=h.b _<|jn (l:=s) (n:=n-1-i+j) E8;show(s[n-1-i+j]).natAbs<=50;omega
structure Sg(s:QY)(n:Nat)(f R:K4):Prop where
 len:f.length+R.length=n
 wf:∀r∈f,r.length=n
 wR:∀r∈R,r.length=n
 ex:∃M,Pj.Mt (sA s n) n f.length M/\∀r∈R,∃v:Nat->Int,(∀j,j<n->(v j).natAbs<=1)/\Pj.Lt (sA s n) n f.length M v (gq r)
 lf:∀r∈f,Lf 163 n r
 ff:f.Pairwise λu v=>cT s n u v=0
 fR:∀u∈f,∀r∈R,cT s n u r=0
 fu:∀x:QZ,x.length=n->(∀r∈f++R,du r x=0)->∀k,k<n->x.getD k 0=0
theorem Sg.rows(h:IsSl s n){f R:K4}(g:Sg s n f R):∀r∈R,Lf 163 n r:=λr hr=>by obtain⟨M,m,hM⟩:=g.ex;obtain⟨v,hv,l⟩:=hM r hr;have hl:=g.len;have:0<R.length:=Cf hr;have:=l.lf h.n5 (y4 h) m (by have:=h.n5;omega) λj hj=>fL (hv j hj) F4;rwa [EU<|g.wR r hr]at this
theorem Sg.start(h:IsSl s n):Sg s n [] ((List.range n).map<|cQ n):=by refine⟨KE,KE,λr hr=>?_,⟨λ_ _=>0,⟨λi hi=>by simp at hi,λy _ j hj=>by simp at hj⟩,λr hr=>?_⟩,KE,.nil,KE,λx hx h0 k hk=>?_⟩;obtain⟨k,_,rfl⟩:=YbU.mp hr;exact sC n k;obtain⟨k,hk,rfl⟩:=YbU.mp hr;refine⟨λj=>if j=k then 1 else 0,λj hj=>by dsimp only;split<;>decide,⟨λ_=>0,λj hj=>?_⟩,λi hi=>by simp at hi⟩;show(cQ n k).getD j 0=_;rw[uY hj];simp only[iw,aJ];split<;>grind;have:=h0 (cQ n k) (by simp;exact⟨k,hk,rfl⟩);rw[yN _ x n (sC n k) hx,jP hk λi hi ne=>by rw[uY hi,fz ne,kK],uY hk,ks rfl,vX]at this;exact this
end
section
theorem Bt(h:IsSl s n)(ev:s.reverse=s){u v:QZ}(hu:u.length=n)(hv:v.length=n):cT s n u v=cT s n v u:=by unfold cT;rw[GX h hv hu,ev]
theorem vK(h:IsSl s n){u v w:QZ}(hu:u.length=n)(hv:v.length=n)(hw:w.length=n):cT s n u (bS v q w)=cT s n u v-q*cT s n u w:=by rw[mO h hu<|oQ hv hw,mO h hu hv,mO h hu hw,sK (u':=gq u) (v':=λj=>gq v j-q*gq w j) (λ_ _=>rfl)<|Bq hv hw,vJ]
structure Ld(s:QY)(n:Nat)(f R:K4)(a:Nat)(l:QZ):Prop where
 at_:a<R.length
 len:l.length=n
 le:l=R.getD a []\/∃o∈R.take a++R.drop (a+1),l=bS (R.getD a []) (-1) o
 nz:cT s n l l≠0
theorem Sg.ld{f R:K4}(g:Sg s n f R)(e:iq s n 0 R=some (a,l)):Ld s n f R a l:=by
 obtain⟨i,h1,h2,h3,h4⟩:=Jb e;obtain rfl:a=i:=E8
 have ha:=g.wR _<|qs h2;rcases h3 with rfl|⟨o,ho,rfl⟩
 exact⟨h2,ha,.inl rfl,h4⟩;exact⟨h2,oQ ha<|g.wR _<|qc ho,.inr ⟨o,kI _ ho,rfl⟩,h4⟩
theorem Ld.lt(h:IsSl s n){f R:K4}(g:Sg s n f R)(d:Ld s n f R a l){M:Nat->Nat->Int}(hM:∀r∈R,∃v:Nat->Int,(∀j,j<n->(v j).natAbs<=1)/\Pj.Lt (sA s n) n f.length M v (gq r)):∃v:Nat->Int,(∀j,j<n->(v j).natAbs<=2)/\Pj.Lt (sA s n) n f.length M v (gq l):=by
 obtain⟨v,hv,hl⟩:=hM _<|qs d.at_;rcases d.le with e|⟨o,ho,e⟩
 rw[e];exact⟨v,λj hj=>fL (hv j hj)<|F4,hl⟩;obtain⟨v',hv',hl'⟩:=hM o (lQ ho);refine⟨λj=>v j+v' j,λj hj=>?_,?_⟩;have:=rD (v j) (v' j);have:=hv j hj;have:=hv' j hj;dsimp only;omega;have:=hl.add hl';obtain⟨⟨x,hx⟩,h2⟩:=this;have eq:=Bq (q:=-1) (g.wR _<|qs d.at_)<|g.wR _ (lQ ho);rw[<-e]at eq;exact⟨⟨x,λj hj=>(eq j hj).trans (hx j hj)⟩,λi hi=>by rw[sK (λ_ _=>rfl) eq];exact h2 i hi⟩
theorem Ld.lf(h:IsSl s n){f R:K4}(g:Sg s n f R){a:Nat}{l:QZ}(d:Ld s n f R a l):Lf 163 n l:=by obtain⟨M,m,hM⟩:=g.ex;obtain⟨v,hv,hl⟩:=d.lt h g hM;have:=d.at_;have:=g.len;have:=hl.lf h.n5 (y4 h) m (by have:=h.n5;omega) hv;rwa [EU d.len]at this
theorem ON(hr:r.length=n)(hl:l.length=n):(iU s n l r).length=n:=oQ hr hl
theorem Ld.out(h:IsSl s n)(ev:s.reverse=s){f R:K4}(g:Sg s n f R)(d:Ld s n f R a l):∀u∈f,cT s n u l=0:=λu hu=>by
 have e1:=g.fR u hu _<|qs d.at_;rcases d.le with e|⟨o,ho,e⟩
 rw[e];exact e1;rw[e,vK h (g.wf u hu) (g.wR _<|qs d.at_)<|g.wR _<|lQ ho,e1,g.fR u hu o<|lQ ho];grind
theorem Sg.step(h:IsSl s n)(ev:s.reverse=s){f R:K4}(g:Sg s n f R)(d:Ld s n f R a l):Sg s n (f++[l]) ((R.take a++R.drop (a+1)).map<|iU s n l):=by
 have hlen:=g.len;have ha:=d.at_;have ra:=g.wR _<|qs d.at_;have hl:=d.len;have sy:=EV h ev;have nz:bf (Pj.cA<|sA s n) n (gq l) (gq l)≠0:=by rw[<-mO h hl hl];exact d.nz
 have wa:∀r∈R,(iU s n l r).length=n:=λr hr=>ON (g.wR r hr) hl;have own:∀r∈R,cT s n l (iU s n l r)=0:=λr hr=>by unfold iU;rw[vK h hl (g.wR r hr) hl,Bt h ev hl<|g.wR r hr,gD];have:=lA _ d.nz;grind
 refine⟨by simp;omega,λr hr=>?_,λr hr=>?_,?_,λr hr=>?_,?_,λu hu r hr=>?_,λx hx h0=>?_⟩;rcases Yao.mp hr with hr|hr
 exact g.wf r hr;rw[YcT.mp hr];exact hl;obtain⟨r0,h0,rfl⟩:=YbU.mp hr;exact wa r0<|lQ h0
 obtain⟨M,m,hM⟩:=g.ex;obtain⟨v,hv,lt⟩:=d.lt h g hM;refine⟨Pj.nxt M f.length v,?_,λr hr=>?_⟩;rw[fN,rB];exact m.next sy hv lt nz;obtain⟨r0,h0,rfl⟩:=YbU.mp hr;obtain⟨v',hv',lt'⟩:=hM r0<|lQ h0;rw[fN,rB];obtain⟨⟨x,hx⟩,h2⟩:=lt.next lt' sy nz;have eq:∀j,j<n->gq (iU s n l r0) j=gq r0 j-bf (Pj.cA<|sA s n) n (gq r0) (gq l)/bf (Pj.cA<|sA s n) n (gq l) (gq l)*gq l j:=λj hj=>by unfold iU;rw[Bq (g.wR r0<|lQ h0) hl j hj,mO h (g.wR r0<|lQ h0) hl,mO h hl hl]
 exact⟨v',hv',⟨x,λj hj=>(eq j hj).trans (hx j hj)⟩,λi hi=>by rw[sK (λ_ _=>rfl) eq];exact h2 i hi⟩;rcases Yao.mp hr with hr|hr
 exact g.lf r hr;rw[YcT.mp hr];exact d.lf h g;exact List.pairwise_append.mpr ⟨g.ff,KE,λu hu v hv=>by rw[YcT.mp hv];exact d.out h ev g u hu⟩;obtain⟨r0,h0,rfl⟩:=YbU.mp hr;rcases Yao.mp hu with hu|hu
 unfold iU;rw[vK h (g.wf u hu) (g.wR r0<|lQ h0) hl,g.fR u hu r0<|lQ h0,d.out h ev g u hu];grind;rw[YcT.mp hu];exact own r0<|lQ h0
 have zl:du l x=0:=h0 l KE;have zc:∀r∈R.take a++R.drop (a+1),du r x=0:=λr hr=>by have:=h0 (iU s n l r)<|kI _ (o1 hr);unfold iU at this;rw[Ip<|by rw[g.wR r<|lQ hr,hl],zl]at this;grind
 refine g.fu x hx λr hr=>?_;rcases Yao.mp hr with hr|hr
 exact h0 r (by simp[hr]);rcases(NN ha r).mp hr with rfl|hr
 rcases d.le with e|⟨o,ho,e⟩
 rw[<-e];exact zl;rw[e,Ip<|by rw[ra,g.wR o<|lQ ho],zc o ho]at zl;grind;exact zc r hr
structure Pa(s:QY)(n:Nat)(P:K4):Prop where
 len:P.length=n
 lf:∀r∈P,Lf 163 n r
 ap:P.Pairwise λu v=>cT s n u v=0
 fu:∀x:QZ,x.length=n->(∀r∈P,du r x=0)->∀k,k<n->x.getD k 0=0
theorem Sg.fin(h:IsSl s n)(ev:s.reverse=s){f R:K4}(g:Sg s n f R)(e:iq s n 0 R=none):Pa s n (f++R):=by
 obtain⟨h1,h2⟩:=Ja e;refine⟨by rw[fN];exact g.len,λr hr=>?_,List.pairwise_append.mpr ⟨g.ff,?_,g.fR⟩,g.fu⟩;rcases Yao.mp hr with hr|hr
 exact g.lf r hr;exact g.rows h r hr;refine h2.imp_of_mem λ{r o} hr ho hz=>?_;have wr:=g.wR r hr;have wo:=g.wR o ho;rw[vK h (oQ wr wo) wr wo,Bt h ev (oQ wr wo) wr,Bt h ev (oQ wr wo) wo,vK h wr wr wo,vK h wo wr wo,h1 r hr,h1 o ho,Bt h ev wo wr]at hz;grind
theorem Jc(h:IsSl s n)(ev:s.reverse=s):∀(k:Nat) {f R:K4},Sg s n f R->R.length<=k->Pa s n (u5 s n k f R)
 |0,f,R,g,hk=>by have:R=[]:=List.length_eq_zero_iff.mp E8;subst this;exact g.fin h ev rfl
 |k+1,f,R,g,hk=>by
  rw[u5];cases e:iq s n 0 R with
  |none=>exact g.fin h ev e|some al=>obtain⟨a,l⟩:=al;have d:=g.ld e;have ha:=d.at_;exact Jc h ev k (g.step h ev d) (by rw[bH,fN,iC,lx];omega)
theorem y6(h:IsSl s n)(ev:s.reverse=s):Pa s n (dC s n):=Jc h ev n (Sg.start h) KE
def pU(P:K4):Nat->Nat->Rat:=λa=>gq<|P.getD a []
theorem Pa.ap'(h:IsSl s n)(ev:s.reverse=s){P:K4}(p:Pa s n P):Ap (Pj.cA<|sA s n) n (pU P):=by
 have wl:∀a,a<n->(P.getD a []).length=n:=λa ha=>(p.lf _<|qs (by rw[p.len];exact ha)).len;refine⟨λa b ha hb ne=>?_,λx hx k hk=>?_⟩;have key:∀a b,a<b->b<n->bf (Pj.cA<|sA s n) n (pU P a) (pU P b)=0:=λa b hab hb=>by have hp:=List.pairwise_iff_getElem.mp p.ap a b (by rw[p.len];omega) (by rw[p.len];exact hb) hab;unfold pU;rw[<-mO h (wl a<|E8) (wl b hb),aZ,aZ,bU (by rw[p.len];omega),bU (by rw[p.len];exact hb)];exact hp
 rcases eV a b with l|l
 exact key a b l hb;rw[sL λi j hi hj=>by show((sA s n i j:Int):Rat)=_;rw[EV h ev i j hi hj]];exact key b a E8 ha;have:=p.fu (cE n x) (IT n x) (λr hr=>?_) k hk;rwa [IU x hk]at this;obtain⟨a,ha,e⟩:=Ybx.mp hr;have e':P.getD a []=r:=by rw[aZ,bU ha];exact e
 rw[p.len]at ha;have:=hx a ha;refine Eq.trans ?_ this;rw[<-e',yN _ _ n (wl a ha)<|IT n x];exact cM λj hj=>by rw[IU x hj];rfl
end
def iV:Option (Nat×QZ)->D
 |none=>.non|some (a,l)=>.tup [.int (a:Int),aH l]
def Bu(x:D):Except Str D:=ij x (if lP x=true then .ok (jj<|dC (sI x)<|sN x) else .error "NotEven")
def y8:bV:=fnS (λx:SL×K4×K4=>[aT x.1.1,jj x.2.2]) (λx=>IsSl x.1.1 x.1.2/\x.1.1.reverse=x.1.1/\Sg x.1.1 x.1.2 x.2.1 x.2.2) λx=>iV<|iq x.1.1 x.1.2 0 x.2.2
def Bv:bV:=fnS (λx:SL×QZ×QZ=>[aT x.1.1,aH x.2.1,aH x.2.2]) (λx=>IsSl x.1.1 x.1.2/\x.1.1.reverse=x.1.1/\Lf 163 x.1.2 x.2.1/\Lf 163 x.1.2 x.2.2/\cT x.1.1 x.1.2 x.2.2 x.2.2≠0) λx=>aH<|iU x.1.1 x.1.2 x.2.2 x.2.1
def Bw:bV:=xS (λx:D=>[x]) (λx=>kd x=true) Bu
section
variable{E:Rb}{x z:D}{w:Nat}{u v:QZ}{R P f:K4}
theorem Jd(h:IsSl s n)(ev:s.reverse=s)(g:Sg s n f R)(q:Q (iV<|iq s n 0 R)):y8 [aT s,jj R] E Q:=⟨((s,n),f,R),rfl,⟨h,ev,g⟩,q⟩
theorem OO(h:IsSl s n)(ev:s.reverse=s)(h1:Lf 163 n r)(h2:Lf 163 n l)(h3:cT s n l l≠0)(q:Q (aH<|iU s n l r)):Bv [aT s,aH r,aH l] E Q:=⟨((s,n),r,l),rfl,⟨h,ev,h1,h2,h3⟩,q⟩
theorem Je(h:IsSl s n)(ev:s.reverse=s)(q:Q .non):uQ [aT s] E Q:=xS.ok (aT s) rfl h.kd (by(try dsimp only);rw[gK h];unfold lP;rw[fw,Qm ev];rfl) q
theorem OP(h:IsSl s n)(ev:s.reverse=s)(q:Q (jj<|dC s n)):Bw [aT s] E Q:=xS.ok (aT s) rfl h.kd (by(try dsimp only);unfold Bu;rw[gK h];unfold lP;rw[fw,Qm ev,h.sN];rfl) q
theorem OQ(h:IsSl s n)(ev:s.reverse=s)(hu:u.length=n)(hv:v.length=n):DX (aT s) (aH u) (aH v)=.ok (aU<|cT s n u v):=by
 unfold DX DW;rw[gK h];unfold lP;have e1:gW n (aH u)=true:=by have:=AC u;rwa [hu]at this
 have e2:gW n (aH v)=true:=by have:=AC v;rwa [hv]at this
 rw[fw,Qm ev,h.sN,e1,e2,re,re];rfl
theorem Bx(h:IsSl s n)(ev:s.reverse=s)(hu:u.length=n)(hv:v.length=n)(zu:∀x∈u,Sz 170 x)(zv:∀x∈v,Sz 170 x)(q:Q (aU<|cT s n u v)):qr [aT s,aH u,aH v] E Q:=
 xS.ok (aT s,aH u,aH v) rfl ⟨h.kd,Au (by have:=h.n5;omega),Au (by have:=h.n5;omega),Zdq.mpr zu,Zdq.mpr zv⟩ (OQ h ev hu hv) q
end
theorem By(h:IsSl s n){u v:QZ}(hu:Lf b n u)(hv:Lf b n v):Sz (2*b+11) (cT s n u v):=by
 rw[mO h hu.len hv.len];obtain⟨c,e,h1,h2,h3,h4,rfl⟩:=hu.ex;obtain⟨d,g,g1,g2,g3,g4,rfl⟩:=hv.ex;have gc:∀(c:QY) (e:Int) j,gq (c.map λx=>Rat.divInt x e) j=Rat.divInt (c.getD j 0) e:=λc e j=>by
  unfold gq;rw[aZ,cH,aZ];cases c[j]? with
  |none=>show(0:Rat)=Rat.divInt 0 e;rw[Cd]|some x=>rfl
 have key:bf (Pj.cA<|sA s n) n (gq<|c.map λx=>Rat.divInt x e) (gq<|d.map λx=>Rat.divInt x g)=Rat.divInt (Pj.bI (sA s n) n (λj=>c.getD j 0) λj=>d.getD j 0) (e*g):=by
  have ie:((e*g:Int):Rat)⁻¹=((e:Int):Rat)⁻¹*((g:Int):Rat)⁻¹:=by have ne:((e:Int):Rat)≠0:=λz=>h2 (by exact_mod_cast z);have ng:((g:Int):Rat)≠0:=λz=>g2 (by exact_mod_cast z);have a1:=lA _ ne;have a2:=lA _ ng;have a3:=lA (((e:Int):Rat)*((g:Int):Rat)) (λz=>by rcases Yc8.mp z with z|z;exact ne z;exact ng z);rw[fA];generalize (((e:Int):Rat)*((g:Int):Rat))⁻¹=x at *;grind
  rw[o4,<-Pj.bI_cast,gD,mW,ie];unfold bf;rw[<-Dt.sumN_mul];refine cM λi _=>?_;rw[gc,o4,cM (g:=λj=>((g:Int):Rat)⁻¹*((sA s n i j:Rat)*((d.getD j 0:Int):Rat))) (λj _=>by rw[gc,o4,gD];grind),Dt.sumN_mul,gD];grind
 rw[key];have m5:=h.n5;have cz:∀(c:QY) (j:Nat),(∀x∈c,x.natAbs<2^b)->(c.getD j 0).natAbs<=2^b:=λc j hc=>by
  rw[aZ];cases e:c[j]? with
  |none=>exact jT _|some x=>exact gP<|hc x (iD e)
 refine xR (mV h2 g2) ?_ ?_;have h1:∀i,i<n->(Dt.sumI (λj=>sA s n i j*d.getD j 0) n).natAbs<=n*(50*2^b):=λi hi=>Pj.sumI_bd λj hj=>by rw[eI];exact jp (y4 h i j hi hj)<|cz d j g4
 have h2:=Pj.sumI_bd (f:=λi=>c.getD i 0*Dt.sumI (λj=>sA s n i j*d.getD j 0) n) (c:=2^b*(n*(50*2^b))) (n:=n) λi hi=>by rw[eI];exact jp (cz c i h4)<|h1 i hi
 have h3:n*(2^b*(n*(50*2^b)))<=5*(2^b*(5*(50*2^b))):=jp m5<|zY _ (mR _ m5);have e1:2^(2*b+11)=2^b*2^b*2048:=by rw[kx,show 2*b=b+b by omega,kx]
 have e2:5*(2^b*(5*(50*2^b)))=1250*(2^b*2^b):=by grind
 have e3:0<2^b*2^b:=Nat.mul_pos (zR<|F4)<|zR F4;unfold Pj.bI;dsimp only;omega
 rw[eI,kx,show 2*b=b+b by omega,kx];have:=qx h3 g3;omega
abbrev ZgS:Q4:=["slants", "rows", "at", "row", "sums", "lead"]
def EW:WS:=(bM 4<|aL (bE<|bF (iE<|aC (wN 1) aA) (ez 2<|c7 (gN 2)<|c7 (gN 3) et)<|aL (bX 4<|aLC (iS<|cL (wN 1) (eh<|w2 gAdd (wN 2)<|wC<|.int<|1) fq) 1 [3] (gN 0) cX<|wF rh<|aC (wN 1)<|aC (wF uz<|aC (wC<|D.tup [(D.int<|0),(D.int<|1)])<|aC (wC<|D.tup [(D.int<|1),(D.int<|1)]) aA)<|aC (wN 0) aA)<|bM 4<|bE<|bF (iS<|w2 gAdd (wL<|bP<|aC (wN 3) aA)<|wN 4) (gN 5)<|cR (wT<|w2 (gEq true) (wF qr<|aC (wN 0)<|aC (wN 5)<|aC (wN 5) aA)<|wC<|D.tup [(D.int<|0),(D.int<|1)]) (aN<|bD<|aC (wN 2)<|aC (wN 5) aA) cW)<|aN<|wC D.non)
abbrev ZgX:Q4:=["slants", "row", "lead"]
def Jf:WS:=(aN<|wF rh<|aC (wN 1)<|aC (wF mC<|aC (wF qr<|aC (wN 0)<|aC (wN 1)<|aC (wN 2) aA)<|aC (wF qr<|aC (wN 0)<|aC (wN 2)<|aC (wN 2) aA) aA)<|aC (wN 2) aA)
abbrev ZgW:Q4:=["slants", "size", "found", "rest", "place_and_lead", "at", "lead"]
def EY:WS:=(aL (gF<|wF uQ<|aC (wN 0) aA)<|aL (aR 1<|wF mZ<|aC (wN 0) aA)<|aL (bX 2<|bP aA)<|aL (bX 3<|aLC (fD<|aC (wN 1) aA) 1 [1] (gN 0) cX<|wF AX<|aC (wN 0)<|aC (wN 1) aA)<|bM 3<|aL (aR 4<|wF y8<|aC (wN 0)<|aC (wN 3) aA)<|bM 3<|aL (bE<|uo (wT<|w2 (gIsC true) (wN 4)<|wC D.non)<|aL (eE (wN 4)<|ez 2<|c7 (gN 5)<|c7 (gN 6) et)<|aL (da 2<|wN 6)<|bM 3<|aL (bX 3<|aLC (iS<|w2 gAdd (cL (wN 3) fq<|eh<|wN 5)<|cL (wN 3) (eh<|w2 gAdd (wN 5)<|wC<|.int<|1) fq) 1 [0,6] (gN 0) cX<|wF Bv<|aC (wN 1)<|aC (wN 0)<|aC (wN 2) aA)<|bM 3<|aR 4<|wF y8<|aC (wN 0)<|aC (wN 3) aA)<|bM 2<|bM 3<|aN<|w2 gAdd (wN 2)<|wN 3)
theorem OR:Rd Bv Jf ZgX:=by rintro _ E Q ⟨⟨⟨s,n⟩,r,l⟩,rfl,⟨h,ev,hr,hl,h0⟩,q⟩;dsimp only at h ev hr hl h0 q;unfold Jf;ext;have up:∀x:Rat,Sz 163 x->Sz 170 x:=λx hx=>hx.mono F4;have z1:=By h hr hl;have z2:=By h hl hl;refine Bx h ev hr.len hl.len (λx hx=>up x<|hr.sz x hx) (λx hx=>up x<|hl.sz x hx)<|Bx h ev hl.len hl.len (λx hx=>up x<|hl.sz x hx) (λx hx=>up x<|hl.sz x hx) (uE (B2.of z1 z2<|F4) h0 ?_);exact AZ (b:=674) F4 (by rw[hr.len];have:=h.n5;omega) (λy hy=>(hr.sz y hy).mono<|F4) ((z1.div z2).mono<|F4) (λy hy=>(hl.sz y hy).mono<|F4) q
theorem Jg{neg:Bool}{P:Rf}(h:P (.bl (if neg then !decide (q=0) else decide (q=0)))):gEq neg (aU q) (.tup [.int 0,.int 1]) P:=by
 refine rc (ut _ 59) wp ?_;have e:k6 (aU q) (.tup [.int 0,.int 1])=decide (q=0):=by rw[<-Hh,DN]
 rw[e];exact h
theorem Jh{s:QY}{n:Nat}{Q:Rf}{E:Rb}{N:Nds}{s1 s3 s4:SV}{k:Nat}(h:IsSl s n)(ev:s.reverse=s)(hN:N.rt=Q):∀(L:K4) (s5:SV),(∀r∈L,Lf 163 n r)->(∀l,mM s n L=some l->Q (.tup [.int k,aH l]))->(mM s n L=none->∀s5,N.nx [.d<|aT s,s1,.d<|.int k,s3,s4,s5])->ZbA (gN 5) (cR (wT<|w2 (gEq true) (wF qr<|aC (wN 0)<|aC (wN 5)<|aC (wN 5) aA)<|wC<|D.tup [(D.int<|0),(D.int<|1)]) (aN<|bD<|aC (wN 2)<|aC (wN 5) aA) cW) E N (L.map aH) [.d<|aT s,s1,.d<|.int k,s3,s4,s5]
 |[],s5,_,_,h2=>h2 rfl s5
 |r::L,s5,hl,h1,h2=>by
  rw[c8,ZbA];simp only[gN,hJ,g9];have hr:=hl r KE;have up:∀x∈r,Sz 170 x:=λx hx=>(hr.sz x hx).mono F4;refine ik (b:=!decide (cT s n r r=0)) (λP hP=>?_) (λe=>?_) λe=>?_;ext;exact Bx h ev hr.len hr.len up up<|Jg hP
  have e0:¬cT s n r r=0:=by simpa using e
  have:=h1 r (by rw[mM,fz e0]);rw[<-hN]at this;ext;exact⟨F4,this⟩;have e0:cT s n r r=0:=by simpa using e
  exact Jh h ev hN L _ (λx hx=>hl x<|by simp[hx]) (λl hl'=>h1 l (by rw[mM,ks e0];exact hl')) λhn=>h2 (by rw[mM,ks e0];exact hn)
theorem Sg.sums(h:IsSl s n){f R:K4}(g:Sg s n f R):∀r∈R,∀o∈R,Lf 163 n (bS r (-1) o):=λr hr o ho=>by
 obtain⟨M,m,hM⟩:=g.ex;obtain⟨v,hv,hl⟩:=hM r hr;obtain⟨v',hv',hl'⟩:=hM o ho;obtain⟨⟨x,hx⟩,h2⟩:=hl.add hl';have eq:=Bq (q:=-1) (g.wR r hr)<|g.wR o ho;have hlen:=g.len;have:0<R.length:=Cf hr;have lt:Pj.Lt (sA s n) n f.length M (λj=>v j+v' j) (gq<|bS r (-1) o):=⟨⟨x,λj hj=>(eq j hj).trans (hx j hj)⟩,λi hi=>by rw[sK (λ_ _=>rfl) eq];exact h2 i hi⟩
 have:=lt.lf h.n5 (y4 h) m (by have:=h.n5;omega) λj hj=>by have:=rD (v j)<|v' j;have:=hv j hj;have:=hv' j hj;omega
 rwa [EU<|oQ (g.wR r hr)<|g.wR o ho]at this
theorem Ji{s:QY}{n:Nat}{Q:Rf}{E:Rb}{N:Nds}{f R:K4}(h:IsSl s n)(ev:s.reverse=s)(g:Sg s n f R)(hN:N.rt=Q):∀(R':K4) (k:Nat) (s2 s3 s4 s5:SV),R.drop k=R'->k+R'.length=R.length->(∀a l,iq s n k R'=some (a,l)->Q (.tup [.int (a:Int),aH l]))->(iq s n k R'=none->∀s2 s3 s4 s5,N.nx [.d<|aT s,.d<|jj R,s2,s3,s4,s5])->ZbA (ez 2<|c7 (gN 2)<|c7 (gN 3) et) (aL (bX 4<|aLC (iS<|cL (wN 1) (eh<|w2 gAdd (wN 2)<|wC<|.int<|1) fq) 1 [3] (gN 0) cX<|wF rh<|aC (wN 1)<|aC (wF uz<|aC (wC<|D.tup [(D.int<|0),(D.int<|1)])<|aC (wC<|D.tup [(D.int<|1),(D.int<|1)]) aA)<|aC (wN 0) aA)<|bM 4<|bE<|bF (iS<|w2 gAdd (wL<|bP<|aC (wN 3) aA)<|wN 4) (gN 5)<|cR (wT<|w2 (gEq true) (wF qr<|aC (wN 0)<|aC (wN 5)<|aC (wN 5) aA)<|wC<|D.tup [(D.int<|0),(D.int<|1)]) (aN<|bD<|aC (wN 2)<|aC (wN 5) aA) cW) E N (fe k<|R'.map aH) [.d<|aT s,.d<|jj R,s2,s3,s4,s5]
 |[],k,s2,s3,s4,s5,_,_,_,h2=>h2 rfl s2 s3 s4 s5
 |r::R',k,s2,s3,s4,s5,hd,hk,h1,h2=>by
  rw[c8,fe,ZbA];refine⟨rfl,?_⟩;simp only[c7,et,gN,hJ,g9];have n5:=h.n5;have gl:=g.len;have hr:r∈R:=qc (i:=k) (by rw[hd];simp);have hR':∀o∈R',o∈R:=λo ho=>qc (i:=k) (by rw[hd];simp[ho]);have tl:R.drop (k+1)=R':=by rw[<-List.drop_drop,hd];rfl
  simp only[dR]at hk;have lr:=g.rows h r hr;refine bW<|B.C.own_by (xs:=(R'.map λo=>bS r (-1) o).map aH) (ρ':=[.d<|aT s,.d<|jj R,.d<|.int k,.d<|aH r,.ow<|(R'.map λo=>bS r (-1) o).map aH,s5]) rfl (λP hP=>?_) ?_
  unfold jj;ext;rw[show(k:Int)+1=((k+1:Nat):Int) by omega,AH (by rw[bH];omega),<-sY,tl];refine iA (g:=aH) (f:=λo=>aH<|bS r (-1) o) R' (λo ho P hP=>?_) .un [] (ji (by simp;omega)) ?_;ext;refine Dp (p:=0) (q:=1) (B2.of (n:=1) (m:=1) (Sz.zero<|F4) (Sz.int 1 F4<|F4)<|F4) ?_;rw[show(0:Rat)-1 = -1 from wp];have lo:=g.rows h o<|hR' o ho;exact AZ (b:=163) F4 (by rw[lr.len];omega) lr.sz (Sz.mono (n:=2) F4 ⟨F4,F4⟩) lo.sz hP
  rw[dQ,dG] at *;exact hP;dsimp only;refine B.C.pub_by (ρ':=[.d<|aT s,.d<|jj R,.d<|.int k,.d<|aH r,.d<|.lst<|(R'.map λo=>bS r (-1) o).map aH,s5]) rfl ?_;simp only[bE];refine B.C.for_seq (xs:=(r::R'.map λo=>bS r (-1) o).map aH) (λP hP=>?_) ?_;ext;exact⟨F4,ji (by simp;omega),hP⟩;refine Jh (Q:=Q) h ev (by exact hN) _ _ (λo ho=>?_) (λl hl=>h1 k l<|by rw[iq,hl]) λhn s5'=>?_;rcases Yan.mp ho with rfl|ho
  exact lr;obtain⟨o',ho',rfl⟩:=YbU.mp ho;exact g.sums h r hr o'<|hR' o' ho'
  exact Ji h ev g hN R' (k+1) _ _ _ _ tl E8 (λa l hl=>h1 a l (by rw[iq,hn];exact hl)) λhn2=>h2 (by rw[iq,hn];exact hn2)
theorem OS:Rd y8 EW ZgS:=by rintro _ E Q ⟨⟨⟨s,n⟩,f,R⟩,rfl,⟨h,ev,g⟩,q⟩;dsimp only at h ev g q;show EW E _ [.d<|aT s,.d<|jj R,.un,.un,.un,.un];unfold EW;refine B.C.pub_by (ρ':=[.d<|aT s,.d<|jj R,.un,.un,.un,.un]) rfl ?_;refine bW ?_;simp only[bE,bF];show iE _ _ [.d<|aT s,.d<|.lst<|R.map aH,.un,.un,.un,.un] _;simp only[iE,aC,aA,wN,eJ,gb];refine Ji (Q:=Q) h ev g rfl R 0 .un .un .un .un KE KE (λa l e=>?_) λe s2 s3 s4 s5=>?_;rw[e]at q;exact q;rw[e]at q;exact q
theorem Jj{E:Rb}{b:Bool}{P:Bool->Prop}(hw:∀P:D->Prop,P (.bl b)->w E ρ P)(h:P b):wT w E ρ P:=hw _ h
theorem OT{E:Rb}{x:D}(hw:∀P:D->Prop,P (.tup [x,y])->w E ρ P)(e:(ρ.set i<|.d x).set j (.d y)=ρ')(h:N.nx ρ'):eE w (ez 2<|c7 (gN i)<|c7 (gN j) et) E N ρ:=hw _ ⟨rfl,by rw[<-e]at h;exact h⟩
theorem OU:Rd Bw EY ZgW:=by
 rintro _ E Q ⟨x,rfl,hk,q⟩;show EY E _ [.d x,.un,.un,.un,.un,.un,.un];unfold EY;walk_at "n";unfold Bu at q;cases e:fZ x with
 |false=>exact xS.err x rfl hk (m6 e)<|lh e q
 |true=>
 obtain⟨s,n,rfl,h⟩:=m7 e;replace q:=li h q;cases ev:lP (aT s) with
 |false=>
  rw[ev]at q;exact xS.err (aT s) rfl hk (by(try dsimp only);rw[gK h,ev];rfl) q
 |true=>
 rw[ev,fw,h.sN]at q;simp only[if_true]at q;have ev':s.reverse=s:=by unfold lP at ev;rw[fw]at ev;simpa using ev
 have n5:=h.n5;refine Je h ev' ?_;walk_at "n";refine uF h ?_;show aL _ _ _ _ [.d<|aT s,.d<|.int n,.un,.un,.un,.un,.un];refine bW<|B.C.own_by (xs:=[]) (ρ':=[.d<|aT s,.d<|.int n,.ow [],.un,.un,.un,.un]) rfl (λP hP=>⟨F4,hP⟩) ?_;dsimp only;refine bW<|B.C.own_by (xs:=((List.range n).map<|cQ n).map aH) (ρ':=[.d<|aT s,.d<|.int n,.ow [],.ow<|((List.range n).map<|cQ n).map aH,.un,.un,.un]) rfl (λP hP=>?_) ?_
 .ext
  refine⟨E8,E8,?_⟩;rw[pX];refine iA (g:=λk:Nat=>D.int (k:Int)) (f:=λk=>aH<|cQ n k) (List.range n) (λk hk P hP=>?_) .un [] (ji (by simp;omega)) ?_
  .ext
   exact Ng n5 hP
  .rw[dQ,dG] at *
   exact hP
 dsimp only;refine B.C.pub_by (ρ':=[.d<|aT s,.d<|.int n,.ow [],.d<|jj<|(List.range n).map<|cQ n,.un,.un,.un]) rfl ?_;have g0:=Sg.start h;refine bW<|uS (d:=iV<|iq s n 0<|(List.range n).map<|cQ n) (ρ':=[.d<|aT s,.d<|.int n,.ow [],.d<|jj<|(List.range n).map<|cQ n,.d<|iV<|iq s n 0<|(List.range n).map<|cQ n,.un,.un]) rfl (λP hP=>?_) ?_
 .ext
  exact Jd h ev' g0 hP
 dsimp only;refine B.C.pub_by (ρ':=[.d<|aT s,.d<|.int n,.ow [],.d<|jj<|(List.range n).map<|cQ n,.d<|iV<|iq s n 0<|(List.range n).map<|cQ n,.un,.un]) rfl ?_;refine bW ?_;simp only[bE];refine⟨λm ρ=>∃f R s5 s6 k,m=R.length/\Sg s n f R/\R.length<=k/\u5 s n k f R=dC s n/\ρ=[.d<|aT s,.d<|.int n,.ow<|f.map aH,.d<|jj R,.d<|iV<|iq s n 0 R,s5,s6],⟨_,[],_,.un,.un,n,rfl,g0,KE,rfl,rfl⟩,?_⟩;rintro m _ ⟨f,R,s5,s6,k,rfl,g,hkR,hap,rfl⟩;have gl:=g.len;cases el:iq s n 0 R with
 |none=>
  rw[show iV (none:Option (Nat×QZ))=.non from rfl];refine Jj (b:=false) (λP hP=>⟨rfl,hP⟩) ?_;rw[fz<|F4];have efin:f++R=dC s n:=by
   rw[<-hap];cases k with
   |zero=>rfl
   |succ k=>rw[u5,el]
  dsimp only;refine B.C.pub_by (ρ':=[.d<|aT s,.d<|.int n,.d<|.lst<|f.map aH,.d<|jj R,.d .non,s5,s6]) rfl ?_;refine B.C.pub_by (ρ':=[.d<|aT s,.d<|.int n,.d<|.lst<|f.map aH,.d<|.lst<|R.map aH,.d .non,s5,s6]) rfl ?_;ext;refine⟨ji (by simp;omega),?_⟩;rw[<-ky,efin];exact q
 |some al=>
  obtain⟨a,l⟩:=al;have d:=g.ld el;have ha:=d.at_;have hl:=d.lf h g;rw[show iV (some (a,l))=.tup [.int (a:Int),aH l] from rfl];refine Jj (b:=true) (λP hP=>⟨rfl,hP⟩) ?_;rw[ks rfl];refine bW<|OT (x:=.int (a:Int)) (y:=aH l) (uM rfl) (ρ':=[.d<|aT s,.d<|.int n,.ow<|f.map aH,.d<|jj R,.d<|.tup [.int (a:Int),aH l],.d<|.int (a:Int),.d<|aH l]) rfl ?_;dsimp only;refine bW<|yc (xs:=f.map aH) (d:=aH l) (ρ':=[.d<|aT s,.d<|.int n,.ow<|(f++[l]).map aH,.d<|jj R,.d<|.tup [.int (a:Int),aH l],.d<|.int (a:Int),.d<|aH l]) rfl (dw (show _<2000 by rw[bH];omega)<|F4) (by rw[ky];rfl) (uM rfl) ?_;dsimp only;refine B.C.pub_by (ρ':=[.d<|aT s,.d<|.int n,.ow<|(f++[l]).map aH,.d<|.lst<|R.map aH,.d<|.tup [.int (a:Int),aH l],.d<|.int (a:Int),.d<|aH l]) rfl ?_;refine bW<|B.C.own_by (xs:=((R.take a++R.drop (a+1)).map<|iU s n l).map aH) (ρ':=[.d<|aT s,.d<|.int n,.ow<|(f++[l]).map aH,.ow<|((R.take a++R.drop (a+1)).map<|iU s n l).map aH,.d<|.tup [.int (a:Int),aH l],.d<|.int (a:Int),.d<|aH l]) rfl (λP hP=>?_) ?_
  .ext
   rw[qq (b:=a) rfl,show((a:Int)+1)=((a+1:Nat):Int) by omega,AH (by rw[bH];omega),<-lV,<-sY];refine⟨ji (by simp;omega),?_⟩;rw[<-ky];refine iA (g:=aH) (f:=λr=>aH<|iU s n l r) (R.take a++R.drop (a+1)) (λr hr P hP=>?_) .un [] (ji (by simp;omega)) ?_
   .ext
    exact OO h ev' (g.rows h r<|lQ hr) hl d.nz hP
   .rw[dQ,dG] at *
    exact hP
  dsimp only;have g':=g.step h ev' d;refine B.C.pub_by (ρ':=[.d<|aT s,.d<|.int n,.ow<|(f++[l]).map aH,.d<|jj<|(R.take a++R.drop (a+1)).map<|iU s n l,.d<|.tup [.int (a:Int),aH l],.d<|.int (a:Int),.d<|aH l]) rfl ?_;refine uS (d:=iV<|iq s n 0<|(R.take a++R.drop (a+1)).map<|iU s n l) (ρ':=[.d<|aT s,.d<|.int n,.ow<|(f++[l]).map aH,.d<|jj<|(R.take a++R.drop (a+1)).map<|iU s n l,.d<|iV<|iq s n 0<|(R.take a++R.drop (a+1)).map<|iU s n l,.d<|.int (a:Int),.d<|aH l]) rfl (λP hP=>?_) ?_
  .ext
   exact Jd h ev' g' hP
  have len':((R.take a++R.drop (a+1)).map<|iU s n l).length=R.length-1:=by rw[bH,fN,iC,lx];omega
  refine⟨_,?_,f++[l],_,_,_,k-1,rfl,g',by rw[len'];omega,?_,rfl⟩
  .rw[len'];omega
  .rw[<-hap]
   cases k with
   |zero=>omega
   |succ k=>rw[u5,el];rfl
section
theorem Ap.made(h:Ap T n U)(x:Q5):∃c:Nat->Rat,∀k,k<n->x k=gj c U n k:=by
 obtain⟨y,⟨k0,hk0,hy0⟩,hz⟩:=wish (n+1) ((List.range n).map λk j=>if j<n then U j k else x k) (by rw[bH,iY];omega);have eq:∀k,k<n->gj y U n k+y n*x k=0:=λk hk=>by have:=hz _<|o1 (f:=λk j=>if j<n then U j k else x k) (Yag.mpr hk);rw[aJ,fz<|iu n,cM (g:=λa=>y a*U a k) λa ha=>by rw[ks ha];grind]at this;unfold gj;grind
 have yn:y n≠0:=λz=>by
  have:=h.ind (c:=y) λk hk=>by have:=eq k hk;rw[z]at this;grind
  by_cases e:k0=n;rw[e]at hy0;exact hy0 z;exact hy0<|this k0 E8
 refine⟨λa=>-(y n)⁻¹*y a,λk hk=>?_⟩;have e2:gj (λa=>-(y n)⁻¹*y a) U n k = -(y n)⁻¹*gj y U n k:=by unfold gj;rw[<-sumN_mul];exact cM λa _=>by grind
 rw[e2];have:=eq k hk;have i:=lA _ yn;have e3:gj y U n k = -(y n*x k):=by grind
 rw[e3];grind
end
structure Sk(b c w:Nat)(r:QZ):Prop where
 ex:∃(q:Rat) (l:QZ),Sz c q/\Lf b w l/\r=l.map λx=>q*x
namespace B.C.Q0.Q3
def sqP(s:QY)(n:Nat)(r:QZ):Pr:=(cT s n r r,dL (bR s n r)<|cT s n r r)
def sqF(s:QY)(n:Nat):List Pr:=((dC s n).filter λr=>!decide (cT s n r r=0)).map<|sqP s n
section
theorem sy(h:IsSl s n)(ev:s.reverse=s):∀i j,i<n->j<n->Pj.cA (sA s n) i j=Pj.cA (sA s n) j i:=λi j hi hj=>by show((sA s n i j:Int):Rat)=_;rw[EV h ev i j hi hj]
theorem Zr(h:IsSl s n)(hr:r.length=n)(hi:i<n):(bR s n r).getD i 0=aJ (λj=>Pj.cA (sA s n) i j*gq r j) n:=by rw[Gs.tims_at h hr hi];rfl
theorem bf_dlt(T:Nat->Q5)(u:Q5)(hj:j<n):bf T n u (mL j)=aJ (λi=>u i*T i j) n:=by unfold bf;refine cM λi _=>?_;rw[cM (g:=λk=>mL j k*T i k) λk _=>mW _ _,Bo _ hj]
theorem tm_bf(h:IsSl s n)(ev:s.reverse=s)(hr:r.length=n)(hj:j<n):(bR s n r).getD j 0=bf (Pj.cA<|sA s n) n (gq r) (mL j):=by rw[Zr h hr hj,bf_dlt _ _ hj];exact cM λi hi=>by rw[sy h ev j i hj hi];grind
theorem EZ(c:QY)(e:Int)(j:Nat):gq (c.map λx=>Rat.divInt x e) j=((c.getD j 0:Int):Rat)*((e:Int):Rat)⁻¹:=by
 unfold gq;rw[aZ,cH,aZ];cases c[j]? with
 |none=>show(0:Rat)=((0:Int):Rat)*_;rw[Rat.intCast_zero,kK]|some x=>show Rat.divInt x e=_;rw[o4,gD];rfl
theorem Jk(f:Nat->Int):∀n:Nat,((sumI f n:Int):Rat)=aJ (λj=>((f j:Int):Rat)) n
 |0=>rfl|n+1=>by rw[sumI,aJ,vV,Jk f n]
theorem y9(h:IsSl s n)(hr:Lf 163 n r)(h0:cT s n r r≠0):Sk 171 337 n (dL (bR s n r)<|cT s n r r)/\Pq 337 n (sqP s n r):=by
 have hz:Sz 337 (cT s n r r):=(By h hr hr).mono F4;have n5:=h.n5;obtain⟨c,e,h1,h2,h3,h4,rfl⟩:=hr.ex;have rl:(c.map λx=>Rat.divInt x e).length=n:=by rw[bH];exact h1
 have ne:((e:Int):Rat)≠0:=λz=>h2 (by exact_mod_cast z);have ie:=lA _ ne
 have tj:∀j,j<n->(bR s n<|c.map λx=>Rat.divInt x e).getD j 0=((sumI (λk=>sA s n j k*c.getD k 0) n:Int):Rat)*((e:Int):Rat)⁻¹:=λj hj=>by rw[Zr h rl hj,Jk,mW,<-sumN_mul];refine cM λk _=>?_;rw[EZ,fA];show((sA s n j k:Int):Rat)*_=_;grind
 have Cb:∀j,j<n->(sumI (λk=>sA s n j k*c.getD k 0) n).natAbs<2^171:=λj hj=>by
  have:=Pj.sumI_bd (f:=λk=>sA s n j k*c.getD k 0) (c:=50*2^163) (n:=n) λk hk=>by
   rw[eI];refine jp (y4 h j k hj hk) ?_;rw[aZ];cases q:c[k]? with
   |none=>exact jT _|some x=>exact gP<|h4 x (iD q)
  have h3:n*(50*2^163)<=5*(50*2^163):=mR _ n5;have:5*(50*2^163)<2^171:=wp
  omega
 have wt:cT s n (c.map λx=>Rat.divInt x e) (c.map λx=>Rat.divInt x e)=((Pj.bI (sA s n) n (λj=>c.getD j 0) λj=>c.getD j 0:Int):Rat)*(((e:Int):Rat)⁻¹*((e:Int):Rat)⁻¹):=by rw[mO h rl rl,<-Pj.bI_cast,mW];unfold bf;rw[<-sumN_mul];refine cM λi _=>?_;rw[EZ,cM (g:=λj=>((e:Int):Rat)⁻¹*(Pj.cA (sA s n) i j*((c.getD j 0:Int):Rat))) (λj _=>by rw[EZ];grind),sumN_mul];show _=_*(((c.getD i 0:Int):Rat)*aJ (λj=>((sA s n i j:Int):Rat)*((c.getD j 0:Int):Rat)) n);show _*(_*aJ (λj=>((sA s n i j:Int):Rat)*((c.getD j 0:Int):Rat)) n)=_;grind
 have Wb:(Pj.bI (sA s n) n (λj=>c.getD j 0) λj=>c.getD j 0).natAbs<2^337:=by
  have cz:∀j,(c.getD j 0).natAbs<=2^163:=λj=>by
   rw[aZ];cases q:c[j]? with
   |none=>exact jT _|some x=>exact gP<|h4 x (iD q)
  have h1:∀i,i<n->(sumI (λj=>sA s n i j*c.getD j 0) n).natAbs<=2^171:=λi hi=>gP<|Cb i hi;have h2:=Pj.sumI_bd (f:=λi=>c.getD i 0*sumI (λj=>sA s n i j*c.getD j 0) n) (c:=2^163*2^171) (n:=n) λi hi=>by rw[eI];exact jp (cz i)<|h1 i hi
  have h3:n*(2^163*2^171)<=5*(2^163*2^171):=mR _ n5;have:5*(2^163*2^171)<2^337:=wp
  unfold Pj.bI;dsimp only;omega
 generalize Pj.bI (sA s n) n (λj=>c.getD j 0) (λj=>c.getD j 0)=W at wt Wb;have W0:W≠0:=λz=>h0 (by rw[wt,z,Rat.intCast_zero,kK]);have nW:((W:Int):Rat)≠0:=λz=>W0 (by exact_mod_cast z);have iW:=lA _ nW;have fin:dL (bR s n<|c.map λx=>Rat.divInt x e) (cT s n (c.map λx=>Rat.divInt x e)<|c.map λx=>Rat.divInt x e)=(dJ<|(List.range n).map λj=>sumI (λk=>sA s n j k*c.getD k 0) n).map λx=>Rat.divInt e W*x:=?_;refine⟨⟨Rat.divInt e W,_,xR W0 (dw h3<|jU F4<|F4) Wb,?_,fin⟩,by unfold sqP dL;rw[bH];exact Gs.tims_len _,hz,λy hy=>?_⟩;have:=Lf.int (b:=171) (c:=(List.range n).map λj=>sumI (λk=>sA s n j k*c.getD k 0) n) F4 λx hx=>by obtain⟨j,hj,rfl⟩:=YbU.mp hx;exact Cb j<|Yag.mp hj
 rwa [bH,iY]at this;have hy:y∈dL _ _:=hy;rw[fin]at hy;obtain⟨x,hx,rfl⟩:=YbU.mp hy;obtain⟨z,hz,rfl⟩:=YbU.mp hx;obtain⟨j,hj,rfl⟩:=YbU.mp hz;have cb:=Cb j<|Yag.mp hj;generalize sumI (λk=>sA s n j k*c.getD k 0) n=C at cb;have:Rat.divInt e W*((C:Int):Rat)=Rat.divInt (e*C) W:=by rw[o4,o4,gD,gD,fA];grind
 rw[this];refine xR W0 ?_ Wb;rw[eI];have:=qx h3 cb;have:2^163*2^171<2^337:=wp
 omega;refine td (by unfold dL dJ;simp[Gs.tims_len]) λj j1 j2=>?_;have hj:j<n:=by unfold dL at j1;rw[bH,Gs.tims_len]at j1;exact j1
 have tg:(bR s n<|c.map λx=>Rat.divInt x e)[j]'(by rw[Gs.tims_len];exact hj)=(bR s n<|c.map λx=>Rat.divInt x e).getD j 0:=by rw[aZ,bU (by rw[Gs.tims_len];exact hj)];rfl
 simp only[dL,dJ,qb,vW];rw[tg,tj j hj,wt,o4,gD,gD];have nd:((W:Int):Rat)*(((e:Int):Rat)⁻¹*((e:Int):Rat)⁻¹)≠0:=by rw[<-wt];exact h0
 have i3:=lA _ nd;generalize (((W:Int):Rat)*(((e:Int):Rat)⁻¹*((e:Int):Rat)⁻¹))⁻¹=y at *;generalize ((e:Int):Rat)⁻¹=z at *;generalize ((W:Int):Rat)⁻¹=u at *;generalize ((sumI (λk=>sA s n j k*c.getD k 0) n:Int):Rat)=q;generalize ((W:Int):Rat)=w at *;generalize ((e:Int):Rat)=x at *;have:y=x*x*u:=by
  have:y*(w*(z*z))*(x*x*u)=x*x*u:=by grind
  have e2:y*(w*(z*z))*(x*x*u)=y*((w*u)*((x*z)*(x*z))):=by grind
  rw[iW,ie]at e2;grind
 rw[this];have:q*z*(x*x*u)=q*(x*z)*x*u:=by grind
 rw[this,ie];grind
end
end B.C.Q0.Q3
abbrev WM:=(Rb)->cV->(List Rc->Prop)->Prop
def zd(K:Qh)(W:Wd)(H:Hp)(Q:VK)(rs:List Rc):Prop:=∀a bs W' H',Ext W H W' H'->OwnT K H W' H' a bs rs->Q (.ref a) H'
theorem OwnT.base{W:Wd}{a:Addr}{bs:List Addr}(o:OwnT K H1 W2 H2 a bs xss)(x:Ext W H W1 H1):OwnT K H W2 H2 a bs xss:=
 ⟨o.a1,o.a2,o.a3,x.none o.a4,o.nd,o.len,λi b e=>let⟨xs,e1,vs,q1,q2,q3,q4,q5⟩:=o.row i b e;⟨xs,e1,vs,q1,q2,q3,x.none q4,q5⟩⟩
def lcM(g:WG)(wf:WT)(we:WA):Rc->cV->List Rc->(List Rc->Prop)->Prop
 |[],_,acc,Q=>Q acc|d::ds,ρ,acc,Q=>g d ρ λρ2=>wf No ρ2 λb=>if b=true then we No ρ2 λy=>acc.length<aO/\lcM g wf we ds ρ2 (acc++[y]) Q else lcM g wf we ds ρ2 acc Q
def vL(wi:WA)(nv:Nat)(sel:Q6)(g:WG)(wf:WT)(we:WA):WM:=λE ρ Q=>wi E ρ λds=>lcM g wf we ds (ZbP nv sel ρ) [] Q
section
variable{we:WA}
theorem lcM.mono(hg:∀d ρ P P',(∀r,P r->P' r)->g d ρ P->g d ρ P')(hf:∀E ρ P P',(∀d,P d->P' d)->wf E ρ P->wf E ρ P')(he:∀E ρ P P',(∀d,P d->P' d)->we E ρ P->we E ρ P') :
  ∀ds ρ acc P P',(∀xs,P xs->P' xs)->lcM g wf we ds ρ acc P->lcM g wf we ds ρ acc P'
 |[],_,acc,P,P',hp,h=>hp _ h
 | d::ds,ρ,acc,P,P',hp,h=>hg _ _ _ _ (λr hr=>hf _ _ _ _ (λb hb=>by
   cases b with
   |true=>rw[ks rfl]at hb ⊢;exact he _ _ _ _ (λy hy=>⟨hy.1,lcM.mono hg hf he ds r _ P P' hp hy.2⟩) hb
   |false=>rw[fz<|F4]at hb ⊢;exact lcM.mono hg hf he ds r _ P P' hp hb) hr) h
theorem OV(hi:lN X EX target iter wi)(hg:∀s H fp,pS (X.lc sc vars sel s H fp) target g)(hf:∀s H fp,sf (X.lc sc vars sel s H fp) E0 ifs wf)(he:∀s H fp,PXL (X.lc sc vars sel s H fp) E0 elt we) :
  ∃(ti:TI) (tg:TG) (tf:TT) (te:TE),PI X target iter ti/\(∀s H fp,PG (X.lc sc vars sel s H fp) target tg)/\(∀s H fp,PF (X.lc sc vars sel s H fp) ifs tf)/\(∀s H fp,PE (X.lc sc vars sel s H fp) elt te)/\
   ∀W0 H0 W σ H ρ E Q,SOk X.K W0 H0 W σ H ρ->jN X.K W0 H0 E EX->vL wi vars.length sel g wf we E ρ (zd X.K W H Q)->Ad ti vars.length sel tg tf te σ H Q:=by
 have gm:=(hg {} (λ_=>none) []).mono;have go:=(hg {} (λ_=>none) []).own;have fm:=(hf {} (λ_=>none) []).mono;have em:=(he {} (λ_=>none) []).mono;obtain⟨ti,pi,ki⟩:=hi.t;refine ⟨ti,λv σ H Q=>∃ W0 H0 W ρ d,SOk X.K W0 H0 W σ H ρ/\Rep X.K W v d/\g d ρ (λρ'=>∀ σ',SOk X.K W0 H0 W σ' H ρ'->Q σ' H),
  λσ H Q=>∃W0 H0 W ρ,SOk X.K W0 H0 W σ H ρ/\wf No ρ (λb=>∀W' H',Ext W H W' H'->Q b H'),
  λσ H Q=>∃W0 H0 W ρ,SOk X.K W0 H0 W σ H ρ/\we No ρ (p8 X.K W H Q),pi,λs1 H1 fp=>?_,λs1 H1 fp=>?_,λs1 H1 fp=>?_,?_⟩
 .obtain⟨t,q,k⟩:=(hg s1 H1 fp).t
  rintro E1 s σ H v u Q I r ⟨W0,H0,W,ρ,d,s',r',h⟩;exact q E1 s σ H v u Q I r<|k W0 H0 W σ H ρ d v Q s' r' h
 .obtain⟨t,q,k⟩:=(hf s1 H1 fp).t
  rintro E1 s σ H Q I ⟨W0,H0,W,ρ,s',h⟩;exact q E1 s σ H Q I<|k W0 H0 W σ H ρ No Q s' (λ_ _ _ _ _ z=>z.elim) h
 .obtain⟨t,q,k⟩:=(he s1 H1 fp).t
  rintro E1 s σ H Q I ⟨W0,H0,W,ρ,s',h⟩;exact q E1 s σ H Q I<|k W0 H0 W σ H ρ No Q s' (λ_ _ _ _ _ z=>z.elim) h
 .intro W0 H0 W σ H ρ E Q s eo h
  refine ki W0 H0 W σ H ρ E _ s eo<|hi.mono _ _ _ _ (λds hds W1 H1 J x1 it D hD=>?_) h;have hDf:=x1.ok.fresh hD;have hD0:H0 D=none:=s.ext.isN<|x1.isN hD;refine ⟨λi m ys σ2 H2=>m=ds.length - i/\i<=ds.length/\∃ W2 ρ2 acc bs,Ext W1 H1 W2 H2/\SOk X.K W0 H0 W2 σ2 H2 ρ2/\Zie ρ2/\ys=bs.map V.ref/\OwnT X.K H1 W2 H2 D bs acc/\
   lcM g wf we (ds.drop i) ρ2 acc (zd X.K W H Q),⟨_,rfl,jT _,W1,_,[],[],.new x1.ok hD,?_,ZbP.own _ _ ρ,rfl,⟨aP,hDf.1,hDf.2,hD,KE,rfl,λi b e=>by simp at e⟩,by rw[sV];exact hds⟩,?_⟩
  .exact(((s.step x1).step<|.new x1.ok hD).lc vars.length sel)
  .rintro i m ys σ2 H2 ⟨rfl,hi',W2,ρ2,acc,bs,x2,s2,no2,rfl,o2,q2⟩
   refine⟨o2.a1,?_⟩;obtain⟨itg,its⟩:=it W2 H2 i x2.g x2.p x2.ok;rcases eV i ds.length with hlt|hge
   .have hd:ds[i]? = some ds[i]:=bU hlt
    obtain⟨go',yl⟩:=itg _ hd;refine .inr ⟨go',λx H3 y=>?_⟩;obtain⟨W3,x3,r3⟩:=yl x H3 y;rw[sW hlt]at q2;refine⟨W0,H0,W3,ρ2,ds[i],s2.step x3,r3,gm _ _ _ _ (λρ4 hr σ4 s4=>?_)<|go _ _ _ no2 q2⟩;obtain⟨no4,hr⟩:=hr;refine⟨W0,H0,W3,ρ4,s4,fm _ _ _ _ (λb hb W5 H5 x5=>?_) hr⟩;have o5:=o2.step<|x3.trans x5;cases b with
    |false=>
     dsimp only;rw[fz<|F4]at hb ⊢;exact⟨ds.length-(i+1),E8,rfl,hlt,W5,ρ4,acc,bs,x2.trans<|x3.trans x5,s4.step x5,no4,rfl,o5,hb⟩
    |true=>
     dsimp only;rw[ks rfl]at hb ⊢;refine⟨W0,H0,W5,ρ4,s4.step x5,em _ _ _ _ (λy hy a' vs W6 H6 x6 e1 e2 e3 e4 r6=>?_) hb⟩;have xx:=x3.trans<|x5.trans x6;have o6:=o5.step x6;have hl:(bs.map V.ref).length=acc.length:=by rw[bH,o2.len]
     have na:a'∉D::bs:=o5.here e4;have aD:a'≠D:=λz=>na (by rw[z];simp);refine⟨o6.a1,by rw[hl];exact dw hy.1<|pQ<|bZ _,ds.length-(i+1),E8,rfl,hlt,W6,ρ4,acc++[y],bs++[a'],(x2.trans xx).chg hD o6.a1 o6.a3 o6.a2,?_,no4,KE,⟨by rw[aP,ky];rfl,o6.a2,o6.a3,o6.a4,?_,by rw[fN,fN,o6.len];rfl,λk b eb=>?_⟩,hy.2⟩
     .exact((s4.step x5).step x6).chgD no4 hD0 o6.a1 o6.a3 o6.a2
     .have nd:=o6.nd
      rw[<-gR,List.nodup_append];exact⟨nd,KE,λp hp q hq e=>by rw[YcT.mp hq]at e;rw[e]at hp;exact na hp⟩
     .rcases eV k bs.length with hk|hk
      .rw[kJ hk]at eb
       obtain⟨xs,f1,us,f2,f3⟩:=o6.row k b eb;have hb:b≠D:=λz=>by
        have nd:=(YaD.mp o6.nd).1;exact nd (by rw[<-z];exact iD eb)
       exact⟨xs,by rw[kJ (by rw[<-o6.len];exact hk)];exact f1,us,by rw[aI hb];exact f2,f3⟩
      .have hk2:k=bs.length:=by
        have:=(Yaq.mp eb).1;simp at this;omega
       subst hk2;rw[jR<|bZ _,vY]at eb;cases eb;refine⟨y,by rw[o6.len,jR<|bZ _,vY];rfl,vs,by rw[aI aD];exact e1,e2,e3,?_,r6⟩;exact(x2.trans<|x3.trans x5).none e4
   .refine .inl ⟨its hge,?_⟩
    rw[BW hge]at q2;exact q2 D bs W2 H2 (x1.trans x2)<|o2.base x1
end
abbrev Jl:=Rc->(Rb)->(List Rc->Prop)->Prop
abbrev OW:=(Rb)->(List Rc->Prop)->cV->Prop
noncomputable def ze:SV->Bool
 |.oo _=>true|_=>false
def E2(i:Nat)(ρ:cV):Bool:=(ρ.set i .un).all λs=>!ze s
noncomputable def rows(i:Nat)(ρ:cV):cV:=match ρ[i]? with
 |some (.oo xss)=>ρ.set i<|.ow (xss.map .lst)
 |_=>ρ
section
variable{W:Wd}{a:Addr}{bs:List Addr}
theorem Jm(h:E2 i ρ=true)(j:Nat)(yss:List Rc)(hj:i≠j):ρ[j]?≠some (SV.oo yss):=λe=>by have:=Ybd.mp h (.oo yss)<|iD (i:=j) (by rw[df hj];exact e);simp[ze]at this
theorem zf{y z:SV}(e:(ρ.set i y)[j]? = some z)(h:z≠y):i≠j/\ρ[j]? = some z:=by by_cases hj:i=j;subst hj;by_cases hi:i<ρ.length;rw[dW hi]at e;cases e;exact Qj rfl h;rw[eA (by rw[dN];omega)]at e;cases e;rw[df hj]at e;exact⟨hj,e⟩
theorem OwnT.new(o:OwnT K H0 W H a bs xss):∀c∈a::bs,H0 c=none:=λc hc=>by
 rcases Yan.mp hc with rfl|hc
 exact o.a4;obtain⟨i,hi,rfl⟩:=Ybx.mp hc;obtain⟨xs,_,vs,_,_,_,e,_⟩:=o.row i _<|bU hi;exact e
theorem SOk.ownT(s1:SOk K W0 H0 W1 σ H1 ρ)(x:Ext W1 H1 W H)(o:OwnT K H1 W H a bs xss)(hn:E2 i ρ=true):SOk K W0 H0 W (σ.set i<|some<|.ref a) H (ρ.set i<|.oo xss):=by
 have s:=s1.step x;have out:∀{j:Nat} {z:SV},(ρ.set i<|.oo xss)[j]? = some z->z≠.oo xss->i≠j/\ρ[j]? = some z:=λe h=>zf e h;refine⟨s.ext,by rw[dN,dN];exact s.len,λj y e=>?_,λj ys e=>?_,λj k xs ys b hjk e1 e2 e3=>?_,⟨λj yss e=>?_,λj k yss zss e1 e2=>?_⟩⟩;obtain⟨h,e⟩:=out e KE;rw[df h];exact s.d j y e;obtain⟨h,e⟩:=out e KE;rw[df h];exact s.o j ys e;obtain⟨h,e1⟩:=out e1 KE;obtain⟨h',e2⟩:=out e2 KE;rw[df h]at e3;rw[df h'];exact s.ne j k xs ys b hjk e1 e2 e3;by_cases h:i=j;subst h;have hi:i<ρ.length:=by
  rcases eV i ρ.length with h|h
  exact h;rw[eA (by rw[dN];omega)]at e;cases e
 rw[dW hi]at e;cases e;refine⟨a,bs,dW (by rw[<-s.len];exact hi),o.base s1.ext,λk ys c ek ec=>?_⟩;obtain⟨hk,ek⟩:=out ek KE;rw[df hk]at ec;obtain⟨c',us,q1,q2,_⟩:=s1.o k ys ek;rw[ec]at q1;cases q1;intro hc;rw[o.new c hc]at q2;cases q2;rw[df h]at e;exact Qj e<|Jm hn j yss h
 have key:∀{j:Nat} {yss:List Rc},(ρ.set i<|.oo xss)[j]? = some (SV.oo yss)->i=j:=λ{j yss} e=>by by_cases h:i=j;exact h;rw[df h]at e;exact Qj e<|Jm hn j yss h
 rw[<-key e1,<-key e2]
theorem Jn(W':Wd)(hb:∀b∈bs,W'.G b=H b)(hg:∀c o,W.G c=some o->W'.G c=some o)(hp:∀c,W.Pn c->W'.Pn c):∀{bs':List Addr} {xss:List Rc},(∀b∈bs',b∈bs)->bs'.length=xss.length->(∀(i:Nat) b,bs'[i]? = some b->∃xs,xss[i]? = some xs/\Own1 K H0 W H b xs)->Reps K W' (bs'.map V.ref) (xss.map .lst)
 |[],[],_,_,_=>.nil|b::bs',xs::xss,hm,hl,h=>by obtain⟨ys,e,vs,e1,_,_,_,r⟩:=h 0 b rfl;simp at e;subst e;refine .cons (.lst ((hb b<|hm b<|KE).trans e1)<|r.mono hg hp)<|Jn W' hb hg hp (λc hc=>hm c<|by simp[hc]) (by simpa using hl) λi c ec=>?_;obtain⟨zs,f1,f2⟩:=h (i+1) c (by simpa using ec);exact⟨zs,by simpa using f1,f2⟩
 |[],_::_,_,hl,_=>by simp at hl|_::_,[],_,hl,_=>by simp at hl
theorem SOk.rows(s:SOk K W0 H0 W σ H ρ)(i:Nat):∃W',SOk K W0 H0 W' σ H (LP.rows i ρ)/\Wle W W'/\W'.Pn=W.Pn:=by
 unfold LP.rows;split;rename_i xss e;obtain⟨a,bs,e1,o,n⟩:=s.oo.t i xss e;have hi:i<ρ.length:=(Yaq.mp e).1;have own:∀b∈bs,∃xs,Own1 K H0 W H b xs:=λb hb=>by obtain⟨k,hk,rfl⟩:=Ybx.mp hb;obtain⟨xs,_,q⟩:=o.row k _<|bU hk;exact⟨xs,q⟩
 let W':Wd:=⟨λc=>if c∈bs then H c else W.G c,W.Pn⟩;have g1:∀c,c∈bs->W'.G c=H c:=λc hc=>ks hc;have g2:∀c,c∉bs->W'.G c=W.G c:=λc hc=>fz hc;have gm:∀c u,W.G c=some u->W'.G c=some u:=λc u ec=>by rw[g2 c λhc=>by obtain⟨xs,vs,_,q,_⟩:=own c hc;rw[ec]at q;cases q];exact ec
 have na:a∉bs:=(YaD.mp o.nd).1;have x:Ext W0 H0 W' H:=by refine⟨⟨λc u ec=>?_,λc hc=>?_⟩,λc u ec=>gm c u<|s.ext.g c u ec,s.ext.p,λc ec hc=>?_,s.ext.pf,s.ext.h⟩;by_cases h:c∈bs;rw[g1 c h]at ec;exact ec;rw[g2 c h]at ec;exact s.ok.g c u ec;obtain⟨p1,p2⟩:=s.ok.p c hc;refine⟨p1,?_⟩;rw[g2 c λh=>by obtain⟨xs,vs,_,_,q,_⟩:=own c h;exact q hc];exact p2;by_cases h:c∈bs;obtain⟨xs,vs,_,_,_,q,_⟩:=own c h;exact q;rw[g2 c h]at hc;exact s.ext.gf c ec hc
 have out:∀{j:Nat} {z:SV},(ρ.set i<|.ow<|xss.map .lst)[j]? = some z->i≠j->ρ[j]? = some z:=λ{j z} ej h=>by rw[df h]at ej;exact ej
 refine⟨W',⟨x,by rw[dN];exact s.len,λj y ej=>?_,λj ys ej=>?_,λj k xs ys b hjk ej ek e3=>?_,.none λj yss ej=>?_⟩,⟨gm,λ_ z=>z⟩,rfl⟩;obtain⟨h,ej⟩:=zf ej KE;obtain⟨v,q1,q2⟩:=s.d j y ej;exact⟨v,q1,q2.mono gm λ_ z=>z⟩;by_cases h:i=j;subst h;rw[dW hi]at ej;cases ej;exact⟨a,_,e1,o.a1,(g2 a na).trans o.a2,o.a3,o.a4,Jn W' g1 gm (λ_ z=>z) (λ_ h=>h) o.len o.row⟩;have ej:=out ej h;obtain⟨c,us,q1,q2,q3,q4,q5,q6⟩:=s.o j ys ej;have:=n j ys c ej q1;exact⟨c,us,q1,q2,by rw[g2 c λz=>this<|fM _ z];exact q3,q4,q5,q6.mono gm λ_ z=>z⟩;by_cases h:i=j;subst h;have ek:=out ek hjk;rw[e1]at e3;cases e3;exact λz=>n k ys a ek z KE;have ej:=out ej h;by_cases h':i=k;subst h';rw[e1];intro z;cases z;exact n j xs a ej e3 KE;exact s.ne j k xs ys b hjk ej (out ek h') e3;obtain⟨h,ej⟩:=zf ej KE;exact h<|s.oo.u i j xss yss e ej
 exact⟨W,s,.refl W,rfl⟩
def bT(i:Nat)(ρ:cV):cV:=pub i<|rows i ρ
theorem SOk.lendT(s:SOk K W0 H0 W σ H ρ)(i:Nat):∃W',SOk K W0 H0 W' σ H (bT i ρ)/\Wle W W'/\W'.Pn=W.Pn:=by
 obtain⟨W1,s1,l1,p1⟩:=s.rows i;rcases s1.lend i with e|⟨a,us,s2,g,h,_⟩
 unfold bT;rw[e];exact⟨W1,s1,l1,p1⟩;exact⟨_,s2,l1.trans ⟨qf g,λ_ z=>z⟩,p1⟩
theorem Ext.back(ok:WOk W H)(hg:Wle W W1)(hp:W1.Pn=W.Pn)(x:Ext W1 H W2 H2):Ext W H W H2:=
 ⟨⟨λa o e=>x.h a o (ok.g a o e) λq=>(by rw[hp]at q;rw[(ok.p a q).2]at e;cases e),λa q=>⟨(x.ok.p a<|x.p a<|hg.p a q).1,(ok.p a q).2⟩⟩,λ_ _ e=>e,λ_ e=>e,λ_ e n=>Qj e n,λ_ n e=>Qj e n,λa o e n=>x.h a o e λq=>n (by rw[hp]at q;exact q)⟩
theorem SOk.chgRow(s:SOk K W0 H0 W σ H ρ){r:Nat}{b:Addr}(e:ρ[i]? = some (.oo xss))(e1:σ[i]? = some (some<|.ref a))(o:OwnT K H0 W H a bs xss)(n:∀(j:Nat) ys c,ρ[j]? = some (SV.ow ys)->σ[j]? = some (some<|V.ref c)->c∉a::bs)
  (hb:bs[r]? = some b) (ru:Reps K W us ys):SOk K W0 H0 W σ (upd H b<|.lst us) (ρ.set i<|.oo<|xss.set r ys):=by
 have hi:i<ρ.length:=(Yaq.mp e).1;obtain⟨xs,ex,vs,q1,q2,q3,q4,q5⟩:=o.row r b hb;have nd:=YaD.mp o.nd;have mb:b∈bs:=iD hb;have out:∀{j:Nat} {z:SV},(ρ.set i<|.oo<|xss.set r ys)[j]? = some z->(∀yss,z≠.oo yss)->i≠j/\ρ[j]? = some z:=λe h=>zf e<|h _;refine⟨s.ext.chg q4 q1 q3 q2,by rw[dN];exact s.len,λj y ej=>?_,λj zs ej=>?_,λj k xs ys b hjk ej ek e3=>?_,⟨λj yss ej=>?_,λj k yss zss ej ek=>?_⟩⟩
 .exact s.d j y (out ej<|KE).2
 .have ej:=(out ej<|KE).2
  obtain⟨c,ws,p1,p2,p3⟩:=s.o j zs ej;have hc:c≠b:=λz=>n j zs c ej p1 (by rw[z];exact fM _ mb);exact⟨c,ws,p1,by rw[aI hc];exact p2,p3⟩
 .exact s.ne j k xs ys b hjk (out ej<|KE).2 (out ek<|KE).2 e3
 .have h:i=j:=by
   by_cases h:i=j
   .exact h
   .rw[df h]at ej;exact s.oo.u i j _ _ e ej
  subst h;rw[dW hi]at ej;cases ej;have ab:a≠b:=λz=>nd.1 (by rw[z];exact mb);refine⟨a,bs,e1,⟨by rw[aI ab];exact o.a1,o.a2,o.a3,o.a4,o.nd,by rw[dN];exact o.len,λk c ec=>?_⟩,λj zs c ej ec=>n j zs c (out ej<|KE).2 ec⟩
  by_cases hk:r=k
  .subst hk
   rw[hb]at ec;cases ec;exact⟨ys,dW (by rw[<-o.len];exact(Yaq.mp hb).1),us,aP,q2,q3,q4,ru⟩
  .have hc:c≠b:=λz=>hk (by
    rw[z]at ec;exact(List.getElem?_inj (Yaq.mp hb).1 nd.2).mp<|hb.trans ec.symm)
   obtain⟨zs,p1,ws,p2,p3⟩:=o.row k c ec;exact⟨zs,by rw[df hk];exact p1,ws,by rw[aI hc];exact p2,p3⟩
 .have key:∀{j:Nat} {yss:List Rc},(ρ.set i<|.oo<|xss.set r ys)[j]? = some (SV.oo yss)->i=j:=λ{j yss} ej=>by
   by_cases h:i=j
   .exact h
   .rw[df h]at ej;exact s.oo.u i j _ _ e ej
  rw[<-key ej,<-key ek]
end
section
variable{jx:Expr}{w1 w2:WE}
def Bz(i:Nat)(w:WT):WT:=λE ρ Q=>w E (bT i ρ) Q
theorem E3(i:Nat)(he:j7 X EX e wt):j7 X EX e (Bz i wt):=by obtain⟨t,q,k⟩:=he.t;refine⟨⟨t,q,λW0 H0 W σ H ρ E Q s eo h=>?_⟩,λE ρ P P' hp h=>he.mono _ _ _ _ hp h⟩;obtain⟨W',s',l,hp⟩:=s.lendT i;exact k W0 H0 W' σ H _ E Q s' eo<|he.mono _ _ _ _ (λb hb W2 H2 x=>hb W H2<|x.back s.ok l hp) h
def BA(i:Nat)(w:WM):WS:=λE N ρ=>w E ρ λxss=>E2 i ρ=true/\N.nx (ρ.set i<|.oo xss)
end
section
variable{W:Wd}{a:Addr}{bs:List Addr}
theorem SOk.un'(s:SOk K W0 H0 W σ H ρ){σ':L2.St}(hl:σ'.length=σ.length)(hσ:∀k,j≠k->σ'[k]? = σ[k]?):SOk K W0 H0 W σ' H (ρ.set j .un):=by have out:∀{k:Nat} {z:SV},(ρ.set j .un)[k]? = some z->z≠.un->j≠k/\ρ[k]? = some z:=λe h=>zf e h;refine⟨s.ext,by rw[dN,hl];exact s.len,λk y e=>?_,λk ys e=>?_,λk m xs ys b hkm e1 e2 e3=>?_,s.oo.set (λ_ h=>by cases h) hσ λ_ _ h=>by cases h⟩;obtain⟨h,e⟩:=out e KE;rw[hσ k h];exact s.d k y e;obtain⟨h,e⟩:=out e KE;rw[hσ k h];exact s.o k ys e;obtain⟨h,e1⟩:=out e1 KE;obtain⟨h',e2⟩:=out e2 KE;rw[hσ k h]at e3;rw[hσ m h'];exact s.ne k m xs ys b hkm e1 e2 e3
end
open B.C
namespace Mn
section
variable{B p:Nat}{x:Cl}{R:K4}
theorem by_at{a:QZ}:(dL a q).getD j 0=a.getD j 0/q:=by
 unfold dL;rw[aZ,cH,aZ];cases a[j]? with
 |none=>show(0:Rat)=0/q;rw[gD,kK]|some y=>rfl
theorem app_lt{α:Type}{L M:List α}{d:α}(h:i<L.length):(L++M).getD i d=L.getD i d:=by rw[aZ,kJ h,aZ]
theorem app_at{α:Type}{L:List α}{y d:α}:(L++[y]).getD L.length d=y:=by rw[aZ,jR<|bZ _,vY];rfl
end
end Mn
namespace B.C.Q0.Q2
structure Stp(s:QY)(n m:Nat)(ps:List Pr):Prop where
 len:ps.length=m
 pq:∀p∈ps,Pq 112 n p
 w0:∀p∈ps,p.1≠0
 one:∀k,k<m->(ps.getD k (0,[])).2.getD k 0=1
 low:∀k j,k<m->j<k->(ps.getD k (0,[])).2.getD j 0=0
 eq:∃L,Nl s n m L/\∀i j,i<n->j<n->(tT s n i j:Rat)=gs ps i j+L i j
def S__law_steps:bV:=rlS (λx:SL×Nat=>[bC x.1.1 x.1.2,.int x.2]) (λx=>IsSl x.1.1 x.1.2/\x.1.1.reverse=x.1.1/\x.2<=x.1.2/\Stg x.1.1 x.1.2 x.2) λx d=>∃ps,d=e7 ps/\Stp x.1.1 x.1.2 x.2 ps
abbrev ZdC:Q4:=["_law_table", "_law_most", "_law_size", "_law_found", "_law_left", "_law_at", "_law_weight", "_law_row", "_law_i", "_law_taken_here"]
def z__law_steps:WS:=(aL (aR 2<|wB bQ<|aC (wN 0) aA)<|aL (bX 3<|bP aA)<|aL (bX 4<|aLC (iS<|wN 0) 1 [] (gN 0) cX<|wL<|aLC (iS<|wN 0) 1 [] (gN 0) cX<|bD<|aC (wN 0)<|aC (wC<|.int<|1) aA)<|aL (bE<|bF (fD<|aC (wN 1) aA) (gN 5)<|aL (aR 6<|dB 4<|w2 gIx (w2 gIx (wN 4)<|wN 5)<|wN 5)<|aL (aR 7<|dB 4<|wB lM<|aC (wL<|aLC (iS<|w2 gIx (wN 4)<|wN 5) 1 [6] (gN 0) cX<|wF vA<|aC (w2 gMul (w2 gIx (wN 0)<|wC<|.int<|0)<|w2 gIx (wN 1)<|wC<|.int<|1)<|aC (w2 gMul (w2 gIx (wN 0)<|wC<|.int<|1)<|w2 gIx (wN 1)<|wC<|.int<|0) aA) aA)<|aL (da 3<|bD<|aC (wN 6)<|aC (wN 7) aA)<|bE<|bF (fD<|aC (wN 2) aA) (gN 8)<|aL (aR 9<|wF sB<|aC (wL<|bP<|aC (wN 6) aA)<|aC (wL<|bP<|aC (w2 gIx (wN 7)<|wN 8) aA) aA)<|gI 4 (wN 8)<|wL<|dm 4<|aLC (fD<|aC (wN 2) aA) 1 [4,7,8,9] (gN 0) cX<|wF sB<|aC (wL<|bP<|aC (w2 gIx (w2 gIx (wN 1)<|wN 3)<|wN 0)<|aC (bD<|aC (w2 jf (wC<|.int<|0)<|w2 gIx (wN 4)<|wC<|.int<|0)<|aC (w2 gIx (wN 4)<|wC<|.int<|1) aA) aA)<|aC (wL<|bP<|aC (bD<|aC (wC<|.int<|1)<|aC (wC<|.int<|1) aA)<|aC (w2 gIx (wN 2)<|wN 0) aA) aA)<|bM 3<|aN<|wN 3)
abbrev N__law_rank:Q4:=["_law_table", "_law_rows", "_law_many", "_law_at", "_law_good", "_law_k"]
def z__law_rank:WS:=(aL (bX 1<|aLC (iS<|wN 0) 1 [] (gN 0) cX<|wL<|aB (ia (α:=Unit))<|aC (wN 0) aA)<|aL (aR 2<|wC<|.int<|0)<|bM 4<|aL (bE<|bF (fD<|aC (wB bQ<|aC (wN 0) aA) aA) (gN 3)<|aL (bX 4<|dm 1<|aLC (ig<|aC (wN 2)<|aC (wB bQ<|aC (wN 1) aA) aA) 1 [1,3] (gN 0) (wT<|w2 (gEq true) (w2 gIx (w2 gIx (wN 1)<|wN 0)<|wN 2)<|wC<|.int<|0)<|wN 0)<|bM 4<|cR (wT<|w2 (gEq true) (wN 4)<|wL<|bP aA) (bM 4<|aL (rg 1 (bD<|aC (cY 1<|w2 gIx (wN 4)<|wC<|.int<|0)<|aC (cY 1<|wN 2) aA) (wN 2)<|w2 gIx (wN 4)<|wC<|.int<|0)<|aL (bE<|bF (ig<|aC (w2 gAdd (wN 2)<|wC<|.int<|1)<|aC (dB 1<|wB bQ<|aC (wN 1) aA) aA) (gN 5)<|gI 1 (wN 5)<|wF AU<|aC (cY 1<|wN 5)<|aC (cY 1<|wN 2)<|aC (wN 3)<|aC (wC<|.int<|1) aA)<|aR 2<|w2 gAdd (wN 2)<|wC<|.int<|1) cW)<|aN<|wN 2)
def gooG(t:K5)(m a:Nat):Q6:=((List.range<|t.length-m).map (m + ·)).filter λk=>ga (gr t k) a != 0
def rowG(t:K5)(m a k:Nat):K5:=(List.range t.length).map λi=>if m<i/\i<k then fg (gr t i) (gr t m) a 1 else gr t i
section
variable{T:K5}{g:Nat}
theorem gooG_mem(h:Sm b n t)(hg:g∈gooG t m a):m<=g/\g<n/\ga (gr t g) a≠0:=by have e:=h.len;unfold gooG at hg;obtain⟨h1,h2⟩:=Yaf.mp hg;obtain⟨k,hk,rfl⟩:=YbU.mp h1;rw[Yag]at hk;exact⟨E8,E8,by simpa using h2⟩
theorem gooG_nil(h:Sm b n t)(hg:gooG t m a=[])(hm:m<=i)(hi:i<n):ga (gr t i) a=0:=by have e:=h.len;refine Classical.byContradiction λz=>?_;have:i∈gooG t m a:=Yaf.mpr ⟨YbU.mpr ⟨i-m,Yag.mpr<|E8,E8⟩,by simpa using z⟩;rw[hg]at this;cases this
theorem rowG_gr(hi:i<t.length):gr (rowG t m a k) i=if m<i/\i<k then fg (gr t i) (gr t m) a 1 else gr t i:=by show(rowG t m a k).getD i []=_;unfold rowG;rw[aZ,cH,iX hi];rfl
theorem rowG_sm(h:Sm b n t)(hm:m<n):Sm (2*b+1) n (rowG t m a k):=by
 have e:=h.len;have key:∀r∈rowG t m a k,r.length=n/\∀x∈r,x.natAbs<2^(2*b+1):=λr hr=>by
  unfold rowG at hr;obtain⟨i,hi,rfl⟩:=YbU.mp hr;have hi':i<n:=by rw[<-e];simpa using hi
  split;exact Hi (h.gr hi').2.1 (h.gr hi').2.2 (h.gr hm).2.2 F4;exact⟨(h.gr hi').2.1,λx hx=>dw ((h.gr hi').2.2 x hx)<|jU F4<|E8⟩
 exact⟨by unfold rowG;rw[bH,iY];exact e,λr hr=>(key r hr).1,λr hr=>(key r hr).2⟩
theorem rowG_one(hk:k<=m+1):rowG t m a k=t:=by
 unfold rowG;refine qw λi=>?_;rw[cH];rcases eV i t.length with z|z
 rw[iX z];simp only[lU];rw[fz<|E8];unfold gr;rw[aZ,bU z];rfl;rw[eA<|by simpa using z,eA z];rfl
theorem rowG_next(hm:m<k)(hk:k<t.length):rowG t m a (k+1)=(rowG t m a k).set k (fg (gr (rowG t m a k) k) (gr (rowG t m a k) m) a 1):=by
 have e1:gr (rowG t m a k) k=gr t k:=by rw[rowG_gr hk,fz<|E8]
 have e2:gr (rowG t m a k) m=gr t m:=by rw[rowG_gr<|E8,fz<|E8]
 rw[e1,e2];refine qw λi=>?_;rw[B9];unfold rowG;rw[cH,cH,bH,iY];rcases eV i t.length with z|z
 rw[iX z];simp only[lU];by_cases c:k=i;subst c;rw[ks rfl,ks z,ks ⟨hm,E8⟩];rw[fz c];by_cases d:m<i/\i<k;rw[ks ⟨d.1,E8⟩,ks d];rw[fz<|E8,fz d];rw[eA<|by simpa using z];rw[fz<|E8];rfl
def rs(t:K5)(n i:Nat)(v:Q5):Rat:=aJ (λj=>(ga (gr t i) j:Rat)*v j) n
theorem rs_tak{row here:QY}(hr:row.length=n)(v:Q5):aJ (λj=>(ga (fg row here a 1) j:Rat)*v j) n=(ga here a:Rat)*aJ (λj=>(ga row j:Rat)*v j) n-(ga row a:Rat)*aJ (λj=>(ga here j:Rat)*v j) n:=by rw[<-sumN_mul,<-sumN_mul,<-oO];refine cM λj hj=>?_;rw[Ei<|E8,Int.fdiv_one,qy,fA,fA];grind
end
section
structure Stq(s:QY)(n a:Nat)(R:K4)(ps:List Pr):Prop where
 len:ps.length=a
 pq:∀p∈ps,Pq 112 n p
 w0:∀p∈ps,p.1≠0
 one:∀k,k<a->(ps.getD k (0,[])).2.getD k 0=1
 low:∀k j,k<a->j<k->(ps.getD k (0,[])).2.getD j 0=0
 eq:∀i j,i<n->j<n->(tT s n i j:Rat)=gs ps i j+en R i j
theorem Jo(p:Pr)(i j:Nat):∀ps:List Pr,gs (ps++[p]) i j=gs ps i j+p.1*(p.2.getD i 0*p.2.getD j 0)
 |[]=>by show _+0=0+_;grind|q::ps=>by rw[gR,gs,gs,Jo p i j ps];grind
theorem zg{R:K4}(hi:i<n):en (RR R a n n) i j=(upd R a i).getD j 0:=by unfold en RR;rw[aZ,aZ (l:=(List.range n).map _),cH,iX hi];simp only[lU,rH,ks hi];rw[aZ]
theorem Stq.step{R:K4}{ps:List Pr}(h:Stq s n a R ps)(hRl:R.length=n)(hr:∀r∈R,r.length=n)(han:a<n)(h0:en R a a≠0)(N:Nl s n a (en R))(hp:Pq 112 n (en R a a,dL (R.getD a [])<|en R a a)):Stq s n (a+1) (RR R a n n) (ps++[(en R a a,dL (R.getD a [])<|en R a a)]):=by
 have bg:∀k,(dL (R.getD a [])<|en R a a).getD k 0=en R a k/en R a a:=λk=>Mn.by_at;refine⟨by simp[h.len],λp hp'=>?_,λp hp'=>?_,λk hk=>?_,λk j hk hj=>?_,λi j hi hj=>?_⟩;rcases Yao.mp hp' with z|z
 exact h.pq p z;rw[YcT.mp z];exact hp;rcases Yao.mp hp' with z|z
 exact h.w0 p z;rw[YcT.mp z];exact h0;by_cases z:k=a;rw[z];conv=>lhs;rw[<-h.len,Mn.app_at,h.len]
 rw[bg];grind;rw[Mn.app_lt (by rw[h.len];omega)];exact h.one k E8;by_cases z:k=a;rw[z];conv=>lhs;rw[<-h.len,Mn.app_at,h.len]
 rw[bg,N.sym a j han<|E8,N.zero j a E8 han<|E8];grind;rw[Mn.app_lt (by rw[h.len];omega)];exact h.low k j E8 hj;rw[Jo,zg hi,Ix hRl hr han hi hj h0,h.eq i j hi hj,bg,bg];generalize en R a a=w at *;grind
end
theorem rd__law_steps:Rd S__law_steps z__law_steps ZdC:=by
 rintro _ E Q ⟨⟨⟨s,n⟩,m⟩,rfl,⟨h,he,hm,hst⟩,q⟩;dsimp only at h he hm hst q;have h5:=h.n5;have ht:=gX s n;unfold z__law_steps;show aL _ _ _ _ [.d<|bC s n,.d<|.int m,.un,.un,.un,.un,.un,.un,.un,.un];refine bW<|set_by (d:=.int n) (ρ':=[.d<|bC s n,.d<|.int m,.d<|.int n,.un,.un,.un,.un,.un,.un,.un]) rfl (λP h=>by ext;exact h) ?_;dsimp only;refine bW<|own_by (xs:=[]) (ρ':=[.d<|bC s n,.d<|.int m,.d<|.int n,.ow [],.un,.un,.un,.un,.un,.un]) rfl (λP h=>⟨F4,h⟩) ?_;dsimp only;refine bW<|own_by (xs:=((tbl s n).map dJ).map lq) (ρ':=[.d<|bC s n,.d<|.int m,.d<|.int n,.ow [],.ow<|((tbl s n).map dJ).map lq,.un,.un,.un,.un,.un]) rfl (λP hP=>?_) ?_
 unfold bC;ext;refine iA (g:=aY) (f:=λr=>lq<|dJ r) (tbl s n) (λr hr Q hq=>?_) .un [] (by simp[aO];omega) (by rw[dG]at hP;exact hP);have hrl:=(kH h r hr).1;unfold aY;ext;refine iA (g:=D.int) (f:=λx=>aU ((x:Int):Rat)) r (λx hx Q hq=>?_) .un [] (by simp[aO];omega) ?_;ext;rw[xP]at hq;exact⟨F4,hq⟩;unfold lq dJ at hq;rw[dG]at hq;exact hq;dsimp only;refine bW ?_;show bF _ _ _ _ _ _;ext;refine⟨E8,E8,?_⟩;refine uJ (λa ρ=>∃(R:K4) (acc:List Pr) (s5 s6 s7 s8 s9:SV),R.length=n/\(∀r∈R,Lf (bq 6 a) n r)/\Nl s n a (en R)/\Stq s n a R acc/\ρ=[.d<|bC s n,.d<|.int m,.d<|.int n,.ow<|acc.map gh,.ow<|R.map lq,s5,s6,s7,s8,s9]) m ?_ ?_ _ ⟨(tbl s n).map dJ,[],_,_,_,_,_,by simp[ht],λr hr=>?_,?_,?_,rfl⟩;rintro a ha _ ⟨R,acc,s5,s6,s7,s8,s9,hRl,hRf,hN,hQ,rfl⟩ nx hnx;have hc:=hQ.len;have han:a<n:=E8
 have hr:∀r∈R,r.length=n:=λr h=>(hRf r h).len;have h0:=hN.piv h hm ha hst;have ea:=rn hRl hr han han;have hb:=NV (a:=a) E8;have LfA:=hRf _ ea.2.1;have LfN:Lf (bq 6 a) n (dL (R.getD a [])<|en R a a):=LfA.norm han h0;have szW:Sz 111 (en R a a):=((LfA.get han).2).mono hb;have szR:∀y∈dL (R.getD a []) (en R a a),Sz 111 y:=λy hy=>(LfN.sz y hy).mono hb;have szA:∀y∈R.getD a [],Sz 111 y:=λy hy=>(LfA.sz y hy).mono hb;have lB:(dL (R.getD a [])<|en R a a).length=n:=LfN.len;show aL _ _ _ _ [.d<|bC s n,.d<|.int m,.d<|.int n,.ow<|acc.map gh,.ow<|R.map lq,.d<|.int a,s6,s7,s8,s9];refine bW<|set_by (d:=aU<|en R a a) (ρ':=[.d<|bC s n,.d<|.int m,.d<|.int n,.ow<|acc.map gh,.ow<|R.map lq,.d<|.int a,.d<|aU<|en R a a,s7,s8,s9]) rfl (λP hP=>?_) ?_
 ext;refine⟨lq<|R.getD a [],aS (by rw[cH,ea.1];rfl),?_⟩;unfold lq;ext;exact⟨aU<|en R a a,aS (by rw[cH,ea.2.2.2];rfl),rfl,hP⟩;dsimp only;refine bW<|set_by (d:=aH<|dL (R.getD a [])<|en R a a) (ρ':=[.d<|bC s n,.d<|.int m,.d<|.int n,.ow<|acc.map gh,.ow<|R.map lq,.d<|.int a,.d<|aU<|en R a a,.d<|aH<|dL (R.getD a [])<|en R a a,s8,s9]) rfl (λP hP=>?_) ?_
 ext;refine⟨lq<|R.getD a [],aS (by rw[cH,ea.1];rfl),?_⟩;unfold lq;ext;refine iA (g:=aU) (f:=λx=>aU<|x/en R a a) (R.getD a []) (λx hx Q hq=>?_) .un [] (by simp[aO];have:=ea.2.2.1;rw[aZ]at this;omega) ?_;have bx:=(szA x hx).bd F4;have bw:=szW.bd F4;unfold aU;ext;refine⟨_,rfl,_,rfl,⟨⟨bx.1,bw.2⟩,_,rfl,_,rfl,⟨⟨bx.2,bw.1⟩,DV ?_ ?_ ?_⟩⟩⟩;have:=x.den_nz;have hn0:(en R a a).num≠0:=λz=>h0<|Rat.num_eq_zero.mp z;exact mV E8 hn0
 unfold Bd;rw[eI,oZ];exact dw (sj (szA x hx).2 szW.1)<|jU F4 F4
 rw[Es x _ h0];exact hq;ext;refine⟨?_,?_⟩;have:=Er (dL (R.getD a [])<|en R a a);unfold dL at this;rw[dG]at this;rw[fW];exact this;unfold aH dL at hP;rw[dG]at hP;exact hP;dsimp only;generalize hB:dL (R.getD a []) (en R a a)=B at *;refine bW<|NJ (xs:=acc.map gh) (d:=gh (en R a a,B)) (ρ':=[.d<|bC s n,.d<|.int m,.d<|.int n,.ow<|(acc++[(en R a a,B)]).map gh,.ow<|R.map lq,.d<|.int a,.d<|aU<|en R a a,.d<|aH B,s8,s9]) rfl (by rw[bH];unfold aO;omega) (by rw[ky];rfl) (pair_at (uM rfl)<|uM rfl) ?_;dsimp only;show bF _ _ _ _ _ _;ext;refine⟨E8,E8,?_⟩;refine uJ (λi ρ=>∃(s8 s9:SV),ρ=[.d<|bC s n,.d<|.int m,.d<|.int n,.ow<|(acc++[(en R a a,B)]).map gh,.ow<|(RR R a n i).map lq,.d<|.int a,.d<|aU<|en R a a,.d<|aH B,s8,s9]) n ?_ ?_ _ ⟨_,_,by rw[NW hRl]⟩
 rintro i hi _ ⟨s8,s9,rfl⟩ nx2 hnx2;have bi:B[i]? = some (B.getD i 0):=by rw[aZ,bU<|E8];rfl
 have szB:∀k,k<n->Sz 111 (B.getD k 0):=λk hk=>by rw[aZ,bU<|E8];exact szR _<|jn _
 have szT:Sz 222 (en R a a*B.getD i 0):=szW.mul<|szB i hi;show aL _ _ _ _ [.d<|bC s n,.d<|.int m,.d<|.int n,.ow<|(acc++[(en R a a,B)]).map gh,.ow<|(RR R a n i).map lq,.d<|.int a,.d<|aU<|en R a a,.d<|aH B,.d<|.int i,s9];refine bW<|set_by (d:=aU<|en R a a*B.getD i 0) (ρ':=[.d<|bC s n,.d<|.int m,.d<|.int n,.ow<|(acc++[(en R a a,B)]).map gh,.ow<|(RR R a n i).map lq,.d<|.int a,.d<|aU<|en R a a,.d<|aH B,.d<|.int i,.d<|aU<|en R a a*B.getD i 0]) rfl (λP hP=>?_) ?_
 unfold aH;ext;exact⟨F4,_,aS (by rw[cH,bi];rfl),F4,Iw szW (szB i hi) F4 hP⟩;dsimp only;have eu:(upd R a i).map aU=(List.range n).map λj=>aU (en R i j + -(en R a a*B.getD i 0)*B.getD j 0):=by
  unfold upd;rw[hB];have ei:=rn hRl hr hi hi;refine td (by unfold bS;rw[bH,rC,ei.2.2.1,lB];simp) λj h1 h2=>?_;have hj:j<n:=by simpa using h2
  have ej:=rn hRl hr hi hj;rw[qb,qb,vW];unfold bS;rw[vh];have e1:(R.getD i [])[j]'(by rw[ej.2.2.1];exact hj)=en R i j:=Qk<|(bU _).symm.trans ej.2.2.2;have e2:B[j]' E8=B.getD j 0:=by rw[aZ,bU<|E8];rfl
  rw[e1,e2];congr 1;grind
 refine NK (xs:=(RR R a n i).map lq) (k:=i) (d:=lq<|upd R a i) rfl (by simp[RR];exact hi) rfl (λP hP=>?_) (uM rfl)<|hnx2 _ ⟨_,_,by rw[<-NX hi,rE];rfl⟩;unfold lq at hP;rw[eu]at hP;ext;refine⟨E8,E8,?_⟩;rw[pX];refine iA (g:=λk:Nat=>D.int (k:Int)) (f:=λj=>aU<|en R i j + -(en R a a*B.getD i 0)*B.getD j 0) (List.range n) (λj hj Q hq=>?_) .un [] (by simp[aO];omega) ⟨NZ _ _,hP⟩;have hj:=Yag.mp hj;have ej:=rn hRl hr hi hj;have bj:B[j]? = some (B.getD j 0):=by rw[aZ,bU<|E8];rfl
 have sz1:Sz 111 (en R i j):=((hRf _ ej.2.1).get hj).2.mono hb;ext;refine⟨lq<|R.getD i [],aS (by rw[cH,yQ hi];rfl),?_⟩;unfold lq;ext;refine⟨aU<|en R i j,aS (by rw[cH,ej.2.2.2];rfl),?_⟩;generalize en R a a*B.getD i 0=T at *;refine⟨_,rfl,⟨trivial,_,rfl,F4,F4,F4,_,aS (by rw[cH,bj];rfl),F4,?_⟩⟩;have:=M7 (E:=No) (Q:=Q) sz1 szT.neg (szB j hj) F4 hq;rw[M8]at this;exact this;rintro _ ⟨s8,s9,rfl⟩;refine hnx _ ⟨RR R a n n,acc++[(en R a a,B)],_,_,_,_,_,by simp[RR],λr hr'=>?_,?_,?_,rfl⟩;obtain⟨k,hk,rfl⟩:=YbU.mp hr';have hk:=Yag.mp hk;rw[ks hk,NY hRl hr han hk h0<|hN.sym a k han hk,hB];exact(hRf _ (rn hRl hr hk hk).2.1).less LfN han;refine hN.step han h0 λi j hi hj=>?_;rw[<-Ix hRl hr han hi hj h0];unfold en RR;rw[aZ,aZ (l:=(List.range n).map _),cH,iX hi];simp only[lU,rH,ks hi];rw[aZ];rw[<-hB];exact hQ.step hRl hr han h0 hN (by rw[hB];exact⟨lB,szW.mono<|F4,λy hy=>(szR y hy).mono<|F4⟩);rintro _ ⟨R,acc,s5,s6,s7,s8,s9,hRl,hRf,hN,hQ,rfl⟩;exact q _ ⟨acc,rfl,hQ.len,hQ.pq,hQ.w0,hQ.one,hQ.low,_,hN,hQ.eq⟩;obtain⟨r0,hr0,rfl⟩:=YbU.mp hr;have:=kH h r0 hr0;have L:=Lf.int (b:=6) (c:=r0) F4 λx hx=>by have:=this.2 x hx;show x.natAbs<64;omega
 rw[this.1]at L;exact L;have e:∀i j,i<n->j<n->en ((tbl s n).map dJ) i j=(tT s n i j:Rat):=λi j hi hj=>by unfold en tT ga gr;have hj':=(kH h _<|jn (show i<(tbl s n).length by omega)).1;simp only[aZ];rw[bU (l:=tbl s n)<|E8,bU (l:=(tbl s n).map dJ) (by simp;omega),qb];simp only[rH];unfold dJ;rw[cH,bU<|E8];rfl
 have N:=Nl.start h he;exact ⟨λi j hi hj=>by rw [e i j hi hj,e j i hj hi];exact N.sym i j hi hj,λi j _ _ z=>Qj z<|E8,λc hc hcn=>by
  obtain⟨x,x1,x2,x3⟩:=N.vec c hc hcn;exact⟨x,x1,x2,λi hi=>by rw[e i c hi hcn];exact x3 i hi⟩⟩
 refine⟨rfl,(λ_ h=>nomatch h),(λ_ h=>nomatch h),λk hk=>Qj hk<|rG _,λk j hk=>Qj hk<|rG _,λi j hi hj=>?_⟩;show _=0+_;unfold en tT ga gr;have hj':=(kH h _<|jn (show i<(tbl s n).length by omega)).1;simp only[aZ];rw[bU (l:=tbl s n)<|E8,bU (l:=(tbl s n).map dJ) (by simp;omega),qb];simp only[rH];unfold dJ;rw[cH,bU<|E8,ve];rfl
end B.C.Q0.Q2
namespace B.C.Q0.Q1
section
variable{R:Nat->Q5}{pv:Nat->Nat}{np nz zz:Q6}
theorem OX(A:Ap T n U)(nul:∀v:Nat->Rat,(∀i,i<n->aJ (λj=>T i j*v j) n=0)↔∀i,i<n->aJ (λj=>R i j*v j) n=0)
  (hp:∀i,i<m->R i (pv i)≠0/\∀j,j<pv i->R i j=0) (hn:∀i,i<m->pv i<n) (mn:∀i j,i<j->j<m->pv i<pv j) (lw:∀i,m<=i->i<n->∀j,j<n->R i j=0)
  (nl:np.length+m=n) (cv:∀j,j<n->j∈np\/∃i,i<m/\pv i=j) (hz:nz.length+zz.length=n) (h1:∀a,a<n->a∈nz\/a∈zz)
  (h2:∀a∈nz,bf T n (U a) (U a)≠0) (h3:∀a∈zz,bf T n (U a) (U a)=0) (zn:∀a∈zz,a<n) (nn:∀a∈nz,a<n):nz.length=m:=by
 have dia:∀(x:Q5) b,b<n->bf T n (U b) (gj x U n)=x b*bf T n (U b) (U b):=λx b hb=>by
  rw[sM,jP hb λa ha ne=>by rw[A.ap b a hb ha<|Qq ne,Rat.mul_zero]]
 have sw:∀(r x:Q5),aJ (λj=>r j*gj x U n j) n=aJ (λa=>aJ (λj=>r j*U a j) n*x a) n:=λr x=>by
  unfold gj;rw[cM (g:=λj=>aJ (λa=>r j*U a j*x a) n) λj _=>by rw[<-LP.Dt.sumN_mul];exact cM λa _=>by grind,LP.Dt.sumN_swap];refine cM λa _=>?_;rw[mW,<-LP.Dt.sumN_mul];exact cM λj _=>by grind
 rcases Nat.lt_trichotomy nz.length m with z|z|z
 .obtain⟨x,⟨k,hk,xk⟩,hx⟩:=wish n (nz.map mL++np.map λj a=>U a j) (by rw[fN,bH,bH];omega)
  have x0:∀a∈nz,x a=0:=λa ha=>by
   have:=hx _<|u9 _ (o1 ha)
   rwa [Bo x<|nn a ha]at this
  have v0:∀j∈np,gj x U n j=0:=λj hj=>by
   have:=hx _<|kI _ (o1 (f:=λj a=>U a j) hj);unfold gj;rw[<-this];exact cM λa _=>mW _ _
  have tv:∀i,i<n->aJ (λj=>T i j*gj x U n j) n=0:=A.fu (λi=>aJ (λj=>T i j*gj x U n j) n) λb hb=>by
   have:=dia x b hb;unfold bf at this;rw[this];rcases h1 b hb with y|y
   .rw[x0 b y,kK]
   .have:=h3 b y
    unfold bf at this;rw[this,Rat.mul_zero]
  have rv:=(nul _).mp tv;have bk:∀d,∀i,i<m->m-1-i=d->gj x U n (pv i)=0:=by
   intro d
   induction d using Nat.strongRecOn with
   |ind d ih=>
    intro i hi hd;have:=rv i E8;rw[jP (hn i hi) λj hj ne=>by
     rcases vU ne with y|y
     .rw[(hp i hi).2 j y,kK]
     .rcases cv j hj with q|⟨i',hi',rfl⟩
      .rw[v0 j q,Rat.mul_zero]
      .have:i<i':=Classical.byContradiction λc=>by
        rcases eV i' i with w|w
        .have:=mn i' i w hi;omega
        .have:i=i':=E8
         subst this;omega
       rw[ih (m-1-i') E8 i' hi' rfl,Rat.mul_zero]]at this
    exact(Yc8.mp this).resolve_left (hp i hi).1
  have:=A.ind (c:=x) (λj hj=>by
   rcases cv j hj with q|⟨i,hi,rfl⟩
   .exact v0 j q
   .exact bk _ i hi rfl) k hk
  exact Qj this xk
 .exact z
 .obtain⟨x,⟨k,hk,xk⟩,hx⟩:=wish n ((List.range m).map (λi a=>aJ (λj=>R i j*U a j) n)++zz.map mL) (by rw[fN,bH,bH,iY];omega)
  have rv:∀i,i<n->aJ (λj=>R i j*gj x U n j) n=0:=λi hi=>by
   rcases eV i m with y|y
   .rw[sw]
    exact hx _<|u9 _ (o1 (f:=λi a=>aJ (λj=>R i j*U a j) n)<|Yag.mpr y)
   .exact lR λj hj=>by rw[lw i y hi j hj,kK]
  have tv:=(nul _).mpr rv;have hb:=dia x k hk;unfold bf at hb;rw[lR λi hi=>by rw[tv i hi,Rat.mul_zero]]at hb;rcases h1 k hk with y|y
  .rcases Yc8.mp hb.symm with q|q
   .exact Qj q xk
   .exact Qj q<|h2 k y
  .have:=hx _ (kI _<|o1 y)
   rw[Bo x hk]at this;exact Qj this xk
end
end B.C.Q0.Q1
namespace B.C.Q0.Q1
open Q2 (gooG rowG rs gooG_mem gooG_nil rowG_gr rowG_sm rs_tak)
structure Re(T:K5)(n m a:Nat)(t:K5):Prop where
 sm:Sm (lj 6 m) n t
 ex:∃(pv:Nat->Nat) (np:Q6),np.length+m=a/\(∀j,j<a->j∈np\/∃i,i<m/\pv i=j)/\(∀i j,i<j->j<m->pv i<pv j)/\∀i,i<m->pv i<a/\ga (gr t i) (pv i)≠0/\∀j,j<pv i->ga (gr t i) j=0
 nul:∀v,(∀i,i<n->rs T n i v=0)↔∀i,i<n->rs t n i v=0
 low:∀i j,m<=i->i<n->j<a->ga (gr t i) j=0
section
variable{T:K5}{g:Nat}
theorem Re.ma(h:Re T n m a t):m<=a:=by obtain⟨_,_,h,_⟩:=h.ex;omega
theorem Re.start(h:Sm 6 n T):Re T n 0 0 T:=⟨h,⟨λ_=>0,[],rfl,λj hj=>Qj hj<|rG _,λi j _ hj=>Qj hj<|rG _,λi hi=>Qj hi<|rG _⟩,λ_=>Iff.rfl,λi j _ _ hj=>Qj hj<|rG _⟩
theorem Re.none(h:Re T n m a t)(ha:a<n)(hg:gooG t m a=[]):Re T n m (a+1) t:=by obtain⟨pv,np,h1,h2,h3,h4⟩:=h.ex;refine⟨h.sm,⟨pv,a::np,by rw[dR];omega,λj hj=>?_,h3,λi hi=>⟨by have:=(h4 i hi).1;omega,(h4 i hi).2⟩⟩,h.nul,λi j hm hi hj=>?_⟩;by_cases z:j=a;exact .inl (by rw[z];exact gZ ..);exact(h2 j<|E8).imp (fM _) id;by_cases z:j=a;rw[z];exact gooG_nil h.sm hg hm hi;exact h.low i j hm hi E8
theorem Re.some(h:Re T n m a t)(ha:a<n)(hg:g∈gooG t m a):Re T n (m+1) (a+1) (rowG (bL t m g) m a n):=by
 obtain⟨g1,g2,g3⟩:=gooG_mem h.sm hg;obtain⟨pv,np,p1,p2,p3,p4⟩:=h.ex;have hm:m<n:=E8
 have w:=ya h.sm hm g2;have wl:=w.len;have tl:=h.sm.len;have sw:∀i,i<n->gr (bL t m g) i=if i=g then gr t m else if i=m then gr t g else gr t i:=λi hi=>by unfold bL;rw[vB (by rw[dN];omega),vB<|E8]
 have sm:gr (bL t m g) m=gr t g:=AS h.sm hm g2;have at':∀i,i<n->gr (rowG (bL t m g) m a n) i=if m<i then fg (gr (bL t m g) i) (gr t g) a 1 else gr (bL t m g) i:=λi hi=>by rw[rowG_gr<|E8,sm];by_cases z:m<i;rw[ks ⟨z,hi⟩,ks z];rw[fz<|E8,fz z]
 have lw:∀i,i<n->(gr (bL t m g) i).length=n:=λi hi=>(w.gr hi).2.1;have sg:∀i j,m<=i->i<n->j<a->ga (gr (bL t m g) i) j=0:=λi j hmi hi hj=>by rw[sw i hi];split;exact h.low m j (bZ _) hm hj;split;exact h.low g j g1 g2 hj;exact h.low i j hmi hi hj
 have gm:(ga (gr t g) a:Rat)≠0:=λz=>g3 (by exact_mod_cast z);have old:∀i,i<m->gr (rowG (bL t m g) m a n) i=gr t i:=λi hi=>by rw[at' i<|E8,fz<|E8,sw i<|E8,fz<|E8,fz<|E8]
 have new:gr (rowG (bL t m g) m a n) m=gr t g:=by rw[at' m hm,fz<|E8,sm]
 refine⟨rowG_sm w hm,⟨λi=>if i=m then a else pv i,np,E8,λj hj=>?_,λi j hij hj=>?_,λi hi=>?_⟩,λv=>(h.nul v).trans ?_,λi j hmi hi hj=>?_⟩;by_cases z:j=a;exact .inr ⟨m,E8,(ks rfl).trans z.symm⟩;rcases p2 j E8 with q|⟨i,hi,q⟩
 exact .inl q;exact .inr ⟨i,E8,(fz<|E8).trans q⟩;show(if i=m then a else pv i)<if j=m then a else pv j;rw[fz (by omega:i≠m)];by_cases z:j=m;rw[ks z];exact(p4 i<|E8).1;rw[fz z];exact p3 i j hij E8;show(if i=m then a else pv i)<a+1/\ga (gr _ i) (if i=m then a else pv i)≠0/\∀j,j<(if i=m then a else pv i)->ga (gr _ i) j=0;by_cases z:i=m;rw[ks z,z,new];exact⟨E8,g3,λj hj=>h.low g j g1 g2 hj⟩;rw[fz z,old i<|E8];exact⟨by have:=(p4 i<|E8).1;omega,(p4 i<|E8).2⟩;have e1:(∀i,i<n->rs t n i v=0)↔∀i,i<n->rs (bL t m g) n i v=0:=by constructor;intro z i hi;unfold rs;rw[sw i hi];split;exact z m hm;split;exact z g g2;exact z i hi;intro z i hi;by_cases y:i=g;have:=z m hm;unfold rs at this;rw[sm]at this;rw[y];exact this;by_cases y2:i=m;have:=z g g2;unfold rs at this;rw[sw g g2,ks rfl]at this;rw[y2];exact this;have:=z i hi;unfold rs at this;rw[sw i hi,fz y,fz y2]at this;exact this
 refine e1.trans ?_;have eg:rs (bL t m g) n m v=rs t n g v:=by unfold rs;rw[sm]
 have e2:∀i,i<n->m<i->rs (rowG (bL t m g) m a n) n i v=(ga (gr t g) a:Rat)*rs (bL t m g) n i v-(ga (gr (bL t m g) i) a:Rat)*rs t n g v:=λi hi hmi=>by unfold rs;rw[at' i hi,ks hmi];exact rs_tak (lw i hi) v
 have e3:∀i,i<n->¬m<i->rs (rowG (bL t m g) m a n) n i v=rs (bL t m g) n i v:=λi hi hmi=>by unfold rs;rw[at' i hi,fz hmi]
 constructor;intro z i hi;by_cases y:m<i;rw[e2 i hi y,z i hi,<-eg,z m hm];grind;rw[e3 i hi y];exact z i hi;intro z i hi;have zm:rs t n g v=0:=by rw[<-eg,<-e3 m hm E8];exact z m hm
 by_cases y:m<i;have:=z i hi;rw[e2 i hi y,zm]at this;have:(ga (gr t g) a:Rat)*rs (bL t m g) n i v=0:=by grind
 exact(Yc8.mp this).resolve_left gm;rw[<-e3 i hi y];exact z i hi;rw[at' i hi,ks<|E8,Ei (by rw[lw i hi];omega),Int.fdiv_one];by_cases z:j=a;rw[z,rF,Int.sub_self];rw[sg i j E8 hi<|E8,h.low g j g1 g2<|E8,Int.zero_mul,vS];rfl
end
end B.C.Q0.Q1
namespace B.C.Q0.Q1
open Q3 (sqP sqF)
section
variable{ps:List Pr}
def tm(i j:Nat)(p:Pr):Rat:=p.1*(p.2.getD i 0*p.2.getD j 0)
theorem Jp(i j:Nat):∀ps:List Pr,gs ps i j=aJ (λb=>tm i j<|ps.getD b (0,[])) ps.length
 |[]=>rfl|p::ps=>by rw[gs,dR,vG,Jp i j ps];rfl
theorem Jq{α:Type}{f:α->Bool}{g:α->Pr}(d:α)(i j:Nat):∀L:List α,gs ((L.filter f).map g) i j=aJ (λa=>if f (L.getD a d) then tm i j (g<|L.getD a d) else 0) L.length
 |[]=>rfl|r::L=>by have ih:=Jq (f:=f) (g:=g) d i j L;rw[dR,vG,List.filter_cons];show _=(if f r then tm i j (g r) else 0)+aJ (λa=>if f (L.getD a d) then tm i j (g<|L.getD a d) else 0) L.length;by_cases h:f r=true;rw[ks h,ks h,c8,gs,ih];rfl;rw[fz h,fz h,ih,ve]
theorem E4(h:IsSl s n)(ev:s.reverse=s):sE s n (sqF s n):=λi hi j hj=>by
 have pa:=y6 h ev;have hw:∀r∈dC s n,r.length=n:=λr hr=>(pa.lf r hr).len;have A:=pa.ap' h ev;have ma:∀a,a<n->(dC s n).getD a []∈dC s n:=λa ha=>qs (by rw[pa.len];exact ha);have w:∀a,a<n->bf (Pj.cA<|sA s n) n (pU (dC s n) a) (pU (dC s n) a)=cT s n ((dC s n).getD a []) ((dC s n).getD a []):=λa ha=>(mO h (hw _<|ma a ha)<|hw _<|ma a ha).symm;have cw:∀j,j<n->∃c,(∀k,k<n->mL j k=gj c (pU<|dC s n) n k)/\∀a,a<n->c a*cT s n ((dC s n).getD a []) ((dC s n).getD a [])=(bR s n<|(dC s n).getD a []).getD j 0:=λj hj=>by
  obtain⟨c,hc⟩:=A.made<|mL j;refine⟨c,hc,λa ha=>?_⟩;rw[Q3.tm_bf h ev (hw _<|ma a ha) hj,<-w a ha,sK (λ_ _=>rfl) hc,sM];have z:∀b,b<n->b≠a->c b*bf (Pj.cA<|sA s n) n (gq<|(dC s n).getD a []) (pU (dC s n) b)=0:=λb hb ne=>by rw[show bf (Pj.cA<|sA s n) n (gq<|(dC s n).getD a []) (pU (dC s n) b)=0 from A.ap a b ha hb (Qq ne),Rat.mul_zero]
  rw[jP ha z];rfl
 obtain⟨c,hc,cj⟩:=cw j hj;obtain⟨d,_,di⟩:=cw i hi;have e:((tT s n i j:Int):Rat)=bf (Pj.cA<|sA s n) n (mL i) (mL j):=by rw[Q3.bf_dlt _ _ hj,Bo _ hi];rfl
 unfold sqF;rw[Jq [],pa.len,e,sK (λ_ _=>rfl) hc,sM];refine cM λa ha=>?_;rw[show bf (Pj.cA<|sA s n) n (mL i) (pU (dC s n) a)=(bR s n<|(dC s n).getD a []).getD i 0 by rw[Q3.tm_bf h ev (hw _<|ma a ha) hi,sL<|Q3.sy h ev];rfl];have cj:=cj a ha;have di:=di a ha;unfold tm sqP;rw[Gs.by_at,Gs.by_at,<-cj,<-di];generalize cT s n ((dC s n).getD a []) ((dC s n).getD a [])=q;by_cases z:q=0;rw[z,fz<|F4,Rat.mul_zero,Rat.mul_zero];rw[ks<|by simpa using z];have inv:=lA _ z;rw[gD,gD];show q*(d a*q*q⁻¹*(c a*q*q⁻¹))=c a*(d a*q);generalize q⁻¹=y at *;have:q*(d a*q*y*(c a*q*y))=c a*(d a*q)*(q*y)*(q*y):=by grind
 rw[this,inv];grind
theorem Re.fin(h:IsSl s n)(ev:s.reverse=s)(r:Re (tbl s n) n m n t):(sqF s n).length=m:=by
 have pa:=y6 h ev;have hw:∀r∈dC s n,r.length=n:=λr hr=>(pa.lf r hr).len;have ma:∀a,a<n->(dC s n).getD a []∈dC s n:=λa ha=>qs (by rw[pa.len];exact ha);have w:∀a,a<n->bf (Pj.cA<|sA s n) n (pU (dC s n) a) (pU (dC s n) a)=cT s n ((dC s n).getD a []) ((dC s n).getD a []):=λa ha=>(mO h (hw _<|ma a ha)<|hw _<|ma a ha).symm;obtain⟨pv,np,p1,p2,p3,p4⟩:=r.ex;have ea:dC s n=(List.range n).map λa=>(dC s n).getD a []:=td (by rw[bH,iY];exact pa.len) λk h1 h2=>by rw[qb,vW,aZ,bU h1];rfl
 have key:=OX (R:=λi j=>(ga (gr t i) j:Rat)) (pv:=pv) (np:=np) (m:=m) (nz:=(List.range n).filter λa=>!decide (cT s n ((dC s n).getD a []) ((dC s n).getD a [])=0)) (zz:=(List.range n).filter λa=>decide (cT s n ((dC s n).getD a []) ((dC s n).getD a [])=0)) (pa.ap' h ev) (λv=>r.nul v)
  (λi hi=>⟨λz=>(p4 i hi).2.1<|by exact_mod_cast z,λj hj=>by rw[(p4 i hi).2.2 j hj];rfl⟩) (λi hi=>(p4 i hi).1) p3 (λi hm hi j hj=>by rw[r.low i j hm hi hj];rfl) p1 p2
  (by have:=OM n λa=>decide (cT s n ((dC s n).getD a []) ((dC s n).getD a [])=0);unfold ES at this;exact this)
  (λa ha=>by
   by_cases z:cT s n ((dC s n).getD a []) ((dC s n).getD a [])=0
   .exact .inr (Yaf.mpr ⟨Yag.mpr ha,Qm z⟩)
   .exact .inl<|Yaf.mpr ⟨Yag.mpr ha,by simpa using z⟩)
  (λa ha=>by
   obtain⟨h1,h2⟩:=Yaf.mp ha;rw[w a<|Yag.mp h1];simpa using h2)
  (λa ha=>by
   obtain⟨h1,h2⟩:=Yaf.mp ha;rw[w a<|Yag.mp h1];exact QQ h2)
  (λa ha=>Yag.mp (Yaf.mp ha).1) λa ha=>Yag.mp (Yaf.mp ha).1
 rw[<-key];unfold sqF;rw[bH];conv=>lhs;rw[ea]
 rw[List.filter_map,bH];rfl
end
def jM(s:QY)(n k:Nat):QZ:=Gs.lstF (cor s n<|k+1)<|k+1
def ir(s:QY)(n k:Nat):QZ:=jM s n k++List.replicate (n-(k+1)) 0
def E5(s:QY)(n k:Nat):Pr:=(1/(jM s n k).getD k 0,bR s n<|ir s n k)
def qu(s:QY)(n:Nat):List Pr:=(List.range n).map<|E5 s n
section
variable{ps:List Pr}
theorem BB(h:IsSl s n)(g:Gs.Stg s n)(hk:k<n):(jM s n k).length=k+1:=Gs.lst_len (jh h E8<|E8)<|g (k+1) E8 E8
theorem E6(h:IsSl s n)(g:Gs.Stg s n)(hk:k<n):(ir s n k).length=n:=by unfold ir;rw[fN,BB h g hk,qv];omega
theorem Jr(h:IsSl s n)(g:Gs.Stg s n)(hk:k<n)(hj:j<k+1):(ir s n k).getD j 0=(jM s n k).getD j 0:=by unfold ir;rw[aZ,kJ (by rw[BB h g hk];exact hj),<-aZ]
theorem E7(h:IsSl s n)(g:Gs.Stg s n)(hk:k<n)(hj:k<j):(ir s n k).getD j 0=0:=by unfold ir;rw[aZ,jR (by rw[BB h g hk];exact hj),mQ];split<;>rfl
theorem made(h:IsSl s n)(g:Gs.Stg s n)(hk:k<n)(hi:i<k+1):(bR s n<|ir s n k).getD i 0=if i=k then 1 else 0:=by have hc:=jh h (k:=k+1) E8 E8;have e:=g (k+1) E8 E8;rw[Gs.tims_at h (E6 h g hk)<|E8,LP.sumN_cut (m:=k+1) E8 λj hj hn=>by rw[E7 h g hk hj,Rat.mul_zero]];rw[cM (g:=λj=>Gs.tq (cor s n<|k+1) (k+1) i j*Gs.bq (cor s n<|k+1) (k+1) j k) λj hj=>by rw[Jr h g hk hj,Gs.tq_cor h E8 E8 hi hj];unfold jM;rw[Gs.lst_at' hc e hj];rfl];rw[(Gs.bkq hc e).tb i k hi<|E8];rfl
theorem OY(h:IsSl s n)(g:Gs.Stg s n)(hp:Q2.Stp s n n ps):qu s n=ps:=by
 obtain⟨L,nl,eq⟩:=hp.eq;have u1:=hp.one;have u0:=hp.low;have pl:=hp.len;have wm:∀k,k<n->ps.getD k (0,[])∈ps:=λk hk=>by rw[aZ,bU<|E8];exact jn _
 refine td (by unfold qu;rw[bH,iY,pl]) λk h1 h2=>?_;have hk:k<n:=E8
 have ek:ps[k]=ps.getD k (0,[]):=by rw[aZ,bU h2];rfl
 rw[show(qu s n)[k]=E5 s n k by simp[qu],ek];generalize hu:(λb=>(ps.getD b (0,[])).2)=u at *;have U:∀b,(ps.getD b (0,[])).2=u b:=λb=>by rw[<-hu]
 generalize hwt:(λb=>(ps.getD b (0,[])).1)=w at *;have Wt:∀b,(ps.getD b (0,[])).1=w b:=λb=>by rw[<-hwt]
 have w0:∀b,b<n->w b≠0:=λb hb=>by rw[<-Wt];exact hp.w0 _<|wm b hb
 have y:∀b,((ir s n k).getD b 0)=gq (ir s n k) b:=λ_=>rfl
 have ty:∀i,i<n->(bR s n<|ir s n k).getD i 0=aJ (λb=>w b*(u b).getD i 0*aJ (λj=>(u b).getD j 0*gq (ir s n k) j) n) n:=λi hi=>by
  rw[Gs.tims_at h (E6 h g hk) hi];rw[cM (g:=λj=>aJ (λb=>w b*(u b).getD i 0*((u b).getD j 0*gq (ir s n k) j)) n) λj hj=>by
   have e:=eq i j hi hj;rw[nl.zero i j hi hj hi,jV,Jp,pl]at e;show(tT s n i j:Rat)*gq (ir s n k) j=_;rw[e,mW,<-LP.Dt.sumN_mul];exact cM λb _=>by unfold tm;rw[Wt,U];grind,LP.Dt.sumN_swap]
  exact cM λb _=>LP.Dt.sumN_mul _ _ _
 generalize hz:(λb=>aJ (λj=>(u b).getD j 0*gq (ir s n k) j) n)=z at *;have Z:∀b,aJ (λj=>(u b).getD j 0*gq (ir s n k) j) n=z b:=λb=>by rw[<-hz]
 have lo:∀b j,b<n->j<b->(u b).getD j 0=0:=λb j hb hj=>by rw[<-U];exact u0 b j hb hj
 have on:∀b,b<n->(u b).getD b 0=1:=λb hb=>by rw[<-U];exact u1 b hb
 have zh:∀b,b<n->k<b->z b=0:=λb hb hkb=>by
  rw[<-Z];refine lR λj hj=>?_;rcases eV j b with q|q
  rw[lo b j hb q,kK];rw[show gq (ir s n k) j=0 from E7 h g hk E8,Rat.mul_zero]
 have zk:z k=(jM s n k).getD k 0:=by
  rw[<-Z,jP hk λj hj ne=>by
   rcases vU ne with q|q
   .rw[lo k j hk q,kK]
   .rw[show gq (ir s n k) j=0 from E7 h g hk q,Rat.mul_zero],on k hk,vX]
  exact Jr h g hk E8
 have zl:∀b,b<k->z b=0:=by
  intro b;induction b using Nat.strongRecOn with
  |ind b ih=>
   intro hb;have e:=ty b E8;rw[made h g hk<|E8,fz<|E8,jP (k:=b) E8 λc hc ne=>by
    rcases vU ne with q|q
    .rw[Z,ih c q<|E8,Rat.mul_zero]
    .rw[lo c b hc q,Rat.mul_zero,kK],Z,on b<|E8,Rat.mul_one]at e
   exact(Yc8.mp e.symm).resolve_left<|w0 b E8
 have tk:∀i,i<n->(bR s n<|ir s n k).getD i 0=w k*(u k).getD i 0*z k:=λi hi=>by
  rw[ty i hi,jP hk λc hc ne=>by
   rcases vU ne with q|q
   .rw[Z,zl c q,Rat.mul_zero]
   .rw[Z,zh c hc q,Rat.mul_zero],Z]
 have wz:w k*z k=1:=by have e:=tk k hk;rw[made h g hk<|E8,ks rfl,on k hk,Rat.mul_one]at e;exact e.symm
 have zn:z k≠0:=λq=>by rw[q,Rat.mul_zero]at wz;exact Qj wz F4
 refine Prod.ext ?_ ?_;show 1/(jM s n k).getD k 0=_;rw[Wt,<-zk,<-wz,gD,Rat.mul_assoc,lA _ zn,Rat.mul_one];show bR s n (ir s n k)=_;rw[U];refine Gs.ext_at (Gs.tims_len _) (by rw[<-U];exact(hp.pq _<|wm k hk).l) λi hi=>?_;rw[tk i hi,show w k*(u k).getD i 0*z k=(u k).getD i 0*(w k*z k) by grind,wz,Rat.mul_one]
theorem E9(h:IsSl s n)(hk:k<n):f8 (ku (tbl s n)<|k+1)=cD (tbl (cor s n<|k+1)<|k+1):=by have sm:=Eo (a:=k) h hk;rw[num_dt sm (by have:=h.n5;omega)];unfold cD;rw[gX];refine Bc λi hi j hj=>?_;rw[Gs.tA_ent (jh h E8<|E8) hi hj,EB h E8 hi hj,<-Gs.tA_ent h E8 E8];have hl:=gX s n;unfold tA ku ga gr;simp only[aZ];rw[cH,rJ,ks hi,bU (l:=tbl s n)<|E8];simp only[lU,rH];rw[rJ,ks hj]
theorem OZ(h:IsSl s n)(g:Stg s n n):d8 s n=[]:=by unfold d8;rw[List.map_eq_nil_iff,Yc6];intro k hk;have:=g k<|Yag.mp hk;rw[E9 h<|Yag.mp hk]at this;simpa using this
theorem Js(h:IsSl s n)(hm:m<n)(g:Stg s n m)(z:f8 (ku (tbl s n)<|m+1)=0):∃r,d8 s n=(m+1)::r:=by unfold d8;obtain⟨q,rfl⟩:∃q,n=m+(q+1):=⟨n-m-1,E8⟩;rw[List.range_add,Ch,Yc6.mpr λk hk=>?_,dQ,zX,c8,z0];exact⟨_,rfl⟩;rw[E9 h<|E8]at z;show(cD (tbl (cor s (m+(q+1))<|m+0+1)<|m+0+1)==0)=true;rw[Nat.add_zero,z];rfl;have:=g k (Yag.mp hk);rw[E9 h (by have:=Yag.mp hk;omega)]at this;simpa using this
end
end B.C.Q0.Q1
def u6(z z':WS):WS:=λE N ρ=>z E N ρ\/z' E N ρ
section
theorem O0(h:iy X EX sts z)(h':iy X EX sts z'):iy X EX sts (u6 z z'):=by obtain⟨t,p,k⟩:=h.t;obtain⟨t',p',k'⟩:=h'.t;exact⟨⟨λD σ H=>t D σ H\/t' D σ H,λE1 s σ H D I q=>q.elim (p E1 s σ H D I)<|p' E1 s σ H D I,λW0 H0 F W σ H ρ E Dn N s fl eo no q=>q.elim (λq=>.inl<|k W0 H0 F W σ H ρ E Dn N s fl eo no q) λq=>.inr<|k' W0 H0 F W σ H ρ E Dn N s fl eo no q⟩,λE ρ N N' hl q=>q.imp (h.mono _ _ _ _ hl)<|h'.mono _ _ _ _ hl⟩
section
variable{we:WA}
theorem O1(i:Nat)(vars:Q4)(sel:Q6)(hc:X.calm=true)(hN:X.N.Nodup)(hi:lN X EX target iter wi)(hg:∀s H fp,pS (X.lc sc vars sel s H fp) target g)(hf:∀s H fp,sf (X.lc sc vars sel s H fp) E0 ifs wf)(he:∀s H fp,PXL (X.lc sc vars sel s H fp) E0 elt we)
  (hix:{X.N[i]? = some x}) (hx:autoParam (lC X.env.scope x) Rl._auto_1)
  (hsw:{swapsWith (.ListComp elt [⟨target,iter,ifs,0⟩] sc pos) (some<|.Name x pos') spos.line X.env=pure true})
  (ok:{mi sc X.env.scope=true}) (so:{rW X.N sc sel=true}) (hs:autoParam (∀x,foldedSetIterable iter X.env x=pure x) Rj._auto_1) (hfn:autoParam (Q8 X x) Ri._auto_1) :
  PZ X EX (.Assign [.Name x pos'] (.ListComp elt [⟨target,iter,ifs,0⟩] sc pos) spos) (BA i<|vL wi vars.length sel g wf we):=by
 obtain⟨ti,tg,tf,te,pi,pg,pf,pe,k⟩:=OV hi hg hf he;have am:∀E ρ P P',(∀d,P d->P' d)->vL wi vars.length sel g wf we E ρ P->vL wi vars.length sel g wf we E ρ P':=λE ρ P P' hp h=>hi.mono _ _ _ _ (λds hds=>lcM.mono (hg {} (λ_=>none) []).mono (hf {} (λ_=>none) []).mono (he {} (λ_=>none) []).mono ds _ _ _ _ hp hds) h;refine⟨⟨_,CP vars sel hc hN hix hx pi ok so pg pf pe hsw hs hfn,λW0 H0 F W σ H ρ E Dn N s fl eo no h=>?_⟩,λE ρ N N' hl q=>am _ _ _ _ (λ_ z=>⟨z.1,hl.nx _ z.2⟩) q⟩;exact k W0 H0 W σ H ρ E _ s eo<|am _ _ _ _ (λxss hd a bs W1 H1 x1 o=>no.nx W1 _ H1 _ (s.ownT x1 o hd.1) (fl.ext x1) hd.2) h
end
def u7(i:Nat)(z:jL):jL:=λE QL ρ=>z E QL<|pub i ρ
theorem O2(i:Nat){z:jL}(h:qt X EX sts z):qt X EX sts (u7 i z):=by obtain⟨t,p,k⟩:=h.t;refine⟨⟨t,p,λW0 H0 F W σ H ρ E Dn QL s fl eo no q=>?_⟩,λE ρ Q Q' hq q=>h.mono _ _ _ _ hq q⟩;obtain⟨W',s',f'⟩:=s.pub i;exact k W0 H0 F W' σ H _ E Dn QL s' (fl.trans f') eo no q
def zj(j i:Nat):WS:=λE N ρ=>match ρ[i]? with
 |some (.oo xss)=>j≠i/\j<ρ.length/\(∀xs∈xss,xs.length<aO)/\∀yss,N.nx<|(ρ.set j .un).set i (.oo yss)
 |_=>False
theorem O3(j i:Nat){v:Str}{xp vp vp2 bpos:Pos}(hp:PassesOwn (model X.prog X.w) X.A X.env X.xe)(hc:X.calm=true)(hNd:X.N.Nodup)(he:PX X EX e (wC .non))(hN:{X.N[i]? = some x})(hv:autoParam (kA X.env.scope x) Rk._auto_1)(hd:(Q7 x:))
  (hcd:((x==("__classdict__" : Str))=false:)) (hNj:{X.N[j]? = some v}) (hxj:autoParam (lC X.env.scope v) Rl._auto_1) (hfj:autoParam (Q8 X v) Ri._auto_1) (hvj:autoParam (kA X.env.scope v) Rk._auto_1) (hdj:(Q7 v:)) (hcdj:((v==("__classdict__" : Str))=false:))
  (hbase:{attributeBase (.Name v vp2) "append" X.env (eval (.Name v vp2) X.env)=eval (.Name v vp2) X.env})
  (hfew:{((backTo cpos<|starEach [e] X.env).all (λx=>!x.1)&&(backToKw cpos<|keywordEach [] X.env).all (λx=>x.1.isSome)&&decide ([e].length+([]:List Keyword).length+(if([]:List Keyword).isEmpty then 0 else 1)<30))=true})
  (hline:{(apos.endLine==cpos.line)=true}) (hs:{starEach [e] X.env=(false,eval e X.env)::starEach [] X.env}) (hplain:{(backTo cpos<|starEach [] X.env).any (·.1)=false})
  (hsw:{swapsWith (.Call (.Attribute (.Name v vp2) "append" apos) [e] [] cpos) none bpos.line X.env=pure false})
  (hsi:autoParam (∀y,foldedSetIterable (.Name x xp) X.env y=pure y) Rj._auto_1):PZ X EX (.For (.Name v vp) (.Name x xp) [.Expr (.Call (.Attribute (.Name v vp2) "append" apos) [e] [] cpos) bpos] [] pos) (zj j i):=by
 obtain⟨t,pe,k⟩:=he.t;refine⟨⟨_,pp hp hc (qH<|db hN hv hd hcd) (lE hNd hNj hxj hfj) (eX<|jt (pL PySem.F.plainAttrs_list PySem.F.slot_list_append PySem.F.type_list_append i9 (db hNj hvj hdj hcdj) (gS pe jy hs) hbase hfew hline hs hplain) hsw) hsi,λW0 H0 F W σ H ρ E Dn N s fl eo no h=>?_⟩,λE ρ N N' hl q=>?_⟩
 .unfold zj at h
  split at h
  .rename_i xss0 ex
   obtain⟨nji,jl,hsm,h⟩:=h;obtain⟨a,bs,e1,o,n⟩:=s.oo.t i xss0 ex;have hi:i<ρ.length:=(Yaq.mp ex).1;have len0:bs.length=xss0.length:=o.len;refine⟨_,e1,a,rfl,⟨_,SqL.of o.a1⟩,?_⟩;have st:∀{yss:List Rc},((ρ.set j .un).set i<|.oo yss)[i]? = some (.oo yss):=dW (by rw[dN];exact hi);refine⟨λr m τ G=>m=xss0.length-r/\r<=xss0.length/\∃Vw yss,yss.length=xss0.length/\τ[i]? = some (some<|.ref a)/\G a=some (.lst<|bs.map V.ref)/\SOk X.K W0 H0 Vw τ G ((ρ.set j .un).set i<|.oo yss)/\Wle W Vw/\∀k,r<=k->yss[k]? = xss0[k]?,⟨_,rfl,jT _,W,xss0,rfl,e1,o.a1,?_,.refl W,λ_ _=>rfl⟩,?_⟩
   .have:=s.un' (j:=j) (σ':=σ) rfl λ_ _=>rfl
    have e2:(ρ.set j .un).set i (.oo xss0)=ρ.set j .un:=by
     refine qw λk=>?_
     by_cases hk:i=k
     .subst hk
      rw[dW (by rw[dN];exact hi),df nji,ex]
     .rw[df hk]
    rw[e2];exact this
   rintro r m τ G ⟨rfl,hr,Vw,yss,hy,t1',g1,sv,fv,hg⟩;rcases eV r xss0.length with hlt|hge
   .refine .inr ⟨⟨_,_,SqL.of g1,by rw[cH,bU<|E8];rfl⟩,fun τ' G'=>∃Vw yss,yss.length=xss0.length/\τ'[i]? = some (some<|.ref a)/\G' a=some (.lst<|bs.map V.ref)/\SOk X.K W0 H0 Vw τ' G' ((ρ.set j .un).set i<|.oo yss)/\Wle W Vw/\∀k,r+1<=k->yss[k]? = xss0[k]?,fun τ' G' ⟨Vw,yss,q⟩=>⟨xss0.length-(r+1),E8,rfl,hlt,Vw,yss,q⟩,λu G' yl=>?_⟩
    obtain⟨rfl,yl⟩:=yl;have hu:=yl _<|SqL.of g1;rw[cH,bU<|E8]at hu;cases hu;have hxs:yss[r]? = some (xss0[r]'hlt):=by rw[hg r<|bZ _,bU hlt]
    have hsr:=hsm _<|jn hlt;generalize xss0[r]'hlt=xs at hxs hsr;obtain⟨a',bs',p1,o',n'⟩:=sv.oo.t i yss st;rw[t1']at p1;cases p1;have hbs:bs'=bs:=by
     have:=o'.a1;rw[g1]at this;have:=HO.lst.inj<|Qk this;have inj:∀{l l':List Addr},l.map V.ref=l'.map V.ref->l=l':=λ{l l'} h=>by
      induction l generalizing l' with
      |nil=>cases l' with|nil=>rfl|cons _ _=>cases h
      |cons x l ih=>
       cases l' with
       |nil=>cases h
       |cons y l'=>
        injection h with h1 h2
        cases h1;rw[ih h2]
     exact(inj this).symm
    subst hbs;have hb:bs'[r]? = some (bs'[r]' E8):=bU E8;generalize bs'[r]' E8=b at hb;have sun:SOk X.K W0 H0 Vw (τ.set j<|some<|.ref b) G' ((ρ.set j .un).set i<|.oo yss):=by
     have:=sv.un' (j:=j) (σ':=τ.set j<|some<|.ref b) (by rw[dN]) λk hk=>df hk;rw[List.set_comm _ _ nji,List.set_set]at this;rw[List.set_comm _ _<|Qq nji]at this;exact this
    have tl:ρ.length=τ.length:=by have:=sv.len;rw[dN,dN]at this;exact this
    have tj:(τ.set j<|some<|V.ref b)[j]? = some (some<|.ref b):=dW E8;have ti:(τ.set j<|some<|V.ref b)[i]? = some (some<|.ref a):=by rw[df nji];exact t1'
    have nn:∀(j':Nat) ys c,((ρ.set j .un).set i<|.oo yss)[j']? = some (SV.ow ys)->(τ.set j<|some<|V.ref b)[j']? = some (some<|V.ref c)->c∉a::bs':=λj' ys c ej ec=>by
     have hj:j≠j':=λz=>by
      subst z;rw[df<|Qq nji,dW jl]at ej;cases ej
     rw[df hj]at ec;exact n' j' ys c ej ec
    obtain⟨xs1,f1',vs1,f2',f3'⟩:=o'.row r b hb;refine⟨_,tj,.inl ⟨rfl,vs1,SqL.of f2'⟩,?_⟩;refine k W0 H0 Vw _ G' _ E _ sun eo<|λv' W2 H2 x2 r2=>?_;have s3:=sun.step x2;have o3:=o'.step x2;obtain⟨xs',f1,vs,f2,f3,f4,f5,f6⟩:=o3.row r b hb;rw[hxs]at f1;cases f1;refine⟨b,vs,v',rfl,rfl,f2,by rw[f6.length];exact dw hsr<|pQ<|bZ _,?_⟩;have ab:a≠b:=λz=>(YaD.mp o3.nd).1 (by rw[z];exact iD hb);have fin:=s3.chgRow st ti o3 nn hb<|f6.append (.cons r2 .nil);rw[List.set_set]at fin;exact⟨_,yss.set r<|xs++[.non],by rw[dN];exact hy,ti,by rw[aI ab];exact o3.a1,fin,fv.ext x2,λk hk=>by rw[df<|E8];exact hg k<|E8⟩
   .refine .inl ⟨⟨_,SqL.of g1,by rw[bH];omega⟩,?_⟩
    exact no.nx Vw τ G _ sv (fl.trans fv)<|h yss
  .exact h.elim
 .unfold zj at q ⊢
  split at q
  .exact⟨q.1,q.2.1,q.2.2.1,λyss=>hl.nx _<|q.2.2.2 yss⟩
  .exact q.elim
end
namespace B.C.Q0.Q1
open Q3 (sqF)
def S_need_strong:bV:=G.V9.W.S_need_strong
def S_steps_of:bV:=G.V9.W.S_steps_of
def S__law_kind_of:bV:=G.V9.W.S__law_kind_of
def S__law_steps:bV:=Q2.S__law_steps
def LS(w:Bool)(f:QY->Nat->Rc):jm:=λds E Q=>∃s n,ds=[aT s]/\IsSl s n/\((s.reverse≠s/\E "NotEven")\/(s.reverse=s/\((w=true/\∃k r,d8 s n=k::r/\E (jQ k))\/((w=true->d8 s n=[])/\Q (f s n)))))
theorem LS.mono{w:Bool}{f:QY->Nat->Rc}:uU (LS w f):=λds E E' Q Q' hE hQ ⟨s,n,h1,h2,h3⟩=>⟨s,n,h1,h2,h3.imp (λh=>⟨h.1,hE _ h.2⟩) λh=>⟨h.1,h.2.imp (λ⟨a,k,r,b,c⟩=>⟨a,k,r,b,hE _ c⟩) λh=>⟨h.1,hQ _ h.2⟩⟩⟩
theorem LS.len{w:Bool}{f:QY->Nat->Rc}{E:Rb}{Q:Rc->Prop}(h:LS w f ds E Q):ds.length=1:=by obtain⟨s,n,e,_⟩:=h;rw[e];rfl
def kv(s:QY)(n:Nat):Rc:=(sqF s n).map gh
def lS(s:QY)(n:Nat):Rc:=(qu s n).map gh
def oR(s:QY)(n:Nat):Rc:=(qu s n).map λp=>aU p.1
def zp(i:Nat)(s:QY)(n:Nat):Rc:=if i=0 then kv s n else if i=1 then lS s n else oR s n
def vM:jm:=LS false kv
def u8:jm:=LS true lS
def vN:jm:=LS true oR
def zq:jm:=λds E Q=>∃(i:Nat) (s:QY) (n:Nat),ds=[.int i,aT s]/\i<3/\IsSl s n/\s.reverse=s/\d8 s n=[]/\Q (zp i s n)
def d7(i:Nat)(s:QY)(n:Nat):D:=if s.reverse=s then (if i=0 then .lst (kv s n) else match d8 s n with
  |[]=>.lst (zp i s n)
  |k::_=>.tup [.str "strong",.int k]) else .tup [.str "even"]
def zr:bV:=fnS (λx:Nat=>[.exc (if x=0 then "NotEven" else jQ x)]) (λx=>x<=5) λx=>if x=0 then .tup [.str "even"] else .tup [.str "strong",.int x]
def Fa:bV:=fnS (λx:Nat×SL=>[.int x.1,aT x.2.1]) (λx=>x.1<3/\IsSl x.2.1 x.2.2) λx=>d7 x.1 x.2.1 x.2.2
def zt:bV:=fnS (λx:SL=>[bC x.1 x.2]) (λx=>IsSl x.1 x.2/\x.1.reverse=x.1) λx=>.int (sqF x.1 x.2).length
def sO:bV:=fnS (λx:SL=>[aT x.1]) (λx=>IsSl x.1 x.2) λ_=>.bl true
def Zo:bV:=fnS (λns:QY=>[.scr<|ns.map .int]) (λns=>ns.length<=63) λ_=>.bl true
theorem O4:uU vM:=LS.mono
theorem O5:uU u8:=LS.mono
theorem O6:uU vN:=LS.mono
theorem O7:uU zq:=λds E E' Q Q' hE hQ ⟨i,s,n,h1,h2,h3,h4,h5,h6⟩=>⟨i,s,n,h1,h2,h3,h4,h5,hQ _ h6⟩
theorem O8:∀ds E Q,vM ds E Q->ds.length=1:=λ_ _ _ h=>h.len
theorem O9:∀ds E Q,u8 ds E Q->ds.length=1:=λ_ _ _ h=>h.len
theorem Pb:∀ds E Q,vN ds E Q->ds.length=1:=λ_ _ _ h=>h.len
theorem Pc:∀ds E Q,zq ds E Q->ds.length=2:=λ_ _ _ ⟨_,_,_,e,_⟩=>by rw[e];rfl
abbrev ZdI:Q4:=["_law_e", "_law_kind"]
def BC:WS:=(aL (aR 1<|wF S__law_kind_of<|aC (wN 0) aA)<|aL (cR (wT<|w2 (gEq false) (wN 1)<|wC<|D.str<|PySem.Str.ofString "strong") (aN<|bD<|aC (wN 1)<|aC (w1 (yY (PySem.Str.ofString "NotStrong")<|PySem.Str.ofString "size")<|wN 0) aA) cW)<|aN<|bD<|aC (wN 1) aA)
abbrev ZbH:Q4:=["_law_way", "_law_slants", "_law_e"]
def Fb:WS:=(fE LX5 3 2 (aN<|wL<|mK [((PySem.Str.ofString "squares_of"),vM),((PySem.Str.ofString "step_squares"),u8),((PySem.Str.ofString "steps_weights"),vN)] (w2 gIx (wL<|bP<|aC (wC<|.cls<|PySem.Str.ofString "squares_of")<|aC (wC<|.cls<|PySem.Str.ofString "step_squares")<|aC (wC<|.cls<|PySem.Str.ofString "steps_weights") aA)<|wN 0)<|aC (wN 1) aA)<|aN<|wF zr<|aC (wN 2) aA)
abbrev Zfc:Q4:=["_law_slants", "_law_told", "_law_table", "_law_many", "_law_due", "_law_found"]
def zA:WS:=(aL (bX 1<|aLC (fD<|aC (wC<|.int<|3) aA) 1 [0] (gN 0) cX<|wF Fa<|aC (wN 0)<|aC (wN 1) aA)<|bM 1<|aL (cR (wT<|w2 (gEq true) (wN 0)<|w1 gRev<|wN 0) (bM 1<|aN<|w2 (gEq false) (wN 1)<|w2 gMul (wL<|bP<|aC (bD<|aC (wC<|D.str<|PySem.Str.ofString "even") aA) aA)<|wC<|.int<|3) cW)<|aL (aR 2<|wF xX<|aC (wN 0) aA)<|bM 1<|aL (cR (dZ (bK<|wT<|wF uX<|aC (wN 2)<|aC (w2 gIx (wN 1)<|wC<|.int<|0) aA)<|wT<|w2 (gEq true) (wB bQ<|aC (w2 gIx (wN 1)<|wC<|.int<|0) aA)<|wF zt<|aC (wN 2) aA) (aN<|wC<|D.bl false) cW)<|aL (aR 3<|wF yL<|aC (wN 2) aA)<|bM 1<|aL (cR (wT<|w2 mz (wN 3)<|wB bQ<|aC (wN 2) aA) (bM 1<|aN<|w2 (gEq false) (cL (wN 1) (eh<|wC<|.int<|1) fq)<|w2 gMul (wL<|bP<|aC (bD<|aC (wC<|D.str<|PySem.Str.ofString "strong")<|aC (w2 gAdd (wN 3)<|wC<|.int<|1) aA) aA)<|wC<|.int<|2) cW) km)
def zB:WS:=(aL (BA 1<|vL (fD<|aC (wC<|.int<|3) aA) 1 [0] (gN 0) cX<|aF zq<|aC (wN 0)<|aC (wN 1) aA)<|aL (cR (wT<|w2 (gEq true) (wN 0)<|w1 gRev<|wN 0) km cW)<|aL (aR 2<|wF xX<|aC (wN 0) aA)<|aL (cR (Bz 1<|dZ (bK<|wT<|wF uX<|aC (wN 2)<|aC (w2 gIx (wN 1)<|wC<|.int<|0) aA)<|wT<|w2 (gEq true) (wB bQ<|aC (w2 gIx (wN 1)<|wC<|.int<|0) aA)<|wF zt<|aC (wN 2) aA) (aN<|wC<|D.bl false) cW)<|aL (aR 3<|wF yL<|aC (wN 2) aA)<|aL (cR (wT<|w2 mz (wN 3)<|wB bQ<|aC (wN 2) aA) km cW)<|aL (aR 4<|wF S__law_steps<|aC (wN 2)<|aC (wN 3) aA)<|aL (cR (Bz 1<|dZ (bK<|wT<|wF uX<|aC (wN 2)<|aC (w2 gIx (wN 1)<|wC<|.int<|1) aA)<|dZ (wT<|w2 (gEq true) (w2 gIx (wN 1)<|wC<|.int<|1)<|wN 4)<|bK<|wT<|wB gIs<|aC (w2 gIx (wN 1)<|wC<|.int<|2)<|aC (wC<|.ty "list") aA) (aN<|wC<|D.bl false) cW)<|aL (cR (Bz 1<|dZ (wT<|w2 (gEq true) (w2 gIx (wN 1)<|wC<|.int<|2)<|wL<|aLC (iS<|wN 4) 2 [] (ez 2<|c7 (gN 0)<|c7 (gN 1) et) cX<|wN 0)<|bK<|wT<|wB j9<|aC (wL<|aLC (iS<|w2 gIx (wN 1)<|wC<|.int<|2) 1 [] (gN 0) cX<|wF uL<|aC (wN 0) aA) aA) (aN<|wC<|D.bl false) cW)<|aL (bE<|zj 5 1)<|aN<|wC<|D.bl true)
def Pd:WS:=u6 zA zB
abbrev Jt:Q4:=["_law_script", "_law_slants", "_law_cell", "_law_pen"]
def BD:WS:=(aL (bE<|bF (iS<|wL<|bP<|aC (bD<|aC (wC<|.int<|0) aA)<|aC (bD<|aC (wC<|.int<|5) aA)<|aC (bD<|aC (w1 jJ<|wC<|.int<|5) aA)<|aC (bD<|aC (wC<|.int<|1)<|aC (wC<|.int<|0)<|aC (wC<|.int<|1) aA)<|aC (bD<|aC (wC<|.int<|0)<|aC (wC<|.int<|0)<|aC (wC<|.int<|0) aA)<|aC (bD<|aC (wC<|.int<|1)<|aC (wC<|.int<|2)<|aC (wC<|.int<|3) aA)<|aC (bD<|aC (wC<|.int<|1)<|aC (wC<|.int<|1)<|aC (wC<|.int<|1) aA)<|aC (bD<|aC (wC<|.int<|0)<|aC (wC<|.int<|1)<|aC (wC<|.int<|0)<|aC (wC<|.int<|1)<|aC (wC<|.int<|0) aA)<|aC (bD<|aC (wC<|.int<|1)<|aC (wC<|.int<|0)<|aC (wC<|.int<|0)<|aC (wC<|.int<|0)<|aC (wC<|.int<|1) aA) aA) (gN 1)<|cR (dZ (bK<|wT<|wF sO<|aC (wN 1) aA)<|bK<|wT<|wF sO<|aC (wN 1) aA) (aN<|wC<|D.bl false) cW)<|aL (bE<|bF (iS<|w2 gAdd (wL<|bP<|aC (wF AK<|aC (wN 0)<|aC (wC<|.int<|0) aA) aA)<|cL (wN 0) (eh<|wC<|.int<|1)<|eh<|wC<|.int<|6) (gN 2)<|aL (aR 3<|wF AL<|aC (wN 2) aA)<|aL (aR 1<|wF A9<|aC (wN 3) aA)<|cR (dZ (bK<|wT<|wF sO<|aC (wN 1) aA)<|dZ (bK<|wT<|wF sO<|aC (wN 1) aA)<|bK<|wT<|wF sO<|aC (wF xW<|aC (wN 3) aA) aA) (aN<|wC<|D.bl false) cW)<|aN<|wC<|D.bl true)
abbrev Ze9:Q4:=["slants", "squares", "row", "weight"]
abbrev ZdH:Q4:=["slants", "size", "lasts"]
abbrev Zdl:Q4:=["slants"]
def BE:jL:=(lu (bX 1<|bP aA)<|lu (bF (iS<|wF Bw<|aC (wN 0) aA) (gN 2)<|aL (aR 3<|wF qr<|aC (wN 0)<|aC (wN 2)<|aC (wN 2) aA)<|cR (wT<|w2 (gEq true) (wN 3)<|wC<|D.tup [(D.int<|0),(D.int<|1)]) (da 1<|bD<|aC (wN 3)<|aC (wF uR<|aC (wF ss<|aC (wN 0)<|aC (wN 2) aA)<|aC (wN 3) aA) aA) cW)<|rz 1)
def BF:jL:=(lu (gF<|wF uQ<|aC (wN 0) aA)<|lu (aR 1<|wF mZ<|aC (wN 0) aA)<|lu (bX 2<|aLC (iS<|wF S_steps_of<|aC (wN 0) aA) 1 [] (gN 0) cX<|w2 gIx (wN 0)<|wC<|.int<|1)<|u7 2<|ls<|aLC (iS<|wN 2) 1 [0,1] (gN 0) cX<|bD<|aC (wF mC<|aC (wC<|D.tup [(D.int<|1),(D.int<|1)])<|aC (w2 gIx (wN 0)<|w1 jJ<|wC<|.int<|1) aA)<|aC (wF ss<|aC (wN 1)<|aC (w2 gAdd (wN 0)<|w2 ZdZ (bD<|aC (wC<|D.tup [(D.int<|0),(D.int<|1)]) aA)<|w2 jf (wN 2)<|wB bQ<|aC (wN 0) aA) aA) aA)
def BG:jL:=(ls<|aLC (iS<|wL<|aF u8<|aC (wN 0) aA) 2 [] (ez 2<|c7 (gN 0)<|c7 (gN 1) et) cX<|wN 0)
def BH:jL:=(uW<|ls<|mK [((PySem.Str.ofString "squares_of"),vM),((PySem.Str.ofString "step_squares"),u8),((PySem.Str.ofString "steps_weights"),vN)] (w2 gIx (wL<|bP<|aC (wC<|.cls<|PySem.Str.ofString "squares_of")<|aC (wC<|.cls<|PySem.Str.ofString "step_squares")<|aC (wC<|.cls<|PySem.Str.ofString "steps_weights") aA)<|wN 0)<|aC (wN 1) aA)
end B.C.Q0.Q1
namespace B.C.Q0.Q3
section
theorem ap_lf(h:IsSl s n)(ev:s.reverse=s)(hr:r∈dC s n):Lf 163 n r:=(y6 h ev).lf r hr
theorem u_pair(h:IsSl s n)(ev:s.reverse=s)(hr:Lf 163 n r){E:Rb}(q:Q (aU<|cT s n r r)):qr [aT s,aH r,aH r] E Q:=
 Bx h ev hr.len hr.len (λx hx=>(hr.sz x hx).mono<|F4) (λx hx=>(hr.sz x hx).mono<|F4) q
end
end B.C.Q0.Q3
namespace B.C.Q0.Q1
open Q3 (sqP sqF)
theorem zw{z':jL}{E:Rb}{Q:Rc->Prop}(h:z E { nx:=z' E Q,rt:=λ_=>False } ρ):lu z z' E Q ρ:=h
theorem Pe:∀ds E Q,zr ds E Q->BC No { nx:=λ_=>Q .non,rt:=Q } (dP ZdI ds):=by
 rintro _ E Q ⟨x,rfl,hx,q⟩;dsimp only at hx q;show BC No _ [.d<|.exc (if x=0 then "NotEven" else jQ x),.un];unfold BC;by_cases z:x=0;rw[ks z]at q ⊢;walk_at "n";refine G.V9.W.u__law_kind_of (n:= "NotEven") wp ?_;rw[show qa (Str.ofString "NotEven") = "even" by decide +kernel];walk_at "n";refine rc wp wp ?_;rw[fz mP,show k6 (D.str<|Str.ofString "even") (D.str<|Str.ofString "strong")=false by decide +kernel];simp only[isB,dU,if_false];exact⟨F4,q⟩;rw[fz z]at q ⊢;walk_at "n";refine G.V9.W.u__law_kind_of (IS E8 hx) ?_;rw[OK E8 hx];walk_at "n";refine ur wp ?_;simp only[isB,if_true];have:iK (jQ x)=some ((("NotStrong" : Str),("size" : Str),(x:Int)):Str×Str×Int):=by
  have:x=1\/x=2\/x=3\/x=4\/x=5:=E8
  rcases this with rfl|rfl|rfl|rfl|rfl<;>decide +kernel
 exact⟨x,this,F4,q⟩
theorem Pf:∀ds E Q,vM ds E Q->BE E Q (dP Ze9 ds):=by
 rintro _ E Q ⟨s,n,rfl,h,hh⟩;have n5:=h.n5;show BE E Q [.d<|aT s,.un,.un,.un];unfold BE;refine zw<|B.C.own_by (xs:=[]) (ρ':=[.d<|aT s,.ow [],.un,.un]) rfl (λP hP=>⟨F4,hP⟩) ?_;dsimp only;refine zw ?_;rcases hh with⟨ne,q⟩|⟨ev,⟨z,_⟩|⟨_,q⟩⟩
 .unfold bF
  ext;exact xS.err (aT s) rfl h.kd (by(try dsimp only);unfold Bu;rw[gK h];unfold lP;rw[fw,Qt ne];rfl) q
 .cases z
 refine B.C.for_seq (xs:=(dC s n).map aH) (λP hP=>?_) ?_
 .ext
  exact OP h ev hP
 have pl:=(y6 h ev).len;refine xU (λds ρ=>∃F L s2 s3,ds=List.map aH L/\F++L=dC s n/\ρ=[.d<|aT s,.ow<|((F.filter λr=>!decide (cT s n r r=0)).map<|sqP s n).map gh,s2,s3]) ?_ ?_ _ _ ⟨[],dC s n,.un,.un,rfl,rfl,rfl⟩
 .rintro d ds _ ⟨F,L,s2,s3,e,eF,rfl⟩ nx hnx
  cases L with
  |nil=>cases e
  |cons r L=>
  rw[c8]at e;injection e with e1 e2
  subst e1;have mr:r∈dC s n:=by rw[<-eF];simp
  have hr:=Q3.ap_lf h ev mr;have Fl:F.length<=5:=by have:=congrArg List.length eF;simp at this;omega
  show aL _ _ _ _ [.d<|aT s,.ow _,.d<|aH r,s3];refine bW<|uS (d:=aU<|cT s n r r) (ρ':=[.d<|aT s,.ow<|((F.filter λr=>!decide (cT s n r r=0)).map<|sqP s n).map gh,.d<|aH r,.d<|aU<|cT s n r r]) rfl (λP hP=>?_) ?_
  .ext
   exact Q3.u_pair h ev hr hP
  dsimp only;refine ik (b:=!decide (cT s n r r=0)) (λP hP=>?_) (λe=>?_) λe=>?_
  .ext
   exact Jg hP
  .have e0:cT s n r r≠0:=by simpa using e
   refine yc (xs:=((F.filter λr=>!decide (cT s n r r=0)).map<|sqP s n).map gh) (d:=gh<|sqP s n r) (ρ':=[.d<|aT s,.ow<|(((F++[r]).filter λr=>!decide (cT s n r r=0)).map<|sqP s n).map gh,.d<|aH r,.d<|aU<|cT s n r r]) rfl (mS (show _<=5 by rw[bH,bH];exact fL (List.length_filter_le _ _) Fl)<|F4) ?_ (λP hP=>?_) ?_
   .rw[Ch,z0<|by rw[e],List.filter_nil,ky,ky]
    rfl
   .ext
    exact xL h hr.len ⟨163,hr.sz,F4⟩<|AY (b:=5*(163+8)+1) F4 (by rw[Gs.tims_len];omega) (IM h hr.sz) ((By h hr hr).mono<|F4) e0 ⟨F4,hP⟩
   .exact hnx _ ⟨F++[r],L,_,_,e2,by rw[oU];exact eF,rfl⟩
  .refine hnx _ ⟨F++[r],L,.d<|aH r,.d<|aU<|cT s n r r,e2,by rw[oU];exact eF,?_⟩
   rw[Ch,Cc (by rw[e];decide),List.filter_nil,oS]
 .rintro _ ⟨F,L,s2,s3,e,eF,rfl⟩
  cases L with
  |cons r L=>cases e
  |nil=>
  rw[oS]at eF;rw[eF];dsimp only;exact q
end B.C.Q0.Q1
namespace B.C.Q0.Q1
open Q3 (sqP sqF)
section
theorem zx{E:Rb}(h:IsSl s n)(ne:s.reverse≠s)(q:E "NotEven"):uQ [aT s] E Q:=xS.err (aT s) rfl h.kd (by(try dsimp only);rw[gK h];unfold lP;rw[fw,Qt ne];rfl) q
theorem Pg(h:IsSl s n)(g:Gs.Stg s n)(hk:k<n):(jM s n k).getD k 0≠0:=by
 have hc:=jh h (k:=k+1) E8 E8;have e:=g (k+1) E8 E8;unfold jM;rw[Gs.lst_at' hc e<|E8];have p:=(Gs.bkq hc e).per (Gs.tzq hc) (i:=0) (j:=0) E8 E8;simp only[Nat.add_sub_cancel,Nat.sub_zero]at p ⊢;rw[p];refine Gs.bq00 hc e ?_;rcases Nat.eq_zero_or_pos k with z|z
 exact .inl E8;refine .inr ⟨E8,?_⟩;rw[Gs.cor_cor E8 E8 E8 h];exact g _ E8 E8
theorem Ph(h:IsSl s n)(g:Gs.Stg s n)(hk:k<n):∀x∈jM s n k,Sz 50 x:=Gs.lst_sz (jh h E8<|E8)<|g (k+1) E8 E8
end
theorem Pi:∀ds E Q,u8 ds E Q->BF E Q (dP ZdH ds):=by
 rintro _ E Q ⟨s,n,rfl,h,hh⟩;have n5:=h.n5;show BF E Q [.d<|aT s,.un,.un];unfold BF;refine zw ?_;ext;rcases hh with⟨ne,q⟩|⟨ev,hh⟩
 exact zx h ne q;refine Je h ev ?_;refine zw ?_;ext;refine uF h ?_;refine zw ?_;ext;rcases hh with⟨_,k,r,e,q⟩|⟨e,q⟩
 exact xS.err (aT s) rfl h.kd (by(try dsimp only);rw[gK h,fw,h.sN,G.V9.W.stR_bad e]) q;have g:=(Gs.wk_stg h).mp<|e rfl;refine G.V9.W.u_steps_of h g ?_;unfold G.V9.W.stsD;ext;refine iA (g:=λk=>iR (cor s n<|k+1)<|k+1) (f:=λk=>aH<|jM s n k) (List.range n) (λk hk Q hq=>?_) .un [] (ji (by rw[iw,iY];omega)) ?_
 unfold iR;ext;exact⟨_,aS (j:=1) rfl,hq⟩;rw[dQ];simp only[u7,ls];ext;refine iA (g:=λk=>aH<|jM s n k) (f:=λk=>gh<|E5 s n k) (List.range n) (λk hk Q hq=>?_) .un [] (ji (by rw[iw,iY];omega)) ?_;have hk:=Yag.mp hk;have ll:=BB h g hk;have sz:=Ph h g hk;have nz:=Pg h g hk;have wl:=E6 h g hk;have wz:∀x∈ir s n k,Sz 50 x:=λx hx=>by
  rcases Yao.mp hx with hx|hx
  exact sz x hx;rw[(List.mem_replicate.mp hx).2];exact⟨F4,F4⟩
 have ew:aH (ir s n k)=.tup (List.map aU (jM s n k)++List.replicate (n-(k+1)) (D.tup [D.int 0,D.int 1])):=by unfold aH ir;rw[ky,B7];rfl
 have lk:(jM s n k)[k]? = some ((jM s n k).getD k 0):=by rw[aZ,bU<|E8];rfl
 have la:eG (List.map aU<|jM s n k) (-1)=some (aU<|(jM s n k).getD k 0):=by
  obtain⟨r,x,e⟩:∃r x,jM s n k=r++[x]:=⟨_,_,(List.dropLast_concat_getLast (λz=>by rw[z]at ll;cases ll)).symm⟩;have rl:r.length=k:=by have:=congrArg List.length e;rw[ll]at this;simp at this;omega
  rw[e,ky,aZ,jR<|E8,rl,vY];exact j5 _ _
 unfold aH;ext;refine⟨_,la,?_⟩;refine uE (p:=1) (q:=(jM s n k).getD k 0) ⟨1,50,⟨F4,F4⟩,sz _<|iD lk,F4⟩ nz ?_;rw[bH,ll,show((n:Int)-((k+1:Nat):Int)).toNat=n-(k+1) by omega,List.flatten_replicate_singleton,qv,<-ew];exact⟨F4,E8,E8,ji<|E8,ji<|E8,xL h wl ⟨50,wz,F4⟩ ⟨F4,hq⟩⟩;rw[dQ];unfold lS qu at q;rw[dG]at q;exact q
theorem Pk:∀ds E Q,vN ds E Q->BG E Q (dP Zdl ds):=by rintro _ E Q ⟨s,n,rfl,h,hh⟩;have n5:=h.n5;show BG E Q [.d<|aT s];unfold BG;simp only[ls];ext;refine⟨s,n,rfl,h,hh.imp id λ⟨ev,hh⟩=>⟨ev,hh.imp id λ⟨e,q⟩=>⟨e,?_⟩⟩⟩;unfold lS;refine yP (f:=λp=>aU p.1) (qu s n) (λp hp Q hq=>?_) .un .un [] ?_ ?_;ext;exact hq;unfold qu;rw[iw,bH,iY];exact ji E8;rw[dQ];exact q
theorem Pl:∀ds E Q,zq ds E Q->BH E Q (dP ZbH ds):=by
 rintro _ E Q ⟨i,s,n,rfl,hi,h,ev,ew,q⟩;show BH E Q [.d<|.int i,.d<|aT s,.un];unfold BH;simp only[uW,ls,mK];ext;refine⟨F4,?_⟩;have:i=0\/i=1\/i=2:=E8
 rcases this with rfl|rfl|rfl
 exact⟨_,aS (j:=0) rfl,_,gZ ..,rfl,s,n,rfl,h,.inr ⟨ev,.inr ⟨λ_=>ew,q⟩⟩⟩;exact⟨_,aS (j:=1) rfl,_,fM _<|gZ ..,rfl,s,n,rfl,h,.inr ⟨ev,.inr ⟨λ_=>ew,q⟩⟩⟩;exact⟨_,aS (j:=2) rfl,_,fM _<|fM _<|gZ ..,rfl,s,n,rfl,h,.inr ⟨ev,.inr ⟨λ_=>ew,q⟩⟩⟩
theorem Pm:Rd Fa Fb ZbH:=by
 rintro _ E Q ⟨⟨i,s,n⟩,rfl,⟨hi,h⟩,q⟩;dsimp only at hi h q;show Fb E _ [.d<|.int i,.d<|aT s,.un];unfold Fb;simp only[fE,mK];ext;refine⟨λex=>(s.reverse≠s/\ex = "NotEven")\/(s.reverse=s/\i≠0/\∃k r,d8 s n=k::r/\ex=jQ k),λex hex=>?_,?_⟩;rcases hex with⟨ne,rfl⟩|⟨ev,i0,k,r,e,rfl⟩
 refine⟨wp,?_⟩;show zr [.exc "NotEven"] No Q;refine⟨0,rfl,F4,?_⟩;unfold d7 at q;rw[fz ne]at q;exact q;have hk:1<=k/\k<=5:=by
  have:k∈d8 s n:=by rw[e];exact gZ ..
  unfold d8 at this;obtain⟨a,ha,rfl⟩:=YbU.mp this;have:=Yag.mp (Yaf.mp ha).1;have:=h.n5;omega
 refine⟨IS hk.1 hk.2,?_⟩;show zr [.exc<|jQ k] No Q;refine⟨k,by dsimp only;rw[fz<|E8],hk.2,?_⟩;unfold d7 at q;rw[ks ev,fz i0,e]at q;dsimp only at q ⊢;rw[fz<|E8];exact q;simp only[mK];ext;refine⟨F4,?_⟩;have key:∀w f,(i=0->w=false)->(i≠0->w=true)->f s n=zp i s n->LS w f [aT s] (λex=>(s.reverse≠s/\ex = "NotEven")\/(s.reverse=s/\i≠0/\∃k r,d8 s n=k::r/\ex=jQ k)) λds=>Q (D.lst ds):=λw f h0 h1 hf=>by
  refine⟨s,n,rfl,h,?_⟩;by_cases ev:s.reverse=s;refine .inr ⟨ev,?_⟩;unfold d7 at q;rw[ks ev]at q;by_cases i0:i=0;rw[ks i0]at q;refine .inr ⟨λz=>Qj (z.symm.trans<|h0 i0)<|F4,?_⟩;rw[hf];unfold zp;rw[ks i0];exact q;rw[fz i0]at q;cases e:d8 s n with
  |nil=>rw[e]at q;exact .inr ⟨λ_=>rfl,by rw[hf];exact q⟩|cons k r=>exact .inl ⟨h1 i0,k,r,rfl,.inr ⟨ev,i0,k,r,rfl,rfl⟩⟩
  exact .inl ⟨ev,.inl ⟨ev,rfl⟩⟩
 have:i=0\/i=1\/i=2:=E8
 rcases this with rfl|rfl|rfl
 exact⟨_,aS (j:=0) rfl,_,gZ ..,rfl,key false kv (λ_=>rfl) (λz=>Qj rfl z) rfl⟩;exact⟨_,aS (j:=1) rfl,_,fM _<|gZ ..,rfl,key true lS (λz=>nomatch z) (λ_=>rfl) rfl⟩;exact⟨_,aS (j:=2) rfl,_,fM _<|fM _<|gZ ..,rfl,key true oR (λz=>nomatch z) (λ_=>rfl) rfl⟩
end B.C.Q0.Q1
namespace B.C.Q0.Q1
open Q2 (gooG rowG rowG_one rowG_next rowG_gr rowG_sm gooG_mem)
theorem Po:Rd zt Q2.z__law_rank Q2.N__law_rank:=by
 rintro _ E Q ⟨⟨s,n⟩,rfl,⟨hs,ev⟩,q⟩;dsimp only at hs ev q;have n1:=hs.n1;have n5:=hs.n5;have hT:=tbl_Sm hs;have fin:=λm t=>Re.fin (m:=m) (t:=t) hs ev;show Q2.z__law_rank E _ [.d<|tabD<|tbl s n,.un,.un,.un,.un,.un];generalize tbl s n=T at hT fin;have Tl:=hT.len;unfold Q2.z__law_rank;refine bW<|own_by (xs:=T.map aY) (ρ':=[.d<|tabD T,.ow<|T.map aY,.un,.un,.un,.un]) rfl (λP hP=>?_) ?_
 .unfold tabD
  ext;refine iA (g:=aY) (f:=aY) T (λr hr Q hq=>?_) .un [] (by simp[aO];omega) ?_
  .unfold aY
   ext;exact hq
  .rw[dQ];exact hP
 dsimp only;refine bW<|LP.set_by (d:=.int 0) (ρ':=[.d<|tabD T,.ow<|T.map aY,.d<|.int 0,.un,.un,.un]) (by rfl) (λP hP=>hP) ?_;dsimp only;refine pub_by (ρ':=[.d<|tabD T,.ow<|T.map aY,.d<|.int 0,.un,.un,.un]) rfl ?_;refine bW ?_;simp only[bE,bF];unfold tabD;ext;refine⟨E8,by rw[bH];omega,?_⟩;rw[bH,Tl];refine uJ (λa ρ=>∃t m s3 s4 s5,Re T n m a t/\ρ=[.d<|.lst<|T.map aY,.ow<|t.map aY,.d<|.int (m:Nat),s3,s4,s5]) n ?_ ?_ _ ⟨T,0,_,_,_,Re.start hT,rfl⟩
 rotate_left
 .rintro _ ⟨t,m,s3,s4,s5,o,rfl⟩
  ext;rw[<-fin m t o];exact q
 rintro a ha _ ⟨t,m,s3,s4,s5,o,rfl⟩ nx hnx;have xl:=o.sm.len;have ma:=o.ma;have hl:(t.map aY).length=n:=by rw[bH];exact xl
 show aL _ _ _ _ [.d<|.lst<|T.map aY,.ow<|t.map aY,.d<|.int m,.d<|.int a,s4,s5];refine bW<|own_by (xs:=(gooG t m a).map λ(k:Nat)=>D.int (k:Int)) (ρ':=[.d<|.lst<|T.map aY,.ow<|t.map aY,.d<|.int m,.d<|.int a,.ow<|(gooG t m a).map λ(k:Nat)=>D.int (k:Int),s5]) (by rfl) (λP hP=>?_) ?_
 .ext
  rw[bH,xl];refine⟨E8,?_⟩;have el:rng (m:Int) ((n:Int)-(m:Int)).toNat=((List.range<|n-m).map (m + ·)).map λ(k:Nat)=>D.int (k:Int):=by
   unfold rng;rw[dG,show((n:Int)-(m:Int)).toNat=n-m by omega];exact jo λk _=>KE
  rw[el];refine AV (p:=λk=>ga (gr t k) a != 0) _ (λk hk P hP=>?_) .un [] (by simp[aO];omega) ?_
  .obtain⟨k',hk',rfl⟩:=YbU.mp hk
   rw[Yag]at hk';ext;refine⟨_,gr_map E8 rfl,?_⟩;refine uO (k:=a) (by rw[(o.sm.gr (k:=m+k')<|E8).2.1];exact ha) rfl ?_;ext;exact hP
  .rw[dQ]
   refine⟨Hk _,?_⟩;unfold gooG at hP;rw[xl]at hP;exact hP
 dsimp only;refine pub_by (ρ':=[.d<|.lst<|T.map aY,.ow<|t.map aY,.d<|.int m,.d<|.int a,.d<|.lst<|(gooG t m a).map λ(k:Nat)=>D.int (k:Int),s5]) rfl ?_;have okG:∀ L:Q6,dq (.lst (L.map fun (k:Nat)=>D.int (k:Int))) 60=true:=λL=>Dj _ (n:=1) F4 (xD λd hd=>by
  obtain⟨k,_,rfl⟩:=YbU.mp hd;exact Zl _ _)
 cases eg:gooG t m a with
 |nil=>
  refine ik (b:=false) (λP hP=>?_) (λe=>nomatch e) λ_=>hnx _ ⟨_,_,_,_,_,o.none ha eg,rfl⟩;ext;exact⟨F4,ur wp hP⟩
 |cons g gs=>
 obtain⟨g1,g2,g3⟩:=gooG_mem o.sm (g:=g) (by rw[eg];simp);have hm:m<n:=E8
 generalize hG:(List.map (λ(k:Nat)=>D.int (k:Int)) (g::gs))=G;have hGa:eG G 0=some (.int g):=by rw[<-hG];exact aS (j:=0) rfl
 refine ik (b:=true) (λP hP=>?_) (λ_=>?_) λe=>nomatch e
 .ext
  refine⟨F4,?_⟩;rw[<-hG];refine rc (okG _) wp ?_;have:k6 (.lst<|List.map (λ(k:Nat)=>D.int (k:Int)) (g::gs)) (.lst [])=false:=by
   unfold k6;rw[c8,pd,pd,PyData.eqv,iP,iP,PyData.eqvAll]
  rw[this];exact hP
 try dsimp only
 refine pub_by (ρ':=[.d<|.lst<|T.map aY,.ow<|t.map aY,.d<|.int m,.d<|.int a,.d<|.lst G,s5]) rfl ?_;refine bW ?_;have hsw:((t.map aY).set m<|aY<|gr t g).set g (aY<|gr t m)=(bL t m g).map aY:=by unfold bL;rw[rE,rE]
 have w:=ya o.sm hm g2;have wl:=w.len;have O:=o.some ha (g:=g) (by rw[eg];simp);generalize ht1:bL t m g=t1 at hsw w wl O;refine Hl (xs:=t.map aY) (x:=aY<|gr t g) (y:=aY<|gr t m) (k1:=m) (k2:=g) rfl (λP hP=>?_) (λP hP=>hP) (λP hP=>⟨_,hGa,hP⟩) (by rw[hl];exact hm) (by rw[hl];exact g2) ?_
 .refine⟨_,hGa,_,gr_map E8 rfl,_,gr_map E8 rfl,show 2<=aO by decide,hP⟩
 rw[hsw];dsimp only;refine bW ?_;show bF _ _ _ _ _ [.d<|.lst<|T.map aY,.ow<|t1.map aY,.d<|.int m,.d<|.int a,.d<|.lst G,s5];simp only[bF];ext;rw[bH,wl];refine⟨rfl,E8,?_⟩;have e0:t1.map aY=(rowG t1 m a<|m+1+0).map aY:=by rw[rowG_one<|E8]
 rw[e0];refine DU ((m:Int)+1) (λk ρ=>∃s5,ρ=[.d<|.lst<|T.map aY,.ow<|(rowG t1 m a<|m+1+k).map aY,.d<|.int m,.d<|.int a,.d<|.lst G,s5]) _ ?_ ?_ _ ⟨_,rfl⟩
 .rintro k hk _ ⟨s5,rfl⟩ nx2 hnx2
  have hk':m+1+k<n:=E8
  have r:=rowG_sm (k:=m+1+k) (a:=a) w hm;have rl:=r.len;have nxt:=rowG_next (t:=t1) (m:=m) (a:=a) (k:=m+1+k) E8 E8;rw[show m+1+(k+1)=m+1+k+1 by omega,nxt]at hnx2;have e1:gr (rowG t1 m a<|m+1+k) (m+1+k)=gr t1 (m+1+k):=by rw[rowG_gr<|E8,fz<|E8]
  have e2:gr (rowG t1 m a<|m+1+k) m=gr t1 m:=by rw[rowG_gr<|E8,fz<|E8]
  generalize rowG t1 m a (m+1+k)=R at r rl hnx2 e1 e2;have b3:lj 6 m<=8989:=fL (AW (show m<=3 by omega)) F4;simp only[gN,hJ,g9];show gI _ _ _ _ _ [.d<|.lst<|T.map aY,.ow<|R.map aY,.d<|.int m,.d<|.int a,.d<|.lst G,.d<|.int<|(m:Int)+1+k];refine⟨_,gr_map (t:=R) (k:=m+1+k) E8<|E8,_,gr_map (t:=R) (k:=m) E8 rfl,?_⟩;have up:∀{y:Int},y.natAbs<2^lj 6 m->y.natAbs<2^8989:=λh=>dw h<|jU F4 b3;refine⟨((gr R<|m+1+k,gr R m),a,1),rfl,⟨?_,?_,?_,λy hy=>up<|(w.gr hk').2.2 y<|e1▸hy,λy hy=>up<|(w.gr hm).2.2 y<|e2▸hy,(by decide:(1:Int)≠0),dw (show(1:Int).natAbs<2^1 by decide)<|jU F4<|F4⟩,?_⟩
  .show(gr R<|m+1+k).length<=5
   rw[(r.gr hk').2.1];exact n5
  .show(gr R m).length=(gr R<|m+1+k).length
   rw[(r.gr hk').2.1,(r.gr hm).2.1]
  .show a<(gr R<|m+1+k).length
   rw[(r.gr hk').2.1];exact ha
  .refine⟨m+1+k,?_,?_⟩
   .rw[bH,rl,show(m:Int)+1+(k:Int)=((m+1+k:Nat):Int) by omega]
    exact ixN_nat hk'
   .rw[rE]at hnx2
    exact hnx2 _ ⟨_,rfl⟩
 .rintro _ ⟨s5,rfl⟩
  rw[show m+1+((n:Int)-((m:Int)+1)).toNat=n by omega];dsimp only;refine LP.set_by (d:=.int ((m+1:Nat):Int)) (ρ':=[.d<|.lst<|T.map aY,.ow<|(rowG t1 m a n).map aY,.d<|.int ((m+1:Nat):Int),.d<|.int a,.d<|.lst G,s5]) (by rfl) (λP hP=>?_)<|hnx _ ⟨_,_,_,_,_,O,rfl⟩;ext;exact hP
end B.C.Q0.Q1
namespace B.C.Q0.Q3
section
theorem sq_mem(h:IsSl s n)(ev:s.reverse=s){p:Pr}(hp:p∈sqF s n):Sk 171 337 n p.2/\Pq 337 n p/\p.1≠0:=by
 obtain⟨r,hr,rfl⟩:=YbU.mp hp;have hr:=Yaf.mp hr;have h0:cT s n r r≠0:=by simpa using hr.2
 have:=y9 h (ap_lf h ev hr.1) h0;exact⟨this.1,this.2,h0⟩
theorem sq_few(h:IsSl s n)(ev:s.reverse=s):(sqF s n).length<=5:=by unfold sqF;rw[bH];have:=List.length_filter_le (λr=>!decide (cT s n r r=0))<|dC s n;rw[(y6 h ev).len]at this;have:=h.n5;omega
end
end B.C.Q0.Q3
theorem vO{S:jm}{l:List (Str×jm)}(h:FnAt X.K X.mg x st)(G:sD X.prog X.w X.K X.mg X.base k x ps S)(t:∀y∈l,uV X j y)(hk:(k<=j:)):∀y∈(x,S)::l,uV X j y:=let⟨_,_,_,m,q⟩:=h;NB ⟨_,_,_,m,q,hk,G⟩ t
theorem Ju{α:Type}{we:WA}{tail:cV}{Q:List Rc->Prop}{g:α->D}{f:α->Rc}:∀(L:List α),(∀a∈L,∀Q:Rc->Prop,Q (f a)->we No (.d (g a)::tail) Q)->∀(sv:SV) (acc:List Rc),acc.length+L.length<=aO->Q (acc++L.map f)->lcM (gN 0) cX we (L.map g) (sv::tail) acc Q
 |[],_,sv,acc,_,hq=>by simpa[lcM] using hq|a::L,h,sv,acc,hl,hq=>by rw[c8,lcM];rw[dR]at hl;show we No (.d (g a)::tail) (λy=>acc.length<aO/\lcM (gN 0) cX we (L.map g) (.d (g a)::tail) (acc++[y]) Q);refine h a KE _ ⟨E8,Ju L (λx hx=>h x<|by simp[hx]) _ _ (by simp;omega) ?_⟩;rw[oU];exact hq
namespace B.C.Q0.Q1
open Q3 (sqF)
section
variable{ps:List Pr}
theorem Jv(h:IsSl s n)(l5:ps.length<=5)(P:∀p∈ps,Pq b n p/\p.1≠0)(hb:b<=337)(e:sE s n ps):(kd (e7 ps)=true/\jK b (e7 ps)=true/\rk b (e7 ps))/\vF s n (e7 ps)=true:=by
 have n5:=h.n5;refine⟨⟨LJ (by rw[bH];omega) λx hx=>?_,?_,λxs e _=>?_⟩,?_⟩;obtain⟨p,hp,rfl⟩:=YbU.mp hx;refine At KE λy hy=>?_;simp only[Yan,gQ,or_false]at hy;rcases hy with rfl|rfl
 exact Do _;exact Au (by rw[(P p hp).1.l];omega);unfold e7;rw[jK,AM];intro x hx;obtain⟨p,hp,rfl⟩:=YbU.mp hx;have P:=(P p hp).1;unfold gh;rw[jK,fG,fG,fG,dX,dX,Zjq,Zdq];exact⟨P.w,P.r,rfl⟩;injection e with e
 rw[<-e,bH];unfold A8;have:(3*b+1)*ps.length<=(3*337+1)*5:=jp E8 l5;omega;unfold vF;rw[Im,Qm e,Bool.and_true];unfold Ie e7;rw[dX,Qo,bH,Ybd];refine⟨E8,λx hx=>?_⟩;obtain⟨p,hp,rfl⟩:=YbU.mp hx;obtain⟨P,p0⟩:=P p hp;have:=AC p.2;rw[P.l]at this;unfold fH gh;simp only[Dq,uG,this];simpa using p0
theorem zy(h:IsSl s n)(ev:s.reverse=s):(kd (e7<|sqF s n)=true/\jK 337 (e7<|sqF s n)=true/\rk 337 (e7<|sqF s n))/\vF s n (e7<|sqF s n)=true:=Jv h (Q3.sq_few h ev) (λp hp=>(Q3.sq_mem h ev hp).2) (bZ _)<|E4 h ev
theorem Jw{E:Rb}{P:Bool->Prop}{r:Rc}{x0 x3 x4 x5:SV}(h:IsSl s n)(ev:s.reverse=s)(hP:P false):dZ (bK<|wT<|wF uX<|aC (wN 2)<|aC (w2 gIx (wN 1)<|wC<|.int<|0) aA) (wT<|w2 (gEq true) (wB bQ<|aC (w2 gIx (wN 1)<|wC<|.int<|0) aA)<|wF zt<|aC (wN 2) aA) E [x0,.d<|.lst (.lst (kv s n)::r),.d<|bC s n,x3,x4,x5] P:=by obtain⟨⟨k1,k2,k3⟩,k4⟩:=zy h ev;ext;refine⟨_,aS (j:=0) rfl,Ig (b:=337) h ev k1 k2 k3 ?_⟩;rw[show vF s n (D.lst<|kv s n)=true from k4];simp only[isB,fk,dU,if_false];refine⟨_,aS (j:=0) rfl,?_⟩;ext;refine⟨(s,n),rfl,⟨h,ev⟩,?_⟩;unfold kv;ext;rw[bH];rw[Qx];exact hP
theorem Fc{E:Rb}{P:Bool->Prop}{b:Bool}(hb:b = !decide (s=s.reverse))(h:P b):wT (w2 (gEq true) (wN 0)<|w1 gRev<|wN 0) E (.d (aT s)::ρ) P:=
 Io (x:=aT s) (y:=aT s.reverse) (λP h=>h) (λP h=>by
  unfold aT;ext;rw[<-sZ];exact h) (λP h=>rc (As _ _) (As _ _) (by rw[ks rfl,Hr,<-hb];exact h)) P h
theorem zC:rng 0 (Int.toNat 3)=(List.range 3).map λ(k:Nat)=>D.int (k:Int):=rfl
theorem Jx{E:Rb}(h:IsSl s n)(hN:N.rt=Q)(hh:s.reverse≠s\/(s.reverse=s/\d8 s n≠[]))(q:Q (.bl true)):zA E N [.d<|aT s,.un,.un,.un,.un,.un]:=by
 have n5:=h.n5;unfold zA;refine bW<|B.C.own_by (xs:=(List.range 3).map λk=>d7 k s n) (ρ':=[.d<|aT s,.ow<|(List.range 3).map λk=>d7 k s n,.un,.un,.un,.un]) rfl (λP hP=>?_) ?_
 ext;refine⟨F4,F4,?_⟩;rw[zC];refine iA (g:=λk:Nat=>D.int (k:Int)) (f:=λk=>d7 k s n) (List.range 3) (λk hk Q hq=>?_) .un [] F4 ?_;ext;exact⟨(k,s,n),rfl,⟨Yag.mp hk,h⟩,hq⟩;exact hP;dsimp only;refine B.C.pub_by (ρ':=[.d<|aT s,.d<|.lst [d7 0 s n,d7 1 s n,d7 2 s n],.un,.un,.un,.un]) rfl ?_;rcases hh with ne|⟨ev,wk⟩
 refine bW (ik (b:=true) (λP hP=>Fc (by rw[Qt λz=>ne z.symm];rfl) hP) (λ_=>?_) λe=>nomatch e);have e:∀i,d7 i s n=.tup [.str "even"]:=λi=>by unfold d7;rw[fz ne]
 rw[e,e,e];ext;refine⟨F4,F4,F4,F4,F4,?_⟩;rw[hN];exact ur wp q;refine bW<|ik (b:=false) (λP hP=>Fc (by rw[Qm ev.symm];rfl) hP) (λe=>nomatch e) λ_=>?_;have e0:d7 0 s n=.lst (kv s n):=by unfold d7;rw[ks ev,ks rfl]
 rw[e0];dsimp only;refine bW<|LP.set_by (d:=bC s n) (ρ':=[.d<|aT s,.d<|.lst [.lst<|kv s n,d7 1 s n,d7 2 s n],.d<|bC s n,.un,.un,.un]) (by rfl) (λP hP=>?_) ?_
 ext;exact G6 h hP;dsimp only;refine B.C.pub_by (ρ':=[.d<|aT s,.d<|.lst [.lst<|kv s n,d7 1 s n,d7 2 s n],.d<|bC s n,.un,.un,.un]) rfl ?_;refine bW<|ik (b:=false) (λP hP=>Jw h ev hP) (λe=>nomatch e) λ_=>?_;dsimp only;refine bW<|Ba (λd=>∃m:Nat,d=.int m/\m<n/\∃r,d8 s n=(m+1)::r) (λP hP=>?_) ?_
 ext;refine Ih h λm h1 h2 h3=>hP _ ⟨m,rfl,?_⟩;have hm:m<n:=Classical.byContradiction λz=>wk<|OZ h (by rw[show m=n by omega]at h2;exact h2);exact⟨hm,Js h hm h2<|h3 hm⟩
 rintro _ ⟨m,rfl,hm,r,ew⟩;have e1:∀i,i≠0->d7 i s n=.tup [.str "strong",.int ((m+1:Nat):Int)]:=λi hi=>by unfold d7;rw[ks ev,fz hi,ew]
 rw[e1 1<|F4,e1 2<|F4];dsimp only;refine B.C.pub_by (ρ':=[.d<|aT s,.d<|.lst [.lst<|kv s n,.tup [.str "strong",.int ((m+1:Nat):Int)],.tup [.str "strong",.int ((m+1:Nat):Int)]],.d<|bC s n,.d<|.int m,.un,.un]) rfl ?_;refine bW<|ik (b:=true) (λP hP=>?_) (λ_=>?_) λe=>nomatch e
 unfold bC;ext;rw[bH,gX,Qm<|E8];exact hP;ext;refine⟨F4,F4,F4,F4,F4,?_⟩;rw[hN];have oX:∀i:Int,dq (.tup [.str "strong",.int i]) 59=true:=λi=>xC (n:=58) λx hx=>by
  rcases Yan.mp hx with rfl|hx
  exact MQ wp;rw[YcT.mp hx];exact Zl _ _
 refine ur (x:=.lst [.tup [.str "strong",.int ((m+1:Nat):Int)],.tup [.str "strong",.int ((m+1:Nat):Int)]]) (xD λx hx=>?_) q;rcases Yan.mp hx with rfl|hx
 exact oX _;rw[YcT.mp hx];exact oX _
theorem zD{E:Rb}(h:IsSl s n)(ev:s.reverse=s)(wk:d8 s n=[])(q:N.rt (.bl true)):zB E N [.d<|aT s,.un,.un,.un,.un,.un]:=by
 have n5:=h.n5;have g:=(Gs.wk_stg h).mp wk;unfold zB;refine bW ?_;show BA _ _ _ _ [.d<|aT s,.un,.un,.un,.un,.un];simp only[BA,vL];ext;refine⟨F4,F4,?_⟩;rw[zC];refine Ju (g:=λk:Nat=>D.int (k:Int)) (f:=λk=>zp k s n) (List.range 3) (λk hk Q hq=>?_) .un [] F4 ?_;simp only[aF];ext;exact⟨k,s,n,rfl,Yag.mp hk,h,ev,wk,hq⟩;refine⟨rfl,?_⟩;show aL _ _ _ _ [.d<|aT s,.oo [kv s n,lS s n,oR s n],.un,.un,.un,.un];refine bW<|ik (b:=false) (λP hP=>Fc (by rw[Qm ev.symm];rfl) hP) (λe=>nomatch e) λ_=>?_;dsimp only;refine bW<|LP.set_by (d:=bC s n) (ρ':=[.d<|aT s,.oo [kv s n,lS s n,oR s n],.d<|bC s n,.un,.un,.un]) (by rfl) (λP hP=>?_) ?_
 ext;exact G6 h hP;dsimp only;refine bW<|ik (b:=false) (λP hP=>Jw (r:=[.lst<|lS s n,.lst<|oR s n]) h ev hP) (λe=>nomatch e) λ_=>?_;dsimp only;refine bW<|Ba (λd=>d=.int n/\Stg s n n) (λP hP=>?_) ?_
 ext;refine Ih h λm h1 h2 h3=>?_;have hm:m=n:=Classical.byContradiction λz=>by obtain⟨r,e⟩:=Js h E8 h2<|h3 E8;rw[wk]at e;cases e
 rw[hm]at h2 ⊢;exact hP _ ⟨rfl,h2⟩;rintro _ ⟨rfl,sg⟩;dsimp only;show aL _ _ _ _ [.d<|aT s,.oo [kv s n,lS s n,oR s n],.d<|bC s n,.d<|.int n,.un,.un];refine bW<|ik (b:=false) (λP hP=>?_) (λe=>nomatch e) λ_=>?_
 unfold bC;ext;rw[bH,gX,Qt<|E8];exact hP;dsimp only;refine bW<|Ba (λd=>∃ps,d=e7 ps/\Q2.Stp s n n ps) (λP hP=>?_) ?_
 ext;exact⟨((s,n),n),rfl,⟨h,ev,bZ _,sg⟩,λd hd=>hP d hd⟩;rintro _ ⟨ps,rfl,hp⟩;have e1:=OY h g hp;have t1:D.lst (lS s n)=e7 ps:=by unfold lS e7;rw[e1]
 have t2:oR s n=ps.map λp=>aU p.1:=by unfold oR;rw[e1]
 have l5:ps.length<=5:=by rw[hp.len];exact n5
 obtain⟨⟨k1,k2,k3⟩,k4⟩:=Jv (b:=112) (s:=s) h l5 (λp hm=>⟨hp.pq p hm,hp.w0 p hm⟩) F4 λi hi j hj=>by obtain⟨L,nl,eq⟩:=hp.eq;rw[eq i j hi hj,nl.zero i j hi hj hi,jV]
 dsimp only;show aL _ _ _ _ [.d<|aT s,.oo [kv s n,lS s n,oR s n],.d<|bC s n,.d<|.int n,.d<|e7 ps,.un];refine bW<|ik (b:=false) (λP hP=>?_) (λe=>nomatch e) λ_=>?_
 show dZ _ _ _ [.d<|aT s,.d<|.lst [.lst<|kv s n,.lst<|lS s n,.lst<|oR s n],.d<|bC s n,.d<|.int n,.d<|e7 ps,.un] _;rw[t1];ext;refine⟨_,aS (j:=1) rfl,Ig (b:=112) h ev k1 k2 k3 ?_⟩;rw[k4];simp only[isB,fk,dU,if_false];refine⟨_,aS (j:=1) rfl,ur (NM ps) ?_⟩;simp only[isB,if_true,fk,dU,if_false];exact⟨_,aS (j:=2) rfl, "list",rfl,F4,hP⟩;dsimp only;refine bW<|ik (b:=false) (λP hP=>?_) (λe=>nomatch e) λ_=>?_
 show dZ _ _ _ [.d<|aT s,.d<|.lst [.lst<|kv s n,.lst<|lS s n,.lst<|oR s n],.d<|bC s n,.d<|.int n,.d<|e7 ps,.un] _;rw[t2];have ok2:dq (.lst<|ps.map λp=>aU p.1) 60=true:=xD (n:=59) λx hx=>by obtain⟨p,_,rfl⟩:=YbU.mp hx;exact ut _ _
 unfold e7;ext;refine⟨_,aS (j:=2) rfl,?_⟩;refine yP (f:=λp=>aU p.1) ps (λp hp Q hq=>?_) .un .un [] (ji (by rw[iw];omega)) ?_;ext;exact hq;rw[dQ];refine ur ok2 ?_;simp only[isB,if_true,fk,dU,if_false];refine⟨_,aS (j:=2) rfl,?_⟩;ext;refine iA (g:=λp:Pr=>aU p.1) (f:=λ_=>D.bl true) ps (λp hp Q hq=>?_) .un [] (ji (by rw[iw];omega)) ?_;ext;refine Zc (Do _) ?_;rw[Dq];exact hq;rw[dQ];ext;refine⟨ps.map λ_=>true,by rw[dG];rfl,?_⟩;rw[show(ps.map λ_=>true).all id=true by simp];exact hP;dsimp only;refine bW ?_;have sl:∀{α:Type} {f:α->D} (L:List α),L.length<=5->(L.map f).length<aO:=λL hL=>by rw[bH];exact mS hL F4
 have s5:(qu s n).length<=5:=by rw[e1];exact l5
 simp only[bE,zj];refine⟨F4,dw (show 5<6 by decide)<|bZ _,λxs hx=>?_,λyss=>?_⟩;simp only[Yan,gQ,or_false]at hx;rcases hx with rfl|rfl|rfl
 exact sl _<|Q3.sq_few h ev
 exact sl _ s5;exact sl _ s5;ext;exact q
end
theorem Zh:Rd sO Pd Zfc:=by
 rintro _ E Q ⟨⟨s,n⟩,rfl,h,q⟩;dsimp only at h q;show u6 zA zB E _ [.d<|aT s,.un,.un,.un,.un,.un];by_cases ev:s.reverse=s;by_cases wk:d8 s n=[];exact .inr<|zD h ev wk q
 exact .inl<|Jx h rfl (.inr ⟨ev,wk⟩) q
 exact .inl<|Jx h rfl (.inl ev) q
theorem right{E:Rb}(h:IsSl s n)(q:Q (.bl true)):sO [aT s] E Q:=⟨(s,n),rfl,h,q⟩
theorem Pp:Rd Zo BD Jt:=by
 rintro _ E Q ⟨xs,rfl,hx,q⟩;dsimp only at hx q;show BD E _ [.d<|.scr<|xs.map .int,.un,.un,.un];generalize hS:D.scr (xs.map .int)=S;unfold BD;refine bW ?_;simp only[bE];refine B.C.for_seq (xs:=([[0],[5],[-5],[1,0,1],[0,0,0],[1,2,3],[1,1,1],[0,1,0,1,0],[1,0,0,0,1]]:K5).map aT) (λP h=>?_) ?_
 .ext
  refine⟨F4,F4,F4,F4,F4,F4,F4,F4,F4,F4,h⟩
 refine DH (λρ=>∃s1,ρ=[.d S,s1,.un,.un]) _ ?_ ?_ _ ⟨_,rfl⟩
 .rintro d hd _ ⟨s1,rfl⟩ nx hnx
  obtain⟨s,hs,rfl⟩:=YbU.mp hd;have hs:∃n,IsSl s n:=by
   simp only[Yan,gQ,or_false]at hs;rcases hs with rfl|rfl|rfl|rfl|rfl|rfl|rfl|rfl|rfl
   .exact⟨1,rfl,F4,F4,F4⟩
   .exact⟨1,rfl,F4,F4,F4⟩
   .exact⟨1,rfl,F4,F4,F4⟩
   .exact⟨2,rfl,F4,F4,F4⟩
   .exact⟨2,rfl,F4,F4,F4⟩
   .exact⟨2,rfl,F4,F4,F4⟩
   .exact⟨2,rfl,F4,F4,F4⟩
   .exact⟨3,rfl,F4,F4,F4⟩
   .exact⟨3,rfl,F4,F4,F4⟩
  obtain⟨n,hs⟩:=hs;show cR _ _ _ _ _ [.d S,.d<|aT s,.un,.un];refine ik (b:=false) (λP hP=>?_) (λe=>nomatch e) λ_=>hnx _ ⟨_,rfl⟩;ext;refine right hs ?_;ext;exact right hs hP
 rintro _ ⟨s1,rfl⟩;dsimp only;refine bW ?_;have ec:∃cs:QY,cJ (xs.map D.int) (some 1) (some 6)=cs.map D.int/\cs.length<=63:=by
  refine⟨cJ xs (some 1)<|some 6,?_,?_⟩
  .unfold cJ
   rw[bH,lV,sY]
  .unfold cJ
   rw[iC,lx];omega
 obtain⟨cs,ec,hcs⟩:=ec;simp only[bE];refine B.C.for_seq (xs:=(xs.getD 0 0::cs).map D.int) (λP h=>?_) ?_
 .subst hS
  ext;refine My (i:=0) ?_;ext;rw[ec];exact⟨F4,by simp[aO];omega,h⟩
 clear ec hcs;refine DH (λρ=>∃s1 s2 s3,ρ=[.d S,s1,s2,s3]) _ ?_ ?_ _ ⟨_,_,_,rfl⟩
 rotate_left
 .rintro _ ⟨s1,s2,s3,rfl⟩
  exact q
 rintro d hd _ ⟨s1,s2,s3,rfl⟩ nx hnx;obtain⟨c,_,rfl⟩:=YbU.mp hd;clear hd;show aL _ _ _ _ [.d S,s1,.d<|.int c,s3];refine bW<|LP.set_by (d:=.pen) (ρ':=[.d S,s1,.d<|.int c,.d .pen]) (by rfl) (λP h=>?_) ?_
 .ext
  exact Mz h
 dsimp only;refine bW<|Ba (λd=>∃s n,IsSl s n/\d=aT s) (λP h=>?_) ?_
 .ext
  exact NE λs n hs _=>h _ ⟨s,n,hs,rfl⟩
 rintro _ ⟨s,n,hs,rfl⟩;dsimp only;show cR _ _ _ _ _ [.d S,.d<|aT s,.d<|.int c,.d .pen];refine ik (b:=false) (λP hP=>?_) (λe=>nomatch e) λ_=>hnx _ ⟨_,_,_,rfl⟩;ext;refine right hs ?_;ext;refine right hs ?_;ext;refine G5 λs n hs=>?_;exact right hs hP
abbrev Zc4:Q4:=["slants", "size"]
abbrev z_need_strong:=G.V9.W.z_need_strong
theorem rd_need_strong:Rd S_need_strong z_need_strong Zc4:=G.V9.W.rd_need_strong
abbrev Zfi:Q4:=["slants", "steps", "size"]
abbrev z_steps_of:=G.V9.W.z_steps_of
theorem rd_steps_of:Rd S_steps_of z_steps_of Zfi:=G.V9.W.rd_steps_of
abbrev ZbI:Q4:=["_law_e", "_law_marks"]
abbrev z__law_kind_of:=G.V9.W.z__law_kind_of
theorem rd__law_kind_of:∀ds E Q,S__law_kind_of ds E Q->z__law_kind_of No { nx:=λ_=>Q .non,rt:=Q } (dP ZbI ds):=G.V9.W.rd__law_kind_of
abbrev ZdC:Q4:=["_law_table", "_law_most", "_law_size", "_law_found", "_law_left", "_law_at", "_law_weight", "_law_row", "_law_i", "_law_taken_here"]
abbrev z__law_steps:=Q2.z__law_steps
theorem rd__law_steps:Rd S__law_steps z__law_steps ZdC:=Q2.rd__law_steps
theorem Ps{a:Addr}{ns:QY}(hl:ns.length<=63)(hO:qU H)(hS:SqL K H a (ns.map V.int)):h9 K Zo [.ref a] H (λv _=>v=.bl true) λ_ _ _=>False:=by
 have rv:∀W:Wd,Reps K W (ns.map V.int) (ns.map D.int):=λW=>by
  clear hl hS;induction ns with
  |nil=>exact .nil|cons n ns ih=>exact .cons (.int n) ih
 have ok:WOk ⟨H,λ_=>False⟩ H:=⟨λ_ _ e=>e,λ_ e=>e.elim⟩;refine⟨[.scr<|ns.map .int],⟨H,λ_=>False⟩,ok,.cons (.scr ?_<|rv _) .nil,ns,rfl,hl,λv W' H' _ r=>?_⟩;rcases hS with(h|h)|h
 rcases hO a with z|⟨o,xs,z⟩
 rw[h]at z;cases z;rw[h]at z;cases z;exact .inl h;exact .inr h;cases r;rfl
def top(i:Nat):Stmt:=PySem.Challenge.pw_slanttables_k41_squares_told.main.body.getD i<|.Pass ⟨0,0,0,0⟩
structure Bs(K:Qh)(mg:QW):Prop where
 aa:FnAt K mg "is_whole" (top 3)
 ab:FnAt K mg "is_within" (top 4)
 ac:FnAt K mg "are_within" (top 5)
 ad:FnAt K mg "common_divisor" (top 6)
 ae:FnAt K mg "is_share" (top 7)
 af:FnAt K mg "is_row_within" (top 8)
 ag:FnAt K mg "is_row" (top 9)
 ah:FnAt K mg "share_by" (top 10)
 ai:FnAt K mg "plus" (top 11)
 aj:FnAt K mg "minus" (top 12)
 ak:FnAt K mg "times" (top 13)
 al:FnAt K mg "by" (top 14)
 am:FnAt K mg "row_of" (top 15)
 an:FnAt K mg "one_at" (top 16)
 ao:FnAt K mg "row_by" (top 17)
 ap:FnAt K mg "row_less" (top 18)
 aq:FnAt K mg "sum_of_products" (top 19)
 ar:FnAt K mg "size_of" (top 35)
 as:FnAt K mg "slants_good" (top 36)
 au:FnAt K mg "need_slants" (top 37)
 av:FnAt K mg "table_of" (top 38)
 aw:FnAt K mg "turned_slants" (top 39)
 ax:FnAt K mg "corner" (top 40)
 ay:FnAt K mg "row_good" (top 41)
 az:FnAt K mg "share_rows" (top 42)
 a0:FnAt K mg "times_row" (top 43)
 a1:FnAt K mg "table_without" (top 45)
 a2:FnAt K mg "table_number" (top 46)
 a3:FnAt K mg "number_of" (top 47)
 a4:FnAt K mg "corner_numbers" (top 48)
 a5:FnAt K mg "weak_sizes" (top 49)
 a6:FnAt K mg "first_weak" (top 51)
 a7:FnAt K mg "need_strong" (top 52)
 a8:FnAt K mg "first_step" (top 53)
 a9:FnAt K mg "longer_step" (top 54)
 ba:FnAt K mg "steps_of" (top 55)
 bb:FnAt K mg "is_even" (top 57)
 bc:FnAt K mg "need_even" (top 58)
 bd:FnAt K mg "pair_at" (top 59)
 be:FnAt K mg "lead_among" (top 60)
 bf:FnAt K mg "apart_from" (top 61)
 bg:FnAt K mg "apart_rows" (top 62)
 bh:FnAt K mg "squares_of" (top 63)
 bi:FnAt K mg "step_squares" (top 64)
 bj:FnAt K mg "steps_weights" (top 65)
 bk:FnAt K mg "_law_cell_at" (top 67)
 bl:FnAt K mg "_law_next" (top 68)
 bm:FnAt K mg "_law_pen_of" (top 69)
 bn:FnAt K mg "_law_draw" (top 70)
 bo:FnAt K mg "_law_whole" (top 71)
 bp:FnAt K mg "_law_kind_of" (top 72)
 bq:FnAt K mg "_law_refused" (top 73)
 br:FnAt K mg "_law_gcd" (top 74)
 bs:FnAt K mg "_law_share" (top 75)
 bt:FnAt K mg "_law_dot" (top 76)
 bu:FnAt K mg "_law_share_like" (top 77)
 bv:FnAt K mg "_law_row_like" (top 78)
 bw:FnAt K mg "_law_slants_of" (top 79)
 bx:FnAt K mg "_law_even_of" (top 80)
 bz:FnAt K mg "_law_table_of" (top 81)
 b0:FnAt K mg "_law_taken" (top 82)
 b1:FnAt K mg "_law_number_of" (top 83)
 b2:FnAt K mg "_law_are_squares" (top 84)
 b3:FnAt K mg "_law_steps" (top 85)
 b4:FnAt K mg "_law_strong_to" (top 86)
 b5:FnAt K mg "_law_rank" (top 87)
 b6:FnAt K mg "_law_told_of" (top 88)
 b7:FnAt K mg "_law_right_of" (top 89)
 b8:FnAt K mg "law" (top 90)
 b9:mg "len" = none
 ca:mg "int" = none
 cb:mg "range" = none
 cd:mg "tuple" = none
 ce:mg "max" = none
 cf:mg "abs" = none
 cg:mg "zip" = none
 ch:mg "bool" = none
 ci:mg "isinstance" = none
 cj:mg "all" = none
 ck:mg "list" = none
 cl:mg "ValueError" = none
 cm:CC K mg "NoLine"
 cn:CC K mg "NoNumber"
 co:CC K mg "NoRow"
 cp:CC K mg "NoSlants"
 cq:CC K mg "NoText"
 cr:CC K mg "NotEven"
 cs:CC K mg "NotFull"
 ct:CC K mg "NotStrong"
 cu:CC K mg "TooGreat"
 xi:XI K LX5 MX
 cv:XK1 K mg "NotStrong" "NotStrong.__init__" "size" (EQ<|top 28)
 cw:CI mg "GREATEST_SIZE" (5)
 cx:CI mg "LEAST" (-50)
 cy:CI mg "MOST" (50)
 cz:XC K mg "NoSlants"
 c0:XC K mg "NotEven"
 c1:CT K mg "NOUGHT" [(D.int<|0),(D.int<|1)]
 c2:XC K mg "NoRow"
 c3:mg "enumerate" = none
 c4:CT K mg "ONE" [(D.int<|1),(D.int<|1)]
 c5:XC K mg "NoNumber"
 c6:XT K mg "SlantError" LX5
section
variable{w:World}{base:Heap}(Z:Bs K mg)
include Z
theorem Pt:Fp P w K mg base 1 "_law_cell_at" (Zfs.take 2) AK:=cS MB Z.bk λsc hr hx hw=>aV (dI (dF mw (aE 1)<|cP eP Z.b9 Qn<|Za (aE 0) aK) (aX<|bJ<|bG aQ (aE 0)<|aE 1) dH)<|aX (bJ aM)
theorem Jy:Fp P w K mg base 1 "_law_next" (Ziy.take 1) xQ:=cS MC Z.bl λsc hr hx hw=>aV (cB 0 (bB se (bB ee (aE 0) aM) aM) sc)<|aX (bJ<|bB se (bB ee (bB ee (bB dO (aE 0)<|aE 0)<|bB dO aM<|aE 0) aM) aM)
theorem sP:Fp P w K mg base 2 "_law_draw" (Ziz.take 2) pW:=cS ME Z.bn λsc hr hx hw=>aV (dI (dF (dA hr.units) (bG xA (aE 0) aM) aM) (aV (cB 2 (bB se (bG xA (aE 0) aM)<|aE 1) sc)<|aV (FT 0 0<|bB qi (bG xA (aE 0) aM)<|aE 1)<|aX<|bJ<|aE 2) dH)<|aV (FT 0 2<|aW (Jy Z) hr hx<|Za (bB ee (aW (Jy Z) hr hx<|Za (bG xA (aE 0) aM) aK) aM) aK) (aX<|bJ<|bB se (bB qi (bG xA (aE 0) aM) aM)<|aE 1)
theorem Jz:Fp P w K mg base 3 "_law_slants_of" (ZeH.take 1) xW:=cS MV Z.bw λsc hr hx hw=>aV (cB 1 (bB ee aM<|aW (sP Z) hr hx<|Za (aE 0)<|Za aM aK) sc)<|aV (cB 2 (bG aQ (PXL.px<|gx<|Za aM<|Za aM<|Za aM<|Za aM<|Za aM aK)<|aW (sP Z) hr hx<|Za (aE 0)<|Za aM aK) sc) (aV (uj 3 ["_law_turn"] [0,2] rfl sc (kF Z.cb<|Za (bB je (bB dO aM<|aE 1) aM) aK) (λ_ _ _=>Rh) (λ_ _ _=>eQ)<|λ_ _ _=>(bB je (aW (sP Z) hr cU<|Za (aE 1)<|Za (bB ee (bB dO aM<|aE 2) aM) aK)<|aE 2))<|aV (cB 4 (aW (sP Z) hr hx<|Za (aE 0)<|Za aM aK) sc)<|aV (cB 5 (bB ee aM<|aW (sP Z) hr hx<|Za (aE 0)<|Za aM aK) sc)<|aV (dI (dF (dA hr.units) (aE 4) aM) (aX<|qj 3 (Df 3<|LE (bB dO (jO (aE 3) kE<|iz<|aE 5) aM) kE<|iz<|cP eP Z.b9 Qn<|Za (aE 3) aK) sc) dH)<|aV (dI (dF (dA hr.units) (aE 4) aM) (aX<|Aq 3 (bB je (aE 1) aM)<|bG aQ (PXL.px<|gx<|Za aM<|Za (ms mx aM)<|Za aM aK)<|aW (sP Z) hr hx<|Za (aE 0)<|Za aM aK) dH)<|aV (dI (dF (dA hr.units) (aE 4) aM) (aX<|DJ 3 3 ["_law_number"] [0] rfl sc (fV<|aE 3) (λ_ _ _=>Rh) (λ_ _ _=>eQ)<|λ_ _ _=>(bB dO (aE 0)<|qg Aj Z.ca boot_int<|Za (mq (dA hr.units) (aW (sP Z) hr cU<|Za (aE 1)<|Za aM aK) aM) aK)) dH)<|aV (dI (dF DD (aE 4)<|eO<|Za aM<|Za aM<|Za aM aK) (aX<|qj 3 (Df 3<|LD (jO (aE 3) kE<|iz<|aE 1)<|xw<|jO (aE 3) kE<|iz<|bB je (aE 1) aM) sc) dH)<|gz 3<|aX<|bJ<|qg vq Z.cd QA<|Za (aE 3) aK)
theorem Zi:Fp P w K mg base 4 "_law_even_of" (Zfr.take 1) A9:=cS NI Z.bx λsc hr hx hw=>aV (cB 1 (aW (Jz Z) hr hx<|Za (aE 0) aK) sc)<|aV (cB 2 (bB qi (bB ee (cP eP Z.b9 Qn<|Za (aE 1) aK) aM) aM) sc) (aV (dI (dF (dA hr.units) (aW (sP Z) hr hx<|Za (aE 0)<|Za aM aK) aM) (aX<|cB 1 (bB ee (jO (aE 1) kE<|iz<|bB je (aE 2) aM)<|eO<|Za aM aK) sc) dH)<|aX<|bJ<|bB ee (jO (aE 1) kE<|iz<|aE 2)<|xw<|jO (aE 1) kE<|iz<|bB je (aE 2) aM)
theorem Pu:Fp P w K mg base 1 "_law_pen_of" (Zgb.take 1) AL:=cS MD Z.bm λsc hr hx hw=>aV (cB 1 (cP (xy rfl) Z.ce boot_max<|Za (aE 0)<|Za (bB je aM<|aE 0) aK) sc)<|aX (bJ<|LF<|gx<|Za (aE 1)<|Za (qg Aj Z.ca boot_int<|Za (mq C6 (aE 1)<|bB xr aM aM) aK)<|Za (bB se (aE 1) aM) aK)
theorem JA:Fp P w K mg base 1 "_law_gcd" (Zjf.take 2) Zd:=cS MR Z.br λsc hr hx hw=>aV (cB 0 (cP C8 Z.cf boot_abs<|Za (aE 0) aK) sc)<|aV (cB 1 (cP C8 Z.cf boot_abs<|Za (aE 1) aK) sc) (aV (gg<|Ao PassesOwn.never (dF (dS hr.units) (aE 1) aM)<|aX<|FS 0 1 sc<|Za (aE 1)<|Za (bB se (aE 0)<|aE 1) aK)<|aX<|bJ<|aE 0)
theorem JB:Fp P w K mg base 2 "_law_share" (Zg0.take 2) vA:=cS MS Z.bs λsc hr hx hw=>aV (cB 2 (aW (JA Z) hr hx<|Za (aE 0)<|Za (aE 1) aK) sc)<|aV (dI (dF mw (aE 1) aM) (aX<|cB 2 (ms mx<|aE 2) sc) dH) (aX<|bJ<|eO<|Za (bB qi (aE 0)<|aE 2)<|Za (bB qi (aE 1)<|aE 2) aK)
theorem Ze:Fp P w K mg base 3 "_law_dot" (Zjg.take 2) sB:=cS Nf Z.bt λsc hr hx hw=>aV (cB 2 aM sc)<|aV (cB 3 aM sc) (aV (gg<|gU PassesOwn.never rfl (De Z.cg<|Za (aE 0)<|Za (aE 1) aK) (kf rfl<|eZ (bY 4 sc)<|eZ (bY 5 sc) ke)<|aV (cB 2 (bB ee (bB dO (bB dO (aE 2)<|bG aQ (aE 4) aM)<|bG aQ (aE 5) aM)<|bB dO (bB dO (bG aQ (aE 4) aM)<|bG aQ (aE 5) aM)<|aE 3) sc)<|aX<|cB 3 (bB dO (bB dO (aE 3)<|bG aQ (aE 4) aM)<|bG aQ (aE 5) aM) sc)<|aX<|bJ<|aW (JB Z) hr hx<|Za (aE 2)<|Za (aE 3) aK)
theorem JC:Fp P w K mg base 1 "_law_whole" (ZgY.take 1) xT:=cS MI Z.bo λsc hr hx hw=>aX<|bJ (rX (cP mY Z.ci Ql<|Za (aE 0)<|Za (my Z.ca boot_int) aK)<|ui<|FM<|cP mY Z.ci Ql<|Za (aE 0)<|Za (my Z.ch boot_bool) aK)
theorem Fd:Fp P w K mg base 2 "_law_share_like" (Zbz.take 1) uL:=cS rd__law_share_like Z.bu λsc hr hx hw=>aV (dI (PXW.pxt<|jd (fT<|ge<|cP mY Z.ci Ql<|Za (aE 0)<|Za (my Z.cd QA) aK)<|jd (dF (dS hr.units) (cP eP Z.b9 Qn<|Za (aE 0) aK) aM)<|jd (fT<|ge<|aW (JC Z) hr hx<|Za (bG aQ (aE 0) aM) aK)<|lL<|fT<|ge<|aW (JC Z) hr hx<|Za (bG aQ (aE 0) aM) aK) (aX<|bJ jc) dH)<|aX (bJ<|rX (mq qW (bG aQ (aE 0) aM) aM)<|ui<|mq (dA hr.units) (aW (JA Z) hr hx<|Za (bG aQ (aE 0) aM)<|Za (bG aQ (aE 0) aM) aK) aM)
theorem Pv:Fp P w K mg base 3 "_law_row_like" (Zfb.take 2) AQ:=cS MT Z.bv λsc hr hx hw=>aX<|bJ (rX (cP mY Z.ci Ql<|Za (aE 0)<|Za (my Z.cd QA) aK)<|rX (mq (dA hr.units) (cP eP Z.b9 Qn<|Za (aE 0) aK)<|aE 1)<|ui<|cP (Am rfl) Z.cj boot_all<|Za (PXL.px<|gA ["_law_one"] [] rfl (fV<|aE 0) (λ_ _ _=>Rh) (λ_ _ _=>eQ)<|λ_ _ _=>(aW (Fd Z) hr cU<|Za (aE 0) aK)) aK)
theorem Fe:Fp P w K mg base 4 "_law_are_squares" (ZdD.take 2) uX:=cS NU Z.b2 λsc hr hx hw=>aV (dI (PXW.pxt<|jd (fT<|ge<|cP mY Z.ci Ql<|Za (aE 1)<|Za (my Z.ck boot_list) aK)<|lL<|dF qW (cP eP Z.b9 Qn<|Za (aE 1) aK) aM) (aX<|bJ jc) dH)<|aV (gg<|gU PassesOwn.never rfl (fV<|aE 1) (bY 2 sc)<|aV (dI (PXW.pxt<|jd (fT<|ge<|cP mY Z.ci Ql<|Za (aE 2)<|Za (my Z.cd QA) aK)<|jd (dF (dS hr.units) (cP eP Z.b9 Qn<|Za (aE 2) aK) aM)<|jd (fT<|ge<|aW (Fd Z) hr cU<|Za (bG aQ (aE 2) aM) aK)<|lL<|dF (dA hr.units) (bG aQ (aE 2) aM)<|eO<|Za aM<|Za aM aK) (aX<|bJ jc) dH)<|aX<|dI (fT<|ge<|aW (Pv Z) hr cU<|Za (bG aQ (aE 2) aM)<|Za (cP eP Z.b9 Qn<|Za (aE 0) aK) aK) (aX<|bJ jc) dH) (gz 5<|aV (gg<|gU PassesOwn.never rfl (kF Z.cb<|Za (cP eP Z.b9 Qn<|Za (aE 0) aK) aK) (bY 3 sc)<|gz 5<|aX<|gg<|gU PassesOwn.never rfl (kF Z.cb<|Za (bB ee (aE 3) aM) aK) (bY 4 sc)<|aV (uj 5 ["_law_weight", "_law_row"] [3,4] rfl sc (fV<|aE 1) (λ_ _ _=>(kf rfl<|eZ Rh<|eZ Rh ke)) (λ_ _ _=>eQ)<|λ_ _ _=>(aW (Ze Z) hr cU<|Za (PXL.px<|gx<|Za (bG aQ (aE 1)<|aE 2) aK)<|Za (PXL.px<|gx<|Za (bG aQ (aE 1)<|aE 3) aK) aK))<|gz 5<|aX<|dI (dF (dS hr.units) (aW (Ze Z) hr cU<|Za (PXL.px<|gA ["_law_weight", "_law_row"] [] rfl (fV<|aE 1) (λ_ _ _=>(kf rfl<|eZ Rh<|eZ Rh ke)) (λ_ _ _=>eQ)<|λ_ _ _=>(aE 0))<|Za (aE 5) aK)<|eO<|Za (bG aQ (bG aQ (aE 0)<|aE 3)<|aE 4)<|Za aM aK) (aX<|bJ jc) dH)<|aX<|bJ jc)
theorem JD:Fp P w K mg base 1 "_law_taken" (ZgZ.take 4) AU:=cS M3 Z.b0 λsc hr hx hw=>aV (qj 4 (gx aK) sc)<|aV (gg<|gU PassesOwn.never rfl (kF Z.cb<|Za (cP eP Z.b9 Qn<|Za (aE 0) aK) aK) (bY 5 sc)<|aV (cB 6 (bB je (bB dO (bG aQ (aE 0)<|aE 5)<|bG aQ (aE 1)<|aE 2)<|bB dO (bG aQ (aE 0)<|aE 2)<|bG aQ (aE 1)<|aE 5) sc)<|aX<|xz 4<|bB qi (aE 6)<|aE 3) (gz 4<|aX<|bJ<|aE 4)
theorem JE:Fp P w K mg base 2 "_law_rank" ["_law_table"] zt:=cS Po Z.b5 λsc hr hx hw=>aV (qj 1 (gA ["_law_row"] [] rfl (fV<|aE 0) (λ_ _ _=>Rh) (λ_ _ _=>eQ)<|λ_ _ _=>(PXL.px<|C3 C7 Z.ck boot_list<|Za (aE 0) aK)) sc)<|aV (cB 2 aM sc) (gz 4<|aV (gg<|gU PassesOwn.never rfl (kF Z.cb<|Za (cP eP Z.b9 Qn<|Za (aE 0) aK) aK) (bY 3 sc)<|aV (DJ 4 1 ["_law_k"] [1,3] rfl sc (vt Z.cb<|Za (aE 2)<|Za (cP eP Z.b9 Qn<|Za (aE 1) aK) aK) (λ_ _ _=>Rh) (λ_ _ _=>(Db<|dF (dS hr.units) (bG aQ (bG aQ (aE 1)<|aE 0)<|aE 2) aM))<|λ_ _ _=>(aE 0))<|gz 4<|aX<|dI (dF (dS hr.units) (aE 4)<|PXL.px<|gx aK) (gz 4<|aV (Hc 1 (eO<|Za (sh 1<|bG aQ (aE 4) aM)<|Za (sh 1<|aE 2) aK) (aE 2)<|bG aQ (aE 4) aM)<|aV (gg<|gU PassesOwn.never rfl (vt Z.cb<|Za (bB ee (aE 2) aM)<|Za (uq 1<|cP eP Z.b9 Qn<|Za (aE 1) aK) aK) (bY 5 sc)<|aX<|Aq 1 (aE 5)<|aW (JD Z) hr cU<|Za (sh 1<|aE 5)<|Za (sh 1<|aE 2)<|Za (aE 3)<|Za aM aK)<|aX<|cB 2 (bB ee (aE 2) aM) sc) dH)<|aX<|bJ<|aE 2)
theorem Pw:Fp P w K mg base 4 "_law_steps" (ZdC.take 2) S__law_steps:=cS rd__law_steps Z.b3 λsc hr hx hw=>aV (cB 2 (cP eP Z.b9 Qn<|Za (aE 0) aK) sc)<|aV (qj 3 (gx aK) sc) (aV (qj 4 (gA ["_law_line"] [] rfl (fV<|aE 0) (λ_ _ _=>Rh) (λ_ _ _=>eQ)<|λ_ _ _=>(PXL.px<|gA ["_law_number"] [] rfl (fV<|aE 0) (λ_ _ _=>Rh) (λ_ _ _=>eQ)<|λ_ _ _=>(eO<|Za (aE 0)<|Za aM aK))) sc)<|aV (gg<|gU PassesOwn.never rfl (kF Z.cb<|Za (aE 1) aK) (bY 5 sc)<|aV (cB 6 (uq 4<|bG aQ (bG aQ (aE 4)<|aE 5)<|aE 5) sc)<|aV (cB 7 (uq 4<|qg vq Z.cd QA<|Za (PXL.px<|gA ["_law_one"] [6] rfl (fV<|bG aQ (aE 4)<|aE 5) (λ_ _ _=>Rh) (λ_ _ _=>eQ)<|λ_ _ _=>(aW (JB Z) hr cU<|Za (bB dO (bG aQ (aE 0) aM)<|bG aQ (aE 1) aM)<|Za (bB dO (bG aQ (aE 0) aM)<|bG aQ (aE 1) aM) aK)) aK) sc)<|aV (xz 3<|eO<|Za (aE 6)<|Za (aE 7) aK)<|aX<|gg<|gU PassesOwn.never rfl (kF Z.cb<|Za (aE 2) aK) (bY 8 sc)<|aV (cB 9 (aW (Ze Z) hr cU<|Za (PXL.px<|gx<|Za (aE 6) aK)<|Za (PXL.px<|gx<|Za (bG aQ (aE 7)<|aE 8) aK) aK) sc)<|aX<|Aq 4 (aE 8)<|PXL.px<|Df 4<|gA ["_law_j"] [4,7,8,9] rfl (kF Z.cb<|Za (aE 2) aK) (λ_ _ _=>Rh) (λ_ _ _=>eQ)<|λ_ _ _=>(aW (Ze Z) hr cU<|Za (PXL.px<|gx<|Za (bG aQ (bG aQ (aE 1)<|aE 3)<|aE 0)<|Za (eO<|Za (bB je aM<|bG aQ (aE 4) aM)<|Za (bG aQ (aE 4) aM) aK) aK)<|Za (PXL.px<|gx<|Za (eO<|Za aM<|Za aM aK)<|Za (bG aQ (aE 2)<|aE 0) aK) aK))<|gz 3<|aX<|bJ<|aE 3)
theorem Px:Fp P w K mg base 2 "_law_number_of" (ZeI.take 1) DR:=cS M6 Z.b1 λsc hr hx hw=>aV (qj 1 (gA ["_law_row"] [] rfl (fV<|aE 0) (λ_ _ _=>Rh) (λ_ _ _=>eQ)<|λ_ _ _=>(PXL.px<|C3 C7 Z.ck boot_list<|Za (aE 0) aK)) sc)<|aV (cB 2 aM sc) (aV (cB 3 aM sc)<|gz 5<|aV (gg<|gU PassesOwn.never rfl (kF Z.cb<|Za (uq 1<|cP eP Z.b9 Qn<|Za (aE 1) aK) aK) (bY 4 sc)<|aV (DJ 5 1 ["_law_k"] [1,4] rfl sc (vt Z.cb<|Za (aE 4)<|Za (cP eP Z.b9 Qn<|Za (aE 1) aK) aK) (λ_ _ _=>Rh) (λ_ _ _=>(Db<|dF (dS hr.units) (bG aQ (bG aQ (aE 1)<|aE 0)<|aE 2) aM))<|λ_ _ _=>(aE 0))<|gz 5<|aV (dI (dF (dA hr.units) (aE 5)<|PXL.px<|gx aK) (aX<|bJ aM) dH)<|gz 5<|aV (Hc 1 (eO<|Za (sh 1<|bG aQ (aE 5) aM)<|Za (sh 1<|aE 4) aK) (aE 4)<|bG aQ (aE 5) aM)<|gz 5<|aV (cB 2 (bB dO (aE 2)<|bB je aM<|bB dO aM<|qg Aj Z.ca boot_int<|Za (mq (dS hr.units) (bG aQ (aE 5) aM)<|aE 4) aK) sc)<|aV (gg<|gU PassesOwn.never rfl (vt Z.cb<|Za (bB ee (aE 4) aM)<|Za (uq 1<|cP eP Z.b9 Qn<|Za (aE 1) aK) aK) (bY 6 sc)<|aX<|Aq 1 (aE 6)<|aW (JD Z) hr cU<|Za (sh 1<|aE 6)<|Za (sh 1<|aE 4)<|Za (aE 4)<|Za (aE 3) aK)<|aX<|cB 3 (uq 1<|bG aQ (bG aQ (aE 1)<|aE 4)<|aE 4) sc)<|aX<|bJ<|bB dO (aE 2)<|aE 3)
theorem JF:Fp P w K mg base 3 "_law_strong_to" (ZeG.take 1) yL:=cS NS Z.b4 λsc hr hx hw=>aV (cB 1 aM sc)<|aV (gg<|Ao PassesOwn.never (PXW.pxt<|Lj (dF mw (aE 1)<|cP eP Z.b9 Qn<|Za (aE 0) aK)<|Li<|dF (dS hr.units) (aW (Px Z) hr cU<|Za (PXL.px<|gA ["_law_line"] [1] rfl (fV<|jO (aE 0) kE<|iz<|bB ee (aE 1) aM) (λ_ _ _=>Rh) (λ_ _ _=>eQ)<|λ_ _ _=>(jO (aE 0) kE<|iz<|bB ee (aE 1) aM)) aK) aM)<|aX<|cB 1 (bB ee (aE 1) aM) sc) (aX<|bJ<|aE 1)
theorem JG:Fp P w K mg base 1 "_law_table_of" (Zfa.take 1) xX:=cS MU Z.bz λsc hr hx hw=>aV (cB 1 (bB qi (bB ee (cP eP Z.b9 Qn<|Za (aE 0) aK) aM) aM) sc)<|aX (bJ<|PXL.px<|gA ["_law_i"] [0,1] rfl (kF Z.cb<|Za (aE 1) aK) (λ_ _ _=>Rh) (λ_ _ _=>eQ)<|λ_ _ _=>(PXL.px<|gA ["_law_j"] [0,1,2] rfl (kF Z.cb<|Za (aE 2) aK) (λ_ _ _=>Rh) (λ_ _ _=>eQ)<|λ_ _ _=>(bG aQ (aE 2)<|bB je (bB ee (bB je (aE 0)<|aE 1)<|aE 3) aM)))
theorem Py:AE P w K mg base 1 "_law_kind_of" (ZbI.take 1) S__law_kind_of:=yJ (z:=z__law_kind_of) (N:=ZbI) Z.bp (λsc _ _ _ _ _ _ hr=>(aV (cB 1 (PXL.px<|gx<|Za (cP (qo Z.xi) Z.ci Ql<|Za (aE 0)<|Za (Zb Z.cp) aK)<|Za (cP (qo Z.xi) Z.ci Ql<|Za (aE 0)<|Za (Zb Z.co) aK)<|Za (cP (qo Z.xi) Z.ci Ql<|Za (aE 0)<|Za (Zb Z.cn) aK)<|Za (cP (qo Z.xi) Z.ci Ql<|Za (aE 0)<|Za (Zb Z.cm) aK) aK) sc)<|aV (cB 1 (bB ee (aE 1)<|PXL.px<|gx<|Za (cP (qo Z.xi) Z.ci Ql<|Za (aE 0)<|Za (Zb Z.cr) aK)<|Za (cP (qo Z.xi) Z.ci Ql<|Za (aE 0)<|Za (Zb Z.cs) aK)<|Za (cP (qo Z.xi) Z.ci Ql<|Za (aE 0)<|Za (Zb Z.ct) aK) aK) sc)<|aV (cB 1 (bB ee (aE 1)<|PXL.px<|gx<|Za (cP (qo Z.xi) Z.ci Ql<|Za (aE 0)<|Za (Zb Z.cq) aK)<|Za (cP (qo Z.xi) Z.ci Ql<|Za (aE 0)<|Za (Zb Z.cu) aK) aK) sc)<|aV (dI (PXW.pxt<|jd (fT<|ge<|cP (qo Z.xi) Z.ci Ql<|Za (aE 0)<|Za (my Z.cl ML) aK)<|lL<|dF (dS hr.units) (Gb PySem.F.slot_list_count PySem.F.type_list_count L5 (aE 1)<|Za jc aK) aM) (aX<|bJ ml) dH)<|aX<|bJ<|bG aQ (PXL.px<|gx<|Za ml<|Za ml<|Za ml<|Za ml<|Za ml<|Za ml<|Za ml<|Za ml<|Za ml aK)<|Gb PySem.F.slot_list_index PySem.F.type_list_index L6 (aE 1)<|Za jc aK)) rd__law_kind_of
theorem Pz:AE P w K mg base 2 "_law_refused" (ZdI.take 1) zr:=yJ (z:=BC) (N:=ZdI) Z.bq (λsc _ _ _ _ _ _ hr=>(aV (cB 1 (Ga (Py Z) hr<|Za (aE 0) aK) sc)<|aV (dI (dF (dA hr.units) (aE 1) ml) (aX<|bJ<|eO<|Za (aE 1)<|Za (OG Z.cv IR<|aE 0) aK) dH)<|aX<|bJ<|eO<|Za (aE 1) aK)) Pe
theorem JH:Fp P w K mg base 1 "common_divisor" (ZeF.take 2) xH:=cS Ma Z.ad λsc hr hx hw=>aV (gg<|Ao PassesOwn.never (dF (dS hr.units) (aE 1) aM)<|aX<|FS 0 1 sc<|Za (aE 1)<|Za (bB se (aE 0)<|aE 1) aK)<|aX (bJ<|cP C8 Z.cf boot_abs<|Za (aE 0) aK)
theorem BI:Fp P w K mg base 2 "share_by" (Zja.take 2) uw:=cS Mf Z.ah λsc hr hx hw=>aV (LC<|dF (dS hr.units) (aE 1) aM)<|aV (cB 2 (aW (JH Z) hr hx<|Za (aE 0)<|Za (aE 1) aK) sc) (aV (dI (dF mw (aE 1) aM) (aX<|cB 2 (ms mx<|aE 2) sc) dH)<|aX<|bJ<|eO<|Za (bB qi (aE 0)<|aE 2)<|Za (bB qi (aE 1)<|aE 2) aK)
theorem Ff:Fp P w K mg base 3 "by" (N_by.take 2) mC:=cS xZ Z.al λsc hr hx hw=>aX<|bJ (aW (BI Z) hr hx<|Za (bB dO (bG aQ (aE 0) aM)<|bG aQ (aE 1) aM)<|Za (bB dO (bG aQ (aE 0) aM)<|bG aQ (aE 1) aM) aK)
theorem Fg:Fp P w K mg base 1 "is_whole" (Zjd.take 1) uv:=cS GA Z.aa λsc hr hx hw=>aX<|bJ (rX (cP mY Z.ci Ql<|Za (aE 0)<|Za (my Z.ca boot_int) aK)<|ui<|FM<|cP mY Z.ci Ql<|Za (aE 0)<|Za (my Z.ch boot_bool) aK)
theorem JI:Fp P w K mg base 2 "is_within" (Zix.take 3) xG:=cS L8 Z.ab λsc hr hx hw=>aX<|bJ (rX (aW (Fg Z) hr hx<|Za (aE 0) aK)<|ui<|Lk pR pR (aE 1) (aE 0)<|aE 2)
theorem PB:Fp P w K mg base 3 "are_within" (ZgV.take 3) Av:=cS L9 Z.ac λsc hr hx hw=>aX<|bJ (rX (cP mY Z.ci Ql<|Za (aE 0)<|Za (my Z.cd QA) aK)<|ui<|cP (Am rfl) Z.cj boot_all<|Za (PXL.px<|gA ["number"] [1,2] rfl (fV<|aE 0) (λ_ _ _=>Rh) (λ_ _ _=>eQ)<|λ_ _ _=>(aW (JI Z) hr cU<|Za (aE 0)<|Za (aE 1)<|Za (aE 2) aK)) aK)
theorem sQ:Fp P w K mg base 1 "size_of" (ZkJ.take 1) mZ:=cS Mm Z.ar λsc hr hx hw=>aX<|bJ (bB qi (bB ee (cP eP Z.b9 Qn<|Za (aE 0) aK) aM) aM)
theorem PC:Fp P w K mg base 4 "slants_good" (Zf9.take 1) Az:=cS Mo Z.as λsc hr hx hw=>aV (dI (PXW.pxt<|jd (fT<|ge<|aW (PB Z) hr hx<|Za (aE 0)<|Za (Ej Z.cx)<|Za (Ej Z.cy) aK)<|lL<|dF (dA hr.units) (bB se (cP eP Z.b9 Qn<|Za (aE 0) aK) aM) aM) (aX<|bJ jc) dH)<|aX (bJ<|mq pR (aW (sQ Z) hr hx<|Za (aE 0) aK)<|Ej Z.cw)
theorem zE:Fp P w K mg base 5 "need_slants" (Zg.take 1) ql:=cS Mp Z.au λsc hr hx hw=>aX<|dI (fT<|ge<|aW (PC Z) hr hx<|Za (aE 0) aK) (aX<|xM hw Z.cz) dH
theorem PD:Fp P w K mg base 6 "turned_slants" (Ze7.take 1) AA:=cS Ms Z.aw λsc hr hx hw=>aV (qX<|aW (zE Z) hr hx<|Za (aE 0) aK)<|aX (bJ<|xw<|aE 0)
theorem PH:Fp P w K mg base 7 "is_even" (ZkL.take 1) DY:=cS Nb Z.bb λsc hr hx hw=>aX<|bJ (mq (dA hr.units) (aW (PD Z) hr hx<|Za (aE 0) aK)<|aE 0)
theorem Fh:Fp P w K mg base 8 "need_even" (Ziw.take 1) uQ:=cS Nc Z.bc λsc hr hx hw=>aX<|dI (fT<|ge<|aW (PH Z) hr hx<|Za (aE 0) aK) (aX<|xM hw Z.c0) dH
theorem PJ:Fp P w K mg base 2 "is_share" (Zje.take 1) Aw:=cS Mb Z.ae λsc hr hx hw=>aV (dI (PXW.pxt<|jd (fT<|ge<|cP mY Z.ci Ql<|Za (aE 0)<|Za (my Z.cd QA) aK)<|lL<|dF (dS hr.units) (cP eP Z.b9 Qn<|Za (aE 0) aK) aM) (aX<|bJ jc) dH)<|aV (FR (aE 0)<|kf rfl<|eZ (bY 1 sc)<|eZ (bY 2 sc) ke) (aV (dI (PXW.pxt<|jd (fT<|ge<|aW (Fg Z) hr hx<|Za (aE 1) aK)<|lL<|fT<|ge<|aW (Fg Z) hr hx<|Za (aE 2) aK) (aX<|bJ jc) dH)<|aX<|bJ<|rX (mq qW (aE 2) aM)<|ui<|mq (dA hr.units) (aW (JH Z) hr hx<|Za (aE 1)<|Za (aE 2) aK) aM)
theorem PK:Fp P w K mg base 3 "is_row_within" (Zf.take 3) Ax:=cS Mc Z.af λsc hr hx hw=>aV (dI (PXW.pxt<|jd (fT<|ge<|cP mY Z.ci Ql<|Za (aE 0)<|Za (my Z.cd QA) aK)<|lL<|fT<|Ll pR pR (aE 1) (cP eP Z.b9 Qn<|Za (aE 0) aK)<|aE 2) (aX<|bJ jc) dH)<|aX (bJ<|cP (Am rfl) Z.cj boot_all<|Za (PXL.px<|gA ["part"] [] rfl (fV<|aE 0) (λ_ _ _=>Rh) (λ_ _ _=>eQ)<|λ_ _ _=>(aW (PJ Z) hr cU<|Za (aE 0) aK)) aK)
theorem PL:Fp P w K mg base 4 "is_row" (Zmg.take 2) xI:=cS Me Z.ag λsc hr hx hw=>aX<|bJ (aW (PK Z) hr hx<|Za (aE 0)<|Za (aE 1)<|Za (aE 1) aK)
theorem JJ:Fp P w K mg base 6 "row_good" (Zjc.take 2) vz:=cS Mv Z.ay λsc hr hx hw=>aV (qX<|aW (zE Z) hr hx<|Za (aE 0) aK)<|aX (bJ<|aW (PL Z) hr hx<|Za (aE 1)<|Za (aW (sQ Z) hr hx<|Za (aE 0) aK) aK)
theorem PM:Fp P w K mg base 3 "plus" (ZpB.take 2) Ay:=cS Mg Z.ai λsc hr hx hw=>aX<|bJ (aW (BI Z) hr hx<|Za (bB ee (bB dO (bG aQ (aE 0) aM)<|bG aQ (aE 1) aM)<|bB dO (bG aQ (aE 1) aM)<|bG aQ (aE 0) aM)<|Za (bB dO (bG aQ (aE 0) aM)<|bG aQ (aE 1) aM) aK)
theorem Fj:Fp P w K mg base 3 "times" (Zoa.take 2) uA:=cS Mh Z.ak λsc hr hx hw=>aX<|bJ (aW (BI Z) hr hx<|Za (bB dO (bG aQ (aE 0) aM)<|bG aQ (aE 1) aM)<|Za (bB dO (bG aQ (aE 0) aM)<|bG aQ (aE 1) aM) aK)
theorem JK:Fp P w K mg base 4 "sum_of_products" (Zd2.take 2) xJ:=cS Mk Z.aq λsc hr hx hw=>aV (cB 2 (p7 Z.c1) sc)<|aV (gg<|gU PassesOwn.never rfl (De Z.cg<|Za (aE 0)<|Za (aE 1) aK) (kf rfl<|eZ (bY 3 sc)<|eZ (bY 4 sc) ke)<|aX<|cB 2 (aW (PM Z) hr cU<|Za (aE 2)<|Za (aW (Fj Z) hr cU<|Za (aE 3)<|Za (aE 4) aK) aK) sc) (aX<|bJ<|aE 2)
theorem Fk:Fp P w K mg base 1 "row_of" (Zmd.take 1) uB:=cS Mj Z.am λsc hr hx hw=>aX<|bJ (qg vq Z.cd QA<|Za (PXL.px<|gA ["number"] [] rfl (fV<|aE 0) (λ_ _ _=>Rh) (λ_ _ _=>eQ)<|λ_ _ _=>(eO<|Za (aE 0)<|Za aM aK)) aK)
theorem JL:Fp P w K mg base 6 "table_of" (Zj.take 1) xK:=cS Mr Z.av λsc hr hx hw=>aV (qX<|aW (zE Z) hr hx<|Za (aE 0) aK)<|aV (cB 1 (aW (sQ Z) hr hx<|Za (aE 0) aK) sc) (aX<|bJ<|PXL.px<|gA ["i"] [0,1] rfl (kF Z.cb<|Za (aE 1) aK) (λ_ _ _=>Rh) (λ_ _ _=>eQ)<|λ_ _ _=>(PXL.px<|C3 C7 Z.ck boot_list<|Za (jO (aE 1) (iz<|bB je (bB je (aE 2) aM)<|aE 0)<|iz<|bB je (bB je (bB dO aM<|aE 2) aM)<|aE 0) aK))
theorem PN:Fp P w K mg base 7 "share_rows" (ZgR.take 1) AB:=cS Mw Z.az λsc hr hx hw=>aX<|bJ (PXL.px<|gA ["numbers"] [] rfl (fV<|aW (JL Z) hr hx<|Za (aE 0) aK) (λ_ _ _=>Rh) (λ_ _ _=>eQ)<|λ_ _ _=>(aW (Fk Z) hr cU<|Za (aE 0) aK))
theorem zF:Fp P w K mg base 8 "times_row" (Ziu.take 2) ss:=cS Mx Z.a0 λsc hr hx hw=>aV (dI (fT<|ge<|aW (JJ Z) hr hx<|Za (aE 0)<|Za (aE 1) aK) (aX<|xM hw Z.c2) dH)<|aX (bJ<|qg vq Z.cd QA<|Za (PXL.px<|gA ["line"] [1] rfl (fV<|aW (PN Z) hr hx<|Za (aE 0) aK) (λ_ _ _=>Rh) (λ_ _ _=>eQ)<|λ_ _ _=>(aW (JK Z) hr cU<|Za (aE 0)<|Za (aE 1) aK)) aK)
theorem BJ:Fp P w K mg base 9 "pair_at" (ZkK.take 3) qr:=cS Nd Z.bd λsc hr hx hw=>aV (qX<|aW (Fh Z) hr hx<|Za (aE 0) aK)<|aV (dI (fT<|ge<|aW (JJ Z) hr hx<|Za (aE 0)<|Za (aE 1) aK) (aX<|xM hw Z.c2) dH) (aX<|bJ<|aW (JK Z) hr hx<|Za (aE 1)<|Za (aW (zF Z) hr hx<|Za (aE 0)<|Za (aE 2) aK) aK)
theorem Fm:Fp P w K mg base 3 "minus" (Zob.take 2) uz:=cS MZ Z.aj λsc hr hx hw=>aX<|bJ (aW (BI Z) hr hx<|Za (bB je (bB dO (bG aQ (aE 0) aM)<|bG aQ (aE 1) aM)<|bB dO (bG aQ (aE 1) aM)<|bG aQ (aE 0) aM)<|Za (bB dO (bG aQ (aE 0) aM)<|bG aQ (aE 1) aM) aK)
theorem BK:Fp P w K mg base 4 "row_less" (Zjb.take 3) rh:=cS Np Z.ap λsc hr hx hw=>aX<|bJ (qg vq Z.cd QA<|Za (PXL.px<|gA ["left", "right"] [1] rfl (De Z.cg<|Za (aE 0)<|Za (aE 2) aK) (λ_ _ _=>(kf rfl<|eZ Rh<|eZ Rh ke)) (λ_ _ _=>eQ)<|λ_ _ _=>(aW (Fm Z) hr cU<|Za (aE 0)<|Za (aW (Fj Z) hr cU<|Za (aE 2)<|Za (aE 1) aK) aK)) aK)
theorem PP:Fp P w K mg base 10 "apart_from" (ZgX.take 3) Bv:=cS OR Z.bf λsc hr hx hw=>aX<|bJ (aW (BK Z) hr hx<|Za (aE 1)<|Za (aW (Ff Z) hr hx<|Za (aW (BJ Z) hr hx<|Za (aE 0)<|Za (aE 1)<|Za (aE 2) aK)<|Za (aW (BJ Z) hr hx<|Za (aE 0)<|Za (aE 2)<|Za (aE 2) aK) aK)<|Za (aE 2) aK)
theorem JM:Fp P w K mg base 10 "lead_among" (ZgS.take 2) y8:=cS OS Z.be λsc hr hx hw=>gz 4<|aV (gg<|gU PassesOwn.never rfl (uN Z.c3<|Za (aE 1) aK) (kf rfl<|eZ (bY 2 sc)<|eZ (bY 3 sc) ke)<|aV (uj 4 ["other"] [3] rfl sc (fV<|jO (aE 1) (iz<|bB ee (aE 2) aM) kE) (λ_ _ _=>Rh) (λ_ _ _=>eQ)<|λ_ _ _=>(aW (BK Z) hr cU<|Za (aE 1)<|Za (aW (Fm Z) hr cU<|Za (p7 Z.c1)<|Za (p7 Z.c4) aK)<|Za (aE 0) aK))<|gz 4<|aX<|gg<|gU PassesOwn.never rfl (fV<|bB ee (PXL.px<|gx<|Za (aE 3) aK)<|aE 4) (bY 5 sc)<|aX<|dI (dF (dS hr.units) (aW (BJ Z) hr cU<|Za (aE 0)<|Za (aE 5)<|Za (aE 5) aK)<|p7 Z.c1) (aX<|bJ<|eO<|Za (aE 2)<|Za (aE 5) aK) dH) (aX<|bJ xo)
theorem PQ:Fp P w K mg base 2 "one_at" (Zmf.take 2) AX:=cS Ni Z.an λsc hr hx hw=>aX<|bJ (aW (Fk Z) hr hx<|Za (PXL.px<|gA ["at"] [0] rfl (kF Z.cb<|Za (aE 1) aK) (λ_ _ _=>Rh) (λ_ _ _=>eQ)<|λ_ _ _=>(qg Aj Z.ca boot_int<|Za (mq (dA hr.units) (aE 0)<|aE 1) aK)) aK)
theorem PR:Fp P w K mg base 11 "apart_rows" (ZgW.take 1) Bw:=cS OU Z.bg λsc hr hx hw=>aV (qX<|aW (Fh Z) hr hx<|Za (aE 0) aK)<|aV (cB 1 (aW (sQ Z) hr hx<|Za (aE 0) aK) sc) (aV (qj 2 (gx aK) sc)<|aV (uj 3 ["place"] [1] rfl sc (kF Z.cb<|Za (aE 1) aK) (λ_ _ _=>Rh) (λ_ _ _=>eQ)<|λ_ _ _=>(aW (PQ Z) hr cU<|Za (aE 0)<|Za (aE 1) aK))<|gz 3<|aV (cB 4 (aW (JM Z) hr hx<|Za (aE 0)<|Za (aE 3) aK) sc)<|gz 3<|aV (gg<|Ao PassesOwn.never (dF GZ (aE 4) xo)<|aV (FR (aE 4)<|kf rfl<|eZ (bY 5 sc)<|eZ (bY 6 sc) ke)<|aV (xz 2<|aE 6)<|gz 3<|aV (uj 3 ["row"] [0,6] rfl sc (fV<|bB ee (jO (aE 3) kE<|iz<|aE 5)<|jO (aE 3) (iz<|bB ee (aE 5) aM) kE) (λ_ _ _=>Rh) (λ_ _ _=>eQ)<|λ_ _ _=>(aW (PP Z) hr cU<|Za (aE 1)<|Za (aE 0)<|Za (aE 2) aK))<|gz 3<|aX<|cB 4 (aW (JM Z) hr cU<|Za (aE 0)<|Za (aE 3) aK) sc)<|gz 2<|gz 3<|aX<|bJ<|bB ee (aE 2)<|aE 3)
theorem BL:Fp P w K mg base 4 "row_by" (Zme.take 2) uR:=cS Nn Z.ao λsc hr hx hw=>aX<|bJ (qg vq Z.cd QA<|Za (PXL.px<|gA ["part"] [1] rfl (fV<|aE 0) (λ_ _ _=>Rh) (λ_ _ _=>eQ)<|λ_ _ _=>(aW (Ff Z) hr cU<|Za (aE 0)<|Za (aE 1) aK)) aK)
theorem JN:sD P w K mg base 12 "squares_of" (Ze9.take 1) vM:=rj (z:=BE) (N:=Ze9) Z.bh (λsc _ _ _ _ _ _ _ hr hx hw=>(yK (qj 1 (gx aK) sc)<|yK (gU PassesOwn.leaving rfl (fV<|aW (PR Z) hr hx<|Za (aE 0) aK) (bY 2 sc)<|aV (cB 3 (aW (BJ Z) hr hx<|Za (aE 0)<|Za (aE 2)<|Za (aE 2) aK) sc)<|aX<|dI (dF (dS hr.units) (aE 3)<|p7 Z.c1) (aX<|xz 1<|eO<|Za (aE 3)<|Za (aW (BL Z) hr hx<|Za (aW (zF Z) hr hx<|Za (aE 0)<|Za (aE 2) aK)<|Za (aE 3) aK) aK) dH)<|OL 1)) Pf O8 O4
theorem Fn:Fp P w K mg base 6 "corner" (Zmh.take 2) uC:=cS Mu Z.ax λsc hr hx hw=>aV (qX<|aW (zE Z) hr hx<|Za (aE 0) aK)<|aV (cB 2 (aW (sQ Z) hr hx<|Za (aE 0) aK) sc) (aV (dI (fT<|ge<|aW (JI Z) hr hx<|Za (aE 1)<|Za aM<|Za (aE 2) aK) (aX<|xM hw Z.c5) dH)<|aX<|bJ<|jO (aE 0) (iz<|bB je (aE 2)<|aE 1)<|iz<|bB je (bB ee (aE 2)<|aE 1) aM)
theorem PU:Fp P w K mg base 7 "first_step" (ZgU.take 1) Bl:=cS Oz Z.a8 λsc hr hx hw=>aV (cB 1 (aW (BL Z) hr hx<|Za (eO<|Za (p7 Z.c4) aK)<|Za (bG aQ (aW (Fk Z) hr hx<|Za (aW (Fn Z) hr hx<|Za (aE 0)<|Za aM aK) aK) aM) aK) sc)<|aX (bJ<|eO<|Za (aE 1)<|Za (aE 1) aK)
theorem PV:Fp P w K mg base 9 "longer_step" (Zga.take 2) Bm:=cS OA Z.a9 λsc hr hx hw=>aV (cB 2 (bB ee (bG aQ (aE 1) aM)<|eO<|Za (p7 Z.c1) aK) sc)<|aV (cB 3 (bB ee (eO<|Za (p7 Z.c1) aK)<|bG aQ (aE 1) aM) sc) (aV (cB 4 (bG aQ (aW (zF Z) hr hx<|Za (aE 0)<|Za (aE 2) aK)<|ms mx aM) sc)<|aV (cB 5 (bG aQ (aW (zF Z) hr hx<|Za (aE 0)<|Za (aE 3) aK) aM) sc)<|aV (cB 6 (aW (Fm Z) hr hx<|Za (p7 Z.c4)<|Za (aW (Fj Z) hr hx<|Za (aE 4)<|Za (aE 5) aK) aK) sc)<|aX<|bJ<|eO<|Za (aW (BL Z) hr hx<|Za (aW (BK Z) hr hx<|Za (aE 2)<|Za (aE 4)<|Za (aE 3) aK)<|Za (aE 6) aK)<|Za (aW (BL Z) hr hx<|Za (aW (BK Z) hr hx<|Za (aE 3)<|Za (aE 5)<|Za (aE 2) aK)<|Za (aE 6) aK) aK)
theorem zG:Fp P w K mg base 1 "table_without" (Ze8.take 2) Be:=cS Of Z.a1 λsc hr hx hw=>aX<|bJ (PXL.px<|gA ["row"] [1] rfl (fV<|jO (aE 0) (iz aM) kE) (λ_ _ _=>Rh) (λ_ _ _=>eQ)<|λ_ _ _=>(bB ee (jO (aE 0) kE<|iz<|aE 1)<|jO (aE 0) (iz<|bB ee (aE 1) aM) kE))
theorem PY:Fp P w K mg base 2 "table_number" u3 (lv 0):=vD (z:=oP λ_=>DI) (N:=sJ) Z.a2 (λsc _ _ _ _ _ _ _ hr hx hw=>(aV (dI (dF (dA hr.units) (cP eP Z.b9 Qn<|Za (aE 0) aK) aM) (aX<|bJ aM) dH)<|aV (cB 1 aM sc)<|aV (cB 2 aM sc)<|aV (gg<|gU PassesOwn.never rfl (uN Z.c3<|Za (bG aQ (aE 0) aM) aK) (kf rfl<|eZ (bY 3 sc)<|eZ (bY 4 sc) ke)<|aV (vE 1 (bB dO (bB dO (aE 2)<|aE 4) MM) sc)<|aX<|cB 2 (ms mx<|aE 2) sc)<|aX<|bJ<|aE 1)) Og
theorem P0:Fp P w K mg base 3 "table_number" u3 (lv 1):=vD (z:=oP<|wF<|lv 0) (N:=sJ) Z.a2 (λsc _ _ _ _ _ _ _ hr hx hw=>(aV (dI (dF (dA hr.units) (cP eP Z.b9 Qn<|Za (aE 0) aK) aM) (aX<|bJ aM) dH)<|aV (cB 1 aM sc)<|aV (cB 2 aM sc)<|aV (gg<|gU PassesOwn.never rfl (uN Z.c3<|Za (bG aQ (aE 0) aM) aK) (kf rfl<|eZ (bY 3 sc)<|eZ (bY 4 sc) ke)<|aV (vE 1 (bB dO (bB dO (aE 2)<|aE 4)<|aW (PY Z) hr cU<|Za (aW (zG Z) hr cU<|Za (aE 0)<|Za (aE 3) aK) aK) sc)<|aX<|cB 2 (ms mx<|aE 2) sc)<|aX<|bJ<|aE 1))<|yV 0
theorem P1:Fp P w K mg base 4 "table_number" u3 (lv 2):=vD (z:=oP<|wF<|lv 1) (N:=sJ) Z.a2 (λsc _ _ _ _ _ _ _ hr hx hw=>(aV (dI (dF (dA hr.units) (cP eP Z.b9 Qn<|Za (aE 0) aK) aM) (aX<|bJ aM) dH)<|aV (cB 1 aM sc)<|aV (cB 2 aM sc)<|aV (gg<|gU PassesOwn.never rfl (uN Z.c3<|Za (bG aQ (aE 0) aM) aK) (kf rfl<|eZ (bY 3 sc)<|eZ (bY 4 sc) ke)<|aV (vE 1 (bB dO (bB dO (aE 2)<|aE 4)<|aW (P0 Z) hr cU<|Za (aW (zG Z) hr cU<|Za (aE 0)<|Za (aE 3) aK) aK) sc)<|aX<|cB 2 (ms mx<|aE 2) sc)<|aX<|bJ<|aE 1))<|yV 1
theorem P2:Fp P w K mg base 5 "table_number" u3 (lv 3):=vD (z:=oP<|wF<|lv 2) (N:=sJ) Z.a2 (λsc _ _ _ _ _ _ _ hr hx hw=>(aV (dI (dF (dA hr.units) (cP eP Z.b9 Qn<|Za (aE 0) aK) aM) (aX<|bJ aM) dH)<|aV (cB 1 aM sc)<|aV (cB 2 aM sc)<|aV (gg<|gU PassesOwn.never rfl (uN Z.c3<|Za (bG aQ (aE 0) aM) aK) (kf rfl<|eZ (bY 3 sc)<|eZ (bY 4 sc) ke)<|aV (vE 1 (bB dO (bB dO (aE 2)<|aE 4)<|aW (P1 Z) hr cU<|Za (aW (zG Z) hr cU<|Za (aE 0)<|Za (aE 3) aK) aK) sc)<|aX<|cB 2 (ms mx<|aE 2) sc)<|aX<|bJ<|aE 1))<|yV 2
theorem P3:Fp P w K mg base 6 "table_number" u3 (lv 4):=vD (z:=oP<|wF<|lv 3) (N:=sJ) Z.a2 (λsc _ _ _ _ _ _ _ hr hx hw=>(aV (dI (dF (dA hr.units) (cP eP Z.b9 Qn<|Za (aE 0) aK) aM) (aX<|bJ aM) dH)<|aV (cB 1 aM sc)<|aV (cB 2 aM sc)<|aV (gg<|gU PassesOwn.never rfl (uN Z.c3<|Za (bG aQ (aE 0) aM) aK) (kf rfl<|eZ (bY 3 sc)<|eZ (bY 4 sc) ke)<|aV (vE 1 (bB dO (bB dO (aE 2)<|aE 4)<|aW (P2 Z) hr cU<|Za (aW (zG Z) hr cU<|Za (aE 0)<|Za (aE 3) aK) aK) sc)<|aX<|cB 2 (ms mx<|aE 2) sc)<|aX<|bJ<|aE 1))<|yV 3
theorem P4:Fp P w K mg base 7 "table_number" u3 (lv 5):=vD (z:=oP<|wF<|lv 4) (N:=sJ) Z.a2 (λsc _ _ _ _ _ _ _ hr hx hw=>(aV (dI (dF (dA hr.units) (cP eP Z.b9 Qn<|Za (aE 0) aK) aM) (aX<|bJ aM) dH)<|aV (cB 1 aM sc)<|aV (cB 2 aM sc)<|aV (gg<|gU PassesOwn.never rfl (uN Z.c3<|Za (bG aQ (aE 0) aM) aK) (kf rfl<|eZ (bY 3 sc)<|eZ (bY 4 sc) ke)<|aV (vE 1 (bB dO (bB dO (aE 2)<|aE 4)<|aW (P3 Z) hr cU<|Za (aW (zG Z) hr cU<|Za (aE 0)<|Za (aE 3) aK) aK) sc)<|aX<|cB 2 (ms mx<|aE 2) sc)<|aX<|bJ<|aE 1))<|yV 4
theorem P5:Fp P w K mg base 7 "table_number" u3 Eu:=P4 Z
theorem P6:Fp P w K mg base 8 "number_of" (Ziv.take 1) yT:=cS Oh Z.a3 λsc hr hx hw=>aX<|bJ (aW (P5 Z) hr hx<|Za (aW (JL Z) hr hx<|Za (aE 0) aK) aK)
theorem P7:Fp P w K mg base 9 "corner_numbers" (ZeE.take 1) yU:=cS Oj Z.a4 λsc hr hx hw=>aV (qX<|aW (zE Z) hr hx<|Za (aE 0) aK)<|aX (bJ<|PXL.px<|gA ["size"] [0] rfl (vt Z.cb<|Za aM<|Za (bB ee (aW (sQ Z) hr hx<|Za (aE 0) aK) aM) aK) (λ_ _ _=>Rh) (λ_ _ _=>eQ)<|λ_ _ _=>(aW (P6 Z) hr cU<|Za (aW (Fn Z) hr cU<|Za (aE 1)<|Za (aE 0) aK) aK))
theorem P8:Fp P w K mg base 10 "weak_sizes" (ZgQ.take 1) Bf:=cS Om Z.a5 λsc hr hx hw=>aX<|bJ (PXL.px<|gA ["size", "number"] [] rfl (N5 Z.c3<|Za (aW (P7 Z) hr hx<|Za (aE 0) aK) aK) (λ_ _ _=>(kf rfl<|eZ Rh<|eZ Rh ke)) (λ_ _ _=>(Db<|dF (dA hr.units) (aE 1) aM))<|λ_ _ _=>(aE 0))
theorem P9:Fp P w K mg base 11 "first_weak" (ZgT.take 1) Bj:=cS Ox Z.a6 λsc hr hx hw=>aV (cB 1 (aW (P8 Z) hr hx<|Za (aE 0) aK) sc)<|aX (bJ<|xq (dF qW (cP eP Z.b9 Qn<|Za (aE 1) aK) aM) (bG aQ (aE 1) aM) xo)
theorem Qa:Fp P w K mg base 12 "need_strong" (Zc4.take 1) S_need_strong:=cS rd_need_strong Z.a7 λsc hr hx hw=>aV (cB 1 (aW (P9 Z) hr hx<|Za (aE 0) aK) sc)<|aX (dI (dF GZ (aE 1) xo) (aX<|OE Fl.raisd_cx (XK1.xf (k:=0) Z.cv IR) (hr.mono<|F4)<|aE 1) dH)
theorem Qb:Fp P w K mg base 13 "steps_of" (Zfi.take 1) S_steps_of:=cS rd_steps_of Z.ba λsc hr hx hw=>aV (qX<|aW (Qa Z) hr hx<|Za (aE 0) aK)<|aV (qj 1 (gx<|Za (aW (PU Z) hr hx<|Za (aE 0) aK) aK) sc) (aV (gg<|gU PassesOwn.never rfl (vt Z.cb<|Za aM<|Za (bB ee (aW (sQ Z) hr cU<|Za (aE 0) aK) aM) aK) (bY 2 sc)<|aX<|xz 1<|uq 1<|aW (PV Z) hr cU<|Za (aW (Fn Z) hr cU<|Za (aE 0)<|Za (aE 2) aK)<|Za (bG aQ (aE 1)<|ms mx aM) aK)<|gz 1<|aX<|bJ<|aE 1)
theorem Fo:sD P w K mg base 14 "step_squares" (ZdH.take 1) u8:=rj (z:=BF) (N:=ZdH) Z.bi (λsc _ _ _ _ _ _ _ hr hx hw=>(yK (qX<|aW (Fh Z) hr hx<|Za (aE 0) aK)<|yK (cB 1 (aW (sQ Z) hr hx<|Za (aE 0) aK) sc)<|yK (uj 2 ["step"] [] rfl sc (fV<|aW (Qb Z) hr hx<|Za (aE 0) aK) (λ_ _ _=>Rh) (λ_ _ _=>eQ)<|λ_ _ _=>(bG aQ (aE 0) aM))<|O2 2<|Ek<|gA ["row"] [0,1] rfl (fV<|aE 2) (λ_ _ _=>Rh) (λ_ _ _=>eQ)<|λ_ _ _=>(eO<|Za (aW (Ff Z) hr cU<|Za (p7 Z.c4)<|Za (bG aQ (aE 0)<|ms mx aM) aK)<|Za (aW (zF Z) hr cU<|Za (aE 1)<|Za (bB ee (aE 0)<|bB L7 (eO<|Za (p7 Z.c1) aK)<|bB je (aE 2)<|cP eP Z.b9 Qn<|Za (aE 0) aK) aK) aK))) Pi O9 O5
theorem JO:sD P w K mg base 15 "steps_weights" (Zdl.take 1) vN:=rj (z:=BG) (N:=Zdl) Z.bj (λsc _ _ _ _ _ _ _ hr hx hw=>(Ek<|gA ["weight", "row"] [] rfl (fV<|PXL.px<|Ib (Fo Z) hr hx<|Za (aE 0) aK) (λ_ _ _=>(kf rfl<|eZ Rh<|eZ Rh ke)) (λ_ _ _=>eQ)<|λ_ _ _=>(aE 0))) Pk Pb O6
theorem Qc:Fp P w K mg base 16 "_law_told_of" (ZbH.take 2) Fa:=cS Pm Z.b6 λsc hr hx hw=>aX<|LZ LX5 2 Z.c6 sc (λ_ _ _ hx1=>(aX<|bJ<|PXL.px<|Ic hr hx1 (vO Z.bh (JN Z)<|vO Z.bi (Fo Z)<|vO Z.bj (JO Z) Id) (bG aQ (PXL.px<|gx<|Za (Zb Z.bh.cc)<|Za (Zb Z.bi.cc)<|Za (Zb Z.bj.cc) aK)<|aE 0)<|Za (aE 1) aK)) (λ_ _=>(aX<|bJ<|Ga (Pz Z) (hr.u.mark)<|Za (aE 2) aK))
theorem Qd:sD P w K mg base 16 "_law_told_of" (ZbH.take 2) zq:=rj (z:=BH) (N:=ZbH) Z.b6 (λsc _ _ _ _ _ _ _ hr hx hw=>(NC<|λ_ _ _ hx1=>(Ek<|Ic hr hx1 (vO Z.bh (JN Z)<|vO Z.bi (Fo Z)<|vO Z.bj (JO Z) Id) (bG aQ (PXL.px<|gx<|Za (Zb Z.bh.cc)<|Za (Zb Z.bi.cc)<|Za (Zb Z.bj.cc) aK)<|aE 0)<|Za (aE 1) aK))) Pl Pc O7
theorem zH:Fp P w K mg base 17 "_law_right_of" (Zfc.take 1) sO:=cS Zh Z.b7 λsc hr hx hw=>O0 (aV (uj 1 ["_law_way"] [0] rfl sc (kF Z.cb<|Za aM aK) (λ_ _ _=>Rh) (λ_ _ _=>eQ)<|λ_ _ _=>(aW (Qc Z) hr cU<|Za (aE 0)<|Za (aE 1) aK))<|gz 1<|aV (dI (dF (dS hr.units) (aE 0)<|xw<|aE 0) (gz 1<|aX<|bJ<|mq (dA hr.units) (aE 1)<|bB dO (PXL.px<|gx<|Za (eO<|Za ml aK) aK) aM) dH)<|aV (cB 2 (aW (JG Z) hr hx<|Za (aE 0) aK) sc)<|gz 1<|aV (dI (PXW.pxt<|jd (fT<|ge<|aW (Fe Z) hr hx<|Za (aE 2)<|Za (bG aQ (aE 1) aM) aK)<|lL<|dF (dS hr.units) (cP eP Z.b9 Qn<|Za (bG aQ (aE 1) aM) aK)<|aW (JE Z) hr hx<|Za (aE 2) aK) (aX<|bJ jc) dH)<|aV (cB 3 (aW (JF Z) hr hx<|Za (aE 2) aK) sc)<|gz 1<|aV (dI (dF mw (aE 3)<|cP eP Z.b9 Qn<|Za (aE 2) aK) (gz 1<|aX<|bJ<|mq (dA hr.units) (jO (aE 1) (iz aM) kE)<|bB dO (PXL.px<|gx<|Za (eO<|Za ml<|Za (bB ee (aE 3) aM) aK) aK) aM) dH) C9)<|aV (O1 1 ["_law_way"] [0] rfl sc (kF Z.cb<|Za aM aK) (λ_ _ _=>Rh) (λ_ _ _=>eQ)<|λ_ _ _=>(Ib (Qd Z) hr cU<|Za (aE 0)<|Za (aE 1) aK)) (aV (dI (dF (dS hr.units) (aE 0)<|xw<|aE 0) C9 dH)<|aV (cB 2 (aW (JG Z) hr hx<|Za (aE 0) aK) sc)<|aV (dI (E3 1<|PXW.pxt<|jd (fT<|ge<|aW (Fe Z) hr hx<|Za (aE 2)<|Za (bG aQ (aE 1) aM) aK)<|lL<|dF (dS hr.units) (cP eP Z.b9 Qn<|Za (bG aQ (aE 1) aM) aK)<|aW (JE Z) hr hx<|Za (aE 2) aK) (aX<|bJ jc) dH)<|aV (cB 3 (aW (JF Z) hr hx<|Za (aE 2) aK) sc)<|aV (dI (dF mw (aE 3)<|cP eP Z.b9 Qn<|Za (aE 2) aK) C9 dH)<|aV (cB 4 (aW (Pw Z) hr hx<|Za (aE 2)<|Za (aE 3) aK) sc)<|aV (dI (E3 1<|PXW.pxt<|jd (fT<|ge<|aW (Fe Z) hr hx<|Za (aE 2)<|Za (bG aQ (aE 1) aM) aK)<|jd (dF (dS hr.units) (bG aQ (aE 1) aM)<|aE 4)<|lL<|fT<|ge<|cP mY Z.ci Ql<|Za (bG aQ (aE 1) aM)<|Za (my Z.ck boot_list) aK) (aX<|bJ jc) dH)<|aV (dI (E3 1<|PXW.pxt<|jd (dF (dS hr.units) (bG aQ (aE 1) aM)<|PXL.px<|gA ["_law_weight", "_law_row"] [] rfl (fV<|aE 4) (λ_ _ _=>(kf rfl<|eZ Rh<|eZ Rh ke)) (λ_ _ _=>eQ)<|λ_ _ _=>(aE 0))<|lL<|fT<|ge<|cP (Am rfl) Z.cj boot_all<|Za (PXL.px<|gA ["_law_weight"] [] rfl (fV<|bG aQ (aE 1) aM) (λ_ _ _=>Rh) (λ_ _ _=>eQ)<|λ_ _ _=>(aW (Fd Z) hr cU<|Za (aE 0) aK)) aK) (aX<|bJ jc) dH)<|aV (gg<|O3 5 1 PassesOwn.never rfl sc xo)<|aX<|bJ jc)
theorem all_mk{l:PySem.W.OpenLaw}(hfa:mg "law" = some (.ref fa)):∃fd:FuncData,(∀(s:Shared) (v:Value),BindsTo s fd ⟨[v],[]⟩ [("_law_script",v)])/\∀base:Heap,K.In base->base.Ns mainGlobals mg->eD l.prog w K mg base (dj l.prog w) 18 fa fd ["_law_script"] (h9 K Zo):=
 NA (z:=BD) (N:=Jt) Z.b8 hfa (λ_ sc _ _ _ _ _ _ _ hr hx hw=>(aV (gg<|gU PassesOwn.never rfl (fV<|PXL.px<|gx<|Za (eO<|Za aM aK)<|Za (eO<|Za aM aK)<|Za (eO<|Za (ms mx aM) aK)<|Za (eO<|Za aM<|Za aM<|Za aM aK)<|Za (eO<|Za aM<|Za aM<|Za aM aK)<|Za (eO<|Za aM<|Za aM<|Za aM aK)<|Za (eO<|Za aM<|Za aM<|Za aM aK)<|Za (eO<|Za aM<|Za aM<|Za aM<|Za aM<|Za aM aK)<|Za (eO<|Za aM<|Za aM<|Za aM<|Za aM<|Za aM aK) aK) (bY 1 sc)<|aX<|dI (PXW.pxt<|jd (fT<|ge<|aW (zH Z) hr cU<|Za (aE 1) aK)<|lL<|fT<|ge<|aW (zH Z) hr cU<|Za (aE 1) aK) (aX<|bJ jc) dH)<|aV (gg<|gU PassesOwn.never rfl (fV<|bB ee (PXL.px<|gx<|Za (aW (Pt Z) hr cU<|Za (aE 0)<|Za aM aK) aK)<|jO (aE 0) (iz aM)<|iz aM) (bY 2 sc)<|aV (cB 3 (aW (Pu Z) hr cU<|Za (aE 2) aK) sc)<|aV (cB 1 (aW (Zi Z) hr cU<|Za (aE 3) aK) sc)<|aX<|dI (PXW.pxt<|jd (fT<|ge<|aW (zH Z) hr cU<|Za (aE 1) aK)<|jd (fT<|ge<|aW (zH Z) hr cU<|Za (aE 1) aK)<|lL<|fT<|ge<|aW (zH Z) hr cU<|Za (aW (Jz Z) hr cU<|Za (aE 3) aK) aK) (aX<|bJ jc) dH)<|aX<|bJ jc)) Pp
end
theorem walk{l:PySem.W.OpenLaw}{q:Program}{loose:Q4}{d:DefRec}{K:Params->Qh}(hn:l.most=some 63)(hdf:d.params.defaults=[])
  (hY:∀(w:World) (h:Heap),YP w h->(K w.params).In h)
  (F:∀ (w:World) (mg:QW) (fa:Addr) (h:Heap),(K w.params).In h->h.Ns mainGlobals mg->mg d.name=some (.ref fa)->
   ∃fd:FuncData,(∀(s:Shared) (u:Value),BindsTo s fd ⟨[u],[]⟩ [("_law_script",u)])/\∀base:Heap,(K w.params).In base->base.Ns mainGlobals mg->eD l.prog w (K w.params) mg base (dj l.prog w) 18 fa fd ["_law_script"] (h9 (K w.params) Zo)) :
  PySem.W.WalkO q loose XP YP l.row.toRowW d [] (λf vs=>PySem.call f vs):=
 L2.walk_of (n:=63) (k:=18) (x:= "_law_script") (CX:=λw=>dj l.prog w) (sp:=λw=>h9 (K w.params) Zo) hn F4 hdf ⟨rfl,rfl,F4,F4⟩ hY F (λ_ _ a ns hl hO hS=>Ps hl hO hS) (by rintro _ _ _ _ _ ⟨_,_,_,_,_,_,_,_,_,_,_,_,_,z⟩;exact z)
end B.C.Q0.Q1
end LP
namespace PySem.W.Fast
abbrev N:=Nat
def tw14947261594121408626:=N
def tw16816966356416835296:=N
def tw3236928187244779447:=N
def tw15698012342036174256:=N
def tw13857897591253816227:=N
def tw12072569311376746614:=N
def tw5060932607156496305:=N
def tw828325866439699176:=N
def tw14310541354557659681:=N
def tw17548053675102718299:=N
def tw5790047041078769815:=N
def tw160051687495148657:=N
def tw8000937753993586904:=N
def tw7376732181541119043:=N
def tw11418824603705842219:=N
def tw17591244684941632162:=N
def tw638415896815334639:=N
def tw15783874426715582585:=N
def tw14913686030350757437:=N
def tw15068279837696357350:=N
def tw8603653517897845292:=N
def tw2961274996304674234:=N
def tw5153904550573608127:=N
def tw6864445580067356314:=N
def tw9434084564933715680:=N
def tw270815155685429296:=N
def tw1711620969689917311:=N
def tw11595635419510434353:=N
def tw8571237811139335987:=N
def tw3766801076601509605:=N
def tw17382598113706499132:=N
def tw15285313057498104032:=N
def tw9435931089475218521:=N
def tw7567453298825883969:=N
def tw4420337114634033619:=N
def tw13371763065317182762:=N
def tw8355591096533725298:=N
def tw10232326181089607380:=N
def tw10941040060670343018:=N
def tw343103209015419257:=N
def tw2176557435351188754:=N
def tw7432232546264962940:=N
def tw14483624461265809042:=N
def tw10049337909314457591:=N
def tw2314087594238594016:=N
def tw3633804275242916475:=N
def tw218297793249759495:=N
def tw16951584041072190016:=N
def tw7747289968838830144:=N
def tw2527356012353222031:=N
def tw5097822663641275753:=N
def tw15071355181333431094:=N
def tw2235357868354667980:=N
def tw18049055461991758775:=N
def tw8118167837942614397:=N
def tw17984086292955373961:=N
def tw5182372382939078669:=N
def tw15660108949439463771:=N
def tw13710910184000506640:=N
def tw10390065057819335815:=N
def tw5135869873369138444:=N
def tw10147025969455734636:=N
def tw14059829840227025649:=N
def tw12730000272274379852:=N
def tw2595176694085442212:=N
def tw7121576471193463639:=N
def tw177538888967030861:=N
def tw3529234407742395071:=N
def tw6660018469317876165:=N
def tw2923585386942194603:=N
def tw7141641196986904240:=N
def tw13565086269974034688:=N
def tw13536609548377693500:=N
def tw13856980325027913383:=N
def tw9503486015756006668:=N
def tw15015053297379065565:=N
def tw14656183299927919414:=N
def tw2894819908902732358:=N
def tw16920130331797423643:=N
def tw8889552272888967922:=N
def tw9675017073542031681:=N
def tw11246429517381031585:=N
def tw16789044653982624411:=N
def tw3988190254932495335:=N
def tw11043124264782673535:=N
def tw3673025496250476020:=N
def tw453941656843930304:=N
def tw15696730172243190136:=N
def tw4982617547176213624:=N
def tw9880300784035846583:=N
def tw3202525667848655184:=N
def tw2955187382837663390:=N
def tw15651272001418811975:=N
def tw14946040572320410190:=N
def tw2785493124214866951:=N
def tw10190562024384296732:=N
def tw5185751375127502265:=N
def tw8595067137460968672:=N
def tw16866121969176895459:=N
def tw5390604492253831328:=N
def tw5607299837470725440:=N
def tw6144816163817382785:=N
def tw5305924097263152314:=N
def tw6788047836589679578:=N
def tw2088900665824705287:=N
def tw13519420603326355206:=N
def tw3405055122413068828:=N
def tw9152091422126566191:=N
def tw5468242807507055013:=N
def tw3627704984383152862:=N
def tw11131761242813640272:=N
def tw9601267033806269334:=N
def tw1421798964217352157:=N
def tw1036386531083339396:=N
def tw12561951526383153862:=N
def tw10725362818281301247:=N
def tw16871722179710649354:=N
def tw12032518754739349884:=N
def tw969800909124542867:=N
def tw1605822684347129039:=N
def tw14492036641783469481:=N
def tw14072448830057857534:=N
def tw12592924326463191348:=N
def tw8546408435061975826:=N
def tw2080720138074000055:=N
def tw12935257795325769006:=N
def tw8066565518363945605:=N
def tw1909852298867638707:=N
def tw3444848070103954406:=N
def tw14980091297667174309:=N
def tw3697611364603211779:=N
def tw283861973497921358:=N
def tw360431213851759968:=N
def tw13672360402863372261:=N
def tw12092506222475906759:=N
def tw4737639507200626601:=N
def tw14020314705007624604:=N
def tw7281489561786676261:=N
def tw1320450950635730323:=N
def tw2810824569846259849:=N
def tw13295907582627191943:=N
def tw2344772897847936376:=N
def tw13485480724147455512:=N
def tw9365830362240276952:=N
def tw3403786943757627082:=N
def tw14809807402918546626:=N
def tw4779763258625719732:=N
def tw2017170634968402426:=N
def tw10281192224049318608:=N
def tw3188480173569540338:=N
def tw14827138420741788011:=N
def tw7686542570873405689:=N
def tw694783849176261084:=N
def tw2410852875941360090:=N
def tw10024139230421396263:=N
def tw2824669187792768721:=N
def tw2204303377229608187:=N
def tw9349180226118426303:=N
def tw10545238348323721707:=N
def tw10348004877416513707:=N
def tw2915797769041050362:=N
def tw4209522086810100544:=N
def tw8412548861982757818:=N
def tw18034342224633109727:=N
def tw14424293069822803588:=N
def tw14393931506102016969:=N
def tw13099082637917360110:=N
def tw11298875957820232384:=N
def tw2136836132823141803:=N
def tw7263956546293162839:=N
def tw14065306118436736220:=N
def tw14338087237330545433:=N
def tw12921504689101093919:=N
def tw12903923556544354998:=N
def tw5174785349104860581:=N
def tw9033496145772131826:=N
def tw16636905567000149720:=N
def tw1937475085480878913:=N
def tw78298031419141743:=N
def tw11700798455538828388:=N
def tw2723531899074453347:=N
def tw437067441321957698:=N
def tw1836111753633134657:=N
def tw2692241794350423485:=N
def tw12798463991419646447:=N
def tw9643176184393451750:=N
def tw2830942948633004699:=N
def tw4398969147794593750:=N
def tw436925510251214441:=N
def tw9256007337394133487:=N
def tw13280255703554168822:=N
def tw8569903170528156058:=N
def tw5489186936370332303:=N
def tw14031011240851824580:=N
def tw12580094302969874092:=N
def tw16198456166901905025:=N
def tw8502243371622788859:=N
def tw6602883137346774427:=N
def tw5546809200507599763:=N
def tw13691978262675800130:=N
def tw432446165928814285:=N
def tw11009446707893655585:=N
def tw18006019026364281965:=N
def tw12096455642304360850:=N
def tw4884343005860070949:=N
def tw18006154743429068770:=N
def tw17583688571462273950:=N
def tw934762114075824404:=N
def tw9277651966375267667:=N
def tw8896893224306206309:=N
def tw8705816086278358357:=N
def tw8514054675701844978:=N
def tw8112225017654501334:=N
def tw7170395079400089307:=N
def tw705995069022994393:=N
def tw5862867151288841592:=N
def tw5262086108021547089:=N
def tw3725817034290525484:=N
def tw3188453557027889981:=N
def tw3090996614282898858:=N
def tw2790525784970238898:=N
def tw2471488502949268668:=N
def tw2253841177598282484:=N
def tw18073416504812231748:=N
def tw18031629488414248470:=N
def tw17648169577988239278:=N
def tw17014484829348836416:=N
def tw16739781585056167446:=N
def tw16733102467893762156:=N
def tw16686608132127796377:=N
def tw16112045126663290346:=N
def tw15731791439597622703:=N
def tw15621612958126571282:=N
def tw15484665672797478679:=N
def tw15449764151276838924:=N
def tw14967345836081464206:=N
def tw14509019729163768371:=N
def tw14060084634853280918:=N
def tw13530714900683424925:=N
def tw13464535190659403914:=N
def tw12220132776930316245:=N
def tw11738592890249164900:=N
def tw1173084065182320305:=N
def tw11648562538513308930:=N
def tw11607251963941179821:=N
def tw11204638747704817882:=N
def tw10945794024918743457:=N
def tw10397971567090877317:=N
def tw8741943566374496001:=N
def tw53064495903885380:=N
def tw17288381055833489603:=N
def tw1375930007091502124:=N
def tw1229278734362390478:=N
def tw15024510582431755179:=N
def tw9236544146602308556:=N
def tw8555842822373233638:=N
def tw7484020785772401802:=N
def tw7263500370860081291:=N
def tw713404102928546158:=N
def tw6283481182833558360:=N
def tw47282200204792136:=N
def tw4677234510492755254:=N
def tw4319855851222774671:=N
def tw4101140397504859332:=N
def tw3413244428605154259:=N
def tw3183845277312154509:=N
def tw18196856673081402576:=N
def tw17460343935914251910:=N
def tw16777782304247284130:=N
def tw1666593317340808525:=N
def tw16500875513857412024:=N
def tw14122462737760488940:=N
def tw14060437868390242865:=N
def tw1236244453449730240:=N
def tw12084468243085142110:=N
def tw10243191098491892783:=N
def tw8898975944996268711:=N
def tw17129927546939364441:=N
def tw12061842806824856742:=N
def tw14904983283357422975:=N
def tw3840793707771047169:=N
def tw182032577901216494:=N
def tw14317638038596856863:=N
def tw331296692962460033:=N
def tw15116175378626683216:=N
def tw12995338361416395180:=N
def tw11665889716368276048:=N
def tw14055445796986376316:=N
def tw9885757873272302682:=N
def tw8875033777221584702:=N
def tw7243624581383819531:=N
def tw694779066993840329:=N
def tw6417178698093038021:=N
def tw465746782731623897:=N
def tw17714991254286945628:=N
def tw17416262009208756661:=N
def tw15325349905301217125:=N
def tw1519433650883901447:=N
def tw11659958348548628061:=N
def tw10519778534203310130:=N
def tw1047833188862965397:=N
def tw2700195274981543181:=N
def tw18252268567580677119:=N
def tw15037091260023197043:=N
def tw12324690759233650023:=N
def tw10859839586250664232:=N
def tw1043802053565080656:=N
def tw10251537447414776080:=N
def tw8535199475113950992:=N
def tw5976324287139764379:=N
def tw3617854928360705915:=N
def tw2630430877206662550:=N
def tw17160555192101940822:=N
def tw15240127239643742114:=N
def tw14862078856096458255:=N
def tw14287597030476961690:=N
def tw12740607370654527972:=N
def tw10284507714084368009:=N
def tw6667816721484849672:=N
def tw4028633708381610046:=N
def tw13229610649060202248:=N
def tw12984357093287357103:=N
def tw1174137349540367164:=N
def tw1035906956000762343:=N
def tw6104518329894808497:=N
def tw9782930372688882193:=N
def tw17056385797954812196:=N
def tw6176741540970716445:=N
def tw18072087973288065388:=N
def tw17767912346818245383:=N
def tw16604316748272517269:=N
def tw13670114968769691961:=N
def tw13584686884729711416:=N
def tw8864650604862526690:=N
def tw7927764412397940609:=N
def tw11206745998565187763:=N
def tw72443292465141352:=N
def tw9277920845720381113:=N
def tw8906920532670160576:=N
def tw508407036427850193:=N
def tw465917464767141542:=N
def tw3717742276860909826:=N
def tw2631250750435134460:=N
def tw14185600393430766149:=N
def tw13417311286489346307:=N
def tw13224150144441947498:=N
def tw1203056828225583323:=N
def tw16652414105376553368:=N
def tw16517843732665045924:=N
def tw16520993167112231538:=N
def tw6843645804169111506:=N
def tw6686302070567271747:=N
def tw483612588177246016:=N
def tw2532919491581272896:=N
def tw17730758111593662475:=N
def tw17400138410578381530:=N
def tw14282367978921967036:=N
def tw12984262184667180088:=N
def tw12033932386873358662:=N
def tw11324648036205851855:=N
def tw1101262107929805994:=N
def tw10211746262029681787:=N
def tw7706060265624024874:=N
def tw9028483345692310569:=N
def tw2623486317693685640:=N
def tw11189820503579825831:=N
def tw6441511874338864599:=N
def tw4083448991908650996:=N
def tw997322595137552718:=N
def tw8963873972979563178:=N
def tw6399483062536297831:=N
def tw5570718244742126183:=N
def tw5001085184982831542:=N
def tw3913561201906634832:=N
def tw2996135099373732928:=N
def tw288642273106286454:=N
def tw17645673005320415078:=N
def tw17446147897299208619:=N
def tw15844115774990144242:=N
def tw15703121403519624271:=N
def tw12894547651336984143:=N
def tw12492607956157177334:=N
def tw12398769969711334764:=N
def tw12104461998886460172:=N
def tw1202241728843741848:=N
def tw10090966165710738055:=N
def tw17760187916433567572:=N
def tw9576397996503480919:=N
def tw8784377344985916116:=N
def tw8166194422215731995:=N
def tw6567062196415418139:=N
def tw2626580254894779176:=N
def tw17023547808156603155:=N
def tw15995413151945523503:=N
def tw15352402983515114214:=N
def tw13235375336548098641:=N
def tw12791177749697265687:=N
def tw11726395948680349194:=N
def tw1056514177219430443:=N
def tw10188439223164316251:=N
def tw963172195889136988:=N
def tw8191106386948449208:=N
def tw5493788371630721176:=N
def tw5276008387829048601:=N
def tw3854499346609484341:=N
def tw291825879627433929:=N
def tw2077944484729616152:=N
def tw17529600385478263810:=N
def tw15603782843147673048:=N
def tw14162180152181263025:=N
def tw13973124237084547309:=N
def tw13808952298774410188:=N
def tw1374055476195799861:=N
def tw13722561854390719903:=N
def tw12414804519168818105:=N
def tw11648262580773783687:=N
def tw108236827275929769:=N
def tw1042165143589257364:=N
def tw10100353220990003473:=N
def tw9348236458298468727:=N
def tw901702880691514841:=N
def tw7203913187557247310:=N
def tw6677789270294975101:=N
def tw574304358381589032:=N
def tw5646987442906087806:=N
def tw3338324951214876909:=N
def tw18243995352729599777:=N
def tw18105236042643395335:=N
def tw14549816088731703236:=N
def tw11600305375677110673:=N
def tw9395345590611547946:=N
def tw697930011545180355:=N
def tw6373615523111979054:=N
def tw6292804706924196050:=N
def tw1305508858411237526:=N
def tw1290702159391638105:=N
def tw12762375685768888806:=N
def tw12745494749642229435:=N
def tw12407622159339372460:=N
def tw1209513444722836647:=N
def tw9875982203238133667:=N
def tw9780398189022005553:=N
def tw9750972312449746066:=N
def tw9620398463915988242:=N
def tw9482486563155195589:=N
def tw924217824385237951:=N
def tw9023986486305026130:=N
def tw9001291017468361153:=N
def tw8980876144393596229:=N
def tw8967012635034020931:=N
def tw8850495350293371298:=N
def tw8698242889103171064:=N
def tw866323461312998936:=N
def tw8249226358233881372:=N
def tw7939119515553233591:=N
def tw7922791098981940310:=N
def tw7880954317929895705:=N
def tw7833877844369903748:=N
def tw7604947082200127122:=N
def tw7349022615840322705:=N
def tw7040698909355697424:=N
def tw6993834859743205859:=N
def tw6915723137352195473:=N
def tw6811833551695077924:=N
def tw6465587415951624654:=N
def tw6396658368931220325:=N
def tw6338926769460075893:=N
def tw631293476879321948:=N
def tw6299019656930498730:=N
def tw6213279930675040708:=N
def tw6142326019798618012:=N
def tw6087770093007653233:=N
def tw591078586397844302:=N
def tw5741501374782344609:=N
def tw5726215996108599916:=N
def tw5653708599989685679:=N
def tw5567500784237737630:=N
def tw5216957169583454128:=N
def tw5101508902201922744:=N
def tw5006604081338118466:=N
def tw4885143873679203281:=N
def tw4845420602048736100:=N
def tw4664055410778537112:=N
def tw4649503085636084784:=N
def tw4465908353645422456:=N
def tw4349757312850054001:=N
def tw4293962373853389316:=N
def tw4273013509947756252:=N
def tw3989060748224265276:=N
def tw3759705578252383060:=N
def tw3562841961569641289:=N
def tw3476255593253280210:=N
def tw3422237145557835564:=N
def tw3251608842378814206:=N
def tw3247723221871992837:=N
def tw3245993214579815710:=N
def tw3168272612112529077:=N
def tw3083937803402552936:=N
def tw3043782688373974896:=N
def tw2856718194104293105:=N
def tw281993445181990063:=N
def tw2559496441712840317:=N
def tw2361087629521603861:=N
def tw2202719047492740418:=N
def tw2108640402425935751:=N
def tw1991968607659172417:=N
def tw18410453151914597794:=N
def tw18357271449590460200:=N
def tw18109234688141168817:=N
def tw1807779326616136859:=N
def tw17973352924122151993:=N
def tw17536978753692577486:=N
def tw17506411909062429614:=N
def tw17300685822176209082:=N
def tw17104607311511101699:=N
def tw16978470771154903604:=N
def tw16831307221899767878:=N
def tw16827586322332360359:=N
def tw16793840246356835099:=N
def tw1649366174634168405:=N
def tw16423783619434379904:=N
def tw16404636249706344215:=N
def tw16328686176594151679:=N
def tw16237525961616550734:=N
def tw16171915308928837582:=N
def tw15892650401967911553:=N
def tw15786583000514350498:=N
def tw15663430308280269778:=N
def tw15485924326480707585:=N
def tw15485697339574170654:=N
def tw15421485747275680085:=N
def tw15214753350805041902:=N
def tw15213175583007574324:=N
def tw1513056701314257936:=N
def tw15113262738783017671:=N
def tw14998730770740214259:=N
def tw14803419933503836127:=N
def tw14580606901546887006:=N
def tw14565896190890785036:=N
def tw14432564020262296769:=N
def tw14304978665955463082:=N
def tw14281650833092889062:=N
def tw14165873841007773874:=N
def tw13879308864550969637:=N
def tw13867043335066728191:=N
def tw13864404917826707679:=N
def tw13790720229471234175:=N
def tw13560588662798850014:=N
def tw13560428138512823839:=N
def tw13485102126376513138:=N
def tw13413775150974625022:=N
def tw13336237050931787396:=N
def tw13105933075580704435:=N
def tw12993591310611293171:=N
def tw1277215736425884593:=N
def tw1275006149837607631:=N
def tw12749596165079989435:=N
def tw12742606199256949557:=N
def tw12553835705777996666:=N
def tw12139041647803265986:=N
def tw12110404775079593959:=N
def tw12039061882201307366:=N
def tw11709457151990031014:=N
def tw11688262680526278790:=N
def tw11274652682298850338:=N
def tw11043252959912342855:=N
def tw10904182748870852773:=N
def tw10884243144742524542:=N
def tw10792591735168721511:=N
def tw1073729250203961793:=N
def tw10704576811366507675:=N
def tw1069363475627494011:=N
def tw10632110145975133940:=N
def tw10570465757855068097:=N
def tw10523907255004305496:=N
def tw10501149704915754191:=N
def tw10388894253370740838:=N
def tw9938852249717369111:=N
def tw9847263443548119504:=N
def tw9479871055380463919:=N
def tw9232650490423126972:=N
def tw9014982674383554468:=N
def tw7989339212830678853:=N
def tw7894825287518938925:=N
def tw788240041991696576:=N
def tw7639753083306562267:=N
def tw7549830503674947978:=N
def tw7479189869900460768:=N
def tw7371735558182323954:=N
def tw7333694491889838199:=N
def tw7264735985261788233:=N
def tw6885586274924853602:=N
def tw6616096829445301923:=N
def tw6594422232958530251:=N
def tw6555605068303992230:=N
def tw6134205541439840338:=N
def tw5618255359965133197:=N
def tw5448429150551878977:=N
def tw5298515514203243749:=N
def tw48154551591623813:=N
def tw476505297644358837:=N
def tw476199107476790287:=N
def tw4484063123324507709:=N
def tw4342365457543852905:=N
def tw4268014853949904060:=N
def tw4121155682653023386:=N
def tw3594924671234434526:=N
def tw3288893822283762271:=N
def tw3083098401287413789:=N
def tw2951057320116110558:=N
def tw2823613771434864944:=N
def tw2782980796337475095:=N
def tw2534679424879266691:=N
def tw2425608741342273734:=N
def tw225860551510475187:=N
def tw1985126575650014506:=N
def tw1979485701251186461:=N
def tw1839316390884562366:=N
def tw17779708590356095113:=N
def tw16883275375970811016:=N
def tw16525469688016291449:=N
def tw16517290307637020020:=N
def tw16502037488828627480:=N
def tw16479935388652959510:=N
def tw16443924455510921722:=N
def tw16387853534727781303:=N
def tw16196901453192440707:=N
def tw15456799660199800862:=N
def tw15179741297628239669:=N
def tw15087876958287896226:=N
def tw14920182840095295675:=N
def tw14459920919663510828:=N
def tw14322395536365271284:=N
def tw14148098728327630930:=N
def tw13995647300046822975:=N
def tw13473158666121841241:=N
def tw13303652403005206215:=N
def tw13253415967144990018:=N
def tw12879036501080356136:=N
def tw12808151778049069362:=N
def tw12780254983187032991:=N
def tw12770552382208266639:=N
def tw12637126665620855561:=N
def tw12548439252992921045:=N
def tw1212485702002422509:=N
def tw11772090811978827042:=N
def tw11415232457711718311:=N
def tw11398193825244306758:=N
def tw11017575236464293930:=N
def tw1083148527707140519:=N
def tw10363372832809810274:=N
def tw10291903662759984191:=N
def tw10213978050766158855:=N
def tw10094338790465188576:=N
def tw10062322648732763325:=N
def tw10061815285846075734:=N
def tw10049977321069614257:=N
end PySem.W.Fast
open PySem PySem.W PyProof.Rows
set_option maxRecDepth 100000 in
set_option maxHeartbeats 0 in
theorem PySem.Challenge.cw_slanttables_k41_squares_told_holds : PySem.Challenge.rw_slanttables_k41_squares_told.Holds := by
  w_on;o_law;k_head;(case hw=>w_witness2)
  k_fill
  refine LP.B.C.Q0.Q1.walk (l:=PySem.Challenge.rw_slanttables_k41_squares_told) rfl rfl (λw h Y=>PySem.W.kIn_of Y) ?F
  case F=>
    intro w mg fa h KX G hmg;refine LP.B.C.Q0.Q1.all_mk ?_ hmg;constructor
    all_goals first
      |(refine' LP.mkF KX G ?a ?l ?c ?k;(case a=>k_is);(case l=>k_is);(case c=>k_is);(case k=>k_is))
      |(refine' mg_none_of KX G ?a;case a=>k_is)
      |(refine' LP.mkC KX G ?a;case a=>k_is)
      |(refine' LP.mkI KX G ?a;case a=>k_is)
      |(refine' LP.mkT KX G ?a ?l;(case a=>k_is);(case l=>k_is))
      |(refine' LP.mkXF KX G ?a ?lc ?ni ?yq ?l ?c ?k;(case a=>k_is);(case lc=>k_is);(case ni=>k_is);(case l=>k_is);(case c=>k_is);(case k=>k_is);(case yq=>kernel_rfl))
      |(refine' LP.mkX KX G ?a ?e;(case a=>k_is);(case e=>k_exc))
      |(refine' LP.mkH KX G ?a ?e ?_;(case a=>k_is);(case e=>k_exc);intro n hn;simp only[LP.LX,LP.LX5,Yan,gQ,or_false] at hn;first|(rcases hn with rfl|rfl|rfl|rfl|rfl|rfl|rfl|rfl|rfl|rfl|rfl<;>(refine' LP.exD ?a ?b;(case a=>k_is);(case b=>k_is)))|(rcases hn with rfl|rfl|rfl|rfl|rfl|rfl<;>(refine' LP.exD ?a ?b;(case a=>k_is);(case b=>k_is)))|(rcases hn with rfl|rfl|rfl<;>(refine' LP.exD ?a ?b;(case a=>k_is);(case b=>k_is)))|(subst hn;refine' LP.exD ?a ?b;(case a=>k_is);(case b=>k_is)))
      | (refine ⟨λn hn=>?_⟩;simp only [LP.LX,LP.LX5,Yan,gQ,or_false] at hn;rcases hn with rfl | rfl | rfl | rfl | rfl | rfl | rfl | rfl | rfl | rfl | rfl<;>
         (refine' LP.exX ?a (LP.clsX_of ?g ?n ?b ?h ?c ?d ?t ?o) ?k ?_;(case a=>k_is);(case g=>k_is);(case n=>k_is);(case b=>k_is);(case h=>k_is);(case c=>k_is);(case d=>k_is);(case t=>k_is);(case o=>k_is);(case k=>kit_is)
          intro m hm;simp only[LP.MX,LP.LX,Yan,gQ,or_false] at hm;rcases hm with rfl|rfl|rfl|rfl|rfl|rfl|rfl|rfl|rfl<;>
           (refine' LP.exC ?a ?b;(case a=>k_is);(case b=>first|(refine Eq.trans (b:=some true) ?_ (by decide +kernel);kit_is)|(refine Eq.trans (b:=some false) ?_ (by decide +kernel);kit_is)))))
