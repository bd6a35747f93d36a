import PyProof.Rows.All
import Wide.All
import OpenK.AllK
import Wide.FinOn
import Lean
import PyProof.EqAt
import PyProof.EqKinds
import PyProof.TupleCall
import PyProof.ZipIter
import PyProof.ExcInit
import PyProof.InstStoreFacts
import PyProof.ExcArgsOwn
import PyProof.ExcAttrAll.ValueError
import PyProof.Draws
import PyProof.EnumMake
import PyProof.Rows.SumAny
import PyProof.Rows.EnumRows
import PyProof.SeqI3
import PyProof.ListRange
import KE.KUnpack
import PySem.Challenge.RW_slanttables_k40_squares_by_anybody
set_option Elab.async false
set_option linter.all false
set_option maxRecDepth 100000
namespace L2
open PySem PySem.Spec PyProof.Rows
abbrev Key:=Sum Int Str
def keyIs:Key→Value→Bool
  | .inl k,v=>Value.isInt k v
  | .inr x,v=>Value.isStrOf x v
def keyH (w:World):Key→Int
  | .inl k=>hashInt k
  | .inr x=>hashStr w x
theorem keyIs_shape:∀ {k:Key} {v:Value},keyIs k v=true→(∃ i t,k=Sum.inl i∧v=Value.int i t)∨(∃ x t,k=Sum.inr x∧v=Value.str x t)
  | .inl i,v,h=>by
    obtain ⟨t,e⟩:=Value.isInt_shape (k:=i) (v:=v) h
    exact .inl ⟨i,t,rfl,e⟩
  | .inr x,v,h=>by
    obtain ⟨t,e⟩:=Value.isStrOf_shape (x:=x) (v:=v) h
    exact .inr ⟨x,t,rfl,e⟩
theorem key_ll (a b:Int):decide ((Sum.inl a:Key)=Sum.inl b)=(a == b):=by
  by_cases e:a=b
  · subst e;simp
  · have h:¬ (Sum.inl a:Key)=Sum.inl b:=fun q=>e (Sum.inl.inj q)
    rw [decide_eq_false h]
    exact (beq_eq_false_iff_ne.mpr e).symm
theorem key_rr (a b:Str):decide ((Sum.inr a:Key)=Sum.inr b)=decide (a=b):=by
  by_cases e:a=b
  · subst e;simp
  · have h:¬ (Sum.inr a:Key)=Sum.inr b:=fun q=>e (Sum.inr.inj q)
    rw [decide_eq_false h,decide_eq_false e]
theorem key_lr (a:Int) (b:Str):decide ((Sum.inl a:Key)=Sum.inr b)=false:=decide_eq_false (fun q=>nomatch q)
theorem key_rl (a:Str) (b:Int):decide ((Sum.inr a:Key)=Sum.inl b)=false:=decide_eq_false (fun q=>nomatch q)
def mixKind (prog:Program) (w:World):PySem.KeyKind prog w Key where
  is:=keyIs
  hash:=keyH w
  inj:=fun v a b ha hb=>by
    rcases keyIs_shape ha with ⟨i,t,rfl,rfl⟩ | ⟨x,t,rfl,rfl⟩
    · rcases keyIs_shape hb with ⟨j,u,rfl,e⟩ | ⟨y,u,rfl,e⟩
      · injection e with e1 _;rw [e1]
      · exact nomatch e
    · rcases keyIs_shape hb with ⟨j,u,rfl,e⟩ | ⟨y,u,rfl,e⟩
      · exact nomatch e
      · injection e with e1 _;rw [e1]
  byValue:=fun k v h=>by
    rcases keyIs_shape h with ⟨i,t,rfl,rfl⟩ | ⟨x,t,rfl,rfl⟩<;>rfl
  pyHash:=fun hv h=>by
    rcases keyIs_shape hv with ⟨i,t,rfl,rfl⟩ | ⟨x,t,rfl,rfl⟩
    · exact wpAny_pyHash_int h
    · exact wpAny_pyHash_str h
  eqBool:=fun hu hv h=>by
    rcases keyIs_shape hu with ⟨i,t,rfl,rfl⟩ | ⟨x,t,rfl,rfl⟩
    · rcases keyIs_shape hv with ⟨j,u,rfl,rfl⟩ | ⟨y,u,rfl,rfl⟩
      · rw [key_ll] at h;exact wpAny_eqBool_int h
      · rw [key_lr] at h;exact SeqAt.EqAt.int_str i t y u _ _ _ _ h
    · rcases keyIs_shape hv with ⟨j,u,rfl,rfl⟩ | ⟨y,u,rfl,rfl⟩
      · rw [key_rl] at h;exact SeqAt.EqAt.str_int x t j u _ _ _ _ h
      · rw [key_rr] at h;exact wpAny_eqBool_str h
  «strs»:=fun k x t v h=>by
    rcases keyIs_shape h with ⟨i,u,rfl,e⟩ | ⟨y,u,rfl,e⟩
    · exact nomatch e
    · injection e with e1 _
      subst e1
      cases v<;>rfl
inductive V where
  | non | bl (b:Bool) | int (i:Int) | str (x:Str) | byt (b:Array UInt8) | flt (b:UInt64) | ref (a:Addr) | ty (n:String)
  deriving DecidableEq
def RelV:V→Value→Prop
  | .non,u=>u=Value.none
  | .bl b,u=>u=Value.bool b
  | .int i,u=>∃ t,u=Value.int i t
  | .str x,u=>∃ t,u=Value.str x t
  | .byt b,u=>∃ t,u=Value.bytes b t
  | .flt b,u=>∃ t,u=Value.float b t
  | .ref a,u=>u=Value.ref a
  | .ty n,u=>u=Value.type n
abbrev Vals:List V→List Value→Prop:=Paired RelV
theorem Vals.length {xs:List V} {us:List Value} (r:Vals xs us):xs.length=us.length:=Paired.length r
theorem Vals.get:∀ {xs:List V} {us:List Value} {i:Nat} {x:V},Vals xs us→xs[i]? = some x→∃ u,us[i]? = some u∧RelV x u
  | _,_,_,_,.nil,e=>by simp at e
  | _,_,0,_,.cons r _,e=>by simp at e;subst e;exact ⟨_,rfl,r⟩
  | _,_,i+1,x,.cons _ t,e=>by
    obtain ⟨u,h1,h2⟩:=Vals.get (i:=i) (x:=x) t (by simpa using e)
    exact ⟨u,by simpa using h1,h2⟩
theorem Vals.set {x:V} {u:Value} (r:RelV x u):∀ {xs:List V} {us:List Value} (i:Nat),Vals xs us→Vals (xs.set i x) (us.set i u)
  | _,_,_,.nil=>.nil
  | _,_,0,.cons _ t=>.cons r t
  | _,_,i+1,.cons q t=>.cons q (Vals.set r i t)
theorem Vals.append:∀ {xs ys:List V} {us ws:List Value},Vals xs us→Vals ys ws→Vals (xs++ys) (us++ws)
  | _,_,_,_,.nil,s=>s
  | _,_,_,_,.cons r t,s=>.cons r (Vals.append t s)
theorem Vals.take:∀ {xs:List V} {us:List Value} (n:Nat),Vals xs us→Vals (xs.take n) (us.take n)
  | _,_,0,_=>.nil
  | _,_,_+1,.nil=>.nil
  | _,_,n+1,.cons r t=>.cons r (Vals.take n t)
theorem Vals.drop:∀ {xs:List V} {us:List Value} (n:Nat),Vals xs us→Vals (xs.drop n) (us.drop n)
  | _,_,0,r=>r
  | _,_,_+1,.nil=>.nil
  | _,_,n+1,.cons _ t=>Vals.drop n t
def RelO:Option V→Option Value→Prop
  | some v,some u=>RelV v u
  | none,none=>True
  | _,_=>False
def KV {κ:Type}:List (κ×V)→List (κ×Value)→Prop:=Paired fun (p:κ×V) (q:κ×Value)=>p.1=q.1∧RelV p.2 q.2
def kV:Key→V
  | .inl i=>.int i
  | .inr x=>.str x
inductive HO where
  | lst (xs:List V)
  | tup (xs:List V)
  | dK (kvs:List (Key×V)) | dT (kvs:List (List Key×V))
  | set (S:Int→Bool) (n:Nat)
  | ins (C dx:Addr) (fs:List (Str×V))
  | own (x:Addr)
  | xd (fs:List (Str×V))
  | met (f x:Addr)
  | rng (lo hi:Int)
  | frz (o:Obj) (u:HO)
  | tbl (ps:Array Value)
  | ext (φ:Heap→Prop)
abbrev Hp:=Addr→Option HO
def upd (H:Hp) (a:Addr) (o:HO):Hp:=fun b=>if b=a then some o else H b
theorem upd_same {H:Hp} {a:Addr} {o:HO}:upd H a o a=some o:=by unfold upd;rw [if_pos rfl]
theorem upd_ne {H:Hp} {a b:Addr} {o:HO} (h:b≠a):upd H a o b=H b:=by unfold upd;rw [if_neg h]
theorem ne_of_none {H:Hp} {a b:Addr} {o:HO} (h:H a=some o) (h':H b=none):a≠b:=by
  intro e;subst e;rw [h] at h';cases h'
section
variable (P:Program) (w:World)
def ObjOk (H:Hp) (h:Heap) (a:Addr):HO→Prop
  | .lst xs=>xs.length≤sizeLine∧∃ (its:List Value) (n:Nat),Vals xs its∧h.get? a=some { cls:=.type "list",data:=.seq its.toArray n }
  | .tup xs=>xs.length≤sizeLine∧∃ its:List Value,Vals xs its∧IsTup h a its.toArray
  | .dK kvs=>kvs.length≤sizeLine∧(a == sysModules)=false∧∃ vs,KV kvs vs∧h.DictOf (mixKind P w) a vs
  | .dT kvs=>kvs.length≤sizeLine∧(a == sysModules)=false∧∃ xs:List (List Key×Addr×Value),
      Paired (fun (p:List Key×V) (q:List Key×Addr×Value)=>p.1=q.1∧H q.2.1=some (.tup (p.1.map kV))∧RelV p.2 q.2.2) kvs xs∧
      ∃ o es ep,h.get? a=some o∧o.ExactDict∧o.data = .dict es ep∧es.toList=xs.map (entryOfKey (tupleKind (mixKind P w)))∧(xs.map (·.1)).Nodup
  | .set S n=>h.SetOf (intKind P w) a S n
  | .ins C dx fs=>H dx=some (.own a)∧fs.length≤1000∧dx≠a∧h.get? a=some (PySem.W.instObj C dx)∧
      ∃ mA,h.Ns1 dx mA∧(∀ f,RelO (fs.lookup f) (mA f))∧PySem.Within mA (fs.map (·.1))
  | .own _=>∃ o,h.get? a=some o
  | .xd fs=>∃ mA,h.Ns1 a mA∧∀ f,RelO (fs.lookup f) (mA f)
  | .rng lo hi=>∃ t u v,h.get? a=some { cls:=.type "range",data:=.fields #[.int lo t,.int hi u,.int 1 v] }
  | .frz o u=>h.get? a=some o∧ObjOk H h a u
  | .tbl ps=>h.get? a=some { cls:=.none,data:=.fields ps }
  | .met f x=>h.get? a=some (PySem.W.methodObj (.ref f) (.ref x))
  | .ext φ=>φ h∧(∃ o,h.get? a=some o)∧∀ h1 h2:Heap,φ h1→(∀ o,h1.get? a=some o→h2.get? a=some o)→φ h2
def HOk (H:Hp) (h:Heap):Prop:=∀ a o,H a=some o→ObjOk P w H h a o
end
section
variable {P:Program} {w:World} {H H':Hp} {h h':Heap} {a:Addr} {o:HO}
theorem ObjOk.lt (x:ObjOk P w H h a o):a < h.objs.size:=by
  cases o with
  | lst xs=>obtain ⟨_,_,_,_,e⟩:=x;exact Heap.lt_size e
  | tup xs=>obtain ⟨_,_,_,p⟩:=x;exact p.lt
  | dK kvs=>obtain ⟨_,_,_,_,o,_,_,e,_⟩:=x;exact Heap.lt_size e
  | dT kvs=>obtain ⟨_,_,_,_,o,_,_,e,_⟩:=x;exact Heap.lt_size e
  | set S n=>obtain ⟨o,_,_,_,e,_⟩:=x;exact Heap.lt_size e
  | ins C dx fs=>obtain ⟨_,_,_,e,_⟩:=x;exact Heap.lt_size e
  | own y=>obtain ⟨_,e⟩:=x;exact Heap.lt_size e
  | xd fs=>obtain ⟨_,⟨_,_,_,e,_⟩,_⟩:=x;exact Heap.lt_size e
  | rng lo hi=>obtain ⟨_,_,_,e⟩:=x;exact Heap.lt_size e
  | frz ob u=>obtain ⟨e,_⟩:=x;exact Heap.lt_size e
  | tbl ps=>exact Heap.lt_size (show h.get? a=some _ from x)
  | met f y=>exact Heap.lt_size (show h.get? a=some _ from x)
  | ext φ=>obtain ⟨_,⟨_,e⟩,_⟩:=x;exact Heap.lt_size e
theorem Paired.mapP {α β:Type} {F G:α→β→Prop}:∀ {l₁:List α} {l₂:List β},Paired F l₁ l₂→(∀ a b,F a b→G a b)→Paired G l₁ l₂
  | _,_,.nil,_=>.nil
  | _,_,.cons r t,f=>.cons (f _ _ r) (Paired.mapP t f)
theorem ObjOk.stay (x:ObjOk P w H h a o) (k:∀ b u,(b=a∨H b=some (.own a))→h.get? b=some u→h'.get? b=some u)
    (ho:∀ b,H b=some (.own a)→H' b=some (.own a)) (ht:∀ b xs,H b=some (.tup xs)→H' b=some (.tup xs)):ObjOk P w H' h' a o:=by
  induction o with
  | lst xs=>obtain ⟨z,its,n,r,e⟩:=x;exact ⟨z,its,n,r,k _ _ (.inl rfl) e⟩
  | tup xs=>obtain ⟨z,its,r,ob,e,c⟩:=x;exact ⟨z,its,r,ob,k _ _ (.inl rfl) e,c⟩
  | dK kvs=>obtain ⟨z,y,vs,r,ob,es,ep,e,c⟩:=x;exact ⟨z,y,vs,r,ob,es,ep,k _ _ (.inl rfl) e,c⟩
  | dT kvs=>
    obtain ⟨z,y,xs,r,ob,es,ep,e,c⟩:=x
    exact ⟨z,y,xs,Paired.mapP r fun p q z=>⟨z.1,ht _ _ z.2.1,z.2.2⟩,ob,es,ep,k _ _ (.inl rfl) e,c⟩
  | set S n=>obtain ⟨ob,es,ep,t,e,c⟩:=x;exact ⟨ob,es,ep,t,k _ _ (.inl rfl) e,c⟩
  | ins C dx fs=>
    obtain ⟨d,z,ne,e,mA,⟨od,es,ep,e2,c⟩,r⟩:=x
    exact ⟨ho _ d,z,ne,k _ _ (.inl rfl) e,mA,⟨od,es,ep,k _ _ (.inr d) e2,c⟩,r⟩
  | own y=>obtain ⟨ob,e⟩:=x;exact ⟨ob,k _ _ (.inl rfl) e⟩
  | xd fs=>obtain ⟨mA,⟨od,es,ep,e,c⟩,r⟩:=x;exact ⟨mA,⟨od,es,ep,k _ _ (.inl rfl) e,c⟩,r⟩
  | rng lo hi=>obtain ⟨t,u,v,e⟩:=x;exact ⟨t,u,v,k _ _ (.inl rfl) e⟩
  | frz ob u ih=>obtain ⟨e,q⟩:=x;exact ⟨k _ _ (.inl rfl) e,ih q⟩
  | tbl ps=>
    have e:h.get? a=some { cls:=.none,data:=.fields ps }:=x
    show h'.get? a=some { cls:=.none,data:=.fields ps }
    exact k a _ (.inl rfl) e
  | met f y=>
    have e:h.get? a=some (PySem.W.methodObj (.ref f) (.ref y)):=x
    show h'.get? a=some (PySem.W.methodObj (.ref f) (.ref y))
    exact k a _ (.inl rfl) e
  | ext φ=>obtain ⟨p,⟨o,e⟩,st⟩:=x;exact ⟨st _ _ p fun o q=>k _ _ (.inl rfl) q,⟨o,k _ _ (.inl rfl) e⟩,st⟩
theorem HOk.lt (x:HOk P w H h) (e:H a=some o):a < h.objs.size:=(x a o e).lt
theorem HOk.fresh (x:HOk P w H h) (e:h.objs.size≤a):H a=none:=by
  cases q:H a with
  | none=>rfl
  | some u=>exact absurd (Nat.lt_of_lt_of_le (x.lt q) e) (Nat.lt_irrefl _)
theorem HOk.kept (x:HOk P w H h) (k:∀ b u,h.get? b=some u→h'.get? b=some u):HOk P w H h':=fun a o e=>
  (x a o e).stay (fun b u _ q=>k b u q) (fun _ q=>q) fun _ _ q=>q
theorem HOk.laid (x:HOk P w H h) (k:∀ b u,h.get? b=some u→h'.get? b=some u) (hp:h.objs.size≤a) (new:ObjOk P w (upd H a o) h' a o):HOk P w (upd H a o) h':=fun b u e=>by
  have hn:=x.fresh hp
  by_cases hb:b=a
  · subst hb;rw [upd_same] at e;cases e;exact new
  · rw [upd_ne hb] at e
    exact (x b u e).stay (fun c v _ q=>k c v q) (fun c q=>by rw [upd_ne (ne_of_none q hn)];exact q) fun c xs q=>by rw [upd_ne (ne_of_none q hn)];exact q
end
def Rd (H:Hp) (a:Addr) (u:HO):Prop:=H a=some u∨∃ o,H a=some (.frz o u)
theorem Rd.of {H:Hp} {a:Addr} {u:HO} (h:H a=some u):Rd H a u:=.inl h
theorem Rd.ok {P:Program} {w:World} {H:Hp} {h:Heap} {a:Addr} {u:HO} (r:Rd H a u) (x:HOk P w H h):ObjOk P w H h a u:=by
  rcases r with r | ⟨o,r⟩
  · exact x a u r
  · obtain ⟨_,q⟩:=x a _ r
    exact q
def Mut:Option HO→Prop
  | some (.lst _)=>True
  | some (.dK _)=>True
  | some (.dT _)=>True
  | some (.set _ _)=>True
  | some (.ins _ _ _)=>True
  | some (.ext _)=>True
  | _=>False
section
variable {P:Program} {w:World} {H:Hp} {h h':Heap} {x e:Addr} {o':HO}
theorem HOk.write (ok:HOk P w H h) (mu:Mut (H x)) (he:e=x∨H e=some (.own x)) (k:∀ b u,b≠e→h.get? b=some u→h'.get? b=some u) (heo:∃ u,h'.get? e=some u)
    (new:ObjOk P w (upd H x o') h' x o'):HOk P w (upd H x o') h':=fun b u q=>by
  have nown:∀ c y,H c=some (.own y)→c≠x:=fun c y r z=>by subst z;rw [r] at mu;exact mu
  have ntup:∀ c xs,H c=some (.tup xs)→c≠x:=fun c xs r z=>by subst z;rw [r] at mu;exact mu
  by_cases hb:b=x
  · subst hb;rw [upd_same] at q;cases q;exact new
  · rw [upd_ne hb] at q
    by_cases hbe:b=e
    · have q':H b=some (.own x):=by
        rcases he with z | z
        · exact absurd (hbe.trans z) hb
        · rw [hbe];exact z
      rw [q] at q';cases q'
      obtain ⟨v,hv⟩:=heo
      exact ⟨v,by rw [hbe];exact hv⟩
    · refine (ok b u q).stay (fun c v hc r=>k c v ?_ r) (fun c r=>by rw [upd_ne (nown c b r)];exact r) fun c xs r=>by rw [upd_ne (ntup c xs r)];exact r
      rcases hc with rfl | hc
      · exact hbe
      · rintro rfl
        rcases he with z | z
        · exact nown c b hc z
        · rw [hc] at z;cases z;exact hb rfl
end
structure Un (fs ex:List Addr) (H H':Hp) (h h':Heap):Prop where
  keep:∀ b o,h.get? b=some o→H b=none→b∉fs→b∉ex→h'.get? b=some o
  slot:∀ b o,h.get? b=some o→H b=none→b∈fs→b∉ex→∃ sl,h'.get? b=some { o with slots:=sl }
  free:∀ b o,h.get? b=some o→H b=none→b∉ex→H' b=none
  there:∀ b o,h.get? b=some o→b∉ex→∃ o',h'.get? b=some o'
  tups:∀ b xs,H b=some (.tup xs)→H' b=some (.tup xs)
  frzs:∀ b o u,H b=some (.frz o u)→H' b=some (.frz o u)
  tbls:∀ b ps,H b=some (.tbl ps)→∃ more,H' b=some (.tbl (ps++more))
  sys:mainGlobals∉ex→(∃ o,h.get? mainGlobals=some o)→(∀ xs,H sysModules≠some (.lst xs))→∀ xs,H' sysModules≠some (.lst xs)
section
variable {fs fs' ex ex':List Addr} {H H1 H2:Hp} {h h1 h2 h':Heap} {a x e:Addr} {o:HO}
theorem Un.any (u:Un fs ex H H1 h h1) {b:Addr} {ob:Obj} (q:h.get? b=some ob) (n:H b=none) (hx:b∉ex):∃ sl,h1.get? b=some { ob with slots:=sl }:=by
  by_cases hb:b∈fs
  · exact u.slot b ob q n hb hx
  · exact ⟨ob.slots,u.keep b ob q n hb hx⟩
theorem Un.trans (a:Un fs ex H H1 h h1) (b:Un fs ex H1 H2 h1 h2):Un fs ex H H2 h h2 where
  keep:=fun c ob q n hc hx=>b.keep c ob (a.keep c ob q n hc hx) (a.free c ob q n hx) hc hx
  slot:=fun c ob q n hc hx=>by
    obtain ⟨sl,e1⟩:=a.slot c ob q n hc hx
    obtain ⟨sl',e2⟩:=b.slot c _ e1 (a.free c ob q n hx) hc hx
    exact ⟨sl',e2⟩
  free:=fun c ob q n hx=>by
    obtain ⟨o',e1⟩:=a.there c ob q hx
    exact b.free c o' e1 (a.free c ob q n hx) hx
  there:=fun c ob q hx=>by
    obtain ⟨o',e1⟩:=a.there c ob q hx
    exact b.there c o' e1 hx
  tups:=fun c xs q=>b.tups c xs (a.tups c xs q)
  frzs:=fun c ob xs q=>b.frzs c ob xs (a.frzs c ob xs q)
  tbls:=fun c ps q=>by
    obtain ⟨m1,e1⟩:=a.tbls c ps q
    obtain ⟨m2,e2⟩:=b.tbls c _ e1
    exact ⟨m1++m2,by rw [e2,Array.append_assoc]⟩
  sys:=fun hx ⟨o,e⟩ n=>b.sys hx (a.there _ o e hx) (a.sys hx ⟨o,e⟩ n)
theorem Un.kept (k:∀ b u,h.get? b=some u→h'.get? b=some u):Un fs ex H H h h':=
  ⟨fun b ob q _ _ _=>k b ob q,fun b ob q _ _ _=>⟨ob.slots,k b ob q⟩,fun _ _ _ n _=>n,fun b ob q _=>⟨ob,k b ob q⟩,fun _ _ q=>q,fun _ _ _ q=>q,fun _ ps q=>⟨#[],by rw [q];simp⟩,fun _ _ n=>n⟩
theorem Un.refl:Un fs ex H H h h:=Un.kept fun _ _ q=>q
theorem Un.laid (k:∀ b u,h.get? b=some u→h'.get? b=some u) (hp:h.objs.size≤a) (hn:H a=none):Un fs ex H (upd H a o) h h' where
  keep:=fun b u q _ _ _=>k b u q
  slot:=fun b u q _ _ _=>⟨u.slots,k b u q⟩
  free:=fun b u q n _=>by rw [upd_ne (Nat.ne_of_lt (Nat.lt_of_lt_of_le (Heap.lt_size q) hp))];exact n
  there:=fun b u q _=>⟨u,k b u q⟩
  tups:=fun b xs q=>by rw [upd_ne (ne_of_none q hn)];exact q
  frzs:=fun b u xs q=>by rw [upd_ne (ne_of_none q hn)];exact q
  tbls:=fun b ps q=>⟨#[],by rw [upd_ne (ne_of_none q hn),q];simp⟩
  sys:=fun _ ⟨_,q⟩ n=>by rw [upd_ne (Nat.ne_of_lt (Nat.lt_of_lt_of_le (Nat.lt_trans (by decide) (Heap.lt_size q)) hp))];exact n
theorem Un.write (mu:Mut (H x)) (he:e=x∨H e=some (.own x)) (k:∀ b u,b≠e→h.get? b=some u→h'.get? b=some u) (heo:∃ u,h'.get? e=some u) (hk:(∃ us,H x=some (.lst us))∨∀ us,o≠.lst us):Un fs ex H (upd H x o) h h':=by
  have hx:∀ b,H b=none→b≠x:=fun b n z=>by subst z;rw [n] at mu;exact mu
  have hb:∀ b,H b=none→b≠e:=fun b n z=>by
    subst z
    rcases he with r | r
    · exact hx b n r
    · rw [n] at r;cases r
  have hm:∀ b u,H b=some u→¬ Mut (some u)→b≠x:=fun b u q nm z=>by subst z;rw [q] at mu;exact nm mu
  refine ⟨fun b u q n _ _=>k b u (hb b n) q,fun b u q n _ _=>⟨u.slots,k b u (hb b n) q⟩,fun b u q n _=>by rw [upd_ne (hx b n)];exact n,fun b u q _=>?_,
    fun b xs q=>by rw [upd_ne (hm b _ q fun z=>z)];exact q,fun b u xs q=>by rw [upd_ne (hm b _ q fun z=>z)];exact q,fun b ps q=>⟨#[],by rw [upd_ne (hm b _ q fun z=>z),q];simp⟩,fun _ _ n ys=>by
      by_cases z:sysModules=x
      · rw [z,upd_same]
        rcases hk with ⟨us,hk⟩ | hk
        · exact absurd (z ▸ hk) (n us)
        · exact fun y=>hk ys (Option.some.inj y)
      · rw [upd_ne z];exact n ys⟩
  by_cases hbe:b=e
  · subst hbe;exact heo
  · exact ⟨u,k b u hbe q⟩
theorem Un.mono (u:Un fs ex H H1 h h1) (hs:∀ b∈fs,b∈fs') (hx:∀ b∈ex,b∈ex'):Un fs' ex' H H1 h h1:=
  ⟨fun b ob q n hb he=>u.keep b ob q n (fun z=>hb (hs b z)) fun z=>he (hx b z),fun _ _ q n _ he=>u.any q n fun z=>he (hx _ z),fun b ob q n he=>u.free b ob q n fun z=>he (hx b z),fun b ob q he=>u.there b ob q fun z=>he (hx b z),u.tups,u.frzs,u.tbls,fun he=>u.sys fun z=>he (hx _ z)⟩
end
def trk (h:Heap) (H:Hp):List Addr:=(List.range h.objs.size).filter fun a=>(H a).isSome
def hidT (h:Heap) (H:Hp):Heap:=PySem.W.hideAll h (trk h H)
theorem hidT_size (h:Heap) (H:Hp):(hidT h H).objs.size=h.objs.size:=PySem.W.hideAll_size _ _
theorem hidT_get {h:Heap} {H:Hp} {b:Addr} {o:Obj} (e:h.get? b=some o) (n:H b=none):(hidT h H).get? b=some o:=
  PySem.W.hideAll_get _ e fun hm=>by
    have q:(H b).isSome=true:=(List.mem_filter.mp hm).2
    rw [n] at q;simp at q
theorem of_hidT {h:Heap} {H:Hp} {b:Addr} {o:Obj} (e:(hidT h H).get? b=some o):h.get? b=some o∧H b=none:=by
  have e':h.get? b=some o:=PySem.W.of_hideAll (trk h H) e
  refine ⟨e',?_⟩
  cases q:H b with
  | none=>rfl
  | some x=>
    have hm:b∈trk h H:=List.mem_filter.mpr ⟨List.mem_range.mpr (Heap.lt_size e'),by simp [q]⟩
    have z:(hidT h H).get? b=none:=PySem.W.hideAll_none (trk h H) hm
    rw [z] at e;cases e
def allNews (g h:Heap) (L:Addr):List (Addr×Obj):=(List.range h.objs.size).filterMap fun a=>if a=L∨(g.get? a).isSome=true then none else (h.get? a).map fun o=>(a,o)
def rest (g h:Heap) (L d:Addr):List (Addr×Obj):=(allNews g h L).filter fun p=>decide (p.1≠d)
structure Mod (K:PySem.W.Frag) (mg:Str→Option Value) (base:Heap):Prop where
  kin:K.In base
  glob:base.Ns mainGlobals mg
  blt:∃ mb,base.Ns builtinsNs mb∧∀ x:Str,x≠ "__name__" →mb x=bootBuiltins x
  nolimit:base.NoLimit
structure Cx where
  prog:Program
  w:World
  K:PySem.W.Frag
  mg:Str→Option Value
  base:Heap
  A:Around
  N:List Str
  s₀:Shared
  H₀:Hp
  env:Env
  outer:List Env
  stack:List Env
  ex:List Addr
  fn:Str→Bool
  calm:Bool
  pn:List (Addr×Obj)
  xe:Value→Shared→Prop
def frs (l:List Env):List Addr:=l.filterMap (·.frame)
abbrev Cx.fs (X:Cx):List Addr:=frs X.outer
def Vis (sc:Scope) (x:Str):Prop:=sc.names.lookup x=some .local∨sc.names.lookup x=some .cell∨sc.names.lookup x=some .free
def Loc (sc:Scope) (x:Str):Prop:=sc.names.lookup x=some .local∨sc.names.lookup x=some .cell
def Look (env:Env) (h:Heap) (m:Str→Option Value) (x:Str) (u:Value):Prop:=
  (env.kindOf x=some .local∧m x=some u)∨((env.kindOf x=some .cell∨env.kindOf x=some .free)∧∃ c,env.cells.lookup x=some c∧h.IsCell c (some u))
structure Cx.Ok (X:Cx):Prop where
  mod:Mod X.K X.mg X.base
  kind:X.env.scope.kind = .function
  glob:X.env.globals=mainGlobals
  blt:X.env.builtins=builtinsNs
  above:X.s₀.heap.objs.size≤X.env.locals
  inj:∀ x y c,X.env.cells.lookup x=some c→X.env.cells.lookup y=some c→x=y
  has:∀ x,(X.env.kindOf x=some .cell∨X.env.kindOf x=some .free)→∃ c,X.env.cells.lookup x=some c
  cab:∀ x c,X.fn x=true→X.env.cells.lookup x=some c→X.s₀.heap.objs.size≤c
  hd:X.calm=true→X.A.handled=none
  frames:X.A.frames=some X.stack
  stk:X.stack=X.outer∨(X.stack=X.env::X.outer∧X.env.frame=some X.env.locals)
  exf:∀ b∈X.ex,b≠X.env.locals∧∀ x c,X.env.cells.lookup x=some c→c≠b
  bs:∀ b o,X.base.get? b=some o→X.s₀.heap.get? b=some o∧X.H₀ b=none
  bsz:X.base.objs.size≤X.s₀.heap.objs.size
  noex:∀ b o,X.base.get? b=some o→b∉X.ex
  exfs:∀ b∈X.ex,b∉X.fs
  funs:X.s₀.heap.FunFrames X.base X.outer
  frf:∀ b∈X.fs,X.H₀ b=none
  sys0:∀ xs,X.H₀ sysModules≠some (.lst xs)
structure Inv (X:Cx) (pins:List (Addr×Obj)) (σ:List (Option V)) (H:Hp) (s:Shared):Prop where
  ok:X.Ok
  os:s.os=X.s₀.os
  bare:AllBare s.gens
  base:Un X.fs X.ex X.H₀ H X.s₀.heap s.heap
  loc:∃ m,s.heap.Ns X.env.locals m∧∀ (i:Nat) (x:Str) (v:V),X.N[i]? = some x→σ[i]? = some (some v)→Vis X.env.scope x→∃ u,RelV v u∧Look X.env s.heap m x u
  cell:∀ x c,X.env.cells.lookup x=some c→∃ v,s.heap.IsCell c v
  free:H X.env.locals=none
  freeC:∀ x c,X.env.cells.lookup x=some c→H c=none
  pin:∀ p∈X.pn++pins,s.heap.get? p.1=some p.2∧H p.1=none∧p.1≠X.env.locals∧p.1∉X.fs∧∀ v,p.2.data≠.cell v
  hok:HOk X.prog X.w H s.heap
  len:σ.length=X.N.length
section
variable {X:Cx} {pins:List (Addr×Obj)} {σ:List (Option V)} {H H':Hp} {s:Shared} {h':Heap}
theorem Cx.Ok.nofr (ok:X.Ok) {b:Addr} {o:Obj} (e:X.base.get? b=some o):b∉X.fs:=fun hb=>by
  have:=(ok.funs.mem hb).1
  rw [e] at this;cases this
theorem Inv.bs (I:Inv X pins σ H s):∀ b o,X.base.get? b=some o→s.heap.get? b=some o∧H b=none:=fun b o e=>
  ⟨I.base.keep b o (I.ok.bs b o e).1 (I.ok.bs b o e).2 (I.ok.nofr e) (I.ok.noex b o e),I.base.free b o (I.ok.bs b o e).1 (I.ok.bs b o e).2 (I.ok.noex b o e)⟩
theorem Inv.bk (I:Inv X pins σ H s):∀ b o,X.base.get? b=some o→s.heap.get? b=some o:=fun b o e=>(I.bs b o e).1
theorem Inv.mod (I:Inv X pins σ H s):Mod X.K X.mg X.base:=I.ok.mod
theorem Inv.hasG (I:Inv X pins σ H s):∃ o,s.heap.get? mainGlobals=some o:=by
  obtain ⟨o,_,_,e,_⟩:=I.ok.mod.glob
  exact ⟨o,I.bk _ _ e⟩
theorem Inv.sysn (I:Inv X pins σ H s):∀ xs,H sysModules≠some (.lst xs):=by
  obtain ⟨o,_,_,e,_⟩:=I.ok.mod.glob
  exact I.base.sys (I.ok.noex _ _ e) ⟨o,(I.ok.bs _ _ e).1⟩ I.ok.sys0
theorem Inv.kIn (I:Inv X pins σ H s):X.K.In s.heap:=I.ok.mod.kin.keeps I.bk
theorem Inv.fr (I:Inv X pins σ H s):∃ m,Fr X.base X.env.locals s.heap m:=
  let ⟨m,hn,_⟩:=I.loc
  ⟨m,hn,I.bk,Nat.le_trans I.ok.bsz I.ok.above⟩
theorem Inv.lt (I:Inv X pins σ H s):X.env.locals < s.heap.objs.size:=let ⟨_,hn,_⟩:=I.loc;hn.lt
theorem Inv.sz (I:Inv X pins σ H s):X.s₀.heap.objs.size≤s.heap.objs.size:=Nat.le_trans I.ok.above (Nat.le_of_lt I.lt)
theorem Inv.nofs (I:Inv X pins σ H s) {a:Addr} (h:s.heap.objs.size≤a):a∉X.fs:=fun hb=>by
  obtain ⟨_,o,ho,_⟩:=I.ok.funs.mem hb
  exact absurd (Nat.lt_of_lt_of_le (Heap.lt_size ho) (Nat.le_trans I.sz h)) (Nat.lt_irrefl _)
theorem Inv.cne (I:Inv X pins σ H s):∀ x c,X.env.cells.lookup x=some c→c≠X.env.locals:=fun x c e z=>by
  obtain ⟨v,o,ho,hd⟩:=I.cell x c e
  obtain ⟨m,⟨o',es,ep,ho',hd',_⟩,_⟩:=I.loc
  rw [z,ho'] at ho;cases ho;rw [hd'] at hd;cases hd
theorem Inv.funs (I:Inv X pins σ H s):s.heap.FunFrames X.base X.outer:=by
  have all:∀ (l:List Env),(∀ b∈frs l,b∈X.fs)→X.s₀.heap.FunFrames X.base l→s.heap.FunFrames X.base l:=by
    intro l
    induction l with
    | nil=>intro _ _;trivial
    | cons env r ih=>
      intro hs hl
      obtain ⟨hk,⟨L,o,hf,hn,ho,hd⟩,hr⟩:=hl
      have hL:L∈X.fs:=hs L (by unfold frs;rw [List.filterMap_cons,hf];exact List.mem_cons_self)
      obtain ⟨sl,e⟩:=I.base.slot L o ho (I.ok.frf L hL) hL fun z=>I.ok.exfs L z hL
      exact ⟨hk,⟨L,_,hf,hn,e,hd⟩,ih (fun b hb=>hs b (by unfold frs;rw [List.filterMap_cons,hf];exact List.mem_cons_of_mem _ hb)) hr⟩
  exact all X.outer (fun _ hb=>hb) I.ok.funs
theorem Inv.stack (I:Inv X pins σ H s):s.heap.FunFrames X.base X.stack:=by
  rcases I.ok.stk with e | ⟨e,hf⟩
  · rw [e];exact I.funs
  · rw [e]
    obtain ⟨m,hn,_⟩:=I.loc
    refine .cons (by rw [I.ok.kind];decide) hf hn ?_ I.funs
    exact Heap.get?_none_of_le (Nat.le_trans I.ok.bsz I.ok.above)
theorem Inv.stkSub (I:Inv X pins σ H s):∀ b∈frs X.stack,b∈X.env.locals::X.fs:=fun b hb=>by
  rcases I.ok.stk with e | ⟨e,hf⟩
  · rw [e] at hb;exact List.mem_cons_of_mem _ hb
  · rw [e] at hb
    unfold frs at hb
    rw [List.filterMap_cons,hf] at hb
    exact hb
theorem Inv.stkFree (I:Inv X pins σ H s):∀ b∈frs X.stack,H b=none:=fun b hb=>by
  rcases List.mem_cons.mp (I.stkSub b hb) with e | hb
  · rw [e];exact I.free
  · obtain ⟨_,o,ho,_⟩:=I.ok.funs.mem hb
    exact I.base.free b o ho (I.ok.frf b hb) fun z=>I.ok.exfs b z hb
theorem Inv.step {g':Array GenState} {t':Nat} {d':Drawn} {ch:List Addr} (I:Inv X pins σ H s)
    (hch:∀ b∈ch,(b∈X.ex∨X.s₀.heap.objs.size≤b)∧b≠X.env.locals∧(∀ x c,X.env.cells.lookup x=some c→c≠b)∧∀ p∈X.pn++pins,p.1≠b)
    (keep:∀ b o,b≠X.env.locals→b∉X.fs→b∉ch→s.heap.get? b=some o→H b=none→h'.get? b=some o)
    (slot:∀ b o,b≠X.env.locals→b∈X.fs→b∉ch→s.heap.get? b=some o→H b=none→∃ sl,h'.get? b=some { o with slots:=sl }) (free:∀ b o,b∉ch→s.heap.get? b=some o→H b=none→H' b=none)
    (there:∀ b o,b∉ch→s.heap.get? b=some o→∃ o',h'.get? b=some o')
    (tups:∀ b xs,H b=some (.tup xs)→H' b=some (.tup xs)) (frzs:∀ b o u,H b=some (.frz o u)→H' b=some (.frz o u)) (tbls:∀ b ps,H b=some (.tbl ps)→∃ more,H' b=some (.tbl (ps++more)))
    (ns:∀ m,s.heap.Ns X.env.locals m→h'.Ns X.env.locals m) (hok:HOk X.prog X.w H' h') (hg:AllBare g') (sy:(∀ xs,H sysModules≠some (.lst xs))→∀ xs,H' sysModules≠some (.lst xs)) :
    Inv X pins σ H' { s with heap:=h',gens:=g',drawn:=d',toks:=t' }:=by
  have neL:∀ b o,X.s₀.heap.get? b=some o→b≠X.env.locals:=fun b o e=>Nat.ne_of_lt (Nat.lt_of_lt_of_le (Heap.lt_size e) I.ok.above)
  have neC:∀ b o,X.s₀.heap.get? b=some o→b∉X.ex→b∉ch:=fun b o e hx hb=>by
    rcases (hch b hb).1 with z | z
    · exact hx z
    · exact absurd (Nat.lt_of_lt_of_le (Heap.lt_size e) z) (Nat.lt_irrefl _)
  have cellK:∀ x c,X.env.cells.lookup x=some c→∀ v,s.heap.IsCell c v→h'.IsCell c v:=fun x c e v ⟨o,ho,hd⟩=>by
    have nch:c∉ch:=fun z=>(hch c z).2.2.1 x c e rfl
    by_cases hc:c∈X.fs
    · obtain ⟨sl,q⟩:=slot c o (I.cne x c e) hc nch ho (I.freeC x c e)
      exact ⟨_,q,hd⟩
    · exact ⟨o,keep c o (I.cne x c e) hc nch ho (I.freeC x c e),hd⟩
  refine ⟨I.ok,I.os,hg,⟨fun b o e n hb hx=>?_,fun b o e n hb hx=>?_,fun b o e n hx=>?_,fun b o e hx=>?_,fun b xs e=>tups b xs (I.base.tups b xs e),fun b o xs e=>frzs b o xs (I.base.frzs b o xs e),fun b ps e=>?_,fun x0 e0 n=>sy (I.base.sys x0 e0 n)⟩,?_,fun x c e=>?_,?_,fun x c e=>?_,fun p hp=>?_,hok,I.len⟩
  · exact keep b o (neL b o e) hb (neC b o e hx) (I.base.keep b o e n hb hx) (I.base.free b o e n hx)
  · obtain ⟨sl,e1⟩:=I.base.slot b o e n hb hx
    obtain ⟨sl',e2⟩:=slot b _ (neL b o e) hb (neC b o e hx) e1 (I.base.free b o e n hx)
    exact ⟨sl',e2⟩
  · obtain ⟨o',e1⟩:=I.base.there b o e hx
    exact free b o' (neC b o e hx) e1 (I.base.free b o e n hx)
  · obtain ⟨o',e1⟩:=I.base.there b o e hx
    exact there b o' (neC b o e hx) e1
  · obtain ⟨m1,e1⟩:=I.base.tbls b ps e
    obtain ⟨m2,e2⟩:=tbls b _ e1
    exact ⟨m1++m2,by rw [e2,Array.append_assoc]⟩
  · obtain ⟨m,hn,hl⟩:=I.loc
    refine ⟨m,ns m hn,fun i x v e1 e2 e3=>?_⟩
    obtain ⟨u,r,l⟩:=hl i x v e1 e2 e3
    refine ⟨u,r,?_⟩
    rcases l with l | ⟨k,c,e,z⟩
    · exact .inl l
    · exact .inr ⟨k,c,e,cellK x c e _ z⟩
  · obtain ⟨v,z⟩:=I.cell x c e
    exact ⟨v,cellK x c e v z⟩
  · obtain ⟨m,⟨o,_,_,ho,_⟩,_⟩:=I.loc
    exact free _ o (fun z=>(hch _ z).2.1 rfl) ho I.free
  · obtain ⟨v,o,ho,hd⟩:=I.cell x c e
    exact free c o (fun z=>(hch c z).2.2.1 x c e rfl) ho (I.freeC x c e)
  · obtain ⟨e,n,ne,nf,d⟩:=I.pin p hp
    have nch:p.1∉ch:=fun z=>(hch p.1 z).2.2.2 p hp rfl
    exact ⟨keep p.1 p.2 ne nf nch e n,free p.1 p.2 nch e n,ne,nf,d⟩
theorem Inv.un {t':Nat} (I:Inv X pins σ H s) (u:Un X.fs [] H H' s.heap h') (hok:HOk X.prog X.w H' h'):Inv X pins σ H' { s with heap:=h',toks:=t' }:=by
  obtain ⟨m,⟨o,es,ep,ho,r⟩,_⟩:=id I.loc
  obtain ⟨sl,hL⟩:=u.any ho I.free (by simp)
  exact I.step (g':=s.gens) (d':=s.drawn) (ch:=[]) (fun _ z=>nomatch z) (fun b o _ hb _ e n=>u.keep b o e n hb (by simp)) (fun b o _ hb _ e n=>u.slot b o e n hb (by simp)) (fun b o _ e n=>u.free b o e n (by simp)) (fun b o _ e=>u.there b o e (by simp)) u.tups u.frzs u.tbls (fun m' hm=>by
    obtain ⟨o',es',ep',ho',r'⟩:=hm
    rw [ho] at ho';cases ho'
    exact ⟨_,es',ep',hL,r'⟩) hok I.bare (u.sys (by simp) I.hasG)
theorem Inv.call {g':Array GenState} {t':Nat} {d':Drawn} {ch:List Addr} (I:Inv X pins σ H s) (u:Un (frs X.stack) ch H H' s.heap h') (hok:HOk X.prog X.w H' h') (hg:AllBare g')
    (hch:∀ b∈ch,(b∈X.ex∨X.s₀.heap.objs.size≤b)∧b≠X.env.locals∧(∀ x c,X.env.cells.lookup x=some c→c≠b)∧∀ p∈X.pn++pins,p.1≠b) :
    Inv X pins σ H' { s with heap:=h',gens:=g',drawn:=d',toks:=t' }:=by
  obtain ⟨m,⟨o,es,ep,ho,r⟩,_⟩:=id I.loc
  obtain ⟨sl,hL⟩:=u.any ho I.free fun z=>(hch _ z).2.1 rfl
  exact I.step (ch:=ch) hch (fun b o hL hb hc e n=>u.keep b o e n (fun z=>(List.mem_cons.mp (I.stkSub b z)).elim hL hb) hc) (fun b o _ _ hc e n=>u.any e n hc) (fun b o hc e n=>u.free b o e n hc) (fun b o hc e=>u.there b o e hc) u.tups u.frzs u.tbls (fun m' hm=>by
    obtain ⟨o',es',ep',ho',r'⟩:=hm
    rw [ho] at ho';cases ho'
    exact ⟨_,es',ep',hL,r'⟩) hok hg (u.sys (fun z=>by
      obtain ⟨o0,_,_,e0,_⟩:=I.ok.mod.glob
      rcases (hch _ z).1 with y | y
      · exact I.ok.noex _ _ e0 y
      · exact absurd (Nat.lt_of_lt_of_le (Heap.lt_size (I.ok.bs _ _ e0).1) y) (Nat.lt_irrefl _)) I.hasG)
theorem Inv.turned {t':Nat} {it:Addr} (I:Inv X pins σ H s) (k:∀ b o,b≠it→s.heap.get? b=some o→h'.get? b=some o) (hn:H it=none) (hL:it≠X.env.locals)
    (h1:it∈X.ex∨X.s₀.heap.objs.size≤it) (h2:∀ x c,X.env.cells.lookup x=some c→c≠it) (h3:∀ p∈X.pn++pins,p.1≠it):Inv X pins σ H { s with heap:=h',toks:=t' }:=by
  have nit:∀ b u,H b=some u→b≠it:=fun b u e z=>by rw [z,hn] at e;cases e
  refine I.step (g':=s.gens) (d':=s.drawn) (ch:=[it]) (fun b hb=>?_) (fun b o _ _ hc e _=>k b o (fun z=>hc (by simp [z])) e) (fun b o _ _ hc e _=>⟨o.slots,k b o (fun z=>hc (by simp [z])) e⟩) (fun _ _ _ _ n=>n)
    (fun b o hc e=>⟨o,k b o (fun z=>hc (by simp [z])) e⟩) (fun _ _ e=>e) (fun _ _ _ e=>e) (fun b ps e=>⟨#[],by rw [e];simp⟩) (fun m hm=>?_) (fun b u e=>?_) I.bare (fun n=>n)
  · have e:b=it:=by simpa using hb
    subst e
    exact ⟨h1,hL,h2,h3⟩
  · obtain ⟨o,es,ep,ho,r⟩:=hm
    exact ⟨o,es,ep,k _ o (Ne.symm hL) ho,r⟩
  · refine (I.hok b u e).stay (fun c v hc q=>k c v ?_ q) (fun _ q=>q) fun _ _ q=>q
    rcases hc with z | z
    · rw [z];exact nit b u e
    · exact nit c _ z
theorem Inv.tok (I:Inv X pins σ H s) (t:Nat):Inv X pins σ H { s with toks:=t }:=I.un (h':=s.heap) (t':=t) Un.refl I.hok
theorem Inv.kept {t':Nat} (I:Inv X pins σ H s) (k:∀ b u,s.heap.get? b=some u→h'.get? b=some u):Inv X pins σ H { s with heap:=h',toks:=t' }:=I.un (Un.kept k) (I.hok.kept k)
theorem Inv.laid {a:Addr} {o:HO} {t':Nat} (I:Inv X pins σ H s) (k:∀ b u,s.heap.get? b=some u→h'.get? b=some u) (hp:s.heap.objs.size≤a) (new:ObjOk X.prog X.w (upd H a o) h' a o) :
    Inv X pins σ (upd H a o) { s with heap:=h',toks:=t' }:=I.un (Un.laid k hp (I.hok.fresh hp)) (I.hok.laid k hp new)
theorem Inv.write {x e:Addr} {o:HO} {t':Nat} (I:Inv X pins σ H s) (mu:Mut (H x)) (he:e=x∨H e=some (.own x)) (k:∀ b u,b≠e→s.heap.get? b=some u→h'.get? b=some u) (heo:∃ u,h'.get? e=some u)
    (new:ObjOk X.prog X.w (upd H x o) h' x o) (hk:(∃ us,H x=some (.lst us))∨∀ us,o≠.lst us):Inv X pins σ (upd H x o) { s with heap:=h',toks:=t' }:=I.un (Un.write mu he k heo hk) (I.hok.write mu he k heo new)
theorem Inv.pins_of {pins':List (Addr×Obj)} (I:Inv X pins σ H s) (h:∀ p∈pins',s.heap.get? p.1=some p.2∧H p.1=none∧p.1≠X.env.locals∧p.1∉X.fs∧∀ v,p.2.data≠.cell v):Inv X pins' σ H s:=
  ⟨I.ok,I.os,I.bare,I.base,I.loc,I.cell,I.free,I.freeC,fun p hp=>(List.mem_append.mp hp).elim (fun z=>I.pin p (List.mem_append_left _ z)) (h p),I.hok,I.len⟩
theorem nodup_ix {N:List Str} (hN:N.Nodup) {i j:Nat} {x:Str} (a:N[i]? = some x) (b:N[j]? = some x):i=j:=by
  obtain ⟨h1,e1⟩:=List.getElem?_eq_some_iff.mp a
  obtain ⟨h2,e2⟩:=List.getElem?_eq_some_iff.mp b
  exact (List.getElem_inj hN).mp (e1.trans e2.symm)
theorem store_ok2 {M:Model} {A:Around} {E:Value→Shared→Prop} {i:Nat} {x:Str} {v:V} {u:Value} {Q:Unit→Shared→Prop} (I:Inv X pins σ H s) (hN:X.N.Nodup) (hi:X.N[i]? = some x) (hx:Loc X.env.scope x) (r:RelV v u)
    (h:∀ s',Inv X pins (σ.set i (some v)) H s'→(∃ a,Heap.SameBut a s.heap s'.heap∧(a=X.env.locals∨X.env.cells.lookup x=some a))→Q () s') (hf:X.fn x=true∨X.env.scope.names.lookup x=some .local:=by first | exact .inl rfl | exact .inr rfl | assumption):wpAny M A (storeName X.env x u) Q E s:=by
  obtain ⟨m,hn,hl⟩:=id I.loc
  have hcls:(X.env.scope.kind == .class || (X.env.scope.kind == .module && X.env.locals != X.env.globals))=false:=by rw [I.ok.kind];rfl
  have hiσ:i < σ.length:=by rw [I.len];exact (List.getElem?_eq_some_iff.mp hi).1
  have cne:=I.cne
  have tracked:∀ {a:Addr} {h':Heap},(∃ o,s.heap.get? a=some o∧H a=none)→Heap.SameBut a s.heap h'→HOk X.prog X.w H h':=fun {a h'} ha hs b ob e=>by
    obtain ⟨_,_,hfree⟩:=ha
    refine (I.hok b ob e).stay (fun c w' hc q=>(hs.2 c ?_).trans q) (fun _ q=>q) fun _ _ q=>q
    rintro rfl
    rcases hc with rfl | hc
    · rw [hfree] at e;cases e
    · rw [hfree] at hc;cases hc
  rcases hx with hk | hk
  · refine wpAny_storeName_local hk hn (fun h' hn' hs=>?_) hcls
    obtain ⟨oL,_,_,hoL,_⟩:=id hn
    refine h _ ⟨I.ok,I.os,I.bare,⟨fun b o e n hb hx=>?_,fun b o e n hb hx=>?_,I.base.free,fun b o e hx=>?_,I.base.tups,I.base.frzs,I.base.tbls,I.base.sys⟩,⟨_,hn',fun j y v' e1 e2 e3=>?_⟩,fun y c e=>?_,I.free,I.freeC,fun p hp=>?_,tracked ⟨oL,hoL,I.free⟩ hs,by simpa using I.len⟩ ⟨_,hs,.inl rfl⟩
    · exact (hs.2 b (Nat.ne_of_lt (Nat.lt_of_lt_of_le (Heap.lt_size e) I.ok.above))).trans (I.base.keep b o e n hb hx)
    · obtain ⟨sl,e1⟩:=I.base.slot b o e n hb hx
      exact ⟨sl,(hs.2 b (Nat.ne_of_lt (Nat.lt_of_lt_of_le (Heap.lt_size e) I.ok.above))).trans e1⟩
    · obtain ⟨o',e1⟩:=I.base.there b o e hx
      exact ⟨o',(hs.2 b (Nat.ne_of_lt (Nat.lt_of_lt_of_le (Heap.lt_size e) I.ok.above))).trans e1⟩
    · by_cases hj:j=i
      · subst hj
        rw [hi] at e1;cases e1
        rw [List.getElem?_set_self hiσ] at e2
        cases e2
        exact ⟨u,r,.inl ⟨hk,by simp⟩⟩
      · rw [List.getElem?_set_ne (Ne.symm hj)] at e2
        obtain ⟨u',r',q⟩:=hl j y v' e1 e2 e3
        refine ⟨u',r',?_⟩
        rcases q with ⟨k,e⟩ | ⟨k,c,e,z⟩
        · refine .inl ⟨k,?_⟩
          have:y≠x:=fun e=>hj (nodup_ix hN e1 (e ▸ hi))
          simp [this,e]
        · exact .inr ⟨k,c,e,z.sameBut hs (cne y c e)⟩
    · obtain ⟨w',z⟩:=I.cell y c e
      exact ⟨w',z.sameBut hs (cne y c e)⟩
    · obtain ⟨e,n,ne,nf,d⟩:=I.pin p hp
      exact ⟨(hs.2 p.1 ne).trans e,n,ne,nf,d⟩
  · have hfn:X.fn x=true:=by
      rcases hf with z | z
      · exact z
      · rw [z] at hk;cases hk
    obtain ⟨c,hc⟩:=I.ok.has x (.inl hk)
    obtain ⟨w',z⟩:=I.cell x c hc
    refine wpAny_storeName_cell I.ok.kind hk hc z (fun h' hc' hs=>?_)
    obtain ⟨oc,hoc,hocd⟩:=id z
    refine h { s with heap:=h' } ⟨I.ok,I.os,I.bare,⟨fun b o e n hb hx=>?_,fun b o e n hb hx=>?_,I.base.free,fun b o e hx=>?_,I.base.tups,I.base.frzs,I.base.tbls,I.base.sys⟩,⟨m,hn.sameBut hs (Ne.symm (cne x c hc)),fun j y v' e1 e2 e3=>?_⟩,fun y c' e=>?_,I.free,I.freeC,fun p hp=>?_,tracked ⟨oc,hoc,I.freeC x c hc⟩ hs,by simpa using I.len⟩ ⟨c,hs,.inr hc⟩
    · exact (hs.2 b (Nat.ne_of_lt (Nat.lt_of_lt_of_le (Heap.lt_size e) (I.ok.cab x c hfn hc)))).trans (I.base.keep b o e n hb hx)
    · obtain ⟨sl,e1⟩:=I.base.slot b o e n hb hx
      exact ⟨sl,(hs.2 b (Nat.ne_of_lt (Nat.lt_of_lt_of_le (Heap.lt_size e) (I.ok.cab x c hfn hc)))).trans e1⟩
    · obtain ⟨o',e1⟩:=I.base.there b o e hx
      exact ⟨o',(hs.2 b (Nat.ne_of_lt (Nat.lt_of_lt_of_le (Heap.lt_size e) (I.ok.cab x c hfn hc)))).trans e1⟩
    · by_cases hj:j=i
      · subst hj
        rw [hi] at e1;cases e1
        rw [List.getElem?_set_self hiσ] at e2
        cases e2
        exact ⟨u,r,.inr ⟨.inl hk,c,hc,hc'⟩⟩
      · rw [List.getElem?_set_ne (Ne.symm hj)] at e2
        obtain ⟨u',r',q⟩:=hl j y v' e1 e2 e3
        refine ⟨u',r',?_⟩
        rcases q with q | ⟨k,c',e,z'⟩
        · exact .inl q
        · refine .inr ⟨k,c',e,z'.sameBut hs ?_⟩
          rintro rfl
          exact hj (nodup_ix hN e1 (I.ok.inj _ _ _ e hc ▸ hi))
    · by_cases hcc:c'=c
      · subst hcc;exact ⟨_,hc'⟩
      · obtain ⟨w2,z2⟩:=I.cell y c' e
        exact ⟨w2,z2.sameBut hs hcc⟩
    · obtain ⟨e,n,ne,nf,d⟩:=I.pin p hp
      refine ⟨(hs.2 p.1 ?_).trans e,n,ne,nf,d⟩
      intro q
      rw [q,hoc] at e
      have q':oc=p.2:=Option.some.inj e
      exact d w' (by rw [← q'];exact hocd)
theorem store_ok {M:Model} {A:Around} {E:Value→Shared→Prop} {i:Nat} {x:Str} {v:V} {u:Value} {Q:Unit→Shared→Prop} (I:Inv X pins σ H s) (hN:X.N.Nodup) (hi:X.N[i]? = some x) (hx:Loc X.env.scope x) (r:RelV v u)
    (h:∀ s',Inv X pins (σ.set i (some v)) H s'→Q () s') (hf:X.fn x=true∨X.env.scope.names.lookup x=some .local:=by first | exact .inl rfl | exact .inr rfl | assumption):wpAny M A (storeName X.env x u) Q E s:=
  store_ok2 I hN hi hx r (fun s' I' _=>h s' I') hf
theorem Inv.call' {s':Shared} {ch:List Addr} (I:Inv X pins σ H s) (ho:s'.os=s.os) (u:Un (frs X.stack) ch H H' s.heap s'.heap) (hok:HOk X.prog X.w H' s'.heap) (hg:AllBare s'.gens)
    (hch:∀ b∈ch,(b∈X.ex∨X.s₀.heap.objs.size≤b)∧b≠X.env.locals∧(∀ x c,X.env.cells.lookup x=some c→c≠b)∧∀ p∈X.pn++pins,p.1≠b):Inv X pins σ H' s':=by
  obtain ⟨h',g',d',t',o'⟩:=s'
  have e:o'=s.os:=ho
  subst e
  exact I.call (g':=g') (t':=t') (d':=d') u hok hg hch
end
abbrev XK:=Value→Option Addr→Hp→Prop
abbrev St:=List (Option V)
abbrev VK:=V→Hp→Prop
abbrev TE:=St→Hp→VK→Prop
abbrev TT:=St→Hp→(Bool→Hp→Prop)→Prop
abbrev TA:=St→Hp→(List V→Hp→Prop)→Prop
structure Ends where
  nx:St→Hp→Prop
  rt:VK
  bk:St→Hp→Prop:=fun _ _=>False
  ct:St→Hp→Prop:=fun _ _=>False
abbrev TS:=Ends→St→Hp→Prop
def EP (X:Cx) (pins:List (Addr×Obj)) (σ:St) (Q:VK) (u:Value) (s':Shared):Prop:=∃ v H',Inv X pins σ H' s'∧RelV v u∧Q v H'
def TP (X:Cx) (pins:List (Addr×Obj)) (σ:St) (Q:Bool→Hp→Prop) (b:Bool) (s':Shared):Prop:=∃ H',Inv X pins σ H' s'∧Q b H'
def AP (X:Cx) (pins:List (Addr×Obj)) (σ:St) (Q:List V→Hp→Prop) (us:List Value) (s':Shared):Prop:=∃ vs H',Inv X pins σ H' s'∧Vals vs us∧Q vs H'
def SP (X:Cx) (pins:List (Addr×Obj)) (D:Ends) (f:Flow) (s':Shared):Prop:=
  match f with
  | .next=>∃ σ' H',Inv X pins σ' H' s'∧D.nx σ' H'
  | .brk=>∃ σ' H',Inv X pins σ' H' s'∧D.bk σ' H'
  | .cont=>∃ σ' H',Inv X pins σ' H' s'∧D.ct σ' H'
  | .ret u=>∃ v σ' H',Inv X pins σ' H' s'∧RelV v u∧D.rt v H'
def PE (X:Cx) (e:Expr) (t:TE):Prop:=
  ∀ (pins:List (Addr×Obj)) (s:Shared) (σ:St) (H:Hp) (Q:VK),Inv X pins σ H s→t σ H Q→wpAny (model X.prog X.w) X.A (eval e X.env) (EP X pins σ Q) X.xe s
def PT (X:Cx) (e:Expr) (t:TT):Prop:=
  ∀ (pins:List (Addr×Obj)) (s:Shared) (σ:St) (H:Hp) (Q:Bool→Hp→Prop),Inv X pins σ H s→t σ H Q→wpAny (model X.prog X.w) X.A (isTrue e X.env (eval e X.env)) (TP X pins σ Q) X.xe s
def PW (X:Cx) (e:Expr) (t:TT):Prop:=
  ∀ (whole:Sem Value) (pins:List (Addr×Obj)) (s:Shared) (σ:St) (H:Hp) (Q:Bool→Hp→Prop),Inv X pins σ H s→t σ H Q→wpAny (model X.prog X.w) X.A (isTrue e X.env whole) (TP X pins σ Q) X.xe s
theorem PW.pt {X:Cx} {e:Expr} {t:TT} (h:PW X e t):PT X e t:=h _
def PA (X:Cx) (es:List Expr) (t:TA):Prop:=
  ∀ (pos:Pos) (pins:List (Addr×Obj)) (s:Shared) (σ:St) (H:Hp) (Q:List V→Hp→Prop),Inv X pins σ H s→t σ H Q→wpAny (model X.prog X.w) X.A (spliced (backTo pos (starEach es X.env))) (AP X pins σ Q) X.xe s
def PS (X:Cx) (st:Stmt) (t:TS):Prop:=
  ∀ (pins:List (Addr×Obj)) (s:Shared) (σ:St) (H:Hp) (D:Ends),Inv X pins σ H s→t D σ H→wpAny (model X.prog X.w) X.A (exec st X.env) (SP X pins D) X.xe s
def PSs (X:Cx) (st:List Stmt) (t:TS):Prop:=
  ∀ (pins:List (Addr×Obj)) (s:Shared) (σ:St) (H:Hp) (D:Ends),Inv X pins σ H s→t D σ H→wpAny (model X.prog X.w) X.A (execs st X.env) (SP X pins D) X.xe s
theorem thn {α:Type} {t:Sem α} {Q Q':α→Shared→Prop} {M:Model} {A:Around} {E:Value→Shared→Prop} {s:Shared} (h:wpAny M A t Q E s) (hQ:∀ a s,Q a s→Q' a s):wpAny M A t Q' E s:=wpAny_mono h hQ fun _ _ x=>x
section
variable {X:Cx}
theorem bin {a b:Expr} {ta tb:TE} (ha:PE X a ta) (hb:PE X b tb) {pins:List (Addr×Obj)} {s:Shared} {σ:St} {H:Hp} {R:V→V→Hp→Prop} (I:Inv X pins σ H s) (h:ta σ H fun x H1=>tb σ H1 fun y H2=>R x y H2)
    {α:Type} {Q:α→Shared→Prop} {f:Value→Value→Sem α}
    (hf:∀ v u s2 x y H2,Inv X pins σ H2 s2→RelV x v→RelV y u→R x y H2→wpAny (model X.prog X.w) X.A (f v u) Q X.xe s2) :
    wpAny (model X.prog X.w) X.A (eval a X.env) (fun v s₁=>wpAny (model X.prog X.w) X.A (eval b X.env) (fun u s₂=>wpAny (model X.prog X.w) X.A (f v u) Q X.xe s₂) X.xe s₁) X.xe s:=by
  refine thn (ha pins s σ H _ I h) fun v s1 ⟨x,H1,I1,r1,q1⟩=>?_
  refine thn (hb pins s1 σ H1 _ I1 q1) fun u s2 ⟨y,H2,I2,r2,q2⟩=>?_
  exact hf v u s2 x y H2 I2 r1 r2 q2
def tVar (i:Nat):TE:=fun σ H Q=>∃ v,σ[i]? = some (some v)∧Q v H
def tC (v:V):TE:=fun _ H Q=>Q v H
theorem pe_var {i:Nat} {x:Str} {pos:Pos} (hN:X.N[i]? = some x) (hv:Vis X.env.scope x) (hd:(x == ("__debug__" : Str))=false:=by decide) (hcd:(x == ("__classdict__" : Str))=false:=by decide):PE X (.Name x pos) (tVar i):=by
  intro pins s σ H Q I h
  obtain ⟨v,e,h⟩:=h
  obtain ⟨m,hn,hl⟩:=I.loc
  obtain ⟨u,r,l⟩:=hl i x v hN e hv
  have fin:EP X pins σ Q u s:=⟨v,H,I,r,h⟩
  rcases l with ⟨hk,hm⟩ | ⟨hk,c,hc,hcell⟩
  · exact wpAny_Name (wpAny_loadName_local I.ok.kind hk hn hm fin) hd
  · rcases hk with hk | hk
    · exact wpAny_Name (wpAny_loadName_cell I.ok.kind hk hc hcell fin) hd
    · exact wpAny_Name (wpAny_loadName_free I.ok.kind hk hc hcell fin hcd) hd
theorem pe_int {i j pos}:PE X (.Constant (.int i) j pos) (tC (.int i)):=fun _ _ _ H _ I h=>wpAny_Constant_int ⟨.int i,H,I.tok _,⟨_,rfl⟩,h⟩
theorem pe_bl {b j pos}:PE X (.Constant (.bool b) j pos) (tC (.bl b)):=fun _ _ _ H _ I h=>Constant_bool ⟨.bl b,H,I,rfl,h⟩
theorem pe_non {j pos}:PE X (.Constant .none j pos) (tC .non):=fun _ _ _ H _ I h=>Constant_none ⟨.non,H,I,rfl,h⟩
theorem pe_str {x j pos}:PE X (.Constant (.str x) j pos) (tC (.str x)):=fun _ _ _ H _ I h=>Calls.Constant_str ⟨.str x,H,I.tok _,⟨_,rfl⟩,h⟩
def Gl (X:Cx) (x:Str):Prop:=X.env.kindOf x=some .globalImplicit
theorem ld_glob {E:Value→Shared→Prop} {pins:List (Addr×Obj)} {s:Shared} {σ:St} {H:Hp} {x:Str} {u:Value} {pos:Pos} {Q:Value→Shared→Prop} (I:Inv X pins σ H s) (hg:Gl X x) (hm:X.mg x=some u) (h:Q u s)
    (hd:(x == ("__debug__" : Str))=false:=by decide):wpAny (model X.prog X.w) X.A (eval (.Name x pos) X.env) Q E s:=
  Calls.Name_function_global I.ok.kind hg (Calls.loadGlobal_global (by rw [I.ok.glob];exact I.mod.glob.keeps I.bk) hm h) hd
theorem ld_blt {E:Value→Shared→Prop} {pins:List (Addr×Obj)} {s:Shared} {σ:St} {H:Hp} {x:Str} {u:Value} {pos:Pos} {Q:Value→Shared→Prop} (I:Inv X pins σ H s) (hg:Gl X x) (hm:X.mg x=none) (hv:bootBuiltins x=some u) (h:Q u s)
    (hn:x≠ "__name__" :=by decide) (hd:(x == ("__debug__" : Str))=false:=by decide):wpAny (model X.prog X.w) X.A (eval (.Name x pos) X.env) Q E s:=by
  obtain ⟨mb,h1,h2⟩:=I.mod.blt
  exact Calls.Name_function_global I.ok.kind hg (Calls.loadGlobal_builtin (by rw [I.ok.glob];exact I.mod.glob.keeps I.bk) hm (by rw [I.ok.blt];exact h1.keeps I.bk) ((h2 x hn).trans hv) h) hd
theorem pe_glob {x:Str} {v:V} {u:Value} {pos:Pos} (hg:Gl X x) (hm:X.mg x=some u) (r:RelV v u) (hd:(x == ("__debug__" : Str))=false:=by decide):PE X (.Name x pos) (tC v):=
  fun _ _ _ H _ I h=>ld_glob I hg hm ⟨v,H,I,r,h⟩ hd
theorem pe_bltn {x:Str} {v:V} {u:Value} {pos:Pos} (hg:Gl X x) (hm:X.mg x=none) (hv:bootBuiltins x=some u) (r:RelV v u) (hn:x≠ "__name__" :=by decide) (hd:(x == ("__debug__" : Str))=false:=by decide):PE X (.Name x pos) (tC v):=
  fun _ _ _ H _ I h=>ld_blt I hg hm hv ⟨v,H,I,r,h⟩ hn hd
variable {a b:Expr} {ta tb:TE} {pos:Pos}
variable {tA tB':TT} {rest:List Expr}
def tAnd (t u:TT):TT:=fun σ H Q=>t σ H fun c H1=>if c=true then u σ H1 Q else Q false H1
def tOr (t u:TT):TT:=fun σ H Q=>t σ H fun c H1=>if c=true then Q true H1 else u σ H1 Q
def tNot (t:TT):TT:=fun σ H Q=>t σ H fun c H1=>Q (!c) H1
theorem pw_and1 (ha:PT X a tA):PW X (.BoolOp .And [a] pos) tA:=by
  intro wh pins s σ H Q I h
  refine isTrue_and (thn (ha pins s σ H Q I h) fun c s1 e=>?_)
  cases c with
  | true=>exact isTrue_and_nil e
  | false=>exact e
theorem pw_or1 (ha:PT X a tA):PW X (.BoolOp .Or [a] pos) tA:=by
  intro wh pins s σ H Q I h
  refine isTrue_or (thn (ha pins s σ H Q I h) fun c s1 e=>?_)
  cases c with
  | false=>exact isTrue_or_nil e
  | true=>exact e
theorem pw_and (ha:PT X a tA) (hb:PW X (.BoolOp .And (b::rest) pos) tB'):PW X (.BoolOp .And (a::b::rest) pos) (tAnd tA tB'):=by
  intro wh pins s σ H Q I h
  refine isTrue_and (thn (ha pins s σ H _ I h) fun c s1 ⟨H1,I1,q1⟩=>?_)
  cases c with
  | true=>exact hb wh pins s1 σ H1 Q I1 q1
  | false=>exact ⟨H1,I1,q1⟩
theorem pw_or (ha:PT X a tA) (hb:PW X (.BoolOp .Or (b::rest) pos) tB'):PW X (.BoolOp .Or (a::b::rest) pos) (tOr tA tB'):=by
  intro wh pins s σ H Q I h
  refine isTrue_or (thn (ha pins s σ H _ I h) fun c s1 ⟨H1,I1,q1⟩=>?_)
  cases c with
  | true=>exact ⟨H1,I1,q1⟩
  | false=>exact hb wh pins s1 σ H1 Q I1 q1
theorem pt_not (ha:PT X a tA):PT X (.UnaryOp .Not a pos) (tNot tA):=by
  intro pins s σ H Q I h
  exact isTrue_not (ha pins s σ H (fun c H1=>Q (!c) H1) I h)
def tAndV (ta tb:TE):TE:=fun σ H Q=>ta σ H fun x H1=>∃ c,x = .bl c∧if c=true then tb σ H1 Q else Q (.bl false) H1
def tNotV (ta:TE):TE:=fun σ H Q=>ta σ H fun x H1=>∃ c,x = .bl c∧Q (.bl (!c)) H1
theorem pe_one {op} {t:TE} (h:PE X a t):PE X (.BoolOp op [a] pos) t:=fun pins s σ H Q I hw=>BoolOp_one (h pins s σ H Q I hw)
theorem pe_and (ha:PE X a ta) (hb:PE X (.BoolOp .And (b::rest) pos) tb):PE X (.BoolOp .And (a::b::rest) pos) (tAndV ta tb):=by
  intro pins s σ H Q I h
  refine BoolOp_and (thn (ha pins s σ H _ I h) fun v s1 ⟨x,H1,I1,r1,q1⟩=>?_)
  obtain ⟨c,rfl,q1⟩:=q1
  cases r1
  refine wpAny_truthy_bool ?_
  cases c with
  | true=>exact hb pins s1 σ H1 Q I1 q1
  | false=>exact ⟨.bl false,H1,I1,rfl,q1⟩
theorem pe_not (ha:PE X a ta):PE X (.UnaryOp .Not a pos) (tNotV ta):=by
  intro pins s σ H Q I h
  refine UnaryOp_ (thn (ha pins s σ H _ I h) fun v s1 ⟨x,H1,I1,r1,q1⟩=>?_)
  obtain ⟨c,rfl,q1⟩:=q1
  cases r1
  exact not_of (wpAny_truthy_bool ⟨.bl (!c),H1,I1,rfl,q1⟩)
def tIf (t:TT) (ta tb:TE):TE:=fun σ H Q=>t σ H fun c H1=>if c=true then ta σ H1 Q else tb σ H1 Q
theorem pe_ifExp {c:Expr} (hc:PT X c tA) (ha:PE X a ta) (hb:PE X b tb):PE X (.IfExp c a b pos) (tIf tA ta tb):=by
  intro pins s σ H Q I h
  refine wpAny_IfExp (thn (hc pins s σ H _ I h) fun d s1 ⟨H1,I1,q1⟩=>?_)
  cases d with
  | true=>exact ha pins s1 σ H1 Q I1 q1
  | false=>exact hb pins s1 σ H1 Q I1 q1
end
def SqL (K:PySem.W.Frag) (H:Hp) (a:Addr) (xs:List V):Prop:=
  Rd H a (.lst xs)∨
    ∃ (o:Obj) (its:Array Value) (n:Nat),K.lookup a=some o∧o.cls = .type "list" ∧o.dict=none∧o.data = .seq its n∧its.size≤sizeLine∧Vals xs its.toList
def SqT (K:PySem.W.Frag) (H:Hp) (a:Addr) (xs:List V):Prop:=
  Rd H a (.tup xs)∨
    ∃ (o:Obj) (its:Array Value) (n:Nat),K.lookup a=some o∧o.cls = .type "tuple" ∧o.data = .seq its n∧its.size≤sizeLine∧Vals xs its.toList
def absV:Value→Option V
  | .none=>some .non
  | .bool b=>some (.bl b)
  | .int i _=>some (.int i)
  | .str x _=>some (.str x)
  | .bytes b _=>some (.byt b)
  | .float b _=>some (.flt b)
  | .ref a=>some (.ref a)
  | .type n=>some (.ty n)
  | _=>none
theorem RelV.abs {x:V} {u:Value} (r:RelV x u):absV u=some x:=by
  cases x with
  | non=>cases r;rfl
  | bl _=>cases r;rfl
  | int _=>obtain ⟨t,rfl⟩:=r;rfl
  | str _=>obtain ⟨t,rfl⟩:=r;rfl
  | byt _=>obtain ⟨t,rfl⟩:=r;rfl
  | flt _=>obtain ⟨t,rfl⟩:=r;rfl
  | ref _=>cases r;rfl
  | ty _=>cases r;rfl
theorem RelV.inj {x y:V} {u:Value} (r:RelV x u) (q:RelV y u):x=y:=Option.some.inj (r.abs.symm.trans q.abs)
theorem Vals.inj:∀ {xs ys:List V} {us:List Value},Vals xs us→Vals ys us→xs=ys
  | _,_,_,.nil,.nil=>rfl
  | _,_,_,.cons r t,.cons r' t'=>by rw [r.inj r',Vals.inj t t']
section
variable {X:Cx} {pins:List (Addr×Obj)} {σ:St} {H:Hp} {s:Shared} {a:Addr} {xs ys:List V}
theorem SqL.of {K:PySem.W.Frag} (h:H a=some (.lst xs)):SqL K H a xs:=.inl (.inl h)
theorem SqT.of {K:PySem.W.Frag} (h:H a=some (.tup xs)):SqT K H a xs:=.inl (.inl h)
theorem Inv.list (I:Inv X pins σ H s) (h:SqL X.K H a xs):∃ its:List Value,Vals xs its∧PlainL s.heap a its.toArray∧xs.length≤sizeLine:=by
  rcases h with h | ⟨o,its,n,hk,hc,hd,hs,hz,r⟩
  · obtain ⟨z,its,n,r,e⟩:=h.ok I.hok
    exact ⟨its,r,⟨_,n,e,rfl,rfl,rfl⟩,z⟩
  · refine ⟨its.toList,r,⟨o,n,I.kIn a o hk,hc,hd,by simpa using hs⟩,?_⟩
    have e:=r.length
    simp only [Array.length_toList] at e
    omega
theorem Inv.tuple (I:Inv X pins σ H s) (h:SqT X.K H a xs):∃ its:List Value,Vals xs its∧IsTup s.heap a its.toArray∧xs.length≤sizeLine:=by
  rcases h with h | ⟨o,its,n,hk,hc,hs,hz,r⟩
  · obtain ⟨z,its,r,p⟩:=h.ok I.hok
    exact ⟨its,r,p,z⟩
  · refine ⟨its.toList,r,⟨o,I.kIn a o hk,hc,n,by simpa using hs⟩,?_⟩
    have e:=r.length
    simp only [Array.length_toList] at e
    omega
theorem Inv.list_inj (I:Inv X pins σ H s) (h:SqL X.K H a xs) (h':SqL X.K H a ys):xs=ys:=by
  obtain ⟨its,r,⟨o,n,e,_,_,d⟩,_⟩:=I.list h
  obtain ⟨its',r',⟨o',n',e',_,_,d'⟩,_⟩:=I.list h'
  rw [e] at e';cases e'
  rw [d] at d'
  injection d' with d1 _
  have:its=its':=by simpa using congrArg Array.toList d1
  subst this
  exact r.inj r'
theorem Inv.tuple_inj (I:Inv X pins σ H s) (h:SqT X.K H a xs) (h':SqT X.K H a ys):xs=ys:=by
  obtain ⟨its,r,⟨o,e,_,n,d⟩,_⟩:=I.tuple h
  obtain ⟨its',r',⟨o',e',_,n',d'⟩,_⟩:=I.tuple h'
  rw [e] at e';cases e'
  rw [d] at d'
  injection d' with d1 _
  have:its=its':=by simpa using congrArg Array.toList d1
  subst this
  exact r.inj r'
end
abbrev Cx.wish (X:Cx) (E:Value→Shared→Prop):Cx:={ X with xe:=E }
abbrev Cx.nox (X:Cx):Cx:=X.wish fun _ _=>False
theorem Cx.Ok.wish {X:Cx} (ok:X.Ok) (E:Value→Shared→Prop):(X.wish E).Ok:=
  ⟨ok.mod,ok.kind,ok.glob,ok.blt,ok.above,ok.inj,ok.has,ok.cab,ok.hd,ok.frames,ok.stk,ok.exf,ok.bs,ok.bsz,ok.noex,ok.exfs,ok.funs,ok.frf,ok.sys0⟩
theorem Cx.Ok.unwish {X:Cx} {E:Value→Shared→Prop} (ok:(X.wish E).Ok):X.Ok:=
  ⟨ok.mod,ok.kind,ok.glob,ok.blt,ok.above,ok.inj,ok.has,ok.cab,ok.hd,ok.frames,ok.stk,ok.exf,ok.bs,ok.bsz,ok.noex,ok.exfs,ok.funs,ok.frf,ok.sys0⟩
section
variable {X:Cx} {pins:List (Addr×Obj)} {σ:St} {H:Hp} {s:Shared} {E:Value→Shared→Prop}
theorem Inv.wish (I:Inv X pins σ H s) (E:Value→Shared→Prop):Inv (X.wish E) pins σ H s:=⟨I.ok.wish E,I.os,I.bare,I.base,I.loc,I.cell,I.free,I.freeC,I.pin,I.hok,I.len⟩
theorem Inv.unwish (I:Inv (X.wish E) pins σ H s):Inv X pins σ H s:=⟨I.ok.unwish,I.os,I.bare,I.base,I.loc,I.cell,I.free,I.freeC,I.pin,I.hok,I.len⟩
theorem SP.unwish {D:Ends} {f:Flow} {s':Shared} (h:SP (X.wish E) pins D f s'):SP X pins D f s':=by
  cases f with
  | next=>obtain ⟨σ',H',I,q⟩:=h;exact ⟨σ',H',I.unwish,q⟩
  | brk=>obtain ⟨σ',H',I,q⟩:=h;exact ⟨σ',H',I.unwish,q⟩
  | cont=>obtain ⟨σ',H',I,q⟩:=h;exact ⟨σ',H',I.unwish,q⟩
  | ret u=>obtain ⟨v,σ',H',I,r,q⟩:=h;exact ⟨v,σ',H',I.unwish,r,q⟩
theorem PE.nox {e:Expr} {t:TE} (h:PE X.nox e t):PE X e t:=fun pins s σ H Q I hw=>
  wpAny_mono (h pins s σ H Q (I.wish _) hw) (fun _ _ ⟨v,H',I',r,q⟩=>⟨v,H',I'.unwish,r,q⟩) fun _ _ z=>False.elim z
theorem PT.nox {e:Expr} {t:TT} (h:PT X.nox e t):PT X e t:=fun pins s σ H Q I hw=>
  wpAny_mono (h pins s σ H Q (I.wish _) hw) (fun _ _ ⟨H',I',q⟩=>⟨H',I'.unwish,q⟩) fun _ _ z=>False.elim z
theorem PSs.nox {st:List Stmt} {t:TS} (h:PSs X.nox st t):PSs X st t:=fun pins s σ H D I hw=>
  wpAny_mono (h pins s σ H D (I.wish _) hw) (fun _ _ q=>q.unwish) fun _ _ z=>False.elim z
end
section
variable {X:Cx} {st:Stmt} {rest:List Stmt} {t u:TS} {e:Expr} {te:TE} {pos:Pos}
def tNext:TS:=fun D σ H=>D.nx σ H
def tSeq (t u:TS):TS:=fun D σ H=>t { D with nx:=u D } σ H
theorem pss_nil:PSs X [] tNext:=fun _ _ σ H _ I h=>wpAny_execs_nil ⟨σ,H,I,h⟩
theorem pss_cons (h1:PS X st t) (h2:PSs X rest u):PSs X (st::rest) (tSeq t u):=by
  intro pins s σ H D I h
  refine wpAny_execs_cons (thn (h1 pins s σ H { D with nx:=u D } I h) fun f s1 q=>?_)
  cases f with
  | next=>
    obtain ⟨σ',H',I',q⟩:=q
    exact h2 pins s1 σ' H' D I' q
  | ret v=>exact q
  | brk=>exact q
  | cont=>exact q
theorem pss_one (h1:PS X st t):PSs X [st] t:=by
  intro pins s σ H D I h
  refine wpAny_execs_cons (thn (h1 pins s σ H D I h) fun f s1 q=>?_)
  cases f with
  | next=>exact wpAny_execs_nil q
  | ret v=>exact q
  | brk=>exact q
  | cont=>exact q
theorem Inv.quiet {pins:List (Addr×Obj)} {σ:St} {H:Hp} {s:Shared} (I:Inv X pins σ H s):interactive X.env=false:=by simp [interactive,I.ok.kind]
def tDrop (te:TE):TS:=fun D σ H=>te σ H fun _ H1=>D.nx σ H1
theorem ps_expr (he:PE X e te) (hs:swapsWith e none pos.line X.env=pure false:=by rfl):PS X (.Expr e pos) (tDrop te):=by
  intro pins s σ H D I h
  exact wpAny_Expr_any (thn (he pins s σ H _ I h) fun v s1 ⟨x,H1,I1,r1,q1⟩=>⟨σ,H1,I1,q1⟩) I.quiet hs
def tRet (te:TE):TS:=fun D σ H=>te σ H D.rt
theorem ps_ret (he:PE X e te):PS X (.Return (some e) pos) (tRet te):=by
  intro pins s σ H D I h
  exact wpAny_Return_some (thn (he pins s σ H _ I h) fun v s1 ⟨x,H1,I1,r1,q1⟩=>⟨x,σ,H1,I1,r1,q1⟩)
def tIfS (c:TT) (t u:TS):TS:=fun D σ H=>c σ H fun b H1=>if b=true then t D σ H1 else u D σ H1
theorem ps_if {c:Expr} {a b:List Stmt} {tc:TT} (hc:PT X c tc) (ha:PSs X a t) (hb:PSs X b u):PS X (.If c a b pos) (tIfS tc t u):=by
  intro pins s σ H D I h
  refine wpAny_If (thn (hc pins s σ H _ I h) fun d s1 ⟨H1,I1,q1⟩=>?_)
  cases d with
  | true=>exact ha pins s1 σ H1 D I1 q1
  | false=>exact hb pins s1 σ H1 D I1 q1
end
abbrev TG:=V→St→Hp→(St→Hp→Prop)→Prop
abbrev TGs:=List V→St→Hp→(St→Hp→Prop)→Prop
def PG (X:Cx) (target:Expr) (t:TG):Prop:=
  ∀ (pins:List (Addr×Obj)) (s:Shared) (σ:St) (H:Hp) (v:V) (u:Value) (Q:St→Hp→Prop),Inv X pins σ H s→RelV v u→t v σ H Q→
    wpAny (model X.prog X.w) X.A (assign target X.env u) (fun _ s'=>∃ σ' H',Inv X pins σ' H' s'∧Q σ' H') X.xe s
def PGs (X:Cx) (ts:List Expr) (t:TGs):Prop:=
  ∀ (pins:List (Addr×Obj)) (s:Shared) (σ:St) (H:Hp) (vs:List V) (us:List Value) (Q:St→Hp→Prop),Inv X pins σ H s→Vals vs us→t vs σ H Q→
    wpAny (model X.prog X.w) X.A (assignInOrder ((assignEach ts X.env).map (·.2)) us) (fun _ s'=>∃ σ' H',Inv X pins σ' H' s'∧Q σ' H') X.xe s
abbrev TSet:=V→V→V→Hp→(Hp→Prop)→Prop
def PSet (X:Cx) (t:TSet):Prop:=
  ∀ (pins:List (Addr×Obj)) (s:Shared) (σ:St) (H:Hp) (o i v:V) (ov iv u:Value) (Q:Hp→Prop),Inv X pins σ H s→RelV o ov→RelV i iv→RelV v u→t o i v H Q→
    wpAny (model X.prog X.w) X.A (setItem ov iv u) (fun _ s'=>∃ H',Inv X pins σ H' s'∧Q H') X.xe s
section
variable {X:Cx} {pos:Pos}
def gName (i:Nat):TG:=fun v σ H Q=>Q (σ.set i (some v)) H
theorem pg_name {i:Nat} {x:Str} (hN:X.N.Nodup) (hi:X.N[i]? = some x) (hx:Loc X.env.scope x) (hf:X.fn x=true∨X.env.scope.names.lookup x=some .local:=by first | exact .inl rfl | exact .inr rfl | assumption):PG X (.Name x pos) (gName i):=by
  intro pins s σ H v u Q I r h
  exact wpAny_assign_Name (store_ok I hN hi hx r (fun s' I'=>⟨_,H,I',h⟩) hf)
def gNil:TGs:=fun vs σ H Q=>vs=[]∧Q σ H
def gCons (t:TG) (u:TGs):TGs:=fun vs σ H Q=>∃ v r,vs=v::r∧t v σ H fun σ' H'=>u r σ' H' Q
theorem pgs_nil:PGs X [] gNil:=by
  intro pins s σ H vs us Q I r h
  obtain ⟨e,h⟩:=h
  subst e
  cases r
  exact assignInOrder_nil ⟨σ,H,I,h⟩
theorem pgs_cons {e:Expr} {es:List Expr} {t:TG} {u:TGs} (h1:PG X e t) (h2:PGs X es u)
    (hs:(assignEach (e::es) X.env).map (·.2)=assign e X.env::(assignEach es X.env).map (·.2):=by rfl):PGs X (e::es) (gCons t u):=by
  intro pins s σ H vs us Q I r h
  obtain ⟨v,vr,e1,h⟩:=h
  subst e1
  cases r with
  | cons r rr=>
    rw [hs]
    refine assignInOrder_cons (thn (h1 pins s σ H _ _ _ I r h) fun _ s1 ⟨σ1,H1,I1,q1⟩=>?_)
    exact h2 pins s1 σ1 H1 _ _ Q I1 rr q1
def gTup (K:PySem.W.Frag) (n:Nat) (t:TGs):TG:=fun v σ H Q=>∃ a xs,v = .ref a∧SqT K H a xs∧xs.length=n∧t xs σ H Q
theorem pg_tup {es:List Expr} {k:Nat} {t:TGs} {n:Nat} (hc:X.calm=true) (h:PGs X es t)
    (hn:(assignEach es X.env).length=n:=by rfl) (hst:(assignEach es X.env).findIdx? (·.1)=none:=by rfl):PG X (.Tuple es k pos) (gTup X.K n t):=by
  intro pins s σ H v u Q I r hw
  obtain ⟨a,xs,e1,hq,hl,hw⟩:=hw
  subst e1
  cases r
  obtain ⟨its,rv,ht,hz⟩:=I.tuple hq
  refine assign_Tuple_tuple (I.ok.hd hc) ht (by simp [hn,← hl,rv.length]) hst fun h' hx=>?_
  have I1:Inv X pins σ H { s with heap:=h' }:=I.kept (t':=s.toks) fun b o e=>hx b o (Nat.ne_of_lt (Heap.lt_size e)) e
  exact h pins _ σ H xs _ Q I1 (by simpa using rv) hw
def gSub (to ti:TE) (t:TSet):TG:=fun v σ H Q=>to σ H fun o H1=>ti σ H1 fun i H2=>t o i v H2 fun H3=>Q σ H3
theorem pg_sub {o i:Expr} {to ti:TE} {t:TSet} (ho:PE X o to) (hi:PE X i ti) (hs:PSet X t)
    (ha:∀ v,assign (.Subscript o i pos) X.env v=(do
      let ov ← holding [v] (eval o X.env)
      let iv ← holding [v,ov] (eval i X.env)
      standAt pos
      holding [v,ov,iv] (setItem ov iv v)
      release [v,ov,iv] []):=by intro _;rfl):PG X (.Subscript o i pos) (gSub to ti t):=by
  intro pins s σ H v u Q I r h
  rw [ha]
  refine wpAny_bind (wpAny_holding (thn (ho pins s σ H _ I h) fun ov s1 ⟨x,H1,I1,r1,q1⟩=>?_))
  refine wpAny_bind (wpAny_holding (thn (hi pins s1 σ H1 _ I1 q1) fun iv s2 ⟨y,H2,I2,r2,q2⟩=>?_))
  refine wpAny_bind (wpAny_standAt (wpAny_bind (wpAny_holding (thn (hs pins s2 σ H2 x y v ov iv u _ I2 r1 r2 r q2) fun _ s3 ⟨H3,I3,q3⟩=>?_))))
  exact wpAny_release ⟨σ,H3,I3,q3⟩
def tAsg (te:TE) (g:TG):TS:=fun D σ H=>te σ H fun x H1=>g x σ H1 D.nx
theorem ps_asg {tg e:Expr} {te:TE} {g:TG} (he:PE X e te) (hg:PG X tg g) (hs:swapsWithSole [tg] e pos.line X.env=pure false:=by rfl) (hw:swappedStores [tg] e X.env=pure none:=by rfl)
    (h1:(assignEach [tg] X.env).map (·.2)=[assign tg X.env]:=by rfl):PS X (.Assign [tg] e pos) (tAsg te g):=by
  intro pins s σ H D I h
  refine wpAny_Assign_stores (thn (he pins s σ H _ I h) fun v s1 ⟨x,H1,I1,r1,q1⟩=>?_) hs hw
  rw [h1]
  exact thn (hg pins s1 σ H1 x v _ I1 r1 q1) fun _ s2 q=>q
theorem ps_set {i:Nat} {x:Str} {e:Expr} {te:TE} {pos':Pos} (hN:X.N.Nodup) (hi:X.N[i]? = some x) (hx:Loc X.env.scope x) (he:PE X e te) (hs:swapsWith e (some (.Name x pos')) pos.line X.env=pure false:=by rfl) (hf:X.fn x=true∨X.env.scope.names.lookup x=some .local:=by first | exact .inl rfl | exact .inr rfl | assumption) :
    PS X (.Assign [.Name x pos'] e pos) (tAsg te (gName i)):=by
  intro pins s σ H D I h
  refine wpAny_Assign_Name (thn (he pins s σ H _ I h) fun v s1 ⟨y,H1,I1,r1,q1⟩=>?_) hs
  exact store_ok I1 hN hi hx r1 (fun s2 I2=>⟨_,H1,I2,q1⟩) hf
def tPar (i j:Nat) (ta:TA):TS:=fun D σ H=>ta σ H fun vs H1=>∃ v w,vs=[v,w]∧D.nx ((σ.set i (some v)).set j (some w)) H1
theorem ps_par {i j:Nat} {x y:Str} {a b:Expr} {ta:TA} {px py pt:Pos} {kt k2 pt2} (hc:X.calm=true) (hN:X.N.Nodup) (hi:X.N[i]? = some x) (hj:X.N[j]? = some y) (hij:i≠j)
    (hx:X.env.scope.names.lookup x=some .local) (hy:X.env.scope.names.lookup y=some .local) (ha:PA X [a,b] ta)
    (hw:swappedStores [.Tuple [.Name x px,.Name y py] kt pt] (.Tuple [a,b] k2 pt2) X.env=pure (some [x,y]))
    (hs:swapsWithSole [.Tuple [.Name x px,.Name y py] kt pt] (.Tuple [a,b] k2 pt2) pos.line X.env=pure false:=by rfl) :
    PS X (.Assign [.Tuple [.Name x px,.Name y py] kt pt] (.Tuple [a,b] k2 pt2) pos) (tPar i j ta):=by
  intro pins s σ H D I h
  rw [exec_Assign_arm]
  refine wpAny_bind (wpAny_standAt ?_)
  rw [hs]
  refine wpAny_bind (wpAny_pure ?_)
  rw [if_neg (by decide)]
  refine wpAny_bind (Tuple_ (thn (ha _ pins s σ H _ I h) fun us s1 ⟨vs,H1,I1,r1,q1⟩=>?_))
  obtain ⟨v,w,e1,q1⟩:=q1
  subst e1
  obtain ⟨u1,u2,rfl,rv,rw'⟩:∃ u1 u2,us=[u1,u2]∧RelV v u1∧RelV w u2:=by
    cases r1 with
    | cons p q=>
      cases q with
      | cons p' q'=>
        cases q'
        exact ⟨_,_,rfl,p,p'⟩
  refine wpAny_newObj_type ?_ (by show 2≤sizeLine;decide)
  have I2:Inv X pins σ H1 { s1 with heap:=s1.heap.push { cls:=.type "tuple",data:=.seq [u1,u2].toArray } }:=I1.kept (t':=s1.toks) fun b o e=>Heap.get?_push_of_some _ e
  rw [hw]
  refine wpAny_bind (wpAny_pure ?_)
  show wpAny (model X.prog X.w) X.A (do rule "assign.swapped-stores";let items ← unpackItems (.ref s1.heap.objs.size) 2 none;assignInOrder [fun v=>bindName X.env y v,fun v=>bindName X.env x v] items.reverse;pure Flow.next) _ _ _
  refine wpAny_bind (wpAny_rule (wpAny_bind (unpackItems_tuple (items:=#[u1,u2]) (I.ok.hd hc) (IsTup.new s1.heap _) fun h' hx'=>?_)))
  have I3:=I2.kept (h':=h') (t':=s1.toks) fun b o e=>hx' b o (Nat.ne_of_lt (Heap.lt_size e)) e
  show wpAny _ _ (assignInOrder [fun v=>bindName X.env y v,fun v=>bindName X.env x v] [u2,u1] >>= fun _=>pure Flow.next) _ _ _
  refine wpAny_bind (assignInOrder_cons (wpAny_bindName (store_ok I3 hN hj (.inl hy) rw' (fun s2 I4=>?_) (.inr hy))))
  refine assignInOrder_cons (wpAny_bindName (store_ok I4 hN hi (.inl hx) rv (fun s3 I5=>assignInOrder_nil (wpAny_pure ?_)) (.inr hx)))
  rw [List.set_comm _ _ (Ne.symm hij)] at I5
  exact ⟨_,H1,I5,q1⟩
end
section
variable {X:Cx} {pos:Pos}
def tWhile (c:TT) (tb:TS):TS:=fun D σ H=>∃ W:Nat→St→Hp→Prop,(∃ m,W m σ H)∧∀ m σ H,W m σ H→
  c σ H fun b H1=>if b=true then ∃ N:St→Hp→Prop,(∀ σ' H',N σ' H'→∃ m',m' < m∧W m' σ' H')∧tb { D with nx:=N,ct:=N,bk:=D.nx } σ H1 else D.nx σ H1
theorem ps_while {c:Expr} {body:List Stmt} {tc:TT} {tb:TS} (hp:PassesOwn (model X.prog X.w) X.A X.env X.xe) (hc:PT X c tc) (hb:PSs X body tb):PS X (.While c body [] pos) (tWhile tc tb):=by
  intro pins s σ H D I h
  obtain ⟨W,⟨m0,w0⟩,turn⟩:=h
  refine wpAny_While (codeAny_whileLoop (fun n s'=>∃ σ' H',Inv X pins σ' H' s'∧W n σ' H') ?_ m0 ⟨σ,H,I,w0⟩)
  rintro n s1 ⟨σ1,H1,I1,w1⟩
  refine wpAny_passesOwn hp (thn (hc pins s1 σ1 H1 _ I1 (turn n σ1 H1 w1)) fun b s2 ⟨H2,I2,q2⟩=>?_)
  cases b with
  | true=>
    obtain ⟨N,hN,q2⟩:=q2
    rw [if_pos rfl]
    refine wpAny_passesOwn hp (thn (hb pins s2 σ1 H2 _ I2 q2) fun f s3 q3=>?_)
    cases f with
    | next=>
      obtain ⟨σ3,H3,I3,n3⟩:=q3
      obtain ⟨m',hm,w3⟩:=hN σ3 H3 n3
      exact ⟨m',hm,σ3,H3,I3,w3⟩
    | cont=>
      obtain ⟨σ3,H3,I3,n3⟩:=q3
      obtain ⟨m',hm,w3⟩:=hN σ3 H3 n3
      exact ⟨m',hm,σ3,H3,I3,w3⟩
    | brk=>exact q3
    | ret v=>exact q3
  | false=>
    rw [if_neg Bool.false_ne_true]
    exact wpAny_execs_nil ⟨σ1,H2,I2,q2⟩
end
structure It where
  go:Nat→Hp→Prop
  yld:Nat→Hp→V→Hp→Prop
  stop:Nat→Hp→Prop
def FpOk (X:Cx) (pins:List (Addr×Obj)) (H:Hp) (b:Addr):Prop:=
  H b=none∧b≠X.env.locals∧b∉X.fs∧(b∈X.ex∨X.s₀.heap.objs.size≤b)∧(∀ x c,X.env.cells.lookup x=some c→c≠b)∧∀ p∈X.pn++pins,p.1≠b
theorem Inv.fpOk {X:Cx} {pins:List (Addr×Obj)} {σ:St} {H H':Hp} {s:Shared} {b:Addr} (I:Inv X pins σ H s) (hb:s.heap.objs.size≤b) (hn:H' b=none):FpOk X pins H' b:=by
  refine ⟨hn,Nat.ne_of_gt (Nat.lt_of_lt_of_le I.lt hb),I.nofs hb,.inr (Nat.le_trans I.sz hb),fun x c e z=>?_,fun p hp z=>?_⟩
  · obtain ⟨v,q⟩:=I.cell x c e
    exact absurd (Nat.lt_of_lt_of_le q.lt (by rw [z];exact hb)) (Nat.lt_irrefl _)
  · exact absurd (Nat.lt_of_lt_of_le (Heap.lt_size (I.pin p hp).1) (by rw [z];exact hb)) (Nat.lt_irrefl _)
structure Turn (P:Program) (w:World) (K:PySem.W.Frag) (tg:Expr) (J:It) (fp:List Addr) (it:Addr) (tn:Nat→Heap→Prop):Prop where
  mem:it∈fp
  obj:∀ i h,tn i h→∀ b∈fp,∃ o,h.get? b=some o∧∀ v,o.data≠.cell v
  keep:∀ i h h',tn i h→(∀ b∈fp,∀ o,h.get? b=some o→h'.get? b=some o)→tn i h'
  item:∀ (X:Cx),X.prog=P→X.w=w→X.K=K→X.calm=true→∀ (i:Nat) (pins:List (Addr×Obj)) (s:Shared) (σ:St) (H:Hp) (E:Value→Shared→Prop),Inv X pins σ H s→(∀ b∈fp,FpOk X pins H b)→tn i s.heap→J.go i H→
    wpAny (model P w) X.A (pyNext (.ref it)) (fun r s1=>∃ u,r=some u∧
      wpAny (model P w) X.A (letOwnedTupleGo tg (.ref it) u) (fun _ s2=>∃ x H',Inv X pins σ H' s2∧RelV x u∧J.yld i H x H'∧tn (i+1) s2.heap∧∀ b∈fp,H' b=none) E s1) E s
  done:∀ (X:Cx),X.prog=P→X.w=w→X.K=K→X.calm=true→∀ (i:Nat) (pins:List (Addr×Obj)) (s:Shared) (σ:St) (H:Hp) (E:Value→Shared→Prop),Inv X pins σ H s→(∀ b∈fp,FpOk X pins H b)→tn i s.heap→J.stop i H→
    wpAny (model P w) X.A (pyNext (.ref it)) (fun r s1=>r=none∧Inv X pins σ H s1) E s
  self:∀ (A:Around) (i:Nat) (s:Shared) (Q:Value→Shared→Prop) (E:Value→Shared→Prop),tn i s.heap→Q (.ref it) s→wpAny (model P w) A (pyIter (.ref it)) Q E s
abbrev TI:=St→Hp→(It→Hp→Prop)→Prop
def PIE (X:Cx) (pins:List (Addr×Obj)) (σ:St) (tg:Expr) (R:It→Hp→Prop) (itv:Value) (s2:Shared):Prop:=
  ∃ (it:Addr) (fp:List Addr) (tn:Nat→Heap→Prop) (J:It) (H':Hp),itv = .ref it∧Inv X pins σ H' s2∧Turn X.prog X.w X.K tg J fp it tn∧tn 0 s2.heap∧(∀ b∈fp,FpOk X pins H' b)∧R J H'
def PI (X:Cx) (tg iter:Expr) (wi:TI):Prop:=
  ∀ (pins:List (Addr×Obj)) (s:Shared) (σ:St) (H:Hp) (R:It→Hp→Prop),Inv X pins σ H s→wi σ H R→
    wpAny (model X.prog X.w) X.A (eval iter X.env) (fun v s1=>wpAny (model X.prog X.w) X.A (pyIter v) (PIE X pins σ tg R) X.xe s1) X.xe s
theorem go_of {M:Model} {A:Around} {E:Value→Shared→Prop} {s:Shared} {tg:Expr} {it:Addr} {u:Value} {o:Obj} {n:String} {vs:Array Value} {Q:Unit→Shared→Prop} (ho:s.heap.get? it=some o) (hc:o.cls = .type n) (hd:o.data = .fields vs)
    (hn:["enumerate", "zip", "dict_itemiterator", "dict_reverseitemiterator", "odict_iterator", "itertools.zip_longest", "itertools.pairwise"].contains n=false) (hQ:Q () s):wpAny M A (letOwnedTupleGo tg (.ref it) u) Q E s:=by
  unfold letOwnedTupleGo
  cases tg<;>first
    | exact wpAny_pure hQ
    | (cases u<;>first
        | exact wpAny_pure hQ
        | (refine wpAny_bind (wpAny_load ho ?_)
           rw [hc,hd]
           show wpAny M A (if (["enumerate", "zip", "dict_itemiterator", "dict_reverseitemiterator", "odict_iterator", "itertools.zip_longest", "itertools.pairwise"].contains n && vs[0]? == some (rawInt _))=true then _ else _) Q E s
           rw [if_neg (by intro h;rw [hn,Bool.false_and] at h;cases h)]
           exact wpAny_pure hQ))
def Itl (K:PySem.W.Frag) (a:Addr):It:=
  ⟨fun i H=>∃ xs x,SqL K H a xs∧xs[i]? = some x,fun i H x H'=>H'=H∧∀ xs,SqL K H a xs→xs[i]? = some x,fun i H=>∃ xs,SqL K H a xs∧xs.length≤i⟩
def Itt (K:PySem.W.Frag) (a:Addr):It:=
  ⟨fun i H=>∃ xs x,SqT K H a xs∧xs[i]? = some x,fun i H x H'=>H'=H∧∀ xs,SqT K H a xs→xs[i]? = some x,fun i H=>∃ xs,SqT K H a xs∧xs.length≤i⟩
def Itr (lo:Int) (n:Nat):It:=⟨fun i _=>i < n,fun i H x H'=>H'=H∧x = .int (lo+i),fun i _=>n≤i⟩
theorem turn_list {P:Program} {w:World} {K:PySem.W.Frag} {tg:Expr} (a it:Addr):Turn P w K tg (Itl K a) [it] it (fun i h=>h.IsListIter it a i) where
  mem:=by simp
  obj:=fun i h st b hb=>by
    have e:b=it:=by simpa using hb
    subst e
    obtain ⟨o,e,c,d⟩:=st
    exact ⟨o,e,fun v z=>by rw [d] at z;cases z⟩
  keep:=fun i h h' st k=>st.at fun o e=>k it (by simp) o e
  item:=by
    intro X hP hw hK hc i pins s σ H E I hf st hg
    subst hP hw hK
    obtain ⟨xs,x,hq,hx⟩:=hg
    obtain ⟨its,rv,p,hz⟩:=I.list hq
    obtain ⟨u,hu,ru⟩:=rv.get hx
    obtain ⟨f0,f1,f2,f3,f4,f5⟩:=hf it (by simp)
    refine wpAny_pyNext_list_item st p.isList (x:=u) (by simpa using hu) fun h' st' sb=>?_
    have I1:Inv X pins σ H { s with heap:=h' }:=I.turned (t':=s.toks) (fun b o hb e=>(sb.2 b hb).trans e) f0 f1 f3 f4 f5
    obtain ⟨o,e,c,d⟩:=id st'
    exact ⟨u,rfl,go_of (s:={ s with heap:=h' }) e c d (by decide) ⟨x,H,I1,ru,⟨rfl,fun ys hy=>by rw [I.list_inj hy hq];exact hx⟩,st',fun b hb=>(hf b hb).1⟩⟩
  done:=by
    intro X hP hw hK hc i pins s σ H E I hf st hg
    subst hP hw hK
    obtain ⟨xs,hq,hx⟩:=hg
    obtain ⟨its,rv,p,hz⟩:=I.list hq
    obtain ⟨f0,f1,f2,f3,f4,f5⟩:=hf it (by simp)
    have hl:=rv.length
    exact wpAny_pyNext_list_end (I.ok.hd hc) st p.isList (by simp;omega) fun h' eb=>⟨rfl,I.turned (t':=s.toks) (fun b o hb e=>eb b o hb e) f0 f1 f3 f4 f5⟩
  self:=fun _ _ _ _ _ st h=>wpAny_pyIter_listiter st h
theorem turn_tuple {P:Program} {w:World} {K:PySem.W.Frag} {tg:Expr} (a it:Addr):Turn P w K tg (Itt K a) [it] it (fun i h=>h.IsTupleIter it a i) where
  mem:=by simp
  obj:=fun i h st b hb=>by
    have e:b=it:=by simpa using hb
    subst e
    obtain ⟨o,e,c,d⟩:=st
    exact ⟨o,e,fun v z=>by rw [d] at z;cases z⟩
  keep:=fun i h h' st k=>st.at fun o e=>k it (by simp) o e
  item:=by
    intro X hP hw hK hc i pins s σ H E I hf st hg
    subst hP hw hK
    obtain ⟨xs,x,hq,hx⟩:=hg
    obtain ⟨its,rv,p,hz⟩:=I.tuple hq
    obtain ⟨u,hu,ru⟩:=rv.get hx
    obtain ⟨f0,f1,f2,f3,f4,f5⟩:=hf it (by simp)
    refine wpAny_pyNext_tuple_item st (show s.heap.IsTuple a its.toArray from p) (x:=u) (by simpa using hu) fun h' st' sb=>?_
    have I1:Inv X pins σ H { s with heap:=h' }:=I.turned (t':=s.toks) (fun b o hb e=>(sb.2 b hb).trans e) f0 f1 f3 f4 f5
    obtain ⟨o,e,c,d⟩:=id st'
    exact ⟨u,rfl,go_of (s:={ s with heap:=h' }) e c d (by decide) ⟨x,H,I1,ru,⟨rfl,fun ys hy=>by rw [I.tuple_inj hy hq];exact hx⟩,st',fun b hb=>(hf b hb).1⟩⟩
  done:=by
    intro X hP hw hK hc i pins s σ H E I hf st hg
    subst hP hw hK
    obtain ⟨xs,hq,hx⟩:=hg
    obtain ⟨its,rv,p,hz⟩:=I.tuple hq
    obtain ⟨f0,f1,f2,f3,f4,f5⟩:=hf it (by simp)
    have hl:=rv.length
    exact wpAny_pyNext_tuple_end (I.ok.hd hc) st (show s.heap.IsTuple a its.toArray from p) (by simp;omega) fun h' eb=>⟨rfl,I.turned (t':=s.toks) (fun b o hb e=>eb b o hb e) f0 f1 f3 f4 f5⟩
  self:=fun _ _ _ _ _ st h=>wpAny_pyIter_tupleiter st h
theorem turn_range {P:Program} {w:World} {K:PySem.W.Frag} {tg:Expr} (it:Addr) (lo:Int) (n:Nat):Turn P w K tg (Itr lo n) [it] it (fun i h=>IsRangeIter h it (lo+(i:Nat)*1) ((n:Int) - (i:Nat)) 1) where
  mem:=by simp
  obj:=fun i h st b hb=>by
    have e:b=it:=by simpa using hb
    subst e
    exact ⟨_,st,fun v z=>by
      have z':Data.fields _=Data.cell v:=z
      cases z'⟩
  keep:=fun i h h' st k=>k it (by simp) _ st
  item:=by
    intro X hP hw hK hc i pins s σ H E I hf st hg
    subst hP hw hK
    obtain ⟨f0,f1,f2,f3,f4,f5⟩:=hf it (by simp)
    have W:=Walks.range (prog:=X.prog) (w:=X.w) (I.ok.hd hc) it lo 1 n
    refine W.item i s _ _ hg st fun v h' tk hv st' kk=>?_
    obtain ⟨t,rfl⟩:=hv
    have I1:Inv X pins σ H { s with heap:=h',toks:=tk }:=I.turned (fun b o hb e=>kk b o (by simpa using hb) e) f0 f1 f3 f4 f5
    refine ⟨_,rfl,go_of (s:={ s with heap:=h',toks:=tk }) (n:= "range_iterator") st' rfl rfl (by decide) ⟨.int (lo+i),H,I1,⟨t,?_⟩,⟨rfl,rfl⟩,st',fun b hb=>(hf b hb).1⟩⟩
    rw [Int.mul_one]
  done:=by
    intro X hP hw hK hc i pins s σ H E I hf st hg
    subst hP hw hK
    obtain ⟨f0,f1,f2,f3,f4,f5⟩:=hf it (by simp)
    exact wpAny_pyNext_range_end (I.ok.hd hc) st (by have:n≤i:=hg;omega) fun h' eb=>⟨rfl,I.turned (t':=s.toks) (fun b o hb e=>eb b o hb e) f0 f1 f3 f4 f5⟩
  self:=fun _ _ _ _ _ st h=>wpAny_pyIter_rangeiter st h
section
variable {X:Cx} {tg:Expr}
theorem range_it {pins:List (Addr×Obj)} {σ:St} {H:Hp} {s:Shared} {R:It→Hp→Prop} {E:Value→Shared→Prop} {lo hi:Int} {t u v:Tok} {tk:Nat} (I:Inv X pins σ H s) (h1:-(2 ^ 62)≤lo) (h2:lo < 2 ^ 62) (h3:-(2 ^ 62)≤hi) (h4:hi < 2 ^ 62)
    (q:R (Itr lo (hi - lo).toNat) H):wpAny (model X.prog X.w) X.A (pyIter (.ref s.heap.objs.size)) (PIE X pins σ tg R) E { s with heap:=s.heap.push { cls:=.type "range",data:=.fields #[.int lo t,.int hi u,.int 1 v] },toks:=tk }:=by
  refine wpAny_pyIter_range (IsRange.new ..) (small_one h1 h2 h3 h4) ?_
  have I1:Inv X pins σ H { s with heap:=s.heap.push { cls:=.type "range",data:=.fields #[.int lo t,.int hi u,.int 1 v] },toks:=tk }:=I.kept fun b o e=>Heap.get?_push_of_some _ e
  refine ⟨(s.heap.push { cls:=.type "range",data:=.fields #[.int lo t,.int hi u,.int 1 v] }).objs.size,[(s.heap.push { cls:=.type "range",data:=.fields #[.int lo t,.int hi u,.int 1 v] }).objs.size],_,_,H,rfl,
    I1.kept (t':=tk) fun b o e=>Heap.get?_push_of_some _ e,turn_range _ lo (hi - lo).toNat,?_,fun b hb=>?_,q⟩
  · have e1:lo+((0:Nat):Int)*1=lo:=by simp
    have e2:(((hi - lo).toNat:Nat):Int) - ((0:Nat):Int)=Builtin.Range.rangeSize lo hi 1:=by rw [rangeSize_one];split<;>omega
    show IsRangeIter _ _ (lo+((0:Nat):Int)*1) ((((hi - lo).toNat:Nat):Int) - ((0:Nat):Int)) 1
    rw [e1,e2]
    exact Heap.get?_push_size _ rfl
  · have e:b=(s.heap.push { cls:=.type "range",data:=.fields #[.int lo t,.int hi u,.int 1 v] }).objs.size:=by simpa using hb
    subst e
    exact I1.fpOk (Nat.le_refl _) (I1.hok.fresh (Nat.le_refl _))
def iRng1 (ta:TA):TI:=fun σ H R=>ta σ H fun vs H1=>∃ j:Int,vs=[.int j]∧-(2 ^ 62)≤j∧j < 2 ^ 62∧R (Itr 0 j.toNat) H1
def iRng2 (ta:TA):TI:=fun σ H R=>ta σ H fun vs H1=>∃ i j:Int,vs=[.int i,.int j]∧(-(2 ^ 62)≤i∧i < 2 ^ 62∧-(2 ^ 62)≤j∧j < 2 ^ 62)∧R (Itr i (j - i).toNat) H1
theorem pi_range1 {a:Expr} {ta:TA} {p pos:Pos} (hg:Gl X "range") (hm:X.mg "range" = none) (ha:PA X [a] ta) (hs:starEach [a] X.env=[(false,eval a X.env)]:=by rfl):PI X tg (.Call (.Name "range" p) [a] [] pos) (iRng1 ta):=by
  intro pins s σ H R I h
  refine Call_ (ld_blt I hg hm boot_range (PyProof.Rows.callWith_type1 (thn (ha pos pins s σ H _ I h) fun us s1 ⟨vs,H1,I1,r1,q1⟩=>?_) hs rfl))
  obtain ⟨j,e,q1,q2,q⟩:=q1
  subst e
  cases r1 with
  | cons r rr=>
    cases rr
    obtain ⟨t,rfl⟩:=r
    exact call_range_1 (range_it I1 (by omega) (by omega) q1 q2 (by simpa using q))
theorem pi_range2 {a b:Expr} {ta:TA} {p pos:Pos} (hg:Gl X "range") (hm:X.mg "range" = none) (ha:PA X [a,b] ta) (hs:starEach [a,b] X.env=[(false,eval a X.env),(false,eval b X.env)]:=by rfl) (hs2:starEach [b] X.env=[(false,eval b X.env)]:=by rfl) :
    PI X tg (.Call (.Name "range" p) [a,b] [] pos) (iRng2 ta):=by
  intro pins s σ H R I h
  refine Call_ (ld_blt I hg hm boot_range (PyProof.Rows.callWith_type1 (thn (ha pos pins s σ H _ I h) fun us s1 ⟨vs,H1,I1,r1,q1⟩=>?_) (by rw [hs,hs2]) (by rw [hs2];rfl)))
  obtain ⟨i,j,e,⟨q1,q2,q3,q4⟩,q⟩:=q1
  subst e
  cases r1 with
  | cons r rr=>
    cases rr with
    | cons r' rr=>
      cases rr
      obtain ⟨t,rfl⟩:=r
      obtain ⟨t',rfl⟩:=r'
      exact call_range_2 (range_it I1 q1 q2 q3 q4 q)
def tFor (wi:TI) (g:TG) (tb:TS):TS:=fun D σ H=>wi σ H fun J H1=>∃ W:Nat→Nat→St→Hp→Prop,(∃ m,W 0 m σ H1)∧∀ i m σ H,W i m σ H→
  (J.stop i H∧D.nx σ H)∨(J.go i H∧∃ N:St→Hp→Prop,(∀ σ' H',N σ' H'→∃ m',m' < m∧W (i+1) m' σ' H')∧∀ x H',J.yld i H x H'→g x σ H' fun σ2 H2=>tb { D with nx:=N,ct:=N,bk:=D.nx } σ2 H2)
def pinsAt (fp:List Addr) (h:Heap):List (Addr×Obj):=fp.filterMap fun b=>(h.get? b).map fun o=>(b,o)
theorem mem_pinsAt {fp:List Addr} {h:Heap} {b:Addr} {o:Obj} (hb:b∈fp) (e:h.get? b=some o):(b,o)∈pinsAt fp h:=List.mem_filterMap.mpr ⟨b,hb,by rw [e];rfl⟩
theorem of_pinsAt {fp:List Addr} {h:Heap} {p:Addr×Obj} (hp:p∈pinsAt fp h):p.1∈fp∧h.get? p.1=some p.2:=by
  obtain ⟨b,hb,e⟩:=List.mem_filterMap.mp hp
  cases q:h.get? b with
  | none=>rw [q] at e;cases e
  | some o=>
    rw [q] at e
    have e':(b,o)=p:=Option.some.inj e
    subst e'
    exact ⟨hb,q⟩
theorem Inv.pinned {pins:List (Addr×Obj)} {σ:St} {H:Hp} {s:Shared} {fp:List Addr} (I:Inv X pins σ H s) (hf:∀ b∈fp,FpOk X pins H b) (ho:∀ b∈fp,∃ o,s.heap.get? b=some o∧∀ v,o.data≠.cell v):Inv X (pins++pinsAt fp s.heap) σ H s:=
  I.pins_of fun p hp=>(List.mem_append.mp hp).elim (fun z=>I.pin p (List.mem_append_right _ z)) fun z=>by
    obtain ⟨hb,e⟩:=of_pinsAt z
    obtain ⟨f0,f1,f2,_⟩:=hf p.1 hb
    obtain ⟨o,e',d⟩:=ho p.1 hb
    rw [e] at e';cases e'
    exact ⟨e,f0,f1,f2,d⟩
theorem Inv.unpinned {pins pl:List (Addr×Obj)} {σ:St} {H:Hp} {s:Shared} (I:Inv X (pins++pl) σ H s):Inv X pins σ H s:=I.pins_of fun p hp=>I.pin p (List.mem_append_right _ (List.mem_append_left _ hp))
theorem ps_for {iter:Expr} {body:List Stmt} {wi:TI} {g:TG} {tb:TS} {pos:Pos} (hp:PassesOwn (model X.prog X.w) X.A X.env X.xe) (hc:X.calm=true) (hi:PI X tg iter wi) (hg:PG X tg g) (hb:PSs X body tb)
    (hs:∀ x,foldedSetIterable iter X.env x=pure x:=by intro _;rfl):PS X (.For tg iter body [] pos) (tFor wi g tb):=by
  intro pins s σ H D I h
  refine wpAny_For (thn (hi pins s σ H _ I h) fun v s1 h1=>thn h1 fun itv s2 h2=>?_) hs
  obtain ⟨it,fp,tn,J,H2,e,I2,T,st2,f2,W,⟨m0,w0⟩,turn⟩:=h2
  subst e
  -- what stays true of the iterator's objects through the loop
  have stat:∀ {H':Hp},(∀ b∈fp,H' b=none)→∀ b∈fp,FpOk X pins H' b:=fun hn b hb=>⟨hn b hb,(f2 b hb).2⟩
  refine codeAny_forLoop_any (fun n s'=>∃ i σ' H',Inv X pins σ' H' s'∧tn i s'.heap∧(∀ b∈fp,H' b=none)∧W i n σ' H') ?_ m0 ⟨0,σ,H2,I2,st2,fun b hb=>(f2 b hb).1,w0⟩
  rintro n s3 ⟨i,σ3,H3,I3,st3,fr3,w3⟩
  rcases turn i n σ3 H3 w3 with ⟨stop,qn⟩ | ⟨go,N,hN,step⟩
  · refine wpAny_passesOwn hp (thn (T.done X rfl rfl rfl hc i pins s3 σ3 H3 X.xe I3 (stat fr3) st3 stop) fun r s4 ⟨hr,I4⟩=>?_)
    subst hr
    exact wpAny_execs_nil ⟨σ3,H3,I4,qn⟩
  · refine wpAny_passesOwn hp (thn (T.item X rfl rfl rfl hc i pins s3 σ3 H3 X.xe I3 (stat fr3) st3 go) fun r s4 ⟨u,hr,h4⟩=>?_)
    subst hr
    refine wpAny_passesOwn hp (thn h4 fun _ s5 ⟨x,H5,I5,r5,y5,st5,fr5⟩=>?_)
    have I5':=I5.pinned (stat fr5) (T.obj _ _ st5)
    refine wpAny_passesOwn hp (thn (hg _ s5 σ3 H5 x u _ I5' r5 (step x H5 y5)) fun _ s6 ⟨σ6,H6,I6,q6⟩=>?_)
    refine wpAny_passesOwn hp (thn (hb _ s6 σ6 H6 _ I6 q6) fun f s7 q7=>?_)
    have again:∀ {σ7:St} {H7:Hp},Inv X (pins++pinsAt fp s5.heap) σ7 H7 s7→N σ7 H7→∃ m,m < n∧∃ i σ' H',Inv X pins σ' H' s7∧tn i s7.heap∧(∀ b∈fp,H' b=none)∧W i m σ' H':=fun {σ7 H7} I7 n7=>by
      obtain ⟨m',hm,w7⟩:=hN σ7 H7 n7
      refine ⟨m',hm,i+1,σ7,H7,I7.unpinned,T.keep _ _ _ st5 fun b hb o e=>(I7.pin (b,o) (List.mem_append_right _ (List.mem_append_right _ (mem_pinsAt hb e)))).1,fun b hb=>?_,w7⟩
      obtain ⟨o,e,d⟩:=T.obj _ _ st5 b hb
      exact (I7.pin (b,o) (List.mem_append_right _ (List.mem_append_right _ (mem_pinsAt hb e)))).2.1
    cases f with
    | next=>obtain ⟨σ7,H7,I7,n7⟩:=q7;exact again I7 n7
    | cont=>obtain ⟨σ7,H7,I7,n7⟩:=q7;exact again I7 n7
    | brk=>obtain ⟨σ7,H7,I7,q7⟩:=q7;exact ⟨σ7,H7,I7.unpinned,q7⟩
    | ret v=>obtain ⟨x7,σ7,H7,I7,r7,q7⟩:=q7;exact ⟨x7,σ7,H7,I7.unpinned,r7,q7⟩
end
abbrev R2:=V→V→Hp→VK→Prop
def OpR (X:Cx) (f:Value→Value→Sem Value) (r:R2):Prop:=
  ∀ (pins:List (Addr×Obj)) (s:Shared) (σ:St) (H:Hp) (x y:V) (v u:Value) (Q:VK),Inv X pins σ H s→RelV x v→RelV y u→r x y H Q→
    wpAny (model X.prog X.w) X.A (f v u) (EP X pins σ Q) X.xe s
def UnR (X:Cx) (f:Value→Sem Value) (r:V→Hp→VK→Prop):Prop:=
  ∀ (pins:List (Addr×Obj)) (s:Shared) (σ:St) (H:Hp) (x:V) (v:Value) (Q:VK),Inv X pins σ H s→RelV x v→r x H Q→
    wpAny (model X.prog X.w) X.A (f v) (EP X pins σ Q) X.xe s
def CallR (X:Cx) (f:Value) (r:List V→Hp→VK→Prop):Prop:=
  ∀ (pins:List (Addr×Obj)) (s:Shared) (σ:St) (H:Hp) (xs:List V) (us:List Value) (Q:VK),Inv X pins σ H s→Vals xs us→r xs H Q→
    wpAny (model X.prog X.w) X.A (call f us) (EP X pins σ Q) X.xe s
def TruR (X:Cx) (r:V→Hp→(Bool→Hp→Prop)→Prop):Prop:=
  ∀ (pins:List (Addr×Obj)) (s:Shared) (σ:St) (H:Hp) (x:V) (v:Value) (Q:Bool→Hp→Prop),Inv X pins σ H s→RelV x v→r x H Q→
    wpAny (model X.prog X.w) X.A (truthy v) (TP X pins σ Q) X.xe s
def tOp (r:R2) (ta tb:TE):TE:=fun σ H Q=>ta σ H fun x H1=>tb σ H1 fun y H2=>r x y H2 Q
def tUn (r:V→Hp→VK→Prop) (ta:TE):TE:=fun σ H Q=>ta σ H fun x H1=>r x H1 Q
def rI (C:Int→Int→Prop) (g:Int→Int→V):R2:=fun x y H Q=>∃ i j,x = .int i∧y = .int j∧C i j∧Q (g i j) H
def rI0 (g:Int→Int→V):R2:=fun x y H Q=>∃ i j,x = .int i∧y = .int j∧Q (g i j) H
def rU (g:Int→V):V→Hp→VK→Prop:=fun x H Q=>∃ i,x = .int i∧Q (g i) H
section
variable {X:Cx} {a b c:Expr} {ta tb tc:TE} {pos:Pos}
theorem binT (ha:PE X a ta) (hb:PE X b tb) {pins:List (Addr×Obj)} {s:Shared} {σ:St} {H:Hp} {R:V→V→Hp→Prop} (I:Inv X pins σ H s)
    (h:ta σ H fun x H1=>tb σ H1 fun y H2=>R x y H2) {Q:Value→Shared→Prop} {f:Value→Value→Sem Value}
    (hf:∀ v u s2 x y H2,Inv X pins σ H2 s2→RelV x v→RelV y u→R x y H2→wpAny (model X.prog X.w) X.A (f v u) Q X.xe s2) :
    wpAny (model X.prog X.w) X.A (eval a X.env) (fun v s₁=>wpAny (model X.prog X.w) X.A (eval b X.env) (fun u s₂=>wpAny (model X.prog X.w) X.A (f v u) Q X.xe s₂) X.xe s₁) X.xe s:=by
  refine thn (ha pins s σ H _ I h) fun v s1 ⟨x,H1,I1,r1,q1⟩=>?_
  refine thn (hb pins s1 σ H1 _ I1 q1) fun u s2 ⟨y,H2,I2,r2,q2⟩=>?_
  exact hf v u s2 x y H2 I2 r1 r2 q2
theorem pe_op {op:Operator} {r:R2} (ho:OpR X (binaryOp op) r) (ha:PE X a ta) (hb:PE X b tb):PE X (.BinOp a op b pos) (tOp r ta tb):=by
  intro pins s σ H Q I h
  exact wpAny_BinOp (binT ha hb I h fun v u s2 x y H2 I2 rx ry q=>ho pins s2 σ H2 x y v u Q I2 rx ry q)
theorem pe_un {op:UnaryOp} {r:V→Hp→VK→Prop} (ho:UnR X (unaryOp op) r) (ha:PE X a ta):PE X (.UnaryOp op a pos) (tUn r ta):=by
  intro pins s σ H Q I h
  exact UnaryOp_ (thn (ha pins s σ H _ I h) fun v s1 ⟨x,H1,I1,r1,q1⟩=>ho pins s1 σ H1 x v Q I1 r1 q1)
theorem opI {f:Value→Value→Sem Value} {C:Int→Int→Prop} {g:Int→Int→Int}
    (rule:∀ (i j:Int) (t u:Tok) (s:Shared) (Q:Value→Shared→Prop) (E:Value→Shared→Prop),C i j→Q (.int (g i j) s.toks) { s with toks:=s.toks+1 }→wpAny (model X.prog X.w) X.A (f (.int i t) (.int j u)) Q E s) :
    OpR X f (rI C fun i j=>.int (g i j)):=by
  intro pins s σ H x y v u Q I rx ry h
  obtain ⟨i,j,rfl,rfl,hc,q⟩:=h
  obtain ⟨t,rfl⟩:=rx
  obtain ⟨t',rfl⟩:=ry
  exact rule i j t t' s _ _ hc ⟨.int (g i j),H,I.tok _,⟨_,rfl⟩,q⟩
theorem opI0 {f:Value→Value→Sem Value} {g:Int→Int→Int}
    (rule:∀ (i j:Int) (t u:Tok) (s:Shared) (Q:Value→Shared→Prop) (E:Value→Shared→Prop),Q (.int (g i j) s.toks) { s with toks:=s.toks+1 }→wpAny (model X.prog X.w) X.A (f (.int i t) (.int j u)) Q E s) :
    OpR X f (rI0 fun i j=>.int (g i j)):=by
  intro pins s σ H x y v u Q I rx ry h
  obtain ⟨i,j,rfl,rfl,q⟩:=h
  obtain ⟨t,rfl⟩:=rx
  obtain ⟨t',rfl⟩:=ry
  exact rule i j t t' s _ _ ⟨.int (g i j),H,I.tok _,⟨_,rfl⟩,q⟩
theorem opB0 {f:Value→Value→Sem Value} {g:Int→Int→Bool}
    (rule:∀ (i j:Int) (t u:Tok) (s:Shared) (Q:Value→Shared→Prop) (E:Value→Shared→Prop),Q (.bool (g i j)) s→wpAny (model X.prog X.w) X.A (f (.int i t) (.int j u)) Q E s) :
    OpR X f (rI0 fun i j=>.bl (g i j)):=by
  intro pins s σ H x y v u Q I rx ry h
  obtain ⟨i,j,rfl,rfl,q⟩:=h
  obtain ⟨t,rfl⟩:=rx
  obtain ⟨t',rfl⟩:=ry
  exact rule i j t t' s _ _ ⟨.bl (g i j),H,I,rfl,q⟩
def CPow (i j:Int):Prop:=0≤j∧j≤1000000∧i.natAbs < 2 ^ 64
def CMul (i j:Int):Prop:=(-(2 ^ 64) < i∧i < 2 ^ 64)∨(-(2 ^ 64) < j∧j < 2 ^ 64)
theorem CMul.ok {i j:Int} (h:CMul i j):IntMulOk i j:=by
  rcases h with ⟨h1,h2⟩ | ⟨h1,h2⟩
  · exact .of_left (intBits_le_64 h1 h2)
  · exact .of_right (intBits_le_64 h1 h2)
theorem op_add:OpR X (binaryOp .Add) (rI0 fun i j=>.int (i+j)):=opI0 fun _ _ _ _ _ _ _ q=>add_int q
theorem op_sub:OpR X (binaryOp .Sub) (rI0 fun i j=>.int (i - j)):=opI0 fun _ _ _ _ _ _ _ q=>sub_int q
theorem op_modN:OpR X (binaryOp .Mod) (rI (fun _ j=>j≠0) fun i j=>.int (i.fmod j)):=opI fun _ _ _ _ _ _ _ hc q=>mod_int' hc q
theorem op_pow:OpR X (binaryOp .Pow) (rI CPow fun i j=>.int (i ^ j.toNat)):=opI fun _ _ _ _ _ _ _ hc q=>pow_int_small hc.1 hc.2.1 hc.2.2 q
theorem unI {f:Value→Sem Value} {g:Int→Int}
    (rule:∀ (i:Int) (t:Tok) (s:Shared) (Q:Value→Shared→Prop) (E:Value→Shared→Prop),Q (.int (g i) s.toks) { s with toks:=s.toks+1 }→wpAny (model X.prog X.w) X.A (f (.int i t)) Q E s) :
    UnR X f (rU fun i=>.int (g i)):=by
  intro pins s σ H x v Q I rx h
  obtain ⟨i,rfl,q⟩:=h
  obtain ⟨t,rfl⟩:=rx
  exact rule i t s _ _ ⟨.int (g i),H,I.tok _,⟨_,rfl⟩,q⟩
theorem un_neg:UnR X (unaryOp .USub) (rU fun i=>.int (-i)):=unI fun _ _ _ _ _ q=>neg_int q
end
def scal:V→V→Bool
  | .non,.non=>true | .non,.int _=>true | .int _,.non=>true | .non,.bl _=>true | .bl _,.non=>true | .non,.str _=>true | .str _,.non=>true
  | .int _,.int _=>true | .bl _,.bl _=>true | .str _,.str _=>true | .byt _,.byt _=>true
  | .int _,.str _=>true | .str _,.int _=>true | .bl _,.str _=>true | .str _,.bl _=>true
  | _,_=>false
def rEq:R2:=fun x y H Q=>scal x y=true∧Q (.bl (decide (x=y))) H
theorem dec_int {i j:Int}:decide (V.int i=V.int j)=(i == j):=by
  rw [Bool.eq_iff_iff]
  simp
theorem dec_bl {i j:Bool}:decide (V.bl i=V.bl j)=(i == j):=by
  rw [Bool.eq_iff_iff]
  simp
theorem dec_str {i j:Str}:decide (V.str i=V.str j)=(i == j):=by
  rw [Bool.eq_iff_iff]
  simp
theorem dec_byt {i j:Array UInt8}:decide (V.byt i=V.byt j)=(i.toList == j.toList):=by
  rw [Bool.eq_iff_iff]
  cases i
  cases j
  simp
section
variable {X:Cx} {a b c:Expr} {ta tb tc:TE} {pos:Pos}
theorem fin_bl {pins:List (Addr×Obj)} {σ:St} {H:Hp} {s:Shared} {Q:VK} {k k':Bool} (I:Inv X pins σ H s) (q:Q (.bl k) H) (e:k=k'):EP X pins σ Q (.bool k') s:=by
  subst e
  exact ⟨.bl k,H,I,rfl,q⟩
theorem op_eq:OpR X (compareOp .Eq) rEq:=by
  intro pins s σ H x y v u Q I rx ry h
  obtain ⟨hs,q⟩:=h
  cases x with
  | non=>
    cases rx
    cases y with
    | non=>cases ry;exact PySem.EqNone.eq_none_none (fin_bl I q (by simp))
    | bl j=>cases ry;exact PySem.EqNone.eq_none_bool (fin_bl I q (by simp))
    | int j=>obtain ⟨t',rfl⟩:=ry;exact PySem.EqNone.eq_none_int (fin_bl I q (by simp))
    | str j=>obtain ⟨t',rfl⟩:=ry;exact PySem.EqNone.eq_none_str (fin_bl I q (by simp))
    | _=>exact absurd (show false=true from hs) Bool.false_ne_true
  | bl i=>
    cases rx
    cases y with
    | non=>cases ry;exact PySem.EqNone.eq_bool_none (fin_bl I q (by simp))
    | bl j=>cases ry;exact eq_bool (fin_bl I q dec_bl)
    | str j=>obtain ⟨t',rfl⟩:=ry;exact PySem.EqMixed.eq_bool_str (fin_bl I q (by simp))
    | _=>exact absurd (show false=true from hs) Bool.false_ne_true
  | int i=>
    obtain ⟨t,rfl⟩:=rx
    cases y with
    | non=>cases ry;exact PySem.EqNone.eq_int_none (fin_bl I q (by simp))
    | int j=>obtain ⟨t',rfl⟩:=ry;exact eq_int (fin_bl I q dec_int)
    | str j=>obtain ⟨t',rfl⟩:=ry;exact PySem.EqMixed.eq_int_str (fin_bl I q (by simp))
    | _=>exact absurd (show false=true from hs) Bool.false_ne_true
  | str i=>
    obtain ⟨t,rfl⟩:=rx
    cases y with
    | non=>cases ry;exact PySem.EqNone.eq_str_none (fin_bl I q (by simp))
    | bl j=>cases ry;exact PySem.EqMixed.eq_str_bool (fin_bl I q (by simp))
    | int j=>obtain ⟨t',rfl⟩:=ry;exact PySem.EqMixed.eq_str_int (fin_bl I q (by simp))
    | str j=>obtain ⟨t',rfl⟩:=ry;exact eq_str (fin_bl I q dec_str)
    | _=>exact absurd (show false=true from hs) Bool.false_ne_true
  | byt i=>
    obtain ⟨t,rfl⟩:=rx
    cases y with
    | byt j=>obtain ⟨t',rfl⟩:=ry;exact PySem.W.eq_bytes (fin_bl I q dec_byt)
    | _=>exact absurd (show false=true from hs) Bool.false_ne_true
  | _=>cases y<;>exact absurd (show false=true from hs) Bool.false_ne_true
theorem OpR.or {f:Value→Value→Sem Value} {r r':R2} (h:OpR X f r) (h':OpR X f r'):OpR X f (fun x y H Q=>r x y H Q∨r' x y H Q):=by
  intro pins s σ H x y v u Q I rx ry q
  rcases q with q | q
  · exact h pins s σ H x y v u Q I rx ry q
  · exact h' pins s σ H x y v u Q I rx ry q
theorem nomark (b:Expr) {op:CmpOp} (h:op≠.In:=by decide) (h2:op≠.NotIn:=by decide):behindInMarks op b=false:=by
  have e1:(op == CmpOp.In)=false:=by cases op<;>first | rfl | exact absurd rfl h
  have e2:(op == CmpOp.NotIn)=false:=by cases op<;>first | rfl | exact absurd rfl h2
  cases b<;>simp [behindInMarks,e1,e2]
theorem pe_cmpR {op:CmpOp} {r:R2} (ho:OpR X (compareOp op) r) (ha:PE X a ta) (hb:PE X b tb) (hm:behindInMarks op b=false):PE X (.Compare a [op] [b] pos) (tOp r ta tb):=by
  intro pins s σ H Q I h
  exact wpAny_Compare1 (binT ha hb I h fun v u s2 x y H2 I2 rx ry q=>ho pins s2 σ H2 x y v u Q I2 rx ry q) hm
def tTest (t:TE):TT:=fun σ H Q=>t σ H fun x H'=>∃ k,x = .bl k∧Q k H'
theorem pt_cmpR {op:CmpOp} {r:R2} (ho:OpR X (compareOp op) r) (ha:PE X a ta) (hb:PE X b tb) (hm:behindInMarks op b=false):PT X (.Compare a [op] [b] pos) (tTest (tOp r ta tb)):=by
  intro pins s σ H Q I h
  refine wpAny_isTrue_Compare1 (thn (ha pins s σ H _ I h) fun v s1 ⟨x,H1,I1,r1,q1⟩=>thn (hb pins s1 σ H1 _ I1 q1) fun u s2 ⟨y,H2,I2,r2,q2⟩=>
    thn (ho pins s2 σ H2 x y v u _ I2 r1 r2 q2) fun c s3 ⟨z,H3,I3,r3,k,e,q3⟩=>?_) hm
  subst e
  cases r3
  exact wpAny_truthy_bool ⟨H3,I3,q3⟩
def tChain (r r':R2) (ta tb tc:TE):TE:=fun σ H Q=>ta σ H fun x H1=>tb σ H1 fun y H2=>r x y H2 fun z H3=>∃ k,z = .bl k∧
  (if k=true then tc σ H3 fun w' H4=>r' y w' H4 Q else Q (.bl false) H3)
theorem pe_chain {op op':CmpOp} {r r':R2} (ho:OpR X (compareOp op) r) (ho':OpR X (compareOp op') r') (ha:PE X a ta) (hb:PE X b tb) (hc:PE X c tc)
    (hm:lastMarks [op,op'] [b,c]=false:=by with_unfolding_all rfl):PE X (.Compare a [op,op'] [b,c] pos) (tChain r r' ta tb tc):=by
  intro pins s σ H Q I h
  refine Compare_chain (thn (ha pins s σ H _ I h) fun v s1 ⟨x,H1,I1,r1,q1⟩=>chain_link (thn (hb pins s1 σ H1 _ I1 q1) fun u s2 ⟨y,H2,I2,r2,q2⟩=>
    thn (ho pins s2 σ H2 x y v u _ I2 r1 r2 q2) fun d s3 ⟨z,H3,I3,r3,k,e,q3⟩=>?_)) hm
  subst e
  cases r3
  refine wpAny_truthy_bool ?_
  cases k with
  | false=>exact ite_ff ⟨.bl false,H3,I3,rfl,q3⟩
  | true=>exact ite_tt (chain_last (thn (hc pins s3 σ H3 _ I3 q3) fun w' s4 ⟨z',H4,I4,r4,q4⟩=>ho' pins s4 σ H4 y z' u w' Q I4 r2 r4 q4))
theorem pt_chain {op op':CmpOp} {r r':R2} (ho:OpR X (compareOp op) r) (ho':OpR X (compareOp op') r') (ha:PE X a ta) (hb:PE X b tb) (hc:PE X c tc)
    (hm:lastMarks [op,op'] [b,c]=false:=by with_unfolding_all rfl):PT X (.Compare a [op,op'] [b,c] pos) (tTest (tChain r r' ta tb tc)):=by
  intro pins s σ H Q I h
  refine isTrue_chain (thn (ha pins s σ H _ I h) fun v s1 ⟨x,H1,I1,r1,q1⟩=>test_link (thn (hb pins s1 σ H1 _ I1 q1) fun u s2 ⟨y,H2,I2,r2,q2⟩=>
    thn (ho pins s2 σ H2 x y v u _ I2 r1 r2 q2) fun d s3 ⟨z,H3,I3,r3,k,e,q3⟩=>?_)) hm
  subst e
  cases r3
  refine wpAny_truthy_bool ?_
  cases k with
  | false=>
    obtain ⟨k',e',q'⟩:=q3
    cases e'
    exact ite_ff ⟨H3,I3,q'⟩
  | true=>
    refine ite_tt (test_last (thn (hc pins s3 σ H3 _ I3 q3) fun w' s4 ⟨z',H4,I4,r4,q4⟩=>thn (ho' pins s4 σ H4 y z' u w' _ I4 r2 r4 q4) fun d' s5 ⟨z2,H5,I5,r5,k2,e2,q5⟩=>?_))
    subst e2
    cases r5
    exact wpAny_truthy_bool ⟨H5,I5,q5⟩
def TruV (K:PySem.W.Frag) (x:V) (H:Hp) (k:Bool):Prop:=
  match x with
  | .non=>k=false
  | .bl b=>k=b
  | .int i=>k=(i != 0)
  | .str y=>y.length≤sizeLine∧k=((y.length:Int) != 0)
  | .byt y=>y.size≤sizeLine∧k=((y.size:Int) != 0)
  | .ref p=>(∃ xs,SqL K H p xs∧k = !xs.isEmpty)∨(∃ xs,SqT K H p xs∧k = !xs.isEmpty)∨∃ kvs,H p=some (.dK kvs)∧k = !kvs.isEmpty
  | _=>False
theorem isEmpty_kv {κ:Type} {kvs:List (κ×V)} {vs:List (κ×Value)} (r:KV kvs vs):(!vs.isEmpty) = !kvs.isEmpty:=by
  cases r<;>rfl
theorem isEmpty_of {xs:List V} {its:List Value} (r:Vals xs its):(!its.toArray.isEmpty) = !xs.isEmpty:=by
  cases r<;>simp
theorem line63:(sizeLine:Nat) < 2 ^ 63:=by rw [sizeLine_eq];decide
theorem tru_ok:TruR X (fun x H Q=>∃ k,TruV X.K x H k∧Q k H):=by
  intro pins s σ H x v Q I rx h
  obtain ⟨k,e,q⟩:=h
  have hl:=line63
  have hs:sizeLine=16777216:=sizeLine_eq
  cases x with
  | non=>
    cases rx
    have e':k=false:=e
    subst e'
    exact truthy_none ⟨H,I,q⟩
  | bl b=>
    cases rx
    have e':k=b:=e
    subst e'
    exact wpAny_truthy_bool ⟨H,I,q⟩
  | int i=>
    obtain ⟨t,rfl⟩:=rx
    have e':k=(i != 0):=e
    subst e'
    exact PySem.P.truthy_int ⟨H,I,q⟩
  | str y=>
    obtain ⟨t,rfl⟩:=rx
    obtain ⟨hy,e'⟩:y.length≤sizeLine∧k=((y.length:Int) != 0):=e
    subst e'
    exact PySem.P.truthy_str (by omega) ⟨H,I.tok _,q⟩
  | byt y=>
    obtain ⟨t,rfl⟩:=rx
    obtain ⟨hy,e'⟩:y.size≤sizeLine∧k=((y.size:Int) != 0):=e
    subst e'
    exact PySem.W.truthy_bytes (by omega) ⟨H,I.tok _,q⟩
  | ref p=>
    cases rx
    have e':(∃ xs,SqL X.K H p xs∧k = !xs.isEmpty)∨(∃ xs,SqT X.K H p xs∧k = !xs.isEmpty)∨∃ kvs,H p=some (.dK kvs)∧k = !kvs.isEmpty:=e
    rcases e' with ⟨xs,hx,e'⟩ | ⟨xs,hx,e'⟩ | ⟨kvs,hx,e'⟩
    · subst e'
      obtain ⟨its,r,pl,hz⟩:=I.list hx
      have hlen:=r.length
      exact wpAny_truthy_list pl.isList (by simp only [List.size_toArray];omega) ⟨H,I.tok _,by rw [isEmpty_of r];exact q⟩
    · subst e'
      obtain ⟨its,r,pl,hz⟩:=I.tuple hx
      have hlen:=r.length
      exact truthy_tuple pl (by simp only [List.size_toArray];omega) ⟨H,I.tok _,by rw [isEmpty_of r];exact q⟩
    · subst e'
      obtain ⟨hz,hS,vs,r,m⟩:kvs.length≤sizeLine∧(p == sysModules)=false∧∃ vs,KV kvs vs∧s.heap.DictOf (mixKind X.prog X.w) p vs:=I.hok p _ hx
      have hlen:kvs.length=vs.length:=Paired.length r
      exact wpAny_truthy_dict hS m (by omega) ⟨H,I.tok _,by rw [isEmpty_kv r];exact q⟩
  | _=>exact (show False from e).elim
theorem pt_truth (ha:PE X a ta) (he:∀ whole,isTrue a X.env whole=(do let v ← whole;standAt a.pos;holding [v] (truthy v))) :
    PT X a (fun σ H Q=>ta σ H fun x H'=>∃ k,TruV X.K x H' k∧Q k H'):=by
  intro pins s σ H Q I h
  exact isTrue_plain (thn (ha pins s σ H _ I h) fun v s1 ⟨x,H1,I1,r1,q1⟩=>tru_ok pins s1 σ H1 x v Q I1 r1 q1) (he _)
theorem vals1 {x:V} {us:List Value} (r:Vals [x] us):∃ u,us=[u]∧RelV x u:=by
  cases r with
  | cons r1 r2=>cases r2;exact ⟨_,rfl,r1⟩
theorem vals2 {x y:V} {us:List Value} (r:Vals [x,y] us):∃ u w',us=[u,w']∧RelV x u∧RelV y w':=by
  cases r with
  | cons r1 r2=>
    cases r2 with
    | cons r3 r4=>cases r4;exact ⟨_,_,rfl,r1,r3⟩
theorem call_abs:CallR X (.builtin "abs") (fun xs H Q=>∃ i,xs=[.int i]∧Q (.int (if i < 0 then -i else i)) H):=by
  intro pins s σ H xs us Q I r h
  obtain ⟨i,rfl,q⟩:=h
  obtain ⟨u,rfl,t,rfl⟩:=vals1 r
  exact call_abs_int fun u tk=>⟨.int (if i < 0 then -i else i),H,I.tok _,⟨_,rfl⟩,q⟩
theorem call_max2 (hc:X.calm=true):CallR X (.builtin "max") (fun xs H Q=>∃ i j,xs=[.int i,.int j]∧Q (.int (if j > i then j else i)) H):=by
  intro pins s σ H xs us Q I r h
  obtain ⟨i,j,rfl,q⟩:=h
  obtain ⟨u,w',rfl,⟨t,rfl⟩,⟨t',rfl⟩⟩:=vals2 r
  refine max_two_ints (I.ok.hd hc) fun h' tk k=>⟨_,H,I.kept k,?_,q⟩
  by_cases hj:j > i
  · rw [if_pos hj,if_pos hj];exact ⟨_,rfl⟩
  · rw [if_neg hj,if_neg hj];exact ⟨_,rfl⟩
theorem call_int1:CallR X (.type "int") (fun xs H Q=>(∃ i,xs=[.int i]∧Q (.int i) H)∨∃ k,xs=[.bl k]∧Q (.int (if k then 1 else 0)) H):=by
  intro pins s σ H xs us Q I r h
  rcases h with ⟨i,rfl,q⟩ | ⟨k,rfl,q⟩
  · obtain ⟨u,rfl,t,rfl⟩:=vals1 r
    exact call_int_int ⟨.int i,H,I,⟨_,rfl⟩,q⟩
  · obtain ⟨u,rfl,r1⟩:=vals1 r
    cases r1
    exact call_int_bool ⟨.int (if k then 1 else 0),H,I.tok _,⟨_,rfl⟩,q⟩
end
structure ObjM (h:Heap) (x dx C:Addr) (mA:Str→Option Value):Prop where
  obj:h.get? x=some (PySem.W.instObj C dx)
  ns:h.Ns1 dx mA
  ne:dx≠x
theorem lookIn_ns {h:Heap} {dx:Addr} {mA:Str→Option Value} (n:h.Ns1 dx mA):∃ od,h.get? dx=some od∧∀ name,PySem.W.lookIn name od=some (mA name):=by
  obtain ⟨o,es,ep,ho,hd,hk,_,hm⟩:=n
  refine ⟨o,ho,fun name=>?_⟩
  have e:=hm name
  unfold nsFind findBy at e
  rw [← Array.find?_toList] at e
  unfold PySem.W.lookIn
  rw [hd]
  dsimp only
  split
  · rename_i y q
    rw [q] at e
    exact congrArg some e
  · rename_i q
    rw [q] at e
    have a:es.toList.any (·.refKey)=false:=by
      rw [List.any_eq_false]
      intro y hy
      obtain ⟨z,t,hkey⟩:=hk y (Array.mem_toList_iff.mp hy)
      simp [DictEntry.refKey,hkey]
    have a':¬ es.toList.any (·.refKey)=true:=by rw [a];exact Bool.false_ne_true
    rw [if_neg a']
    exact congrArg some e
theorem ObjM.look {h:Heap} {x dx C:Addr} {mA:Str→Option Value} (I:ObjM h x dx C mA):∃ od,PySem.W.InstAt h x (PySem.W.instObj C dx) C (some od)∧∀ name,PySem.W.lookIn name od=some (mA name):=
  let ⟨od,ho,hl⟩:=lookIn_ns I.ns
  ⟨od,⟨I.obj,rfl,rfl,ho⟩,hl⟩
section
variable {prog:Program} {w:World} {A:Around} {E:Value→Shared→Prop} {s:Shared} {K:PySem.W.Frag} {x dx C f:Addr} {mA:Str→Option Value} {name:Str} {v:Value}
end
section
variable {P:Program} {w:World} {H H':Hp} {h h':Heap} {a C dx:Addr} {fs fs':List (Str×V)}
end
structure Cls (K:PySem.W.Frag) (C:Addr):Prop where
  pg:PySem.W.plainGet K C Str.empty=true
  hd:PySem.W.hasDictIn K C=true
  po:PySem.W.plainOver K C=true
  sa:PySem.W.findIn K (.ref C) "__setattr__" = some (some (.builtin "object.__setattr__"))
theorem Cls.get {K:PySem.W.Frag} {C:Addr} (c:Cls K C) (f:Str):PySem.W.plainGet K C f=true:=c.pg
section
variable {X:Cx} {pins:List (Addr×Obj)} {σ:St} {H:Hp} {s:Shared} {a C dx:Addr} {fs:List (Str×V)} {f:Str} {v:V} {A:Around} {E:Value→Shared→Prop}
end
section
variable {X:Cx} {o e value:Expr} {f:Str} {pos pos' tpos:Pos} {ta tv:TE}
end
section
variable {X:Cx} {pins:List (Addr×Obj)} {σ:St} {H:Hp} {s:Shared} {A:Around} {E:Value→Shared→Prop} {Q:Value→Shared→Prop} {c:Value} {b:Bool}
end
structure Room (k:Nat) (A:Around):Prop where
  hd:A.handled=none
  gd:A.guards=some []
  dp:A.depth+3*k+5 < recursionLimit
  un:A.units+16*k+200 < cLine
theorem Room.mono {j k:Nat} {A:Around} (r:Room k A) (h:j≤k):Room j A:=⟨r.hd,r.gd,by have:=r.dp;omega,by have:=r.un;omega⟩
theorem Room.deeper {k:Nat} {A:Around} (r:Room (k+1) A) (env:Env):Room k (A.deeper env):=
  ⟨r.hd,r.gd,by have:=r.dp;show A.depth+1+3*k+5 < _;omega,by have:=r.un;show A.units+3+16*k+200 < _;omega⟩
theorem make_depth {A:Around} {C:Addr} {us:List Value} {kw:List (Str×Value)}:(A.under (.builtin "type.__call__" ⟨.ref C::us,kw⟩)).depth=A.depth+1:=by
  first | rfl | simp [Around.under,Code.weight,Code.isCreation,Code.isGuard,Code.isCaller,Code.frames,Code.isFrame,guardIds]
theorem make_units {A:Around} {C:Addr} {us:List Value} {kw:List (Str×Value)}:(A.under (.builtin "type.__call__" ⟨.ref C::us,kw⟩)).units=A.units+1:=by
  first | rfl | simp [Around.under,Code.cUnits,Code.frames,Code.isFrame]
theorem Room.make {k:Nat} {A:Around} (r:Room (k+1) A) (C:Addr) (us:List Value) (kw:List (Str×Value)):Room k (A.under (.builtin "type.__call__" ⟨.ref C::us,kw⟩)):=
  ⟨r.hd,by first | exact r.gd | simp [Around.under,Code.weight,Code.isCreation,Code.isGuard,Code.isCaller,Code.frames,Code.isFrame,guardIds,r.gd],by have:=r.dp;rw [make_depth];omega,by have:=r.un;rw [make_units];omega⟩
theorem Room.depth {k:Nat} {A:Around} (r:Room k A):A.depth < recursionLimit:=by have:=r.dp;omega
theorem Room.units {k:Nat} {A:Around} (r:Room k A):A.units+64 < cLine:=by have:=r.un;omega
def tNil:TA:=fun _ H Q=>Q [] H
def tCons (ta:TE) (tr:TA):TA:=fun σ H Q=>ta σ H fun x H1=>tr σ H1 fun xs H2=>Q (x::xs) H2
section
variable {X:Cx} {e:Expr} {es:List Expr} {te:TE} {t:TA} {pos:Pos}
theorem pa_nil:PA X [] tNil:=fun _ _ _ _ H Q I h=>Calls.spliced_nil ⟨[],H,I,.nil,h⟩
theorem pa_cons (ha:PE X e te) (hr:PA X es t) (hs:starEach (e::es) X.env=(false,eval e X.env)::starEach es X.env:=by rfl):PA X (e::es) (tCons te t):=by
  intro pos pins s σ H Q I h
  rw [hs]
  show wpAny _ _ (spliced ((false,eval e X.env)::backTo pos (starEach es X.env))) _ _ s
  refine Calls.spliced_cons (thn (ha pins s σ H _ I h) fun u s1 ⟨x,H1,I1,r1,q1⟩=>?_)
  exact thn (hr pos pins s1 σ H1 _ I1 q1) fun us s2 ⟨xs,H2,I2,r2,q2⟩=>⟨x::xs,H2,I2,.cons r1 r2,q2⟩
def tTup (t:TA):TE:=fun σ H Q=>t σ H fun xs H1=>xs.length≤sizeLine∧∀ p,H1 p=none→Q (.ref p) (upd H1 p (.tup xs))
def tLst (t:TA):TE:=fun σ H Q=>t σ H fun xs H1=>xs.length≤sizeLine∧∀ p,H1 p=none→Q (.ref p) (upd H1 p (.lst xs))
theorem pe_tup {x1} (h:PA X es t):PE X (.Tuple es x1 pos) (tTup t):=by
  intro pins s σ H Q I hq
  refine wpAny_Tuple_spliced (thn (h pos pins s σ H _ I hq) fun us s1 ⟨xs,H1,I1,r,z,q⟩=>⟨by rw [← r.length];exact z,?_⟩)
  have hf:H1 s1.heap.objs.size=none:=I1.hok.fresh (Nat.le_refl _)
  refine ⟨.ref s1.heap.objs.size,upd H1 s1.heap.objs.size (.tup xs),I1.laid (t':=s1.toks) (fun b u e=>Heap.get?_push_of_some _ e) (Nat.le_refl _) ?_,rfl,q _ hf⟩
  exact ⟨z,us,r,⟨_,Heap.get?_push_size _ rfl,rfl,_,rfl⟩⟩
theorem pe_lst (h:PA X es t):PE X (.List es pos) (tLst t):=by
  intro pins s σ H Q I hq
  refine wpAny_List_spliced (thn (h pos pins s σ H _ I hq) fun us s1 ⟨xs,H1,I1,r,z,q⟩=>⟨by rw [← r.length];exact z,?_⟩)
  have hf:H1 s1.heap.objs.size=none:=I1.hok.fresh (Nat.le_refl _)
  refine ⟨.ref s1.heap.objs.size,upd H1 s1.heap.objs.size (.lst xs),I1.laid (t':=s1.toks) (fun b u e=>Heap.get?_push_of_some _ e) (Nat.le_refl _) ?_,rfl,q _ hf⟩
  exact ⟨z,us,0,r,Heap.get?_push_size _ rfl⟩
end
abbrev Sp:=List V→Hp→VK→XK→Prop
abbrev CXT:=List Env→Hp→Shared→XK→Value→Shared→Prop
structure Env0 (P:Program) (w:World) (K:PySem.W.Frag) (mg:Str→Option Value) (base:Heap) (A:Around) (outer:List Env) (s:Shared) (H:Hp):Prop where
  frames:A.frames=some outer
  mod:Mod K mg base
  bs:∀ b o,base.get? b=some o→s.heap.get? b=some o∧H b=none
  bsz:base.objs.size≤s.heap.objs.size
  funs:s.heap.FunFrames base outer
  frf:∀ b∈frs outer,H b=none
  hok:HOk P w H s.heap
  bare:AllBare s.gens
  sysn:∀ xs,H sysModules≠some (.lst xs)
def CE (outer:List Env) (P:Program) (w:World) (H:Hp) (s:Shared) (Q:VK) (u:Value) (s':Shared):Prop:=
  ∃ v H',s'.os=s.os∧AllBare s'.gens∧Un (frs outer) [] H H' s.heap s'.heap∧HOk P w H' s'.heap∧RelV v u∧Q v H'
def CR (CX:CXT) (outer:List Env) (P:Program) (w:World) (H:Hp) (s:Shared) (Q:VK) (E:XK) (r:Result) (s':Shared):Prop:=
  match r with
  | .ok (.ret u)=>CE outer P w H s Q u s'
  | .ok _=>False
  | .error e=>CX outer H s E e s'
structure FnOk (P:Program) (w:World) (K:PySem.W.Frag) (mg:Str→Option Value) (base:Heap) (CX:CXT) (k:Nat) (f:Addr) (fd:FuncData) (ps:List Str) (sp:Sp):Prop where
  len:∀ vs H Q E,sp vs H Q E→vs.length=ps.length
  run:∀ (A:Around) (outer:List Env) (s:Shared) (H:Hp) (args:Args) (us:List Value) (vs:List V) (Q:VK) (E:XK),Room k A→Env0 P w K mg base A outer s H→BindsTo s fd args (ps.zip us)→Vals vs us→sp vs H Q E→
    codeAny (model P w) A (.call (.ref f) args) (CR CX outer P w H s Q E) s
theorem FnOk.mono {P:Program} {w:World} {K:PySem.W.Frag} {mg:Str→Option Value} {base:Heap} {CX:CXT} {j k:Nat} {f:Addr} {fd:FuncData} {ps:List Str} {sp:Sp} (F:FnOk P w K mg base CX j f fd ps sp) (h:j≤k) :
    FnOk P w K mg base CX k f fd ps sp:=⟨F.len,fun A outer s H args us vs Q E hr=>F.run A outer s H args us vs Q E (hr.mono h)⟩
theorem Env0.make {P:Program} {w:World} {K:PySem.W.Frag} {mg:Str→Option Value} {base:Heap} {A:Around} {outer:List Env} {s:Shared} {H:Hp} (e:Env0 P w K mg base A outer s H) (C:Addr) (us:List Value) (kw:List (Str×Value)) :
    Env0 P w K mg base (A.under (.builtin "type.__call__" ⟨.ref C::us,kw⟩)) outer s H:=⟨by first | exact e.frames | (simpa [Around.under,Code.envs,Code.isFrame,pushEnvs] using e.frames),e.mod,e.bs,e.bsz,e.funs,e.frf,e.hok,e.bare,e.sysn⟩
section
variable {X:Cx} {pins:List (Addr×Obj)} {σ:St} {H:Hp} {s s':Shared}
theorem Inv.env0 (I:Inv X pins σ H s):Env0 X.prog X.w X.K X.mg X.base X.A X.stack s H:=
  ⟨I.ok.frames,I.ok.mod,I.bs,Nat.le_trans I.ok.bsz I.sz,I.stack,I.stkFree,I.hok,I.bare,I.sysn⟩
theorem Inv.after {Q:VK} {u:Value} (I:Inv X pins σ H s) (h:CE X.stack X.prog X.w H s Q u s'):EP X pins σ Q u s':=by
  obtain ⟨v,H',os,bare,un,hok,r,q⟩:=h
  obtain ⟨hh,g,d,t,os'⟩:=s'
  obtain rfl:os'=s.os:=os
  exact ⟨v,H',I.call (h':=hh) (g':=g) (d':=d) (t':=t) (ch:=[]) un hok bare (fun b z=>absurd z (by simp)),r,q⟩
end
def tCall (sp:Sp) (dvs:List V) (E:XK) (t:TA):TE:=fun σ H Q=>t σ H fun vs H1=>sp (vs++dvs) H1 Q E
def Binds (K:PySem.W.Frag) (fd:FuncData) (ps:List Str) (ds:List Value):Prop:=
  ∀ (s:Shared) (us:List Value),K.In s.heap→(us++ds).length=ps.length→BindsTo s fd ⟨us,[]⟩ (ps.zip (us++ds))
theorem Binds.all {K:PySem.W.Frag} {fd:FuncData} {ps:List Str} (h:∀ us:List Value,us.length=ps.length→bindArgs fd ⟨us,[]⟩=pure (ps.zip us)):Binds K fd ps []:=fun s us _ hl=>by
  rw [List.append_nil] at hl ⊢
  exact .of_eq (h us hl)
def Passes (CX:CXT) (X:Cx) (E:XK):Prop:=∀ (pins:List (Addr×Obj)) (σ:St) (H:Hp) (s:Shared) (e:Value) (s':Shared),Inv X pins σ H s→CX X.stack H s E e s'→X.xe e s'
section
variable {X:Cx} {CX:CXT} {k:Nat} {f C:Addr} {fd:FuncData} {ps:List Str} {sp:Sp} {dvs:List V} {ds:List Value} {E:XK} {x m:Str} {p pos apos:Pos} {e o:Expr} {es:List Expr} {ta:TE} {t:TA}
theorem run_fn {pins:List (Addr×Obj)} {σ:St} {H:Hp} {s:Shared} {Q:VK} {us:List Value} {vs:List V} (F:FnOk X.prog X.w X.K X.mg X.base CX k f fd ps sp) (hr:Room k X.A) (hb:Binds X.K fd ps ds) (hd:Vals dvs ds) (hx:Passes CX X E)
    (I:Inv X pins σ H s) (r:Vals vs us) (h:sp (vs++dvs) H Q E):wpAny (model X.prog X.w) X.A (call (.ref f) us) (EP X pins σ Q) X.xe s:=by
  have r2:Vals (vs++dvs) (us++ds):=r.append hd
  have hl:(us++ds).length=ps.length:=by rw [← r2.length];exact F.len _ _ _ _ h
  refine wpAny_call (codeAny_mono (F.run X.A X.stack s H ⟨us,[]⟩ (us++ds) (vs++dvs) Q E hr I.env0 (hb s us I.kIn hl) r2 h) fun r s' hq=>?_)
  cases r with
  | error e=>exact hx pins σ H s e s' I hq
  | ok fl=>
    cases fl with
    | ret u=>exact I.after hq
    | next=>exact False.elim hq
    | brk=>exact False.elim hq
    | cont=>exact False.elim hq
theorem pe_call (F:FnOk X.prog X.w X.K X.mg X.base CX k f fd ps sp) (hr:Room k X.A) (hg:Gl X x) (hm:X.mg x=some (.ref f)) (hk:PySem.W.keepIn X.K (.ref f)=true) (hb:Binds X.K fd ps ds) (hd:Vals dvs ds) (hx:Passes CX X E)
    (ha:PA X (e::es) t) (hdb:(x == ("__debug__" : Str))=false:=by decide) (he:starEach (e::es) X.env=(false,eval e X.env)::starEach es X.env:=by rfl) (hpl:(backTo pos (starEach es X.env)).any (·.1)=false:=by rfl) :
    PE X (.Call (.Name x p) (e::es) [] pos) (tCall sp dvs E t):=by
  intro pins s σ H Q I h
  refine wpAny_Call_Name_kw (ld_glob I hg hm ?_ hdb)
  refine PySem.W.callWith_K (h₀:=X.base) I.ok.mod.kin hk (thn (ha pos pins s σ H _ I h) fun us s1 ⟨vs,H1,I1,r,q⟩=>⟨I1.kIn,?_⟩) he hpl
  exact run_fn F hr hb hd hx I1 r q
end
section
variable {X:Cx} {CX:CXT} {k:Nat} {f C:Addr} {fd:FuncData} {ps ks:List Str} {sp:Sp} {E:XK} {x m:Str} {p pos apos kpos:Pos} {e o:Expr} {es:List Expr} {kws:List Keyword} {te ta:TE} {t tk:TA} {nm:Option Str}
variable {g:List Value→List Value→List Value} {gV:List V→List V→List V}
end
structure FnScope (N P:List Str) (sc:Scope):Prop where
  kind:sc.kind = .function
  co:sc.isCoroutine=false
  gen:sc.isGenerator=false
  nd:N.Nodup
  pre:N.take P.length=P
  par:∀ x∈P,sc.names.lookup x=some .local∨sc.names.lookup x=some .cell
  nofree:∀ y∈sc.names,y.2≠.free
theorem bindL_out {kindOf:Str→Option NameKind} {x:Str}:∀ {binds:List (Str×Value)} {m:Str→Option Value},(∀ v,(x,v)∉binds)→bindL kindOf binds m x=m x
  | [],_,_=>rfl
  | (n,v)::r,m,h=>by
    unfold bindL
    rw [bindL_out fun w hw=>h w (List.mem_cons_of_mem _ hw)]
    split
    · have:x≠n:=by rintro rfl;exact h v List.mem_cons_self
      simp [this]
    · rfl
theorem bindC_out {kindOf:Str→Option NameKind} {x:Str}:∀ {binds:List (Str×Value)} {m:Str→Option Value},(∀ v,(x,v)∉binds)→bindC kindOf binds m x=m x
  | [],_,_=>rfl
  | (n,v)::r,m,h=>by
    unfold bindC
    rw [bindC_out fun w hw=>h w (List.mem_cons_of_mem _ hw)]
    split
    · rfl
    · have:x≠n:=by rintro rfl;exact h v List.mem_cons_self
      simp [this]
theorem bindL_get {kindOf:Str→Option NameKind} {x:Str} {v:Value}:∀ {P:List Str} {vs:List Value} {i:Nat} {m:Str→Option Value},P.Nodup→P[i]? = some x→vs[i]? = some v→kindOf x=some .local→
    bindL kindOf (P.zip vs) m x=some v
  | [],_,_,_,_,h,_,_=>by simp at h
  | _::_,[],_,_,_,_,h,_=>by simp at h
  | p::P,w::vs,0,m,nd,h1,h2,hk=>by
    simp at h1 h2;subst h1;subst h2
    show bindL kindOf ((p,w)::P.zip vs) m p=_
    unfold bindL
    rw [bindL_out fun v hv=>(List.nodup_cons.mp nd).1 (List.of_mem_zip hv).1,if_pos hk]
    simp
  | p::P,w::vs,i+1,m,nd,h1,h2,hk=>by
    show bindL kindOf ((p,w)::P.zip vs) m x=_
    unfold bindL
    exact bindL_get (i:=i) (List.nodup_cons.mp nd).2 (by simpa using h1) (by simpa using h2) hk
theorem bindC_get {kindOf:Str→Option NameKind} {x:Str} {v:Value}:∀ {P:List Str} {vs:List Value} {i:Nat} {m:Str→Option Value},P.Nodup→P[i]? = some x→vs[i]? = some v→kindOf x≠some .local→
    bindC kindOf (P.zip vs) m x=some v
  | [],_,_,_,_,h,_,_=>by simp at h
  | _::_,[],_,_,_,_,h,_=>by simp at h
  | p::P,w::vs,0,m,nd,h1,h2,hk=>by
    simp at h1 h2;subst h1;subst h2
    show bindC kindOf ((p,w)::P.zip vs) m p=_
    unfold bindC
    rw [bindC_out fun v hv=>(List.nodup_cons.mp nd).1 (List.of_mem_zip hv).1,if_neg hk]
    simp
  | p::P,w::vs,i+1,m,nd,h1,h2,hk=>by
    show bindC kindOf ((p,w)::P.zip vs) m x=_
    unfold bindC
    exact bindC_get (i:=i) (List.nodup_cons.mp nd).2 (by simpa using h1) (by simpa using h2) hk
def start (N:List Str) (vs:List V):St:=vs.map some++List.replicate (N.length - vs.length) none
def cxOf (CX:CXT) (P:Program) (w:World) (K:PySem.W.Frag) (mg:Str→Option Value) (base:Heap) (N:List Str) (qual:Str) (scope:Scope) (f:Addr) (cd:Value) (A:Around) (outer:List Env) (s:Shared) (H:Hp) (E:XK):Cx where
  prog:=P
  w:=w
  K:=K
  mg:=mg
  base:=base
  A:=A.deeper (envOfC qual scope s.heap.objs.size f cd)
  N:=N
  s₀:=s
  H₀:=H
  env:=envOfC qual scope s.heap.objs.size f cd
  outer:=outer
  stack:=envOfC qual scope s.heap.objs.size f cd::outer
  ex:=[]
  calm:=true
  fn:=fun _=>true
  pn:=[]
  xe:=fun e s'=>wpAny (model P w) (A.deeper (envOfC qual scope s.heap.objs.size f cd)) (leaving (envOfC qual scope s.heap.objs.size f cd) e) (fun _ s''=>CX outer H s E e s'') (fun e' s''=>CX outer H s E e' s'') s'
theorem cell_has {sc:Scope} {n:Nat} {x:Str} (h:sc.names.lookup x=some .cell):∃ c,(cellsFrom n sc.names []).lookup x=some c:=by
  have q:=PySem.W.cellsFrom_some sc.names n [] (.inl h)
  exact Option.isSome_iff_exists.mp q
theorem inv_start {CX:CXT} {P:Program} {w:World} {K:PySem.W.Frag} {mg:Str→Option Value} {base:Heap} {N ps:List Str} {qual:Str} {scope:Scope} {f:Addr} {cd:Value} {A:Around} {outer:List Env} {s s1:Shared} {H:Hp} {E:XK} {us:List Value} {vs:List V}
    (S:FnScope N ps scope) (hd:A.handled=none) (e0:Env0 P w K mg base A outer s H) (hl:vs.length=ps.length) (r:Vals vs us)
    (x:InCallC s s.heap.objs.size (bindL (envOfC qual scope s.heap.objs.size f cd).kindOf (ps.zip us) fun _=>none) (cellsFrom (s.heap.objs.size+1) scope.names []) (bindC (envOfC qual scope s.heap.objs.size f cd).kindOf (ps.zip us) fun _=>none) s1) :
    Inv (cxOf CX P w K mg base N qual scope f cd A outer s H E) [] (start N vs) H s1:=by
  have hpl:ps.length≤N.length:=by have:=congrArg List.length S.pre;rw [List.length_take] at this;omega
  obtain ⟨h1,tk,rfl,hk⟩:=x.done
  have noA:∀ b:Addr,b∉(cxOf CX P w K mg base N qual scope f cd A outer s H E).ex:=fun b z=>absurd (show b∈([]:List Addr) from z) (by simp)
  refine ⟨⟨e0.mod,S.kind,rfl,rfl,Nat.le_refl _,fun y z c h1 h2=>?_,fun y hy=>?_,fun y c _ h=>?_,fun _=>hd,Around.frames_deeper e0.frames,.inr ⟨rfl,rfl⟩,fun b z=>absurd z (noA b),e0.bs,e0.bsz,fun b _ _=>noA b,fun b z=>absurd z (noA b),e0.funs,e0.frf,e0.sysn⟩,
    rfl,e0.bare,Un.kept hk,⟨_,x.toInCall.ns,fun i y v h1 h2 h3=>?_⟩,fun y c h=>⟨_,x.cell y c h⟩,e0.hok.fresh (Nat.le_refl _),fun y c h=>?_,fun p hp=>absurd (show p∈([]:List (Addr×Obj)) from hp) (by simp),e0.hok.kept hk,?_⟩
  · exact name_of_addr x.apart (PySem.mem_of_lookup h1) (PySem.mem_of_lookup h2)
  · have hy:scope.names.lookup y=some .cell∨scope.names.lookup y=some .free:=hy
    rcases hy with hy | hy
    · exact cell_has hy
    · exact absurd rfl (S.nofree _ (PySem.mem_of_lookup hy))
  · exact Nat.le_of_lt (x.above y c (PySem.mem_of_lookup h))
  · have hi:i < vs.length:=by
      unfold start at h2
      by_cases hi:i < vs.length
      · exact hi
      · rw [List.getElem?_append_right (by simpa using hi)] at h2
        rw [List.getElem?_replicate] at h2
        split at h2<;>cases h2
    have ha:vs[i]? = some v:=by
      unfold start at h2
      rw [List.getElem?_append_left (by simpa using hi),List.getElem?_map] at h2
      cases e:vs[i]? with
      | none=>rw [e] at h2;cases h2
      | some a=>rw [e] at h2;cases h2;rfl
    obtain ⟨u,hu,rv⟩:=r.get ha
    have hp:ps[i]? = some y:=by
      rw [← S.pre,List.getElem?_take_of_lt (by omega)];exact h1
    have ndP:ps.Nodup:=by rw [← S.pre];exact S.nd.sublist (List.take_sublist _ _)
    refine ⟨u,rv,?_⟩
    rcases S.par y (List.mem_of_getElem? hp) with k | k
    · exact .inl ⟨k,bindL_get ndP hp hu k⟩
    · obtain ⟨c,e⟩:=cell_has (n:=s.heap.objs.size+1) k
      refine .inr ⟨.inl k,c,e,?_⟩
      have q:=x.cell y c e
      rw [bindC_get ndP hp hu (by show scope.names.lookup y≠_;rw [k];decide)] at q
      exact q
  · exact e0.hok.fresh (Nat.le_of_lt (x.above y c (PySem.mem_of_lookup h)))
  · unfold start
    show _=N.length
    rw [List.length_append,List.length_map,List.length_replicate]
    omega
theorem fn_of {CX:CXT} {P:Program} {w:World} {K:PySem.W.Frag} {mg:Str→Option Value} {base:Heap} {k:Nat} {f:Addr} {name qual:Str} {params:Arguments} {body:List Stmt} {scope:Scope} {dV kV doc pm cdv ct oc:Value} {an od:Option Addr}
    {osl:Array (Option Value)} {N ps:List Str} {sp:Sp} (lk:K.lookup f=some ⟨oc,od,.func (PySem.W.fnOf name qual params body scope dV kV doc pm an cdv ct),osl⟩) (hcd:PySem.W.codeIn K cdv qual=true) (S:FnScope N ps scope)
    (len:∀ vs H Q E,sp vs H Q E→vs.length=ps.length)
    (hbody:∀ (A:Around) (outer:List Env) (s:Shared) (H:Hp) (vs:List V) (Q:VK) (E:XK),Room k (A.deeper (envOfC qual scope s.heap.objs.size f cdv))→sp vs H Q E→
      ∃ t,PSs (cxOf CX P w K mg base N qual scope f cdv A outer s H E) body t∧t { nx:=fun _ H'=>Q .non H',rt:=Q } (start N vs) H) :
    FnOk P w K mg base CX (k+1) f (PySem.W.fnOf name qual params body scope dV kV doc pm an cdv ct) ps sp:=by
  refine ⟨len,fun A outer s H args us vs Q E hr e0 hb r hsp=>?_⟩
  have hl:=len _ _ _ _ hsp
  have KX:K.In s.heap:=e0.mod.kin.keeps fun b o e=>(e0.bs b o e).1
  have lim:s.heap.NoLimit:=e0.mod.nolimit.keeps fun b o e=>(e0.bs b o e).1
  have hkind:∀ y∈ps.zip us,scope.names.lookup y.1=some .local∨(scope.names.lookup y.1=some .cell∧((cellsFrom (s.heap.objs.size+1) scope.names []).lookup y.1).isSome=true):=fun ⟨n,v⟩ hy=>by
    rcases S.par n (List.of_mem_zip hy).1 with q | q
    · exact .inl q
    · exact .inr ⟨q,PySem.W.cellsFrom_some _ _ _ (.inl q)⟩
  refine codeAny_call_function hr.depth (KX _ _ lk) rfl S.co S.gen rfl (PySem.W.codeRec_of KX hcd) (hb _ _ _ _ ?_)
  refine wpAny_newFunctionEnv_cells S.kind hkind fun env he s1 x=>?_
  subst he
  refine ⟨lim.keeps x.toInCall.keep,codeAny_func ?_⟩
  obtain ⟨t,ht,hq⟩:=hbody A outer s H vs Q E (hr.deeper _) hsp
  have I:Inv (cxOf CX P w K mg base N qual scope f cdv A outer s H E) [] (start N vs) H s1:=inv_start S hr.hd e0 hl r x
  refine wpAny_mono (ht [] s1 (start N vs) H _ I hq) (fun fl s' hs=>?_) fun e s' hs=>hs
  have fin:∀ {σ':St} {H':Hp} {v:V} {u:Value},Inv (cxOf CX P w K mg base N qual scope f cdv A outer s H E) [] σ' H' s'→RelV v u→Q v H'→CE outer P w H s Q u s':=
    fun {σ' H' v u} J rv q=>⟨v,H',J.os,J.bare,J.base,J.hok,rv,q⟩
  cases fl with
  | ret u=>
    obtain ⟨v,σ',H',J,rv,q⟩:=hs
    exact fin J rv q
  | next=>
    obtain ⟨σ',H',J,q⟩:=hs
    exact fin (v:=V.non) (u:=Value.none) J rfl q
  | brk=>
    obtain ⟨_,_,_,q⟩:=hs
    exact False.elim q
  | cont=>
    obtain ⟨_,_,_,q⟩:=hs
    exact False.elim q
section
variable {X:Cx} {x:Str} {p pos:Pos} {e:Expr} {es:List Expr} {t:TA} {id T:String} {r:List V→Hp→VK→Prop}
def tCB (r:List V→Hp→VK→Prop) (t:TA):TE:=fun σ H Q=>t σ H fun vs H1=>r vs H1 Q
theorem pe_callB (hc:CallR X (.builtin id) r) (hg:Gl X x) (hm:X.mg x=none) (hv:bootBuiltins x=some (.builtin id)) (ha:PA X (e::es) t) (hn:x≠ "__name__" :=by decide) (hdb:(x == ("__debug__" : Str))=false:=by decide)
    (he:starEach (e::es) X.env=(false,eval e X.env)::starEach es X.env:=by rfl) (hpl:(backTo pos (starEach es X.env)).any (·.1)=false:=by rfl):PE X (.Call (.Name x p) (e::es) [] pos) (tCB r t):=by
  intro pins s σ H Q I h
  refine wpAny_Call_Name_kw (ld_blt I hg hm hv ?_ hn hdb)
  exact PyProof.Rows.callWith_builtin1 (thn (ha pos pins s σ H _ I h) fun us s1 ⟨vs,H1,I1,r1,q1⟩=>hc pins s1 σ H1 vs us Q I1 r1 q1) he hpl
theorem pe_callTy (hc:CallR X (.type T) r) (hg:Gl X x) (hm:X.mg x=none) (hv:bootBuiltins x=some (.type T)) (ha:PA X (e::es) t) (hn:x≠ "__name__" :=by decide) (hdb:(x == ("__debug__" : Str))=false:=by decide)
    (he:starEach (e::es) X.env=(false,eval e X.env)::starEach es X.env:=by rfl) (hpl:(backTo pos (starEach es X.env)).any (·.1)=false:=by rfl):PE X (.Call (.Name x p) (e::es) [] pos) (tCB r t):=by
  intro pins s σ H Q I h
  refine wpAny_Call_Name_kw (ld_blt I hg hm hv ?_ hn hdb)
  exact PyProof.Rows.callWith_type1 (thn (ha pos pins s σ H _ I h) fun us s1 ⟨vs,H1,I1,r1,q1⟩=>hc pins s1 σ H1 vs us Q I1 r1 q1) he hpl
end
end L2
namespace HT
open PySem PyProof.Rows
section
open PySem.SeqAt
open PySem.AutoSeq1 (wpAny_loadPart')
open PySem.MeetsSeq PySem.MeetsSeq2 PySem.MeetsSeq3
end
section
variable {prog:Program} {w:World} {A:Around} {E:Value→Shared→Prop} {s:Shared}
theorem cat_tup {t b:Addr} {vs ws:List Value} {Q:Value→Shared→Prop} (ht:IsTup s.heap t vs.toArray) (hb:IsTup s.heap b ws.toArray) (hv:vs≠[])
    (h1:ws=[]→Q (.ref t) s) (h2:ws≠[]→Q (.ref s.heap.objs.size) { s with heap:=s.heap.push { cls:=.type "tuple",data:=.seq (vs++ws).toArray } })
    (hsz:vs.length+ws.length≤sizeLine):wpAny (model prog w) A (binaryOp .Add (.ref t) (.ref b)) Q E s:=by
  obtain ⟨⟨cls,dd,data,sl⟩,ho,hc,n,hd⟩:=id ht
  obtain ⟨⟨cls2,dd2,data2,sl2⟩,ho2,hc2,n2,hd2⟩:=id hb
  simp only at hc hd hc2 hd2
  subst hc hd hc2 hd2
  have e:vs.toArray++ws.toArray=(vs++ws).toArray:=by simp
  by_cases hw:ws=[]
  · exact concat_meets ⟨_,ho,rfl⟩ ⟨_,ho2,rfl⟩ noFill_tuple_add seq_tuple_add PySem.F.slot_tuple_add PySem.F.entry_tuple_add (PySem.F.args_tuple_add_2 _ _)
      (tuple_addW1 t b vs.toArray ws.toArray n n2 dd dd2 sl sl2 (by simpa using hv) (by simp [hw])) ⟨ho,ho2,h1 hw⟩
  · refine concat_meets ⟨_,ho,rfl⟩ ⟨_,ho2,rfl⟩ noFill_tuple_add seq_tuple_add PySem.F.slot_tuple_add PySem.F.entry_tuple_add (PySem.F.args_tuple_add_2 _ _)
      (tuple_addW2 t b vs.toArray ws.toArray n n2 dd dd2 sl sl2 (by simpa using hv) (by simpa using hw) (by rw [List.size_toArray,List.size_toArray];exact hsz)) ⟨ho,ho2,?_⟩
    rw [e]
    exact h2 hw
def sIx (n d:Nat):Option Int→Nat
  | none=>d
  | some v=>if v < 0 then (v+(n:Int)).toNat else min v.toNat n
theorem sIx_none (n d:Nat):sIx n d none=d:=rfl
theorem sIx_nat (n d k:Nat):sIx n d (some (k:Int))=min k n:=by
  show (if (k:Int) < 0 then ((k:Int)+(n:Int)).toNat else min (k:Int).toNat n)=min k n
  rw [if_neg (by omega),Int.toNat_natCast]
theorem sIx_le (n d:Nat) (hd:d≤n) (o:Option Int):sIx n d o≤n:=by
  cases o with
  | none=>exact hd
  | some v=>
    show (if v < 0 then (v+(n:Int)).toNat else min v.toNat n)≤n
    by_cases hv:v < 0
    · rw [if_pos hv];omega
    · rw [if_neg hv];exact Nat.min_le_right _ _
theorem clip_eq (v:Int) (n d:Nat):(if v < 0 then max (v+(n:Int)) 0 else min v (n:Int))=((sIx n d (some v):Nat):Int):=by
  show (if v < 0 then max (v+(n:Int)) 0 else min v (n:Int))=(((if v < 0 then (v+(n:Int)).toNat else min v.toNat n):Nat):Int)
  by_cases hv:v < 0
  · simp only [if_pos hv];omega
  · simp only [if_neg hv];omega
theorem adjust_gen (lo hi:Option Int) (n:Nat):Builtin.Slice.sliceAdjust lo hi 1 (n:Int)=(((sIx n 0 lo:Nat):Int),((sIx n n hi:Nat):Int)):=by
  have h1:¬ ((1:Int) < 0):=by omega
  unfold Builtin.Slice.sliceAdjust
  simp only [h1,if_false]
  refine Prod.ext ?_ ?_
  · cases lo with
    | none=>rfl
    | some v=>exact clip_eq v n 0
  · cases hi with
    | none=>rfl
    | some v=>exact clip_eq v n n
theorem places_gen (i j:Nat):Builtin.Slice.slicePlaces (i:Int) (j:Int) 1=j - i:=by
  unfold Builtin.Slice.slicePlaces
  have h1:(1:Int) > 0:=by omega
  simp only [h1,if_true,Int.ediv_one]
  split<;>omega
theorem slicePart_ {v:Value} {o:Option Int} {Q:Option Int→Shared→Prop} (p:IsPart v o) (h:Q o s):wpAny (model prog w) A (Builtin.Slice.slicePartIndex v) Q E s:=by
  cases p with
  | none=>exact slicePart_none h
  | int i t=>exact slicePart_int h
theorem sliceApplied_gen {sl:Addr} {vl vu:Value} {lo hi:Option Int} {n:Nat} {Q:Int×Int×Nat→Shared→Prop} (hs:s.heap.IsSliceOf sl vl vu .none) (pl:IsPart vl lo) (pu:IsPart vu hi)
    (h:Q (((sIx n 0 lo:Nat):Int),1,sIx n n hi - sIx n 0 lo) s):wpAny (model prog w) A (Builtin.Slice.sliceApplied (.ref sl) (pure (n:Int))) Q E s:=by
  obtain ⟨os,hos,hcs,hds⟩:=id hs
  unfold Builtin.Slice.sliceApplied Builtin.Slice.sliceFields
  refine wpAny_bind (wpAny_bind (wpAny_field hos hds (x:=vl) rfl (wpAny_bind (wpAny_field hos hds (x:=vu) rfl (wpAny_bind (wpAny_field hos hds (x:=.none) rfl (wpAny_pure ?_)))))))
  refine wpAny_bind (slicePart_none ?_)
  show wpAny _ _ (if ((1:Int) == 0)=true then _ else _) _ _ s
  rw [if_neg (by decide)]
  refine wpAny_bind (slicePart_ pl (wpAny_bind (slicePart_ pu (wpAny_bind (wpAny_pure ?_)))))
  show wpAny _ _ (match Builtin.Slice.sliceAdjust lo hi 1 (n:Int) with | (lo,hi)=>pure (lo,(1:Int),Builtin.Slice.slicePlaces lo hi 1)) _ _ s
  rw [adjust_gen lo hi n]
  show wpAny _ _ (pure (((sIx n 0 lo:Nat):Int),(1:Int),Builtin.Slice.slicePlaces ((sIx n 0 lo:Nat):Int) ((sIx n n hi:Nat):Int) 1)) _ _ s
  rw [places_gen]
  exact wpAny_pure h
theorem pick_gen (xs:Array Value) (i k:Nat):((List.range k).filterMap fun (m:Nat)=>xs[((i:Int)+(m:Int)*1).toNat]?).toArray=((xs.toList.drop i).take k).toArray:=by
  have e:(fun (m:Nat)=>xs[((i:Int)+(m:Int)*1).toNat]?)=fun m=>xs[i+m]?:=by
    funext m
    have:((i:Int)+(m:Int)*1).toNat=i+m:=by omega
    rw [this]
  rw [e]
  have:=pick_run xs i k
  rw [List.filterMap_map] at this
  have e2:((fun x=>xs[x]?) ∘ fun x=>i+x)=fun m=>xs[i+m]?:=rfl
  rw [e2] at this
  rw [this]
theorem getItem_tuple_cut {t sl:Addr} {items:Array Value} {vl vu:Value} {lo hi:Option Int} {Q:Value→Shared→Prop} (ht:IsTup s.heap t items) (hs:s.heap.IsSliceOf sl vl vu .none) (pl:IsPart vl lo) (pu:IsPart vu hi)
    (hw:¬ (sIx items.size 0 lo=0∧sIx items.size items.size hi=items.size))
    (h:Q (.ref s.heap.objs.size) { s with heap:=s.heap.push { cls:=.type "tuple",data:=.seq ((items.toList.drop (sIx items.size 0 lo)).take (sIx items.size items.size hi - sIx items.size 0 lo)).toArray } })
    (hsz:items.size≤sizeLine):wpAny (model prog w) A (getItem (.ref t) (.ref sl)) Q E s:=by
  have htake:sizeOk (.seq ((items.toList.drop (sIx items.size 0 lo)).take (sIx items.size items.size hi - sIx items.size 0 lo)).toArray):=by
    show ((items.toList.drop (sIx items.size 0 lo)).take (sIx items.size items.size hi - sIx items.size 0 lo)).toArray.size≤sizeLine
    rw [List.size_toArray,List.length_take,List.length_drop,Array.length_toList]
    omega
  have hj:sIx items.size items.size hi≤items.size:=sIx_le _ _ (Nat.le_refl _) hi
  obtain ⟨os,hos,hcs,hds⟩:=id hs
  have hTs:s.TypeIs (.ref sl) "slice" :=⟨os,hos,hcs⟩
  unfold getItem
  try with_reducible refine wpAny_holding ?_
  first | refine wpAny_bind (wpAny_pure ?_) | skip
  refine wpAny_bind (wpAny_sequenceKey ht.typeIs (by decide) ?_)
  refine wpAny_bind (wpAny_callSpecial?_slot (name:=Str.ofString "__getitem__") ht.typeIs PyProof.Rows.slot_tuple_getitem
    (wpAny_call_entry PyProof.Rows.slot_tuple_getitem ht.typeIs entry_tuple_getitem ?_ (args_tuple_getitem _ _)))
  show wpAny _ _ (Builtin.Tuple.tupleItemsOf (.ref t) >>= _) _ _ s
  refine wpAny_bind (tupleItemsOf_ ht ?_)
  refine wpAny_bind (wpAny_typeOf hTs ?_)
  rw [if_pos (by decide)]
  refine wpAny_bind (sliceApplied_gen hs pl pu ?_)
  have hno:¬ ((((sIx items.size 0 lo:Nat):Int) == 0 && (1:Int) == 1 && (sIx items.size items.size hi - sIx items.size 0 lo) == items.size)=true):=by
    intro q
    rw [Bool.and_eq_true,Bool.and_eq_true] at q
    have q1:((sIx items.size 0 lo:Nat):Int)=0:=eq_of_beq q.1.1
    have q2:sIx items.size items.size hi - sIx items.size 0 lo=items.size:=eq_of_beq q.2
    exact hw ⟨by omega,by omega⟩
  show wpAny _ _ (if (((sIx items.size 0 lo:Nat):Int) == 0 && (1:Int) == 1 && (sIx items.size items.size hi - sIx items.size 0 lo) == items.size)=true then _ else _) _ _ s
  rw [if_neg hno,pick_gen]
  first
    | exact wpAny_bind (m:=Builtin.Tuple.tupleExact _) (wpAny_newObj_type (wpAny_pure ⟨_,rfl,wpAny_pure h⟩) htake)
    | exact wpAny_bind (m:=Builtin.Tuple.tupleExact _) (wpAny_newObj_type (wpAny_bind (wpAny_pure (wpAny_pure ⟨_,rfl,wpAny_pure h⟩))) htake)
    | exact wpAny_bind (wpAny_bind (m:=Builtin.Tuple.tupleExact _) (wpAny_newObj_type (wpAny_pure (wpAny_pure ⟨_,rfl,wpAny_pure h⟩)) htake))
    | exact wpAny_bind (wpAny_bind (m:=Builtin.Tuple.tupleExact _) (wpAny_newObj_type (wpAny_pure ⟨_,rfl,wpAny_pure h⟩) htake))
end
end HT
namespace L2
open PySem PySem.Spec PyProof.Rows
abbrev TO:=St→Hp→(Option Int→Hp→Prop)→Prop
def PO (X:Cx) (e:Option Expr) (t:TO):Prop:=
  ∀ (pins:List (Addr×Obj)) (s:Shared) (σ:St) (H:Hp) (Q:Option Int→Hp→Prop),Inv X pins σ H s→t σ H Q→
    wpAny (model X.prog X.w) X.A (evalPart e X.env) (fun u s'=>∃ o H',Inv X pins σ H' s'∧IsPart u o∧Q o H') X.xe s
def tNoPart:TO:=fun _ H Q=>Q none H
def tPart (t:TE):TO:=fun σ H Q=>t σ H fun x H1=>∃ i,x = .int i∧Q (some i) H1
section
variable {X:Cx} {e:Expr} {te:TE} {lo hi:Option Expr} {tl th:TO} {pos p2:Pos}
theorem po_none:PO X none tNoPart:=by
  intro pins s σ H Q I h
  rw [evalPart_none]
  exact wpAny_pure ⟨none,H,I,.none,h⟩
theorem po_some (h:PE X e te):PO X (some e) (tPart te):=by
  intro pins s σ H Q I hw
  rw [evalPart_some]
  refine thn (h pins s σ H _ I hw) fun u s1 ⟨x,H1,I1,r1,q1⟩=>?_
  obtain ⟨i,rfl,q⟩:=q1
  obtain ⟨t,rfl⟩:=r1
  exact ⟨some i,H1,I1,.int i t,q⟩
def SlR (X:Cx) (r:V→Option Int→Option Int→Hp→VK→Prop):Prop:=
  ∀ (pins:List (Addr×Obj)) (s:Shared) (σ:St) (H:Hp) (x:V) (v vl vu:Value) (lo hi:Option Int) (sl:Addr) (Q:VK),Inv X pins σ H s→RelV x v→s.heap.IsSliceOf sl vl vu .none→IsPart vl lo→IsPart vu hi→r x lo hi H Q→
    ∃ T id,typeLookup (.type T) "__getitem__" = pure (some (.builtin id))∧s.TypeIs v T∧wpAny (model X.prog X.w) X.A (getItem v (.ref sl)) (EP X pins σ Q) X.xe s
theorem SlR.or {r r':V→Option Int→Option Int→Hp→VK→Prop} (h:SlR X r) (h':SlR X r'):SlR X (fun x lo hi H Q=>r x lo hi H Q∨r' x lo hi H Q):=by
  intro pins s σ H x v vl vu lo hi sl Q I rx hs pl pu q
  rcases q with q | q
  · exact h pins s σ H x v vl vu lo hi sl Q I rx hs pl pu q
  · exact h' pins s σ H x v vl vu lo hi sl Q I rx hs pl pu q
def tSl (r:V→Option Int→Option Int→Hp→VK→Prop) (te:TE) (tl th:TO):TE:=fun σ H Q=>te σ H fun x H1=>tl σ H1 fun l H2=>th σ H2 fun u H3=>r x l u H3 Q
theorem pe_slice {r:V→Option Int→Option Int→Hp→VK→Prop} (hr:SlR X r) (he:PE X e te) (hl:PO X lo tl) (hu:PO X hi th):PE X (.Subscript e (.Slice lo hi none p2) pos) (tSl r te tl th):=by
  intro pins s σ H Q I h
  refine Subscript_ (thn (he pins s σ H _ I h) fun v s1 ⟨x,H1,I1,r1,q1⟩=>?_)
  refine wpAny_Slice (thn (hl pins s1 σ H1 _ I1 q1) fun vl s2 ⟨l,H2,I2,pl,q2⟩=>thn (hu pins s2 σ H2 _ I2 q2) fun vu s3 ⟨u,H3,I3,pu,q3⟩=>?_)
  rw [evalPart_none]
  refine wpAny_pure ?_
  have I4:Inv X pins σ H3 { s3 with heap:=s3.heap.push { cls:=.type "slice",data:=.fields #[vl,vu,.none] } }:=I3.kept (t':=s3.toks) fun b ob q=>Heap.get?_push_of_some _ q
  obtain ⟨T,id,hT,ht,hg⟩:=hr pins { s3 with heap:=s3.heap.push { cls:=.type "slice",data:=.fields #[vl,vu,.none] } } σ H3 x v vl vu l u s3.heap.objs.size Q I4 r1 (Heap.IsSliceOf.new ..) pl pu q3
  show wpAny (model X.prog X.w) X.A (subscriptTail e (.Slice lo hi none p2) v (.ref s3.heap.objs.size)) (EP X pins σ Q) X.xe { s3 with heap:=s3.heap.push { cls:=.type "slice",data:=.fields #[vl,vu,.none] } }
  exact tail_any (ops:=[.ref s3.heap.objs.size,v]) ht hT hg (by with_unfolding_all rfl)
def cutV (xs:List V) (lo hi:Option Int):List V:=(xs.drop (HT.sIx xs.length 0 lo)).take (HT.sIx xs.length xs.length hi - HT.sIx xs.length 0 lo)
theorem cutV_length (xs:List V) (lo hi:Option Int):(cutV xs lo hi).length≤xs.length:=by
  unfold cutV
  rw [List.length_take,List.length_drop]
  omega
def rSlT (K:PySem.W.Frag):V→Option Int→Option Int→Hp→VK→Prop:=fun x lo hi H Q=>∃ a xs,x = .ref a∧SqT K H a xs∧
  ¬ (HT.sIx xs.length 0 lo=0∧HT.sIx xs.length xs.length hi=xs.length)∧∀ p,H p=none→Q (.ref p) (upd H p (.tup (cutV xs lo hi)))
theorem sl_tup:SlR X (rSlT X.K):=by
  intro pins s σ H x v vl vu lo hi sl Q I rx hs pl pu h
  obtain ⟨a,xs,rfl,hx,hw,q⟩:=h
  cases rx
  obtain ⟨its,r,ht,hz⟩:=I.tuple hx
  have hlen:its.toArray.size=xs.length:=by rw [List.size_toArray];exact r.length.symm
  refine ⟨"tuple",_,PyProof.Rows.slot_tuple_getitem.lookup,ht.typeIs,?_⟩
  refine HT.getItem_tuple_cut ht hs pl pu (by rw [hlen];exact hw) ?_ (by rw [hlen];exact hz)
  rw [hlen]
  refine ⟨.ref s.heap.objs.size,_,I.laid (t':=s.toks) (o:=.tup (cutV xs lo hi)) (fun b ob q=>Heap.get?_push_of_some _ q) (Nat.le_refl _) ?_,rfl,q _ (I.hok.fresh (Nat.le_refl _))⟩
  exact ⟨Nat.le_trans (cutV_length xs lo hi) hz,_,(r.drop (HT.sIx xs.length 0 lo)).take (HT.sIx xs.length xs.length hi - HT.sIx xs.length 0 lo),IsTup.new _ _⟩
def rCatT (K:PySem.W.Frag):R2:=fun x y H Q=>∃ a b xs ys,x = .ref a∧y = .ref b∧SqT K H a xs∧SqT K H b ys∧xs≠[]∧xs.length+ys.length≤sizeLine∧
  (ys=[]→Q (.ref a) H)∧(ys≠[]→∀ p,H p=none→Q (.ref p) (upd H p (.tup (xs++ys))))
theorem Vals.nil_iff {xs:List V} {us:List Value} (r:Vals xs us):us=[]↔xs=[]:=by
  cases r with
  | nil=>simp
  | cons _ _=>simp
theorem op_catT:OpR X (binaryOp .Add) (rCatT X.K):=by
  intro pins s σ H x y v u Q I rx ry h
  obtain ⟨a,b,xs,ys,rfl,rfl,ha,hb,hx,hz,q1,q2⟩:=h
  cases rx
  cases ry
  obtain ⟨its,r1,p1,_⟩:=I.tuple ha
  obtain ⟨its2,r2,p2,_⟩:=I.tuple hb
  refine HT.cat_tup p1 p2 (fun z=>hx (r1.nil_iff.mp z)) (fun z=>⟨.ref a,H,I,rfl,q1 (r2.nil_iff.mp z)⟩) (fun z=>?_) (by rw [← r1.length,← r2.length];exact hz)
  refine ⟨.ref s.heap.objs.size,_,I.laid (t':=s.toks) (o:=.tup (xs++ys)) (fun b ob q=>Heap.get?_push_of_some _ q) (Nat.le_refl _) ?_,rfl,q2 (fun w=>z (r2.nil_iff.mpr w)) _ (I.hok.fresh (Nat.le_refl _))⟩
  exact ⟨by rw [List.length_append];exact hz,_,r1.append r2,IsTup.new _ _⟩
end
def ixN (n:Nat) (i:Int):Option Nat:=if 0≤i then (if i < n then some i.toNat else none) else if -(n:Int)≤i then some (i+n).toNat else none
def atI {α:Type} (xs:List α) (i:Int):Option α:=(ixN xs.length i).bind fun j=>xs[j]?
theorem ixN_seq {n:Nat} {i:Int} {j:Nat} (h:ixN n i=some j):seqIndex? i n=some j∧j < n∧-(n:Int)≤i∧i < n:=by
  unfold ixN at h
  by_cases h0:0≤i
  · rw [if_pos h0] at h
    by_cases h1:i < n
    · rw [if_pos h1] at h
      have e:i.toNat=j:=Option.some.inj h
      exact ⟨by rw [seqIndex_of h0 h1,e],by omega,by omega,h1⟩
    · rw [if_neg h1] at h;cases h
  · rw [if_neg h0] at h
    by_cases h1:-(n:Int)≤i
    · rw [if_pos h1] at h
      have e:(i+n).toNat=j:=Option.some.inj h
      exact ⟨by rw [seqIndex_neg (by omega) h1,e],by omega,h1,by omega⟩
    · rw [if_neg h1] at h;cases h
theorem atI_get {α:Type} {xs:List α} {i:Int} {v:α} (h:atI xs i=some v):∃ j,seqIndex? i xs.length=some j∧xs[j]? = some v∧j < xs.length∧-(xs.length:Int)≤i∧i < xs.length:=by
  unfold atI at h
  cases e:ixN xs.length i with
  | none=>rw [e] at h;cases h
  | some j=>
    rw [e] at h
    obtain ⟨h1,h2,h3,h4⟩:=ixN_seq e
    exact ⟨j,h1,h,h2,h3,h4⟩
theorem atI_nat {α:Type} {xs:List α} {j:Nat} {v:α} (h:xs[j]? = some v):atI xs (j:Int)=some v:=by
  have hj:j < xs.length:=(List.getElem?_eq_some_iff.mp h).1
  have e:ixN xs.length (j:Int)=some j:=by
    unfold ixN
    rw [if_pos (by omega),if_pos (by omega)];simp
  unfold atI;rw [e];exact h
def PlainIx (b:Expr):Prop:=∀ o i,subscripted b false o i=operate [o,i] (getItem o i)
def IxR (X:Cx) (r:R2):Prop:=
  ∀ (value slice:Expr) (pins:List (Addr×Obj)) (s:Shared) (σ:St) (H:Hp) (x y:V) (v u:Value) (Q:VK),Inv X pins σ H s→RelV x v→RelV y u→r x y H Q→
    subscripted slice false v u=operate [v,u] (getItem v u)→wpAny (model X.prog X.w) X.A (subscriptTail value slice v u) (EP X pins σ Q) X.xe s
def MtR (X:Cx) (id:String) (r:V→List V→Hp→VK→Prop):Prop:=
  ∀ (pins:List (Addr×Obj)) (s:Shared) (σ:St) (H:Hp) (x:V) (xs:List V) (v:Value) (us:List Value) (Q:VK),Inv X pins σ H s→RelV x v→Vals xs us→r x xs H Q→
    wpAny (model X.prog X.w) X.A (call (.builtin id) (v::us)) (EP X pins σ Q) X.xe s
section
variable {X:Cx} {a b:Expr} {ta tb:TE} {pos:Pos}
theorem IxR.or {r r':R2} (h:IxR X r) (h':IxR X r'):IxR X (fun x y H Q=>r x y H Q∨r' x y H Q):=by
  intro value slice pins s σ H x y v u Q I rx ry q hs
  rcases q with q | q
  · exact h value slice pins s σ H x y v u Q I rx ry q hs
  · exact h' value slice pins s σ H x y v u Q I rx ry q hs
theorem MtR.or {id:String} {r r':V→List V→Hp→VK→Prop} (h:MtR X id r) (h':MtR X id r'):MtR X id (fun x xs H Q=>r x xs H Q∨r' x xs H Q):=by
  intro pins s σ H x xs v us Q I rx rs q
  rcases q with q | q
  · exact h pins s σ H x xs v us Q I rx rs q
  · exact h' pins s σ H x xs v us Q I rx rs q
theorem pe_ix {r:R2} (hr:IxR X r) (ha:PE X a ta) (hb:PE X b tb) (hs:PlainIx b):PE X (.Subscript a b pos) (tOp r ta tb):=by
  intro pins s σ H Q I h
  exact Subscript_ (binT ha hb I h fun v u s2 x y H2 I2 rx ry q=>hr a b pins s2 σ H2 x y v u Q I2 rx ry q (hs _ _))
def rIxL (K:PySem.W.Frag):R2:=fun x y H Q=>∃ p xs i v,x = .ref p∧y = .int i∧SqL K H p xs∧atI xs i=some v∧Q v H
def rIxT (K:PySem.W.Frag):R2:=fun x y H Q=>∃ p xs i v,x = .ref p∧y = .int i∧SqT K H p xs∧atI xs i=some v∧Q v H
def rIxS:R2:=fun x y H Q=>∃ z i c,x = .str z∧y = .int i∧z.length≤sizeLine∧atI z.cps.toList i=some c∧Q (.str ⟨#[c]⟩) H
theorem ix_list:IxR X (rIxL X.K):=by
  intro value slice pins s σ H x y v u Q I rx ry h hs
  obtain ⟨p,xs,i,z,rfl,rfl,hq,he,q⟩:=h
  cases rx
  obtain ⟨t,rfl⟩:=ry
  obtain ⟨its,r,pl,hz⟩:=I.list hq
  obtain ⟨j,h1,h2,h3,h4,h5⟩:=atI_get he
  obtain ⟨w,ew,rw'⟩:=r.get h2
  have hl:=r.length
  have hn:=line63
  have fin:EP X pins σ Q w s:=⟨z,H,I,rw',q⟩
  by_cases h0:0≤i
  · have hj:i.toNat=j:=by
      rw [seqIndex_of h0 h5] at h1
      exact Option.some.inj h1
    exact item_listR pl.isList h0 (by omega) (by rw [hj];simpa using ew) fin hs
  · have hj:(i+(its.toArray.size:Int)).toNat=j:=by
      rw [seqIndex_neg (by omega) h4] at h1
      rw [List.size_toArray,← hl]
      exact Option.some.inj h1
    exact subscriptTail_builtinR (x:=w) pl.isList.typeIs slot_list_getitem.lookup
      (wpAny_getItem_list_neg (Q:=fun r s'=>r=w∧EP X pins σ Q r s') pl.isList (by omega) (by rw [List.size_toArray]<;>omega) (by omega) (by rw [hj];simpa using ew) ⟨rfl,fin⟩) hs
theorem ix_tup:IxR X (rIxT X.K):=by
  intro value slice pins s σ H x y v u Q I rx ry h hs
  obtain ⟨p,xs,i,z,rfl,rfl,hq,he,q⟩:=h
  cases rx
  obtain ⟨t,rfl⟩:=ry
  obtain ⟨its,r,pl,hz⟩:=I.tuple hq
  obtain ⟨j,h1,h2,h3,h4,h5⟩:=atI_get he
  obtain ⟨w,ew,rw'⟩:=r.get h2
  have hl:=r.length
  have hn:=line63
  have fin:EP X pins σ Q w s:=⟨z,H,I,rw',q⟩
  exact subscriptTail_builtinR (x:=w) pl.typeIs slot_tuple_getitem.lookup
    (getItem_tuple (j:=j) (Q:=fun r s'=>r=w∧EP X pins σ Q r s') pl (by omega) (by omega) (by rw [List.size_toArray,← hl];exact h1) (by simpa using ew) ⟨rfl,fin⟩) hs
theorem ix_str:IxR X rIxS:=by
  intro value slice pins s σ H x y v u Q I rx ry h hs
  obtain ⟨z,i,c,rfl,rfl,hz,he,q⟩:=h
  obtain ⟨t,rfl⟩:=rx
  obtain ⟨t',rfl⟩:=ry
  obtain ⟨j,h1,h2,h3,h4,h5⟩:=atI_get he
  have hl:z.cps.toList.length=z.length:=by simp [Str.length]
  rw [hl] at h1 h4 h5
  have hn:=line63
  exact tail_any (typeIs_str s z t) slot_str_getitem.lookup (getItem_str (c:=c) (by
    have e1:decide (i < -(2 ^ 63:Int))=false:=decide_eq_false (by omega)
    have e2:decide (i ≥ 2 ^ 63)=false:=decide_eq_false (by omega)
    rw [e1,e2,Bool.or_false]) (by rw [h1];simpa using h2) ⟨.str ⟨#[c]⟩,H,I.tok _,⟨_,rfl⟩,q⟩) hs
def rIx (K:PySem.W.Frag):R2:=fun x y H Q=>rIxL K x y H Q∨rIxT K x y H Q∨rIxS x y H Q
theorem ix_seq:IxR X (rIx X.K):=ix_list.or (ix_tup.or ix_str)
theorem mapSeq_set (its:List Value) (n j:Nat) (u:Value):Obj.mapSeq (·.setIfInBounds j u) { cls:=.type "list",data:=.seq its.toArray n }={ cls:=.type "list",data:=.seq (its.set j u).toArray n }:=by
  simp [Obj.mapSeq]
theorem Inv.lst {pins:List (Addr×Obj)} {σ:St} {H:Hp} {s:Shared} {p:Addr} {xs:List V} (I:Inv X pins σ H s) (h:H p=some (.lst xs)) :
    ∃ (its:List Value) (n:Nat),Vals xs its∧s.heap.get? p=some { cls:=.type "list",data:=.seq its.toArray n }∧xs.length≤sizeLine:=by
  obtain ⟨z,its,n,r,e⟩:=I.hok p _ h
  exact ⟨its,n,r,e,z⟩
theorem Inv.lstUpd {pins:List (Addr×Obj)} {σ:St} {H:Hp} {s:Shared} {p:Addr} {xs ys:List V} {its its':List Value} {n n':Nat} {f:Obj→Obj} (I:Inv X pins σ H s) (h:H p=some (.lst xs))
    (ho:s.heap.get? p=some { cls:=.type "list",data:=.seq its.toArray n }) (hf:f { cls:=.type "list",data:=.seq its.toArray n }={ cls:=.type "list",data:=.seq its'.toArray n' }) (r:Vals ys its') (hz:ys.length≤sizeLine) (t:Nat) :
    Inv X pins σ (upd H p (.lst ys)) { s with heap:=s.heap.update p f,toks:=t }:=by
  have e:(s.heap.update p f).get? p=some { cls:=.type "list",data:=.seq its'.toArray n' }:=by
    rw [Heap.get?_update_self f ho (by rw [hf]<;>rfl),hf]
  refine I.write (x:=p) (e:=p) (by rw [h];trivial) (.inl rfl) (fun b u hb q=>(Heap.get?_update_other _ _ (Ne.symm hb)).trans q) ⟨_,e⟩ ?_ (.inl ⟨_,h⟩)
  exact ⟨hz,its',n',r,e⟩
def rSetL:V→V→V→Hp→(Hp→Prop)→Prop:=fun o i v H Q=>∃ p xs k j,o = .ref p∧i = .int k∧H p=some (.lst xs)∧ixN xs.length k=some j∧Q (upd H p (.lst (xs.set j v)))
theorem set_list:PSet X rSetL:=by
  intro pins s σ H o i v ov iv u Q I ro ri rv h
  obtain ⟨p,xs,k,j,rfl,rfl,hp,hj,q⟩:=h
  cases ro
  obtain ⟨t,rfl⟩:=ri
  obtain ⟨its,n,r,ho,hz⟩:=I.lst hp
  obtain ⟨h1,h2,h3,h4⟩:=ixN_seq hj
  have hl:=r.length
  have hn:=line63
  have I':Inv X pins σ (upd H p (.lst (xs.set j v))) { s with heap:=s.heap.update p (Obj.mapSeq (·.setIfInBounds j u)) }:=
    I.lstUpd hp ho (mapSeq_set its n j u) (r.set rv j) (by rw [List.length_set];exact hz) s.toks
  by_cases h0:0≤k
  · have hk:k.toNat=j:=by
      rw [seqIndex_of h0 h4] at h1
      exact Option.some.inj h1
    exact PySem.W.ki_setAt ho h0 (by omega) (by rw [List.size_toArray,← hl];exact h4) (by rw [hk];exact ⟨_,I',q⟩)
  · have hk:(k+(its.toArray.size:Int)).toNat=j:=by
      rw [seqIndex_neg (by omega) h3] at h1
      rw [List.size_toArray,← hl]
      exact Option.some.inj h1
    exact PySem.W.ki_setBack ho (by omega) (by rw [List.size_toArray,← hl];exact h3) (by omega) (by rw [hk];exact ⟨_,I',q⟩)
theorem slice_bounds (lo hi:Option Int) (n:Nat):(sliceBounds lo hi none n).1=((HT.sIx n 0 lo:Nat):Int)∧(sliceBounds lo hi none n).2.1=((HT.sIx n n hi:Nat):Int)∧(sliceBounds lo hi none n).2.2=1:=by
  refine ⟨?_,?_,rfl⟩
  · cases lo with
    | none=>simp [sliceBounds,HT.sIx]
    | some i=>
      simp only [sliceBounds,HT.sIx,Option.getD_none,show (1:Int) > 0 by decide,if_true]
      by_cases h:i < 0
      · simp only [h,if_true]<;>omega
      · simp only [h,if_false]<;>omega
  · cases hi with
    | none=>simp [sliceBounds,HT.sIx]
    | some i=>
      simp only [sliceBounds,HT.sIx,Option.getD_none,show (1:Int) > 0 by decide,if_true]
      by_cases h:i < 0
      · simp only [h,if_true]<;>omega
      · simp only [h,if_false]<;>omega
theorem slicePick_cut (its:List Value) (lo hi:Option Int):slicePick its.toArray lo hi none=((its.drop (HT.sIx its.length 0 lo)).take (HT.sIx its.length its.length hi - HT.sIx its.length 0 lo)).toArray:=by
  obtain ⟨h1,h2,h3⟩:=slice_bounds lo hi its.toArray.size
  unfold slicePick
  rw [h1,h2,h3]
  simp only [sliceRange_one,pick_run,List.size_toArray]<;>rfl
def rSlL (K:PySem.W.Frag):V→Option Int→Option Int→Hp→VK→Prop:=fun x lo hi H Q=>∃ a xs,x = .ref a∧SqL K H a xs∧∀ p,H p=none→Q (.ref p) (upd H p (.lst (cutV xs lo hi)))
theorem sl_list:SlR X (rSlL X.K):=by
  intro pins s σ H x v vl vu lo hi sl Q I rx hs pl pu h
  obtain ⟨a,xs,rfl,hx,q⟩:=h
  cases rx
  obtain ⟨its,r,ht,hz⟩:=I.list hx
  have hlen:=r.length
  refine ⟨"list",_,slot_list_getitem.lookup,ht.isList.typeIs,?_⟩
  refine wpAny_getItem_list_slice ht.isList hs pl pu .none (by simp) ?_ (by rw [List.size_toArray]<;>omega)
  rw [slicePick_cut,← hlen]
  refine ⟨.ref s.heap.objs.size,_,I.laid (t':=s.toks) (o:=.lst (cutV xs lo hi)) (fun b ob q=>Heap.get?_push_of_some _ q) (Nat.le_refl _) ?_,rfl,q _ (I.hok.fresh (Nat.le_refl _))⟩
  exact ⟨Nat.le_trans (cutV_length xs lo hi) hz,_,0,(r.drop (HT.sIx xs.length 0 lo)).take (HT.sIx xs.length xs.length hi - HT.sIx xs.length 0 lo),Heap.get?_push_size _ rfl⟩
def flatV:V→Bool
  | .non=>true
  | .bl _=>true
  | .int _=>true
  | .str _=>true
  | _=>false
def eqV:V→V→Bool
  | .non,.non=>true
  | .bl a,.bl b=>a == b
  | .bl a,.int b=>(if a then 1 else 0) == b
  | .int a,.bl b=>a == (if b then 1 else 0)
  | .int a,.int b=>a == b
  | .str a,.str b=>a == b
  | _,_=>false
theorem eqAt_V {A:Around} {s:Shared} {y x:V} {u v:Value} (ry:RelV y u) (rx:RelV x v) (fy:flatV y=true) (fx:flatV x=true):SeqAt.EqAt A s u v (eqV y x):=by
  cases y with
  | non=>
    cases ry
    cases x with
    | non=>cases rx;exact SeqAt.EqAt.same _
    | bl b=>cases rx;exact SeqAt.EqAt.none_bool b
    | int b=>obtain ⟨t,rfl⟩:=rx;exact SeqAt.EqAt.none_int b t
    | str b=>obtain ⟨t,rfl⟩:=rx;exact SeqAt.EqAt.none_str b t
    | _=>exact absurd (show false=true from fx) Bool.false_ne_true
  | bl a=>
    cases ry
    cases x with
    | non=>cases rx;exact SeqAt.EqAt.bool_none a
    | bl b=>cases rx;exact SeqAt.EqAt.bool_bool a b
    | int b=>obtain ⟨t,rfl⟩:=rx;exact SeqAt.EqAt.bool_int a b t
    | str b=>obtain ⟨t,rfl⟩:=rx;exact SeqAt.EqAt.bool_str a b t
    | _=>exact absurd (show false=true from fx) Bool.false_ne_true
  | int a=>
    obtain ⟨t',rfl⟩:=ry
    cases x with
    | non=>cases rx;exact SeqAt.EqAt.int_none a t'
    | bl b=>cases rx;exact SeqAt.EqAt.int_bool a t' b
    | int b=>obtain ⟨t,rfl⟩:=rx;exact SeqAt.EqAt.int_int a t' b t
    | str b=>obtain ⟨t,rfl⟩:=rx;exact SeqAt.EqAt.int_str a t' b t
    | _=>exact absurd (show false=true from fx) Bool.false_ne_true
  | str a=>
    obtain ⟨t',rfl⟩:=ry
    cases x with
    | non=>cases rx;exact SeqAt.EqAt.str_none a t'
    | bl b=>cases rx;exact SeqAt.EqAt.str_bool a t' b
    | int b=>obtain ⟨t,rfl⟩:=rx;exact SeqAt.EqAt.str_int a t' b t
    | str b=>obtain ⟨t,rfl⟩:=rx;exact SeqAt.EqAt.str_str a t' b t
    | _=>exact absurd (show false=true from fx) Bool.false_ne_true
  | _=>exact absurd (show false=true from fy) Bool.false_ne_true
def eqU (x:V) (u:Value):Bool:=match u with
  | .none=>eqV .non x
  | .bool b=>eqV (.bl b) x
  | .int i _=>eqV (.int i) x
  | .str z _=>eqV (.str z) x
  | _=>false
theorem eqU_of {x y:V} {u:Value} (r:RelV y u) (f:flatV y=true):eqU x u=eqV y x:=by
  cases y with
  | non=>cases r;rfl
  | bl b=>cases r;rfl
  | int i=>obtain ⟨t,rfl⟩:=r;rfl
  | str z=>obtain ⟨t,rfl⟩:=r;rfl
  | _=>exact absurd (show false=true from f) Bool.false_ne_true
theorem any_eqU {x:V}:∀ {xs:List V} {us:List Value},Vals xs us→xs.all flatV=true→us.any (eqU x)=xs.any fun y=>eqV y x
  | _,_,.nil,_=>rfl
  | y::xs,u::us,.cons r t,f=>by
    rw [List.all_cons,Bool.and_eq_true] at f
    rw [List.any_cons,List.any_cons,eqU_of r f.1,any_eqU t f.2]
theorem mem_eqAt {A:Around} {s:Shared} {x:V} {v:Value} (rx:RelV x v) (fx:flatV x=true):∀ {xs:List V} {us:List Value},Vals xs us→xs.all flatV=true→∀ u∈us,SeqAt.EqAt A s u v (eqU x u)
  | _,_,.nil,_=>fun u hu=>by cases hu
  | y::xs,u::us,.cons r t,f=>fun u' hu=>by
    rw [List.all_cons,Bool.and_eq_true] at f
    rcases List.mem_cons.mp hu with rfl | hu
    · rw [eqU_of r f.1];exact eqAt_V r rx f.1 fx
    · exact mem_eqAt rx fx t f.2 u' hu
def inV (x:V) (xs:List V):Bool:=xs.any fun y=>eqV y x
def rIn (K:PySem.W.Frag) (neg:Bool):R2:=fun x y H Q=>∃ p xs,y = .ref p∧(SqL K H p xs∨SqT K H p xs)∧flatV x=true∧xs.all flatV=true∧Q (.bl (if neg then !inV x xs else inV x xs)) H
theorem op_in_seq:OpR X (compareOp .In) (rIn X.K false):=by
  intro pins s σ H x y v u Q I rx ry h
  obtain ⟨p,xs,rfl,hq,fx,fs,q⟩:=h
  cases ry
  rcases hq with hq | hq
  · obtain ⟨its,r,pl,hz⟩:=I.list hq
    refine SeqAt.in_listAt (eqU x) pl.isList (fun w hw=>mem_eqAt rx fx r fs w (by simpa using hw)) ⟨.bl _,H,I,rfl,?_⟩
    rw [show its.toArray.any (eqU x)=its.any (eqU x) by simp,any_eqU r fs]
    exact q
  · obtain ⟨its,r,pl,hz⟩:=I.tuple hq
    refine SeqAt.in_tupleAt (eqU x) pl (fun w hw=>mem_eqAt rx fx r fs w (by simpa using hw)) ⟨.bl _,H,I,rfl,?_⟩
    rw [show its.toArray.any (eqU x)=its.any (eqU x) by simp,any_eqU r fs]
    exact q
theorem call_len_seq:CallR X (.builtin "len") (fun xs H Q=>∃ p ys,xs=[.ref p]∧(SqL X.K H p ys∨SqT X.K H p ys)∧Q (.int ys.length) H):=by
  intro pins s σ H xs us Q I r h
  obtain ⟨p,ys,rfl,hq,q⟩:=h
  obtain ⟨u,rfl,rx⟩:=vals1 r
  cases rx
  have hn:=line63
  rcases hq with hq | hq
  · obtain ⟨its,r',pl,hz⟩:=I.list hq
    have hlen:=r'.length
    exact Calls.call_len_list pl.isList (by simp only [List.size_toArray]<;>omega) ⟨.int ys.length,H,I.tok _,⟨s.toks+1,by rw [List.size_toArray,hlen]⟩,q⟩
  · obtain ⟨its,r',pl,hz⟩:=I.tuple hq
    have hlen:=r'.length
    exact len_tuple pl (by simp only [List.size_toArray]<;>omega) ⟨.int ys.length,H,I.tok _,⟨s.toks+1,by rw [List.size_toArray,hlen]⟩,q⟩
theorem CallR.or {f:Value} {r r':List V→Hp→VK→Prop} (h:CallR X f r) (h':CallR X f r'):CallR X f (fun xs H Q=>r xs H Q∨r' xs H Q):=by
  intro pins s σ H xs us Q I rs q
  rcases q with q | q
  · exact h pins s σ H xs us Q I rs q
  · exact h' pins s σ H xs us Q I rs q
theorem call_list_of:CallR X (.type "list") (fun xs H Q=>∃ p ys,xs=[.ref p]∧(SqL X.K H p ys∨SqT X.K H p ys)∧∀ l,H l=none→Q (.ref l) (upd H l (.lst ys))):=by
  intro pins s σ H xs us Q I r h
  obtain ⟨p,ys,rfl,hq,q⟩:=h
  obtain ⟨u,rfl,rx⟩:=vals1 r
  cases rx
  have fin:∀ (its:List Value),Vals ys its→ys.length≤sizeLine→∀ (h':Heap) (c':Nat),(∀ b o',s.heap.get? b=some o'→h'.get? b=some o')→
      h'.get? s.heap.objs.size=some { cls:=.type "list",dict:=none,data:=.seq its.toArray c',slots:=#[] }→EP X pins σ Q (.ref s.heap.objs.size) { s with heap:=h' }:=fun its r' hz h' c' kp e=>
    ⟨.ref s.heap.objs.size,_,I.laid (t':=s.toks) kp (Nat.le_refl _) (show ObjOk X.prog X.w _ h' _ (.lst ys) from ⟨hz,its,c',r',e⟩),rfl,q _ (I.hok.fresh (Nat.le_refl _))⟩
  rcases hq with hq | hq
  · obtain ⟨its,r',pl,hz⟩:=I.list hq
    have hlen:=r'.length
    obtain ⟨o,ho,hc,n,hd⟩:=pl.isList
    exact call_list_seq p (.inl rfl) ho hc hd (fun h' c' kp e=>fin its r' hz h' c' kp e) (by simp only [List.size_toArray]<;>omega)
  · obtain ⟨its,r',pl,hz⟩:=I.tuple hq
    have hlen:=r'.length
    obtain ⟨o,ho,hc,n,hd⟩:=pl
    exact call_list_seq p (.inr rfl) ho hc hd (fun h' c' kp e=>fin its r' hz h' c' kp e) (by simp only [List.size_toArray]<;>omega)
theorem call_tuple_of:CallR X (.type "tuple") (fun xs H Q=>∃ p ys,xs=[.ref p]∧((SqL X.K H p ys∧∀ l,H l=none→Q (.ref l) (upd H l (.tup ys)))∨(SqT X.K H p ys∧Q (.ref p) H))):=by
  intro pins s σ H xs us Q I r h
  obtain ⟨p,ys,rfl,h⟩:=h
  obtain ⟨u,rfl,rx⟩:=vals1 r
  cases rx
  rcases h with ⟨hq,q⟩ | ⟨hq,q⟩
  · obtain ⟨its,r',pl,hz⟩:=I.list hq
    have hlen:=r'.length
    refine call_tuple_list pl.isList (fun h' kp=>?_) (by simp only [List.size_toArray]<;>omega)
    have I1:Inv X pins σ H { s with heap:=h' }:=I.kept (t':=s.toks) kp
    have I2:Inv X pins σ (upd H h'.objs.size (.tup ys)) { s with heap:=h'.push { cls:=.type "tuple",data:=.seq its.toArray } }:=
      I1.laid (t':=s.toks) (fun b o e=>Heap.get?_push_of_some _ e) (Nat.le_refl _) (show ObjOk X.prog X.w _ _ _ (.tup ys) from ⟨hz,its,r',IsTup.new _ _⟩)
    exact ⟨.ref h'.objs.size,_,I2,rfl,q _ (I1.hok.fresh (Nat.le_refl _))⟩
  · obtain ⟨its,r',pl,hz⟩:=I.tuple hq
    exact call_tuple_same pl ⟨.ref p,H,I,rfl,q⟩
def tyV (K:PySem.W.Frag) (T:String) (x:V) (H:Hp):Prop:=match x with
  | .str _=>T = "str"
  | .int _=>T = "int"
  | .ref p=>(T = "list" ∧∃ xs,SqL K H p xs)∨(T = "tuple" ∧∃ o,K.lookup p=some o∧o.cls = .type "tuple" ∧o.dict=none)∨
      (T = "dict" ∧((∃ kvs,H p=some (.dK kvs))∨∃ kvs,H p=some (.dT kvs)))∨(T = "set" ∧∃ S n,H p=some (.set S n))
  | _=>False
theorem tyV_is {pins:List (Addr×Obj)} {σ:St} {H:Hp} {s:Shared} {T:String} {x:V} {v:Value} (I:Inv X pins σ H s) (r:RelV x v) (ty:tyV X.K T x H) :
    s.TypeIs v T∧∀ a,v = .ref a→∃ ob,s.heap.get? a=some ob∧ob.dict=none:=by
  cases x with
  | str z=>
    obtain ⟨t,rfl⟩:=r
    cases (show T = "str" from ty)
    exact ⟨typeIs_str s z t,fun _ e=>nomatch e⟩
  | int i=>
    obtain ⟨t,rfl⟩:=r
    cases (show T = "int" from ty)
    exact ⟨typeIs_int s i t,fun _ e=>nomatch e⟩
  | ref p=>
    cases r
    rcases ty with ⟨rfl,xs,hq⟩ | ⟨rfl,o,hk,hc,hd⟩ | ⟨rfl,hk⟩ | ⟨rfl,S,n,hk⟩
    · obtain ⟨its,_,pl,_⟩:=I.list hq
      refine ⟨pl.isList.typeIs,fun a e=>?_⟩
      cases e
      obtain ⟨o,n,e,c,hd,_⟩:=pl
      exact ⟨o,e,hd⟩
    · refine ⟨⟨o,I.kIn p o hk,hc⟩,fun a e=>?_⟩
      cases e
      exact ⟨o,I.kIn _ o hk,hd⟩
    · have z:∃ o,s.heap.get? p=some o∧o.ExactDict:=by
        rcases hk with ⟨kvs,hk⟩ | ⟨kvs,hk⟩
        · obtain ⟨_,_,_,_,o,_,_,e,ex,_⟩:=I.hok p _ hk
          exact ⟨o,e,ex⟩
        · obtain ⟨_,_,_,_,o,_,_,e,ex,_⟩:=I.hok p _ hk
          exact ⟨o,e,ex⟩
      obtain ⟨o,e,ex⟩:=z
      refine ⟨⟨o,e,ex.1⟩,fun a e2=>?_⟩
      cases e2
      exact ⟨o,e,ex.2.1⟩
    · obtain ⟨o,_,_,_,e,ex,_⟩:=I.hok p _ hk
      refine ⟨⟨o,e,ex.1⟩,fun a e2=>?_⟩
      cases e2
      exact ⟨o,e,ex.2.1⟩
  | _=>exact False.elim ty
def tBM (K:PySem.W.Frag) (T:String) (r:V→List V→Hp→VK→Prop) (to:TE) (t:TA):TE:=fun σ H Q=>to σ H fun x H1=>tyV K T x H1∧t σ H1 fun xs H2=>r x xs H2 Q
variable {o e:Expr} {es:List Expr} {to:TE} {t:TA} {name:Str} {apos cpos:Pos} {T id:String} {r:V→List V→Hp→VK→Prop}
theorem pe_bm (pa:PlainAttrs T) (slot:Slot T name id) (hty:typeOf (.builtin id)=pure (.type "method_descriptor")) (hm:MtR X id r) (ho:PE X o to) (ha:PA X (e::es) t)
    (hbase:attributeBase o name X.env (eval o X.env)=eval o X.env:=by rfl)
    (hfew:((backTo cpos (starEach (e::es) X.env)).all (fun x=>!x.1) && (backToKw cpos (keywordEach [] X.env)).all (fun x=>x.1.isSome)
      && decide ((e::es).length+([]:List Keyword).length+(if ([]:List Keyword).isEmpty then 0 else 1) < 30))=true:=by rfl)
    (hline:(apos.endLine == cpos.line)=true:=by rfl) (hs:starEach (e::es) X.env=(false,eval e X.env)::starEach es X.env:=by rfl) (hplain:(backTo cpos (starEach es X.env)).any (·.1)=false:=by rfl) :
    PE X (.Call (.Attribute o name apos) (e::es) [] cpos) (tBM X.K T r to t):=by
  intro pins s σ H Q I h
  refine wpAny_Call_method_late hbase hfew hline rfl (thn (ho pins s σ H _ I h) fun v s1 ⟨x,H1,I1,r1,ty,q1⟩=>?_)
  obtain ⟨h1,h2⟩:=tyV_is I1 r1 ty
  refine ⟨T,id,pa,slot,hty,h1,h2,?_⟩
  have hA:=ha cpos pins s1 σ H1 _ I1 q1
  rw [hs] at hA ⊢
  refine Calls.callWith_builtin (by show (false || (backTo cpos (starEach es X.env)).any (·.1))=false;rw [hplain]<;>rfl) (Calls.evalArgs_plain ?_)
  exact thn hA fun us s2 ⟨vs,H2,I2,r2,q2⟩=>hm pins s2 σ H2 x vs v us Q I2 r1 r2 q2
/- xs.append(e),list.index on a module's tuple .. are MtR facts of 06m -/
end
def MtM (X:Cx) (id:String) (r:V→List V→Hp→VK→Prop):Prop:=
  ∀ (pins:List (Addr×Obj)) (s:Shared) (σ:St) (H:Hp) (x:V) (xs:List V) (v:Value) (us:List Value) (Q:VK),Inv X pins σ H s→RelV x v→Vals xs us→r x xs H Q→
    wpAny (model X.prog X.w) X.A (call (.builtin id) (v::us)) (EP X pins σ Q) X.xe s
theorem Vals.one:∀ {x:V} {us:List Value},Vals [x] us→∃ u,us=[u]∧RelV x u
  | _,_,.cons r .nil=>⟨_,rfl,r⟩
theorem Vals.two:∀ {x y:V} {us:List Value},Vals [x,y] us→∃ u v,us=[u,v]∧RelV x u∧RelV y v
  | _,_,_,.cons r (.cons q .nil)=>⟨_,_,rfl,r,q⟩
theorem Vals.zero:∀ {us:List Value},Vals [] us→us=[]
  | _,.nil=>rfl
theorem Vals.reverse {xs:List V} {us:List Value} (h:Vals xs us):Vals xs.reverse us.reverse:=by
  induction h with
  | nil=>exact .nil
  | cons r t ih=>rw [List.reverse_cons,List.reverse_cons];exact Vals.append ih (.cons r .nil)
theorem Vals.rep {xs:List V} {us:List Value} (h:Vals xs us):∀ k:Nat,Vals (List.replicate k xs).flatten (List.replicate k us).flatten
  | 0=>.nil
  | k+1=>by
    rw [List.replicate_succ,List.replicate_succ,List.flatten_cons,List.flatten_cons]
    exact Vals.append h (Vals.rep h k)
theorem foldl_rep (its:List Value):∀ (k:Nat) (acc:List Value),
    List.foldl (fun x1 x2=>x1++x2) acc.toArray (List.replicate k its.toArray)=(acc++(List.replicate k its).flatten).toArray
  | 0,acc=>by simp
  | k+1,acc=>by
    have e:acc.toArray++its.toArray=(acc++its).toArray:=by simp
    have e2:(acc++its)++(List.replicate k its).flatten=acc++(List.replicate (k+1) its).flatten:=by
      rw [List.replicate_succ,List.flatten_cons,List.append_assoc]
    rw [← e2,← foldl_rep its k (acc++its),← e,List.replicate_succ,List.foldl_cons]
section
variable {X:Cx} {pins:List (Addr×Obj)} {σ:St} {H:Hp} {s:Shared} {l b:Addr} {xs ys zs:List V}
theorem Inv.lset {its its':List Value} {n:Nat} {f:Array Value→Array Value} {t':Nat} (I:Inv X pins σ H s) (hH:H l=some (.lst xs))
    (e:s.heap.get? l=some { cls:=.type "list",data:=.seq its.toArray n }) (hf:f its.toArray=its'.toArray) (hv:Vals ys its') (hz:ys.length≤sizeLine) :
    Inv X pins σ (upd H l (.lst ys)) { s with heap:=s.heap.update l (Obj.mapSeq f),toks:=t' }:=by
  have q:=PySem.IsL.update e f
  rw [hf] at q
  refine I.write (x:=l) (e:=l) (by rw [hH];exact trivial) (.inl rfl) (fun b' u hb hu=>(Heap.get?_update_other s.heap (Obj.mapSeq f) (Ne.symm hb)).trans hu) ⟨_,q⟩ ?_ (.inl ⟨_,hH⟩)
  exact ⟨hz,its',_,hv,q⟩
theorem Inv.lnew {its:List Value} {t':Nat} (I:Inv X pins σ H s) (hv:Vals ys its) (hz:ys.length≤sizeLine) :
    Inv X pins σ (upd H s.heap.objs.size (.lst ys)) { s with heap:=s.heap.push { cls:=.type "list",data:=.seq its.toArray },toks:=t' }:=
  I.laid (fun _ _ q=>Heap.get?_push_of_some _ q) (Nat.le_refl _) ⟨hz,its,0,hv,Heap.get?_push_size _ rfl⟩
theorem Inv.fresh (I:Inv X pins σ H s):H s.heap.objs.size=none:=I.hok.fresh (Nat.le_refl _)
theorem Inv.lstM (I:Inv X pins σ H s) (hH:H l=some (.lst xs)):xs.length≤sizeLine∧∃ (its:List Value) (n:Nat),Vals xs its∧xs.length=its.length∧s.heap.get? l=some { cls:=.type "list",data:=.seq its.toArray n }:=by
  obtain ⟨z,its,n,r,e⟩:=I.hok l _ hH
  exact ⟨z,its,n,r,r.length,e⟩
theorem notLongL {n:Nat} (h:n≤sizeLine):Builtin.List.listTooLong n=false:=by
  unfold Builtin.List.listTooLong
  exact decide_eq_false (by omega)
end
section
variable {X:Cx}
def rAppend:V→List V→Hp→VK→Prop:=fun x vs H Q=>∃ l xs y,x = .ref l∧vs=[y]∧H l=some (.lst xs)∧xs.length < sizeLine∧Q .non (upd H l (.lst (xs++[y])))
theorem mt_append:MtM X "list.append" rAppend:=by
  intro pins s σ H x vs v us Q I rx rv h
  obtain ⟨l,xs,y,rfl,rfl,hH,hz,q⟩:=h
  cases rx
  obtain ⟨u,rfl,ru⟩:=rv.one
  obtain ⟨z,its,n,r,hl,e⟩:=I.lstM hH
  refine call_meets F.slot_list_append ⟨_,e,rfl⟩ F.entry_list_append (F.args_list_append_2 _ _) (PySem.list_append l its.toArray n u (by rw [List.size_toArray];omega)) ⟨e,?_⟩
  refine ⟨.non,_,I.lset (its':=its++[u]) hH e (by simp) (r.append (.cons ru .nil)) ?_,rfl,q⟩
  rw [List.length_append,List.length_singleton]
  omega
def rExtend:V→List V→Hp→VK→Prop:=fun x vs H Q=>∃ l b xs zs,x = .ref l∧vs=[.ref b]∧H l=some (.lst xs)∧H b=some (.lst zs)∧xs.length+zs.length≤sizeLine∧Q .non (upd H l (.lst (xs++zs)))
theorem mt_extend:MtM X "list.extend" rExtend:=by
  intro pins s σ H x vs v us Q I rx rv h
  obtain ⟨l,b,xs,zs,rfl,rfl,hH,hB,hz,q⟩:=h
  cases rx
  obtain ⟨u,rfl,ru⟩:=rv.one
  cases ru
  obtain ⟨z,its,n,r,hl,e⟩:=I.lstM hH
  obtain ⟨z2,its2,n2,r2,hl2,e2⟩:=I.lstM hB
  have hsz:its.toArray.size+its2.toArray.size≤sizeLine:=by rw [List.size_toArray,List.size_toArray];omega
  have hlong:¬ (!its.toArray.isEmpty && Builtin.List.listTooLong (its.toArray.size+its2.toArray.size))=true:=by
    rw [notLongL hsz,Bool.and_false]
    exact Bool.false_ne_true
  refine call_meets F.slot_list_extend ⟨_,e,rfl⟩ F.entry_list_extend (F.args_list_extend_2 _ _)
    (AutoSeq1.list_extend_list_list_0 l its.toArray n b its2.toArray n2 hlong (by rw [List.size_toArray];omega) (by omega)) ⟨e,e2,?_⟩
  refine ⟨.non,_,I.lset (its':=its++its2) hH e (by simp) (r.append r2) ?_,rfl,q⟩
  rw [List.length_append]
  omega
def rRep:R2:=fun x y H Q=>∃ l k xs,x = .ref l∧y = .int k∧H l=some (.lst xs)∧-(2 ^ 63)≤k∧k < 2 ^ 63∧xs.length*k.toNat≤sizeLine∧
  ∀ p,H p=none→Q (.ref p) (upd H p (.lst (List.replicate k.toNat xs).flatten))
theorem len_rep {α:Type} (xs:List α) (k:Nat):(List.replicate k xs).flatten.length=k*xs.length:=by
  induction k with
  | zero=>simp
  | succ k ih=>rw [List.replicate_succ,List.flatten_cons,List.length_append,ih,Nat.succ_mul,Nat.add_comm]
theorem op_rep:OpR X (binaryOp .Mult) rRep:=by
  intro pins s σ H x y v u Q I rx ry h
  obtain ⟨l,k,xs,rfl,rfl,hH,h1,h2,hz,q⟩:=h
  cases rx
  obtain ⟨t,rfl⟩:=ry
  obtain ⟨z,its,n,r,hl,e⟩:=I.lstM hH
  have hlen:its.toArray.size*k.toNat≤sizeLine:=by rw [List.size_toArray,← hl];exact hz
  have hcap:¬ its.toArray.size*k.toNat > (2 ^ 63 - 1) / 8:=by
    have:(sizeLine:Nat)≤(2 ^ 63 - 1) / 8:=by decide
    omega
  have hfit:¬ (!Builtin.List.listFitsIndex k)=true:=by
    rw [fitsIndex_both h1 h2]
    exact Bool.false_ne_true
  have hlong:¬ Builtin.List.listTooLong (its.toArray.size*k.toNat)=true:=by
    rw [notLongL hlen]
    exact Bool.false_ne_true
  have hnew:List.foldl (fun x1 x2=>x1++x2) #[] (List.replicate (if its.toArray.isEmpty=true then 0 else k.toNat) its.toArray)=(List.replicate k.toNat its).flatten.toArray:=by
    have f0:∀ m:Nat,List.foldl (fun x1 x2=>x1++x2) #[] (List.replicate m its.toArray)=(List.replicate m its).flatten.toArray:=fun m=>by
      have:=foldl_rep its m []
      rw [List.nil_append] at this
      exact this
    rw [f0]
    cases its with
    | nil=>simp
    | cons a r'=>rw [if_neg (by simp)]
  refine wpAny_binaryOp_repeat_ref (T:= "list") (U:= "int") (by decide) ⟨_,e,rfl⟩ (fun s'=>typeIs_int s' k t) noFill_list_mul F.fills_int_mul F.slot_int_rmul repeat_list F.slot_int_index.lookup
    (call_meets F.slot_int_rmul (typeIs_int s k t) F.entry_int_rmul (F.args_int_rmul_2 _ _) (int___rmul___int_list k t l its.toArray n)
      ⟨e,rfl,⟨_,e,rfl⟩,call_meets F.slot_list_mul ⟨_,e,rfl⟩ F.entry_list_mul (F.args_list_mul_2 _ _) (AutoListH.list___mul___list_int_3 l its.toArray n k t hfit hcap hlong) ⟨e,?_⟩⟩)
  rw [hnew]
  exact ⟨.ref _,_,I.lnew (t':=s.toks) (r.rep k.toNat) (by rw [len_rep,Nat.mul_comm];exact hz),rfl,q _ I.fresh⟩
end
section
variable {prog:Program} {w:World} {A:Around} {E:Value→Shared→Prop} {s:Shared}
end
section
variable {X:Cx}
end
end L2
namespace Att
open PySem PySem.W PySem.Calls PyProof.Rows
theorem ints_of_wellAll {P:Params} {h:Heap}:∀ (ns:List Int) (vs:List Value),WellAll P h vs (ns.map WData.int)→IntsAre vs ns:=by
  intro ns
  induction ns with
  | nil=>
    intro vs w
    rw [List.map_nil] at w
    cases w
    exact .nil
  | cons n ns ih=>
    intro vs w
    rw [List.map_cons] at w
    cases w with
    | cons a b=>
      cases a
      exact .cons _ _ (ih _ b)
theorem script_of {l:OpenLaw} {n:Nat} (hn:l.most=some n) {P:Params} {h:Heap} {args:List WData} {vals:List Value}
    (hpre:l.row.toRowW.claim.pre args=true) (hwl:WellAll P h vals args) :
    ∃ a vs ns,vals=[Value.ref a]∧args=[WData.list (ns.map WData.int)]∧h.get? a=some { cls:=.type "list",data:=.seq vs.toArray }∧IntsAre vs ns∧ns.length≤n:=by
  have hsh:WShape.hasAll [] args [.list .int]=true:=(pre_splitW hpre).1
  have hc:l.pre.holds [] { args:=args }=true:=(pre_splitW hpre).2
  obtain ⟨d,r,rfl,h1,h2⟩:=hasAllW_cons hsh
  obtain rfl:=hasAllW_nil h2
  obtain ⟨xs,rfl,h3⟩:=hasW_list h1
  obtain ⟨ns,rfl⟩:=items_int h3
  have hlen:ns.length≤n:=by
    unfold OpenLaw.pre at hc
    have h4:(WTm.not (.lt (.lit (.int (n:Int))) (.len (.arg 0)))).holds [] { args:=[.list (ns.map .int)] }=true:=by
      have h4:=(holds_andW hc).1
      rw [hn] at h4
      exact h4
    have h5:=condW_of h4 (w_not (w_lt w_lit (w_len_list (w_arg rfl))))
    rw [List.length_map] at h5
    refine Nat.le_of_not_lt fun q=>?_
    have q':(n:Int) < ((ns.length:Nat):Int):=by omega
    first
      | (rw [decide_eq_true q'] at h5;exact absurd h5 (by decide))
      | (simp at h5;omega)
  cases hwl with
  | cons w1 w2=>
    cases w2
    cases w1 with
    | list ho hall=>exact ⟨_,_,ns,rfl,rfl,ho,ints_of_wellAll ns _ hall,hlen⟩
theorem post_true (l:OpenLaw) (args:List WData):l.row.toRowW.claim.post args (.bool true) args=true:=
  postW_of (r:=l.row.toRowW) (X:=(true == true))
    (show WShape.has [] (.bool true) .bool=true by first | rfl | decide | simp [WShape.has,WShape.arms,WShape.armsAll])
    (show (WTm.eq .res (.lit (.bool true))).value [] { args:=args,res:=some (.bool true),after:=args }=some (.bool (true == true)) from w_eq_bool (w_res rfl) w_lit) rfl
theorem attach_call {l:OpenLaw} {n:Nat} {q:Program} {loose:List Str} {XP:(Str→Option Value)→Heap→Prop} {YP:World→Heap→Prop} {d:DefRec}
    (hn:l.most=some n) (hdf:d.params.defaults=[])
    (call:∀ (w:World) (s₀ s₁:Shared) (mg mb:Str→Option Value) (fa:Addr) (o:Obj) (pm cd doc:Value) (a:Addr) (vs:List Value) (ns:List Int),
      Ground q loose [] XP w s₀ mg mb s₁.heap→YP w s₁.heap→
      s₁.heap.get? fa=some o→o.data = .func (docDef d.name d.params d.body d.scope pm cd doc)→s₁.heap.CodeRec cd d.name→mg d.name=some (.ref fa)→
      s₁.heap.get? a=some { cls:=.type "list",data:=.seq vs.toArray }→IntsAre vs ns→ns.length≤n→(a == sysModules)=false→s₁.gens = #[]→
      codeAny (model l.prog w) callerA (.call (.ref fa) ⟨[.ref a],[]⟩) (fun r s'=>r = .ok (.ret (.bool true))∧OldK s₁.heap s'.heap∧s'.os=s₁.os∧AllBare s'.gens) s₁) :
    WalkO q loose XP YP l.row.toRowW d [] (fun f vs=>PySem.call f vs):=by
  intro w s₀ s₁ mg mb G Y fa o pm cd doc dV kV ho hd hcd hD hmg hg args vals as hpre hlay hrd hwl hlo
  obtain rfl:dV = .none:=Dflts.none hD hdf
  obtain rfl:kV = .none:=Dflts.noKw hD
  obtain ⟨a,vs,ns,rfl,rfl,hobj,hints,hlen⟩:=script_of hn hpre hwl
  have hsy:(a == sysModules)=false:=hlo a (by
    cases hrd with
    | cons h1 h2=>cases h1;simp)
  refine enter_call (codeAny_mono (call w s₀ s₁ mg mb fa o pm cd doc a vs ns G Y ho (fd_plain hd) hcd hmg hobj hints hlen hsy hg) fun r s' hq=>?_)
  obtain ⟨rfl,h2,h3,h4⟩:=hq
  exact ⟨.inl ⟨.bool true,.bool true,[],rfl,fun _=>rfl,.bool true,post_true l _,fun _=>⟨List.Pairwise.nil,fun _ hm=>(nomatch hm)⟩⟩,h2,h3,h4⟩
section
variable {prog:Program} {w:World} {A:Around} {E:Value→Shared→Prop} {s:Shared} {K:Frag}
end
end Att
namespace L2
open PySem PySem.Spec PyProof.Rows
theorem vals_ints:∀ {vs:List Value} {ns:List Int},IntsAre vs ns→Vals (ns.map V.int) vs
  | _,_,.nil=>.nil
  | _,_,.cons n t h=>.cons ⟨t,rfl⟩ (vals_ints h)
def Only (H:Hp):Prop:=∀ b,H b=none∨∃ o xs,H b=some (.frz o (.lst xs))
theorem law_call {P:Program} {w:World} {K:PySem.W.Frag} {mg mb:Str→Option Value} {CX:CXT} {k:Nat} {fa a:Addr} {fd:FuncData} {x:Str} {sp:Sp} {s₁:Shared} {vs:List Value} {ns:List Int}
    (KX:K.In s₁.heap) (hns:s₁.heap.Ns mainGlobals mg) (hb:s₁.heap.Ns builtinsNs mb) (hbb:∀ x:Str,x≠ "__name__" →mb x=bootBuiltins x) (hlim:s₁.heap.NoLimit) (hg:s₁.gens = #[])
    (ha:s₁.heap.get? a=some { cls:=.type "list",data:=.seq vs.toArray }) (hi:IntsAre vs ns) (hl:ns.length≤sizeLine) (hsy:(a == sysModules)=false) (hr:Room k callerA)
    (F:∀ base:Heap,K.In base→base.Ns mainGlobals mg→FnOk P w K mg base CX k fa fd [x] sp) (hbind:∀ (s:Shared) (u:Value),BindsTo s fd ⟨[u],[]⟩ [(x,u)])
    (hsp:∀ H:Hp,Only H→SqL K H a (ns.map V.int)→sp [.ref a] H (fun v _=>v = .bl true) fun _ _ _=>False)
    (hCX:∀ H e s',CX [] H s₁ (fun _ _ _=>False) e s'→False) :
    codeAny (model P w) callerA (.call (.ref fa) ⟨[.ref a],[]⟩) (fun r s'=>r = .ok (.ret (.bool true))∧OldK s₁.heap s'.heap∧s'.os=s₁.os∧AllBare s'.gens) s₁:=by
  have rv:=vals_ints hi
  have lenV:=hi.length
  -- from an abstract heap in which nothing but the script may be tracked
  have core:∀ H:Hp,Only H→SqL K H a (ns.map V.int)→HOk P w H s₁.heap→(∀ b,H b≠none→b=a)→(H a≠none→K.lookup a=none)→
      codeAny (model P w) callerA (.call (.ref fa) ⟨[.ref a],[]⟩) (fun r s'=>r = .ok (.ret (.bool true))∧OldK s₁.heap s'.heap∧s'.os=s₁.os∧AllBare s'.gens) s₁:=by
    intro H hO hS hok hA hK
    have base_of:∀ {b:Addr} {o:Obj},s₁.heap.get? b=some o→H b=none→(hidT s₁.heap H).get? b=some o:=fun e n=>hidT_get e n
    have noA:∀ {b:Addr} {o:Obj} {es:Array DictEntry} {ep:Nat},s₁.heap.get? b=some o→o.data = .dict es ep→H b=none:=fun {b o es ep} e d=>by
      cases q:H b with
      | none=>rfl
      | some u=>
        have e':b=a:=hA b (by rw [q];simp)
        subst e'
        rw [ha] at e;cases e
        have d':Data.seq vs.toArray _=Data.dict es ep:=d
        cases d'
    have nsK:∀ {b:Addr} {m:Str→Option Value},s₁.heap.Ns b m→(hidT s₁.heap H).Ns b m:=fun {b m} ⟨o,es,ep,e,d,r⟩=>⟨o,es,ep,base_of e (noA e d),d,r⟩
    have hKb:K.In (hidT s₁.heap H):=fun b o e=>base_of (KX b o e) (by
      cases q:H b with
      | none=>rfl
      | some u=>
        have e':b=a:=hA b (by rw [q];simp)
        subst e'
        rw [hK (by rw [q];simp)] at e;cases e)
    have hM:Mod K mg (hidT s₁.heap H):=⟨hKb,nsK hns,⟨mb,nsK hb,hbb⟩,let ⟨mc,h1,h2⟩:=hlim;⟨mc,nsK h1,h2⟩⟩
    have e0:Env0 P w K mg (hidT s₁.heap H) callerA [] s₁ H:=⟨rfl,hM,fun b o e=>of_hidT e,Nat.le_of_eq (hidT_size _ _),trivial,fun b hb=>absurd (show b∈([]:List Addr) from hb) (by simp),hok,.of_eq hg,fun xs q=>absurd (hA sysModules (by rw [q];simp)).symm (beq_eq_false_iff_ne.mp hsy)⟩
    refine codeAny_mono ((F _ hKb (nsK hns)).run callerA [] s₁ H ⟨[.ref a],[]⟩ [.ref a] [.ref a] _ _ hr e0 (hbind s₁ (.ref a)) (.cons rfl .nil) (hsp H hO hS)) fun r s' h=>?_
    cases r with
    | error e=>exact (hCX H e s' h).elim
    | ok fl=>
      cases fl with
      | next=>exact False.elim h
      | brk=>exact False.elim h
      | cont=>exact False.elim h
      | ret u=>
        obtain ⟨v,H',os,bare,un,hok',r',q⟩:=h
        have q':v = .bl true:=q
        subst q'
        obtain rfl:u=Value.bool true:=r'
        refine ⟨rfl,OldK.of_keep fun b o e=>?_,os,bare⟩
        cases q:H b with
        | none=>exact un.keep b o e q (by intro z;exact absurd (show b∈([]:List Addr) from z) (by simp)) (by simp)
        | some u=>
          rcases hO b with z | ⟨ob,xs,z⟩
          · rw [q] at z;cases z
          · have z2:=un.frzs b ob _ z
            obtain ⟨e1,_⟩:=hok b _ z
            obtain ⟨e2,_⟩:=hok' b _ z2
            rw [e] at e1;cases e1
            exact e2
  cases hk:K.lookup a with
  | some o=>
    -- the script is one of the module's own objects
    have e:=KX a o hk
    rw [ha] at e
    cases e
    refine core (fun _=>none) (fun _=>.inl rfl) (.inr ⟨_,vs.toArray,_,hk,rfl,rfl,rfl,by rw [List.size_toArray,lenV];exact hl,by simpa using rv⟩) (fun b u z=>by have z':(none:Option HO)=some u:=z;cases z') (fun b z=>absurd rfl z) fun z=>absurd rfl z
  | none=>
    refine core (fun b=>if b=a then some (.frz { cls:=.type "list",data:=.seq vs.toArray } (.lst (ns.map V.int))) else none) (fun b=>?_) (.inl (.inr ⟨{ cls:=.type "list",data:=.seq vs.toArray },if_pos rfl⟩)) (fun b u z=>?_) (fun b z=>?_) fun _=>hk
    · by_cases hb:b=a
      · exact .inr ⟨_,_,if_pos hb⟩
      · exact .inl (if_neg hb)
    · by_cases hb:b=a
      · have z':=(if_pos hb).symm.trans z
        cases z'
        subst hb
        exact ⟨ha,by rw [List.length_map];exact hl,vs,_,rv,ha⟩
      · have z':=(if_neg hb).symm.trans z
        cases z'
    · by_cases hb:b=a
      · exact hb
      · exact absurd (if_neg hb) z
theorem walk_of {l:PySem.W.OpenLaw} {n k:Nat} {q:Program} {loose:List Str} {XP:(Str→Option Value)→Heap→Prop} {YP:World→Heap→Prop} {d:DefRec} {K:Params→PySem.W.Frag} {CX:World→CXT} {sp:World→Sp} {x:Str}
    (hn:l.most=some n) (hn2:n≤sizeLine) (hdf:d.params.defaults=[]) (hr:Room k callerA)
    (hY:∀ (w:World) (h:Heap),YP w h→(K w.params).In h)
    (F:∀ (w:World) (mg:Str→Option Value) (fa:Addr) (h:Heap),(K w.params).In h→h.Ns mainGlobals mg→mg d.name=some (.ref fa)→
      ∃ fd:FuncData,(∀ (s:Shared) (u:Value),BindsTo s fd ⟨[u],[]⟩ [(x,u)])∧
        ∀ base:Heap,(K w.params).In base→base.Ns mainGlobals mg→FnOk l.prog w (K w.params) mg base (CX w) k fa fd [x] (sp w))
    (hsp:∀ (w:World) (H:Hp) (a:Addr) (ns:List Int),ns.length≤n→Only H→SqL (K w.params) H a (ns.map V.int)→sp w [.ref a] H (fun v _=>v = .bl true) fun _ _ _=>False)
    (hCX:∀ (w:World) (H:Hp) (s:Shared) (e:Value) (s':Shared),CX w [] H s (fun _ _ _=>False) e s'→False) :
    PySem.W.WalkO q loose XP YP l.row.toRowW d [] (fun f vs=>PySem.call f vs):=by
  refine Att.attach_call hn hdf fun w s₀ s₁ mg mb fa o pm cd doc a vs ns G Y ho hd hcd hmg hobj hints hlen hsy hg=>?_
  have KX:=hY w _ Y
  obtain ⟨fd,hb,hF⟩:=F w mg fa _ KX G.T.g hmg
  exact law_call KX G.T.g G.T.b G.T.builtins G.T.nolimit hg hobj hints (Nat.le_trans hlen hn2) hsy hr hF hb (fun H hO hS=>hsp w H a ns hlen hO hS) fun H e s'=>hCX w H s₁ e s'
def defArgs (s:Stmt):Arguments:=match s with
  | .FunctionDef _ a _ _ _ _ _ _ _ _=>a
  | _=>{ posonlyargs:=[],args:=[],vararg:=none,kwonlyargs:=[],kw_defaults:=[],kwarg:=none,defaults:=[] }
def defBody (s:Stmt):List Stmt:=match s with
  | .FunctionDef _ _ b _ _ _ _ _ _ _=>b
  | _=>[]
def defScope (s:Stmt):Scope:=match s with
  | .FunctionDef _ _ _ _ _ _ sc _ _ _=>sc
  | _=>{ kind:=.function,names:=[],isGenerator:=false,isCoroutine:=false }
abbrev CX0:CXT:=fun _ _ _ _ _ _=>False
abbrev E0:XK:=fun _ _ _=>False
structure Fun (K:PySem.W.Frag) (x qual:Str) (st:Stmt) (f:Addr) (fd:FuncData):Prop where
  ex:∃ (oc:Value) (od:Option Addr) (kV doc pm:Value) (an:Option Addr) (cdv ct:Value) (osl:Array (Option Value)),
    fd=PySem.W.fnOf x qual (defArgs st) (defBody st) (defScope st) .none kV doc pm an cdv ct∧K.lookup f=some ⟨oc,od,.func fd,osl⟩∧PySem.W.codeIn K cdv qual=true
  kp:PySem.W.keepIn K (.ref f)=true
section
variable {P:Program} {w:World} {K:PySem.W.Frag} {mg:Str→Option Value} {base:Heap}
theorem Fun.ok {x qual:Str} {st:Stmt} {f:Addr} {fd:FuncData} {N ps:List Str} {k:Nat} {sp:Sp} (F:Fun K x qual st f fd) (S:FnScope N ps (defScope st)) (len:∀ vs H Q E,sp vs H Q E→vs.length=ps.length)
    (hbody:∀ (cdv:Value) (A:Around) (outer:List Env) (s:Shared) (H:Hp) (vs:List V) (Q:VK) (E:XK),Room k (A.deeper (envOfC qual (defScope st) s.heap.objs.size f cdv))→sp vs H Q E→
      ∃ t,PSs (cxOf CX0 P w K mg base N qual (defScope st) f cdv A outer s H E).nox (defBody st) t∧t { nx:=fun _ H'=>Q .non H',rt:=Q } (start N vs) H):FnOk P w K mg base CX0 (k+1) f fd ps sp:=by
  obtain ⟨oc,od,kV,doc,pm,an,cdv,ct,osl,rfl,lk,hcd⟩:=F.ex
  refine fn_of lk hcd S len fun A outer s H vs Q E hr hsp=>?_
  obtain ⟨t,h,q⟩:=hbody cdv A outer s H vs Q E hr hsp
  exact ⟨t,h.nox,q⟩
theorem Fun.binds {x qual:Str} {st:Stmt} {f:Addr} {fd:FuncData} {ps:List Str} (F:Fun K x qual st f fd)
    (h:∀ (kV doc pm:Value) (an:Option Addr) (cdv ct:Value) (us:List Value),us.length=ps.length→bindArgs (PySem.W.fnOf x qual (defArgs st) (defBody st) (defScope st) .none kV doc pm an cdv ct) ⟨us,[]⟩=pure (ps.zip us)):Binds K fd ps []:=by
  obtain ⟨oc,od,kV,doc,pm,an,cdv,ct,osl,rfl,lk,hcd⟩:=F.ex
  exact .all (h kV doc pm an cdv ct)
theorem fun_mk {x qual:Str} {st:Stmt} {f:Addr} {oc:Value} {od an:Option Addr} {osl:Array (Option Value)} {kV doc pm cdv ct:Value} (l:K.lookup f=some ⟨oc,od,.func (PySem.W.fnOf x qual (defArgs st) (defBody st) (defScope st) .none kV doc pm an cdv ct),osl⟩)
    (c:PySem.W.codeIn K cdv qual=true) (k:PySem.W.keepIn K (.ref f)=true):Fun K x qual st f (PySem.W.fnOf x qual (defArgs st) (defBody st) (defScope st) .none kV doc pm an cdv ct):=⟨⟨oc,od,kV,doc,pm,an,cdv,ct,osl,rfl,l,c⟩,k⟩
end
section
variable {X:Cx}
end
def Same (H H':Hp):Prop:=∀ b o,H b=some o→H' b=some o
theorem Same.refl (H:Hp):Same H H:=fun _ _ h=>h
theorem Same.trans {H H1 H2:Hp} (a:Same H H1) (b:Same H1 H2):Same H H2:=fun c o h=>b c o (a c o h)
theorem Same.free {H H':Hp} (e:Same H H') {l:Addr} (h:H' l=Option.none):H l=Option.none:=by
  cases q:H l with
  | none=>rfl
  | some o=>
    rw [e l o q] at h
    cases h
theorem Same.seq {K:PySem.W.Frag} {H H':Hp} {a:Addr} {xs:List V} (e:Same H H') (h:SqL K H a xs):SqL K H' a xs:=by
  rcases h with (h | ⟨o,h⟩) | h
  · exact .inl (.inl (e _ _ h))
  · exact .inl (.inr ⟨o,e _ _ h⟩)
  · exact .inr h
def ZdI:List (Str×NameKind)→Bool
  | []=>true
  | (n,_)::r=>!(r.any fun y=>y.1 == n) && ZdI r
def Zdu (sc outer:Scope):Bool:=
  decide (sc.kind = .function) && ZdI sc.names && sc.names.all fun y=>!decide (y.2 = .free) || (decide (outer.names.lookup y.1=some .cell) || decide (outer.names.lookup y.1=some .free))
theorem ZgS {α:Type}:∀ {l:List (Str×α)} {n:Str},(l.any fun y=>y.1 == n)=false→l.lookup n=none
  | [],_,_=>rfl
  | (k,v)::r,n,h=>by
    simp only [List.any_cons,Bool.or_eq_false_iff] at h
    have e:(n == k)=false:=by
      have:=h.1
      simp only [beq_eq_false_iff_ne] at this ⊢
      exact fun z=>this z.symm
    rw [List.lookup_cons,e]
    exact ZgS h.2
theorem Zez:∀ {l:List (Str×NameKind)} {n:Str} {k:NameKind},ZdI l=true→(n,k)∈l→l.lookup n=some k
  | (m,j)::r,n,k,nd,h=>by
    simp only [ZdI,Bool.and_eq_true,Bool.not_eq_true'] at nd
    rcases List.mem_cons.mp h with e | h2
    · cases e;simp
    · have hm:n≠m:=by
        rintro rfl
        have:(r.any fun y=>y.1 == n)=true:=List.any_eq_true.mpr ⟨_,h2,by simp⟩
        rw [nd.1] at this;cases this
      rw [List.lookup_cons,beq_eq_false_iff_ne.mpr hm]
      exact Zez nd.2 h2
def clOf (cells:List (Str×Addr)):List (Str×NameKind)→List (Str×Addr)→List (Str×Addr)
  | [],acc=>acc
  | (n,k)::r,acc=>if k == .free then clOf cells r ((n,(cells.lookup n).getD 0)::acc) else clOf cells r acc
theorem ZdQ {cells:List (Str×Addr)} {x:Str}:∀ {names:List (Str×NameKind)} {acc:List (Str×Addr)},ZdI names=true→
    ((names.lookup x=some .free→∃ c,(clOf cells names acc).lookup x=some c∧(cells.lookup x).getD 0=c)∧(names.lookup x≠some .free→(clOf cells names acc).lookup x=acc.lookup x))
  | [],acc,_=>⟨fun h=>by simp at h,fun _=>rfl⟩
  | (m,k)::r,acc,nd=>by
    simp only [ZdI,Bool.and_eq_true,Bool.not_eq_true'] at nd
    by_cases hm:x=m
    · subst hm
      have hr:r.lookup x=none:=ZgS nd.1
      rw [show List.lookup x ((x,k)::r)=some k by simp]
      have ih:=@ZdQ cells x r
      by_cases hk:k = .free
      · subst hk
        refine ⟨fun _=>⟨_,?_,rfl⟩,fun h=>absurd rfl h⟩
        show (clOf cells r ((x,_)::acc)).lookup x=_
        rw [(ih nd.2).2 (by rw [hr];simp)]
        simp
      · refine ⟨fun h=>absurd (Option.some.inj h) hk,fun _=>?_⟩
        have:clOf cells ((x,k)::r) acc=clOf cells r acc:=by
          show (if k == .free then _ else _)=_
          rw [if_neg (by simpa using hk)]
        rw [this,(ih nd.2).2 (by rw [hr];simp)]
    · have e:List.lookup x ((m,k)::r)=r.lookup x:=by rw [List.lookup_cons,beq_eq_false_iff_ne.mpr hm]
      rw [e]
      by_cases hk:k = .free
      · subst hk
        have ih:=@ZdQ cells x r ((m,(cells.lookup m).getD 0)::acc) nd.2
        have e2:List.lookup x ((m,(cells.lookup m).getD 0)::acc)=acc.lookup x:=by rw [List.lookup_cons,beq_eq_false_iff_ne.mpr hm]
        rw [e2] at ih
        exact ih
      · have:clOf cells ((m,k)::r) acc=clOf cells r acc:=by
          show (if k == .free then _ else _)=_
          rw [if_neg (by simpa using hk)]
        rw [this]
        exact @ZdQ cells x r acc nd.2
theorem ZeX {scope:Scope} {env:Env} (h:∀ y∈scope.names,y.2 = .free→∃ c,env.cells.lookup y.1=some c):closureFor scope env=pure (clOf env.cells scope.names []):=by
  have gen:∀ (names:List (Str×NameKind)) (acc:List (Str×Addr)),(∀ y∈names,y.2 = .free→∃ c,env.cells.lookup y.1=some c)→
      (forIn names acc (fun (x:Str×NameKind) (r:List (Str×Addr))=>(if (x.2 == NameKind.free)=true then (do
        let c ← cellOf env x.1
        pure (ForInStep.yield ((x.1,c)::r))) else pure (ForInStep.yield r):Sem (ForInStep (List (Str×Addr))))))=(pure (clOf env.cells names acc):Sem (List (Str×Addr))):=by
    intro names
    induction names with
    | nil=>intro acc _;rfl
    | cons y r ih=>
      intro acc hh
      obtain ⟨n,k⟩:=y
      rw [List.forIn_cons]
      by_cases hk:k = .free
      · subst hk
        obtain ⟨c,hc⟩:=hh (n,.free) List.mem_cons_self rfl
        have hc':env.cells.lookup n=some c:=hc
        have e:cellOf env n=pure c:=by unfold cellOf;rw [hc']
        simp only [beq_self_eq_true,if_true,e]
        have:=ih ((n,c)::acc) fun y hy=>hh y (List.mem_cons_of_mem _ hy)
        have e3:clOf env.cells ((n,.free)::r) acc=clOf env.cells r ((n,c)::acc):=by
          show (if _ then _ else _)=_
          rw [hc'];rfl
        rw [e3,← this]
        rfl
      · have hb:(k == NameKind.free)=false:=by simpa using hk
        simp only [hb,Bool.false_eq_true,if_false]
        have:=ih acc fun y hy=>hh y (List.mem_cons_of_mem _ hy)
        have e3:clOf env.cells ((n,k)::r) acc=clOf env.cells r acc:=by
          show (if _ then _ else _)=_
          rw [if_neg (by simpa using hk)]
        rw [e3,← this]
        rfl
  unfold closureFor
  have:=gen scope.names [] h
  first
    | exact this
    | (show (forIn scope.names [] _ >>= fun cs=>pure cs)=_
       refine Eq.trans (congrArg (· >>= fun cs=>pure cs) this) rfl)
theorem ZaG {x:Str}:∀ (names:List (Str×NameKind)) (n:Nat) (acc acc':List (Str×Addr)),ZdI names=true→
    ((names.lookup x=some .cell→(cellsFrom n names acc).lookup x=(cellsFrom n names acc').lookup x)∧(names.lookup x≠some .cell→(cellsFrom n names acc).lookup x=acc.lookup x))
  | [],_,_,_,_=>⟨fun h=>by simp at h,fun _=>rfl⟩
  | (m,k)::r,n,acc,acc',nd=>by
    simp only [ZdI,Bool.and_eq_true,Bool.not_eq_true'] at nd
    by_cases hm:x=m
    · subst hm
      have hr:r.lookup x=none:=ZgS nd.1
      rw [show List.lookup x ((x,k)::r)=some k by simp]
      by_cases hk:k = .cell
      · subst hk
        refine ⟨fun _=>?_,fun h=>absurd rfl h⟩
        have a:=(@ZaG x r (n+1) ((x,n)::acc) acc' nd.2).2 (by rw [hr];simp)
        have b:=(@ZaG x r (n+1) ((x,n)::acc') acc' nd.2).2 (by rw [hr];simp)
        show (cellsFrom (n+1) r ((x,n)::acc)).lookup x=(cellsFrom (n+1) r ((x,n)::acc')).lookup x
        rw [a,b];simp
      · refine ⟨fun h=>absurd (Option.some.inj h) hk,fun _=>?_⟩
        have e:cellsFrom n ((x,k)::r) acc=cellsFrom n r acc:=by
          show (if k == .cell then _ else _)=_
          rw [if_neg (by simpa using hk)]
        rw [e,(@ZaG x r n acc acc' nd.2).2 (by rw [hr];simp)]
    · have e:List.lookup x ((m,k)::r)=r.lookup x:=by rw [List.lookup_cons,beq_eq_false_iff_ne.mpr hm]
      rw [e]
      by_cases hk:k = .cell
      · subst hk
        have ih:=@ZaG x r (n+1) ((m,n)::acc) ((m,n)::acc') nd.2
        have e2:List.lookup x ((m,n)::acc)=acc.lookup x:=by rw [List.lookup_cons,beq_eq_false_iff_ne.mpr hm]
        rw [e2] at ih
        exact ih
      · have e3:∀ a:List (Str×Addr),cellsFrom n ((m,k)::r) a=cellsFrom n r a:=fun a=>by
          show (if k == .cell then _ else _)=_
          rw [if_neg (by simpa using hk)]
        rw [e3,e3]
        exact @ZaG x r n acc acc' nd.2
theorem Zfz {sc:Scope} {env:Env} {x:Str}:(relabel sc env).names.lookup x=(sc.names.lookup x).map fun k=>if (k == NameKind.free && env.scope.kind == .function && env.kindOf x == some .cell)=true then .cell else k:=by
  show List.lookup x (sc.names.map _)=_
  generalize sc.names=l
  induction l with
  | nil=>rfl
  | cons y r ih=>
    obtain ⟨m,k⟩:=y
    by_cases hx:x=m
    · subst hx
      simp only [List.map_cons]
      by_cases hc:(k == NameKind.free && env.scope.kind == .function && env.kindOf x == some .cell)=true
      · rw [if_pos hc]
        simp only [List.lookup_cons,beq_self_eq_true,Option.map_some]
        rw [if_pos hc]
      · rw [if_neg hc]
        simp only [List.lookup_cons,beq_self_eq_true,Option.map_some]
        rw [if_neg hc]
    · have hb:(x == m)=false:=beq_eq_false_iff_ne.mpr hx
      simp only [List.map_cons]
      by_cases hc:(k == NameKind.free && env.scope.kind == .function && env.kindOf m == some .cell)=true
      · rw [if_pos hc];simp only [List.lookup_cons,hb];exact ih
      · rw [if_neg hc];simp only [List.lookup_cons,hb];exact ih
def Ze (sc:Scope) (env:Env) (C:Addr):Env:=
  { scope:=relabel sc env,locals:=C,globals:=env.globals,cells:=cellsFrom (C+1) sc.names (clOf env.cells sc.names []),qual:=env.qual,func:=none,code:=env.code,frame:=env.frame,builtins:=env.builtins }
theorem wp_lcEnv {M:Model} {A:Around} {E:Value→Shared→Prop} {s:Shared} {sc:Scope} {env:Env} {Q:Env→Shared→Prop}
    (h:Q { scope:=sc,locals:=s.heap.objs.size,globals:=env.globals,cells:=cellsFrom (s.heap.objs.size+1) sc.names (clOf env.cells sc.names []),qual:=env.qual,func:=none,code:=env.code,frame:=env.frame,builtins:=env.builtins }
      { s with heap:=pushCells (s.heap.push { cls:=.type "dict",data:=.dict #[] }) sc.names }) :
    wpAny M A (newFunctionEnv sc env.globals (clOf env.cells sc.names []) [] env.qual none .none (some env)) Q E s:=by
  simp only [newFunctionEnv,Option.isSome_some,if_true]
  refine wpAny_bind (wpAny_alloc ?_)
  refine wpAny_bind (wpAny_layCells _ (fun name kind cells=>by cases hkc:kind == NameKind.cell<;>simp [hkc]) _ _ _ _ ?_)
  rw [show ({ s with heap:=s.heap.push { cls:=.type "dict",data:=.dict #[] } }:Shared).heap.objs.size=s.heap.objs.size+1 from Heap.size_push ..]
  exact wpAny_bind (wpAny_pure (wpAny_pure h))
def Cx.lc (X:Cx) (sc:Scope) (vars:List Str) (sel:List Nat) (s:Shared) (H:Hp) (fp:List Addr):Cx where
  prog:=X.prog
  w:=X.w
  K:=X.K
  mg:=X.mg
  base:=X.base
  A:=X.A
  N:=vars++sel.map fun j=>X.N.getD j ""
  s₀:=s
  H₀:=H
  env:=Ze sc X.env s.heap.objs.size
  outer:=X.stack
  stack:=X.stack
  ex:=fp
  fn:=fun x=>decide (sc.names.lookup x=some .cell)
  calm:=X.calm
  pn:=[]
  xe:=fun _ _=>False
def selOk (N:List Str) (sc:Scope) (sel:List Nat):Bool:=sel.all fun j=>match N[j]? with
  | some x=>decide (sc.names.lookup x=some .free)
  | none=>false
def lcSt (nv:Nat) (sel:List Nat) (σ:St):St:=List.replicate nv none++sel.map fun j=>(σ[j]?).getD none
section
variable {X:Cx} {pins:List (Addr×Obj)} {σ:St} {H:Hp} {s:Shared} {sc:Scope} {vars:List Str} {sel:List Nat} {fp:List Addr}
theorem lc_cells (I:Inv X pins σ H s) (ok:Zdu sc X.env.scope=true):∀ y∈sc.names,y.2 = .free→∃ c,X.env.cells.lookup y.1=some c:=fun y hy hk=>by
  simp only [Zdu,Bool.and_eq_true,List.all_eq_true,Bool.or_eq_true,Bool.not_eq_true',decide_eq_true_eq,decide_eq_false_iff_not] at ok
  rcases ok.2 y hy with z | z
  · exact absurd hk z
  · exact I.ok.has y.1 z
theorem inv_lc (I:Inv X pins σ H s) (ok:Zdu sc X.env.scope=true) (so:selOk X.N sc sel=true) (hf:∀ b∈fp,FpOk X pins H b) (ho:∀ b∈fp,∃ o,s.heap.get? b=some o) (ha:X.env.scope.kind = .function:=by rfl) :
    Inv (X.lc sc vars sel s H fp) [] (lcSt vars.length sel σ) H { s with heap:=pushCells (s.heap.push { cls:=.type "dict",data:=.dict #[] }) sc.names }:=by
  have hcl:=lc_cells I ok
  have ok':=ok
  simp only [Zdu,Bool.and_eq_true,List.all_eq_true,Bool.or_eq_true,Bool.not_eq_true',decide_eq_true_eq,decide_eq_false_iff_not] at ok'
  obtain ⟨⟨hk,nd⟩,hfree⟩:=ok'
  have szp:(s.heap.push { cls:=.type "dict",data:=.dict #[] }).objs.size=s.heap.objs.size+1:=Heap.size_push ..
  have keep:∀ b o,s.heap.get? b=some o→(pushCells (s.heap.push { cls:=.type "dict",data:=.dict #[] }) sc.names).get? b=some o:=fun b o e=>pushCells_keeps _ _ _ _ (Heap.get?_push_of_some _ e)
  have okc:=cellsFrom_ok sc.names (s.heap.push { cls:=.type "dict",data:=.dict #[] }) (s.heap.objs.size+1) [] ⟨fun _ _ hm=>(nomatch hm),List.Pairwise.nil⟩ (by rw [szp];exact Nat.le_refl _)
  rw [szp] at okc
  -- the cells of the block
  have own:∀ x,sc.names.lookup x=some .cell→∃ c,(Ze sc X.env s.heap.objs.size).cells.lookup x=some c∧(x,c)∈cellsFrom (s.heap.objs.size+1) sc.names []:=fun x hx=>by
    have e:=(ZaG sc.names (s.heap.objs.size+1) (clOf X.env.cells sc.names []) [] nd).1 hx
    obtain ⟨c,hc⟩:=cell_has (sc:=sc) (n:=s.heap.objs.size+1) hx
    exact ⟨c,by show (cellsFrom _ _ _).lookup x=_;rw [e];exact hc,PySem.mem_of_lookup hc⟩
  have clo:∀ x,sc.names.lookup x=some .free→∃ c,(Ze sc X.env s.heap.objs.size).cells.lookup x=some c∧X.env.cells.lookup x=some c:=fun x hx=>by
    have e:=(ZaG sc.names (s.heap.objs.size+1) (clOf X.env.cells sc.names []) [] nd).2 (by rw [hx];decide)
    obtain ⟨c,h1,h2⟩:=(@ZdQ X.env.cells x sc.names [] nd).1 hx
    obtain ⟨c',h3⟩:=hcl (x,.free) (PySem.mem_of_lookup hx) rfl
    have h3':X.env.cells.lookup x=some c':=h3
    rw [h3'] at h2
    have h4:c'=c:=h2
    subst h4
    exact ⟨c',by show (cellsFrom _ _ _).lookup x=_;rw [e];exact h1,h3'⟩
  have oth:∀ x c,(Ze sc X.env s.heap.objs.size).cells.lookup x=some c→sc.names.lookup x=some .cell∨sc.names.lookup x=some .free:=fun x c hc=>by
    by_cases h1:sc.names.lookup x=some .cell
    · exact .inl h1
    · by_cases h2:sc.names.lookup x=some .free
      · exact .inr h2
      · have e:=(ZaG sc.names (s.heap.objs.size+1) (clOf X.env.cells sc.names []) [] nd).2 h1
        have e2:=(@ZdQ X.env.cells x sc.names [] nd).2 h2
        have hc':(cellsFrom (s.heap.objs.size+1) sc.names (clOf X.env.cells sc.names [])).lookup x=some c:=hc
        rw [e,e2] at hc'
        simp at hc'
  have ownC:∀ x c,(x,c)∈cellsFrom (s.heap.objs.size+1) sc.names []→(pushCells (s.heap.push { cls:=.type "dict",data:=.dict #[] }) sc.names).IsCell c none∧s.heap.objs.size+1≤c:=fun x c h=>okc.empty x c h
  have cloLt:∀ x c,X.env.cells.lookup x=some c→c < s.heap.objs.size:=fun x c h=>by
    obtain ⟨v,q⟩:=I.cell x c h
    exact q.lt
  have noA:∀ b∈fp,b < s.heap.objs.size:=fun b hb=>by obtain ⟨o,e⟩:=ho b hb;exact Heap.lt_size e
  refine ⟨⟨I.ok.mod,hk,I.ok.glob,I.ok.blt,Nat.le_refl _,fun x y c h1 h2=>?_,fun x hx=>?_,fun x c hx h=>?_,I.ok.hd,I.ok.frames,.inl rfl,fun b hb=>⟨Nat.ne_of_lt (noA b hb),fun x c h=>?_⟩,I.bs,Nat.le_trans I.ok.bsz I.sz,fun b o e hb=>?_,fun b hb hq=>?_,I.stack,I.stkFree,I.sysn⟩,
    rfl,I.bare,Un.kept keep,⟨fun _=>none,?_,fun i x v h1 h2 h3=>?_⟩,fun x c h=>?_,I.hok.fresh (Nat.le_refl _),fun x c h=>?_,fun p hp=>absurd (show p∈([]:List (Addr×Obj)) from hp) (by simp),I.hok.kept keep,?_⟩
  · -- inj
    replace h1:(Ze sc X.env s.heap.objs.size).cells.lookup x=some c:=h1
    replace h2:(Ze sc X.env s.heap.objs.size).cells.lookup y=some c:=h2
    rcases oth x c h1 with k1 | k1<;>rcases oth y c h2 with k2 | k2
    · obtain ⟨c1,e1,m1⟩:=own x k1
      obtain ⟨c2,e2,m2⟩:=own y k2
      rw [h1] at e1;rw [h2] at e2
      cases e1;cases e2
      exact name_of_addr okc.apart m1 m2
    · obtain ⟨c1,e1,m1⟩:=own x k1
      obtain ⟨c2,e2,m2⟩:=clo y k2
      rw [h1] at e1;rw [h2] at e2
      cases e1;cases e2
      exact absurd (Nat.lt_of_lt_of_le (cloLt y c m2) (Nat.le_of_succ_le (ownC x c m1).2)) (Nat.lt_irrefl _)
    · obtain ⟨c1,e1,m1⟩:=clo x k1
      obtain ⟨c2,e2,m2⟩:=own y k2
      rw [h1] at e1;rw [h2] at e2
      cases e1;cases e2
      exact absurd (Nat.lt_of_lt_of_le (cloLt x c m1) (Nat.le_of_succ_le (ownC y c m2).2)) (Nat.lt_irrefl _)
    · obtain ⟨c1,e1,m1⟩:=clo x k1
      obtain ⟨c2,e2,m2⟩:=clo y k2
      rw [h1] at e1;rw [h2] at e2
      cases e1;cases e2
      exact I.ok.inj x y c m1 m2
  · -- has
    have hx':(relabel sc X.env).names.lookup x=some .cell∨(relabel sc X.env).names.lookup x=some .free:=hx
    rw [Zfz] at hx'
    cases q:sc.names.lookup x with
    | none=>rw [q] at hx';simp at hx'
    | some k=>
      cases k with
      | cell=>obtain ⟨c,e,_⟩:=own x q;exact ⟨c,e⟩
      | free=>obtain ⟨c,e,_⟩:=clo x q;exact ⟨c,e⟩
      | «local»=>rw [q] at hx';simp at hx'
      | globalExplicit=>rw [q] at hx';simp at hx'
      | globalImplicit=>rw [q] at hx';simp at hx'
  · have hx':sc.names.lookup x=some .cell:=of_decide_eq_true hx
    obtain ⟨c1,e1,m1⟩:=own x hx'
    have h':(Ze sc X.env s.heap.objs.size).cells.lookup x=some c:=h
    rw [h'] at e1
    cases e1
    have:=(ownC x c m1).2
    show s.heap.objs.size≤c
    omega
  · rcases oth x c h with k | k
    · obtain ⟨c1,e1,m1⟩:=own x k
      rw [show (Ze sc X.env s.heap.objs.size).cells.lookup x=some c from h] at e1
      cases e1
      exact fun z=>absurd (Nat.lt_of_lt_of_le (noA b hb) (Nat.le_of_succ_le (ownC x c m1).2)) (by rw [z];exact Nat.lt_irrefl _)
    · obtain ⟨c1,e1,m1⟩:=clo x k
      rw [show (Ze sc X.env s.heap.objs.size).cells.lookup x=some c from h] at e1
      cases e1
      exact (hf b hb).2.2.2.2.1 x c m1
  · have q:=(hf b hb).2.2.2.1
    rcases q with q | q
    · exact I.ok.noex b o e q
    · exact absurd (Nat.lt_of_lt_of_le (Heap.lt_size (I.ok.bs b o e).1) q) (Nat.lt_irrefl _)
  · rcases List.mem_cons.mp (I.stkSub b hq) with z | z
    · exact (hf b hb).2.1 z
    · exact (hf b hb).2.2.1 z
  · -- the names' dict
    refine Heap.Ns.keeps (h:=s.heap.push { cls:=.type "dict",data:=.dict #[] }) ?_ (fun b o e=>pushCells_keeps _ _ _ _ e)
    exact ⟨_,#[],_,Heap.get?_push_size _ rfl,rfl,fun e he=>absurd he (by simp),fun _=>rfl⟩
  · -- what is seen
    have hi:vars.length≤i:=by
      rcases Nat.lt_or_ge i vars.length with z | z
      · exfalso
        unfold lcSt at h2
        rw [List.getElem?_append_left (by simpa using z),List.getElem?_replicate] at h2
        split at h2<;>cases h2
      · exact z
    unfold lcSt at h2
    rw [List.getElem?_append_right (by simpa using hi),List.length_replicate,List.getElem?_map] at h2
    have h1':(vars++sel.map fun j=>X.N.getD j "")[i]? = some x:=h1
    rw [List.getElem?_append_right hi,List.getElem?_map] at h1'
    cases q:sel[i - vars.length]? with
    | none=>rw [q] at h2;cases h2
    | some j=>
      rw [q] at h1' h2
      have e1:X.N.getD j "" = x:=Option.some.inj h1'
      have e2:(σ[j]?).getD none=some v:=Option.some.inj h2
      have hj:∃ y,X.N[j]? = some y∧sc.names.lookup y=some .free:=by
        have:=List.all_eq_true.mp so j (List.mem_of_getElem? q)
        cases z:X.N[j]? with
        | none=>rw [z] at this;cases this
        | some y=>rw [z] at this;exact ⟨y,rfl,of_decide_eq_true this⟩
      obtain ⟨y,hy,hyf⟩:=hj
      have:y=x:=by
        rw [← e1,List.getD_eq_getElem?_getD,hy];rfl
      subst this
      have e3:σ[j]? = some (some v):=by
        cases z:σ[j]? with
        | none=>rw [z] at e2;cases e2
        | some w=>rw [z] at e2;exact congrArg some e2
      obtain ⟨c,k1,k2⟩:=clo y hyf
      have vis:Vis X.env.scope y:=by
        rcases hfree (y,.free) (PySem.mem_of_lookup hyf) with z | z | z
        · exact absurd rfl z
        · exact .inr (.inl z)
        · exact .inr (.inr z)
      obtain ⟨m,hn,hl⟩:=I.loc
      obtain ⟨u,r,l⟩:=hl j y v hy e3 vis
      refine ⟨u,r,?_⟩
      have notloc:X.env.kindOf y≠some .local:=by
        rcases hfree (y,.free) (PySem.mem_of_lookup hyf) with z | z | z
        · exact absurd rfl z
        · show X.env.scope.names.lookup y≠_;rw [z];decide
        · show X.env.scope.names.lookup y≠_;rw [z];decide
      rcases l with ⟨z,_⟩ | ⟨_,c',e',q'⟩
      · exact absurd z notloc
      · rw [k2] at e';cases e'
        have kk:(Ze sc X.env s.heap.objs.size).kindOf y=some .cell∨(Ze sc X.env s.heap.objs.size).kindOf y=some .free:=by
          show (relabel sc X.env).names.lookup y=_∨(relabel sc X.env).names.lookup y=_
          rw [Zfz,hyf]
          simp only [Option.map_some]
          split
          · exact .inl rfl
          · exact .inr rfl
        exact .inr ⟨kk,c,k1,q'.keeps keep⟩
  · rcases oth x c h with k | k
    · obtain ⟨c1,e1,m1⟩:=own x k
      rw [show (Ze sc X.env s.heap.objs.size).cells.lookup x=some c from h] at e1
      cases e1
      exact ⟨none,(ownC x c m1).1⟩
    · obtain ⟨c1,e1,m1⟩:=clo x k
      rw [show (Ze sc X.env s.heap.objs.size).cells.lookup x=some c from h] at e1
      cases e1
      obtain ⟨v,q⟩:=I.cell x c m1
      exact ⟨v,q.keeps keep⟩
  · rcases oth x c h with k | k
    · obtain ⟨c1,e1,m1⟩:=own x k
      rw [show (Ze sc X.env s.heap.objs.size).cells.lookup x=some c from h] at e1
      cases e1
      exact I.hok.fresh (by have:=(ownC x c m1).2;omega)
    · obtain ⟨c1,e1,m1⟩:=clo x k
      rw [show (Ze sc X.env s.heap.objs.size).cells.lookup x=some c from h] at e1
      cases e1
      exact I.freeC x c m1
  · show (lcSt vars.length sel σ).length=(vars++sel.map _).length
    unfold lcSt
    simp
end
def PF (X:Cx) (ifs:List Expr) (t:TT):Prop:=
  ∀ (pins:List (Addr×Obj)) (s:Shared) (σ:St) (H:Hp) (Q:Bool→Hp→Prop),Inv X pins σ H s→t σ H Q→
    wpAny (model X.prog X.w) X.A (forIn ifs true fun c r=>if r=true then do let ok ← isTrue c X.env (eval c X.env);pure (ForInStep.yield ok) else pure (ForInStep.yield r)) (TP X pins σ Q) X.xe s
def tTrue:TT:=fun _ H Q=>Q true H
theorem pf_nil {X:Cx}:PF X [] tTrue:=fun _ _ _ H _ I h=>wpAny_tests_nil ⟨H,I,h⟩
theorem pf_one {X:Cx} {c:Expr} {t:TT} (h:PT X c t):PF X [c] t:=fun pins s σ H Q I q=>wpAny_tests_one (h pins s σ H Q I q)
def lcGo (g:TG) (tf:TT) (te:TE) (J:It) (D:Addr) (Q:Hp→Prop) (W:Nat→Nat→List V→St→Hp→Prop):Prop:=
  ∀ i m ys σ2 H2,W i m ys σ2 H2→H2 D=some (.lst ys)∧((J.stop i H2∧Q H2)∨(J.go i H2∧∀ x H3,J.yld i H2 x H3→g x σ2 H3 fun σ4 H4=>tf σ4 H4 fun b H5=>
    if b=true then te σ4 H5 fun v H6=>H6 D=some (.lst ys)∧ys.length < sizeLine∧∃ m',m' < m∧W (i+1) m' (ys++[v]) σ4 (upd H6 D (.lst (ys++[v]))) else ∃ m',m' < m∧W (i+1) m' ys σ4 H5))
def tLC (wi:TI) (nv:Nat) (sel:List Nat) (g:TG) (tf:TT) (te:TE):TE:=fun σ H Q=>wi σ H fun J H1=>∀ D,H1 D=none→
  ∃ W:Nat→Nat→List V→St→Hp→Prop,(∃ m,W 0 m [] (lcSt nv sel σ) (upd H1 D (.lst [])))∧lcGo g tf te J D (Q (.ref D)) W
section
variable {X:Cx} {pins:List (Addr×Obj)} {σ:St} {H1:Hp} {s2:Shared} {sc:Scope} {vars:List Str} {sel:List Nat} {elt target iter:Expr} {ifs:List Expr} {pos:Pos} {g:TG} {tf:TT} {te:TE}
theorem codeAny_lcLoop {prog:Program} {w:World} {A:Around} {R:Result→Shared→Prop} {s:Shared} {scope:Scope} {it acc:Value} {env:Env} (I:Nat→Shared→Prop)
    (turn:∀ n s,I n s→wpAny (model prog w) A (pyNext it) (fun r s₁=>match r with
      | none=>R (.ok .next) s₁
      | some v=>wpAny (model prog w) A (letOwnedTupleGo target it v) (fun _ s₁'=>wpAny (model prog w) A (assign target env v) (fun _ s₂=>
          wpAny (model prog w) A (forIn ifs true fun c r=>if r=true then do let ok ← isTrue c env (eval c env);pure (ForInStep.yield ok) else pure (ForInStep.yield r)) (fun ok s₃=>
            if ok=true then wpAny (model prog w) A (eval elt env) (fun x s₄=>
              wpAny (model prog w) A (call (.builtin "list.append") [acc,x]) (fun _ s₅=>∃ m,m < n∧I m s₅) (fun _ _=>False) s₄) (fun _ _=>False) s₃
            else ∃ m,m < n∧I m s₃) (fun _ _=>False) s₂) (fun _ _=>False) s₁') (fun _ _=>False) s₁) (fun _ _=>False) s)
    (n:Nat) (h:I n s) :
    codeAny (model prog w) A (.compLoop (.ListComp elt [⟨target,iter,ifs,0⟩] scope pos) 0 it acc env) R s:=by
  refine codeAny_loop rfl I (fun n s hI=>?_) n h
  show wpAny _ A ((compTurn (.ListComp elt [⟨target,iter,ifs,0⟩] scope pos) 0 it acc env).onRaise (fun x=>do noteFrame x env;theTreesLotGoes x)) _ _ s
  refine wpAny_noted ?_
  rw [compTurn_list]
  refine wpAny_bind (wpAny_standAt (wpAny_bind (wpAny_mono (turn n s hI) (fun r s₁ h₁=>?_) fun _ _ h'=>h'.elim)))
  cases r with
  | none=>exact wpAny_pure h₁
  | some v=>
    refine wpAny_bind (wpAny_mono h₁ (fun _ s₁' h₁'=>?_) fun _ _ h'=>h'.elim)
    refine wpAny_bind (wpAny_mono h₁' (fun _ s₂ h₂=>wpAny_bind (wpAny_mono h₂ (fun ok s₃ h₃=>?_) fun _ _ h'=>h'.elim)) fun _ _ h'=>h'.elim)
    cases ok with
    | false=>exact wpAny_pure ⟨rfl,h₃⟩
    | true=>
      exact wpAny_bind (wpAny_bind (wpAny_mono h₃ (fun x s₄ h₄=>wpAny_bind (wpAny_mono h₄ (fun _ s₅ h₅=>wpAny_pure (wpAny_pure ⟨rfl,h₅⟩)) fun _ _ h'=>h'.elim)) fun _ _ h'=>h'.elim))
theorem lc_block {J:It} {fp:List Addr} {it:Addr} {tn:Nat→Heap→Prop} {Q:VK} {E:Value→Shared→Prop} {R:Value→Addr→Result→Shared→Prop} (hc:X.calm=true)
    (hg:∀ s H fp,PG (X.lc sc vars sel s H fp) target g) (hf:∀ s H fp,PF (X.lc sc vars sel s H fp) ifs tf) (he:∀ s H fp,PE (X.lc sc vars sel s H fp) elt te)
    (ok:Zdu sc X.env.scope=true) (so:selOk X.N sc sel=true)
    (I2:Inv X pins σ H1 s2) (T:Turn X.prog X.w X.K target J fp it tn) (st2:tn 0 s2.heap) (f2:∀ b∈fp,FpOk X pins H1 b)
    (q:∀ D,H1 D=none→∃ W:Nat→Nat→List V→St→Hp→Prop,(∃ m,W 0 m [] (lcSt vars.length sel σ) (upd H1 D (.lst [])))∧lcGo g tf te J D (Q (.ref D)) W)
    (hR:∀ D C H' s',Inv X pins σ H' s'→Q (.ref D) H'→(∃ m,s'.heap.Ns C m)→FpOk X pins H' C→R (.ref D) C (.ok .next) s') :
    wpAny (model X.prog X.w) X.A (newList []) (fun acc s₃=>wpAny (model X.prog X.w) X.A (newFunctionEnv sc X.env.globals (clOf X.env.cells sc.names []) [] X.env.qual none .none (some X.env)) (fun cenv s₄=>
      codeAny (model X.prog X.w) X.A (.compStart (.ListComp elt [⟨target,iter,ifs,0⟩] sc pos) 0 (.ref it) acc { cenv with scope:=relabel sc X.env }) (R acc cenv.locals) s₄) E s₃) E s2:=by
  refine wpAny_newObj_type ?_
  have hD0:H1 s2.heap.objs.size=none:=I2.hok.fresh (Nat.le_refl _)
  obtain ⟨W,⟨m0,w0⟩,turn⟩:=q _ hD0
  have I3:Inv X pins σ (upd H1 s2.heap.objs.size (.lst [])) { s2 with heap:=s2.heap.push { cls:=.type "list",data:=.seq ([]:List Value).toArray },toks:=s2.toks }:=I2.lnew (ys:=[]) .nil (Nat.zero_le _)
  have ho2:∀ b∈fp,∃ o,s2.heap.get? b=some o∧∀ v,o.data≠.cell v:=T.obj _ _ st2
  have lt2:∀ b∈fp,b < s2.heap.objs.size:=fun b hb=>by obtain ⟨o,e,_⟩:=ho2 b hb;exact Heap.lt_size e
  have f3:∀ b∈fp,FpOk X pins (upd H1 s2.heap.objs.size (.lst [])) b:=fun b hb=>⟨by rw [upd_ne (Nat.ne_of_lt (lt2 b hb))];exact (f2 b hb).1,(f2 b hb).2⟩
  have ho3:∀ b∈fp,∃ o,(s2.heap.push { cls:=.type "list",data:=.seq ([]:List Value).toArray }).get? b=some o:=fun b hb=>by obtain ⟨o,e,_⟩:=ho2 b hb;exact ⟨o,Heap.get?_push_of_some _ e⟩
  refine wp_lcEnv (s:={ s2 with heap:=s2.heap.push { cls:=.type "list",data:=.seq ([]:List Value).toArray },toks:=s2.toks }) ?_
  generalize hs3:({ s2 with heap:=s2.heap.push { cls:=.type "list",data:=.seq ([]:List Value).toArray },toks:=s2.toks }:Shared)=s3 at I3 ⊢
  have kp23:∀ b o,s2.heap.get? b=some o→s3.heap.get? b=some o:=fun b o e=>by rw [← hs3];exact Heap.get?_push_of_some _ e
  have sz3:s3.heap.objs.size=s2.heap.objs.size+1:=by rw [← hs3];exact Heap.size_push ..
  have os3:s3.os=s2.os:=by rw [← hs3]
  have ho3':∀ b∈fp,∃ o,s3.heap.get? b=some o:=fun b hb=>by rw [← hs3];exact ho3 b hb
  have I4:=inv_lc (vars:=vars) I3 ok so f3 ho3' I2.ok.kind
  have kp4:∀ b o,s3.heap.get? b=some o→(pushCells (s3.heap.push { cls:=.type "dict",data:=.dict #[] }) sc.names).get? b=some o:=fun b o e=>pushCells_keeps _ _ _ _ (Heap.get?_push_of_some _ e)
  have st4:tn 0 (pushCells (s3.heap.push { cls:=.type "dict",data:=.dict #[] }) sc.names):=T.keep _ _ _ st2 fun b hb o e=>kp4 b o (kp23 b o e)
  -- what stays true of the iterator
  have stat:∀ {H':Hp},(∀ b∈fp,H' b=none)→∀ b∈fp,FpOk (X.lc sc vars sel s3 (upd H1 s2.heap.objs.size (.lst [])) fp) [] H' b:=fun {H'} hn b hb=>by
    refine ⟨hn b hb,(I4.ok.exf b hb).1,I4.ok.exfs b hb,.inl hb,fun x c e z=>(I4.ok.exf b hb).2 x c e z,fun p hp=>absurd (show p∈([]:List (Addr×Obj)) from hp) (by simp)⟩
  have loop:codeAny (model X.prog X.w) X.A (.compLoop (.ListComp elt [⟨target,iter,ifs,0⟩] sc pos) 0 (.ref it) (.ref s2.heap.objs.size) (Ze sc X.env s3.heap.objs.size))
      (R (.ref s2.heap.objs.size) s3.heap.objs.size) { s3 with heap:=pushCells (s3.heap.push { cls:=.type "dict",data:=.dict #[] }) sc.names }:=by
    refine codeAny_lcLoop (fun n s'=>∃ i ys σ' H',Inv (X.lc sc vars sel s3 (upd H1 s2.heap.objs.size (.lst [])) fp) [] σ' H' s'∧tn i s'.heap∧(∀ b∈fp,H' b=none)∧W i n ys σ' H') ?_ m0
      ⟨0,[],_,_,I4,st4,fun b hb=>(f3 b hb).1,w0⟩
    rintro n s5 ⟨i,ys,σ5,H5,I5,st5,fr5,w5⟩
    obtain ⟨hD,⟨stop,qn⟩ | ⟨go,step⟩⟩:=turn i n ys σ5 H5 w5
    · refine thn (T.done (X.lc sc vars sel s3 (upd H1 s2.heap.objs.size (.lst [])) fp) rfl rfl rfl hc i [] s5 σ5 H5 _ I5 (stat fr5) st5 stop) fun r s6 ⟨hr,I6⟩=>?_
      subst hr
      have un:Un (frs X.stack) fp H1 H5 s2.heap s6.heap:=by
        have a:Un (frs X.stack) fp H1 (upd H1 s2.heap.objs.size (.lst [])) s2.heap s3.heap:=Un.laid kp23 (Nat.le_refl _) hD0
        exact a.trans I6.base
      have I7:Inv X pins σ H5 s6:=I2.call' (ch:=fp) (I6.os.trans os3) un I6.hok I6.bare fun b hb=>⟨(f2 b hb).2.2.2.1,(f2 b hb).2.1,(f2 b hb).2.2.2.2.1,(f2 b hb).2.2.2.2.2⟩
      refine hR _ _ H5 s6 I7 qn ?_ ?_
      · obtain ⟨m,hn,_⟩:=I6.loc
        exact ⟨m,hn⟩
      · exact I3.fpOk (Nat.le_refl _) I6.free
    · refine thn (T.item (X.lc sc vars sel s3 (upd H1 s2.heap.objs.size (.lst [])) fp) rfl rfl rfl hc i [] s5 σ5 H5 _ I5 (stat fr5) st5 go) fun r s6 ⟨u,hr,h6⟩=>?_
      subst hr
      refine thn h6 fun _ s7 ⟨x,H7,I7,r7,y7,st7,fr7⟩=>?_
      have I7':=I7.pinned (stat fr7) (T.obj _ _ st7)
      refine thn (hg _ _ _ _ s7 σ5 H7 x u _ I7' r7 (step x H7 y7)) fun _ s8 ⟨σ8,H8,I8,q8⟩=>?_
      refine thn (hf _ _ _ _ s8 σ8 H8 _ I8 q8) fun b s9 ⟨H9,I9,q9⟩=>?_
      have back:∀ {σ':St} {H':Hp} {s':Shared},Inv (X.lc sc vars sel s3 (upd H1 s2.heap.objs.size (.lst [])) fp) ([]++pinsAt fp s7.heap) σ' H' s'→tn (i+1) s'.heap∧∀ b∈fp,H' b=none:=fun {σ' H' s'} I'=>by
        refine ⟨T.keep _ _ _ st7 fun b hb o e=>(I'.pin (b,o) (List.mem_append_right _ (List.mem_append_right _ (mem_pinsAt hb e)))).1,fun b hb=>?_⟩
        obtain ⟨o,e,d⟩:=T.obj _ _ st7 b hb
        exact (I'.pin (b,o) (List.mem_append_right _ (List.mem_append_right _ (mem_pinsAt hb e)))).2.1
      cases b with
      | false=>
        rw [if_neg (by decide)] at q9 ⊢
        obtain ⟨m',hm,w9⟩:=q9
        exact ⟨m',hm,i+1,ys,σ8,H9,I9.unpinned,(back I9).1,(back I9).2,w9⟩
      | true=>
        rw [if_pos rfl] at q9 ⊢
        refine thn (he _ _ _ _ s9 σ8 H9 _ I9 q9) fun v sA ⟨y,HA,IA,rA,hDA,hz,m',hm,wA⟩=>?_
        obtain ⟨z,its,nn,rr,hl,e⟩:=IA.lstM hDA
        refine call_meets F.slot_list_append ⟨_,e,rfl⟩ F.entry_list_append (F.args_list_append_2 _ _) (PySem.list_append _ its.toArray nn v (by rw [List.size_toArray];omega)) ⟨e,?_⟩
        have IB:=IA.lset (its':=its++[v]) (f:=(·.push v)) (t':=sA.toks) hDA e (by simp) (rr.append (.cons rA .nil)) (by rw [List.length_append,List.length_singleton];omega)
        exact ⟨m',hm,i+1,ys++[y],σ8,_,IB.unpinned,(back IB).1,(back IB).2,wA⟩
  exact codeAny_compStart_list loop (T.self _ 0 _ _ _ st4 loop)
theorem pe_lc {wi:TI} (vars:List Str) (sel:List Nat) (hc:X.calm=true) (hi:PI X target iter wi)
    (ok:Zdu sc X.env.scope=true) (so:selOk X.N sc sel=true)
    (hg:∀ s H fp,PG (X.lc sc vars sel s H fp) target g) (hf:∀ s H fp,PF (X.lc sc vars sel s H fp) ifs tf) (he:∀ s H fp,PE (X.lc sc vars sel s H fp) elt te)
    (hs:∀ x,foldedSetIterable iter X.env x=pure x:=by intro _;rfl):PE X (.ListComp elt [⟨target,iter,ifs,0⟩] sc pos) (tLC wi vars.length sel g tf te):=by
  intro pins s σ H Q I h
  rw [eval_ListComp]
  have ok':=ok
  simp only [Zdu,Bool.and_eq_true,decide_eq_true_eq] at ok'
  refine wpAny_comprehension_free (use:=none) rfl hs (ZeX (lc_cells I ok)) ok'.1.1 (fun x hx hl=>?_) ?_
  · obtain ⟨n,k⟩:=x
    have hl':k = .local:=hl
    subst hl'
    exact Zez ok'.1.2 hx
  · refine thn (hi pins s σ H _ I h) fun v s1 h1=>thn h1 fun itv s2 h2=>?_
    obtain ⟨it,fp,tn,J,H2,e,I2,T,st2,f2,q⟩:=h2
    subst e
    refine lc_block (Q:=Q) hc hg hf he ok so I2 T st2 f2 q fun D C H' s' I' q' hn fC=>?_
    obtain ⟨m,hn⟩:=hn
    refine ⟨m,hn,fun h' hs'=>?_⟩
    obtain ⟨f0,f1,f2,f3,f4,f5⟩:=fC
    exact ⟨.ref D,H',I'.turned (t':=s'.toks) (fun b o hb e=>(hs'.2 b hb).trans e) f0 f1 f3 f4 f5,rfl,q'⟩
theorem ps_lc {wi:TI} {i:Nat} {x:Str} {pos' spos:Pos} (vars:List Str) (sel:List Nat) (hc:X.calm=true) (hN:X.N.Nodup) (hix:X.N[i]? = some x) (hx:Loc X.env.scope x) (hi:PI X target iter wi)
    (ok:Zdu sc X.env.scope=true) (so:selOk X.N sc sel=true)
    (hg:∀ s H fp,PG (X.lc sc vars sel s H fp) target g) (hf:∀ s H fp,PF (X.lc sc vars sel s H fp) ifs tf) (he:∀ s H fp,PE (X.lc sc vars sel s H fp) elt te)
    (hsw:swapsWith (.ListComp elt [⟨target,iter,ifs,0⟩] sc pos) (some (.Name x pos')) spos.line X.env=pure true)
    (hs:∀ x,foldedSetIterable iter X.env x=pure x:=by intro _;rfl) (hfn:X.fn x=true∨X.env.scope.names.lookup x=some .local:=by first | exact .inl rfl | exact .inr rfl | assumption) :
    PS X (.Assign [.Name x pos'] (.ListComp elt [⟨target,iter,ifs,0⟩] sc pos) spos) (tAsg (tLC wi vars.length sel g tf te) (gName i)):=by
  intro pins s σ H D I h
  rw [exec_Assign_Name_used _ _ _ _ hsw]
  refine wpAny_bind (wpAny_standAt (wpAny_bind ?_))
  show wpAny _ X.A (do let _ ← comprehension (.ListComp elt [⟨target,iter,ifs,0⟩] sc pos) sc X.env _ (newList []) false (eval iter X.env) (some (assign (.Name x pos') X.env))) _ _ s
  have ok':=ok
  simp only [Zdu,Bool.and_eq_true,decide_eq_true_eq] at ok'
  refine wpAny_bind (wpAny_mono (wpAny_comprehension_free (use:=some (assign (.Name x pos') X.env)) (Q:=fun _ s'=>SP X pins D .next s') rfl hs (ZeX (lc_cells I ok)) ok'.1.1 (fun x hx hl=>?_) ?_) (fun _ s' q=>wpAny_pure (wpAny_pure q)) fun _ _ e=>e)
  · obtain ⟨n,k⟩:=x
    have hl':k = .local:=hl
    subst hl'
    exact Zez ok'.1.2 hx
  · refine thn (hi pins s σ H _ I h) fun v s1 h1=>thn h1 fun itv s2 h2=>?_
    obtain ⟨it,fp,tn,J,H2,e,I2,T,st2,f2,q⟩:=h2
    subst e
    refine lc_block (Q:=fun v H'=>gName i v σ H' D.nx) hc hg hf he ok so I2 T st2 f2 q fun D' C H' s' I' q' hn fC=>?_
    obtain ⟨m,hn⟩:=hn
    obtain ⟨f0,f1,f2,f3,f4,f5⟩:=id fC
    refine wpAny_assign_Name (store_ok2 I' hN hix hx (v:=.ref D') rfl (fun s'' I'' ⟨a,sb,ha⟩=>?_) hfn)
    have hCa:C≠a:=by
      rcases ha with z | z
      · rw [z];exact f1
      · exact Ne.symm (f4 x a z)
    refine ⟨m,hn.sameBut sb hCa,fun h' hs'=>?_⟩
    exact ⟨_,H',I''.turned (t':=s''.toks) (fun b o hb e=>(hs'.2 b hb).trans e) f0 f1 f3 f4 f5,q'⟩
end
end L2
namespace LP
open PySem PySem.Spec PyProof.Rows L2
inductive D where
  | non | bl (b:Bool) | int (i:Int) | str (x:Str) | tup (xs:List D) | lst (xs:List D) | dic | pen | cls (n:Str) | exc (n:Str) | ty (n:String) | scr (xs:List D)
structure Wd where
  G:Hp
  Pn:Addr→Prop
def KT (K:PySem.W.Frag) (a:Addr) (vs:List V):Prop:=
  ∃ (o:Obj) (its:Array Value) (n:Nat),K.lookup a=some o∧o.cls = .type "tuple" ∧o.data = .seq its n∧its.size≤sizeLine∧Vals vs its.toList
def ZdP (K:PySem.W.Frag) (n:Str):Option Addr:=match PySem.W.nsIn K mainGlobals n with
  | some (some (.ref a))=>some a
  | _=>none
def xtab:List (Str×Str×Str×Int):=[("NotStrong1", "NotStrong", "size",1),("NotStrong2", "NotStrong", "size",2),("NotStrong3", "NotStrong", "size",3),("NotStrong4", "NotStrong", "size",4),("NotStrong5", "NotStrong", "size",5),("NoText0", "NoText", "row",0),("NoText1", "NoText", "row",1),("NoText2", "NoText", "row",2),("NoText3", "NoText", "row",3),("NoText4", "NoText", "row",4),("NoText5", "NoText", "row",5),("NoText6", "NoText", "row",6),("NoText7", "NoText", "row",7),("NoText8", "NoText", "row",8),("NoText9", "NoText", "row",9),("NoText10", "NoText", "row",10),("NoText11", "NoText", "row",11),("NoText12", "NoText", "row",12),("NoText13", "NoText", "row",13),("NoText14", "NoText", "row",14),("NoText15", "NoText", "row",15)]
def xrow (n:Str):Option (Str×Str×Int):=(xtab.find? fun r=>r.1 == n).map (·.2)
def xnm (n:Str):Str:=match xrow n with
  | some r=>r.1
  | none=>n
def excHO (C a:Addr) (dx:Option Addr):HO:=.ext fun h=>∃ oe,h.get? a=some oe∧oe.cls = .ref C∧PySem.W.notCls oe=true∧oe.dict=dx∧∃ vs,oe.data = .fields vs
def XD (W:Wd) (n:Str) (dx:Option Addr):Prop:=∀ c f k,xrow n=some (c,f,k)→∃ d,dx=some d∧W.G d=some (.xd [(f,.int k)])
theorem XD.none {W:Wd} {n:Str} {dx:Option Addr} (h:xrow n=none):XD W n dx:=fun c f k e=>by rw [h] at e;cases e
theorem XD.mono {W W':Wd} {n:Str} {dx:Option Addr} (g:∀ a o,W.G a=some o→W'.G a=some o) (h:XD W n dx):XD W' n dx:=fun c f k e=>let ⟨d,e1,e2⟩:=h c f k e;⟨d,e1,g _ _ e2⟩
theorem xnm_of {n:Str} (h:xrow n=none):xnm n=n:=by unfold xnm;rw [h]
def KL (K:PySem.W.Frag) (a:Addr) (vs:List V):Prop:=
  ∃ (o:Obj) (its:Array Value) (n:Nat),K.lookup a=some o∧o.cls = .type "list" ∧o.dict=none∧o.data = .seq its n∧its.size≤sizeLine∧Vals vs its.toList
mutual
inductive Rep (K:PySem.W.Frag) (W:Wd):V→D→Prop
  | non:Rep K W .non .non
  | bl (b:Bool):Rep K W (.bl b) (.bl b)
  | int (i:Int):Rep K W (.int i) (.int i)
  | str (x:Str):Rep K W (.str x) (.str x)
  | tup {a:Addr} {vs:List V} {ds:List D}:W.G a=some (.tup vs)→Reps K W vs ds→Rep K W (.ref a) (.tup ds)
  | ktup {a:Addr} {vs:List V} {ds:List D}:KT K a vs→Reps K W vs ds→Rep K W (.ref a) (.tup ds)
  | lst {a:Addr} {vs:List V} {ds:List D}:W.G a=some (.lst vs)→Reps K W vs ds→Rep K W (.ref a) (.lst ds)
  | scr {a:Addr} {vs:List V} {ds:List D}:((∃ o,W.G a=some (.frz o (.lst vs)))∨KL K a vs)→Reps K W vs ds→Rep K W (.ref a) (.scr ds)
  | dic {a:Addr}:W.G a=some (.dK [])→Rep K W (.ref a) .dic
  | pen {a:Addr}:W.Pn a→Rep K W (.ref a) .pen
  | cls {a:Addr} {n:Str}:ZdP K n=some a→Rep K W (.ref a) (.cls n)
  | exc {a C:Addr} {n:Str} {dx:Option Addr}:W.G a=some (excHO C a dx)→ZdP K (xnm n)=some C→XD W n dx→Rep K W (.ref a) (.exc n)
  | ty (n:String):Rep K W (.ty n) (.ty n)
inductive Reps (K:PySem.W.Frag) (W:Wd):List V→List D→Prop
  | nil:Reps K W [] []
  | cons {v:V} {d:D} {vs:List V} {ds:List D}:Rep K W v d→Reps K W vs ds→Reps K W (v::vs) (d::ds)
end
section
variable {K:PySem.W.Frag} {W W':Wd}
mutual
theorem Rep.mono (g:∀ a o,W.G a=some o→W'.G a=some o) (p:∀ a,W.Pn a→W'.Pn a):∀ {v:V} {d:D},Rep K W v d→Rep K W' v d
  | _,_,.non=>.non
  | _,_,.bl b=>.bl b
  | _,_,.int i=>.int i
  | _,_,.str x=>.str x
  | _,_,.tup e r=>.tup (g _ _ e) (Reps.mono g p r)
  | _,_,.ktup e r=>.ktup e (Reps.mono g p r)
  | _,_,.lst e r=>.lst (g _ _ e) (Reps.mono g p r)
  | _,_,.scr e r=>.scr (e.elim (fun ⟨o,z⟩=>.inl ⟨o,g _ _ z⟩) .inr) (Reps.mono g p r)
  | _,_,.dic e=>.dic (g _ _ e)
  | _,_,.pen e=>.pen (p _ e)
  | _,_,.cls e=>.cls e
  | _,_,.exc e h x=>.exc (g _ _ e) h (x.mono g)
  | _,_,.ty n=>.ty n
theorem Reps.mono (g:∀ a o,W.G a=some o→W'.G a=some o) (p:∀ a,W.Pn a→W'.Pn a):∀ {vs:List V} {ds:List D},Reps K W vs ds→Reps K W' vs ds
  | _,_,.nil=>.nil
  | _,_,.cons r t=>.cons (Rep.mono g p r) (Reps.mono g p t)
end
theorem Reps.length:∀ {vs:List V} {ds:List D},Reps K W vs ds→vs.length=ds.length
  | _,_,.nil=>rfl
  | _,_,.cons _ t=>by simp [Reps.length t]
theorem Reps.get:∀ {vs:List V} {ds:List D} {i:Nat} {d:D},Reps K W vs ds→ds[i]? = some d→∃ v,vs[i]? = some v∧Rep K W v d
  | _,_,_,_,.nil,e=>by simp at e
  | _,_,0,_,.cons r _,e=>by simp at e;subst e;exact ⟨_,rfl,r⟩
  | _,_,i+1,d,.cons _ t,e=>by
    obtain ⟨u,h1,h2⟩:=Reps.get (i:=i) (d:=d) t (by simpa using e)
    exact ⟨u,by simpa using h1,h2⟩
theorem Reps.append:∀ {vs us:List V} {ds es:List D},Reps K W vs ds→Reps K W us es→Reps K W (vs++us) (ds++es)
  | _,_,_,_,.nil,s=>s
  | _,_,_,_,.cons r t,s=>.cons r (Reps.append t s)
theorem Reps.take:∀ {vs:List V} {ds:List D} (n:Nat),Reps K W vs ds→Reps K W (vs.take n) (ds.take n)
  | _,_,0,_=>.nil
  | _,_,_+1,.nil=>.nil
  | _,_,n+1,.cons r t=>.cons r (Reps.take n t)
theorem Reps.drop:∀ {vs:List V} {ds:List D} (n:Nat),Reps K W vs ds→Reps K W (vs.drop n) (ds.drop n)
  | _,_,0,r=>r
  | _,_,_+1,.nil=>.nil
  | _,_,n+1,.cons _ t=>Reps.drop n t
theorem Reps.set {v:V} {d:D} (r:Rep K W v d):∀ {vs:List V} {ds:List D} (i:Nat),Reps K W vs ds→Reps K W (vs.set i v) (ds.set i d)
  | _,_,_,.nil=>.nil
  | _,_,0,.cons _ t=>.cons r t
  | _,_,i+1,.cons q t=>.cons q (Reps.set r i t)
theorem Reps.rev {vs:List V} {ds:List D} (r:Reps K W vs ds):Reps K W vs.reverse ds.reverse:=by
  induction vs generalizing ds with
  | nil=>cases r;exact .nil
  | cons v vs ih=>cases r with | cons r t=>rw [List.reverse_cons,List.reverse_cons];exact (ih t).append (.cons r .nil)
theorem Reps.one {us:List V} {d:D} (r:Reps K W us [d]):∃ v,us=[v]∧Rep K W v d:=by
  cases r with | cons r t=>cases t;exact ⟨_,rfl,r⟩
theorem Reps.two {us:List V} {d e:D} (r:Reps K W us [d,e]):∃ v u,us=[v,u]∧Rep K W v d∧Rep K W u e:=by
  cases r with | cons r t=>cases t with | cons r' t=>cases t;exact ⟨_,_,rfl,r,r'⟩
end
def PenOk (H:Hp) (a:Addr):Prop:=∃ i j k:Int,H a=some (.lst [.int i,.int j,.int k])
structure WOk (W:Wd) (H:Hp):Prop where
  g:∀ a o,W.G a=some o→H a=some o
  p:∀ a,W.Pn a→PenOk H a∧W.G a=none
structure Ext (W:Wd) (H:Hp) (W':Wd) (H':Hp):Prop where
  ok:WOk W' H'
  g:∀ a o,W.G a=some o→W'.G a=some o
  p:∀ a,W.Pn a→W'.Pn a
  gf:∀ a,W.G a=none→W'.G a≠none→H a=none
  pf:∀ a,¬ W.Pn a→W'.Pn a→H a=none
  h:∀ a o,H a=some o→¬ W.Pn a→H' a=some o
section
variable {K:PySem.W.Frag} {W W1 W2 W0:Wd} {H H1 H2 H0:Hp}
theorem Ext.refl (ok:WOk W H):Ext W H W H:=⟨ok,fun _ _ e=>e,fun _ e=>e,fun _ e n=>absurd e n,fun _ n e=>absurd e n,fun _ _ e _=>e⟩
theorem PenOk.ne {a:Addr} (p:PenOk H a):H a≠none:=by obtain ⟨_,_,_,e⟩:=p;rw [e];simp
theorem Ext.isN (x:Ext W H W1 H1) {a:Addr} (h:H1 a=none):H a=none:=by
  cases q:H a with
  | none=>rfl
  | some o=>
    by_cases hp:W.Pn a
    · exact absurd h ((x.ok.p a (x.p a hp)).1.ne)
    · rw [x.h a o q hp] at h;cases h
theorem Ext.trans (x:Ext W H W1 H1) (y:Ext W1 H1 W2 H2):Ext W H W2 H2 where
  ok:=y.ok
  g:=fun a o e=>y.g a o (x.g a o e)
  p:=fun a e=>y.p a (x.p a e)
  gf:=fun a e n=>by
    cases q:W1.G a with
    | none=>exact x.isN (y.gf a q n)
    | some o=>exact x.gf a e (by rw [q];simp)
  pf:=fun a e n=>by
    by_cases q:W1.Pn a
    · exact x.pf a e q
    · exact x.isN (y.pf a q n)
  h:=fun a o e n=>y.h a o (x.h a o e n) fun q=>by have:=x.pf a n q;rw [e] at this;cases this
theorem Ext.rep (x:Ext W H W1 H1) {v:V} {d:D} (r:Rep K W v d):Rep K W1 v d:=r.mono x.g x.p
theorem Ext.reps (x:Ext W H W1 H1) {v:List V} {d:List D} (r:Reps K W v d):Reps K W1 v d:=r.mono x.g x.p
def Wd.put (W:Wd) (a:Addr) (o:HO):Wd:=⟨upd W.G a o,W.Pn⟩
theorem Ext.put {a:Addr} {o:HO} (ok:WOk W H) (h:H a=none):Ext W H (W.put a o) (upd H a o) where
  ok:=⟨fun b u e=>by
      unfold Wd.put at e
      dsimp only at e
      by_cases hb:b=a
      · subst hb;rw [upd_same] at e ⊢;exact e
      · rw [upd_ne hb] at e ⊢;exact ok.g b u e,
    fun b hb=>by
      have ⟨p1,p2⟩:=ok.p b hb
      have hne:b≠a:=fun z=>p1.ne (by rw [z];exact h)
      refine ⟨?_,by unfold Wd.put;dsimp only;rw [upd_ne hne];exact p2⟩
      obtain ⟨i,j,k,e⟩:=p1
      exact ⟨i,j,k,by rw [upd_ne hne];exact e⟩⟩
  g:=fun b u e=>by
    have:b≠a:=fun z=>by have:=ok.g b u e;rw [z,h] at this;cases this
    unfold Wd.put;dsimp only;rw [upd_ne this];exact e
  p:=fun b e=>e
  gf:=fun b e n=>by
    by_cases hb:b=a
    · rw [hb];exact h
    · unfold Wd.put at n;dsimp only at n;rw [upd_ne hb] at n;exact absurd e n
  pf:=fun b n e=>absurd e n
  h:=fun b u e _=>by
    have:b≠a:=fun z=>by rw [z,h] at e;cases e
    rw [upd_ne this];exact e
theorem Ext.new {a:Addr} {o:HO} (ok:WOk W H) (h:H a=none):Ext W H W (upd H a o) where
  ok:=⟨fun b u e=>by
      have q:=ok.g b u e
      have:b≠a:=fun z=>by rw [z,h] at q;cases q
      rw [upd_ne this];exact q,
    fun b hb=>by
      have ⟨p1,p2⟩:=ok.p b hb
      have hne:b≠a:=fun z=>p1.ne (by rw [z];exact h)
      obtain ⟨i,j,k,e⟩:=p1
      exact ⟨⟨i,j,k,by rw [upd_ne hne];exact e⟩,p2⟩⟩
  g:=fun _ _ e=>e
  p:=fun _ e=>e
  gf:=fun _ e n=>absurd e n
  pf:=fun _ n e=>absurd e n
  h:=fun b u e _=>by
    have:b≠a:=fun z=>by rw [z,h] at e;cases e
    rw [upd_ne this];exact e
theorem WOk.fresh (ok:WOk W H) {a:Addr} (h:H a=none):W.G a=none∧¬ W.Pn a:=by
  refine ⟨?_,fun p=>(ok.p a p).1.ne h⟩
  cases q:W.G a with
  | none=>rfl
  | some o=>have:=ok.g a o q;rw [h] at this;cases this
theorem Ext.pub {a:Addr} {o:HO} (x:Ext W H W1 H1) (h:H a=none) (e:H1 a=some o) (n:¬ W1.Pn a) (ng:W1.G a=none):Ext W H (W1.put a o) H1 where
  ok:=⟨fun b u q=>by
      unfold Wd.put at q
      by_cases hb:b=a
      · subst hb;dsimp only at q;rw [upd_same] at q;cases q;exact e
      · dsimp only at q;rw [upd_ne hb] at q;exact x.ok.g b u q,
    fun b hb=>by
      have ⟨p1,p2⟩:=x.ok.p b hb
      have hne:b≠a:=fun z=>n (by rw [← z];exact hb)
      exact ⟨p1,by unfold Wd.put;dsimp only;rw [upd_ne hne];exact p2⟩⟩
  g:=fun b u q=>by
    have q1:=x.g b u q
    have:b≠a:=fun z=>by rw [z,ng] at q1;cases q1
    unfold Wd.put;dsimp only;rw [upd_ne this];exact q1
  p:=x.p
  gf:=fun b q m=>by
    by_cases hb:b=a
    · rw [hb];exact h
    · unfold Wd.put at m;dsimp only at m;rw [upd_ne hb] at m;exact x.gf b q m
  pf:=x.pf
  h:=x.h
theorem Zcj {a:Addr} {o:HO} (ng:W.G a=none):∀ b u,W.G b=some u→(W.put a o).G b=some u:=fun b u q=>by
  have:b≠a:=fun z=>by rw [z,ng] at q;cases q
  unfold Wd.put;dsimp only;rw [upd_ne this];exact q
theorem Ext.chg {a:Addr} {o o':HO} (x:Ext W H W1 H1) (h:H a=none) (e:H1 a=some o) (n:¬ W1.Pn a) (ng:W1.G a=none):Ext W H W1 (upd H1 a o') where
  ok:=⟨fun b u q=>by
      have:b≠a:=fun z=>by rw [z,ng] at q;cases q
      rw [upd_ne this];exact x.ok.g b u q,
    fun b hb=>by
      have ⟨p1,p2⟩:=x.ok.p b hb
      have hne:b≠a:=fun z=>n (by rw [← z];exact hb)
      obtain ⟨i,j,k,e⟩:=p1
      exact ⟨⟨i,j,k,by rw [upd_ne hne];exact e⟩,p2⟩⟩
  g:=x.g
  p:=x.p
  gf:=x.gf
  pf:=x.pf
  h:=fun b u q m=>by
    have:b≠a:=fun z=>by rw [z,h] at q;cases q
    rw [upd_ne this];exact x.h b u q m
end
inductive SV where
  | un | d (x:D) | ow (xs:List D) | oo (xss:List (List D))
abbrev Rho:=List SV
def Own1 (K:PySem.W.Frag) (H0:Hp) (W:Wd) (H:Hp) (b:Addr) (xs:List D):Prop:=∃ vs,H b=some (HO.lst vs)∧W.G b=none∧¬ W.Pn b∧H0 b=none∧Reps K W vs xs
structure OwnT (K:PySem.W.Frag) (H0:Hp) (W:Wd) (H:Hp) (a:Addr) (bs:List Addr) (xss:List (List D)):Prop where
  a1:H a=some (HO.lst (bs.map V.ref))
  a2:W.G a=none
  a3:¬ W.Pn a
  a4:H0 a=none
  nd:(a::bs).Nodup
  len:bs.length=xss.length
  row:∀ (i:Nat) b,bs[i]? = some b→∃ xs,xss[i]? = some xs∧Own1 K H0 W H b xs
structure OOs (K:PySem.W.Frag) (H0:Hp) (W:Wd) (σ:L2.St) (H:Hp) (ρ:Rho):Prop where
  t:∀ (i:Nat) xss,ρ[i]? = some (SV.oo xss)→∃ a bs,σ[i]? = some (some (V.ref a))∧OwnT K H0 W H a bs xss∧∀ (j:Nat) ys c,ρ[j]? = some (SV.ow ys)→σ[j]? = some (some (V.ref c))→c∉a::bs
  u:∀ (i j:Nat) xss yss,ρ[i]? = some (SV.oo xss)→ρ[j]? = some (SV.oo yss)→i=j
structure SOk (K:PySem.W.Frag) (W0:Wd) (H0:Hp) (W:Wd) (σ:L2.St) (H:Hp) (ρ:Rho):Prop where
  ext:Ext W0 H0 W H
  len:ρ.length=σ.length
  d:∀ (i:Nat) x,ρ[i]? = some (SV.d x)→∃ v:V,σ[i]? = some (some v)∧Rep K W v x
  o:∀ (i:Nat) xs,ρ[i]? = some (SV.ow xs)→∃ a vs,σ[i]? = some (some (V.ref a))∧H a=some (HO.lst vs)∧W.G a=none∧¬ W.Pn a∧H0 a=none∧Reps K W vs xs
  ne:∀ (i j:Nat) xs ys a,i≠j→ρ[i]? = some (SV.ow xs)→ρ[j]? = some (SV.ow ys)→σ[i]? = some (some (V.ref a))→σ[j]?≠some (some (V.ref a))
  oo:OOs K H0 W σ H ρ
section
variable {K:PySem.W.Frag} {W0 W W1:Wd} {H0 H H1:Hp} {σ:L2.St} {ρ:Rho}
theorem SOk.ok (s:SOk K W0 H0 W σ H ρ):WOk W H:=s.ext.ok
theorem Own1.step {b:Addr} {xs:List D} (o:Own1 K H0 W H b xs) (x:Ext W H W1 H1):Own1 K H0 W1 H1 b xs:=by
  obtain ⟨vs,e2,e3,e4,e5,r⟩:=o
  refine ⟨vs,x.h b _ e2 e4,?_,fun q=>?_,e5,x.reps r⟩
  · cases q:W1.G b with
    | none=>rfl
    | some o=>have:=x.gf b e3 (by rw [q];simp);rw [e2] at this;cases this
  · have:=x.pf b e4 q;rw [e2] at this;cases this
theorem OwnT.step {a:Addr} {bs:List Addr} {xss:List (List D)} (o:OwnT K H0 W H a bs xss) (x:Ext W H W1 H1):OwnT K H0 W1 H1 a bs xss:=by
  refine ⟨x.h a _ o.a1 o.a3,?_,fun q=>?_,o.a4,o.nd,o.len,fun i b e=>let ⟨xs,e1,q⟩:=o.row i b e;⟨xs,e1,q.step x⟩⟩
  · cases q:W1.G a with
    | none=>rfl
    | some u=>have:=x.gf a o.a2 (by rw [q];simp);rw [o.a1] at this;cases this
  · have:=x.pf a o.a3 q;rw [o.a1] at this;cases this
theorem OwnT.here {a c:Addr} {bs:List Addr} {xss:List (List D)} (o:OwnT K H0 W H a bs xss) (h:H c=none):c∉a::bs:=fun q=>by
  rcases List.mem_cons.mp q with rfl | q
  · rw [o.a1] at h;cases h
  · obtain ⟨i,hi,rfl⟩:=List.mem_iff_getElem.mp q
    obtain ⟨xs,_,vs,e,_⟩:=o.row i _ (List.getElem?_eq_getElem hi)
    rw [e] at h;cases h
theorem OwnT.noPen {a c:Addr} {bs:List Addr} {xss:List (List D)} (o:OwnT K H0 W H a bs xss) (h:W.Pn c):c∉a::bs:=fun q=>by
  rcases List.mem_cons.mp q with rfl | q
  · exact o.a3 h
  · obtain ⟨i,hi,rfl⟩:=List.mem_iff_getElem.mp q
    obtain ⟨xs,_,vs,_,_,e,_⟩:=o.row i _ (List.getElem?_eq_getElem hi)
    exact e h
theorem OwnT.upd {a c:Addr} {o':HO} {bs:List Addr} {xss:List (List D)} (o:OwnT K H0 W H a bs xss) (h:c∉a::bs):OwnT K H0 W (upd H c o') a bs xss:=by
  have ha:a≠c:=fun z=>h (by rw [z];simp)
  refine ⟨by rw [upd_ne ha];exact o.a1,o.a2,o.a3,o.a4,o.nd,o.len,fun i b e=>?_⟩
  obtain ⟨xs,e1,vs,q⟩:=o.row i b e
  have hb:b≠c:=fun z=>h (by rw [← z];exact List.mem_cons_of_mem _ (List.mem_of_getElem? e))
  exact ⟨xs,e1,vs,by rw [upd_ne hb];exact q⟩
theorem OwnT.put {a c:Addr} {o':HO} {bs:List Addr} {xss:List (List D)} (o:OwnT K H0 W H a bs xss) (h:c∉a::bs) (hc:W.G c=none):OwnT K H0 (W.put c o') H a bs xss:=by
  have ha:a≠c:=fun z=>h (by rw [z];simp)
  refine ⟨o.a1,by unfold Wd.put;dsimp only;rw [upd_ne ha];exact o.a2,o.a3,o.a4,o.nd,o.len,fun i b e=>?_⟩
  obtain ⟨xs,e1,vs,q1,q2,q3,q4,q5⟩:=o.row i b e
  have hb:b≠c:=fun z=>h (by rw [← z];exact List.mem_cons_of_mem _ (List.mem_of_getElem? e))
  exact ⟨xs,e1,vs,q1,by unfold Wd.put;dsimp only;rw [upd_ne hb];exact q2,q3,q4,q5.mono (Zcj hc) fun _ z=>z⟩
theorem OOs.none (h:∀ (i:Nat) xss,ρ[i]?≠some (SV.oo xss)):OOs K H0 W σ H ρ:=⟨fun i xss e=>absurd e (h i xss),fun i j xss yss e=>absurd e (h i xss)⟩
theorem OOs.step (o:OOs K H0 W σ H ρ) (x:Ext W H W1 H1):OOs K H0 W1 σ H1 ρ:=⟨fun i xss e=>let ⟨a,bs,e1,q,n⟩:=o.t i xss e;⟨a,bs,e1,q.step x,n⟩,o.u⟩
theorem OOs.set {σ':L2.St} (o:OOs K H0 W σ H ρ) {i:Nat} {y:SV} (hy:∀ xss,y≠.oo xss) (hσ:∀ j,i≠j→σ'[j]? = σ[j]?) (hw:∀ ys c,y = .ow ys→σ'[i]? = some (some (V.ref c))→∀ (j:Nat) xss a bs,i≠j→ρ[j]? = some (SV.oo xss)→σ[j]? = some (some (V.ref a))→OwnT K H0 W H a bs xss→(∀ (j:Nat) ys c,ρ[j]? = some (SV.ow ys)→σ[j]? = some (some (V.ref c))→c∉a::bs)→c∉a::bs):OOs K H0 W σ' H (ρ.set i y):=by
  have nt:∀ {j:Nat} {xss:List (List D)},(ρ.set i y)[j]? = some (SV.oo xss)→i≠j∧ρ[j]? = some (SV.oo xss):=fun {j xss} e=>by
    by_cases h:i=j
    · subst h
      by_cases hi:i < ρ.length
      · rw [List.getElem?_set_self hi] at e;cases e;exact absurd rfl (hy xss)
      · rw [List.getElem?_eq_none (by rw [List.length_set];omega)] at e;cases e
    · rw [List.getElem?_set_ne h] at e;exact ⟨h,e⟩
  refine ⟨fun j xss e=>?_,fun j k xss yss e1 e2=>o.u j k xss yss (nt e1).2 (nt e2).2⟩
  obtain ⟨h,e'⟩:=nt e
  clear e
  obtain ⟨a,bs,e1,q,n⟩:=o.t j xss e'
  refine ⟨a,bs,by rw [hσ j h];exact e1,q,fun k ys c ek ec=>?_⟩
  by_cases hk:i=k
  · subst hk
    by_cases hi:i < ρ.length
    · rw [List.getElem?_set_self hi] at ek;cases ek;exact hw ys c rfl ec j xss a bs h e' e1 q n
    · rw [List.getElem?_eq_none (by rw [List.length_set];omega)] at ek;cases ek
  · rw [List.getElem?_set_ne hk] at ek
    rw [hσ k hk] at ec
    exact n k ys c ek ec
theorem SOk.step (s:SOk K W0 H0 W σ H ρ) (x:Ext W H W1 H1):SOk K W0 H0 W1 σ H1 ρ where
  ext:=s.ext.trans x
  len:=s.len
  d:=fun i y e=>let ⟨v,e1,r⟩:=s.d i y e;⟨v,e1,x.rep r⟩
  o:=fun i ys e=>by
    obtain ⟨a,vs,e1,e2,e3,e4,e5,r⟩:=s.o i ys e
    refine ⟨a,vs,e1,x.h a _ e2 e4,?_,fun q=>?_,e5,x.reps r⟩
    · cases q:W1.G a with
      | none=>rfl
      | some o=>have:=x.gf a e3 (by rw [q];simp);rw [e2] at this;cases this
    · have:=x.pf a e4 q;rw [e2] at this;cases this
  ne:=s.ne
  oo:=s.oo.step x
end
abbrev Ex:=Str
def ExRep (K:PySem.W.Frag) (W:Wd) (_:Hp) (cls:Value) (dx:Option Addr) (ex:Ex):Prop:=∃ C,ZdP K (xnm ex)=some C∧cls = .ref C∧XD W ex dx
def EOk (K:PySem.W.Frag) (W0:Wd) (H0:Hp) (E:Ex→Prop) (EX:XK):Prop:=∀ ex W' H' cls dx,E ex→Ext W0 H0 W' H'→ExRep K W' H' cls dx ex→EX cls dx H'
abbrev WE:=(Ex→Prop)→Rho→(D→Prop)→Prop
abbrev WT:=(Ex→Prop)→Rho→(Bool→Prop)→Prop
abbrev WA:=(Ex→Prop)→Rho→(List D→Prop)→Prop
def RQ (K:PySem.W.Frag) (W:Wd) (H:Hp) (Q:VK) (d:D):Prop:=∀ v W' H',Ext W H W' H'→Rep K W' v d→Q v H'
structure PX (X:Cx) (EX:XK) (e:Expr) (w:WE):Prop where
  t:∃ t,PE X e t∧∀ W0 H0 W σ H ρ E Q,SOk X.K W0 H0 W σ H ρ→EOk X.K W0 H0 E EX→w E ρ (RQ X.K W H Q)→t σ H Q
  mono:∀ E ρ P P',(∀ d,P d→P' d)→w E ρ P→w E ρ P'
structure PXT (X:Cx) (EX:XK) (e:Expr) (w:WT):Prop where
  t:∃ t,PT X e t∧∀ W0 H0 W σ H ρ E Q,SOk X.K W0 H0 W σ H ρ→EOk X.K W0 H0 E EX→w E ρ (fun b=>∀ W' H',Ext W H W' H'→Q b H')→t σ H Q
  mono:∀ E ρ P P',(∀ d,P d→P' d)→w E ρ P→w E ρ P'
structure PXA (X:Cx) (EX:XK) (es:List Expr) (w:WA):Prop where
  t:∃ t,PA X es t∧∀ W0 H0 W σ H ρ E Q,SOk X.K W0 H0 W σ H ρ→EOk X.K W0 H0 E EX→w E ρ (fun ds=>∀ vs W' H',Ext W H W' H'→Reps X.K W' vs ds→Q vs H')→t σ H Q
  mono:∀ E ρ P P',(∀ d,P d→P' d)→w E ρ P→w E ρ P'
structure PXL (X:Cx) (EX:XK) (e:Expr) (w:WA):Prop where
  t:∃ t,PE X e t∧∀ W0 H0 W σ H ρ E Q,SOk X.K W0 H0 W σ H ρ→EOk X.K W0 H0 E EX→
    w E ρ (fun ds=>∀ a vs W' H',Ext W H W' H'→H' a=some (.lst vs)→W'.G a=none→¬ W'.Pn a→H a=none→Reps X.K W' vs ds→Q (.ref a) H')→t σ H Q
  mono:∀ E ρ P P',(∀ d,P d→P' d)→w E ρ P→w E ρ P'
structure Nds where
  nx:Rho→Prop
  rt:D→Prop
  bk:Rho→Prop:=fun _=>False
  ct:Rho→Prop:=fun _=>False
structure Wle (F W:Wd):Prop where
  g:∀ a o,F.G a=some o→W.G a=some o
  p:∀ a,F.Pn a→W.Pn a
theorem Wle.refl (F:Wd):Wle F F:=⟨fun _ _ e=>e,fun _ e=>e⟩
theorem Wle.trans {F W V:Wd} (a:Wle F W) (b:Wle W V):Wle F V:=⟨fun x o e=>b.g x o (a.g x o e),fun x e=>b.p x (a.p x e)⟩
theorem Wle.ext {F W W1:Wd} {H H1:Hp} (a:Wle F W) (x:Ext W H W1 H1):Wle F W1:=a.trans ⟨x.g,x.p⟩
structure NOk (K:PySem.W.Frag) (W0:Wd) (H0:Hp) (F:Wd) (Dn:Ends) (N:Nds):Prop where
  nx:∀ W σ H ρ,SOk K W0 H0 W σ H ρ→Wle F W→N.nx ρ→Dn.nx σ H
  rt:∀ d v W H,Ext W0 H0 W H→Rep K W v d→N.rt d→Dn.rt v H
  bk:∀ W σ H ρ,SOk K W0 H0 W σ H ρ→Wle F W→N.bk ρ→Dn.bk σ H
  ct:∀ W σ H ρ,SOk K W0 H0 W σ H ρ→Wle F W→N.ct ρ→Dn.ct σ H
structure Nds.le (N N':Nds):Prop where
  nx:∀ ρ,N.nx ρ→N'.nx ρ
  rt:∀ d,N.rt d→N'.rt d
  bk:∀ ρ,N.bk ρ→N'.bk ρ
  ct:∀ ρ,N.ct ρ→N'.ct ρ
theorem Nds.le.refl (N:Nds):N.le N:=⟨fun _ h=>h,fun _ h=>h,fun _ h=>h,fun _ h=>h⟩
abbrev WS:=(Ex→Prop)→Nds→Rho→Prop
structure PZ (X:Cx) (EX:XK) (st:Stmt) (z:WS):Prop where
  t:∃ t,PS X st t∧∀ W0 H0 F W σ H ρ E Dn N,SOk X.K W0 H0 W σ H ρ→Wle F W→EOk X.K W0 H0 E EX→NOk X.K W0 H0 F Dn N→z E N ρ→t Dn σ H
  mono:∀ E ρ N N',N.le N'→z E N ρ→z E N' ρ
structure PZs (X:Cx) (EX:XK) (st:List Stmt) (z:WS):Prop where
  t:∃ t,PSs X st t∧∀ W0 H0 F W σ H ρ E Dn N,SOk X.K W0 H0 W σ H ρ→Wle F W→EOk X.K W0 H0 E EX→NOk X.K W0 H0 F Dn N→z E N ρ→t Dn σ H
  mono:∀ E ρ N N',N.le N'→z E N ρ→z E N' ρ
section
variable {K:PySem.W.Frag} {W W1:Wd} {H H1:Hp} {Q:VK} {d:D}
theorem RQ.ext (h:RQ K W H Q d) (x:Ext W H W1 H1):RQ K W1 H1 Q d:=fun v W' H' y r=>h v W' H' (x.trans y) r
theorem RQ.now (h:RQ K W H Q d) (ok:WOk W H) {v:V} (r:Rep K W v d):Q v H:=h v W H (.refl ok) r
theorem RQ.tup {vs:List V} {ds:List D} (h:RQ K W H Q (.tup ds)) (ok:WOk W H) (r:Reps K W vs ds) {p:Addr} (hp:H p=none):Q (.ref p) (upd H p (.tup vs)):=by
  have x:=Ext.put (o:=.tup vs) ok hp
  exact h _ _ _ x (.tup (by unfold Wd.put;dsimp only;rw [upd_same]) (x.reps r))
theorem RQ.lst {vs:List V} {ds:List D} (h:RQ K W H Q (.lst ds)) (ok:WOk W H) (r:Reps K W vs ds) {p:Addr} (hp:H p=none):Q (.ref p) (upd H p (.lst vs)):=by
  have x:=Ext.put (o:=.lst vs) ok hp
  exact h _ _ _ x (.lst (by unfold Wd.put;dsimp only;rw [upd_same]) (x.reps r))
theorem Rep.sqt {a:V} {ds:List D} (r:Rep K W a (.tup ds)) (ok:WOk W H):∃ p vs,a = .ref p∧SqT K H p vs∧Reps K W vs ds:=by
  cases r with
  | tup e r=>exact ⟨_,_,rfl,.inl (.inl (ok.g _ _ e)),r⟩
  | ktup e r=>exact ⟨_,_,rfl,.inr e,r⟩
theorem Rd.up {a:Addr} {u:HO} (r:Rd W.G a u) (ok:WOk W H):Rd H a u:=r.elim (fun z=>.inl (ok.g _ _ z)) fun ⟨o,z⟩=>.inr ⟨o,ok.g _ _ z⟩
theorem Rep.sql {a:V} {ds:List D} (r:Rep K W a (.lst ds)) (ok:WOk W H):∃ p vs,a = .ref p∧SqL K H p vs∧Reps K W vs ds:=by
  cases r with
  | lst e r=>exact ⟨_,_,rfl,.inl (.inl (ok.g _ _ e)),r⟩
theorem Rep.sqs {a:V} {ds:List D} (r:Rep K W a (.scr ds)) (ok:WOk W H):∃ p vs,a = .ref p∧SqL K H p vs∧Reps K W vs ds:=by
  cases r with
  | scr e r=>exact ⟨_,_,rfl,e.elim (fun ⟨o,e⟩=>.inl (.inr ⟨o,ok.g _ _ e⟩)) .inr,r⟩
end
section
variable {X:Cx} {EX:XK} {pos:Pos}
def wN (i:Nat):WE:=fun _ ρ Q=>match ρ[i]? with
  | some (.d x)=>Q x
  | _=>False
theorem Zac (i:Nat) {x:Str} (hN:X.N[i]? = some x:=by rfl) (hv:Vis X.env.scope x:=by first | exact Or.inl rfl | exact Or.inr (Or.inl rfl) | exact Or.inr (Or.inr rfl)) (hd:(x == ("__debug__" : Str))=false:=by decide)
    (hcd:(x == ("__classdict__" : Str))=false:=by decide):PX X EX (.Name x pos) (wN i):=by
  refine ⟨⟨_,pe_var hN hv hd hcd,fun W0 H0 W σ H ρ E Q s _ h=>?_⟩,fun E ρ P P' hp h=>?_⟩
  · unfold wN at h
    split at h
    · rename_i x e
      obtain ⟨v,e1,r⟩:=s.d i x e
      exact ⟨v,e1,h.now s.ok r⟩
    · exact h.elim
  · unfold wN at h ⊢
    split at h
    · exact hp _ h
    · exact h.elim
def wC (d:D):WE:=fun _ _ Q=>Q d
theorem wC.mono {d:D}:∀ (E:Ex→Prop) ρ P P',(∀ d,P d→P' d)→wC d E ρ P→wC d E ρ P':=fun _ _ _ _ hp h=>hp _ h
theorem Zad {i j}:PX X EX (.Constant (.int i) j pos) (wC (.int i)):=⟨⟨_,pe_int,fun _ _ _ _ _ _ _ _ s _ h=>RQ.now h s.ok (.int i)⟩,wC.mono⟩
theorem ZcI {b j}:PX X EX (.Constant (.bool b) j pos) (wC (.bl b)):=⟨⟨_,pe_bl,fun _ _ _ _ _ _ _ _ s _ h=>RQ.now h s.ok (.bl b)⟩,wC.mono⟩
theorem ZeM {j}:PX X EX (.Constant .none j pos) (wC .non):=⟨⟨_,pe_non,fun _ _ _ _ _ _ _ _ s _ h=>RQ.now h s.ok .non⟩,wC.mono⟩
theorem ZcB {x j}:PX X EX (.Constant (.str x) j pos) (wC (.str x)):=⟨⟨_,pe_str,fun _ _ _ _ _ _ _ _ s _ h=>RQ.now h s.ok (.str x)⟩,wC.mono⟩
theorem px_glob {x:Str} {v:V} {d:D} {u:Value} (hm:X.mg x=some u) (r:RelV v u) (rd:∀ W,Rep X.K W v d) (hg:Gl X x:=by rfl) (hd:(x == ("__debug__" : Str))=false:=by decide):PX X EX (.Name x pos) (wC d):=
  ⟨⟨_,pe_glob hg hm r hd,fun _ _ _ _ _ _ _ _ s _ h=>RQ.now h s.ok (rd _)⟩,wC.mono⟩
theorem px_bltn {x:Str} {v:V} {d:D} {u:Value} (hm:X.mg x=none) (hv:bootBuiltins x=some u) (r:RelV v u) (rd:∀ W,Rep X.K W v d) (hg:Gl X x:=by rfl) (hn:x≠ "__name__" :=by decide) (hd:(x == ("__debug__" : Str))=false:=by decide):PX X EX (.Name x pos) (wC d):=
  ⟨⟨_,pe_bltn hg hm hv r hn hd,fun _ _ _ _ _ _ _ _ s _ h=>RQ.now h s.ok (rd _)⟩,wC.mono⟩
end
abbrev G2:=D→D→(D→Prop)→Prop
structure OpP (X:Cx) (f:Value→Value→Sem Value) (g:G2):Prop where
  t:∃ r,OpR X f r∧∀ W H x y dx dy Q,WOk W H→Rep X.K W x dx→Rep X.K W y dy→g dx dy (RQ X.K W H Q)→r x y H Q
  mono:∀ x y P P',(∀ d,P d→P' d)→g x y P→g x y P'
section
variable {X:Cx} {EX:XK} {pos:Pos} {a b c:Expr} {wa wb wc:WE}
def w2 (g:G2) (wa wb:WE):WE:=fun E ρ Q=>wa E ρ fun x=>wb E ρ fun y=>g x y Q
theorem w2.mono {g:G2} (ha:PX X EX a wa) (hb:PX X EX b wb) (hg:∀ x y P P',(∀ d,P d→P' d)→g x y P→g x y P'):∀ E ρ P P',(∀ d,P d→P' d)→w2 g wa wb E ρ P→w2 g wa wb E ρ P':=
  fun E ρ P P' hp h=>ha.mono E ρ _ _ (fun x hx=>hb.mono E ρ _ _ (fun y hy=>hg x y _ _ hp hy) hx) h
theorem seq2 {ta tb:TE} {R:V→V→Hp→Prop} {G:D→D→Prop} {W0 W:Wd} {H0 H:Hp} {σ:L2.St} {ρ:Rho} {E:Ex→Prop} (hma:∀ E ρ P P',(∀ d,P d→P' d)→wa E ρ P→wa E ρ P') (hmb:∀ E ρ P P',(∀ d,P d→P' d)→wb E ρ P→wb E ρ P')
    (ka:∀ W0 H0 W σ H ρ E Q,SOk X.K W0 H0 W σ H ρ→EOk X.K W0 H0 E EX→wa E ρ (RQ X.K W H Q)→ta σ H Q) (kb:∀ W0 H0 W σ H ρ E Q,SOk X.K W0 H0 W σ H ρ→EOk X.K W0 H0 E EX→wb E ρ (RQ X.K W H Q)→tb σ H Q)
    (s:SOk X.K W0 H0 W σ H ρ) (eo:EOk X.K W0 H0 E EX) (h:wa E ρ fun x=>wb E ρ fun y=>G x y)
    (k:∀ W2 H2 x y dx dy,Ext W H W2 H2→Rep X.K W2 x dx→Rep X.K W2 y dy→G dx dy→R x y H2):ta σ H fun x H1=>tb σ H1 fun y H2=>R x y H2:=
  ka W0 H0 W σ H ρ E _ s eo (hma E ρ _ _ (fun dx hx v W1 H1 x1 r1=>kb W0 H0 W1 σ H1 ρ E _ (s.step x1) eo (hmb E ρ _ _ (fun dy hy u W2 H2 x2 r2=>k W2 H2 v u dx dy (x1.trans x2) (x2.rep r1) r2 hy) hx)) h)
theorem Zai {op:Operator} {g:G2} (ho:OpP X (binaryOp op) g) (ha:PX X EX a wa) (hb:PX X EX b wb):PX X EX (.BinOp a op b pos) (w2 g wa wb):=by
  obtain ⟨ta,pa,ka⟩:=ha.t
  obtain ⟨tb,pb,kb⟩:=hb.t
  obtain ⟨r,pr,kr⟩:=ho.t
  refine ⟨⟨_,pe_op pr pa pb,fun W0 H0 W σ H ρ E Q s eo h=>?_⟩,w2.mono ha hb ho.mono⟩
  exact seq2 ha.mono hb.mono ka kb s eo h fun W2 H2 x y dx dy x2 rx ry hg=>kr W2 H2 x y dx dy Q x2.ok rx ry (ho.mono _ _ _ _ (fun d hd=>RQ.ext hd x2) hg)
theorem Zch {op:CmpOp} {g:G2} (ho:OpP X (compareOp op) g) (ha:PX X EX a wa) (hb:PX X EX b wb) (hm:behindInMarks op b=false:=by first | exact nomark _ | with_unfolding_all rfl):PX X EX (.Compare a [op] [b] pos) (w2 g wa wb):=by
  obtain ⟨ta,pa,ka⟩:=ha.t
  obtain ⟨tb,pb,kb⟩:=hb.t
  obtain ⟨r,pr,kr⟩:=ho.t
  refine ⟨⟨_,pe_cmpR pr pa pb hm,fun W0 H0 W σ H ρ E Q s eo h=>?_⟩,w2.mono ha hb ho.mono⟩
  exact seq2 ha.mono hb.mono ka kb s eo h fun W2 H2 x y dx dy x2 rx ry hg=>kr W2 H2 x y dx dy Q x2.ok rx ry (ho.mono _ _ _ _ (fun d hd=>RQ.ext hd x2) hg)
def isB (Q:Bool→Prop):D→Prop
  | .bl b=>Q b
  | _=>False
theorem isB.mono {Q Q':Bool→Prop} (h:∀ b,Q b→Q' b):∀ d,isB Q d→isB Q' d
  | .bl b,z=>h b z
  | .non,z=>z | .int _,z=>z | .str _,z=>z | .tup _,z=>z | .lst _,z=>z | .dic,z=>z | .pen,z=>z | .cls _,z=>z | .exc _,z=>z | .ty _,z=>z | .scr _,z=>z
def wT (w:WE):WT:=fun E ρ Q=>w E ρ (isB Q)
theorem ZeA {Q:Bool→Prop} {d:D} (h:isB Q d):∃ b,d = .bl b∧Q b:=by
  cases d with
  | bl b=>exact ⟨b,rfl,h⟩
  | _=>exact h.elim
theorem wT.mono {w:WE} (h:∀ E ρ P P',(∀ d,P d→P' d)→w E ρ P→w E ρ P'):∀ E ρ P P',(∀ d,P d→P' d)→wT w E ρ P→wT w E ρ P':=fun E ρ _ _ hp z=>h E ρ _ _ (isB.mono hp) z
theorem Zaw {op:CmpOp} {g:G2} (ho:OpP X (compareOp op) g) (ha:PX X EX a wa) (hb:PX X EX b wb) (hm:behindInMarks op b=false:=by first | exact nomark _ | with_unfolding_all rfl):PXT X EX (.Compare a [op] [b] pos) (wT (w2 g wa wb)):=by
  obtain ⟨ta,pa,ka⟩:=ha.t
  obtain ⟨tb,pb,kb⟩:=hb.t
  obtain ⟨r,pr,kr⟩:=ho.t
  refine ⟨⟨_,pt_cmpR pr pa pb hm,fun W0 H0 W σ H ρ E Q s eo h=>?_⟩,wT.mono (w2.mono ha hb ho.mono)⟩
  refine seq2 ha.mono hb.mono ka kb s eo h fun W2 H2 x y dx dy x2 rx ry hg=>kr W2 H2 x y dx dy _ x2.ok rx ry (ho.mono _ _ _ _ (fun d hd v W' H' x' r'=>?_) hg)
  obtain ⟨b,rfl,q⟩:=ZeA hd
  cases r'
  exact ⟨b,rfl,q W' H' (x2.trans x')⟩
theorem ZaK (ha:PX X EX a wa) (he:∀ whole,isTrue a X.env whole=(do let v ← whole;standAt a.pos;holding [v] (truthy v)):=by intro _;rfl):PXT X EX a (wT wa):=by
  obtain ⟨ta,pa,ka⟩:=ha.t
  refine ⟨⟨_,pt_truth pa he,fun W0 H0 W σ H ρ E Q s eo h=>?_⟩,wT.mono ha.mono⟩
  refine ka W0 H0 W σ H ρ E _ s eo (ha.mono _ _ _ _ (fun d hd v W' H' x' r'=>?_) h)
  obtain ⟨b,rfl,q⟩:=ZeA hd
  cases r'
  exact ⟨b,rfl,q W' H' x'⟩
def wNot (w:WT):WT:=fun E ρ Q=>w E ρ fun b=>Q (!b)
theorem ZaI {w:WT} (ha:PXT X EX a w):PXT X EX (.UnaryOp .Not a pos) (wNot w):=by
  obtain ⟨ta,pa,ka⟩:=ha.t
  refine ⟨⟨_,pt_not pa,fun W0 H0 W σ H ρ E Q s eo h=>?_⟩,fun E ρ P P' hp h=>ha.mono _ _ _ _ (fun b hb=>hp _ hb) h⟩
  exact ka W0 H0 W σ H ρ E _ s eo h
structure PXW (X:Cx) (EX:XK) (e:Expr) (w:WT):Prop where
  t:∃ t,PW X e t∧∀ W0 H0 W σ H ρ E Q,SOk X.K W0 H0 W σ H ρ→EOk X.K W0 H0 E EX→w E ρ (fun b=>∀ W' H',Ext W H W' H'→Q b H')→t σ H Q
  mono:∀ E ρ P P',(∀ d,P d→P' d)→w E ρ P→w E ρ P'
theorem PXW.pxt {w:WT} (h:PXW X EX a w):PXT X EX a w:=let ⟨t,p,k⟩:=h.t;⟨⟨t,p.pt,k⟩,h.mono⟩
variable {rest:List Expr}
def wAnd (w w':WT):WT:=fun E ρ Q=>w E ρ fun b=>if b=true then w' E ρ Q else Q false
def wOr (w w':WT):WT:=fun E ρ Q=>w E ρ fun b=>if b=true then Q true else w' E ρ Q
theorem pxw_and1 {w:WT} (ha:PXT X EX a w):PXW X EX (.BoolOp .And [a] pos) w:=let ⟨t,p,k⟩:=ha.t;⟨⟨t,pw_and1 p,k⟩,ha.mono⟩
theorem Zcz {w:WT} (ha:PXT X EX a w):PXW X EX (.BoolOp .Or [a] pos) w:=let ⟨t,p,k⟩:=ha.t;⟨⟨t,pw_or1 p,k⟩,ha.mono⟩
theorem pxw_and {w w':WT} (ha:PXT X EX a w) (hb:PXW X EX (.BoolOp .And (b::rest) pos) w'):PXW X EX (.BoolOp .And (a::b::rest) pos) (wAnd w w'):=by
  obtain ⟨ta,pa,ka⟩:=ha.t
  obtain ⟨tb,pb,kb⟩:=hb.t
  refine ⟨⟨_,pw_and pa pb,fun W0 H0 W σ H ρ E Q s eo h=>?_⟩,fun E ρ P P' hp h=>ha.mono _ _ _ _ (fun b hb'=>?_) h⟩
  · refine ka W0 H0 W σ H ρ E _ s eo (ha.mono _ _ _ _ (fun b hb' W1 H1 x1=>?_) h)
    cases b with
    | true=>
      rw [if_pos rfl] at hb' ⊢
      exact kb W0 H0 W1 σ H1 ρ E _ (s.step x1) eo (hb.mono _ _ _ _ (fun b hq W' H' x'=>hq W' H' (x1.trans x')) hb')
    | false=>rw [if_neg (by decide)] at hb' ⊢;exact hb' W1 H1 x1
  · cases b with
    | true=>rw [if_pos rfl] at hb' ⊢;exact hb.mono _ _ _ _ hp hb'
    | false=>rw [if_neg (by decide)] at hb' ⊢;exact hp _ hb'
theorem ZcA {w w':WT} (ha:PXT X EX a w) (hb:PXW X EX (.BoolOp .Or (b::rest) pos) w'):PXW X EX (.BoolOp .Or (a::b::rest) pos) (wOr w w'):=by
  obtain ⟨ta,pa,ka⟩:=ha.t
  obtain ⟨tb,pb,kb⟩:=hb.t
  refine ⟨⟨_,pw_or pa pb,fun W0 H0 W σ H ρ E Q s eo h=>?_⟩,fun E ρ P P' hp h=>ha.mono _ _ _ _ (fun b hb'=>?_) h⟩
  · refine ka W0 H0 W σ H ρ E _ s eo (ha.mono _ _ _ _ (fun b hb' W1 H1 x1=>?_) h)
    cases b with
    | true=>rw [if_pos rfl] at hb' ⊢;exact hb' W1 H1 x1
    | false=>
      rw [if_neg (by decide)] at hb' ⊢
      exact kb W0 H0 W1 σ H1 ρ E _ (s.step x1) eo (hb.mono _ _ _ _ (fun b hq W' H' x'=>hq W' H' (x1.trans x')) hb')
  · cases b with
    | true=>rw [if_pos rfl] at hb' ⊢;exact hp _ hb'
    | false=>rw [if_neg (by decide)] at hb' ⊢;exact hb.mono _ _ _ _ hp hb'
end
section
variable {X:Cx} {EX:XK} {pos p:Pos} {a b c:Expr} {wa wb wc:WE} {rest es:List Expr} {e:Expr} {x:Str}
def Zbh (wa wb:WE):WE:=fun E ρ Q=>wa E ρ (isB fun b=>if b=true then wb E ρ Q else Q (.bl false))
def wOrV (wa wb:WE):WE:=fun E ρ Q=>wa E ρ (isB fun b=>if b=true then Q (.bl true) else wb E ρ Q)
def ZdA (wa:WE):WE:=fun E ρ Q=>wa E ρ (isB fun b=>Q (.bl (!b)))
theorem ZeL {op} (h:PX X EX a wa):PX X EX (.BoolOp op [a] pos) wa:=let ⟨t,q,k⟩:=h.t;⟨⟨t,pe_one q,k⟩,h.mono⟩
theorem Zds (ha:PX X EX a wa) (hb:PX X EX (.BoolOp .And (b::rest) pos) wb):PX X EX (.BoolOp .And (a::b::rest) pos) (Zbh wa wb):=by
  obtain ⟨ta,pa,ka⟩:=ha.t
  obtain ⟨tb,pb,kb⟩:=hb.t
  refine ⟨⟨_,pe_and pa pb,fun W0 H0 W σ H ρ E Q s eo h=>?_⟩,fun E ρ P P' hp h=>ha.mono _ _ _ _ (isB.mono fun b hb'=>?_) h⟩
  · refine ka W0 H0 W σ H ρ E _ s eo (ha.mono _ _ _ _ (fun d hd v W1 H1 x1 r1=>?_) h)
    obtain ⟨b,rfl,q⟩:=ZeA hd
    cases r1
    refine ⟨b,rfl,?_⟩
    cases b with
    | true=>rw [if_pos rfl] at q ⊢;exact kb W0 H0 W1 σ H1 ρ E _ (s.step x1) eo (hb.mono _ _ _ _ (fun d hd=>RQ.ext hd x1) q)
    | false=>rw [if_neg (by decide)] at q ⊢;exact q _ W1 H1 x1 (.bl false)
  · cases b with
    | true=>rw [if_pos rfl] at hb' ⊢;exact hb.mono _ _ _ _ hp hb'
    | false=>rw [if_neg (by decide)] at hb' ⊢;exact hp _ hb'
theorem px_not (ha:PX X EX a wa):PX X EX (.UnaryOp .Not a pos) (ZdA wa):=by
  obtain ⟨ta,pa,ka⟩:=ha.t
  refine ⟨⟨_,pe_not pa,fun W0 H0 W σ H ρ E Q s eo h=>?_⟩,fun E ρ P P' hp h=>ha.mono _ _ _ _ (isB.mono fun b hb'=>hp _ hb') h⟩
  refine ka W0 H0 W σ H ρ E _ s eo (ha.mono _ _ _ _ (fun d hd v W1 H1 x1 r1=>?_) h)
  obtain ⟨b,rfl,q⟩:=ZeA hd
  cases r1
  exact ⟨b,rfl,q _ W1 H1 x1 (.bl _)⟩
def wIf (wt:WT) (wa wb:WE):WE:=fun E ρ Q=>wt E ρ fun b=>if b=true then wa E ρ Q else wb E ρ Q
def Za0 (g g':G2) (wa wb wc:WE):WE:=fun E ρ Q=>wa E ρ fun x=>wb E ρ fun y=>g x y (isB fun k=>if k=true then wc E ρ fun z=>g' y z Q else Q (.bl false))
theorem Za0.mono {g g':G2} (ha:PX X EX a wa) (hb:PX X EX b wb) (hc:PX X EX c wc) (hg:∀ x y P P',(∀ d,P d→P' d)→g x y P→g x y P') (hg':∀ x y P P',(∀ d,P d→P' d)→g' x y P→g' x y P') :
    ∀ E ρ P P',(∀ d,P d→P' d)→Za0 g g' wa wb wc E ρ P→Za0 g g' wa wb wc E ρ P':=fun E ρ P P' hp h=>
  ha.mono _ _ _ _ (fun x hx=>hb.mono _ _ _ _ (fun y hy=>hg x y _ _ (isB.mono fun k hk=>by
    cases k with
    | true=>rw [if_pos rfl] at hk ⊢;exact hc.mono _ _ _ _ (fun z hz=>hg' y z _ _ hp hz) hk
    | false=>rw [if_neg (by decide)] at hk ⊢;exact hp _ hk) hy) hx) h
theorem px_chain {op op':CmpOp} {g g':G2} (ho:OpP X (compareOp op) g) (ho':OpP X (compareOp op') g') (ha:PX X EX a wa) (hb:PX X EX b wb) (hc:PX X EX c wc)
    (hm:lastMarks [op,op'] [b,c]=false:=by with_unfolding_all rfl):PX X EX (.Compare a [op,op'] [b,c] pos) (Za0 g g' wa wb wc):=by
  obtain ⟨ta,pa,ka⟩:=ha.t
  obtain ⟨tb,pb,kb⟩:=hb.t
  obtain ⟨tc,pc,kc⟩:=hc.t
  obtain ⟨r,pr,kr⟩:=ho.t
  obtain ⟨r',pr',kr'⟩:=ho'.t
  refine ⟨⟨_,pe_chain pr pr' pa pb pc hm,fun W0 H0 W σ H ρ E Q s eo h=>?_⟩,Za0.mono ha hb hc ho.mono ho'.mono⟩
  refine seq2 ha.mono hb.mono ka kb s eo h fun W2 H2 x y dx dy x2 rx ry hg=>kr W2 H2 x y dx dy _ x2.ok rx ry (ho.mono _ _ _ _ (fun d hd v W3 H3 x3 r3=>?_) hg)
  obtain ⟨k,rfl,q⟩:=ZeA hd
  cases r3
  refine ⟨k,rfl,?_⟩
  cases k with
  | true=>
    rw [if_pos rfl] at q ⊢
    refine kc W0 H0 W3 σ H3 ρ E _ (s.step (x2.trans x3)) eo (hc.mono _ _ _ _ (fun dz hz w W4 H4 x4 r4=>?_) q)
    exact kr' W4 H4 y w dy dz Q x4.ok (x4.rep (x3.rep ry)) r4 (ho'.mono _ _ _ _ (fun d hd=>RQ.ext hd (x2.trans (x3.trans x4))) hz)
  | false=>rw [if_neg (by decide)] at q ⊢;exact q _ W3 H3 (x2.trans x3) (.bl false)
theorem pxt_of_cmp {op op':CmpOp} {g g':G2} (ho:OpP X (compareOp op) g) (ho':OpP X (compareOp op') g') (ha:PX X EX a wa) (hb:PX X EX b wb) (hc:PX X EX c wc)
    (hm:lastMarks [op,op'] [b,c]=false:=by with_unfolding_all rfl):PXT X EX (.Compare a [op,op'] [b,c] pos) (wT (Za0 g g' wa wb wc)):=by
  obtain ⟨ta,pa,ka⟩:=ha.t
  obtain ⟨tb,pb,kb⟩:=hb.t
  obtain ⟨tc,pc,kc⟩:=hc.t
  obtain ⟨r,pr,kr⟩:=ho.t
  obtain ⟨r',pr',kr'⟩:=ho'.t
  refine ⟨⟨_,pt_chain pr pr' pa pb pc hm,fun W0 H0 W σ H ρ E Q s eo h=>?_⟩,wT.mono (Za0.mono ha hb hc ho.mono ho'.mono)⟩
  refine seq2 ha.mono hb.mono ka kb s eo h fun W2 H2 x y dx dy x2 rx ry hg=>kr W2 H2 x y dx dy _ x2.ok rx ry (ho.mono _ _ _ _ (fun d hd v W3 H3 x3 r3=>?_) hg)
  obtain ⟨k,rfl,q⟩:=ZeA hd
  cases r3
  refine ⟨k,rfl,?_⟩
  cases k with
  | true=>
    rw [if_pos rfl] at q ⊢
    refine kc W0 H0 W3 σ H3 ρ E _ (s.step (x2.trans x3)) eo (hc.mono _ _ _ _ (fun dz hz w W4 H4 x4 r4=>?_) q)
    refine kr' W4 H4 y w dy dz _ x4.ok (x4.rep (x3.rep ry)) r4 (ho'.mono _ _ _ _ (fun d hd v5 W5 H5 x5 r5=>?_) hz)
    obtain ⟨b,rfl,q'⟩:=ZeA hd
    cases r5
    exact ⟨b,rfl,q' W5 H5 (x2.trans (x3.trans (x4.trans x5)))⟩
  | false=>rw [if_neg (by decide)] at q ⊢;exact ⟨false,rfl,q W3 H3 (x2.trans x3)⟩
def aNil:WA:=fun _ _ Q=>Q []
def Zab (w:WE) (t:WA):WA:=fun E ρ Q=>w E ρ fun x=>t E ρ fun xs=>Q (x::xs)
theorem Zaa:PXA X EX [] aNil:=⟨⟨_,pa_nil,fun _ _ W _ H _ _ _ s _ h=>h [] W H (.refl s.ok) .nil⟩,fun _ _ _ _ hp h=>hp _ h⟩
theorem Za {w:WE} {t:WA} (ha:PX X EX e w) (hr:PXA X EX es t) (hs:starEach (e::es) X.env=(false,eval e X.env)::starEach es X.env:=by rfl):PXA X EX (e::es) (Zab w t):=by
  obtain ⟨ta,pa,ka⟩:=ha.t
  obtain ⟨tr,pr,kr⟩:=hr.t
  refine ⟨⟨_,pa_cons pa pr hs,fun W0 H0 W σ H ρ E Q s eo h=>?_⟩,fun E ρ P P' hp h=>ha.mono _ _ _ _ (fun d hd=>hr.mono _ _ _ _ (fun ds hds=>hp _ hds) hd) h⟩
  refine ka W0 H0 W σ H ρ E _ s eo (ha.mono _ _ _ _ (fun d hd v W1 H1 x1 r1=>?_) h)
  exact kr W0 H0 W1 σ H1 ρ E _ (s.step x1) eo (hr.mono _ _ _ _ (fun ds hds vs W2 H2 x2 r2=>hds _ W2 H2 (x1.trans x2) (.cons (x2.rep r1) r2)) hd)
def small:Nat:=10000
theorem ZaY {n:Nat} (h:n≤small):n≤sizeLine:=Nat.le_trans h (by rw [sizeLine_eq];decide)
def wTup (t:WA):WE:=fun E ρ Q=>t E ρ fun xs=>xs.length≤small∧Q (.tup xs)
def aLst (t:WA):WA:=fun E ρ Q=>t E ρ fun xs=>xs.length≤small∧Q xs
theorem Zak {t:WA} {x1} (h:PXA X EX es t):PX X EX (.Tuple es x1 pos) (wTup t):=by
  obtain ⟨ta,pa,ka⟩:=h.t
  refine ⟨⟨_,pe_tup pa,fun W0 H0 W σ H ρ E Q s eo hw=>?_⟩,fun E ρ P P' hp z=>h.mono _ _ _ _ (fun ds hds=>⟨hds.1,hp _ hds.2⟩) z⟩
  refine ka W0 H0 W σ H ρ E _ s eo (h.mono _ _ _ _ (fun ds hds vs W1 H1 x1 r1=>?_) hw)
  refine ⟨by rw [r1.length];exact ZaY hds.1,fun q hq=>?_⟩
  exact (RQ.ext hds.2 x1).tup x1.ok r1 hq
theorem Zal {t:WA} (h:PXA X EX es t):PXL X EX (.List es pos) (aLst t):=by
  obtain ⟨ta,pa,ka⟩:=h.t
  refine ⟨⟨_,pe_lst pa,fun W0 H0 W σ H ρ E Q s eo hw=>?_⟩,fun E ρ P P' hp z=>h.mono _ _ _ _ (fun ds hds=>⟨hds.1,hp _ hds.2⟩) z⟩
  refine ka W0 H0 W σ H ρ E _ s eo (h.mono _ _ _ _ (fun ds hds vs W1 H1 x1 r1=>?_) hw)
  refine ⟨by rw [r1.length];exact ZaY hds.1,fun q hq=>?_⟩
  exact hds.2 q vs W1 _ (x1.trans (.new x1.ok hq)) upd_same (x1.ok.fresh hq).1 (x1.ok.fresh hq).2 (x1.isN hq) r1
def wL (t:WA):WE:=fun E ρ Q=>t E ρ fun ds=>Q (.lst ds)
theorem PXL.px {t:WA} (h:PXL X EX e t):PX X EX e (wL t):=by
  obtain ⟨ta,pa,ka⟩:=h.t
  refine ⟨⟨_,pa,fun W0 H0 W σ H ρ E Q s eo hw=>?_⟩,fun E ρ P P' hp z=>h.mono _ _ _ _ (fun ds hds=>hp _ hds) z⟩
  refine ka W0 H0 W σ H ρ E _ s eo (h.mono _ _ _ _ (fun ds hds a vs W1 H1 x1 e1 e2 e3 e4 r1=>?_) hw)
  refine hds _ _ _ (x1.pub e4 e1 e3 e2) (.lst (by unfold Wd.put;dsimp only;rw [upd_same]) (r1.mono (Zcj e2) fun _ z=>z))
structure CallP (X:Cx) (f:Value) (g:List D→(D→Prop)→Prop):Prop where
  t:∃ r,CallR X f r∧∀ W H vs ds Q,WOk W H→Reps X.K W vs ds→g ds (RQ X.K W H Q)→r vs H Q
  mono:∀ ds P P',(∀ d,P d→P' d)→g ds P→g ds P'
structure CallL (X:Cx) (f:Value) (g:List D→(List D→Prop)→Prop):Prop where
  t:∃ r,CallR X f r∧∀ W H vs ds Q,WOk W H→Reps X.K W vs ds→g ds (fun es=>∀ a us,H a=none→Reps X.K W us es→Q (.ref a) (upd H a (.lst us)))→r vs H Q
  mono:∀ ds P P',(∀ d,P d→P' d)→g ds P→g ds P'
def wB (g:List D→(D→Prop)→Prop) (t:WA):WE:=fun E ρ Q=>t E ρ fun ds=>g ds Q
def aB (g:List D→(List D→Prop)→Prop) (t:WA):WA:=fun E ρ Q=>t E ρ fun ds=>g ds Q
variable {id T:String} {t:WA}
theorem Zag {g:List D→(D→Prop)→Prop} (hc:CallP X (.builtin id) g) (hm:X.mg x=none) (hv:bootBuiltins x=some (.builtin id)) (ha:PXA X EX (e::es) t) (hg:Gl X x:=by rfl) (hn:x≠ "__name__" :=by decide) (hdb:(x == ("__debug__" : Str))=false:=by decide)
    (he:starEach (e::es) X.env=(false,eval e X.env)::starEach es X.env:=by rfl) (hpl:(backTo pos (starEach es X.env)).any (·.1)=false:=by rfl):PX X EX (.Call (.Name x p) (e::es) [] pos) (wB g t):=by
  obtain ⟨ta,pa,ka⟩:=ha.t
  obtain ⟨r,pr,kr⟩:=hc.t
  refine ⟨⟨_,pe_callB pr hg hm hv pa hn hdb he hpl,fun W0 H0 W σ H ρ E Q s eo h=>?_⟩,fun E ρ P P' hp z=>ha.mono _ _ _ _ (fun ds hds=>hc.mono _ _ _ hp hds) z⟩
  exact ka W0 H0 W σ H ρ E _ s eo (ha.mono _ _ _ _ (fun ds hds vs W1 H1 x1 r1=>kr W1 H1 vs ds Q x1.ok r1 (hc.mono _ _ _ (fun d hd=>RQ.ext hd x1) hds)) h)
theorem Zbb {g:List D→(D→Prop)→Prop} (hc:CallP X (.type T) g) (hm:X.mg x=none) (hv:bootBuiltins x=some (.type T)) (ha:PXA X EX (e::es) t) (hg:Gl X x:=by rfl) (hn:x≠ "__name__" :=by decide) (hdb:(x == ("__debug__" : Str))=false:=by decide)
    (he:starEach (e::es) X.env=(false,eval e X.env)::starEach es X.env:=by rfl) (hpl:(backTo pos (starEach es X.env)).any (·.1)=false:=by rfl):PX X EX (.Call (.Name x p) (e::es) [] pos) (wB g t):=by
  obtain ⟨ta,pa,ka⟩:=ha.t
  obtain ⟨r,pr,kr⟩:=hc.t
  refine ⟨⟨_,pe_callTy pr hg hm hv pa hn hdb he hpl,fun W0 H0 W σ H ρ E Q s eo h=>?_⟩,fun E ρ P P' hp z=>ha.mono _ _ _ _ (fun ds hds=>hc.mono _ _ _ hp hds) z⟩
  exact ka W0 H0 W σ H ρ E _ s eo (ha.mono _ _ _ _ (fun ds hds vs W1 H1 x1 r1=>kr W1 H1 vs ds Q x1.ok r1 (hc.mono _ _ _ (fun d hd=>RQ.ext hd x1) hds)) h)
theorem Zgz {g:List D→(List D→Prop)→Prop} (hc:CallL X (.type T) g) (hm:X.mg x=none) (hv:bootBuiltins x=some (.type T)) (ha:PXA X EX (e::es) t) (hg:Gl X x:=by rfl) (hn:x≠ "__name__" :=by decide) (hdb:(x == ("__debug__" : Str))=false:=by decide)
    (he:starEach (e::es) X.env=(false,eval e X.env)::starEach es X.env:=by rfl) (hpl:(backTo pos (starEach es X.env)).any (·.1)=false:=by rfl):PXL X EX (.Call (.Name x p) (e::es) [] pos) (aB g t):=by
  obtain ⟨ta,pa,ka⟩:=ha.t
  obtain ⟨r,pr,kr⟩:=hc.t
  refine ⟨⟨_,pe_callTy pr hg hm hv pa hn hdb he hpl,fun W0 H0 W σ H ρ E Q s eo h=>?_⟩,fun E ρ P P' hp z=>ha.mono _ _ _ _ (fun ds hds=>hc.mono _ _ _ hp hds) z⟩
  refine ka W0 H0 W σ H ρ E _ s eo (ha.mono _ _ _ _ (fun ds hds vs W1 H1 x1 r1=>kr W1 H1 vs ds Q x1.ok r1 (hc.mono _ _ _ (fun es' hd a us hn' r2=>?_) hds)) h)
  exact hd a us W1 _ (x1.trans (.new x1.ok hn')) upd_same (x1.ok.fresh hn').1 (x1.ok.fresh hn').2 (x1.isN hn') r2
abbrev Zav:=List D→(Ex→Prop)→(D→Prop)→Prop
def ZgZ (S:Zav):Prop:=∀ ds E E' Q Q',(∀ ex,E ex→E' ex)→(∀ d,Q d→Q' d)→S ds E Q→S ds E' Q'
def spOf (K:PySem.W.Frag) (S:Zav):Sp:=fun vs H Q EX=>∃ ds W,WOk W H∧Reps K W vs ds∧S ds (fun ex=>∀ W' H' cls dx,Ext W H W' H'→ExRep K W' H' cls dx ex→EX cls dx H') (RQ K W H Q)
def wF (S:Zav) (t:WA):WE:=fun E ρ Q=>t E ρ fun ds=>S ds E Q
theorem px_call {CX:CXT} {k:Nat} {f:Addr} {fd:FuncData} {ps:List Str} {S:Zav} (F:FnOk X.prog X.w X.K X.mg X.base CX k f fd ps (spOf X.K S)) (hS:ZgZ S) (hr:Room k X.A) (hm:X.mg x=some (.ref f)) (hk:PySem.W.keepIn X.K (.ref f)=true) (hb:Binds X.K fd ps [])
    (hx:Passes CX X EX) (ha:PXA X EX (e::es) t) (hg:Gl X x:=by rfl) (hdb:(x == ("__debug__" : Str))=false:=by decide) (he:starEach (e::es) X.env=(false,eval e X.env)::starEach es X.env:=by rfl) (hpl:(backTo pos (starEach es X.env)).any (·.1)=false:=by rfl) :
    PX X EX (.Call (.Name x p) (e::es) [] pos) (wF S t):=by
  obtain ⟨ta,pa,ka⟩:=ha.t
  refine ⟨⟨_,pe_call F hr hg hm hk hb .nil hx pa hdb he hpl,fun W0 H0 W σ H ρ E Q s eo h=>?_⟩,fun E ρ P P' hp z=>ha.mono _ _ _ _ (fun ds hds=>hS _ _ _ _ _ (fun _ q=>q) hp hds) z⟩
  refine ka W0 H0 W σ H ρ E _ s eo (ha.mono _ _ _ _ (fun ds hds vs W1 H1 x1 r1=>?_) h)
  refine ⟨ds,W1,x1.ok,by rw [List.append_nil];exact r1,hS _ _ _ _ _ (fun ex hex W' H' cls dx x' r'=>?_) (fun d hd=>RQ.ext hd x1) hds⟩
  exact eo ex W' H' cls dx hex (s.ext.trans (x1.trans x')) r'
structure IxP (X:Cx) (g:G2):Prop where
  t:∃ r,IxR X r∧∀ W H x y dx dy Q,WOk W H→Rep X.K W x dx→Rep X.K W y dy→g dx dy (RQ X.K W H Q)→r x y H Q
  mono:∀ x y P P',(∀ d,P d→P' d)→g x y P→g x y P'
theorem Zam {g:G2} (ho:IxP X g) (ha:PX X EX a wa) (hb:PX X EX b wb) (hs:PlainIx b:=by exact fun _ _=>rfl):PX X EX (.Subscript a b pos) (w2 g wa wb):=by
  obtain ⟨ta,pa,ka⟩:=ha.t
  obtain ⟨tb,pb,kb⟩:=hb.t
  obtain ⟨r,pr,kr⟩:=ho.t
  refine ⟨⟨_,pe_ix pr pa pb hs,fun W0 H0 W σ H ρ E Q s eo h=>?_⟩,w2.mono ha hb ho.mono⟩
  exact seq2 ha.mono hb.mono ka kb s eo h fun W2 H2 x y dx dy x2 rx ry hg=>kr W2 H2 x y dx dy Q x2.ok rx ry (ho.mono _ _ _ _ (fun d hd=>RQ.ext hd x2) hg)
structure UnP (X:Cx) (f:Value→Sem Value) (g:D→(D→Prop)→Prop):Prop where
  t:∃ r,UnR X f r∧∀ W H x dx Q,WOk W H→Rep X.K W x dx→g dx (RQ X.K W H Q)→r x H Q
  mono:∀ x P P',(∀ d,P d→P' d)→g x P→g x P'
def w1 (g:D→(D→Prop)→Prop) (wa:WE):WE:=fun E ρ Q=>wa E ρ fun x=>g x Q
theorem px_un {op:UnaryOp} {g:D→(D→Prop)→Prop} (ho:UnP X (unaryOp op) g) (ha:PX X EX a wa):PX X EX (.UnaryOp op a pos) (w1 g wa):=by
  obtain ⟨ta,pa,ka⟩:=ha.t
  obtain ⟨r,pr,kr⟩:=ho.t
  refine ⟨⟨_,pe_un pr pa,fun W0 H0 W σ H ρ E Q s eo h=>?_⟩,fun E ρ P P' hp z=>ha.mono _ _ _ _ (fun d hd=>ho.mono _ _ _ hp hd) z⟩
  exact ka W0 H0 W σ H ρ E _ s eo (ha.mono _ _ _ _ (fun d hd v W1 H1 x1 r1=>kr W1 H1 v d Q x1.ok r1 (ho.mono _ _ _ (fun d hd=>RQ.ext hd x1) hd)) h)
structure PXO (X:Cx) (EX:XK) (e:Option Expr) (w:(Ex→Prop)→Rho→(Option Int→Prop)→Prop):Prop where
  t:∃ t,PO X e t∧∀ W0 H0 W σ H ρ E Q,SOk X.K W0 H0 W σ H ρ→EOk X.K W0 H0 E EX→w E ρ (fun o=>∀ W' H',Ext W H W' H'→Q o H')→t σ H Q
  mono:∀ E ρ P P',(∀ d,P d→P' d)→w E ρ P→w E ρ P'
def isI (Q:Int→Prop):D→Prop
  | .int i=>Q i
  | _=>False
theorem isI.mono {Q Q':Int→Prop} (h:∀ b,Q b→Q' b):∀ d,isI Q d→isI Q' d
  | .int b,z=>h b z
  | .non,z=>z | .bl _,z=>z | .str _,z=>z | .tup _,z=>z | .lst _,z=>z | .dic,z=>z | .pen,z=>z | .cls _,z=>z | .exc _,z=>z | .ty _,z=>z | .scr _,z=>z
theorem ZdM {Q:Int→Prop} {d:D} (h:isI Q d):∃ b,d = .int b∧Q b:=by
  cases d with
  | int b=>exact ⟨b,rfl,h⟩
  | _=>exact h.elim
def Za8:(Ex→Prop)→Rho→(Option Int→Prop)→Prop:=fun _ _ Q=>Q none
def ZaZ (w:WE):(Ex→Prop)→Rho→(Option Int→Prop)→Prop:=fun E ρ Q=>w E ρ (isI fun i=>Q (some i))
theorem ZaJ:PXO X EX none Za8:=⟨⟨_,po_none,fun _ _ W _ H _ _ _ s _ h=>h W H (.refl s.ok)⟩,fun _ _ _ _ hp h=>hp _ h⟩
theorem ZaD (ha:PX X EX a wa):PXO X EX (some a) (ZaZ wa):=by
  obtain ⟨ta,pa,ka⟩:=ha.t
  refine ⟨⟨_,po_some pa,fun W0 H0 W σ H ρ E Q s eo h=>?_⟩,fun E ρ P P' hp z=>ha.mono _ _ _ _ (isI.mono fun i hi=>hp _ hi) z⟩
  refine ka W0 H0 W σ H ρ E _ s eo (ha.mono _ _ _ _ (fun d hd v W1 H1 x1 r1=>?_) h)
  obtain ⟨i,rfl,q⟩:=ZdM hd
  cases r1
  exact ⟨i,rfl,q W1 H1 x1⟩
def cutD {α:Type} (xs:List α) (lo hi:Option Int):List α:=(xs.drop (HT.sIx xs.length 0 lo)).take (HT.sIx xs.length xs.length hi - HT.sIx xs.length 0 lo)
def gCut (x:D) (lo hi:Option Int) (Q:D→Prop):Prop:=match x with
  | .tup xs=>Q (.tup (cutD xs lo hi))
  | .lst xs=>Q (.lst (cutD xs lo hi))
  | .scr xs=>Q (.lst (cutD xs lo hi))
  | _=>False
end
end LP
namespace HT
open PySem PySem.Spec PyProof.Rows
section
variable {prog:Program} {w:World} {A:Around} {E:Value→Shared→Prop} {s:Shared}
theorem getItem_tuple_whole {t sl:Addr} {items:Array Value} {vl vu:Value} {lo hi:Option Int} {Q:Value→Shared→Prop} (ht:IsTup s.heap t items) (hs:s.heap.IsSliceOf sl vl vu .none) (pl:IsPart vl lo) (pu:IsPart vu hi)
    (hw:sIx items.size 0 lo=0∧sIx items.size items.size hi=items.size) (h:Q (.ref t) s):wpAny (model prog w) A (getItem (.ref t) (.ref sl)) Q E s:=by
  obtain ⟨os,hos,hcs,hds⟩:=id hs
  have hTs:s.TypeIs (.ref sl) "slice" :=⟨os,hos,hcs⟩
  unfold getItem
  try with_reducible refine wpAny_holding ?_
  first | refine wpAny_bind (wpAny_pure ?_) | skip
  refine wpAny_bind (wpAny_sequenceKey ht.typeIs (by decide) ?_)
  refine wpAny_bind (wpAny_callSpecial?_slot (name:=Str.ofString "__getitem__") ht.typeIs PyProof.Rows.slot_tuple_getitem
    (wpAny_call_entry PyProof.Rows.slot_tuple_getitem ht.typeIs entry_tuple_getitem ?_ (args_tuple_getitem _ _)))
  show wpAny _ _ (Builtin.Tuple.tupleItemsOf (.ref t) >>= _) _ _ s
  refine wpAny_bind (tupleItemsOf_ ht ?_)
  refine wpAny_bind (wpAny_typeOf hTs ?_)
  rw [if_pos (by decide)]
  refine wpAny_bind (sliceApplied_gen hs pl pu ?_)
  have hyes:(((sIx items.size 0 lo:Nat):Int) == 0 && (1:Int) == 1 && (sIx items.size items.size hi - sIx items.size 0 lo) == items.size)=true:=by
    rw [hw.1,hw.2]
    simp
  show wpAny _ _ (if (((sIx items.size 0 lo:Nat):Int) == 0 && (1:Int) == 1 && (sIx items.size items.size hi - sIx items.size 0 lo) == items.size)=true then _ else _) _ _ s
  rw [if_pos hyes]
  have ex:Builtin.Tuple.tupleIsExact (.ref t)=(do return (← typeOf (.ref t)) == .type "tuple"):=rfl
  rw [ex]
  refine wpAny_bind (wpAny_bind (wpAny_typeOf ht.typeIs (wpAny_pure ?_)))
  rw [if_pos (by decide)]
  first
    | exact wpAny_bind (wpAny_rule (wpAny_bind (wpAny_pure (wpAny_pure ⟨_,rfl,wpAny_pure h⟩))))
    | exact wpAny_bind (wpAny_rule (wpAny_pure ⟨_,rfl,wpAny_pure h⟩))
    | exact wpAny_bind (wpAny_rule (wpAny_bind (wpAny_pure ⟨_,rfl,wpAny_pure h⟩)))
theorem ZfN {sl:Addr} {tk:Tok} {n:Nat} {Q:Int×Int×Nat→Shared→Prop} (hs:s.heap.IsSliceOf sl .none .none (.int (-1) tk))
    (h:Q ((n:Int) - 1,-1,n) s):wpAny (model prog w) A (Builtin.Slice.sliceApplied (.ref sl) (pure (n:Int))) Q E s:=by
  obtain ⟨os,hos,hcs,hds⟩:=id hs
  unfold Builtin.Slice.sliceApplied Builtin.Slice.sliceFields
  refine wpAny_bind (wpAny_bind (wpAny_field hos hds (x:=.none) rfl (wpAny_bind (wpAny_field hos hds (x:=.none) rfl (wpAny_bind (wpAny_field hos hds (x:=.int (-1) tk) rfl (wpAny_pure ?_)))))))
  refine wpAny_bind (slicePart_int ?_)
  show wpAny _ _ (if ((-1:Int) == 0)=true then _ else _) _ _ s
  rw [if_neg (by decide)]
  refine wpAny_bind (slicePart_none (wpAny_bind (slicePart_none (wpAny_bind (wpAny_pure ?_)))))
  show wpAny _ _ (match Builtin.Slice.sliceAdjust none none (-1) (n:Int) with | (lo,hi)=>pure (lo,(-1:Int),Builtin.Slice.slicePlaces lo hi (-1))) _ _ s
  have e:Builtin.Slice.sliceAdjust none none (-1) (n:Int)=((n:Int) - 1,-1):=by
    unfold Builtin.Slice.sliceAdjust
    simp
  rw [e]
  have e2:Builtin.Slice.slicePlaces ((n:Int) - 1) (-1) (-1)=n:=by
    unfold Builtin.Slice.slicePlaces
    simp
    try omega
  show wpAny _ _ (pure ((n:Int) - 1,(-1:Int),Builtin.Slice.slicePlaces ((n:Int) - 1) (-1) (-1))) _ _ s
  rw [e2]
  exact wpAny_pure h
theorem pick_rev (xs:Array Value):((List.range xs.size).filterMap fun (m:Nat)=>xs[((xs.size:Int) - 1+(m:Int)*(-1)).toNat]?)=xs.toList.reverse:=by
  refine List.ext_getElem? fun i=>?_
  have gen:∀ (l:List Nat),(∀ m∈l,m < xs.size)→(l.filterMap fun (m:Nat)=>xs[((xs.size:Int) - 1+(m:Int)*(-1)).toNat]?)=l.map fun m=>xs.toList.getD (xs.size - 1 - m) .none:=by
    intro l
    induction l with
    | nil=>intro _;rfl
    | cons m r ih=>
      intro hm
      have h1:m < xs.size:=hm m List.mem_cons_self
      have h2:((xs.size:Int) - 1+(m:Int)*(-1)).toNat=xs.size - 1 - m:=by omega
      have h3:xs.size - 1 - m < xs.size:=by omega
      rw [List.filterMap_cons,h2,Array.getElem?_eq_getElem h3,List.map_cons,ih fun k hk=>hm k (List.mem_cons_of_mem _ hk)]
      simp [List.getD_eq_getElem?_getD,h3]
  rw [gen _ fun m hm=>List.mem_range.mp hm]
  by_cases hi:i < xs.size
  · rw [List.getElem?_map,List.getElem?_range hi,List.getElem?_reverse (by simpa using hi)]
    simp [List.getD_eq_getElem?_getD]
    rw [Array.getElem?_eq_getElem (by omega)]
    simp
  · rw [List.getElem?_eq_none (by simp;omega),List.getElem?_eq_none (by simp;omega)]
theorem getItem_tuple_rev {t sl:Addr} {items:Array Value} {tk:Tok} {Q:Value→Shared→Prop} (ht:IsTup s.heap t items) (hs:s.heap.IsSliceOf sl .none .none (.int (-1) tk)) (hsz:items.size≤sizeLine)
    (h:Q (.ref s.heap.objs.size) { s with heap:=s.heap.push { cls:=.type "tuple",data:=.seq items.toList.reverse.toArray } }):wpAny (model prog w) A (getItem (.ref t) (.ref sl)) Q E s:=by
  have htake:sizeOk (.seq items.toList.reverse.toArray):=by
    show items.toList.reverse.toArray.size≤sizeLine
    simpa using hsz
  obtain ⟨os,hos,hcs,hds⟩:=id hs
  have hTs:s.TypeIs (.ref sl) "slice" :=⟨os,hos,hcs⟩
  unfold getItem
  try with_reducible refine wpAny_holding ?_
  first | refine wpAny_bind (wpAny_pure ?_) | skip
  refine wpAny_bind (wpAny_sequenceKey ht.typeIs (by decide) ?_)
  refine wpAny_bind (wpAny_callSpecial?_slot (name:=Str.ofString "__getitem__") ht.typeIs PyProof.Rows.slot_tuple_getitem
    (wpAny_call_entry PyProof.Rows.slot_tuple_getitem ht.typeIs entry_tuple_getitem ?_ (args_tuple_getitem _ _)))
  show wpAny _ _ (Builtin.Tuple.tupleItemsOf (.ref t) >>= _) _ _ s
  refine wpAny_bind (tupleItemsOf_ ht ?_)
  refine wpAny_bind (wpAny_typeOf hTs ?_)
  rw [if_pos (by decide)]
  refine wpAny_bind (ZfN hs ?_)
  show wpAny _ _ (if ((((items.size:Int) - 1) == 0 && (-1:Int) == 1 && items.size == items.size)=true) then _ else _) _ _ s
  rw [if_neg (by simp),pick_rev]
  first
    | exact wpAny_bind (m:=Builtin.Tuple.tupleExact _) (wpAny_newObj_type (wpAny_pure ⟨_,rfl,wpAny_pure h⟩) htake)
    | exact wpAny_bind (m:=Builtin.Tuple.tupleExact _) (wpAny_newObj_type (wpAny_bind (wpAny_pure (wpAny_pure ⟨_,rfl,wpAny_pure h⟩))) htake)
    | exact wpAny_bind (wpAny_bind (m:=Builtin.Tuple.tupleExact _) (wpAny_newObj_type (wpAny_pure (wpAny_pure ⟨_,rfl,wpAny_pure h⟩)) htake))
    | exact wpAny_bind (wpAny_bind (m:=Builtin.Tuple.tupleExact _) (wpAny_newObj_type (wpAny_pure ⟨_,rfl,wpAny_pure h⟩) htake))
end
end HT
namespace L2
open PySem PySem.Spec PyProof.Rows
section
variable {X:Cx} {e:Expr} {te:TE} {pos p2:Pos}
def rSlTw (K:PySem.W.Frag):V→Option Int→Option Int→Hp→VK→Prop:=fun x lo hi H Q=>∃ a xs,x = .ref a∧SqT K H a xs∧
  (HT.sIx xs.length 0 lo=0∧HT.sIx xs.length xs.length hi=xs.length)∧Q (.ref a) H
theorem sl_tupW:SlR X (rSlTw X.K):=by
  intro pins s σ H x v vl vu lo hi sl Q I rx hs pl pu h
  obtain ⟨a,xs,rfl,hx,hw,q⟩:=h
  cases rx
  obtain ⟨its,r,ht,hz⟩:=I.tuple hx
  have hlen:its.toArray.size=xs.length:=by rw [List.size_toArray];exact r.length.symm
  refine ⟨"tuple",_,PyProof.Rows.slot_tuple_getitem.lookup,ht.typeIs,?_⟩
  exact HT.getItem_tuple_whole ht hs pl pu (by rw [hlen];exact hw) ⟨.ref a,H,I,rfl,q⟩
def tRev (r:V→Hp→VK→Prop) (te:TE):TE:=fun σ H Q=>te σ H fun x H1=>r x H1 Q
def rRev (K:PySem.W.Frag):V→Hp→VK→Prop:=fun x H Q=>∃ a xs,x = .ref a∧((SqT K H a xs∧∀ p,H p=none→Q (.ref p) (upd H p (.tup xs.reverse)))∨(SqL K H a xs∧∀ p,H p=none→Q (.ref p) (upd H p (.lst xs.reverse))))
theorem Vals.rev {xs:List V} {us:List Value} (r:Vals xs us):Vals xs.reverse us.reverse:=by
  induction xs generalizing us with
  | nil=>cases r;exact .nil
  | cons x xs ih=>cases r with | cons r t=>rw [List.reverse_cons,List.reverse_cons];exact (ih t).append (.cons r .nil)
theorem slicePick_rev (its:List Value):slicePick its.toArray none none (some (-1))=its.reverse.toArray:=by
  have e:slicePick its.toArray none none (some (-1))=((sliceRange ((its.length:Int) - 1) (-1) (-1)).filterMap (its.toArray[·]?)).toArray:=by
    unfold slicePick sliceBounds
    simp
  rw [e]
  congr 1
  have h:=HT.pick_rev its.toArray
  rw [List.size_toArray] at h
  have h':its.toArray.toList.reverse=its.reverse:=by simp
  rw [h'] at h
  rw [← h]
  unfold sliceRange
  simp only [show ¬ ((-1:Int) > 0) by decide,if_false]
  have hn:(if (-1:Int) < (its.length:Int) - 1 then (its.length:Int) else 0).toNat=its.length:=by split<;>omega
  simp
  rw [hn]
  rfl
theorem pe_rev {j pos3 pos4} (he:PE X e te):PE X (.Subscript e (.Slice none none (some (.UnaryOp .USub (.Constant (.int 1) j pos3) pos4)) p2) pos) (tRev (rRev X.K) te):=by
  intro pins s σ H Q I h
  refine Subscript_ (thn (he pins s σ H _ I h) fun v s1 ⟨x,H1,I1,r1,a,xs,ex,q1⟩=>?_)
  subst ex
  cases r1
  refine wpAny_Slice ?_
  rw [evalPart_none]
  refine wpAny_pure (wpAny_pure ?_)
  rw [evalPart_some]
  refine thn (pe_un (un_neg (X:=X)) pe_int pins s1 σ H1 (fun x H'=>x = .int (-1)∧H'=H1) I1 ⟨1,rfl,rfl,rfl⟩) fun u s3 ⟨y,H3,I3,r3,e3,e4⟩=>?_
  subst e3
  obtain rfl:=e4.symm
  obtain ⟨tk,rfl⟩:=r3
  have I4:Inv X pins σ H1 { s3 with heap:=s3.heap.push { cls:=.type "slice",data:=.fields #[.none,.none,.int (-1) tk] } }:=I3.kept (t':=s3.toks) fun b ob q=>Heap.get?_push_of_some _ q
  show wpAny (model X.prog X.w) X.A (subscriptTail e (.Slice none none (some (.UnaryOp .USub (.Constant (.int 1) j pos3) pos4)) p2) (.ref a) (.ref s3.heap.objs.size)) (EP X pins σ Q) X.xe { s3 with heap:=s3.heap.push { cls:=.type "slice",data:=.fields #[.none,.none,.int (-1) tk] } }
  rcases q1 with ⟨hx,q1⟩ | ⟨hx,q1⟩
  · obtain ⟨its,r,ht,hz⟩:=I4.tuple hx
    have hlen:=r.length
    refine tail_any (ops:=[.ref a,.ref s3.heap.objs.size]) ht.typeIs PyProof.Rows.slot_tuple_getitem.lookup (HT.getItem_tuple_rev ht (Heap.IsSliceOf.new ..) (by rw [List.size_toArray];omega) ?_) (by with_unfolding_all rfl)
    refine ⟨.ref _,_,I4.laid (t':=s3.toks) (o:=.tup xs.reverse) (fun b ob q=>Heap.get?_push_of_some _ q) (Nat.le_refl _) ?_,rfl,q1 _ (I4.hok.fresh (Nat.le_refl _))⟩
    exact ⟨by rw [List.length_reverse];exact hz,_,r.rev,IsTup.new _ _⟩
  · obtain ⟨its,r,ht,hz⟩:=I4.list hx
    have hlen:=r.length
    refine tail_any (ops:=[.ref a,.ref s3.heap.objs.size]) ht.isList.typeIs slot_list_getitem.lookup (wpAny_getItem_list_slice ht.isList (Heap.IsSliceOf.new ..) .none .none (.int (-1) tk) (by simp) ?_ (by rw [List.size_toArray];omega)) (by with_unfolding_all rfl)
    rw [slicePick_rev]
    refine ⟨.ref _,_,I4.laid (t':=s3.toks) (o:=.lst xs.reverse) (fun b ob q=>Heap.get?_push_of_some _ q) (Nat.le_refl _) ?_,rfl,q1 _ (I4.hok.fresh (Nat.le_refl _))⟩
    exact ⟨by rw [List.length_reverse];exact hz,_,0,r.rev,Heap.get?_push_size _ rfl⟩
end
end L2
namespace LP
open PySem PySem.Spec PyProof.Rows L2
def Bd (i:Int):Prop:=i.natAbs < 2 ^ 8990
theorem Bd.log {i:Int} (h:Bd i):i.natAbs.log2 < 8990:=by
  by_cases h0:i.natAbs=0
  · rw [h0];decide
  · exact (Nat.log2_lt h0).mpr h
theorem Bd.bits {i:Int} (h:Bd i):Builtin.Int.intBits i≤2 ^ 20:=by
  unfold Builtin.Int.intBits
  have:=h.log
  have e:(2:Nat) ^ 20=1048576:=by decide
  split<;>omega
def MulOk (i j:Int):Prop:=Bd i∧Bd j
def DivOk (_ j:Int):Prop:=j≠0∧Bd j
section
variable {X:Cx} {EX:XK} {pos:Pos}
theorem opr_mul:OpR X (binaryOp .Mult) (rI MulOk fun i j=>.int (i*j)):=opI fun _ _ _ _ _ _ _ hc q=>mul_int q (IntMulOk.of_bits hc.1.bits hc.2.bits)
theorem opr_fdiv:OpR X (binaryOp .FloorDiv) (rI DivOk fun i j=>.int (i.fdiv j)):=opI fun _ _ _ _ _ _ _ hc q=>floordiv_int hc.1 q (.inl (PyProof.noPylong_of_log2 (by have:=hc.2.log;omega)))
def gI2 (C:Int→Int→Prop) (kd:Int→Int→D):G2:=fun x y Q=>match x,y with
  | .int i,.int j=>C i j∧Q (kd i j)
  | _,_=>False
theorem gI2.mono {C:Int→Int→Prop} {kd:Int→Int→D}:∀ x y P P',(∀ d,P d→P' d)→gI2 C kd x y P→gI2 C kd x y P':=fun x y P P' hp hg=>by
  unfold gI2 at hg ⊢
  split at hg
  · exact ⟨hg.1,hp _ hg.2⟩
  · exact hg.elim
theorem gI2.get {C:Int→Int→Prop} {kd:Int→Int→D} {x y:D} {Q:D→Prop} (h:gI2 C kd x y Q):∃ i j,x = .int i∧y = .int j∧C i j∧Q (kd i j):=by
  unfold gI2 at h
  split at h
  · exact ⟨_,_,rfl,rfl,h.1,h.2⟩
  · exact h.elim
theorem ZdK {f:Value→Value→Sem Value} {C:Int→Int→Prop} {k:Int→Int→V} {kd:Int→Int→D} (h:OpR X f (rI C k)) (hk:∀ W i j,Rep X.K W (k i j) (kd i j)):OpP X f (gI2 C kd):=
  ⟨⟨_,h,fun W H x y dx dy Q ok rx ry hg=>by
    obtain ⟨i,j,rfl,rfl,hc,q⟩:=hg.get
    cases rx;cases ry
    exact ⟨_,_,rfl,rfl,hc,q.now ok (hk _ _ _)⟩⟩,gI2.mono⟩
theorem rI0_rI {f:Value→Value→Sem Value} {k:Int→Int→V} (h:OpR X f (rI0 k)):OpR X f (rI (fun _ _=>True) k):=fun pins s σ H x y v u Q I rx ry ⟨i,j,e1,e2,_,q⟩=>h pins s σ H x y v u Q I rx ry ⟨i,j,e1,e2,q⟩
theorem ZcV:OpP X (binaryOp .Sub) (gI2 (fun _ _=>True) fun i j=>.int (i - j)):=ZdK (rI0_rI op_sub) fun _ _ _=>.int _
theorem o_mod:OpP X (binaryOp .Mod) (gI2 (fun _ j=>j≠0) fun i j=>.int (i.fmod j)):=ZdK op_modN fun _ _ _=>.int _
theorem Zec:OpP X (binaryOp .FloorDiv) (gI2 DivOk fun i j=>.int (i.fdiv j)):=ZdK opr_fdiv fun _ _ _=>.int _
theorem o_pow:OpP X (binaryOp .Pow) (gI2 CPow fun i j=>.int (i ^ j.toNat)):=ZdK op_pow fun _ _ _=>.int _
theorem opr_lt:OpR X (compareOp .Lt) (rI0 fun i j=>.bl (decide (i < j))):=opB0 fun _ _ _ _ _ _ _ q=>lt_int q
theorem opr_le:OpR X (compareOp .LtE) (rI0 fun i j=>.bl (decide (i≤j))):=opB0 fun _ _ _ _ _ _ _ q=>le_int q
theorem opr_gt:OpR X (compareOp .Gt) (rI0 fun i j=>.bl (decide (i > j))):=opB0 fun _ _ _ _ _ _ _ q=>gt_int q
theorem opr_ge:OpR X (compareOp .GtE) (rI0 fun i j=>.bl (decide (i ≥ j))):=opB0 fun _ _ _ _ _ _ _ q=>ge_int q
theorem o_lt:OpP X (compareOp .Lt) (gI2 (fun _ _=>True) fun i j=>.bl (decide (i < j))):=ZdK (rI0_rI opr_lt) fun _ _ _=>.bl _
theorem o_le:OpP X (compareOp .LtE) (gI2 (fun _ _=>True) fun i j=>.bl (decide (i≤j))):=ZdK (rI0_rI opr_le) fun _ _ _=>.bl _
theorem o_gt:OpP X (compareOp .Gt) (gI2 (fun _ _=>True) fun i j=>.bl (decide (i > j))):=ZdK (rI0_rI opr_gt) fun _ _ _=>.bl _
theorem o_ge:OpP X (compareOp .GtE) (gI2 (fun _ _=>True) fun i j=>.bl (decide (i ≥ j))):=ZdK (rI0_rI opr_ge) fun _ _ _=>.bl _
theorem u_neg:UnP X (unaryOp .USub) (fun x Q=>isI (fun i=>Q (.int (-i))) x):=
  ⟨⟨_,un_neg,fun W H x dx Q ok rx hg=>by
    obtain ⟨i,rfl,q⟩:=ZdM hg
    cases rx
    exact ⟨i,rfl,q.now ok (.int _)⟩⟩,fun x P P' hp h=>isI.mono (fun i hi=>hp _ hi) x h⟩
mutual
def toP:D→Option PyData
  | .non=>some .none
  | .bl b=>some (.bool b)
  | .int i=>some (.int i)
  | .str x=>some (.str x)
  | .tup xs=>(toPs xs).map .tuple
  | .lst xs=>(toPs xs).map .list
  | .dic=>none
  | .pen=>none
  | .cls _=>none
  | .exc _=>none
  | .ty _=>none
  | .scr _=>none
def toPs:List D→Option (List PyData)
  | []=>some []
  | x::r=>match toP x,toPs r with
    | some a,some b=>some (a::b)
    | _,_=>none
end
variable {pins:List (Addr×Obj)} {σ:L2.St} {H:Hp} {s:Shared} {W:Wd}
mutual
theorem ZeH (I:Inv X pins σ H s) (ok:WOk W H):∀ {v:V} {d:D} {u:Value} {p:PyData},Rep X.K W v d→RelV v u→toP d=some p→∃ as,Reads s.heap u p as
  | _,_,u,p,.non,r,e=>by cases e;cases r;exact ⟨_,.none⟩
  | _,_,u,p,.bl b,r,e=>by cases e;cases r;exact ⟨_,.bool b⟩
  | _,_,u,p,.int i,r,e=>by cases e;obtain ⟨t,rfl⟩:=r;exact ⟨_,.int i t⟩
  | _,_,u,p,.str x,r,e=>by cases e;obtain ⟨t,rfl⟩:=r;exact ⟨_,.str x t⟩
  | .ref a,.tup ds,u,p,.tup e0 rs,r,e=>by
    cases r
    cases q:toPs ds with
    | none=>rw [toP,q] at e;cases e
    | some ps=>
      rw [toP,q] at e
      cases e
      obtain ⟨its,rv,⟨o,h1,h2,n,h3⟩,_⟩:=I.tuple (xs:=_) (SqT.of (ok.g _ _ e0))
      obtain ⟨as,ra⟩:=ZeI I ok rs rv q
      exact ⟨_,.tuple h1 h2 h3 (by simpa using ra)⟩
  | .ref a,.tup ds,u,p,.ktup e0 rs,r,e=>by
    cases r
    cases q:toPs ds with
    | none=>rw [toP,q] at e;cases e
    | some ps=>
      rw [toP,q] at e
      cases e
      obtain ⟨its,rv,⟨o,h1,h2,n,h3⟩,_⟩:=I.tuple (xs:=_) (.inr e0)
      obtain ⟨as,ra⟩:=ZeI I ok rs rv q
      exact ⟨_,.tuple h1 h2 h3 (by simpa using ra)⟩
  | .ref a,.lst ds,u,p,.lst e0 rs,r,e=>by
    cases r
    cases q:toPs ds with
    | none=>rw [toP,q] at e;cases e
    | some ps=>
      rw [toP,q] at e
      cases e
      obtain ⟨its,rv,⟨o,n,h1,h2,h3,h4⟩,_⟩:=I.list (xs:=_) (SqL.of (ok.g _ _ e0))
      obtain ⟨as,ra⟩:=ZeI I ok rs rv q
      exact ⟨_,.list h1 h2 h4 (by simpa using ra)⟩
  | _,_,u,p,.dic _,r,e=>by rw [toP] at e;cases e
  | _,_,u,p,.pen _,r,e=>by rw [toP] at e;cases e
  | _,_,u,p,.cls _,r,e=>by rw [toP] at e;cases e
  | _,_,u,p,.exc _ _ _,r,e=>by rw [toP] at e;cases e
  | _,_,u,p,.ty _,r,e=>by rw [toP] at e;cases e
  | _,_,u,p,.scr _ _,r,e=>by rw [toP] at e;cases e
theorem ZeI (I:Inv X pins σ H s) (ok:WOk W H):∀ {vs:List V} {ds:List D} {us:List Value} {ps:List PyData},Reps X.K W vs ds→Vals vs us→toPs ds=some ps→∃ as,ReadsAll s.heap us ps as
  | _,_,us,ps,.nil,r,e=>by rw [toPs] at e;cases e;cases r;exact ⟨_,.nil⟩
  | _,d::ds,us,ps,.cons rd rs,r,e=>by
    rw [toPs] at e
    cases q1:toP d with
    | none=>rw [q1] at e;cases e
    | some a=>
      cases q2:toPs ds with
      | none=>rw [q1,q2] at e;cases e
      | some b=>
        rw [q1,q2] at e
        cases e
        cases r with
        | cons r1 r2=>
          obtain ⟨as,ra⟩:=ZeH I ok rd r1 q1
          obtain ⟨bs,rb⟩:=ZeI I ok rs r2 q2
          exact ⟨_,.cons ra rb⟩
end
def gEq (neg:Bool):G2:=fun x y Q=>∃ p q,toP x=some p∧toP y=some q∧PySem.SeqAt.shaped p=true∧PySem.SeqAt.shaped q=true∧Q (.bl (if neg then !PyData.eqv p q else PyData.eqv p q))
theorem gEq.mono {neg:Bool}:∀ x y P P',(∀ d,P d→P' d)→gEq neg x y P→gEq neg x y P':=fun x y P P' hp ⟨p,q,h1,h2,h3,h4,h5⟩=>⟨p,q,h1,h2,h3,h4,hp _ h5⟩
theorem o_eq (hu:X.A.units+64 < cLine):OpP X (compareOp .Eq) (gEq false):=by
  refine ⟨⟨fun x y H Q=>∃ W dx dy,WOk W H∧Rep X.K W x dx∧Rep X.K W y dy∧gEq false dx dy (RQ X.K W H Q),?_,fun W H x y dx dy Q ok rx ry hg=>⟨W,dx,dy,ok,rx,ry,hg⟩⟩,gEq.mono⟩
  rintro pins s σ H x y v u Q I rx ry ⟨W,dx,dy,ok,r1,r2,p,q,h1,h2,h3,h4,h5⟩
  obtain ⟨as,ra⟩:=ZeH I ok r1 rx h1
  obtain ⟨bs,rb⟩:=ZeH I ok r2 ry h2
  exact eq_dataH ra rb h3 h4 hu ⟨.bl _,H,I,rfl,h5.now ok (.bl _)⟩
theorem o_ne (hu:X.A.units+64 < cLine):OpP X (compareOp .NotEq) (gEq true):=by
  refine ⟨⟨fun x y H Q=>∃ W dx dy,WOk W H∧Rep X.K W x dx∧Rep X.K W y dy∧gEq true dx dy (RQ X.K W H Q),?_,fun W H x y dx dy Q ok rx ry hg=>⟨W,dx,dy,ok,rx,ry,hg⟩⟩,gEq.mono⟩
  rintro pins s σ H x y v u Q I rx ry ⟨W,dx,dy,ok,r1,r2,p,q,h1,h2,h3,h4,h5⟩
  obtain ⟨as,ra⟩:=ZeH I ok r1 rx h1
  obtain ⟨bs,rb⟩:=ZeH I ok r2 ry h2
  exact ne_dataH ra rb h3 h4 hu ⟨.bl _,H,I,rfl,h5.now ok (.bl _)⟩
end
section
variable {X:Cx} {EX:XK} {pos p2:Pos} {a:Expr} {wa:WE}
def gAdd:G2:=fun x y Q=>match x,y with
  | .int i,.int j=>Q (.int (i+j))
  | .lst xs,.lst ys=>xs.length+ys.length≤small∧Q (.lst (xs++ys))
  | .tup xs,.tup ys=>xs.length+ys.length≤small∧Q (.tup (xs++ys))
  | _,_=>False
theorem gAdd.mono:∀ x y P P',(∀ d,P d→P' d)→gAdd x y P→gAdd x y P':=fun x y P P' hp hg=>by
  unfold gAdd at hg ⊢
  split at hg
  · exact hp _ hg
  · exact ⟨hg.1,hp _ hg.2⟩
  · exact ⟨hg.1,hp _ hg.2⟩
  · exact hg.elim
def rCatS (K:PySem.W.Frag):R2:=fun x y H Q=>∃ l b xs zs,x = .ref l∧y = .ref b∧SqL K H l xs∧SqL K H b zs∧xs.length+zs.length≤sizeLine∧∀ p,H p=none→Q (.ref p) (upd H p (.lst (xs++zs)))
theorem op_catS:OpR X (binaryOp .Add) (rCatS X.K):=by
  intro pins s σ H x y v u Q I rx ry h
  obtain ⟨l,b,xs,zs,rfl,rfl,hH,hB,hz,q⟩:=h
  cases rx
  cases ry
  obtain ⟨its,r,pl,z⟩:=I.list hH
  obtain ⟨its2,r2,pl2,z2⟩:=I.list hB
  have hl:=r.length
  have hl2:=r2.length
  obtain ⟨⟨cls,dd,data,sl⟩,n,ho,hc,_,hd⟩:=pl
  obtain ⟨⟨cls2,dd2,data2,sl2⟩,n2,ho2,hc2,_,hd2⟩:=pl2
  simp only at hc hd hc2 hd2
  subst hc hd hc2 hd2
  have e:its.toArray++its2.toArray=(its++its2).toArray:=by simp
  refine concat_meets ⟨_,ho,rfl⟩ ⟨_,ho2,rfl⟩ noFill_list_add seq_list_add PySem.F.slot_list_add PySem.F.entry_list_add (PySem.F.args_list_add_2 _ _) (list_addW l b its.toArray its2.toArray n n2 dd dd2 sl sl2 (by simp;omega)) ⟨ho,ho2,?_⟩
  rw [e]
  exact ⟨.ref _,_,I.lnew (t':=s.toks) (r.append r2) (by rw [List.length_append];omega),rfl,q _ I.fresh⟩
def rCatTT (K:PySem.W.Frag):R2:=fun x y H Q=>∃ a b xs ys,x = .ref a∧y = .ref b∧SqT K H a xs∧SqT K H b ys∧xs.length+ys.length≤sizeLine∧
  (xs=[]→Q (.ref b) H)∧(ys=[]→Q (.ref a) H)∧∀ p,H p=none→Q (.ref p) (upd H p (.tup (xs++ys)))
theorem op_catTT:OpR X (binaryOp .Add) (rCatTT X.K):=by
  intro pins s σ H x y v u Q I rx ry h
  obtain ⟨a,b,xs,ys,rfl,rfl,ha,hb,hz,q1,q2,q3⟩:=h
  by_cases hx:xs=[]
  · cases rx
    cases ry
    obtain ⟨its,r1,p1,_⟩:=I.tuple ha
    obtain ⟨its2,r2,p2,_⟩:=I.tuple hb
    have hi:its=[]:=r1.nil_iff.mpr hx
    obtain ⟨⟨cls,dd,data,sl⟩,ho,hc,n,hd⟩:=id p1
    obtain ⟨⟨cls2,dd2,data2,sl2⟩,ho2,hc2,n2,hd2⟩:=id p2
    simp only at hc hd hc2 hd2
    subst hc hd hc2 hd2
    exact concat_meets ⟨_,ho,rfl⟩ ⟨_,ho2,rfl⟩ noFill_tuple_add seq_tuple_add PySem.F.slot_tuple_add PySem.F.entry_tuple_add (PySem.F.args_tuple_add_2 _ _)
      (tuple_addW0 a b its.toArray its2.toArray n n2 dd dd2 sl sl2 (by simp [hi])) ⟨ho,ho2,⟨.ref b,H,I,rfl,q1 hx⟩⟩
  · exact op_catT pins s σ H _ _ v u Q I rx ry ⟨a,b,xs,ys,rfl,rfl,ha,hb,hx,hz,q2,fun _=>q3⟩
theorem ZaT:OpP X (binaryOp .Add) gAdd:=by
  refine ⟨⟨_,(rI0_rI op_add).or (op_catS.or op_catTT),fun W H x y dx dy Q ok rx ry hg=>?_⟩,gAdd.mono⟩
  unfold gAdd at hg
  split at hg
  · cases rx;cases ry
    exact .inl ⟨_,_,rfl,rfl,trivial,hg.now ok (.int _)⟩
  · obtain ⟨p,vs,rfl,h1,r1⟩:=rx.sql ok
    obtain ⟨q,us,rfl,h2,r2⟩:=ry.sql ok
    refine .inr (.inl ⟨p,q,vs,us,rfl,rfl,h1,h2,by rw [r1.length,r2.length];exact ZaY hg.1,fun a ha=>hg.2.lst ok (r1.append r2) ha⟩)
  · obtain ⟨p,vs,rfl,h1,r1⟩:=rx.sqt ok
    obtain ⟨q,us,rfl,h2,r2⟩:=ry.sqt ok
    rename_i xs ys
    refine .inr (.inr ⟨p,q,vs,us,rfl,rfl,h1,h2,by rw [r1.length,r2.length];exact ZaY hg.1,fun e=>?_,fun e=>?_,fun a ha=>hg.2.tup ok (r1.append r2) ha⟩)
    · subst e
      cases r1
      exact hg.2.now ok ry
    · subst e
      cases r2
      rw [List.append_nil] at hg
      exact hg.2.now ok rx
  · exact hg.elim
def gMul:G2:=fun x y Q=>match x,y with
  | .int i,.int j=>MulOk i j∧Q (.int (i*j))
  | .lst xs,.int k=>k < 1000∧-1000 < k∧xs.length*k.toNat≤small∧Q (.lst (List.replicate k.toNat xs).flatten)
  | _,_=>False
theorem gMul.mono:∀ x y P P',(∀ d,P d→P' d)→gMul x y P→gMul x y P':=fun x y P P' hp hg=>by
  unfold gMul at hg ⊢
  split at hg
  · exact ⟨hg.1,hp _ hg.2⟩
  · exact ⟨hg.1,hg.2.1,hg.2.2.1,hp _ hg.2.2.2⟩
  · exact hg.elim
theorem reps_rep {K:PySem.W.Frag} {W:Wd} {vs:List V} {ds:List D} (r:Reps K W vs ds) (n:Nat):Reps K W (List.replicate n vs).flatten (List.replicate n ds).flatten:=by
  induction n with
  | zero=>exact .nil
  | succ n ih=>rw [List.replicate_succ,List.replicate_succ,List.flatten_cons,List.flatten_cons];exact r.append ih
theorem Zbt:OpP X (binaryOp .Mult) gMul:=by
  refine ⟨⟨_,opr_mul.or op_rep,fun W H x y dx dy Q ok rx ry hg=>?_⟩,gMul.mono⟩
  unfold gMul at hg
  split at hg
  · cases rx;cases ry
    exact .inl ⟨_,_,rfl,rfl,hg.1,hg.2.now ok (.int _)⟩
  · cases ry
    cases rx with
    | @lst l vs _ e r=>
      refine .inr ⟨l,_,vs,rfl,rfl,ok.g _ _ e,by omega,by omega,?_,fun p hp=>hg.2.2.2.lst ok (reps_rep r _) hp⟩
      rw [r.length]
      exact ZaY hg.2.2.1
  · exact hg.elim
theorem atI_of {vs:List V} {xs:List D} {K:PySem.W.Frag} {W:Wd} (r:Reps K W vs xs) {i:Int} {d:D} (h:atI xs i=some d):∃ v,atI vs i=some v∧Rep K W v d:=by
  unfold atI at h ⊢
  rw [r.length]
  cases q:ixN xs.length i with
  | none=>rw [q] at h;cases h
  | some k=>
    rw [q] at h
    obtain ⟨v,e,rv⟩:=r.get (show xs[k]? = some d from h)
    exact ⟨v,e,rv⟩
def gIx:G2:=fun x y Q=>isI (fun i=>match x with
  | .tup xs=>∃ d,atI xs i=some d∧Q d
  | .lst xs=>∃ d,atI xs i=some d∧Q d
  | .scr xs=>∃ d,atI xs i=some d∧Q d
  | _=>False) y
theorem gIx.mono:∀ x y P P',(∀ d,P d→P' d)→gIx x y P→gIx x y P':=fun x y P P' hp hg=>isI.mono (fun i h=>by
  split at h
  · obtain ⟨d,e,q⟩:=h;exact ⟨d,e,hp _ q⟩
  · obtain ⟨d,e,q⟩:=h;exact ⟨d,e,hp _ q⟩
  · obtain ⟨d,e,q⟩:=h;exact ⟨d,e,hp _ q⟩
  · exact h.elim) y hg
theorem i_ix:IxP X gIx:=by
  refine ⟨⟨_,ix_seq,fun W H x y dx dy Q ok rx ry hg=>?_⟩,gIx.mono⟩
  obtain ⟨i,rfl,h⟩:=ZdM hg
  cases ry
  split at h
  · obtain ⟨d,e,q⟩:=h
    obtain ⟨p,vs,rfl,h1,r1⟩:=rx.sqt ok
    obtain ⟨v,e1,rv⟩:=atI_of r1 e
    exact .inr (.inl ⟨p,vs,i,v,rfl,rfl,h1,e1,q.now ok rv⟩)
  · obtain ⟨d,e,q⟩:=h
    obtain ⟨p,vs,rfl,h1,r1⟩:=rx.sql ok
    obtain ⟨v,e1,rv⟩:=atI_of r1 e
    exact .inl ⟨p,vs,i,v,rfl,rfl,h1,e1,q.now ok rv⟩
  · obtain ⟨d,e,q⟩:=h
    obtain ⟨p,vs,rfl,h1,r1⟩:=rx.sqs ok
    obtain ⟨v,e1,rv⟩:=atI_of r1 e
    exact .inl ⟨p,vs,i,v,rfl,rfl,h1,e1,q.now ok rv⟩
  · exact h.elim
theorem Reps.cut {K:PySem.W.Frag} {W:Wd} {vs:List V} {ds:List D} (r:Reps K W vs ds) (lo hi:Option Int):Reps K W (cutV vs lo hi) (cutD ds lo hi):=by
  unfold cutV cutD
  rw [r.length]
  exact (r.drop _).take _
theorem cut_whole {xs:List D} {lo hi:Option Int} (h:HT.sIx xs.length 0 lo=0∧HT.sIx xs.length xs.length hi=xs.length):cutD xs lo hi=xs:=by
  unfold cutD
  rw [h.1,h.2]
  simp
theorem gCut.mono {lo hi:Option Int}:∀ x P P',(∀ d,P d→P' d)→gCut x lo hi P→gCut x lo hi P':=fun x P P' hp hg=>by
  unfold gCut at hg ⊢
  split at hg
  · exact hp _ hg
  · exact hp _ hg
  · exact hp _ hg
  · exact hg.elim
def wCut (wa:WE) (wl wh:(Ex→Prop)→Rho→(Option Int→Prop)→Prop):WE:=fun E ρ Q=>wa E ρ fun x=>wl E ρ fun l=>wh E ρ fun h=>gCut x l h Q
theorem Zbs {lo hi:Option Expr} {wl wh} (ha:PX X EX a wa) (hl:PXO X EX lo wl) (hh:PXO X EX hi wh):PX X EX (.Subscript a (.Slice lo hi none p2) pos) (wCut wa wl wh):=by
  obtain ⟨ta,pa,ka⟩:=ha.t
  obtain ⟨tl,pl,kl⟩:=hl.t
  obtain ⟨th,ph,kh⟩:=hh.t
  refine ⟨⟨_,pe_slice (sl_list.or (sl_tup.or sl_tupW)) pa pl ph,fun W0 H0 W σ H ρ E Q s eo h=>?_⟩,fun E ρ P P' hp h=>ha.mono _ _ _ _ (fun x hx=>hl.mono _ _ _ _ (fun l hl'=>hh.mono _ _ _ _ (fun u hu=>gCut.mono x _ _ hp hu) hl') hx) h⟩
  refine ka W0 H0 W σ H ρ E _ s eo (ha.mono _ _ _ _ (fun dx hx v W1 H1 x1 r1=>?_) h)
  refine kl W0 H0 W1 σ H1 ρ E _ (s.step x1) eo (hl.mono _ _ _ _ (fun l hl' W2 H2 x2=>?_) hx)
  refine kh W0 H0 W2 σ H2 ρ E _ ((s.step x1).step x2) eo (hh.mono _ _ _ _ (fun u hu W3 H3 x3=>?_) hl')
  have r3:=(x2.trans x3).rep r1
  have hu':=gCut.mono dx _ _ (fun d hd=>RQ.ext hd (x1.trans (x2.trans x3))) hu
  unfold gCut at hu'
  split at hu'
  · obtain ⟨p,vs,rfl,h1,rr⟩:=r3.sqt x3.ok
    rename_i xs
    by_cases hw:HT.sIx vs.length 0 l=0∧HT.sIx vs.length vs.length u=vs.length
    · refine .inr (.inr ⟨p,vs,rfl,h1,hw,?_⟩)
      rw [rr.length] at hw
      rw [cut_whole hw] at hu'
      exact hu'.now x3.ok r3
    · exact .inr (.inl ⟨p,vs,rfl,h1,hw,fun q hq=>hu'.tup x3.ok (rr.cut l u) hq⟩)
  · obtain ⟨p,vs,rfl,h1,rr⟩:=r3.sql x3.ok
    exact .inl ⟨p,vs,rfl,h1,fun q hq=>hu'.lst x3.ok (rr.cut l u) hq⟩
  · obtain ⟨p,vs,rfl,h1,rr⟩:=r3.sqs x3.ok
    exact .inl ⟨p,vs,rfl,h1,fun q hq=>hu'.lst x3.ok (rr.cut l u) hq⟩
  · exact hu'.elim
def gRev:D→(D→Prop)→Prop:=fun x Q=>match x with
  | .tup xs=>Q (.tup xs.reverse)
  | .lst xs=>Q (.lst xs.reverse)
  | _=>False
theorem gRev.mono:∀ x P P',(∀ d,P d→P' d)→gRev x P→gRev x P':=fun x P P' hp hg=>by
  unfold gRev at hg ⊢
  split at hg
  · exact hp _ hg
  · exact hp _ hg
  · exact hg.elim
theorem px_rev {j pos3 pos4} (ha:PX X EX a wa):PX X EX (.Subscript a (.Slice none none (some (.UnaryOp .USub (.Constant (.int 1) j pos3) pos4)) p2) pos) (w1 gRev wa):=by
  obtain ⟨ta,pa,ka⟩:=ha.t
  refine ⟨⟨_,pe_rev pa,fun W0 H0 W σ H ρ E Q s eo h=>?_⟩,fun E ρ P P' hp h=>ha.mono _ _ _ _ (fun x hx=>gRev.mono x _ _ hp hx) h⟩
  refine ka W0 H0 W σ H ρ E _ s eo (ha.mono _ _ _ _ (fun dx hx v W1 H1 x1 r1=>?_) h)
  have hu':=gRev.mono dx _ _ (fun d hd=>RQ.ext hd x1) hx
  unfold gRev at hu'
  split at hu'
  · obtain ⟨p,vs,rfl,h1,rr⟩:=r1.sqt x1.ok
    exact ⟨p,vs,rfl,.inl ⟨h1,fun q hq=>hu'.tup x1.ok rr.rev hq⟩⟩
  · obtain ⟨p,vs,rfl,h1,rr⟩:=r1.sql x1.ok
    exact ⟨p,vs,rfl,.inr ⟨h1,fun q hq=>hu'.lst x1.ok rr.rev hq⟩⟩
  · exact hu'.elim
def gLen:List D→(D→Prop)→Prop:=fun ds Q=>match ds with
  | [.tup xs]=>Q (.int xs.length)
  | [.lst xs]=>Q (.int xs.length)
  | [.scr xs]=>Q (.int xs.length)
  | _=>False
theorem Zb7:CallP X (.builtin "len") gLen:=by
  refine ⟨⟨_,call_len_seq,fun W H vs ds Q ok r hg=>?_⟩,fun ds P P' hp hg=>?_⟩
  · unfold gLen at hg
    split at hg
    · obtain ⟨v,rfl,rv⟩:=r.one
      obtain ⟨p,us,rfl,h1,rr⟩:=rv.sqt ok
      exact ⟨p,us,rfl,.inr h1,by rw [rr.length];exact hg.now ok (.int _)⟩
    · obtain ⟨v,rfl,rv⟩:=r.one
      obtain ⟨p,us,rfl,h1,rr⟩:=rv.sql ok
      exact ⟨p,us,rfl,.inl h1,by rw [rr.length];exact hg.now ok (.int _)⟩
    · obtain ⟨v,rfl,rv⟩:=r.one
      obtain ⟨p,us,rfl,h1,rr⟩:=rv.sqs ok
      exact ⟨p,us,rfl,.inl h1,by rw [rr.length];exact hg.now ok (.int _)⟩
    · exact hg.elim
  · unfold gLen at hg ⊢
    split at hg
    · exact hp _ hg
    · exact hp _ hg
    · exact hp _ hg
    · exact hg.elim
def gSeq {α:Type}:List D→(List D→Prop)→Prop:=fun ds Q=>match ds with
  | [.tup xs]=>Q xs
  | [.lst xs]=>Q xs
  | [.scr xs]=>Q xs
  | _=>False
theorem c_list:CallL X (.type "list") (gSeq (α:=Unit)):=by
  refine ⟨⟨_,call_list_of,fun W H vs ds Q ok r hg=>?_⟩,fun ds P P' hp hg=>?_⟩
  · unfold gSeq at hg
    split at hg
    · obtain ⟨v,rfl,rv⟩:=r.one
      obtain ⟨p,us,rfl,h1,rr⟩:=rv.sqt ok
      exact ⟨p,us,rfl,.inr h1,fun l hl=>hg l us hl rr⟩
    · obtain ⟨v,rfl,rv⟩:=r.one
      obtain ⟨p,us,rfl,h1,rr⟩:=rv.sql ok
      exact ⟨p,us,rfl,.inl h1,fun l hl=>hg l us hl rr⟩
    · obtain ⟨v,rfl,rv⟩:=r.one
      obtain ⟨p,us,rfl,h1,rr⟩:=rv.sqs ok
      exact ⟨p,us,rfl,.inl h1,fun l hl=>hg l us hl rr⟩
    · exact hg.elim
  · unfold gSeq at hg ⊢
    split at hg
    · exact hp _ hg
    · exact hp _ hg
    · exact hp _ hg
    · exact hg.elim
def ZcD:List D→(D→Prop)→Prop:=fun ds Q=>match ds with
  | [.tup xs]=>Q (.tup xs)
  | [.lst xs]=>Q (.tup xs)
  | _=>False
theorem ZeB:CallP X (.type "tuple") ZcD:=by
  refine ⟨⟨_,call_tuple_of,fun W H vs ds Q ok r hg=>?_⟩,fun ds P P' hp hg=>?_⟩
  · unfold ZcD at hg
    split at hg
    · obtain ⟨v,rfl,rv⟩:=r.one
      obtain ⟨p,us,rfl,h1,rr⟩:=rv.sqt ok
      exact ⟨p,us,rfl,.inr ⟨h1,hg.now ok rv⟩⟩
    · obtain ⟨v,rfl,rv⟩:=r.one
      obtain ⟨p,us,rfl,h1,rr⟩:=rv.sql ok
      exact ⟨p,us,rfl,.inl ⟨h1,fun l hl=>hg.tup ok rr hl⟩⟩
    · exact hg.elim
  · unfold ZcD at hg ⊢
    split at hg
    · exact hp _ hg
    · exact hp _ hg
    · exact hg.elim
def gAbs:List D→(D→Prop)→Prop:=fun ds Q=>match ds with
  | [.int i]=>Q (.int (if i < 0 then -i else i))
  | _=>False
theorem c_abs:CallP X (.builtin "abs") gAbs:=by
  refine ⟨⟨_,call_abs,fun W H vs ds Q ok r hg=>?_⟩,fun ds P P' hp hg=>?_⟩
  · unfold gAbs at hg
    split at hg
    · obtain ⟨v,rfl,rv⟩:=r.one
      cases rv
      exact ⟨_,rfl,hg.now ok (.int _)⟩
    · exact hg.elim
  · unfold gAbs at hg ⊢
    split at hg
    · exact hp _ hg
    · exact hg.elim
def gMax:List D→(D→Prop)→Prop:=fun ds Q=>match ds with
  | [.int i,.int j]=>Q (.int (if j > i then j else i))
  | _=>False
theorem c_max (hc:X.calm=true):CallP X (.builtin "max") gMax:=by
  refine ⟨⟨_,call_max2 hc,fun W H vs ds Q ok r hg=>?_⟩,fun ds P P' hp hg=>?_⟩
  · unfold gMax at hg
    split at hg
    · obtain ⟨v,u,rfl,rv,ru⟩:=r.two
      cases rv;cases ru
      exact ⟨_,_,rfl,hg.now ok (.int _)⟩
    · exact hg.elim
  · unfold gMax at hg ⊢
    split at hg
    · exact hp _ hg
    · exact hg.elim
def gInt:List D→(D→Prop)→Prop:=fun ds Q=>match ds with
  | [.int i]=>Q (.int i)
  | [.bl b]=>Q (.int (if b then 1 else 0))
  | _=>False
theorem c_int:CallP X (.type "int") gInt:=by
  refine ⟨⟨_,call_int1,fun W H vs ds Q ok r hg=>?_⟩,fun ds P P' hp hg=>?_⟩
  · unfold gInt at hg
    split at hg
    · obtain ⟨v,rfl,rv⟩:=r.one
      cases rv
      exact .inl ⟨_,rfl,hg.now ok (.int _)⟩
    · obtain ⟨v,rfl,rv⟩:=r.one
      cases rv
      exact .inr ⟨_,rfl,hg.now ok (.int _)⟩
    · exact hg.elim
  · unfold gInt at hg ⊢
    split at hg
    · exact hp _ hg
    · exact hp _ hg
    · exact hg.elim
end
section
variable {X:Cx} {EX:XK} {pos p2:Pos} {a:Expr} {wa:WE}
def tyD:D→Option String
  | .non=>some "NoneType" | .bl _=>some "bool" | .int _=>some "int" | .str _=>some "str" | .tup _=>some "tuple" | .lst _=>some "list" | .dic=>some "dict"
  | .pen=>none | .cls _=>none | .exc _=>none | .ty _=>none | .scr _=>none
def isTy (t T:String):Bool:=t == T || (t == "bool" && T == "int")
def tys:List String:=["int", "bool", "str", "tuple", "list"]
theorem kit_ty (K:PySem.W.Frag) {d:D} {t T:String} (ht:tyD d=some t) (hT:T∈tys):PySem.W.kitOne K (.type t) (.type T)=some (isTy t T):=by
  simp only [tys,List.mem_cons,List.not_mem_nil,or_false] at hT
  cases d<;>first
    | (cases ht;done)
    | (cases ht;rcases hT with rfl | rfl | rfl | rfl | rfl<;>rfl)
def gIs:List D→(D→Prop)→Prop:=fun ds Q=>match ds with
  | [x,.ty T]=>∃ t,tyD x=some t∧T∈tys∧Q (.bl (isTy t T))
  | _=>False
theorem gIs.mono:∀ ds P P',(∀ d,P d→P' d)→gIs ds P→gIs ds P':=fun ds P P' hp hg=>by
  unfold gIs at hg ⊢
  split at hg
  · obtain ⟨t,h1,h2,h3⟩:=hg;exact ⟨t,h1,h2,hp _ h3⟩
  · exact hg.elim
theorem Za1:CallP X (.builtin "isinstance") gIs:=by
  refine ⟨⟨fun vs H Q=>∃ W ds,WOk W H∧Reps X.K W vs ds∧gIs ds (RQ X.K W H Q),?_,fun W H vs ds Q ok r hg=>⟨W,ds,ok,r,hg⟩⟩,gIs.mono⟩
  rintro pins s σ H vs us Q I rv ⟨W,ds,ok,rs,hg⟩
  unfold gIs at hg
  split at hg
  · rename_i x T
    obtain ⟨t,h1,h2,q⟩:=hg
    obtain ⟨v,w',rfl,r1,r2⟩:=rs.two
    cases r2
    obtain ⟨u,u2,rfl,ru,ru2⟩:=vals2 rv
    obtain rfl:u2=Value.type T:=ru2
    have e:=kit_ty X.K h1 h2
    have fin:∀ tk,EP X pins σ Q (.bool (isTy t T)) { s with toks:=tk }:=fun tk=>⟨.bl _,H,I.tok tk,rfl,q.now ok (.bl _)⟩
    cases r1 with
    | non=>cases h1;cases ru;exact PySem.W.kia_one PySem.W.kitx_none I.kIn True.intro e (fun z=>nomatch z) fin
    | bl b=>cases h1;cases ru;exact PySem.W.kia_one PySem.W.kitx_bool I.kIn True.intro e (fun z=>nomatch z) fin
    | int i=>cases h1;obtain ⟨t',rfl⟩:=ru;exact PySem.W.kia_one PySem.W.kitx_int I.kIn True.intro e (fun z=>nomatch z) fin
    | str i=>cases h1;obtain ⟨t',rfl⟩:=ru;exact PySem.W.kia_one PySem.W.kitx_str I.kIn True.intro e (fun z=>nomatch z) fin
    | tup e0 rr=>
      cases h1;cases ru
      obtain ⟨its,_,⟨o,h1,h2,_⟩,_⟩:=I.tuple (SqT.of (ok.g _ _ e0))
      exact PySem.W.kia_one PySem.W.kitx_tuple I.kIn ⟨o,h1,h2⟩ e (fun z=>nomatch z) fin
    | ktup e0 rr=>
      cases h1;cases ru
      obtain ⟨its,_,⟨o,h1,h2,_⟩,_⟩:=I.tuple (.inr e0)
      exact PySem.W.kia_one PySem.W.kitx_tuple I.kIn ⟨o,h1,h2⟩ e (fun z=>nomatch z) fin
    | lst e0 rr=>
      cases h1;cases ru
      obtain ⟨its,_,⟨o,n,h1,h2,_⟩,_⟩:=I.list (SqL.of (ok.g _ _ e0))
      exact PySem.W.kia_one PySem.W.kitx_list I.kIn ⟨o,h1,h2⟩ e (fun z=>nomatch z) fin
    | @dic a e0=>
      cases h1;cases ru
      obtain ⟨_,_,vs,_,p⟩:=(show ObjOk X.prog X.w H s.heap a (.dK []) from I.hok a _ (ok.g _ _ e0))
      obtain ⟨o,es,ep,h1,h2,_⟩:=p
      exact PySem.W.kia_one PySem.W.kitx_dict I.kIn ⟨o,h1,h2.1⟩ e (fun z=>nomatch z) fin
    | pen _=>cases h1
    | cls _=>cases h1
    | exc _ _=>cases h1
    | ty _=>cases h1
    | scr _ _=>cases h1
  · exact hg.elim
theorem call_all_bl (hc:X.calm=true):CallR X (.builtin "all") (fun xs H Q=>∃ (p:Addr) (bs:List Bool),xs=[.ref p]∧SqL X.K H p (bs.map V.bl)∧Q (.bl (bs.all id)) H):=by
  intro pins s σ H xs us Q I r h
  obtain ⟨p,bs,rfl,hq,q⟩:=h
  obtain ⟨u,rfl,ru⟩:=vals1 r
  cases ru
  obtain ⟨its,rv,pl,hz⟩:=I.list hq
  have hpl:p < s.heap.objs.size:=by obtain ⟨o,n,e,_⟩:=pl;exact Heap.lt_size e
  have hits:its=bs.map Value.bool:=by
    clear hz pl hq q
    induction bs generalizing its with
    | nil=>cases rv;rfl
    | cons b bs ih=>
      cases rv with
      | cons r1 r2=>
        obtain rfl:_=Value.bool b:=r1
        rw [List.map_cons,ih _ r2]
  subst hits
  refine call_all_walk (wpAny_pyIter_list pl.isList ?_)
  have hh:X.A.in1.handled=none:=I.ok.hd hc
  refine ⟨s.heap.objs.size,_,_,_,_,_,fun i=>(bs[i]?).getD true,rfl,Walks.list hh _ p (Nat.ne_of_lt hpl) (bs.map Value.bool).toArray,⟨⟨_,Heap.get?_push_size _ rfl,rfl,rfl⟩,pl.isList.at fun o e=>Heap.get?_push_of_some _ e⟩,fun i v s' Q' E' hP hQ=>?_,fun h' tk hk=>?_⟩
  · have hP':(bs.map Value.bool)[i]? = some v:=by simpa using hP
    rw [List.getElem?_map] at hP'
    cases e:bs[i]? with
    | none=>rw [e] at hP';cases hP'
    | some b=>
      rw [e] at hP'
      have:v=Value.bool b:=(Option.some.inj hP').symm
      subst this
      refine wpAny_truthy_bool ?_
      have e2:(bs[i]?).getD true=b:=by rw [e];rfl
      dsimp only at hQ
      rw [e2] at hQ
      exact hQ
  · have e:((List.range (bs.map Value.bool).toArray.size).all fun i=>(bs[i]?).getD true)=bs.all id:=by
      rw [List.size_toArray,List.length_map,Bool.eq_iff_iff,List.all_eq_true,List.all_eq_true]
      constructor
      · intro h b hb
        obtain ⟨i,hi,e⟩:=List.mem_iff_getElem.mp hb
        have:=h i (List.mem_range.mpr hi)
        rw [List.getElem?_eq_getElem hi] at this
        rw [← e]
        exact this
      · intro h i hi
        have hi':=List.mem_range.mp hi
        rw [List.getElem?_eq_getElem hi']
        exact h _ (List.getElem_mem hi')
    rw [e]
    refine ⟨.bl (bs.all id),H,?_,rfl,q⟩
    refine I.kept fun b o e=>hk b o ?_ (Heap.get?_push_of_some _ e)
    intro z
    have:b=s.heap.objs.size:=by simpa using z
    exact absurd (Heap.lt_size e) (by rw [this];exact Nat.lt_irrefl _)
def gAll:List D→(D→Prop)→Prop:=fun ds Q=>match ds with
  | [.lst xs]=>∃ bs:List Bool,xs=bs.map D.bl∧Q (.bl (bs.all id))
  | _=>False
theorem reps_bl {K:PySem.W.Frag} {W:Wd}:∀ {vs:List V} {bs:List Bool},Reps K W vs (bs.map D.bl)→vs=bs.map V.bl
  | _,[],.nil=>rfl
  | _,b::bs,.cons r t=>by cases r;rw [List.map_cons,reps_bl t]
theorem c_all (hc:X.calm=true):CallP X (.builtin "all") gAll:=by
  refine ⟨⟨_,call_all_bl hc,fun W H vs ds Q ok r hg=>?_⟩,fun ds P P' hp hg=>?_⟩
  · unfold gAll at hg
    split at hg
    · obtain ⟨bs,rfl,q⟩:=hg
      obtain ⟨v,rfl,rv⟩:=r.one
      obtain ⟨p,us,rfl,h1,rr⟩:=rv.sql ok
      rw [reps_bl rr] at h1
      exact ⟨p,bs,rfl,h1,q.now ok (.bl _)⟩
    · exact hg.elim
  · unfold gAll at hg ⊢
    split at hg
    · obtain ⟨bs,e,q⟩:=hg;exact ⟨bs,e,hp _ q⟩
    · exact hg.elim
end
section
variable {K:PySem.W.Frag} {W0 W:Wd} {H0 H:Hp} {σ:L2.St} {ρ:Rho}
theorem SOk.set (s:SOk K W0 H0 W σ H ρ) {i:Nat} {v:V} {x:D} (r:Rep K W v x):SOk K W0 H0 W (σ.set i (some v)) H (ρ.set i (.d x)) where
  ext:=s.ext
  len:=by rw [List.length_set,List.length_set];exact s.len
  d:=fun j y e=>by
    by_cases h:i=j
    · subst h
      by_cases hi:i < ρ.length
      · rw [List.getElem?_set_self hi] at e
        cases e
        exact ⟨v,List.getElem?_set_self (by rw [← s.len];exact hi),r⟩
      · rw [List.getElem?_eq_none (by rw [List.length_set];omega)] at e;cases e
    · rw [List.getElem?_set_ne h] at e ⊢;exact s.d j y e
  o:=fun j ys e=>by
    by_cases h:i=j
    · subst h
      by_cases hi:i < ρ.length
      · rw [List.getElem?_set_self hi] at e;cases e
      · rw [List.getElem?_eq_none (by rw [List.length_set];omega)] at e;cases e
    · rw [List.getElem?_set_ne h] at e ⊢;exact s.o j ys e
  ne:=fun j k xs ys a hjk e1 e2 e3=>by
    have nj:i≠j:=fun h=>by
      subst h
      by_cases hi:i < ρ.length
      · rw [List.getElem?_set_self hi] at e1;cases e1
      · rw [List.getElem?_eq_none (by rw [List.length_set];omega)] at e1;cases e1
    have nk:i≠k:=fun h=>by
      subst h
      by_cases hi:i < ρ.length
      · rw [List.getElem?_set_self hi] at e2;cases e2
      · rw [List.getElem?_eq_none (by rw [List.length_set];omega)] at e2;cases e2
    rw [List.getElem?_set_ne nj] at e1 e3
    rw [List.getElem?_set_ne nk] at e2 ⊢
    exact s.ne j k xs ys a hjk e1 e2 e3
  oo:=s.oo.set (fun _ h=>by cases h) (fun j h=>List.getElem?_set_ne h) fun _ _ h=>by cases h
theorem SOk.own {W1:Wd} {H1:Hp} (s1:SOk K W0 H0 W1 σ H1 ρ) (x:Ext W1 H1 W H) {i:Nat} {a:Addr} {vs:List V} {xs:List D} (hz:H1 a=none) (h1:H a=some (.lst vs)) (h2:W.G a=none) (h3:¬ W.Pn a) (r:Reps K W vs xs):SOk K W0 H0 W (σ.set i (some (.ref a))) H (ρ.set i (.ow xs)):=by
 have s:=s1.step x
 have h4:H0 a=none:=s1.ext.isN hz
 have hn:∀ (j:Nat) ys b,j≠i→ρ[j]? = some (SV.ow ys)→σ[j]? = some (some (V.ref b))→b≠a:=fun j ys b _ ej eb q=>by
  obtain ⟨b',us,q1,q2,_⟩:=s1.o j ys ej
  rw [eb] at q1
  cases q1
  rw [q,hz] at q2
  cases q2
 exact {
  ext:=s.ext
  len:=by rw [List.length_set,List.length_set];exact s.len
  d:=fun j y e=>by
    by_cases h:i=j
    · subst h
      by_cases hi:i < ρ.length
      · rw [List.getElem?_set_self hi] at e;cases e
      · rw [List.getElem?_eq_none (by rw [List.length_set];omega)] at e;cases e
    · rw [List.getElem?_set_ne h] at e ⊢;exact s.d j y e
  o:=fun j ys e=>by
    by_cases h:i=j
    · subst h
      by_cases hi:i < ρ.length
      · rw [List.getElem?_set_self hi] at e
        cases e
        exact ⟨a,vs,List.getElem?_set_self (by rw [← s.len];exact hi),h1,h2,h3,h4,r⟩
      · rw [List.getElem?_eq_none (by rw [List.length_set];omega)] at e;cases e
    · rw [List.getElem?_set_ne h] at e ⊢;exact s.o j ys e
  ne:=fun j k ys zs b hjk e1 e2 e3 e4=>by
    by_cases hj:i=j
    · subst hj
      by_cases hi:i < ρ.length
      · rw [List.getElem?_set_self (by rw [← s.len];exact hi)] at e3
        cases e3
        rw [List.getElem?_set_ne hjk] at e2 e4
        exact hn k zs _ (Ne.symm hjk) e2 e4 rfl
      · rw [List.getElem?_eq_none (by rw [List.length_set];omega)] at e1;cases e1
    · by_cases hk:i=k
      · subst hk
        by_cases hi:i < ρ.length
        · rw [List.getElem?_set_self (by rw [← s.len];exact hi)] at e4
          cases e4
          rw [List.getElem?_set_ne hj] at e1 e3
          exact hn j ys _ (Ne.symm hj) e1 e3 rfl
        · rw [List.getElem?_eq_none (by rw [List.length_set];omega)] at e2;cases e2
      · rw [List.getElem?_set_ne hj] at e1 e3
        rw [List.getElem?_set_ne hk] at e2 e4
        exact s.ne j k ys zs b hjk e1 e2 e3 e4
  oo:=by
    refine ⟨fun j xss e=>?_,fun j k xss yss e1 e2=>?_⟩
    · have h:i≠j:=fun h=>by
        subst h
        by_cases hi:i < ρ.length
        · rw [List.getElem?_set_self hi] at e;cases e
        · rw [List.getElem?_eq_none (by rw [List.length_set];omega)] at e;cases e
      rw [List.getElem?_set_ne h] at e
      obtain ⟨a',bs,e1,q,n⟩:=s1.oo.t j xss e
      refine ⟨a',bs,by rw [List.getElem?_set_ne h];exact e1,q.step x,fun k ys c ek ec=>?_⟩
      by_cases hk:i=k
      · subst hk
        by_cases hi:i < ρ.length
        · rw [List.getElem?_set_self (by rw [← s.len];exact hi)] at ec
          cases ec
          exact q.here hz
        · rw [List.getElem?_eq_none (by rw [List.length_set];omega)] at ek;cases ek
      · rw [List.getElem?_set_ne hk] at ek ec
        exact n k ys c ek ec
    · have g:∀ {j:Nat} {xss:List (List D)},(ρ.set i (.ow xs))[j]? = some (SV.oo xss)→ρ[j]? = some (SV.oo xss):=fun {j xss} e=>by
        by_cases h:i=j
        · subst h
          by_cases hi:i < ρ.length
          · rw [List.getElem?_set_self hi] at e;cases e
          · rw [List.getElem?_eq_none (by rw [List.length_set];omega)] at e;cases e
        · rw [List.getElem?_set_ne h] at e;exact e
      exact s.oo.u j k xss yss (g e1) (g e2) }
def pub (i:Nat) (ρ:Rho):Rho:=match ρ[i]? with
  | some (.ow xs)=>ρ.set i (.d (.lst xs))
  | _=>ρ
theorem SOk.pub (s:SOk K W0 H0 W σ H ρ) (i:Nat):∃ W',SOk K W0 H0 W' σ H (LP.pub i ρ)∧Wle W W':=by
  unfold LP.pub
  split
  · rename_i xs e
    obtain ⟨a,vs,e1,e2,e3,e4,e5,r⟩:=s.o i xs e
    have hi:i < ρ.length:=(List.getElem?_eq_some_iff.mp e).1
    refine ⟨W.put a (.lst vs),⟨s.ext.pub e5 e2 e4 e3,by rw [List.length_set];exact s.len,fun j y ej=>?_,fun j ys ej=>?_,fun j k ys zs b hjk ej ek e6=>?_,?_⟩,⟨Zcj e3,fun _ z=>z⟩⟩
    · by_cases h:i=j
      · subst h
        rw [List.getElem?_set_self hi] at ej
        cases ej
        exact ⟨_,e1,.lst (by unfold Wd.put;dsimp only;rw [upd_same]) (r.mono (Zcj e3) fun _ z=>z)⟩
      · rw [List.getElem?_set_ne h] at ej
        obtain ⟨v,q1,q2⟩:=s.d j y ej
        exact ⟨v,q1,q2.mono (Zcj e3) fun _ z=>z⟩
    · have h:i≠j:=fun h=>by subst h;rw [List.getElem?_set_self hi] at ej;cases ej
      rw [List.getElem?_set_ne h] at ej
      obtain ⟨b,us,q1,q2,q3,q4,q5,rr⟩:=s.o j ys ej
      have hba:b≠a:=fun z=>s.ne i j xs ys a h e ej e1 (by rw [← z];exact q1)
      refine ⟨b,us,q1,q2,?_,q4,q5,rr.mono (Zcj e3) fun _ z=>z⟩
      unfold Wd.put
      dsimp only
      rw [upd_ne hba]
      exact q3
    · have h:i≠j:=fun h=>by subst h;rw [List.getElem?_set_self hi] at ej;cases ej
      have h':i≠k:=fun h=>by subst h;rw [List.getElem?_set_self hi] at ek;cases ek
      rw [List.getElem?_set_ne h] at ej
      rw [List.getElem?_set_ne h'] at ek
      exact s.ne j k ys zs b hjk ej ek e6
    · exact OOs.set ⟨fun j xss ej=>let ⟨a',bs,q1,q,n⟩:=s.oo.t j xss ej;⟨a',bs,q1,q.put (n i xs a e e1) e3,n⟩,s.oo.u⟩ (fun _ h=>by cases h) (fun _ _=>rfl) fun _ _ h=>by cases h
  · exact ⟨W,s,.refl W⟩
theorem SOk.chg (s:SOk K W0 H0 W σ H ρ) {i:Nat} {a:Addr} {xs ys:List D} {us:List V} (e:ρ[i]? = some (.ow xs)) (e1:σ[i]? = some (some (.ref a))) (r:Reps K W us ys):SOk K W0 H0 W σ (upd H a (.lst us)) (ρ.set i (.ow ys)):=by
  obtain ⟨a',vs,q1,q2,q3,q4,q5,rr⟩:=s.o i xs e
  rw [e1] at q1
  cases q1
  have hi:i < ρ.length:=(List.getElem?_eq_some_iff.mp e).1
  refine ⟨s.ext.chg q5 q2 q4 q3,by rw [List.length_set];exact s.len,fun j y ej=>?_,fun j zs ej=>?_,fun j k ys' zs b hjk ej ek e6=>?_,OOs.set ⟨fun j xss ej=>let ⟨a',bs,p1,q,n⟩:=s.oo.t j xss ej;⟨a',bs,p1,q.upd (n i xs a e e1),n⟩,s.oo.u⟩ (fun _ h=>by cases h) (fun _ _=>rfl) fun ys c _ ec j xss a' bs _ ej ea _ n=>n i xs c e ec⟩
  · have h:i≠j:=fun h=>by subst h;rw [List.getElem?_set_self hi] at ej;cases ej
    rw [List.getElem?_set_ne h] at ej
    exact s.d j y ej
  · by_cases h:i=j
    · subst h
      rw [List.getElem?_set_self hi] at ej
      cases ej
      exact ⟨a,us,e1,upd_same,q3,q4,q5,r⟩
    · rw [List.getElem?_set_ne h] at ej
      obtain ⟨b,ws,p1,p2,p3,p4,p5,pr⟩:=s.o j zs ej
      have hba:b≠a:=fun z=>s.ne i j xs zs a h e ej e1 (by rw [← z];exact p1)
      exact ⟨b,ws,p1,by rw [upd_ne hba];exact p2,p3,p4,p5,pr⟩
  · by_cases h:i=j
    · subst h
      rw [List.getElem?_set_ne hjk] at ek
      exact s.ne i k xs zs b hjk e ek e6
    · rw [List.getElem?_set_ne h] at ej
      by_cases h':i=k
      · subst h'
        intro z
        exact s.ne i j xs ys' b h e ej z e6
      · rw [List.getElem?_set_ne h'] at ek
        exact s.ne j k ys' zs b hjk ej ek e6
end
section
variable {X:Cx} {EX:XK} {pos:Pos} {st:Stmt} {rest:List Stmt} {e a b c:Expr} {w wa wb:WE} {z z':WS}
def zNx:WS:=fun _ N ρ=>N.nx ρ
def zSeq (z z':WS):WS:=fun E N ρ=>z E { N with nx:=z' E N } ρ
theorem Nds.le_nx {N N':Nds} (h:N.le N') {n n':Rho→Prop} (hn:∀ ρ,n ρ→n' ρ):Nds.le { N with nx:=n } { N' with nx:=n' }:=⟨hn,h.rt,h.bk,h.ct⟩
theorem Zaz:PZs X EX [] zNx:=⟨⟨_,pss_nil,fun _ _ _ W σ H ρ _ Dn N s fl _ no h=>no.nx W σ H ρ s fl h⟩,fun _ _ _ _ hl h=>hl.nx _ h⟩
theorem Zae (h1:PZ X EX st z) (h2:PZs X EX rest z'):PZs X EX (st::rest) (zSeq z z'):=by
  obtain ⟨t1,p1,k1⟩:=h1.t
  obtain ⟨t2,p2,k2⟩:=h2.t
  refine ⟨⟨_,pss_cons p1 p2,fun W0 H0 F W σ H ρ E Dn N s fl eo no h=>?_⟩,fun E ρ N N' hl h=>h1.mono _ _ _ _ (Nds.le_nx hl fun ρ' h'=>h2.mono _ _ _ _ hl h') h⟩
  exact k1 W0 H0 F W σ H ρ E _ { N with nx:=z' E N } s fl eo ⟨fun W1 σ1 H1 ρ1 s1 f1 hn=>k2 W0 H0 F W1 σ1 H1 ρ1 E Dn N s1 f1 eo no hn,no.rt,no.bk,no.ct⟩ h
theorem Zaf (h1:PZ X EX st z):PZs X EX [st] z:=by
  obtain ⟨t1,p1,k1⟩:=h1.t
  exact ⟨⟨_,pss_one p1,k1⟩,h1.mono⟩
def zPub (i:Nat) (z:WS):WS:=fun E N ρ=>z E N (pub i ρ)
theorem Za4 (i:Nat) {sts:List Stmt} (h:PZs X EX sts z):PZs X EX sts (zPub i z):=by
  obtain ⟨t,p,k⟩:=h.t
  refine ⟨⟨t,p,fun W0 H0 F W σ H ρ E Dn N s fl eo no h=>?_⟩,fun E ρ N N' hl q=>h.mono _ _ _ _ hl q⟩
  obtain ⟨W',s',f'⟩:=s.pub i
  exact k W0 H0 F W' σ H _ E Dn N s' (fl.trans f') eo no h
def Zdm (w:WE):WS:=fun E N ρ=>w E ρ fun _=>N.nx ρ
theorem pz_expr (he:PX X EX e w) (hs:swapsWith e none pos.line X.env=pure false:=by rfl):PZ X EX (.Expr e pos) (Zdm w):=by
  obtain ⟨t,p,k⟩:=he.t
  refine ⟨⟨_,ps_expr p hs,fun W0 H0 F W σ H ρ E Dn N s fl eo no h=>?_⟩,fun E ρ N N' hl q=>he.mono _ _ _ _ (fun _=>hl.nx ρ) q⟩
  exact k W0 H0 W σ H ρ E _ s eo (he.mono _ _ _ _ (fun d hd v W1 H1 x1 r1=>no.nx W1 σ H1 ρ (s.step x1) (fl.ext x1) hd) h)
def zRet (w:WE):WS:=fun E N ρ=>w E ρ N.rt
theorem Zaj (he:PX X EX e w):PZ X EX (.Return (some e) pos) (zRet w):=by
  obtain ⟨t,p,k⟩:=he.t
  refine ⟨⟨_,ps_ret p,fun W0 H0 F W σ H ρ E Dn N s fl eo no h=>?_⟩,fun E ρ N N' hl q=>he.mono _ _ _ _ hl.rt q⟩
  exact k W0 H0 W σ H ρ E _ s eo (he.mono _ _ _ _ (fun d hd v W1 H1 x1 r1=>no.rt d v W1 H1 (s.ext.trans x1) r1 hd) h)
def zIf (w:WT) (z z':WS):WS:=fun E N ρ=>w E ρ fun b=>if b=true then z E N ρ else z' E N ρ
theorem Za7 {w:WT} {as bs:List Stmt} (hc:PXT X EX c w) (ha:PZs X EX as z) (hb:PZs X EX bs z'):PZ X EX (.If c as bs pos) (zIf w z z'):=by
  obtain ⟨t,p,k⟩:=hc.t
  obtain ⟨ta,pa,ka⟩:=ha.t
  obtain ⟨tb,pb,kb⟩:=hb.t
  refine ⟨⟨_,ps_if p pa pb,fun W0 H0 F W σ H ρ E Dn N s fl eo no h=>?_⟩,fun E ρ N N' hl q=>hc.mono _ _ _ _ (fun b hb'=>?_) q⟩
  · refine k W0 H0 W σ H ρ E _ s eo (hc.mono _ _ _ _ (fun b hb' W1 H1 x1=>?_) h)
    cases b with
    | true=>rw [if_pos rfl] at hb' ⊢;exact ka W0 H0 F W1 σ H1 ρ E Dn N (s.step x1) (fl.ext x1) eo no hb'
    | false=>rw [if_neg (by decide)] at hb' ⊢;exact kb W0 H0 F W1 σ H1 ρ E Dn N (s.step x1) (fl.ext x1) eo no hb'
  · cases b with
    | true=>rw [if_pos rfl] at hb' ⊢;exact ha.mono _ _ _ _ hl hb'
    | false=>rw [if_neg (by decide)] at hb' ⊢;exact hb.mono _ _ _ _ hl hb'
def zSet (i:Nat) (w:WE):WS:=fun E N ρ=>w E ρ fun x=>N.nx (ρ.set i (.d x))
theorem Zan (i:Nat) {x:Str} {pos':Pos} (he:PX X EX e w) (hN:X.N.Nodup) (hi:X.N[i]? = some x:=by rfl) (hx:Loc X.env.scope x:=by first | exact Or.inl rfl | exact Or.inr rfl) (hs:swapsWith e (some (.Name x pos')) pos.line X.env=pure false:=by rfl)
    (hf:X.fn x=true∨X.env.scope.names.lookup x=some .local:=by first | exact .inl rfl | exact .inr rfl | assumption):PZ X EX (.Assign [.Name x pos'] e pos) (zSet i w):=by
  obtain ⟨t,p,k⟩:=he.t
  refine ⟨⟨_,ps_set hN hi hx p hs hf,fun W0 H0 F W σ H ρ E Dn N s fl eo no h=>?_⟩,fun E ρ N N' hl q=>he.mono _ _ _ _ (fun _=>hl.nx _) q⟩
  exact k W0 H0 W σ H ρ E _ s eo (he.mono _ _ _ _ (fun d hd v W1 H1 x1 r1=>no.nx W1 _ H1 _ ((s.step x1).set r1) (fl.ext x1) hd) h)
def zOwn (i:Nat) (t:WA):WS:=fun E N ρ=>t E ρ fun xs=>N.nx (ρ.set i (.ow xs))
theorem ZeJ (i:Nat) {t:WA} {x:Str} {pos':Pos} (he:PXL X EX e t) (hN:X.N.Nodup) (hi:X.N[i]? = some x:=by rfl) (hx:Loc X.env.scope x:=by first | exact Or.inl rfl | exact Or.inr rfl) (hs:swapsWith e (some (.Name x pos')) pos.line X.env=pure false:=by rfl)
    (hf:X.fn x=true∨X.env.scope.names.lookup x=some .local:=by first | exact .inl rfl | exact .inr rfl | assumption):PZ X EX (.Assign [.Name x pos'] e pos) (zOwn i t):=by
  obtain ⟨t,p,k⟩:=he.t
  refine ⟨⟨_,ps_set hN hi hx p hs hf,fun W0 H0 F W σ H ρ E Dn N s fl eo no h=>?_⟩,fun E ρ N N' hl q=>he.mono _ _ _ _ (fun _=>hl.nx _) q⟩
  refine k W0 H0 W σ H ρ E _ s eo (he.mono _ _ _ _ (fun xs hd a vs W1 H1 x1 e1 e2 e3 e4 r1=>no.nx W1 _ H1 _ (s.own x1 e4 e1 e2 e3 r1) (fl.ext x1) hd) h)
end
def ItOk (K:PySem.W.Frag) (W:Wd) (J:It) (ds:List D):Prop:=
  ∀ W2 H2 (i:Nat),(∀ a o,W.G a=some o→W2.G a=some o)→(∀ a,W.Pn a→W2.Pn a)→WOk W2 H2→
    (∀ d,ds[i]? = some d→J.go i H2∧∀ x H3,J.yld i H2 x H3→∃ W3,Ext W2 H2 W3 H3∧Rep K W3 x d)∧(ds.length≤i→J.stop i H2)
structure PXI (X:Cx) (EX:XK) (tg iter:Expr) (w:WA):Prop where
  t:∃ t,PI X tg iter t∧∀ W0 H0 W σ H ρ E R,SOk X.K W0 H0 W σ H ρ→EOk X.K W0 H0 E EX→w E ρ (fun ds=>∀ W' H' J,Ext W H W' H'→ItOk X.K W' J ds→R J H')→t σ H R
  mono:∀ E ρ P P',(∀ d,P d→P' d)→w E ρ P→w E ρ P'
section
variable {X:Cx} {EX:XK} {pos p:Pos} {tg e a b:Expr} {w wa:WE}
def isL (Q:List D→Prop):D→Prop
  | .lst xs=>Q xs
  | _=>False
theorem isL_get {Q:List D→Prop} {d:D} (h:isL Q d):∃ xs,d = .lst xs∧Q xs:=by
  cases d with
  | lst xs=>exact ⟨xs,rfl,h⟩
  | _=>exact h.elim
theorem isL.mono {Q Q':List D→Prop} (h:∀ b,Q b→Q' b):∀ d,isL Q d→isL Q' d:=fun d z=>by
  obtain ⟨xs,rfl,q⟩:=isL_get z
  exact h _ q
def isT (Q:List D→Prop):D→Prop
  | .tup xs=>Q xs
  | _=>False
theorem isT_get {Q:List D→Prop} {d:D} (h:isT Q d):∃ xs,d = .tup xs∧Q xs:=by
  cases d with
  | tup xs=>exact ⟨xs,rfl,h⟩
  | _=>exact h.elim
theorem isT.mono {Q Q':List D→Prop} (h:∀ b,Q b→Q' b):∀ d,isT Q d→isT Q' d:=fun d z=>by
  obtain ⟨xs,rfl,q⟩:=isT_get z
  exact h _ q
def iL (w:WE):WA:=fun E ρ Q=>w E ρ (isL Q)
def iT (w:WE):WA:=fun E ρ Q=>w E ρ (isT Q)
def rng (lo:Int) (n:Nat):List D:=(List.range n).map fun (k:Nat)=>D.int (lo+k)
theorem it_rng {K:PySem.W.Frag} {W:Wd} (lo:Int) (n:Nat):ItOk K W (Itr lo n) (rng lo n):=by
  intro W2 H2 i g2 p2 ok2
  refine ⟨fun d hd=>?_,fun hi=>?_⟩
  · unfold rng at hd
    rw [List.getElem?_map] at hd
    by_cases hi:i < n
    · rw [List.getElem?_range hi] at hd
      cases hd
      refine ⟨hi,fun x H3 y=>?_⟩
      obtain ⟨rfl,rfl⟩:=y
      exact ⟨W2,.refl ok2,.int _⟩
    · rw [List.getElem?_eq_none (by simpa using hi)] at hd;cases hd
  · have:(rng lo n).length=n:=by unfold rng;simp
    rw [this] at hi
    exact hi
def i1 (Q:List D→Prop):List D→Prop
  | [.int j]=>-10000≤j∧j < 10000∧Q (rng 0 j.toNat)
  | _=>False
def i2 (Q:List D→Prop):List D→Prop
  | [.int i,.int j]=>(-10000≤i∧i < 10000∧-10000≤j∧j < 10000)∧Q (rng i (j - i).toNat)
  | _=>False
theorem i1.mono {Q Q':List D→Prop} (h:∀ b,Q b→Q' b):∀ d,i1 Q d→i1 Q' d:=fun d z=>by
  unfold i1 at z ⊢
  split at z
  · exact ⟨z.1,z.2.1,h _ z.2.2⟩
  · exact z.elim
theorem i2.mono {Q Q':List D→Prop} (h:∀ b,Q b→Q' b):∀ d,i2 Q d→i2 Q' d:=fun d z=>by
  unfold i2 at z ⊢
  split at z
  · exact ⟨z.1,h _ z.2⟩
  · exact z.elim
def iR1 (t:WA):WA:=fun E ρ Q=>t E ρ (i1 Q)
def iR2 (t:WA):WA:=fun E ρ Q=>t E ρ (i2 Q)
theorem ZaB {t:WA} (hm:X.mg "range" = none) (ha:PXA X EX [a] t) (hg:Gl X "range" :=by rfl) (hs:starEach [a] X.env=[(false,eval a X.env)]:=by rfl):PXI X EX tg (.Call (.Name "range" p) [a] [] pos) (iR1 t):=by
  obtain ⟨t,q,k⟩:=ha.t
  refine ⟨⟨_,pi_range1 hg hm q hs,fun W0 H0 W σ H ρ E R s eo h=>?_⟩,fun E ρ P P' hp h=>ha.mono _ _ _ _ (i1.mono hp) h⟩
  refine k W0 H0 W σ H ρ E _ s eo (ha.mono _ _ _ _ (fun ds hd vs W1 H1 x1 r1=>?_) h)
  unfold i1 at hd
  split at hd
  · obtain ⟨v,rfl,rv⟩:=r1.one
    cases rv
    exact ⟨_,rfl,by omega,by omega,hd.2.2 W1 H1 _ x1 (it_rng _ _)⟩
  · exact hd.elim
theorem pxi_range2 {t:WA} (hm:X.mg "range" = none) (ha:PXA X EX [a,b] t) (hg:Gl X "range" :=by rfl) (hs:starEach [a,b] X.env=[(false,eval a X.env),(false,eval b X.env)]:=by rfl) (hs2:starEach [b] X.env=[(false,eval b X.env)]:=by rfl) :
    PXI X EX tg (.Call (.Name "range" p) [a,b] [] pos) (iR2 t):=by
  obtain ⟨t,q,k⟩:=ha.t
  refine ⟨⟨_,pi_range2 hg hm q hs hs2,fun W0 H0 W σ H ρ E R s eo h=>?_⟩,fun E ρ P P' hp h=>ha.mono _ _ _ _ (i2.mono hp) h⟩
  refine k W0 H0 W σ H ρ E _ s eo (ha.mono _ _ _ _ (fun ds hd vs W1 H1 x1 r1=>?_) h)
  unfold i2 at hd
  split at hd
  · obtain ⟨v,u,rfl,rv,ru⟩:=r1.two
    cases rv;cases ru
    exact ⟨_,_,rfl,⟨by omega,by omega,by omega,by omega⟩,hd.2 W1 H1 _ x1 (it_rng _ _)⟩
  · exact hd.elim
end
abbrev WG:=D→Rho→(Rho→Prop)→Prop
def noOwn (ρ:Rho):Prop:=∀ (i:Nat),(∀ xs,ρ[i]?≠some (SV.ow xs))∧∀ xss,ρ[i]?≠some (SV.oo xss)
structure PXG (X:Cx) (tg:Expr) (g:WG):Prop where
  t:∃ t,PG X tg t∧∀ W0 H0 W σ H ρ d v Q,SOk X.K W0 H0 W σ H ρ→Rep X.K W v d→g d ρ (fun ρ'=>∀ σ',SOk X.K W0 H0 W σ' H ρ'→Q σ' H)→t v σ H Q
  mono:∀ d ρ P P',(∀ r,P r→P' r)→g d ρ P→g d ρ P'
  own:∀ d ρ P,noOwn ρ→g d ρ P→g d ρ (fun r=>noOwn r∧P r)
section
variable {X:Cx} {pos:Pos}
theorem noOwn.set {ρ:Rho} (h:noOwn ρ) (i:Nat) (d:D):noOwn (ρ.set i (.d d)):=fun j=>by
  by_cases hj:i=j
  · subst hj
    by_cases hi:i < ρ.length
    · rw [List.getElem?_set_self hi];exact ⟨fun _ e=>(by cases e),fun _ e=>(by cases e)⟩
    · rw [List.getElem?_eq_none (by rw [List.length_set];omega)];exact ⟨fun _ e=>(by cases e),fun _ e=>(by cases e)⟩
  · rw [List.getElem?_set_ne hj];exact h j
def gN (i:Nat):WG:=fun d ρ k=>k (ρ.set i (.d d))
theorem Zap (i:Nat) {x:Str} (hN:X.N.Nodup) (hi:X.N[i]? = some x:=by rfl) (hx:Loc X.env.scope x:=by first | exact Or.inl rfl | exact Or.inr rfl) (hf:X.fn x=true∨X.env.scope.names.lookup x=some .local:=by first | exact .inl rfl | exact .inr rfl | assumption) :
    PXG X (.Name x pos) (gN i):=
  ⟨⟨_,pg_name hN hi hx hf,fun W0 H0 W σ H ρ d v Q s r h=>h _ (s.set r)⟩,fun d ρ P P' hp h=>hp _ h,fun d ρ P ho h=>⟨ho.set i d,h⟩⟩
end
def Zbq (nv:Nat) (sel:List Nat) (ρ:Rho):Rho:=List.replicate nv .un++sel.map fun j=>match ρ[j]? with
  | some (.d x)=>.d x
  | _=>.un
theorem Zbq.own (nv:Nat) (sel:List Nat) (ρ:Rho):noOwn (Zbq nv sel ρ):=fun i=>by
  have key:∀ sv,(Zbq nv sel ρ)[i]? = some sv→sv = .un∨∃ x,sv = .d x:=fun sv e=>by
    unfold Zbq at e
    rcases Nat.lt_or_ge i nv with h | h
    · rw [List.getElem?_append_left (by simpa using h),List.getElem?_replicate] at e
      rw [if_pos h] at e
      cases e
      exact .inl rfl
    · rw [List.getElem?_append_right (by simpa using h),List.getElem?_map] at e
      cases q:sel[i - (List.replicate nv SV.un).length]? with
      | none=>rw [q] at e;cases e
      | some j=>
        rw [q] at e
        have e':=Option.some.inj e
        dsimp only at e'
        split at e'
        · exact .inr ⟨_,e'.symm⟩
        · exact .inl e'.symm
  refine ⟨fun xs e=>?_,fun xs e=>?_⟩
  · rcases key _ e with z | ⟨x,z⟩<;>cases z
  · rcases key _ e with z | ⟨x,z⟩<;>cases z
def No:Ex→Prop:=fun _=>False
def lcW (g:WG) (wf:WT) (we:WE):List D→Rho→List D→(List D→Prop)→Prop
  | [],_,acc,Q=>Q acc
  | d::ds,ρ,acc,Q=>g d ρ fun ρ2=>wf No ρ2 fun b=>if b=true then we No ρ2 fun y=>acc.length < small∧lcW g wf we ds ρ2 (acc++[y]) Q else lcW g wf we ds ρ2 acc Q
structure PXF (X:Cx) (EX:XK) (ifs:List Expr) (w:WT):Prop where
  t:∃ t,PF X ifs t∧∀ W0 H0 W σ H ρ E Q,SOk X.K W0 H0 W σ H ρ→EOk X.K W0 H0 E EX→w E ρ (fun b=>∀ W' H',Ext W H W' H'→Q b H')→t σ H Q
  mono:∀ E ρ P P',(∀ d,P d→P' d)→w E ρ P→w E ρ P'
def ZaF:WT:=fun _ _ Q=>Q true
section
variable {X:Cx} {EX:XK} {pos:Pos} {sc:Scope} {vars:List Str} {sel:List Nat} {elt target iter c:Expr} {ifs:List Expr} {g:WG} {wf:WT} {we:WE} {wi:WA}
theorem ZaE:PXF X EX [] ZaF:=⟨⟨_,pf_nil,fun _ _ W _ H _ _ _ s _ h=>h W H (.refl s.ok)⟩,fun _ _ _ _ hp h=>hp _ h⟩
theorem pxf_one (h:PXT X EX c wf):PXF X EX [c] wf:=let ⟨t,q,k⟩:=h.t;⟨⟨t,pf_one q,k⟩,h.mono⟩
theorem lcW.mono (hg:∀ d ρ P P',(∀ r,P r→P' r)→g d ρ P→g d ρ P') (hf:∀ E ρ P P',(∀ d,P d→P' d)→wf E ρ P→wf E ρ P') (he:∀ E ρ P P',(∀ d,P d→P' d)→we E ρ P→we E ρ P') :
    ∀ ds ρ acc P P',(∀ xs,P xs→P' xs)→lcW g wf we ds ρ acc P→lcW g wf we ds ρ acc P'
  | [],_,acc,P,P',hp,h=>hp _ h
  | d::ds,ρ,acc,P,P',hp,h=>hg _ _ _ _ (fun r hr=>hf _ _ _ _ (fun b hb=>by
      cases b with
      | true=>rw [if_pos rfl] at hb ⊢;exact he _ _ _ _ (fun y hy=>⟨hy.1,lcW.mono hg hf he ds r _ P P' hp hy.2⟩) hb
      | false=>rw [if_neg (by decide)] at hb ⊢;exact lcW.mono hg hf he ds r _ P P' hp hb) hr) h
def aLC (wi:WA) (nv:Nat) (sel:List Nat) (g:WG) (wf:WT) (we:WE):WA:=fun E ρ Q=>wi E ρ fun ds=>lcW g wf we ds (Zbq nv sel ρ) [] Q
theorem aLC.mono (hi:PXI X EX target iter wi) (hg:∀ d ρ P P',(∀ r,P r→P' r)→g d ρ P→g d ρ P') (hf:∀ E ρ P P',(∀ d,P d→P' d)→wf E ρ P→wf E ρ P') (he:∀ E ρ P P',(∀ d,P d→P' d)→we E ρ P→we E ρ P') :
    ∀ E ρ P P',(∀ d,P d→P' d)→aLC wi vars.length sel g wf we E ρ P→aLC wi vars.length sel g wf we E ρ P':=fun E ρ P P' hp h=>hi.mono _ _ _ _ (fun ds hds=>lcW.mono hg hf he ds _ _ _ _ hp hds) h
theorem SOk.lc {W0 W:Wd} {H0 H:Hp} {σ:L2.St} {ρ:Rho} (s:SOk X.K W0 H0 W σ H ρ) (nv:Nat) (sel:List Nat):SOk X.K W0 H0 W (lcSt nv sel σ) H (Zbq nv sel ρ) where
  ext:=s.ext
  len:=by unfold Zbq lcSt;simp
  d:=fun i x e=>by
    unfold Zbq at e
    rcases Nat.lt_or_ge i nv with h | h
    · rw [List.getElem?_append_left (by simpa using h),List.getElem?_replicate] at e
      split at e<;>cases e
    · rw [List.getElem?_append_right (by simpa using h),List.getElem?_map,List.length_replicate] at e
      cases q:sel[i - nv]? with
      | none=>rw [q] at e;cases e
      | some j=>
        rw [q] at e
        have e':=Option.some.inj e
        dsimp only at e'
        split at e'
        · rename_i y ey
          cases e'
          obtain ⟨v,ev,r⟩:=s.d j x ey
          refine ⟨v,?_,r⟩
          unfold lcSt
          rw [List.getElem?_append_right (by simpa using h),List.length_replicate,List.getElem?_map,q]
          show some ((σ[j]?).getD none)=_
          rw [ev]
          rfl
        · cases e'
  o:=fun i xs e=>absurd e ((Zbq.own nv sel ρ i).1 xs)
  ne:=fun i j xs ys a _ e=>absurd e ((Zbq.own nv sel ρ i).1 xs)
  oo:=.none fun i=>(Zbq.own nv sel ρ i).2
theorem SOk.chgD {K:PySem.W.Frag} {W0 W:Wd} {H0 H:Hp} {σ:L2.St} {ρ:Rho} {a:Addr} {o o':HO} (s:SOk K W0 H0 W σ H ρ) (ho:noOwn ρ) (h0:H0 a=none) (h1:H a=some o) (h2:¬ W.Pn a) (h3:W.G a=none):SOk K W0 H0 W σ (upd H a o') ρ:=
  ⟨s.ext.chg h0 h1 h2 h3,s.len,s.d,fun i xs e=>absurd e ((ho i).1 xs),fun i j xs ys a _ e=>absurd e ((ho i).1 xs),.none fun i=>(ho i).2⟩
theorem lc_read (hi:PXI X EX target iter wi) (hg:∀ s H fp,PXG (X.lc sc vars sel s H fp) target g) (hf:∀ s H fp,PXF (X.lc sc vars sel s H fp) E0 ifs wf) (he:∀ s H fp,PX (X.lc sc vars sel s H fp) E0 elt we) :
    ∃ (ti:TI) (tg:TG) (tf:TT) (te:TE),PI X target iter ti∧(∀ s H fp,PG (X.lc sc vars sel s H fp) target tg)∧(∀ s H fp,PF (X.lc sc vars sel s H fp) ifs tf)∧(∀ s H fp,PE (X.lc sc vars sel s H fp) elt te)∧
      ∀ W0 H0 W σ H ρ E Q,SOk X.K W0 H0 W σ H ρ→EOk X.K W0 H0 E EX→
        aLC wi vars.length sel g wf we E ρ (fun ds=>∀ a vs W' H',Ext W H W' H'→H' a=some (.lst vs)→W'.G a=none→¬ W'.Pn a→H a=none→Reps X.K W' vs ds→Q (.ref a) H')→tLC ti vars.length sel tg tf te σ H Q:=by
  obtain ⟨ti,pi,ki⟩:=hi.t
  refine ⟨ti,fun v σ H Q=>∃ W0 H0 W ρ d,SOk X.K W0 H0 W σ H ρ∧Rep X.K W v d∧g d ρ (fun ρ'=>∀ σ',SOk X.K W0 H0 W σ' H ρ'→Q σ' H),
    fun σ H Q=>∃ W0 H0 W ρ,SOk X.K W0 H0 W σ H ρ∧wf No ρ (fun b=>∀ W' H',Ext W H W' H'→Q b H'),
    fun σ H Q=>∃ W0 H0 W ρ,SOk X.K W0 H0 W σ H ρ∧we No ρ (RQ X.K W H Q),pi,fun s1 H1 fp=>?_,fun s1 H1 fp=>?_,fun s1 H1 fp=>?_,?_⟩
  · obtain ⟨t,q,k⟩:=(hg s1 H1 fp).t
    rintro pins s σ H v u Q I r ⟨W0,H0,W,ρ,d,s',r',h⟩
    exact q pins s σ H v u Q I r (k W0 H0 W σ H ρ d v Q s' r' h)
  · obtain ⟨t,q,k⟩:=(hf s1 H1 fp).t
    rintro pins s σ H Q I ⟨W0,H0,W,ρ,s',h⟩
    exact q pins s σ H Q I (k W0 H0 W σ H ρ No Q s' (fun _ _ _ _ _ z=>z.elim) h)
  · obtain ⟨t,q,k⟩:=(he s1 H1 fp).t
    rintro pins s σ H Q I ⟨W0,H0,W,ρ,s',h⟩
    exact q pins s σ H Q I (k W0 H0 W σ H ρ No Q s' (fun _ _ _ _ _ z=>z.elim) h)
  · have gm:=(hg {} (fun _=>none) []).mono
    have go:=(hg {} (fun _=>none) []).own
    have fm:=(hf {} (fun _=>none) []).mono
    have em:=(he {} (fun _=>none) []).mono
    intro W0 H0 W σ H ρ E Q s eo h
    refine ki W0 H0 W σ H ρ E _ s eo (hi.mono _ _ _ _ (fun ds hds W1 H1 J x1 it D hD=>?_) h)
    have hDf:=x1.ok.fresh hD
    have hD0:H0 D=none:=s.ext.isN (x1.isN hD)
    refine ⟨fun i m ys σ2 H2=>m=ds.length - i∧i≤ds.length∧∃ W2 ρ2 acc,Ext W1 H1 W2 H2∧SOk X.K W0 H0 W2 σ2 H2 ρ2∧noOwn ρ2∧H2 D=some (.lst ys)∧W2.G D=none∧¬ W2.Pn D∧Reps X.K W2 ys acc∧
      lcW g wf we (ds.drop i) ρ2 acc (fun ds=>∀ a vs W' H',Ext W H W' H'→H' a=some (.lst vs)→W'.G a=none→¬ W'.Pn a→H a=none→Reps X.K W' vs ds→Q (.ref a) H'),⟨_,rfl,Nat.zero_le _,W1,_,[],.new x1.ok hD,?_,Zbq.own _ _ ρ,upd_same,hDf.1,hDf.2,.nil,by rw [List.drop_zero];exact hds⟩,?_⟩
    · exact (((s.step x1).step (.new x1.ok hD)).lc vars.length sel)
    · rintro i m ys σ2 H2 ⟨rfl,hi',W2,ρ2,acc,x2,s2,no2,hD2,g2,p2,r2,q2⟩
      refine ⟨hD2,?_⟩
      obtain ⟨itg,its⟩:=it W2 H2 i x2.g x2.p x2.ok
      rcases Nat.lt_or_ge i ds.length with hlt | hge
      · have hd:ds[i]? = some ds[i]:=List.getElem?_eq_getElem hlt
        obtain ⟨go',yl⟩:=itg _ hd
        refine .inr ⟨go',fun x H3 y=>?_⟩
        obtain ⟨W3,x3,r3⟩:=yl x H3 y
        rw [List.drop_eq_getElem_cons hlt] at q2
        have keepD:∀ {W' H'},Ext W2 H2 W' H'→H' D=some (.lst ys)∧W'.G D=none∧¬ W'.Pn D:=fun {W' H'} x'=>by
          refine ⟨x'.h D _ hD2 p2,?_,fun z=>?_⟩
          · cases q:W'.G D with
            | none=>rfl
            | some o=>have:=x'.gf D g2 (by rw [q];simp);rw [hD2] at this;cases this
          · have:=x'.pf D p2 z;rw [hD2] at this;cases this
        refine ⟨W0,H0,W3,ρ2,ds[i],s2.step x3,r3,gm _ _ _ _ (fun ρ4 hr σ4 s4=>?_) (go _ _ _ no2 q2)⟩
        obtain ⟨no4,hr⟩:=hr
        refine ⟨W0,H0,W3,ρ4,s4,fm _ _ _ _ (fun b hb W5 H5 x5=>?_) hr⟩
        cases b with
        | false=>
          rw [if_neg (by decide)] at hb ⊢
          have kD:=keepD (x3.trans x5)
          exact ⟨ds.length - (i+1),by omega,rfl,hlt,W5,ρ4,acc,x2.trans (x3.trans x5),s4.step x5,no4,kD.1,kD.2.1,kD.2.2,(x3.trans x5).reps r2,hb⟩
        | true=>
          rw [if_pos rfl] at hb ⊢
          refine ⟨W0,H0,W5,ρ4,s4.step x5,em _ _ _ _ (fun y hy v W6 H6 x6 r6=>?_) hb⟩
          have xx:=x3.trans (x5.trans x6)
          have kD:=keepD xx
          have hl:ys.length=acc.length:=r2.length
          refine ⟨kD.1,by rw [hl];exact Nat.lt_of_lt_of_le hy.1 (ZaY (Nat.le_refl _)),ds.length - (i+1),by omega,rfl,hlt,W6,ρ4,acc++[y],(x2.trans xx).chg hD kD.1 kD.2.2 kD.2.1,?_,no4,upd_same,kD.2.1,kD.2.2,(xx.reps r2).append (.cons r6 .nil),hy.2⟩
          exact ((s4.step x5).step x6).chgD no4 hD0 kD.1 kD.2.2 kD.2.1
      · have e:i=ds.length:=by omega
        refine .inl ⟨its hge,?_⟩
        rw [List.drop_of_length_le hge] at q2
        exact q2 D ys W2 H2 (x1.trans x2) hD2 g2 p2 (x1.isN hD) r2
theorem Zbe (vars:List Str) (sel:List Nat) (hc:X.calm=true) (hi:PXI X EX target iter wi) (hg:∀ s H fp,PXG (X.lc sc vars sel s H fp) target g) (hf:∀ s H fp,PXF (X.lc sc vars sel s H fp) E0 ifs wf) (he:∀ s H fp,PX (X.lc sc vars sel s H fp) E0 elt we)
    (ok:Zdu sc X.env.scope=true:=by rfl) (so:selOk X.N sc sel=true:=by rfl) (hs:∀ x,foldedSetIterable iter X.env x=pure x:=by intro _;rfl):PXL X EX (.ListComp elt [⟨target,iter,ifs,0⟩] sc pos) (aLC wi vars.length sel g wf we):=by
  obtain ⟨ti,tg,tf,te,pi,pg,pf,pe,k⟩:=lc_read hi hg hf he
  exact ⟨⟨_,pe_lc vars sel hc pi ok so pg pf pe hs,k⟩,aLC.mono hi (hg {} (fun _=>none) []).mono (hf {} (fun _=>none) []).mono (he {} (fun _=>none) []).mono⟩
theorem pz_lc (i:Nat) {x:Str} {pos' spos:Pos} (vars:List Str) (sel:List Nat) (hc:X.calm=true) (hN:X.N.Nodup) (hi:PXI X EX target iter wi) (hg:∀ s H fp,PXG (X.lc sc vars sel s H fp) target g) (hf:∀ s H fp,PXF (X.lc sc vars sel s H fp) E0 ifs wf) (he:∀ s H fp,PX (X.lc sc vars sel s H fp) E0 elt we)
    (hix:X.N[i]? = some x:=by rfl) (hx:Loc X.env.scope x:=by first | exact Or.inl rfl | exact Or.inr rfl)
    (hsw:swapsWith (.ListComp elt [⟨target,iter,ifs,0⟩] sc pos) (some (.Name x pos')) spos.line X.env=pure true:=by rfl)
    (ok:Zdu sc X.env.scope=true:=by rfl) (so:selOk X.N sc sel=true:=by rfl) (hs:∀ x,foldedSetIterable iter X.env x=pure x:=by intro _;rfl) (hfn:X.fn x=true∨X.env.scope.names.lookup x=some .local:=by first | exact .inl rfl | exact .inr rfl | assumption) :
    PZ X EX (.Assign [.Name x pos'] (.ListComp elt [⟨target,iter,ifs,0⟩] sc pos) spos) (zOwn i (aLC wi vars.length sel g wf we)):=by
  obtain ⟨ti,tg,tf,te,pi,pg,pf,pe,k⟩:=lc_read hi hg hf he
  have am:=aLC.mono (vars:=vars) (sel:=sel) hi (hg {} (fun _=>none) []).mono (hf {} (fun _=>none) []).mono (he {} (fun _=>none) []).mono
  refine ⟨⟨_,ps_lc vars sel hc hN hix hx pi ok so pg pf pe hsw hs hfn,fun W0 H0 F W σ H ρ E Dn N s fl eo no h=>?_⟩,fun E ρ N N' hl q=>am _ _ _ _ (fun _=>hl.nx _) q⟩
  refine k W0 H0 W σ H ρ E _ s eo (am _ _ _ _ (fun xs hd a vs W1 H1 x1 e1 e2 e3 e4 r1=>no.nx W1 _ H1 _ (s.own x1 e4 e1 e2 e3 r1) (fl.ext x1) hd) h)
def Zb4 (g:WG) (zb:WS) (E:Ex→Prop) (N:Nds):List D→Rho→Prop
  | [],ρ=>N.nx ρ
  | d::ds,ρ=>g d ρ fun ρ1=>zb E { nx:=Zb4 g zb E N ds,rt:=N.rt,bk:=N.nx,ct:=Zb4 g zb E N ds } ρ1
def zFor (wi:WA) (g:WG) (zb:WS):WS:=fun E N ρ=>wi E ρ fun ds=>Zb4 g zb E N ds ρ
theorem Zb4.mono {zb:WS} (hg:∀ d ρ P P',(∀ r,P r→P' r)→g d ρ P→g d ρ P') (hb:∀ E ρ N N',N.le N'→zb E N ρ→zb E N' ρ) {E:Ex→Prop} {N N':Nds} (hl:N.le N'):∀ ds ρ,Zb4 g zb E N ds ρ→Zb4 g zb E N' ds ρ
  | [],ρ,h=>hl.nx _ h
  | d::ds,ρ,h=>hg _ _ _ _ (fun r hr=>hb E r { nx:=Zb4 g zb E N ds,rt:=N.rt,bk:=N.nx,ct:=Zb4 g zb E N ds } _ ⟨Zb4.mono hg hb hl ds,hl.rt,hl.nx,Zb4.mono hg hb hl ds⟩ hr) h
theorem Zcg {body:List Stmt} {zb:WS} (hp:PassesOwn (model X.prog X.w) X.A X.env X.xe) (hc:X.calm=true) (hi:PXI X EX target iter wi) (hg:PXG X target g) (hb:PZs X EX body zb)
    (hs:∀ x,foldedSetIterable iter X.env x=pure x:=by intro _;rfl):PZ X EX (.For target iter body [] pos) (zFor wi g zb):=by
  obtain ⟨ti,pi,ki⟩:=hi.t
  obtain ⟨tg,pg,kg⟩:=hg.t
  obtain ⟨tb,pb,kb⟩:=hb.t
  refine ⟨⟨_,ps_for hp hc pi pg pb hs,fun W0 H0 F W σ H ρ E Dn N s fl eo no h=>?_⟩,fun E ρ N N' hl q=>hi.mono _ _ _ _ (fun ds hds=>Zb4.mono hg.mono hb.mono hl ds ρ hds) q⟩
  refine ki W0 H0 W σ H ρ E _ s eo (hi.mono _ _ _ _ (fun ds hds W1 H1 J x1 it=>?_) h)
  refine ⟨fun i m σ2 H2=>m=ds.length - i∧i≤ds.length∧∃ W2 ρ2,SOk X.K W0 H0 W2 σ2 H2 ρ2∧Wle W1 W2∧Zb4 g zb E N (ds.drop i) ρ2,⟨_,rfl,Nat.zero_le _,W1,ρ,s.step x1,.refl W1,by rw [List.drop_zero];exact hds⟩,?_⟩
  rintro i m σ2 H2 ⟨rfl,hi',W2,ρ2,s2,f2,q2⟩
  obtain ⟨itg,its⟩:=it W2 H2 i f2.g f2.p s2.ok
  have fF:∀ {V:Wd},Wle W1 V→Wle F V:=fun f=>(fl.ext x1).trans f
  rcases Nat.lt_or_ge i ds.length with hlt | hge
  · have hd:ds[i]? = some ds[i]:=List.getElem?_eq_getElem hlt
    obtain ⟨go',yl⟩:=itg _ hd
    rw [List.drop_eq_getElem_cons hlt] at q2
    refine .inr ⟨go',fun σ3 H3=>∃ W3 ρ3,SOk X.K W0 H0 W3 σ3 H3 ρ3∧Wle W1 W3∧Zb4 g zb E N (ds.drop (i+1)) ρ3,fun σ3 H3 ⟨W3,ρ3,s3,f3,q3⟩=>⟨ds.length - (i+1),by omega,rfl,hlt,W3,ρ3,s3,f3,q3⟩,fun x H3 y=>?_⟩
    obtain ⟨W3,x3,r3⟩:=yl x H3 y
    refine kg W0 H0 W3 σ2 H3 ρ2 ds[i] x _ (s2.step x3) r3 (hg.mono _ _ _ _ (fun ρ4 hr σ4 s4=>?_) q2)
    refine kb W0 H0 W1 W3 σ4 H3 ρ4 E _ { nx:=Zb4 g zb E N (ds.drop (i+1)),rt:=N.rt,bk:=N.nx,ct:=Zb4 g zb E N (ds.drop (i+1)) } s4 (f2.ext x3) eo ⟨fun W5 σ5 H5 ρ5 s5 f5 h5=>⟨W5,ρ5,s5,f5,h5⟩,no.rt,fun W5 σ5 H5 ρ5 s5 f5 h5=>no.nx W5 σ5 H5 ρ5 s5 (fF f5) h5,fun W5 σ5 H5 ρ5 s5 f5 h5=>⟨W5,ρ5,s5,f5,h5⟩⟩ hr
  · have e:i=ds.length:=by omega
    refine .inl ⟨its hge,?_⟩
    rw [List.drop_of_length_le hge] at q2
    exact no.nx W2 σ2 H2 ρ2 s2 (fF f2) q2
end
end LP
namespace L2
open PySem PySem.Spec PyProof.Rows
namespace Fl
def Firm (P:Obj→Prop):Prop:=∀ (o:Obj) f,P o→P (o.mapFields f)
theorem map_dict (o:Obj) (f:Array Value→Array Value):(o.mapFields f).dict=o.dict:=by
  unfold Obj.mapFields
  split<;>rfl
def Is (cls:Value) (dx:Option Addr) (o:Obj):Prop:=o.cls=cls∧o.dict=dx
theorem Is.firm {cls:Value} {dx:Option Addr}:Firm (Is cls dx):=fun o f h=>⟨(Obj.cls_mapFields o f).trans h.1,(map_dict o f).trans h.2⟩
def Tr (P:Obj→Prop) (base:Heap) (e:Addr) (fl:Value) (h:Heap):Prop:=
  ∃ (oe:Obj) (vs:Array Value) (T:Addr) (oT:Obj) (ts:Array Value),h.get? e=some oe∧P oe∧oe.data = .fields vs∧vs[1]? = some (.ref T)∧base.get? T=none∧T≠e∧h.get? T=some oT∧oT.data = .fields ts∧ts[3]? = some fl
structure Up (P:Obj→Prop) (base:Heap) (l:List Env) (e:Addr) (fl:Value) (h:Heap):Prop where
  st:base.StaysIn h
  new:base.get? e=none
  fr:h.FunFrames base l
  tr:Tr P base e fl h
section
variable {M:Model} {A:Around} {E:Value→Shared→Prop} {s:Shared} {P:Obj→Prop} {base:Heap} {env:Env} {outer l:List Env} {L e:Addr} {fl:Value} {Q:Unit→Shared→Prop}
theorem entry (hP:Firm P) {oe:Obj} {vs:Array Value} {head:Value} {b:Bool} (hA:A.frames=some (env::outer)) (hl:s.heap.FunFrames base (env::outer)) (hf:env.frame=some L) (he:s.heap.get? e=some oe) (hp:P oe)
    (st:base.StaysIn s.heap) (new:base.get? e=none) (hd:oe.data = .fields vs) (hz:1 < vs.size) (k:∀ h',Up P base (env::outer) e (rawInt L) h'→s.heap.UpToSlots h'→Q () { s with heap:=h' }) :
    wpAny M A (do let a ← frameOf env;let pl ← entryPlaceOf L b;let c ← EntryCells.newEntry head a .none (rawInt L) .none pl;setField (.ref e) 1 c) Q E s:=by
  have out:e∉(env::outer).filterMap (·.frame):=fun z=>by
    obtain ⟨_,o,ho,nf⟩:=hl.mem z
    cases he.symm.trans ho
    exact nf vs hd
  refine wpAny_bind (wpAny_frameOf_fun hA hl hf fun h1 so=>?_)
  refine wpAny_bind (wpAny_entryPlaceOf fun pl place=>?_)
  unfold EntryCells.newEntry newFields
  refine wpAny_bind (wpAny_newObj_type ?_ (place.sizeOk5 _ _ _ _ _))
  generalize ho:({ cls:=.type "traceback",dict:=none,data:=.fields ([head,.ref L,.none,rawInt L,.none]++(if pl.isEmpty then List.replicate 6 Value.none else pl)).toArray }:Obj)=ob
  have e1:h1.get? e=some oe:=(so.2.1 e out).trans he
  have ne:h1.objs.size≠e:=Nat.ne_of_gt (Heap.lt_size e1)
  have e2:(h1.push ob).get? e=some oe:=Heap.get?_push_of_some ob e1
  have fr0:ob.isFreed=false:=by rw [← ho];exact Obj.isFreed_of_fields rfl
  refine wpAny_setField e2 hd hz (k _ ?_ ?_)
  · have e3:=Heap.get?_update_self (Obj.mapFields (·.setIfInBounds 1 (Value.ref h1.objs.size))) e2 (Obj.isFreed_of_fields (Obj.data_mapFields hd _))
    have oth:∀ {c o},c≠e→h1.get? c=some o→((h1.push ob).update e (Obj.mapFields (·.setIfInBounds 1 (Value.ref h1.objs.size)))).get? c=some o:=fun ne hc=>(Heap.get?_update_other _ _ (Ne.symm ne)).trans (Heap.get?_push_of_some ob hc)
    refine ⟨fun c o hc=>?_,new,hl.of_keeps fun c o hc nf=>?_,_,_,h1.objs.size,ob,_,e3,hP _ _ hp,Obj.data_mapFields hd _,by simp [hz],?_,ne,(Heap.get?_update_other _ _ (Ne.symm ne)).trans (Heap.get?_push_size h1 fr0),by rw [← ho],?_⟩
    · exact oth (fun z=>by rw [z,new] at hc;cases hc) ((so.2.1 c fun z=>by rw [(hl.mem z).1] at hc;cases hc).trans (st c o hc))
    · obtain ⟨sl,hs⟩:=so.2.2 c o hc
      exact ⟨_,oth (fun z=>by rw [z,he] at hc;cases hc;exact nf vs hd) hs,rfl⟩
    · cases q:base.get? h1.objs.size with
      | none=>rfl
      | some o=>
        have:h1.get? h1.objs.size=some o:=(so.2.1 _ fun z=>by rw [(hl.mem z).1] at q;cases q).trans (st _ o q)
        exact absurd (Heap.lt_size this) (Nat.lt_irrefl _)
    · rcases place with rfl | ⟨_,_,_,_,_,_,_,rfl⟩<;>simp
  · intro c o hc nf
    obtain ⟨sl,hs⟩:=so.2.2 c o hc
    exact ⟨sl,(Heap.get?_update_other _ _ (Ne.symm fun z=>by rw [z,he] at hc;cases hc;exact nf vs hd)).trans (Heap.get?_push_of_some ob hs)⟩
theorem note_new (hP:Firm P) {oe:Obj} {vs:Array Value} (hA:A.frames=some (env::outer)) (hl:s.heap.FunFrames base (env::outer)) (hf:env.frame=some L) (he:s.heap.get? e=some oe) (hp:P oe)
    (st:base.StaysIn s.heap) (new:base.get? e=none) (hd:oe.data = .fields vs) (h1:vs[1]? = some .none) (k:∀ h',Up P base (env::outer) e (rawInt L) h'→s.heap.UpToSlots h'→Q () { s with heap:=h' }) :
    wpAny M A (noteFrame (.ref e) env) Q E s:=by
  unfold noteFrame
  simp only [hf]
  refine wpAny_bind (wpAny_field he hd h1 ?_)
  rw [if_neg (by decide)]
  exact entry hP hA hl hf he hp st new hd (Array.getElem?_eq_some_iff.mp h1).1 k
theorem note (hP:Firm P) (hA:A.frames=some (env::outer)) (hf:env.frame=some L) (u:Up P base (env::outer) e .none s.heap)
    (k:∀ h',Up P base (env::outer) e (rawInt L) h'→s.heap.UpToSlots h'→Q () { s with heap:=h' }):wpAny M A (noteFrame (.ref e) env) Q E s:=by
  obtain ⟨st,new,fr,oe,vs,T,oT,ts,he,hp,hd,h1,nT,Te,hT,dT,h3⟩:=u
  unfold noteFrame
  simp only [hf]
  refine wpAny_bind (wpAny_field he hd h1 ?_)
  rw [if_pos (show (Value.ref T != Value.none)=true from by simp)]
  refine wpAny_bind (wpAny_field hT dT h3 ?_)
  rw [if_neg (by simp [rawInt])]
  refine wpAny_bind (wpAny_setField hT dT (Array.getElem?_eq_some_iff.mp h3).1 ?_)
  have oth:∀ {c o},c≠T→s.heap.get? c=some o→(s.heap.update T (Obj.mapFields (·.setIfInBounds 3 Value.none))).get? c=some o:=fun ne hc=>(Heap.get?_update_other _ _ (Ne.symm ne)).trans hc
  have notT:∀ {c o},s.heap.get? c=some o→(∀ vs,o.data≠.fields vs)→c≠T:=fun hc nf z=>by
    rw [z,hT] at hc
    cases hc
    exact nf ts dT
  refine entry hP hA (fr.of_keeps fun c o hc nf=>⟨o,oth (notT hc nf) hc,rfl⟩) hf (oth (Ne.symm Te) he) hp (fun c o hc=>oth (fun z=>by rw [z,nT] at hc;cases hc) (st c o hc)) new hd (Array.getElem?_eq_some_iff.mp h1).1 fun h' u' up=>k h' u' fun c o hc nf=>up c o (oth (notT hc nf) hc) nf
theorem lands (u:Up P base l e fl s.heap) (k:∀ h',Up P base l e .none h'→s.heap.UpToSlots h'→Q () { s with heap:=h' }):wpAny M A (setFlight (.ref e) none) Q E s:=by
  obtain ⟨st,new,fr,oe,vs,T,oT,ts,he,hp,hd,h1,nT,Te,hT,dT,h3⟩:=u
  have oth:∀ {c o},c≠T→s.heap.get? c=some o→(s.heap.update T (Obj.mapFields (·.setIfInBounds 3 ((none:Option Addr).elim Value.none fun f=>rawInt f)))).get? c=some o:=fun ne hc=>(Heap.get?_update_other _ _ (Ne.symm ne)).trans hc
  have notT:∀ {c o},s.heap.get? c=some o→(∀ vs,o.data≠.fields vs)→c≠T:=fun hc nf z=>by
    rw [z,hT] at hc
    cases hc
    exact nf ts dT
  have z3:=(Array.getElem?_eq_some_iff.mp h3).1
  unfold setFlight
  refine wpAny_bind (wpAny_field he hd h1 ?_)
  rw [if_pos (show (Value.ref T != Value.none)=true from by simp)]
  refine wpAny_setField hT dT z3 (k _ ⟨fun c o hc=>oth (fun z=>by rw [z,nT] at hc;cases hc) (st c o hc),new,fr.of_keeps fun c o hc nf=>⟨o,oth (notT hc nf) hc,rfl⟩,oe,vs,T,_,_,oth (Ne.symm Te) he,hp,hd,h1,nT,Te,Heap.get?_update_self _ hT (Obj.isFreed_of_fields (Obj.data_mapFields dT _)),Obj.data_mapFields dT _,by simp [z3]⟩ fun c o hc nf=>⟨o.slots,oth (notT hc nf) hc⟩)
theorem Up.out (u:Up P base (env::outer) e fl s.heap):Up P base outer e fl s.heap:=⟨u.st,u.new,u.fr.2.2,u.tr⟩
theorem Up.there {h:Heap} (u:Up P base l e fl h):∃ ob,h.get? e=some ob∧P ob∧∃ vs,ob.data = .fields vs:=by
  obtain ⟨oe,vs,_,_,_,he,hp,hd,_⟩:=u.tr
  exact ⟨oe,he,hp,vs,hd⟩
theorem leaves (hP:Firm P) (hA:A.frames=some (env::outer)) (hf:env.frame=some L) (u:Up P base (env::outer) e .none s.heap) (k:∀ h',Up P base outer e .none h'→s.heap.UpToSlots h'→Q () { s with heap:=h' }) :
    wpAny M A (leaving env (.ref e)) Q E s:=by
  unfold leaving
  exact wpAny_bind (note hP hA hf u fun h1 u1 up1=>lands (s:={ s with heap:=h1 }) u1 fun h2 u2 up2=>k h2 ⟨u2.st,u2.new,u2.fr.2.2,u2.tr⟩ (up1.trans up2))
theorem leaves_new (hP:Firm P) {oe:Obj} {vs:Array Value} (hA:A.frames=some (env::outer)) (hl:s.heap.FunFrames base (env::outer)) (hf:env.frame=some L) (he:s.heap.get? e=some oe) (hp:P oe)
    (st:base.StaysIn s.heap) (new:base.get? e=none) (hd:oe.data = .fields vs) (h1:vs[1]? = some .none) (k:∀ h',Up P base outer e .none h'→s.heap.UpToSlots h'→Q () { s with heap:=h' }):wpAny M A (leaving env (.ref e)) Q E s:=by
  unfold leaving
  exact wpAny_bind (note_new hP hA hl hf he hp st new hd h1 fun h1 u1 up1=>lands (s:={ s with heap:=h1 }) u1 fun h2 u2 up2=>k h2 ⟨u2.st,u2.new,u2.fr.2.2,u2.tr⟩ (up1.trans up2))
end
end Fl
namespace Fl
section
variable {M:Model} {prog:Program} {w:World} {A:Around} {E:Value→Shared→Prop} {env:Env} {h:Heap} {g:Array GenState} {d:Drawn} {t:Nat} {os:OsState} {s:Shared}
variable {nm q:Str} {C N fI:Addr} {bs bm bmB:List Value} {hdct:Bool} {sn:List Str} {sub:List Value} {ab:Bool} {col:Option Bool} {dd:Option Addr} {k0 k1 k2 k3 k5:Option Value} {B newId initId:String} {mN:Str→Option Value} {rest:List Value} {oI:Obj}
end
end Fl
namespace Fl
open PySem.Builtin PySem.Builtin.ObjectAttr
inductive Tl (h:Heap) (ns:List Str) (bmB:List Value):List Value→Prop
  | last:Tl h ns bmB bmB
  | more {a:Addr} {c:Value} {dd:Option Addr} {cd:ClassData} {sl:Array (Option Value)} {m:Str→Option Value} {l:List Value}:h.get? a=some ⟨c,dd,.cls cd,sl⟩→h.Ns cd.ns m→(∀ n∈ns,m n=none)→Tl h ns bmB l→Tl h ns bmB (.ref a::l)
section
variable {h h':Heap} {ns:List Str} {bmB l:List Value}
theorem Tl.keeps (T:Tl h ns bmB l) (k:∀ b o,h.get? b=some o→h'.get? b=some o):Tl h' ns bmB l:=by
  induction T with
  | last=>exact .last
  | more a b c _ ih=>exact .more (k _ _ a) (b.keeps k) c ih
theorem Tl.own (T:Tl h ns bmB l) (i:("__init__" : Str)∈ns):OwnTail h bmB l:=by
  induction T with
  | last=>exact .base
  | more a b c _ ih=>exact .own a b (c _ i) ih
end
section
variable {M:Model} {prog:Program} {w:World} {A:Around} {E:Value→Shared→Prop} {h:Heap} {g:Array GenState} {d:Drawn} {t:Nat} {os:OsState}
variable {nm q:Str} {C N x:Addr} {bs bm bmB:List Value} {hdct:Bool} {sn:List Str} {sub:List Value} {ab:Bool} {col:Option Bool} {dd:Option Addr} {k0 k1 k2 k3 k5:Option Value} {B newId sa owner:String} {mN:Str→Option Value} {ns:List Str}
theorem along {l:List Value} {n:Str} {y:Option Value} {Q:Option Value→Shared→Prop} (T:Tl h ns bmB l) (i:n∈ns) (r:lookupAlong bmB n=pure y) (k:Q y ⟨h,g,d,t,os⟩):wpAny M A (lookupAlong l n) Q E ⟨h,g,d,t,os⟩:=by
  induction T with
  | last=>
    rw [r]
    exact wpAny_pure k
  | more a b c _ ih=>
    rw [lookupAlong_cons]
    refine wpAny_bind (wpAny_classOwn_cls a b ?_)
    rw [c n i]
    exact ih
theorem look {n:Str} {y:Option Value} {Q:Option Value→Shared→Prop} (hC:h.get? C=some (excClassObj nm q C N bs bm hdct sn sub ab col dd k0 k1 k2 k3 k5 newId)) (hN:h.Ns N mN) (hm:mN n=none) (T:Tl h ns bmB bm) (i:n∈ns)
    (b:mroOf (.type B)=pure bmB) (hB:typeLookup (.type B) n=pure y) (k:Q y ⟨h,g,d,t,os⟩):wpAny M A (typeLookup (.ref C) n) Q E ⟨h,g,d,t,os⟩:=by
  have r:lookupAlong bmB n=pure y:=by
    rw [typeLookup_eq,b] at hB
    exact hB
  rw [typeLookup_eq]
  refine wpAny_bind (wpAny_mroOf_exc hC ?_)
  rw [lookupAlong_cons]
  refine wpAny_bind (wpAny_classOwn_exc hC hN ?_)
  rw [hm]
  exact along T i r k
end
end Fl
namespace Fl
section
variable {M:Model} {prog:Program} {w:World} {A:Around} {E:Value→Shared→Prop} {h:Heap} {g:Array GenState} {d:Drawn} {t:Nat} {os:OsState}
variable {nm q:Str} {C N a dx:Addr} {bs bm bmB:List Value} {hdct:Bool} {sn:List Str} {sub:List Value} {ab:Bool} {col:Option Bool} {dd:Option Addr} {k0 k1 k2 k3 k5:Option Value} {B newId:String} {mN m:Str→Option Value} {ns:List Str} {name:Str} {v:Value} {o:Obj}
end
end Fl
def CXv (P:Program) (w:World):CXT:=fun outer H s E e s'=>∃ (ea:Addr) (cls:Value) (dx:Option Addr) (H':Hp) (B:Heap),e = .ref ea∧Fl.Up (Fl.Is cls dx) B outer ea .none s'.heap∧s'.os=s.os∧AllBare s'.gens∧Un (frs outer) [] H H' s.heap s'.heap∧HOk P w H' s'.heap∧
  (∀ b o,s.heap.get? b=some o→b∉frs outer→∃ o',B.get? b=some o')∧(∀ b u,H' b=some u→∃ o,B.get? b=some o)∧E cls dx H'
theorem Za5 {P:Program} {w:World} {X:Cx}:Passes (CXv P w) X E0:=fun _ _ _ _ _ _ _ ⟨_,_,_,_,_,_,_,_,_,_,_,_,_,z⟩=>z.elim
theorem HOk.through {P:Program} {w:World} {H:Hp} {B h h2:Heap} (hok:HOk P w H h) (hT:∀ b u,H b=some u→∃ o,B.get? b=some o) (s1:B.StaysIn h) (s2:B.StaysIn h2):HOk P w H h2:=fun a o e=>(hok a o e).stay (fun b u hb q=>by
    have hb':∃ v,H b=some v:=by
      rcases hb with rfl | hb
      · exact ⟨_,e⟩
      · exact ⟨_,hb⟩
    obtain ⟨v,hv⟩:=hb'
    obtain ⟨o',eB⟩:=hT b v hv
    have:=s1 b o' eB
    rw [q] at this
    cases this
    exact s2 b _ eB) (fun _ z=>z) fun _ _ z=>z
section
variable {P:Program} {w:World} {K:PySem.W.Frag} {mg:Str→Option Value} {base:Heap} {N:List Str} {qual:Str} {scope:Scope} {f:Addr} {cd:Value} {A:Around} {outer:List Env} {s:Shared} {H:Hp} {E:XK}
theorem Zgc {env:Env} {l:List Env} {b:Addr} (h:b∈frs l):b∈frs (env::l):=by
  unfold frs at h ⊢
  obtain ⟨e,h1,h2⟩:=List.mem_filterMap.mp h
  exact List.mem_filterMap.mpr ⟨e,List.mem_cons_of_mem _ h1,h2⟩
theorem pass_cx:Passes (CXv P w) (cxOf (CXv P w) P w K mg base N qual scope f cd A outer s H E) E:=by
  rintro pins σ H1 s1 _ s' I ⟨ea,cls,dx,H',B,rfl,fl,hos,hbare,un,hok,hB,hT,hE⟩
  have nostk:∀ b o,s.heap.get? b=some o→b∉frs outer→b∉frs (envOfC qual scope s.heap.objs.size f cd::outer):=fun b o e hb hm=>by
    rcases List.mem_cons.mp (I.stkSub b hm) with z | z
    · have l1:=Heap.lt_size e
      have l2:s.heap.objs.size≤(envOfC qual scope s.heap.objs.size f cd).locals:=I.ok.above
      have z':b=(envOfC qual scope s.heap.objs.size f cd).locals:=z
      rw [← z'] at l2
      exact absurd (Nat.lt_of_lt_of_le l1 l2) (Nat.lt_irrefl _)
    · exact hb z
  have ib:Un (frs outer) [] H H1 s.heap s1.heap:=I.base
  show wpAny (model P w) (A.deeper (envOfC qual scope s.heap.objs.size f cd)) (leaving (envOfC qual scope s.heap.objs.size f cd) (.ref ea)) (fun _ s''=>CXv P w outer H s E (.ref ea) s'') _ s'
  refine Fl.leaves Fl.Is.firm I.ok.frames rfl fl fun h2 fl2 up=>?_
  have frm:∀ b,b∈frs (envOfC qual scope s.heap.objs.size f cd::outer)→∃ o,s'.heap.get? b=some o∧∀ vs,o.data≠.fields vs:=fun b hb=>(fl.fr.mem hb).2
  refine ⟨ea,cls,dx,H',B,rfl,fl2,hos.trans I.os,hbare,⟨fun b o e n hb _=>?_,fun b o e n hb _=>?_,fun b o e n _=>?_,fun b o e _=>?_,fun b xs e=>un.tups b xs (ib.tups b xs e),fun b o xs e=>un.frzs b o xs (ib.frzs b o xs e),fun b ps e=>?_,fun _ ⟨o,e⟩ n=>un.sys (by simp) (ib.there _ o e (by simp)) (ib.sys (by simp) ⟨o,e⟩ n)⟩,hok.through hT fl.st fl2.st,fun b o e hb=>?_,hT,hE⟩
  · have e1:=ib.keep b o e n hb (by simp)
    have n1:=ib.free b o e n (by simp)
    have e2:=un.keep b o e1 n1 (nostk b o e hb) (by simp)
    obtain ⟨o',eB⟩:=hB b o e1 (nostk b o e hb)
    have:=fl.st b o' eB
    rw [e2] at this
    cases this
    exact fl2.st b _ eB
  · obtain ⟨sl,e1⟩:=ib.slot b o e n hb (by simp)
    have n1:=ib.free b o e n (by simp)
    obtain ⟨sl',e2⟩:=un.slot b _ e1 n1 (Zgc hb) (by simp)
    obtain ⟨o3,e3,nf⟩:=frm b (Zgc hb)
    rw [e2] at e3
    cases e3
    obtain ⟨sl3,e4⟩:=up b _ e2 nf
    exact ⟨sl3,e4⟩
  · obtain ⟨o',e1⟩:=ib.there b o e (by simp)
    exact un.free b o' e1 (ib.free b o e n (by simp)) (by simp)
  · obtain ⟨o',e1⟩:=ib.there b o e (by simp)
    by_cases hb:b∈frs (envOfC qual scope s.heap.objs.size f cd::outer)
    · obtain ⟨o3,e3,nf⟩:=frm b hb
      obtain ⟨sl3,e4⟩:=up b _ e3 nf
      exact ⟨_,e4⟩
    · obtain ⟨o2,eB⟩:=hB b o' e1 hb
      exact ⟨o2,fl2.st b _ eB⟩
  · obtain ⟨m1,e1⟩:=ib.tbls b ps e
    obtain ⟨m2,e2⟩:=un.tbls b _ e1
    exact ⟨m1++m2,by rw [e2,Array.append_assoc]⟩
  · obtain ⟨o',e1⟩:=ib.there b o e (by simp)
    exact hB b o' e1 (nostk b o e hb)
def Rais (X:Cx) (E:XK):Prop:=∀ (pins:List (Addr×Obj)) (σ:St) (H:Hp) (s:Shared) (h':Heap) (e:Addr) (cls:Value) (args:List Value),Inv X pins σ H s→Heap.MadeExcOf s.heap h' e cls args→E cls none H→X.xe (.ref e) { s with heap:=h' }
theorem rais_cx:Rais (cxOf (CXv P w) P w K mg base N qual scope f cd A outer s H E) E:=by
  intro pins σ H1 s1 h2 e cls args I hx hE
  have ib:Un (frs outer) [] H H1 s.heap s1.heap:=I.base
  have neL:∀ b o,s.heap.get? b=some o→b∉frs outer→b∉frs (envOfC qual scope s.heap.objs.size f cd::outer):=fun b o e hb hm=>by
    rcases List.mem_cons.mp (I.stkSub b hm) with z | z
    · have l1:=Heap.lt_size e
      have l2:s.heap.objs.size≤(envOfC qual scope s.heap.objs.size f cd).locals:=I.ok.above
      have z':b=(envOfC qual scope s.heap.objs.size f cd).locals:=z
      rw [← z'] at l2
      exact absurd (Nat.lt_of_lt_of_le l1 l2) (Nat.lt_irrefl _)
    · exact hb z
  have stk:s1.heap.FunFrames base (envOfC qual scope s.heap.objs.size f cd::outer):=I.stack
  have frm:∀ b,b∈frs (envOfC qual scope s.heap.objs.size f cd::outer)→∃ o,s1.heap.get? b=some o∧∀ vs,o.data≠.fields vs:=fun b hb=>(stk.mem hb).2
  have inB:∀ {b o},s1.heap.get? b=some o→b∉frs (envOfC qual scope s.heap.objs.size f cd::outer)→(PySem.W.hideAll s1.heap (frs (envOfC qual scope s.heap.objs.size f cd::outer))).get? b=some o:=fun e hb=>PySem.W.hideAll_get _ e hb
  have hT:∀ b u,H1 b=some u→∃ o,(PySem.W.hideAll s1.heap (frs (envOfC qual scope s.heap.objs.size f cd::outer))).get? b=some o:=fun b u hu=>by
    have hb:b∉frs (envOfC qual scope s.heap.objs.size f cd::outer):=fun hm=>by
      have:=I.stkFree b hm
      rw [hu] at this;cases this
    have l:=I.hok.lt hu
    have:∃ o,s1.heap.get? b=some o:=by
      have q:=I.hok b u hu
      cases u with
      | lst xs=>obtain ⟨_,_,_,_,e⟩:=q;exact ⟨_,e⟩
      | tup xs=>obtain ⟨_,_,_,o,e,_⟩:=q;exact ⟨_,e⟩
      | dK kvs=>obtain ⟨_,_,_,_,o,_,_,e,_⟩:=q;exact ⟨_,e⟩
      | dT kvs=>obtain ⟨_,_,_,_,o,_,_,e,_⟩:=q;exact ⟨_,e⟩
      | set S n=>obtain ⟨o,_,_,_,e,_⟩:=q;exact ⟨_,e⟩
      | ins C dx fs=>obtain ⟨_,_,_,e,_⟩:=q;exact ⟨_,e⟩
      | own y=>obtain ⟨o,e⟩:=q;exact ⟨_,e⟩
      | xd fs=>obtain ⟨_,⟨o,_,_,e,_⟩,_⟩:=q;exact ⟨_,e⟩
      | rng lo hi=>obtain ⟨_,_,_,e⟩:=q;exact ⟨_,e⟩
      | frz ob u=>obtain ⟨e,_⟩:=q;exact ⟨_,e⟩
      | tbl ps=>exact ⟨_,(show s1.heap.get? b=some _ from q)⟩
      | met f y=>exact ⟨_,(show s1.heap.get? b=some _ from q)⟩
      | ext φ=>obtain ⟨_,⟨o,e⟩,_⟩:=q;exact ⟨_,e⟩
    obtain ⟨o,e⟩:=this
    exact ⟨o,inB e hb⟩
  show wpAny (model P w) (A.deeper (envOfC qual scope s.heap.objs.size f cd)) (leaving (envOfC qual scope s.heap.objs.size f cd) (.ref e)) (fun _ s''=>CXv P w outer H s E (.ref e) s'') _ _
  obtain ⟨tt,he,_,_⟩:=hx.there
  have newB:(PySem.W.hideAll s1.heap (frs (envOfC qual scope s.heap.objs.size f cd::outer))).get? e=none:=by
    cases q:(PySem.W.hideAll s1.heap (frs (envOfC qual scope s.heap.objs.size f cd::outer))).get? e with
    | none=>rfl
    | some o=>
      have:=PySem.W.of_hideAll _ q
      rw [hx.new] at this
      cases this
  refine Fl.leaves_new (P:=Fl.Is cls none) (base:=PySem.W.hideAll s1.heap (frs (envOfC qual scope s.heap.objs.size f cd::outer))) Fl.Is.firm I.ok.frames ((PySem.W.funFrames_hide stk fun env he b hb=>List.mem_filterMap.mpr ⟨env,he,hb⟩).of_keeps fun b o hb _=>⟨o,hx.keeps b o hb,rfl⟩) rfl he ⟨rfl,rfl⟩
    (fun b o q=>hx.keeps b o (PySem.W.of_hideAll _ q)) newB rfl rfl fun h3 fl up=>?_
  have st1:(PySem.W.hideAll s1.heap (frs (envOfC qual scope s.heap.objs.size f cd::outer))).StaysIn s1.heap:=fun b o q=>PySem.W.of_hideAll _ q
  refine ⟨e,cls,none,H1,_,rfl,fl,I.os,I.bare,⟨fun b o e n hb _=>?_,fun b o e n hb _=>?_,fun b o e n _=>ib.free b o e n (by simp),fun b o e _=>?_,fun b xs e=>ib.tups b xs e,fun b o xs e=>ib.frzs b o xs e,fun b ps e=>ib.tbls b ps e,fun _ eg n=>ib.sys (by simp) eg n⟩,I.hok.through hT st1 fl.st,fun b o e hb=>?_,hT,hE⟩
  · exact fl.st b o (inB (ib.keep b o e n hb (by simp)) (neL b o e hb))
  · obtain ⟨sl,e1⟩:=ib.slot b o e n hb (by simp)
    obtain ⟨o3,e3,nf⟩:=frm b (Zgc hb)
    rw [e1] at e3
    cases e3
    obtain ⟨sl3,e4⟩:=up b _ (hx.keeps b _ e1) nf
    exact ⟨sl3,e4⟩
  · obtain ⟨o',e1⟩:=ib.there b o e (by simp)
    by_cases hb:b∈frs (envOfC qual scope s.heap.objs.size f cd::outer)
    · obtain ⟨o3,e3,nf⟩:=frm b hb
      obtain ⟨sl3,e4⟩:=up b _ (hx.keeps b _ e3) nf
      exact ⟨_,e4⟩
    · exact ⟨o',fl.st b o' (inB e1 hb)⟩
  · obtain ⟨o',e1⟩:=ib.there b o e (by simp)
    exact ⟨o',inB e1 (neL b o e hb)⟩
end
end L2
namespace LP
open PySem PySem.Spec PyProof.Rows L2
def rho (N:List Str) (ds:List D):Rho:=ds.map .d++List.replicate (N.length - ds.length) .un
theorem sok_start {K:PySem.W.Frag} {W:Wd} {H:Hp} {N:List Str} {vs:List V} {ds:List D} (ok:WOk W H) (r:Reps K W vs ds):SOk K W H W (start N vs) H (rho N ds) where
  ext:=.refl ok
  len:=by unfold rho L2.start;simp [r.length]
  d:=fun i x e=>by
    unfold rho at e
    rcases Nat.lt_or_ge i ds.length with h | h
    · rw [List.getElem?_append_left (by simpa using h),List.getElem?_map] at e
      cases q:ds[i]? with
      | none=>rw [q] at e;cases e
      | some y=>
        rw [q] at e
        cases e
        obtain ⟨v,ev,rv⟩:=r.get q
        refine ⟨v,?_,rv⟩
        unfold L2.start
        rw [List.getElem?_append_left (by rw [List.length_map,r.length];exact h),List.getElem?_map,ev]
        rfl
    · rw [List.getElem?_append_right (by simpa using h),List.getElem?_replicate] at e
      split at e<;>cases e
  o:=fun i xs e=>by
    unfold rho at e
    rcases Nat.lt_or_ge i ds.length with h | h
    · rw [List.getElem?_append_left (by simpa using h),List.getElem?_map] at e
      cases q:ds[i]? with
      | none=>rw [q] at e;cases e
      | some y=>rw [q] at e;cases e
    · rw [List.getElem?_append_right (by simpa using h),List.getElem?_replicate] at e
      split at e<;>cases e
  ne:=fun i j xs ys a _ e=>by
    unfold rho at e
    rcases Nat.lt_or_ge i ds.length with h | h
    · rw [List.getElem?_append_left (by simpa using h),List.getElem?_map] at e
      cases q:ds[i]? with
      | none=>rw [q] at e;cases e
      | some y=>rw [q] at e;cases e
    · rw [List.getElem?_append_right (by simpa using h),List.getElem?_replicate] at e
      split at e<;>cases e
  oo:=.none fun i xs e=>by
    unfold rho at e
    rcases Nat.lt_or_ge i ds.length with h | h
    · rw [List.getElem?_append_left (by simpa using h),List.getElem?_map] at e
      cases q:ds[i]? with
      | none=>rw [q] at e;cases e
      | some y=>rw [q] at e;cases e
    · rw [List.getElem?_append_right (by simpa using h),List.getElem?_replicate] at e
      split at e<;>cases e
section
variable {P:Program} {w:World} {K:PySem.W.Frag} {mg:Str→Option Value} {base:Heap}
theorem fnpx {x qual:Str} {st:Stmt} {f:Addr} {fd:FuncData} {N ps:List Str} {k:Nat} {S:Zav} {z:WS} (F:Fun K x qual st f fd) (sc:FnScope N ps (defScope st)) (len:∀ ds E Q,S ds E Q→ds.length=ps.length)
    (hbody:∀ (cdv:Value) (A:Around) (outer:List Env) (s:Shared) (H:Hp) (E:XK),Room k (A.deeper (envOfC qual (defScope st) s.heap.objs.size f cdv))→
      Passes (CXv P w) (cxOf (CXv P w) P w K mg base N qual (defScope st) f cdv A outer s H E) E→Rais (cxOf (CXv P w) P w K mg base N qual (defScope st) f cdv A outer s H E) E→
      PZs (cxOf (CXv P w) P w K mg base N qual (defScope st) f cdv A outer s H E) E (defBody st) z)
    (h:∀ ds E Q,S ds E Q→z E { nx:=fun _=>Q .non,rt:=Q } (rho N ds)):FnOk P w K mg base (CXv P w) (k+1) f fd ps (spOf K S):=by
  obtain ⟨oc,od,kV,doc,pm,an,cdv,ct,osl,rfl,lk,hcd⟩:=F.ex
  refine fn_of lk hcd sc (fun vs H Q E hs=>?_) fun A outer s H vs Q E hr hs=>?_
  · obtain ⟨ds,W,_,r,hS⟩:=hs
    rw [r.length]
    exact len _ _ _ hS
  · obtain ⟨ds,W,ok,r,hS⟩:=hs
    obtain ⟨t,p,k⟩:=(hbody cdv A outer s H E hr pass_cx rais_cx).t
    refine ⟨t,p,k W H W W (start N vs) H (rho N ds) (fun ex=>∀ W' H' cls dx,Ext W H W' H'→ExRep K W' H' cls dx ex→E cls dx H') _ { nx:=fun _=>RQ K W H Q .non,rt:=RQ K W H Q } (sok_start ok r) (.refl W) (fun ex W' H' cls dx he x r=>he W' H' cls dx x r)
      ⟨fun W1 σ1 H1 ρ1 s1 _ q=>q _ W1 H1 s1.ext .non,fun d v W1 H1 x1 r1 q=>q v W1 H1 x1 r1,fun _ _ _ _ _ _ q=>q.elim,fun _ _ _ _ _ _ q=>q.elim⟩ (h ds _ _ hS)⟩
end
structure Fp (P:Program) (w:World) (K:PySem.W.Frag) (mg:Str→Option Value) (base:Heap) (k:Nat) (x:Str) (ps:List Str) (S:Zav):Prop where
  ok:∃ f fd,FnOk P w K mg base (CXv P w) k f fd ps (spOf K S)∧mg x=some (.ref f)∧PySem.W.keepIn K (.ref f)=true∧Binds K fd ps []
  mono:ZgZ S
section
variable {X:Cx} {EX:XK} {pos p:Pos} {e:Expr} {es:List Expr} {t:WA} {x:Str} {k j:Nat} {ps:List Str} {S:Zav}
theorem Zao (G:Fp X.prog X.w X.K X.mg X.base k x ps S) (hr:Room j X.A) (hx:Passes (CXv X.prog X.w) X EX) (ha:PXA X EX (e::es) t) (hk:k≤j:=by decide) (hg:Gl X x:=by rfl) (hdb:(x == ("__debug__" : Str))=false:=by decide) (he:starEach (e::es) X.env=(false,eval e X.env)::starEach es X.env:=by rfl) (hpl:(backTo pos (starEach es X.env)).any (·.1)=false:=by rfl) :
    PX X EX (.Call (.Name x p) (e::es) [] pos) (wF S t):=by
  obtain ⟨f,fd,F,hm,kp,hb⟩:=G.ok
  exact px_call F G.mono (hr.mono hk) hm kp hb hx ha hg hdb he hpl
def zNox (z:WS):WS:=fun _ N ρ=>z No N ρ
theorem Zbi {st:Stmt} {z:WS} (h:PZ X.nox E0 st z):PZ X EX st (zNox z):=by
  obtain ⟨t,p,k⟩:=h.t
  refine ⟨⟨t,fun pins s σ H D I hw=>wpAny_mono (p pins s σ H D (I.wish _) hw) (fun _ _ q=>q.unwish) fun _ _ z=>False.elim z,fun W0 H0 F W σ H ρ E Dn N s fl eo no q=>k W0 H0 F W σ H ρ No Dn N s fl (fun _ _ _ _ _ z=>z.elim) no q⟩,fun E ρ N N' hl q=>h.mono _ _ _ _ hl q⟩
end
end LP
namespace L2
open PySem PySem.Spec PyProof.Rows
section
variable {X:Cx} {tg:Expr}
def iSeq (K:PySem.W.Frag) (tl:TE):TI:=fun σ H R=>tl σ H fun x H1=>∃ a,x = .ref a∧(((∃ xs,SqL K H1 a xs)∧R (Itl K a) H1)∨((∃ xs,SqT K H1 a xs)∧R (Itt K a) H1))
theorem pi_seq {l:Expr} {tl:TE} (hl:PE X l tl):PI X tg l (iSeq X.K tl):=by
  intro pins s σ H R I h
  refine thn (hl pins s σ H _ I h) fun v s1 ⟨x,H1,I1,r1,q1⟩=>?_
  obtain ⟨a,e,⟨⟨xs,hq⟩,q⟩ | ⟨⟨xs,hq⟩,q⟩⟩:=q1
  · subst e
    cases r1
    obtain ⟨its,rv,p,hz⟩:=I1.list hq
    refine wpAny_pyIter_list p.isList ?_
    refine ⟨s1.heap.objs.size,[s1.heap.objs.size],_,_,H1,rfl,I1.kept (t':=s1.toks) fun b o e=>Heap.get?_push_of_some _ e,turn_list a _,⟨_,Heap.get?_push_size _ rfl,rfl,rfl⟩,fun b hb=>?_,q⟩
    have e:b=s1.heap.objs.size:=by simpa using hb
    subst e
    exact I1.fpOk (Nat.le_refl _) (I1.hok.fresh (Nat.le_refl _))
  · subst e
    cases r1
    obtain ⟨its,rv,p,hz⟩:=I1.tuple hq
    refine wpAny_pyIter_tuple (show s1.heap.IsTuple a its.toArray from p) ?_
    refine ⟨s1.heap.objs.size,[s1.heap.objs.size],_,_,H1,rfl,I1.kept (t':=s1.toks) fun b o e=>Heap.get?_push_of_some _ e,turn_tuple a _,⟨_,Heap.get?_push_size _ rfl,rfl,rfl⟩,fun b hb=>?_,q⟩
    have e:b=s1.heap.objs.size:=by simpa using hb
    subst e
    exact I1.fpOk (Nat.le_refl _) (I1.hok.fresh (Nat.le_refl _))
end
end L2
namespace LP
open PySem PySem.Spec PyProof.Rows L2
section
variable {X:Cx} {EX:XK} {pos p:Pos} {tg e a b:Expr} {w wa:WE}
def isS (Q:List D→Prop):D→Prop
  | .lst xs=>Q xs
  | .tup xs=>Q xs
  | _=>False
theorem isS.mono {Q Q':List D→Prop} (h:∀ b,Q b→Q' b):∀ d,isS Q d→isS Q' d:=fun d z=>by
  cases d<;>first | exact h _ z | exact z
def iS (w:WE):WA:=fun E ρ Q=>w E ρ (isS Q)
theorem ZaS (he:PX X EX e w):PXI X EX tg e (iS w):=by
  obtain ⟨t,q,k⟩:=he.t
  refine ⟨⟨_,pi_seq q,fun W0 H0 W σ H ρ E R s eo h=>?_⟩,fun E ρ P P' hp h=>he.mono _ _ _ _ (isS.mono hp) h⟩
  refine k W0 H0 W σ H ρ E _ s eo (he.mono _ _ _ _ (fun d hd v W1 H1 x1 r1=>?_) h)
  have keyT:∀ {l:Addr} {vs:List V} {xs:List D},(∀ W' H' J,Ext W H W' H'→ItOk X.K W' J xs→R J H')→(∀ W2 H2,(∀ a o,W1.G a=some o→W2.G a=some o)→WOk W2 H2→SqT X.K H2 l vs)→Reps X.K W1 vs xs→(∃ ys,SqT X.K H1 l ys)∧R (Itt X.K l) H1:=by
    intro l vs xs hq sq rr
    refine ⟨⟨vs,sq W1 H1 (fun _ _ z=>z) x1.ok⟩,hq W1 H1 _ x1 fun W2 H2 i g2 p2 ok2=>⟨fun d hd=>?_,fun hi=>⟨vs,sq W2 H2 g2 ok2,by rw [rr.length];exact hi⟩⟩⟩
    obtain ⟨v,ev,rv⟩:=rr.get hd
    refine ⟨⟨vs,v,sq W2 H2 g2 ok2,ev⟩,fun x H3 y=>?_⟩
    obtain ⟨rfl,y⟩:=y
    have:=y vs (sq W2 _ g2 ok2)
    rw [ev] at this
    cases this
    exact ⟨W2,.refl ok2,rv.mono g2 p2⟩
  cases r1 with
  | @lst l vs xs e1 rr=>
    have hq:∀ W' H' J,Ext W H W' H'→ItOk X.K W' J xs→R J H':=hd
    refine ⟨l,rfl,.inl ⟨⟨vs,SqL.of (x1.ok.g _ _ e1)⟩,hq W1 H1 _ x1 fun W2 H2 i g2 p2 ok2=>⟨fun d hd=>?_,fun hi=>⟨vs,SqL.of (ok2.g _ _ (g2 _ _ e1)),by rw [rr.length];exact hi⟩⟩⟩⟩
    obtain ⟨v,ev,rv⟩:=rr.get hd
    have sq:SqL X.K H2 l vs:=SqL.of (ok2.g _ _ (g2 _ _ e1))
    refine ⟨⟨vs,v,sq,ev⟩,fun x H3 y=>?_⟩
    obtain ⟨rfl,y⟩:=y
    have:=y vs sq
    rw [ev] at this
    cases this
    exact ⟨W2,.refl ok2,rv.mono g2 p2⟩
  | tup e1 rr=>exact ⟨_,rfl,.inr (keyT hd (fun W2 H2 g2 ok2=>SqT.of (ok2.g _ _ (g2 _ _ e1))) rr)⟩
  | ktup e1 rr=>exact ⟨_,rfl,.inr (keyT hd (fun W2 H2 g2 ok2=>.inr e1) rr)⟩
  | non=>exact hd.elim
  | bl _=>exact hd.elim
  | int _=>exact hd.elim
  | str _=>exact hd.elim
  | dic _=>exact hd.elim
  | pen _=>exact hd.elim
  | cls _=>exact hd.elim
  | exc _ _=>exact hd.elim
  | ty _=>exact hd.elim
  | scr _ _=>exact hd.elim
theorem ZcC {x:Str} {T:String} (hm:X.mg x=none) (hv:bootBuiltins x=some (.type T)) (hg:Gl X x:=by rfl) (hn:x≠ "__name__" :=by decide) (hd:(x == ("__debug__" : Str))=false:=by decide):PX X EX (.Name x pos) (wC (.ty T)):=
  px_bltn (v:=.ty T) hm hv rfl (fun _=>.ty T) hg hn hd
theorem px_gint {x:Str} {i:Int} {t:Tok} (hm:X.mg x=some (.int i t)) (hg:Gl X x:=by rfl) (hd:(x == ("__debug__" : Str))=false:=by decide):PX X EX (.Name x pos) (wC (.int i)):=
  px_glob (v:=.int i) hm ⟨t,rfl⟩ (fun _=>.int i) hg hd
theorem px_gtup {x:Str} {a:Addr} {vs:List V} {ds:List D} (hm:X.mg x=some (.ref a)) (hk:KT X.K a vs) (hr:∀ W,Reps X.K W vs ds) (hg:Gl X x:=by rfl) (hd:(x == ("__debug__" : Str))=false:=by decide):PX X EX (.Name x pos) (wC (.tup ds)):=
  px_glob (v:=.ref a) hm rfl (fun W=>.ktup hk (hr W)) hg hd
end
def detS (n:Nat) (dom:List D→Prop) (val:List D→D):Zav:=fun ds _ Q=>ds.length=n∧dom ds∧Q (val ds)
theorem detS.mono {n:Nat} {dom:List D→Prop} {val:List D→D}:ZgZ (detS n dom val):=fun ds E E' Q Q' _ hQ h=>⟨h.1,h.2.1,hQ _ h.2.2⟩
theorem detS.len {n:Nat} {dom:List D→Prop} {val:List D→D} {ps:List Str} (hp:ps.length=n):∀ ds E Q,detS n dom val ds E Q→ds.length=ps.length:=fun ds E Q h=>h.1.trans hp.symm
def ndS (n:Nat) (dom:List D→Prop) (rel:List D→D→Prop):Zav:=fun ds _ Q=>ds.length=n∧dom ds∧∀ d,rel ds d→Q d
theorem ndS.mono {n:Nat} {dom:List D→Prop} {rel:List D→D→Prop}:ZgZ (ndS n dom rel):=fun ds E E' Q Q' _ hQ h=>⟨h.1,h.2.1,fun d r=>hQ _ (h.2.2 d r)⟩
theorem ndS.len {n:Nat} {dom:List D→Prop} {rel:List D→D→Prop} {ps:List Str} (hp:ps.length=n):∀ ds E Q,ndS n dom rel ds E Q→ds.length=ps.length:=fun ds E Q h=>h.1.trans hp.symm
theorem Fp.nd {P:Program} {w:World} {K:PySem.W.Frag} {mg:Str→Option Value} {base:Heap} {k n:Nat} {x:Str} {ps:List Str} {dom:List D→Prop} {rel:List D→D→Prop} {f:Addr} {fd:FuncData} (h:FnOk P w K mg base (CXv P w) k f fd ps (spOf K (ndS n dom rel))) (hm:mg x=some (.ref f)) (kp:PySem.W.keepIn K (.ref f)=true) (hb:Binds K fd ps []) :
    Fp P w K mg base k x ps (ndS n dom rel):=⟨⟨f,fd,h,hm,kp,hb⟩,ndS.mono⟩
theorem gEq_int {neg:Bool} {i j:Int} {Q:D→Prop} (h:Q (.bl (if neg then !(i == j) else i == j))):gEq neg (.int i) (.int j) Q:=by
  refine ⟨.int i,.int j,rfl,rfl,rfl,rfl,?_⟩
  exact h
theorem ZaA {neg:Bool} {i j:Int} {Q:D→Prop}:gEq neg (.int i) (.int j) Q↔Q (.bl (if neg then !(i == j) else i == j)):=
  ⟨fun ⟨p,q,h1,h2,_,_,h⟩=>by cases h1;cases h2;exact h,gEq_int⟩
section
variable {X:Cx} {EX:XK} {pos:Pos} {tg e a b c:Expr} {es:List Expr} {w wa:WE} {g:WG}
abbrev WGs:=List D→Rho→(Rho→Prop)→Prop
structure PXGs (X:Cx) (ts:List Expr) (g:WGs):Prop where
  t:∃ t,PGs X ts t∧∀ W0 H0 W σ H ρ ds vs Q,SOk X.K W0 H0 W σ H ρ→Reps X.K W vs ds→g ds ρ (fun ρ'=>∀ σ',SOk X.K W0 H0 W σ' H ρ'→Q σ' H)→t vs σ H Q
  mono:∀ d ρ P P',(∀ r,P r→P' r)→g d ρ P→g d ρ P'
  own:∀ d ρ P,noOwn ρ→g d ρ P→g d ρ (fun r=>noOwn r∧P r)
def Za9:WGs:=fun ds ρ k=>match ds with
  | []=>k ρ
  | _=>False
def Zat (g:WG) (gs:WGs):WGs:=fun ds ρ k=>match ds with
  | d::ds=>g d ρ fun ρ'=>gs ds ρ' k
  | _=>False
theorem ZbY:PXGs X [] Za9:=by
  refine ⟨⟨_,pgs_nil,fun W0 H0 W σ H ρ ds vs Q s r h=>?_⟩,fun d ρ P P' hp h=>?_,fun d ρ P ho h=>?_⟩
  · cases r with
    | nil=>exact ⟨rfl,h σ s⟩
    | cons _ _=>exact h.elim
  · cases d with
    | nil=>exact hp _ h
    | cons _ _=>exact h.elim
  · cases d with
    | nil=>exact ⟨ho,h⟩
    | cons _ _=>exact h.elim
theorem ZaC {gs:WGs} (h1:PXG X e g) (h2:PXGs X es gs) (hs:(assignEach (e::es) X.env).map (·.2)=assign e X.env::(assignEach es X.env).map (·.2):=by rfl):PXGs X (e::es) (Zat g gs):=by
  obtain ⟨t1,p1,k1⟩:=h1.t
  obtain ⟨t2,p2,k2⟩:=h2.t
  refine ⟨⟨_,pgs_cons p1 p2 hs,fun W0 H0 W σ H ρ ds vs Q s r h=>?_⟩,fun d ρ P P' hp h=>?_,fun d ρ P ho h=>?_⟩
  · cases r with
    | nil=>exact h.elim
    | cons r rr=>exact ⟨_,_,rfl,k1 W0 H0 W σ H ρ _ _ _ s r (h1.mono _ _ _ _ (fun ρ' h' σ' s'=>k2 W0 H0 W σ' H ρ' _ _ Q s' rr h') h)⟩
  · cases d with
    | nil=>exact h.elim
    | cons d ds=>exact h1.mono _ _ _ _ (fun r hr=>h2.mono _ _ _ _ hp hr) h
  · cases d with
    | nil=>exact h.elim
    | cons d ds=>exact h1.mono _ _ _ _ (fun r hr=>h2.own _ _ _ hr.1 hr.2) (h1.own _ _ _ ho h)
def gTp (n:Nat) (gs:WGs):WG:=fun d ρ k=>match d with
  | .tup xs=>xs.length=n∧gs xs ρ k
  | _=>False
theorem ZcU {k n:Nat} {gs:WGs} (hc:X.calm=true) (h:PXGs X es gs) (hn:(assignEach es X.env).length=n:=by rfl) (hst:(assignEach es X.env).findIdx? (·.1)=none:=by rfl):PXG X (.Tuple es k pos) (gTp n gs):=by
  obtain ⟨t,p,kk⟩:=h.t
  refine ⟨⟨_,pg_tup hc p hn hst,fun W0 H0 W σ H ρ d v Q s r q=>?_⟩,fun d ρ P P' hp q=>?_,fun d ρ P ho q=>?_⟩
  · unfold gTp at q
    split at q
    · obtain ⟨a,vs,rfl,h1,rr⟩:=r.sqt s.ok
      exact ⟨a,vs,rfl,h1,rr.length.trans q.1,kk W0 H0 W σ H ρ _ _ Q s rr q.2⟩
    · exact q.elim
  · unfold gTp at q ⊢
    split at q
    · exact ⟨q.1,h.mono _ _ _ _ hp q.2⟩
    · exact q.elim
  · unfold gTp at q ⊢
    split at q
    · exact ⟨q.1,h.own _ _ _ ho q.2⟩
    · exact q.elim
def zAsg (w:WE) (g:WG):WS:=fun E N ρ=>w E ρ fun d=>g d ρ N.nx
theorem pz_asg (he:PX X EX e w) (hg:PXG X tg g) (hs:swapsWithSole [tg] e pos.line X.env=pure false:=by rfl) (hw:swappedStores [tg] e X.env=pure none:=by rfl)
    (h1:(assignEach [tg] X.env).map (·.2)=[assign tg X.env]:=by rfl):PZ X EX (.Assign [tg] e pos) (zAsg w g):=by
  obtain ⟨t,p,k⟩:=he.t
  obtain ⟨t2,p2,k2⟩:=hg.t
  refine ⟨⟨_,ps_asg p p2 hs hw h1,fun W0 H0 F W σ H ρ E Dn N s fl eo no h=>?_⟩,fun E ρ N N' hl q=>he.mono _ _ _ _ (fun d hd=>hg.mono _ _ _ _ hl.nx hd) q⟩
  refine k W0 H0 W σ H ρ E _ s eo (he.mono _ _ _ _ (fun d hd v W1 H1 x1 r1=>?_) h)
  exact k2 W0 H0 W1 σ H1 ρ d v _ (s.step x1) r1 (hg.mono _ _ _ _ (fun ρ' h' σ' s'=>no.nx W1 σ' H1 ρ' s' (fl.ext x1) h') hd)
def zPar (i j:Nat) (t:WA):WS:=fun E N ρ=>t E ρ fun ds=>match ds with
  | [x,y]=>N.nx ((ρ.set i (.d x)).set j (.d y))
  | _=>False
theorem pz_par (i j:Nat) {x y:Str} {t:WA} {px py pt:Pos} {kt k2 pt2} (hN:X.N.Nodup) (ha:PXA X EX [a,b] t) (hc:X.calm=true:=by rfl) (hi:X.N[i]? = some x:=by rfl) (hj:X.N[j]? = some y:=by rfl) (hij:i≠j:=by decide)
    (hx:X.env.scope.names.lookup x=some .local:=by rfl) (hy:X.env.scope.names.lookup y=some .local:=by rfl)
    (hw:swappedStores [.Tuple [.Name x px,.Name y py] kt pt] (.Tuple [a,b] k2 pt2) X.env=pure (some [x,y]):=by rfl)
    (hs:swapsWithSole [.Tuple [.Name x px,.Name y py] kt pt] (.Tuple [a,b] k2 pt2) pos.line X.env=pure false:=by rfl) :
    PZ X EX (.Assign [.Tuple [.Name x px,.Name y py] kt pt] (.Tuple [a,b] k2 pt2) pos) (zPar i j t):=by
  obtain ⟨ta,p,k⟩:=ha.t
  refine ⟨⟨_,ps_par hc hN hi hj hij hx hy p hw hs,fun W0 H0 F W σ H ρ E Dn N s fl eo no h=>?_⟩,fun E ρ N N' hl q=>ha.mono _ _ _ _ (fun ds hd=>?_) q⟩
  · refine k W0 H0 W σ H ρ E _ s eo (ha.mono _ _ _ _ (fun ds hd vs W1 H1 x1 r1=>?_) h)
    split at hd
    · obtain ⟨v,u,rfl,rv,ru⟩:=r1.two
      exact ⟨v,u,rfl,no.nx W1 _ H1 _ (((s.step x1).set rv).set ru) (fl.ext x1) hd⟩
    · exact hd.elim
  · split at hd
    · exact hl.nx _ hd
    · exact hd.elim
def zWhile (c:WT) (zb:WS):WS:=fun E N ρ=>∃ I:Nat→Rho→Prop,(∃ m,I m ρ)∧∀ m ρ,I m ρ→c E ρ fun b=>
  if b=true then zb E { nx:=fun ρ'=>∃ m',m' < m∧I m' ρ',rt:=N.rt,bk:=N.nx,ct:=fun ρ'=>∃ m',m' < m∧I m' ρ' } ρ else N.nx ρ
theorem pz_while {wt:WT} {zb:WS} {body:List Stmt} (hp:PassesOwn (model X.prog X.w) X.A X.env X.xe) (hc:PXT X EX c wt) (hb:PZs X EX body zb):PZ X EX (.While c body [] pos) (zWhile wt zb):=by
  obtain ⟨tc,pc,kc⟩:=hc.t
  obtain ⟨tb,pb,kb⟩:=hb.t
  refine ⟨⟨_,ps_while hp pc pb,fun W0 H0 F W σ H ρ E Dn N s fl eo no h=>?_⟩,fun E ρ N N' hl q=>?_⟩
  · obtain ⟨I,⟨m0,i0⟩,turn⟩:=h
    refine ⟨fun m σ H=>∃ W ρ,SOk X.K W0 H0 W σ H ρ∧Wle F W∧I m ρ,⟨m0,W,ρ,s,fl,i0⟩,?_⟩
    rintro m σ2 H2 ⟨W2,ρ2,s2,f2,i2⟩
    refine kc W0 H0 W2 σ2 H2 ρ2 E _ s2 eo (hc.mono _ _ _ _ (fun b hb' W3 H3 x3=>?_) (turn m ρ2 i2))
    cases b with
    | true=>
      rw [if_pos rfl] at hb' ⊢
      refine ⟨fun σ4 H4=>∃ m',m' < m∧∃ W ρ,SOk X.K W0 H0 W σ4 H4 ρ∧Wle F W∧I m' ρ,fun σ4 H4 ⟨m',hm,q⟩=>⟨m',hm,q⟩,?_⟩
      exact kb W0 H0 F W3 σ2 H3 ρ2 E _ { nx:=fun ρ'=>∃ m',m' < m∧I m' ρ',rt:=N.rt,bk:=N.nx,ct:=fun ρ'=>∃ m',m' < m∧I m' ρ' } (s2.step x3) (f2.ext x3) eo
        ⟨fun W5 σ5 H5 ρ5 s5 f5 ⟨m',hm,q⟩=>⟨m',hm,W5,ρ5,s5,f5,q⟩,no.rt,fun W5 σ5 H5 ρ5 s5 f5 q=>no.nx W5 σ5 H5 ρ5 s5 f5 q,fun W5 σ5 H5 ρ5 s5 f5 ⟨m',hm,q⟩=>⟨m',hm,W5,ρ5,s5,f5,q⟩⟩ hb'
    | false=>rw [if_neg (by decide)] at hb' ⊢;exact no.nx W3 σ2 H3 ρ2 (s2.step x3) (f2.ext x3) hb'
  · obtain ⟨I,i0,turn⟩:=q
    refine ⟨I,i0,fun m ρ i=>hc.mono _ _ _ _ (fun b hb'=>?_) (turn m ρ i)⟩
    cases b with
    | true=>rw [if_pos rfl] at hb' ⊢;exact hb.mono E ρ { nx:=fun ρ'=>∃ m',m' < m∧I m' ρ',rt:=N.rt,bk:=N.nx,ct:=fun ρ'=>∃ m',m' < m∧I m' ρ' } _ ⟨fun _ z=>z,hl.rt,hl.nx,fun _ z=>z⟩ hb'
    | false=>rw [if_neg (by decide)] at hb' ⊢;exact hl.nx _ hb'
theorem ps_assert {tc:TT} (hc:PT X c tc) (hs:exec (.Assert c none pos) X.env=(do standAt pos;if ← isTrue c X.env (eval c X.env) then pure .next else assertFails c.pos (evalOpt none X.env)):=by rfl):PS X (.Assert c none pos) (fun D σ H=>tc σ H fun b H1=>b=true∧D.nx σ H1):=by
  intro pins s σ H D I h
  rw [hs]
  refine wpAny_bind (wpAny_standAt (wpAny_bind (thn (hc pins s σ H _ I h) fun b s1 ⟨H1,I1,e,q⟩=>?_)))
  subst e
  rw [if_pos rfl]
  exact wpAny_pure ⟨σ,H1,I1,q⟩
def Za3 (c:WT):WS:=fun E N ρ=>c E ρ fun b=>b=true∧N.nx ρ
theorem pz_assert {wt:WT} (hc:PXT X EX c wt) (hs:exec (.Assert c none pos) X.env=(do standAt pos;if ← isTrue c X.env (eval c X.env) then pure .next else assertFails c.pos (evalOpt none X.env)):=by rfl):PZ X EX (.Assert c none pos) (Za3 wt):=by
  obtain ⟨tc,pc,kc⟩:=hc.t
  refine ⟨⟨_,ps_assert pc hs,fun W0 H0 F W σ H ρ E Dn N s fl eo no h=>?_⟩,fun E ρ N N' hl q=>hc.mono _ _ _ _ (fun b hb=>⟨hb.1,hl.nx _ hb.2⟩) q⟩
  exact kc W0 H0 W σ H ρ E _ s eo (hc.mono _ _ _ _ (fun b hb W1 H1 x1=>⟨hb.1,no.nx W1 σ H1 ρ (s.step x1) (fl.ext x1) hb.2⟩) h)
def zApp (i:Nat) (w:WE):WS:=fun E N ρ=>match ρ[i]? with
  | some (.ow xs)=>w E ρ fun d=>xs.length < small∧N.nx (ρ.set i (.ow (xs++[d])))
  | _=>False
theorem ZdJ (i:Nat) {x:Str} {p apos cpos:Pos} (he:PX X EX e w) (hN:X.N[i]? = some x:=by rfl) (hv:Vis X.env.scope x:=by first | exact Or.inl rfl | exact Or.inr (Or.inl rfl) | exact Or.inr (Or.inr rfl)) (hd:(x == ("__debug__" : Str))=false:=by decide)
    (hcd:(x == ("__classdict__" : Str))=false:=by decide) (hbase:attributeBase (.Name x p) "append" X.env (eval (.Name x p) X.env)=eval (.Name x p) X.env:=by rfl)
    (hfew:((backTo cpos (starEach [e] X.env)).all (fun x=>!x.1) && (backToKw cpos (keywordEach [] X.env)).all (fun x=>x.1.isSome) && decide ([e].length+([]:List Keyword).length+(if ([]:List Keyword).isEmpty then 0 else 1) < 30))=true:=by rfl)
    (hline:(apos.endLine == cpos.line)=true:=by rfl) (hs:starEach [e] X.env=(false,eval e X.env)::starEach [] X.env:=by rfl) (hplain:(backTo cpos (starEach [] X.env)).any (·.1)=false:=by rfl)
    (hsw:swapsWith (.Call (.Attribute (.Name x p) "append" apos) [e] [] cpos) none pos.line X.env=pure false:=by rfl):PZ X EX (.Expr (.Call (.Attribute (.Name x p) "append" apos) [e] [] cpos) pos) (zApp i w):=by
  obtain ⟨t,pe,k⟩:=he.t
  refine ⟨⟨_,ps_expr (pe_bm PySem.F.plainAttrs_list PySem.F.slot_list_append PySem.F.type_list_append mt_append (pe_var hN hv hd hcd) (pa_cons pe pa_nil hs) hbase hfew hline hs hplain) hsw,fun W0 H0 F W σ H ρ E Dn N s fl eo no h=>?_⟩,fun E ρ N N' hl q=>?_⟩
  · unfold zApp at h
    split at h
    · rename_i xs ex
      obtain ⟨a,vs,e1,e2,e3,e4,e5,r⟩:=s.o i xs ex
      refine ⟨_,e1,.inl ⟨rfl,vs,SqL.of e2⟩,?_⟩
      refine k W0 H0 W σ H ρ E _ s eo (he.mono _ _ _ _ (fun d hd v W1 H1 x1 r1=>?_) h)
      have e2':=x1.h a _ e2 e4
      refine ⟨a,vs,v,rfl,rfl,e2',by rw [r.length];exact Nat.lt_of_lt_of_le hd.1 (ZaY (Nat.le_refl _)),?_⟩
      exact no.nx W1 σ _ _ ((s.step x1).chg ex e1 ((x1.reps r).append (.cons r1 .nil))) (fl.ext x1) hd.2
    · exact h.elim
  · unfold zApp at q ⊢
    split at q
    · exact he.mono _ _ _ _ (fun d hd=>⟨hd.1,hl.nx _ hd.2⟩) q
    · exact q.elim
end
end LP
namespace L2
open PySem PySem.Spec PyProof.Rows
theorem Inv.turnedL {X:Cx} {pins:List (Addr×Obj)} {σ:St} {H:Hp} {s:Shared} {h':Heap} {t':Nat} (ts:List Addr) (I:Inv X pins σ H s) (k:∀ b o,b∉ts→s.heap.get? b=some o→h'.get? b=some o)
    (hf:∀ b∈ts,FpOk X pins H b):Inv X pins σ H { s with heap:=h',toks:=t' }:=by
  refine I.step (g':=s.gens) (d':=s.drawn) (ch:=ts) (fun b hb=>?_) (fun b o _ _ hc e _=>k b o hc e) (fun b o _ _ hc e _=>⟨o.slots,k b o hc e⟩) (fun _ _ _ _ n=>n)
    (fun b o hc e=>⟨o,k b o hc e⟩) (fun _ _ e=>e) (fun _ _ _ e=>e) (fun b ps e=>⟨#[],by rw [e];simp⟩) (fun m hm=>?_) (fun b u e=>?_) I.bare (fun n=>n)
  · obtain ⟨_,f1,_,f3,f4,f5⟩:=hf b hb
    exact ⟨f3,f1,f4,f5⟩
  · obtain ⟨o,es,ep,ho,r⟩:=hm
    exact ⟨o,es,ep,k _ o (fun z=>(hf _ z).2.1 rfl) ho,r⟩
  · have nt:∀ c v,H c=some v→c∉ts:=fun c v q z=>by rw [(hf c z).1] at q;cases q
    refine (I.hok b u e).stay (fun c v hc q=>k c v ?_ q) (fun _ q=>q) fun _ _ q=>q
    rcases hc with z | z
    · rw [z];exact nt b u e
    · exact nt c _ z
def SIt (κ:Bool) (h:Heap) (it l:Addr) (i:Nat):Prop:=match κ with
  | true=>h.IsTupleIter it l i
  | false=>h.IsListIter it l i
def SSq (κ:Bool) (h:Heap) (l:Addr) (xs:Array Value):Prop:=match κ with
  | true=>h.IsTuple l xs
  | false=>h.IsList l xs
section
variable {κ:Bool} {h h':Heap} {it l a:Addr} {i:Nat} {xs:Array Value}
theorem SIt.keep (x:SIt κ h it l i) (k:∀ o,h.get? it=some o→h'.get? it=some o):SIt κ h' it l i:=by
  cases κ
  · exact Heap.IsListIter.at x k
  · exact Heap.IsTupleIter.at x k
theorem SIt.obj (x:SIt κ h it l i):∃ o,h.get? it=some o∧(∀ v,o.data≠.cell v):=by
  cases κ
  all_goals
    obtain ⟨o,e,_,d⟩:=x
    exact ⟨o,e,fun v z=>by rw [d] at z;cases z⟩
theorem SSq.keep (x:SSq κ h l xs) (k:∀ o,h.get? l=some o→h'.get? l=some o):SSq κ h' l xs:=by
  cases κ
  all_goals
    obtain ⟨o,e,r⟩:=x
    exact ⟨o,k o e,r⟩
end
section
variable {κ:Bool} {prog:Program} {w:World} {A:Around} {E:Value→Shared→Prop} {s:Shared} {it l:Addr} {i:Nat} {xs:Array Value} {x:Value}
theorem Zdp {Q:Value→Shared→Prop} (hi:SIt κ s.heap it l i) (hl:SSq κ s.heap l xs) (hx:xs[i]? = some x) (q:∀ h',SIt κ h' it l (i+1)→Heap.SameBut it s.heap h'→Q x { s with heap:=h' }) :
    wpAny (model prog w) A (Builtin.SmallTypes.nextOf (.ref it)) Q E s:=by
  cases κ with
  | false=>exact wpAny_nextOf_list_item hi hl hx q
  | true=>
    have ht:s.heap.IsTupleIter it l i:=hi
    obtain ⟨ob,hob,hcl,hda⟩:=id ht
    obtain ⟨sq,hsq,_,nn,hds⟩:=(show s.heap.IsTuple l xs from hl)
    unfold Builtin.SmallTypes.nextOf
    refine wpAny_bind (wpAny_callSpecial?_slot (name:=Str.ofString "__next__") ht.typeIs F.slot_tuple_iterator_next (wpAny_call_entry F.slot_tuple_iterator_next ht.typeIs F.entry_tuple_iterator_next ?_ (F.args_tuple_iterator_next_1 _)))
    show wpAny _ _ (field (.ref it) 0 >>= _) _ E s
    refine wpAny_bind (wpAny_field hob hda (x:=.ref l) rfl ?_)
    show wpAny _ _ (if (Value.ref l == Value.none)=true then _ else _) _ E s
    rw [if_neg (show ¬ ((Value.ref l == Value.none)=true) by exact Bool.false_ne_true)]
    show wpAny _ _ (field (.ref it) 1 >>= _) _ E s
    refine wpAny_bind (wpAny_field hob hda (x:=.int i 0) rfl ?_)
    show wpAny _ _ (seqItems? (.ref l) >>= _) _ E s
    refine wpAny_bind (wpAny_seqItems hsq hds ?_)
    simp only [Int.toNat_natCast,hx]
    refine wpAny_bind (wpAny_setField hob hda (by simp) (wpAny_pure ⟨x,rfl,wpAny_pure (q _ ?_ (Heap.SameBut.update ..))⟩))
    exact ⟨_,Heap.get?_update_self _ hob (Obj.isFreed_of_fields (Obj.data_mapFields hda _)),(Obj.cls_mapFields ..).trans hcl,by rw [Obj.data_mapFields hda];simp [rawInt]⟩
theorem Zd3 {Q:Value→Shared→Prop} (hh:A.handled=none) (hi:SIt κ s.heap it l i) (hl:SSq κ s.heap l xs) (hx:xs[i]? = none)
    (q:∀ h' e,Heap.ExtBut it s.heap h'→(∃ o,h'.get? e=some o∧o.cls = .type "StopIteration")→E (.ref e) { s with heap:=h' }) :
    wpAny (model prog w) A (Builtin.SmallTypes.nextOf (.ref it)) Q E s:=by
  cases κ with
  | false=>exact wpAny_nextOf_list_end hh hi hl hx q
  | true=>
    have ht:s.heap.IsTupleIter it l i:=hi
    obtain ⟨ob,hob,hcl,hda⟩:=id ht
    obtain ⟨sq,hsq,_,nn,hds⟩:=(show s.heap.IsTuple l xs from hl)
    unfold Builtin.SmallTypes.nextOf
    refine wpAny_bind (wpAny_callSpecial?_slot (name:=Str.ofString "__next__") ht.typeIs F.slot_tuple_iterator_next (wpAny_call_entry F.slot_tuple_iterator_next ht.typeIs F.entry_tuple_iterator_next ?_ (F.args_tuple_iterator_next_1 _)))
    show wpAny _ _ (field (.ref it) 0 >>= _) _ E s
    refine wpAny_bind (wpAny_field hob hda (x:=.ref l) rfl ?_)
    show wpAny _ _ (if (Value.ref l == Value.none)=true then _ else _) _ E s
    rw [if_neg (show ¬ ((Value.ref l == Value.none)=true) by exact Bool.false_ne_true)]
    show wpAny _ _ (field (.ref it) 1 >>= _) _ E s
    refine wpAny_bind (wpAny_field hob hda (x:=.int i 0) rfl ?_)
    show wpAny _ _ (seqItems? (.ref l) >>= _) _ E s
    refine wpAny_bind (wpAny_seqItems hsq hds ?_)
    simp only [Int.toNat_natCast,hx]
    refine wpAny_bind (wpAny_rule (wpAny_bind (wpAny_setField hob hda (by simp) ?_)))
    show wpAny _ _ (newExc (.type "StopIteration") [] >>= _) _ E _
    refine wpAny_bind ?_
    simp only [newExc,newTuple]
    refine wpAny_bind (wpAny_newObj_type ?_ (by size_fits))
    refine wpAny_bind (m:=firstArgMember _ _) (wpAny_of_eq (a:=Value.none) (by first | rfl | (rw [firstArgMember];rfl)) (wpAny_newObj_type ?_ (by size_fits)))
    simp only [raiseNew]
    refine wpAny_bind (wpAny_handled ?_)
    rw [show A.in1.handled=none from hh]
    exact wpAny_bind (wpAny_pure (wpAny_throw (q _ _ (((Heap.SameBut.update ..).extBut.push _).push _) ⟨_,Heap.get?_push_size _ rfl,rfl⟩)))
end
structure ZAp (z TI TO j1 j2:Addr):Prop where
  a:TI≠z
  b:TO≠z
  c:j1≠z
  d:j2≠z
  e:TI≠TO
  f:TI≠j1
  g:TI≠j2
  h:TO≠j1
  i:TO≠j2
  j:j1≠j2
def Out (z TI TO j1 j2 l:Addr):Prop:=l≠z∧l≠TI∧l≠TO∧l≠j1∧l≠j2
section
variable {κ κ':Bool} {prog:Program} {w:World} {A:Around} {E:Value→Shared→Prop} {s:Shared} {z TI TO j1 j2 l1 l2:Addr} {i:Nat} {xs ys:Array Value} {x y a b:Value}
theorem zip_item {Q:Value→Shared→Prop} (D:ZAp z TI TO j1 j2) (d1:Out z TI TO j1 j2 l1) (d2:Out z TI TO j1 j2 l2)
    (zz:IsZip s.heap z TI TO .none) (zi:IsPair s.heap TI (.ref j1) (.ref j2)) (zo:IsPair s.heap TO a b) (u1:SIt κ s.heap j1 l1 i) (u2:SIt κ' s.heap j2 l2 i) (v1:SSq κ s.heap l1 xs) (v2:SSq κ' s.heap l2 ys) (ex:xs[i]? = some x) (ey:ys[i]? = some y)
    (q:∀ h',IsZip h' z TI TO (rawInt s.heap.objs.size)→IsPair h' TO x y→SIt κ h' j1 l1 (i+1)→SIt κ' h' j2 l2 (i+1)→IsPair h' s.heap.objs.size x y→h'.objs.size=s.heap.objs.size+1→
      (∀ c o,c≠z→c≠TO→c≠j1→c≠j2→s.heap.get? c=some o→h'.get? c=some o)→Q (.ref s.heap.objs.size) { s with heap:=h' }) :
    wpAny (model prog w) A (Builtin.«zip.__next__» ⟨[.ref z],[]⟩) (fun fin s'=>∃ v,fin = .done (.ret v)∧Q v s') E s:=by
  obtain ⟨o1z,_,o1O,o11,o12⟩:=d1
  obtain ⟨o2z,_,o2O,o21,o22⟩:=d2
  show wpAny _ _ (field (.ref z) 2 >>= _) _ E _
  refine wpAny_bind (wpAny_field zz rfl (x:=.bool false) rfl ?_)
  show wpAny _ _ (field (.ref z) 3 >>= _) _ E _
  refine wpAny_bind (wpAny_field zz rfl (x:=.ref TI) rfl (wpAny_bind (wpAny_seqItems zi rfl ?_)))
  show wpAny _ _ (Builtin.SmallTypes.ownedTupleIsFree (.ref z) >>= _) _ E _
  refine wpAny_bind ?_
  unfold Builtin.SmallTypes.ownedTupleIsFree
  refine wpAny_bind (wpAny_field zz rfl (x:=.none) rfl (wpAny_pure ?_))
  simp only [if_true]
  refine wpAny_bind (wpAny_rule (wpAny_bind (wpAny_field zz rfl (x:=.ref TO) rfl (wpAny_bind (wpAny_setField_rec zz (by simp) fun g1 zz1 k1=>?_)))))
  replace zz1:IsZip g1 z TI TO .ellipsis:=zz1
  refine wpAny_bind ?_
  simp only [List.zipIdx_cons,List.zipIdx_nil,List.forIn_cons,List.forIn_nil]
  refine wpAny_bind (wpAny_bind (wpAny_onRaise ?_))
  show wpAny _ _ (Builtin.SmallTypes.nextOf (.ref j1) >>= _) _ _ _
  refine wpAny_bind (Zdp (u1.keep fun o e=>k1.extBut _ o D.c e) (v1.keep fun o e=>k1.extBut _ o o1z e) ex fun g2 u1' k2=>wpAny_pure ?_)
  have zo2:IsPair g2 TO a b:=k2.extBut _ _ D.h (k1.extBut _ _ D.b zo)
  refine wpAny_bind (wpAny_seqItems zo2 rfl (wpAny_bind (wpAny_updateSeq_pair zo2 fun g3 zo3 k3=>?_)))
  replace zo3:IsPair g3 TO x b:=zo3
  refine wpAny_bind (wpAny_letGo (wpAny_pure ?_))
  refine wpAny_bind (wpAny_bind (wpAny_onRaise ?_))
  show wpAny _ _ (Builtin.SmallTypes.nextOf (.ref j2) >>= _) _ _ _
  refine wpAny_bind (Zdp (u2.keep fun o e=>k3.extBut _ o D.i.symm (k2.extBut _ o D.j.symm (k1.extBut _ o D.d e))) (v2.keep fun o e=>k3.extBut _ o o2O (k2.extBut _ o o21 (k1.extBut _ o o2z e))) ey fun g4 u2' k4=>wpAny_pure ?_)
  have zo4:IsPair g4 TO x b:=k4.extBut _ _ D.i zo3
  refine wpAny_bind (wpAny_seqItems zo4 rfl (wpAny_bind (wpAny_updateSeq_pair zo4 fun g5 zo5 k5=>?_)))
  replace zo5:IsPair g5 TO x y:=zo5
  refine wpAny_bind (wpAny_letGo (wpAny_pure (wpAny_pure (wpAny_bind (wpAny_seqItems zo5 rfl (wpAny_bind (wpAny_newTuple ?_)))))))
  have sz:g5.objs.size=s.heap.objs.size:=by rw [k5.1,k4.1,k3.1,k2.1,k1.1]
  have zz5:IsZip g5 z TI TO .ellipsis:=k5.extBut _ _ D.b.symm (k4.extBut _ _ D.d.symm (k3.extBut _ _ D.b.symm (k2.extBut _ _ D.c.symm zz1)))
  have kk:∀ c o,c≠z→c≠TO→c≠j1→c≠j2→s.heap.get? c=some o→g5.get? c=some o:=fun c o c1 c2 c3 c4 e=>k5.extBut _ _ c2 (k4.extBut _ _ c4 (k3.extBut _ _ c2 (k2.extBut _ _ c3 (k1.extBut _ _ c1 e))))
  have r1:SIt κ g5 j1 l1 (i+1):=u1'.keep fun o e=>k5.extBut _ o D.h.symm (k4.extBut _ o D.j (k3.extBut _ o D.h.symm e))
  have r2:SIt κ' g5 j2 l2 (i+1):=u2'.keep fun o e=>k5.extBut _ o D.i.symm e
  have zlt:z < g5.objs.size:=Heap.lt_size zz5
  show wpAny _ _ (Builtin.SmallTypes.ownedTupleHandOut (.ref z) (.ref g5.objs.size) >>= _) _ E _
  refine wpAny_bind ?_
  unfold Builtin.SmallTypes.ownedTupleHandOut
  have zz6:IsZip (g5.push { cls:=.type "tuple",data:=.seq #[x,y] }) z TI TO .ellipsis:=Heap.get?_push_of_some _ zz5
  refine wpAny_bind (wpAny_setField_rec zz6 (by simp) fun g7 zz7 k7=>?_)
  replace zz7:IsZip g7 z TI TO (rawInt g5.objs.size):=zz7
  refine wpAny_setField_rec zz7 (by simp) fun g8 zz8 k8=>?_
  replace zz8:IsZip g8 z TI TO (rawInt g5.objs.size):=zz8
  have up:∀ c o,c≠z→g5.get? c=some o→g8.get? c=some o:=fun c o c1 e=>k8.extBut _ _ c1 (k7.extBut _ _ c1 (Heap.get?_push_of_some _ e))
  have tt8:IsPair g8 g5.objs.size x y:=k8.extBut _ _ (Nat.ne_of_gt zlt) (k7.extBut _ _ (Nat.ne_of_gt zlt) (Heap.get?_push_size _ rfl))
  have sz8:g8.objs.size=g5.objs.size+1:=by rw [k8.1,k7.1,Heap.size_push]
  rw [sz] at zz8 tt8 sz8
  refine wpAny_pure ⟨_,rfl,?_⟩
  show Q (.ref g5.objs.size) _
  rw [sz]
  exact q g8 zz8 (up _ _ D.b zo5) (r1.keep fun o e=>up _ o D.c e) (r2.keep fun o e=>up _ o D.d e) tt8 sz8 fun c o c1 c2 c3 c4 e=>up c o c1 (kk c o c1 c2 c3 c4 e)
theorem zip_end {Q:Fin→Shared→Prop} (hh:A.handled=none) (D:ZAp z TI TO j1 j2) (d1:Out z TI TO j1 j2 l1) (d2:Out z TI TO j1 j2 l2)
    (zz:IsZip s.heap z TI TO .none) (zi:IsPair s.heap TI (.ref j1) (.ref j2)) (zo:IsPair s.heap TO a b) (u1:SIt κ s.heap j1 l1 i) (u2:SIt κ' s.heap j2 l2 i) (v1:SSq κ s.heap l1 xs) (v2:SSq κ' s.heap l2 ys) (en:xs[i]? = none∨ys[i]? = none)
    (q:∀ h' e,(∀ c o,c≠z→c≠TO→c≠j1→c≠j2→s.heap.get? c=some o→h'.get? c=some o)→(∃ o,h'.get? e=some o∧o.cls = .type "StopIteration")→E (.ref e) { s with heap:=h' }) :
    wpAny (model prog w) A (Builtin.«zip.__next__» ⟨[.ref z],[]⟩) Q E s:=by
  obtain ⟨o1z,_,o1O,o11,o12⟩:=d1
  obtain ⟨o2z,_,o2O,o21,o22⟩:=d2
  show wpAny _ _ (field (.ref z) 2 >>= _) _ E _
  refine wpAny_bind (wpAny_field zz rfl (x:=.bool false) rfl ?_)
  show wpAny _ _ (field (.ref z) 3 >>= _) _ E _
  refine wpAny_bind (wpAny_field zz rfl (x:=.ref TI) rfl (wpAny_bind (wpAny_seqItems zi rfl ?_)))
  show wpAny _ _ (Builtin.SmallTypes.ownedTupleIsFree (.ref z) >>= _) _ E _
  refine wpAny_bind ?_
  unfold Builtin.SmallTypes.ownedTupleIsFree
  refine wpAny_bind (wpAny_field zz rfl (x:=.none) rfl (wpAny_pure ?_))
  simp only [if_true]
  refine wpAny_bind (wpAny_rule (wpAny_bind (wpAny_field zz rfl (x:=.ref TO) rfl (wpAny_bind (wpAny_setField_rec zz (by simp) fun g1 zz1 k1=>?_)))))
  replace zz1:IsZip g1 z TI TO .ellipsis:=zz1
  refine wpAny_bind ?_
  simp only [List.zipIdx_cons,List.zipIdx_nil,List.forIn_cons,List.forIn_nil]
  refine wpAny_bind (wpAny_bind (wpAny_onRaise ?_))
  show wpAny _ _ (Builtin.SmallTypes.nextOf (.ref j1) >>= _) _ _ _
  cases ex:xs[i]? with
  | none=>
    refine wpAny_bind (Zd3 hh (u1.keep fun o e=>k1.extBut _ o D.c e) (v1.keep fun o e=>k1.extBut _ o o1z e) ex fun g2 e k2 ⟨oe,e1,e2⟩=>?_)
    have zz2:IsZip g2 z TI TO .ellipsis:=k2 _ _ D.c.symm zz1
    have ne:e≠z:=fun r=>by subst r;rw [zz2] at e1;cases e1;simp at e2
    exact wpAny_setField_rec zz2 (by simp) fun g3 _ k3=>q g3 e (fun c o c1 _ c3 _ r=>k3.extBut _ _ c1 (k2 _ _ c3 (k1.extBut _ _ c1 r))) ⟨oe,k3.extBut _ _ ne e1,e2⟩
  | some x=>
    have ey:ys[i]? = none:=en.elim (fun h=>by rw [ex] at h;cases h) id
    refine wpAny_bind (Zdp (u1.keep fun o e=>k1.extBut _ o D.c e) (v1.keep fun o e=>k1.extBut _ o o1z e) ex fun g2 u1' k2=>wpAny_pure ?_)
    have zo2:IsPair g2 TO a b:=k2.extBut _ _ D.h (k1.extBut _ _ D.b zo)
    refine wpAny_bind (wpAny_seqItems zo2 rfl (wpAny_bind (wpAny_updateSeq_pair zo2 fun g3 zo3 k3=>?_)))
    refine wpAny_bind (wpAny_letGo (wpAny_pure ?_))
    refine wpAny_bind (wpAny_bind (wpAny_onRaise ?_))
    show wpAny _ _ (Builtin.SmallTypes.nextOf (.ref j2) >>= _) _ _ _
    refine wpAny_bind (Zd3 hh (u2.keep fun o e=>k3.extBut _ o D.i.symm (k2.extBut _ o D.j.symm (k1.extBut _ o D.d e))) (v2.keep fun o e=>k3.extBut _ o o2O (k2.extBut _ o o21 (k1.extBut _ o o2z e))) ey fun g4 e k4 ⟨oe,e1,e2⟩=>?_)
    have zz4:IsZip g4 z TI TO .ellipsis:=k4 _ _ D.d.symm (k3.extBut _ _ D.b.symm (k2.extBut _ _ D.c.symm zz1))
    have ne:e≠z:=fun r=>by subst r;rw [zz4] at e1;cases e1;simp at e2
    exact wpAny_setField_rec zz4 (by simp) fun g5 _ k5=>q g5 e (fun c o c1 c2 c3 c4 r=>k5.extBut _ _ c1 (k4 _ _ c4 (k3.extBut _ _ c2 (k2.extBut _ _ c3 (k1.extBut _ _ c1 r))))) ⟨oe,k5.extBut _ _ ne e1,e2⟩
end
section
variable {X:Cx} {pins:List (Addr×Obj)} {σ:St} {H:Hp} {s:Shared} {h':Heap} {t':Nat}
theorem Inv.turnedN {a:Addr} {o:HO} (ts:List Addr) (I:Inv X pins σ H s) (k:∀ b o,b∉ts→s.heap.get? b=some o→h'.get? b=some o)
    (hf:∀ b∈ts,FpOk X pins H b) (hp:s.heap.objs.size≤a) (new:ObjOk X.prog X.w (upd H a o) h' a o):Inv X pins σ (upd H a o) { s with heap:=h',toks:=t' }:=by
  have hn:H a=none:=I.hok.fresh hp
  have nea:∀ b u,H b=some u→b≠a:=fun b u e z=>by rw [z,hn] at e;cases e
  have neb:∀ b u,s.heap.get? b=some u→b≠a:=fun b u e z=>by subst z;exact absurd (Nat.lt_of_lt_of_le (Heap.lt_size e) hp) (Nat.lt_irrefl _)
  refine I.step (g':=s.gens) (d':=s.drawn) (ch:=ts) (fun b hb=>?_) (fun b o _ _ hc e _=>k b o hc e) (fun b o _ _ hc e _=>⟨o.slots,k b o hc e⟩) (fun b u _ e n=>by rw [upd_ne (neb b u e)];exact n)
    (fun b o hc e=>⟨o,k b o hc e⟩) (fun b xs e=>by rw [upd_ne (nea _ _ e)];exact e) (fun b _ _ e=>by rw [upd_ne (nea _ _ e)];exact e) (fun b ps e=>⟨#[],by rw [upd_ne (nea _ _ e),e];simp⟩) (fun m hm=>?_) (fun b u e=>?_) I.bare (fun n ys=>by
      obtain ⟨og,eg⟩:=I.hasG
      rw [upd_ne (Nat.ne_of_lt (Nat.lt_of_lt_of_le (Nat.lt_trans (by decide) (Heap.lt_size eg)) hp))];exact n ys)
  · obtain ⟨_,f1,_,f3,f4,f5⟩:=hf b hb
    exact ⟨f3,f1,f4,f5⟩
  · obtain ⟨o,es,ep,ho,r⟩:=hm
    exact ⟨o,es,ep,k _ o (fun z=>(hf _ z).2.1 rfl) ho,r⟩
  · by_cases hb:b=a
    · subst hb;rw [upd_same] at e;cases e;exact new
    · rw [upd_ne hb] at e
      have nt:∀ c v,H c=some v→c∉ts:=fun c v q z=>by rw [(hf c z).1] at q;cases q
      refine (I.hok b u e).stay (fun c v hc q=>k c v ?_ q) (fun c q=>by rw [upd_ne (nea _ _ q)];exact q) fun c _ q=>by rw [upd_ne (nea _ _ q)];exact q
      rcases hc with z | z
      · rw [z];exact nt b u e
      · exact nt c _ z
def Sq (K:PySem.W.Frag) (κ:Bool) (H:Hp) (a:Addr) (xs:List V):Prop:=match κ with
  | true=>SqT K H a xs
  | false=>SqL K H a xs
theorem Inv.sq {κ:Bool} {a:Addr} {xs:List V} (I:Inv X pins σ H s) (h:Sq X.K κ H a xs):∃ its:List Value,Vals xs its∧SSq κ s.heap a its.toArray∧xs.length≤sizeLine:=by
  cases κ with
  | false=>obtain ⟨its,r,p,hz⟩:=I.list h;exact ⟨its,r,p.isList,hz⟩
  | true=>obtain ⟨its,r,p,hz⟩:=I.tuple h;exact ⟨its,r,(show s.heap.IsTuple a its.toArray from p),hz⟩
theorem Inv.sq_inj {κ:Bool} {a:Addr} {xs ys:List V} (I:Inv X pins σ H s) (h:Sq X.K κ H a xs) (h':Sq X.K κ H a ys):xs=ys:=by
  cases κ with
  | false=>exact I.list_inj h h'
  | true=>exact I.tuple_inj h h'
theorem Inv.sq_out {κ:Bool} {a b:Addr} {xs:List V} (I:Inv X pins σ H s) (h:Sq X.K κ H a xs) (f:FpOk X pins H b):a≠b:=by
  rintro rfl
  have hk:∀ o,X.K.lookup a=some o→False:=fun o e=>by
    have e1:=I.ok.mod.kin a o e
    rcases f.2.2.2.1 with z | z
    · exact I.ok.noex a o e1 z
    · exact absurd (Nat.lt_of_lt_of_le (Heap.lt_size (I.ok.bs a o e1).1) z) (Nat.lt_irrefl _)
  have hr:∀ u,Rd H a u→False:=fun u r=>by
    rcases r with r | ⟨o,r⟩
    · rw [f.1] at r;cases r
    · rw [f.1] at r;cases r
  cases κ with
  | false=>
    rcases h with h | ⟨o,_,_,e,_⟩
    · exact hr _ h
    · exact hk o e
  | true=>
    rcases h with h | ⟨o,_,_,e,_⟩
    · exact hr _ h
    · exact hk o e
end
def Itz (K:PySem.W.Frag) (κ κ':Bool) (a b:Addr):It:=
  ⟨fun i H=>∃ xs ys x y,Sq K κ H a xs∧Sq K κ' H b ys∧xs[i]? = some x∧ys[i]? = some y,
   fun i H v H'=>∃ p x y,v = .ref p∧H p=none∧H'=upd H p (.tup [x,y])∧(∀ xs,Sq K κ H a xs→xs[i]? = some x)∧(∀ ys,Sq K κ' H b ys→ys[i]? = some y),
   fun i H=>∃ xs ys,Sq K κ H a xs∧Sq K κ' H b ys∧(xs.length≤i∨ys.length≤i)⟩
theorem turn_zip {P:Program} {w:World} {K:PySem.W.Frag} {es:List Expr} {n1:Nat} {ps:Pos} {κ κ':Bool} (a b z TI TO j1 j2:Addr) (D:ZAp z TI TO j1 j2) :
    Turn P w K (.Tuple es n1 ps) (Itz K κ κ' a b) [z,TI,TO,j1,j2] z (fun i h=>IsZip h z TI TO .none∧IsPair h TI (.ref j1) (.ref j2)∧(∃ u v,IsPair h TO u v)∧SIt κ h j1 a i∧SIt κ' h j2 b i) where
  mem:=by simp
  obj:=fun i h ⟨q1,q2,⟨u,v,q3⟩,q4,q5⟩ c hc=>by
    simp only [List.mem_cons,List.not_mem_nil,or_false] at hc
    rcases hc with rfl | rfl | rfl | rfl | rfl
    · exact ⟨_,q1,fun v e=>by cases e⟩
    · exact ⟨_,q2,fun v e=>by cases e⟩
    · exact ⟨_,q3,fun v e=>by cases e⟩
    · exact q4.obj
    · exact q5.obj
  keep:=fun i h h' ⟨q1,q2,⟨u,v,q3⟩,q4,q5⟩ k=>
    ⟨k z (by simp) _ q1,k TI (by simp) _ q2,⟨u,v,k TO (by simp) _ q3⟩,q4.keep fun o e=>k j1 (by simp) o e,q5.keep fun o e=>k j2 (by simp) o e⟩
  item:=by
    intro X hP hw hK hc i pins s σ H E I hf ⟨q1,q2,⟨u,v,q3⟩,q4,q5⟩ hg
    subst hP hw hK
    obtain ⟨xs,ys,x,y,hx,hy,ex,ey⟩:=hg
    obtain ⟨its,rv,p,hz⟩:=I.sq hx
    obtain ⟨its',rv',p',hz'⟩:=I.sq hy
    obtain ⟨ux,hux,rux⟩:=rv.get ex
    obtain ⟨uy,huy,ruy⟩:=rv'.get ey
    have out:∀ {κ:Bool} {c:Addr} {xs:List V},Sq X.K κ H c xs→Out z TI TO j1 j2 c:=fun hq=>
      ⟨I.sq_out hq (hf z (by simp)),I.sq_out hq (hf TI (by simp)),I.sq_out hq (hf TO (by simp)),I.sq_out hq (hf j1 (by simp)),I.sq_out hq (hf j2 (by simp))⟩
    have hT:s.TypeIs (.ref z) "zip" :=⟨_,q1,rfl⟩
    unfold pyNext
    refine wpAny_bind (wpAny_attempt (wpAny_callSpecial?_slot (name:=Str.ofString "__next__") hT F.slot_zip_next (wpAny_call_entry F.slot_zip_next hT F.entry_zip_next
      (zip_item D (out hx) (out hy) q1 q2 q3 q4 q5 p p' (x:=ux) (y:=uy) (by simpa using hux) (by simpa using huy) fun h' a1 a2 a3 a4 a5 a6 a7=>wpAny_pure ⟨_,rfl,?_⟩) (F.args_zip_next_1 _))))
    refine wpAny_letOwnedTupleGo_zip (s:={ s with heap:=h' }) a1 fun h2 b1 b2=>?_
    have lt:∀ {c o},s.heap.get? c=some o→c≠s.heap.objs.size:=fun e=>Nat.ne_of_lt (Heap.lt_size e)
    have zl:=lt q1
    have up:∀ c o,c∉[z,TI,TO,j1,j2]→s.heap.get? c=some o→h2.get? c=some o:=fun c o hc e=>by
      simp only [List.mem_cons,List.not_mem_nil,or_false,not_or] at hc
      exact b2.extBut _ _ hc.1 (a7 c o hc.1 hc.2.2.1 hc.2.2.2.1 hc.2.2.2.2 e)
    refine ⟨.ref s.heap.objs.size,upd H s.heap.objs.size (.tup [x,y]),Inv.turnedN (s:=s) (t':=s.toks) [z,TI,TO,j1,j2] I up hf (Nat.le_refl _) ?_,rfl,⟨s.heap.objs.size,x,y,rfl,I.fresh,rfl,fun xs' h'=>by rw [I.sq_inj h' hx];exact ex,fun ys' h'=>by rw [I.sq_inj h' hy];exact ey⟩,?_,fun c hc=>?_⟩
    · refine ⟨by rw [sizeLine_eq];simp,[ux,uy],.cons rux (.cons ruy .nil),?_⟩
      exact ⟨_,b2.extBut _ _ (Ne.symm zl) a5,rfl,_,rfl⟩
    · exact ⟨b1,b2.extBut _ _ D.a (a7 _ _ D.a D.e D.f D.g q2),⟨_,_,b2.extBut _ _ D.b a2⟩,a3.keep fun o e=>b2.extBut _ o D.c e,a4.keep fun o e=>b2.extBut _ o D.d e⟩
    · have he:∃ o,s.heap.get? c=some o:=by
        simp only [List.mem_cons,List.not_mem_nil,or_false] at hc
        rcases hc with rfl | rfl | rfl | rfl | rfl
        · exact ⟨_,q1⟩
        · exact ⟨_,q2⟩
        · exact ⟨_,q3⟩
        · obtain ⟨o,e,_⟩:=q4.obj;exact ⟨o,e⟩
        · obtain ⟨o,e,_⟩:=q5.obj;exact ⟨o,e⟩
      obtain ⟨o,e⟩:=he
      rw [upd_ne (lt e)]
      exact (hf c hc).1
  done:=by
    intro X hP hw hK hc i pins s σ H E I hf ⟨q1,q2,⟨u,v,q3⟩,q4,q5⟩ hg
    subst hP hw hK
    obtain ⟨xs,ys,hx,hy,en⟩:=hg
    obtain ⟨its,rv,p,hz⟩:=I.sq hx
    obtain ⟨its',rv',p',hz'⟩:=I.sq hy
    have l1:=rv.length
    have l2:=rv'.length
    have out:∀ {κ:Bool} {c:Addr} {xs:List V},Sq X.K κ H c xs→Out z TI TO j1 j2 c:=fun hq=>
      ⟨I.sq_out hq (hf z (by simp)),I.sq_out hq (hf TI (by simp)),I.sq_out hq (hf TO (by simp)),I.sq_out hq (hf j1 (by simp)),I.sq_out hq (hf j2 (by simp))⟩
    have hT:s.TypeIs (.ref z) "zip" :=⟨_,q1,rfl⟩
    unfold pyNext
    refine wpAny_bind (wpAny_attempt (wpAny_callSpecial?_slot (name:=Str.ofString "__next__") hT F.slot_zip_next (wpAny_call_entry F.slot_zip_next hT F.entry_zip_next
      (zip_end (I.ok.hd hc) D (out hx) (out hy) q1 q2 q3 q4 q5 p p' (by rcases en with z | z;exact .inl (by simp;omega);exact .inr (by simp;omega)) fun h' e k ⟨o,e1,e2⟩=>?_) (F.args_zip_next_1 _))))
    refine wpAny_bind (wpAny_isInstance (s:={ s with heap:=h' }) (T:= "StopIteration") (b:=true) ⟨o,e1,e2⟩ isSubtype_stop (wpAny_pure ⟨rfl,?_⟩))
    refine I.turnedL (t':=s.toks) [z,TI,TO,j1,j2] (fun c o hc e=>?_) hf
    simp only [List.mem_cons,List.not_mem_nil,or_false,not_or] at hc
    exact k c o hc.1 hc.2.2.1 hc.2.2.2.1 hc.2.2.2.2 e
  self:=fun _ _ _ _ _ st h=>wpAny_pyIter_zip st.1 h
def io (κ:Bool) (l:Addr):Obj:={ cls:=.type (match κ with | true=> "tuple_iterator" | false=> "list_iterator"),data:=.fields #[.ref l,.int 0 0] }
theorem io_it {κ:Bool} {h:Heap} {l j:Addr} (e:h.get? j=some (io κ l)):SIt κ h j l 0:=by
  cases κ
  all_goals exact ⟨_,e,rfl,rfl⟩
theorem ZeK {κ:Bool} {prog:Program} {w:World} {A:Around} {E:Value→Shared→Prop} {s:Shared} {l:Addr} {xs:Array Value} {Q:Value→Shared→Prop} (hl:SSq κ s.heap l xs) (q:Q (.ref s.heap.objs.size) { s with heap:=s.heap.push (io κ l) }) :
    wpAny (model prog w) A (pyIter (.ref l)) Q E s:=by
  cases κ with
  | false=>exact wpAny_pyIter_list hl q
  | true=>exact wpAny_pyIter_tuple hl q
abbrev zg1 (κ:Bool) (h:Heap) (l1:Addr):Heap:=h.push (io κ l1)
abbrev zg2 (κ κ':Bool) (h:Heap) (l1 l2:Addr):Heap:=(zg1 κ h l1).push (io κ' l2)
abbrev zg3 (κ κ':Bool) (h:Heap) (l1 l2:Addr):Heap:=(zg2 κ κ' h l1 l2).push { cls:=.type "tuple",data:=.seq #[.ref h.objs.size,.ref (zg1 κ h l1).objs.size] }
abbrev zg4 (κ κ':Bool) (h:Heap) (l1 l2:Addr):Heap:=(zg3 κ κ' h l1 l2).push { cls:=.type "tuple",data:=.seq #[.none,.none] }
abbrev zg5 (κ κ':Bool) (h:Heap) (l1 l2:Addr):Heap:=(zg4 κ κ' h l1 l2).push { cls:=.type "zip",data:=.fields #[.none,.bool false,.bool false,.ref (zg2 κ κ' h l1 l2).objs.size,.ref (zg3 κ κ' h l1 l2).objs.size] }
theorem meets_zip (κ κ':Bool) (l1 l2:Addr) (xs ys:Array Value) :
    Meets (Builtin.«zip.__new__» ⟨[.type "zip",.ref l1,.ref l2],[]⟩) (fun _ R s=>SSq κ s.heap l1 xs∧SSq κ' s.heap l2 ys∧R (.ok (.ret (.ref (zg4 κ κ' s.heap l1 l2).objs.size))) { s with heap:=zg5 κ κ' s.heap l1 l2 }):=
  .of_wp fun prog w A R s h=>by
    obtain ⟨hp,g,d,tk,os⟩:=s;obtain ⟨hl1,hl2,h⟩:=h
    have hsub:=sub_zip
    have L1:SSq κ (Shared.heap ⟨hp,g,d,tk,os⟩) l1 xs:=hl1
    have L2':SSq κ' (Shared.heap ⟨hp.push (io κ l1),g,d,tk,os⟩) l2 ys:=hl2.keep fun o e=>Heap.get?_push_of_some _ e
    wp_walk using ZeK L1,ZeK L2'
    exact ⟨_,rfl,h⟩
theorem call_zip {κ κ':Bool} {prog:Program} {w:World} {A:Around} {E:Value→Shared→Prop} {s:Shared} {l1 l2:Addr} {xs ys:Array Value} {Q:Value→Shared→Prop} (hl1:SSq κ s.heap l1 xs) (hl2:SSq κ' s.heap l2 ys)
    (h:∀ h',IsZip h' (s.heap.objs.size+4) (s.heap.objs.size+2) (s.heap.objs.size+3) .none→IsPair h' (s.heap.objs.size+2) (.ref s.heap.objs.size) (.ref (s.heap.objs.size+1))→
      IsPair h' (s.heap.objs.size+3) .none .none→SIt κ h' s.heap.objs.size l1 0→SIt κ' h' (s.heap.objs.size+1) l2 0→
      (∀ c o,s.heap.get? c=some o→h'.get? c=some o)→Q (.ref (s.heap.objs.size+4)) { s with heap:=h' }) :
    wpAny (model prog w) A (call (.type "zip") [.ref l1,.ref l2]) Q E s:=by
  refine callType_new F.called_zip (by decide) (F.typeCall_zip_2 _ _) (F.newCall_zip_2 _ _) (fun obj=>F.args_object_init_3 obj _ _) F.entry_zip_new (meets_zip κ κ' l1 l2 xs ys) ⟨hl1,hl2,?_⟩
  have z1:(zg1 κ s.heap l1).objs.size=s.heap.objs.size+1:=Heap.size_push ..
  have z2:(zg2 κ κ' s.heap l1 l2).objs.size=s.heap.objs.size+2:=by rw [Heap.size_push,z1]
  have z3:(zg3 κ κ' s.heap l1 l2).objs.size=s.heap.objs.size+3:=by rw [Heap.size_push,z2]
  have z4:(zg4 κ κ' s.heap l1 l2).objs.size=s.heap.objs.size+4:=by rw [Heap.size_push,z3]
  have up5:∀ {c o},(zg4 κ κ' s.heap l1 l2).get? c=some o→(zg5 κ κ' s.heap l1 l2).get? c=some o:=fun e=>Heap.get?_push_of_some _ e
  have up4:∀ {c o},(zg3 κ κ' s.heap l1 l2).get? c=some o→(zg5 κ κ' s.heap l1 l2).get? c=some o:=fun e=>up5 (Heap.get?_push_of_some _ e)
  have up3:∀ {c o},(zg2 κ κ' s.heap l1 l2).get? c=some o→(zg5 κ κ' s.heap l1 l2).get? c=some o:=fun e=>up4 (Heap.get?_push_of_some _ e)
  have up2:∀ {c o},(zg1 κ s.heap l1).get? c=some o→(zg5 κ κ' s.heap l1 l2).get? c=some o:=fun e=>up3 (Heap.get?_push_of_some _ e)
  have ob:∀ κ l,(io κ l).isFreed=false:=fun κ l=>rfl
  have g5:(zg5 κ κ' s.heap l1 l2).get? (zg4 κ κ' s.heap l1 l2).objs.size=some _:=Heap.get?_push_size _ rfl
  have g4:(zg5 κ κ' s.heap l1 l2).get? (zg3 κ κ' s.heap l1 l2).objs.size=some _:=up5 (Heap.get?_push_size _ rfl)
  have g3:(zg5 κ κ' s.heap l1 l2).get? (zg2 κ κ' s.heap l1 l2).objs.size=some _:=up4 (Heap.get?_push_size _ rfl)
  have g2:(zg5 κ κ' s.heap l1 l2).get? (zg1 κ s.heap l1).objs.size=some _:=up3 (Heap.get?_push_size _ (ob κ' l2))
  have g1:(zg5 κ κ' s.heap l1 l2).get? s.heap.objs.size=some _:=up2 (Heap.get?_push_size _ (ob κ l1))
  show _∧_
  rw [z2,z3,z4] at g5
  rw [z1,z2] at g3
  rw [z3] at g4
  rw [z1] at g2
  rw [z4]
  exact ⟨⟨_,g5,rfl⟩,h _ g5 g3 g4 (io_it g1) (io_it g2) fun c o x=>up2 (Heap.get?_push_of_some _ x)⟩
theorem zap (n:Nat):ZAp (n+4) (n+2) (n+3) n (n+1):=
  ⟨(by omega:n+2≠n+4),(by omega:n+3≠n+4),(by omega:n≠n+4),(by omega:n+1≠n+4),(by omega:n+2≠n+3),(by omega:n+2≠n),(by omega:n+2≠n+1),(by omega:n+3≠n),(by omega:n+3≠n+1),(by omega:n≠n+1)⟩
theorem five (n b:Nat) (h:b=n+4∨b=n+2∨b=n+3∨b=n∨b=n+1):n≤b:=by omega
section
variable {X:Cx}
def iZip (K:PySem.W.Frag) (ta:TA):TI:=fun σ H R=>ta σ H fun vs H1=>∃ κ κ' a b,vs=[.ref a,.ref b]∧(∃ xs,Sq K κ H1 a xs)∧(∃ ys,Sq K κ' H1 b ys)∧R (Itz K κ κ' a b) H1
theorem pi_zip {a b:Expr} {ta:TA} {p pos ps:Pos} {es:List Expr} {n1:Nat} (hg:Gl X "zip") (hm:X.mg "zip" = none) (ha:PA X [a,b] ta) (hs:starEach [a,b] X.env=[(false,eval a X.env),(false,eval b X.env)]:=by rfl) (hs2:starEach [b] X.env=[(false,eval b X.env)]:=by rfl) :
    PI X (.Tuple es n1 ps) (.Call (.Name "zip" p) [a,b] [] pos) (iZip X.K ta):=by
  intro pins s σ H R I h
  refine Call_ (ld_blt I hg hm boot_zip (PyProof.Rows.callWith_type1 (thn (ha pos pins s σ H _ I h) fun us s1 ⟨vs,H1,I1,r1,q1⟩=>?_) (by rw [hs,hs2]) (by rw [hs2];rfl)))
  obtain ⟨κ,κ',l1,l2,e,⟨xs,hx⟩,⟨ys,hy⟩,q⟩:=q1
  subst e
  cases r1 with
  | cons r rr=>
    cases rr with
    | cons r' rr=>
      cases rr
      cases r
      cases r'
      obtain ⟨its,rv,p1,hz⟩:=I1.sq hx
      obtain ⟨its',rv',p2,hz'⟩:=I1.sq hy
      refine call_zip p1 p2 fun h' a1 a2 a3 a4 a5 k=>wpAny_pyIter_zip (s:={ s1 with heap:=h' }) a1 ?_
      have D:ZAp (s1.heap.objs.size+4) (s1.heap.objs.size+2) (s1.heap.objs.size+3) s1.heap.objs.size (s1.heap.objs.size+1):=zap _
      refine ⟨_,[s1.heap.objs.size+4,s1.heap.objs.size+2,s1.heap.objs.size+3,s1.heap.objs.size,s1.heap.objs.size+1],_,_,H1,rfl,I1.kept (t':=s1.toks) k,turn_zip (κ:=κ) (κ':=κ') l1 l2 _ _ _ _ _ D,⟨a1,a2,⟨_,_,a3⟩,a4,a5⟩,fun b hb=>?_,q⟩
      have hb':s1.heap.objs.size≤b:=by
        simp only [List.mem_cons,List.not_mem_nil,or_false] at hb
        exact five _ _ hb
      exact I1.fpOk hb' (I1.hok.fresh hb')
end
end L2
namespace LP
open PySem PySem.Spec PyProof.Rows L2
section
variable {X:Cx} {EX:XK} {pos p p2 ps:Pos} {tg e a b:Expr} {es:List Expr} {w wa wb:WE}
theorem Rep.sq {K:PySem.W.Frag} {W:Wd} {v:V} {d:D} {Q:List D→Prop} (r:Rep K W v d) (h:isS Q d):∃ κ l vs xs,v = .ref l∧Reps K W vs xs∧Q xs∧∀ W2 H2,(∀ a o,W.G a=some o→W2.G a=some o)→WOk W2 H2→Sq K κ H2 l vs:=by
  cases r with
  | lst e1 rr=>exact ⟨false,_,_,_,rfl,rr,h,fun W2 H2 g ok=>SqL.of (ok.g _ _ (g _ _ e1))⟩
  | tup e1 rr=>exact ⟨true,_,_,_,rfl,rr,h,fun W2 H2 g ok=>SqT.of (ok.g _ _ (g _ _ e1))⟩
  | ktup e1 rr=>exact ⟨true,_,_,_,rfl,rr,h,fun W2 H2 g ok=>.inr e1⟩
  | _=>exact h.elim
def zips (xs ys:List D):List D:=List.zipWith (fun x y=>.tup [x,y]) xs ys
def iZ (t:WA):WA:=fun E ρ Q=>t E ρ fun ds=>match ds with
  | [x,y]=>isS (fun xs=>isS (fun ys=>Q (zips xs ys)) y) x
  | _=>False
theorem pxi_zip {t:WA} {n1:Nat} (hm:X.mg "zip" = none) (ha:PXA X EX [a,b] t) (hg:Gl X "zip" :=by rfl) (hs:starEach [a,b] X.env=[(false,eval a X.env),(false,eval b X.env)]:=by rfl) (hs2:starEach [b] X.env=[(false,eval b X.env)]:=by rfl) :
    PXI X EX (.Tuple es n1 ps) (.Call (.Name "zip" p) [a,b] [] pos) (iZ t):=by
  obtain ⟨t,q,k⟩:=ha.t
  refine ⟨⟨_,pi_zip hg hm q hs hs2,fun W0 H0 W σ H ρ E R s eo h=>?_⟩,fun E ρ P P' hp h=>ha.mono _ _ _ _ (fun ds hd=>?_) h⟩
  · refine k W0 H0 W σ H ρ E _ s eo (ha.mono _ _ _ _ (fun ds hd vs W1 H1 x1 r1=>?_) h)
    split at hd
    · obtain ⟨v,u,rfl,rv,ru⟩:=r1.two
      obtain ⟨κ,l,vs,xs,rfl,rr,hd,sq⟩:=rv.sq hd
      obtain ⟨κ',l',us,ys,rfl,rr',hd,sq'⟩:=ru.sq hd
      refine ⟨κ,κ',l,l',rfl,⟨vs,sq W1 H1 (fun _ _ z=>z) x1.ok⟩,⟨us,sq' W1 H1 (fun _ _ z=>z) x1.ok⟩,hd W1 H1 _ x1 fun W2 H2 i g2 p2 ok2=>⟨fun d hd=>?_,fun hi=>?_⟩⟩
      · have s1:=sq W2 H2 g2 ok2
        have s2:=sq' W2 H2 g2 ok2
        unfold zips at hd
        rw [List.getElem?_zipWith] at hd
        cases ex:xs[i]? with
        | none=>rw [ex] at hd;cases hd
        | some x=>
          cases ey:ys[i]? with
          | none=>rw [ex,ey] at hd;cases hd
          | some y=>
            rw [ex,ey] at hd
            cases hd
            obtain ⟨vx,evx,rvx⟩:=rr.get ex
            obtain ⟨vy,evy,rvy⟩:=rr'.get ey
            refine ⟨⟨vs,us,vx,vy,s1,s2,evx,evy⟩,fun z H3 hy=>?_⟩
            obtain ⟨q,x',y',rfl,hq,rfl,e1,e2⟩:=hy
            have e1:=e1 _ s1
            have e2:=e2 _ s2
            rw [evx] at e1
            rw [evy] at e2
            cases e1
            cases e2
            have xt:=Ext.put (o:=.tup [vx,vy]) ok2 hq
            exact ⟨_,xt,.tup (by unfold Wd.put;dsimp only;rw [upd_same]) (.cons (xt.rep (rvx.mono g2 p2)) (.cons (xt.rep (rvy.mono g2 p2)) .nil))⟩
      · refine ⟨vs,us,sq W2 H2 g2 ok2,sq' W2 H2 g2 ok2,?_⟩
        rw [rr.length,rr'.length]
        unfold zips at hi
        rw [List.length_zipWith] at hi
        omega
    · exact hd.elim
  · split at hd
    · exact isS.mono (fun xs h1=>isS.mono (fun ys h2=>hp _ h2) _ h1) _ hd
    · exact hd.elim
def Zb5 (i:Nat) (wi wv:WE):WS:=fun E N ρ=>match ρ[i]? with
  | some (.ow xs)=>wv E ρ fun d=>wi E ρ (isI fun k=>∃ j,ixN xs.length k=some j∧N.nx (ρ.set i (.ow (xs.set j d))))
  | _=>False
theorem Zgy (i:Nat) {x:Str} {wi wv:WE} {ix:Expr} {spos:Pos} (hix:PX X EX ix wi) (he:PX X EX e wv) (hN:X.N[i]? = some x:=by rfl) (hv:Vis X.env.scope x:=by first | exact Or.inl rfl | exact Or.inr (Or.inl rfl) | exact Or.inr (Or.inr rfl)) (hd:(x == ("__debug__" : Str))=false:=by decide)
    (hcd:(x == ("__classdict__" : Str))=false:=by decide)
    (ha:∀ v,assign (.Subscript (.Name x p) ix spos) X.env v=(do
      let ov ← holding [v] (eval (.Name x p) X.env)
      let iv ← holding [v,ov] (eval ix X.env)
      standAt spos
      holding [v,ov,iv] (setItem ov iv v)
      release [v,ov,iv] []):=by intro _;rfl)
    (hs:swapsWithSole [.Subscript (.Name x p) ix spos] e pos.line X.env=pure false:=by rfl) (hw:swappedStores [.Subscript (.Name x p) ix spos] e X.env=pure none:=by rfl)
    (h1:(assignEach [.Subscript (.Name x p) ix spos] X.env).map (·.2)=[assign (.Subscript (.Name x p) ix spos) X.env]:=by rfl):PZ X EX (.Assign [.Subscript (.Name x p) ix spos] e pos) (Zb5 i wi wv):=by
  obtain ⟨t,pe,k⟩:=he.t
  obtain ⟨ti,pi,ki⟩:=hix.t
  refine ⟨⟨_,ps_asg pe (pg_sub (pe_var hN hv hd hcd) pi set_list ha) hs hw h1,fun W0 H0 F W σ H ρ E Dn N s fl eo no h=>?_⟩,fun E ρ N N' hl q=>?_⟩
  · unfold Zb5 at h
    split at h
    · rename_i xs ex
      obtain ⟨a,vs,e1,e2,e3,e4,e5,r⟩:=s.o i xs ex
      refine k W0 H0 W σ H ρ E _ s eo (he.mono _ _ _ _ (fun d hd v W1 H1 x1 r1=>⟨_,e1,?_⟩) h)
      refine ki W0 H0 W1 σ H1 ρ E _ (s.step x1) eo (hix.mono _ _ _ _ (fun di hdi vi W2 H2 x2 r2=>?_) hd)
      obtain ⟨kk,rfl,j,hj,hn⟩:=ZdM hdi
      cases r2
      have xx:=x1.trans x2
      have e2':=xx.h a _ e2 e4
      refine ⟨a,vs,kk,j,rfl,rfl,e2',by rw [r.length];exact hj,?_⟩
      exact no.nx W2 σ _ _ ((s.step xx).chg ex e1 (Reps.set (x2.rep r1) j (xx.reps r))) (fl.ext xx) hn
    · exact h.elim
  · unfold Zb5 at q ⊢
    split at q
    · exact he.mono _ _ _ _ (fun d hd=>hix.mono _ _ _ _ (isI.mono fun kk ⟨j,hj,hn⟩=>⟨j,hj,hl.nx _ hn⟩) hd) q
    · exact q.elim
end
mutual
def flat:D→Bool
  | .lst _=>false
  | .scr _=>false
  | .dic=>false
  | .tup xs=>Zdq xs
  | .non=>true
  | .bl _=>true
  | .int _=>true
  | .str _=>true
  | .pen=>true
  | .cls _=>true
  | .exc _=>true
  | .ty _=>true
def Zdq:List D→Bool
  | []=>true
  | x::r=>flat x && Zdq r
end
def Wd.rem (W:Wd) (a:Addr):Wd:=⟨fun b=>if b=a then none else W.G b,W.Pn⟩
section
variable {K:PySem.W.Frag} {W W2 W0:Wd} {H H2 H0:Hp} {a:Addr} {us:List V} {σ:L2.St} {ρ:Rho}
theorem Wd.rem_ne {b:Addr} (h:b≠a):(W.rem a).G b=W.G b:=by unfold Wd.rem;dsimp only;rw [if_neg h]
theorem Wd.rem_same:(W.rem a).G a=none:=by unfold Wd.rem;dsimp only;rw [if_pos rfl]
mutual
theorem Rep.rem (h:W.G a=some (.lst us)):∀ {v:V} {d:D},Rep K W v d→flat d=true→Rep K (W.rem a) v d
  | _,_,.non,_=>.non
  | _,_,.bl b,_=>.bl b
  | _,_,.int i,_=>.int i
  | _,_,.str x,_=>.str x
  | _,_,.tup e r,f=>.tup (by rw [Wd.rem_ne (fun z=>by rw [z,h] at e;cases e)];exact e) (Reps.rem h r (by rw [flat] at f;exact f))
  | _,_,.ktup e r,f=>.ktup e (Reps.rem h r (by rw [flat] at f;exact f))
  | _,_,.lst e r,f=>by rw [flat] at f;cases f
  | _,_,.scr e r,f=>by rw [flat] at f;cases f
  | _,_,.dic e,f=>by rw [flat] at f;cases f
  | _,_,.pen e,_=>.pen e
  | _,_,.cls e,_=>.cls e
  | _,_,.exc e n x,_=>.exc (by rw [Wd.rem_ne (fun z=>by rw [z,h] at e;cases e)];exact e) n fun c f k q=>let ⟨d,e1,e2⟩:=x c f k q;⟨d,e1,by rw [Wd.rem_ne (fun z=>by rw [z,h] at e2;cases e2)];exact e2⟩
  | _,_,.ty n,_=>.ty n
theorem Reps.rem (h:W.G a=some (.lst us)):∀ {vs:List V} {ds:List D},Reps K W vs ds→Zdq ds=true→Reps K (W.rem a) vs ds
  | _,_,.nil,_=>.nil
  | _,_,.cons r t,f=>by
    rw [Zdq,Bool.and_eq_true] at f
    exact .cons (Rep.rem h r f.1) (Reps.rem h t f.2)
end
theorem Ext.bor (x:Ext (W.put a (.lst us)) H W2 H2) (hg:W.G a=none):Ext W H (W2.rem a) H2 where
  ok:=⟨fun b o e=>by
      by_cases hb:b=a
      · subst hb;rw [Wd.rem_same] at e;cases e
      · rw [Wd.rem_ne hb] at e;exact x.ok.g b o e,
    fun b hb=>⟨(x.ok.p b hb).1,by
      by_cases hba:b=a
      · subst hba;exact Wd.rem_same
      · rw [Wd.rem_ne hba];exact (x.ok.p b hb).2⟩⟩
  g:=fun b o e=>by
    have hb:b≠a:=fun z=>by rw [z,hg] at e;cases e
    rw [Wd.rem_ne hb]
    exact x.g b o (by unfold Wd.put;dsimp only;rw [upd_ne hb];exact e)
  p:=x.p
  gf:=fun b e n=>by
    by_cases hb:b=a
    · subst hb;exact absurd Wd.rem_same n
    · rw [Wd.rem_ne hb] at n
      exact x.gf b (by unfold Wd.put;dsimp only;rw [upd_ne hb];exact e) n
  pf:=x.pf
  h:=x.h
theorem SOk.pubAt (s:SOk K W0 H0 W σ H ρ) {i:Nat} {xs:List D} (e:ρ[i]? = some (.ow xs)) (e1:σ[i]? = some (some (V.ref a))) (e2:H a=some (.lst us)) (e3:W.G a=none) (e4:¬ W.Pn a) (e5:H0 a=none) (r:Reps K W us xs) :
    SOk K W0 H0 (W.put a (.lst us)) σ H (LP.pub i ρ):=by
  have ep:LP.pub i ρ=ρ.set i (.d (.lst xs)):=by unfold LP.pub;rw [e]
  rw [ep]
  have hi:i < ρ.length:=(List.getElem?_eq_some_iff.mp e).1
  refine ⟨s.ext.pub e5 e2 e4 e3,by rw [List.length_set];exact s.len,fun j y ej=>?_,fun j ys ej=>?_,fun j k ys zs b hjk ej ek e6=>?_,OOs.set ⟨fun j xss ej=>let ⟨a',bs,q1,q,n⟩:=s.oo.t j xss ej;⟨a',bs,q1,q.put (n i xs a e e1) e3,n⟩,s.oo.u⟩ (fun _ h=>by cases h) (fun _ _=>rfl) fun _ _ h=>by cases h⟩
  · by_cases h:i=j
    · subst h
      rw [List.getElem?_set_self hi] at ej
      cases ej
      exact ⟨_,e1,.lst (by unfold Wd.put;dsimp only;rw [upd_same]) (r.mono (Zcj e3) fun _ z=>z)⟩
    · rw [List.getElem?_set_ne h] at ej
      obtain ⟨v,q1,q2⟩:=s.d j y ej
      exact ⟨v,q1,q2.mono (Zcj e3) fun _ z=>z⟩
  · have h:i≠j:=fun h=>by subst h;rw [List.getElem?_set_self hi] at ej;cases ej
    rw [List.getElem?_set_ne h] at ej
    obtain ⟨b,us',q1,q2,q3,q4,q5,rr⟩:=s.o j ys ej
    have hba:b≠a:=fun z=>s.ne i j xs ys a h e ej e1 (by rw [← z];exact q1)
    refine ⟨b,us',q1,q2,?_,q4,q5,rr.mono (Zcj e3) fun _ z=>z⟩
    unfold Wd.put
    dsimp only
    rw [upd_ne hba]
    exact q3
  · have h:i≠j:=fun h=>by subst h;rw [List.getElem?_set_self hi] at ej;cases ej
    have h':i≠k:=fun h=>by subst h;rw [List.getElem?_set_self hi] at ek;cases ek
    rw [List.getElem?_set_ne h] at ej
    rw [List.getElem?_set_ne h'] at ek
    exact s.ne j k ys zs b hjk ej ek e6
theorem SOk.lend (s:SOk K W0 H0 W σ H ρ) (i:Nat):(LP.pub i ρ=ρ)∨∃ a us,SOk K W0 H0 (W.put a (.lst us)) σ H (LP.pub i ρ)∧W.G a=none∧H a=some (.lst us)∧(W.put a (.lst us)).G a=some (.lst us):=by
  cases e:ρ[i]? with
  | none=>exact .inl (by unfold LP.pub;rw [e])
  | some sv=>
    cases sv with
    | un=>exact .inl (by unfold LP.pub;rw [e])
    | d x=>exact .inl (by unfold LP.pub;rw [e])
    | oo xss=>exact .inl (by unfold LP.pub;rw [e])
    | ow xs=>
      obtain ⟨a,us,e1,e2,e3,e4,e5,r⟩:=s.o i xs e
      exact .inr ⟨a,us,s.pubAt e e1 e2 e3 e4 e5 r,e3,e2,by unfold Wd.put;dsimp only;rw [upd_same]⟩
end
section
variable {X:Cx} {EX:XK} {pos p p2 ps:Pos} {tg e a b:Expr} {es:List Expr} {w wa wb:WE}
def wBor (i:Nat) (w:WE):WE:=fun E ρ Q=>w E (pub i ρ) fun d=>flat d=true∧Q d
theorem ZfA (i:Nat) (he:PX X EX e w):PX X EX e (wBor i w):=by
  obtain ⟨t,q,k⟩:=he.t
  refine ⟨⟨t,q,fun W0 H0 W σ H ρ E Q s eo h=>?_⟩,fun E ρ P P' hp h=>he.mono _ _ _ _ (fun d hd=>⟨hd.1,hp _ hd.2⟩) h⟩
  unfold wBor at h
  rcases s.lend i with ep | ⟨a,us,s',e3,e2,e6⟩
  · rw [ep] at h
    exact k W0 H0 W σ H ρ E Q s eo (he.mono _ _ _ _ (fun d hd=>hd.2) h)
  · exact k W0 H0 _ σ H _ E Q s' eo (he.mono _ _ _ _ (fun d hd v W2 H2 x2 r2=>hd.2 v _ H2 (x2.bor e3) (r2.rem (x2.g _ _ e6) hd.1)) h)
def tBor (i:Nat) (w:WT):WT:=fun E ρ Q=>w E (pub i ρ) Q
theorem pxt_bor (i:Nat) {w:WT} (he:PXT X EX e w):PXT X EX e (tBor i w):=by
  obtain ⟨t,q,k⟩:=he.t
  refine ⟨⟨t,q,fun W0 H0 W σ H ρ E Q s eo h=>?_⟩,fun E ρ P P' hp h=>he.mono _ _ _ _ hp h⟩
  unfold tBor at h
  rcases s.lend i with ep | ⟨a,us,s',e3,e2,e6⟩
  · rw [ep] at h
    exact k W0 H0 W σ H ρ E Q s eo h
  · exact k W0 H0 _ σ H _ E Q s' eo (he.mono _ _ _ _ (fun d hd W2 H2 x2=>hd _ H2 (x2.bor e3)) h)
def aBor (i:Nat) (t:WA):WA:=fun E ρ Q=>t E (pub i ρ) fun ds=>Zdq ds=true∧Q ds
theorem pxl_bor (i:Nat) {t:WA} (he:PXL X EX e t):PXL X EX e (aBor i t):=by
  obtain ⟨t,q,k⟩:=he.t
  refine ⟨⟨t,q,fun W0 H0 W σ H ρ E Q s eo h=>?_⟩,fun E ρ P P' hp h=>he.mono _ _ _ _ (fun d hd=>⟨hd.1,hp _ hd.2⟩) h⟩
  unfold aBor at h
  rcases s.lend i with ep | ⟨a,us,s',e3,e2,e6⟩
  · rw [ep] at h
    exact k W0 H0 W σ H ρ E Q s eo (he.mono _ _ _ _ (fun d hd=>hd.2) h)
  · refine k W0 H0 _ σ H _ E Q s' eo (he.mono _ _ _ _ (fun d hd b vs W2 H2 x2 h1 h2 h3 h4 r2=>?_) h)
    have hb:b≠a:=fun z=>by rw [z,e2] at h4;cases h4
    exact hd.2 b vs _ H2 (x2.bor e3) h1 (by rw [Wd.rem_ne hb];exact h2) h3 h4 (r2.rem (x2.g _ _ e6) hd.1)
def wIxO (i:Nat) (wb:WE):WE:=fun E ρ Q=>match ρ[i]? with
  | some (.ow xs)=>wb E ρ (isI fun k=>∃ d,atI xs k=some d∧Q d)
  | _=>False
theorem px_ixO (i:Nat) {x:Str} (hb:PX X EX b wb) (hN:X.N[i]? = some x:=by rfl) (hv:Vis X.env.scope x:=by first | exact Or.inl rfl | exact Or.inr (Or.inl rfl) | exact Or.inr (Or.inr rfl)) (hd:(x == ("__debug__" : Str))=false:=by decide)
    (hcd:(x == ("__classdict__" : Str))=false:=by decide) (hs:PlainIx b:=by exact fun _ _=>rfl):PX X EX (.Subscript (.Name x p) b pos) (wIxO i wb):=by
  obtain ⟨tb,pb,kb⟩:=hb.t
  refine ⟨⟨_,pe_ix ix_seq (pe_var hN hv hd hcd) pb hs,fun W0 H0 W σ H ρ E Q s eo h=>?_⟩,fun E ρ P P' hp h=>?_⟩
  · unfold wIxO at h
    split at h
    · rename_i xs ex
      obtain ⟨a,vs,e1,e2,e3,e4,e5,r⟩:=s.o i xs ex
      refine ⟨_,e1,kb W0 H0 W σ H ρ E _ s eo (hb.mono _ _ _ _ (fun d hd v W1 H1 x1 r1=>?_) h)⟩
      obtain ⟨kk,rfl,d,hat,hq⟩:=ZdM hd
      cases r1
      obtain ⟨v,e6,rv⟩:=atI_of (x1.reps r) hat
      exact .inl ⟨a,vs,kk,v,rfl,rfl,SqL.of (x1.h a _ e2 e4),e6,hq v W1 H1 x1 rv⟩
    · exact h.elim
  · unfold wIxO at h ⊢
    split at h
    · exact hb.mono _ _ _ _ (isI.mono fun k ⟨d,h1,h2⟩=>⟨d,h1,hp _ h2⟩) h
    · exact h.elim
def NL (K:PySem.W.Frag) (W:Wd) (H:Hp) (Q:VK) (ds:List D):Prop:=∀ a vs W' H',Ext W H W' H'→H' a=some (.lst vs)→W'.G a=none→¬ W'.Pn a→H a=none→Reps K W' vs ds→Q (.ref a) H'
theorem NL.new {K:PySem.W.Frag} {W W1:Wd} {H H1:Hp} {Q:VK} {ds:List D} {vs:List V} (h:NL K W H Q ds) (x1:Ext W H W1 H1) (r:Reps K W1 vs ds) {q:Addr} (hq:H1 q=none):Q (.ref q) (upd H1 q (.lst vs)):=
  h q vs W1 _ (x1.trans (.new x1.ok hq)) upd_same (x1.ok.fresh hq).1 (x1.ok.fresh hq).2 (x1.isN hq) r
def aAdd (wa wb:WE):WA:=fun E ρ Q=>wa E ρ (isL fun xs=>wb E ρ (isL fun ys=>xs.length+ys.length≤small∧Q (xs++ys)))
theorem pxl_add (ha:PX X EX a wa) (hb:PX X EX b wb):PXL X EX (.BinOp a .Add b pos) (aAdd wa wb):=by
  obtain ⟨ta,pa,ka⟩:=ha.t
  obtain ⟨tb,pb,kb⟩:=hb.t
  refine ⟨⟨_,pe_op op_catS pa pb,fun W0 H0 W σ H ρ E Q s eo h=>?_⟩,fun E ρ P P' hp h=>ha.mono _ _ _ _ (isL.mono fun xs hx=>hb.mono _ _ _ _ (isL.mono fun ys hy=>⟨hy.1,hp _ hy.2⟩) hx) h⟩
  refine ka W0 H0 W σ H ρ E _ s eo (ha.mono _ _ _ _ (fun d hd v W1 H1 x1 r1=>?_) h)
  obtain ⟨xs,rfl,hd⟩:=isL_get hd
  refine kb W0 H0 W1 σ H1 ρ E _ (s.step x1) eo (hb.mono _ _ _ _ (fun d hd u W2 H2 x2 r2=>?_) hd)
  obtain ⟨ys,rfl,hd⟩:=isL_get hd
  obtain ⟨p,vs,rfl,h1,q1⟩:=(x2.rep r1).sql x2.ok
  obtain ⟨q,us,rfl,h2,q2⟩:=r2.sql x2.ok
  exact ⟨p,q,vs,us,rfl,rfl,h1,h2,by rw [q1.length,q2.length];exact ZaY hd.1,fun a ha=>NL.new hd.2 (x1.trans x2) (q1.append q2) ha⟩
def aMul (wa wb:WE):WA:=fun E ρ Q=>wa E ρ (isL fun xs=>wb E ρ (isI fun k=>k < 1000∧-1000 < k∧xs.length*k.toNat≤small∧Q (List.replicate k.toNat xs).flatten))
def aCut (wa:WE) (wl wh:(Ex→Prop)→Rho→(Option Int→Prop)→Prop):WA:=fun E ρ Q=>wa E ρ fun x=>wl E ρ fun l=>wh E ρ fun h=>match x with
  | .lst xs=>Q (cutD xs l h)
  | .scr xs=>Q (cutD xs l h)
  | _=>False
theorem aCut.mono {wl wh} {lo hi:Option Expr} (ha:PX X EX a wa) (hl:PXO X EX lo wl) (hh:PXO X EX hi wh):∀ E ρ P P',(∀ d,P d→P' d)→aCut wa wl wh E ρ P→aCut wa wl wh E ρ P':=
  fun E ρ P P' hp h=>ha.mono _ _ _ _ (fun x hx=>hl.mono _ _ _ _ (fun l hl'=>hh.mono _ _ _ _ (fun u hu=>by
    split at hu
    · exact hp _ hu
    · exact hp _ hu
    · exact hu.elim) hl') hx) h
theorem pxl_cut {lo hi:Option Expr} {wl wh} (ha:PX X EX a wa) (hl:PXO X EX lo wl) (hh:PXO X EX hi wh):PXL X EX (.Subscript a (.Slice lo hi none p2) pos) (aCut wa wl wh):=by
  obtain ⟨ta,pa,ka⟩:=ha.t
  obtain ⟨tl,pl,kl⟩:=hl.t
  obtain ⟨th,ph,kh⟩:=hh.t
  refine ⟨⟨_,pe_slice sl_list pa pl ph,fun W0 H0 W σ H ρ E Q s eo h=>?_⟩,aCut.mono ha hl hh⟩
  refine ka W0 H0 W σ H ρ E _ s eo (ha.mono _ _ _ _ (fun dx hx v W1 H1 x1 r1=>?_) h)
  refine kl W0 H0 W1 σ H1 ρ E _ (s.step x1) eo (hl.mono _ _ _ _ (fun l hl' W2 H2 x2=>?_) hx)
  refine kh W0 H0 W2 σ H2 ρ E _ ((s.step x1).step x2) eo (hh.mono _ _ _ _ (fun u hu W3 H3 x3=>?_) hl')
  have r3:=(x2.trans x3).rep r1
  split at hu
  · obtain ⟨p,vs,rfl,h1,rr⟩:=r3.sql x3.ok
    exact ⟨p,vs,rfl,h1,fun q hq=>NL.new hu (x1.trans (x2.trans x3)) (rr.cut l u) hq⟩
  · obtain ⟨p,vs,rfl,h1,rr⟩:=r3.sqs x3.ok
    exact ⟨p,vs,rfl,h1,fun q hq=>NL.new hu (x1.trans (x2.trans x3)) (rr.cut l u) hq⟩
  · exact hu.elim
end
section
variable {K:PySem.W.Frag} {W W1 W2 W0:Wd} {H H1 H2 H0:Hp} {a:Addr} {us:List V} {σ:L2.St} {ρ:Rho} {i j k:Int}
def Wd.pen (W:Wd) (a:Addr):Wd:=⟨W.G,fun b=>b=a∨W.Pn b⟩
theorem Ext.pen (x:Ext W H W1 H1) (h:H a=none) (e:H1 a=some (.lst [.int i,.int j,.int k])) (ng:W1.G a=none):Ext W H (W1.pen a) H1 where
  ok:=⟨x.ok.g,fun b hb=>by
    rcases hb with rfl | hb
    · exact ⟨⟨i,j,k,e⟩,ng⟩
    · exact x.ok.p b hb⟩
  g:=x.g
  p:=fun b hb=>.inr (x.p b hb)
  gf:=x.gf
  pf:=fun b n hb=>by
    rcases hb with rfl | hb
    · exact h
    · exact x.pf b n hb
  h:=x.h
theorem Ext.ink (x:Ext W H W1 H1) (hp:W1.Pn a):Ext W H W1 (upd H1 a (.lst [.int i,.int j,.int k])) where
  ok:=⟨fun b o e=>by
      have hb:b≠a:=fun z=>by rw [z,(x.ok.p a hp).2] at e;cases e
      rw [upd_ne hb];exact x.ok.g b o e,
    fun b hb=>by
      by_cases hba:b=a
      · subst hba;exact ⟨⟨i,j,k,upd_same⟩,(x.ok.p b hb).2⟩
      · obtain ⟨⟨i',j',k',e⟩,n⟩:=x.ok.p b hb
        exact ⟨⟨i',j',k',by rw [upd_ne hba];exact e⟩,n⟩⟩
  g:=x.g
  p:=x.p
  gf:=x.gf
  pf:=x.pf
  h:=fun b o e n=>by
    have q:=x.h b o e n
    have hb:b≠a:=fun z=>by subst z;have:=x.pf b n hp;rw [e] at this;cases this
    rw [upd_ne hb];exact q
theorem SOk.ink (s:SOk K W0 H0 W σ H ρ) (hp:W.Pn a):SOk K W0 H0 W σ (upd H a (.lst [.int i,.int j,.int k])) ρ where
  ext:=s.ext.ink hp
  len:=s.len
  d:=s.d
  o:=fun n ys e=>by
    obtain ⟨b,vs,e1,e2,e3,e4,e5,r⟩:=s.o n ys e
    exact ⟨b,vs,e1,by rw [upd_ne (fun z=>e4 (by rw [z];exact hp))];exact e2,e3,e4,e5,r⟩
  ne:=s.ne
  oo:=⟨fun n xss e=>let ⟨a',bs,e1,q,m⟩:=s.oo.t n xss e;⟨a',bs,e1,q.upd (q.noPen hp),m⟩,s.oo.u⟩
end
section
variable {X:Cx} {EX:XK} {pos p p2 ps:Pos} {tg e a b:Expr} {es:List Expr} {w wa wb:WE}
def wPen (t:WA):WE:=fun E ρ Q=>t E ρ fun ds=>(∃ i j k,ds=[.int i,.int j,.int k])∧Q .pen
theorem px_pen {t:WA} (he:PXL X EX e t):PX X EX e (wPen t):=by
  obtain ⟨t,q,k⟩:=he.t
  refine ⟨⟨t,q,fun W0 H0 W σ H ρ E Q s eo h=>?_⟩,fun E ρ P P' hp h=>he.mono _ _ _ _ (fun d hd=>⟨hd.1,hp _ hd.2⟩) h⟩
  refine k W0 H0 W σ H ρ E Q s eo (he.mono _ _ _ _ (fun ds hd a vs W1 H1 x1 e1 e2 e3 e4 r1=>?_) h)
  obtain ⟨⟨i,j,k,rfl⟩,hd⟩:=hd
  have ev:vs=[.int i,.int j,.int k]:=by
    cases r1 with | cons r t=>cases r;cases t with | cons r t=>cases r;cases t with | cons r t=>cases r;cases t;rfl
  subst ev
  exact hd _ _ _ (x1.pen e4 e1 e2) (.pen (.inl rfl))
def gIxP:G2:=fun x y Q=>x = .pen∧(y = .int 0∨y = .int 1∨y = .int 2)∧∀ n,Q (.int n)
theorem i_pen:IxP X gIxP:=by
  refine ⟨⟨_,ix_seq,fun W H x y dx dy Q ok rx ry hg=>?_⟩,fun x y P P' hp h=>⟨h.1,h.2.1,fun n=>hp _ (h.2.2 n)⟩⟩
  obtain ⟨rfl,hy,hq⟩:=hg
  cases rx with
  | @pen a hp=>
    obtain ⟨⟨i,j,k,e⟩,ng⟩:=ok.p a hp
    have key:∀ (m:Int) (v:V),atI [V.int i,.int j,.int k] m=some v→(∃ n,v = .int n)→rIx X.K (.ref a) (.int m) H Q:=fun m v hv ⟨n,hn⟩=>by
      subst hn
      exact .inl ⟨a,_,m,_,rfl,rfl,SqL.of e,hv,(hq n).now ok (.int n)⟩
    rcases hy with rfl | rfl | rfl
    · cases ry;exact key 0 (.int i) rfl ⟨i,rfl⟩
    · cases ry;exact key 1 (.int j) rfl ⟨j,rfl⟩
    · cases ry;exact key 2 (.int k) rfl ⟨k,rfl⟩
def zInk (i:Nat) (wv:WE):WS:=fun E N ρ=>ρ[i]? = some (.d .pen)∧wv E ρ (isI fun _=>N.nx ρ)
theorem pz_ink (i:Nat) (m:Int) {x:Str} {wv:WE} {j} {ipos spos:Pos} (he:PX X EX e wv) (hm:m=0∨m=1∨m=2:=by decide) (hN:X.N[i]? = some x:=by rfl) (hv:Vis X.env.scope x:=by first | exact Or.inl rfl | exact Or.inr (Or.inl rfl) | exact Or.inr (Or.inr rfl)) (hd:(x == ("__debug__" : Str))=false:=by decide)
    (hcd:(x == ("__classdict__" : Str))=false:=by decide)
    (ha:∀ v,assign (.Subscript (.Name x p) (.Constant (.int m) j ipos) spos) X.env v=(do
      let ov ← holding [v] (eval (.Name x p) X.env)
      let iv ← holding [v,ov] (eval (.Constant (.int m) j ipos) X.env)
      standAt spos
      holding [v,ov,iv] (setItem ov iv v)
      release [v,ov,iv] []):=by intro _;rfl)
    (hs:swapsWithSole [.Subscript (.Name x p) (.Constant (.int m) j ipos) spos] e pos.line X.env=pure false:=by rfl) (hw:swappedStores [.Subscript (.Name x p) (.Constant (.int m) j ipos) spos] e X.env=pure none:=by rfl)
    (h1:(assignEach [.Subscript (.Name x p) (.Constant (.int m) j ipos) spos] X.env).map (·.2)=[assign (.Subscript (.Name x p) (.Constant (.int m) j ipos) spos) X.env]:=by rfl):PZ X EX (.Assign [.Subscript (.Name x p) (.Constant (.int m) j ipos) spos] e pos) (zInk i wv):=by
  obtain ⟨t,pe,k⟩:=he.t
  refine ⟨⟨_,ps_asg pe (pg_sub (pe_var hN hv hd hcd) pe_int set_list ha) hs hw h1,fun W0 H0 F W σ H ρ E Dn N s fl eo no h=>?_⟩,fun E ρ N N' hl q=>⟨q.1,he.mono _ _ _ _ (isI.mono fun _ hn=>hl.nx _ hn) q.2⟩⟩
  obtain ⟨hpen,h⟩:=h
  obtain ⟨v0,e0,r0⟩:=s.d i .pen hpen
  cases r0 with
  | @pen a hp=>
    refine k W0 H0 W σ H ρ E _ s eo (he.mono _ _ _ _ (fun d hd v W1 H1 x1 r1=>⟨_,e0,?_⟩) h)
    obtain ⟨n,rfl,hn⟩:=ZdM hd
    cases r1
    have hp1:=x1.p a hp
    obtain ⟨⟨i',j',k',e'⟩,ng⟩:=x1.ok.p a hp1
    rcases hm with rfl | rfl | rfl
    · exact ⟨a,_,0,0,rfl,rfl,e',rfl,no.nx W1 σ _ ρ ((s.step x1).ink hp1) (fl.ext x1) hn⟩
    · exact ⟨a,_,1,1,rfl,rfl,e',rfl,no.nx W1 σ _ ρ ((s.step x1).ink hp1) (fl.ext x1) hn⟩
    · exact ⟨a,_,2,2,rfl,rfl,e',rfl,no.nx W1 σ _ ρ ((s.step x1).ink hp1) (fl.ext x1) hn⟩
end
abbrev ZcW:G2:=gI2 (fun _ _=>True) fun i j=>.int (i - j)
abbrev gModI:G2:=gI2 (fun _ j=>j≠0) fun i j=>.int (i.fmod j)
abbrev gFdv:G2:=gI2 DivOk fun i j=>.int (i.fdiv j)
abbrev gPowI:G2:=gI2 CPow fun i j=>.int (i ^ j.toNat)
abbrev gLtI:G2:=gI2 (fun _ _=>True) fun i j=>.bl (decide (i < j))
abbrev gLeI:G2:=gI2 (fun _ _=>True) fun i j=>.bl (decide (i≤j))
abbrev gGtI:G2:=gI2 (fun _ _=>True) fun i j=>.bl (decide (i > j))
abbrev gGeI:G2:=gI2 (fun _ _=>True) fun i j=>.bl (decide (i ≥ j))
abbrev gNeg:D→(D→Prop)→Prop:=fun x Q=>isI (fun i=>Q (.int (-i))) x
abbrev Zcw:WS:=fun _ _ _=>False
def fnS {α:Type} (enc:α→List D) (dom:α→Prop) (val:α→D):Zav:=fun ds _ Q=>∃ a,ds=enc a∧dom a∧Q (val a)
theorem fnS.mono {α:Type} {enc:α→List D} {dom:α→Prop} {val:α→D}:ZgZ (fnS enc dom val):=fun ds E E' Q Q' _ hQ ⟨a,h1,h2,h3⟩=>⟨a,h1,h2,hQ _ h3⟩
theorem fnS.len {α:Type} {enc:α→List D} {dom:α→Prop} {val:α→D} {ps:List Str} (hp:∀ a,(enc a).length=ps.length):∀ ds E Q,fnS enc dom val ds E Q→ds.length=ps.length:=fun ds E Q ⟨a,h1,_⟩=>by rw [h1];exact hp a
def exQ (E:Ex→Prop) (Q:D→Prop):Except Str D→Prop
  | .ok v=>Q v
  | .error e=>E e
theorem exQ.mono {E E':Ex→Prop} {Q Q':D→Prop} (hE:∀ e,E e→E' e) (hQ:∀ d,Q d→Q' d):∀ r,exQ E Q r→exQ E' Q' r
  | .ok v,h=>hQ v h
  | .error e,h=>hE e h
def xS {α:Type} (enc:α→List D) (dom:α→Prop) (res:α→Except Str D):Zav:=fun ds E Q=>∃ a,ds=enc a∧dom a∧exQ E Q (res a)
theorem xS.mono {α:Type} {enc:α→List D} {dom:α→Prop} {res:α→Except Str D}:ZgZ (xS enc dom res):=fun ds E E' Q Q' hE hQ ⟨a,h1,h2,h3⟩=>⟨a,h1,h2,exQ.mono hE hQ _ h3⟩
theorem xS.ok {α:Type} {enc:α→List D} {dom:α→Prop} {res:α→Except Str D} {ds:List D} {E:Ex→Prop} {Q:D→Prop} {v:D} (a:α) (h:ds=enc a) (hd:dom a) (e:res a = .ok v) (q:Q v):xS enc dom res ds E Q:=⟨a,h,hd,by rw [e];exact q⟩
theorem xS.err {α:Type} {enc:α→List D} {dom:α→Prop} {res:α→Except Str D} {ds:List D} {E:Ex→Prop} {Q:D→Prop} {n:Str} (a:α) (h:ds=enc a) (hd:dom a) (e:res a = .error n) (q:E n):xS enc dom res ds E Q:=⟨a,h,hd,by rw [e];exact q⟩
theorem xS.len {α:Type} {enc:α→List D} {dom:α→Prop} {res:α→Except Str D} {ps:List Str} (hp:∀ a,(enc a).length=ps.length):∀ ds E Q,xS enc dom res ds E Q→ds.length=ps.length:=fun ds E Q ⟨a,h1,_⟩=>by rw [h1];exact hp a
def rlS {α:Type} (enc:α→List D) (dom:α→Prop) (rel:α→D→Prop):Zav:=fun ds _ Q=>∃ a,ds=enc a∧dom a∧∀ d,rel a d→Q d
theorem rlS.mono {α:Type} {enc:α→List D} {dom:α→Prop} {rel:α→D→Prop}:ZgZ (rlS enc dom rel):=fun ds E E' Q Q' _ hQ ⟨a,h1,h2,h3⟩=>⟨a,h1,h2,fun d r=>hQ _ (h3 d r)⟩
theorem rlS.len {α:Type} {enc:α→List D} {dom:α→Prop} {rel:α→D→Prop} {ps:List Str} (hp:∀ a,(enc a).length=ps.length):∀ ds E Q,rlS enc dom rel ds E Q→ds.length=ps.length:=fun ds E Q ⟨a,h1,_⟩=>by rw [h1];exact hp a
theorem Fp.of {P:Program} {w:World} {K:PySem.W.Frag} {mg:Str→Option Value} {base:Heap} {k:Nat} {x:Str} {ps:List Str} {S:Zav} {f:Addr} {fd:FuncData} (h:FnOk P w K mg base (CXv P w) k f fd ps (spOf K S)) (m:ZgZ S) (hm:mg x=some (.ref f)) (kp:PySem.W.keepIn K (.ref f)=true) (hb:Binds K fd ps []) :
    Fp P w K mg base k x ps S:=⟨⟨f,fd,h,hm,kp,hb⟩,m⟩
section
variable {we:WE} {wf:WT} {tail:Rho} {Q:List D→Prop}
theorem ZgU {f:D→D} (h:∀ d∈ds,∀ Q:D→Prop,Q (f d)→we No (.d d::tail) Q):∀ (sv:SV) (acc:List D),acc.length+ds.length≤small→Q (acc++ds.map f)→lcW (gN 0) ZaF we ds (sv::tail) acc Q:=by
  induction ds with
  | nil=>intro sv acc _ hq;simpa [lcW] using hq
  | cons d ds ih=>
    intro sv acc hl hq
    rw [lcW]
    show we No (SV.d d::tail) _
    refine h d (List.mem_cons_self ..) _ ⟨?_,?_⟩
    · rw [List.length_cons] at hl;omega
    · refine ih (fun d hd=>h d (List.mem_cons_of_mem _ hd)) (.d d) _ ?_ ?_
      · rw [List.length_append,List.length_singleton];rw [List.length_cons] at hl;omega
      · rw [List.append_assoc];exact hq
theorem lc_some {R:D→D→Prop} (h:∀ d∈ds,∀ Q:D→Prop,(∀ y,R d y→Q y)→we No (.d d::tail) Q):∀ (sv:SV) (acc:List D),acc.length+ds.length≤small→(∀ ys,ys.length=ds.length→(∀ y∈ys,∃ d,d∈ds∧R d y)→Q (acc++ys))→lcW (gN 0) ZaF we ds (sv::tail) acc Q:=by
  induction ds with
  | nil=>intro sv acc _ hq;simpa [lcW] using hq [] rfl (by simp)
  | cons d ds ih=>
    intro sv acc hl hq
    rw [lcW]
    show we No (SV.d d::tail) _
    refine h d (List.mem_cons_self ..) _ fun y hy=>⟨?_,?_⟩
    · rw [List.length_cons] at hl;omega
    · refine ih (fun d hd=>h d (List.mem_cons_of_mem _ hd)) (.d d) _ ?_ fun ys hl' hys=>?_
      · rw [List.length_append,List.length_singleton];rw [List.length_cons] at hl;omega
      · rw [List.append_assoc]
        refine hq (y::ys) (by rw [List.length_cons,List.length_cons,hl']) fun z hz=>?_
        rcases List.mem_cons.mp hz with rfl | hz
        · exact ⟨d,List.mem_cons_self ..,hy⟩
        · obtain ⟨d',h1,h2⟩:=hys z hz;exact ⟨d',List.mem_cons_of_mem _ h1,h2⟩
end
mutual
def okD:D→Nat→Bool
  | .non,_=>true
  | .bl _,_=>true
  | .int _,_=>true
  | .str x,_=>PyData.canLay0 (.str x)
  | .tup xs,n=>decide (0 < n) && okDs xs (n - 1)
  | .lst xs,n=>decide (0 < n) && okDs xs (n - 1)
  | .dic,_=>false
  | .pen,_=>false
  | .cls _,_=>false
  | .exc _,_=>false
  | .ty _,_=>false
  | .scr _,_=>false
def okDs:List D→Nat→Bool
  | [],_=>true
  | x::r,n=>okD x n && okDs r n
end
mutual
def pd:D→PyData
  | .non=>.none
  | .bl b=>.bool b
  | .int i=>.int i
  | .str x=>.str x
  | .tup xs=>.tuple (pds xs)
  | .lst xs=>.list (pds xs)
  | .dic=>.none
  | .pen=>.none
  | .cls _=>.none
  | .exc _=>.none
  | .ty _=>.none
  | .scr _=>.none
def pds:List D→List PyData
  | []=>[]
  | x::r=>pd x::pds r
end
mutual
theorem okD_toP:∀ (x:D) (n:Nat),okD x n=true→toP x=some (pd x)∧(pd x).canLay0=true∧(pd x).depth≤n
  | .non,n,_=>⟨rfl,rfl,by rw [pd,PyData.depth];exact Nat.zero_le _⟩
  | .bl _,n,_=>⟨rfl,rfl,by rw [pd,PyData.depth];exact Nat.zero_le _⟩
  | .int _,n,_=>⟨rfl,rfl,by rw [pd,PyData.depth];exact Nat.zero_le _⟩
  | .str x,n,h=>⟨rfl,by rw [okD] at h;exact h,by rw [pd,PyData.depth];exact Nat.zero_le _⟩
  | .tup xs,n,h=>by
    rw [okD,Bool.and_eq_true,decide_eq_true_eq] at h
    obtain ⟨h1,h2,h3⟩:=okDs_toP xs (n - 1) h.2
    refine ⟨by rw [toP,h1,pd];rfl,by rw [pd,PyData.canLay0];exact h2,by rw [pd,PyData.depth];omega⟩
  | .lst xs,n,h=>by
    rw [okD,Bool.and_eq_true,decide_eq_true_eq] at h
    obtain ⟨h1,h2,h3⟩:=okDs_toP xs (n - 1) h.2
    refine ⟨by rw [toP,h1,pd];rfl,by rw [pd,PyData.canLay0];exact h2,by rw [pd,PyData.depth];omega⟩
  | .dic,n,h=>by rw [okD] at h;cases h
  | .pen,n,h=>by rw [okD] at h;cases h
  | .cls _,n,h=>by rw [okD] at h;cases h
  | .exc _,n,h=>by rw [okD] at h;cases h
  | .ty _,n,h=>by rw [okD] at h;cases h
  | .scr _,n,h=>by rw [okD] at h;cases h
theorem okDs_toP:∀ (xs:List D) (n:Nat),okDs xs n=true→toPs xs=some (pds xs)∧PyData.canLayAll0 (pds xs)=true∧PyData.depthAll (pds xs)≤n
  | [],n,_=>⟨by rw [toPs,pds],by rw [pds,PyData.canLayAll0],by rw [pds,PyData.depthAll];exact Nat.zero_le _⟩
  | x::r,n,h=>by
    rw [okDs,Bool.and_eq_true] at h
    obtain ⟨h1,h2,h3⟩:=okD_toP x n h.1
    obtain ⟨q1,q2,q3⟩:=okDs_toP r n h.2
    exact ⟨by rw [toPs,h1,q1,pds],by rw [pds,PyData.canLayAll0,h2,q2];rfl,by rw [pds,PyData.depthAll];omega⟩
end
def deq (x y:D):Bool:=PyData.eqv (pd x) (pd y)
theorem Zc2 {x y:D} {neg:Bool} {Q:D→Prop} (hx:okD x 60=true) (hy:okD y 60=true) (h:Q (.bl (if neg then !deq x y else deq x y))):gEq neg x y Q:=by
  obtain ⟨a1,a2,a3⟩:=okD_toP x 60 hx
  obtain ⟨b1,b2,b3⟩:=okD_toP y 60 hy
  refine ⟨pd x,pd y,a1,b1,?_,?_,h⟩
  · unfold PySem.SeqAt.shaped;rw [a2,decide_eq_true (by omega)];rfl
  · unfold PySem.SeqAt.shaped;rw [b2,decide_eq_true (by omega)];rfl
mutual
theorem eqv_self:∀ p:PyData,p.canLay0=true→PyData.eqv p p=true
  | .none,_=>by rw [PyData.eqv]
  | .bool b,_=>by rw [PyData.eqv];exact beq_self_eq_true b
  | .int i,_=>by rw [PyData.eqv];exact beq_self_eq_true i
  | .str x,_=>by rw [PyData.eqv];exact beq_self_eq_true x
  | .list xs,h=>by rw [PyData.eqv];exact ZgX xs (by rw [PyData.canLay0] at h;exact h)
  | .tuple xs,h=>by rw [PyData.eqv];exact ZgX xs (by rw [PyData.canLay0] at h;exact h)
  | .dict _,h=>by rw [PyData.canLay0] at h;cases h
theorem ZgX:∀ ps:List PyData,PyData.canLayAll0 ps=true→PyData.eqvAll ps ps=true
  | [],_=>by rw [PyData.eqvAll]
  | p::ps,h=>by
    rw [PyData.canLayAll0,Bool.and_eq_true] at h
    rw [PyData.eqvAll,eqv_self p h.1,ZgX ps h.2];rfl
end
theorem Zgd {x:D} {n:Nat} (h:okD x n=true):deq x x=true:=eqv_self _ (okD_toP x n h).2.1
theorem gEq_self {x:D} {neg:Bool} {Q:D→Prop} (hx:okD x 60=true) (h:Q (.bl (!neg))):gEq neg x x Q:=by
  refine Zc2 hx hx ?_
  rw [Zgd hx]
  cases neg<;>exact h
theorem okD_int (i:Int) (n:Nat):okD (.int i) n=true:=by rw [okD]
theorem okDs_of {xs:List D} {n:Nat} (h:∀ x∈xs,okD x n=true):okDs xs n=true:=by
  induction xs with
  | nil=>rw [okDs]
  | cons x xs ih=>rw [okDs,h x (List.mem_cons_self ..),ih fun y hy=>h y (List.mem_cons_of_mem _ hy)];rfl
theorem ZgQ {xs:List D} {n:Nat} (h:∀ x∈xs,okD x n=true):okD (.tup xs) (n+1)=true:=by rw [okD,okDs_of (n:=n+1 - 1) h];simp
theorem okD_lst {xs:List D} {n:Nat} (h:∀ x∈xs,okD x n=true):okD (.lst xs) (n+1)=true:=by rw [okD,okDs_of (n:=n+1 - 1) h];simp
mutual
theorem okD_mono:∀ (x:D) {n m:Nat},n≤m→okD x n=true→okD x m=true
  | .non,_,_,_,_=>by rw [okD]
  | .bl _,_,_,_,_=>by rw [okD]
  | .int _,_,_,_,_=>by rw [okD]
  | .str x,_,_,_,h=>by rw [okD] at h ⊢;exact h
  | .tup xs,n,m,l,h=>by
    rw [okD,Bool.and_eq_true,decide_eq_true_eq] at h ⊢
    exact ⟨by omega,ZgP xs (by omega) h.2⟩
  | .lst xs,n,m,l,h=>by
    rw [okD,Bool.and_eq_true,decide_eq_true_eq] at h ⊢
    exact ⟨by omega,ZgP xs (by omega) h.2⟩
  | .dic,_,_,_,h=>by rw [okD] at h;cases h
  | .pen,_,_,_,h=>by rw [okD] at h;cases h
  | .cls _,_,_,_,h=>by rw [okD] at h;cases h
  | .exc _,_,_,_,h=>by rw [okD] at h;cases h
  | .ty _,_,_,_,h=>by rw [okD] at h;cases h
  | .scr _,_,_,_,h=>by rw [okD] at h;cases h
theorem ZgP:∀ (xs:List D) {n m:Nat},n≤m→okDs xs n=true→okDs xs m=true
  | [],_,_,_,_=>by rw [okDs]
  | x::r,n,m,l,h=>by
    rw [okDs,Bool.and_eq_true] at h ⊢
    exact ⟨okD_mono x l h.1,ZgP r l h.2⟩
end
def shq (q:Rat):D:=.tup [.int q.num,.int (q.den:Int)]
def rowq (r:List Rat):D:=.tup (r.map shq)
def Sz (n:Nat) (q:Rat):Prop:=q.num.natAbs < 2 ^ n∧q.den < 2 ^ n
theorem Sz.mono {n m:Nat} {q:Rat} (l:n≤m) (h:Sz n q):Sz m q:=
  have:=Nat.pow_le_pow_right (n:=2) (by decide) l
  ⟨Nat.lt_of_lt_of_le h.1 this,Nat.lt_of_lt_of_le h.2 this⟩
theorem div_le' {a:Int} {g:Nat} (hg:g≠0) (h:(g:Int) ∣ a):(a / (g:Int)).natAbs≤a.natAbs:=by
  obtain ⟨c,rfl⟩:=h
  have hg':(g:Int)≠0:=by exact_mod_cast hg
  rw [Int.mul_ediv_cancel_left _ hg',Int.natAbs_mul,Int.natAbs_natCast]
  exact Nat.le_mul_of_pos_left _ (by omega)
theorem mk_le (a:Int) {b:Nat} (hb:b≠0):(mkRat a b).num.natAbs≤a.natAbs∧(mkRat a b).den≤b:=by
  rw [Rat.num_mkRat,Rat.den_mkRat,if_neg hb,if_neg hb]
  refine ⟨div_le' (fun z=>?_) (Int.ofNat_dvd_left.mpr (Nat.gcd_dvd_right ..)),Nat.div_le_self _ _⟩
  rw [Nat.gcd_eq_zero_iff] at z
  exact hb z.1
theorem ZfB {a b n m:Nat} (h:a < 2 ^ n) (h':b < 2 ^ m):a*b < 2 ^ (n+m):=by
  rw [Nat.pow_add]
  rcases Nat.eq_zero_or_pos a with rfl | ha
  · rw [Nat.zero_mul];exact Nat.mul_pos (Nat.pow_pos (by decide)) (Nat.pow_pos (by decide))
  · exact Nat.lt_of_lt_of_le (Nat.mul_lt_mul_of_pos_left h' ha) (Nat.mul_le_mul_right _ (Nat.le_of_lt h))
theorem Sz.add {n m:Nat} {p q:Rat} (h:Sz n p) (h':Sz m q):Sz (n+m+1) (p+q):=by
  rw [Rat.add_def']
  have z:p.den*q.den≠0:=Nat.mul_ne_zero p.den_nz q.den_nz
  have:=mk_le (p.num*q.den+q.num*p.den) z
  have a1:=ZfB h.1 h'.2
  have a2:=ZfB h'.1 h.2
  have a3:=ZfB h.2 h'.2
  rw [Nat.add_comm m n] at a2
  have e:2 ^ (n+m+1)=2 ^ (n+m)+2 ^ (n+m):=by rw [Nat.pow_succ];omega
  have t:=Int.natAbs_add_le (p.num*q.den) (q.num*p.den)
  rw [Int.natAbs_mul,Int.natAbs_mul,Int.natAbs_natCast,Int.natAbs_natCast] at t
  exact ⟨by omega,by omega⟩
theorem Sz.neg {n:Nat} {p:Rat} (h:Sz n p):Sz n (-p):=⟨by rw [Rat.neg_num,Int.natAbs_neg];exact h.1,h.2⟩
theorem Sz.sub {n m:Nat} {p q:Rat} (h:Sz n p) (h':Sz m q):Sz (n+m+1) (p - q):=by rw [Rat.sub_eq_add_neg];exact h.add h'.neg
theorem Sz.mul {n m:Nat} {p q:Rat} (h:Sz n p) (h':Sz m q):Sz (n+m) (p*q):=by
  rw [Rat.mul_def']
  have z:p.den*q.den≠0:=Nat.mul_ne_zero p.den_nz q.den_nz
  have:=mk_le (p.num*q.num) z
  have a1:=ZfB h.1 h'.1
  have a3:=ZfB h.2 h'.2
  rw [Int.natAbs_mul] at this
  exact ⟨by omega,by omega⟩
theorem Sz.inv {n:Nat} {p:Rat} (h:Sz n p):Sz n p⁻¹:=by
  unfold Sz
  rw [Rat.num_inv,Rat.den_inv,Int.natAbs_mul,Int.natAbs_natCast]
  have:=p.den_pos
  have h1:=h.1
  have h2:=h.2
  constructor
  · rcases Int.lt_trichotomy p.num 0 with z | z | z
    · rw [Int.sign_eq_neg_one_of_neg z];simpa using h2
    · rw [z];simp;omega
    · rw [Int.sign_eq_one_of_pos z];simpa using h2
  · split
    · omega
    · exact h1
theorem Sz.div {n m:Nat} {p q:Rat} (h:Sz n p) (h':Sz m q):Sz (n+m) (p / q):=by rw [Rat.div_def];exact h.mul h'.inv
theorem Sz.int {n:Nat} (i:Int) (hn:0 < n) (h:i.natAbs < 2 ^ n):Sz n (i:Rat):=⟨by rw [Rat.num_intCast];exact h,by rw [Rat.den_intCast];exact Nat.one_lt_two_pow (by omega)⟩
theorem Sz.zero {n:Nat} (hn:0 < n):Sz n (0:Rat):=⟨by rw [Rat.zero_num];exact Nat.two_pow_pos n,by rw [Rat.zero_den];exact Nat.one_lt_two_pow (by omega)⟩
theorem Sz.bd {n:Nat} {q:Rat} (h:Sz n q) (l:n≤8990):Bd q.num∧Bd (q.den:Int):=by
  have:=h.mono l
  exact ⟨this.1,by unfold Bd;rw [Int.natAbs_natCast];exact this.2⟩
def B2 (p q:Rat):Prop:=∃ n m,Sz n p∧Sz m q∧n+m < 8990
theorem B2.of {n m:Nat} {p q:Rat} (h:Sz n p) (h':Sz m q) (l:n+m < 8990):B2 p q:=⟨n,m,h,h',l⟩
theorem B2.mul {p q:Rat} (h:B2 p q):MulOk p.num q.den∧MulOk q.num p.den∧MulOk p.den q.den∧MulOk p.num q.num∧Bd ((p.den:Int)*q.den)∧(p.den:Int)*q.den≠0∧MulOk p.den q.num∧(Bd ((p.den:Int)*q.num)):=by
  obtain ⟨n,m,h1,h2,l⟩:=h
  have b1:=h1.bd (by omega)
  have b2:=h2.bd (by omega)
  refine ⟨⟨b1.1,b2.2⟩,⟨b2.1,b1.2⟩,⟨b1.2,b2.2⟩,⟨b1.1,b2.1⟩,?_,?_,⟨b1.2,b2.1⟩,?_⟩
  · have:=ZfB h1.2 h2.2
    unfold Bd
    rw [Int.natAbs_mul,Int.natAbs_natCast,Int.natAbs_natCast]
    exact Nat.lt_of_lt_of_le this (Nat.pow_le_pow_right (by decide) (by omega))
  · have:=Nat.mul_ne_zero p.den_nz q.den_nz
    exact_mod_cast this
  · have:=ZfB h1.2 h2.1
    unfold Bd
    rw [Int.natAbs_mul,Int.natAbs_natCast]
    exact Nat.lt_of_lt_of_le this (Nat.pow_le_pow_right (by decide) (by omega))
def dot:List Rat→List Rat→Rat
  | [],_=>0
  | _::_,[]=>0
  | x::xs,y::ys=>x*y+dot xs ys
theorem Zfj (q:Rat) (n:Nat):okD (shq q) (n+1)=true:=ZgQ (by simp [okD])
theorem okD_rowq (r:List Rat) (n:Nat):okD (rowq r) (n+2)=true:=ZgQ fun x hx=>by
  obtain ⟨q,_,rfl⟩:=List.mem_map.mp hx
  exact Zfj q n
def Zax (xs:List Int):D:=.tup (xs.map .int)
def Zaq (xs:List Int):D:=.lst (xs.map .int)
theorem ZeR (xs:List Int) (n:Nat):okD (Zax xs) (n+1)=true:=ZgQ fun x hx=>by
  obtain ⟨i,_,rfl⟩:=List.mem_map.mp hx
  rw [okD]
theorem norm_eq {t b:Int} (hb:b≠0):(t.fdiv (if b < 0 then -(Int.gcd t b:Int) else (Int.gcd t b:Int))=(Rat.divInt t b).num)∧(b.fdiv (if b < 0 then -(Int.gcd t b:Int) else (Int.gcd t b:Int))=((Rat.divInt t b).den:Int)):=by
  have hg:0 < Int.gcd t b:=Int.gcd_pos_of_ne_zero_right _ hb
  have hg':(0:Int) < (Int.gcd t b:Int):=by exact_mod_cast hg
  obtain ⟨c,hc⟩:=Int.gcd_dvd_left (a:=t) (b:=b)
  obtain ⟨d,hd⟩:=Int.gcd_dvd_right (a:=t) (b:=b)
  rw [Rat.num_divInt,Rat.den_divInt,if_neg hb,Int.gcd_comm b t]
  generalize Int.gcd t b=g at *
  subst hc hd
  have gne:(g:Int)≠0:=by omega
  split
  · rename_i h
    have hd:d < 0:=by
      rcases Int.lt_or_le d 0 with z | z
      · exact z
      · have:=Int.mul_nonneg (Int.le_of_lt hg') z;omega
    rw [Int.sign_eq_neg_one_of_neg h]
    constructor
    · rw [show (g:Int)*c=(-(g:Int))*(-c) by rw [Int.neg_mul_neg],Int.mul_fdiv_cancel_left _ (by omega),Int.neg_mul_neg,show (-1:Int)*((g:Int)*c)=(g:Int)*(-c) by rw [Int.neg_mul,Int.one_mul,Int.mul_neg],Int.mul_ediv_cancel_left _ gne]
    · rw [show (g:Int)*d=(-(g:Int))*(-d) by rw [Int.neg_mul_neg],Int.mul_fdiv_cancel_left _ (by omega),Int.neg_mul_neg,Int.natAbs_mul,Int.natAbs_natCast,Nat.mul_div_cancel_left _ hg]
      omega
  · rename_i h
    have hd:0 < d:=by
      rcases Int.lt_or_le 0 d with z | z
      · exact z
      · exfalso
        have h1:(g:Int)*d≤0:=by
          have:=Int.mul_le_mul_of_nonneg_left z (Int.le_of_lt hg')
          rwa [Int.mul_zero] at this
        omega
    have hp:0 < (g:Int)*d:=Int.mul_pos hg' hd
    rw [Int.sign_eq_one_of_pos hp,Int.one_mul]
    constructor
    · rw [Int.mul_fdiv_cancel_left _ gne,Int.mul_ediv_cancel_left _ gne]
    · rw [Int.mul_fdiv_cancel_left _ gne,Int.natAbs_mul,Int.natAbs_natCast,Nat.mul_div_cancel_left _ hg]
      omega
mutual
def kd:D→Bool
  | .tup xs=>decide (xs.length≤5000) && kds xs
  | .lst xs=>decide (xs.length≤5000) && kds xs
  | .non=>true
  | .bl _=>true
  | .int _=>true
  | .str _=>true
  | .dic=>true
  | .pen=>false
  | .cls _=>false
  | .exc _=>false
  | .ty _=>false
  | .scr _=>false
def kds:List D→Bool
  | []=>true
  | x::r=>kd x && kds r
end
theorem kds_mem:∀ {xs:List D},kds xs=true→∀ x∈xs,kd x=true
  | x::r,h,y,hy=>by
    rw [kds,Bool.and_eq_true] at h
    rcases List.mem_cons.mp hy with rfl | hy
    · exact h.1
    · exact kds_mem h.2 y hy
theorem kds_of:∀ {xs:List D},(∀ x∈xs,kd x=true)→kds xs=true
  | [],_=>by rw [kds]
  | x::r,h=>by rw [kds,h x (List.mem_cons_self ..),kds_of fun y hy=>h y (List.mem_cons_of_mem _ hy)];rfl
theorem ZfD {xs:List D} (h:kd (.tup xs)=true):xs.length≤5000∧∀ x∈xs,kd x=true:=by
  rw [kd,Bool.and_eq_true,decide_eq_true_eq] at h
  exact ⟨h.1,kds_mem h.2⟩
theorem kd_lst {xs:List D} (h:kd (.lst xs)=true):xs.length≤5000∧∀ x∈xs,kd x=true:=by
  rw [kd,Bool.and_eq_true,decide_eq_true_eq] at h
  exact ⟨h.1,kds_mem h.2⟩
theorem kd_tup' {xs:List D} (h1:xs.length≤5000) (h2:∀ x∈xs,kd x=true):kd (.tup xs)=true:=by rw [kd,decide_eq_true h1,kds_of h2];rfl
theorem kd_ty {x:D} (h:kd x=true):∃ t,tyD x=some t:=by
  cases x<;>first
    | exact ⟨_,rfl⟩
    | (rw [kd] at h;cases h)
theorem kd_intsT {r:List Int} (h:r.length≤5000):kd (Zax r)=true:=kd_tup' (by simpa using h) fun x hx=>by
  obtain ⟨q,_,rfl⟩:=List.mem_map.mp hx
  rw [kd]
def isW:D→Bool
  | .int _=>true
  | _=>false
def inR (l m:Int):D→Bool
  | .int i=>decide (l≤i) && decide (i≤m)
  | _=>false
def areW (l m:Int):D→Bool
  | .tup xs=>xs.all (inR l m)
  | _=>false
def isSh:D→Bool
  | .tup [.int t,.int b]=>decide (0 < b) && (Int.gcd t b == 1)
  | _=>false
def ZeT (n:Int):D→Bool
  | .tup xs=>((xs.length:Int) == n) && xs.all isSh
  | _=>false
def isRowW (l m:Int):D→Bool
  | .tup xs=>decide (l≤(xs.length:Int)) && decide ((xs.length:Int)≤m) && xs.all isSh
  | _=>false
def ZbW:Zav:=fnS (fun x:D=>[x]) (fun x=>kd x=true) fun x=>.bl (isW x)
def ZeD:Zav:=fnS (fun x:D×Int×Int=>[x.1,.int x.2.1,.int x.2.2]) (fun x=>kd x.1=true) fun x=>.bl (inR x.2.1 x.2.2 x.1)
def ZcM:Zav:=fnS (fun x:D×Int×Int=>[x.1,.int x.2.1,.int x.2.2]) (fun x=>kd x.1=true) fun x=>.bl (areW x.2.1 x.2.2 x.1)
def ZaW:Zav:=fnS (fun x:Int×Int=>[.int x.1,.int x.2]) (fun _=>True) fun x=>.int (Int.gcd x.1 x.2)
def Zcn:Zav:=fnS (fun x:D=>[x]) (fun x=>kd x=true) fun x=>.bl (isSh x)
def Zbl:Zav:=fnS (fun x:D×Int×Int=>[x.1,.int x.2.1,.int x.2.2]) (fun x=>kd x.1=true) fun x=>.bl (isRowW x.2.1 x.2.2 x.1)
def ZeZ:Zav:=fnS (fun x:D×Int=>[x.1,.int x.2]) (fun x=>kd x.1=true) fun x=>.bl (ZeT x.2 x.1)
def Zdh:Zav:=fnS (fun x:Int×Int=>[.int x.1,.int x.2]) (fun x=>x.2≠0∧Bd x.2) fun x=>shq (Rat.divInt x.1 x.2)
def S_minus:Zav:=fnS (fun x:Rat×Rat=>[shq x.1,shq x.2]) (fun x=>B2 x.1 x.2) fun x=>shq (x.1 - x.2)
def Zfv:Zav:=fnS (fun x:Rat×Rat=>[shq x.1,shq x.2]) (fun x=>B2 x.1 x.2) fun x=>shq (x.1*x.2)
def seqD (b:Bool) (xs:List D):D:=if b then .tup xs else .lst xs
def Zge:Zav:=fnS (fun x:Bool×List Int=>[seqD x.1 (x.2.map .int)]) (fun x=>x.2.length≤5000) fun x=>rowq (x.2.map fun (i:Int)=>(i:Rat))
structure IsSl (s:List Int) (n:Nat):Prop where
  len:s.length+1=2*n
  n1:1≤n
  n5:n≤5
  b:∀ x∈s,-50≤x∧x≤50
def tbl (s:List Int) (n:Nat):List (List Int):=(List.range n).map fun i=>(s.drop (n - 1 - i)).take n
def tblD (s:List Int) (n:Nat):D:=.lst ((tbl s n).map Zaq)
def slG:D→Bool
  | .tup xs=>xs.all (inR (-50) 50) && decide (xs.length % 2=1) && decide (xs.length≤9)
  | _=>false
abbrev SL:=List Int×Nat
def ZcF:Zav:=fnS (fun x:List D=>[.tup x]) (fun x=>x.length≤5000) fun x=>.int (((x.length:Int)+1) / 2)
def Zck:Zav:=fnS (fun x:D=>[x]) (fun x=>kd x=true) fun x=>.bl (slG x)
def toI:D→Int
  | .int i=>i
  | _=>0
def sI:D→List Int
  | .tup xs=>xs.map toI
  | _=>[]
def sN (x:D):Nat:=((sI x).length+1) / 2
def okS (x:D) (v:Except Str D):Except Str D:=if slG x=true then v else .error "NoSlants"
def ZaU:Zav:=xS (fun x:D=>[x]) (fun x=>kd x=true) fun x=>okS x (.ok .non)
def Zd5:Zav:=xS (fun x:D=>[x]) (fun x=>kd x=true) fun x=>okS x (.ok (tblD (sI x) (sN x)))
def hd (r:List Int):Int:=r.headD 0
def Zbk:Zav:=xS (fun x:D=>[x]) (fun x=>kd x=true) fun x=>okS x (.ok (Zax (sI x).reverse))
def Zb (r:List Int):List Rat:=r.map fun (i:Int)=>(i:Rat)
def Zb8:Zav:=fnS (fun x:SL=>[Zax x.1]) (fun x=>IsSl x.1 x.2) fun x=>.lst ((tbl x.1 x.2).map fun r=>rowq (Zb r))
def shI:D→Rat
  | .tup [.int t,.int b]=>Rat.divInt t b
  | _=>0
def rQ:D→List Rat
  | .tup xs=>xs.map shI
  | _=>[]
section
variable {E:Ex→Prop} {Q:D→Prop} {x:D} {l m a b:Int} {p q:Rat} {s:List Int} {n k:Nat}
theorem u_are_within (h:kd x=true) (q:Q (.bl (areW l m x))):ZcM [x,.int l,.int m] E Q:=⟨(x,l,m),rfl,h,q⟩
theorem u_is_share (h:kd x=true) (q:Q (.bl (isSh x))):Zcn [x] E Q:=⟨x,rfl,h,q⟩
theorem Zgk (h:kd x=true) (q:Q (.bl (isRowW l m x))):Zbl [x,.int l,.int m] E Q:=⟨(x,l,m),rfl,h,q⟩
theorem u_is_row (h:kd x=true) (q:Q (.bl (ZeT a x))):ZeZ [x,.int a] E Q:=⟨(x,a),rfl,h,q⟩
theorem u_minus (h:B2 p q) (z:Q (shq (p - q))):S_minus [shq p,shq q] E Q:=⟨(p,q),rfl,h,z⟩
theorem u_times (h:B2 p q) (z:Q (shq (p*q))):Zfv [shq p,shq q] E Q:=⟨(p,q),rfl,h,z⟩
theorem u_row_ofL {xs:List Int} (h:xs.length≤5000) (q:Q (rowq (Zb xs))):Zge [Zaq xs] E Q:=⟨(false,xs),rfl,h,q⟩
theorem IsSl.l9 (h:IsSl s n):s.length≤9:=by have:=h.len;have:=h.n5;omega
theorem Zgj {xs:List D} (h:xs.length≤5000) (q:Q (.int (((xs.length:Int)+1) / 2))):ZcF [.tup xs] E Q:=⟨xs,rfl,h,q⟩
theorem u_size (h:IsSl s n) (q:Q (.int n)):ZcF [Zax s] E Q:=by
  have:=h.l9
  have:=h.len
  refine Zgj (by simp;omega) ?_
  have e:(((s.map D.int).length:Int)+1) / 2=n:=by rw [List.length_map];omega
  rw [e];exact q
theorem u_slants_good (h:kd x=true) (q:Q (.bl (slG x))):Zck [x] E Q:=⟨x,rfl,h,q⟩
theorem slG_of {s:List Int} {n:Nat} (h:IsSl s n):slG (Zax s)=true:=by
  unfold slG Zax
  simp only [List.length_map]
  have hl:=h.len
  have h5:=h.n5
  have h1:=h.n1
  rw [decide_eq_true (by omega:s.length % 2=1),decide_eq_true (by omega:s.length≤9),Bool.and_true,Bool.and_true,List.all_eq_true]
  intro x hx
  obtain ⟨i,hi,rfl⟩:=List.mem_map.mp hx
  have:=h.b i hi
  simp [inR,this.1,this.2]
theorem IsSl.kd {s:List Int} {n:Nat} (h:IsSl s n):kd (Zax s)=true:=kd_intsT (by have:=h.l9;omega)
theorem isSh_shq (q:Rat):isSh (shq q)=true:=by
  unfold isSh shq
  have h1:(0:Int) < (q.den:Int):=by exact_mod_cast q.den_pos
  have h2:Int.gcd q.num (q.den:Int)=1:=q.reduced
  simp [h2,q.den_pos]
theorem isRow_rowq (r:List Rat):ZeT r.length (rowq r)=true:=by
  unfold ZeT rowq
  simp [isSh_shq]
theorem Zet (s:List Int):sI (Zax s)=s:=by show (s.map D.int).map toI=s;rw [List.map_map];exact (List.map_congr_left fun _ _=>rfl).trans (List.map_id _)
theorem IsSl.sN (h:IsSl s n):sN (Zax s)=n:=by unfold LP.sN;rw [Zet];have:=h.len;omega
theorem okS_of (h:IsSl s n) {v:Except Str D}:okS (Zax s) v=v:=by unfold okS;rw [slG_of h,if_pos rfl]
theorem okS_not {v:Except Str D} (h:slG x=false):okS x v = .error "NoSlants" :=by unfold okS;rw [h,if_neg (by decide)]
theorem slG_inv (h:slG x=true):∃ s n,x=Zax s∧IsSl s n:=by
  cases x<;>try (cases h;done)
  rename_i xs
  simp only [slG,Bool.and_eq_true,decide_eq_true_eq,List.all_eq_true] at h
  obtain ⟨⟨h1,h2⟩,h3⟩:=h
  have e:xs=(xs.map toI).map D.int:=by
    rw [List.map_map]
    refine ((List.map_congr_left fun x hx=>?_).trans (List.map_id _)).symm
    have:=h1 x hx
    cases x<;>first | rfl | cases this
  refine ⟨xs.map toI,(xs.length+1) / 2,by unfold Zax;rw [← e],⟨by rw [List.length_map];omega,by omega,by omega,fun i hi=>?_⟩⟩
  obtain ⟨x,hx,rfl⟩:=List.mem_map.mp hi
  have:=h1 x hx
  cases x<;>first | (cases this;done) | skip
  simp only [inR,Bool.and_eq_true,decide_eq_true_eq] at this
  exact this
theorem Zes (q:Rat):shI (shq q)=q:=by unfold shI shq;exact Rat.num_divInt_den q
theorem rQ_rowq (r:List Rat):rQ (rowq r)=r:=by show (r.map shq).map shI=r;rw [List.map_map];exact (List.map_congr_left fun q _=>Zes q).trans (List.map_id _)
theorem Zgb {d:D} (h:isSh d=true):∃ q,d=shq q:=by
  unfold isSh at h
  split at h
  · rename_i t b
    simp only [Bool.and_eq_true,decide_eq_true_eq,beq_iff_eq] at h
    have hb:((b.toNat:Nat):Int)=b:=Int.toNat_of_nonneg (by omega)
    refine ⟨⟨t,b.toNat,by omega,?_⟩,?_⟩
    · have:b.natAbs=b.toNat:=by omega
      have h2:=h.2
      unfold Int.gcd at h2
      rw [this] at h2
      exact h2
    · unfold shq
      rw [hb]
  · cases h
theorem rows_inv:∀ {xs:List D},xs.all isSh=true→∃ r:List Rat,xs=r.map shq
  | [],_=>⟨[],rfl⟩
  | x::xs,h=>by
    rw [List.all_cons,Bool.and_eq_true] at h
    obtain ⟨q,rfl⟩:=Zgb h.1
    obtain ⟨r,rfl⟩:=rows_inv h.2
    exact ⟨q::r,rfl⟩
theorem isRow_inv {a:Int} (h:ZeT a x=true):∃ r,x=rowq r∧(r.length:Int)=a:=by
  cases x<;>try (cases h;done)
  rename_i xs
  simp only [ZeT,Bool.and_eq_true,beq_iff_eq] at h
  obtain ⟨r,rfl⟩:=rows_inv h.2
  exact ⟨r,rfl,by simpa using h.1⟩
theorem u_need_slants (h:IsSl s n) (q:Q .non):ZaU [Zax s] E Q:=xS.ok (Zax s) rfl h.kd (okS_of h) q
theorem x_need_slants (h:kd x=true) (hb:slG x=false) (e:E "NoSlants"):ZaU [x] E Q:=xS.err x rfl h (okS_not hb) e
theorem u_table_of (h:IsSl s n) (q:Q (tblD s n)):Zd5 [Zax s] E Q:=xS.ok (Zax s) rfl h.kd (by (try dsimp only);rw [okS_of h,Zet,h.sN]) q
theorem Zgi (h:IsSl s n) (q:Q (Zax s.reverse)):Zbk [Zax s] E Q:=xS.ok (Zax s) rfl h.kd (by (try dsimp only);rw [okS_of h,Zet]) q
theorem u_share_rows (h:IsSl s n) (q:Q (.lst ((tbl s n).map fun r=>rowq (Zb r)))):Zb8 [Zax s] E Q:=⟨(s,n),rfl,h,q⟩
end
end LP
namespace L2
open PySem PySem.Spec PyProof.Rows
theorem exc_obj {K:PySem.W.Frag} {h:Heap} {C:Addr} {bmB:List Value} {newId:String} (X:K.In h) (q:PySem.W.excIn K C bmB newId=true) :
    ∃ (bm:List Value) (N:Addr) (nm qn:Str) (bs:List Value) (hd:Bool) (sn:List Str) (sub:List Value) (ab:Bool) (col:Option Bool) (dd:Option Addr) (k0 k1 k2 k3 k5:Option Value) (mN:Str→Option Value),
      h.get? C=some (excClassObj nm qn C N bs bm hd sn sub ab col dd k0 k1 k2 k3 k5 newId)∧h.Ns N mN∧mN "__init__" = none∧OwnTail h bmB bm:=by
  unfold PySem.W.excIn at q
  split at q
  · rename_i dd cd sl ho
    split at q
    · rename_i C' bm k0 k1 k2 k3 n k5 hm hs
      simp only [Bool.and_eq_true,beq_iff_eq,Bool.not_eq_true'] at q
      obtain ⟨⟨⟨⟨⟨rfl,rfl⟩,hdel⟩,ht⟩,hok⟩,hni⟩:=q
      obtain ⟨nm,bs,mro,ns,qn,hd,sn,sub,ab,col,del⟩:=cd
      dsimp only at hm hdel hok hni
      subst hm hdel
      have hsl:sl = #[k0,k1,k2,k3,some (.builtin n),k5]:=by
        cases sl with
        | mk l=>exact congrArg Array.mk hs
      subst hsl
      exact ⟨bm,ns,nm,qn,bs,hd,sn,sub,ab,col,dd,k0,k1,k2,k3,k5,_,X _ _ ho,.of_isNs (PySem.W.isNs_of_in X hok),PySem.W.nsMap_none_of_in X hok hni,PySem.W.tail_of_in X ht⟩
    · cases q
  · cases q
section
variable {X:Cx} {EX:XK} {x:Str} {C:Addr} {np cpos pos:Pos} {B newId initId:String} {bmB:List Value}
theorem ps_raise (hr:Rais X EX) (hc:X.calm=true) (hm:X.mg x=some (.ref C)) (hq:PySem.W.excIn X.K C bmB newId=true) (FB:ExcBaseFacts B newId initId bmB) (hg:Gl X x:=by rfl) (hd:(x == ("__debug__" : Str))=false:=by decide) :
    PS X (.Raise (some (.Call (.Name x np) [] [] cpos)) none pos) (fun _ _ H=>EX (.ref C) none H):=by
  intro pins s σ H D I h
  obtain ⟨bm,N,nm,qn,bs,hdc,sn,sub,ab,col,dd,k0,k1,k2,k3,k5,mN,hC,hN,hni,T⟩:=exc_obj I.kIn hq
  refine wpAny_Raise_call_subT (C:=C) (nm:=nm) (q:=qn) (N:=N) (bs:=bs) (bm:=bm) (hdct:=hdc) (sn:=sn) (sub:=sub) (ab:=ab) (col:=col) (dd:=dd) (k0:=k0) (k1:=k1) (k2:=k2) (k3:=k3) (k5:=k5)
    FB (mN:=mN) (T.hasType FB.hasBase) (I.ok.hd hc) rfl hni (ld_glob I hg hm ⟨rfl,?_⟩ hd)
  exact evalArgs_empty ⟨rfl,Nat.zero_le _,hC,hN,T,fun h' e hx=>hr pins σ H s h' e (.ref C) [] I hx h⟩
end
end L2
namespace LP
open PySem PySem.Spec PyProof.Rows L2
theorem Zd4 {K:PySem.W.Frag} {x:Str} {C:Addr} (h:PySem.W.nsIn K mainGlobals x=some (some (.ref C))):ZdP K x=some C:=by unfold ZdP;rw [h]
section
variable {X:Cx} {EX:XK} {x:Str} {C:Addr} {np cpos pos:Pos} {newId initId:String} {bmB:List Value}
def Zbr (x:Str):WS:=fun E _ _=>E x
structure XC (K:PySem.W.Frag) (mg:Str→Option Value) (x:Str):Prop where
  h:∃ (C:Addr) (newId initId:String) (bmB:List Value),ZdP K x=some C∧mg x=some (.ref C)∧PySem.W.excIn K C bmB newId=true∧ExcBaseFacts "ValueError" newId initId bmB
theorem pz_raise (hr:Rais X EX) (hx:XC X.K X.mg x) (hc:X.calm=true:=by rfl) (hxn:xrow x=none:=by decide) (hg:Gl X x:=by rfl) (hd:(x == ("__debug__" : Str))=false:=by decide) :
    PZ X EX (.Raise (some (.Call (.Name x np) [] [] cpos)) none pos) (Zbr x):=by
  obtain ⟨C,newId,initId,bmB,h1,h2,h3,h4⟩:=hx.h
  exact ⟨⟨_,ps_raise hr hc h2 h3 h4 hg hd,fun W0 H0 F W σ H ρ E Dn N s fl eo no q=>eo x W H (.ref C) none q s.ext ⟨C,by rw [xnm_of hxn];exact h1,rfl,.none hxn⟩⟩,fun E ρ N N' hl q=>q⟩
end
end LP
namespace L2
open PySem PySem.Spec PyProof.Rows
section
variable {X:Cx} {pins:List (Addr×Obj)} {σ:St} {H H':Hp} {s s':Shared} {B h2:Heap}
theorem Inv.fsStk (I:Inv X pins σ H s) {b:Addr} (hb:b∈X.fs):b∈frs X.stack:=by
  rcases I.ok.stk with z | ⟨z,_⟩
  · rw [z];exact hb
  · rw [z];exact Zgc hb
theorem Inv.fly (I:Inv X pins σ H s) (hos:s'.os=s.os) (hbare:AllBare s'.gens) (un:Un (frs X.stack) [] H H' s.heap s'.heap) (hok:HOk X.prog X.w H' s'.heap)
    (hB:∀ b o,s.heap.get? b=some o→b∉frs X.stack→∃ o',B.get? b=some o') (hT:∀ b u,H' b=some u→∃ o,B.get? b=some o) (st1:B.StaysIn s'.heap) (st2:B.StaysIn h2) (up:s'.heap.UpToSlots h2)
    (frm:∀ b∈frs X.stack,∃ o,s'.heap.get? b=some o∧∀ vs,o.data≠.fields vs):Inv X pins σ H' { s' with heap:=h2 }:=by
  have I':Inv X pins σ H' s':=I.call' hos un hok hbare (ch:=[]) (fun b z=>absurd z (by simp))
  have nostk:∀ b o,X.s₀.heap.get? b=some o→b∉X.fs→b∉frs X.stack:=fun b o e hb hm=>by
    rcases List.mem_cons.mp (I.stkSub b hm) with z | z
    · have l1:=Heap.lt_size e
      have l2:=I.ok.above
      rw [← z] at l2
      exact absurd (Nat.lt_of_lt_of_le l1 l2) (Nat.lt_irrefl _)
    · exact hb z
  have inB:∀ {b o},s.heap.get? b=some o→b∉frs X.stack→∀ {u},s'.heap.get? b=some u→h2.get? b=some u:=fun {b o} e hb {u} q=>by
    obtain ⟨o',eB⟩:=hB b o e hb
    have:=st1 b o' eB
    rw [q] at this
    cases this
    exact st2 b _ eB
  have cellK:∀ c v,s'.heap.IsCell c v→h2.IsCell c v:=fun c v ⟨o,ho,hd⟩=>by
    obtain ⟨sl,e⟩:=up c o ho fun vs z=>by rw [hd] at z;cases z
    exact ⟨_,e,hd⟩
  refine ⟨I'.ok,I'.os,I'.bare,⟨fun b o e n hb hx=>?_,fun b o e n hb hx=>?_,I'.base.free,fun b o e hx=>?_,I'.base.tups,I'.base.frzs,I'.base.tbls,I'.base.sys⟩,?_,fun x c e=>?_,I'.free,I'.freeC,fun p hp=>?_,hok.through hT st1 st2,I'.len⟩
  · exact inB (I.base.keep b o e n hb hx) (nostk b o e hb) (I'.base.keep b o e n hb hx)
  · obtain ⟨sl,e1⟩:=I'.base.slot b o e n hb hx
    obtain ⟨o3,e3,nf⟩:=frm b (I.fsStk hb)
    rw [e1] at e3
    cases e3
    obtain ⟨sl2,e4⟩:=up b _ e1 nf
    exact ⟨sl2,e4⟩
  · obtain ⟨o',e1⟩:=I'.base.there b o e hx
    by_cases hb:b∈frs X.stack
    · obtain ⟨o3,e3,nf⟩:=frm b hb
      obtain ⟨sl,e4⟩:=up b _ e3 nf
      exact ⟨_,e4⟩
    · obtain ⟨o2,e2⟩:=I.base.there b o e hx
      exact ⟨o',inB e2 hb e1⟩
  · obtain ⟨m,hn,hl⟩:=I'.loc
    refine ⟨m,up.ns hn,fun i x v e1 e2 e3=>?_⟩
    obtain ⟨u,r,l⟩:=hl i x v e1 e2 e3
    refine ⟨u,r,?_⟩
    rcases l with l | ⟨k,c,e,z⟩
    · exact .inl l
    · exact .inr ⟨k,c,e,cellK c _ z⟩
  · obtain ⟨v,z⟩:=I'.cell x c e
    exact ⟨v,cellK c v z⟩
  · obtain ⟨e,n,ne,nf,d⟩:=I'.pin p hp
    obtain ⟨e0,n0,_⟩:=I.pin p hp
    have hb:p.1∉frs X.stack:=fun hm=>by
      rcases List.mem_cons.mp (I.stkSub _ hm) with z | z
      · exact ne z
      · exact nf z
    exact ⟨inB e0 hb e,n,ne,nf,d⟩
theorem Inv.track {a:Addr} {u:HO} (I:Inv X pins σ H s) (hn:H a=none) (h0:X.s₀.heap.get? a=none) (hL:a≠X.env.locals) (hC:∀ x c,X.env.cells.lookup x=some c→c≠a) (hP:∀ p∈X.pn++pins,p.1≠a)
    (new:ObjOk X.prog X.w (upd H a u) s.heap a u) (hu:∀ us,u≠.lst us):Inv X pins σ (upd H a u) s:=by
  have nea:∀ b v,H b=some v→b≠a:=fun b v e z=>by rw [z,hn] at e;cases e
  refine ⟨I.ok,I.os,I.bare,⟨I.base.keep,I.base.slot,fun b o e n hx=>?_,I.base.there,fun b xs e=>?_,fun b o xs e=>?_,fun b ps e=>?_,fun x0 e0 n ys=>by
      by_cases z:sysModules=a
      · rw [z,upd_same];exact fun y=>hu ys (Option.some.inj y)
      · rw [upd_ne z];exact I.base.sys x0 e0 n ys⟩,I.loc,I.cell,?_,fun x c e=>?_,fun p hp=>?_,fun b v e=>?_,I.len⟩
  · rw [upd_ne (fun z=>by rw [z,h0] at e;cases e)]
    exact I.base.free b o e n hx
  · have:=I.base.tups b xs e
    rw [upd_ne (nea _ _ this)];exact this
  · have:=I.base.frzs b o xs e
    rw [upd_ne (nea _ _ this)];exact this
  · obtain ⟨m,e1⟩:=I.base.tbls b ps e
    exact ⟨m,by rw [upd_ne (nea _ _ e1)];exact e1⟩
  · rw [upd_ne (Ne.symm hL)];exact I.free
  · rw [upd_ne (hC x c e)];exact I.freeC x c e
  · obtain ⟨e,n,r⟩:=I.pin p hp
    exact ⟨e,by rw [upd_ne (hP p hp)];exact n,r⟩
  · by_cases hb:b=a
    · subst hb;rw [upd_same] at e;cases e;exact new
    · rw [upd_ne hb] at e
      exact (I.hok b v e).stay (fun _ _ _ q=>q) (fun c q=>by rw [upd_ne (nea _ _ q)];exact q) fun c _ q=>by rw [upd_ne (nea _ _ q)];exact q
end
abbrev Cx.tr (X:Cx) (E:Value→Shared→Prop) (pins:List (Addr×Obj)):Cx:={ X with xe:=E,pn:=X.pn++pins }
abbrev Cx.hnd (X:Cx) (e:Addr) (E:Value→Shared→Prop):Cx:={ X with A:=X.A.mark (some (.ref e)),calm:=false,xe:=E }
section
variable {X:Cx} {pins pins':List (Addr×Obj)} {σ:St} {H:Hp} {s:Shared} {E:Value→Shared→Prop} {e:Addr}
theorem Inv.tr (I:Inv X pins σ H s):Inv (X.tr E pins) [] σ H s:=⟨⟨I.ok.mod,I.ok.kind,I.ok.glob,I.ok.blt,I.ok.above,I.ok.inj,I.ok.has,I.ok.cab,I.ok.hd,I.ok.frames,I.ok.stk,I.ok.exf,I.ok.bs,I.ok.bsz,I.ok.noex,I.ok.exfs,I.ok.funs,I.ok.frf,I.ok.sys0⟩,I.os,I.bare,I.base,I.loc,I.cell,I.free,I.freeC,fun p hp=>I.pin p (by simpa using hp),I.hok,I.len⟩
theorem Inv.untr (I:Inv (X.tr E pins) pins' σ H s):Inv X pins σ H s:=⟨⟨I.ok.mod,I.ok.kind,I.ok.glob,I.ok.blt,I.ok.above,I.ok.inj,I.ok.has,I.ok.cab,I.ok.hd,I.ok.frames,I.ok.stk,I.ok.exf,I.ok.bs,I.ok.bsz,I.ok.noex,I.ok.exfs,I.ok.funs,I.ok.frf,I.ok.sys0⟩,I.os,I.bare,I.base,I.loc,I.cell,I.free,I.freeC,fun p hp=>I.pin p (List.mem_append_left _ hp),I.hok,I.len⟩
theorem SP.untr {D:Ends} {f:Flow} {s':Shared} (h:SP (X.tr E pins) pins' D f s'):SP X pins D f s':=by
  cases f with
  | next=>obtain ⟨σ',H',I,q⟩:=h;exact ⟨σ',H',I.untr,q⟩
  | brk=>obtain ⟨σ',H',I,q⟩:=h;exact ⟨σ',H',I.untr,q⟩
  | cont=>obtain ⟨σ',H',I,q⟩:=h;exact ⟨σ',H',I.untr,q⟩
  | ret u=>obtain ⟨v,σ',H',I,r,q⟩:=h;exact ⟨v,σ',H',I.untr,r,q⟩
theorem Inv.hnd (I:Inv X pins σ H s):Inv (X.hnd e E) pins σ H s:=⟨⟨I.ok.mod,I.ok.kind,I.ok.glob,I.ok.blt,I.ok.above,I.ok.inj,I.ok.has,I.ok.cab,(fun z=>by cases z),I.ok.frames,I.ok.stk,I.ok.exf,I.ok.bs,I.ok.bsz,I.ok.noex,I.ok.exfs,I.ok.funs,I.ok.frf,I.ok.sys0⟩,I.os,I.bare,I.base,I.loc,I.cell,I.free,I.freeC,I.pin,I.hok,I.len⟩
theorem Inv.unhnd (hd:X.calm=true→X.A.handled=none) (I:Inv (X.hnd e E) pins σ H s):Inv X pins σ H s:=⟨⟨I.ok.mod,I.ok.kind,I.ok.glob,I.ok.blt,I.ok.above,I.ok.inj,I.ok.has,I.ok.cab,hd,I.ok.frames,I.ok.stk,I.ok.exf,I.ok.bs,I.ok.bsz,I.ok.noex,I.ok.exfs,I.ok.funs,I.ok.frf,I.ok.sys0⟩,I.os,I.bare,I.base,I.loc,I.cell,I.free,I.freeC,I.pin,I.hok,I.len⟩
end
theorem matches_own {K:PySem.W.Frag} {M:Model} {A:Around} {E:Value→Shared→Prop} {s:Shared} {ea C Cs:Addr} {bmB:List Value} {newId:String} {Q:Bool→Shared→Prop} (X:K.In s.heap) (hs:PySem.W.excIn K Cs bmB newId=true) (hbase:bmB.contains (.type "BaseException")=true)
    (he:∃ oe,s.heap.get? ea=some oe∧oe.cls = .ref C) (hsub:PySem.W.mroIn K C (.ref Cs)=some true) (q:Q true s):wpAny M A (excMatches (.ref ea) (.ref Cs)) Q E s:=by
  obtain ⟨bm,N,nm,qn,bs,hd,sn,sub,ab,col,dd,k0,k1,k2,k3,k5,mN,hC,hN,hni,T⟩:=exc_obj X hs
  obtain ⟨oe,he,hcls⟩:=he
  have hcB:(Value.ref Cs::bm).contains (.type "BaseException")=true:=by rw [List.contains_cons,T.hasType hbase,Bool.or_true]
  have f:=tc_notTuple
  have LS:PySem.W.Looks M s.heap (isSubtype (.ref C) (.ref Cs)) true:=PySem.W.looks_mroIn X hsub
  obtain ⟨hh,g,d,tk,os⟩:=s
  unfold excMatches
  repeat (first | (with_reducible refine wpAny_loadPart_at he ?_;rw [hcls]) | with_reducible refine wpAny_loadPart_at hC ?_ | (with_reducible refine wpAny_isSubtype_exc hC ?_;rw [hcB]) | with_reducible refine LS.at ?_ | wp_step)
  exact q
section
variable {X:Cx} {pins:List (Addr×Obj)} {σ:St} {H:Hp} {s:Shared} {h':Heap} {t':Nat}
theorem Inv.names {m:Str→Option Value} (I:Inv X pins σ H s) (hn:h'.Ns X.env.locals m) (hs:Heap.SameBut X.env.locals s.heap h'):Inv X pins (List.replicate σ.length none) H { s with heap:=h',toks:=t' }:=by
  have ne:∀ b o,X.s₀.heap.get? b=some o→b≠X.env.locals:=fun b o e=>Nat.ne_of_lt (Nat.lt_of_lt_of_le (Heap.lt_size e) I.ok.above)
  have same:∀ b,b≠X.env.locals→h'.get? b=s.heap.get? b:=fun b hb=>hs.2 b hb
  have nH:∀ b u,H b=some u→b≠X.env.locals:=fun b u e z=>by rw [z,I.free] at e;cases e
  refine ⟨I.ok,I.os,I.bare,⟨fun b o e n hb hx=>?_,fun b o e n hb hx=>?_,I.base.free,fun b o e hx=>?_,I.base.tups,I.base.frzs,I.base.tbls,I.base.sys⟩,⟨m,hn,fun i x v _ e2 _=>?_⟩,fun x c e=>?_,I.free,I.freeC,fun p hp=>?_,fun b u e=>?_,by rw [List.length_replicate];exact I.len⟩
  · show h'.get? b=_
    rw [same b (ne b o e)];exact I.base.keep b o e n hb hx
  · obtain ⟨sl,e1⟩:=I.base.slot b o e n hb hx
    refine ⟨sl,?_⟩
    show h'.get? b=_
    rw [same b (ne b o e)];exact e1
  · obtain ⟨o',e1⟩:=I.base.there b o e hx
    refine ⟨o',?_⟩
    show h'.get? b=_
    rw [same b (ne b o e)];exact e1
  · rw [List.getElem?_replicate] at e2
    split at e2<;>cases e2
  · obtain ⟨v,o,ho,hd⟩:=I.cell x c e
    refine ⟨v,o,?_,hd⟩
    show h'.get? c=_
    rw [same c (I.cne x c e)];exact ho
  · obtain ⟨e,n,nl,r⟩:=I.pin p hp
    refine ⟨?_,n,nl,r⟩
    show h'.get? p.1=_
    rw [same _ nl];exact e
  · refine (I.hok b u e).stay (fun c v hc q=>?_) (fun _ q=>q) fun _ _ q=>q
    show h'.get? c=_
    rw [same c ?_]
    · exact q
    · rcases hc with rfl | hc
      · exact nH _ _ e
      · exact nH _ _ hc
end
end L2
namespace LP
open PySem PySem.Spec PyProof.Rows L2
def exRho (n i:Nat) (ex:Str):Rho:=(List.replicate n SV.un).set i (.d (.exc ex))
structure XT (K:PySem.W.Frag) (mg:Str→Option Value) (x:Str) (L:List Str):Prop where
  h:∃ (C:Addr) (newId:String) (bmB:List Value),mg x=some (.ref C)∧PySem.W.excIn K C bmB newId=true∧bmB.contains (.type "BaseException")=true∧∀ n∈L,∀ D,ZdP K (xnm n)=some D→PySem.W.mroIn K D (.ref C)=some true
section
variable {X:Cx} {EX:XK}
def zTry (L:List Str) (n i:Nat) (zb zh:WS):WS:=fun _ N ρ=>∃ E':Ex→Prop,(∀ ex,E' ex→ex∈L∧zh No { nx:=fun _=>False,rt:=N.rt } (exRho n i ex))∧zb E' N ρ
theorem pz_try (L:List Str) (i:Nat) {n cx:Str} {body suite:List Stmt} {b0:Stmt} {zb zh:WS} {np hpos pos:Pos} (hcx:XT X.K X.mg cx L) (hN:X.N.Nodup)
    (hb:∀ xe pins EX',Passes (CXv X.prog X.w) (X.tr xe pins) EX'→PZs (X.tr xe pins) EX' body zb) (hh:∀ e xe,PZs (X.hnd e xe) E0 (b0::suite) zh)
    (hstk:X.stack=X.env::X.outer∧X.env.frame=some X.env.locals:=by exact ⟨rfl,rfl⟩) (hi:X.N[i]? = some n:=by rfl) (hx:X.env.scope.names.lookup n=some .local:=by rfl)
    (hg:Gl X cx:=by rfl) (hd:(cx == ("__debug__" : Str))=false:=by decide) (hkf:X.env.scope.kind = .function:=by rfl) (hex:X.ex=[]:=by rfl) :
    PZ X EX (.Try body [.ExceptHandler (some (.Name cx np)) (some n) (b0::suite) hpos] [] [] pos) (zTry L X.N.length i zb zh):=by
  have hbm:=(hb (fun _ _=>False) [] E0 Za5).mono
  refine ⟨⟨fun D σ H=>∃ W0 H0 F W ρ N,SOk X.K W0 H0 W σ H ρ∧Wle F W∧NOk X.K W0 H0 F D N∧zTry L X.N.length i zb zh No N ρ,?_,fun W0 H0 F W σ H ρ E Dn N s fl eo no h=>⟨W0,H0,F,W,ρ,N,s,fl,no,h⟩⟩,fun E ρ N N' hl ⟨E',h1,h2⟩=>⟨E',fun ex he=>⟨(h1 ex he).1,(hh 0 fun _ _=>False).mono _ _ { nx:=fun _=>False,rt:=N.rt } { nx:=fun _=>False,rt:=N'.rt } ⟨fun _ z=>z,hl.rt,fun _ z=>z,fun _ z=>z⟩ (h1 ex he).2⟩,hbm _ _ _ _ hl h2⟩⟩
  rintro pins s σ H D I ⟨W0,H0,F,W,ρ,N,so,fl,no,E',hE',hz⟩
  obtain ⟨Cs,newId,bmB,hm,hexc,hbase,hsub⟩:=hcx.h
  have hcalm:=I.ok.hd
  let Eh:Value→Shared→Prop:=fun e s1=>wpAny (model X.prog X.w) X.A (noteFrame e X.env) (fun _ s2=>wpAny (model X.prog X.w) X.A (setFlight e none) (fun _ s3=>wpAny (model X.prog X.w) X.A (handleBy e X.env [.ExceptHandler (some (.Name cx np)) (some n) (b0::suite) hpos]) (SP X pins D) X.xe s3) X.xe s2) X.xe s1
  have pass:Passes (CXv X.prog X.w) (X.tr Eh pins) (fun cls dx H'=>∃ W' ex,Ext W0 H0 W' H'∧ExRep X.K W' H' cls dx ex∧E' ex):=by
    rintro pins' σ1 H1 s1 _ s' I1 ⟨ea,cls,dx,H',B,rfl,fly,hos,hbare,un,hok,hB,hT,W',ex,x',⟨C,hcl,rfl,hxd⟩,he⟩
    have J:Inv X pins σ1 H1 s1:=I1.untr
    obtain ⟨hL,hw⟩:=hE' ex he
    have fly':Fl.Up (Fl.Is (.ref C) dx) B (X.env::X.outer) ea .none s'.heap:=by rw [← hstk.1];exact fly
    have frm:∀ b∈frs X.stack,∃ o,s'.heap.get? b=some o∧∀ vs,o.data≠.fields vs:=fun b hb=>(fly.fr.mem hb).2
    show wpAny (model X.prog X.w) X.A (noteFrame (.ref ea) X.env) _ _ s'
    refine Fl.note Fl.Is.firm (by rw [J.ok.frames,hstk.1]) hstk.2 fly' fun h4 held4 up4=>?_
    refine Fl.lands (s:={ s' with heap:=h4 }) held4 fun h5 fl5 up5=>?_
    have up45:=up4.trans up5
    have J5:Inv X pins σ1 H' { s' with heap:=h5 }:=J.fly hos hbare un hok hB hT fly.st fl5.st up45 frm
    refine wpAny_handleBy_cons (codeAny_handlers_test ?_) (by intro q;cases q)
    refine ld_glob (X:=X.hnd ea X.xe) J5.hnd hg hm ?_ hd
    refine matches_own J5.kIn hexc hbase (let ⟨ob,z1,z2,_⟩:=fl5.there;⟨ob,z1,z2.1⟩) (hsub ex hL C hcl) ?_
    refine codeAny_handlers_suite_as ?_
    refine Fl.lands (s:={ s' with heap:=h5 }) fl5 fun h6 fl6 up6=>?_
    have J6:Inv X pins σ1 H' { s' with heap:=h6 }:=J.fly hos hbare un hok hB hT fly.st fl6.st (up45.trans up6) frm
    -- the exception's own object
    obtain ⟨oe0,g1,g2,vs0,g3⟩:=fly.there
    have nofr:ea∉frs X.stack:=fun hm=>by
      obtain ⟨o,e,nf⟩:=frm ea hm
      rw [g1] at e
      cases e
      exact nf _ g3
    have nB:B.get? ea=none:=fly.new
    have noS:s1.heap.get? ea=none:=by
      cases q:s1.heap.get? ea with
      | none=>rfl
      | some o=>obtain ⟨o',e⟩:=hB ea o q nofr;rw [nB] at e;cases e
    have hn':H' ea=none:=by
      cases q:H' ea with
      | none=>rfl
      | some u=>obtain ⟨o,e⟩:=hT ea u q;rw [nB] at e;cases e
    have no0:X.s₀.heap.get? ea=none:=by
      cases q:X.s₀.heap.get? ea with
      | none=>rfl
      | some o=>
        obtain ⟨o',e⟩:=J.base.there ea o q (by rw [hex];simp)
        rw [noS] at e;cases e
    have nL:ea≠X.env.locals:=fun z=>by
      obtain ⟨m,⟨o,es,ep,ho,_⟩,_⟩:=J.loc
      rw [← z,noS] at ho;cases ho
    have nC:∀ x c,X.env.cells.lookup x=some c→c≠ea:=fun x c e z=>by
      obtain ⟨v,o,ho,_⟩:=J.cell x c e
      rw [z,noS] at ho;cases ho
    have nP:∀ p∈X.pn++pins,p.1≠ea:=fun p hp z=>by
      have:=(J.pin p hp).1
      rw [z,noS] at this;cases this
    obtain ⟨oe,q1,q2,vs,q3⟩:=fl6.there
    refine store_ok2 (X:=X.hnd ea X.xe) (v:=.ref ea) J6.hnd hN hi (Or.inl hx) rfl (fun s7 J7 sb=>?_) (.inr hx)
    have hat:∃ oe,s7.heap.get? ea=some oe∧oe.cls = .ref C∧PySem.W.notCls oe=true∧oe.dict=dx∧∃ vs,oe.data = .fields vs:=by
      obtain ⟨a,hs,ha⟩:=sb
      have hne:ea≠a:=fun z=>by
        rcases ha with ha | ha
        · exact nL (z.trans ha)
        · exact nC _ _ ha z.symm
      refine ⟨oe,(hs.2 ea hne).trans q1,q2.1,?_,q2.2,vs,q3⟩
      unfold PySem.W.notCls
      rw [q3]
    have J8:Inv (X.hnd ea fun _ _=>False) pins (σ1.set i (some (.ref ea))) (upd H' ea (excHO C ea dx)) s7:=by
      refine ((J7.unhnd hcalm).hnd).track hn' no0 nL nC nP ⟨hat,?_,?_⟩ (fun _ z=>by first | cases z | (unfold excHO at z;cases z))
      · obtain ⟨o,e,_⟩:=hat;exact ⟨o,e⟩
      · rintro g1 g2 ⟨o,e,r⟩ k
        exact ⟨o,k o e,r⟩
    have xt:Ext W' H' (W'.put ea (excHO C ea dx)) (upd H' ea (excHO C ea dx)):=Ext.put x'.ok hn'
    have hil:i < X.N.length:=(List.getElem?_eq_some_iff.mp hi).1
    have so2:SOk X.K W0 H0 (W'.put ea (excHO C ea dx)) (σ1.set i (some (.ref ea))) (upd H' ea (excHO C ea dx)) (exRho X.N.length i ex):=by
      have hlen:σ1.length=X.N.length:=J.len
      have slot:∀ (j:Nat) sv,(exRho X.N.length i ex)[j]? = some sv→sv = .un∨(j=i∧sv = .d (.exc ex)):=fun j sv e=>by
        unfold exRho at e
        by_cases h:i=j
        · subst h
          rw [List.getElem?_set_self (by simpa using hil)] at e
          cases e
          exact .inr ⟨rfl,rfl⟩
        · rw [List.getElem?_set_ne h,List.getElem?_replicate] at e
          split at e
          · cases e;exact .inl rfl
          · cases e
      refine ⟨x'.trans xt,by unfold exRho;rw [List.length_set,List.length_set,List.length_replicate,hlen],fun j y e=>?_,fun j ys e=>?_,fun j k ys zs b _ e=>?_,.none fun j xss e=>?_⟩
      · rcases slot j _ e with z | ⟨rfl,z⟩
        · cases z
        · cases z
          exact ⟨.ref ea,List.getElem?_set_self (by rw [hlen];exact hil),.exc (by unfold Wd.put;dsimp only;rw [upd_same]) hcl (hxd.mono xt.g)⟩
      · rcases slot j _ e with z | ⟨_,z⟩<;>cases z
      · rcases slot j _ e with z | ⟨_,z⟩<;>cases z
      · rcases slot j _ e with z | ⟨_,z⟩<;>cases z
    obtain ⟨th,ph,kh⟩:=(hh ea fun _ _=>False).t
    refine wpAny_mono (ph pins s7 _ _ { nx:=fun _ _=>False,rt:=D.rt } J8 (kh W0 H0 _ _ _ _ _ No _ { nx:=fun _=>False,rt:=N.rt } so2 (.refl _) (fun _ _ _ _ _ z=>z.elim)
      ⟨fun _ _ _ _ _ _ z=>z.elim,no.rt,fun _ _ _ _ _ _ z=>z.elim,fun _ _ _ _ _ _ z=>z.elim⟩ hw)) (fun f s9 q=>?_) fun _ _ z=>z.elim
    cases f with
    | next=>obtain ⟨_,_,_,z⟩:=q;exact z.elim
    | brk=>obtain ⟨_,_,_,z⟩:=q;exact z.elim
    | cont=>obtain ⟨_,_,_,z⟩:=q;exact z.elim
    | ret u=>
      obtain ⟨v,σ9,H9,J9,r9,q9⟩:=q
      have K9:=J9.unhnd hcalm
      obtain ⟨m,hns,_⟩:=K9.loc
      exact wpAny_nameGoes hx hns (by rw [hkf];rfl) fun h' m' hn2 hs2=>⟨v,_,H9,K9.names hn2 hs2,r9,q9⟩
  obtain ⟨tb,pb,kb⟩:=(hb Eh pins _ pass).t
  refine wpAny_Try_except (wpAny_mono (pb [] s σ H D I.tr (kb W0 H0 F W σ H ρ E' D N so fl (fun ex W' H' cls dx he x r=>⟨W',ex,x,r,he⟩) no hz)) (fun f s1 q=>?_) fun e s1 q=>q)
  cases f with
  | next=>exact wpAny_execs_nil q.untr
  | brk=>exact q.untr
  | cont=>exact q.untr
  | ret u=>exact q.untr
end
end LP
namespace L2
open PySem PySem.Spec PyProof.Rows
structure RoomU (k:Nat) (A:Around):Prop where
  dp:A.depth+3*k+5 < recursionLimit
  un:A.units+16*k+200 < cLine
theorem RoomU.mono {j k:Nat} {A:Around} (r:RoomU k A) (h:j≤k):RoomU j A:=⟨by have:=r.dp;omega,by have:=r.un;omega⟩
theorem RoomU.deeper {k:Nat} {A:Around} (r:RoomU (k+1) A) (env:Env):RoomU k (A.deeper env):=
  ⟨by have:=r.dp;show A.depth+1+3*k+5 < _;omega,by have:=r.un;show A.units+3+16*k+200 < _;omega⟩
theorem RoomU.depth {k:Nat} {A:Around} (r:RoomU k A):A.depth < recursionLimit:=by have:=r.dp;omega
theorem RoomU.units {k:Nat} {A:Around} (r:RoomU k A):A.units+64 < cLine:=by have:=r.un;omega
theorem Room.u {k:Nat} {A:Around} (r:Room k A):RoomU k A:=⟨r.dp,r.un⟩
theorem RoomU.mark {k:Nat} {A:Around} {v:Option Value} (r:RoomU k A):RoomU k (A.mark v):=⟨r.dp,r.un⟩
structure FnU (P:Program) (w:World) (K:PySem.W.Frag) (mg:Str→Option Value) (base:Heap) (k:Nat) (f:Addr) (fd:FuncData) (ps:List Str) (sp:Sp):Prop where
  len:∀ vs H Q E,sp vs H Q E→vs.length=ps.length
  run:∀ (A:Around) (outer:List Env) (s:Shared) (H:Hp) (args:Args) (us:List Value) (vs:List V) (Q:VK) (E:XK),RoomU k A→Env0 P w K mg base A outer s H→BindsTo s fd args (ps.zip us)→Vals vs us→sp vs H Q E→
    codeAny (model P w) A (.call (.ref f) args) (CR CX0 outer P w H s Q E) s
def cxU (P:Program) (w:World) (K:PySem.W.Frag) (mg:Str→Option Value) (base:Heap) (N:List Str) (qual:Str) (scope:Scope) (f:Addr) (cd:Value) (A:Around) (outer:List Env) (s:Shared) (H:Hp):Cx:=
  { cxOf CX0 P w K mg base N qual scope f cd A outer s H E0 with calm:=false,xe:=fun _ _=>False }
theorem inv_startU {P:Program} {w:World} {K:PySem.W.Frag} {mg:Str→Option Value} {base:Heap} {N ps:List Str} {qual:Str} {scope:Scope} {f:Addr} {cd:Value} {A:Around} {outer:List Env} {s s1:Shared} {H:Hp} {us:List Value} {vs:List V}
    (S:FnScope N ps scope) (e0:Env0 P w K mg base A outer s H) (hl:vs.length=ps.length) (r:Vals vs us)
    (x:InCallC s s.heap.objs.size (bindL (envOfC qual scope s.heap.objs.size f cd).kindOf (ps.zip us) fun _=>none) (cellsFrom (s.heap.objs.size+1) scope.names []) (bindC (envOfC qual scope s.heap.objs.size f cd).kindOf (ps.zip us) fun _=>none) s1) :
    Inv (cxU P w K mg base N qual scope f cd A outer s H) [] (start N vs) H s1:=by
  have hpl:ps.length≤N.length:=by have:=congrArg List.length S.pre;rw [List.length_take] at this;omega
  obtain ⟨h1,tk,rfl,hk⟩:=x.done
  have noA:∀ b:Addr,b∉(cxU P w K mg base N qual scope f cd A outer s H).ex:=fun b z=>absurd (show b∈([]:List Addr) from z) (by simp)
  refine ⟨⟨e0.mod,S.kind,rfl,rfl,Nat.le_refl _,fun y z c h1 h2=>?_,fun y hy=>?_,fun y c _ h=>?_,(fun z=>by cases z),Around.frames_deeper e0.frames,.inr ⟨rfl,rfl⟩,fun b z=>absurd z (noA b),e0.bs,e0.bsz,fun b _ _=>noA b,fun b z=>absurd z (noA b),e0.funs,e0.frf,e0.sysn⟩,
    rfl,e0.bare,Un.kept hk,⟨_,x.toInCall.ns,fun i y v h1 h2 h3=>?_⟩,fun y c h=>⟨_,x.cell y c h⟩,e0.hok.fresh (Nat.le_refl _),fun y c h=>?_,fun p hp=>absurd (show p∈([]:List (Addr×Obj)) from hp) (by simp),e0.hok.kept hk,?_⟩
  · exact name_of_addr x.apart (PySem.mem_of_lookup h1) (PySem.mem_of_lookup h2)
  · have hy:scope.names.lookup y=some .cell∨scope.names.lookup y=some .free:=hy
    rcases hy with hy | hy
    · exact cell_has hy
    · exact absurd rfl (S.nofree _ (PySem.mem_of_lookup hy))
  · exact Nat.le_of_lt (x.above y c (PySem.mem_of_lookup h))
  · have hi:i < vs.length:=by
      unfold start at h2
      by_cases hi:i < vs.length
      · exact hi
      · rw [List.getElem?_append_right (by simpa using hi)] at h2
        rw [List.getElem?_replicate] at h2
        split at h2<;>cases h2
    have ha:vs[i]? = some v:=by
      unfold start at h2
      rw [List.getElem?_append_left (by simpa using hi),List.getElem?_map] at h2
      cases e:vs[i]? with
      | none=>rw [e] at h2;cases h2
      | some a=>rw [e] at h2;cases h2;rfl
    obtain ⟨u,hu,rv⟩:=r.get ha
    have hp:ps[i]? = some y:=by
      rw [← S.pre,List.getElem?_take_of_lt (by omega)];exact h1
    have ndP:ps.Nodup:=by rw [← S.pre];exact S.nd.sublist (List.take_sublist _ _)
    refine ⟨u,rv,?_⟩
    rcases S.par y (List.mem_of_getElem? hp) with k | k
    · exact .inl ⟨k,bindL_get ndP hp hu k⟩
    · obtain ⟨c,e⟩:=cell_has (n:=s.heap.objs.size+1) k
      refine .inr ⟨.inl k,c,e,?_⟩
      have q:=x.cell y c e
      rw [bindC_get ndP hp hu (by show scope.names.lookup y≠_;rw [k];decide)] at q
      exact q
  · exact e0.hok.fresh (Nat.le_of_lt (x.above y c (PySem.mem_of_lookup h)))
  · unfold start
    show _=N.length
    rw [List.length_append,List.length_map,List.length_replicate]
    omega
theorem Fun.okU {P:Program} {w:World} {K:PySem.W.Frag} {mg:Str→Option Value} {base:Heap} {x qual:Str} {st:Stmt} {f:Addr} {fd:FuncData} {N ps:List Str} {k:Nat} {sp:Sp} (F:Fun K x qual st f fd) (S:FnScope N ps (defScope st)) (len:∀ vs H Q E,sp vs H Q E→vs.length=ps.length)
    (hbody:∀ (cdv:Value) (A:Around) (outer:List Env) (s:Shared) (H:Hp) (vs:List V) (Q:VK) (E:XK),RoomU k (A.deeper (envOfC qual (defScope st) s.heap.objs.size f cdv))→sp vs H Q E→
      ∃ t,PSs (cxU P w K mg base N qual (defScope st) f cdv A outer s H) (defBody st) t∧t { nx:=fun _ H'=>Q .non H',rt:=Q } (start N vs) H):FnU P w K mg base (k+1) f fd ps sp:=by
  obtain ⟨oc,od,kV,doc,pm,an,cdv,ct,osl,rfl,lk,hcd⟩:=F.ex
  refine ⟨len,fun A outer s H args us vs Q E hr e0 hb r hsp=>?_⟩
  have hl:=len _ _ _ _ hsp
  have KX:K.In s.heap:=e0.mod.kin.keeps fun b o e=>(e0.bs b o e).1
  have lim:s.heap.NoLimit:=e0.mod.nolimit.keeps fun b o e=>(e0.bs b o e).1
  have hkind:∀ y∈ps.zip us,(defScope st).names.lookup y.1=some .local∨((defScope st).names.lookup y.1=some .cell∧((cellsFrom (s.heap.objs.size+1) (defScope st).names []).lookup y.1).isSome=true):=fun ⟨n,v⟩ hy=>by
    rcases S.par n (List.of_mem_zip hy).1 with q | q
    · exact .inl q
    · exact .inr ⟨q,PySem.W.cellsFrom_some _ _ _ (.inl q)⟩
  refine codeAny_call_function hr.depth (KX _ _ lk) rfl S.co S.gen rfl (PySem.W.codeRec_of KX hcd) (hb _ _ _ _ ?_)
  refine wpAny_newFunctionEnv_cells S.kind hkind fun env he s1 x=>?_
  subst he
  refine ⟨lim.keeps x.toInCall.keep,codeAny_func ?_⟩
  obtain ⟨t,ht,hq⟩:=hbody cdv A outer s H vs Q E (hr.deeper _) hsp
  have I:Inv (cxU P w K mg base N qual (defScope st) f cdv A outer s H) [] (start N vs) H s1:=inv_startU S e0 hl r x
  refine wpAny_mono (ht [] s1 (start N vs) H _ I hq) (fun fl s' hs=>?_) fun e s' hs=>hs.elim
  have fin:∀ {σ':St} {H':Hp} {v:V} {u:Value},Inv (cxU P w K mg base N qual (defScope st) f cdv A outer s H) [] σ' H' s'→RelV v u→Q v H'→CE outer P w H s Q u s':=
    fun {σ' H' v u} J rv q=>⟨v,H',J.os,J.bare,J.base,J.hok,rv,q⟩
  cases fl with
  | ret u=>
    obtain ⟨v,σ',H',J,rv,q⟩:=hs
    exact fin J rv q
  | next=>
    obtain ⟨σ',H',J,q⟩:=hs
    exact fin (v:=V.non) (u:=Value.none) J rfl q
  | brk=>
    obtain ⟨_,_,_,q⟩:=hs
    exact False.elim q
  | cont=>
    obtain ⟨_,_,_,q⟩:=hs
    exact False.elim q
section
variable {X:Cx} {k:Nat} {f:Addr} {fd:FuncData} {ps:List Str} {sp:Sp} {E:XK} {x:Str} {p pos:Pos} {e:Expr} {es:List Expr} {t:TA}
theorem pe_callU (F:FnU X.prog X.w X.K X.mg X.base k f fd ps sp) (hr:RoomU k X.A) (hg:Gl X x) (hm:X.mg x=some (.ref f)) (hk:PySem.W.keepIn X.K (.ref f)=true) (hb:Binds X.K fd ps [])
    (ha:PA X (e::es) t) (hdb:(x == ("__debug__" : Str))=false:=by decide) (he:starEach (e::es) X.env=(false,eval e X.env)::starEach es X.env:=by rfl) (hpl:(backTo pos (starEach es X.env)).any (·.1)=false:=by rfl) :
    PE X (.Call (.Name x p) (e::es) [] pos) (tCall sp [] E t):=by
  have F':∀ (pins:List (Addr×Obj)) (σ:St) (H:Hp) (s:Shared) (Q:VK) (us:List Value) (vs:List V),Inv X pins σ H s→Vals vs us→sp (vs++[]) H Q E→wpAny (model X.prog X.w) X.A (call (.ref f) us) (EP X pins σ Q) X.xe s:=by
    intro pins σ H s Q us vs I r h
    have r2:Vals (vs++[]) (us++[]):=by simpa using r
    have hl:(us++[]).length=ps.length:=by rw [← r2.length];exact F.len _ _ _ _ h
    refine wpAny_call (codeAny_mono (F.run X.A X.stack s H ⟨us,[]⟩ (us++[]) (vs++[]) Q E hr I.env0 (hb s us I.kIn hl) r2 h) fun r s' hq=>?_)
    cases r with
    | error e=>exact False.elim hq
    | ok fl=>
      cases fl with
      | ret u=>exact I.after hq
      | next=>exact False.elim hq
      | brk=>exact False.elim hq
      | cont=>exact False.elim hq
  intro pins s σ H Q I h
  refine wpAny_Call_Name_kw (ld_glob I hg hm ?_ hdb)
  refine PySem.W.callWith_K (h₀:=X.base) I.ok.mod.kin hk (thn (ha pos pins s σ H _ I h) fun us s1 ⟨vs,H1,I1,r,q⟩=>⟨I1.kIn,?_⟩) he hpl
  exact F' pins σ H1 s1 Q us vs I1 r q
end
end L2
namespace LP
open PySem PySem.Spec PyProof.Rows L2
section
variable {P:Program} {w:World} {K:PySem.W.Frag} {mg:Str→Option Value} {base:Heap}
theorem fnpu {x qual:Str} {st:Stmt} {f:Addr} {fd:FuncData} {N ps:List Str} {k:Nat} {S:Zav} {z:WS} (F:Fun K x qual st f fd) (sc:FnScope N ps (defScope st)) (len:∀ ds E Q,S ds E Q→ds.length=ps.length)
    (hbody:∀ (cdv:Value) (A:Around) (outer:List Env) (s:Shared) (H:Hp),RoomU k (A.deeper (envOfC qual (defScope st) s.heap.objs.size f cdv))→
      PZs (cxU P w K mg base N qual (defScope st) f cdv A outer s H) E0 (defBody st) z)
    (h:∀ ds E Q,S ds E Q→z No { nx:=fun _=>Q .non,rt:=Q } (rho N ds)):FnU P w K mg base (k+1) f fd ps (spOf K S):=by
  refine F.okU sc (fun vs H Q E hs=>?_) fun cdv A outer s H vs Q E hr hs=>?_
  · obtain ⟨ds,W,_,r,hS⟩:=hs
    rw [r.length]
    exact len _ _ _ hS
  · obtain ⟨ds,W,ok,r,hS⟩:=hs
    obtain ⟨t,p,k⟩:=(hbody cdv A outer s H hr).t
    exact ⟨t,p,k W H W W (start N vs) H (rho N ds) No _ { nx:=fun _=>RQ K W H Q .non,rt:=RQ K W H Q } (sok_start ok r) (.refl W) (fun _ _ _ _ _ z=>z.elim)
      ⟨fun W1 σ1 H1 ρ1 s1 _ q=>q _ W1 H1 s1.ext .non,fun d v W1 H1 x1 r1 q=>q v W1 H1 x1 r1,fun _ _ _ _ _ _ q=>q.elim,fun _ _ _ _ _ _ q=>q.elim⟩ (h ds _ _ hS)⟩
structure FpU (P:Program) (w:World) (K:PySem.W.Frag) (mg:Str→Option Value) (base:Heap) (k:Nat) (x:Str) (ps:List Str) (S:Zav):Prop where
  ok:∃ f fd,FnU P w K mg base k f fd ps (spOf K S)∧mg x=some (.ref f)∧PySem.W.keepIn K (.ref f)=true∧Binds K fd ps []
  mono:ZgZ S
end
section
variable {X:Cx} {EX:XK} {pos p:Pos} {e:Expr} {es:List Expr} {t:WA} {x:Str} {k j:Nat} {ps:List Str} {S:Zav}
theorem px_fnU (G:FpU X.prog X.w X.K X.mg X.base k x ps S) (hr:RoomU j X.A) (ha:PXA X EX (e::es) t) (hk:k≤j:=by decide) (hg:Gl X x:=by rfl) (hdb:(x == ("__debug__" : Str))=false:=by decide) (he:starEach (e::es) X.env=(false,eval e X.env)::starEach es X.env:=by rfl) (hpl:(backTo pos (starEach es X.env)).any (·.1)=false:=by rfl) :
    PX X EX (.Call (.Name x p) (e::es) [] pos) (wF S t):=by
  obtain ⟨f,fd,F,hm,kp,hb⟩:=G.ok
  obtain ⟨ta,pa,ka⟩:=ha.t
  have hS:=G.mono
  refine ⟨⟨_,pe_callU (E:=EX) F (hr.mono hk) hg hm kp hb pa hdb he hpl,fun W0 H0 W σ H ρ E Q s eo h=>?_⟩,fun E ρ P P' hp z=>ha.mono _ _ _ _ (fun ds hds=>hS _ _ _ _ _ (fun _ q=>q) hp hds) z⟩
  refine ka W0 H0 W σ H ρ E _ s eo (ha.mono _ _ _ _ (fun ds hds vs W1 H1 x1 r1=>?_) h)
  refine ⟨ds,W1,x1.ok,by rw [List.append_nil];exact r1,hS _ _ _ _ _ (fun ex hex W' H' cls dx x' r'=>?_) (fun d hd=>RQ.ext hd x1) hds⟩
  exact eo ex W' H' cls dx hex (s.ext.trans (x1.trans x')) r'
end
end LP
namespace L2
open PySem PySem.Spec PySem.Calls PyProof.Rows PySem.W Builtin Builtin.ObjectAttr Builtin.Getset_descriptor
def XAt (h:Heap) (x C:Addr):Prop:=∃ ox,h.get? x=some ox∧ox.cls = .ref C∧notCls ox=true
structure ClsX (K:Frag) (D:Addr):Prop where
  ga:findIn K (.ref D) "__getattribute__" = some (some (.builtin "BaseException.__getattribute__"))
  gn:findIn K (.ref D) "__getattr__" = some none
  be:mroIn K D (.type "BaseException")=some true
  is:(clsIn K D).isSome=true
  at':findIn K (.ref D) "__class__" = some (some (.builtin "object.__class__"))
  gt:specialIn K (.builtin "object.__class__") "__get__" = some (some (.builtin "getset_descriptor.__get__"))
  tk:takesIn K (.builtin "object.__class__")=some true
  ob:mroIn K D (.type "object")=some true
section
variable {prog:Program} {w:World} {A:Around} {E:Value→Shared→Prop} {s:Shared} {K:Frag} {x D:Addr}
theorem XAt.type {M:Model} {h:Heap} (I:XAt h x D):Looks M h (typeOf (.ref x)) (.ref D):=by
  obtain ⟨ox,h1,h2,_⟩:=I
  exact h2 ▸ (Looks.ld h1).andThen .now
theorem looks_findX {M:Model} {h:Heap} (X:K.In h) (c:ClsX K D):Looks M h (find (.ref x) (.ref D) "__class__") (.bind (.builtin "getset_descriptor.__get__") (.builtin "object.__class__")):=by
  have L1:=looks_findIn (M:=M) X c.at'
  have L2:Looks M h (getOf (some (.builtin "object.__class__"))) (some (.builtin "getset_descriptor.__get__")):=looks_specialIn X c.gt
  have L3:=looks_takesIn (M:=M) X c.tk
  refine L1.andThen (L2.andThen ?_)
  exact (show Looks M h (dataDescriptor? (some (.builtin "object.__class__")) (some (.builtin "getset_descriptor.__get__"))) (some (.builtin "getset_descriptor.__get__",.builtin "object.__class__")) from L3.andThen .now).andThen (Looks.tag .now)
theorem xclass_get {tp:Value} {R:Result→Shared→Prop} (X:K.In s.heap) (I:XAt s.heap x D) (hm:mroIn K D (.type "object")=some true)
    (h:R (.ok (.ret (.ref D))) s):codeAny (model prog w) A (.call (.builtin "getset_descriptor.__get__") ⟨[.builtin "object.__class__",.ref x,tp],[]⟩) R s:=by
  obtain ⟨hh,g,dr,t,os⟩:=s
  have L0:=I.type (M:=model prog w)
  have L1:=looks_mroIn (M:=model prog w) X hm
  refine codeAny_call_builtin KF.slot_gs.plain KF.entry_gs (KF.slot_gs.check _ _ _ _ _ _ _ _ KF.type_class (KF.args_gs _ _ _) ?_)
  unfold Builtin.«getset_descriptor.__get__» descrGet
  rw [dga_obj]
  refine wpAny_bind (wpAny_pure ?_)
  unfold descrGetter descrCheckInstance descrNameAndClass isInstance
  simp only [KF.owner_class]
  repeat lk
  refine ⟨Code.quiet_builtin _ (by decide +kernel),codeAny_builtin KF.entry_class ?_⟩
  unfold Builtin.«object.__class__» shownTypeOf
  repeat lk
  exact h
theorem xcheck {M:Model} {nameV:Value} {Q:Unit→Shared→Prop} (X:K.In s.heap) (I:XAt s.heap x D) (c:ClsX K D) (hq:Q () s):wpAny M A (checkBuiltinCall "BaseException.__getattribute__" ⟨[.ref x,nameV],[]⟩) Q E s:=by
  have hk:builtinKind "BaseException.__getattribute__" = some .slot:=by decide +kernel
  have hsplit:splitId "BaseException.__getattribute__" = some ("BaseException", "__getattribute__"):=by decide +kernel
  have ha:=PySem.F.args_bexc_ga (.ref x) nameV
  have L0:=I.type (M:=M)
  have L1:=looks_mroIn (M:=M) X c.be
  simp only [checkBuiltinCall,hk,hsplit]
  refine wpAny_bind ?_
  unfold isInstance
  refine wpAny_bind (L0.at (L1.at ?_))
  repeat (first | assumption | wp_step)
theorem xentry {tk:Tok} {Q:Fin→Shared→Prop} (X:K.In s.heap) (I:XAt s.heap x D) (c:ClsX K D) (hq:Q (.done (.ret (.ref D))) s) :
    wpAny (model prog w) A (Builtin.«object.__getattribute__» ⟨[.ref x,.str "__class__" tk],[]⟩) Q E s:=by
  obtain ⟨hh,g,d,t,os⟩:=s
  have L0:=I.type (M:=model prog w)
  have L2:=looks_findX (x:=x) (M:=model prog w) X c
  repeat (any_goals (first | assumption | (with_reducible refine L0.at ?_) | (with_reducible refine L2.at ?_) | wp_step))
  exact xclass_get (K:=K) (s:=⟨hh,g,d,t,os⟩) X I c.ob (wpAny_pure hq)
theorem xcall {tk:Tok} {R:Result→Shared→Prop} (X:K.In s.heap) (I:XAt s.heap x D) (c:ClsX K D) (hq:R (.ok (.ret (.ref D))) s) :
    codeAny (model prog w) A (.call (.builtin "BaseException.__getattribute__") ⟨[.ref x,.str "__class__" tk],[]⟩) R s:=
  codeAny_call_builtin PySem.F.attr_ValueError.ga.plain PySem.F.entry_bexc_ga (xcheck X I c (xentry X I c hq))
theorem xclass {Q:Option Value→Shared→Prop} (X:K.In s.heap) (I:XAt s.heap x D) (c:ClsX K D) (h:Q (some (.ref D)) { s with toks:=s.toks+1 }):wpAny (model prog w) A (getAttr? (.ref x) "__class__") Q E s:=by
  obtain ⟨hh,g,d,t,os⟩:=s
  have L0:=I.type (M:=model prog w)
  have L1:=looks_findIn (M:=model prog w) X c.ga
  have L3:=looks_findIn (M:=model prog w) X c.gn
  have f3:=PySem.F.attr_ValueError.ga.bind (.ref x)
  have hx2:(Value.builtin "BaseException.__getattribute__" == Value.builtin "object.__getattribute__")=false:=by decide +kernel
  have hx1:(onTheHeap (Value.ref D) && Value.builtin "BaseException.__getattribute__" == Value.builtin "object.__getattribute__")=false:=by rw [hx2];rfl
  unfold getAttr? getAttrBy?
  repeat (any_goals (first | assumption | (with_reducible refine L0.at ?_) | (with_reducible refine L1.at ?_) | (with_reducible refine L3.at ?_) | wp_step))
  exact xcall (K:=K) (s:=⟨hh,g,d,t+1,os⟩) X I c (handed_on rfl (wpAny_pure h))
theorem kitx_exc (c:ClsX K D):KitX K (.ref x) (.ref D) (fun h=>XAt h x D) where
  ty:=fun _ _ _ I=>I.type
  it:=fun _ _ X _=>by
    have hcD:=c.is
    unfold clsIn at hcD
    split at hcD
    · rename_i c' d' cd' sl' ho
      intro A' Q' E' s' k q
      unfold isType loadHead
      exact wpAny_bind (wpAny_loadPart (k _ _ (X _ _ ho)) (wpAny_pure q))
    · cases hcD
  ne:=fun h tp dd its n sl X htp=>by
    have hcD:=c.is
    refine Bool.eq_false_iff.mpr fun q=>?_
    have e:D=tp:=Value.ref.inj (beq_iff_eq.mp q)
    subst e
    unfold clsIn at hcD
    split at hcD
    · rename_i c' d' cd' sl' ho
      have z:=(X _ _ ho).symm.trans htp
      cases z
    · cases hcD
  ca:=fun X I k=>xclass X I c k
end
end L2
namespace LP
open PySem PySem.Spec PyProof.Rows L2
structure XI (K:PySem.W.Frag) (L M:List Str):Prop where
  c:∀ n∈L,∃ D,ZdP K (xnm n)=some D∧ClsX K D∧PySem.W.kitOne K (.ref D) (.type "ValueError")=some true∧∀ m∈M,∃ C,ZdP K m=some C∧PySem.W.kitOne K (.ref D) (.ref C)=some (xnm n == m)
section
variable {X:Cx} {EX:XK} {pos p2:Pos} {a:Expr} {wa:WE} {L M:List Str}
def gIsX (L M:List Str):List D→(D→Prop)→Prop:=fun ds Q=>match ds with
  | [.exc n,.cls m]=>n∈L∧m∈M∧Q (.bl (xnm n == m))
  | [.exc n,.ty T]=>n∈L∧T = "ValueError" ∧Q (.bl true)
  | _=>False
theorem gIsX.mono:∀ ds P P',(∀ d,P d→P' d)→gIsX L M ds P→gIsX L M ds P':=fun ds P P' hp hg=>by
  unfold gIsX at hg ⊢
  split at hg
  · exact ⟨hg.1,hg.2.1,hp _ hg.2.2⟩
  · exact ⟨hg.1,hg.2.1,hp _ hg.2.2⟩
  · exact hg.elim
theorem c_isX (hx:XI X.K L M):CallP X (.builtin "isinstance") (gIsX L M):=by
  refine ⟨⟨fun vs H Q=>∃ W ds,WOk W H∧Reps X.K W vs ds∧gIsX L M ds (RQ X.K W H Q),?_,fun W H vs ds Q ok r hg=>⟨W,ds,ok,r,hg⟩⟩,gIsX.mono⟩
  rintro pins s σ H vs us Q I rv ⟨W,ds,ok,rs,hg⟩
  have fin:∀ {b:Bool},RQ X.K W H Q (.bl b)→∀ tk,EP X pins σ Q (.bool b) { s with toks:=tk }:=fun q tk=>⟨.bl _,H,I.tok tk,rfl,q.now ok (.bl _)⟩
  have look:∀ {x:V} {u:Value} {n:Str},n∈L→Rep X.K W x (.exc n)→RelV x u→∃ a D,u = .ref a∧ZdP X.K (xnm n)=some D∧XAt s.heap a D:=fun {x u n} hn r ru=>by
    cases r with
    | @exc a C n dx e0 e1 _=>
      cases ru
      obtain ⟨hx,_⟩:=(show ObjOk X.prog X.w H s.heap a (excHO C a dx) from I.hok a _ (ok.g _ _ e0))
      exact ⟨a,C,rfl,e1,let ⟨oe,z1,z2,z3,_⟩:=hx;⟨oe,z1,z2,z3⟩⟩
  unfold gIsX at hg
  split at hg
  · rename_i n m
    obtain ⟨h1,h2,q⟩:=hg
    obtain ⟨v,w',rfl,r1,r2⟩:=rs.two
    obtain ⟨u,u2,rfl,ru,ru2⟩:=vals2 rv
    obtain ⟨a,D,rfl,hD,hat⟩:=look h1 r1 ru
    obtain ⟨D',e1,cx,_,hm⟩:=hx.c n h1
    rw [hD] at e1
    cases e1
    obtain ⟨C,e2,hk⟩:=hm m h2
    cases r2 with
    | cls e3=>
      rw [e3] at e2
      cases e2
      cases ru2
      exact PySem.W.kia_one (kitx_exc cx) I.kIn hat hk (fun z=>nomatch z) (fin q)
  · rename_i n T
    obtain ⟨h1,rfl,q⟩:=hg
    obtain ⟨v,w',rfl,r1,r2⟩:=rs.two
    obtain ⟨u,u2,rfl,ru,ru2⟩:=vals2 rv
    obtain ⟨a,D,rfl,hD,hat⟩:=look h1 r1 ru
    obtain ⟨D',e1,cx,hk,_⟩:=hx.c n h1
    rw [hD] at e1
    cases e1
    cases r2
    obtain rfl:u2=Value.type "ValueError" :=ru2
    exact PySem.W.kia_one (kitx_exc cx) I.kIn hat hk (fun z=>nomatch z) (fin q)
  · exact hg.elim
theorem px_gcls {x:Str} {a:Addr} (hm:X.mg x=some (.ref a)) (hc:ZdP X.K x=some a) (hg:Gl X x:=by rfl) (hd:(x == ("__debug__" : Str))=false:=by decide):PX X EX (.Name x pos) (wC (.cls x)):=
  px_glob (v:=.ref a) hm rfl (fun W=>.cls hc) hg hd
end
structure MtP (X:Cx) (id:String) (g:D→List D→(D→Prop)→Prop):Prop where
  t:∃ r,MtR X id r∧∀ W H x vs dx ds Q,WOk W H→Rep X.K W x dx→Reps X.K W vs ds→g dx ds (RQ X.K W H Q)→r x vs H Q
  ty:∀ dx ds P,g dx ds P→∃ xs,dx = .lst xs
  mono:∀ x ds P P',(∀ d,P d→P' d)→g x ds P→g x ds P'
def wM (g:D→List D→(D→Prop)→Prop) (wo:WE) (t:WA):WE:=fun E ρ Q=>wo E ρ fun x=>(∃ xs,x = .lst xs)∧t E ρ fun ds=>g x ds Q
section
variable {X:Cx} {EX:XK} {o e:Expr} {es:List Expr} {wo:WE} {t:WA} {name:Str} {apos cpos:Pos} {id:String} {g:D→List D→(D→Prop)→Prop}
theorem px_lm (slot:Slot "list" name id) (hty:typeOf (.builtin id)=pure (.type "method_descriptor")) (hm:MtP X id g) (ho:PX X EX o wo) (ha:PXA X EX (e::es) t)
    (hbase:attributeBase o name X.env (eval o X.env)=eval o X.env:=by rfl)
    (hfew:((backTo cpos (starEach (e::es) X.env)).all (fun x=>!x.1) && (backToKw cpos (keywordEach [] X.env)).all (fun x=>x.1.isSome)
      && decide ((e::es).length+([]:List Keyword).length+(if ([]:List Keyword).isEmpty then 0 else 1) < 30))=true:=by rfl)
    (hline:(apos.endLine == cpos.line)=true:=by rfl) (hs:starEach (e::es) X.env=(false,eval e X.env)::starEach es X.env:=by rfl) (hplain:(backTo cpos (starEach es X.env)).any (·.1)=false:=by rfl) :
    PX X EX (.Call (.Attribute o name apos) (e::es) [] cpos) (wM g wo t):=by
  obtain ⟨to,po,ko⟩:=ho.t
  obtain ⟨ta,pa,ka⟩:=ha.t
  obtain ⟨r,pr,kr⟩:=hm.t
  refine ⟨⟨_,pe_bm PySem.F.plainAttrs_list slot hty pr po pa hbase hfew hline hs hplain,fun W0 H0 W σ H ρ E Q s eo h=>?_⟩,fun E ρ P P' hp z=>ho.mono _ _ _ _ (fun x ⟨h1,h2⟩=>⟨h1,ha.mono _ _ _ _ (fun ds hds=>hm.mono _ _ _ _ hp hds) h2⟩) z⟩
  refine ko W0 H0 W σ H ρ E _ s eo (ho.mono _ _ _ _ (fun d hd v W1 H1 x1 r1=>?_) h)
  obtain ⟨⟨xs,rfl⟩,h2⟩:=hd
  cases r1 with
  | @lst a vs ds e1 rr=>
    refine ⟨.inl ⟨rfl,vs,SqL.of (x1.ok.g _ _ e1)⟩,?_⟩
    refine ka W0 H0 W1 σ H1 ρ E _ (s.step x1) eo (ha.mono _ _ _ _ (fun ds hds us W2 H2 x2 r2=>?_) h2)
    exact kr W2 H2 _ us _ ds Q x2.ok (.lst (x2.g _ _ e1) (rr.mono x2.g x2.p)) r2 (hm.mono _ _ _ _ (fun d hd=>RQ.ext hd (x1.trans x2)) hds)
end
def bls (bs:List Bool):List D:=bs.map .bl
def gCntB:D→List D→(D→Prop)→Prop:=fun x ds Q=>∃ bs b,x = .lst (bls bs)∧ds=[.bl b]∧Q (.int (bs.countP (· == b):Nat))
def gIdxB:D→List D→(D→Prop)→Prop:=fun x ds Q=>∃ bs b j,x = .lst (bls bs)∧ds=[.bl b]∧bs[j]? = some b∧(∀ i < j,bs[i]?≠some b)∧Q (.int (j:Nat))
theorem bls_vals {K:PySem.W.Frag} {W:Wd}:∀ {bs:List Bool} {vs:List V} {its:List Value},Reps K W vs (bls bs)→Vals vs its→its=bs.map Value.bool
  | [],_,_,.nil,.nil=>rfl
  | b::bs,_,_,.cons r1 r2,.cons v1 v2=>by
    cases r1
    obtain rfl:_=Value.bool b:=v1
    rw [bls_vals r2 v2];rfl
theorem isBool_map (k:Bool):∀ (bs:List Bool),(bs.map Value.bool).countP (isBoolOf k)=bs.countP (· == k)
  | []=>rfl
  | b::bs=>by rw [List.map_cons,List.countP_cons,List.countP_cons,isBool_map k bs];rfl
section
variable {X:Cx}
theorem m_count:MtP X "list.count" gCntB:=by
  refine ⟨⟨fun x vs H Q=>∃ W dx ds,WOk W H∧Rep X.K W x dx∧Reps X.K W vs ds∧gCntB dx ds (RQ X.K W H Q),?_,fun W H x vs dx ds Q ok r rs hg=>⟨W,dx,ds,ok,r,rs,hg⟩⟩,fun dx ds P ⟨bs,b,h,_⟩=>⟨_,h⟩,fun x ds P P' hp ⟨bs,b,h1,h2,h3⟩=>⟨bs,b,h1,h2,hp _ h3⟩⟩
  rintro pins s σ H x vs v us Q I rx rv ⟨W,dx,ds,ok,r,rs,bs,b,rfl,rfl,q⟩
  obtain ⟨y,rfl,ry⟩:=rs.one
  cases ry
  obtain ⟨u,rfl,ru⟩:=vals1 rv
  obtain rfl:u=Value.bool b:=ru
  cases r with
  | @lst a xs ds e1 rr=>
    cases rx
    obtain ⟨its,rvs,pl,hz⟩:=I.list (SqL.of (ok.g _ _ e1))
    have hits:=bls_vals rr rvs
    subst hits
    obtain ⟨⟨cls,dd,data,sl⟩,ho,hc,n,hd⟩:=pl.isList
    simp only at hc hd
    subst hc hd
    refine call_meets PySem.F.slot_list_count ⟨_,ho,rfl⟩ PySem.F.entry_list_count (PySem.F.args_list_count_2 _ _) (SeqAt.list_countAt a _ n dd sl (.bool b) (isBoolOf b)) ⟨ho,fun y hy=>?_,?_⟩
    · have hy':y∈bs.map Value.bool:=by simpa using hy
      obtain ⟨c,_,rfl⟩:=List.mem_map.mp hy'
      exact PySem.SeqAt.EqAt.bool_bool c b
    · rw [show ((bs.map Value.bool).toArray.toList)=bs.map Value.bool from rfl,isBool_map]
      exact ⟨.int _,H,I.tok _,⟨_,rfl⟩,q.now ok (.int _)⟩
theorem m_index:MtP X "list.index" gIdxB:=by
  refine ⟨⟨fun x vs H Q=>∃ W dx ds,WOk W H∧Rep X.K W x dx∧Reps X.K W vs ds∧gIdxB dx ds (RQ X.K W H Q),?_,fun W H x vs dx ds Q ok r rs hg=>⟨W,dx,ds,ok,r,rs,hg⟩⟩,fun dx ds P ⟨bs,b,j,h,_⟩=>⟨_,h⟩,fun x ds P P' hp ⟨bs,b,j,h1,h2,h3,h4,h5⟩=>⟨bs,b,j,h1,h2,h3,h4,hp _ h5⟩⟩
  rintro pins s σ H x vs v us Q I rx rv ⟨W,dx,ds,ok,r,rs,bs,b,j,rfl,rfl,hj,hno,q⟩
  obtain ⟨y,rfl,ry⟩:=rs.one
  cases ry
  obtain ⟨u,rfl,ru⟩:=vals1 rv
  obtain rfl:u=Value.bool b:=ru
  cases r with
  | @lst a xs ds e1 rr=>
    cases rx
    obtain ⟨its,rvs,pl,hz⟩:=I.list (SqL.of (ok.g _ _ e1))
    have hits:=bls_vals rr rvs
    subst hits
    have hlen:xs.length=bs.length:=by rw [rr.length];unfold bls;rw [List.length_map]
    obtain ⟨⟨cls,dd,data,sl⟩,ho,hc,n,hd⟩:=pl.isList
    simp only at hc hd
    subst hc hd
    have hjl:j < bs.length:=(List.getElem?_eq_some_iff.mp hj).1
    have hsz:((bs.map Value.bool).toArray).size=bs.length:=by simp
    refine call_meets PySem.F.slot_list_index ⟨_,ho,rfl⟩ PySem.F.entry_list_index (PySem.F.args_list_index_2 _ _) (SeqAt.list_indexAt a _ n dd sl (.bool b) (isBoolOf b) j (by rw [hsz];exact hjl) ?_ ?_ ?_) ⟨ho,fun y hy=>?_,?_⟩
    · rw [sizeLine_eq] at hz
      have:bs.length≤2 ^ 62:=by first | (have:=hz;simp at this;omega) | omega
      have:=hjl
      omega
    · have:=(List.getElem?_eq_some_iff.mp hj).2
      simp only [List.getElem_toArray,List.getElem_map,isBoolOf]
      rw [this];simp
    · intro m hm hlt
      have hm':m < bs.length:=by rw [hsz] at hm;exact hm
      have:=hno m hlt
      rw [List.getElem?_eq_getElem hm'] at this
      simp only [List.getElem_toArray,List.getElem_map,isBoolOf]
      exact Bool.eq_false_iff.mpr fun z=>this (by rw [beq_iff_eq.mp z])
    · have hy':y∈bs.map Value.bool:=by simpa using hy
      obtain ⟨c,_,rfl⟩:=List.mem_map.mp hy'
      exact PySem.SeqAt.EqAt.bool_bool c b
    · exact ⟨.int _,H,I.tok _,⟨_,rfl⟩,q.now ok (.int _)⟩
end
end LP
namespace L2
open PySem PySem.Spec PyProof.Rows
theorem Zf8:fillsNumberSlot (.type "tuple") "mul" = pure false:=
  PySem.fillsNumberSlot_seq (id:= "tuple.__mul__") (r:=some (.builtin "tuple.__rmul__")) PySem.F.slot_tuple_mul.lookup (by decide +kernel) PySem.F.slot_tuple_rmul.lookup (by decide +kernel)
theorem repeat_tuple:seqRepeat? (.type "tuple")=pure (some (.builtin "tuple.__mul__")):=by
  unfold seqRepeat?
  rw [PySem.seqSlot_of (T:= "tuple") (name:= "__mul__") (id:= "tuple.__mul__") PySem.F.slot_tuple_mul.lookup (by decide +kernel),PySem.seqSlot_of (T:= "tuple") (name:= "__rmul__") (id:= "tuple.__rmul__") PySem.F.slot_tuple_rmul.lookup (by decide +kernel)]
  rfl
theorem rmul_int_tuple (a:Int) (t:Tok) (l:Addr) (items:Array Value) (n:Nat) (dd:Option Addr) (sl:Array (Option Value)) :
    Meets (Builtin.«int.__rmul__» ⟨[.int a t,.ref l],[]⟩) (fun _ R s=>s.heap.get? l=some { cls:=.type "tuple",dict:=dd,data:=.seq items n,slots:=sl }∧R (.ok (.ret Value.notImplemented)) s):=
  .of_wp fun prog w A R s h=>by obtain ⟨hp,g,d,tk,os⟩:=s;obtain ⟨hl,h⟩:=h;wp_walk;exact ⟨_,rfl,h⟩
theorem tuple_mul_same (l:Addr) (items:Array Value) (n:Nat) (dd:Option Addr) (sl:Array (Option Value)) (k:Int) (t:Tok) (h1:-(2 ^ 63)≤k) (h1':k < 2 ^ 63) (h2:(items.isEmpty || k == 1)=true) :
    Meets (Builtin.«tuple.__mul__» ⟨[.ref l,.int k t],[]⟩) (fun _ R s=>s.heap.get? l=some { cls:=.type "tuple",dict:=dd,data:=.seq items n,slots:=sl }∧R (.ok (.ret (Value.ref l))) s):=by
  intro prog w A R s h
  obtain ⟨hp,g,d,tk,os⟩:=s
  obtain ⟨hl,h⟩:=h
  have f1:=AutoSeq1.idx_int
  have c1:¬ (decide (k < -2 ^ 63) || decide (k ≥ 2 ^ 63))=true:=by simp;omega
  unfold Builtin.«tuple.__mul__»
  wp_walk using wpAny_loadPart' hl
  rw [if_neg c1]
  wp_walk using wpAny_loadPart' hl
  exact h
theorem tuple_mul_nil (l:Addr) (items:Array Value) (n:Nat) (dd:Option Addr) (sl:Array (Option Value)) (k:Int) (t:Tok) (h1:-(2 ^ 63)≤k) (h1':k < 2 ^ 63) (h2:¬ (items.isEmpty || k == 1)=true) (h3:k≤0) :
    Meets (Builtin.«tuple.__mul__» ⟨[.ref l,.int k t],[]⟩) (fun _ R s=>s.heap.get? l=some { cls:=.type "tuple",dict:=dd,data:=.seq items n,slots:=sl }∧R (.ok (.ret (Value.ref s.heap.objs.size))) { s with heap:=s.heap.push { cls:=Value.type "tuple",data:=Data.seq #[] } }):=by
  intro prog w A R s h
  obtain ⟨hp,g,d,tk,os⟩:=s
  obtain ⟨hl,h⟩:=h
  have f1:=AutoSeq1.idx_int
  have c1:¬ (decide (k < -2 ^ 63) || decide (k ≥ 2 ^ 63))=true:=by simp;omega
  have c2:(decide (k≤0) || items.isEmpty)=true:=by simp [h3]
  unfold Builtin.«tuple.__mul__»
  wp_walk using wpAny_loadPart' hl
  rw [if_neg c1]
  wp_walk using wpAny_loadPart' hl
  exact h
theorem tuple_mul_new (l:Addr) (items:Array Value) (n:Nat) (dd:Option Addr) (sl:Array (Option Value)) (k:Int) (t:Tok) (h1:-(2 ^ 63)≤k) (h1':k < 2 ^ 63) (h2:¬ (items.isEmpty || k == 1)=true) (h3:0 < k) (h4:items.size*k.toNat≤sizeLine) :
    Meets (Builtin.«tuple.__mul__» ⟨[.ref l,.int k t],[]⟩) (fun _ R s=>s.heap.get? l=some { cls:=.type "tuple",dict:=dd,data:=.seq items n,slots:=sl }∧R (.ok (.ret (Value.ref s.heap.objs.size))) { s with heap:=s.heap.push { cls:=Value.type "tuple",data:=Data.seq (List.foldl (fun x1 x2=>x1++x2) #[] (List.replicate k.toNat items)) } }):=by
  intro prog w A R s h
  obtain ⟨hp,g,d,tk,os⟩:=s
  obtain ⟨hl,h⟩:=h
  have f1:=AutoSeq1.idx_int
  have c1:¬ (decide (k < -2 ^ 63) || decide (k ≥ 2 ^ 63))=true:=by simp;omega
  have c2:¬ (decide (k≤0) || items.isEmpty)=true:=by
    have:items.isEmpty=false:=by cases q:items.isEmpty<;>simp_all
    simp [this];omega
  have hk:(items.size:Int)*k=((items.size*k.toNat:Nat):Int):=by rw [Int.natCast_mul,Int.toNat_of_nonneg (by omega)]
  have hsl:(sizeLine:Nat)=2 ^ 24:=rfl
  have c3:¬ ((items.size:Int)*k > (2 ^ 63 - 1) / 8):=by rw [hk];omega
  have c4:¬ Builtin.Tuple.tupleTooMany ((items.size:Int)*k)=true:=fun z=>by have z':=of_decide_eq_true z;rw [hk] at z';omega
  unfold Builtin.«tuple.__mul__»
  wp_walk using wpAny_loadPart' hl
  rw [if_neg c1]
  wp_walk using wpAny_loadPart' hl
  rw [if_neg c3]
  wp_walk using wpAny_loadPart' hl
  rw [if_neg c4]
  wp_walk using wpAny_loadPart' hl
  have hnew:List.foldl (fun x1 x2=>x1++x2) #[] (List.replicate k.toNat items)=(List.replicate k.toNat items.toList).flatten.toArray:=by
    have:=foldl_rep items.toList k.toNat []
    rw [List.nil_append] at this
    simpa using this
  have c5:¬ ((List.foldl (fun x1 x2=>x1++x2) #[] (List.replicate k.toNat items)).size > sizeLine):=by
    rw [hnew,List.size_toArray,len_rep,Array.length_toList,Nat.mul_comm]
    omega
  rw [if_neg c5]
  wp_walk using wpAny_loadPart' hl
  exact h
section
variable {X:Cx}
theorem Inv.tnew {pins:List (Addr×Obj)} {σ:St} {H:Hp} {s:Shared} {ys:List V} {its:List Value} {t':Nat} (I:Inv X pins σ H s) (hv:Vals ys its) (hz:ys.length≤sizeLine) :
    Inv X pins σ (upd H s.heap.objs.size (.tup ys)) { s with heap:=s.heap.push { cls:=.type "tuple",data:=.seq its.toArray },toks:=t' }:=
  I.laid (fun _ _ q=>Heap.get?_push_of_some _ q) (Nat.le_refl _) ⟨hz,its,hv,IsTup.new _ _⟩
def rRepT (K:PySem.W.Frag):R2:=fun x y H Q=>∃ l k xs,x = .ref l∧y = .int k∧SqT K H l xs∧-(2 ^ 63)≤k∧k < 2 ^ 63∧xs.length*k.toNat≤sizeLine∧
  ((xs=[]∨k=1)→Q (.ref l) H)∧∀ p,H p=none→Q (.ref p) (upd H p (.tup (List.replicate k.toNat xs).flatten))
theorem op_repT:OpR X (binaryOp .Mult) (rRepT X.K):=by
  intro pins s σ H x y v u Q I rx ry h
  obtain ⟨l,k,xs,rfl,rfl,hq,h1,h2,hz,q1,q2⟩:=h
  cases rx
  obtain ⟨t,rfl⟩:=ry
  obtain ⟨its,r,pl,_⟩:=I.tuple hq
  have hl:xs.length=its.length:=r.length
  obtain ⟨⟨cls,dd,data,sl⟩,ho,hc,n,hd⟩:=id pl
  simp only at hc hd
  subst hc hd
  refine wpAny_binaryOp_repeat_ref (T:= "tuple") (U:= "int") (by decide) ⟨_,ho,rfl⟩ (fun s'=>typeIs_int s' k t) Zf8 PySem.F.fills_int_mul PySem.F.slot_int_rmul repeat_tuple PySem.F.slot_int_index.lookup
    (call_meets PySem.F.slot_int_rmul (typeIs_int s k t) PySem.F.entry_int_rmul (PySem.F.args_int_rmul_2 _ _) (rmul_int_tuple k t l its.toArray n dd sl) ⟨ho,rfl,⟨_,ho,rfl⟩,?_⟩)
  by_cases hs:(its.toArray.isEmpty || k == 1)=true
  · refine call_meets PySem.F.slot_tuple_mul ⟨_,ho,rfl⟩ PySem.F.entry_tuple_mul (PySem.F.args_tuple_mul_2 _ _) (tuple_mul_same l its.toArray n dd sl k t h1 h2 hs) ⟨ho,⟨.ref l,H,I,rfl,q1 ?_⟩⟩
    rw [Bool.or_eq_true] at hs
    rcases hs with hs | hs
    · exact .inl (r.nil_iff.mp (by simpa using hs))
    · exact .inr (beq_iff_eq.mp hs)
  · by_cases h3:k≤0
    · refine call_meets PySem.F.slot_tuple_mul ⟨_,ho,rfl⟩ PySem.F.entry_tuple_mul (PySem.F.args_tuple_mul_2 _ _) (tuple_mul_nil l its.toArray n dd sl k t h1 h2 hs h3) ⟨ho,⟨.ref _,_,I.tnew (its:=[]) (ys:=(List.replicate k.toNat xs).flatten) (t':=s.toks) ?_ ?_,rfl,q2 _ I.fresh⟩⟩
      · rw [show k.toNat=0 by omega];exact .nil
      · rw [show k.toNat=0 by omega];exact Nat.zero_le _
    · have hnew:List.foldl (fun x1 x2=>x1++x2) #[] (List.replicate k.toNat its.toArray)=(List.replicate k.toNat its).flatten.toArray:=by
        have:=foldl_rep its k.toNat []
        rw [List.nil_append] at this
        exact this
      refine call_meets PySem.F.slot_tuple_mul ⟨_,ho,rfl⟩ PySem.F.entry_tuple_mul (PySem.F.args_tuple_mul_2 _ _) (tuple_mul_new l its.toArray n dd sl k t h1 h2 hs (by omega) (by rw [List.size_toArray,← hl];exact hz)) ⟨ho,?_⟩
      rw [hnew]
      exact ⟨.ref _,_,I.tnew (t':=s.toks) (r.rep k.toNat) (by rw [len_rep,Nat.mul_comm];exact hz),rfl,q2 _ I.fresh⟩
end
end L2
namespace LP
open PySem PySem.Spec PyProof.Rows L2
section
variable {X:Cx}
def ZcX:G2:=fun x y Q=>match x,y with
  | .tup xs,.int k=>k < 1000∧-1000 < k∧xs.length*k.toNat≤small∧Q (.tup (List.replicate k.toNat xs).flatten)
  | _,_=>False
theorem ZcX.mono:∀ x y P P',(∀ d,P d→P' d)→ZcX x y P→ZcX x y P':=fun x y P P' hp hg=>by
  unfold ZcX at hg ⊢
  split at hg
  · exact ⟨hg.1,hg.2.1,hg.2.2.1,hp _ hg.2.2.2⟩
  · exact hg.elim
theorem o_mulT:OpP X (binaryOp .Mult) ZcX:=by
  refine ⟨⟨_,op_repT,fun W H x y dx dy Q ok rx ry hg=>?_⟩,ZcX.mono⟩
  unfold ZcX at hg
  split at hg
  · obtain ⟨p,vs,rfl,h1,r1⟩:=rx.sqt ok
    cases ry
    rename_i xs k
    refine ⟨p,k,vs,rfl,rfl,h1,by omega,by omega,by rw [r1.length];exact ZaY hg.2.2.1,fun e=>?_,fun a ha=>hg.2.2.2.tup ok (reps_rep r1 _) ha⟩
    have e':(List.replicate k.toNat xs).flatten=xs:=by
      rcases e with e | e
      · subst e;cases r1;simp
      · subst e;simp
    have q:=hg.2.2.2
    rw [e'] at q
    exact q.now ok rx
  · exact hg.elim
end
end LP
namespace L2
open PySem PySem.Spec PyProof.Rows
theorem empty_dK {P:Program} {w:World} {H:Hp} (h:Heap) (hb:sysModules < h.objs.size):ObjOk P w H (h.push { cls:=.type "dict",data:=.dict #[] }) h.objs.size (.dK []):=
  ⟨Nat.zero_le _,beq_eq_false_iff_ne.mpr (Ne.symm (Nat.ne_of_lt hb)),[],.nil,Heap.DictOf.new h⟩
theorem pe_dic0 {X:Cx} {pos:Pos}:PE X (.Dict [] [] pos) (fun _ H Q=>∀ p,H p=none→Q (.ref p) (upd H p (.dK []))):=fun pins s σ H Q I h=>
  wpAny_Dict_empty ⟨.ref s.heap.objs.size,_,I.laid (a:=s.heap.objs.size) (o:=.dK []) (t':=s.toks) (fun _ _ q=>Heap.get?_push_of_some _ q) (Nat.le_refl _) (empty_dK s.heap (Nat.lt_trans (by decide) (I.mod.glob.keeps I.bk).lt)),rfl,h _ (I.hok.fresh (Nat.le_refl _))⟩
end L2
namespace LP
open PySem PySem.Spec PyProof.Rows L2
section
variable {X:Cx} {EX:XK} {pos:Pos}
theorem px_dic0:PX X EX (.Dict [] [] pos) (wC .dic):=by
  refine ⟨⟨_,pe_dic0,fun W0 H0 W σ H ρ E Q s eo h p hp=>?_⟩,fun E ρ P P' hp h=>hp _ h⟩
  exact h (.ref p) (W.put p (.dK [])) _ (Ext.put s.ok hp) (.dic (by unfold Wd.put;dsimp only;rw [upd_same]))
def its (js:List Int):List D:=js.map .int
def gIn (neg:Bool):G2:=fun x y Q=>∃ i js,x = .int i∧(y = .lst (its js)∨y = .tup (its js))∧Q (.bl (if neg then !js.contains i else js.contains i))
theorem gIn.mono {neg:Bool}:∀ x y P P',(∀ d,P d→P' d)→gIn neg x y P→gIn neg x y P':=fun x y P P' hp ⟨i,js,h1,h2,h3⟩=>⟨i,js,h1,h2,hp _ h3⟩
theorem its_vs {K:PySem.W.Frag} {W:Wd}:∀ {js:List Int} {vs:List V},Reps K W vs (its js)→vs=js.map V.int
  | [],_,.nil=>rfl
  | j::js,_,.cons r t=>by cases r;rw [its_vs t];rfl
theorem in_ints (i:Int):∀ js:List Int,inV (.int i) (js.map V.int)=js.contains i
  | []=>rfl
  | j::js=>by
    have ih:=in_ints i js
    unfold inV at ih ⊢
    rw [List.map_cons,List.any_cons,ih,List.contains_cons]
    congr 1
    show (j == i)=(i == j)
    rw [Bool.eq_iff_iff,beq_iff_eq,beq_iff_eq]
    exact ⟨Eq.symm,Eq.symm⟩
theorem ZgW:∀ js:List Int,(js.map V.int).all flatV=true
  | []=>rfl
  | j::js=>by rw [List.map_cons,List.all_cons,ZgW js];rfl
theorem gIn_r {neg:Bool} {W:Wd} {H:Hp} {x y:V} {dx dy:D} {Q:VK} (ok:WOk W H) (rx:Rep X.K W x dx) (ry:Rep X.K W y dy) (hg:gIn neg dx dy (RQ X.K W H Q)):rIn X.K neg x y H Q:=by
  obtain ⟨i,js,rfl,h,q⟩:=hg
  cases rx
  rcases h with rfl | rfl
  · obtain ⟨p,vs,rfl,h1,r1⟩:=ry.sql ok
    obtain rfl:=its_vs r1
    exact ⟨p,_,rfl,.inl h1,rfl,ZgW js,by rw [in_ints];exact q.now ok (.bl _)⟩
  · obtain ⟨p,vs,rfl,h1,r1⟩:=ry.sqt ok
    obtain rfl:=its_vs r1
    exact ⟨p,_,rfl,.inr h1,rfl,ZgW js,by rw [in_ints];exact q.now ok (.bl _)⟩
theorem o_in:OpP X (compareOp .In) (gIn false):=⟨⟨_,op_in_seq,fun W H x y dx dy Q ok rx ry hg=>gIn_r ok rx ry hg⟩,gIn.mono⟩
def gRepr:List D→(D→Prop)→Prop:=fun ds Q=>∃ x p,ds=[x]∧toP x=some p∧p.showable=true∧p.hasDict=false∧p.depth≤32∧p.shown.length≤sizeLine∧Q (.str p.shown)
theorem gRepr.mono:∀ ds P P',(∀ d,P d→P' d)→gRepr ds P→gRepr ds P':=fun ds P P' hp ⟨x,p,h1,h2,h3,h4,h5,h6,h7⟩=>⟨x,p,h1,h2,h3,h4,h5,h6,hp _ h7⟩
end
abbrev N_is_whole:List Str:=["thing"]
abbrev ps_is_whole:List Str:=["thing"]
def Ze5:WS:=(zRet (Zbh (wB gIs (Zab (wN 0) (Zab (wC (.ty "int")) aNil))) (ZdA (wB gIs (Zab (wN 0) (Zab (wC (.ty "bool")) aNil))))))
abbrev Zg1:List Str:=["thing", "least", "most"]
abbrev ps_is_within:List Str:=["thing", "least", "most"]
def Zel:WS:=(zRet (Zbh (wF ZbW (Zab (wN 0) aNil)) (Za0 gLeI gLeI (wN 1) (wN 0) (wN 2))))
abbrev ZfG:List Str:=["thing", "least", "most"]
abbrev ps_are_within:List Str:=["thing", "least", "most"]
def ZdD:WS:=(zRet (Zbh (wB gIs (Zab (wN 0) (Zab (wC (.ty "tuple")) aNil))) (wB gAll (Zab (wL (aLC (iS (wN 0)) 1 [1,2] (gN 0) ZaF (wF ZeD (Zab (wN 0) (Zab (wN 1) (Zab (wN 2) aNil)))))) aNil))))
abbrev Zdw:List Str:=["one", "other"]
abbrev Zfc:List Str:=["one", "other"]
def Zca:WS:=(zSeq (zNox (zWhile (wT (w2 (gEq true) (wN 1) (wC (D.int (0))))) (zPar 0 1 (Zab (wN 1) (Zab (w2 gModI (wN 0) (wN 1)) aNil))))) (zRet (wB gAbs (Zab (wN 0) aNil))))
abbrev N_is_share:List Str:=["thing", "top", "bottom"]
abbrev ps_is_share:List Str:=["thing"]
def Ze6:WS:=(zSeq (zIf (wOr (wNot (wT (wB gIs (Zab (wN 0) (Zab (wC (.ty "tuple")) aNil))))) (wT (w2 (gEq true) (wB gLen (Zab (wN 0) aNil)) (wC (D.int (2)))))) (zRet (wC (D.bl false))) zNx) (zSeq (zAsg (wN 0) (gTp 2 (Zat (gN 1) (Zat (gN 2) Za9)))) (zSeq (zIf (wOr (wNot (wT (wF ZbW (Zab (wN 1) aNil)))) (wNot (wT (wF ZbW (Zab (wN 2) aNil))))) (zRet (wC (D.bl false))) zNx) (zRet (Zbh (w2 gGtI (wN 2) (wC (D.int (0)))) (w2 (gEq false) (wF ZaW (Zab (wN 1) (Zab (wN 2) aNil))) (wC (D.int (1)))))))))
abbrev ZdU:List Str:=["thing", "least", "most"]
abbrev ZfW:List Str:=["thing", "least", "most"]
def Zcq:WS:=(zSeq (zIf (wOr (wNot (wT (wB gIs (Zab (wN 0) (Zab (wC (.ty "tuple")) aNil))))) (wNot (wT (Za0 gLeI gLeI (wN 1) (wB gLen (Zab (wN 0) aNil)) (wN 2))))) (zRet (wC (D.bl false))) zNx) (zRet (wB gAll (Zab (wL (aLC (iS (wN 0)) 1 [] (gN 0) ZaF (wF Zcn (Zab (wN 0) aNil)))) aNil))))
abbrev N_is_row:List Str:=["thing", "many"]
abbrev ps_is_row:List Str:=["thing", "many"]
def z_is_row:WS:=(zRet (wF Zbl (Zab (wN 0) (Zab (wN 1) (Zab (wN 1) aNil)))))
abbrev N_share_by:List Str:=["top", "bottom", "divisor"]
abbrev ps_share_by:List Str:=["top", "bottom"]
def Ze4:WS:=(zSeq (Za3 (wT (w2 (gEq true) (wN 1) (wC (D.int (0)))))) (zSeq (zSet 2 (wF ZaW (Zab (wN 0) (Zab (wN 1) aNil)))) (zSeq (zIf (wT (w2 gLtI (wN 1) (wC (D.int (0))))) (zSet 2 (w1 gNeg (wN 2))) zNx) (zRet (wTup (Zab (w2 gFdv (wN 0) (wN 2)) (Zab (w2 gFdv (wN 1) (wN 2)) aNil)))))))
abbrev N_times:List Str:=["one", "other"]
abbrev ps_times:List Str:=["one", "other"]
def z_times:WS:=(zRet (wF Zdh (Zab (w2 gMul (w2 gIx (wN 0) (wC (D.int (0)))) (w2 gIx (wN 1) (wC (D.int (0))))) (Zab (w2 gMul (w2 gIx (wN 0) (wC (D.int (1)))) (w2 gIx (wN 1) (wC (D.int (1))))) aNil))))
abbrev N_row_of:List Str:=["numbers"]
abbrev ps_row_of:List Str:=["numbers"]
def z_row_of:WS:=(zRet (wB ZcD (Zab (wL (aLC (iS (wN 0)) 1 [] (gN 0) ZaF (wTup (Zab (wN 0) (Zab (wC (D.int (1))) aNil))))) aNil)))
abbrev N_size_of:List Str:=["slants"]
abbrev ps_size_of:List Str:=["slants"]
def Zgf:WS:=(zRet (w2 gFdv (w2 gAdd (wB gLen (Zab (wN 0) aNil)) (wC (D.int (1)))) (wC (D.int (2)))))
abbrev Ze0:List Str:=["thing"]
abbrev ps_slants_good:List Str:=["thing"]
def Zdj:WS:=(zSeq (zIf (wOr (wNot (wT (wF ZcM (Zab (wN 0) (Zab (wC (.int (-50))) (Zab (wC (.int (50))) aNil)))))) (wT (w2 (gEq false) (w2 gModI (wB gLen (Zab (wN 0) aNil)) (wC (D.int (2)))) (wC (D.int (0)))))) (zRet (wC (D.bl false))) zNx) (zRet (w2 gLeI (wF ZcF (Zab (wN 0) aNil)) (wC (.int (5))))))
abbrev Ze1:List Str:=["thing"]
abbrev ps_need_slants:List Str:=["thing"]
def Zdk:WS:=(zIf (wNot (wT (wF Zck (Zab (wN 0) aNil)))) (Zbr (PySem.Str.ofString "NoSlants")) zNx)
abbrev N_table_of:List Str:=["slants", "size"]
abbrev ps_table_of:List Str:=["slants"]
def Ze3:WS:=(zSeq (Zdm (wF ZaU (Zab (wN 0) aNil))) (zSeq (zSet 1 (wF ZcF (Zab (wN 0) aNil))) (zRet (wL (aLC (iR1 (Zab (wN 1) aNil)) 1 [0,1] (gN 0) ZaF (wL (aB (gSeq (α:=Unit)) (Zab (wCut (wN 1) (ZaZ (w2 ZcW (w2 ZcW (wN 2) (wC (D.int (1)))) (wN 0))) (ZaZ (w2 ZcW (w2 ZcW (w2 gMul (wC (D.int (2))) (wN 2)) (wC (D.int (1)))) (wN 0)))) aNil))))))))
abbrev ZdT:List Str:=["slants"]
abbrev ZfV:List Str:=["slants"]
def Zcp:WS:=(zSeq (Zdm (wF ZaU (Zab (wN 0) aNil))) (zRet (w1 gRev (wN 0))))
abbrev ZfE:List Str:=["slants"]
abbrev ps_share_rows:List Str:=["slants"]
def ZdB:WS:=(zRet (wL (aLC (iS (wF Zd5 (Zab (wN 0) aNil))) 1 [] (gN 0) ZaF (wF Zge (Zab (wN 0) aNil)))))
local macro_rules | `(tactic| walk_at "wp")=>`(tactic| simp only [zRet,zSeq,zIf,zSet,zNx,Zdm,zPub,zOwn,zFor,Za3,zPar,zAsg,zApp,Zb5,zInk,Zcw,zNox,Zbr,Zbh,wOrV,ZdA,wAnd,wOr,wNot,wT,wIf,w1,w2,wB,wF,wL,wTup,wCut,Za0,aB,aLst,Zab,aNil,aLC,Zbq,ZaF,iS,iL,iT,iR1,iR2,iZ,i1,i2,isS,isL,isT,isB,isI,Za8,ZaZ,wN,wC,gN,gTp,Zat,Za9,gI2,gAdd,gMul,gIx,gIxP,gCut,gRev,gLen,gSeq,ZcD,gAbs,gMax,gInt,ZaA,wPen,wBor,tBor,aBor,wIxO,aAdd,aMul,aCut,rho,pub,List.map_cons,List.map_nil,List.length_cons,List.length_nil,List.cons_append,List.nil_append,List.replicate,List.getElem?_cons_zero,List.getElem?_cons_succ,List.set_cons_zero,List.set_cons_succ,Nat.reduceSub,Nat.reduceAdd,List.replicate_succ,List.replicate_zero,true_and,Bool.false_eq_true,if_true,if_false,ite_true,ite_false])
local macro_rules | `(tactic| walk_at "go")=>`(tactic| ((try dsimp only at *);(try walk_at "wp");(try dsimp only)))
theorem Zdt {x:D} {T:String} {Q:D→Prop} (h:kd x=true) (hT:T∈tys) (q:∀ t,tyD x=some t→Q (.bl (isTy t T))):gIs [x,.ty T] Q:=by
  obtain ⟨t,ht⟩:=kd_ty h
  exact ⟨t,ht,hT,q t ht⟩
theorem Zgs:∀ ds E Q,ZbW ds E Q→Ze5 E { nx:=fun _=>Q .non,rt:=Q } (rho N_is_whole ds):=by
  rintro _ E Q ⟨x,rfl,hk,q⟩
  unfold Ze5
  walk_at "wp"
  refine Zdt hk (by decide) fun t ht=>?_
  cases x<;>cases ht<;>first
    | exact q
    | exact Zdt hk (by decide) fun t ht=>by cases ht;exact q
theorem rd_is_within:∀ ds E Q,ZeD ds E Q→Zel E { nx:=fun _=>Q .non,rt:=Q } (rho Zg1 ds):=by
  rintro _ E Q ⟨⟨x,l,m⟩,rfl,hk,q⟩
  unfold Zel
  walk_at "go"
  refine ⟨x,rfl,hk,?_⟩
  cases x<;>try exact q
  rename_i i
  simp only [isW,isB,if_true,gI2,true_and]
  by_cases h:l≤i
  · simp only [h,decide_true,if_true]
    simpa [inR,h] using q
  · simp only [h,decide_false,if_false,Bool.false_eq_true]
    simpa [inR,h] using q
theorem rd_are_within:∀ ds E Q,ZcM ds E Q→ZdD E { nx:=fun _=>Q .non,rt:=Q } (rho ZfG ds):=by
  rintro _ E Q ⟨⟨x,l,m⟩,rfl,hk,q⟩
  unfold ZdD
  walk_at "go"
  refine Zdt hk (by decide) fun t ht=>?_
  cases x<;>cases ht<;>try exact q
  rename_i xs
  obtain ⟨hl,hx⟩:=ZfD hk
  show lcW _ _ _ xs _ _ _
  refine ZgU (f:=fun d=>.bl (inR l m d)) (fun d hd Q hq=>?_) .un [] (by simp [small];omega) ?_
  · walk_at "go"
    exact ⟨(d,l,m),rfl,hx d hd,hq⟩
  · refine ⟨xs.map (inR l m),by simp,?_⟩
    simpa [List.all_map,Function.comp_def,areW] using q
theorem gcd_fmod (a b:Int):Int.gcd b (a.fmod b)=Int.gcd a b:=by
  have e:a.fmod b=a - b*a.fdiv b:=by have:=Int.mul_fdiv_add_fmod a b;omega
  rw [e,Int.gcd_sub_mul_left_right,Int.gcd_comm]
theorem ZgV (a:Int) {b:Int} (h:b≠0):(a.fmod b).natAbs < b.natAbs:=by
  have key:∀ a b:Int,0 < b→0≤a.fmod b∧a.fmod b < b:=fun a b z=>by
    rw [Int.fmod_eq_emod_of_nonneg _ (Int.le_of_lt z)]
    exact ⟨Int.emod_nonneg _ (by omega),Int.emod_lt_of_pos _ z⟩
  rcases Int.lt_or_lt_of_ne h with z | z
  · have h1:=key (-a) (-b) (by omega)
    rw [Int.neg_fmod_neg] at h1
    omega
  · have h1:=key a b z
    omega
theorem Ze9:∀ ds E Q,ZaW ds E Q→Zca E { nx:=fun _=>Q .non,rt:=Q } (rho Zdw ds):=by
  rintro _ E Q ⟨⟨a,b⟩,rfl,_,q⟩
  unfold Zca
  walk_at "go"
  refine ⟨fun m ρ=>∃ x y:Int,m=y.natAbs∧ρ=[.d (.int x),.d (.int y)]∧Int.gcd x y=Int.gcd a b,⟨_,a,b,rfl,rfl,rfl⟩,?_⟩
  rintro m _ ⟨x,y,rfl,rfl,hg⟩
  walk_at "go"
  by_cases hy:y=0
  · subst hy
    simp only [beq_self_eq_true,Bool.not_true,Bool.false_eq_true,if_false]
    rw [Int.gcd_zero_right] at hg
    rw [← hg] at q
    have:(if x < 0 then -x else x)=((x.natAbs:Nat):Int):=by split<;>omega
    rw [this]
    exact q
  · rw [if_pos (by simpa using hy)]
    exact ⟨hy,_,ZgV x hy,_,_,rfl,rfl,by rw [gcd_fmod];exact hg⟩
theorem isSh_len {xs:List D} (h:xs.length≠2):isSh (.tup xs)=false:=by
  unfold isSh
  split
  · rename_i e
    cases e
    exact absurd rfl h
  · rfl
theorem isSh_a {a b:D} (h:isW a=false):isSh (.tup [a,b])=false:=by
  unfold isSh
  split
  · rename_i e
    cases e
    cases h
  · rfl
theorem isSh_b {a b:D} (h:isW b=false):isSh (.tup [a,b])=false:=by
  unfold isSh
  split
  · rename_i e
    cases e
    cases h
  · rfl
theorem isW_get {a:D} (h:isW a=true):∃ i,a = .int i:=by
  cases a<;>first
    | exact ⟨_,rfl⟩
    | cases h
theorem rd_is_share:∀ ds E Q,Zcn ds E Q→Ze6 E { nx:=fun _=>Q .non,rt:=Q } (rho N_is_share ds):=by
  rintro _ E Q ⟨x,rfl,hk,q⟩
  unfold Ze6
  walk_at "go"
  refine Zdt hk (by decide) fun t ht=>?_
  cases x<;>cases ht<;>try exact q
  rename_i xs
  obtain ⟨hl,hx⟩:=ZfD hk
  walk_at "go"
  simp only [show isTy "tuple" "tuple" = true from rfl,Bool.not_true,Bool.false_eq_true,if_false]
  by_cases h2:xs.length=2
  · match xs,h2,hx,q with
    | [a,b],_,hx,q=>
    rw [if_neg (by simp)]
    walk_at "go"
    refine ⟨a,rfl,hx a (by simp),?_⟩
    walk_at "go"
    cases ha:isW a with
    | false=>rw [isSh_a ha] at q;exact q
    | true=>
      obtain ⟨i,rfl⟩:=isW_get ha
      simp only [Bool.not_true,Bool.false_eq_true,if_false]
      refine ⟨b,rfl,hx b (by simp),?_⟩
      walk_at "go"
      cases hb:isW b with
      | false=>rw [isSh_b hb] at q;exact q
      | true=>
        obtain ⟨j,rfl⟩:=isW_get hb
        simp only [Bool.not_true,Bool.false_eq_true,if_false]
        walk_at "go"
        by_cases h:0 < j
        · simp only [show j > 0 from h,decide_true,if_true]
          refine ⟨(i,j),rfl,trivial,?_⟩
          walk_at "go"
          have:isSh (.tup [.int i,.int j])=(((Int.gcd i j:Nat):Int) == 1):=by
            simp only [isSh,h,decide_true,Bool.true_and]
            rw [Bool.eq_iff_iff];simp;omega
          rw [this] at q
          simpa using q
        · have h':¬ j > 0:=h
          simp only [h',decide_false,if_false,Bool.false_eq_true]
          simpa [isSh,h] using q
  · rw [isSh_len h2] at q
    rw [if_pos (by simpa using fun z=>h2 (by exact_mod_cast z))]
    exact q
theorem ZfP:∀ ds E Q,Zbl ds E Q→Zcq E { nx:=fun _=>Q .non,rt:=Q } (rho ZdU ds):=by
  rintro _ E Q ⟨⟨x,l,m⟩,rfl,hk,q⟩
  unfold Zcq
  walk_at "go"
  refine Zdt hk (by decide) fun t ht=>?_
  cases x<;>cases ht<;>try exact q
  rename_i xs
  obtain ⟨hl,hx⟩:=ZfD hk
  walk_at "go"
  simp only [show isTy "tuple" "tuple" = true from rfl,Bool.not_true,Bool.false_eq_true,if_false]
  simp only [isRowW] at q
  cases h1:decide (l≤(xs.length:Int)) with
  | false=>rw [h1] at q;simpa using q
  | true=>
    cases h2:decide ((xs.length:Int)≤m) with
    | false=>rw [h1,h2] at q;simpa using q
    | true=>
      simp only [if_true,Bool.not_true,Bool.false_eq_true,if_false]
      walk_at "go"
      refine ZgU (f:=fun d=>.bl (isSh d)) (fun d hd Q hq=>?_) .un [] (by simp [small];omega) ?_
      · walk_at "go"
        exact ⟨d,rfl,hx d hd,hq⟩
      · refine ⟨xs.map isSh,by simp,?_⟩
        rw [h1,h2] at q
        simpa [List.all_map,Function.comp_def] using q
theorem isRowW_self (n:Int) (x:D):isRowW n n x=ZeT n x:=by
  cases x<;>try rfl
  rename_i xs
  simp only [isRowW,ZeT]
  congr 1
  rw [Bool.eq_iff_iff]
  simp
  omega
theorem rd_is_row:∀ ds E Q,ZeZ ds E Q→z_is_row E { nx:=fun _=>Q .non,rt:=Q } (rho N_is_row ds):=by
  rintro _ E Q ⟨⟨x,n⟩,rfl,hk,q⟩
  unfold z_is_row
  walk_at "go"
  refine Zgk hk ?_
  rw [isRowW_self]
  exact q
theorem Bd.le {i j:Int} (h:i.natAbs≤j.natAbs) (b:Bd j):Bd i:=Nat.lt_of_le_of_lt h b
theorem rd_share_by:∀ ds E Q,Zdh ds E Q→Ze4 E { nx:=fun _=>Q .non,rt:=Q } (rho N_share_by ds):=by
  rintro _ E Q ⟨⟨t,b⟩,rfl,⟨hb,hd⟩,q⟩
  unfold Ze4
  walk_at "go"
  refine ⟨by simpa using hb,(t,b),rfl,trivial,?_⟩
  walk_at "go"
  have hg:0 < Int.gcd t b:=Int.gcd_pos_of_ne_zero_right _ hb
  have hle:Int.gcd t b≤b.natAbs:=Nat.le_of_dvd (by omega) (Int.gcd_dvd_natAbs_right ..)
  obtain ⟨e1,e2⟩:=norm_eq (t:=t) hb
  unfold shq at q
  rw [← e1,← e2] at q
  by_cases h:b < 0
  · simp only [h,decide_true,if_true] at q ⊢
    refine ⟨⟨by omega,Bd.le (by omega) hd⟩,⟨by omega,Bd.le (by omega) hd⟩,by simp [small],q⟩
  · simp only [h,decide_false,if_false,Bool.false_eq_true] at q ⊢
    refine ⟨⟨by omega,Bd.le (by omega) hd⟩,⟨by omega,Bd.le (by omega) hd⟩,by simp [small],q⟩
theorem ix0 {q:Rat} {Q:D→Prop} (h:Q (.int q.num)):gIx (shq q) (.int 0) Q:=⟨_,rfl,h⟩
theorem ix1 {q:Rat} {Q:D→Prop} (h:Q (.int q.den)):gIx (shq q) (.int 1) Q:=⟨_,rfl,h⟩
theorem rd_times:∀ ds E Q,Zfv ds E Q→z_times E { nx:=fun _=>Q .non,rt:=Q } (rho N_times ds):=by
  rintro _ E Q ⟨⟨p,q⟩,rfl,hb,h⟩
  obtain ⟨b1,b2,b3,b4,b5,b6,b7,b8⟩:=hb.mul
  unfold z_times
  simp only [zRet,wF,Zab,w2,wN,wC,rho,List.map_cons,List.cons_append,List.getElem?_cons_zero,List.getElem?_cons_succ]
  refine ix0 (ix0 ⟨b4,ix1 (ix1 ⟨b3,?_⟩)⟩)
  refine ⟨(_,_),rfl,⟨b6,b5⟩,?_⟩
  dsimp only at h ⊢
  have e:Rat.divInt (p.num*q.num) ((p.den:Int)*q.den)=p*q:=by
    rw [Rat.mul_def',← Rat.divInt_ofNat]
    rfl
  rw [e]
  exact h
theorem isS_seq {b:Bool} {xs:List D} {Q:List D→Prop} (h:Q xs):isS Q (seqD b xs):=by cases b<;>exact h
theorem ZdH (i:Int):shq (i:Rat) = .tup [.int i,.int 1]:=by unfold shq;rw [Rat.num_intCast,Rat.den_intCast];rfl
theorem rd_row_of:∀ ds E Q,Zge ds E Q→z_row_of E { nx:=fun _=>Q .non,rt:=Q } (rho N_row_of ds):=by
  rintro _ E Q ⟨⟨b,xs⟩,rfl,hl,q⟩
  dsimp only at hl q
  unfold z_row_of
  simp only [zRet,wB,Zab,aNil,wL,aLC,iS,wN,rho,Zbq,List.replicate,List.map_cons,List.map_nil,List.cons_append,List.nil_append,List.getElem?_cons_zero]
  refine isS_seq (ZgU (f:=fun d=>.tup [d,.int 1]) (fun d hd Q hq=>?_) .un [] (by simp [small];omega) ?_)
  · walk_at "go"
    exact ⟨by simp [small],hq⟩
  · have e:(xs.map D.int).map (fun d=>D.tup [d,.int 1])=(xs.map fun (i:Int)=>(i:Rat)).map shq:=by
      rw [List.map_map,List.map_map]
      exact List.map_congr_left fun i _=>(ZdH i).symm
    rw [List.nil_append,e]
    exact q
theorem ZgT {α:Type} {we:WE} {tail:Rho} {Q:List D→Prop} {g f:α→D}:∀ (L:List α),(∀ a∈L,∀ Q:D→Prop,Q (f a)→we No (.d (g a)::tail) Q)→∀ (sv:SV) (acc:List D),acc.length+L.length≤small→Q (acc++L.map f)→lcW (gN 0) ZaF we (L.map g) (sv::tail) acc Q
  | [],_,sv,acc,_,hq=>by simpa [lcW] using hq
  | a::L,h,sv,acc,hl,hq=>by
    rw [List.map_cons,lcW]
    show we No (SV.d (g a)::tail) _
    rw [List.length_cons] at hl
    refine h a (List.mem_cons_self ..) _ ⟨by omega,ZgT L (fun d hd=>h d (List.mem_cons_of_mem _ hd)) _ _ ?_ ?_⟩
    · rw [List.length_append,List.length_singleton];omega
    · rw [List.append_assoc];exact hq
theorem atN {α:Type} {xs:List α} {i:Int} {k:Nat} {x:α} (hi:i=k) (h:xs[k]? = some x):atI xs i=some x:=by rw [hi];exact atI_nat h
theorem cut_nat {α:Type} {xs:List α} {a b:Nat} (h:a≤b) (hb:b≤xs.length):cutD xs (some (a:Int)) (some (b:Int))=(xs.drop a).take (b - a):=by
  unfold cutD
  rw [HT.sIx_nat,HT.sIx_nat,Nat.min_eq_left hb,Nat.min_eq_left (Nat.le_trans h hb)]
theorem cut_i {α:Type} {xs:List α} {i j:Int} {a b:Nat} (hi:i=a) (hj:j=b) (h:a≤b) (hb:b≤xs.length):cutD xs (some i) (some j)=(xs.drop a).take (b - a):=by
  rw [hi,hj];exact cut_nat h hb
theorem Zed {α:Type} {xs:List α} {i:Int} {b:Nat} (hi:i=b):cutD xs none (some i)=xs.take b:=by
  unfold cutD
  rw [hi,HT.sIx_nat,HT.sIx_none,List.drop_zero,Nat.sub_zero]
  rcases Nat.le_total b xs.length with h | h
  · rw [Nat.min_eq_left h]
  · rw [Nat.min_eq_right h,List.take_length,List.take_of_length_le h]
theorem ZcE {i:Int} {n:Nat} (h:i.natAbs < 2 ^ n) (l:n≤8990):Bd i:=Nat.lt_of_lt_of_le h (Nat.pow_le_pow_right (by decide) l)
theorem rd_size_of:∀ ds E Q,ZcF ds E Q→Zgf E { nx:=fun _=>Q .non,rt:=Q } (rho N_size_of ds):=by
  rintro _ E Q ⟨x,rfl,hl,q⟩
  unfold Zgf
  walk_at "go"
  refine ⟨⟨by decide,ZcE (n:=2) (by decide) (by omega)⟩,?_⟩
  rw [Int.fdiv_eq_ediv_of_nonneg _ (by decide)]
  exact q
theorem rd_slants_good:∀ ds E Q,Zck ds E Q→Zdj E { nx:=fun _=>Q .non,rt:=Q } (rho Ze0 ds):=by
  rintro _ E Q ⟨x,rfl,hk,q⟩
  unfold Zdj
  walk_at "go"
  refine u_are_within hk ?_
  walk_at "go"
  cases ha:areW (-50) 50 x with
  | false=>
    have:slG x=false:=by
      cases x<;>try rfl
      simp only [areW] at ha
      simp only [slG,ha,Bool.false_and]
    rw [this] at q
    simpa using q
  | true=>
    cases x<;>try (cases ha;done)
    rename_i xs
    obtain ⟨hl,hx⟩:=ZfD hk
    walk_at "go"
    simp only [Bool.not_true,Bool.false_eq_true,if_false]
    refine ⟨by decide,?_⟩
    simp only [areW] at ha
    simp only [slG,ha,Bool.true_and] at q
    rw [Int.fmod_eq_emod_of_nonneg _ (by decide)]
    by_cases h:xs.length % 2=1
    · rw [if_neg (by simp;omega)]
      walk_at "go"
      refine Zgj hl ?_
      walk_at "go"
      rw [decide_eq_true h,Bool.true_and] at q
      have e:decide (((xs.length:Int)+1) / 2≤5)=decide (xs.length≤9):=by
        rw [decide_eq_decide];omega
      rw [e];exact q
    · rw [if_pos (by simp;omega)]
      rw [decide_eq_false h,Bool.false_and] at q
      exact q
theorem rd_need_slants:∀ ds E Q,ZaU ds E Q→Zdk E { nx:=fun _=>Q .non,rt:=Q } (rho Ze1 ds):=by
  rintro _ E Q ⟨x,rfl,h,q⟩
  unfold Zdk
  walk_at "go"
  refine u_slants_good h ?_
  walk_at "go"
  unfold okS at q
  cases e:slG x with
  | false=>rw [e] at q;exact q
  | true=>rw [e] at q;exact q
theorem need_first {x:D} {E:Ex→Prop} {Q:D→Prop} (h:kd x=true) (hb:slG x=false→E "NoSlants") (hg:∀ s n,x=Zax s→IsSl s n→Q .non):ZaU [x] E Q:=by
  cases e:slG x with
  | false=>exact x_need_slants h e (hb e)
  | true=>
    obtain ⟨s,n,rfl,hs⟩:=slG_inv e
    exact u_need_slants hs (hg s n rfl hs)
theorem okS_bad {x:D} {v:Except Str D} {E:Ex→Prop} {Q:D→Prop} (e:slG x=false) (q:exQ E Q (okS x v)):E "NoSlants" :=by
  rw [okS_not e] at q;exact q
theorem Zga {s:List Int} {n:Nat} {v:Except Str D} {E:Ex→Prop} {Q:D→Prop} (h:IsSl s n) (q:exQ E Q (okS (Zax s) v)):exQ E Q v:=by
  rw [okS_of h] at q;exact q
theorem tbl_get {s:List Int} {n i:Nat} (h:i < n):(tbl s n)[i]? = some ((s.drop (n - 1 - i)).take n):=by
  unfold tbl
  rw [List.getElem?_map,List.getElem?_range h];rfl
theorem rd_table_of:∀ ds E Q,Zd5 ds E Q→Ze3 E { nx:=fun _=>Q .non,rt:=Q } (rho N_table_of ds):=by
  rintro _ E Q ⟨x,rfl,hk,q⟩
  unfold Ze3
  walk_at "go"
  refine need_first hk (fun e=>okS_bad e q) fun s n e h=>?_
  subst e
  replace q:Q (tblD s n):=by have:=Zga h q;rw [Zet,h.sN] at this;exact this
  refine u_size h ?_
  walk_at "go"
  have h5:=h.n5
  have hl:=h.len
  refine ⟨by omega,by omega,?_⟩
  rw [Int.toNat_natCast]
  refine ZgU (f:=fun d=>match d with | .int i=>Zaq ((s.drop (n - 1 - i.toNat)).take n) | _=>.non) (fun d hd Q hq=>?_) .un [] (by simp [rng,small];omega) ?_
  · obtain ⟨i,hi,rfl⟩:=List.mem_map.mp hd
    rw [List.mem_range] at hi
    walk_at "go"
    refine ⟨⟨ZcE (n:=2) (by decide) (by omega),ZcE (n:=10) (by omega) (by omega)⟩,?_⟩
    have e:cutD (s.map D.int) (some ((n:Int) - 1 - (0+(i:Int)))) (some (2*(n:Int) - 1 - (0+(i:Int))))=((s.drop (n - 1 - i)).take n).map D.int:=by
      rw [cut_i (a:=n - 1 - i) (b:=2*n - 1 - i) (by omega) (by omega) (by omega) (by rw [List.length_map];omega),show 2*n - 1 - i - (n - 1 - i)=n by omega,← List.map_drop,← List.map_take]
    show Q (D.lst (cutD (s.map D.int) _ _))
    rw [e]
    have e2:(0+(i:Int)).toNat=i:=by omega
    rw [e2] at hq
    exact hq
  · have e:(rng 0 n).map (fun d=>match d with | .int i=>Zaq ((s.drop (n - 1 - i.toNat)).take n) | _=>.non)=(tbl s n).map Zaq:=by
      unfold rng tbl
      rw [List.map_map,List.map_map]
      refine List.map_congr_left fun i _=>?_
      simp
    rw [List.nil_append,e]
    exact q
theorem Zcy (s:List Int) (n:Nat):(tbl s n).length=n:=by simp [tbl]
theorem Zcd {s:List Int} {n:Nat} (h:IsSl s n):∀ r∈tbl s n,r.length=n∧∀ x∈r,-50≤x∧x≤50:=by
  intro r hr
  unfold tbl at hr
  obtain ⟨i,hi,rfl⟩:=List.mem_map.mp hr
  rw [List.mem_range] at hi
  have hl:=h.len
  refine ⟨by rw [List.length_take,List.length_drop];omega,fun x hx=>h.b x (List.mem_of_mem_drop (List.mem_of_mem_take hx))⟩
theorem ZfO:∀ ds E Q,Zbk ds E Q→Zcp E { nx:=fun _=>Q .non,rt:=Q } (rho ZdT ds):=by
  rintro _ E Q ⟨x,rfl,hk,q⟩
  unfold Zcp
  walk_at "go"
  refine need_first hk (fun e=>okS_bad e q) fun s n e h=>?_
  subst e
  replace q:Q (Zax s.reverse):=by have:=Zga h q;rw [Zet] at this;exact this
  unfold Zax
  walk_at "go"
  rw [← List.map_reverse]
  exact q
theorem rd_share_rows:∀ ds E Q,Zb8 ds E Q→ZdB E { nx:=fun _=>Q .non,rt:=Q } (rho ZfE ds):=by
  rintro _ E Q ⟨⟨s,n⟩,rfl,h,q⟩
  have h5:=h.n5
  unfold ZdB
  walk_at "go"
  refine u_table_of h ?_
  unfold tblD
  walk_at "go"
  refine ZgU (f:=fun d=>match d with | .lst xs=>.tup (xs.map fun x=>.tup [x,.int 1]) | _=>.non) (fun d hd Q hq=>?_) .un [] (by simp [Zcy,small];omega) ?_
  · obtain ⟨r,hr,rfl⟩:=List.mem_map.mp hd
    walk_at "go"
    have:=(Zcd h r hr).1
    refine u_row_ofL (by omega) ?_
    have e:rowq (Zb r) = .tup ((r.map D.int).map fun x=>.tup [x,.int 1]):=by
      unfold rowq Zb
      rw [List.map_map,List.map_map]
      exact congrArg D.tup (List.map_congr_left fun i _=>ZdH i)
    rw [e]
    exact hq
  · have e:((tbl s n).map Zaq).map (fun d=>match d with | .lst xs=>.tup (xs.map fun x=>.tup [x,.int 1]) | _=>.non)=(tbl s n).map fun r=>rowq (Zb r):=by
      rw [List.map_map]
      refine List.map_congr_left fun r _=>?_
      unfold rowq Zb
      simp only [Function.comp_apply,Zaq]
      rw [List.map_map,List.map_map]
      exact congrArg D.tup (List.map_congr_left fun i _=>(ZdH i).symm)
    rw [List.nil_append,e]
    exact q
def Zb2:Zav:=fnS (fun x:List Int×Nat=>[.scr (x.1.map .int),.int x.2]) (fun _=>True) fun x=>.int (x.1.getD x.2 0)
def ZcG:Zav:=rlS (fun x:Int=>[.int x]) (fun _=>True) fun _ d=>∃ j:Int,d = .int j
def Zcl:Zav:=fnS (fun x:Int=>[.int x]) (fun _=>True) fun _=>.pen
def Zar:Zav:=rlS (fun m:Nat=>[.pen,.int m]) (fun m=>0 < m∧m < 2 ^ 30) fun m d=>∃ k:Nat,d = .int k∧k < m
def ZaQ:Zav:=Zdh
def Zdv:Zav:=rlS (fun _:Unit=>[.pen]) (fun _=>True) fun _ d=>∃ s n,IsSl s n∧d=Zax s
section
variable {E:Ex→Prop} {Q:D→Prop} {x:D} {l m a b:Int} {p q:Rat} {s:List Int} {n k:Nat}
theorem u__law_cell_at {xs:List Int} {i:Nat} (q:Q (.int (xs.getD i 0))):Zb2 [.scr (xs.map .int),.int i] E Q:=⟨(xs,i),rfl,trivial,q⟩
theorem Zgo (q:∀ j:Int,Q (.int j)):ZcG [.int a] E Q:=⟨a,rfl,trivial,fun d ⟨j,hd⟩=>by rw [hd];exact q j⟩
theorem u__law_pen_of (q:Q .pen):Zcl [.int a] E Q:=⟨a,rfl,trivial,q⟩
theorem Zay (h:0 < n) (h':n < 2 ^ 30) (q:∀ k:Nat,k < n→Q (.int k)):Zar [.pen,.int n] E Q:=⟨n,rfl,⟨h,h'⟩,fun d ⟨k,hd,hk⟩=>by rw [hd];exact q k hk⟩
theorem Zb6 (h:b≠0) (h':Bd b) (q:Q (shq (Rat.divInt a b))):ZaQ [.int a,.int b] E Q:=⟨(a,b),rfl,⟨h,h'⟩,q⟩
theorem ZfM (q:∀ s n,IsSl s n→Q (Zax s)):Zdv [.pen] E Q:=⟨(),rfl,trivial,fun d ⟨s,n,h,hd⟩=>by rw [hd];exact q s n h⟩
end
abbrev Zei:List Str:=["_law_script", "_law_k"]
abbrev ZgE:List Str:=["_law_script", "_law_k"]
def ZcS:WS:=(zSeq (zIf (wT (w2 gLtI (wN 1) (wB gLen (Zab (wN 0) aNil)))) (zRet (w2 gIx (wN 0) (wN 1))) zNx) (zRet (wC (D.int (0)))))
abbrev Zg3:List Str:=["_law_seed"]
abbrev ps__law_next:List Str:=["_law_seed"]
def Zen:WS:=(zSeq (zSet 0 (w2 gModI (w2 gAdd (wN 0) (wC (D.int (7919)))) (wC (D.int (2147483647))))) (zRet (w2 gModI (w2 gAdd (w2 gAdd (w2 gMul (wN 0) (wN 0)) (w2 gMul (wC (D.int (48271))) (wN 0))) (wC (D.int (12345)))) (wC (D.int (2147483629))))))
abbrev Ze2:List Str:=["_law_cell", "_law_left"]
abbrev ps__law_pen_of:List Str:=["_law_cell"]
def Zdl:WS:=(zSeq (zSet 1 (wB gMax (Zab (wN 0) (Zab (w2 ZcW (wC (D.int (0))) (wN 0)) aNil)))) (zRet (wPen (aLst (Zab (wN 1) (Zab (wB gInt (Zab (w2 gGeI (wN 1) (w2 gPowI (wC (D.int (10))) (wC (D.int (18))))) aNil)) (Zab (w2 gModI (wN 1) (wC (D.int (1000003)))) aNil)))))))
abbrev Zg4:List Str:=["_law_pen", "_law_many", "_law_found"]
abbrev ps__law_draw:List Str:=["_law_pen", "_law_many"]
def Zeo:WS:=(zSeq (zIf (wT (w2 (gEq false) (w2 gIxP (wN 0) (wC (D.int (1)))) (wC (D.int (1))))) (zSeq (zSet 2 (w2 gModI (w2 gIxP (wN 0) (wC (D.int (0)))) (wN 1))) (zSeq (zInk 0 (w2 gFdv (w2 gIxP (wN 0) (wC (D.int (0)))) (wN 1))) (zRet (wN 2)))) zNx) (zSeq (zInk 0 (wF ZcG (Zab (w2 gAdd (wF ZcG (Zab (w2 gIxP (wN 0) (wC (D.int (2)))) aNil)) (wC (D.int (7)))) aNil))) (zRet (w2 gModI (w2 gFdv (w2 gIxP (wN 0) (wC (D.int (2)))) (wC (D.int (64)))) (wN 1)))))
theorem Zgw:∀ ds E Q,Zb2 ds E Q→ZcS E { nx:=fun _=>Q .non,rt:=Q } (rho Zei ds):=by
  rintro _ E Q ⟨⟨xs,i⟩,rfl,_,q⟩
  unfold ZcS
  walk_at "go"
  by_cases h:i < xs.length
  · rw [if_pos (by simp [h])]
    refine ⟨.int (xs.getD i 0),atN rfl ?_,q⟩
    rw [List.getElem?_map,List.getD_eq_getElem?_getD,List.getElem?_eq_getElem h]
    rfl
  · rw [if_neg (by simp;omega)]
    rw [List.getD_eq_getElem?_getD,List.getElem?_eq_none (by omega)] at q
    exact q
theorem rd__law_next:∀ ds E Q,ZcG ds E Q→Zen E { nx:=fun _=>Q .non,rt:=Q } (rho Zg3 ds):=by
  rintro _ E Q ⟨x,rfl,_,q⟩
  unfold Zen
  walk_at "go"
  have h1:=Int.fmod_nonneg_of_pos (x+7919) (show (0:Int) < 2147483647 by decide)
  have h2:=Int.fmod_lt_of_pos (x+7919) (show (0:Int) < 2147483647 by decide)
  have b:Bd ((x+7919).fmod 2147483647):=ZcE (n:=32) (by omega) (by omega)
  exact ⟨by decide,⟨b,b⟩,⟨ZcE (n:=32) (by decide) (by omega),b⟩,by decide,q _ ⟨_,rfl⟩⟩
theorem rd__law_pen_of:∀ ds E Q,Zcl ds E Q→Zdl E { nx:=fun _=>Q .non,rt:=Q } (rho Ze2 ds):=by
  rintro _ E Q ⟨x,rfl,_,q⟩
  unfold Zdl
  walk_at "go"
  exact ⟨⟨by decide,by decide,by decide⟩,by decide,by decide,⟨_,_,_,rfl⟩,q⟩
theorem rd__law_draw:∀ ds E Q,Zar ds E Q→Zeo E { nx:=fun _=>Q .non,rt:=Q } (rho Zg4 ds):=by
  rintro _ E Q ⟨m,rfl,⟨h0,h1⟩,q⟩
  have hb:Bd (m:Int):=ZcE (n:=30) (by omega) (by omega)
  have fin:∀ x:Int,Q (.int (x.fmod m)):=fun x=>by
    have h1:=Int.fmod_nonneg_of_pos x (show (0:Int) < m by omega)
    have h2:=Int.fmod_lt_of_pos x (show (0:Int) < m by omega)
    exact q _ ⟨(x.fmod m).toNat,by rw [Int.toNat_of_nonneg h1],by omega⟩
  unfold Zeo
  walk_at "go"
  refine ⟨by simp,fun j=>?_⟩
  walk_at "go"
  split
  · refine ⟨by simp,fun i=>⟨by omega,?_⟩⟩
    walk_at "go"
    exact ⟨by simp,fun i'=>⟨⟨by omega,hb⟩,fin i⟩⟩
  · refine ⟨by simp,fun k=>Zgo fun k1=>?_⟩
    walk_at "go"
    refine Zgo fun k2=>?_
    walk_at "go"
    exact ⟨by simp,fun k3=>⟨⟨by decide,ZcE (n:=7) (by decide) (by omega)⟩,by omega,fin _⟩⟩
theorem abs_if (x:Int):(if x < 0 then -x else x)=((x.natAbs:Nat):Int):=by split<;>omega
theorem divInt_sz {t b:Int} {n:Nat} (hb:b≠0) (h1:t.natAbs < 2 ^ n) (h2:b.natAbs < 2 ^ n):Sz n (Rat.divInt t b):=by
  unfold Sz
  rw [Rat.num_divInt,Rat.den_divInt,if_neg hb]
  have hg:Int.gcd b t≠0:=by
    have:=Int.gcd_pos_of_ne_zero_left t hb
    omega
  refine ⟨Nat.lt_of_le_of_lt (div_le' hg ?_) ?_,Nat.lt_of_le_of_lt (Nat.div_le_self _ _) h2⟩
  · exact Int.dvd_mul_of_dvd_right (Int.gcd_dvd_right ..)
  · rw [Int.natAbs_mul,Int.natAbs_sign_of_ne_zero hb,Nat.one_mul];exact h1
local macro_rules | `(tactic| walk_at "w1")=>`(tactic| simp only [zRet,zIf,zSet,zNx,Zdm,zPub,zOwn,zFor,Za3,zPar,zAsg,zApp,Zb5,zInk,Zcw,zNox,Zbr,Zbh,wOrV,ZdA,wAnd,wOr,wNot,wT,wIf,w1,w2,wB,wF,wL,wTup,wCut,Za0,aB,aLst,Zab,aNil,aLC,Zbq,ZaF,iS,iL,iT,iR1,iR2,iZ,i1,i2,isS,isL,isT,isB,isI,Za8,ZaZ,wN,wC,gN,gTp,Zat,Za9,gI2,gAdd,gMul,gIx,gIxP,gCut,gRev,gLen,gSeq,ZcD,gAbs,gMax,gInt,ZaA,wPen,wBor,tBor,aBor,wIxO,aAdd,aMul,aCut,rho,pub,List.map_cons,List.map_nil,List.length_cons,List.length_nil,List.cons_append,List.nil_append,List.replicate,List.getElem?_cons_zero,List.getElem?_cons_succ,List.set_cons_zero,List.set_cons_succ,Nat.reduceSub,Nat.reduceAdd,List.replicate_succ,List.replicate_zero,true_and,Bool.false_eq_true,if_true,if_false,ite_true,ite_false])
local macro_rules | `(tactic| walk_at "st")=>`(tactic| ((try dsimp only at *);(try walk_at "w1");(try dsimp only)))
theorem Zah {z z':WS} {E:Ex→Prop} {N:Nds} {ρ:Rho} (h:z E { N with nx:=z' E N } ρ):zSeq z z' E N ρ:=h
theorem ZeG {z z':WS} {E:Ex→Prop} {N:Nds} {ρ:Rho} (I:Rho→Prop) (hz:∀ nx:Rho→Prop,(∀ ρ,I ρ→nx ρ)→z E { N with nx:=nx } ρ) (hr:∀ ρ,I ρ→z' E N ρ):zSeq z z' E N ρ:=hz _ hr
theorem ZeU {c:WT} {zb:WS} {E:Ex→Prop} {N:Nds} {ρ:Rho} {b:Bool} (hc:∀ Q:Bool→Prop,Q b→c E ρ Q) (h1:b=true→zb E N ρ) (h2:b=false→N.nx ρ):zIf c zb zNx E N ρ:=by
  refine hc _ ?_
  cases b with
  | true=>rw [if_pos rfl];exact h1 rfl
  | false=>rw [if_neg (by decide)];exact h2 rfl
theorem Zfl (xs:List Int):Zdq (xs.map D.int)=true:=by
  induction xs with
  | nil=>rfl
  | cons x xs ih=>rw [List.map_cons,Zdq,ih];rfl
theorem ints_of {ys:List D} (h:∀ y∈ys,∃ i:Int,y = .int i∧-50≤i∧i≤50):∃ s:List Int,ys=s.map D.int∧∀ x∈s,-50≤x∧x≤50:=by
  induction ys with
  | nil=>exact ⟨[],rfl,by simp⟩
  | cons y ys ih=>
    obtain ⟨s,rfl,hs⟩:=ih fun z hz=>h z (by simp [hz])
    obtain ⟨i,rfl,h1,h2⟩:=h y (by simp)
    exact ⟨i::s,rfl,fun x hx=>by
      rcases List.mem_cons.mp hx with rfl | hx
      · exact ⟨h1,h2⟩
      · exact hs x hx⟩
abbrev LX:List Str:=["NoSlants", "NoRow", "NoNumber", "NoLine", "NotEven", "NotFull"]
abbrev MX:List Str:=["NoSlants", "NoRow", "NoNumber", "NoLine", "NotEven", "NotFull", "NotStrong", "NoText", "TooGreat"]
def knd (n:Str):Str:=if n == "NoSlants" then "slants" else if n == "NoRow" then "row" else if n == "NoNumber" then "number" else if n == "NoLine" then "line" else if n == "NotEven" then "even" else "full"
mutual
def szD (m:Nat):D→Bool
  | .int i=>decide (i.natAbs < 2 ^ m)
  | .tup xs=>szDs m xs
  | .lst xs=>szDs m xs
  | _=>true
def szDs (m:Nat):List D→Bool
  | []=>true
  | x::r=>szD m x && szDs m r
end
theorem szDs_iff {m:Nat}:∀ {xs:List D},szDs m xs=true↔∀ x∈xs,szD m x=true
  | []=>by simp [szDs]
  | x::r=>by rw [szDs,Bool.and_eq_true,szDs_iff];simp
theorem szD_shq {m:Nat} {q:Rat}:szD m (shq q)=true↔Sz m q:=by
  unfold shq Sz
  rw [szD,szDs,szDs,szDs,szD,szD]
  simp
theorem szD_rowq {m:Nat} {r:List Rat}:szD m (rowq r)=true↔∀ x∈r,Sz m x:=by
  unfold rowq
  rw [szD,szDs_iff]
  constructor
  · intro h x hx
    exact szD_shq.mp (h _ (List.mem_map_of_mem hx))
  · intro h x hx
    obtain ⟨q,hq,rfl⟩:=List.mem_map.mp hx
    exact szD_shq.mpr (h q hq)
def Zb9:Zav:=ZbW
def Zb0:Zav:=fnS (fun n:Str=>[.exc n]) (fun n=>n∈LX) fun n=>.str (knd n)
section
variable {E:Ex→Prop} {Q:D→Prop} {x:D} {s:List Int} {n k:Nat} {r:List Rat}
theorem Zfx (h:kd x=true) (q:Q (.bl (isW x))):Zb9 [x] E Q:=⟨x,rfl,h,q⟩
theorem u__law_kind_of {n:Str} (h:n∈LX) (q:Q (.str (knd n))):Zb0 [.exc n] E Q:=⟨n,rfl,h,q⟩
end
abbrev ZfH:List Str:=["_law_found"]
abbrev ps__law_whole:List Str:=["_law_found"]
def Zfw:WS:=(zRet (Zbh (wB gIs (Zab (wN 0) (Zab (wC (.ty "int")) aNil))) (ZdA (wB gIs (Zab (wN 0) (Zab (wC (.ty "bool")) aNil))))))
abbrev Zeg:List Str:=["_law_e", "_law_marks"]
abbrev ZgC:List Str:=["_law_e"]
def ZcQ:WS:=(zSeq (zSet 1 (wL (aLst (Zab (wB (gIsX LX MX) (Zab (wN 0) (Zab (wC (.cls (PySem.Str.ofString "NoSlants"))) aNil))) (Zab (wB (gIsX LX MX) (Zab (wN 0) (Zab (wC (.cls (PySem.Str.ofString "NoRow"))) aNil))) (Zab (wB (gIsX LX MX) (Zab (wN 0) (Zab (wC (.cls (PySem.Str.ofString "NoNumber"))) aNil))) (Zab (wB (gIsX LX MX) (Zab (wN 0) (Zab (wC (.cls (PySem.Str.ofString "NoLine"))) aNil))) aNil))))))) (zSeq (zSet 1 (w2 gAdd (wN 1) (wL (aLst (Zab (wB (gIsX LX MX) (Zab (wN 0) (Zab (wC (.cls (PySem.Str.ofString "NotEven"))) aNil))) (Zab (wB (gIsX LX MX) (Zab (wN 0) (Zab (wC (.cls (PySem.Str.ofString "NotFull"))) aNil))) (Zab (wB (gIsX LX MX) (Zab (wN 0) (Zab (wC (.cls (PySem.Str.ofString "NotStrong"))) aNil))) aNil))))))) (zSeq (zSet 1 (w2 gAdd (wN 1) (wL (aLst (Zab (wB (gIsX LX MX) (Zab (wN 0) (Zab (wC (.cls (PySem.Str.ofString "NoText"))) aNil))) (Zab (wB (gIsX LX MX) (Zab (wN 0) (Zab (wC (.cls (PySem.Str.ofString "TooGreat"))) aNil))) aNil)))))) (zSeq (zIf (wOr (wNot (wT (wB (gIsX LX MX) (Zab (wN 0) (Zab (wC (.ty "ValueError")) aNil))))) (wT (w2 (gEq true) (wM gCntB (wN 1) (Zab (wC (D.bl true)) aNil)) (wC (D.int (1)))))) (zRet (wC (D.str (PySem.Str.ofString "other")))) zNx) (zRet (w2 gIx (wL (aLst (Zab (wC (D.str (PySem.Str.ofString "slants"))) (Zab (wC (D.str (PySem.Str.ofString "row"))) (Zab (wC (D.str (PySem.Str.ofString "number"))) (Zab (wC (D.str (PySem.Str.ofString "line"))) (Zab (wC (D.str (PySem.Str.ofString "even"))) (Zab (wC (D.str (PySem.Str.ofString "full"))) (Zab (wC (D.str (PySem.Str.ofString "strong"))) (Zab (wC (D.str (PySem.Str.ofString "text"))) (Zab (wC (D.str (PySem.Str.ofString "great"))) aNil))))))))))) (wM gIdxB (wN 1) (Zab (wC (D.bl true)) aNil))))))))
def sm:Nat→(Nat→Rat)→Rat
  | 0,_=>0
  | n+1,f=>f 0+sm n fun i=>f (i+1)
theorem ZgR {α:Type} {n:Nat} {f g:Nat→α} (h:∀ i,i < n→f i=g i):(List.range n).map f=(List.range n).map g:=
  List.map_congr_left fun i hi=>h i (List.mem_range.mp hi)
def ent (s:List Int) (n i j:Nat):Int:=s.getD (n - 1 - i+j) 0
theorem tbl_ent {s:List Int} {n:Nat} (h:IsSl s n):tbl s n=(List.range n).map fun i=>(List.range n).map fun j=>ent s n i j:=by
  unfold tbl
  refine ZgR fun i hi=>List.ext_getElem? fun j=>?_
  have hl:=h.len
  rcases Nat.lt_or_ge j n with hj | hj
  · rw [List.getElem?_take_of_lt hj,List.getElem?_drop,List.getElem?_map,List.getElem?_range hj,List.getElem?_eq_getElem (by omega)]
    unfold ent
    rw [Option.map_some,List.getD_eq_getElem?_getD,List.getElem?_eq_getElem (by omega)]
    rfl
  · rw [List.getElem?_eq_none (by rw [List.length_take];omega),List.getElem?_eq_none (by simpa using hj)]
theorem for_all {g:WG} {zb:WS} {E:Ex→Prop} {N:Nds} (I:Rho→Prop):∀ (ds:List D),(∀ d∈ds,∀ ρ,I ρ→∀ nx:Rho→Prop,(∀ ρ,I ρ→nx ρ)→g d ρ fun ρ1=>zb E { nx:=nx,rt:=N.rt,bk:=N.nx,ct:=nx } ρ1)→(∀ ρ,I ρ→N.nx ρ)→∀ ρ,I ρ→Zb4 g zb E N ds ρ
  | [],_,hn,ρ,i=>hn ρ i
  | d::ds,h,hn,ρ,i=>h d (List.mem_cons_self ..) ρ i _ (for_all I ds (fun d hd=>h d (List.mem_cons_of_mem _ hd)) hn)
theorem Zfk {g:WG} {zb:WS} {E:Ex→Prop} {N:Nds} (I:List D→Rho→Prop) (h:∀ d ds ρ,I (d::ds) ρ→∀ nx:Rho→Prop,(∀ ρ,I ds ρ→nx ρ)→g d ρ fun ρ1=>zb E { nx:=nx,rt:=N.rt,bk:=N.nx,ct:=nx } ρ1) (hn:∀ ρ,I [] ρ→N.nx ρ):∀ (ds:List D) ρ,I ds ρ→Zb4 g zb E N ds ρ
  | [],ρ,i=>hn ρ i
  | d::ds,ρ,i=>h d ds ρ i _ (Zfk I h hn ds)
theorem rng0 (n:Nat):rng 0 n=(List.range n).map fun (k:Nat)=>D.int (k:Int):=by
  unfold rng
  exact List.map_congr_left fun k _=>by rw [Int.zero_add]
section
variable {Q:D→Prop} {QL:List D→Prop} {QI:Int→Prop} {QB:Bool→Prop} {xs ys:List D} {i j:Int} {b:Bool} {r:List Rat} {s:List Int} {n:Nat} {q:Rat} {o o':Option Int}
theorem Zfr:isB QB (.bl b)=QB b:=rfl
theorem Zfq:isI QI (.int i)=QI i:=rfl
theorem Zfp:isL QL (.lst xs)=QL xs:=rfl
theorem Zdg:isL QL (Zaq s)=QL (s.map .int):=rfl
theorem Zdf:isL QL (tblD s n)=QL ((tbl s n).map Zaq):=rfl
theorem Zfo:isT QL (.tup xs)=QL xs:=rfl
theorem Zdb:isS QL (.lst xs)=QL xs:=rfl
theorem Zd:isS QL (.tup xs)=QL xs:=rfl
theorem Zda:isS QL (rowq r)=QL (r.map shq):=rfl
theorem Zdd:isS QL (Zax s)=QL (s.map .int):=rfl
theorem Zdc:isS QL (Zaq s)=QL (s.map .int):=rfl
theorem Zde:isS QL (tblD s n)=QL ((tbl s n).map Zaq):=rfl
theorem ZbE:gLen [.tup xs] Q=Q (.int xs.length):=rfl
theorem ZbH:gLen [.lst xs] Q=Q (.int xs.length):=rfl
theorem ZbF:gLen [.scr xs] Q=Q (.int xs.length):=rfl
theorem ZbG:gLen [rowq r] Q=Q (.int r.length):=by show Q (.int ((r.map shq).length:Int))=_;rw [List.length_map]
theorem ZbJ:gLen [Zax s] Q=Q (.int s.length):=by show Q (.int ((s.map D.int).length:Int))=_;rw [List.length_map]
theorem ZbI:gLen [Zaq s] Q=Q (.int s.length):=by show Q (.int ((s.map D.int).length:Int))=_;rw [List.length_map]
theorem ZbK:gLen [tblD s n] Q=Q (.int n):=by show Q (.int (((tbl s n).map Zaq).length:Int))=_;rw [List.length_map,Zcy]
theorem Zc3:gIx (.tup xs) (.int i) Q = ∃ d,atI xs i=some d∧Q d:=rfl
theorem Zc6:gIx (.lst xs) (.int i) Q = ∃ d,atI xs i=some d∧Q d:=rfl
theorem Zc4:gIx (.scr xs) (.int i) Q = ∃ d,atI xs i=some d∧Q d:=rfl
theorem Zc5:gIx (rowq r) (.int i) Q = ∃ d,atI (r.map shq) i=some d∧Q d:=rfl
theorem Zc8:gIx (Zax s) (.int i) Q = ∃ d,atI (s.map .int) i=some d∧Q d:=rfl
theorem Zc7:gIx (Zaq s) (.int i) Q = ∃ d,atI (s.map .int) i=some d∧Q d:=rfl
theorem Zc9:gIx (tblD s n) (.int i) Q = ∃ d,atI ((tbl s n).map Zaq) i=some d∧Q d:=rfl
theorem ZbN:gCut (.tup xs) o o' Q=Q (.tup (cutD xs o o')):=rfl
theorem Zbj:gCut (.lst xs) o o' Q=Q (.lst (cutD xs o o')):=rfl
theorem ZbO:gCut (.scr xs) o o' Q=Q (.lst (cutD xs o o')):=rfl
theorem ZbP:gCut (rowq r) o o' Q=Q (.tup (cutD (r.map shq) o o')):=rfl
theorem ZbR:gCut (Zax s) o o' Q=Q (.tup (cutD (s.map .int) o o')):=rfl
theorem ZbQ:gCut (Zaq s) o o' Q=Q (.lst (cutD (s.map .int) o o')):=rfl
theorem ZbS:gCut (tblD s n) o o' Q=Q (.lst (cutD ((tbl s n).map Zaq) o o')):=rfl
theorem Zbx:gRev (.tup xs) Q=Q (.tup xs.reverse):=rfl
theorem Zbz:gRev (.lst xs) Q=Q (.lst xs.reverse):=rfl
theorem Zby:gRev (rowq r) Q=Q (rowq r.reverse):=by show Q (.tup (r.map shq).reverse)=_;rw [← List.map_reverse];rfl
theorem ZbB:gRev (Zax s) Q=Q (Zax s.reverse):=by show Q (.tup (s.map D.int).reverse)=_;rw [← List.map_reverse];rfl
theorem ZbA:gRev (Zaq s) Q=Q (Zaq s.reverse):=by show Q (.lst (s.map D.int).reverse)=_;rw [← List.map_reverse];rfl
theorem Zbu {α:Type}:gSeq (α:=α) [.tup xs] QL=QL xs:=rfl
theorem Zbv {α:Type}:gSeq (α:=α) [.lst xs] QL=QL xs:=rfl
theorem Zbw {α:Type}:gSeq (α:=α) [Zax s] QL=QL (s.map .int):=rfl
theorem ZaM:ZcD [.tup xs] Q=Q (.tup xs):=rfl
theorem ZaN:ZcD [.lst xs] Q=Q (.tup xs):=rfl
theorem ZaO:ZcD [Zaq s] Q=Q (Zax s):=rfl
theorem ZbV:gAdd (.int i) (.int j) Q=Q (.int (i+j)):=rfl
theorem ZbU:gAdd (.lst xs) (.lst ys) Q=(xs.length+ys.length≤small∧Q (.lst (xs++ys))):=rfl
theorem ZbT:gAdd (.tup xs) (.tup ys) Q=(xs.length+ys.length≤small∧Q (.tup (xs++ys))):=rfl
theorem ZbD:gMul (.int i) (.int j) Q=(MulOk i j∧Q (.int (i*j))):=rfl
theorem ZbC:gMul (.lst xs) (.int j) Q=(j < 1000∧-1000 < j∧xs.length*j.toNat≤small∧Q (.lst (List.replicate j.toNat xs).flatten)):=rfl
theorem e_I2 {C:Int→Int→Prop} {kd:Int→Int→D}:gI2 C kd (.int i) (.int j) Q=(C i j∧Q (kd i j)):=rfl
theorem Zft:gAbs [.int i] Q=Q (.int (if i < 0 then -i else i)):=rfl
theorem Zfn:gMax [.int i,.int j] Q=Q (.int (if j > i then j else i)):=rfl
theorem ZbM:gInt [.bl b] Q=Q (.int (if b then 1 else 0)):=rfl
theorem ZbL:gInt [.int i] Q=Q (.int i):=rfl
theorem Zfs:gAll [.lst xs] Q = ∃ bs:List Bool,xs=bs.map D.bl∧Q (.bl (bs.all id)):=rfl
theorem e_i1:i1 QL [.int j]=(-10000≤j∧j < 10000∧QL (rng 0 j.toNat)):=rfl
theorem e_i2:i2 QL [.int i,.int j]=((-10000≤i∧i < 10000∧-10000≤j∧j < 10000)∧QL (rng i (j - i).toNat)):=rfl
end
local macro_rules | `(tactic| walk_at "w1")=>`(tactic| simp only [zRet,zIf,zSet,zNx,Zdm,zPub,zOwn,zFor,Za3,zPar,zAsg,zApp,Zb5,zInk,Zcw,zNox,Zbr,zTry,wM,ZcX,Zbh,wOrV,ZdA,wAnd,wOr,wNot,wT,wIf,w1,w2,wB,wF,wL,wTup,wCut,Za0,aB,aLst,Zab,aNil,aLC,Zbq,ZaF,iS,iL,iT,iR1,iR2,iZ,Za8,ZaZ,wN,wC,gN,gTp,Zat,Za9,gIxP,ZaA,wPen,wBor,tBor,aBor,wIxO,aAdd,aMul,aCut,rho,pub,List.map_cons,List.map_nil,List.length_cons,List.length_nil,List.cons_append,List.nil_append,List.replicate,List.getElem?_cons_zero,List.getElem?_cons_succ,List.set_cons_zero,List.set_cons_succ,Nat.reduceSub,Nat.reduceAdd,List.replicate_succ,List.replicate_zero,true_and,Bool.false_eq_true,if_true,if_false,ite_true,ite_false,Int.toNat_natCast,Bool.not_true,Bool.not_false,
  Zfr,Zfq,Zfp,Zdg,Zdf,Zfo,Zdb,Zd,Zda,Zdd,Zdc,Zde,ZbE,ZbH,ZbF,ZbG,ZbJ,ZbI,ZbK,Zc3,Zc6,Zc4,Zc5,Zc8,Zc7,Zc9,ZbN,Zbj,ZbO,ZbP,ZbR,ZbQ,ZbS,Zbx,Zbz,Zby,ZbB,ZbA,Zbu,Zbv,Zbw,ZaM,ZaN,ZaO,ZbV,ZbU,ZbT,ZbD,ZbC,e_I2,Zft,Zfn,ZbM,ZbL,Zfs,e_i1,e_i2])
local macro_rules | `(tactic| walk_at "nx")=>`(tactic| ((try dsimp only);(refine Zah ?_);walk_at "st"))
theorem rd__law_whole:∀ ds E Q,Zb9 ds E Q→Zfw E { nx:=fun _=>Q .non,rt:=Q } (rho ZfH ds):=Zgs
theorem lx_nm:∀ n∈LX,xnm n=n:=by decide +kernel
theorem ZeS {n m:Str} {Q:D→Prop} (h:n∈LX) (hm:m∈MX) (q:Q (.bl (n == m))):gIsX LX MX [.exc n,.cls m] Q:=⟨h,hm,by rw [lx_nm n h];exact q⟩
theorem Zgu:∀ ds E Q,Zb0 ds E Q→ZcQ No { nx:=fun _=>Q .non,rt:=Q } (rho Zeg ds):=by
  rintro _ E Q ⟨n,rfl,hn,q⟩
  unfold ZcQ
  walk_at "nx"
  refine ZeS hn (by simp) (ZeS hn (by simp) (ZeS hn (by simp) (ZeS hn (by simp) ⟨by decide,?_⟩)))
  walk_at "nx"
  refine ZeS hn (by simp) (ZeS hn (by simp) (ZeS hn (by simp) ⟨by decide,?_⟩))
  walk_at "st"
  refine ⟨by decide,?_⟩
  walk_at "nx"
  refine ZeS hn (by simp) (ZeS hn (by simp) ⟨by decide,?_⟩)
  walk_at "st"
  refine ⟨by decide,?_⟩
  have key:(MX.map (n == ·)).countP (· == true)=1∧∃ j:Nat,(MX.map (n == ·))[j]? = some true∧(∀ i < j,(MX.map (n == ·))[i]?≠some true)∧[D.str "slants",.str "row",.str "number",.str "line",.str "even",.str "full",.str "strong",.str "text",.str "great"][j]? = some (.str (knd n)):=by
    simp only [LX,List.mem_cons,List.not_mem_nil,or_false] at hn
    rcases hn with rfl | rfl | rfl | rfl | rfl | rfl
    · exact ⟨by decide +kernel,0,by decide +kernel,by decide +kernel,rfl⟩
    · exact ⟨by decide +kernel,1,by decide +kernel,by decide +kernel,rfl⟩
    · exact ⟨by decide +kernel,2,by decide +kernel,by decide +kernel,rfl⟩
    · exact ⟨by decide +kernel,3,by decide +kernel,by decide +kernel,rfl⟩
    · exact ⟨by decide +kernel,4,by decide +kernel,by decide +kernel,rfl⟩
    · exact ⟨by decide +kernel,5,by decide +kernel,by decide +kernel,rfl⟩
  obtain ⟨k1,j,k2,k3,k4⟩:=key
  walk_at "nx"
  refine ⟨hn,rfl,?_⟩
  walk_at "st"
  refine ⟨⟨_,rfl⟩,⟨MX.map (n == ·),true,rfl,rfl,?_⟩⟩
  rw [k1]
  walk_at "st"
  refine ⟨by decide,⟨_,rfl⟩,MX.map (n == ·),true,j,rfl,rfl,k2,k3,?_⟩
  exact ⟨_,atI_nat k4,q⟩
theorem deq_pair (a b c d:Int):deq (.tup [.int a,.int b]) (.tup [.int c,.int d])=(a == c && b == d):=by
  simp [deq,pd,pds,PyData.eqv,PyData.eqvAll]
theorem at_all {P:D→Prop} {xs:List D} {k:Nat} (h:k < xs.length) (hp:∀ x∈xs,P x):∃ d,atI xs (k:Int)=some d∧P d:=⟨xs[k],atI_nat (List.getElem?_eq_getElem h),hp _ (List.getElem_mem h)⟩
theorem len_cut {xs:List D} {a b:Option Int}:(cutD xs a b).length≤xs.length:=by unfold cutD;rw [List.length_take,List.length_drop];omega
theorem add_tup {xs ys:List D} {Q:D→Prop} (h:xs.length+ys.length≤small) (q:Q (.tup (xs++ys))):gAdd (.tup xs) (.tup ys) Q:=⟨h,q⟩
theorem ZaR {n:Nat} (h:n≤5000):n≤small:=by unfold small;omega
theorem ZeV {g:WG} {zb:WS} {E:Ex→Prop} {N:Nds} (I:Nat→Rho→Prop) (n:Nat) (h:∀ k,k < n→∀ ρ,I k ρ→∀ nx:Rho→Prop,(∀ ρ,I (k+1) ρ→nx ρ)→g (.int k) ρ fun ρ1=>zb E { nx:=nx,rt:=N.rt,bk:=N.nx,ct:=nx } ρ1) (hn:∀ ρ,I n ρ→N.nx ρ) (ρ:Rho) (h0:I 0 ρ):Zb4 g zb E N (rng 0 n) ρ:=by
  refine Zfk (fun ds ρ=>∃ k,k≤n∧ds=(rng 0 n).drop k∧I k ρ) ?_ ?_ _ ρ ⟨0,Nat.zero_le _,by rw [List.drop_zero],h0⟩
  · rintro d ds ρ ⟨k,hk,e,i⟩ nx hnx
    have hlen:(rng 0 n).length=n:=by unfold rng;simp
    have hkn:k < n:=by
      rcases Nat.lt_or_ge k n with z | z
      · exact z
      · rw [List.drop_eq_nil_of_le (by omega)] at e;cases e
    rw [List.drop_eq_getElem_cons (by omega)] at e
    injection e with e1 e2
    have e3:(rng 0 n)[k]'(by omega) = .int k:=by unfold rng;simp
    rw [e1,e3]
    exact h k hkn ρ i nx fun ρ' i'=>hnx ρ' ⟨k+1,hkn,e2,i'⟩
  · rintro ρ ⟨k,hk,e,i⟩
    have hlen:(rng 0 n).length=n:=by unfold rng;simp
    have hkn:k=n:=by
      rcases Nat.lt_or_ge k n with z | z
      · rw [List.drop_eq_getElem_cons (by omega)] at e;cases e
      · omega
    subst hkn
    exact hn ρ i
theorem bootX_repr:bootBuiltins "repr" = some (.builtin "repr"):=by decide +kernel
theorem Zf9:bootBuiltins "ValueError" = some (.type "ValueError"):=by decide +kernel
theorem clsX_of {K:PySem.W.Frag} {D:Addr} (g:PySem.W.findIn K (.ref D) "__getattribute__" = some (some (.builtin "BaseException.__getattribute__"))) (gn:PySem.W.findIn K (.ref D) "__getattr__" = some none) (be:PySem.W.mroIn K D (.type "BaseException")=some true) (h:PySem.W.hasDictIn K D=true) (a:PySem.W.findIn K (.ref D) "__class__" = some (some (.builtin "object.__class__"))) (gt:PySem.W.specialIn K (.builtin "object.__class__") "__get__" = some (some (.builtin "getset_descriptor.__get__"))) (tk:PySem.W.takesIn K (.builtin "object.__class__")=some true) (ob:PySem.W.mroIn K D (.type "object")=some true):ClsX K D:=
  ⟨g,gn,be,by obtain ⟨cd,hc,_⟩:=PySem.W.any_some h;rw [hc];rfl,a,gt,tk,ob⟩
section
variable {X:Cx}
def gNeS:G2:=fun x y Q=>∃ a b,x = .str a∧y = .str b∧Q (.bl (!(a == b)))
theorem gNeS.mono:∀ x y P P',(∀ d,P d→P' d)→gNeS x y P→gNeS x y P':=fun x y P P' hp ⟨a,b,h1,h2,h3⟩=>⟨a,b,h1,h2,hp _ h3⟩
end
section
variable {X:Cx} {EX:XK} {pos p:Pos} {e:Expr} {target iter elt:Expr} {ifs:List Expr} {wi:WA} {g:WG} {wf:WT} {we:WE} {sc:Scope}
def wNever:WE:=fun _ _ _=>False
theorem px_never:PX X EX e wNever:=⟨⟨fun _ _ _=>False,fun _ _ _ _ _ _ h=>h.elim,fun _ _ _ _ _ _ _ _ _ _ h=>h.elim⟩,fun _ _ _ _ _ h=>h⟩
theorem bor_read {t:WA} {T:TE} (k:∀ W0 H0 W σ H ρ E Q,SOk X.K W0 H0 W σ H ρ→EOk X.K W0 H0 E EX→t E ρ (fun ds=>∀ a vs W' H',Ext W H W' H'→H' a=some (.lst vs)→W'.G a=none→¬ W'.Pn a→H a=none→Reps X.K W' vs ds→Q (.ref a) H')→T σ H Q)
    (m:∀ E ρ P P',(∀ d,P d→P' d)→t E ρ P→t E ρ P') (i:Nat):∀ W0 H0 W σ H ρ E Q,SOk X.K W0 H0 W σ H ρ→EOk X.K W0 H0 E EX→aBor i t E ρ (fun ds=>∀ a vs W' H',Ext W H W' H'→H' a=some (.lst vs)→W'.G a=none→¬ W'.Pn a→H a=none→Reps X.K W' vs ds→Q (.ref a) H')→T σ H Q:=by
  intro W0 H0 W σ H ρ E Q s eo h
  unfold aBor at h
  rcases s.lend i with ep | ⟨a,us,s',e3,e2,e6⟩
  · rw [ep] at h
    exact k W0 H0 W σ H ρ E Q s eo (m _ _ _ _ (fun d hd=>hd.2) h)
  · refine k W0 H0 _ σ H _ E Q s' eo (m _ _ _ _ (fun d hd b vs W2 H2 x2 h1 h2 h3 h4 r2=>?_) h)
    have hb:b≠a:=fun z=>by rw [z,e2] at h4;cases h4
    exact hd.2 b vs _ H2 (x2.bor e3) h1 (by rw [Wd.rem_ne hb];exact h2) h3 h4 (r2.rem (x2.g _ _ e6) hd.1)
theorem pz_lcb (i j:Nat) {x:Str} {pos' spos:Pos} (vars:List Str) (sel:List Nat) (hc:X.calm=true) (hN:X.N.Nodup) (hi:PXI X EX target iter wi) (hg:∀ s H fp,PXG (X.lc sc vars sel s H fp) target g) (hf:∀ s H fp,PXF (X.lc sc vars sel s H fp) E0 ifs wf) (he:∀ s H fp,PX (X.lc sc vars sel s H fp) E0 elt we)
    (hix:X.N[i]? = some x:=by rfl) (hx:Loc X.env.scope x:=by first | exact Or.inl rfl | exact Or.inr rfl)
    (hsw:swapsWith (.ListComp elt [⟨target,iter,ifs,0⟩] sc pos) (some (.Name x pos')) spos.line X.env=pure true:=by rfl)
    (ok:Zdu sc X.env.scope=true:=by rfl) (so:selOk X.N sc sel=true:=by rfl) (hs:∀ x,foldedSetIterable iter X.env x=pure x:=by intro _;rfl) (hfn:X.fn x=true∨X.env.scope.names.lookup x=some .local:=by first | exact .inl rfl | exact .inr rfl | assumption) :
    PZ X EX (.Assign [.Name x pos'] (.ListComp elt [⟨target,iter,ifs,0⟩] sc pos) spos) (zOwn i (aBor j (aLC wi vars.length sel g wf we))):=by
  obtain ⟨ti,tg,tf,te,pi,pg,pf,pe,k⟩:=lc_read hi hg hf he
  have am:=aLC.mono (vars:=vars) (sel:=sel) hi (hg {} (fun _=>none) []).mono (hf {} (fun _=>none) []).mono (he {} (fun _=>none) []).mono
  refine ⟨⟨_,ps_lc vars sel hc hN hix hx pi ok so pg pf pe hsw hs hfn,fun W0 H0 F W σ H ρ E Dn N s fl eo no h=>?_⟩,fun E ρ N N' hl q=>am _ _ _ _ (fun _ hq=>⟨hq.1,hl.nx _ hq.2⟩) q⟩
  refine bor_read k am j W0 H0 W σ H ρ E _ s eo (am _ _ _ _ (fun xs hd=>⟨hd.1,fun a vs W1 H1 x1 e1 e2 e3 e4 r1=>no.nx W1 _ H1 _ (s.own x1 e4 e1 e2 e3 r1) (fl.ext x1) hd.2⟩) h)
def isC:D→Bool
  | .non=>true
  | .bl _=>true
  | _=>false
def sameC:D→D→Bool
  | .non,.non=>true
  | .bl a,.bl b=>a == b
  | _,_=>false
def gIsC (neg:Bool):G2:=fun x y Q=>isC y=true∧Q (.bl (if neg then !sameC x y else sameC x y))
theorem gIsC.mono {neg:Bool}:∀ x y P P',(∀ d,P d→P' d)→gIsC neg x y P→gIsC neg x y P':=fun _ _ _ _ hp h=>⟨h.1,hp _ h.2⟩
end
mutual
def toR:D→Option PyData
  | .non=>some .none
  | .bl b=>some (.bool b)
  | .int i=>some (.int i)
  | .str x=>some (.str x)
  | .tup xs=>(toRs xs).map .tuple
  | .lst xs=>(toRs xs).map .list
  | .dic=>some (.dict [])
  | _=>none
def toRs:List D→Option (List PyData)
  | []=>some []
  | x::r=>match toR x,toRs r with
    | some a,some b=>some (a::b)
    | _,_=>none
end
mutual
def noL:D→Bool
  | .lst _=>false
  | .tup xs=>noLs xs
  | _=>true
def noLs:List D→Bool
  | []=>true
  | x::r=>noL x && noLs r
end
section
variable {X:Cx} {pins:List (Addr×Obj)} {σ:L2.St} {H:Hp} {s:Shared} {W:Wd}
def gRepR:List D→(D→Prop)→Prop:=fun ds Q=>∃ x p,ds=[x]∧toR x=some p∧p.showable=true∧(p.hasDict=true→noL x=true)∧p.depth≤32∧p.shown.length≤sizeLine∧Q (.str p.shown)
theorem gRepR.mono:∀ ds P P',(∀ d,P d→P' d)→gRepR ds P→gRepR ds P':=fun ds P P' hp ⟨x,p,h1,h2,h3,h4,h5,h6,h7⟩=>⟨x,p,h1,h2,h3,h4,h5,h6,hp _ h7⟩
end
mutual
def noD:D→Bool
  | .dic=>false
  | .tup xs=>noDs xs
  | .lst xs=>noDs xs
  | _=>true
def noDs:List D→Bool
  | []=>true
  | x::r=>noD x && noDs r
end
theorem noLs_iff:∀ {xs:List D},noLs xs=true↔∀ x∈xs,noL x=true
  | []=>by simp [noLs]
  | x::r=>by rw [noLs,Bool.and_eq_true,noLs_iff];simp
theorem noDs_iff:∀ {xs:List D},noDs xs=true↔∀ x∈xs,noD x=true
  | []=>by simp [noDs]
  | x::r=>by rw [noDs,Bool.and_eq_true,noDs_iff];simp
def rshow (x:D):Str:=((toR x).getD .none).shown
def dl (x:D):Bool:=noL x || noD x
theorem noL_shq (q:Rat):noL (shq q)=true:=rfl
theorem noD_shq (q:Rat):noD (shq q)=true:=rfl
theorem noL_rowq (r:List Rat):noL (rowq r)=true:=by
  unfold rowq
  rw [noL,noLs_iff]
  intro x hx
  obtain ⟨q,_,rfl⟩:=List.mem_map.mp hx
  exact noL_shq q
theorem noD_rowq (r:List Rat):noD (rowq r)=true:=by
  unfold rowq
  rw [noD,noDs_iff]
  intro x hx
  obtain ⟨q,_,rfl⟩:=List.mem_map.mp hx
  exact noD_shq q
def tabq (T:List (List Rat)):D:=.tup (T.map rowq)
def isTb:D→Bool
  | .tup xs=>decide (1≤xs.length) && decide (xs.length≤5) && xs.all (ZeT xs.length)
  | _=>false
structure IsT (T:List (List Rat)) (n:Nat):Prop where
  len:T.length=n
  row:∀ r∈T,r.length=n
  n1:1≤n
  n5:n≤5
def SzT (m:Nat) (T:List (List Rat)):Prop:=∀ r∈T,∀ x∈r,Sz m x
section
variable {E:Ex→Prop} {Q:D→Prop} {x y:D}
theorem IsT.tb {T:List (List Rat)} {n:Nat} (h:IsT T n):isTb (tabq T)=true:=by
  have h1:=h.n1
  have h5:=h.n5
  have hl:=h.len
  unfold isTb tabq
  simp only [List.length_map]
  rw [decide_eq_true (by omega),decide_eq_true (by omega)]
  simp only [Bool.true_and,List.all_eq_true]
  intro x hx
  obtain ⟨r,hr,rfl⟩:=List.mem_map.mp hx
  rw [hl,← h.row r hr]
  exact isRow_rowq r
end
namespace B
def ZbZ:Zav:=fnS (fun n:Str=>[.exc n]) (fun n=>n∈LX) fun n=>.tup [.str (knd n)]
def Zco:Zav:=ZaW
def ZaH:Zav:=Zcn
def Zbo:Zav:=ZeZ
def ZaX:Zav:=Zdv
def Zbm:Zav:=fnS (fun x:SL=>[Zax x.1]) (fun x=>IsSl x.1 x.2) fun x=>tblD x.1 x.2
def ansT:Except Str D→D
  | .ok v=>v
  | .error e=>.tup [.str (knd e)]
section
variable {E:Ex→Prop} {Q:D→Prop} {x y:D} {s:List Int} {n k:Nat} {r:List Rat} {a b:Int}
theorem u__law_refused {n:Str} (h:n∈LX) (q:Q (.tup [.str (knd n)])):ZbZ [.exc n] E Q:=⟨n,rfl,h,q⟩
theorem u__law_gcd (q:Q (.int (Int.gcd a b))):Zco [.int a,.int b] E Q:=⟨(a,b),rfl,trivial,q⟩
theorem ZcZ (h:kd x=true) (q:Q (.bl (isSh x))):ZaH [x] E Q:=⟨x,rfl,h,q⟩
theorem Zgn (h:kd x=true) (q:Q (.bl (ZeT a x))):Zbo [x,.int a] E Q:=⟨(x,a),rfl,h,q⟩
theorem Zdr (q:∀ s n,IsSl s n→Q (Zax s)):ZaX [.pen] E Q:=ZfM q
theorem Zgl (h:IsSl s n) (q:Q (tblD s n)):Zbm [Zax s] E Q:=⟨(s,n),rfl,h,q⟩
end
end B
namespace B
abbrev Zef:List Str:=["_law_e", "_law_kind"]
abbrev ZgB:List Str:=["_law_e"]
def ZcP:WS:=(zSeq (zSet 1 (wF Zb0 (Zab (wN 0) aNil))) (zSeq (zIf (wT (w2 (gEq false) (wN 1) (wC (D.str (PySem.Str.ofString "strong"))))) (zRet (wTup (Zab (wN 1) (Zab wNever aNil)))) zNx) (zRet (wTup (Zab (wN 1) aNil)))))
abbrev N__law_gcd:List Str:=["_law_one", "_law_other"]
abbrev ps__law_gcd:List Str:=["_law_one", "_law_other"]
def Ze7:WS:=(zSeq (zSet 0 (wB gAbs (Zab (wN 0) aNil))) (zSeq (zSet 1 (wB gAbs (Zab (wN 1) aNil))) (zSeq (zNox (zWhile (wT (w2 (gEq true) (wN 1) (wC (D.int (0))))) (zPar 0 1 (Zab (wN 1) (Zab (w2 gModI (wN 0) (wN 1)) aNil))))) (zRet (wN 0)))))
abbrev ZfK:List Str:=["_law_top", "_law_bottom", "_law_both"]
abbrev ps__law_share:List Str:=["_law_top", "_law_bottom"]
def ZdF:WS:=(zSeq (zSet 2 (wF Zco (Zab (wN 0) (Zab (wN 1) aNil)))) (zSeq (zIf (wT (w2 gLtI (wN 1) (wC (D.int (0))))) (zSet 2 (w1 gNeg (wN 2))) zNx) (zRet (wTup (Zab (w2 gFdv (wN 0) (wN 2)) (Zab (w2 gFdv (wN 1) (wN 2)) aNil))))))
abbrev Za6:List Str:=["_law_thing"]
def ZaL:WS:=(zSeq (zIf (wOr (wNot (wT (wB gIs (Zab (wN 0) (Zab (wC (.ty "tuple")) aNil))))) (wOr (wT (w2 (gEq true) (wB gLen (Zab (wN 0) aNil)) (wC (D.int (2))))) (wOr (wNot (wT (wF Zb9 (Zab (w2 gIx (wN 0) (wC (D.int (0)))) aNil)))) (wNot (wT (wF Zb9 (Zab (w2 gIx (wN 0) (wC (D.int (1)))) aNil))))))) (zRet (wC (D.bl false))) zNx) (zRet (Zbh (w2 gGtI (w2 gIx (wN 0) (wC (D.int (1)))) (wC (D.int (0)))) (w2 (gEq false) (wF Zco (Zab (w2 gIx (wN 0) (wC (D.int (0)))) (Zab (w2 gIx (wN 0) (wC (D.int (1)))) aNil))) (wC (D.int (1)))))))
abbrev ZdX:List Str:=["_law_thing", "_law_size"]
abbrev ZfZ:List Str:=["_law_thing", "_law_size"]
def Zct:WS:=(zRet (Zbh (wB gIs (Zab (wN 0) (Zab (wC (.ty "tuple")) aNil))) (Zbh (w2 (gEq false) (wB gLen (Zab (wN 0) aNil)) (wN 1)) (wB gAll (Zab (wL (aLC (iS (wN 0)) 1 [] (gN 0) ZaF (wF ZaH (Zab (wN 0) aNil)))) aNil)))))
abbrev Zdy:List Str:=["_law_pen", "_law_size", "_law_most", "_law_found", "_law_way", "_law_step"]
abbrev Zfe:List Str:=["_law_pen"]
def Zcc:WS:=(zSeq (zSet 1 (w2 gAdd (wC (D.int (1))) (wF Zar (Zab (wN 0) (Zab (wC (D.int (5))) aNil))))) (zSeq (zSet 2 (w2 gIx (wL (aLst (Zab (wC (D.int (1))) (Zab (wC (D.int (2))) (Zab (wC (D.int (3))) (Zab (wC (D.int (9))) (Zab (wC (D.int (50))) aNil))))))) (wF Zar (Zab (wN 0) (Zab (wC (D.int (5))) aNil))))) (zSeq (zOwn 3 (aLC (iR1 (Zab (w2 ZcW (w2 gMul (wC (D.int (2))) (wN 1)) (wC (D.int (1)))) aNil)) 1 [0,2] (gN 0) ZaF (w2 ZcW (wF Zar (Zab (wN 1) (Zab (w2 gAdd (w2 gMul (wC (D.int (2))) (wN 2)) (wC (D.int (1)))) aNil))) (wN 2)))) (zSeq (zSet 4 (wF Zar (Zab (wN 0) (Zab (wC (D.int (10))) aNil)))) (zSeq (zSet 5 (w2 gAdd (wC (D.int (1))) (wF Zar (Zab (wN 0) (Zab (wC (D.int (3))) aNil))))) (zSeq (zIf (wT (w2 (gEq false) (wN 4) (wC (D.int (0))))) (zOwn 3 (aBor 3 (aCut (w2 gMul (wCut (wN 3) Za8 (ZaZ (wN 5))) (wC (D.int (9)))) Za8 (ZaZ (wB gLen (Zab (wN 3) aNil)))))) zNx) (zSeq (zIf (wT (w2 (gEq false) (wN 4) (wC (D.int (1))))) (Zb5 3 (w2 ZcW (wN 1) (wC (D.int (1)))) (w2 gIx (wL (aLst (Zab (wC (D.int (50))) (Zab (w1 gNeg (wC (D.int (50)))) (Zab (wC (D.int (0))) aNil))))) (wF Zar (Zab (wN 0) (Zab (wC (D.int (3))) aNil))))) zNx) (zSeq (zIf (wT (w2 (gEq false) (wN 4) (wC (D.int (2))))) (zOwn 3 (aBor 3 (aLC (iS (wN 3)) 1 [0] (gN 0) ZaF (w2 gMul (wN 0) (wB gInt (Zab (w2 (gEq false) (wF Zar (Zab (wN 1) (Zab (wC (D.int (3))) aNil))) (wC (D.int (0)))) aNil)))))) zNx) (zSeq (zIf (wT (w2 (gIn false) (wN 4) (wTup (Zab (wC (D.int (3))) (Zab (wC (D.int (4))) (Zab (wC (D.int (5))) aNil)))))) (zOwn 3 (aBor 3 (aAdd (wCut (wN 3) Za8 (ZaZ (wN 1))) (w1 gRev (wCut (wN 3) Za8 (ZaZ (w2 ZcW (wN 1) (wC (D.int (1)))))))))) zNx) (zPub 3 (zRet (wB ZcD (Zab (wN 3) aNil)))))))))))))
abbrev ZdV:List Str:=["_law_slants", "_law_size"]
abbrev ZfX:List Str:=["_law_slants"]
def Zcr:WS:=(zSeq (zSet 1 (w2 gFdv (w2 gAdd (wB gLen (Zab (wN 0) aNil)) (wC (D.int (1)))) (wC (D.int (2))))) (zRet (wL (aLC (iR1 (Zab (wN 1) aNil)) 1 [0,1] (gN 0) ZaF (wL (aLC (iR1 (Zab (wN 2) aNil)) 1 [0,1,2] (gN 0) ZaF (w2 gIx (wN 2) (w2 ZcW (w2 gAdd (w2 ZcW (wN 0) (wN 1)) (wN 3)) (wC (D.int (1)))))))))))
end B
theorem SzT.mono {m m':Nat} {T:List (List Rat)} (h:SzT m T) (l:m≤m'):SzT m' T:=fun r hr x hx=>(h r hr x hx).mono l
namespace B
theorem Zgt:∀ ds E Q,ZbZ ds E Q→ZcP No { nx:=fun _=>Q .non,rt:=Q } (rho Zef ds):=by
  rintro _ E Q ⟨n,rfl,hn,q⟩
  unfold ZcP
  walk_at "nx"
  refine u__law_kind_of hn ?_
  have h:okD (.str (knd n)) 60=true∧deq (.str (knd n)) (.str "strong")=false:=by
    simp only [LX,List.mem_cons,List.not_mem_nil,or_false] at hn
    rcases hn with rfl | rfl | rfl | rfl | rfl | rfl<;>exact ⟨by decide +kernel,by decide +kernel⟩
  walk_at "nx"
  refine Zc2 h.1 (by decide +kernel) ?_
  rw [h.2]
  walk_at "st"
  exact ⟨by decide,q⟩
theorem rd__law_gcd:∀ ds E Q,Zco ds E Q→Ze7 E { nx:=fun _=>Q .non,rt:=Q } (rho N__law_gcd ds):=by
  rintro _ E Q ⟨⟨a,b⟩,rfl,_,q⟩
  unfold Ze7
  walk_at "nx"
  walk_at "nx"
  refine Zah ?_
  rw [abs_if,abs_if]
  simp only [zNox,zWhile]
  refine ⟨fun m ρ=>∃ x y:Int,m=y.natAbs∧ρ=[.d (.int x),.d (.int y)]∧0≤x∧0≤y∧Int.gcd x y=Int.gcd a b,⟨_,_,_,rfl,rfl,by omega,by omega,by simp [Int.gcd]⟩,?_⟩
  rintro m _ ⟨x,y,rfl,rfl,hx,hy0,hg⟩
  walk_at "st"
  by_cases hy:y=0
  · subst hy
    simp only [beq_self_eq_true,Bool.not_true,Bool.false_eq_true,if_false]
    rw [Int.gcd_zero_right] at hg
    rw [← hg] at q
    have:x=((x.natAbs:Nat):Int):=by omega
    rw [← this] at q
    exact q
  · rw [if_pos (by simpa using hy)]
    refine ⟨hy,?_⟩
    walk_at "st"
    exact ⟨_,ZgV x hy,_,_,rfl,rfl,hy0,Int.fmod_nonneg_of_pos _ (by omega),by rw [gcd_fmod];exact hg⟩
theorem rd__law_share:∀ ds E Q,ZaQ ds E Q→ZdF E { nx:=fun _=>Q .non,rt:=Q } (rho ZfK ds):=by
  rintro _ E Q ⟨⟨t,b⟩,rfl,⟨hb,hd⟩,q⟩
  have hg:0 < Int.gcd t b:=Int.gcd_pos_of_ne_zero_right _ hb
  have hle:Int.gcd t b≤b.natAbs:=Nat.le_of_dvd (by omega) (Int.gcd_dvd_natAbs_right ..)
  obtain ⟨e1,e2⟩:=norm_eq (t:=t) hb
  unfold shq at q
  dsimp only at q e1 e2
  rw [← e1,← e2] at q
  unfold ZdF
  walk_at "nx"
  refine u__law_gcd ?_
  walk_at "nx"
  by_cases h:b < 0
  · simp only [h,decide_true,if_true] at q ⊢
    walk_at "st"
    refine ⟨⟨by omega,Bd.le (by omega) hd⟩,⟨by omega,Bd.le (by omega) hd⟩,by simp [small],q⟩
  · simp only [h,decide_false,if_false,Bool.false_eq_true] at q ⊢
    walk_at "st"
    refine ⟨⟨by omega,Bd.le (by omega) hd⟩,⟨by omega,Bd.le (by omega) hd⟩,by simp [small],q⟩
theorem ZfS:∀ ds E Q,Zbo ds E Q→Zct E { nx:=fun _=>Q .non,rt:=Q } (rho ZdX ds):=by
  rintro _ E Q ⟨⟨x,n⟩,rfl,hk,q⟩
  unfold Zct
  walk_at "st"
  refine Zdt hk (by decide) fun t ht=>?_
  cases x<;>cases ht<;>try exact q
  rename_i xs
  obtain ⟨hl,hx⟩:=ZfD hk
  walk_at "st"
  simp only [show isTy "tuple" "tuple" = true from rfl,if_true]
  by_cases h:(xs.length:Int)=n
  · rw [if_pos (by simp [h])]
    refine ZgU (f:=fun d=>.bl (isSh d)) (fun d hd Q hq=>?_) .un [] (by simp [small];omega) ?_
    · walk_at "st"
      exact ZcZ (hx d hd) hq
    · refine ⟨xs.map isSh,by simp,?_⟩
      simpa [List.all_map,Function.comp_def,ZeT,h] using q
  · rw [if_neg (by simpa using h)]
    have e:((xs.length:Int) == n)=false:=by simpa using h
    simpa [ZeT,e] using q
theorem rd__law_share_like:∀ ds E Q,ZaH ds E Q→ZaL E { nx:=fun _=>Q .non,rt:=Q } (rho Za6 ds):=by
  rintro _ E Q ⟨x,rfl,hk,q⟩
  unfold ZaL
  walk_at "nx"
  refine Zdt hk (by decide) fun t ht=>?_
  cases x<;>cases ht<;>try exact q
  rename_i xs
  obtain ⟨hl,hx⟩:=ZfD hk
  walk_at "st"
  simp only [show isTy "tuple" "tuple" = true from rfl,Bool.not_true,Bool.false_eq_true,if_false]
  by_cases h2:xs.length=2
  · match xs,h2,hx,q with
    | [a,b],_,hx,q=>
    rw [if_neg (by simp)]
    refine ⟨a,rfl,Zfx (hx a (by simp)) ?_⟩
    walk_at "st"
    cases ha:isW a with
    | false=>rw [isSh_a ha] at q;exact q
    | true=>
      obtain ⟨i,rfl⟩:=isW_get ha
      simp only [Bool.not_true,Bool.false_eq_true,if_false]
      refine ⟨b,rfl,Zfx (hx b (by simp)) ?_⟩
      walk_at "st"
      cases hb:isW b with
      | false=>rw [isSh_b hb] at q;exact q
      | true=>
        obtain ⟨j,rfl⟩:=isW_get hb
        simp only [Bool.not_true,Bool.false_eq_true,if_false]
        walk_at "st"
        refine ⟨_,rfl,?_⟩
        walk_at "st"
        by_cases h:0 < j
        · simp only [show j > 0 from h,decide_true,if_true]
          refine ⟨_,rfl,_,rfl,u__law_gcd ?_⟩
          walk_at "st"
          have:isSh (.tup [.int i,.int j])=(((Int.gcd i j:Nat):Int) == 1):=by
            simp only [isSh,h,decide_true,Bool.true_and]
            rw [Bool.eq_iff_iff];simp;omega
          rw [this] at q
          simpa using q
        · have h':¬ j > 0:=h
          simp only [h',decide_false,if_false,Bool.false_eq_true]
          simpa [isSh,h] using q
  · rw [isSh_len h2] at q
    rw [if_pos (by simpa using fun z=>h2 (by exact_mod_cast z))]
    exact q
theorem ZfQ:∀ ds E Q,Zbm ds E Q→Zcr E { nx:=fun _=>Q .non,rt:=Q } (rho ZdV ds):=by
  rintro _ E Q ⟨⟨s,n⟩,rfl,h,q⟩
  dsimp only at h q
  have h5:=h.n5
  have hsl:=h.len
  unfold Zcr
  walk_at "nx"
  refine ⟨⟨by decide,ZcE (n:=2) (by decide) (by omega)⟩,?_⟩
  rw [Int.fdiv_eq_ediv_of_nonneg _ (by decide),show ((s.length:Int)+1) / 2=n by omega]
  walk_at "st"
  refine ⟨by omega,by omega,?_⟩
  rw [rng0]
  refine ZgT (g:=fun k:Nat=>D.int (k:Int)) (f:=fun i=>Zaq ((List.range n).map fun j=>ent s n i j)) (List.range n) (fun i hi Q hq=>?_) .un [] (by simp [small];omega) ?_
  · rw [List.mem_range] at hi
    walk_at "st"
    refine ⟨by omega,by omega,?_⟩
    rw [rng0]
    refine ZgT (g:=fun k:Nat=>D.int (k:Int)) (f:=fun j=>D.int (ent s n i j)) (List.range n) (fun j hj Q hq=>?_) .un [] (by simp [small];omega) ?_
    · rw [List.mem_range] at hj
      walk_at "st"
      have e1:(s.map D.int)[n - 1 - i+j]? = some (.int (ent s n i j)):=by
        unfold ent
        rw [List.getElem?_map,List.getD_eq_getElem?_getD,List.getElem?_eq_getElem (by omega)];rfl
      exact ⟨_,atN (k:=n - 1 - i+j) (by omega) e1,hq⟩
    · rw [List.nil_append]
      unfold Zaq at hq
      rw [List.map_map] at hq
      exact hq
  · rw [List.nil_append]
    unfold tblD at q
    rw [tbl_ent h,List.map_map] at q
    exact q
end B
namespace B
theorem bd_le {i:Int} {k:Nat} (h:i.natAbs≤2 ^ k) (l:k < 8990):Bd i:=Nat.lt_of_le_of_lt h (Nat.pow_lt_pow_right (by decide) l)
theorem dot_step {t b:Int} {x y:Rat} (hb:b≠0):Rat.divInt (t*(x.den:Int)*(y.den:Int)+x.num*y.num*b) (b*(x.den:Int)*(y.den:Int))=Rat.divInt t b+x*y:=by
  have hx:((x.den:Int))≠0:=by have:=x.den_nz;omega
  have hy:((y.den:Int))≠0:=by have:=y.den_nz;omega
  conv=>rhs;rw [← Rat.num_divInt_den x,← Rat.num_divInt_den y]
  rw [Rat.divInt_mul_divInt,Rat.divInt_add_divInt _ _ hb (Int.mul_ne_zero hx hy),Int.mul_assoc,Int.mul_assoc b]
theorem cut_two {α:Type} (xs:List α) (k:Nat):(cutD xs none (some (k:Int))).length+(cutD xs (some ((k:Int)+1)) none).length≤xs.length:=by
  unfold cutD
  rw [show (k:Int)+1=((k+1:Nat):Int) by omega,HT.sIx_nat,HT.sIx_none,HT.sIx_nat,HT.sIx_none]
  simp only [List.length_take,List.length_drop]
  omega
theorem Zey {α:Type} {xs:List α} {a b:Option Int} {x:α} (h:x∈cutD xs a b):x∈xs:=by unfold cutD at h;exact List.mem_of_mem_drop (List.mem_of_mem_take h)
theorem dl_tup {xs:List D} (h:(∀ x∈xs,noL x=true)∨∀ x∈xs,noD x=true):dl (.tup xs)=true:=by
  unfold dl
  rw [noL,noD,Bool.or_eq_true,noLs_iff,noDs_iff]
  exact h
end B
namespace B
theorem set_lst {i:Nat} {t:WA} {E:Ex→Prop} {N:Nds} {ρ:Rho} {xs:List D} (ht:∀ P:List D→Prop,P xs→t E ρ P) (hl:xs.length≤small) (h:N.nx (ρ.set i (.d (.lst xs)))):zSet i (wL (aLst t)) E N ρ:=ht _ ⟨hl,h⟩
theorem args_nil {E:Ex→Prop} {ρ:Rho}:∀ P:List D→Prop,P []→aNil E ρ P:=fun _ h=>h
theorem Zau {w:WE} {t:WA} {E:Ex→Prop} {ρ:Rho} {d:D} {xs:List D} (hw:∀ P:D→Prop,P d→w E ρ P) (ht:∀ P:List D→Prop,P xs→t E ρ P):∀ P:List D→Prop,P (d::xs)→Zab w t E ρ P:=fun P h=>hw _ (ht _ h)
theorem Zd9 {i:Nat} {E:Ex→Prop} {ρ:Rho} {d:D} (h:ρ[i]? = some (.d d)):∀ P:D→Prop,P d→wN i E ρ P:=fun P q=>by unfold wN;rw [h];exact q
theorem c_at {E:Ex→Prop} {ρ:Rho} {d:D}:∀ P:D→Prop,P d→wC d E ρ P:=fun _ h=>h
theorem Zfa:∀ ds E Q,ZaX ds E Q→Zcc E { nx:=fun _=>Q .non,rt:=Q } (rho Zdy ds):=by
  rintro _ E Q ⟨_,rfl,_,q⟩
  have fin:∀ (s:List Int) (n:Nat),s.length+1=2*n→1≤n→n≤5→(∀ x∈s,-50≤x∧x≤50)→Q (D.tup (s.map D.int)):=fun s n h1 h2 h3 h4=>q _ ⟨s,n,⟨h1,h2,h3,h4⟩,rfl⟩
  unfold Zcc
  walk_at "nx"
  refine Zay (n:=5) (by decide) (by decide) fun k hk=>?_
  walk_at "st"
  walk_at "nx"
  refine ⟨by decide,Zay (n:=5) (by decide) (by decide) fun sp hsp=>?_⟩
  have hgr:∃ g:Nat,(1≤g∧g≤50)∧atI [D.int 1,D.int 2,D.int 3,D.int 9,D.int 50] (sp:Int)=some (.int g):=by
    have:sp=0∨sp=1∨sp=2∨sp=3∨sp=4:=by omega
    rcases this with rfl | rfl | rfl | rfl | rfl
    · exact ⟨1,by decide,rfl⟩
    · exact ⟨2,by decide,rfl⟩
    · exact ⟨3,by decide,rfl⟩
    · exact ⟨9,by decide,rfl⟩
    · exact ⟨50,by decide,rfl⟩
  obtain ⟨g,hg,hat⟩:=hgr
  refine ⟨_,hat,?_⟩
  walk_at "nx"
  refine ⟨⟨ZcE (n:=2) (by decide) (by omega),ZcE (n:=10) (by omega) (by omega)⟩,by omega,by omega,?_⟩
  refine lc_some (R:=fun _ y=>∃ i:Int,y = .int i∧-50≤i∧i≤50) (fun d hd Q hq=>?_) .un [] (by simp [rng,small];omega) fun ys hl hys=>?_
  · walk_at "st"
    refine ⟨⟨ZcE (n:=2) (by decide) (by omega),ZcE (n:=10) (by omega) (by omega)⟩,?_⟩
    have e:(2:Int)*(g:Int)+1=((2*g+1:Nat):Int):=by omega
    rw [e]
    refine Zay (by omega) (by omega) fun j hj=>?_
    walk_at "st"
    exact hq _ ⟨_,rfl,by omega,by omega⟩
  · obtain ⟨s,rfl,hs⟩:=ints_of fun y hy=>let ⟨_,_,h⟩:=hys y hy;h
    simp only [rng,List.length_map,List.length_range] at hl
    rw [List.nil_append]
    have hm:∀ x∈s,-50≤x∧x≤50:=hs
    have hsl:s.length+1=2*(1+k):=by omega
    have hn:(1:Int)+(k:Int)=((1+k:Nat):Int):=by omega
    generalize 1+k=n at hn hsl
    have n1:1≤n:=by omega
    have n5:n≤5:=by omega
    rw [hn]
    clear hl hys hat hsp hk q hn
    walk_at "nx"
    refine Zay (n:=10) (by decide) (by decide) fun way hw=>?_
    walk_at "nx"
    refine Zay (n:=3) (by decide) (by decide) fun st hst=>?_
    walk_at "st"
    have c1:∀ {s:List Int},s.length+1=2*n→cutD (s.map D.int) none (some (n:Int))=(s.take n).map D.int:=fun _=>by rw [Zed rfl,List.map_take]
    have c2:∀ {s:List Int},s.length+1=2*n→cutD (s.map D.int) none (some ((n:Int) - 1))=(s.take (n - 1)).map D.int:=fun _=>by rw [Zed (b:=n - 1) (by omega),List.map_take]
    have c3:∀ {s:List Int},cutD (s.map D.int) none (some (1+(st:Int)))=(s.take (1+st)).map D.int:=fun {s}=>by rw [Zed (b:=1+st) (by omega),List.map_take]
    have mt:∀ {s:List Int} {j:Nat},(∀ x∈s,-50≤x∧x≤50)→∀ x∈s.take j,-50≤x∧x≤50:=fun h x hx=>h x (List.mem_of_mem_take hx)
    have fl:∀ (m:Nat) (l:List Int),(List.replicate m (l.map D.int)).flatten=(List.replicate m l).flatten.map D.int:=fun m l=>by
      rw [List.map_flatten,List.map_replicate]
    refine ZeG (fun ρ=>∃ s:List Int,ρ=[.d .pen,.d (.int n),.d (.int g),.ow (s.map .int),.d (.int way),.d (.int (1+(st:Int)))]∧s.length+1=2*n∧∀ x∈s,-50≤x∧x≤50) (fun nx hnx=>?_) ?_
    · walk_at "st"
      split
      · have hlt:(s.take (1+st)).length≤9:=by rw [List.length_take];omega
        rw [c3,fl,Zed (b:=s.length) (by rw [List.length_map]),← List.map_take]
        refine ⟨by decide,by decide,?_,Zfl _,hnx _ ⟨_,rfl,?_,fun x hx=>?_⟩⟩
        · rw [List.length_map,List.length_take]
          have:(9:Int).toNat=9:=rfl
          rw [this]
          unfold small
          omega
        · rw [List.length_take,List.length_flatten,List.map_replicate,List.sum_replicate_nat,List.length_take]
          have e9:(9:Int).toNat=9:=rfl
          rw [e9]
          have:9*1≤9*min (1+st) s.length:=Nat.mul_le_mul_left _ (by omega)
          omega
        · have:=List.mem_of_mem_take hx
          rw [List.mem_flatten] at this
          obtain ⟨l,hl,hxl⟩:=this
          rw [(List.mem_replicate.mp hl).2] at hxl
          exact mt hm x hxl
      · exact hnx _ ⟨s,rfl,hsl,hm⟩
    clear hs hm hsl s
    rintro _ ⟨s,rfl,hsl,hm⟩
    refine ZeG (fun ρ=>∃ s:List Int,ρ=[.d .pen,.d (.int n),.d (.int g),.ow (s.map .int),.d (.int way),.d (.int (1+(st:Int)))]∧s.length+1=2*n∧∀ x∈s,-50≤x∧x≤50) (fun nx hnx=>?_) ?_
    · walk_at "st"
      split
      · refine ⟨by decide,Zay (n:=3) (by decide) (by decide) fun k3 hk3=>?_⟩
        have hv:∃ i:Int,(-50≤i∧i≤50)∧atI [D.int 50,D.int (-50),D.int 0] (k3:Int)=some (.int i):=by
          have:k3=0∨k3=1∨k3=2:=by omega
          rcases this with rfl | rfl | rfl
          · exact ⟨50,by decide,rfl⟩
          · exact ⟨-50,by decide,rfl⟩
          · exact ⟨0,by decide,rfl⟩
        obtain ⟨i,hi,hat⟩:=hv
        refine ⟨_,hat,?_⟩
        walk_at "st"
        refine ⟨n - 1,?_,hnx _ ⟨s.set (n - 1) i,by rw [List.map_set],by rw [List.length_set];exact hsl,fun x hx=>?_⟩⟩
        · unfold ixN
          rw [if_pos (by omega),if_pos (by rw [List.length_map];omega),show ((n:Int) - 1).toNat=n - 1 by omega]
        · rcases List.mem_or_eq_of_mem_set hx with hx | rfl
          · exact hm x hx
          · exact hi
      · exact hnx _ ⟨s,rfl,hsl,hm⟩
    clear hm hsl s
    rintro _ ⟨s,rfl,hsl,hm⟩
    refine ZeG (fun ρ=>∃ s:List Int,ρ=[.d .pen,.d (.int n),.d (.int g),.ow (s.map .int),.d (.int way),.d (.int (1+(st:Int)))]∧s.length+1=2*n∧∀ x∈s,-50≤x∧x≤50) (fun nx hnx=>?_) ?_
    · walk_at "st"
      split
      · refine lc_some (R:=fun _ y=>∃ i:Int,y = .int i∧-50≤i∧i≤50) (fun d hd Q hq=>?_) .un [] (by simp [small];omega) fun ys hl hys=>?_
        · obtain ⟨i,hi,rfl⟩:=List.mem_map.mp hd
          have hi':=hm i hi
          walk_at "st"
          refine Zay (n:=3) (by decide) (by decide) fun k3 hk3=>?_
          walk_at "st"
          refine ⟨⟨ZcE (n:=10) (by omega) (by omega),?_⟩,hq _ ⟨_,rfl,?_⟩⟩
          · split<;>exact ZcE (n:=2) (by decide) (by omega)
          · split<;>omega
        · obtain ⟨s',rfl,hs'⟩:=ints_of fun y hy=>let ⟨_,_,h⟩:=hys y hy;h
          rw [List.nil_append]
          rw [List.length_map,List.length_map] at hl
          exact ⟨Zfl _,hnx _ ⟨s',rfl,by omega,hs'⟩⟩
      · exact hnx _ ⟨s,rfl,hsl,hm⟩
    clear hm hsl s
    rintro _ ⟨s,rfl,hsl,hm⟩
    refine ZeG (fun ρ=>∃ s:List Int,ρ=[.d .pen,.d (.int n),.d (.int g),.ow (s.map .int),.d (.int way),.d (.int (1+(st:Int)))]∧s.length+1=2*n∧∀ x∈s,-50≤x∧x≤50) (fun nx hnx=>?_) ?_
    · walk_at "st"
      refine ⟨by decide,way,[3,4,5],rfl,.inr rfl,?_⟩
      walk_at "st"
      split
      · rw [c1 hsl,c2 hsl,← List.map_reverse,← List.map_append]
        refine ⟨?_,Zfl _,hnx _ ⟨_,rfl,?_,fun x hx=>?_⟩⟩
        · simp [small];omega
        · simp only [List.length_append,List.length_reverse,List.length_take];omega
        · rcases List.mem_append.mp hx with hx | hx
          · exact mt hm x hx
          · exact mt hm x (List.mem_reverse.mp hx)
      · exact hnx _ ⟨s,rfl,hsl,hm⟩
    clear hm hsl s
    rintro _ ⟨s,rfl,hsl,hm⟩
    walk_at "st"
    exact fin s n hsl n1 n5 hm
end B
end LP
namespace L2
open PySem PySem.Spec PyProof.Rows
theorem draws_sq {κ:Bool} {prog:Program} {w:World} {A:Around} (hh:A.handled=none) (it l:Addr) (hne:l≠it) (xs:Array Value):Draws prog w A it [it,l] xs.size (fun i v=>xs[i]? = some v) (fun i h=>SIt κ h it l i∧SSq κ h l xs) where
  live:=fun _ _ st=>let ⟨o,ho,_⟩:=st.1.obj;⟨o,ho⟩
  frame:=fun _ _ _ st hk=>⟨st.1.keep fun o e=>hk it (by simp) o e,st.2.keep fun o e=>hk l (by simp) o e⟩
  item:=fun i s Q E hi st hQ=>Zdp st.1 st.2 (x:=xs[i]) (by simp [hi]) fun h' hit' hs'=>hQ _ h' s.toks (by simp [hi]) ⟨hit',st.2.keep fun o e=>hs'.extBut l o hne e⟩ hs'
  done:=fun s Q E st hE=>Zd3 hh st.1 st.2 (by simp) hE
theorem draws_end {κ:Bool} {prog:Program} {w:World} {A:Around} (hh:A.handled=none) (it l:Addr) (xs:Array Value) (n:Nat) (hn:xs[n]? = none):Draws prog w A it [it,l] n (fun _ _=>False) (fun j h=>j=n∧SIt κ h it l n∧SSq κ h l xs) where
  live:=fun _ _ st=>let ⟨o,ho,_⟩:=st.2.1.obj;⟨o,ho⟩
  frame:=fun _ _ _ st hk=>⟨st.1,st.2.1.keep fun o e=>hk it (by simp) o e,st.2.2.keep fun o e=>hk l (by simp) o e⟩
  item:=fun i s Q E hi st hQ=>absurd st.1 (Nat.ne_of_lt hi)
  done:=fun s Q E st hE=>Zd3 hh st.2.1 st.2.2 hn hE
abbrev eg1 (κ:Bool) (h:Heap) (l:Addr):Heap:=h.push (io κ l)
abbrev eg2 (κ:Bool) (h:Heap) (l:Addr):Heap:=(eg1 κ h l).push { cls:=.type "enumerate",data:=.fields #[.none,.bool false,.ref h.objs.size,rawInt 0,.none,.none] }
theorem meets_enumT (l:Addr) (xs:Array Value) (n:Nat) (dct:Option Addr) (sl:Array (Option Value)) :
    Meets (Builtin.«enumerate.__new__» ⟨[.type "enumerate",.ref l],[]⟩) (fun _ R s=>s.heap.get? l=some { cls:=.type "tuple",dict:=dct,data:=.seq xs n,slots:=sl }∧R (.ok (.ret (.ref (eg1 true s.heap l).objs.size))) { s with heap:=eg2 true s.heap l }):=
  .of_wp fun prog w A R s h=>by
    obtain ⟨hp,g,d,tk,os⟩:=s;obtain ⟨hl,h⟩:=h
    have hsub:=sub_enumerate
    have hT:SSq true (Shared.heap ⟨hp,g,d,tk,os⟩) l xs:=(show Heap.IsTuple _ l xs from ⟨_,hl,rfl,n,rfl⟩)
    wp_walk using AutoSeq1.wpAny_loadPart' hl
    refine wpAny_stack_any fun st=>(wpAny_pure ?_)
    split
    · rename_i c _ _ _ _ _
      cases (c == Value.type "enumerate")<;>(wp_walk using AutoSeq1.wpAny_loadPart' hl,ZeK hT;exact ⟨_,rfl,h⟩)
    · wp_walk using AutoSeq1.wpAny_loadPart' hl,ZeK hT
      exact ⟨_,rfl,h⟩
theorem call_enum {κ:Bool} {prog:Program} {w:World} {A:Around} {E:Value→Shared→Prop} {s:Shared} {l:Addr} {xs:Array Value} {Q:Value→Shared→Prop} (hL:SSq κ s.heap l xs)
    (h:∀ h',IsEnum h' (s.heap.objs.size+1) s.heap.objs.size 0 .none→SIt κ h' s.heap.objs.size l 0→(∀ b o,s.heap.get? b=some o→h'.get? b=some o)→Q (.ref (s.heap.objs.size+1)) { s with heap:=h' }) :
    wpAny (model prog w) A (call (.type "enumerate") [.ref l]) Q E s:=by
  cases κ with
  | false=>exact call_enumerate_list hL fun h' he hi _ hk=>h h' he hi hk
  | true=>
    obtain ⟨⟨c,dct,dt,sl⟩,hl,hc,n,hd⟩:=(show s.heap.IsTuple l xs from hL)
    replace hc:c = .type "tuple" :=hc
    replace hd:dt = .seq xs n:=hd
    subst hc hd
    refine callType_new F.called_enumerate (by decide) (F.typeCall_enumerate_1 _) (F.newCall_enumerate_1 _) (fun obj=>F.args_object_init_2 obj _) F.entry_enumerate_new (meets_enumT l xs n dct sl) ⟨hl,?_⟩
    have hz:(eg1 true s.heap l).objs.size=s.heap.objs.size+1:=Heap.size_push ..
    have g2:(eg2 true s.heap l).get? (eg1 true s.heap l).objs.size=some _:=Heap.get?_push_size _ rfl
    have g1:(eg2 true s.heap l).get? s.heap.objs.size=some _:=Heap.get?_push_of_some _ (Heap.get?_push_size _ rfl)
    show _∧_
    rw [hz] at g2 ⊢
    exact ⟨⟨_,g2,rfl⟩,h _ g2 (io_it g1) fun b o x=>Heap.get?_push_of_some _ (Heap.get?_push_of_some _ x)⟩
def Ite (K:PySem.W.Frag) (κ:Bool) (a:Addr):It:=
  ⟨fun i H=>∃ xs x,Sq K κ H a xs∧xs[i]? = some x,
   fun i H v H'=>∃ p x,v = .ref p∧H p=none∧H'=upd H p (.tup [.int i,x])∧∀ xs,Sq K κ H a xs→xs[i]? = some x,
   fun i H=>∃ xs,Sq K κ H a xs∧xs.length≤i⟩
theorem turn_enum {P:Program} {w:World} {K:PySem.W.Frag} {es:List Expr} {n1:Nat} {ps:Pos} {κ:Bool} (a e it:Addr) (hne:e≠it) :
    Turn P w K (.Tuple es n1 ps) (Ite K κ a) [e,it] e (fun i h=>(∃ old,IsEnum h e it i old)∧SIt κ h it a i) where
  mem:=by simp
  obj:=fun i h ⟨⟨old,q1⟩,q2⟩ c hc=>by
    simp only [List.mem_cons,List.not_mem_nil,or_false] at hc
    rcases hc with rfl | rfl
    · exact ⟨_,q1,fun v e=>by cases e⟩
    · exact q2.obj
  keep:=fun i h h' ⟨⟨old,q1⟩,q2⟩ k=>⟨⟨old,k e (by simp) _ q1⟩,q2.keep fun o x=>k it (by simp) o x⟩
  item:=by
    intro X hP hw hK hc i pins s σ H E I hf ⟨⟨old,q1⟩,q2⟩ hg
    subst hP hw hK
    obtain ⟨xs,x,hx,ex⟩:=hg
    obtain ⟨its,rv,p,hz⟩:=I.sq hx
    obtain ⟨ux,hux,rux⟩:=rv.get ex
    have oe:=I.sq_out hx (hf e (by simp))
    have oi:=I.sq_out hx (hf it (by simp))
    have hi:i < its.toArray.size:=by have:=(List.getElem?_eq_some_iff.mp hux).1;simpa using this
    refine wpAny_pyNext_enum_itemD (draws_sq (κ:=κ) (A:=X.A.in1) (I.ok.hd hc) it a oi its.toArray) q1 ⟨q2,p⟩ hi hne (by simp [hne,Ne.symm oe]) fun y h' tk b1 b2 b3 b4 b5 b6=>⟨_,rfl,?_⟩
    have ey:y=ux:=by
      have:its[i]? = some y:=by simpa using b1
      rw [hux] at this
      exact (Option.some.inj this).symm
    subst ey
    refine wpAny_letOwnedTupleGo_enum (s:={ s with heap:=h',toks:=tk+1 }) b2 fun h2 c1 c2=>?_
    have lt:∀ {c o},s.heap.get? c=some o→c≠s.heap.objs.size:=fun z=>Nat.ne_of_lt (Heap.lt_size z)
    have el:=lt q1
    have up:∀ c o,c∉[e,it]→s.heap.get? c=some o→h2.get? c=some o:=fun c o hc z=>by
      simp only [List.mem_cons,List.not_mem_nil,or_false,not_or] at hc
      exact c2.extBut _ _ hc.1 (b6 c o hc.1 hc.2 z)
    refine ⟨.ref s.heap.objs.size,upd H s.heap.objs.size (.tup [.int i,x]),Inv.turnedN (s:=s) (t':=tk+1) [e,it] I up hf (Nat.le_refl _) ?_,rfl,⟨s.heap.objs.size,x,rfl,I.fresh,rfl,fun xs' h'=>by rw [I.sq_inj h' hx];exact ex⟩,?_,fun c hc=>?_⟩
    · refine ⟨by rw [sizeLine_eq];simp,[.int i tk,y],.cons ⟨_,rfl⟩ (.cons rux .nil),?_⟩
      exact ⟨_,c2.extBut _ _ (Ne.symm el) b4,rfl,_,rfl⟩
    · exact ⟨⟨_,by simpa using c1⟩,b3.1.keep fun o z=>c2.extBut _ o (Ne.symm hne) z⟩
    · have he:∃ o,s.heap.get? c=some o:=by
        simp only [List.mem_cons,List.not_mem_nil,or_false] at hc
        rcases hc with rfl | rfl
        · exact ⟨_,q1⟩
        · obtain ⟨o,z,_⟩:=q2.obj;exact ⟨o,z⟩
      obtain ⟨o,z⟩:=he
      rw [upd_ne (lt z)]
      exact (hf c hc).1
  done:=by
    intro X hP hw hK hc i pins s σ H E I hf ⟨⟨old,q1⟩,q2⟩ hg
    subst hP hw hK
    obtain ⟨xs,hx,en⟩:=hg
    obtain ⟨its,rv,p,hz⟩:=I.sq hx
    have l1:=rv.length
    have oi:=I.sq_out hx (hf it (by simp))
    refine wpAny_pyNext_enum_endD (draws_end (κ:=κ) (A:=X.A.in1) (I.ok.hd hc) it a its.toArray i (by simp;omega)) q1 ⟨rfl,q2,p⟩ fun h' k=>⟨rfl,?_⟩
    refine I.turnedL (t':=s.toks) [e,it] (fun c o hc z=>?_) hf
    simp only [List.mem_cons,List.not_mem_nil,or_false,not_or] at hc
    exact k c o hc.2 z
  self:=fun _ _ _ _ _ st h=>let ⟨⟨_,q⟩,_⟩:=st;wpAny_pyIter_enum q h
theorem two_le (n b:Nat) (h:b=n+1∨b=n):n≤b:=by omega
section
variable {X:Cx}
def iEnum (K:PySem.W.Frag) (ta:TA):TI:=fun σ H R=>ta σ H fun vs H1=>∃ κ a,vs=[.ref a]∧(∃ xs,Sq K κ H1 a xs)∧R (Ite K κ a) H1
theorem pi_enum {a:Expr} {ta:TA} {p pos ps:Pos} {es:List Expr} {n1:Nat} (hg:Gl X "enumerate") (hm:X.mg "enumerate" = none) (ha:PA X [a] ta) (hs:starEach [a] X.env=[(false,eval a X.env)]:=by rfl) :
    PI X (.Tuple es n1 ps) (.Call (.Name "enumerate" p) [a] [] pos) (iEnum X.K ta):=by
  intro pins s σ H R I h
  refine Call_ (ld_blt I hg hm boot_enumerate (PyProof.Rows.callWith_type1 (thn (ha pos pins s σ H _ I h) fun us s1 ⟨vs,H1,I1,r1,q1⟩=>?_) hs rfl))
  obtain ⟨κ,l,rfl,⟨xs,hx⟩,q⟩:=q1
  cases r1 with
  | cons r rr=>
    cases rr
    cases r
    obtain ⟨its,rv,p1,hz⟩:=I1.sq hx
    refine call_enum p1 fun h' a1 a2 k=>wpAny_pyIter_enum (s:={ s1 with heap:=h' }) a1 ?_
    refine ⟨_,[s1.heap.objs.size+1,s1.heap.objs.size],_,_,H1,rfl,I1.kept (t':=s1.toks) k,turn_enum (κ:=κ) l _ _ (Nat.succ_ne_self _),⟨⟨_,a1⟩,a2⟩,fun b hb=>?_,q⟩
    have hb':s1.heap.objs.size≤b:=by
      simp only [List.mem_cons,List.not_mem_nil,or_false] at hb
      exact two_le _ _ hb
    exact I1.fpOk hb' (I1.hok.fresh hb')
end
end L2
namespace LP
open PySem PySem.Spec PyProof.Rows L2
section
variable {X:Cx} {EX:XK} {pos p p2 ps:Pos} {tg e a b:Expr} {es:List Expr} {w wa wb:WE}
def nums:Nat→List D→List D
  | _,[]=>[]
  | i,x::xs=>.tup [.int i,x]::nums (i+1) xs
theorem nums_len:∀ (i:Nat) (xs:List D),(nums i xs).length=xs.length
  | _,[]=>rfl
  | i,x::xs=>by rw [nums,List.length_cons,List.length_cons,nums_len]
theorem nums_get:∀ (i j:Nat) (xs:List D) (d:D),(nums i xs)[j]? = some d→∃ x,xs[j]? = some x∧d = .tup [.int ((i+j:Nat):Int),x]
  | _,_,[],_,h=>by simp [nums] at h
  | i,0,x::xs,d,h=>by
    rw [nums,List.getElem?_cons_zero] at h
    exact ⟨x,rfl,(Option.some.inj h).symm⟩
  | i,j+1,x::xs,d,h=>by
    rw [nums,List.getElem?_cons_succ] at h
    obtain ⟨y,e1,e2⟩:=nums_get (i+1) j xs d h
    exact ⟨y,by rw [List.getElem?_cons_succ];exact e1,by rw [e2,show i+1+j=i+(j+1) by omega]⟩
def iE (t:WA):WA:=fun E ρ Q=>t E ρ fun ds=>match ds with
  | [x]=>isS (fun xs=>Q (nums 0 xs)) x
  | _=>False
theorem pxi_enum {t:WA} {n1:Nat} (hm:X.mg "enumerate" = none) (ha:PXA X EX [a] t) (hg:Gl X "enumerate" :=by rfl) (hs:starEach [a] X.env=[(false,eval a X.env)]:=by rfl) :
    PXI X EX (.Tuple es n1 ps) (.Call (.Name "enumerate" p) [a] [] pos) (iE t):=by
  obtain ⟨t,q,k⟩:=ha.t
  refine ⟨⟨_,pi_enum hg hm q hs,fun W0 H0 W σ H ρ E R s eo h=>?_⟩,fun E ρ P P' hp h=>ha.mono _ _ _ _ (fun ds hd=>?_) h⟩
  · refine k W0 H0 W σ H ρ E _ s eo (ha.mono _ _ _ _ (fun ds hd vs W1 H1 x1 r1=>?_) h)
    split at hd
    · obtain ⟨v,rfl,rv⟩:=r1.one
      obtain ⟨κ,l,vs,xs,rfl,rr,hd,sq⟩:=rv.sq hd
      refine ⟨κ,l,rfl,⟨vs,sq W1 H1 (fun _ _ z=>z) x1.ok⟩,hd W1 H1 _ x1 fun W2 H2 i g2 p2 ok2=>⟨fun d hd=>?_,fun hi=>?_⟩⟩
      · have s1:=sq W2 H2 g2 ok2
        obtain ⟨x,ex,rfl⟩:=nums_get 0 i xs d hd
        obtain ⟨vx,evx,rvx⟩:=rr.get ex
        refine ⟨⟨vs,vx,s1,evx⟩,fun z H3 hy=>?_⟩
        obtain ⟨q,x',rfl,hq,rfl,e1⟩:=hy
        have e1:=e1 _ s1
        rw [evx] at e1
        cases e1
        have xt:=Ext.put (o:=.tup [.int i,vx]) ok2 hq
        rw [Nat.zero_add]
        exact ⟨_,xt,.tup (by unfold Wd.put;dsimp only;rw [upd_same]) (.cons (.int _) (.cons (xt.rep (rvx.mono g2 p2)) .nil))⟩
      · refine ⟨vs,sq W2 H2 g2 ok2,?_⟩
        rw [rr.length]
        rw [nums_len] at hi
        omega
    · exact hd.elim
  · split at hd
    · exact isS.mono (fun xs h1=>hp _ h1) _ hd
    · exact hd.elim
end
end LP
namespace L2
open PySem PySem.Spec PyProof.Rows
section
variable {X:Cx}
end
end L2
namespace LP
open PySem PySem.Spec PyProof.Rows L2
section
variable {X:Cx} {EX:XK} {pos p p1 p2 ps sp1 sp2:Pos} {tg e a b:Expr} {es:List Expr} {w wa wb:WE}
def is2 (Q:D→D→Prop):D→Prop
  | .tup [x,y]=>Q x y
  | _=>False
theorem is2.mono {Q Q':D→D→Prop} (h:∀ x y,Q x y→Q' x y):∀ d,is2 Q d→is2 Q' d:=fun d z=>by
  unfold is2 at z ⊢
  split at z
  · exact h _ _ z
  · exact z.elim
theorem is2_get {Q:D→D→Prop} {d:D} (h:is2 Q d):∃ x y,d = .tup [x,y]∧Q x y:=by
  unfold is2 at h
  split at h
  · exact ⟨_,_,rfl,h⟩
  · exact h.elim
def zSwap (i:Nat) (wv w1 w2:WE):WS:=fun E N ρ=>match ρ[i]? with
  | some (.ow xs)=>wv E ρ (is2 fun x y=>w1 E ρ (isI fun k1=>∃ j1,ixN xs.length k1=some j1∧w2 E (ρ.set i (.ow (xs.set j1 x))) (isI fun k2=>∃ j2,ixN xs.length k2=some j2∧N.nx (ρ.set i (.ow ((xs.set j1 x).set j2 y))))))
  | _=>False
theorem pz_swap (i:Nat) {x:Str} {wv w1 w2:WE} {ix1 ix2:Expr} {kt:Nat} {pt:Pos} (he:PX X EX e wv) (h1:PX X EX ix1 w1) (h2:PX X EX ix2 w2) (hc:X.calm=true:=by rfl) (hN:X.N[i]? = some x:=by rfl) (hv:Vis X.env.scope x:=by first | exact Or.inl rfl | exact Or.inr (Or.inl rfl) | exact Or.inr (Or.inr rfl)) (hd:(x == ("__debug__" : Str))=false:=by decide)
    (hcd:(x == ("__classdict__" : Str))=false:=by decide)
    (ha1:∀ v,assign (.Subscript (.Name x p1) ix1 sp1) X.env v=(do
      let ov ← holding [v] (eval (.Name x p1) X.env)
      let iv ← holding [v,ov] (eval ix1 X.env)
      standAt sp1
      holding [v,ov,iv] (setItem ov iv v)
      release [v,ov,iv] []):=by intro _;rfl)
    (ha2:∀ v,assign (.Subscript (.Name x p2) ix2 sp2) X.env v=(do
      let ov ← holding [v] (eval (.Name x p2) X.env)
      let iv ← holding [v,ov] (eval ix2 X.env)
      standAt sp2
      holding [v,ov,iv] (setItem ov iv v)
      release [v,ov,iv] []):=by intro _;rfl)
    (hs1:(assignEach [.Subscript (.Name x p1) ix1 sp1,.Subscript (.Name x p2) ix2 sp2] X.env).map (·.2)=assign (.Subscript (.Name x p1) ix1 sp1) X.env::(assignEach [.Subscript (.Name x p2) ix2 sp2] X.env).map (·.2):=by rfl)
    (hs2:(assignEach [.Subscript (.Name x p2) ix2 sp2] X.env).map (·.2)=assign (.Subscript (.Name x p2) ix2 sp2) X.env::(assignEach [] X.env).map (·.2):=by rfl)
    (hn:(assignEach [.Subscript (.Name x p1) ix1 sp1,.Subscript (.Name x p2) ix2 sp2] X.env).length=2:=by rfl) (hst:(assignEach [.Subscript (.Name x p1) ix1 sp1,.Subscript (.Name x p2) ix2 sp2] X.env).findIdx? (·.1)=none:=by rfl)
    (hs:swapsWithSole [.Tuple [.Subscript (.Name x p1) ix1 sp1,.Subscript (.Name x p2) ix2 sp2] kt pt] e pos.line X.env=pure false:=by rfl) (hw:swappedStores [.Tuple [.Subscript (.Name x p1) ix1 sp1,.Subscript (.Name x p2) ix2 sp2] kt pt] e X.env=pure none:=by rfl)
    (h3:(assignEach [.Tuple [.Subscript (.Name x p1) ix1 sp1,.Subscript (.Name x p2) ix2 sp2] kt pt] X.env).map (·.2)=[assign (.Tuple [.Subscript (.Name x p1) ix1 sp1,.Subscript (.Name x p2) ix2 sp2] kt pt) X.env]:=by rfl) :
    PZ X EX (.Assign [.Tuple [.Subscript (.Name x p1) ix1 sp1,.Subscript (.Name x p2) ix2 sp2] kt pt] e pos) (zSwap i wv w1 w2):=by
  obtain ⟨t,pe,k⟩:=he.t
  obtain ⟨t1,pi1,k1⟩:=h1.t
  obtain ⟨t2,pi2,k2⟩:=h2.t
  refine ⟨⟨_,ps_asg pe (pg_tup hc (pgs_cons (pg_sub (pe_var hN hv hd hcd) pi1 set_list ha1) (pgs_cons (pg_sub (pe_var hN hv hd hcd) pi2 set_list ha2) pgs_nil hs2) hs1) hn hst) hs hw h3,fun W0 H0 F W σ H ρ E Dn N s fl eo no h=>?_⟩,fun E ρ N N' hl q=>?_⟩
  · unfold zSwap at h
    split at h
    · rename_i xs ex
      obtain ⟨a,vs,e1,e2,e3,e4,e5,r⟩:=s.o i xs ex
      have hi:i < ρ.length:=(List.getElem?_eq_some_iff.mp ex).1
      refine k W0 H0 W σ H ρ E _ s eo (he.mono _ _ _ _ (fun d hd v W1 H1 x1 r1=>?_) h)
      obtain ⟨dx,dy,rfl,hd⟩:=is2_get hd
      obtain ⟨q,us,rfl,sq,ru⟩:=r1.sqt x1.ok
      obtain ⟨vx,vy,rfl,rx,ry⟩:=ru.two
      refine ⟨q,[vx,vy],rfl,sq,rfl,vx,[vy],rfl,⟨_,e1,?_⟩⟩
      refine k1 W0 H0 W1 σ H1 ρ E _ (s.step x1) eo (h1.mono _ _ _ _ (fun di hdi vi W2 H2 x2 r2=>?_) hd)
      obtain ⟨kk,rfl,j,hj,hn2⟩:=ZdM hdi
      cases r2
      have xx:=x1.trans x2
      have e2':=xx.h a _ e2 e4
      refine ⟨a,vs,kk,j,rfl,rfl,e2',by rw [r.length];exact hj,?_⟩
      have s2:=(s.step xx).chg ex e1 (Reps.set (x2.rep rx) j (xx.reps r))
      refine ⟨vy,[],rfl,⟨_,e1,?_⟩⟩
      have ex2:(ρ.set i (.ow (xs.set j dx)))[i]? = some (.ow (xs.set j dx)):=List.getElem?_set_self hi
      obtain ⟨a',vs',f1,f2,f3,f4,f5,fr⟩:=s2.o i _ ex2
      refine k2 W0 H0 W2 σ _ _ E _ s2 eo (h2.mono _ _ _ _ (fun dk hdk vk W3 H3 x3 r3=>?_) hn2)
      obtain ⟨k',rfl,j',hj',hn3⟩:=ZdM hdk
      cases r3
      have ea:a'=a:=by rw [e1] at f1;cases f1;rfl
      subst ea
      have e2'':=x3.h _ _ f2 f4
      refine ⟨_,vs',k',j',rfl,rfl,e2'',by rw [fr.length,List.length_set];exact hj',rfl,?_⟩
      have s3:=(s2.step x3).chg ex2 e1 (Reps.set (x3.rep (x2.rep ry)) j' (x3.reps fr))
      rw [List.set_set] at s3
      exact no.nx W3 σ _ _ s3 ((fl.ext xx).ext x3 |> fun z=>z) hn3
    · exact h.elim
  · unfold zSwap at q ⊢
    split at q
    · exact he.mono _ _ _ _ (is2.mono fun x y hxy=>h1.mono _ _ _ _ (isI.mono fun k1 ⟨j1,a1,b1⟩=>⟨j1,a1,h2.mono _ _ _ _ (isI.mono fun k2 ⟨j2,a2,b2⟩=>⟨j2,a2,hl.nx _ b2⟩) b1⟩) hxy) q
    · exact q.elim
end
end LP
namespace PySem
open Sem (wp)
open AutoSeq1 (wpAny_loadPart')
namespace F
end F
section
variable {prog:Program} {w:World} {A:Around} {E:Value→Shared→Prop} {s:Shared}
def IsRvT (h:Heap) (a t:Addr) (i:Int):Prop:=∃ o,h.get? a=some o∧o.cls = .type "reversed" ∧o.data = .fields #[.ref t,rawInt i]
theorem IsRvT.at {h h':Heap} {a t:Addr} {i:Int} (x:IsRvT h a t i) (e:∀ o,h.get? a=some o→h'.get? a=some o):IsRvT h' a t i:=let ⟨o,ho,r⟩:=x;⟨o,e _ ho,r⟩
end
section
variable {prog:Program} {w:World} {A:Around} {E:Value→Shared→Prop} {s:Shared}
end
end PySem
namespace L2
open PySem PySem.Spec PyProof.Rows
section
variable {X:Cx}
end
end L2
namespace LP
open PySem PySem.Spec PyProof.Rows L2
section
variable {X:Cx} {EX:XK} {pos p p1 p2:Pos} {a:Expr} {w:WE}
end
def sbg (f l:List Rat) (i j k:Nat):Rat:=f.getD (i - k) 0*l.getD (f.length - 1 - j+k) 0
def sbh (f l:List Rat) (i j k:Nat):Rat:=l.getD (i - k - 1) 0*f.getD (f.length - j+k) 0
def sp (f l:List Rat) (i j:Nat):Nat→Rat
  | 0=>0
  | k+1=>if k < min i j then sp f l i j k+sbg f l i j k - sbh f l i j k else sp f l i j k+sbg f l i j k
section
variable {E:Ex→Prop} {Q:D→Prop} {f l:List Rat} {n i j:Nat}
end
abbrev N_minus:List Str:=["one", "other"]
abbrev ps_minus:List Str:=["one", "other"]
def z_minus:WS:=(zRet (wF Zdh (Zab (w2 ZcW (w2 gMul (w2 gIx (wN 0) (wC (D.int (0)))) (w2 gIx (wN 1) (wC (D.int (1))))) (w2 gMul (w2 gIx (wN 1) (wC (D.int (0)))) (w2 gIx (wN 0) (wC (D.int (1)))))) (Zab (w2 gMul (w2 gIx (wN 0) (wC (D.int (1)))) (w2 gIx (wN 1) (wC (D.int (1))))) aNil))))
local macro_rules | `(tactic| walk_at "w1")=>`(tactic| simp only [zRet,zIf,zSet,zNx,Zdm,zPub,zOwn,zFor,Za3,zPar,zAsg,zApp,Zb5,zInk,Zcw,zNox,Zbr,zTry,wM,ZcX,Zbh,wOrV,ZdA,wAnd,wOr,wNot,wT,wIf,w1,w2,wB,wF,wL,wTup,wCut,Za0,aB,aLst,Zab,aNil,aLC,Zbq,ZaF,iS,iL,iT,iR1,iR2,iZ,Za8,ZaZ,wN,wC,gN,gTp,Zat,Za9,gIxP,ZaA,wPen,wBor,tBor,aBor,wIxO,aAdd,aMul,aCut,rho,pub,List.map_cons,List.map_nil,List.length_cons,List.length_nil,List.cons_append,List.nil_append,List.replicate,List.getElem?_cons_zero,List.getElem?_cons_succ,List.set_cons_zero,List.set_cons_succ,Nat.reduceSub,Nat.reduceAdd,List.replicate_succ,List.replicate_zero,true_and,Bool.false_eq_true,if_true,if_false,ite_true,ite_false,Int.toNat_natCast,Bool.not_true,Bool.not_false,
  Zfr,Zfq,Zfp,Zdg,Zdf,Zfo,Zdb,Zd,Zda,Zdd,Zdc,Zde,ZbE,ZbH,ZbF,ZbG,ZbJ,ZbI,ZbK,Zc3,Zc6,Zc4,Zc5,Zc8,Zc7,Zc9,ZbN,Zbj,ZbO,ZbP,ZbR,ZbQ,ZbS,Zbx,Zbz,Zby,ZbB,ZbA,Zbu,Zbv,Zbw,ZaM,ZaN,ZaO,ZbV,ZbU,ZbT,ZbD,ZbC,e_I2,Zft,Zfn,ZbM,ZbL,Zfs,e_i1,e_i2])
local macro_rules | `(tactic| walk_at "st")=>`(tactic| ((try dsimp only at *);(try walk_at "w1");(try dsimp only)))
local macro_rules | `(tactic| walk_at "nx")=>`(tactic| ((try dsimp only);(refine Zah ?_);walk_at "st"))
namespace B
theorem set_by {i:Nat} {w:WE} {E:Ex→Prop} {N:Nds} {ρ ρ':Rho} {d:D} (e:ρ.set i (.d d)=ρ') (hw:∀ P:D→Prop,P d→w E ρ P) (h:N.nx ρ'):zSet i w E N ρ:=hw _ (by rw [e];exact h)
end B
theorem rd_minus:∀ ds E Q,S_minus ds E Q→z_minus E { nx:=fun _=>Q .non,rt:=Q } (rho N_minus ds):=by
  rintro _ E Q ⟨⟨p,q⟩,rfl,hb,h⟩
  obtain ⟨b1,b2,b3,b4,b5,b6,b7,b8⟩:=hb.mul
  unfold z_minus
  simp only [zRet,wF,Zab,w2,wN,wC,rho,List.map_cons,List.cons_append,List.getElem?_cons_zero,List.getElem?_cons_succ]
  refine ix0 (ix1 ⟨b1,ix0 (ix1 ⟨b2,?_⟩)⟩)
  dsimp only
  simp only [e_I2,true_and]
  refine ix1 (ix1 ⟨b3,?_⟩)
  refine ⟨(_,_),rfl,⟨b6,b5⟩,?_⟩
  dsimp only at h ⊢
  have e:Rat.divInt (p.num*q.den - q.num*p.den) ((p.den:Int)*q.den)=p - q:=by
    rw [Rat.sub_def',← Rat.divInt_ofNat]
    rfl
  rw [e]
  exact h
theorem deq_shq (p q:Rat):deq (shq p) (shq q)=decide (p=q):=by
  unfold shq
  rw [deq_pair,Bool.eq_iff_iff]
  simp only [Bool.and_eq_true,beq_iff_eq,decide_eq_true_eq]
  constructor
  · rintro ⟨h1,h2⟩
    exact Rat.ext h1 (by exact_mod_cast h2)
  · rintro rfl
    exact ⟨rfl,rfl⟩
theorem shq_zero:shq 0 = .tup [.int 0,.int 1]:=rfl
namespace B.C
def ga (r:List Int) (k:Nat):Int:=r.getD k 0
def gr (t:List (List Int)) (k:Nat):List Int:=t.getD k []
def takF (row here:List Int) (a:Nat) (last:Int):List Int:=(List.range row.length).map fun j=>(ga row j*ga here a - ga row a*ga here j).fdiv last
def gooF (t:List (List Int)) (a:Nat):List Nat:=((List.range (t.length - a)).map (a + ·)).filter fun k=>ga (gr t k) a != 0
def swpF (t:List (List Int)) (a g:Nat):List (List Int):=(t.set a (gr t g)).set g (gr t a)
def rowF (t:List (List Int)) (a k:Nat) (last:Int):List (List Int):=(List.range t.length).map fun i=>if a < i∧i < k then takF (gr t i) (gr t a) a last else gr t i
structure St3 where
  t:List (List Int)
  s:Int
  l:Int
def stpF (a:Nat) (x:St3):Option St3:=match gooF x.t a with
  | []=>none
  | g::_=>let t1:=swpF x.t a g
    let t2:=rowF t1 a t1.length x.l
    some ⟨t2,x.s*(1 - 2*(if g=a then 0 else 1)),ga (gr t2 a) a⟩
def runF (t:List (List Int)):Nat→Option St3
  | 0=>some ⟨t,1,1⟩
  | a+1=>(runF t a).bind (stpF a)
def numF (t:List (List Int)):Int:=match runF t t.length with
  | none=>0
  | some x=>x.s*x.l
def btc (c:Nat):Nat→Nat
  | 0=>c
  | a+1=>2*btc c a+1
structure Sm (b n:Nat) (t:List (List Int)):Prop where
  len:t.length=n
  row:∀ r∈t,r.length=n
  sm:∀ r∈t,∀ x∈r,x.natAbs < 2 ^ b
structure Ok3 (c n a:Nat) (x:St3):Prop where
  t:Sm (btc c a) n x.t
  s:x.s=1∨x.s = -1
  l0:x.l≠0
  l:x.l.natAbs < 2 ^ btc c a
theorem Sm.up {b c n:Nat} {t:List (List Int)} (h:Sm b n t) (l:b≤c):Sm c n t:=⟨h.len,h.row,fun r hr x hx=>Nat.lt_of_lt_of_le (h.sm r hr x hx) (Nat.pow_le_pow_right (by decide) l)⟩
theorem fdiv_le {a b:Int} (h:b≠0):(a.fdiv b).natAbs≤a.natAbs:=Int.natAbs_fdiv_le_natAbs a b
theorem Sm.gr {b n k:Nat} {t:List (List Int)} (h:Sm b n t) (hk:k < n):t[k]? = some (gr t k)∧(C.gr t k).length=n∧∀ x∈C.gr t k,x.natAbs < 2 ^ b:=by
  have e:=h.len
  have:t[k]? = some (C.gr t k):=by unfold C.gr;rw [List.getD_eq_getElem?_getD,List.getElem?_eq_getElem (by omega)];rfl
  have hm:=List.mem_of_getElem? this
  exact ⟨this,h.row _ hm,h.sm _ hm⟩
theorem ga_lt {b k:Nat} {r:List Int} (h:∀ x∈r,x.natAbs < 2 ^ b):(ga r k).natAbs < 2 ^ b:=by
  unfold ga
  rw [List.getD_eq_getElem?_getD]
  cases e:r[k]? with
  | none=>exact Nat.two_pow_pos b
  | some v=>exact h _ (List.mem_of_getElem? e)
theorem ga_get {k n:Nat} {r:List Int} (h:r.length=n) (hk:k < n):r[k]? = some (ga r k):=by
  unfold ga
  rw [List.getD_eq_getElem?_getD,List.getElem?_eq_getElem (by omega)]
  rfl
theorem tak_num {b:Nat} {w x y z:Int} (h1:w.natAbs < 2 ^ b) (h2:x.natAbs < 2 ^ b) (h3:y.natAbs < 2 ^ b) (h4:z.natAbs < 2 ^ b):(w*x - y*z).natAbs < 2 ^ (2*b+1):=by
  have m1:(w*x).natAbs < 2 ^ b*2 ^ b:=by rw [Int.natAbs_mul];exact Nat.mul_lt_mul'' h1 h2
  have m2:(y*z).natAbs < 2 ^ b*2 ^ b:=by rw [Int.natAbs_mul];exact Nat.mul_lt_mul'' h3 h4
  have:=Int.natAbs_sub_le (w*x) (y*z)
  rw [Nat.pow_succ,show 2*b=b+b by omega,Nat.pow_add]
  omega
theorem takF_ok {b n a:Nat} {row here:List Int} {last:Int} (h1:row.length=n) (h2:∀ x∈row,x.natAbs < 2 ^ b) (h3:∀ x∈here,x.natAbs < 2 ^ b) (hl:last≠0):(takF row here a last).length=n∧∀ x∈takF row here a last,x.natAbs < 2 ^ (2*b+1):=by
  refine ⟨by unfold takF;rw [List.length_map,List.length_range];exact h1,fun x hx=>?_⟩
  obtain ⟨j,_,rfl⟩:=List.mem_map.mp hx
  exact Nat.lt_of_le_of_lt (fdiv_le hl) (tak_num (ga_lt h2) (ga_lt h3) (ga_lt h2) (ga_lt h3))
theorem gr_set {t:List (List Int)} {i k:Nat} {r:List Int} (h:i < t.length):gr (t.set i r) k=if k=i then r else gr t k:=by
  unfold gr
  rw [List.getD_eq_getElem?_getD,List.getElem?_set,List.getD_eq_getElem?_getD]
  by_cases e:i=k
  · subst e
    rw [if_pos rfl,if_pos rfl,if_pos h]
    rfl
  · rw [if_neg e,if_neg (Ne.symm e)]
theorem swp_sm {b n a g:Nat} {t:List (List Int)} (h:Sm b n t) (ha:a < n) (hg:g < n):Sm b n (swpF t a g):=by
  have e:=h.len
  have m:∀ r∈swpF t a g,r∈t:=fun r hr=>by
    unfold swpF at hr
    rcases List.mem_or_eq_of_mem_set hr with hr | rfl
    · rcases List.mem_or_eq_of_mem_set hr with hr | rfl
      · exact hr
      · exact List.mem_of_getElem? (h.gr hg).1
    · exact List.mem_of_getElem? (h.gr ha).1
  exact ⟨by unfold swpF;rw [List.length_set,List.length_set];exact e,fun r hr=>h.row r (m r hr),fun r hr=>h.sm r (m r hr)⟩
theorem swp_at {b n a g:Nat} {t:List (List Int)} (h:Sm b n t) (ha:a < n) (hg:g < n):gr (swpF t a g) a=gr t g:=by
  have e:=h.len
  unfold swpF
  rw [gr_set (by rw [List.length_set];omega)]
  by_cases z:a=g
  · subst z;rw [if_pos rfl]
  · rw [if_neg z,gr_set (by omega),if_pos rfl]
theorem goo_mem {b n a g:Nat} {t:List (List Int)} (h:Sm b n t) (hg:g∈gooF t a):a≤g∧g < n∧ga (gr t g) a≠0:=by
  have e:=h.len
  unfold gooF at hg
  obtain ⟨h1,h2⟩:=List.mem_filter.mp hg
  obtain ⟨k,hk,rfl⟩:=List.mem_map.mp h1
  rw [List.mem_range] at hk
  exact ⟨by omega,by omega,by simpa using h2⟩
theorem row_gr {t:List (List Int)} {a k i:Nat} {l:Int} (hi:i < t.length):gr (rowF t a k l) i=if a < i∧i < k then takF (gr t i) (gr t a) a l else gr t i:=by
  show (rowF t a k l).getD i []=_
  unfold rowF
  rw [List.getD_eq_getElem?_getD,List.getElem?_map,List.getElem?_range hi]
  rfl
theorem row_sm {b n a k:Nat} {t:List (List Int)} {l:Int} (h:Sm b n t) (ha:a < n) (hl:l≠0):Sm (2*b+1) n (rowF t a k l):=by
  have e:=h.len
  have key:∀ r∈rowF t a k l,r.length=n∧∀ x∈r,x.natAbs < 2 ^ (2*b+1):=fun r hr=>by
    unfold rowF at hr
    obtain ⟨i,hi,rfl⟩:=List.mem_map.mp hr
    have hi':i < n:=by rw [← e];simpa using hi
    split
    · exact takF_ok (h.gr hi').2.1 (h.gr hi').2.2 (h.gr ha).2.2 hl
    · exact ⟨(h.gr hi').2.1,fun x hx=>Nat.lt_of_lt_of_le ((h.gr hi').2.2 x hx) (Nat.pow_le_pow_right (by decide) (by omega))⟩
  exact ⟨by unfold rowF;rw [List.length_map,List.length_range];exact e,fun r hr=>(key r hr).1,fun r hr=>(key r hr).2⟩
theorem stp_ok {c n a:Nat} {x y:St3} (h:Ok3 c n a x) (ha:a < n) (e:stpF a x=some y):Ok3 c n (a+1) y:=by
  unfold stpF at e
  split at e
  · cases e
  · rename_i g gs eg
    cases e
    obtain ⟨g1,g2,g3⟩:=goo_mem h.t (g:=g) (by rw [eg];simp)
    have w:=swp_sm h.t ha g2
    have r:=row_sm (k:=(swpF x.t a g).length) w ha h.l0
    have el:ga (gr (rowF (swpF x.t a g) a (swpF x.t a g).length x.l) a) a=ga (gr x.t g) a:=by
      rw [row_gr (by rw [w.len];exact ha),if_neg (by omega),swp_at h.t ha g2]
    refine ⟨r,?_,?_,?_⟩
    · show x.s*_=1∨x.s*_ = -1
      rcases h.s with e | e<;>rw [e]<;>split<;>decide
    · show ga _ _≠0
      rw [el];exact g3
    · exact ga_lt (r.gr ha).2.2
theorem run_ok {c n:Nat} {t:List (List Int)} (h:Sm c n t) (hc:1≤c):∀ {a:Nat},a≤n→∀ {x:St3},runF t a=some x→Ok3 c n a x
  | 0,_,x,e=>by
    cases e
    exact ⟨h,.inl rfl,show (1:Int)≠0 by decide,Nat.one_lt_two_pow (by show c≠0;omega)⟩
  | a+1,ha,x,e=>by
    rw [runF] at e
    cases e1:runF t a with
    | none=>rw [e1] at e;cases e
    | some y=>rw [e1] at e;exact stp_ok (run_ok h hc (by omega) e1) (by omega) e
theorem run_none {t:List (List Int)} {a:Nat} (h:runF t a=none):∀ k:Nat,runF t (a+k)=none
  | 0=>h
  | k+1=>by rw [← Nat.add_assoc,runF,run_none h k];rfl
def tabD (t:List (List Int)):D:=.lst (t.map Zaq)
def ZdS:Zav:=fnS (fun x:(List Int×List Int)×Nat×Int=>[Zaq x.1.1,Zaq x.1.2,.int x.2.1,.int x.2.2]) (fun x=>x.1.1.length≤5∧x.1.2.length=x.1.1.length∧x.2.1 < x.1.1.length∧(∀ y∈x.1.1,y.natAbs < 2 ^ 223)∧(∀ y∈x.1.2,y.natAbs < 2 ^ 223)∧x.2.2≠0∧x.2.2.natAbs < 2 ^ 223) fun x=>Zaq (takF x.1.1 x.1.2 x.2.1 x.2.2)
def Zcf:Zav:=fnS (fun t:List (List Int)=>[tabD t]) (fun t=>Sm 10 t.length t∧t.length≤5) fun t=>.int (numF t)
end B.C
namespace B.C
abbrev ZfI:List Str:=["_law_row", "_law_here", "_law_at", "_law_last", "_law_found", "_law_j", "_law_number"]
abbrev ps__law_taken:List Str:=["_law_row", "_law_here", "_law_at", "_law_last"]
def ZcJ:WS:=(zSeq (zOwn 4 (aLst aNil)) (zSeq (zNox (zFor (iR1 (Zab (wB gLen (Zab (wN 0) aNil)) aNil)) (gN 5) (zSeq (zSet 6 (w2 ZcW (w2 gMul (w2 gIx (wN 0) (wN 5)) (w2 gIx (wN 1) (wN 2))) (w2 gMul (w2 gIx (wN 0) (wN 2)) (w2 gIx (wN 1) (wN 5))))) (zApp 4 (w2 gFdv (wN 6) (wN 3)))))) (zPub 4 (zRet (wN 4)))))
abbrev Zdz:List Str:=["_law_table", "_law_rows", "_law_sign", "_law_last", "_law_at", "_law_good", "_law_k"]
abbrev Zff:List Str:=["_law_table"]
def Zba:WS:=(zSeq (zOwn 1 (aLC (iS (wN 0)) 1 [] (gN 0) ZaF (wL (aB (gSeq (α:=Unit)) (Zab (wN 0) aNil))))) (zSeq (zSet 2 (wC (D.int (1)))) (zSeq (zSet 3 (wC (D.int (1)))) (zPub 5 (zSeq (zNox (zFor (iR1 (Zab (wBor 1 (wB gLen (Zab (wN 1) aNil))) aNil)) (gN 4) (zSeq (zOwn 5 (aBor 1 (aLC (iR2 (Zab (wN 4) (Zab (wB gLen (Zab (wN 1) aNil)) aNil))) 1 [1,4] (gN 0) (wT (w2 (gEq true) (w2 gIx (w2 gIx (wN 1) (wN 0)) (wN 2)) (wC (D.int (0))))) (wN 0)))) (zPub 5 (zSeq (zIf (wT (w2 (gEq false) (wN 5) (wL (aLst aNil)))) (zRet (wC (D.int (0)))) zNx) (zPub 5 (zSeq (zSwap 1 (wTup (Zab (wIxO 1 (w2 gIx (wN 5) (wC (D.int (0))))) (Zab (wIxO 1 (wN 4)) aNil))) (wN 4) (w2 gIx (wN 5) (wC (D.int (0))))) (zPub 5 (zSeq (zSet 2 (w2 gMul (wN 2) (w2 ZcW (wC (D.int (1))) (w2 gMul (wC (D.int (2))) (wB gInt (Zab (w2 (gEq true) (w2 gIx (wN 5) (wC (D.int (0)))) (wN 4)) aNil)))))) (zSeq (zNox (zFor (iR2 (Zab (w2 gAdd (wN 4) (wC (D.int (1)))) (Zab (wBor 1 (wB gLen (Zab (wN 1) aNil))) aNil))) (gN 6) (Zb5 1 (wN 6) (wF ZdS (Zab (wIxO 1 (wN 6)) (Zab (wIxO 1 (wN 4)) (Zab (wN 4) (Zab (wN 3) aNil)))))))) (zSet 3 (wBor 1 (w2 gIx (w2 gIx (wN 1) (wN 4)) (wN 4)))))))))))))) (zRet (w2 gMul (wN 2) (wN 3))))))))
end B.C
namespace B.C
theorem bd_of {x:Int} {b:Nat} (h:x.natAbs < 2 ^ b) (hb:b≤8990):Bd x:=Nat.lt_of_lt_of_le h (Nat.pow_le_pow_right (by decide) hb)
theorem Zfu {r:List Int} {k:Nat} {a:Int} {Q:D→Prop} (hk:k < r.length) (ea:a=k) (q:Q (.int (ga r k))):gIx (Zaq r) (.int a) Q:=by
  subst ea
  exact ⟨_,atI_nat (by rw [List.getElem?_map,ga_get rfl hk];rfl),q⟩
theorem rd__law_taken:∀ ds E Q,ZdS ds E Q→ZcJ E { nx:=fun _=>Q .non,rt:=Q } (rho ZfI ds):=by
  rintro _ E Q ⟨⟨⟨row,here⟩,a,last⟩,rfl,⟨h5,hh,ha,s1,s2,l0,s3⟩,q⟩
  dsimp only at h5 hh ha s1 s2 l0 s3 q
  have b1:∀ k,Bd (ga row k):=fun k=>bd_of (ga_lt s1) (by decide)
  have b2:∀ k,Bd (ga here k):=fun k=>bd_of (ga_lt s2) (by decide)
  show ZcJ E _ [.d (Zaq row),.d (Zaq here),.d (.int a),.d (.int last),.un,.un,.un]
  unfold ZcJ
  walk_at "nx"
  refine ⟨by decide,?_⟩
  refine Zah ?_
  simp only [zNox,zFor]
  walk_at "st"
  refine ⟨by omega,by omega,?_⟩
  refine ZeV (fun n ρ=>∃ s5 s6,ρ=[.d (Zaq row),.d (Zaq here),.d (.int a),.d (.int last),.ow ((List.range n).map fun j=>D.int ((ga row j*ga here a - ga row a*ga here j).fdiv last)),s5,s6]) row.length ?_ ?_ _ ⟨_,_,rfl⟩
  · rintro j hj _ ⟨s5,s6,rfl⟩ nx hnx
    show zSeq _ _ _ _ [.d (Zaq row),.d (Zaq here),.d (.int a),.d (.int last),.ow ((List.range j).map fun j=>D.int ((ga row j*ga here a - ga row a*ga here j).fdiv last)),.d (.int j),s6]
    rw [List.range_succ,List.map_append] at hnx
    have hvl:((List.range j).map (fun j=>D.int ((ga row j*ga here a - ga row a*ga here j).fdiv last))).length=j:=by rw [List.length_map,List.length_range]
    generalize (List.range j).map (fun j=>D.int ((ga row j*ga here a - ga row a*ga here j).fdiv last))=vs at hnx hvl
    have hlen:vs.length=j:=hvl
    refine Zah (B.set_by (d:=.int (ga row j*ga here a - ga row a*ga here j)) (ρ':=[.d (Zaq row),.d (Zaq here),.d (.int a),.d (.int last),.ow vs,.d (.int j),.d (.int (ga row j*ga here a - ga row a*ga here j))]) (by rfl) (fun P hP=>?_) ?_)
    · simp only [w2,wN,List.getElem?_cons_zero,List.getElem?_cons_succ]
      refine Zfu hj rfl (Zfu (by omega) rfl ⟨⟨b1 _,b2 _⟩,Zfu ha rfl (Zfu (by omega) rfl ⟨⟨b1 _,b2 _⟩,?_⟩)⟩)
      exact ⟨trivial,hP⟩
    dsimp only
    walk_at "st"
    exact ⟨⟨l0,bd_of s3 (by decide)⟩,by rw [hlen];unfold small;omega,hnx _ ⟨_,_,rfl⟩⟩
  · rintro _ ⟨s5,s6,rfl⟩
    walk_at "st"
    unfold takF Zaq at q
    rw [List.map_map] at q
    exact q
end B.C
theorem for_lo {g:WG} {zb:WS} {E:Ex→Prop} {N:Nds} (lo:Int) (I:Nat→Rho→Prop) (n:Nat) (h:∀ k,k < n→∀ ρ,I k ρ→∀ nx:Rho→Prop,(∀ ρ,I (k+1) ρ→nx ρ)→g (.int (lo+k)) ρ fun ρ1=>zb E { nx:=nx,rt:=N.rt,bk:=N.nx,ct:=nx } ρ1) (hn:∀ ρ,I n ρ→N.nx ρ) (ρ:Rho) (h0:I 0 ρ):Zb4 g zb E N (rng lo n) ρ:=by
  refine Zfk (fun ds ρ=>∃ k,k≤n∧ds=(rng lo n).drop k∧I k ρ) ?_ ?_ _ ρ ⟨0,Nat.zero_le _,by rw [List.drop_zero],h0⟩
  · rintro d ds ρ ⟨k,hk,e,i⟩ nx hnx
    have hlen:(rng lo n).length=n:=by unfold rng;simp
    rcases Nat.lt_or_ge k n with hkn | hkn
    · rw [List.drop_eq_getElem_cons (by omega)] at e
      injection e with e1 e2
      have e3:d = .int (lo+k):=by rw [e1];unfold rng;simp
      rw [e3]
      exact h k hkn ρ i nx fun ρ' i'=>hnx ρ' ⟨k+1,by omega,e2,i'⟩
    · rw [List.drop_eq_nil_of_le (by omega)] at e
      cases e
  · rintro ρ ⟨k,hk,e,i⟩
    have hlen:(rng lo n).length=n:=by unfold rng;simp
    have:k=n:=by
      have:=congrArg List.length e
      rw [List.length_drop,hlen] at this
      simp at this
      omega
    subst this
    exact hn ρ i
theorem lc_flt {α:Type} {wf:WT} {tail:Rho} {Q:List D→Prop} {g:α→D} {p:α→Bool}:∀ (L:List α),(∀ a∈L,∀ P:Bool→Prop,P (p a)→wf No (.d (g a)::tail) P)→∀ (sv:SV) (acc:List D),acc.length+L.length≤small→Q (acc++(L.filter p).map g)→lcW (gN 0) wf (wN 0) (L.map g) (sv::tail) acc Q
  | [],_,sv,acc,_,hq=>by simpa [lcW] using hq
  | a::L,h,sv,acc,hl,hq=>by
    rw [List.map_cons,lcW]
    show wf No (SV.d (g a)::tail) _
    rw [List.length_cons] at hl
    refine h a (by simp) _ ?_
    cases e:p a with
    | true=>
      rw [if_pos rfl]
      refine ⟨by omega,lc_flt L (fun b hb=>h b (by simp [hb])) _ _ (by rw [List.length_append,List.length_singleton];omega) ?_⟩
      rw [List.filter_cons_of_pos e,List.map_cons] at hq
      rw [List.append_assoc]
      exact hq
    | false=>
      rw [if_neg (by decide)]
      refine lc_flt L (fun b hb=>h b (by simp [hb])) _ _ (by omega) ?_
      rw [List.filter_cons_of_neg (by rw [e];decide)] at hq
      exact hq
namespace B.C
theorem row_one {t:List (List Int)} {a k:Nat} {l:Int} (hk:k≤a+1):rowF t a k l=t:=by
  unfold rowF
  refine List.ext_getElem? fun i=>?_
  rw [List.getElem?_map]
  rcases Nat.lt_or_ge i t.length with z | z
  · rw [List.getElem?_range z]
    simp only [Option.map_some]
    rw [if_neg (by omega)]
    unfold gr
    rw [List.getD_eq_getElem?_getD,List.getElem?_eq_getElem z]
    rfl
  · rw [List.getElem?_eq_none (by simpa using z),List.getElem?_eq_none z]
    rfl
theorem row_next {t:List (List Int)} {a k:Nat} {l:Int} (ha:a < k) (hk:k < t.length):rowF t a (k+1) l=(rowF t a k l).set k (takF (gr (rowF t a k l) k) (gr (rowF t a k l) a) a l):=by
  have e1:gr (rowF t a k l) k=gr t k:=by rw [row_gr hk,if_neg (by omega)]
  have e2:gr (rowF t a k l) a=gr t a:=by rw [row_gr (by omega),if_neg (by omega)]
  rw [e1,e2]
  refine List.ext_getElem? fun i=>?_
  rw [List.getElem?_set]
  unfold rowF
  rw [List.getElem?_map,List.getElem?_map,List.length_map,List.length_range]
  rcases Nat.lt_or_ge i t.length with z | z
  · rw [List.getElem?_range z]
    simp only [Option.map_some]
    by_cases c:k=i
    · subst c
      rw [if_pos rfl,if_pos z,if_pos ⟨ha,by omega⟩]
    · rw [if_neg c]
      by_cases d:a < i∧i < k
      · rw [if_pos ⟨d.1,by omega⟩,if_pos d]
      · rw [if_neg (by omega),if_neg d]
  · rw [List.getElem?_eq_none (by simpa using z)]
    rw [if_neg (by omega)]
    rfl
theorem btc_mono {c a b:Nat} (h:a≤b):btc c a≤btc c b:=by
  induction h with
  | refl=>exact Nat.le_refl _
  | step _ ih=>rw [btc];omega
theorem ZeO {i:Nat} {t:WA} {E:Ex→Prop} {N:Nds} {ρ ρ':Rho} {xs:List D} (e:ρ.set i (.ow xs)=ρ') (ht:∀ P:List D→Prop,P xs→t E ρ P) (h:N.nx ρ'):zOwn i t E N ρ:=ht _ (by rw [e];exact h)
theorem pub_by {i:Nat} {z:WS} {E:Ex→Prop} {N:Nds} {ρ ρ':Rho} (e:pub i ρ=ρ') (h:z E N ρ'):zPub i z E N ρ:=by unfold zPub;rw [e];exact h
theorem ixN_nat {n k:Nat} (h:k < n):ixN n (k:Int)=some k:=by
  unfold ixN
  rw [if_pos (by omega),if_pos (by omega),Int.toNat_natCast]
theorem gr_map {t:List (List Int)} {k:Nat} {a:Int} (hk:k < t.length) (ea:a=k):atI (t.map Zaq) a=some (Zaq (gr t k)):=by
  subst ea
  refine atI_nat ?_
  rw [List.getElem?_map]
  unfold gr
  rw [List.getD_eq_getElem?_getD,List.getElem?_eq_getElem hk]
  rfl
theorem flats_nats (L:List Nat):Zdq (L.map fun (k:Nat)=>D.int (k:Int))=true:=by
  induction L with
  | nil=>rfl
  | cons a L ih=>rw [List.map_cons,Zdq,ih];rfl
theorem swap_by {i:Nat} {wv w1 w2:WE} {E:Ex→Prop} {N:Nds} {ρ:Rho} {xs:List D} {x y:D} {k1 k2:Nat} (e:ρ[i]? = some (.ow xs)) (hv:∀ P:D→Prop,P (.tup [x,y])→wv E ρ P) (h1:∀ P:D→Prop,P (.int k1)→w1 E ρ P) (h2:∀ P:D→Prop,P (.int k2)→w2 E (ρ.set i (.ow (xs.set k1 x))) P)
    (l1:k1 < xs.length) (l2:k2 < xs.length) (h:N.nx (ρ.set i (.ow ((xs.set k1 x).set k2 y)))):zSwap i wv w1 w2 E N ρ:=by
  unfold zSwap
  rw [e]
  exact hv _ (h1 _ ⟨k1,ixN_nat l1,h2 _ ⟨k2,ixN_nat l2,h⟩⟩)
theorem Zfb:∀ ds E Q,Zcf ds E Q→Zba E { nx:=fun _=>Q .non,rt:=Q } (rho Zdz ds):=by
  rintro _ E Q ⟨t,rfl,⟨h,h5⟩,q⟩
  dsimp only at h h5 q
  generalize hn:t.length=n at h h5
  unfold numF at q
  rw [hn] at q
  show Zba E _ [.d (tabD t),.un,.un,.un,.un,.un,.un]
  unfold Zba
  refine Zah ?_
  unfold tabD
  walk_at "st"
  refine ZgT (g:=Zaq) (f:=Zaq) t (fun r hr Q hq=>?_) .un [] (by simp [small];omega) ?_
  · unfold Zaq
    walk_at "st"
    exact hq
  rw [List.nil_append]
  walk_at "nx"
  walk_at "nx"
  refine Zah ?_
  simp only [zNox,zFor]
  walk_at "st"
  refine ⟨rfl,by omega,by rw [List.length_map];omega,?_⟩
  rw [List.length_map,hn]
  refine ZeV (fun a ρ=>∃ x s4 s5 s6,runF t a=some x∧ρ=[.d (.lst (t.map Zaq)),.ow (x.t.map Zaq),.d (.int x.s),.d (.int x.l),s4,s5,s6]) n ?_ ?_ _ ⟨⟨t,1,1⟩,_,_,_,rfl,rfl⟩
  rotate_left
  · rintro _ ⟨x,s4,s5,s6,ex,rfl⟩
    rw [ex] at q
    have o:=run_ok h (by decide) (Nat.le_refl _) ex
    walk_at "st"
    refine ⟨⟨?_,bd_of o.l (Nat.le_trans (btc_mono (c:=10) h5) (by decide))⟩,q⟩
    rcases o.s with z | z<;>rw [z]<;>exact bd_of (b:=1) (by decide) (by decide)
  rintro a ha _ ⟨x,s4,s5,s6,ex,rfl⟩ nx hnx
  have o:=run_ok h (by decide) (by omega) ex
  have xl:=o.t.len
  show zSeq _ _ _ _ [.d (.lst (t.map Zaq)),.ow (x.t.map Zaq),.d (.int x.s),.d (.int x.l),.d (.int a),s5,s6]
  have hl:(x.t.map Zaq).length=n:=by rw [List.length_map];exact xl
  refine Zah (ZeO (xs:=(gooF x.t a).map fun (k:Nat)=>D.int (k:Int)) (ρ':=[.d (.lst (t.map Zaq)),.ow (x.t.map Zaq),.d (.int x.s),.d (.int x.l),.d (.int a),.ow ((gooF x.t a).map fun (k:Nat)=>D.int (k:Int)),s6]) (by rfl) (fun P hP=>?_) ?_)
  · walk_at "st"
    rw [List.length_map,xl]
    refine ⟨by omega,?_⟩
    have el:rng (a:Int) ((n:Int) - (a:Int)).toNat=((List.range (n - a)).map (a + ·)).map fun (k:Nat)=>D.int (k:Int):=by
      unfold rng
      rw [List.map_map,show ((n:Int) - (a:Int)).toNat=n - a by omega]
      exact List.map_congr_left fun k _=>by simp
    rw [el]
    refine lc_flt (p:=fun k=>ga (gr x.t k) a != 0) _ (fun k hk P hP=>?_) .un [] (by simp [small];omega) ?_
    · obtain ⟨k',hk',rfl⟩:=List.mem_map.mp hk
      rw [List.mem_range] at hk'
      walk_at "st"
      refine ⟨_,gr_map (by omega) rfl,?_⟩
      refine Zfu (k:=a) (by rw [(o.t.gr (k:=a+k') (by omega)).2.1];exact ha) rfl ?_
      walk_at "st"
      exact hP
    · rw [List.nil_append]
      refine ⟨flats_nats _,?_⟩
      unfold gooF at hP
      rw [xl] at hP
      exact hP
  have bb:btc 10 a≤175:=by
    have:a≤4:=by omega
    exact Nat.le_trans (btc_mono this) (by decide)
  dsimp only
  refine pub_by (ρ':=[.d (.lst (t.map Zaq)),.ow (x.t.map Zaq),.d (.int x.s),.d (.int x.l),.d (.int a),.d (.lst ((gooF x.t a).map fun (k:Nat)=>D.int (k:Int))),s6]) rfl ?_
  have er:runF t (a+1)=stpF a x:=by rw [runF,ex];rfl
  cases eg:gooF x.t a with
  | nil=>
    have:runF t n=none:=by
      have z:runF t (a+1)=none:=by rw [er];unfold stpF;rw [eg]
      have:=run_none z (n - (a+1))
      rw [show a+1+(n - (a+1))=n by omega] at this
      exact this
    rw [this] at q
    refine Zah (ZeU (b:=true) (fun P hP=>?_) (fun _=>q) fun e=>nomatch e)
    walk_at "st"
    exact ⟨by decide,gEq_self (by decide +kernel) hP⟩
  | cons g gs=>
  obtain ⟨g1,g2,g3⟩:=goo_mem o.t (g:=g) (by rw [eg];simp)
  generalize hG:(List.map (fun (k:Nat)=>D.int (k:Int)) (g::gs))=G
  have hGa:atI G 0=some (.int g):=by rw [← hG];exact atI_nat (j:=0) rfl
  refine Zah (ZeU (b:=false) (fun P hP=>?_) (fun e=>nomatch e) fun _=>?_)
  · walk_at "st"
    refine ⟨by decide,?_⟩
    rw [← hG]
    refine Zc2 (okD_mono _ (n:=1) (by decide) (okD_lst fun d hd=>?_)) (by decide +kernel) ?_
    · obtain ⟨k,_,rfl⟩:=List.mem_map.mp hd
      exact okD_int _ _
    · have:deq (.lst (List.map (fun (k:Nat)=>D.int (k:Int)) (g::gs))) (.lst [])=false:=by
        unfold deq
        rw [List.map_cons,pd,pd,PyData.eqv,pds,pds,PyData.eqvAll]
      rw [this]
      exact hP
  dsimp only
  refine pub_by (ρ':=[.d (.lst (t.map Zaq)),.ow (x.t.map Zaq),.d (.int x.s),.d (.int x.l),.d (.int a),.d (.lst G),s6]) rfl ?_
  refine Zah ?_
  have hsw:((x.t.map Zaq).set a (Zaq (gr x.t g))).set g (Zaq (gr x.t a))=(swpF x.t a g).map Zaq:=by unfold swpF;rw [List.map_set,List.map_set]
  have w:=swp_sm o.t ha g2
  have wl:=w.len
  have pre:zSwap 1 (wTup (Zab (wIxO 1 (w2 gIx (wN 5) (wC (D.int (0))))) (Zab (wIxO 1 (wN 4)) aNil))) (wN 4) (w2 gIx (wN 5) (wC (D.int (0))))=zSwap 1 (wTup (Zab (wIxO 1 (w2 gIx (wN 5) (wC (D.int (0))))) (Zab (wIxO 1 (wN 4)) aNil))) (wN 4) (w2 gIx (wN 5) (wC (D.int (0)))):=rfl
  clear pre
  generalize ht1:swpF x.t a g=t1 at hsw w wl
  refine swap_by (xs:=x.t.map Zaq) (x:=Zaq (gr x.t g)) (y:=Zaq (gr x.t a)) (k1:=a) (k2:=g) rfl (fun P hP=>?_) (fun P hP=>hP) (fun P hP=>⟨_,hGa,hP⟩) (by rw [hl];exact ha) (by rw [hl];exact g2) ?_
  · refine ⟨_,hGa,_,gr_map (by omega) rfl,_,gr_map (by omega) rfl,show 2≤small by decide,hP⟩
  rw [hsw]
  dsimp only
  refine pub_by (ρ':=[.d (.lst (t.map Zaq)),.ow (t1.map Zaq),.d (.int x.s),.d (.int x.l),.d (.int a),.d (.lst G),s6]) rfl ?_
  generalize hs':x.s*(1 - 2*(if g=a then (0:Int) else 1))=s'
  refine Zah (B.set_by (d:=.int s') (ρ':=[.d (.lst (t.map Zaq)),.ow (t1.map Zaq),.d (.int s'),.d (.int x.l),.d (.int a),.d (.lst G),s6]) (by rfl) (fun P hP=>?_) ?_)
  · walk_at "st"
    refine ⟨_,hGa,?_⟩
    walk_at "st"
    have e1:(if (!((g:Int) == (a:Int)))=true then (1:Int) else 0)=if g=a then 0 else 1:=by
      by_cases z:g=a
      · subst z;simp
      · rw [if_neg z]
        have:((g:Int) == (a:Int))=false:=by rw [beq_eq_false_iff_ne];omega
        rw [this]
        rfl
    rw [e1,hs']
    refine ⟨⟨?_,?_⟩,⟨?_,?_⟩,hP⟩
    all_goals first | exact bd_of (b:=3) (by decide) (by decide) | (split<;>exact bd_of (b:=3) (by decide) (by decide)) | (rcases o.s with z | z<;>rw [z]<;>exact bd_of (b:=3) (by decide) (by decide))
  dsimp only
  refine Zah ?_
  simp only [zNox,zFor]
  walk_at "st"
  rw [List.length_map,wl]
  refine ⟨rfl,by omega,?_⟩
  have e0:t1.map Zaq=(rowF t1 a (a+1+0) x.l).map Zaq:=by rw [row_one (by omega)]
  rw [e0]
  refine for_lo ((a:Int)+1) (fun k ρ=>∃ s6,ρ=[.d (.lst (t.map Zaq)),.ow ((rowF t1 a (a+1+k) x.l).map Zaq),.d (.int s'),.d (.int x.l),.d (.int a),.d (.lst G),s6]) _ ?_ ?_ _ ⟨_,rfl⟩
  · rintro k hk _ ⟨s6,rfl⟩ nx2 hnx2
    have hk':a+1+k < n:=by omega
    have r:=row_sm (k:=a+1+k) w ha o.l0
    have rl:=r.len
    have nxt:=row_next (t:=t1) (a:=a) (k:=a+1+k) (l:=x.l) (by omega) (by omega)
    rw [show a+1+(k+1)=a+1+k+1 by omega,nxt] at hnx2
    generalize rowF t1 a (a+1+k) x.l=R at r rl hnx2
    have b3:2*btc 10 a+1≤223:=by
      have:btc 10 a≤btc 10 3:=btc_mono (by omega)
      exact Nat.le_trans (Nat.succ_le_succ (Nat.mul_le_mul_left 2 this)) (by decide)
    simp only [gN,List.set_cons_succ,List.set_cons_zero]
    show Zb5 _ _ _ _ _ [.d (.lst (t.map Zaq)),.ow (R.map Zaq),.d (.int s'),.d (.int x.l),.d (.int a),.d (.lst G),.d (.int ((a:Int)+1+k))]
    refine ⟨_,gr_map (t:=R) (k:=a+1+k) (by omega) (by omega),_,gr_map (t:=R) (k:=a) (by omega) rfl,?_⟩
    have up:∀ {y:Int},y.natAbs < 2 ^ (2*btc 10 a+1)→y.natAbs < 2 ^ 223:=fun h=>Nat.lt_of_lt_of_le h (Nat.pow_le_pow_right (by decide) b3)
    refine ⟨((gr R (a+1+k),gr R a),a,x.l),rfl,⟨?_,?_,?_,fun y hy=>up ((r.gr hk').2.2 y hy),fun y hy=>up ((r.gr ha).2.2 y hy),o.l0,Nat.lt_of_lt_of_le o.l (Nat.pow_le_pow_right (by decide) (by omega))⟩,?_⟩
    · show (gr R (a+1+k)).length≤5
      rw [(r.gr hk').2.1];exact h5
    · show (gr R a).length=(gr R (a+1+k)).length
      rw [(r.gr hk').2.1,(r.gr ha).2.1]
    · show a < (gr R (a+1+k)).length
      rw [(r.gr hk').2.1];exact ha
    · refine ⟨a+1+k,?_,?_⟩
      · rw [List.length_map,rl,show (a:Int)+1+(k:Int)=((a+1+k:Nat):Int) by omega]
        exact ixN_nat hk'
      · rw [List.map_set] at hnx2
        exact hnx2 _ ⟨_,rfl⟩
  · rintro _ ⟨s6,rfl⟩
    rw [show a+1+((n:Int) - ((a:Int)+1)).toNat=n by omega]
    have r:=row_sm (k:=n) w ha o.l0
    have rl:=r.len
    have er2:runF t (a+1)=some ⟨rowF t1 a n x.l,s',ga (gr (rowF t1 a n x.l) a) a⟩:=by
      rw [er]
      unfold stpF
      rw [eg]
      show some (St3.mk (rowF (swpF x.t a g) a (swpF x.t a g).length x.l) _ _)=_
      rw [ht1,wl,hs']
    generalize rowF t1 a n x.l=R at r rl er2
    dsimp only
    refine B.set_by (d:=.int (ga (gr R a) a)) (ρ':=[.d (.lst (t.map Zaq)),.ow (R.map Zaq),.d (.int s'),.d (.int (ga (gr R a) a)),.d (.int a),.d (.lst G),s6]) (by rfl) (fun P hP=>?_) (hnx _ ⟨_,_,_,_,er2,rfl⟩)
    walk_at "st"
    refine ⟨_,gr_map (t:=R) (k:=a) (by omega) rfl,Zfu (k:=a) (by rw [(r.gr ha).2.1];exact ha) rfl ⟨rfl,hP⟩⟩
end B.C
namespace B.C
def Dz:Nat→List Rat→List Rat→Prop
  | _,[],_=>True
  | _,_::_,[]=>True
  | N,x::p,y::q=>∃ n m,Sz n x∧Sz m y∧n+m+1≤N∧Dz (N - (n+m+1)) p q
def Zbf:Zav:=fnS (fun x:(Bool×Bool)×List Rat×List Rat=>[seqD x.1.1 (x.2.1.map shq),seqD x.1.2 (x.2.2.map shq)]) (fun x=>Dz 8989 x.2.1 x.2.2) fun x=>shq (dot x.2.1 x.2.2)
section
variable {E:Ex→Prop} {Q:D→Prop} {f l:List Rat} {n m k:Nat} {a x y:Rat}
theorem u__law_dot2 (h1:Sz k a) (h2:Sz n x) (h3:Sz m y) (hb:k+n+m+3≤8989) (q:Q (shq (a+x*y))):Zbf [.lst [shq a,shq x],.lst [.tup [.int 1,.int 1],shq y]] E Q:=by
  have e:dot [a,x] [1,y]=a+x*y:=by simp only [dot,Rat.mul_one,Rat.add_zero]
  refine ⟨((false,false),[a,x],[1,y]),rfl,⟨k,1,h1,Sz.int (n:=1) 1 (by decide) (by decide),by omega,n,m,h2,h3,by omega,trivial⟩,?_⟩
  dsimp only
  rw [e]
  exact q
end
end B.C
namespace B.C
abbrev N__law_dot:List Str:=["_law_one", "_law_other", "_law_top", "_law_bottom", "_law_left", "_law_right"]
abbrev ps__law_dot:List Str:=["_law_one", "_law_other"]
def Ze8:WS:=(zSeq (zSet 2 (wC (D.int (0)))) (zSeq (zSet 3 (wC (D.int (1)))) (zSeq (zNox (zFor (iZ (Zab (wN 0) (Zab (wN 1) aNil))) (gTp 2 (Zat (gN 4) (Zat (gN 5) Za9))) (zSeq (zSet 2 (w2 gAdd (w2 gMul (w2 gMul (wN 2) (w2 gIx (wN 4) (wC (D.int (1))))) (w2 gIx (wN 5) (wC (D.int (1))))) (w2 gMul (w2 gMul (w2 gIx (wN 4) (wC (D.int (0)))) (w2 gIx (wN 5) (wC (D.int (0))))) (wN 3)))) (zSet 3 (w2 gMul (w2 gMul (wN 3) (w2 gIx (wN 4) (wC (D.int (1))))) (w2 gIx (wN 5) (wC (D.int (1))))))))) (zRet (wF ZaQ (Zab (wN 2) (Zab (wN 3) aNil)))))))
end B.C
namespace B.C
theorem Zb6 {a b:Int} {E:Ex→Prop} {Q:D→Prop} (h:b≠0) (h':Bd b) (q:Q (shq (Rat.divInt a b))):ZaQ [.int a,.int b] E Q:=⟨(a,b),rfl,⟨h,h'⟩,q⟩
theorem shq_neg (y:Rat):shq (-y) = .tup [.int (0 - y.num),.int y.den]:=by
  unfold shq
  rw [Rat.neg_num,Rat.neg_den,Int.zero_sub]
end B.C
namespace B.C
def sgn (i j:Nat):Int:=1 - 2*(((i:Int)+j) % 2)
end B.C
namespace B.C
end B.C
namespace B.C
end B.C
end LP
set_option exponentiation.threshold 2000
namespace LP
open PySem PySem.Spec PyProof.Rows L2
namespace B.C.K4
end B.C.K4
section
variable {X:Cx} {pins:List (Addr×Obj)} {σ:L2.St} {H:Hp} {s:Shared} {W:Wd}
mutual
theorem readsA_of (I:Inv X pins σ H s) (ok:WOk W H):∀ {v:V} {d:D} {u:Value} {p:PyData},Rep X.K W v d→RelV v u→toR d=some p→∃ as,Reads s.heap u p as∧sysModules∉as
  | _,_,u,p,.non,r,e=>by cases e;cases r;exact ⟨_,.none,by simp⟩
  | _,_,u,p,.bl b,r,e=>by cases e;cases r;exact ⟨_,.bool b,by simp⟩
  | _,_,u,p,.int i,r,e=>by cases e;obtain ⟨t,rfl⟩:=r;exact ⟨_,.int i t,by simp⟩
  | _,_,u,p,.str x,r,e=>by cases e;obtain ⟨t,rfl⟩:=r;exact ⟨_,.str x t,by simp⟩
  | .ref a,.tup ds,u,p,.tup e0 rs,r,e=>by
    cases r
    cases q:toRs ds with
    | none=>rw [toR,q] at e;cases e
    | some ps=>
      rw [toR,q] at e
      cases e
      obtain ⟨its,rv,⟨o,h1,h2,n,h3⟩,_⟩:=I.tuple (xs:=_) (SqT.of (ok.g _ _ e0))
      obtain ⟨as,ra,hs⟩:=Zd2 I ok rs rv q
      exact ⟨_,.tuple h1 h2 h3 (by simpa using ra),hs⟩
  | .ref a,.tup ds,u,p,.ktup e0 rs,r,e=>by
    cases r
    cases q:toRs ds with
    | none=>rw [toR,q] at e;cases e
    | some ps=>
      rw [toR,q] at e
      cases e
      obtain ⟨its,rv,⟨o,h1,h2,n,h3⟩,_⟩:=I.tuple (xs:=_) (.inr e0)
      obtain ⟨as,ra,hs⟩:=Zd2 I ok rs rv q
      exact ⟨_,.tuple h1 h2 h3 (by simpa using ra),hs⟩
  | .ref a,.lst ds,u,p,.lst e0 rs,r,e=>by
    cases r
    cases q:toRs ds with
    | none=>rw [toR,q] at e;cases e
    | some ps=>
      rw [toR,q] at e
      cases e
      obtain ⟨its,rv,⟨o,n,h1,h2,h3,h4⟩,_⟩:=I.list (xs:=_) (SqL.of (ok.g _ _ e0))
      obtain ⟨as,ra,hs⟩:=Zd2 I ok rs rv q
      refine ⟨_,.list h1 h2 h4 (by simpa using ra),?_⟩
      have hne:a≠sysModules:=fun z=>by
        have e1:=ok.g _ _ e0
        rw [z] at e1
        exact I.sysn _ e1
      intro z
      rcases List.mem_cons.mp z with z | z
      · exact hne z.symm
      · exact hs z
  | .ref a,.dic,u,p,.dic e0,r,e=>by
    cases r
    cases e
    have ho:=I.hok _ _ (ok.g _ _ e0)
    obtain ⟨_,hn,vs,kv,o,es,n,h1,h2,h3,_,h4,_⟩:=ho
    cases kv
    have e:es.toList=[]:=by
      generalize es.toList=l at h4
      cases h4
      rfl
    refine ⟨_,.dict h1 h2.1 h3 (as:=[]) (bs:=[]) ?_ ?_,?_⟩
    · rw [e];exact .nil
    · rw [e];exact .nil
    · have:=beq_eq_false_iff_ne.mp hn
      simpa using fun z=>this z.symm
  | _,_,u,p,.pen _,r,e=>by rw [toR] at e<;>first | cases e | (intros;rename_i z;cases z)
  | _,_,u,p,.cls _,r,e=>by rw [toR] at e<;>first | cases e | (intros;rename_i z;cases z)
  | _,_,u,p,.exc _ _ _,r,e=>by rw [toR] at e<;>first | cases e | (intros;rename_i z;cases z)
  | _,_,u,p,.ty _,r,e=>by rw [toR] at e<;>first | cases e | (intros;rename_i z;cases z)
  | _,_,u,p,.scr _ _,r,e=>by rw [toR] at e<;>first | cases e | (intros;rename_i z;cases z)
theorem Zd2 (I:Inv X pins σ H s) (ok:WOk W H):∀ {vs:List V} {ds:List D} {us:List Value} {ps:List PyData},Reps X.K W vs ds→Vals vs us→toRs ds=some ps→∃ as,ReadsAll s.heap us ps as∧sysModules∉as
  | _,_,us,ps,.nil,r,e=>by rw [toRs] at e;cases e;cases r;exact ⟨_,.nil,by simp⟩
  | _,d::ds,us,ps,.cons rd rs,r,e=>by
    rw [toRs] at e
    cases q1:toR d with
    | none=>rw [q1] at e;cases e
    | some a=>
      cases q2:toRs ds with
      | none=>rw [q1,q2] at e;cases e
      | some b=>
        rw [q1,q2] at e
        cases e
        cases r with
        | cons r1 r2=>
          obtain ⟨as,ha,h1⟩:=readsA_of I ok rd r1 q1
          obtain ⟨bs,hb,h2⟩:=Zd2 I ok rs r2 q2
          exact ⟨_,.cons ha hb,fun z=>(List.mem_append.mp z).elim h1 h2⟩
end
end
section
variable {X:Cx}
def gRepA:List D→(D→Prop)→Prop:=fun ds Q=>∃ x p,ds=[x]∧toR x=some p∧p.showable=true∧p.depth≤32∧p.shown.length≤sizeLine∧Q (.str p.shown)
theorem gRepA.mono:∀ ds P P',(∀ d,P d→P' d)→gRepA ds P→gRepA ds P':=fun ds P P' hp ⟨x,p,h1,h2,h3,h5,h6,h7⟩=>⟨x,p,h1,h2,h3,h5,h6,hp _ h7⟩
theorem c_repA (hg:X.A.guards=some []) (hu:X.A.units+64 < cLine):CallP X (.builtin "repr") gRepA:=by
  refine ⟨⟨fun vs H Q=>∃ W ds,WOk W H∧Reps X.K W vs ds∧gRepA ds (RQ X.K W H Q),?_,fun W H vs ds Q ok r hg=>⟨W,ds,ok,r,hg⟩⟩,gRepA.mono⟩
  rintro pins s σ H vs us Q I rv ⟨W,ds,ok,rs,x,p,rfl,h1,h2,h4,h5,q⟩
  obtain ⟨v,rfl,r⟩:=rs.one
  obtain ⟨u,rfl,ru⟩:=vals1 rv
  obtain ⟨as,ra,hs⟩:=readsA_of I ok r ru h1
  have fin:∀ {s':Shared} {tk:Tok},Inv X pins σ H s'→EP X pins σ Q (.str p.shown tk) s':=fun I'=>⟨.str _,H,I',⟨_,rfl⟩,q.now ok (.str _)⟩
  cases u with
  | ref a=>exact repr_of_reads' ra h2 (fun _=>hs) hg (by omega) (fun _ _ e=>e) (fun h' u tk hk=>fin (I.kept hk)) h5
  | none=>cases ra;exact PySem.P.repr_of_none (fin (I.tok _))
  | bool b=>cases ra;exact PySem.P.repr_of_bool (fin (I.tok _))
  | int i t=>cases ra;exact PySem.P.repr_of_int (by simpa [PyData.showable] using h2) (fin (I.tok _))
  | str y t=>cases ra;exact PySem.P.repr_of_str (fin (I.tok _)) h5
  | _=>cases ra
end
def evn (x:D):Bool:=decide ((sI x).reverse=sI x)
def evR (x:D):Except Str D:=okS x (.ok (.bl (evn x)))
def ZgY:Zav:=xS (fun x:D=>[x]) (fun x=>kd x=true) evR
def ZeC:Zav:=xS (fun x:D=>[x]) (fun x=>kd x=true) fun x=>okS x (if evn x=true then .ok .non else .error "NotEven")
namespace B
section
variable {E:Ex→Prop} {Q:D→Prop} {x y z:D} {s:List Int} {n k:Nat} {r p:List Rat}
end
end B
abbrev N_is_even:List Str:=["slants"]
abbrev ps_is_even:List Str:=["slants"]
def Zgh:WS:=(zRet (w2 (gEq false) (wF Zbk (Zab (wN 0) aNil)) (wN 0)))
abbrev Zg0:List Str:=["slants"]
abbrev ps_need_even:List Str:=["slants"]
def Zek:WS:=(zIf (wNot (wT (wF ZgY (Zab (wN 0) aNil)))) (Zbr (PySem.Str.ofString "NotEven")) zNx)
namespace B
end B
local macro_rules | `(tactic| walk_at "w1")=>`(tactic| simp only [zRet,zIf,zSet,zNx,Zdm,zPub,zOwn,zFor,Za3,zPar,zAsg,zApp,Zb5,zInk,Zcw,zNox,Zbr,zTry,wM,ZcX,Zbh,wOrV,ZdA,wAnd,wOr,wNot,wT,wIf,w1,w2,wB,wF,wL,wTup,wCut,Za0,aB,aLst,Zab,aNil,aLC,Zbq,ZaF,iS,iL,iT,iR1,iR2,iZ,Za8,ZaZ,wN,wC,gN,gTp,Zat,Za9,gIxP,ZaA,wPen,wBor,tBor,aBor,wIxO,aAdd,aMul,aCut,rho,pub,List.map_cons,List.map_nil,List.length_cons,List.length_nil,List.cons_append,List.nil_append,List.replicate,List.getElem?_cons_zero,List.getElem?_cons_succ,List.set_cons_zero,List.set_cons_succ,Nat.reduceSub,Nat.reduceAdd,List.replicate_succ,List.replicate_zero,true_and,Bool.false_eq_true,if_true,if_false,ite_true,ite_false,Int.toNat_natCast,Bool.not_true,Bool.not_false,
  Zfr,Zfq,Zfp,Zdg,Zdf,Zfo,Zdb,Zd,Zda,Zdd,Zdc,Zde,ZbE,ZbH,ZbF,ZbG,ZbJ,ZbI,ZbK,Zc3,Zc6,Zc4,Zc5,Zc8,Zc7,Zc9,ZbN,Zbj,ZbO,ZbP,ZbR,ZbQ,ZbS,Zbx,Zbz,Zby,ZbB,ZbA,Zbu,Zbv,Zbw,ZaM,ZaN,ZaO,ZbV,ZbU,ZbT,ZbD,ZbC,e_I2,Zft,Zfn,ZbM,ZbL,Zfs,e_i1,e_i2])
local macro_rules | `(tactic| walk_at "st")=>`(tactic| ((try dsimp only at *);(try walk_at "w1");(try dsimp only)))
local macro_rules | `(tactic| walk_at "nx")=>`(tactic| ((try dsimp only);(refine Zah ?_);walk_at "st"))
theorem deq_intsT (a b:List Int):deq (Zax a) (Zax b)=decide (a=b):=by
  unfold deq Zax
  rw [pd,pd,PyData.eqv]
  induction a generalizing b with
  | nil=>cases b<;>simp [pds,PyData.eqvAll]
  | cons x a ih=>
    cases b with
    | nil=>simp [pds,PyData.eqvAll]
    | cons y b=>
      rw [List.map_cons,List.map_cons,pds,pds,PyData.eqvAll,ih b,pd,pd,PyData.eqv,Bool.eq_iff_iff]
      simp
theorem rd_is_even:∀ ds E Q,ZgY ds E Q→Zgh E { nx:=fun _=>Q .non,rt:=Q } (rho N_is_even ds):=by
  rintro _ E Q ⟨x,rfl,hk,q⟩
  unfold Zgh
  walk_at "st"
  cases e:slG x with
  | false=>exact xS.err x rfl hk (okS_not e) (okS_bad e q)
  | true=>
    obtain ⟨s,n,rfl,h⟩:=slG_inv e
    refine Zgi h (Zc2 (ZeR _ 59) (ZeR _ 59) ?_)
    replace q:=Zga h q
    unfold evn at q
    rw [Zet] at q
    simp only [Bool.false_eq_true,if_false]
    rw [deq_intsT]
    exact q
theorem rd_need_even:∀ ds E Q,ZeC ds E Q→Zek E { nx:=fun _=>Q .non,rt:=Q } (rho Zg0 ds):=by
  rintro _ E Q ⟨x,rfl,hk,q⟩
  unfold Zek
  walk_at "st"
  cases e:slG x with
  | false=>exact xS.err x rfl hk (okS_not e) (okS_bad e q)
  | true=>
    obtain ⟨s,n,rfl,h⟩:=slG_inv e
    replace q:=Zga h q
    refine xS.ok (Zax s) rfl hk (okS_of h) ?_
    walk_at "st"
    cases ev:evn (Zax s) with
    | true=>rw [ev] at q;simpa [exQ] using q
    | false=>rw [ev] at q;simpa [exQ] using q
namespace B
end B
namespace B.C.Q0
mutual
def fx:D→List Nat→Bool
  | .non,_=>true
  | .bl _,_=>true
  | .int i,_=>decide (i.natAbs < 2 ^ 115)
  | .str x,_=>decide (x.cps.size≤4) && x.cps.toList.all fun c=>decide (c < 16 ^ 8)
  | .dic,_=>true
  | .tup _,[]=>false
  | .lst _,[]=>false
  | .tup xs,w::ws=>decide (xs.length≤w) && fxs xs ws
  | .lst xs,w::ws=>decide (xs.length≤w) && fxs xs ws
  | .pen,_=>false
  | .cls _,_=>false
  | .exc _,_=>false
  | .ty _,_=>false
  | .scr _,_=>false
def fxs:List D→List Nat→Bool
  | [],_=>true
  | x::r,ws=>fx x ws && fxs r ws
end
def Bw:List Nat→Nat
  | []=>4
  | w::ws=>4+w*(Bw ws+1)
theorem Bw_4:∀ ws,4≤Bw ws
  | []=>Nat.le_refl _
  | w::ws=>by rw [Bw];omega
theorem fxs_iff:∀ {xs:List D} {ws:List Nat},fxs xs ws=true↔∀ x∈xs,fx x ws=true
  | [],_=>by simp [fxs]
  | x::r,ws=>by rw [fxs,Bool.and_eq_true,fxs_iff];simp
theorem int_shown {i:Int} (h:i.natAbs < 2 ^ 115):i.natAbs.log2 < 1920∧(PyData.shown (.int i)).length≤60:=by
  have hl:i.natAbs.log2 < 115:=by
    by_cases z:i.natAbs=0
    · rw [z];decide
    · exact (Nat.log2_lt z).mpr h
  refine ⟨by omega,?_⟩
  have a1:=PySem.int_text_length_le10 (a:=i) (k:=40) (by decide) (Nat.lt_of_lt_of_le h (by decide))
  have f:(PyData.shown (.int i)).length=(toString i).length:=by
    rw [PyData.shown]
    exact PySem.ofString_length _
  rw [f]
  omega
mutual
theorem fx_R:∀ (x:D) (ws:List Nat),fx x ws=true→∃ p,toR x=some p∧p.showable=true∧p.depth≤ws.length+1∧p.leavesShort 60=true∧p.bulk≤Bw ws
  | .non,ws,_=>⟨_,rfl,rfl,by simp [PyData.depth],rfl,by have:=Bw_4 ws;simp [PyData.bulk]⟩
  | .bl _,ws,_=>⟨_,rfl,rfl,by simp [PyData.depth],rfl,by have:=Bw_4 ws;simp [PyData.bulk]⟩
  | .int i,ws,h=>by
    rw [fx,decide_eq_true_eq] at h
    obtain ⟨h1,h2⟩:=int_shown h
    exact ⟨_,rfl,by simp [PyData.showable,h1],by simp [PyData.depth],by simp [PyData.leavesShort,h2],by simp [PyData.bulk]⟩
  | .str x,ws,h=>by
    rw [fx,Bool.and_eq_true,decide_eq_true_eq] at h
    have:=Bw_4 ws
    exact ⟨_,rfl,by simp [PyData.showable],by simp [PyData.depth],by rw [PyData.leavesShort];exact h.2,by rw [PyData.bulk];omega⟩
  | .dic,ws,h=>⟨.dict [],rfl,by simp [PyData.showable,PyData.showableKv],by simp [PyData.depth,PyData.depthKv],by simp [PyData.leavesShort,PyData.leavesShortKv],by simp [PyData.bulk,PyData.bulkKv]⟩
  | .tup xs,[],h=>by rw [fx] at h;cases h
  | .lst xs,[],h=>by rw [fx] at h;cases h
  | .tup xs,w::ws,h=>by
    rw [fx,Bool.and_eq_true,decide_eq_true_eq] at h
    obtain ⟨ps,e1,e2,e3,e4,e5⟩:=fxs_R xs ws h.2
    refine ⟨.tuple ps,by rw [toR,e1];rfl,by rw [PyData.showable];exact e2,by rw [PyData.depth,List.length_cons];omega,by rw [PyData.leavesShort];exact e4,?_⟩
    rw [PyData.bulk,Bw]
    have:=Nat.mul_le_mul_right (Bw ws+1) h.1
    omega
  | .lst xs,w::ws,h=>by
    rw [fx,Bool.and_eq_true,decide_eq_true_eq] at h
    obtain ⟨ps,e1,e2,e3,e4,e5⟩:=fxs_R xs ws h.2
    refine ⟨.list ps,by rw [toR,e1];rfl,by rw [PyData.showable];exact e2,by rw [PyData.depth,List.length_cons];omega,by rw [PyData.leavesShort];exact e4,?_⟩
    rw [PyData.bulk,Bw]
    have:=Nat.mul_le_mul_right (Bw ws+1) h.1
    omega
  | .pen,n,h=>by rw [fx] at h;cases h
  | .cls _,n,h=>by rw [fx] at h;cases h
  | .exc _,n,h=>by rw [fx] at h;cases h
  | .ty _,n,h=>by rw [fx] at h;cases h
  | .scr _,n,h=>by rw [fx] at h;cases h
theorem fxs_R:∀ (xs:List D) (ws:List Nat),fxs xs ws=true→∃ ps,toRs xs=some ps∧PyData.showableAll ps=true∧PyData.depthAll ps≤ws.length+1∧PyData.leavesShortAll 60 ps=true∧PyData.bulkAll ps≤xs.length*(Bw ws+1)
  | [],ws,_=>⟨[],rfl,rfl,by simp [PyData.depthAll],rfl,by simp [PyData.bulkAll]⟩
  | x::r,ws,h=>by
    rw [fxs,Bool.and_eq_true] at h
    obtain ⟨p,a1,a2,a3,a4,a5⟩:=fx_R x ws h.1
    obtain ⟨ps,b1,b2,b3,b4,b5⟩:=fxs_R r ws h.2
    refine ⟨p::ps,by rw [toRs,a1,b1],by rw [PyData.showableAll,a2,b2];rfl,by rw [PyData.depthAll];omega,by rw [PyData.leavesShortAll,a4,b4];rfl,?_⟩
    rw [PyData.bulkAll,List.length_cons,Nat.succ_mul];omega
end
theorem repr_fx {ws:List Nat} {x:D} {Q:D→Prop} (h:fx x ws=true) (q:Q (.str (rshow x))) (hn:ws.length≤20:=by decide) (hs:62*Bw ws+60≤sizeLine:=by decide):gRepA [x] Q:=by
  obtain ⟨p,h1,h2,h3,h4,h5⟩:=fx_R x ws h
  unfold rshow at q
  rw [h1] at q
  refine ⟨x,p,rfl,h1,h2,by omega,?_,q⟩
  have:=PyData.shown_le_bulk 60 (by decide) p h4
  have:(60+2)*p.bulk≤62*Bw ws:=Nat.mul_le_mul_left _ h5
  omega
mutual
theorem fx_kd:∀ (x:D) (ws:List Nat),(∀ w∈ws,w≤5000)→fx x ws=true→kd x=true∧szD 115 x=true
  | .non,_,_,_=>⟨by rw [kd],by rw [szD]<;>simp⟩
  | .bl _,_,_,_=>⟨by rw [kd],by rw [szD]<;>simp⟩
  | .int _,_,_,h=>⟨by rw [kd],by rw [fx] at h;rw [szD];exact h⟩
  | .str _,_,_,_=>⟨by rw [kd],by rw [szD]<;>simp⟩
  | .dic,_,_,_=>⟨by rw [kd],by rw [szD]<;>simp⟩
  | .tup xs,[],_,h=>by rw [fx] at h;cases h
  | .lst xs,[],_,h=>by rw [fx] at h;cases h
  | .tup xs,w::ws,hw,h=>by
    rw [fx,Bool.and_eq_true,decide_eq_true_eq] at h
    have a:=fxs_kd xs ws (fun w h=>hw w (List.mem_cons_of_mem _ h)) h.2
    have:=hw w (List.mem_cons_self ..)
    exact ⟨by rw [kd,Bool.and_eq_true,decide_eq_true_eq];exact ⟨by omega,a.1⟩,by rw [szD];exact a.2⟩
  | .lst xs,w::ws,hw,h=>by
    rw [fx,Bool.and_eq_true,decide_eq_true_eq] at h
    have a:=fxs_kd xs ws (fun w h=>hw w (List.mem_cons_of_mem _ h)) h.2
    have:=hw w (List.mem_cons_self ..)
    exact ⟨by rw [kd,Bool.and_eq_true,decide_eq_true_eq];exact ⟨by omega,a.1⟩,by rw [szD];exact a.2⟩
  | .pen,n,_,h=>by rw [fx] at h;cases h
  | .cls _,n,_,h=>by rw [fx] at h;cases h
  | .exc _,n,_,h=>by rw [fx] at h;cases h
  | .ty _,n,_,h=>by rw [fx] at h;cases h
  | .scr _,n,_,h=>by rw [fx] at h;cases h
theorem fxs_kd:∀ (xs:List D) (ws:List Nat),(∀ w∈ws,w≤5000)→fxs xs ws=true→kds xs=true∧szDs 115 xs=true
  | [],_,_,_=>⟨by rw [kds],by rw [szDs]⟩
  | x::r,n,hw,h=>by
    rw [fxs,Bool.and_eq_true] at h
    have a:=fx_kd x n hw h.1
    have b:=fxs_kd r n hw h.2
    exact ⟨by rw [kds,a.1,b.1];rfl,by rw [szDs,a.2,b.2];rfl⟩
end
theorem ZdN {w:Nat} {ws:List Nat} {xs:List D} (hl:xs.length≤w) (h:∀ x∈xs,fx x ws=true):fx (.tup xs) (w::ws)=true:=by rw [fx,decide_eq_true hl,fxs_iff.mpr h];rfl
theorem ZdO {w:Nat} {ws:List Nat} {xs:List D} (hl:xs.length≤w) (h:∀ x∈xs,fx x ws=true):fx (.lst xs) (w::ws)=true:=by rw [fx,decide_eq_true hl,fxs_iff.mpr h];rfl
theorem fx_int {i:Int} {ws:List Nat} (h:i.natAbs < 2 ^ 115):fx (.int i) ws=true:=by rw [fx];exact decide_eq_true h
theorem fx_shq {w:Nat} {ws:List Nat} {q:Rat} (hw:2≤w) (h:Sz 115 q):fx (shq q) (w::ws)=true:=by
  unfold shq
  refine ZdN hw fun x hx=>?_
  simp only [List.mem_cons,List.not_mem_nil,or_false] at hx
  rcases hx with rfl | rfl
  · exact fx_int h.1
  · exact fx_int (by simpa using h.2)
theorem fx_rowq {w v:Nat} {ws:List Nat} {r:List Rat} (hv:2≤v) (hl:r.length≤w) (h:∀ x∈r,Sz 115 x):fx (rowq r) (w::v::ws)=true:=by
  unfold rowq
  refine ZdN (by simpa using hl) fun x hx=>?_
  obtain ⟨q,hq,rfl⟩:=List.mem_map.mp hx
  exact fx_shq hv (h q hq)
end B.C.Q0
end LP
set_option exponentiation.threshold 400
namespace LP
open PySem PySem.Spec PyProof.Rows L2
namespace B.C
mutual
def bx (b:Nat):D→Nat→Bool
  | .non,_=>true
  | .bl _,_=>true
  | .int i,_=>decide (i.natAbs < 2 ^ 300)
  | .str x,_=>decide (x.cps.size≤4) && x.cps.toList.all fun c=>decide (c < 16 ^ 8)
  | .dic,_=>true
  | .tup xs,n=>decide (0 < n) && decide (xs.length≤b) && bxs b xs (n - 1)
  | .lst xs,n=>decide (0 < n) && decide (xs.length≤b) && bxs b xs (n - 1)
  | .pen,_=>false
  | .cls _,_=>false
  | .exc _,_=>false
  | .ty _,_=>false
  | .scr _,_=>false
def bxs (b:Nat):List D→Nat→Bool
  | [],_=>true
  | x::r,n=>bx b x n && bxs b r n
end
theorem bxs_iff {b:Nat}:∀ {xs:List D} {n:Nat},bxs b xs n=true↔∀ x∈xs,bx b x n=true
  | [],_=>by simp [bxs]
  | x::r,n=>by rw [bxs,Bool.and_eq_true,bxs_iff];simp
mutual
theorem bx_mono {b:Nat}:∀ (x:D) {n m:Nat},n≤m→bx b x n=true→bx b x m=true
  | .non,_,_,_,h=>h
  | .bl _,_,_,_,h=>h
  | .int _,_,_,_,h=>h
  | .str _,_,_,_,h=>h
  | .dic,_,_,_,h=>h
  | .tup xs,n,m,l,h=>by
    rw [bx,Bool.and_eq_true,Bool.and_eq_true,decide_eq_true_eq,decide_eq_true_eq] at h ⊢
    exact ⟨⟨by omega,h.1.2⟩,bxs_mono xs (by omega) h.2⟩
  | .lst xs,n,m,l,h=>by
    rw [bx,Bool.and_eq_true,Bool.and_eq_true,decide_eq_true_eq,decide_eq_true_eq] at h ⊢
    exact ⟨⟨by omega,h.1.2⟩,bxs_mono xs (by omega) h.2⟩
  | .pen,n,_,_,h=>by rw [bx] at h;cases h
  | .cls _,n,_,_,h=>by rw [bx] at h;cases h
  | .exc _,n,_,_,h=>by rw [bx] at h;cases h
  | .ty _,n,_,_,h=>by rw [bx] at h;cases h
  | .scr _,n,_,_,h=>by rw [bx] at h;cases h
theorem bxs_mono {b:Nat}:∀ (xs:List D) {n m:Nat},n≤m→bxs b xs n=true→bxs b xs m=true
  | [],_,_,_,_=>by rw [bxs]
  | x::r,n,m,l,h=>by
    rw [bxs,Bool.and_eq_true] at h ⊢
    exact ⟨bx_mono x l h.1,bxs_mono r l h.2⟩
end
theorem bx_tup {b n:Nat} {xs:List D} (hl:xs.length≤b) (h:∀ x∈xs,bx b x n=true):bx b (.tup xs) (n+1)=true:=by
  rw [bx,decide_eq_true hl,decide_eq_true (Nat.succ_pos n),bxs_iff.mpr (by simpa using h)];rfl
theorem bx_shq {b n:Nat} {q:Rat} (hb:2≤b) (h:Sz 223 q):bx b (shq q) (n+1)=true:=by
  unfold shq
  refine bx_tup hb fun x hx=>?_
  simp only [List.mem_cons,List.not_mem_nil,or_false] at hx
  have h1:q.num.natAbs < 2 ^ 300:=Nat.lt_trans h.1 (by decide)
  have h2:(q.den:Int).natAbs < 2 ^ 300:=Nat.lt_trans (by simpa using h.2) (by decide:2 ^ 223 < 2 ^ 300)
  rcases hx with rfl | rfl
  · rw [bx,decide_eq_true h1]
  · rw [bx,decide_eq_true h2]
theorem bx_rowq {b n:Nat} {r:List Rat} (hb:2≤b) (hl:r.length≤b) (h:∀ x∈r,Sz 223 x):bx b (rowq r) (n+2)=true:=by
  unfold rowq
  refine bx_tup (by simpa using hl) fun x hx=>?_
  obtain ⟨q,hq,rfl⟩:=List.mem_map.mp hx
  exact bx_shq hb (h q hq)
end B.C
end LP
namespace L2
open PySem PySem.Spec PyProof.Rows
section
variable {X:Cx} {CX:CXT} {E:XK} {pos:Pos} {c e:Expr} {es:List Expr} {tc:TE} {t:TA}
end
end L2
namespace LP
open PySem PySem.Spec PyProof.Rows L2
section
variable {X:Cx} {EX:XK} {pos:Pos} {c e:Expr} {es:List Expr} {wc:WE} {t:WA} {j:Nat}
end
section
variable {X:Cx}
def gEqS:G2:=fun x y Q=>∃ a b,x = .str a∧y = .str b∧Q (.bl (a == b))
theorem gEqS.mono:∀ x y P P',(∀ d,P d→P' d)→gEqS x y P→gEqS x y P':=fun x y P P' hp ⟨a,b,h1,h2,h3⟩=>⟨a,b,h1,h2,hp _ h3⟩
theorem o_eqS:OpP X (compareOp .Eq) gEqS:=by
  refine ⟨⟨_,op_eq,fun W H x y dx dy Q ok rx ry hg=>?_⟩,gEqS.mono⟩
  obtain ⟨a,b,rfl,rfl,q⟩:=hg
  cases rx;cases ry
  have e:decide (V.str a=V.str b)=(a == b):=by rw [Bool.eq_iff_iff];simp
  rw [← e] at q
  exact ⟨rfl,q.now ok (.bl _)⟩
end
local macro_rules | `(tactic| walk_at "w1")=>`(tactic| simp only [zRet,zIf,zSet,zNx,Zdm,zPub,zOwn,zFor,Za3,zPar,zAsg,zApp,Zb5,zInk,Zcw,zNox,Zbr,zTry,wM,ZcX,Zbh,wOrV,ZdA,wAnd,wOr,wNot,wT,wIf,w1,w2,wB,wF,wL,wTup,wCut,Za0,aB,aLst,Zab,aNil,aLC,Zbq,ZaF,iS,iL,iT,iR1,iR2,iZ,Za8,ZaZ,wN,wC,gN,gTp,Zat,Za9,gIxP,ZaA,wPen,wBor,tBor,aBor,wIxO,aAdd,aMul,aCut,rho,pub,List.map_cons,List.map_nil,List.length_cons,List.length_nil,List.cons_append,List.nil_append,List.replicate,List.getElem?_cons_zero,List.getElem?_cons_succ,List.set_cons_zero,List.set_cons_succ,Nat.reduceSub,Nat.reduceAdd,List.replicate_succ,List.replicate_zero,true_and,Bool.false_eq_true,if_true,if_false,ite_true,ite_false,Int.toNat_natCast,Bool.not_true,Bool.not_false,
  Zfr,Zfq,Zfp,Zdg,Zdf,Zfo,Zdb,Zd,Zda,Zdd,Zdc,Zde,ZbE,ZbH,ZbF,ZbG,ZbJ,ZbI,ZbK,Zc3,Zc6,Zc4,Zc5,Zc8,Zc7,Zc9,ZbN,Zbj,ZbO,ZbP,ZbR,ZbQ,ZbS,Zbx,Zbz,Zby,ZbB,ZbA,Zbu,Zbv,Zbw,ZaM,ZaN,ZaO,ZbV,ZbU,ZbT,ZbD,ZbC,e_I2,Zft,Zfn,ZbM,ZbL,Zfs,e_i1,e_i2])
local macro_rules | `(tactic| walk_at "st")=>`(tactic| ((try dsimp only at *);(try walk_at "w1");(try dsimp only)))
local macro_rules | `(tactic| walk_at "nx")=>`(tactic| ((try dsimp only);(refine Zah ?_);walk_at "st"))
namespace B
end B
namespace B.C
section
variable {E:Ex→Prop} {Q:D→Prop} {x y:D} {f l:List Rat} {t:List (List Int)}
end
end B.C
namespace B.C
end B.C
namespace B.C
theorem or_by {w w':WT} {E:Ex→Prop} {ρ:Rho} {b c:Bool} (hw:∀ P:Bool→Prop,P b→w E ρ P) (hw':∀ P:Bool→Prop,P c→w' E ρ P):∀ P:Bool→Prop,P (b || c)→wOr w w' E ρ P:=fun P h=>hw _ (by
  cases b with
  | true=>rw [if_pos rfl];exact h
  | false=>rw [if_neg (by decide)];exact hw' _ h)
end B.C
namespace B.C
theorem for_seq {w:WE} {g:WG} {zb:WS} {E:Ex→Prop} {N:Nds} {ρ:Rho} {xs:List D} (hw:∀ P:D→Prop,P (.lst xs)→w E ρ P) (h:Zb4 g zb E N xs ρ):zFor (iS w) g zb E N ρ:=hw _ h
theorem pair_at {w1 w2:WE} {E:Ex→Prop} {ρ:Rho} {a b:D} (h1:∀ P:D→Prop,P a→w1 E ρ P) (h2:∀ P:D→Prop,P b→w2 E ρ P):∀ P:D→Prop,P (.tup [a,b])→wTup (Zab w1 (Zab w2 aNil)) E ρ P:=fun P h=>h1 _ (h2 _ ⟨show 2≤small by decide,h⟩)
def okp (d:D):Prop:=∃ a b,d = .tup [a,b]∧bx 7 a 3=true∧bx 7 b 3=true∧dl (.tup [a,b])=true
theorem okp.of {a b:D} (h1:bx 7 a 3=true) (h2:bx 7 b 3=true) (h3:dl (.tup [a,b])=true):okp (.tup [a,b]):=⟨a,b,rfl,h1,h2,h3⟩
theorem dl_both {a b:D} (h1:noL a=true) (h2:noD a=true) (h:dl b=true):dl (.tup [a,b])=true∧dl (.tup [b,a])=true:=by
  refine ⟨dl_tup ?_,dl_tup ?_⟩<;>(
    rcases Bool.or_eq_true_iff.mp (show (noL b || noD b)=true from h) with e | e
    · refine .inl fun x hx=>?_
      simp only [List.mem_cons,List.not_mem_nil,or_false] at hx
      rcases hx with rfl | rfl<;>assumption
    · refine .inr fun x hx=>?_
      simp only [List.mem_cons,List.not_mem_nil,or_false] at hx
      rcases hx with rfl | rfl<;>assumption)
theorem dl_rowq (r:List Rat):dl (rowq r)=true:=by unfold dl;rw [noL_rowq];rfl
theorem bx_row {r:List Rat} (h:r.length≤7) (hs:∀ x∈r,Sz 223 x):bx 7 (rowq r) 3=true:=bx_mono _ (n:=2) (by decide) (bx_rowq (by decide) h hs)
theorem okp.rows {p r:List Rat} (h1:p.length≤7) (h2:r.length≤7) (s1:∀ x∈p,Sz 223 x) (s2:∀ x∈r,Sz 223 x):okp (.tup [rowq p,rowq r]):=.of (bx_row h1 s1) (bx_row h2 s2) (dl_both (noL_rowq _) (noD_rowq _) (dl_rowq _)).1
end B.C
namespace B.C
set_option maxHeartbeats 2000000 in
theorem rd__law_dot:∀ ds E Q,Zbf ds E Q→Ze8 E { nx:=fun _=>Q .non,rt:=Q } (rho N__law_dot ds):=by
  rintro _ E Q ⟨⟨⟨b1,b2⟩,p,q⟩,rfl,hd,h⟩
  dsimp only at hd h
  obtain ⟨N0,hN0,hd⟩:∃ N,N < 8990∧Dz N p q:=⟨8989,by decide,hd⟩
  unfold Ze8
  have key:∀ (p' q':List Rat) (t b:Int) (sv sv':SV) (j:Nat),Dz (N0 - j) p' q'→t.natAbs≤2 ^ j→b.natAbs≤2 ^ j→b≠0→j≤N0→Rat.divInt t b+dot p' q'=dot p q→
      Zb4 (gTp 2 (Zat (gN 4) (Zat (gN 5) Za9))) (zSeq (zSet 2 (w2 gAdd (w2 gMul (w2 gMul (wN 2) (w2 gIx (wN 4) (wC (D.int (1))))) (w2 gIx (wN 5) (wC (D.int (1))))) (w2 gMul (w2 gMul (w2 gIx (wN 4) (wC (D.int (0)))) (w2 gIx (wN 5) (wC (D.int (0))))) (wN 3)))) (zSet 3 (w2 gMul (w2 gMul (wN 3) (w2 gIx (wN 4) (wC (D.int (1))))) (w2 gIx (wN 5) (wC (D.int (1)))))))
        No { nx:=zRet (wF ZaQ (Zab (wN 2) (Zab (wN 3) aNil))) E { nx:=fun _=>Q .non,rt:=Q },rt:=Q,bk:=fun _=>False,ct:=fun _=>False }
        (zips (p'.map shq) (q'.map shq)) [.d (seqD b1 (p.map shq)),.d (seqD b2 (q.map shq)),.d (.int t),.d (.int b),sv,sv']:=by
    intro p'
    induction p' with
    | nil=>
      intro q' t b sv sv' j _ h3 h4 h5 h6 he
      rw [dot,Rat.add_zero] at he
      simp only [zips,List.map_nil,List.zipWith_nil_left,Zb4]
      walk_at "st"
      exact Zb6 h5 (B.bd_le h4 (by omega)) (by rw [he];exact h)
    | cons x p' ih=>
      intro q' t b sv sv' j hz h3 h4 h5 h6 he
      cases q' with
      | nil=>
        rw [dot,Rat.add_zero] at he
        simp only [zips,List.map_nil,List.zipWith_nil_right,Zb4]
        walk_at "st"
        exact Zb6 h5 (B.bd_le h4 (by omega)) (by rw [he];exact h)
      | cons y q'=>
        obtain ⟨n,m,hx,hy,hnm,hz'⟩:=hz
        simp only [zips,List.map_cons,List.zipWith_cons_cons,Zb4]
        refine ⟨rfl,?_⟩
        walk_at "st"
        walk_at "nx"
        have xd:((x.den:Int)).natAbs≤2 ^ n:=by simpa using Nat.le_of_lt hx.2
        have yd:((y.den:Int)).natAbs≤2 ^ m:=by simpa using Nat.le_of_lt hy.2
        have xn:x.num.natAbs≤2 ^ n:=Nat.le_of_lt hx.1
        have yn:y.num.natAbs≤2 ^ m:=Nat.le_of_lt hy.1
        have mm:∀ {i k:Int} {c d:Nat},i.natAbs≤2 ^ c→k.natAbs≤2 ^ d→(i*k).natAbs≤2 ^ (c+d):=fun h h'=>by
          rw [Int.natAbs_mul,Nat.pow_add];exact Nat.mul_le_mul h h'
        have t1:=mm h3 xd
        have t2:=mm t1 yd
        have t3:=mm xn yn
        have t4:=mm t3 h4
        have t5:=mm h4 xd
        have t6:=mm t5 yd
        refine ix1 ⟨⟨B.bd_le h3 (by omega),B.bd_le xd (by omega)⟩,ix1 ⟨⟨B.bd_le t1 (by omega),B.bd_le yd (by omega)⟩,ix0 (ix0 ⟨⟨B.bd_le xn (by omega),B.bd_le yn (by omega)⟩,⟨⟨B.bd_le t3 (by omega),B.bd_le h4 (by omega)⟩,?_⟩⟩)⟩⟩
        walk_at "st"
        refine ix1 ⟨⟨B.bd_le h4 (by omega),B.bd_le xd (by omega)⟩,ix1 ⟨⟨B.bd_le t5 (by omega),B.bd_le yd (by omega)⟩,?_⟩⟩
        refine ih q' _ _ _ _ (j+(n+m+1)) (by rw [Nat.sub_add_eq];exact hz') ?_ ?_ ?_ (by omega) ?_
        · refine Nat.le_trans (Int.natAbs_add_le _ _) ?_
          rw [show j+(n+m+1)=(j+n+m)+1 by omega,Nat.pow_succ]
          have t4':(x.num*y.num*b).natAbs≤2 ^ (j+n+m):=by rw [show j+n+m=n+m+j by omega];exact t4
          omega
        · exact Nat.le_trans t6 (Nat.pow_le_pow_right (by decide) (by omega))
        · exact Int.mul_ne_zero (Int.mul_ne_zero h5 (by have:=x.den_nz;omega)) (by have:=y.den_nz;omega)
        · rw [B.dot_step h5,Rat.add_assoc]
          rw [dot] at he
          exact he
  walk_at "nx"
  walk_at "nx"
  have k:=key p q 0 1 .un .un 0 hd (by simp) (by simp) (by decide) (by omega) (by rw [Rat.zero_divInt,Rat.zero_add])
  cases b1<;>cases b2<;>exact k
end B.C
namespace B.C
def ZdR:Zav:=ZbW
abbrev Za6:List Str:=["_law_thing"]
abbrev ZeN:List Str:=["_law_thing"]
def ZaL:WS:=(zSeq (zIf (wOr (wNot (wT (wB gIs (Zab (wN 0) (Zab (wC (.ty "tuple")) aNil))))) (wOr (wT (w2 (gEq true) (wB gLen (Zab (wN 0) aNil)) (wC (D.int (2))))) (wOr (wNot (wT (wF ZdR (Zab (w2 gIx (wN 0) (wC (D.int (0)))) aNil)))) (wNot (wT (wF ZdR (Zab (w2 gIx (wN 0) (wC (D.int (1)))) aNil))))))) (zRet (wC (D.bl false))) zNx) (zRet (Zbh (w2 gGtI (w2 gIx (wN 0) (wC (D.int (1)))) (wC (D.int (0)))) (w2 (gEq false) (wF Zco (Zab (w2 gIx (wN 0) (wC (D.int (0)))) (Zab (w2 gIx (wN 0) (wC (D.int (1)))) aNil))) (wC (D.int (1)))))))
theorem rd__law_share_like:∀ ds E Q,ZaH ds E Q→ZaL E { nx:=fun _=>Q .non,rt:=Q } (rho Za6 ds):=B.rd__law_share_like
end B.C
section
variable {E:Ex→Prop} {Q:D→Prop} {x y:D} {s:List Int} {n k:Nat} {r:List Rat}
end
theorem Zfm {α:Type} [DecidableEq α] {f:α→D} (h:∀ a b,deq (f a) (f b)=decide (a=b)):∀ xs ys:List α,PyData.eqvAll (pds (xs.map f)) (pds (ys.map f))=decide (xs=ys)
  | [],[]=>by simp [pds,PyData.eqvAll]
  | [],_::_=>by simp [pds,PyData.eqvAll]
  | _::_,[]=>by simp [pds,PyData.eqvAll]
  | x::xs,y::ys=>by
    have:=h x y
    unfold deq at this
    rw [List.map_cons,List.map_cons,pds,pds,PyData.eqvAll,this,Zfm h xs ys,Bool.eq_iff_iff]
    simp
theorem deq_tup {α:Type} [DecidableEq α] {f:α→D} (h:∀ a b,deq (f a) (f b)=decide (a=b)) (xs ys:List α):deq (.tup (xs.map f)) (.tup (ys.map f))=decide (xs=ys):=by
  unfold deq
  rw [pd,pd,PyData.eqv,Zfm h]
theorem deq_lst {α:Type} [DecidableEq α] {f:α→D} (h:∀ a b,deq (f a) (f b)=decide (a=b)) (xs ys:List α):deq (.lst (xs.map f)) (.lst (ys.map f))=decide (xs=ys):=by
  unfold deq
  rw [pd,pd,PyData.eqv,Zfm h]
theorem deq_rowq (a b:List Rat):deq (rowq a) (rowq b)=decide (a=b):=deq_tup deq_shq a b
namespace B.C.E
section
variable {E:Ex→Prop} {Q:D→Prop} {x y:D} {s:List Int} {n k:Nat} {r:List Rat} {S T:List (List Rat)}
end
end B.C.E
namespace B.C.E
end B.C.E
def lesF (a:List Rat) (s:Rat) (c:List Rat):List Rat:=List.zipWith (fun l r=>l - s*r) a c
def byF (a:List Rat) (s:Rat):List Rat:=a.map fun x=>x / s
def firF:List (List Rat)→Nat→Option Nat
  | [],_=>none
  | r::R,p=>if r.getD p 0=0 then (firF R p).map (· + 1) else some 0
def witF (R:List (List Rat)) (lead:List Rat) (p:Nat):List (List Rat):=R.map fun r=>lesF r (r.getD p 0) lead
structure Cl where
  ld:List (List Rat)
  pl:List Nat
  rs:List (List Rat)
def leadF (R:List (List Rat)) (a p:Nat):List Rat:=byF (R.getD a []) ((R.getD a []).getD p 0)
def clS (p:Nat) (x:Cl):Cl:=match firF x.rs p with
  | none=>x
  | some a=>⟨witF x.ld (leadF x.rs a p) p++[leadF x.rs a p],x.pl++[p],witF (x.rs.take a++x.rs.drop (a+1)) (leadF x.rs a p) p⟩
def clR (R:List (List Rat)):Nat→Cl
  | 0=>⟨[],[],R⟩
  | p+1=>clS p (clR R p)
structure Lf (b m:Nat) (row:List Rat):Prop where
  ex:∃ (c:List Int) (e:Int),c.length=m∧e≠0∧e.natAbs < 2 ^ b∧(∀ x∈c,x.natAbs < 2 ^ b)∧row=c.map fun x=>Rat.divInt x e
theorem Lf.len {b m:Nat} {row:List Rat} (h:Lf b m row):row.length=m:=by
  obtain ⟨c,e,h1,_,_,_,rfl⟩:=h.ex
  rw [List.length_map];exact h1
theorem Lf.mono {b b' m:Nat} {row:List Rat} (l:b≤b') (h:Lf b m row):Lf b' m row:=by
  obtain ⟨c,e,h1,h2,h3,h4,h5⟩:=h.ex
  have p:2 ^ b≤2 ^ b':=Nat.pow_le_pow_right (by decide) l
  exact ⟨c,e,h1,h2,Nat.lt_of_lt_of_le h3 p,fun x hx=>Nat.lt_of_lt_of_le (h4 x hx) p,h5⟩
theorem Lf.sz {b m:Nat} {row:List Rat} (h:Lf b m row):∀ x∈row,Sz b x:=by
  obtain ⟨c,e,h1,h2,h3,h4,rfl⟩:=h.ex
  intro x hx
  obtain ⟨y,hy,rfl⟩:=List.mem_map.mp hx
  exact divInt_sz h2 (h4 y hy) h3
theorem Lf.get {b m k:Nat} {row:List Rat} (h:Lf b m row) (hk:k < m):row[k]? = some (row.getD k 0)∧Sz b (row.getD k 0):=by
  have e:row[k]? = some (row.getD k 0):=by rw [List.getD_eq_getElem?_getD,List.getElem?_eq_getElem (by rw [h.len];exact hk)];rfl
  exact ⟨e,h.sz _ (List.mem_of_getElem? e)⟩
theorem Lf.int {b:Nat} {c:List Int} (hb:0 < b) (h:∀ x∈c,x.natAbs < 2 ^ b):Lf b c.length (Zb c):=by
  refine ⟨c,1,rfl,by decide,?_,h,?_⟩
  · show 1 < 2 ^ b
    exact Nat.one_lt_two_pow (by omega)
  · unfold Zb
    exact List.map_congr_left fun x _=>by have:=Rat.num_divInt_den (x:Rat);rw [Rat.num_intCast,Rat.den_intCast] at this;exact this.symm
theorem divInt_ne {c e:Int} (he:e≠0):Rat.divInt c e≠0↔c≠0:=by
  constructor
  · rintro h rfl
    exact h (Rat.zero_divInt e)
  · intro h z
    have e1:Rat.divInt c e*Rat.divInt e c=1:=by
      rw [Rat.divInt_mul_divInt,Int.mul_comm e c]
      have:=Rat.divInt_mul_right (n:=1) (d:=1) (Int.mul_ne_zero h he)
      rw [Int.one_mul] at this
      rw [this]
      rfl
    rw [z,Rat.zero_mul] at e1
    exact absurd e1 (by decide)
theorem Lf.norm {b m p:Nat} {row:List Rat} (h:Lf b m row) (hp:p < m) (h0:row.getD p 0≠0):Lf b m (byF row (row.getD p 0)):=by
  obtain ⟨c,e,h1,h2,h3,h4,rfl⟩:=h.ex
  have hc:c[p]? = some (c.getD p 0):=by rw [List.getD_eq_getElem?_getD,List.getElem?_eq_getElem (by omega)];rfl
  have eg:(c.map fun x=>Rat.divInt x e).getD p 0=Rat.divInt (c.getD p 0) e:=by
    rw [List.getD_eq_getElem?_getD,List.getElem?_map,hc];rfl
  rw [eg] at h0 ⊢
  have hc0:c.getD p 0≠0:=(divInt_ne h2).mp h0
  refine ⟨c,c.getD p 0,h1,hc0,h4 _ (List.mem_of_getElem? hc),h4,?_⟩
  unfold byF
  rw [List.map_map]
  refine List.map_congr_left fun x _=>?_
  show Rat.divInt x e / (Rat.divInt (c.getD p 0) e)=Rat.divInt x (c.getD p 0)
  rw [Rat.div_def,Rat.inv_divInt,Rat.divInt_mul_divInt _ _ ,Int.mul_comm e]
  exact Rat.divInt_mul_right h2
theorem les_num {b:Nat} {w x y z:Int} (h1:w.natAbs < 2 ^ b) (h2:x.natAbs < 2 ^ b) (h3:y.natAbs < 2 ^ b) (h4:z.natAbs < 2 ^ b):(w*x - y*z).natAbs < 2 ^ (2*b+1):=by
  have m1:(w*x).natAbs < 2 ^ b*2 ^ b:=by rw [Int.natAbs_mul];exact Nat.mul_lt_mul'' h1 h2
  have m2:(y*z).natAbs < 2 ^ b*2 ^ b:=by rw [Int.natAbs_mul];exact Nat.mul_lt_mul'' h3 h4
  have:=Int.natAbs_sub_le (w*x) (y*z)
  rw [Nat.pow_succ,show 2*b=b+b by omega,Nat.pow_add]
  omega
theorem Lf.less {b m p:Nat} {row piv:List Rat} (h:Lf b m row) (hq:Lf b m piv) (hp:p < m):Lf (2*b+1) m (lesF row (row.getD p 0) piv):=by
  obtain ⟨c,e,h1,h2,h3,h4,rfl⟩:=h.ex
  obtain ⟨d,f,g1,g2,g3,g4,rfl⟩:=hq.ex
  have hc:c[p]? = some (c.getD p 0):=by rw [List.getD_eq_getElem?_getD,List.getElem?_eq_getElem (by omega)];rfl
  have eg:(c.map fun x=>Rat.divInt x e).getD p 0=Rat.divInt (c.getD p 0) e:=by
    rw [List.getD_eq_getElem?_getD,List.getElem?_map,hc];rfl
  rw [eg]
  have bc:(c.getD p 0).natAbs < 2 ^ b:=h4 _ (List.mem_of_getElem? hc)
  refine ⟨List.zipWith (fun x y=>x*f - c.getD p 0*y) c d,e*f,by rw [List.length_zipWith];omega,Int.mul_ne_zero h2 g2,?_,fun z hz=>?_,?_⟩
  · rw [Int.natAbs_mul,Nat.pow_succ,show 2*b=b+b by omega,Nat.pow_add]
    have:=Nat.mul_lt_mul'' h3 g3
    omega
  · obtain ⟨i,hi,e1⟩:=List.mem_iff_getElem.mp hz
    rw [List.getElem_zipWith] at e1
    rw [← e1]
    exact les_num (h4 _ (List.getElem_mem _)) g3 bc (g4 _ (List.getElem_mem _))
  · unfold lesF
    rw [List.zipWith_map,List.map_zipWith]
    refine congrArg (fun g=>List.zipWith g c d) ?_
    funext x y
    rw [Rat.divInt_mul_divInt,Rat.divInt_sub_divInt _ _ h2 (Int.mul_ne_zero h2 g2)]
    rw [show x*(e*f) - c.getD p 0*y*e=(x*f - c.getD p 0*y)*e by grind,Int.mul_comm e (e*f)]
    exact (Rat.divInt_mul_right h2)
def bq (b:Nat):Nat→Nat
  | 0=>b
  | k+1=>2*bq b k+1
section
variable {E:Ex→Prop} {Q:D→Prop} {x y:D} {s:List Int} {n k b w m p:Nat} {r t lead:List Rat} {R L:List (List Rat)} {q0:Rat} {pl:List Nat}
end
local macro_rules | `(tactic| walk_at "w1")=>`(tactic| simp only [zRet,zIf,zSet,zNx,Zdm,zPub,zOwn,zFor,Za3,zPar,zAsg,zApp,Zb5,zInk,Zcw,zNox,Zbr,zTry,wM,ZcX,Zbh,wOrV,ZdA,wAnd,wOr,wNot,wT,wIf,w1,w2,wB,wF,wL,wTup,wCut,Za0,aB,aLst,Zab,aNil,aLC,Zbq,ZaF,iS,iE,iL,iT,iR1,iR2,iZ,Za8,ZaZ,wN,wC,gN,gTp,Zat,Za9,gIxP,ZaA,wPen,wBor,tBor,aBor,wIxO,aAdd,aMul,aCut,rho,pub,List.map_cons,List.map_nil,List.length_cons,List.length_nil,List.cons_append,List.nil_append,List.replicate,List.getElem?_cons_zero,List.getElem?_cons_succ,List.set_cons_zero,List.set_cons_succ,Nat.reduceSub,Nat.reduceAdd,List.replicate_succ,List.replicate_zero,true_and,Bool.false_eq_true,if_true,if_false,ite_true,ite_false,Int.toNat_natCast,Bool.not_true,Bool.not_false,
  Zfr,Zfq,Zfp,Zdg,Zdf,Zfo,Zdb,Zd,Zda,Zdd,Zdc,Zde,ZbE,ZbH,ZbF,ZbG,ZbJ,ZbI,ZbK,Zc3,Zc6,Zc4,Zc5,Zc8,Zc7,Zc9,ZbN,Zbj,ZbO,ZbP,ZbR,ZbQ,ZbS,Zbx,Zbz,Zby,ZbB,ZbA,Zbu,Zbv,Zbw,ZaM,ZaN,ZaO,ZbV,ZbU,ZbT,ZbD,ZbC,e_I2,Zft,Zfn,ZbM,ZbL,Zfs,e_i1,e_i2])
theorem lc_zipL {we:WE} {tail:Rho} {Q:List D→Prop} {f:Rat→Rat→D}:∀ (A C:List Rat),(∀ x∈A,∀ y∈C,∀ Q:D→Prop,Q (f x y)→we No (.d (shq x)::.d (shq y)::tail) Q)→∀ (sv sv':SV) (acc:List D),acc.length+A.length≤small→Q (acc++List.zipWith f A C)→lcW (gTp 2 (Zat (gN 0) (Zat (gN 1) Za9))) ZaF we (zips (A.map shq) (C.map shq)) (sv::sv'::tail) acc Q
  | [],C,_,sv,sv',acc,_,hq=>by simpa [lcW,zips] using hq
  | x::A,[],_,sv,sv',acc,_,hq=>by simpa [lcW,zips] using hq
  | x::A,y::C,h,sv,sv',acc,hl,hq=>by
    have e:zips ((x::A).map shq) ((y::C).map shq) = .tup [shq x,shq y]::zips (A.map shq) (C.map shq):=by simp [zips]
    rw [e,lcW]
    refine ⟨rfl,?_⟩
    rw [List.length_cons] at hl
    refine h x (by simp) y (by simp) _ ⟨by omega,lc_zipL A C (fun a ha c hc=>h a (by simp [ha]) c (by simp [hc])) _ _ _ (by simp;omega) ?_⟩
    rw [List.append_assoc]
    simpa using hq
end LP
namespace LP
namespace Dt
abbrev R:=Nat→Int
def m2 (a b:R) (p q:Nat):Int:=a p*b q - a q*b p
def m3 (a b c:R) (p q r:Nat):Int:=c r*m2 a b p q - c q*m2 a b p r+c p*m2 a b q r
def m4 (a b c d:R) (p q r s:Nat):Int:=d s*m3 a b c p q r - d r*m3 a b c p q s+d q*m3 a b c p r s - d p*m3 a b c q r s
def m5 (a b c d e:R) (p q r s t:Nat):Int:=e t*m4 a b c d p q r s - e s*m4 a b c d p q r t+e r*m4 a b c d p q s t - e q*m4 a b c d p r s t+e p*m4 a b c d q r s t
section
variable (a b c d e:R) (p q r s t j:Nat)
theorem s0:m2 a b p j*1=b j*a p - b p*a j:=by unfold m2;grind
theorem s1:m3 a b c p q j*a p=m2 a c p j*m2 a b p q - m2 a c p q*m2 a b p j:=by unfold m3 m2;grind
theorem s2:m4 a b c d p q r j*m2 a b p q=m3 a b d p q j*m3 a b c p q r - m3 a b d p q r*m3 a b c p q j:=by unfold m4 m3 m2;grind
theorem pl:m3 a b c p q r*m3 a b c p s j=m3 a b c p q s*m3 a b c p r j - m3 a b c p q j*m3 a b c p r s:=by unfold m3 m2;grind
theorem pl2:m3 a b c p q r*m3 a b c q s j=m3 a b c p q s*m3 a b c q r j - m3 a b c p q j*m3 a b c q r s:=by unfold m3 m2;grind
theorem pl3:m3 a b c p q r*m3 a b c r s j=m3 a b c p r s*m3 a b c q r j - m3 a b c p r j*m3 a b c q r s:=by unfold m3 m2;grind
theorem s3:m5 a b c d e p q r s j*m3 a b c p q r=m4 a b c e p q r j*m4 a b c d p q r s - m4 a b c e p q r s*m4 a b c d p q r j:=by
  have h1:=pl a b c p q r s j
  have h2:=pl2 a b c p q r s j
  have h3:=pl3 a b c p q r s j
  unfold m5 m4
  generalize m3 a b c p q r=x1 at *
  generalize m3 a b c p q s=x2 at *
  generalize m3 a b c p q j=x3 at *
  generalize m3 a b c p r s=x4 at *
  generalize m3 a b c p r j=x5 at *
  generalize m3 a b c p s j=x6 at *
  generalize m3 a b c q r s=x7 at *
  generalize m3 a b c q r j=x8 at *
  generalize m3 a b c q s j=x9 at *
  generalize m3 a b c r s j=y1 at *
  generalize d p=d1
  generalize d q=d2
  generalize d r=d3
  generalize d s=d4
  generalize d j=d5
  generalize e p=e1
  generalize e q=e2
  generalize e r=e3
  generalize e s=e4
  generalize e j=e5
  grind
theorem x3_0:m3 a b c p q r=a p*m2 b c q r - a q*m2 b c p r+a r*m2 b c p q:=by unfold m3 m2;grind
theorem x3_1:m3 a b c p q r=b q*m2 a c p r - b p*m2 a c q r - b r*m2 a c p q:=by unfold m3 m2;grind
theorem x4_0:m4 a b c d p q r s=a p*m3 b c d q r s - a q*m3 b c d p r s+a r*m3 b c d p q s - a s*m3 b c d p q r:=by
  unfold m4;rw [x3_0 a b c,x3_0 a b c,x3_0 a b c,x3_0 a b c];unfold m3;grind
theorem x4_1:m4 a b c d p q r s=b q*m3 a c d p r s - b p*m3 a c d q r s - b r*m3 a c d p q s+b s*m3 a c d p q r:=by
  unfold m4;rw [x3_1 a b c,x3_1 a b c,x3_1 a b c,x3_1 a b c];unfold m3;grind
theorem x4_2:m4 a b c d p q r s=c p*m3 a b d q r s - c q*m3 a b d p r s+c r*m3 a b d p q s - c s*m3 a b d p q r:=by
  unfold m4 m3;grind
theorem x5_0:m5 a b c d e p q r s t=a p*m4 b c d e q r s t - a q*m4 b c d e p r s t+a r*m4 b c d e p q s t - a s*m4 b c d e p q r t+a t*m4 b c d e p q r s:=by
  unfold m5;rw [x4_0 a b c d,x4_0 a b c d,x4_0 a b c d,x4_0 a b c d,x4_0 a b c d];unfold m4;grind
theorem x5_1:m5 a b c d e p q r s t=b q*m4 a c d e p r s t - b p*m4 a c d e q r s t - b r*m4 a c d e p q s t+b s*m4 a c d e p q r t - b t*m4 a c d e p q r s:=by
  unfold m5;rw [x4_1 a b c d,x4_1 a b c d,x4_1 a b c d,x4_1 a b c d,x4_1 a b c d];unfold m4;grind
theorem x5_2:m5 a b c d e p q r s t=c p*m4 a b d e q r s t - c q*m4 a b d e p r s t+c r*m4 a b d e p q s t - c s*m4 a b d e p q r t+c t*m4 a b d e p q r s:=by
  unfold m5;rw [x4_2 a b c d,x4_2 a b c d,x4_2 a b c d,x4_2 a b c d,x4_2 a b c d];unfold m4;grind
theorem x5_3:m5 a b c d e p q r s t=d q*m4 a b c e p r s t - d p*m4 a b c e q r s t - d r*m4 a b c e p q s t+d s*m4 a b c e p q r t - d t*m4 a b c e p q r s:=by
  unfold m5 m4;grind
theorem w2_01:m2 b a p q = - m2 a b p q:=by unfold m2;grind
theorem w3_01:m3 b a c p q r = - m3 a b c p q r:=by unfold m3;simp only [w2_01 a b];grind
theorem w3_12:m3 a c b p q r = - m3 a b c p q r:=by rw [x3_0,x3_0 a b c];simp only [w2_01 b c];grind
theorem w3_02:m3 c b a p q r = - m3 a b c p q r:=by rw [x3_1 c b a,x3_1 a b c];simp only [w2_01 a c];grind
theorem w4_01:m4 b a c d p q r s = - m4 a b c d p q r s:=by unfold m4;simp only [w3_01 a b];grind
theorem w4_12:m4 a c b d p q r s = - m4 a b c d p q r s:=by unfold m4;simp only [w3_12 a b];grind
theorem w4_02:m4 c b a d p q r s = - m4 a b c d p q r s:=by unfold m4;simp only [w3_02 a b];grind
theorem w4_23:m4 a b d c p q r s = - m4 a b c d p q r s:=by rw [x4_0,x4_0 a b c d];simp only [w3_12 b c];grind
theorem w4_13:m4 a d c b p q r s = - m4 a b c d p q r s:=by rw [x4_0,x4_0 a b c d];simp only [w3_02 b c];grind
theorem w4_03:m4 d b c a p q r s = - m4 a b c d p q r s:=by rw [x4_1 d b c a,x4_1 a b c d];simp only [w3_02 a c];grind
theorem w5_01:m5 b a c d e p q r s t = - m5 a b c d e p q r s t:=by unfold m5;simp only [w4_01 a b c d];grind
theorem w5_12:m5 a c b d e p q r s t = - m5 a b c d e p q r s t:=by unfold m5;simp only [w4_12 a b c d];grind
theorem w5_02:m5 c b a d e p q r s t = - m5 a b c d e p q r s t:=by unfold m5;simp only [w4_02 a b c d];grind
theorem w5_23:m5 a b d c e p q r s t = - m5 a b c d e p q r s t:=by unfold m5;simp only [w4_23 a b c d];grind
theorem w5_13:m5 a d c b e p q r s t = - m5 a b c d e p q r s t:=by unfold m5;simp only [w4_13 a b c d];grind
theorem w5_03:m5 d b c a e p q r s t = - m5 a b c d e p q r s t:=by unfold m5;simp only [w4_03 a b c d];grind
theorem w5_34:m5 a b c e d p q r s t = - m5 a b c d e p q r s t:=by rw [x5_0,x5_0 a b c d e];simp only [w4_23 b c d e];grind
theorem w5_24:m5 a b e d c p q r s t = - m5 a b c d e p q r s t:=by rw [x5_0,x5_0 a b c d e];simp only [w4_13 b c d e];grind
theorem w5_14:m5 a e c d b p q r s t = - m5 a b c d e p q r s t:=by rw [x5_0,x5_0 a b c d e];simp only [w4_03 b c d e];grind
theorem w5_04:m5 e b c d a p q r s t = - m5 a b c d e p q r s t:=by rw [x5_1 e b c d a,x5_1 a b c d e];simp only [w4_03 a c d e];grind
end
def M (A:Nat→R):Nat→Nat→R
  | 0,i,j=>A i j
  | 1,i,j=>m2 (A 0) (A i) 0 j
  | 2,i,j=>m3 (A 0) (A 1) (A i) 0 1 j
  | 3,i,j=>m4 (A 0) (A 1) (A 2) (A i) 0 1 2 j
  | 4,i,j=>m5 (A 0) (A 1) (A 2) (A 3) (A i) 0 1 2 3 j
  | _,_,_=>0
def dt (A:Nat→R):Nat→Int
  | 0=>1
  | k+1=>M A k k k
theorem M_step (A:Nat→R) {k:Nat} (hk:k < 4) (i j:Nat):M A (k+1) i j*dt A k=M A k i j*M A k k k - M A k i k*M A k k j:=by
  match k,hk with
  | 0,_=>exact s0 _ _ _ _
  | 1,_=>exact s1 _ _ _ _ _ _
  | 2,_=>exact s2 _ _ _ _ _ _ _ _
  | 3,_=>exact s3 _ _ _ _ _ _ _ _ _ _
theorem M_rows {A B:Nat→R} {k i j:Nat} (h:∀ l,l < k→A l=B l) (hi:A i=B i):M A k i j=M B k i j:=by
  match k with
  | 0=>show A i j=B i j;rw [hi]
  | 1=>show m2 _ _ _ _=m2 _ _ _ _;rw [hi,h 0 (by omega)]
  | 2=>show m3 _ _ _ _ _ _=m3 _ _ _ _ _ _;rw [hi,h 0 (by omega),h 1 (by omega)]
  | 3=>show m4 _ _ _ _ _ _ _ _=m4 _ _ _ _ _ _ _ _;rw [hi,h 0 (by omega),h 1 (by omega),h 2 (by omega)]
  | 4=>show m5 _ _ _ _ _ _ _ _ _ _=m5 _ _ _ _ _ _ _ _ _ _;rw [hi,h 0 (by omega),h 1 (by omega),h 2 (by omega),h 3 (by omega)]
  | _+5=>rfl
def sw (A:Nat→R) (x y:Nat):Nat→R:=fun i=>if i=x then A y else if i=y then A x else A i
theorem dt_sw (A:Nat→R) {n x y:Nat} (hn:n≤5) (hxy:x < y) (hy:y < n):dt (sw A x y) n = - dt A n:=by
  match n,hn,y,hy,x,hxy with
  | 1,_,0,_,x,h=>exact absurd h (Nat.not_lt_zero x)
  | 2,_,1,_,0,_=>exact w2_01 _ _ _ _
  | 3,_,1,_,0,_=>exact w3_01 _ _ _ _ _ _
  | 3,_,2,_,0,_=>exact w3_02 _ _ _ _ _ _
  | 3,_,2,_,1,_=>exact w3_12 _ _ _ _ _ _
  | 4,_,1,_,0,_=>exact w4_01 _ _ _ _ _ _ _ _
  | 4,_,2,_,0,_=>exact w4_02 _ _ _ _ _ _ _ _
  | 4,_,2,_,1,_=>exact w4_12 _ _ _ _ _ _ _ _
  | 4,_,3,_,0,_=>exact w4_03 _ _ _ _ _ _ _ _
  | 4,_,3,_,1,_=>exact w4_13 _ _ _ _ _ _ _ _
  | 4,_,3,_,2,_=>exact w4_23 _ _ _ _ _ _ _ _
  | 5,_,1,_,0,_=>exact w5_01 _ _ _ _ _ _ _ _ _ _
  | 5,_,2,_,0,_=>exact w5_02 _ _ _ _ _ _ _ _ _ _
  | 5,_,2,_,1,_=>exact w5_12 _ _ _ _ _ _ _ _ _ _
  | 5,_,3,_,0,_=>exact w5_03 _ _ _ _ _ _ _ _ _ _
  | 5,_,3,_,1,_=>exact w5_13 _ _ _ _ _ _ _ _ _ _
  | 5,_,3,_,2,_=>exact w5_23 _ _ _ _ _ _ _ _ _ _
  | 5,_,4,_,0,_=>exact w5_04 _ _ _ _ _ _ _ _ _ _
  | 5,_,4,_,1,_=>exact w5_14 _ _ _ _ _ _ _ _ _ _
  | 5,_,4,_,2,_=>exact w5_24 _ _ _ _ _ _ _ _ _ _
  | 5,_,4,_,3,_=>exact w5_34 _ _ _ _ _ _ _ _ _ _
end Dt
namespace Dt
def sumI (f:Nat→Int):Nat→Int
  | 0=>0
  | n+1=>sumI f n+f n
theorem Zd1 {f g:Nat→Int}:∀ {n:Nat},(∀ i,i < n→f i=g i)→sumI f n=sumI g n
  | 0,_=>rfl
  | n+1,h=>by rw [sumI,sumI,Zd1 (fun i hi=>h i (by omega)),h n (by omega)]
theorem ZeF {f:Nat→Int}:∀ {n:Nat},(∀ i,i < n→f i=0)→sumI f n=0
  | 0,_=>rfl
  | n+1,h=>by rw [sumI,ZeF (fun i hi=>h i (by omega)),h n (by omega)];rfl
theorem sumI_add (f g:Nat→Int):∀ n:Nat,sumI (fun i=>f i+g i) n=sumI f n+sumI g n
  | 0=>rfl
  | n+1=>by rw [sumI,sumI,sumI,sumI_add f g n];omega
theorem sumI_mul (f:Nat→Int) (c:Int):∀ n:Nat,sumI (fun i=>c*f i) n=c*sumI f n
  | 0=>by simp [sumI]
  | n+1=>by rw [sumI,sumI,sumI_mul f c n,Int.mul_add]
theorem sumI_swap (f:Nat→Nat→Int) (m:Nat):∀ n:Nat,sumI (fun i=>sumI (fun j=>f i j) m) n=sumI (fun j=>sumI (fun i=>f i j) n) m
  | 0=>by rw [sumI];exact (ZeF fun _ _=>rfl).symm
  | n+1=>by
    rw [sumI,sumI_swap f m n,← sumI_add]
    rfl
theorem Zgq {f:Nat→Int} {k:Nat}:∀ {n:Nat},k < n→(∀ i,i < n→i≠k→f i=0)→sumI f n=f k
  | 0,h,_=>by omega
  | n+1,h,h0=>by
    rw [sumI]
    by_cases e:k=n
    · subst e
      rw [ZeF (fun i hi=>h0 i (by omega) (by omega)),Int.zero_add]
    · rw [Zgq (k:=k) (by omega) (fun i hi hk=>h0 i (by omega) hk),h0 n (by omega) (Ne.symm e),Int.add_zero]
def sk (k i:Nat):Nat:=if i < k then i else i+1
def cut (A:Nat→R) (k j:Nat):Nat→R:=fun i l=>A (sk k i) (sk j l)
def sg (n:Nat):Int:=if n % 2=0 then 1 else -1
def cof (A:Nat→R) (n k j:Nat):Int:=sg (k+j)*dt (cut A k j) (n - 1)
def rep (A:Nat→R) (k:Nat) (x:R):Nat→R:=fun i=>if i=k then x else A i
def dc (A:Nat→R) (c:Nat→Nat):Nat→Int
  | 0=>1
  | 1=>A 0 (c 0)
  | 2=>m2 (A 0) (A 1) (c 0) (c 1)
  | 3=>m3 (A 0) (A 1) (A 2) (c 0) (c 1) (c 2)
  | 4=>m4 (A 0) (A 1) (A 2) (A 3) (c 0) (c 1) (c 2) (c 3)
  | 5=>m5 (A 0) (A 1) (A 2) (A 3) (A 4) (c 0) (c 1) (c 2) (c 3) (c 4)
  | _=>0
section
variable (a b c d e:R) (p q r s t j:Nat)
theorem y2_0:m2 a b p q=a p*b q - b p*a q:=by unfold m2;grind
theorem y2_1:m2 a b p q = - (a q*b p)+b q*a p:=by unfold m2;grind
theorem y3_0:m3 a b c p q r=a p*m2 b c q r - b p*m2 a c q r+c p*m2 a b q r:=by unfold m3 m2;grind
theorem y3_1:m3 a b c p q r = - (a q*m2 b c p r)+b q*m2 a c p r - c q*m2 a b p r:=by unfold m3 m2;grind
theorem y3_2:m3 a b c p q r=a r*m2 b c p q - b r*m2 a c p q+c r*m2 a b p q:=by unfold m3 m2;grind
theorem y4_0:m4 a b c d p q r s=a p*m3 b c d q r s - b p*m3 a c d q r s+c p*m3 a b d q r s - d p*m3 a b c q r s:=by unfold m4;rw [y3_0 a b c p r s,y3_0 a b c p q s,y3_0 a b c p q r];unfold m3;grind
theorem y4_1:m4 a b c d p q r s = - (a q*m3 b c d p r s)+b q*m3 a c d p r s - c q*m3 a b d p r s+d q*m3 a b c p r s:=by unfold m4;rw [y3_0 a b c q r s,y3_1 a b c p q s,y3_1 a b c p q r];unfold m3;grind
theorem y4_2:m4 a b c d p q r s=a r*m3 b c d p q s - b r*m3 a c d p q s+c r*m3 a b d p q s - d r*m3 a b c p q s:=by unfold m4;rw [y3_1 a b c q r s,y3_1 a b c p r s,y3_2 a b c p q r];unfold m3;grind
theorem y4_3:m4 a b c d p q r s = - (a s*m3 b c d p q r)+b s*m3 a c d p q r - c s*m3 a b d p q r+d s*m3 a b c p q r:=by unfold m4;rw [y3_2 a b c q r s,y3_2 a b c p r s,y3_2 a b c p q s];unfold m3;grind
theorem y5_0:m5 a b c d e p q r s t=a p*m4 b c d e q r s t - b p*m4 a c d e q r s t+c p*m4 a b d e q r s t - d p*m4 a b c e q r s t+e p*m4 a b c d q r s t:=by unfold m5;rw [y4_0 a b c d p r s t,y4_0 a b c d p q s t,y4_0 a b c d p q r t,y4_0 a b c d p q r s];unfold m4;grind
theorem y5_1:m5 a b c d e p q r s t = - (a q*m4 b c d e p r s t)+b q*m4 a c d e p r s t - c q*m4 a b d e p r s t+d q*m4 a b c e p r s t - e q*m4 a b c d p r s t:=by unfold m5;rw [y4_0 a b c d q r s t,y4_1 a b c d p q s t,y4_1 a b c d p q r t,y4_1 a b c d p q r s];unfold m4;grind
theorem y5_2:m5 a b c d e p q r s t=a r*m4 b c d e p q s t - b r*m4 a c d e p q s t+c r*m4 a b d e p q s t - d r*m4 a b c e p q s t+e r*m4 a b c d p q s t:=by unfold m5;rw [y4_1 a b c d q r s t,y4_1 a b c d p r s t,y4_2 a b c d p q r t,y4_2 a b c d p q r s];unfold m4;grind
theorem y5_3:m5 a b c d e p q r s t = - (a s*m4 b c d e p q r t)+b s*m4 a c d e p q r t - c s*m4 a b d e p q r t+d s*m4 a b c e p q r t - e s*m4 a b c d p q r t:=by unfold m5;rw [y4_2 a b c d q r s t,y4_2 a b c d p r s t,y4_2 a b c d p q s t,y4_3 a b c d p q r s];unfold m4;grind
theorem y5_4:m5 a b c d e p q r s t=a t*m4 b c d e p q r s - b t*m4 a c d e p q r s+c t*m4 a b d e p q r s - d t*m4 a b c e p q r s+e t*m4 a b c d p q r s:=by unfold m5;rw [y4_3 a b c d q r s t,y4_3 a b c d p r s t,y4_3 a b c d p q s t,y4_3 a b c d p q r t];unfold m4;grind
theorem z2_01:m2 a b p p=0:=by unfold m2;grind
theorem z3_01:m3 a b c p p r=0:=by unfold m3 m2;grind
theorem z3_02:m3 a b c p q p=0:=by unfold m3 m2;grind
theorem z3_12:m3 a b c p q q=0:=by unfold m3 m2;grind
theorem z4_01:m4 a b c d p p r s=0:=by unfold m4;simp only [z3_01];unfold m3 m2;grind
theorem z4_02:m4 a b c d p q p s=0:=by unfold m4;simp only [z3_01,z3_02];unfold m3 m2;grind
theorem z4_03:m4 a b c d p q r p=0:=by unfold m4;simp only [z3_02];unfold m3 m2;grind
theorem z4_12:m4 a b c d p q q s=0:=by unfold m4;simp only [z3_01,z3_12];unfold m3 m2;grind
theorem z4_13:m4 a b c d p q r q=0:=by unfold m4;simp only [z3_02,z3_12];unfold m3 m2;grind
theorem z4_23:m4 a b c d p q r r=0:=by unfold m4;simp only [z3_12];unfold m3 m2;grind
theorem z5_01:m5 a b c d e p p r s t=0:=by unfold m5;simp only [z4_01];unfold m4 m3 m2;grind
theorem z5_02:m5 a b c d e p q p s t=0:=by unfold m5;simp only [z4_01,z4_02];unfold m4 m3 m2;grind
theorem z5_03:m5 a b c d e p q r p t=0:=by unfold m5;simp only [z4_02,z4_03];unfold m4 m3 m2;grind
theorem z5_04:m5 a b c d e p q r s p=0:=by unfold m5;simp only [z4_03];unfold m4 m3 m2;grind
theorem z5_12:m5 a b c d e p q q s t=0:=by unfold m5;simp only [z4_01,z4_12];unfold m4 m3 m2;grind
theorem z5_13:m5 a b c d e p q r q t=0:=by unfold m5;simp only [z4_02,z4_12,z4_13];unfold m4 m3 m2;grind
theorem z5_14:m5 a b c d e p q r s q=0:=by unfold m5;simp only [z4_03,z4_13];unfold m4 m3 m2;grind
theorem z5_23:m5 a b c d e p q r r t=0:=by unfold m5;simp only [z4_12,z4_23];unfold m4 m3 m2;grind
theorem z5_24:m5 a b c d e p q r s r=0:=by unfold m5;simp only [z4_13,z4_23];unfold m4 m3 m2;grind
theorem z5_34:m5 a b c d e p q r s s=0:=by unfold m5;simp only [z4_23];unfold m4 m3 m2;grind
end
theorem row_x (A:Nat→R) (x:R) {n k:Nat} (hn:n≤5) (hk:k < n):sumI (fun j=>x j*cof A n k j) n=dt (rep A k x) n:=by
  match n,hn,k,hk with
  | 1,_,0,_=>show 0+x 0*(1*1)=x 0;grind
  | 2,_,0,_=>show 0+x 0*(1*(A 1) 1)+x 1*(-1*(A 1) 0)=m2 x (A 1) 0 1;unfold m2;grind
  | 2,_,1,_=>show 0+x 0*(-1*(A 0) 1)+x 1*(1*(A 0) 0)=m2 (A 0) x 0 1;unfold m2;grind
  | 3,_,0,_=>show 0+x 0*(1*m2 (A 1) (A 2) 1 2)+x 1*(-1*m2 (A 1) (A 2) 0 2)+x 2*(1*m2 (A 1) (A 2) 0 1)=m3 x (A 1) (A 2) 0 1 2;rw [x3_0];grind
  | 3,_,1,_=>show 0+x 0*(-1*m2 (A 0) (A 2) 1 2)+x 1*(1*m2 (A 0) (A 2) 0 2)+x 2*(-1*m2 (A 0) (A 2) 0 1)=m3 (A 0) x (A 2) 0 1 2;rw [x3_1];grind
  | 3,_,2,_=>show 0+x 0*(1*m2 (A 0) (A 1) 1 2)+x 1*(-1*m2 (A 0) (A 1) 0 2)+x 2*(1*m2 (A 0) (A 1) 0 1)=m3 (A 0) (A 1) x 0 1 2;unfold m3;grind
  | 4,_,0,_=>show 0+x 0*(1*m3 (A 1) (A 2) (A 3) 1 2 3)+x 1*(-1*m3 (A 1) (A 2) (A 3) 0 2 3)+x 2*(1*m3 (A 1) (A 2) (A 3) 0 1 3)+x 3*(-1*m3 (A 1) (A 2) (A 3) 0 1 2)=m4 x (A 1) (A 2) (A 3) 0 1 2 3;rw [x4_0];grind
  | 4,_,1,_=>show 0+x 0*(-1*m3 (A 0) (A 2) (A 3) 1 2 3)+x 1*(1*m3 (A 0) (A 2) (A 3) 0 2 3)+x 2*(-1*m3 (A 0) (A 2) (A 3) 0 1 3)+x 3*(1*m3 (A 0) (A 2) (A 3) 0 1 2)=m4 (A 0) x (A 2) (A 3) 0 1 2 3;rw [x4_1];grind
  | 4,_,2,_=>show 0+x 0*(1*m3 (A 0) (A 1) (A 3) 1 2 3)+x 1*(-1*m3 (A 0) (A 1) (A 3) 0 2 3)+x 2*(1*m3 (A 0) (A 1) (A 3) 0 1 3)+x 3*(-1*m3 (A 0) (A 1) (A 3) 0 1 2)=m4 (A 0) (A 1) x (A 3) 0 1 2 3;rw [x4_2];grind
  | 4,_,3,_=>show 0+x 0*(-1*m3 (A 0) (A 1) (A 2) 1 2 3)+x 1*(1*m3 (A 0) (A 1) (A 2) 0 2 3)+x 2*(-1*m3 (A 0) (A 1) (A 2) 0 1 3)+x 3*(1*m3 (A 0) (A 1) (A 2) 0 1 2)=m4 (A 0) (A 1) (A 2) x 0 1 2 3;unfold m4;grind
  | 5,_,0,_=>show 0+x 0*(1*m4 (A 1) (A 2) (A 3) (A 4) 1 2 3 4)+x 1*(-1*m4 (A 1) (A 2) (A 3) (A 4) 0 2 3 4)+x 2*(1*m4 (A 1) (A 2) (A 3) (A 4) 0 1 3 4)+x 3*(-1*m4 (A 1) (A 2) (A 3) (A 4) 0 1 2 4)+x 4*(1*m4 (A 1) (A 2) (A 3) (A 4) 0 1 2 3)=m5 x (A 1) (A 2) (A 3) (A 4) 0 1 2 3 4;rw [x5_0];grind
  | 5,_,1,_=>show 0+x 0*(-1*m4 (A 0) (A 2) (A 3) (A 4) 1 2 3 4)+x 1*(1*m4 (A 0) (A 2) (A 3) (A 4) 0 2 3 4)+x 2*(-1*m4 (A 0) (A 2) (A 3) (A 4) 0 1 3 4)+x 3*(1*m4 (A 0) (A 2) (A 3) (A 4) 0 1 2 4)+x 4*(-1*m4 (A 0) (A 2) (A 3) (A 4) 0 1 2 3)=m5 (A 0) x (A 2) (A 3) (A 4) 0 1 2 3 4;rw [x5_1];grind
  | 5,_,2,_=>show 0+x 0*(1*m4 (A 0) (A 1) (A 3) (A 4) 1 2 3 4)+x 1*(-1*m4 (A 0) (A 1) (A 3) (A 4) 0 2 3 4)+x 2*(1*m4 (A 0) (A 1) (A 3) (A 4) 0 1 3 4)+x 3*(-1*m4 (A 0) (A 1) (A 3) (A 4) 0 1 2 4)+x 4*(1*m4 (A 0) (A 1) (A 3) (A 4) 0 1 2 3)=m5 (A 0) (A 1) x (A 3) (A 4) 0 1 2 3 4;rw [x5_2];grind
  | 5,_,3,_=>show 0+x 0*(-1*m4 (A 0) (A 1) (A 2) (A 4) 1 2 3 4)+x 1*(1*m4 (A 0) (A 1) (A 2) (A 4) 0 2 3 4)+x 2*(-1*m4 (A 0) (A 1) (A 2) (A 4) 0 1 3 4)+x 3*(1*m4 (A 0) (A 1) (A 2) (A 4) 0 1 2 4)+x 4*(-1*m4 (A 0) (A 1) (A 2) (A 4) 0 1 2 3)=m5 (A 0) (A 1) (A 2) x (A 4) 0 1 2 3 4;rw [x5_3];grind
  | 5,_,4,_=>show 0+x 0*(1*m4 (A 0) (A 1) (A 2) (A 3) 1 2 3 4)+x 1*(-1*m4 (A 0) (A 1) (A 2) (A 3) 0 2 3 4)+x 2*(1*m4 (A 0) (A 1) (A 2) (A 3) 0 1 3 4)+x 3*(-1*m4 (A 0) (A 1) (A 2) (A 3) 0 1 2 4)+x 4*(1*m4 (A 0) (A 1) (A 2) (A 3) 0 1 2 3)=m5 (A 0) (A 1) (A 2) (A 3) x 0 1 2 3 4;unfold m5;grind
theorem col_x (A:Nat→R) (i:Nat) {n j:Nat} (hn:n≤5) (hj:j < n):sumI (fun k=>A k i*cof A n k j) n=dc A (fun l=>if l=j then i else l) n:=by
  match n,hn,j,hj with
  | 1,_,0,_=>show 0+A 0 i*(1*1)=(A 0) i;grind
  | 2,_,0,_=>show 0+A 0 i*(1*(A 1) 1)+A 1 i*(-1*(A 0) 1)=m2 (A 0) (A 1) i 1;rw [y2_0 (A 0) (A 1)];grind
  | 2,_,1,_=>show 0+A 0 i*(-1*(A 1) 0)+A 1 i*(1*(A 0) 0)=m2 (A 0) (A 1) 0 i;rw [y2_1 (A 0) (A 1)];grind
  | 3,_,0,_=>show 0+A 0 i*(1*m2 (A 1) (A 2) 1 2)+A 1 i*(-1*m2 (A 0) (A 2) 1 2)+A 2 i*(1*m2 (A 0) (A 1) 1 2)=m3 (A 0) (A 1) (A 2) i 1 2;rw [y3_0 (A 0) (A 1) (A 2)];grind
  | 3,_,1,_=>show 0+A 0 i*(-1*m2 (A 1) (A 2) 0 2)+A 1 i*(1*m2 (A 0) (A 2) 0 2)+A 2 i*(-1*m2 (A 0) (A 1) 0 2)=m3 (A 0) (A 1) (A 2) 0 i 2;rw [y3_1 (A 0) (A 1) (A 2)];grind
  | 3,_,2,_=>show 0+A 0 i*(1*m2 (A 1) (A 2) 0 1)+A 1 i*(-1*m2 (A 0) (A 2) 0 1)+A 2 i*(1*m2 (A 0) (A 1) 0 1)=m3 (A 0) (A 1) (A 2) 0 1 i;rw [y3_2 (A 0) (A 1) (A 2)];grind
  | 4,_,0,_=>show 0+A 0 i*(1*m3 (A 1) (A 2) (A 3) 1 2 3)+A 1 i*(-1*m3 (A 0) (A 2) (A 3) 1 2 3)+A 2 i*(1*m3 (A 0) (A 1) (A 3) 1 2 3)+A 3 i*(-1*m3 (A 0) (A 1) (A 2) 1 2 3)=m4 (A 0) (A 1) (A 2) (A 3) i 1 2 3;rw [y4_0 (A 0) (A 1) (A 2) (A 3)];grind
  | 4,_,1,_=>show 0+A 0 i*(-1*m3 (A 1) (A 2) (A 3) 0 2 3)+A 1 i*(1*m3 (A 0) (A 2) (A 3) 0 2 3)+A 2 i*(-1*m3 (A 0) (A 1) (A 3) 0 2 3)+A 3 i*(1*m3 (A 0) (A 1) (A 2) 0 2 3)=m4 (A 0) (A 1) (A 2) (A 3) 0 i 2 3;rw [y4_1 (A 0) (A 1) (A 2) (A 3)];grind
  | 4,_,2,_=>show 0+A 0 i*(1*m3 (A 1) (A 2) (A 3) 0 1 3)+A 1 i*(-1*m3 (A 0) (A 2) (A 3) 0 1 3)+A 2 i*(1*m3 (A 0) (A 1) (A 3) 0 1 3)+A 3 i*(-1*m3 (A 0) (A 1) (A 2) 0 1 3)=m4 (A 0) (A 1) (A 2) (A 3) 0 1 i 3;rw [y4_2 (A 0) (A 1) (A 2) (A 3)];grind
  | 4,_,3,_=>show 0+A 0 i*(-1*m3 (A 1) (A 2) (A 3) 0 1 2)+A 1 i*(1*m3 (A 0) (A 2) (A 3) 0 1 2)+A 2 i*(-1*m3 (A 0) (A 1) (A 3) 0 1 2)+A 3 i*(1*m3 (A 0) (A 1) (A 2) 0 1 2)=m4 (A 0) (A 1) (A 2) (A 3) 0 1 2 i;rw [y4_3 (A 0) (A 1) (A 2) (A 3)];grind
  | 5,_,0,_=>show 0+A 0 i*(1*m4 (A 1) (A 2) (A 3) (A 4) 1 2 3 4)+A 1 i*(-1*m4 (A 0) (A 2) (A 3) (A 4) 1 2 3 4)+A 2 i*(1*m4 (A 0) (A 1) (A 3) (A 4) 1 2 3 4)+A 3 i*(-1*m4 (A 0) (A 1) (A 2) (A 4) 1 2 3 4)+A 4 i*(1*m4 (A 0) (A 1) (A 2) (A 3) 1 2 3 4)=m5 (A 0) (A 1) (A 2) (A 3) (A 4) i 1 2 3 4;rw [y5_0 (A 0) (A 1) (A 2) (A 3) (A 4)];grind
  | 5,_,1,_=>show 0+A 0 i*(-1*m4 (A 1) (A 2) (A 3) (A 4) 0 2 3 4)+A 1 i*(1*m4 (A 0) (A 2) (A 3) (A 4) 0 2 3 4)+A 2 i*(-1*m4 (A 0) (A 1) (A 3) (A 4) 0 2 3 4)+A 3 i*(1*m4 (A 0) (A 1) (A 2) (A 4) 0 2 3 4)+A 4 i*(-1*m4 (A 0) (A 1) (A 2) (A 3) 0 2 3 4)=m5 (A 0) (A 1) (A 2) (A 3) (A 4) 0 i 2 3 4;rw [y5_1 (A 0) (A 1) (A 2) (A 3) (A 4)];grind
  | 5,_,2,_=>show 0+A 0 i*(1*m4 (A 1) (A 2) (A 3) (A 4) 0 1 3 4)+A 1 i*(-1*m4 (A 0) (A 2) (A 3) (A 4) 0 1 3 4)+A 2 i*(1*m4 (A 0) (A 1) (A 3) (A 4) 0 1 3 4)+A 3 i*(-1*m4 (A 0) (A 1) (A 2) (A 4) 0 1 3 4)+A 4 i*(1*m4 (A 0) (A 1) (A 2) (A 3) 0 1 3 4)=m5 (A 0) (A 1) (A 2) (A 3) (A 4) 0 1 i 3 4;rw [y5_2 (A 0) (A 1) (A 2) (A 3) (A 4)];grind
  | 5,_,3,_=>show 0+A 0 i*(-1*m4 (A 1) (A 2) (A 3) (A 4) 0 1 2 4)+A 1 i*(1*m4 (A 0) (A 2) (A 3) (A 4) 0 1 2 4)+A 2 i*(-1*m4 (A 0) (A 1) (A 3) (A 4) 0 1 2 4)+A 3 i*(1*m4 (A 0) (A 1) (A 2) (A 4) 0 1 2 4)+A 4 i*(-1*m4 (A 0) (A 1) (A 2) (A 3) 0 1 2 4)=m5 (A 0) (A 1) (A 2) (A 3) (A 4) 0 1 2 i 4;rw [y5_3 (A 0) (A 1) (A 2) (A 3) (A 4)];grind
  | 5,_,4,_=>show 0+A 0 i*(1*m4 (A 1) (A 2) (A 3) (A 4) 0 1 2 3)+A 1 i*(-1*m4 (A 0) (A 2) (A 3) (A 4) 0 1 2 3)+A 2 i*(1*m4 (A 0) (A 1) (A 3) (A 4) 0 1 2 3)+A 3 i*(-1*m4 (A 0) (A 1) (A 2) (A 4) 0 1 2 3)+A 4 i*(1*m4 (A 0) (A 1) (A 2) (A 3) 0 1 2 3)=m5 (A 0) (A 1) (A 2) (A 3) (A 4) 0 1 2 3 i;rw [y5_4 (A 0) (A 1) (A 2) (A 3) (A 4)];grind
theorem dc_z (A:Nat→R) {n i j:Nat} (hn:n≤5) (hi:i < n) (hj:j < n) (ne:i≠j):dc A (fun l=>if l=j then i else l) n=0:=by
  match n,hn,i,hi,j,hj,ne with
  | 1,_,0,_,0,_,ne=>exact absurd rfl ne
  | 2,_,0,_,0,_,ne=>exact absurd rfl ne
  | 2,_,0,_,1,_,_=>show m2 (A 0) (A 1) 0 0=0;exact z2_01 _ _ _
  | 2,_,1,_,0,_,_=>show m2 (A 0) (A 1) 1 1=0;exact z2_01 _ _ _
  | 2,_,1,_,1,_,ne=>exact absurd rfl ne
  | 3,_,0,_,0,_,ne=>exact absurd rfl ne
  | 3,_,0,_,1,_,_=>show m3 (A 0) (A 1) (A 2) 0 0 2=0;exact z3_01 _ _ _ _ _
  | 3,_,0,_,2,_,_=>show m3 (A 0) (A 1) (A 2) 0 1 0=0;exact z3_02 _ _ _ _ _
  | 3,_,1,_,0,_,_=>show m3 (A 0) (A 1) (A 2) 1 1 2=0;exact z3_01 _ _ _ _ _
  | 3,_,1,_,1,_,ne=>exact absurd rfl ne
  | 3,_,1,_,2,_,_=>show m3 (A 0) (A 1) (A 2) 0 1 1=0;exact z3_12 _ _ _ _ _
  | 3,_,2,_,0,_,_=>show m3 (A 0) (A 1) (A 2) 2 1 2=0;exact z3_02 _ _ _ _ _
  | 3,_,2,_,1,_,_=>show m3 (A 0) (A 1) (A 2) 0 2 2=0;exact z3_12 _ _ _ _ _
  | 3,_,2,_,2,_,ne=>exact absurd rfl ne
  | 4,_,0,_,0,_,ne=>exact absurd rfl ne
  | 4,_,0,_,1,_,_=>show m4 (A 0) (A 1) (A 2) (A 3) 0 0 2 3=0;exact z4_01 _ _ _ _ _ _ _
  | 4,_,0,_,2,_,_=>show m4 (A 0) (A 1) (A 2) (A 3) 0 1 0 3=0;exact z4_02 _ _ _ _ _ _ _
  | 4,_,0,_,3,_,_=>show m4 (A 0) (A 1) (A 2) (A 3) 0 1 2 0=0;exact z4_03 _ _ _ _ _ _ _
  | 4,_,1,_,0,_,_=>show m4 (A 0) (A 1) (A 2) (A 3) 1 1 2 3=0;exact z4_01 _ _ _ _ _ _ _
  | 4,_,1,_,1,_,ne=>exact absurd rfl ne
  | 4,_,1,_,2,_,_=>show m4 (A 0) (A 1) (A 2) (A 3) 0 1 1 3=0;exact z4_12 _ _ _ _ _ _ _
  | 4,_,1,_,3,_,_=>show m4 (A 0) (A 1) (A 2) (A 3) 0 1 2 1=0;exact z4_13 _ _ _ _ _ _ _
  | 4,_,2,_,0,_,_=>show m4 (A 0) (A 1) (A 2) (A 3) 2 1 2 3=0;exact z4_02 _ _ _ _ _ _ _
  | 4,_,2,_,1,_,_=>show m4 (A 0) (A 1) (A 2) (A 3) 0 2 2 3=0;exact z4_12 _ _ _ _ _ _ _
  | 4,_,2,_,2,_,ne=>exact absurd rfl ne
  | 4,_,2,_,3,_,_=>show m4 (A 0) (A 1) (A 2) (A 3) 0 1 2 2=0;exact z4_23 _ _ _ _ _ _ _
  | 4,_,3,_,0,_,_=>show m4 (A 0) (A 1) (A 2) (A 3) 3 1 2 3=0;exact z4_03 _ _ _ _ _ _ _
  | 4,_,3,_,1,_,_=>show m4 (A 0) (A 1) (A 2) (A 3) 0 3 2 3=0;exact z4_13 _ _ _ _ _ _ _
  | 4,_,3,_,2,_,_=>show m4 (A 0) (A 1) (A 2) (A 3) 0 1 3 3=0;exact z4_23 _ _ _ _ _ _ _
  | 4,_,3,_,3,_,ne=>exact absurd rfl ne
  | 5,_,0,_,0,_,ne=>exact absurd rfl ne
  | 5,_,0,_,1,_,_=>show m5 (A 0) (A 1) (A 2) (A 3) (A 4) 0 0 2 3 4=0;exact z5_01 _ _ _ _ _ _ _ _ _
  | 5,_,0,_,2,_,_=>show m5 (A 0) (A 1) (A 2) (A 3) (A 4) 0 1 0 3 4=0;exact z5_02 _ _ _ _ _ _ _ _ _
  | 5,_,0,_,3,_,_=>show m5 (A 0) (A 1) (A 2) (A 3) (A 4) 0 1 2 0 4=0;exact z5_03 _ _ _ _ _ _ _ _ _
  | 5,_,0,_,4,_,_=>show m5 (A 0) (A 1) (A 2) (A 3) (A 4) 0 1 2 3 0=0;exact z5_04 _ _ _ _ _ _ _ _ _
  | 5,_,1,_,0,_,_=>show m5 (A 0) (A 1) (A 2) (A 3) (A 4) 1 1 2 3 4=0;exact z5_01 _ _ _ _ _ _ _ _ _
  | 5,_,1,_,1,_,ne=>exact absurd rfl ne
  | 5,_,1,_,2,_,_=>show m5 (A 0) (A 1) (A 2) (A 3) (A 4) 0 1 1 3 4=0;exact z5_12 _ _ _ _ _ _ _ _ _
  | 5,_,1,_,3,_,_=>show m5 (A 0) (A 1) (A 2) (A 3) (A 4) 0 1 2 1 4=0;exact z5_13 _ _ _ _ _ _ _ _ _
  | 5,_,1,_,4,_,_=>show m5 (A 0) (A 1) (A 2) (A 3) (A 4) 0 1 2 3 1=0;exact z5_14 _ _ _ _ _ _ _ _ _
  | 5,_,2,_,0,_,_=>show m5 (A 0) (A 1) (A 2) (A 3) (A 4) 2 1 2 3 4=0;exact z5_02 _ _ _ _ _ _ _ _ _
  | 5,_,2,_,1,_,_=>show m5 (A 0) (A 1) (A 2) (A 3) (A 4) 0 2 2 3 4=0;exact z5_12 _ _ _ _ _ _ _ _ _
  | 5,_,2,_,2,_,ne=>exact absurd rfl ne
  | 5,_,2,_,3,_,_=>show m5 (A 0) (A 1) (A 2) (A 3) (A 4) 0 1 2 2 4=0;exact z5_23 _ _ _ _ _ _ _ _ _
  | 5,_,2,_,4,_,_=>show m5 (A 0) (A 1) (A 2) (A 3) (A 4) 0 1 2 3 2=0;exact z5_24 _ _ _ _ _ _ _ _ _
  | 5,_,3,_,0,_,_=>show m5 (A 0) (A 1) (A 2) (A 3) (A 4) 3 1 2 3 4=0;exact z5_03 _ _ _ _ _ _ _ _ _
  | 5,_,3,_,1,_,_=>show m5 (A 0) (A 1) (A 2) (A 3) (A 4) 0 3 2 3 4=0;exact z5_13 _ _ _ _ _ _ _ _ _
  | 5,_,3,_,2,_,_=>show m5 (A 0) (A 1) (A 2) (A 3) (A 4) 0 1 3 3 4=0;exact z5_23 _ _ _ _ _ _ _ _ _
  | 5,_,3,_,3,_,ne=>exact absurd rfl ne
  | 5,_,3,_,4,_,_=>show m5 (A 0) (A 1) (A 2) (A 3) (A 4) 0 1 2 3 3=0;exact z5_34 _ _ _ _ _ _ _ _ _
  | 5,_,4,_,0,_,_=>show m5 (A 0) (A 1) (A 2) (A 3) (A 4) 4 1 2 3 4=0;exact z5_04 _ _ _ _ _ _ _ _ _
  | 5,_,4,_,1,_,_=>show m5 (A 0) (A 1) (A 2) (A 3) (A 4) 0 4 2 3 4=0;exact z5_14 _ _ _ _ _ _ _ _ _
  | 5,_,4,_,2,_,_=>show m5 (A 0) (A 1) (A 2) (A 3) (A 4) 0 1 4 3 4=0;exact z5_24 _ _ _ _ _ _ _ _ _
  | 5,_,4,_,3,_,_=>show m5 (A 0) (A 1) (A 2) (A 3) (A 4) 0 1 2 4 4=0;exact z5_34 _ _ _ _ _ _ _ _ _
  | 5,_,4,_,4,_,ne=>exact absurd rfl ne
theorem dc_dt (A:Nat→R) {n:Nat} (hn:n≤5):dc A (fun l=>l) n=dt A n:=by
  match n,hn with
  | 0,_=>rfl
  | 1,_=>rfl
  | 2,_=>rfl
  | 3,_=>rfl
  | 4,_=>rfl
  | 5,_=>rfl
theorem adj_col (A:Nat→R) {n i j:Nat} (hn:n≤5) (hi:i < n) (hj:j < n):sumI (fun k=>A k i*cof A n k j) n=if i=j then dt A n else 0:=by
  rw [col_x A i hn hj]
  split
  · rename_i h
    subst h
    rw [show (fun l=>if l=i then i else l)=(fun l=>l) from by funext l;split<;>omega]
    exact dc_dt A hn
  · rename_i h;exact dc_z A hn hi hj h
theorem null_z (A:Nat→R) {n:Nat} (hn:n≤5) {w:Nat→Int} (h:∀ i,i < n→sumI (fun j=>A i j*w j) n=0) {j:Nat} (hj:j < n):dt A n*w j=0:=by
  have e:sumI (fun k=>cof A n k j*sumI (fun l=>A k l*w l) n) n=dt A n*w j:=by
    rw [Zd1 (g:=fun k=>sumI (fun l=>cof A n k j*(A k l*w l)) n) (fun k _=>(sumI_mul _ _ n).symm),sumI_swap]
    rw [Zd1 (g:=fun l=>w l*sumI (fun k=>A k l*cof A n k j) n) (fun l _=>by
      rw [← sumI_mul]
      exact Zd1 fun k _=>by rw [Int.mul_comm (w l),← Int.mul_assoc,Int.mul_comm (cof A n k j)])]
    rw [Zgq (k:=j) hj (fun i hi ne=>by rw [adj_col A hn hi hj,if_neg ne,Int.mul_zero]),adj_col A hn hj hj,if_pos rfl,Int.mul_comm]
  rw [← e]
  exact ZeF fun k hk=>by rw [h k hk,Int.mul_zero]
end Dt
end LP
namespace LP
open PySem PySem.Spec PyProof.Rows L2
namespace Dt
open B.C
def tA (t:List (List Int)):Nat→R:=fun i j=>ga (gr t i) j
theorem M_rep (P:Nat→R) {a k:Nat} (ha:a≤4) (hk:k < a) (j:Nat):M P a k j=0:=by
  match a,ha,k,hk with
  | 1,_,0,_=>have:=w2_01 (P 0) (P 0) 0 j;show m2 _ _ _ _=0;omega
  | 2,_,0,_=>have:=w3_02 (P 0) (P 1) (P 0) 0 1 j;show m3 _ _ _ _ _ _=0;omega
  | 2,_,1,_=>have:=w3_12 (P 0) (P 1) (P 1) 0 1 j;show m3 _ _ _ _ _ _=0;omega
  | 3,_,0,_=>have:=w4_03 (P 0) (P 1) (P 2) (P 0) 0 1 2 j;show m4 _ _ _ _ _ _ _ _=0;omega
  | 3,_,1,_=>have:=w4_13 (P 0) (P 1) (P 2) (P 1) 0 1 2 j;show m4 _ _ _ _ _ _ _ _=0;omega
  | 3,_,2,_=>have:=w4_23 (P 0) (P 1) (P 2) (P 2) 0 1 2 j;show m4 _ _ _ _ _ _ _ _=0;omega
  | 4,_,0,_=>have:=w5_04 (P 0) (P 1) (P 2) (P 3) (P 0) 0 1 2 3 j;show m5 _ _ _ _ _ _ _ _ _ _=0;omega
  | 4,_,1,_=>have:=w5_14 (P 0) (P 1) (P 2) (P 3) (P 1) 0 1 2 3 j;show m5 _ _ _ _ _ _ _ _ _ _=0;omega
  | 4,_,2,_=>have:=w5_24 (P 0) (P 1) (P 2) (P 3) (P 2) 0 1 2 3 j;show m5 _ _ _ _ _ _ _ _ _ _=0;omega
  | 4,_,3,_=>have:=w5_34 (P 0) (P 1) (P 2) (P 3) (P 3) 0 1 2 3 j;show m5 _ _ _ _ _ _ _ _ _ _=0;omega
def nv (P:Nat→R) (a:Nat):Nat→Int:=fun j=>match a,j with
  | 0,0=>1
  | 1,0=>- P 0 1
  | 1,1=>P 0 0
  | 2,0=>m2 (P 0) (P 1) 1 2
  | 2,1=>- m2 (P 0) (P 1) 0 2
  | 2,2=>m2 (P 0) (P 1) 0 1
  | 3,0=>- m3 (P 0) (P 1) (P 2) 1 2 3
  | 3,1=>m3 (P 0) (P 1) (P 2) 0 2 3
  | 3,2=>- m3 (P 0) (P 1) (P 2) 0 1 3
  | 3,3=>m3 (P 0) (P 1) (P 2) 0 1 2
  | 4,0=>m4 (P 0) (P 1) (P 2) (P 3) 1 2 3 4
  | 4,1=>- m4 (P 0) (P 1) (P 2) (P 3) 0 2 3 4
  | 4,2=>m4 (P 0) (P 1) (P 2) (P 3) 0 1 3 4
  | 4,3=>- m4 (P 0) (P 1) (P 2) (P 3) 0 1 2 4
  | 4,4=>m4 (P 0) (P 1) (P 2) (P 3) 0 1 2 3
  | _,_=>0
theorem nv_beyond (P:Nat→R) {a j:Nat} (ha:a≤4) (h:a < j):nv P a j=0:=by
  match a,ha,j,h with
  | 0,_,_+1,_=>rfl
  | 1,_,_+2,_=>rfl
  | 2,_,_+3,_=>rfl
  | 3,_,_+4,_=>rfl
  | 4,_,_+5,_=>rfl
theorem nv_at (P:Nat→R) {a:Nat} (ha:a≤4):nv P a a=dt P a:=by
  match a,ha with
  | 0,_=>rfl
  | 1,_=>rfl
  | 2,_=>rfl
  | 3,_=>rfl
  | 4,_=>rfl
theorem sumI_cut {f:Nat→Int} {m:Nat}:∀ {n:Nat},m≤n→(∀ j,m≤j→f j=0)→sumI f n=sumI f m
  | 0,h,_=>by rw [Nat.le_zero.mp h]
  | n+1,h,h0=>by
    by_cases e:m=n+1
    · rw [e]
    · rw [sumI,h0 n (by omega),Int.add_zero]
      exact sumI_cut (by omega) h0
theorem nv_sum (P:Nat→R) {a n k:Nat} (ha:a≤4) (hn:a < n):sumI (fun j=>P k j*nv P a j) n=M P a k a:=by
  rw [sumI_cut (m:=a+1) (by omega) (fun j hj=>by rw [nv_beyond P ha (by omega),Int.mul_zero])]
  match a,ha with
  | 0,_=>show 0+P k 0*1=P k 0;omega
  | 1,_=>show 0+P k 0*(- P 0 1)+P k 1*P 0 0=m2 (P 0) (P k) 0 1;unfold m2;grind
  | 2,_=>show 0+P k 0*m2 (P 0) (P 1) 1 2+P k 1*(- m2 (P 0) (P 1) 0 2)+P k 2*m2 (P 0) (P 1) 0 1=m3 (P 0) (P 1) (P k) 0 1 2;unfold m3;grind
  | 3,_=>show 0+P k 0*(- m3 (P 0) (P 1) (P 2) 1 2 3)+P k 1*m3 (P 0) (P 1) (P 2) 0 2 3+P k 2*(- m3 (P 0) (P 1) (P 2) 0 1 3)+P k 3*m3 (P 0) (P 1) (P 2) 0 1 2=m4 (P 0) (P 1) (P 2) (P k) 0 1 2 3;unfold m4;grind
  | 4,_=>show 0+P k 0*m4 (P 0) (P 1) (P 2) (P 3) 1 2 3 4+P k 1*(- m4 (P 0) (P 1) (P 2) (P 3) 0 2 3 4)+P k 2*m4 (P 0) (P 1) (P 2) (P 3) 0 1 3 4+P k 3*(- m4 (P 0) (P 1) (P 2) (P 3) 0 1 2 4)+P k 4*m4 (P 0) (P 1) (P 2) (P 3) 0 1 2 3=m5 (P 0) (P 1) (P 2) (P 3) (P k) 0 1 2 3 4;unfold m5;grind
structure Br (A:Nat→R) (n a:Nat) (x:St3) (P:Nat→R):Prop where
  sm:∃ b,Sm b n x.t
  l0:x.l≠0
  sgn:dt A n=x.s*dt P n
  last:x.l=dt P a
  ent:∀ i,a≤i→i < n→∀ j,j < n→ga (gr x.t i) j=M P a i j
  row:∀ i,i < n→∃ i',i' < n∧A i=P i'
theorem dt_rows {A B:Nat→R} {k:Nat} (h:∀ l,l < k→A l=B l):dt A k=dt B k:=by
  cases k with
  | zero=>rfl
  | succ k=>exact M_rows (fun l hl=>h l (by omega)) (h k (by omega))
theorem ga_tak {row here:List Int} {a j:Nat} {l:Int} (hj:j < row.length):ga (takF row here a l) j=(ga row j*ga here a - ga row a*ga here j).fdiv l:=by
  show (takF row here a l).getD j 0=_
  unfold takF
  rw [List.getD_eq_getElem?_getD,List.getElem?_map,List.getElem?_range hj]
  rfl
theorem Br.step {A:Nat→R} {n a:Nat} {x y:St3} {P:Nat→R} (h:Br A n a x P) (hn:n≤5) (ha:a < n) (e:stpF a x=some y):∃ P',Br A n (a+1) y P':=by
  obtain ⟨b,sm⟩:=h.sm
  have xl:=sm.len
  unfold stpF at e
  split at e
  · cases e
  rename_i g gs eg
  cases e
  obtain ⟨g1,g2,g3⟩:=goo_mem sm (g:=g) (by rw [eg];simp)
  have w:=swp_sm sm ha g2
  have wl:=w.len
  have swr:∀ k,k < n→gr (swpF x.t a g) k=if k=g then gr x.t a else if k=a then gr x.t g else gr x.t k:=fun k hk=>by
    unfold swpF
    rw [gr_set (by rw [List.length_set];omega),gr_set (by omega)]
  refine ⟨sw P a g,⟨_,row_sm (k:=(swpF x.t a g).length) w ha h.l0⟩,?_,?_,?_,fun i hi hin j hj=>?_,fun i hi=>?_⟩
  · show ga (gr (rowF (swpF x.t a g) a (swpF x.t a g).length x.l) a) a≠0
    rw [row_gr (by omega),if_neg (by omega),swp_at sm ha g2]
    exact g3
  · show dt A n=x.s*(1 - 2*(if g=a then 0 else 1))*dt (sw P a g) n
    rw [h.sgn]
    by_cases e:g=a
    · subst e
      rw [if_pos rfl,show sw P g g=P from by funext i;unfold sw;split<;>simp_all]
      grind
    · rw [if_neg e,dt_sw P hn (by omega:a < g) g2]
      grind
  · show ga (gr (rowF (swpF x.t a g) a (swpF x.t a g).length x.l) a) a=M (sw P a g) a a a
    rw [row_gr (by omega),if_neg (by omega),swp_at sm ha g2,h.ent g g1 g2 a ha]
    have:M (sw P a g) a a a=M (fun l=>if l=g then sw P a g a else sw P a g l) a g a:=by
      have h1:∀ (B:Nat→R) (k:Nat),M B k k k=M (fun l=>if l=g then B k else B l) k g k→True:=fun _ _ _=>trivial
      match a,ha,g1 with
      | 0,_,_=>simp [M]
      | 1,_,_=>simp only [M];rw [if_neg (by omega)];simp
      | 2,_,_=>simp only [M];rw [if_neg (by omega),if_neg (by omega)];simp
      | 3,_,_=>simp only [M];rw [if_neg (by omega),if_neg (by omega),if_neg (by omega)];simp
      | 4,_,_=>simp only [M];rw [if_neg (by omega),if_neg (by omega),if_neg (by omega),if_neg (by omega)];simp
      | _+5,h,_=>omega
    rw [this]
    refine M_rows (fun l hl=>?_) ?_
    · show P l=if l=g then _ else sw P a g l
      unfold sw
      rw [if_neg (by omega),if_neg (by omega),if_neg (by omega)]
    · show P g=if g=g then sw P a g a else _
      unfold sw
      rw [if_pos rfl,if_pos rfl]
  · have hai:a < i:=by omega
    have hA:∀ k,a≤k→k < n→∀ j,j < n→ga (gr (swpF x.t a g) k) j=M (sw P a g) a k j:=fun k hk hkn j hj=>by
      have low:∀ l,l < a→P l=sw P a g l:=fun l hl=>by unfold sw;rw [if_neg (by omega),if_neg (by omega)]
      have mv:∀ k',a≤k'→k' < n→P k'=sw P a g k→M P a k' j=M (sw P a g) a k j:=fun k' h1 h2 h3=>by
        have hh:∀ (B C:Nat→R) (i i':Nat),(∀ l,l < a→B l=C l)→B i=C i'→M B a i j=M C a i' j:=fun B C i i' q1 q2=>by
          match a,q1 with
          | 0,_=>show B i j=C i' j;rw [q2]
          | 1,q1=>simp only [M];rw [q2,q1 0 (by omega)]
          | 2,q1=>simp only [M];rw [q2,q1 0 (by omega),q1 1 (by omega)]
          | 3,q1=>simp only [M];rw [q2,q1 0 (by omega),q1 1 (by omega),q1 2 (by omega)]
          | 4,q1=>simp only [M];rw [q2,q1 0 (by omega),q1 1 (by omega),q1 2 (by omega),q1 3 (by omega)]
          | _+5,_=>simp only [M]
        exact hh _ _ _ _ low h3
      rw [swr k hkn]
      by_cases e1:k=g
      · subst e1
        rw [if_pos rfl,h.ent a (Nat.le_refl _) ha j hj]
        refine mv a (Nat.le_refl _) ha ?_
        unfold sw
        by_cases e2:k=a
        · subst e2;rw [if_pos rfl]
        · rw [if_neg e2,if_pos rfl]
      · rw [if_neg e1]
        by_cases e2:k=a
        · subst e2
          rw [if_pos rfl,h.ent g g1 g2 j hj]
          refine mv g g1 g2 ?_
          unfold sw
          rw [if_pos rfl]
        · rw [if_neg e2,h.ent k hk hkn j hj]
          refine mv k hk hkn ?_
          unfold sw
          rw [if_neg e2,if_neg e1]
    show ga (gr (rowF (swpF x.t a g) a (swpF x.t a g).length x.l) i) j=M (sw P a g) (a+1) i j
    rw [row_gr (by omega),if_pos ⟨hai,by omega⟩,ga_tak (by rw [(w.gr hin).2.1];exact hj),hA i (by omega) hin j hj,hA a (Nat.le_refl _) ha a ha,hA i (by omega) hin a ha,hA a (Nat.le_refl _) ha j hj,← M_step (sw P a g) (k:=a) (by omega) i j]
    have el:dt (sw P a g) a=x.l:=by
      rw [h.last]
      exact dt_rows fun l hl=>by unfold sw;rw [if_neg (by omega),if_neg (by omega)]
    rw [el]
    exact Int.mul_fdiv_cancel _ h.l0
  · obtain ⟨i',h1,h2⟩:=h.row i hi
    by_cases e1:i'=a
    · subst e1
      refine ⟨g,g2,?_⟩
      rw [h2]
      unfold sw
      by_cases e2:g=i'
      · subst e2;rw [if_pos rfl]
      · rw [if_neg e2,if_pos rfl]
    · by_cases e2:i'=g
      · subst e2
        refine ⟨a,ha,?_⟩
        rw [h2]
        unfold sw
        rw [if_pos rfl]
      · refine ⟨i',h1,?_⟩
        rw [h2]
        unfold sw
        rw [if_neg e1,if_neg e2]
theorem Br.run {b n:Nat} {t:List (List Int)} (h:Sm b n t) (hn:n≤5):∀ {a:Nat},a≤n→∀ {x:St3},runF t a=some x→∃ P,Br (tA t) n a x P
  | 0,_,x,e=>by
    cases e
    exact ⟨tA t,⟨b,h⟩,show (1:Int)≠0 by decide,by show _=1*_;rw [Int.one_mul],rfl,fun i _ _ j _=>rfl,fun i hi=>⟨i,hi,rfl⟩⟩
  | a+1,ha,x,e=>by
    rw [runF] at e
    cases e1:runF t a with
    | none=>rw [e1] at e;cases e
    | some y=>
      rw [e1] at e
      obtain ⟨P,hP⟩:=Br.run h hn (by omega) e1
      exact hP.step hn (by omega) e
theorem run_stop {t:List (List Int)}:∀ {n:Nat},runF t n=none→∃ a x,a < n∧runF t a=some x∧gooF x.t a=[]
  | 0,e=>by cases e
  | n+1,e=>by
    rw [runF] at e
    cases e1:runF t n with
    | none=>
      obtain ⟨a,x,h1,h2,h3⟩:=run_stop e1
      exact ⟨a,x,by omega,h2,h3⟩
    | some x=>
      rw [e1] at e
      refine ⟨n,x,by omega,e1,?_⟩
      have e:stpF n x=none:=e
      unfold stpF at e
      split at e
      · assumption
      · cases e
theorem num_run {b n:Nat} {t:List (List Int)} (h:Sm b n t) (hn:n≤5):(numF t=dt (tA t) n∧numF t≠0∧∃ x,runF t n=some x)∨(numF t=0∧∃ w:Nat→Int,(∃ a,a < n∧w a≠0)∧∀ i,i < n→sumI (fun j=>tA t i j*w j) n=0):=by
  unfold numF
  rw [h.len]
  cases e:runF t n with
  | some x=>
    obtain ⟨P,hP⟩:=Br.run h hn (Nat.le_refl _) e
    refine .inl ⟨?_,?_,x,rfl⟩
    · show x.s*x.l=_
      rw [hP.last,hP.sgn]
    · show x.s*x.l≠0
      refine Int.mul_ne_zero ?_ hP.l0
      have:∀ {a:Nat} {x:St3},runF t a=some x→x.s≠0:=fun {a}=>by
        induction a with
        | zero=>intro x e;cases e;exact show (1:Int)≠0 by decide
        | succ a ih=>
          intro x e
          rw [runF] at e
          cases e1:runF t a with
          | none=>rw [e1] at e;cases e
          | some y=>
            rw [e1] at e
            have e:stpF a y=some x:=e
            unfold stpF at e
            split at e
            · cases e
            · cases e
              exact Int.mul_ne_zero (ih e1) (by split<;>decide)
      exact this e
  | none=>
    obtain ⟨a,x,ha,ea,eg⟩:=run_stop e
    obtain ⟨P,hP⟩:=Br.run h hn (Nat.le_of_lt ha) ea
    obtain ⟨b',sm⟩:=hP.sm
    have xl:=sm.len
    have z:∀ k,k < n→M P a k a=0:=fun k hk=>by
      by_cases hka:k < a
      · exact M_rep P (by omega) hka a
      · rw [← hP.ent k (by omega) hk a ha]
        refine Classical.byContradiction fun c=>?_
        have:k∈gooF x.t a:=by
          unfold gooF
          refine List.mem_filter.mpr ⟨List.mem_map.mpr ⟨k - a,List.mem_range.mpr (by omega),by omega⟩,by simpa using c⟩
        rw [eg] at this
        cases this
    refine .inr ⟨rfl,nv P a,⟨a,ha,?_⟩,fun i hi=>?_⟩
    · rw [nv_at P (by omega),← hP.last]
      exact hP.l0
    · obtain ⟨i',h1,h2⟩:=hP.row i hi
      rw [h2,nv_sum P (by omega) ha]
      exact z i' h1
theorem num_dt {b n:Nat} {t:List (List Int)} (h:Sm b n t) (hn:n≤5):numF t=dt (tA t) n:=by
  rcases num_run h hn with ⟨e,_⟩ | ⟨e,w,⟨a,ha,wa⟩,hw⟩
  · exact e
  · rw [e]
    rcases Int.mul_eq_zero.mp (null_z (tA t) hn hw ha) with z | z
    · exact z.symm
    · exact absurd z wa
end Dt
def FnAt (K:PySem.W.Frag) (mg:Str→Option Value) (x:Str) (st:Stmt):Prop:=∃ f fd,Fun K x x st f fd∧mg x=some (.ref f)∧ZdP K x=some f
def CC (K:PySem.W.Frag) (mg:Str→Option Value) (x:Str):Prop:=∃ a,mg x=some (.ref a)∧ZdP K x=some a
def CI (mg:Str→Option Value) (x:Str) (i:Int):Prop:=∃ t,mg x=some (.int i t)
def CT (K:PySem.W.Frag) (mg:Str→Option Value) (x:Str) (ds:List D):Prop:=∃ a vs,mg x=some (.ref a)∧KT K a vs∧∀ W,Reps K W vs ds
section
variable {K:PySem.W.Frag} {h:Heap} {mg:Str→Option Value} {x:Str}
theorem mkF (X:K.In h) (G:h.Ns mainGlobals mg) {st:Stmt} {f:Addr} {oc:Value} {od an:Option Addr} {osl:Array (Option Value)} {kV doc pm cdv ct:Value} (a:PySem.W.nsIn K mainGlobals x=some (some (.ref f))) (l:K.lookup f=some ⟨oc,od,.func (PySem.W.fnOf x x (defArgs st) (defBody st) (defScope st) .none kV doc pm an cdv ct),osl⟩)
    (c:PySem.W.codeIn K cdv x=true) (k:PySem.W.keepIn K (.ref f)=true):FnAt K mg x st:=⟨f,_,fun_mk l c k,PySem.W.mg_of X G a,Zd4 a⟩
theorem mkC (X:K.In h) (G:h.Ns mainGlobals mg) {f:Addr} (a:PySem.W.nsIn K mainGlobals x=some (some (.ref f))):CC K mg x:=⟨f,PySem.W.mg_of X G a,Zd4 a⟩
theorem mkI (X:K.In h) (G:h.Ns mainGlobals mg) {i:Int} {t:Tok} (a:PySem.W.nsIn K mainGlobals x=some (some (.int i t))):CI mg x i:=⟨t,PySem.W.mg_of X G a⟩
theorem mkT (X:K.In h) (G:h.Ns mainGlobals mg) {f:Addr} {d:Option Addr} {n:Nat} {sl:Array (Option Value)} {i j:Int} {t u:Tok} (a:PySem.W.nsIn K mainGlobals x=some (some (.ref f))) (l:K.lookup f=some ⟨.type "tuple",d,.seq #[.int i t,.int j u] n,sl⟩):CT K mg x [.int i,.int j]:=
  ⟨f,[.int i,.int j],PySem.W.mg_of X G a,⟨_,_,_,l,rfl,rfl,(by show 2≤sizeLine;decide),.cons ⟨_,rfl⟩ (.cons ⟨_,rfl⟩ .nil)⟩,fun _=>.cons (.int _) (.cons (.int _) .nil)⟩
theorem mkX (X:K.In h) (G:h.Ns mainGlobals mg) {f:Addr} (a:PySem.W.nsIn K mainGlobals x=some (some (.ref f))) (e:PySem.W.excIn K f [.type "ValueError",.type "Exception",.type "BaseException",.type "object"] "ValueError.__new__" = true):XC K mg x:=
  ⟨f,_,_,_,Zd4 a,PySem.W.mg_of X G a,e,PySem.F.excBase_ValueError⟩
theorem mkH (X:K.In h) (G:h.Ns mainGlobals mg) {f:Addr} {L:List Str} (a:PySem.W.nsIn K mainGlobals x=some (some (.ref f))) (e:PySem.W.excIn K f [.type "ValueError",.type "Exception",.type "BaseException",.type "object"] "ValueError.__new__" = true)
    (m:∀ n∈L,∃ D,PySem.W.nsIn K mainGlobals (xnm n)=some (some (.ref D))∧PySem.W.mroIn K D (.ref f)=some true):XT K mg x L:=
  ⟨f,_,_,PySem.W.mg_of X G a,e,by decide +kernel,fun n hn D hD=>by
    obtain ⟨D',e1,e2⟩:=m n hn
    rw [Zd4 e1] at hD
    cases hD
    exact e2⟩
end
section
variable {P:Program} {w:World} {K:PySem.W.Frag} {mg:Str→Option Value} {base:Heap} {x:Str} {st:Stmt} {N ps:List Str} {k:Nat} {S:Zav} {z:WS}
theorem mkp (h:FnAt K mg x st)
    (hbody:∀ (sc:N.Nodup) (f:Addr) (cdv:Value) (A:Around) (outer:List Env) (s:Shared) (H:Hp) (E:XK),Room k (A.deeper (envOfC x (defScope st) s.heap.objs.size f cdv))→
      Passes (CXv P w) (cxOf (CXv P w) P w K mg base N x (defScope st) f cdv A outer s H E) E→Rais (cxOf (CXv P w) P w K mg base N x (defScope st) f cdv A outer s H E) E→
      PZs (cxOf (CXv P w) P w K mg base N x (defScope st) f cdv A outer s H E) E (defBody st) z)
    (rd:∀ ds E Q,S ds E Q→z E { nx:=fun _=>Q .non,rt:=Q } (rho N ds))
    (sc:FnScope N ps (defScope st):=by exact ⟨rfl,rfl,rfl,by decide +kernel,rfl,by decide +kernel,by decide +kernel⟩)
    (len:∀ ds E Q,S ds E Q→ds.length=ps.length:=by first | exact fnS.len fun _=>rfl | exact xS.len fun _=>rfl | exact rlS.len fun _=>rfl)
    (hb:∀ (kV doc pm:Value) (an:Option Addr) (cdv ct:Value) (us:List Value),us.length=ps.length→bindArgs (PySem.W.fnOf x x (defArgs st) (defBody st) (defScope st) .none kV doc pm an cdv ct) ⟨us,[]⟩=pure (ps.zip us):=by
      intro _ _ _ _ _ _ us hl
      first | (match us,hl with | [_],_=>rfl) | (match us,hl with | [_,_],_=>rfl) | (match us,hl with | [_,_,_],_=>rfl) | (match us,hl with | [_,_,_,_],_=>rfl))
    (mono:ZgZ S:=by first | exact fnS.mono | exact rlS.mono | exact xS.mono):Fp P w K mg base (k+1) x ps S:=by
  obtain ⟨f,fd,F,m,q⟩:=h
  exact Fp.of (fnpx (z:=z) F sc len (fun cdv A outer s H E hr hx hw=>hbody sc.nd f cdv A outer s H E hr hx hw) rd) mono m F.kp (F.binds hb)
theorem mkpU (h:FnAt K mg x st)
    (hbody:∀ (sc:N.Nodup) (f:Addr) (cdv:Value) (A:Around) (outer:List Env) (s:Shared) (H:Hp),RoomU k (A.deeper (envOfC x (defScope st) s.heap.objs.size f cdv))→
      PZs (cxU P w K mg base N x (defScope st) f cdv A outer s H) E0 (defBody st) z)
    (rd:∀ ds E Q,S ds E Q→z No { nx:=fun _=>Q .non,rt:=Q } (rho N ds))
    (sc:FnScope N ps (defScope st):=by exact ⟨rfl,rfl,rfl,by decide +kernel,rfl,by decide +kernel,by decide +kernel⟩)
    (len:∀ ds E Q,S ds E Q→ds.length=ps.length:=by first | exact fnS.len fun _=>rfl | exact xS.len fun _=>rfl | exact rlS.len fun _=>rfl)
    (hb:∀ (kV doc pm:Value) (an:Option Addr) (cdv ct:Value) (us:List Value),us.length=ps.length→bindArgs (PySem.W.fnOf x x (defArgs st) (defBody st) (defScope st) .none kV doc pm an cdv ct) ⟨us,[]⟩=pure (ps.zip us):=by
      intro _ _ _ _ _ _ us hl
      first | (match us,hl with | [_],_=>rfl) | (match us,hl with | [_,_],_=>rfl) | (match us,hl with | [_,_,_],_=>rfl) | (match us,hl with | [_,_,_,_],_=>rfl))
    (mono:ZgZ S:=by first | exact fnS.mono | exact rlS.mono | exact xS.mono):FpU P w K mg base (k+1) x ps S:=by
  obtain ⟨f,fd,F,m,q⟩:=h
  exact ⟨⟨f,fd,fnpu (z:=z) F sc len (fun cdv A outer s H hr=>hbody sc.nd f cdv A outer s H hr) rd,m,F.kp,F.binds hb⟩,mono⟩
theorem mkl {l:PySem.W.OpenLaw} {fa:Addr} (h:FnAt K mg x st) (hfa:mg x=some (.ref fa))
    (hbody:∀ (base:Heap) (sc:N.Nodup) (f:Addr) (cdv:Value) (A:Around) (outer:List Env) (s:Shared) (H:Hp) (E:XK),Room k (A.deeper (envOfC x (defScope st) s.heap.objs.size f cdv))→
      Passes (CXv l.prog w) (cxOf (CXv l.prog w) l.prog w K mg base N x (defScope st) f cdv A outer s H E) E→Rais (cxOf (CXv l.prog w) l.prog w K mg base N x (defScope st) f cdv A outer s H E) E→
      PZs (cxOf (CXv l.prog w) l.prog w K mg base N x (defScope st) f cdv A outer s H E) E (defBody st) z)
    (rd:∀ ds E Q,S ds E Q→z E { nx:=fun _=>Q .non,rt:=Q } (rho N ds))
    (sc:FnScope N ["_law_script"] (defScope st):=by exact ⟨rfl,rfl,rfl,by decide +kernel,rfl,by decide +kernel,by decide +kernel⟩)
    (len:∀ ds E Q,S ds E Q→ds.length=1:=by exact fnS.len (ps:=["_law_script"]) fun _=>rfl)
    (hb:∀ (kV doc pm:Value) (an:Option Addr) (cdv ct:Value) (s:Shared) (v:Value),BindsTo s (PySem.W.fnOf x x (defArgs st) (defBody st) (defScope st) .none kV doc pm an cdv ct) ⟨[v],[]⟩ [("_law_script",v)]:=by exact fun _ _ _ _ _ _ _ _=>.of_eq rfl) :
    ∃ fd:FuncData,(∀ (s:Shared) (v:Value),BindsTo s fd ⟨[v],[]⟩ [("_law_script",v)])∧∀ base:Heap,K.In base→base.Ns mainGlobals mg→FnOk l.prog w K mg base (CXv l.prog w) (k+1) fa fd ["_law_script"] (spOf K S):=by
  obtain ⟨f,fd,F,m,q⟩:=h
  rw [m] at hfa
  cases hfa
  refine ⟨fd,?_,fun base _ _=>fnpx (z:=z) F sc len (fun cdv A outer s H E hr hx hw=>hbody base sc.nd _ cdv A outer s H E hr hx hw) rd⟩
  obtain ⟨_,_,_,_,_,_,_,_,_,rfl,_⟩:=F.ex
  exact hb _ _ _ _ _ _
end
section
variable {X:Cx} {EX:XK} {pos:Pos} {x:Str} {j k:Nat} {ps:List Str} {S:Zav} {l:List (Str×Zav)}
theorem Zci (h:CC X.K X.mg x) (hg:Gl X x:=by rfl) (hd:(x == ("__debug__" : Str))=false:=by decide):PX X EX (.Name x pos) (wC (.cls x)):=let ⟨_,m,q⟩:=h;px_gcls m q hg hd
theorem Zg {i:Int} (h:CI X.mg x i) (hg:Gl X x:=by rfl) (hd:(x == ("__debug__" : Str))=false:=by decide):PX X EX (.Name x pos) (wC (.int i)):=let ⟨_,m⟩:=h;px_gint m hg hd
theorem px_gtupE {ds:List D} (h:CT X.K X.mg x ds) (hg:Gl X x:=by rfl) (hd:(x == ("__debug__" : Str))=false:=by decide):PX X EX (.Name x pos) (wC (.tup ds)):=let ⟨_,_,m,k,r⟩:=h;px_gtup m k r hg hd
end
section
variable {K:PySem.W.Frag} {n m:Str} {D C f:Addr} {M:List Str}
theorem exD (a:PySem.W.nsIn K mainGlobals n=some (some (.ref D))) (b:PySem.W.mroIn K D (.ref f)=some true):∃ D,PySem.W.nsIn K mainGlobals n=some (some (.ref D))∧PySem.W.mroIn K D (.ref f)=some true:=⟨D,a,b⟩
theorem exX (a:PySem.W.nsIn K mainGlobals n=some (some (.ref D))) (c:ClsX K D) (k:PySem.W.kitOne K (.ref D) (.type "ValueError")=some true) (h:∀ m∈M,∃ C,ZdP K m=some C∧PySem.W.kitOne K (.ref D) (.ref C)=some (n == m)) :
    ∃ D,ZdP K n=some D∧ClsX K D∧PySem.W.kitOne K (.ref D) (.type "ValueError")=some true∧∀ m∈M,∃ C,ZdP K m=some C∧PySem.W.kitOne K (.ref D) (.ref C)=some (n == m):=⟨D,Zd4 a,c,k,h⟩
theorem exC (a:PySem.W.nsIn K mainGlobals m=some (some (.ref C))) (b:PySem.W.kitOne K (.ref D) (.ref C)=some (n == m)):∃ C,ZdP K m=some C∧PySem.W.kitOne K (.ref D) (.ref C)=some (n == m):=⟨C,Zd4 a,b⟩
end
end LP
namespace L2
open PySem PySem.Spec PyProof.Rows
section
variable {X:Cx}
end
end L2
namespace LP
open PySem PySem.Spec PyProof.Rows L2
section
variable {X:Cx}
end
end LP
namespace L2
open PySem PySem.Spec PyProof.Rows
section
variable {X:Cx}
end
end L2
namespace LP
open PySem PySem.Spec PyProof.Rows L2
section
variable {X:Cx}
end
end LP
namespace L2
open PySem PySem.Spec PyProof.Rows
section
variable {X:Cx} {pos:Pos}
end
end L2
namespace LP
open PySem PySem.Spec PyProof.Rows L2
section
variable {X:Cx} {es:List Expr} {pos:Pos}
end
theorem Ext.none {W W':Wd} {H H':Hp} {a:Addr} (x:Ext W H W' H') (h:H' a=none):H a=none:=by
  cases e:H a with
  | none=>rfl
  | some o=>
    by_cases p:W.Pn a
    · obtain ⟨po,_⟩:=x.ok.p a (x.p a p)
      unfold PenOk at po
      rw [h] at po
      simp at po
    · rw [x.h a o e p] at h
      cases h
abbrev LSpec:=List D→(Ex→Prop)→(List D→Prop)→Prop
abbrev WSL:=(Ex→Prop)→(List D→Prop)→Rho→Prop
section
variable {X:Cx} {EX:XK} {e:Expr} {pos:Pos} {st:Stmt} {rest:List Stmt}
end
section
variable {X:Cx} {EX:XK} {pos p:Pos} {e:Expr} {es:List Expr} {t:WA} {x:Str} {k j:Nat} {ps:List Str} {S:LSpec}
end
section
variable {P:Program} {w:World} {K:PySem.W.Frag} {mg:Str→Option Value} {base:Heap} {x:Str} {st:Stmt} {N ps:List Str} {k:Nat} {S:LSpec} {z:WSL}
end
section
variable {X:Cx} {EX:XK} {pos:Pos} {e:Expr} {w:WE}
end
section
variable {X:Cx} {EX:XK} {pos:Pos} {c e:Expr} {es:List Expr} {wc:WE} {t:WA} {j:Nat}
end
section
variable {X:Cx} {EX:XK} {st:Stmt} {pos:Pos}
def zExt (i:Nat) (t:WA):WS:=fun E N ρ=>match ρ[i]? with
  | some (.ow xs)=>t E ρ fun ys=>xs.length+ys.length≤small∧N.nx (ρ.set i (.ow (xs++ys)))
  | _=>False
theorem pz_extend (i:Nat) {e:Expr} {t:WA} {x:Str} {p apos cpos:Pos} (he:PXL X EX e t) (hN:X.N[i]? = some x:=by rfl) (hv:Vis X.env.scope x:=by first | exact Or.inl rfl | exact Or.inr (Or.inl rfl) | exact Or.inr (Or.inr rfl)) (hd:(x == ("__debug__" : Str))=false:=by decide)
    (hcd:(x == ("__classdict__" : Str))=false:=by decide) (hbase:attributeBase (.Name x p) "extend" X.env (eval (.Name x p) X.env)=eval (.Name x p) X.env:=by rfl)
    (hfew:((backTo cpos (starEach [e] X.env)).all (fun x=>!x.1) && (backToKw cpos (keywordEach [] X.env)).all (fun x=>x.1.isSome) && decide ([e].length+([]:List Keyword).length+(if ([]:List Keyword).isEmpty then 0 else 1) < 30))=true:=by rfl)
    (hline:(apos.endLine == cpos.line)=true:=by rfl) (hs:starEach [e] X.env=(false,eval e X.env)::starEach [] X.env:=by rfl) (hplain:(backTo cpos (starEach [] X.env)).any (·.1)=false:=by rfl)
    (hsw:swapsWith (.Call (.Attribute (.Name x p) "extend" apos) [e] [] cpos) none pos.line X.env=pure false:=by rfl):PZ X EX (.Expr (.Call (.Attribute (.Name x p) "extend" apos) [e] [] cpos) pos) (zExt i t):=by
  obtain ⟨te,pe,k⟩:=he.t
  refine ⟨⟨_,ps_expr (pe_bm PySem.F.plainAttrs_list PySem.F.slot_list_extend PySem.F.type_list_extend mt_extend (pe_var hN hv hd hcd) (pa_cons pe pa_nil hs) hbase hfew hline hs hplain) hsw,fun W0 H0 F W σ H ρ E Dn N s fl eo no h=>?_⟩,fun E ρ N N' hl q=>?_⟩
  · unfold zExt at h
    split at h
    · rename_i xs ex
      obtain ⟨a,vs,e1,e2,e3,e4,e5,r⟩:=s.o i xs ex
      refine ⟨_,e1,.inl ⟨rfl,vs,SqL.of e2⟩,?_⟩
      refine k W0 H0 W σ H ρ E _ s eo (he.mono _ _ _ _ (fun ys hys b us W1 H1 x1 f1 f2 f3 f4 r1=>?_) h)
      have e2':=x1.h a _ e2 e4
      refine ⟨a,b,vs,us,rfl,rfl,e2',f1,by rw [r.length,r1.length];exact ZaY hys.1,?_⟩
      exact no.nx W1 σ _ _ ((s.step x1).chg ex e1 ((x1.reps r).append r1)) (fl.ext x1) hys.2
    · exact h.elim
  · unfold zExt at q ⊢
    split at q
    · exact he.mono _ _ _ _ (fun d hd=>⟨hd.1,hl.nx _ hd.2⟩) q
    · exact q.elim
end
end LP
namespace L2
open PySem PySem.Spec PyProof.Rows
section
variable {X:Cx} {a b:Expr} {rest:List Expr} {pos:Pos} {ta tb:TE}
end
end L2
namespace LP
open PySem PySem.Spec PyProof.Rows L2
section
variable {X:Cx} {EX:XK} {a b:Expr} {rest:List Expr} {pos:Pos} {wa wb:WE}
end
end LP
namespace L2
open PySem PySem.Spec PyProof.Rows
section
variable {X:Cx} {pos:Pos}
end
end L2
namespace LP
open PySem PySem.Spec PyProof.Rows L2
section
variable {X:Cx} {EX:XK} {pos:Pos}
end
namespace B.C.K4
end B.C.K4
section
variable {X:Cx} {EX:XK} {pos:Pos} {a b c:Expr}
def aIf (wt:WT) (wa wb:WA):WA:=fun E ρ Q=>wt E ρ fun k=>if k=true then wa E ρ Q else wb E ρ Q
theorem pxl_if {wt:WT} {wa wb:WA} (hc:PXT X EX c wt) (ha:PXL X EX a wa) (hb:PXL X EX b wb):PXL X EX (.IfExp c a b pos) (aIf wt wa wb):=by
  obtain ⟨ta,pa,ka⟩:=ha.t
  obtain ⟨tb,pb,kb⟩:=hb.t
  obtain ⟨tc,pc,kc⟩:=hc.t
  refine ⟨⟨_,pe_ifExp pc pa pb,fun W0 H0 W σ H ρ E Q s eo h=>?_⟩,fun E ρ P P' hp h=>hc.mono _ _ _ _ (fun b hb'=>?_) h⟩
  · refine kc W0 H0 W σ H ρ E _ s eo (hc.mono _ _ _ _ (fun b q W1 H1 x1=>?_) h)
    cases b with
    | true=>
      rw [if_pos rfl] at q ⊢
      exact ka W0 H0 W1 σ H1 ρ E _ (s.step x1) eo (ha.mono _ _ _ _ (fun ds hd p vs W' H' x e g n m r=>hd p vs W' H' (x1.trans x) e g n (x1.none m) r) q)
    | false=>
      rw [if_neg (by decide)] at q ⊢
      exact kb W0 H0 W1 σ H1 ρ E _ (s.step x1) eo (hb.mono _ _ _ _ (fun ds hd p vs W' H' x e g n m r=>hd p vs W' H' (x1.trans x) e g n (x1.none m) r) q)
  · cases b with
    | true=>rw [if_pos rfl] at hb' ⊢;exact ha.mono _ _ _ _ hp hb'
    | false=>rw [if_neg (by decide)] at hb' ⊢;exact hb.mono _ _ _ _ hp hb'
end
namespace B.C.Q0
abbrev Pr:=Rat×List Rat
def pqD (p:Pr):D:=.tup [shq p.1,rowq p.2]
def lqD (ps:List Pr):D:=.lst (ps.map pqD)
structure Pq (b n:Nat) (p:Pr):Prop where
  l:p.2.length=n
  w:Sz b p.1
  r:∀ y∈p.2,Sz b y
def isWg (n:Int):D→Bool
  | .tup [w,r]=>isSh w && (!decide (shI w=0)) && ZeT n r
  | _=>false
def areSq (n:Int):D→Bool
  | .lst xs=>decide (xs.length≤10) && xs.all (isWg n)
  | _=>false
def pqI:D→Pr
  | .tup [w,r]=>(shI w,rQ r)
  | _=>(0,[])
def sqs:D→List Pr
  | .lst xs=>xs.map pqI
  | _=>[]
def gs:List Pr→Nat→Nat→Rat
  | [],_,_=>0
  | p::ps,i,j=>p.1*(p.2.getD i 0*p.2.getD j 0)+gs ps i j
def tT (s:List Int) (n i j:Nat):Int:=ga (gr (tbl s n) i) j
def sqE (s:List Int) (n:Nat) (ps:List Pr):Prop:=∀ i,i < n→∀ j,j < n→gs ps i j=(tT s n i j:Rat)
instance (s:List Int) (n:Nat) (ps:List Pr):Decidable (sqE s n ps):=by unfold sqE;infer_instance
def sqG (s:List Int) (n:Nat) (x:D):Bool:=areSq n x && decide (sqE s n (sqs x))
def sqR (s:List Int) (n:Nat) (x:D):Except Str D:=if s.reverse=s then .ok (.bl (sqG s n x)) else .error "NotEven"
def lefF (R:List (List Rat)):List Pr→List (List Rat)
  | []=>R
  | p::ps=>lefF (List.zipWith (fun row share=>lesF row (p.1*share) p.2) R p.2) ps
def crn (t:List (List Int)) (k:Nat):List (List Int):=(t.take k).map (·.take k)
def Stg (s:List Int) (n m:Nat):Prop:=∀ k,k < m→numF (crn (tbl s n) (k+1))≠0
def Lq (b n c:Nat) (d:D):Prop:=∃ ps,d=lqD ps∧ps.length≤c∧∀ p∈ps,Pq b n p
def Th (d:D):Prop:=fx d [21,3,7,7,7]=true∨fx d [1,21,3,7,7]=true
def Zdi:Zav:=fnS (fun x:(Nat×Nat×Nat)×List Rat×Rat×List Rat=>[rowq x.2.1,shq x.2.2.1,rowq x.2.2.2]) (fun x=>x.1.1+x.1.2.1+x.1.2.2 < 8990∧x.2.1.length≤1000∧(∀ y∈x.2.1,Sz x.1.1 y)∧Sz x.1.2.1 x.2.2.1∧∀ y∈x.2.2.2,Sz x.1.2.2 y) fun x=>rowq (lesF x.2.1 x.2.2.1 x.2.2.2)
def ZcL:Zav:=fnS (fun x:D×Int=>[x.1,.int x.2]) (fun x=>kd x.1=true) fun x=>.bl (isWg x.2 x.1)
def ZeY:Zav:=fnS (fun x:SL×List Pr=>[Zax x.1.1,lqD x.2]) (fun x=>IsSl x.1.1 x.1.2∧x.2.length≤10∧∀ p∈x.2,Pq 115 x.1.2 p) fun x=>.lst ((lefF ((tbl x.1.1 x.1.2).map Zb) x.2).map rowq)
def ZcY:Zav:=xS (fun x:SL×D=>[Zax x.1.1,x.2]) (fun x=>IsSl x.1.1 x.1.2∧kd x.2=true∧szD 115 x.2=true) fun x=>sqR x.1.1 x.1.2 x.2
def Zb1:Zav:=rlS (fun _:Unit=>[.pen]) (fun _=>True) fun _ d=>∃ s n,IsSl s n∧s.reverse=s∧d=Zax s
def Zbp:Zav:=rlS (fun r:List Rat=>[.pen,rowq r]) (fun r=>1≤r.length∧r.length≤5∧∀ y∈r,Sz 114 y) fun _ d=>fx d [7,7,7]=true
def Za2:Zav:=fnS (fun x:SL×D=>[tblD x.1.1 x.1.2,x.2]) (fun x=>IsSl x.1.1 x.1.2∧x.1.1.reverse=x.1.1∧kd x.2=true∧szD 115 x.2=true) fun x=>.bl (sqG x.1.1 x.1.2 x.2)
def Zbc:Zav:=rlS (fun x:SL=>[tblD x.1 x.2]) (fun x=>IsSl x.1 x.2) fun x d=>∃ m:Nat,d = .int m∧m≤x.2∧Stg x.1 x.2 m
def Zbn:Zav:=rlS (fun x:SL×Nat=>[tblD x.1.1 x.1.2,.int x.2]) (fun x=>IsSl x.1.1 x.1.2∧x.1.1.reverse=x.1.1∧x.2≤x.1.2∧Stg x.1.1 x.1.2 x.2) fun x d=>Lq 112 x.1.2 5 d
def Zb3:Zav:=rlS (fun x:SL=>[tblD x.1 x.2]) (fun x=>IsSl x.1 x.2) fun x d=>Lq 112 x.2 15 d
def Zc:Zav:=rlS (fun x:Nat×List Pr=>[lqD x.2]) (fun x=>x.2.length≤9∧∀ p∈x.2,Pq 112 x.1 p) fun x d=>Lq 114 x.1 18 d
def ZaV:Zav:=rlS (fun x:Nat×List Pr=>[.pen,lqD x.2]) (fun x=>1≤x.1∧x.1≤5∧x.2.length≤18∧∀ p∈x.2,Pq 114 x.1 p) fun _ d=>Th d
def ZbX:Zav:=fnS (fun x:SL×D=>[Zax x.1.1,x.2]) (fun x=>IsSl x.1.1 x.1.2∧kd x.2=true∧szD 115 x.2=true) fun x=>ansT (sqR x.1.1 x.1.2 x.2)
def ZaP:Zav:=fnS (fun x:SL×D=>[Zax x.1.1,tblD x.1.1 x.1.2,x.2]) (fun x=>IsSl x.1.1 x.1.2∧x.1.1.reverse=x.1.1∧Th x.2) fun _=>.bl true
def S_law:Zav:=fnS (fun ns:List Int=>[.scr (ns.map .int)]) (fun ns=>ns.length≤63) fun _=>.bl true
section
variable {E:Ex→Prop} {Q:D→Prop} {x y:D} {s:List Int} {n m a b c:Nat} {i:Int} {r t:List Rat} {q0:Rat} {ps:List Pr}
theorem u_row_less (h0:a+b+c < 8990) (h1:r.length≤1000) (h2:∀ y∈r,Sz a y) (h3:Sz b q0) (h4:∀ y∈t,Sz c y) (q:Q (rowq (lesF r q0 t))):Zdi [rowq r,shq q0,rowq t] E Q:=⟨((a,b,c),r,q0,t),rfl,⟨h0,h1,h2,h3,h4⟩,q⟩
theorem u_is_weighed (h:kd x=true) (q:Q (.bl (isWg i x))):ZcL [x,.int i] E Q:=⟨(x,i),rfl,h,q⟩
theorem u_left_by (h:IsSl s n) (h1:ps.length≤10) (h2:∀ p∈ps,Pq 115 n p) (q:Q (.lst ((lefF ((tbl s n).map Zb) ps).map rowq))):ZeY [Zax s,lqD ps] E Q:=⟨((s,n),ps),rfl,⟨h,h1,h2⟩,q⟩
theorem u__law_even_of (q:∀ s n,IsSl s n→s.reverse=s→Q (Zax s)):Zb1 [.pen] E Q:=⟨(),rfl,trivial,fun d ⟨s,n,h,h1,e⟩=>by rw [e];exact q s n h h1⟩
theorem Zgp (h:1≤r.length) (h':r.length≤5) (h2:∀ y∈r,Sz 114 y) (q:∀ d,fx d [7,7,7]=true→Q d):Zbp [.pen,rowq r] E Q:=⟨r,rfl,⟨h,h',h2⟩,q⟩
theorem ZeE (h:IsSl s n) (h0:s.reverse=s) (h1:kd x=true) (h2:szD 115 x=true) (q:Q (.bl (sqG s n x))):Za2 [tblD s n,x] E Q:=⟨((s,n),x),rfl,⟨h,h0,h1,h2⟩,q⟩
theorem ZfL (h:IsSl s n) (q:∀ m:Nat,m≤n→Stg s n m→Q (.int m)):Zbc [tblD s n] E Q:=⟨(s,n),rfl,h,fun d ⟨m,e,h1,h2⟩=>by rw [e];exact q m h1 h2⟩
theorem Zgm (h:IsSl s n) (h0:s.reverse=s) (h1:m≤n) (h2:Stg s n m) (q:∀ ps:List Pr,ps.length≤5→(∀ p∈ps,Pq 112 n p)→Q (lqD ps)):Zbn [tblD s n,.int m] E Q:=⟨((s,n),m),rfl,⟨h,h0,h1,h2⟩,fun d ⟨ps,e,h1,h2⟩=>by rw [e];exact q ps h1 h2⟩
theorem u__law_by_twos (h:IsSl s n) (q:∀ ps:List Pr,ps.length≤15→(∀ p∈ps,Pq 112 n p)→Q (lqD ps)):Zb3 [tblD s n] E Q:=⟨(s,n),rfl,h,fun d ⟨ps,e,h1,h2⟩=>by rw [e];exact q ps h1 h2⟩
theorem Zfy (h1:ps.length≤9) (h2:∀ p∈ps,Pq 112 n p) (q:∀ ps:List Pr,ps.length≤18→(∀ p∈ps,Pq 114 n p)→Q (lqD ps)):Zc [lqD ps] E Q:=⟨(n,ps),rfl,⟨h1,h2⟩,fun d ⟨ps,e,h1,h2⟩=>by rw [e];exact q ps h1 h2⟩
theorem Zeq (h1:1≤n) (h2:n≤5) (h3:ps.length≤18) (h4:∀ p∈ps,Pq 114 n p) (q:∀ d,Th d→Q d):ZaV [.pen,lqD ps] E Q:=⟨(n,ps),rfl,⟨h1,h2,h3,h4⟩,q⟩
theorem Zep (h:IsSl s n) (h1:kd x=true) (h2:szD 115 x=true) (q:Q (ansT (sqR s n x))):ZbX [Zax s,x] E Q:=⟨((s,n),x),rfl,⟨h,h1,h2⟩,q⟩
theorem Zcx (h:IsSl s n) (h0:s.reverse=s) (h1:Th x) (q:Q (.bl true)):ZaP [Zax s,tblD s n,x] E Q:=⟨((s,n),x),rfl,⟨h,h0,h1⟩,q⟩
end
end B.C.Q0
namespace B.C.Q0
abbrev N_row_less:List Str:=["one", "share", "other"]
abbrev ps_row_less:List Str:=["one", "share", "other"]
def Zd0:WS:=(zRet (wB ZcD (Zab (wL (aLC (iZ (Zab (wN 0) (Zab (wN 2) aNil))) 2 [1] (gTp 2 (Zat (gN 0) (Zat (gN 1) Za9))) ZaF (wF S_minus (Zab (wN 0) (Zab (wF Zfv (Zab (wN 2) (Zab (wN 1) aNil))) aNil))))) aNil)))
abbrev ZfF:List Str:=["thing", "many"]
abbrev ps_is_weighed:List Str:=["thing", "many"]
def ZdC:WS:=(zSeq (zIf (wOr (wNot (wT (wB gIs (Zab (wN 0) (Zab (wC (.ty "tuple")) aNil))))) (wT (w2 (gEq true) (wB gLen (Zab (wN 0) aNil)) (wC (D.int (2)))))) (zRet (wC (D.bl false))) zNx) (zRet (Zbh (wF Zcn (Zab (w2 gIx (wN 0) (wC (D.int (0)))) aNil)) (Zbh (w2 (gEq true) (w2 gIx (wN 0) (wC (D.int (0)))) (wC (D.tup [(D.int (0)),(D.int (1))]))) (wF ZeZ (Zab (w2 gIx (wN 0) (wC (D.int (1)))) (Zab (wN 1) aNil)))))))
abbrev N_left_by:List Str:=["slants", "squares", "rows", "weight", "square"]
abbrev ps_left_by:List Str:=["slants", "squares"]
def Zgg:WS:=(zSeq (zSet 2 (wF Zb8 (Zab (wN 0) aNil))) (zPub 2 (zSeq (zNox (zFor (iS (wN 1)) (gTp 2 (Zat (gN 3) (Zat (gN 4) Za9))) (zPub 2 (zOwn 2 (aLC (iZ (Zab (wN 2) (Zab (wN 4) aNil))) 2 [3,4] (gTp 2 (Zat (gN 0) (Zat (gN 1) Za9))) ZaF (wF Zdi (Zab (wN 0) (Zab (wF Zfv (Zab (wN 2) (Zab (wN 1) aNil))) (Zab (wN 3) aNil))))))))) (zPub 2 (zRet (wN 2))))))
abbrev Zee:List Str:=["slants", "thing", "size"]
abbrev ZgA:List Str:=["slants", "thing"]
def ZcO:WS:=(zSeq (Zdm (wF ZeC (Zab (wN 0) aNil))) (zSeq (zSet 2 (wF ZcF (Zab (wN 0) aNil))) (zSeq (zIf (wOr (wNot (wT (wB gIs (Zab (wN 1) (Zab (wC (.ty "list")) aNil))))) (wT (w2 gGtI (wB gLen (Zab (wN 1) aNil)) (wC (.int (10)))))) (zRet (wC (D.bl false))) zNx) (zSeq (zIf (wNot (wT (wB gAll (Zab (wL (aLC (iS (wN 1)) 1 [2] (gN 0) ZaF (wF ZcL (Zab (wN 0) (Zab (wN 1) aNil))))) aNil)))) (zRet (wC (D.bl false))) zNx) (zRet (w2 (gEq false) (wF ZeY (Zab (wN 0) (Zab (wN 1) aNil))) (w2 gMul (wL (aLst (Zab (w2 ZcX (wTup (Zab (wC (D.tup [(D.int (0)),(D.int (1))])) aNil)) (wN 2)) aNil))) (wN 2))))))))
abbrev Zeh:List Str:=["_law_pen", "_law_found", "_law_size"]
abbrev ZgD:List Str:=["_law_pen"]
def ZcR:WS:=(zSeq (zSet 1 (wF ZaX (Zab (wN 0) aNil))) (zSeq (zSet 2 (w2 gFdv (w2 gAdd (wB gLen (Zab (wN 1) aNil)) (wC (D.int (1)))) (wC (D.int (2))))) (zSeq (zIf (wT (w2 (gEq false) (wF Zar (Zab (wN 0) (Zab (wC (D.int (4))) aNil))) (wC (D.int (0))))) (zSet 1 (w2 gAdd (wCut (wN 1) Za8 (ZaZ (w2 ZcW (wN 2) (wC (D.int (1)))))) (wTup (Zab (wC (D.int (50))) aNil)))) zNx) (zRet (w2 gAdd (wCut (wN 1) Za8 (ZaZ (wN 2))) (w1 gRev (wCut (wN 1) Za8 (ZaZ (w2 ZcW (wN 2) (wC (D.int (1))))))))))))
abbrev ZdZ:List Str:=["_law_pen", "_law_row", "_law_spot", "_law_odd", "_law_turned", "_law_some"]
abbrev Zf1:List Str:=["_law_pen", "_law_row"]
def Zcv:WS:=(zSeq (zSet 2 (wF Zar (Zab (wN 0) (Zab (w2 gAdd (wB gLen (Zab (wN 1) aNil)) (wC (D.int (1)))) aNil)))) (zSeq (zSet 3 (wL (aLst (Zab (wTup (Zab (wC (D.int (1))) (Zab (wC (D.int (0))) aNil))) (Zab (wTup (Zab (wC (D.int (2))) (Zab (wC (D.int (2))) aNil))) (Zab (wTup (Zab (wC (D.int (1))) (Zab (w1 gNeg (wC (D.int (1)))) aNil))) (Zab (wTup (Zab (wC (D.bl true)) (Zab (wC (D.int (1))) aNil))) (Zab (wTup (Zab (wC (D.int (0))) (Zab (wC (D.int (2))) aNil))) (Zab (wC (D.int (0))) (Zab (wC D.non) (Zab (wC (D.str (PySem.Str.ofString "1"))) (Zab (wL (aLst (Zab (wC (D.int (1))) (Zab (wC (D.int (1))) aNil)))) (Zab (wTup (Zab (wC (D.int (1))) aNil)) (Zab (wTup (Zab (wC (D.int (1))) (Zab (wC (D.int (1))) (Zab (wC (D.int (1))) aNil)))) (Zab (wTup (Zab (wC (D.int (1))) (Zab (wC (D.bl true)) aNil))) (Zab (wTup (Zab (w2 gPowI (wC (D.int (10))) (wC (D.int (25)))) (Zab (wC (D.int (1))) aNil))) aNil)))))))))))))))) (zSeq (zSet 3 (w2 gIx (w2 gAdd (wN 3) (wL (aLst (Zab (wTup (Zab (wC (D.int (3))) (Zab (w2 gPowI (wC (D.int (10))) (wC (D.int (25)))) aNil))) (Zab (wTup (Zab (wC (D.int (0))) (Zab (wC (D.int (1))) aNil))) (Zab (wTup (Zab (wC (D.str (PySem.Str.ofString "1"))) (Zab (wC (D.int (1))) aNil))) (Zab (wC .dic) aNil))))))) (wF Zar (Zab (wN 0) (Zab (wC (D.int (17))) aNil))))) (zSeq (zSet 4 (w2 gAdd (w2 gAdd (wCut (wN 1) Za8 (ZaZ (wN 2))) (wTup (Zab (wN 3) aNil))) (wCut (wN 1) (ZaZ (w2 gAdd (wN 2) (wC (D.int (1))))) Za8))) (zSeq (zSet 5 (wL (aLst (Zab (wN 4) (Zab (wN 4) (Zab (wN 4) (Zab (wCut (wN 1) (ZaZ (wC (D.int (1)))) Za8) (Zab (w2 gAdd (wN 1) (wTup (Zab (wTup (Zab (wC (D.int (0))) (Zab (wC (D.int (1))) aNil))) aNil))) (Zab (wL (aB (gSeq (α:=Unit)) (Zab (wN 1) aNil))) (Zab (wTup (Zab (wN 1) aNil)) (Zab (w1 gRev (wN 1)) (Zab (wC D.non) (Zab (wTup aNil) (Zab (wC (D.int (0))) (Zab (wC .dic) aNil))))))))))))))) (zRet (w2 gIx (wN 5) (wF Zar (Zab (wN 0) (Zab (wC (D.int (12))) aNil))))))))))
abbrev ZcN:List Str:=["_law_table", "_law_thing", "_law_one", "_law_i", "_law_j", "_law_parts"]
abbrev Zev:List Str:=["_law_table", "_law_thing"]
def Zbg:WS:=(zSeq (zIf (wOr (wNot (wT (wB gIs (Zab (wN 1) (Zab (wC (.ty "list")) aNil))))) (wT (w2 gGtI (wB gLen (Zab (wN 1) aNil)) (wC (D.int (10)))))) (zRet (wC (D.bl false))) zNx) (zSeq (zNox (zFor (iS (wN 1)) (gN 2) (zSeq (zIf (wOr (wNot (wT (wB gIs (Zab (wN 2) (Zab (wC (.ty "tuple")) aNil))))) (wOr (wT (w2 (gEq true) (wB gLen (Zab (wN 2) aNil)) (wC (D.int (2))))) (wOr (wNot (wT (wF ZaH (Zab (w2 gIx (wN 2) (wC (D.int (0)))) aNil)))) (wT (w2 (gEq false) (w2 gIx (wN 2) (wC (D.int (0)))) (wTup (Zab (wC (D.int (0))) (Zab (wC (D.int (1))) aNil)))))))) (zRet (wC (D.bl false))) zNx) (zIf (wNot (wT (wF Zbo (Zab (w2 gIx (wN 2) (wC (D.int (1)))) (Zab (wB gLen (Zab (wN 0) aNil)) aNil))))) (zRet (wC (D.bl false))) zNx)))) (zPub 5 (zSeq (zNox (zFor (iR1 (Zab (wB gLen (Zab (wN 0) aNil)) aNil)) (gN 3) (zPub 5 (zNox (zFor (iR1 (Zab (w2 gAdd (wN 3) (wC (D.int (1)))) aNil)) (gN 4) (zSeq (zOwn 5 (aLC (iS (wN 1)) 2 [3,4] (gTp 2 (Zat (gN 0) (Zat (gN 1) Za9))) ZaF (wF Zbf (Zab (wL (aLst (Zab (w2 gIx (wN 1) (wN 2)) aNil))) (Zab (wL (aLst (Zab (w2 gIx (wN 1) (wN 3)) aNil))) aNil))))) (zPub 5 (zIf (wT (w2 (gEq true) (wF Zbf (Zab (wL (aLC (iS (wN 1)) 2 [] (gTp 2 (Zat (gN 0) (Zat (gN 1) Za9))) ZaF (wN 0))) (Zab (wN 5) aNil))) (wTup (Zab (w2 gIx (w2 gIx (wN 0) (wN 3)) (wN 4)) (Zab (wC (D.int (1))) aNil))))) (zRet (wC (D.bl false))) zNx)))))))) (zRet (wC (D.bl true)))))))
abbrev ZdW:List Str:=["_law_table", "_law_most", "_law_size", "_law_found", "_law_left", "_law_at", "_law_weight", "_law_row", "_law_i", "_law_taken_here"]
abbrev ZfY:List Str:=["_law_table", "_law_most"]
def Zcs:WS:=(zSeq (zSet 2 (wB gLen (Zab (wN 0) aNil))) (zSeq (zOwn 3 (aLst aNil)) (zSeq (zOwn 4 (aLC (iS (wN 0)) 1 [] (gN 0) ZaF (wL (aLC (iS (wN 0)) 1 [] (gN 0) ZaF (wTup (Zab (wN 0) (Zab (wC (D.int (1))) aNil))))))) (zSeq (zNox (zFor (iR1 (Zab (wN 1) aNil)) (gN 5) (zSeq (zSet 6 (wBor 4 (w2 gIx (w2 gIx (wN 4) (wN 5)) (wN 5)))) (zSeq (zSet 7 (wBor 4 (wB ZcD (Zab (wL (aLC (iS (w2 gIx (wN 4) (wN 5))) 1 [6] (gN 0) ZaF (wF ZaQ (Zab (w2 gMul (w2 gIx (wN 0) (wC (D.int (0)))) (w2 gIx (wN 1) (wC (D.int (1))))) (Zab (w2 gMul (w2 gIx (wN 0) (wC (D.int (1)))) (w2 gIx (wN 1) (wC (D.int (0))))) aNil))))) aNil)))) (zSeq (zApp 3 (wTup (Zab (wN 6) (Zab (wN 7) aNil)))) (zNox (zFor (iR1 (Zab (wN 2) aNil)) (gN 8) (zSeq (zSet 9 (wF Zbf (Zab (wL (aLst (Zab (wN 6) aNil))) (Zab (wL (aLst (Zab (w2 gIx (wN 7) (wN 8)) aNil))) aNil)))) (Zb5 4 (wN 8) (wL (aBor 4 (aLC (iR1 (Zab (wN 2) aNil)) 1 [4,7,8,9] (gN 0) ZaF (wF Zbf (Zab (wL (aLst (Zab (w2 gIx (w2 gIx (wN 1) (wN 3)) (wN 0)) (Zab (wTup (Zab (w2 ZcW (wC (D.int (0))) (w2 gIx (wN 4) (wC (D.int (0))))) (Zab (w2 gIx (wN 4) (wC (D.int (1)))) aNil))) aNil)))) (Zab (wL (aLst (Zab (wTup (Zab (wC (D.int (1))) (Zab (wC (D.int (1))) aNil))) (Zab (w2 gIx (wN 2) (wN 0)) aNil)))) aNil))))))))))))))) (zPub 3 (zRet (wN 3)))))))
abbrev Zdx:List Str:=["_law_table", "_law_many"]
abbrev Zfd:List Str:=["_law_table"]
def Zcb:WS:=(zSeq (zSet 1 (wC (D.int (0)))) (zSeq (zNox (zWhile (wAnd (wT (w2 gLtI (wN 1) (wB gLen (Zab (wN 0) aNil)))) (wT (w2 (gEq true) (wF Zcf (Zab (wL (aLC (iS (wCut (wN 0) Za8 (ZaZ (w2 gAdd (wN 1) (wC (D.int (1))))))) 1 [1] (gN 0) ZaF (wCut (wN 0) Za8 (ZaZ (w2 gAdd (wN 1) (wC (D.int (1)))))))) aNil)) (wC (D.int (0)))))) (zSet 1 (w2 gAdd (wN 1) (wC (D.int (1))))))) (zRet (wN 1))))
abbrev ZcH:List Str:=["_law_pen", "_law_some", "_law_spot", "_law_weight", "_law_row", "_law_odd", "_law_other", "_law_turned", "_law_wrong"]
abbrev Zd7:List Str:=["_law_pen", "_law_some"]
def Zbd:WS:=(zSeq (zIf (wT (w2 (gEq false) (wN 1) (wL (aLst aNil)))) (zRet (w2 gIx (wL (aLst (Zab (wL (aLst (Zab (wTup (Zab (wTup (Zab (wC (D.int (1))) (Zab (wC (D.int (1))) aNil))) (Zab (wTup (Zab (wTup (Zab (wC (D.int (1))) (Zab (wC (D.int (1))) aNil))) aNil)) aNil))) aNil))) (Zab (wL (aLst (Zab (wTup aNil) aNil))) (Zab (wTup aNil) (Zab (wC D.non) (Zab (wC .dic) (Zab (wL (aLst (Zab (wC D.non) aNil))) aNil)))))))) (wF Zar (Zab (wN 0) (Zab (wC (D.int (6))) aNil))))) zNx) (zSeq (zSet 2 (wF Zar (Zab (wN 0) (Zab (wB gLen (Zab (wN 1) aNil)) aNil)))) (zSeq (zAsg (w2 gIx (wN 1) (wN 2)) (gTp 2 (Zat (gN 3) (Zat (gN 4) Za9)))) (zSeq (zOwn 5 (aLst (Zab (wTup (Zab (wC (D.int (0))) (Zab (wC (D.int (1))) aNil))) (Zab (wTup (Zab (w2 gIx (wN 3) (wC (D.int (0)))) (Zab (w2 ZcW (wC (D.int (0))) (w2 gIx (wN 3) (wC (D.int (1))))) aNil))) (Zab (wTup (Zab (w2 gAdd (w2 gIx (wN 3) (wC (D.int (0)))) (w2 gIx (wN 3) (wC (D.int (1))))) (Zab (w2 gIx (wN 3) (wC (D.int (1)))) aNil))) (Zab (wC (D.int (1))) (Zab (wC D.non) (Zab (wTup (Zab (wC (D.int (2))) (Zab (wC (D.int (2))) aNil))) aNil)))))))) (zSeq (zApp 5 (wTup (Zab (w2 ZcW (wC (D.int (0))) (w2 gIx (wN 3) (wC (D.int (0))))) (Zab (w2 gIx (wN 3) (wC (D.int (1)))) aNil)))) (zPub 5 (zSeq (zSet 6 (wL (aLst (Zab (wTup (Zab (w2 gIx (wN 5) (wF Zar (Zab (wN 0) (Zab (wC (D.int (7))) aNil)))) (Zab (wN 4) aNil))) (Zab (wTup (Zab (wN 3) (Zab (wF Zbp (Zab (wN 0) (Zab (wN 4) aNil))) aNil))) (Zab (wTup (Zab (wN 3) (Zab (wN 4) (Zab (wC (D.int (0))) aNil)))) (Zab (wL (aLst (Zab (wN 3) (Zab (wN 4) aNil)))) aNil))))))) (zPub 5 (zSeq (zSet 6 (w2 gAdd (wN 6) (wL (aLst (Zab (wTup (Zab (wN 4) (Zab (wN 3) aNil))) (Zab (wC D.non) (Zab (wTup (Zab (wN 3) aNil)) aNil))))))) (zSeq (zSet 7 (w2 gAdd (w2 gAdd (wCut (wN 1) Za8 (ZaZ (wN 2))) (wL (aLst (Zab (w2 gIx (wN 6) (wF Zar (Zab (wN 0) (Zab (wC (D.int (7))) aNil)))) aNil)))) (wCut (wN 1) (ZaZ (w2 gAdd (wN 2) (wC (D.int (1))))) Za8))) (zSeq (zSet 8 (wL (aLst (Zab (wN 7) (Zab (wN 7) (Zab (wN 7) (Zab (wN 7) (Zab (wCut (wN 1) (ZaZ (wC (D.int (1)))) Za8) (Zab (w2 gAdd (wN 1) (wCut (wN 1) Za8 (ZaZ (wC (D.int (1)))))) (Zab (wB ZcD (Zab (wN 1) aNil)) (Zab (wL (aLst (Zab (wN 1) aNil))) (Zab (wC D.non) (Zab (wC .dic) (Zab (w1 gRev (wN 1)) aNil)))))))))))))) (zRet (w2 gIx (w2 gAdd (wN 8) (wL (aLst (Zab (w2 gAdd (wN 1) (wL (aLst (Zab (wTup (Zab (wTup (Zab (wC (D.int (1))) (Zab (wC (D.int (1))) aNil))) (Zab (wN 4) aNil))) (Zab (wTup (Zab (wTup (Zab (w1 gNeg (wC (D.int (1)))) (Zab (wC (D.int (1))) aNil))) (Zab (wN 4) aNil))) aNil))))) (Zab (w2 gAdd (wN 1) (wL (aLst (Zab (wTup (Zab (wTup (Zab (wC (D.int (0))) (Zab (wC (D.int (1))) aNil))) (Zab (wN 4) aNil))) aNil)))) aNil))))) (wF Zar (Zab (wN 0) (Zab (wC (D.int (13))) aNil))))))))))))))))
abbrev Zg2:List Str:=["_law_slants", "_law_thing", "_law_e"]
abbrev ps__law_told:List Str:=["_law_slants", "_law_thing"]
def Zem:WS:=(zTry LX 3 2 (zRet (wF ZcY (Zab (wN 0) (Zab (wN 1) aNil)))) (zRet (wF ZbZ (Zab (wN 2) aNil))))
abbrev Zej:List Str:=["_law_table", "_law_size", "_law_found", "_law_left", "_law_i", "_law_j", "_law_row"]
abbrev ZgF:List Str:=["_law_table"]
def ZcT:WS:=(zSeq (zSet 1 (wB gLen (Zab (wN 0) aNil))) (zSeq (zOwn 2 (aLst aNil)) (zSeq (zOwn 3 (aLC (iR1 (Zab (wN 1) aNil)) 1 [0] (gN 0) ZaF (w2 gIx (w2 gIx (wN 1) (wN 0)) (wN 0)))) (zSeq (zNox (zFor (iR1 (Zab (wN 1) aNil)) (gN 4) (zNox (zFor (iR1 (Zab (wN 4) aNil)) (gN 5) (zIf (wT (w2 (gEq true) (w2 gIx (w2 gIx (wN 0) (wN 4)) (wN 5)) (wC (D.int (0))))) (zSeq (zSet 6 (wB ZcD (Zab (wL (aLC (iR1 (Zab (wN 1) aNil)) 1 [4,5] (gN 0) ZaF (wTup (Zab (wB gInt (Zab (w2 (gIn false) (wN 0) (wTup (Zab (wN 1) (Zab (wN 2) aNil)))) aNil)) (Zab (wC (D.int (1))) aNil))))) aNil))) (zSeq (zApp 2 (wTup (Zab (wTup (Zab (w2 gIx (w2 gIx (wN 0) (wN 4)) (wN 5)) (Zab (wC (D.int (1))) aNil))) (Zab (wN 6) aNil)))) (zSeq (Zb5 3 (wN 4) (wBor 3 (w2 ZcW (w2 gIx (wN 3) (wN 4)) (w2 gIx (w2 gIx (wN 0) (wN 4)) (wN 5))))) (Zb5 3 (wN 5) (wBor 3 (w2 ZcW (w2 gIx (wN 3) (wN 5)) (w2 gIx (w2 gIx (wN 0) (wN 4)) (wN 5)))))))) zNx))))) (zSeq (zNox (zFor (iR1 (Zab (wN 1) aNil)) (gN 4) (zIf (tBor 3 (wT (w2 (gEq true) (w2 gIx (wN 3) (wN 4)) (wC (D.int (0)))))) (zApp 2 (wBor 3 (wTup (Zab (wTup (Zab (w2 gIx (wN 3) (wN 4)) (Zab (wC (D.int (1))) aNil))) (Zab (wB ZcD (Zab (wL (aLC (iR1 (Zab (wN 1) aNil)) 1 [4] (gN 0) ZaF (wTup (Zab (wB gInt (Zab (w2 (gEq false) (wN 0) (wN 1)) aNil)) (Zab (wC (D.int (1))) aNil))))) aNil)) aNil))))) zNx))) (zPub 2 (zRet (wN 2))))))))
abbrev ZfJ:List Str:=["_law_some", "_law_found", "_law_at", "_law_pair", "_law_weight", "_law_row", "_law_half"]
abbrev ps__law_split:List Str:=["_law_some"]
def ZdE:WS:=(zSeq (zOwn 1 (aLst aNil)) (zSeq (zNox (zFor (iE (Zab (wN 0) aNil)) (gTp 2 (Zat (gN 2) (Zat (gN 3) Za9))) (zSeq (zAsg (wN 3) (gTp 2 (Zat (gN 4) (Zat (gN 5) Za9)))) (zSeq (zSet 6 (wF ZaQ (Zab (w2 gIx (wN 4) (wC (D.int (0)))) (Zab (w2 gMul (wC (D.int (2))) (w2 gIx (wN 4) (wC (D.int (1))))) aNil)))) (zExt 1 (aIf (wT (w2 gLtI (w2 gAdd (wB gLen (Zab (wN 0) aNil)) (wN 2)) (wC (D.int (10))))) (aLst (Zab (wTup (Zab (wN 6) (Zab (wN 5) aNil))) (Zab (wTup (Zab (wN 6) (Zab (wN 5) aNil))) aNil))) (aLst (Zab (wN 3) aNil)))))))) (zPub 1 (zRet (wN 1)))))
abbrev ZdY:List Str:=["_law_slants", "_law_table", "_law_thing", "_law_kept", "_law_found"]
abbrev Zf0:List Str:=["_law_slants", "_law_table", "_law_thing"]
def Zcu:WS:=(zSeq (zSet 3 (wB gRepA (Zab (wN 2) aNil))) (zSeq (zSet 4 (wF ZbX (Zab (wN 0) (Zab (wN 2) aNil)))) (zRet (Zbh (wB gIs (Zab (wN 4) (Zab (wC (.ty "bool")) aNil))) (Zbh (w2 (gEq false) (wN 4) (wF Za2 (Zab (wN 1) (Zab (wN 2) aNil)))) (w2 gEqS (wB gRepA (Zab (wN 2) aNil)) (wN 3)))))))
abbrev N_law:List Str:=["_law_script", "_law_cell", "_law_pen", "_law_slants", "_law_table", "_law_many", "_law_steps", "_law_twos", "_law_some", "_law_thing", "_law_other"]
def z_law:WS:=(zSeq (zIf (wT (w2 (gEq true) (wF ZbX (Zab (wTup (Zab (wC (D.int (1))) (Zab (wC (D.int (2))) (Zab (wC (D.int (3))) aNil)))) (Zab (wC D.non) aNil))) (wTup (Zab (wC (D.str (PySem.Str.ofString "even"))) aNil)))) (zRet (wC (D.bl false))) zNx) (zSeq (zIf (wOr (wNot (wT (wF ZaP (Zab (wTup (Zab (wC (D.int (0))) aNil)) (Zab (wL (aLst (Zab (wL (aLst (Zab (wC (D.int (0))) aNil))) aNil))) (Zab (wL (aLst aNil)) aNil)))))) (wNot (wT (wF ZaP (Zab (wTup (Zab (wC (D.int (0))) aNil)) (Zab (wL (aLst (Zab (wL (aLst (Zab (wC (D.int (0))) aNil))) aNil))) (Zab (wC D.non) aNil))))))) (zRet (wC (D.bl false))) zNx) (zSeq (zNox (zFor (iS (w2 gAdd (wL (aLst (Zab (wF Zb2 (Zab (wN 0) (Zab (wC (D.int (0))) aNil))) aNil))) (wCut (wN 0) (ZaZ (wC (D.int (1)))) (ZaZ (wC (D.int (5))))))) (gN 1) (zSeq (zSet 2 (wF Zcl (Zab (wN 1) aNil))) (zSeq (zSet 3 (wF Zb1 (Zab (wN 2) aNil))) (zSeq (zSet 4 (wF Zbm (Zab (wN 3) aNil))) (zSeq (zSet 5 (wF Zbc (Zab (wN 4) aNil))) (zSeq (zSet 6 (wF Zbn (Zab (wN 4) (Zab (wN 5) aNil)))) (zSeq (zSet 7 (wF Zb3 (Zab (wN 4) aNil))) (zSeq (zSet 8 (wL (aLst (Zab (wN 6) (Zab (wN 7) (Zab (wF Zc (Zab (wN 6) aNil)) (Zab (wF Zc (Zab (wCut (wN 7) Za8 (ZaZ (wC (D.int (9))))) aNil)) (Zab (wL (aLst aNil)) aNil)))))))) (zSeq (zNox (zFor (iS (w2 gAdd (wN 8) (wL (aLC (iS (wTup (Zab (wC (D.int (0))) (Zab (wC (D.int (1))) (Zab (wC (D.int (2))) (Zab (wC (D.int (0))) (Zab (wC (D.int (1))) aNil))))))) 1 [2,8] (gN 0) ZaF (wF ZaV (Zab (wN 1) (Zab (w2 gIx (wN 2) (wN 0)) aNil))))))) (gN 9) (zIf (wNot (wT (wF ZaP (Zab (wN 3) (Zab (wN 4) (Zab (wN 9) aNil)))))) (zRet (wC (D.bl false))) zNx))) (zSeq (zSet 10 (wF ZaX (Zab (wN 2) aNil))) (zIf (wAnd (wT (w2 (gEq true) (wN 10) (w1 gRev (wN 10)))) (wT (w2 (gEq true) (wF ZbX (Zab (wN 10) (Zab (wN 7) aNil))) (wTup (Zab (wC (D.str (PySem.Str.ofString "even"))) aNil))))) (zRet (wC (D.bl false))) zNx)))))))))))) (zRet (wC (D.bl true))))))
end B.C.Q0
local macro_rules | `(tactic| walk_at "w1")=>`(tactic| simp only [zRet,zIf,zSet,zNx,Zdm,zPub,zOwn,zFor,Za3,zPar,zAsg,zApp,Zb5,zInk,Zcw,zNox,Zbr,zTry,wM,ZcX,Zbh,wOrV,ZdA,wAnd,wOr,wNot,wT,wIf,w1,w2,wB,wF,wL,wTup,wCut,Za0,aB,aLst,Zab,aNil,aLC,Zbq,ZaF,iS,iE,iL,iT,iR1,iR2,iZ,Za8,ZaZ,wN,wC,gN,gTp,Zat,Za9,gIxP,ZaA,wPen,wBor,tBor,aBor,wIxO,aAdd,aMul,aCut,rho,pub,List.map_cons,List.map_nil,List.length_cons,List.length_nil,List.cons_append,List.nil_append,List.replicate,List.getElem?_cons_zero,List.getElem?_cons_succ,List.set_cons_zero,List.set_cons_succ,Nat.reduceSub,Nat.reduceAdd,List.replicate_succ,List.replicate_zero,true_and,Bool.false_eq_true,if_true,if_false,ite_true,ite_false,Int.toNat_natCast,Bool.not_true,Bool.not_false,
  Zfr,Zfq,Zfp,Zdg,Zdf,Zfo,Zdb,Zd,Zda,Zdd,Zdc,Zde,ZbE,ZbH,ZbF,ZbG,ZbJ,ZbI,ZbK,Zc3,Zc6,Zc4,Zc5,Zc8,Zc7,Zc9,ZbN,Zbj,ZbO,ZbP,ZbR,ZbQ,ZbS,Zbx,Zbz,Zby,ZbB,ZbA,Zbu,Zbv,Zbw,ZaM,ZaN,ZaO,ZbV,ZbU,ZbT,ZbD,ZbC,e_I2,Zft,Zfn,ZbM,ZbL,Zfs,e_i1,e_i2])
local macro_rules | `(tactic| walk_at "st")=>`(tactic| ((try dsimp only at *);(try walk_at "w1");(try dsimp only)))
local macro_rules | `(tactic| walk_at "nx")=>`(tactic| ((try dsimp only);(refine Zah ?_);walk_at "st"))
namespace B.C.Q0
theorem deq_nt (q:Rat):deq (shq q) (.tup [.int 0,.int 1])=decide (q=0):=by
  rw [← shq_zero,deq_shq]
theorem rd_row_less:∀ ds E Q,Zdi ds E Q→Zd0 E { nx:=fun _=>Q .non,rt:=Q } (rho N_row_less ds):=by
  rintro _ E Q ⟨⟨⟨a,b,c⟩,r,q0,t⟩,rfl,⟨h1,h2,h3,h4,h5⟩,q⟩
  dsimp only at h1 h2 h3 h4 h5 q
  show Zd0 E _ [.d (rowq r),.d (shq q0),.d (rowq t)]
  unfold Zd0 rowq
  walk_at "st"
  refine lc_zipL (f:=fun x y=>shq (x - q0*y)) r t (fun x hx y hy Q hq=>?_) .un .un [] (by simp [small];omega) ?_
  · walk_at "st"
    exact u_times (B2.of h4 (h5 y hy) (by omega)) (u_minus (B2.of (h3 x hx) (h4.mul (h5 y hy)) (by omega)) hq)
  · walk_at "st"
    unfold rowq lesF at q
    rw [List.map_zipWith] at q
    exact q
theorem rd_is_weighed:∀ ds E Q,ZcL ds E Q→ZdC E { nx:=fun _=>Q .non,rt:=Q } (rho ZfF ds):=by
  rintro _ E Q ⟨⟨x,n⟩,rfl,hk,q⟩
  dsimp only at hk q
  unfold ZdC
  walk_at "nx"
  refine Zdt hk (by decide) fun t ht=>?_
  cases x<;>cases ht<;>try exact q
  rename_i xs
  obtain ⟨hl,hx⟩:=ZfD hk
  walk_at "st"
  simp only [show isTy "tuple" "tuple" = true from rfl,Bool.not_true,Bool.false_eq_true,if_false]
  match xs,hl,hx,q with
  | [],_,_,q=>walk_at "st";exact q
  | [a],_,_,q=>walk_at "st";exact q
  | a::b::c::r,_,_,q=>
    walk_at "st"
    rw [if_pos (by simp;omega)]
    exact q
  | [a,b],_,hx,q=>
    walk_at "st"
    rw [if_neg (by simp)]
    refine ⟨_,rfl,u_is_share (hx a (by simp)) ?_⟩
    cases ha:isSh a with
    | false=>walk_at "st";rw [isWg,ha] at q;simpa using q
    | true=>
      obtain ⟨p,rfl⟩:=Zgb ha
      rw [isWg,ha,Zes] at q
      walk_at "st"
      refine ⟨_,rfl,Zc2 (Zfj _ _) (by decide) ?_⟩
      rw [if_pos rfl,deq_nt]
      cases hp:decide (p=0) with
      | true=>rw [hp] at q;walk_at "st";simpa using q
      | false=>
        rw [hp] at q
        walk_at "st"
        refine ⟨_,rfl,u_is_row (hx b (by simp)) ?_⟩
        simpa using q
theorem lef_len {m:Nat}:∀ (ps:List Pr) (R:List (List Rat)),R.length=m→(∀ r∈R,r.length=m)→(∀ p∈ps,p.2.length=m)→(lefF R ps).length=m∧∀ r∈lefF R ps,r.length=m
  | [],R,h1,h2,_=>⟨h1,h2⟩
  | p::ps,R,h1,h2,h3=>by
    rw [lefF]
    have hp:=h3 p (by simp)
    refine lef_len ps _ (by rw [List.length_zipWith,h1,hp,Nat.min_self]) (fun r hr=>?_) fun q hq=>h3 q (by simp [hq])
    obtain ⟨k,hk,rfl⟩:=List.mem_iff_getElem.mp hr
    rw [List.getElem_zipWith,lesF,List.length_zipWith,hp,h2 _ (List.getElem_mem _),Nat.min_self]
def en (R:List (List Rat)) (i j:Nat):Rat:=(R.getD i []).getD j 0
theorem lef_en {m:Nat}:∀ (ps:List Pr) (R:List (List Rat)) (i j:Nat),i < m→j < m→R.length=m→(∀ r∈R,r.length=m)→(∀ p∈ps,p.2.length=m)→en (lefF R ps) i j=en R i j - gs ps i j
  | [],R,i,j,_,_,_,_,_=>by rw [lefF,gs];grind
  | p::ps,R,i,j,hi,hj,h1,h2,h3=>by
    have hp:=h3 p (by simp)
    have hr:(R.getD i []).length=m:=by
      rw [List.getD_eq_getElem?_getD,List.getElem?_eq_getElem (by omega)]
      exact h2 _ (List.getElem_mem _)
    rw [lefF,gs,lef_en ps _ i j hi hj (by rw [List.length_zipWith,h1,hp,Nat.min_self]) (fun r hr=>?_) fun q hq=>h3 q (by simp [hq])]
    · have e:en (List.zipWith (fun row share=>lesF row (p.1*share) p.2) R p.2) i j=en R i j - p.1*p.2.getD i 0*p.2.getD j 0:=by
        unfold en
        simp only [List.getD_eq_getElem?_getD]
        rw [List.getElem?_eq_getElem (l:=List.zipWith _ R p.2) (i:=i) (by rw [List.length_zipWith];omega),List.getElem_zipWith,List.getElem?_eq_getElem (l:=R) (by omega),List.getElem?_eq_getElem (l:=p.2) (i:=i) (by omega)]
        rw [List.getD_eq_getElem?_getD,List.getElem?_eq_getElem (by omega)] at hr
        simp only [Option.getD_some] at hr ⊢
        unfold lesF
        rw [List.getElem?_eq_getElem (l:=List.zipWith _ _ p.2) (by rw [List.length_zipWith];omega),List.getElem_zipWith,List.getElem?_eq_getElem (l:=R[i]) (by omega),List.getElem?_eq_getElem (l:=p.2) (by omega)]
        rfl
      rw [e];grind
    · obtain ⟨k,hk,rfl⟩:=List.mem_iff_getElem.mp hr
      rw [List.getElem_zipWith,lesF,List.length_zipWith,hp,h2 _ (List.getElem_mem _),Nat.min_self]
end B.C.Q0
namespace B.C.Q0
theorem lc_zipG {α β:Type} {g1:α→D} {g2:β→D} {f:α→β→D} {we:WE} {tail:Rho} {Q:List D→Prop}:∀ (A:List α) (C:List β),(∀ x∈A,∀ y∈C,∀ Q:D→Prop,Q (f x y)→we No (.d (g1 x)::.d (g2 y)::tail) Q)→∀ (sv sv':SV) (acc:List D),acc.length+A.length≤small→Q (acc++List.zipWith f A C)→lcW (gTp 2 (Zat (gN 0) (Zat (gN 1) Za9))) ZaF we (zips (A.map g1) (C.map g2)) (sv::sv'::tail) acc Q
  | [],C,_,sv,sv',acc,_,hq=>by
    have e:zips (([]:List α).map g1) (C.map g2)=[]:=by simp [zips]
    rw [e,lcW]
    simpa using hq
  | x::A,[],_,sv,sv',acc,_,hq=>by
    have e:zips ((x::A).map g1) (([]:List β).map g2)=[]:=by simp [zips]
    rw [e,lcW]
    simpa using hq
  | x::A,y::C,h,sv,sv',acc,hl,hq=>by
    have e:zips ((x::A).map g1) ((y::C).map g2) = .tup [g1 x,g2 y]::zips (A.map g1) (C.map g2):=by simp [zips]
    rw [e,lcW]
    refine ⟨rfl,?_⟩
    show we No (SV.d (g1 x)::SV.d (g2 y)::tail) _
    rw [List.length_cons] at hl
    refine h x (by simp) y (by simp) _ ⟨by omega,lc_zipG A C (fun a ha c hc=>h a (by simp [ha]) c (by simp [hc])) _ _ _ (by simp;omega) ?_⟩
    rw [List.append_assoc]
    simpa using hq
def LI (s:List Int) (n:Nat) (al:List Pr) (T:List (List Rat)) (ds:List D) (ρ:Rho):Prop:=∃ (ps:List Pr) (R:List (List Rat)) (k:Nat) (s2 s3 s4:SV),ds=ps.map pqD∧(∀ p∈ps,Pq 115 n p)∧k+ps.length≤10∧lefF R ps=T∧R.length=n∧(∀ r∈R,r.length=n∧∀ y∈r,Sz (7+346*k) y)∧(s2 = .d (.lst (R.map rowq))∨s2 = .ow (R.map rowq))∧ρ=[.d (Zax s),.d (lqD al),s2,s3,s4]
theorem rd_left_by:∀ ds E Q,ZeY ds E Q→Zgg E { nx:=fun _=>Q .non,rt:=Q } (rho N_left_by ds):=by
  rintro _ E Q ⟨⟨⟨s,n⟩,ps⟩,rfl,⟨h,hl,hp⟩,q⟩
  dsimp only at h hl hp q
  have h5:=h.n5
  unfold Zgg
  refine Zah (set_by (ρ':=[.d (Zax s),.d (lqD ps),.d (.lst (((tbl s n).map Zb).map rowq)),.un,.un]) rfl (fun P hP=>?_) ?_)
  · show wF Zb8 (Zab (wN 0) aNil) E [.d (Zax s),.d (lqD ps),.un,.un,.un] P
    simp only [wF,Zab,aNil,wN,List.getElem?_cons_zero]
    refine u_share_rows h ?_
    rw [List.map_map] at hP
    exact hP
  dsimp only
  show zSeq _ _ E _ (pub 2 _)
  rw [show pub 2 [.d (Zax s),.d (lqD ps),.d (.lst (((tbl s n).map Zb).map rowq)),.un,.un]=[.d (Zax s),.d (lqD ps),.d (.lst (((tbl s n).map Zb).map rowq)),.un,.un] from rfl]
  refine Zah ?_
  show zFor _ _ _ _ _ _
  refine for_seq (xs:=ps.map pqD) (Zd9 rfl) ?_
  refine Zfk (LI s n ps (lefF ((tbl s n).map Zb) ps)) ?_ ?_ _ _ ⟨ps,(tbl s n).map Zb,0,_,.un,.un,rfl,hp,by omega,rfl,by simp [Zcy],fun r hr=>?_,.inl rfl,rfl⟩
  · rintro d ds _ ⟨ps',R,k,s2,s3,s4,e,hpp,hk,hT,hRl,hR,hs2,rfl⟩ nx hnx
    cases ps' with
    | nil=>cases e
    | cons p ps'=>
      rw [List.map_cons] at e
      injection e with e1 e2
      subst e1 e2
      have hp0:=hpp p (by simp)
      rw [List.length_cons] at hk
      have key:zOwn 2 (aLC (iZ (Zab (wN 2) (Zab (wN 4) aNil))) 2 [3,4] (gTp 2 (Zat (gN 0) (Zat (gN 1) Za9))) ZaF (wF Zdi (Zab (wN 0) (Zab (wF Zfv (Zab (wN 2) (Zab (wN 1) aNil))) (Zab (wN 3) aNil))))) (fun _=>False) { nx:=nx,rt:=Q,bk:=zPub 2 (zRet (wN 2)) E { nx:=fun _=>Q .non,rt:=Q },ct:=nx } [.d (Zax s),.d (lqD ps),.d (.lst (R.map rowq)),.d (shq p.1),.d (rowq p.2)]:=by
        refine ZeO (xs:=List.zipWith (fun row share=>rowq (lesF row (p.1*share) p.2)) R p.2) rfl (fun P hP=>?_) (hnx _ ⟨ps',List.zipWith (fun row share=>lesF row (p.1*share) p.2) R p.2,k+1,_,_,_,rfl,fun q hq=>hpp q (by simp [hq]),by omega,hT,by rw [List.length_zipWith,hRl,hp0.l,Nat.min_self],fun r hr=>?_,.inr (by rw [List.map_zipWith]),rfl⟩)
        · unfold rowq
          walk_at "st"
          show lcW _ _ _ (zips (R.map fun r=>D.tup (r.map shq)) (p.2.map shq)) _ _ _
          refine lc_zipG (g1:=fun r=>D.tup (r.map shq)) (g2:=shq) (f:=fun row share=>rowq (lesF row (p.1*share) p.2)) R p.2 (fun r hr y hy Q hq=>?_) .un .un [] (by simp [small];omega) (by simpa using hP)
          walk_at "st"
          refine u_times (B2.of hp0.w (hp0.r y hy) (by decide)) (u_row_less (a:=7+346*k) (b:=115+115) (c:=115) (by omega) (by rw [(hR r hr).1];omega) (hR r hr).2 (hp0.w.mul (hp0.r y hy)) hp0.r hq)
        · obtain ⟨j,hj,rfl⟩:=List.mem_iff_getElem.mp hr
          rw [List.getElem_zipWith]
          rw [List.length_zipWith] at hj
          have hrj:=hR _ (List.getElem_mem (show j < R.length by omega))
          refine ⟨by rw [lesF,List.length_zipWith,hp0.l,hrj.1,Nat.min_self],fun y hy=>?_⟩
          unfold lesF at hy
          obtain ⟨m,hm,rfl⟩:=List.mem_iff_getElem.mp hy
          rw [List.length_zipWith] at hm
          rw [List.getElem_zipWith]
          exact ((hrj.2 _ (List.getElem_mem _)).sub ((hp0.w.mul (hp0.r _ (List.getElem_mem _))).mul (hp0.r _ (List.getElem_mem _)))).mono (by omega)
      rcases hs2 with rfl | rfl
      · refine ⟨rfl,?_⟩
        exact key
      · refine ⟨rfl,?_⟩
        exact key
  · rintro _ ⟨ps',R,k,s2,s3,s4,e,hpp,hk,hT,hRl,hR,hs2,rfl⟩
    cases ps' with
    | cons p ps'=>cases e
    | nil=>
      rw [lefF] at hT
      rw [← hT] at q
      rcases hs2 with rfl | rfl
      · exact q
      · exact q
  · obtain ⟨r,hr',rfl⟩:=List.mem_map.mp hr
    refine ⟨by unfold Zb;rw [List.length_map];exact (Zcd h r hr').1,fun y hy=>?_⟩
    obtain ⟨i,hi,rfl⟩:=List.mem_map.mp hy
    have:=(Zcd h r hr').2 i hi
    exact Sz.int i (by decide) (by show i.natAbs < 128;omega)
end B.C.Q0
namespace B.C.Q0
theorem wg_inv {n:Nat} {x:D} (h:isWg n x=true):∃ p:Pr,x=pqD p∧p.2.length=n∧p.1≠0:=by
  unfold isWg at h
  split at h
  · rename_i w r
    rw [Bool.and_eq_true,Bool.and_eq_true] at h
    obtain ⟨p,rfl⟩:=Zgb h.1.1
    obtain ⟨t,rfl,ht⟩:=isRow_inv h.2
    exact ⟨(p,t),rfl,by exact_mod_cast ht,by simpa [Zes] using h.1.2⟩
  · cases h
theorem pqI_pqD (p:Pr):pqI (pqD p)=p:=by
  show (shI (shq p.1),rQ (rowq p.2))=p
  rw [Zes,rQ_rowq]
theorem wgs_inv {n:Nat}:∀ {xs:List D},xs.all (isWg n)=true→∃ ps:List Pr,xs=ps.map pqD∧∀ p∈ps,p.2.length=n∧p.1≠0
  | [],_=>⟨[],rfl,fun _ h=>nomatch h⟩
  | x::r,h=>by
    rw [List.all_cons,Bool.and_eq_true] at h
    obtain ⟨p,rfl,hp⟩:=wg_inv h.1
    obtain ⟨ps,rfl,hps⟩:=wgs_inv h.2
    exact ⟨p::ps,rfl,fun q hq=>by rcases List.mem_cons.mp hq with rfl | hq;exact hp;exact hps q hq⟩
theorem sqs_lq (ps:List Pr):sqs (lqD ps)=ps:=by
  show (ps.map pqD).map pqI=ps
  rw [List.map_map];exact (List.map_congr_left fun p _=>pqI_pqD p).trans (List.map_id _)
theorem sz_pq {b n:Nat} {ps:List Pr} (h:szD b (lqD ps)=true) (hn:∀ p∈ps,p.2.length=n):∀ p∈ps,Pq b n p:=fun p hp=>by
  unfold lqD at h
  rw [szD,szDs_iff] at h
  have:=h _ (List.mem_map_of_mem hp)
  unfold pqD at this
  rw [szD,szDs,szDs,szDs,Bool.and_eq_true,Bool.and_eq_true,szD_shq,szD_rowq] at this
  exact ⟨hn p hp,this.1,this.2.1⟩
theorem lef_zero {s:List Int} {n:Nat} {ps:List Pr} (h:IsSl s n) (hp:∀ p∈ps,p.2.length=n):(lefF ((tbl s n).map Zb) ps=List.replicate n (List.replicate n (0:Rat)))↔sqE s n ps:=by
  have hR:((tbl s n).map Zb).length=n:=by simp [Zcy]
  have hr:∀ r∈(tbl s n).map Zb,r.length=n:=fun r hr=>by
    obtain ⟨r,hr',rfl⟩:=List.mem_map.mp hr
    unfold Zb;rw [List.length_map];exact (Zcd h r hr').1
  have L:=lef_len ps _ hR hr hp
  have en0:∀ i j,i < n→j < n→en ((tbl s n).map Zb) i j=(tT s n i j:Rat):=fun i j hi hj=>by
    unfold en tT ga gr
    have hl:=Zcy s n
    have hi':i < (tbl s n).length:=by omega
    have hj':=(Zcd h _ (List.getElem_mem hi')).1
    simp only [List.getD_eq_getElem?_getD]
    rw [List.getElem?_eq_getElem (l:=tbl s n) hi',List.getElem?_eq_getElem (l:=(tbl s n).map Zb) (by omega),List.getElem_map]
    simp only [Option.getD_some]
    unfold Zb
    rw [List.getElem?_map,List.getElem?_eq_getElem (by omega)]
    rfl
  constructor
  · intro e i hi j hj
    have:=lef_en ps _ i j hi hj hR hr hp
    rw [e,en0 i j hi hj] at this
    have z:en (List.replicate n (List.replicate n (0:Rat))) i j=0:=by
      unfold en
      simp [List.getD_eq_getElem?_getD,List.getElem?_replicate,hi,hj]
    rw [z] at this
    grind
  · intro e
    refine List.ext_getElem (by rw [L.1,List.length_replicate]) fun i h1 h2=>?_
    rw [List.getElem_replicate]
    have hl:=L.2 _ (List.getElem_mem h1)
    refine List.ext_getElem (by rw [hl,List.length_replicate]) fun j h3 h4=>?_
    rw [List.getElem_replicate]
    have:=lef_en ps _ i j (by omega) (by omega) hR hr hp
    rw [en0 i j (by omega) (by omega),e i (by omega) j (by omega)] at this
    unfold en at this
    simp only [List.getD_eq_getElem?_getD] at this
    rw [List.getElem?_eq_getElem h1] at this
    simp only [Option.getD_some] at this
    rw [List.getElem?_eq_getElem h3] at this
    simp only [Option.getD_some] at this
    rw [this]
    grind
theorem Zgr:∀ ds E Q,ZcY ds E Q→ZcO E { nx:=fun _=>Q .non,rt:=Q } (rho Zee ds):=by
  rintro _ E Q ⟨⟨⟨s,n⟩,x⟩,rfl,⟨h,hk,hz⟩,q⟩
  dsimp only at h hk hz q
  have h5:=h.n5
  have hsl:=h.len
  unfold sqR at q
  unfold ZcO
  walk_at "nx"
  refine ⟨Zax s,rfl,kd_intsT (by omega),?_⟩
  dsimp only
  unfold okS
  rw [if_pos (slG_of h)]
  unfold evn
  rw [Zet]
  by_cases he:s.reverse=s
  · rw [if_pos (by simpa using he)]
    rw [if_pos he] at q
    replace q:Q (.bl (sqG s n x)):=q
    dsimp only [exQ]
    unfold Zax
    walk_at "nx"
    refine Zgj (by simpa using (by omega:s.length≤5000)) ?_
    rw [List.length_map,show ((s.length:Int)+1) / 2=n by omega]
    walk_at "nx"
    refine Zdt hk (by decide) fun t ht=>?_
    cases x<;>cases ht<;>try exact q
    rename_i xs
    obtain ⟨hl,hx⟩:=kd_lst hk
    walk_at "st"
    simp only [show isTy "list" "list" = true from rfl,Bool.not_true,Bool.false_eq_true,if_false]
    walk_at "st"
    by_cases h10:xs.length≤10
    · rw [if_neg (by simp;omega)]
      show zSeq _ _ _ _ _
      walk_at "nx"
      refine ZgU (f:=fun d=>.bl (isWg n d)) (fun d hd Q hq=>?_) .un [] (by simp [small];omega) ?_
      · walk_at "st"
        exact u_is_weighed (hx d hd) hq
      refine ⟨xs.map (isWg n),by simp,?_⟩
      rw [List.all_map,show (id ∘ isWg (n:Int))=isWg (n:Int) from rfl]
      replace q:Q (.bl ((decide (xs.length≤10) && xs.all (isWg n)) && decide (sqE s n (sqs (.lst xs))))):=q
      cases ha:xs.all (isWg n) with
      | false=>rw [ha] at q;simpa using q
      | true=>
        obtain ⟨ps,rfl,hps⟩:=wgs_inv ha
        rw [ha,decide_eq_true h10,show sqs (.lst (ps.map pqD))=ps from sqs_lq ps] at q
        rw [List.length_map] at h10
        rw [if_neg (by simp)]
        refine u_left_by h h10 (sz_pq hz fun p hp=>(hps p hp).1) ⟨by decide,by omega,by omega,by simp [small];omega,by decide,by omega,by omega,by simp [small];omega,?_⟩
        have e1:(List.replicate n [D.tup [D.int 0,D.int 1]]).flatten=(List.replicate n (0:Rat)).map shq:=by
          rw [List.map_replicate,show shq 0=D.tup [D.int 0,D.int 1] from shq_zero,List.flatten_replicate_singleton]
        have e2:(List.replicate n [D.tup (List.replicate n [D.tup [D.int 0,D.int 1]]).flatten]).flatten=(List.replicate n (List.replicate n (0:Rat))).map rowq:=by
          rw [e1,List.map_replicate (f:=rowq),List.flatten_replicate_singleton]
          rfl
        rw [e2]
        refine Zc2 (okD_lst fun x hx=>?_) (okD_lst fun x hx=>?_) ?_
        · obtain ⟨r,_,rfl⟩:=List.mem_map.mp hx
          exact okD_rowq r _
        · obtain ⟨r,_,rfl⟩:=List.mem_map.mp hx
          exact okD_rowq r _
        rw [if_neg (by simp),deq_lst deq_rowq,decide_eq_decide.mpr (lef_zero h fun p hp=>(hps p hp).1)]
        simpa using q
    · rw [if_pos (by simp;omega)]
      replace q:Q (.bl ((decide (xs.length≤10) && xs.all (isWg n)) && decide (sqE s n (sqs (.lst xs))))):=q
      rw [decide_eq_false h10] at q
      exact q
  · rw [if_neg (by simpa using he)]
    rw [if_neg he] at q
    exact q
theorem rd__law_told:∀ ds E Q,ZbX ds E Q→Zem E { nx:=fun _=>Q .non,rt:=Q } (rho Zg2 ds):=by
  rintro _ E Q ⟨⟨⟨s,n⟩,x⟩,rfl,⟨h,hk,hz⟩,q⟩
  dsimp only at h hk hz q
  unfold Zem
  simp only [zTry]
  refine ⟨fun ex=>ex∈LX∧Q (.tup [.str (knd ex)]),fun ex ⟨he,hq⟩=>⟨he,?_⟩,?_⟩
  · unfold exRho
    walk_at "st"
    exact u__law_refused he hq
  · walk_at "st"
    refine ⟨((s,n),x),rfl,⟨h,hk,hz⟩,?_⟩
    dsimp only
    cases er:sqR s n x with
    | ok v=>rw [er] at q;exact q
    | error e=>
      rw [er] at q
      refine ⟨?_,q⟩
      unfold sqR at er
      split at er
      · cases er
      · cases er;decide
end B.C.Q0
namespace B.C.Q0
theorem Zgv:∀ ds E Q,Zb1 ds E Q→ZcR E { nx:=fun _=>Q .non,rt:=Q } (rho Zeh ds):=by
  rintro _ E Q ⟨_,rfl,_,q⟩
  have fin:∀ (s:List Int) (n:Nat),s.length=n→1≤n→n≤5→(∀ x∈s,-50≤x∧x≤50)→Q (D.tup ((s.map D.int)++((s.take (n - 1)).map D.int).reverse)):=fun s n h1 h2 h3 h4=>q _ ⟨s++(s.take (n - 1)).reverse,n,⟨by simp;omega,h2,h3,fun x hx=>by
    rcases List.mem_append.mp hx with hx | hx
    · exact h4 x hx
    · exact h4 x (List.mem_of_mem_take (List.mem_reverse.mp hx))⟩,by
      rw [List.reverse_append,List.reverse_reverse]
      have:s=s.take (n - 1)++s.drop (n - 1):=(List.take_append_drop _ _).symm
      have hd:∃ a,s.drop (n - 1)=[a]:=List.length_eq_one_iff.mp (by rw [List.length_drop];omega)
      obtain ⟨a,ha⟩:=hd
      rw [ha] at this
      have t:s.take (n - 1)=(s.take (n - 1)++[a]).take (n - 1):=by rw [← this]
      generalize s.take (n - 1)=u at *
      subst this
      simp,by unfold Zax;rw [List.map_append,List.map_reverse]⟩
  unfold ZcR
  walk_at "nx"
  refine Zdr fun s n h=>?_
  have h1:=h.n1
  have h5:=h.n5
  have hsl:=h.len
  have hb:=h.b
  unfold Zax
  walk_at "nx"
  refine ⟨⟨by decide,ZcE (n:=2) (by decide) (by omega)⟩,?_⟩
  rw [List.length_map,Int.fdiv_eq_ediv_of_nonneg _ (by decide),show ((s.length:Int)+1) / 2=n by omega]
  have c1:∀ {l:List Int},cutD (l.map D.int) none (some (n:Int))=(l.take n).map D.int:=fun {l}=>by rw [Zed rfl,List.map_take]
  have c2:∀ {l:List Int},cutD (l.map D.int) none (some ((n:Int) - 1))=(l.take (n - 1)).map D.int:=fun {l}=>by rw [Zed (b:=n - 1) (by omega),List.map_take]
  refine ZeG (fun ρ=>∃ l:List Int,ρ=[.d .pen,.d (.tup (l.map .int)),.d (.int n)]∧n≤l.length∧l.length≤10∧∀ x∈l,-50≤x∧x≤50) (fun nx hnx=>?_) ?_
  · walk_at "st"
    refine Zay (n:=4) (by decide) (by decide) fun k hk=>?_
    walk_at "st"
    split
    · rw [c2]
      refine ⟨by decide,ZaR (by simp;omega),?_⟩
      exact hnx _ ⟨s.take (n - 1)++[50],by simp,by simp;omega,by simp;omega,fun x hx=>by
        rcases List.mem_append.mp hx with hx | hx
        · exact hb x (List.mem_of_mem_take hx)
        · rw [List.mem_singleton.mp hx];decide⟩
    · exact hnx _ ⟨s,rfl,by omega,by omega,hb⟩
  rintro _ ⟨l,rfl,hl1,hl2,hlb⟩
  walk_at "st"
  rw [c1,c2]
  refine add_tup (ZaR (by simp;omega)) ?_
  have:=fin (l.take n) n (by simp;omega) h1 h5 fun x hx=>hlb x (List.mem_of_mem_take hx)
  rw [List.take_take,Nat.min_eq_left (by omega)] at this
  exact this
theorem fx_cut {xs:List D} {w:Nat} {ws:List Nat} {a b:Option Int} (h:∀ x∈xs,fx x ws=true) (hl:xs.length≤w):fx (.tup (cutD xs a b)) (w::ws)=true∧fx (.lst (cutD xs a b)) (w::ws)=true:=by
  have:=len_cut (xs:=xs) (a:=a) (b:=b)
  exact ⟨ZdN (by omega) fun x hx=>h x (Zey hx),ZdO (by omega) fun x hx=>h x (Zey hx)⟩
theorem ZfU:∀ ds E Q,Zbp ds E Q→Zcv E { nx:=fun _=>Q .non,rt:=Q } (rho ZdZ ds):=by
  rintro _ E Q ⟨r,rfl,⟨hr1,hr5,hsz⟩,q⟩
  dsimp only at hr1 hr5 hsz q
  unfold Zcv
  walk_at "nx"
  rw [show (r.length:Int)+1=((r.length+1:Nat):Int) by omega]
  refine Zay (n:=r.length+1) (by omega) (by omega) fun k hk=>?_
  walk_at "nx"
  refine ⟨by decide,by decide,by decide,by decide,by decide,by decide,by decide,by decide,by decide,⟨by decide,by decide,by decide⟩,by decide,by decide,?_⟩
  walk_at "nx"
  refine ⟨⟨by decide,by decide,by decide⟩,by decide,by decide,by decide,by decide,by decide,Zay (n:=17) (by decide) (by decide) fun k17 hk17=>?_⟩
  obtain ⟨odd,hat,hodd⟩:=at_all (P:=fun d=>fx d [7,7]=true) (xs:=[D.tup [D.int 1,D.int 0],D.tup [D.int 2,D.int 2],D.tup [D.int 1,D.int (-1)],D.tup [D.bl true,D.int 1],D.tup [D.int 0,D.int 2],D.int 0,D.non,D.str (PySem.Str.ofString "1"),D.lst [D.int 1,D.int 1],D.tup [D.int 1],D.tup [D.int 1,D.int 1,D.int 1],D.tup [D.int 1,D.bl true],D.tup [D.int (10 ^ 25),D.int 1],D.tup [D.int 3,D.int (10 ^ 25)],D.tup [D.int 0,D.int 1],D.tup [D.str (PySem.Str.ofString "1"),D.int 1],D.dic]) (k:=k17) hk17 (by
    intro x hx
    simp only [List.mem_cons,List.not_mem_nil,or_false] at hx
    rcases hx with rfl | rfl | rfl | rfl | rfl | rfl | rfl | rfl | rfl | rfl | rfl | rfl | rfl | rfl | rfl | rfl | rfl<;>decide +kernel)
  refine ⟨_,hat,?_⟩
  walk_at "nx"
  have ct:=cut_two (r.map shq) k
  have c1:=len_cut (xs:=r.map shq) (a:=some 1) (b:=none)
  rw [List.length_map] at ct c1
  have hxq:∀ x∈r.map shq,fx x [7,7]=true:=fun x hx=>by
    obtain ⟨y,hy,rfl⟩:=List.mem_map.mp hx
    exact fx_shq (by decide) ((hsz y hy).mono (by decide))
  refine ⟨by decide,ZaR (by omega),ZaR (by simp;omega),?_⟩
  generalize hT:D.tup (cutD (r.map shq) none (some (k:Int))++[odd]++cutD (r.map shq) (some ((k:Int)+1)) none)=T
  have ht:fx T [7,7,7]=true:=by
    rw [← hT]
    refine ZdN (by simp;omega) fun x hx=>?_
    simp only [List.mem_append,List.mem_cons,List.not_mem_nil,or_false] at hx
    rcases hx with (hx | rfl) | hx
    · exact hxq x (Zey hx)
    · exact hodd
    · exact hxq x (Zey hx)
  clear hT hat
  refine Zah (set_lst (xs:=[T,T,T,D.tup (cutD (r.map shq) (some 1) none),D.tup (r.map shq++[D.tup [D.int 0,D.int 1]]),D.lst (r.map shq),D.tup [rowq r],rowq r.reverse,D.non,D.tup [],D.int 0,D.dic])
    (Zau (Zd9 rfl) (Zau (Zd9 rfl) (Zau (Zd9 rfl) (Zau (fun P h=>by walk_at "st";exact h) (Zau (fun P h=>?_) (Zau (fun P h=>h) (Zau (fun P h=>⟨show 1≤small by decide,h⟩) (Zau (fun P h=>by walk_at "st";exact h) (Zau c_at (Zau (fun P h=>⟨by decide,h⟩) (Zau c_at (Zau c_at args_nil)))))))))))) (show 12≤small by decide) ?_)
  · walk_at "st"
    exact ⟨by decide,by decide,add_tup (ZaR (by simp;omega)) h⟩
  walk_at "st"
  refine Zay (n:=12) (by decide) (by decide) fun k12 hk12=>?_
  obtain ⟨d,hd,hgd⟩:=at_all (P:=fun d=>fx d [7,7,7]=true) (xs:=[T,T,T,D.tup (cutD (r.map shq) (some 1) none),D.tup (r.map shq++[D.tup [D.int 0,D.int 1]]),D.lst (r.map shq),D.tup [rowq r],rowq r.reverse,D.non,D.tup [],D.int 0,D.dic]) (k:=k12) (by simpa using hk12) (by
    intro x hx
    simp only [List.mem_cons,List.not_mem_nil,or_false] at hx
    rcases hx with rfl | rfl | rfl | rfl | rfl | rfl | rfl | rfl | rfl | rfl | rfl | rfl
    · exact ht
    · exact ht
    · exact ht
    · exact (fx_cut hxq (by simp;omega)).1
    · refine ZdN (by simp;omega) fun x hx=>?_
      rcases List.mem_append.mp hx with hx | hx
      · exact hxq x hx
      · rw [List.mem_singleton.mp hx];decide +kernel
    · exact ZdO (by simp;omega) hxq
    · exact ZdN (by simp) fun x hx=>by rw [List.mem_singleton.mp hx];exact fx_rowq (by decide) (by omega) fun y hy=>(hsz y hy).mono (by decide)
    · exact fx_rowq (by decide) (by simp;omega) fun x hx=>(hsz x (List.mem_reverse.mp hx)).mono (by decide)
    · decide +kernel
    · decide +kernel
    · decide +kernel
    · decide +kernel)
  exact ⟨_,hd,q d hgd⟩
end B.C.Q0
local macro_rules | `(tactic| walk_at "w1")=>`(tactic| simp only [zRet,zIf,zSet,zNx,Zdm,zPub,zOwn,zFor,Za3,zPar,zAsg,zApp,Zb5,zInk,Zcw,zNox,Zbr,zTry,wM,ZcX,Zbh,wOrV,ZdA,wAnd,wOr,wNot,wT,wIf,w1,w2,wB,wF,wL,wTup,wCut,Za0,aB,aLst,Zab,aNil,aLC,Zbq,ZaF,iS,iE,iL,iT,iR1,iR2,iZ,Za8,ZaZ,wN,wC,gN,gTp,Zat,Za9,gIxP,ZaA,wPen,wBor,tBor,zExt,aIf,aBor,wIxO,aAdd,aMul,aCut,rho,pub,List.map_cons,List.map_nil,List.length_cons,List.length_nil,List.cons_append,List.nil_append,List.replicate,List.getElem?_cons_zero,List.getElem?_cons_succ,List.set_cons_zero,List.set_cons_succ,Nat.reduceSub,Nat.reduceAdd,List.replicate_succ,List.replicate_zero,true_and,Bool.false_eq_true,if_true,if_false,ite_true,ite_false,Int.toNat_natCast,Bool.not_true,Bool.not_false,
  Zfr,Zfq,Zfp,Zdg,Zdf,Zfo,Zdb,Zd,Zda,Zdd,Zdc,Zde,ZbE,ZbH,ZbF,ZbG,ZbJ,ZbI,ZbK,Zc3,Zc6,Zc4,Zc5,Zc8,Zc7,Zc9,ZbN,Zbj,ZbO,ZbP,ZbR,ZbQ,ZbS,Zbx,Zbz,Zby,ZbB,ZbA,Zbu,Zbv,Zbw,ZaM,ZaN,ZaO,ZbV,ZbU,ZbT,ZbD,ZbC,e_I2,Zft,Zfn,ZbM,ZbL,Zfs,e_i1,e_i2])
namespace B.C.Q0
theorem asg_pair {w:WE} {i j:Nat} {E:Ex→Prop} {N:Nds} {ρ ρ':Rho} {x y:D} (e:(ρ.set i (.d x)).set j (.d y)=ρ') (hw:∀ P:D→Prop,P (.tup [x,y])→w E ρ P) (h:N.nx ρ'):zAsg w (gTp 2 (Zat (gN i) (Zat (gN j) Za9))) E N ρ:=hw _ ⟨rfl,by rw [← e] at h;exact h⟩
theorem app_by {i:Nat} {w:WE} {E:Ex→Prop} {N:Nds} {ρ ρ':Rho} {xs:List D} {d:D} (e:ρ[i]? = some (.ow xs)) (hl:xs.length < small) (e2:ρ.set i (.ow (xs++[d]))=ρ') (hw:∀ P:D→Prop,P d→w E ρ P) (h:N.nx ρ'):zApp i w E N ρ:=by
  unfold zApp
  rw [e]
  exact hw _ ⟨hl,by rw [e2];exact h⟩
theorem item_by {i:Nat} {wi wv:WE} {E:Ex→Prop} {N:Nds} {ρ ρ':Rho} {xs:List D} {d:D} {k:Nat} (e:ρ[i]? = some (.ow xs)) (hk:k < xs.length) (e2:ρ.set i (.ow (xs.set k d))=ρ') (hv:∀ P:D→Prop,P d→wv E ρ P) (hi:∀ P:D→Prop,P (.int k)→wi E ρ P) (h:N.nx ρ'):Zb5 i wi wv E N ρ:=by
  unfold Zb5
  rw [e]
  exact hv _ (hi _ ⟨k,B.C.ixN_nat hk,by rw [e2];exact h⟩)
theorem rd__law_split:∀ ds E Q,Zc ds E Q→ZdE E { nx:=fun _=>Q .non,rt:=Q } (rho ZfJ ds):=by
  rintro _ E Q ⟨⟨n,ps⟩,rfl,⟨hl,hp⟩,q⟩
  dsimp only at hl hp q
  unfold ZdE
  refine Zah (ZeO (xs:=[]) (ρ':=[.d (lqD ps),.ow [],.un,.un,.un,.un,.un]) rfl (fun P h=>⟨by decide,h⟩) ?_)
  dsimp only
  refine Zah ?_
  show Zb4 _ _ _ _ (nums 0 (ps.map pqD)) _
  refine Zfk (fun ds ρ=>∃ (k:Nat) (ps' acc:List Pr) (s2 s3 s4 s5 s6:SV),ds=nums k (ps'.map pqD)∧(∀ p∈ps',Pq 112 n p)∧k+ps'.length=ps.length∧acc.length≤2*k∧(∀ p∈acc,Pq 114 n p)∧ρ=[.d (lqD ps),.ow (acc.map pqD),s2,s3,s4,s5,s6]) ?_ ?_ _ _ ⟨0,ps,[],_,_,_,_,_,rfl,hp,by omega,by simp,(fun _ h=>nomatch h),rfl⟩
  · rintro d ds _ ⟨k,ps',acc,s2,s3,s4,s5,s6,e,hpp,hk,hc,ha,rfl⟩ nx hnx
    cases ps' with
    | nil=>cases e
    | cons p ps'=>
      rw [List.map_cons,nums] at e
      injection e with e1 e2
      subst e1 e2
      have hp0:=hpp p (by simp)
      rw [List.length_cons] at hk
      refine ⟨rfl,?_⟩
      have hh:Rat.divInt p.1.num (2*(p.1.den:Int))=p.1 / 2:=by
        have e:(p.1.num:Rat) / ((p.1.den:Nat):Rat)=p.1:=by
          have:=Rat.num_divInt_den p.1
          rw [Rat.divInt_eq_div,Rat.intCast_natCast] at this
          exact this
        have hd:((p.1.den:Nat):Rat)≠0:=by exact_mod_cast p.1.den_nz
        rw [Rat.divInt_eq_div,Rat.intCast_mul,Rat.intCast_natCast]
        conv=>rhs;rw [← e]
        show (p.1.num:Rat) / (2*_)=_
        grind
      have hz2:Sz 114 (p.1 / 2):=(hp0.w.div (Sz.int (n:=2) 2 (by decide) (by decide))).mono (by decide)
      simp only [Zat,Za9,gN,List.set_cons_succ,List.set_cons_zero]
      refine Zah (asg_pair (ρ':=[.d (lqD ps),.ow (acc.map pqD),.d (.int k),.d (pqD p),.d (shq p.1),.d (rowq p.2),s6]) rfl (Zd9 rfl) ?_)
      dsimp only
      refine Zah (set_by (d:=shq (p.1 / 2)) (ρ':=[.d (lqD ps),.ow (acc.map pqD),.d (.int k),.d (pqD p),.d (shq p.1),.d (rowq p.2),.d (shq (p.1 / 2))]) rfl (fun P hP=>?_) ?_)
      · rw [← hh] at hP
        have hb:=hp0.w.bd (by decide)
        unfold shq
        walk_at "st"
        refine ⟨_,rfl,_,rfl,?_⟩
        walk_at "st"
        have hd:=hp0.w.2
        have h0:=p.1.den_nz
        refine ⟨⟨by unfold Bd;exact Nat.lt_of_lt_of_le (by decide:2 < 2 ^ 2) (Nat.pow_le_pow_right (by decide) (by decide)),hb.2⟩,Zb6 (by omega) ?_ hP⟩
        unfold Bd
        rw [Int.natAbs_mul,Int.natAbs_natCast]
        exact Nat.lt_of_lt_of_le (by show 2*p.1.den < 2 ^ 113;omega) (Nat.pow_le_pow_right (by decide) (by decide))
      dsimp only
      have fin:∀ l:List Pr,l.length≤2→(∀ p∈l,Pq 114 n p)→nx [.d (lqD ps),.ow (acc.map pqD++l.map pqD),.d (.int k),.d (pqD p),.d (shq p.1),.d (rowq p.2),.d (shq (p.1 / 2))]:=fun l h1 h2=>hnx _ ⟨k+1,ps',acc++l,_,_,_,_,_,rfl,fun q hq=>hpp q (by simp [hq]),by omega,by simp;omega,(fun q hq=>by
        rcases List.mem_append.mp hq with hq | hq
        · exact ha q hq
        · exact h2 q hq),by rw [List.map_append]⟩
      unfold lqD
      walk_at "st"
      have hq2:Pq 114 n (p.1 / 2,p.2):=⟨hp0.l,hz2,fun y hy=>(hp0.r y hy).mono (by decide)⟩
      have hq1:Pq 114 n p:=⟨hp0.l,hp0.w.mono (by decide),fun y hy=>(hp0.r y hy).mono (by decide)⟩
      split
      · exact ⟨by decide,by decide,by decide,ZaR (by simp;omega),fin [(p.1 / 2,p.2),(p.1 / 2,p.2)] (by simp) fun q hq=>by
          simp only [List.mem_cons,List.not_mem_nil,or_false,or_self] at hq
          rw [hq];exact hq2⟩
      · exact ⟨by decide,ZaR (by simp;omega),fin [p] (by simp) fun q hq=>by rw [List.mem_singleton.mp hq];exact hq1⟩
  · rintro _ ⟨k,ps',acc,s2,s3,s4,s5,s6,e,hpp,hk,hc,ha,rfl⟩
    cases ps' with
    | cons p ps'=>cases e
    | nil=>exact q _ ⟨acc,rfl,by simp at hk;omega,ha⟩
end B.C.Q0
local macro_rules | `(tactic| walk_at "w1")=>`(tactic| simp only [zRet,zIf,zSet,zNx,Zdm,zPub,zOwn,zFor,Za3,zPar,zAsg,zApp,Zb5,zInk,Zcw,zNox,Zbr,zTry,wM,ZcX,Zbh,wOrV,ZdA,wAnd,wOr,wNot,wT,wIf,w1,w2,wB,wF,wL,wTup,wCut,Za0,aB,aLst,Zab,aNil,aLC,Zbq,ZaF,iS,iE,iL,iT,iR1,iR2,iZ,Za8,ZaZ,wN,wC,gN,gTp,Zat,Za9,gIxP,ZaA,wPen,wBor,tBor,aBor,wIxO,aAdd,aMul,aCut,rho,pub,List.map_cons,List.map_nil,List.length_cons,List.length_nil,List.cons_append,List.nil_append,List.replicate,List.getElem?_cons_zero,List.getElem?_cons_succ,List.set_cons_zero,List.set_cons_succ,Nat.reduceSub,Nat.reduceAdd,List.replicate_succ,List.replicate_zero,true_and,Bool.false_eq_true,if_true,if_false,ite_true,ite_false,Int.toNat_natCast,Bool.not_true,Bool.not_false,
  Zfr,Zfq,Zfp,Zdg,Zdf,Zfo,Zdb,Zd,Zda,Zdd,Zdc,Zde,ZbE,ZbH,ZbF,ZbG,ZbJ,ZbI,ZbK,Zc3,Zc6,Zc4,Zc5,Zc8,Zc7,Zc9,ZbN,Zbj,ZbO,ZbP,ZbR,ZbQ,ZbS,Zbx,Zbz,Zby,ZbB,ZbA,Zbu,Zbv,Zbw,ZaM,ZaN,ZaO,ZbV,ZbU,ZbT,ZbD,ZbC,e_I2,Zft,Zfn,ZbM,ZbL,Zfs,e_i1,e_i2])
namespace B.C.Q0
theorem cmp_by {g:G2} {wa wb:WE} {E:Ex→Prop} {ρ:Rho} {x y:D} {b:Bool} (ha:∀ P:D→Prop,P x→wa E ρ P) (hb:∀ P:D→Prop,P y→wb E ρ P) (hg:∀ P:D→Prop,P (.bl b)→g x y P):∀ P:Bool→Prop,P b→wT (w2 g wa wb) E ρ P:=fun P h=>ha _ (hb _ (hg _ h))
theorem Zea {i:Nat} {w:WE} {E:Ex→Prop} {N:Nds} {ρ:Rho} (R:D→Prop) (hw:∀ P:D→Prop,(∀ d,R d→P d)→w E ρ P) (h:∀ d,R d→N.nx (ρ.set i (.d d))):zSet i w E N ρ:=hw _ h
theorem okD_lq (ps:List Pr):okD (lqD ps) 60=true:=okD_lst fun x hx=>by
  obtain ⟨p,_,rfl⟩:=List.mem_map.mp hx
  refine ZgQ fun y hy=>?_
  simp only [List.mem_cons,List.not_mem_nil,or_false] at hy
  rcases hy with rfl | rfl
  · exact Zfj _ _
  · exact okD_rowq _ _
theorem fx_pq {n w:Nat} {ws:List Nat} {p:Pr} (hw:2≤w) (h5:n≤5) (h:Pq 115 n p):fx (pqD p) (w::7::7::ws)=true:=by
  refine ZdN hw fun x hx=>?_
  simp only [List.mem_cons,List.not_mem_nil,or_false] at hx
  rcases hx with rfl | rfl
  · exact fx_shq (by decide) h.w
  · exact fx_rowq (by decide) (by rw [h.l];omega) h.r
theorem fx_lq {n w v:Nat} {ws:List Nat} {ps:List Pr} (hw:ps.length≤w) (hv:2≤v) (h5:n≤5) (h:∀ p∈ps,Pq 115 n p):fx (lqD ps) (w::v::7::7::ws)=true:=ZdO (by simpa using hw) fun x hx=>by
  obtain ⟨p,hp,rfl⟩:=List.mem_map.mp hx
  exact fx_pq hv h5 (h p hp)
theorem Zd6:∀ ds E Q,ZaV ds E Q→Zbd E { nx:=fun _=>Q .non,rt:=Q } (rho ZcH ds):=by
  rintro _ E Q ⟨⟨n,ps⟩,rfl,⟨h1,h5,hl,hp⟩,q⟩
  dsimp only at h1 h5 hl hp q
  have hp':∀ p∈ps,Pq 115 n p:=fun p h=>⟨(hp p h).l,(hp p h).w.mono (by decide),fun y hy=>((hp p h).r y hy).mono (by decide)⟩
  unfold Zbd
  show zSeq _ _ _ _ [.d .pen,.d (lqD ps),.un,.un,.un,.un,.un,.un,.un]
  refine Zah (ZeU (b:=decide (ps=[])) (cmp_by (x:=lqD ps) (y:=.lst []) (Zd9 rfl) (fun P h=>⟨by decide,h⟩) (fun P h=>Zc2 (okD_lq ps) (by decide) ?_)) (fun e=>?_) (fun e=>?_))
  · rw [if_neg (by simp)]
    cases ps with
    | nil=>exact h
    | cons p r=>exact h
  · have e:=of_decide_eq_true e
    walk_at "st"
    refine ⟨by decide,by decide,by decide,by decide,by decide,by decide,by decide,by decide,by decide,by decide,Zay (n:=6) (by decide) (by decide) fun k hk=>?_⟩
    obtain ⟨d,hd,hgd⟩:=at_all (P:=Th) (xs:=[D.lst [D.tup [D.tup [D.int 1,D.int 1],D.tup [D.tup [D.int 1,D.int 1]]]],D.lst [D.tup []],D.tup [],D.non,D.dic,D.lst [D.non]]) (k:=k) (by simpa using hk) (by
      intro x hx
      simp only [List.mem_cons,List.not_mem_nil,or_false] at hx
      rcases hx with rfl | rfl | rfl | rfl | rfl | rfl<;>exact .inl (by decide +kernel))
    exact ⟨_,hd,q d hgd⟩
  · have e:=of_decide_eq_false e
    have hne:0 < ps.length:=List.length_pos_iff.mpr e
    dsimp only
    refine Zah (Zea (fun d=>∃ k:Nat,k < ps.length∧d = .int k) (fun P h=>?_) ?_)
    · unfold lqD
      walk_at "st"
      rw [List.length_map]
      exact Zay (n:=ps.length) hne (by omega) fun k hk=>h _ ⟨k,hk,rfl⟩
    rintro _ ⟨k,hk,rfl⟩
    obtain ⟨p,hpk⟩:∃ p,ps[k]? = some p:=⟨_,List.getElem?_eq_getElem hk⟩
    have hp0:=hp p (List.mem_of_getElem? hpk)
    have hp1:=hp' p (List.mem_of_getElem? hpk)
    dsimp only [List.set_cons_succ,List.set_cons_zero]
    refine Zah (asg_pair (x:=shq p.1) (y:=rowq p.2) (ρ':=[.d .pen,.d (lqD ps),.d (.int k),.d (shq p.1),.d (rowq p.2),.un,.un,.un,.un]) rfl (fun P h=>?_) ?_)
    · unfold lqD
      walk_at "st"
      exact ⟨_,atI_nat (by rw [List.getElem?_map,hpk];rfl),h⟩
    dsimp only
    have w1:=hp0.w.1
    have w2:=hp0.w.2
    refine Zah (ZeO (xs:=[D.tup [D.int 0,D.int 1],D.tup [D.int p.1.num,D.int (0 - (p.1.den:Int))],D.tup [D.int (p.1.num+(p.1.den:Int)),D.int p.1.den],D.int 1,D.non,D.tup [D.int 2,D.int 2]]) rfl (fun P h=>?_) ?_)
    · unfold shq
      walk_at "st"
      refine ⟨by decide,_,rfl,_,rfl,⟨trivial,by decide,_,rfl,_,rfl,?_⟩⟩
      exact ⟨_,rfl,by decide,by decide,by decide,h⟩
    dsimp only [List.set_cons_succ,List.set_cons_zero]
    have hwd:((p.1.den:Int)).natAbs < 2 ^ 115:=by rw [Int.natAbs_natCast];exact hp1.w.2
    have hodd:∀ x∈[D.tup [D.int 0,D.int 1],D.tup [D.int p.1.num,D.int (0 - (p.1.den:Int))],D.tup [D.int (p.1.num+(p.1.den:Int)),D.int p.1.den],D.int 1,D.non,D.tup [D.int 2,D.int 2]]++[D.tup [D.int (0 - p.1.num),D.int p.1.den]],fx x [7,7,7]=true:=by
      have two:∀ a b:Int,a.natAbs < 2 ^ 115→b.natAbs < 2 ^ 115→fx (.tup [.int a,.int b]) [7,7,7]=true:=fun a b ha hb=>ZdN (by simp) fun x hx=>by
        simp only [List.mem_cons,List.not_mem_nil,or_false] at hx
        rcases hx with rfl | rfl
        · exact fx_int ha
        · exact fx_int hb
      intro x hx
      simp only [List.cons_append,List.nil_append,List.mem_cons,List.not_mem_nil,or_false] at hx
      rcases hx with rfl | rfl | rfl | rfl | rfl | rfl | rfl
      · decide +kernel
      · exact two _ _ hp1.w.1 (by omega)
      · exact two _ _ (by omega) hwd
      · decide +kernel
      · decide +kernel
      · decide +kernel
      · exact two _ _ (by have:=hp1.w.1;omega) hwd
    generalize hO:[D.tup [D.int 0,D.int 1],D.tup [D.int p.1.num,D.int (0 - (p.1.den:Int))],D.tup [D.int (p.1.num+(p.1.den:Int)),D.int p.1.den],D.int 1,D.non,D.tup [D.int 2,D.int 2]]=O at hodd ⊢
    have hOl:O.length=6:=by rw [← hO];rfl
    clear hO
    refine Zah (app_by (xs:=O) (d:=D.tup [D.int (0 - p.1.num),D.int p.1.den]) rfl (by rw [hOl];decide) rfl (fun P h=>?_) ?_)
    · unfold shq
      walk_at "st"
      exact ⟨_,rfl,trivial,_,rfl,by decide,h⟩
    dsimp only [List.set_cons_succ,List.set_cons_zero]
    generalize hO2:O++[D.tup [D.int (0 - p.1.num),D.int p.1.den]]=O2 at hodd ⊢
    have hO2l:O2.length=7:=by rw [← hO2];simp [hOl]
    clear hO2 hOl
    have hr0:1≤p.2.length∧p.2.length≤5:=by rw [hp0.l];exact ⟨h1,h5⟩
    have fw:fx (shq p.1) [7,7,7]=true:=fx_shq (by decide) hp1.w
    have fr:fx (rowq p.2) [7,7,7]=true:=fx_rowq (by decide) (by omega) hp1.r
    have tp:∀ xs:List D,xs.length≤3→(∀ x∈xs,fx x [7,7,7]=true)→fx (.tup xs) [3,7,7,7]=true:=fun xs h1 h2=>ZdN h1 h2
    show zSeq _ _ _ _ [.d .pen,.d (lqD ps),.d (.int k),.d (shq p.1),.d (rowq p.2),.d (.lst O2),.un,.un,.un]
    refine Zah (Zea (fun d=>∃ xs,d = .lst xs∧xs.length=4∧∀ x∈xs,fx x [3,7,7,7]=true) (fun P h=>?_) ?_)
    · walk_at "st"
      refine Zay (n:=7) (by decide) (by decide) fun k7 hk7=>?_
      obtain ⟨d,hd,hgd⟩:=at_all (P:=fun d=>fx d [7,7,7]=true) (xs:=O2) (k:=k7) (by omega) hodd
      refine ⟨d,hd,by decide,Zgp hr0.1 hr0.2 hp0.r fun b hb=>⟨by decide,by decide,by decide,by decide,h _ ⟨_,rfl,rfl,?_⟩⟩⟩
      intro x hx
      simp only [List.mem_cons,List.not_mem_nil,or_false] at hx
      rcases hx with rfl | rfl | rfl | rfl
      · exact tp _ (by simp) (by simp [hgd,fr])
      · exact tp _ (by simp) (by simp [fw,hb])
      · exact tp _ (by simp) (by simp [fw,fr,show fx (.int 0) [7,7,7]=true by decide +kernel])
      · exact ZdO (by simp) (by simp [fw,fr])
    rintro _ ⟨xs,rfl,hxl,hxs⟩
    dsimp only [List.set_cons_succ,List.set_cons_zero]
    show zSeq _ _ _ _ [.d .pen,.d (lqD ps),.d (.int k),.d (shq p.1),.d (rowq p.2),.d (.lst O2),.d (.lst xs),.un,.un]
    refine Zah (Zea (fun d=>∃ xs,d = .lst xs∧xs.length=7∧∀ x∈xs,fx x [3,7,7,7]=true) (fun P h=>?_) ?_)
    · walk_at "st"
      refine ⟨by decide,by decide,by decide,ZaR (by simp;omega),h _ ⟨_,rfl,by simp [hxl],fun x hx=>?_⟩⟩
      rcases List.mem_append.mp hx with hx | hx
      · exact hxs x hx
      simp only [List.mem_cons,List.not_mem_nil,or_false] at hx
      rcases hx with rfl | rfl | rfl
      · exact tp _ (by simp) (by simp [fw,fr])
      · decide +kernel
      · exact tp _ (by simp) (by simp [fw])
    rintro _ ⟨xs,rfl,hxl,hxs⟩
    dsimp only [List.set_cons_succ,List.set_cons_zero]
    have hpf:∀ x∈ps.map pqD,fx x [3,7,7,7]=true:=fun x hx=>by
      obtain ⟨p,hp,rfl⟩:=List.mem_map.mp hx
      exact fx_pq (by decide) h5 (hp' p hp)
    refine Zah (Zea (fun d=>fx d [21,3,7,7,7]=true) (fun P h=>?_) ?_)
    · unfold lqD
      walk_at "st"
      have ct:=cut_two (ps.map pqD) k
      rw [List.length_map] at ct
      refine Zay (n:=7) (by decide) (by decide) fun k7 hk7=>?_
      obtain ⟨d,hd,hgd⟩:=at_all (P:=fun d=>fx d [3,7,7,7]=true) (xs:=xs) (k:=k7) (by omega) hxs
      refine ⟨d,hd,by decide,ZaR (by omega),ZaR (by simp;omega),h _ (ZdO (by simp;omega) fun x hx=>?_)⟩
      simp only [List.mem_append,List.mem_cons,List.not_mem_nil,or_false] at hx
      rcases hx with (hx | rfl) | hx
      · exact hpf x (Zey hx)
      · exact hgd
      · exact hpf x (Zey hx)
    intro T hT
    dsimp only [List.set_cons_succ,List.set_cons_zero]
    have fl:fx (lqD ps) [21,3,7,7,7]=true:=ZdO (by simp;omega) hpf
    have c1:=len_cut (xs:=ps.map pqD) (a:=some 1) (b:=none)
    have c2:=len_cut (xs:=ps.map pqD) (a:=none) (b:=some 1)
    rw [List.length_map] at c1 c2
    have c3:(cutD (ps.map pqD) none (some 1)).length≤1:=by rw [show (some (1:Int))=some ((1:Nat):Int) from rfl,Zed (b:=1) rfl];simp;omega
    refine Zah (set_lst (xs:=[T,T,T,T,D.lst (cutD (ps.map pqD) (some 1) none),D.lst (ps.map pqD++cutD (ps.map pqD) none (some 1)),D.tup (ps.map pqD),D.lst [lqD ps],D.non,D.dic,D.lst (ps.map pqD).reverse])
      (Zau (Zd9 rfl) (Zau (Zd9 rfl) (Zau (Zd9 rfl) (Zau (Zd9 rfl) (Zau (fun P h=>by unfold lqD;walk_at "st";exact h) (Zau (fun P h=>?_) (Zau (fun P h=>by unfold lqD;walk_at "st";exact h) (Zau (fun P h=>⟨show 1≤small by decide,h⟩) (Zau c_at (Zau c_at (Zau (fun P h=>by unfold lqD;walk_at "st";exact h) args_nil))))))))))) (show 11≤small by decide) ?_)
    · unfold lqD
      walk_at "st"
      exact ⟨ZaR (by simp;omega),h⟩
    have hW:∀ x∈[T,T,T,T,D.lst (cutD (ps.map pqD) (some 1) none),D.lst (ps.map pqD++cutD (ps.map pqD) none (some 1)),D.tup (ps.map pqD),D.lst [lqD ps],D.non,D.dic,D.lst (ps.map pqD).reverse],Th x:=by
      intro x hx
      simp only [List.mem_cons,List.not_mem_nil,or_false] at hx
      rcases hx with rfl | rfl | rfl | rfl | rfl | rfl | rfl | rfl | rfl | rfl | rfl
      · exact .inl hT
      · exact .inl hT
      · exact .inl hT
      · exact .inl hT
      · exact .inl (fx_cut hpf (by simp;omega)).2
      · refine .inl (ZdO (by simp;omega) fun x hx=>?_)
        rcases List.mem_append.mp hx with hx | hx
        · exact hpf x hx
        · exact hpf x (Zey hx)
      · exact .inl (ZdN (by simp;omega) hpf)
      · exact .inr (ZdO (by simp) fun x hx=>by rw [List.mem_singleton.mp hx];exact fx_lq (by omega) (by decide) h5 hp')
      · exact .inl (by decide +kernel)
      · exact .inl (by decide +kernel)
      · exact .inl (ZdO (by simp;omega) fun x hx=>hpf x (List.mem_reverse.mp hx))
    generalize hWe:[T,T,T,T,D.lst (cutD (ps.map pqD) (some 1) none),D.lst (ps.map pqD++cutD (ps.map pqD) none (some 1)),D.tup (ps.map pqD),D.lst [lqD ps],D.non,D.dic,D.lst (ps.map pqD).reverse]=W at hW ⊢
    have hWl:W.length=11:=by rw [← hWe];rfl
    clear hWe
    dsimp only [List.set_cons_succ,List.set_cons_zero]
    unfold lqD
    walk_at "st"
    have two:∀ a:Int,a.natAbs < 2 ^ 115→fx (.tup [.tup [.int a,.int 1],rowq p.2]) [3,7,7,7]=true:=fun a ha=>tp _ (by simp) fun x hx=>by
      simp only [List.mem_cons,List.not_mem_nil,or_false] at hx
      rcases hx with rfl | rfl
      · exact ZdN (by simp) fun x hx=>by
          simp only [List.mem_cons,List.not_mem_nil,or_false] at hx
          rcases hx with rfl | rfl
          · exact fx_int ha
          · decide +kernel
      · exact fr
    refine ⟨by decide,by decide,by decide,by decide,by decide,ZaR (by simp;omega),by decide,by decide,by decide,ZaR (by simp;omega),by decide,ZaR (by omega),Zay (n:=13) (by decide) (by decide) fun k13 hk13=>?_⟩
    obtain ⟨d,hd,hgd⟩:=at_all (P:=Th) (xs:=W++[D.lst (ps.map pqD++[D.tup [D.tup [D.int 1,D.int 1],rowq p.2],D.tup [D.tup [D.int (-1),D.int 1],rowq p.2]]),D.lst (ps.map pqD++[D.tup [D.tup [D.int 0,D.int 1],rowq p.2]])]) (k:=k13) (by simp [hWl];omega) (by
      intro x hx
      rcases List.mem_append.mp hx with hx | hx
      · exact hW x hx
      simp only [List.mem_cons,List.not_mem_nil,or_false] at hx
      rcases hx with rfl | rfl
      · refine .inl (ZdO (by simp;omega) fun x hx=>?_)
        rcases List.mem_append.mp hx with hx | hx
        · exact hpf x hx
        simp only [List.mem_cons,List.not_mem_nil,or_false] at hx
        rcases hx with rfl | rfl
        · exact two _ (by decide)
        · exact two _ (by decide)
      · refine .inl (ZdO (by simp;omega) fun x hx=>?_)
        rcases List.mem_append.mp hx with hx | hx
        · exact hpf x hx
        rw [List.mem_singleton.mp hx]
        exact two _ (by decide))
    exact ⟨d,hd,q d hgd⟩
end B.C.Q0
namespace B.C.Q0
theorem Th.kd {x:D} (h:Th x):kd x=true∧szD 115 x=true:=by
  rcases h with h | h
  · exact fx_kd x _ (by decide) h
  · exact fx_kd x _ (by decide) h
theorem repr_Th {x:D} {Q:D→Prop} (h:Th x) (q:Q (.str (rshow x))):gRepA [x] Q:=by
  rcases h with h | h
  · exact repr_fx h q
  · exact repr_fx h q
theorem ZfT:∀ ds E Q,ZaP ds E Q→Zcu E { nx:=fun _=>Q .non,rt:=Q } (rho ZdY ds):=by
  rintro _ E Q ⟨⟨⟨s,n⟩,x⟩,rfl,⟨h,he,hT⟩,q⟩
  dsimp only at h he hT q
  have hk:=hT.kd
  unfold Zcu
  show zSeq _ _ _ _ [.d (Zax s),.d (tblD s n),.d x,.un,.un]
  refine Zah (set_by (d:=.str (rshow x)) rfl (fun P hP=>?_) ?_)
  · walk_at "st"
    exact repr_Th hT hP
  dsimp only [List.set_cons_succ,List.set_cons_zero]
  refine Zah (set_by (d:=.bl (sqG s n x)) rfl (fun P hP=>?_) ?_)
  · walk_at "st"
    refine Zep h hk.1 hk.2 ?_
    unfold sqR
    rw [if_pos he]
    exact hP
  dsimp only [List.set_cons_succ,List.set_cons_zero]
  walk_at "st"
  refine Zdt (by rw [kd]) (by decide) fun t ht=>?_
  cases ht
  walk_at "st"
  rw [if_pos (by decide)]
  refine ZeE h he hk.1 hk.2 (Zc2 rfl rfl ?_)
  rw [if_neg (by simp),show deq (.bl (sqG s n x)) (.bl (sqG s n x))=true from Zgd (n:=1) rfl]
  walk_at "st"
  exact repr_Th hT ⟨_,_,rfl,rfl,by simpa using q⟩
theorem for_rl {w:WE} {g:WG} {zb:WS} {E:Ex→Prop} {N:Nds} {ρ:Rho} (R:List D→Prop) (hw:∀ P:D→Prop,(∀ xs,R xs→P (.lst xs))→w E ρ P) (h:∀ xs,R xs→Zb4 g zb E N xs ρ):zFor (iS w) g zb E N ρ:=hw _ h
theorem Th_lq {n:Nat} {ps:List Pr} (h:ps.length≤21) (h5:n≤5) (hp:∀ p∈ps,Pq 114 n p):Th (lqD ps):=.inl (fx_lq h (by decide) h5 fun p hq=>⟨(hp p hq).l,(hp p hq).w.mono (by decide),fun y hy=>((hp p hq).r y hy).mono (by decide)⟩)
theorem Pq.up {n b c:Nat} {p:Pr} (h:Pq b n p) (l:b≤c):Pq c n p:=⟨h.l,h.w.mono l,fun y hy=>(h.r y hy).mono l⟩
theorem ok_ev (k:Nat):okD (.tup [.str "even"]) (k+1)=true:=ZgQ fun x hx=>by rw [List.mem_singleton.mp hx,okD];decide +kernel
theorem rd_law:∀ ds E Q,S_law ds E Q→z_law E { nx:=fun _=>Q .non,rt:=Q } (rho N_law ds):=by
  rintro _ E Q ⟨xs,rfl,hx,q⟩
  dsimp only at hx q
  show z_law E _ [.d (.scr (xs.map .int)),.un,.un,.un,.un,.un,.un,.un,.un,.un,.un]
  generalize hS:D.scr (xs.map .int)=S
  unfold z_law
  have sl0:IsSl [0] 1:=⟨rfl,by decide,by decide,by decide⟩
  have sl3:IsSl [1,2,3] 2:=⟨rfl,by decide,by decide,by decide⟩
  refine Zah (ZeU (b:=false) (cmp_by (x:=.tup [.str "even"]) (y:=.tup [.str "even"]) (fun P h=>?_) (fun P h=>⟨by decide,h⟩) (fun P h=>Zc2 (ok_ev _) (ok_ev _) ?_)) (fun e=>nomatch e) fun _=>?_)
  · walk_at "st"
    exact ⟨by decide,Zep (s:=[1,2,3]) sl3 (by decide +kernel) (by decide +kernel) h⟩
  · rw [if_pos rfl,Zgd (ok_ev 1)];exact h
  dsimp only
  refine Zah (ZeU (b:=false) (or_by (b:=false) (c:=false) (fun P h=>?_) (fun P h=>?_)) (fun e=>nomatch e) fun _=>?_)
  · walk_at "st"
    refine ⟨by decide,by decide,by decide,by decide,Zcx (s:=[0]) sl0 rfl (.inl (by decide +kernel)) ?_⟩
    walk_at "st"
    exact h
  · walk_at "st"
    refine ⟨by decide,by decide,by decide,Zcx (s:=[0]) sl0 rfl (.inl (by decide +kernel)) ?_⟩
    walk_at "st"
    exact h
  dsimp only
  refine Zah ?_
  have ec:∃ cs:List Int,cutD (xs.map D.int) (some 1) (some 5)=cs.map D.int∧cs.length≤63:=by
    refine ⟨cutD xs (some 1) (some 5),?_,?_⟩
    · unfold cutD
      rw [List.length_map,List.map_take,List.map_drop]
    · unfold cutD
      rw [List.length_take,List.length_drop]
      omega
  obtain ⟨cs,ec,hcs⟩:=ec
  refine for_seq (xs:=(xs.getD 0 0::cs).map D.int) (fun P h=>?_) ?_
  · subst hS
    walk_at "st"
    refine u__law_cell_at (i:=0) ?_
    walk_at "st"
    rw [ec]
    exact ⟨by decide,by simp [small];omega,h⟩
  clear ec hcs
  refine for_all (fun ρ=>∃ s1 s2 s3 s4 s5 s6 s7 s8 s9 s10,ρ=[.d S,s1,s2,s3,s4,s5,s6,s7,s8,s9,s10]) _ ?_ ?_ _ ⟨_,_,_,_,_,_,_,_,_,_,rfl⟩
  rotate_left
  · rintro _ ⟨s1,s2,s3,s4,s5,s6,s7,s8,s9,s10,rfl⟩
    exact q
  rintro d hd _ ⟨s1,s2,s3,s4,s5,s6,s7,s8,s9,s10,rfl⟩ nx hnx
  obtain ⟨c,_,rfl⟩:=List.mem_map.mp hd
  clear hd
  show zSeq _ _ _ _ [.d S,.d (.int c),s2,s3,s4,s5,s6,s7,s8,s9,s10]
  refine Zah (set_by (d:=.pen) (ρ':=[.d S,.d (.int c),.d .pen,s3,s4,s5,s6,s7,s8,s9,s10]) (by rfl) (fun P h=>?_) ?_)
  · walk_at "st"
    exact u__law_pen_of h
  dsimp only
  refine Zah (Zea (fun d=>∃ s n,d=Zax s∧IsSl s n∧s.reverse=s) (fun P h=>?_) ?_)
  · walk_at "st"
    exact u__law_even_of fun s n hs he=>h _ ⟨s,n,rfl,hs,he⟩
  rintro _ ⟨s,n,rfl,hs,he⟩
  have n1:=hs.n1
  have n5:=hs.n5
  dsimp only [List.set_cons_succ,List.set_cons_zero]
  refine Zah (set_by (d:=tblD s n) (ρ':=[.d S,.d (.int c),.d .pen,.d (Zax s),.d (tblD s n),s5,s6,s7,s8,s9,s10]) (by rfl) (fun P h=>?_) ?_)
  · walk_at "st"
    exact Zgl hs h
  dsimp only
  refine Zah (Zea (fun d=>∃ m:Nat,d = .int m∧m≤n∧Stg s n m) (fun P h=>?_) ?_)
  · walk_at "st"
    exact ZfL hs fun m h1 h2=>h _ ⟨m,rfl,h1,h2⟩
  rintro _ ⟨m,rfl,hm,hst⟩
  dsimp only [List.set_cons_succ,List.set_cons_zero]
  refine Zah (Zea (fun d=>∃ ps:List Pr,d=lqD ps∧ps.length≤5∧∀ p∈ps,Pq 112 n p) (fun P h=>?_) ?_)
  · walk_at "st"
    exact Zgm hs he hm hst fun ps h1 h2=>h _ ⟨ps,rfl,h1,h2⟩
  rintro _ ⟨p1,rfl,hp1,hq1⟩
  dsimp only [List.set_cons_succ,List.set_cons_zero]
  refine Zah (Zea (fun d=>∃ ps:List Pr,d=lqD ps∧ps.length≤15∧∀ p∈ps,Pq 112 n p) (fun P h=>?_) ?_)
  · walk_at "st"
    exact u__law_by_twos hs fun ps h1 h2=>h _ ⟨ps,rfl,h1,h2⟩
  rintro _ ⟨p2,rfl,hp2,hq2⟩
  dsimp only [List.set_cons_succ,List.set_cons_zero]
  refine Zah (Zea (fun d=>∃ L:List (List Pr),d = .lst (L.map lqD)∧L.length=5∧∀ l∈L,l.length≤18∧∀ p∈l,Pq 114 n p) (fun P h=>?_) ?_)
  · walk_at "st"
    refine Zfy (n:=n) (by omega) hq1 fun p3 hp3 hq3=>?_
    rw [show lqD p2=D.lst (p2.map pqD) from rfl,Zbj,show cutD (p2.map pqD) none (some 9)=(p2.take 9).map pqD by rw [Zed (i:=9) (b:=9) rfl,List.map_take]]
    refine Zfy (n:=n) (ps:=p2.take 9) (by simp;omega) (fun p hp=>hq2 p (List.mem_of_mem_take hp)) fun p4 hp4 hq4=>?_
    refine ⟨by decide,by decide,h _ ⟨[p1,p2,p3,p4,[]],rfl,rfl,fun l hl=>?_⟩⟩
    simp only [List.mem_cons,List.not_mem_nil,or_false] at hl
    rcases hl with rfl | rfl | rfl | rfl | rfl
    · exact ⟨by omega,fun p hp=>(hq1 p hp).up (by decide)⟩
    · exact ⟨by omega,fun p hp=>(hq2 p hp).up (by decide)⟩
    · exact ⟨hp3,hq3⟩
    · exact ⟨hp4,hq4⟩
    · exact ⟨by simp,fun p hp=>nomatch hp⟩
  rintro _ ⟨L,rfl,hL,hLp⟩
  dsimp only [List.set_cons_succ,List.set_cons_zero]
  refine ZeG (fun ρ=>∃ t8 t9,ρ=[.d S,.d (.int c),.d .pen,.d (Zax s),.d (tblD s n),.d (.int m),.d (lqD p1),.d (lqD p2),t8,t9,s10]) (fun nx' hnx'=>?_) ?_
  · show zFor _ _ _ _ _ _
    refine for_rl (fun xs=>∀ x∈xs,Th x) (fun P h=>?_) fun xs hxs=>?_
    · walk_at "st"
      refine ⟨by decide,lc_some (R:=fun _ y=>Th y) (fun d hd Q hq=>?_) .un [] (by decide) fun ys hy hR=>⟨ZaR (by simp [hL];simp at hy;omega),h _ fun x hx=>?_⟩⟩
      · obtain ⟨k,rfl,hk⟩:∃ k:Nat,d = .int k∧k < 5:=by
          simp only [List.mem_cons,List.not_mem_nil,or_false] at hd
          rcases hd with rfl | rfl | rfl | rfl | rfl
          · exact ⟨0,rfl,by decide⟩
          · exact ⟨1,rfl,by decide⟩
          · exact ⟨2,rfl,by decide⟩
          · exact ⟨0,rfl,by decide⟩
          · exact ⟨1,rfl,by decide⟩
        walk_at "st"
        obtain ⟨l,hl⟩:∃ l,L[k]? = some l:=⟨_,List.getElem?_eq_getElem (by omega)⟩
        have:=hLp l (List.mem_of_getElem? hl)
        refine ⟨lqD l,atI_nat (by rw [List.getElem?_map,hl];rfl),Zeq n1 n5 this.1 this.2 fun d hd=>hq d hd⟩
      · rcases List.mem_append.mp hx with hx | hx
        · obtain ⟨l,hl,rfl⟩:=List.mem_map.mp hx
          exact Th_lq (by have:=(hLp l hl).1;omega) n5 (hLp l hl).2
        · obtain ⟨_,_,h⟩:=hR x (by simpa using hx)
          exact h
    · refine for_all (fun ρ=>∃ t8 t9,ρ=[.d S,.d (.int c),.d .pen,.d (Zax s),.d (tblD s n),.d (.int m),.d (lqD p1),.d (lqD p2),t8,t9,s10]) _ ?_ ?_ _ ⟨_,_,rfl⟩
      · rintro d hd _ ⟨t8,t9,rfl⟩ nx2 hnx2
        show zIf _ _ _ _ _ [.d S,.d (.int c),.d .pen,.d (Zax s),.d (tblD s n),.d (.int m),.d (lqD p1),.d (lqD p2),t8,.d d,s10]
        walk_at "st"
        refine Zcx hs he (hxs d hd) ?_
        walk_at "st"
        exact hnx2 _ ⟨_,_,rfl⟩
      · exact hnx'
  · rintro _ ⟨t8,t9,rfl⟩
    refine Zah (Zea (fun d=>∃ s' n',d=Zax s'∧IsSl s' n') (fun P h=>?_) ?_)
    · walk_at "st"
      exact Zdr fun s' n' hs'=>h _ ⟨s',n',rfl,hs'⟩
    rintro _ ⟨s',n',rfl,hs'⟩
    dsimp only [List.set_cons_succ,List.set_cons_zero]
    have hTh:=(Th_lq (n:=n) (ps:=p2) (by omega) n5 fun p hp=>(hq2 p hp).up (by decide)).kd
    refine ZeU (b:=false) (fun P h=>?_) (fun e=>nomatch e) fun _=>hnx _ ⟨_,_,_,_,_,_,_,_,_,_,rfl⟩
    walk_at "st"
    refine Zc2 (ZeR _ _) (ZeR _ _) ?_
    rw [if_pos rfl,deq_intsT]
    by_cases hr:s'=s'.reverse
    · rw [decide_eq_true hr]
      exact h
    · rw [decide_eq_false hr]
      walk_at "st"
      refine Zep hs' hTh.1 hTh.2 ⟨by decide,?_⟩
      unfold sqR
      rw [if_neg fun z=>hr z.symm]
      show gEq true (.tup [.str "even"]) (.tup [.str "even"]) _
      refine Zc2 (ok_ev _) (ok_ev _) ?_
      rw [if_pos rfl,Zgd (ok_ev 1)]
      exact h
end B.C.Q0
def sumN (f:Nat→Rat):Nat→Rat
  | 0=>0
  | n+1=>sumN f n+f n
theorem Zcm {f g:Nat→Rat}:∀ {n:Nat},(∀ i,i < n→f i=g i)→sumN f n=sumN g n
  | 0,_=>rfl
  | n+1,h=>by rw [sumN,sumN,Zcm (fun i hi=>h i (by omega)),h n (by omega)]
theorem ZdG {f:Nat→Rat}:∀ {n:Nat},(∀ i,i < n→f i=0)→sumN f n=0
  | 0,_=>rfl
  | n+1,h=>by rw [sumN,ZdG (fun i hi=>h i (by omega)),h n (by omega),Rat.add_zero]
theorem Zer {f:Nat→Rat} {k:Nat}:∀ {n:Nat},k < n→(∀ i,i < n→i≠k→f i=0)→sumN f n=f k
  | 0,h,_=>by omega
  | n+1,h,h0=>by
    rw [sumN]
    by_cases e:k=n
    · subst e
      rw [ZdG (fun i hi=>h0 i (by omega) (by omega)),Rat.zero_add]
    · rw [Zer (k:=k) (by omega) (fun i hi hk=>h0 i (by omega) hk),h0 n (by omega) (Ne.symm e),Rat.add_zero]
theorem sumN_sub (f g:Nat→Rat):∀ n:Nat,sumN (fun i=>f i - g i) n=sumN f n - sumN g n
  | 0=>by simp only [sumN];grind
  | n+1=>by rw [sumN,sumN,sumN,sumN_sub f g n];grind
namespace Dt
open B.C
theorem sumN_add (f g:Nat→Rat):∀ n:Nat,sumN (fun i=>f i+g i) n=sumN f n+sumN g n
  | 0=>by simp only [sumN];grind
  | n+1=>by rw [sumN,sumN,sumN,sumN_add f g n];grind
theorem sumN_mul (f:Nat→Rat) (c:Rat):∀ n:Nat,sumN (fun i=>c*f i) n=c*sumN f n
  | 0=>by simp only [sumN];grind
  | n+1=>by rw [sumN,sumN,sumN_mul f c n];grind
theorem sumN_swap (f:Nat→Nat→Rat) (m:Nat):∀ n:Nat,sumN (fun i=>sumN (fun j=>f i j) m) n=sumN (fun j=>sumN (fun i=>f i j) n) m
  | 0=>by rw [sumN];exact (ZdG fun _ _=>rfl).symm
  | n+1=>by
    rw [sumN,sumN_swap f m n,← sumN_add]
    rfl
theorem sumN_cast (f:Nat→Int):∀ n:Nat,sumN (fun i=>((f i:Int):Rat)) n=((sumI f n:Int):Rat)
  | 0=>rfl
  | n+1=>by rw [sumN,sumI,sumN_cast f n,Rat.intCast_add]
theorem null_q (A:Nat→R) {n:Nat} (hn:n≤5) {w:Nat→Rat} (h:∀ i,i < n→sumN (fun j=>(A i j:Rat)*w j) n=0) {j:Nat} (hj:j < n):(dt A n:Rat)*w j=0:=by
  have e:sumN (fun k=>(cof A n k j:Rat)*sumN (fun l=>(A k l:Rat)*w l) n) n=(dt A n:Rat)*w j:=by
    rw [Zcm (g:=fun k=>sumN (fun l=>(cof A n k j:Rat)*((A k l:Rat)*w l)) n) (fun k _=>(sumN_mul _ _ n).symm),sumN_swap]
    rw [Zcm (g:=fun l=>w l*((sumI (fun k=>A k l*cof A n k j) n:Int):Rat)) (fun l _=>by
      rw [← sumN_cast,← sumN_mul]
      exact Zcm fun k _=>by rw [Rat.intCast_mul];grind)]
    rw [Zer (k:=j) hj (fun i hi ne=>by rw [adj_col A hn hi hj,if_neg ne];exact Rat.mul_zero _),adj_col A hn hj hj,if_pos rfl,Rat.mul_comm]
  rw [← e]
  exact ZdG fun k hk=>by rw [h k hk,Rat.mul_zero]
theorem sumN_split (f:Nat→Rat) (n:Nat):∀ m:Nat,sumN f (n+m)=sumN f n+sumN (fun j=>f (n+j)) m
  | 0=>by rw [sumN,Nat.add_zero,Rat.add_zero]
  | m+1=>by rw [← Nat.add_assoc,sumN,sumN_split f n m,sumN];grind
end Dt
namespace B.C.Q0
theorem tT_at {s:List Int} {n i j:Nat} (h:IsSl s n) (hi:i < n) (hj:j < n):tT s n i j=s.getD (n - 1 - i+j) 0:=by
  unfold tT ga gr
  have hl:=h.len
  simp only [List.getD_eq_getElem?_getD]
  rw [tbl_get hi]
  simp only [Option.getD_some]
  rw [List.getElem?_take,if_pos hj,List.getElem?_drop]
theorem tT_sym {s:List Int} {n i j:Nat} (h:IsSl s n) (he:s.reverse=s) (hi:i < n) (hj:j < n):tT s n i j=tT s n j i:=by
  have hl:=h.len
  rw [tT_at h hi hj,tT_at h hj hi]
  simp only [List.getD_eq_getElem?_getD]
  conv=>lhs;rw [← he]
  rw [List.getElem?_reverse (by omega)]
  rw [show s.length - 1 - (n - 1 - i+j)=n - 1 - j+i by omega]
structure Nl (s:List Int) (n a:Nat) (L:Nat→Nat→Rat):Prop where
  sym:∀ i j,i < n→j < n→L i j=L j i
  zero:∀ i j,i < n→j < n→i < a→L i j=0
  vec:∀ c,a≤c→c < n→∃ x:Nat→Rat,x c=1∧(∀ j,a≤j→j≠c→x j=0)∧∀ i,i < n→sumN (fun j=>(tT s n i j:Rat)*x j) n=L i c
theorem Nl.start {s:List Int} {n:Nat} (h:IsSl s n) (he:s.reverse=s):Nl s n 0 fun i j=>(tT s n i j:Rat) where
  sym:=fun i j hi hj=>by rw [tT_sym h he hi hj]
  zero:=fun i j _ _ h=>absurd h (by omega)
  vec:=fun c _ hc=>⟨fun j=>if j=c then 1 else 0,if_pos rfl,fun j _ hj=>if_neg hj,fun i hi=>by
    rw [Zer (k:=c) hc (fun j _ hj=>by dsimp only;rw [if_neg hj,Rat.mul_zero])];dsimp only;rw [if_pos rfl,Rat.mul_one]⟩
theorem Nl.step {s:List Int} {n a:Nat} {L L':Nat→Nat→Rat} (h:Nl s n a L) (ha:a < n) (h0:L a a≠0) (e:∀ i j,i < n→j < n→L' i j=L i j - L a i*(L a j / L a a)):Nl s n (a+1) L' where
  sym:=fun i j hi hj=>by
    rw [e i j hi hj,e j i hj hi,h.sym i j hi hj]
    grind
  zero:=fun i j hi hj hl=>by
    rw [e i j hi hj]
    rcases Nat.lt_or_ge i a with hia | hia
    · rw [h.zero i j hi hj hia,h.sym a i ha hi,h.zero i a hi ha hia];grind
    · have:i=a:=by omega
      subst this
      grind
  vec:=fun c hc hcn=>by
    obtain ⟨x,x1,x2,x3⟩:=h.vec c (by omega) hcn
    obtain ⟨y,y1,y2,y3⟩:=h.vec a (Nat.le_refl a) ha
    refine ⟨fun j=>x j - L a c / L a a*y j,?_,fun j hj hjc=>?_,fun i hi=>?_⟩
    · show x c - L a c / L a a*y c=1
      rw [x1,y2 c (by omega) (by omega)];grind
    · show x j - L a c / L a a*y j=0
      rw [x2 j (by omega) hjc,y2 j (by omega) (by omega)];grind
    · have:sumN (fun j=>(tT s n i j:Rat)*(x j - L a c / L a a*y j)) n=sumN (fun j=>(tT s n i j:Rat)*x j - L a c / L a a*((tT s n i j:Rat)*y j)) n:=Zcm fun j _=>by grind
      rw [this,sumN_sub,Dt.sumN_mul,x3 i hi,y3 i hi,e i c hi hcn,h.sym a i ha hi]
      grind
theorem crn_Sm {s:List Int} {n a:Nat} (hs:IsSl s n) (ha:a < n):Sm 10 (a+1) (crn (tbl s n) (a+1)):=by
  have hl:=Zcy s n
  exact ⟨by unfold crn;simp [hl];omega,fun r hr=>by
    unfold crn at hr
    obtain ⟨r0,hr0,rfl⟩:=List.mem_map.mp hr
    have:=(Zcd hs r0 (List.mem_of_mem_take hr0)).1
    rw [List.length_take];omega,fun r hr x hx=>by
    unfold crn at hr
    obtain ⟨r0,hr0,rfl⟩:=List.mem_map.mp hr
    have:=(Zcd hs r0 (List.mem_of_mem_take hr0)).2 x (List.mem_of_mem_take hx)
    show x.natAbs < 1024
    omega⟩
theorem Nl.piv {s:List Int} {n a m:Nat} {L:Nat→Nat→Rat} (h:Nl s n a L) (hs:IsSl s n) (hm:m≤n) (ha:a < m) (hst:Stg s n m):L a a≠0:=by
  intro z
  have h5:=hs.n5
  have hl:=Zcy s n
  obtain ⟨y,y1,y2,y3⟩:=h.vec a (Nat.le_refl a) (by omega)
  have sm:=crn_Sm (a:=a) hs (by omega)
  have nd:=Dt.num_dt sm (by omega)
  have ext:∀ i,i < a+1→∀ j,j < a+1→Dt.tA (crn (tbl s n) (a+1)) i j=tT s n i j:=fun i hi j hj=>by
    unfold Dt.tA crn tT ga gr
    simp only [List.getD_eq_getElem?_getD]
    rw [List.getElem?_map,List.getElem?_take,if_pos hi,List.getElem?_eq_getElem (l:=tbl s n) (by omega)]
    simp only [Option.map_some,Option.getD_some]
    rw [List.getElem?_take,if_pos hj]
  have nq:=Dt.null_q (Dt.tA (crn (tbl s n) (a+1))) (n:=a+1) (by omega) (w:=y) (fun i hi=>?_) (j:=a) (by omega)
  · rw [y1,Rat.mul_one] at nq
    refine hst a ha ?_
    rw [nd]
    exact_mod_cast nq
  · have e1:sumN (fun j=>(Dt.tA (crn (tbl s n) (a+1)) i j:Rat)*y j) (a+1)=sumN (fun j=>(tT s n i j:Rat)*y j) (a+1):=Zcm fun j hj=>by rw [ext i hi j hj]
    have e2:sumN (fun j=>(tT s n i j:Rat)*y j) n=sumN (fun j=>(tT s n i j:Rat)*y j) (a+1):=by
      obtain ⟨d,rfl⟩:∃ d,n=a+1+d:=⟨n - (a+1),by omega⟩
      rw [Dt.sumN_split,ZdG (n:=d) (fun j _=>by rw [y2 (a+1+j) (by omega) (by omega),Rat.mul_zero]),Rat.add_zero]
    rw [e1,← e2,y3 i (by omega)]
    rcases Nat.lt_or_ge i a with hia | hia
    · exact h.zero i a (by omega) (by omega) hia
    · have:i=a:=by omega
      subst this
      exact z
end B.C.Q0
namespace B.C.Q0
theorem Zf:∀ ds E Q,Zbc ds E Q→Zcb E { nx:=fun _=>Q .non,rt:=Q } (rho Zdx ds):=by
  rintro _ E Q ⟨⟨s,n⟩,rfl,h,q⟩
  dsimp only at h q
  have h5:=h.n5
  unfold Zcb
  show zSeq _ _ _ _ [.d (tblD s n),.un]
  refine Zah (set_by (d:=.int 0) (ρ':=[.d (tblD s n),.d (.int 0)]) rfl (fun P h=>h) ?_)
  dsimp only
  refine Zah ?_
  simp only [zNox,zWhile]
  refine ⟨fun k ρ=>∃ m:Nat,k+m=n∧m≤n∧Stg s n m∧ρ=[.d (tblD s n),.d (.int m)],⟨n,0,by omega,by omega,fun k hk=>absurd hk (by omega),rfl⟩,?_⟩
  rintro k _ ⟨m,hk,hm,hst,rfl⟩
  walk_at "st"
  by_cases hmn:m < n
  · rw [decide_eq_true (by exact_mod_cast hmn)]
    walk_at "st"
    rw [Zed (b:=m+1) (by omega),← List.map_take]
    have hl:=Zcy s n
    refine ZgT (g:=Zaq) (f:=fun r=>Zaq (r.take (m+1))) ((tbl s n).take (m+1)) (fun r hr Q hq=>?_) .un [] (by simp [small];omega) ?_
    · unfold Zaq
      walk_at "st"
      rw [Zed (b:=m+1) (by omega),← List.map_take]
      exact hq
    have sm:=crn_Sm (a:=m) h hmn
    refine ⟨crn (tbl s n) (m+1),?_,⟨by rw [sm.len];exact sm,by rw [sm.len];omega⟩,?_⟩
    · unfold tabD crn
      dsimp only
      rw [List.map_map]
      rfl
    dsimp only
    walk_at "st"
    by_cases hz:numF (crn (tbl s n) (m+1))=0
    · rw [hz]
      walk_at "st"
      exact q _ ⟨m,rfl,hm,hst⟩
    · rw [if_pos (by simpa using hz)]
      refine ⟨k - 1,by omega,m+1,by omega,by omega,fun j hj=>?_,rfl⟩
      rcases Nat.lt_or_ge j m with hjm | hjm
      · exact hst j hjm
      · rw [show j=m by omega];exact hz
  · rw [decide_eq_false (by simpa using hmn)]
    walk_at "st"
    exact q _ ⟨m,rfl,hm,hst⟩
theorem lc_pq {we:WE} {tail:Rho} {Q:List D→Prop} {f:Pr→D}:∀ (L:List Pr),(∀ p∈L,∀ Q:D→Prop,Q (f p)→we No (.d (shq p.1)::.d (rowq p.2)::tail) Q)→∀ (sv sv':SV) (acc:List D),acc.length+L.length≤small→Q (acc++L.map f)→lcW (gTp 2 (Zat (gN 0) (Zat (gN 1) Za9))) ZaF we (L.map pqD) (sv::sv'::tail) acc Q
  | [],_,sv,sv',acc,_,hq=>by rw [List.map_nil,lcW];simpa using hq
  | p::L,h,sv,sv',acc,hl,hq=>by
    rw [List.map_cons,lcW]
    refine ⟨rfl,?_⟩
    show we No (SV.d (shq p.1)::SV.d (rowq p.2)::tail) _
    rw [List.length_cons] at hl
    refine h p (by simp) _ ⟨by omega,lc_pq L (fun a ha=>h a (by simp [ha])) _ _ _ (by simp;omega) ?_⟩
    rw [List.append_assoc]
    simpa using hq
theorem dz_pq {n i j:Nat}:∀ {ps:List Pr} {N:Nat},(∀ p∈ps,Pq 115 n p)→i < n→j < n→ps.length*346≤N→Dz N (ps.map (·.1)) (ps.map fun p=>p.2.getD i 0*p.2.getD j 0)
  | [],_,_,_,_,_=>trivial
  | p::ps,N,h,hi,hj,hl=>by
    have hp:=h p (by simp)
    rw [List.length_cons,Nat.succ_mul] at hl
    have g:∀ k,k < n→Sz 115 (p.2.getD k 0):=fun k hk=>by
      rw [List.getD_eq_getElem?_getD,List.getElem?_eq_getElem (by rw [hp.l];exact hk)]
      exact hp.r _ (List.getElem_mem _)
    exact ⟨115,230,hp.w,(g i hi).mul (g j hj),by omega,dz_pq (fun q hq=>h q (by simp [hq])) hi hj (by omega)⟩
theorem dot_pq (i j:Nat):∀ ps:List Pr,dot (ps.map (·.1)) (ps.map fun p=>p.2.getD i 0*p.2.getD j 0)=gs ps i j
  | []=>rfl
  | p::ps=>by rw [List.map_cons,List.map_cons,dot,gs,dot_pq i j ps]
theorem u_dot1 {E:Ex→Prop} {Q:D→Prop} {x y:Rat} {n m:Nat} (h1:Sz n x) (h2:Sz m y) (hb:n+m+1≤8989) (q:Q (shq (x*y))):Zbf [.lst [shq x],.lst [shq y]] E Q:=by
  refine ⟨((false,false),[x],[y]),rfl,⟨n,m,h1,h2,hb,trivial⟩,?_⟩
  show Q (shq (x*y+0))
  rw [Rat.add_zero]
  exact q
theorem pub5 (a b c d e f:SV):∃ g,pub 5 [a,b,c,d,e,f]=[a,b,c,d,e,g]:=by
  cases f<;>exact ⟨_,rfl⟩
theorem sqE_low {s:List Int} {n:Nat} {ps:List Pr} (h:IsSl s n) (he:s.reverse=s) (hl:∀ i,i < n→∀ j,j < i+1→gs ps i j=(tT s n i j:Rat)):sqE s n ps:=fun i hi j hj=>by
  have gsym:∀ (ps:List Pr) (i j:Nat),gs ps i j=gs ps j i:=fun ps i j=>by
    induction ps with
    | nil=>rfl
    | cons p ps ih=>rw [gs,gs,ih];grind
  rcases Nat.lt_or_ge j (i+1) with h1 | h1
  · exact hl i hi j h1
  · rw [gsym,hl j hj i (by omega),tT_sym h he hj hi]
theorem Zeu:∀ ds E Q,Za2 ds E Q→Zbg E { nx:=fun _=>Q .non,rt:=Q } (rho ZcN ds):=by
  rintro _ E Q ⟨⟨⟨s,n⟩,x⟩,rfl,⟨h,he,hk,hz⟩,q⟩
  dsimp only at h he hk hz q
  have h5:=h.n5
  unfold Zbg
  walk_at "nx"
  refine Zdt hk (by decide) fun t ht=>?_
  cases x<;>cases ht<;>try exact q
  rename_i xs
  obtain ⟨hl,hx⟩:=kd_lst hk
  walk_at "st"
  simp only [show isTy "list" "list" = true from rfl,Bool.not_true,Bool.false_eq_true,if_false]
  replace q:Q (.bl ((decide (xs.length≤10) && xs.all (isWg n)) && decide (sqE s n (sqs (.lst xs))))):=q
  walk_at "st"
  by_cases h10:xs.length≤10
  · rw [if_neg (by simp;omega)]
    refine ZeG (fun ρ=>xs.all (isWg n)=true∧∃ s2,ρ=[.d (tblD s n),.d (.lst xs),s2,.un,.un,.un]) (fun nx hnx=>?_) ?_
    · show zFor _ _ _ _ _ _
      refine for_seq (xs:=xs) (Zd9 rfl) ?_
      refine Zfk (fun ds ρ=>∃ a s2,xs=a++ds∧a.all (isWg n)=true∧ρ=[.d (tblD s n),.d (.lst xs),s2,.un,.un,.un]) ?_ ?_ _ _ ⟨[],_,rfl,rfl,rfl⟩
      · rintro d ds _ ⟨a,s2,hxs,ha,rfl⟩ nx2 hnx2
        show zSeq _ _ _ _ [.d (tblD s n),.d (.lst xs),.d d,.un,.un,.un]
        have hd:kd d=true:=hx d (by rw [hxs];simp)
        have bad:isWg n d=false→Q (.bl false):=fun z=>by
          have:xs.all (isWg n)=false:=by rw [hxs,List.all_append,List.all_cons,z];simp
          rw [this] at q
          simpa using q
        have good:isWg n d=true→nx2 [.d (tblD s n),.d (.lst xs),.d d,.un,.un,.un]:=fun z=>hnx2 _ ⟨a++[d],_,by rw [hxs];simp,by rw [List.all_append,ha,List.all_cons,z];rfl,rfl⟩
        clear hnx2 hnx q ha hxs
        walk_at "nx"
        refine Zdt hd (by decide) fun t ht=>?_
        cases d<;>cases ht<;>try exact bad rfl
        rename_i ys
        obtain ⟨hyl,hy⟩:=ZfD hd
        simp only [show isTy "tuple" "tuple" = true from rfl,Bool.not_true,Bool.false_eq_true,if_false]
        walk_at "st"
        match ys,hyl,hy,bad,good with
        | [],_,_,bad,_=>walk_at "st";exact bad rfl
        | [u],_,_,bad,_=>walk_at "st";exact bad rfl
        | u::v::w::r,_,_,bad,_=>
          walk_at "st"
          rw [if_pos (by simp;omega)]
          exact bad rfl
        | [u,v],_,hy,bad,good=>
          walk_at "st"
          rw [if_neg (by simp)]
          refine ⟨_,rfl,ZcZ (hy u (by simp)) ?_⟩
          cases hu:isSh u with
          | false=>walk_at "st";exact bad (by rw [isWg,hu];rfl)
          | true=>
            obtain ⟨p,rfl⟩:=Zgb hu
            walk_at "st"
            refine ⟨_,rfl,by decide,Zc2 (Zfj _ _) (by decide) ?_⟩
            rw [if_neg (by simp),deq_nt]
            cases hp:decide (p=0) with
            | true=>walk_at "st";exact bad (by rw [isWg,hu,Zes,hp];rfl)
            | false=>
              walk_at "st"
              refine ⟨_,rfl,Zgn (hy v (by simp)) ?_⟩
              cases hv:ZeT n v with
              | false=>walk_at "st";exact bad (by rw [isWg,hu,Zes,hp,hv];rfl)
              | true=>walk_at "st";exact good (by rw [isWg,hu,Zes,hp,hv];rfl)
      · rintro _ ⟨a,s2,hxs,ha,rfl⟩
        rw [List.append_nil] at hxs
        subst hxs
        exact hnx _ ⟨ha,_,rfl⟩
    rintro _ ⟨ha,s2,rfl⟩
    obtain ⟨ps,rfl,hps⟩:=wgs_inv ha
    rw [ha,decide_eq_true h10,show sqs (.lst (ps.map pqD))=ps from sqs_lq ps] at q
    have hpq:=sz_pq hz fun p hp=>(hps p hp).1
    rw [List.length_map] at h10
    clear hps hx hl hk hz ha
    show zSeq _ _ _ _ [.d (tblD s n),.d (lqD ps),s2,.un,.un,.un]
    refine ZeG (fun ρ=>(∀ i,i < n→∀ j,j < i+1→gs ps i j=(tT s n i j:Rat))∧∃ s2 s3 s4 s5,ρ=[.d (tblD s n),.d (lqD ps),s2,s3,s4,s5]) (fun nx hnx=>?_) ?_
    · show zFor _ _ _ _ _ _
      walk_at "st"
      refine ⟨by omega,by omega,?_⟩
      refine ZeV (fun k ρ=>(∀ i,i < k→∀ j,j < i+1→gs ps i j=(tT s n i j:Rat))∧∃ s2 s3 s4 s5,ρ=[.d (tblD s n),.d (lqD ps),s2,s3,s4,s5]) n ?_ (fun ρ hρ=>hnx ρ hρ) _ ⟨fun i hi=>absurd hi (by omega),_,_,_,_,rfl⟩
      rintro k hkn _ ⟨hk,s2,s3,s4,s5,rfl⟩ nx2 hnx2
      obtain ⟨s5',e5⟩:=pub5 (.d (tblD s n)) (.d (lqD ps)) s2 (.d (.int k)) s4 s5
      show zFor _ _ _ _ _ (pub 5 [.d (tblD s n),.d (lqD ps),s2,.d (.int k),s4,s5])
      rw [e5]
      clear e5
      walk_at "st"
      refine ⟨by omega,by omega,?_⟩
      rw [show ((k:Int)+1)=((k+1:Nat):Int) by omega]
      refine ZeV (fun l ρ=>(∀ j,j < l→gs ps k j=(tT s n k j:Rat))∧∃ s2 s4 s5,ρ=[.d (tblD s n),.d (lqD ps),s2,.d (.int k),s4,s5]) (k+1) ?_ ?_ _ ⟨fun j hj=>absurd hj (by omega),_,_,_,rfl⟩
      · rintro l hlk _ ⟨hl,s2,s4,s5,rfl⟩ nx3 hnx3
        have hln:l < n:=by omega
        have gk:∀ p∈ps,∀ k,k < n→(p.2.map shq)[k]? = some (shq (p.2.getD k 0))∧Sz 115 (p.2.getD k 0):=fun p hp k hk=>by
          have:=hpq p hp
          rw [List.getD_eq_getElem?_getD,List.getElem?_map,List.getElem?_eq_getElem (by rw [this.l];exact hk)]
          exact ⟨rfl,this.r _ (List.getElem_mem _)⟩
        show zSeq _ _ _ _ [.d (tblD s n),.d (lqD ps),s2,.d (.int k),.d (.int l),s5]
        refine Zah (ZeO (xs:=ps.map fun p=>shq (p.2.getD k 0*p.2.getD l 0)) (ρ':=[.d (tblD s n),.d (lqD ps),s2,.d (.int k),.d (.int l),.ow (ps.map fun p=>shq (p.2.getD k 0*p.2.getD l 0))]) rfl (fun P hP=>?_) ?_)
        · unfold lqD
          walk_at "st"
          refine lc_pq (f:=fun p=>shq (p.2.getD k 0*p.2.getD l 0)) ps (fun p hp Q hq=>?_) .un .un [] (by simp [small];omega) (by simpa using hP)
          unfold rowq
          walk_at "st"
          refine ⟨_,atI_nat (gk p hp k hkn).1,by decide,_,atI_nat (gk p hp l hln).1,by decide,u_dot1 (gk p hp k hkn).2 (gk p hp l hln).2 (by decide) hq⟩
        dsimp only
        unfold zPub
        rw [show pub 5 [.d (tblD s n),.d (lqD ps),s2,.d (.int k),.d (.int l),.ow (ps.map fun p=>shq (p.2.getD k 0*p.2.getD l 0))]=[.d (tblD s n),.d (lqD ps),s2,.d (.int k),.d (.int l),.d (.lst (ps.map fun p=>shq (p.2.getD k 0*p.2.getD l 0)))] from rfl]
        refine ZeU (b:=!decide (gs ps k l=(tT s n k l:Rat))) (cmp_by (x:=shq (gs ps k l)) (y:=shq (tT s n k l:Rat)) (fun P hP=>?_) (fun P hP=>?_) (fun P hP=>Zc2 (Zfj _ _) (Zfj _ _) ?_)) (fun e=>?_) fun e=>?_
        · unfold lqD
          walk_at "st"
          refine lc_pq (f:=fun p=>shq p.1) ps (fun p hp Q hq=>?_) .un .un [] (by simp [small];omega) ?_
          · walk_at "st"
            exact hq
          · refine ⟨((false,false),ps.map (·.1),ps.map fun p=>p.2.getD k 0*p.2.getD l 0),by simp [seqD],dz_pq hpq hkn hln (by omega),?_⟩
            dsimp only
            rw [dot_pq]
            exact hP
        · rw [ZdH] at hP
          walk_at "st"
          have ht:=Zcy s n
          have hr:=(Zcd h _ (List.getElem_mem (show k < (tbl s n).length by omega))).1
          refine ⟨Zaq (gr (tbl s n) k),atI_nat (by unfold gr;rw [List.getD_eq_getElem?_getD,List.getElem?_map,List.getElem?_eq_getElem (by omega)];rfl),?_⟩
          walk_at "st"
          refine ⟨.int (tT s n k l),atI_nat ?_,by decide,hP⟩
          unfold tT ga gr
          simp only [List.getD_eq_getElem?_getD]
          rw [List.getElem?_map,List.getElem?_eq_getElem (l:=tbl s n) (by omega)]
          simp only [Option.getD_some]
          rw [List.getElem?_eq_getElem (by omega)]
          rfl
        · rw [if_pos rfl,deq_shq]
          exact hP
        · have e:¬ gs ps k l=(tT s n k l:Rat):=by simpa using e
          rw [decide_eq_false (fun z:sqE s n ps=>e (z k hkn l hln))] at q
          exact q
        · have e:gs ps k l=(tT s n k l:Rat):=by simpa using e
          refine hnx3 _ ⟨fun j hj=>?_,_,_,_,rfl⟩
          rcases Nat.lt_or_ge j l with h1 | h1
          · exact hl j h1
          · rw [show j=l by omega];exact e
      · rintro _ ⟨hl,s2,s4,s5,rfl⟩
        refine hnx2 _ ⟨fun i hi j hj=>?_,_,_,_,_,rfl⟩
        rcases Nat.lt_or_ge i k with h1 | h1
        · exact hk i h1 j hj
        · have:i=k:=by omega
          subst this
          exact hl j hj
    · rintro _ ⟨hlow,s2,s3,s4,s5,rfl⟩
      rw [decide_eq_true (sqE_low h he hlow)] at q
      exact q
  · rw [if_pos (by simp;omega)]
    rw [decide_eq_false h10] at q
    exact q
end B.C.Q0
namespace B.C.Q0
theorem u_ix {s:List Int} {n i j:Nat} {Q:D→Prop} (h:IsSl s n) (hi:i < n) (hj:j < n) (q:Q (.int (tT s n i j))):∃ d,atI ((tbl s n).map Zaq) (i:Int)=some d∧gIx d (.int j) Q:=by
  have ht:=Zcy s n
  have hr:=(Zcd h _ (List.getElem_mem (show i < (tbl s n).length by omega))).1
  refine ⟨Zaq (gr (tbl s n) i),atI_nat (by unfold gr;rw [List.getD_eq_getElem?_getD,List.getElem?_map,List.getElem?_eq_getElem (by omega)];rfl),?_⟩
  refine ⟨.int (tT s n i j),atI_nat ?_,q⟩
  unfold tT ga gr
  simp only [List.getD_eq_getElem?_getD]
  rw [List.getElem?_map,List.getElem?_eq_getElem (l:=tbl s n) (by omega)]
  simp only [Option.getD_some]
  rw [List.getElem?_eq_getElem (by omega)]
  rfl
theorem tT_b {s:List Int} {n i j:Nat} (h:IsSl s n) (hi:i < n) (hj:j < n):-50≤tT s n i j∧tT s n i j≤50:=by
  have hl:=h.len
  rw [tT_at h hi hj,List.getD_eq_getElem?_getD,List.getElem?_eq_getElem (by omega)]
  exact h.b _ (List.getElem_mem _)
theorem ZeW:∀ r:List Rat,Zdq (r.map shq)=true
  | []=>by rw [List.map_nil,Zdq]
  | q::r=>by rw [List.map_cons,Zdq,ZeW r];rfl
theorem flat_pq (a b:D) (r:List Rat) (ha:flat a=true) (hb:flat b=true):flat (.tup [.tup [a,b],rowq r])=true:=by
  rw [flat,Zdq,flat,Zdq,Zdq,Zdq,ha,hb,Zdq,Zdq,rowq,flat,ZeW];rfl
def tri:Nat→Nat
  | 0=>0
  | i+1=>tri i+i
def bits (c:Nat→Bool) (n:Nat):List Rat:=(List.range n).map fun k=>(((if c k then 1 else 0:Int)):Rat)
theorem bits_pq {w:Int} {c:Nat→Bool} {n:Nat} (h:-3000≤w∧w≤3000):Pq 112 n ((w:Rat),bits c n) where
  l:=by simp [bits]
  w:=Sz.int w (by decide) (Nat.lt_of_lt_of_le (show w.natAbs < 2 ^ 12 by show w.natAbs < 4096;omega) (Nat.pow_le_pow_right (by decide) (by decide)))
  r:=fun y hy=>by
    obtain ⟨k,_,rfl⟩:=List.mem_map.mp hy
    refine Sz.int _ (by decide) (Nat.lt_of_lt_of_le (show _ < 2 ^ 2 from ?_) (Nat.pow_le_pow_right (by decide) (by decide)))
    split<;>decide
theorem lc_bits {we:WE} {tail:Rho} {Q:List D→Prop} {c:Nat→Bool} {n:Nat} (h5:n≤5) (h:∀ k,k < n→∀ P:D→Prop,P (.tup [.int (if c k then 1 else 0),.int 1])→we No (.d (.int k)::tail) P) (sv:SV) (q:Q ((bits c n).map shq)):lcW (gN 0) ZaF we (rng 0 n) (sv::tail) [] Q:=by
  rw [rng0]
  refine ZgT (g:=fun k:Nat=>D.int (k:Int)) (f:=fun k=>shq (((if c k then 1 else 0:Int)):Rat)) (List.range n) (fun k hk Q hq=>h k (List.mem_range.mp hk) _ (by rw [← ZdH];exact hq)) sv [] (by simp [small];omega) ?_
  unfold bits at q
  rw [List.map_map] at q
  exact q
def BI (s:List Int) (n c b:Nat) (ρ:Rho):Prop:=∃ (acc:List Pr) (u:List Int) (s4 s5 s6:SV),acc.length≤c∧(∀ p∈acc,Pq 112 n p)∧u.length=n∧(∀ x∈u,-(b:Int)≤x∧x≤b)∧ρ=[.d (tblD s n),.d (.int n),.ow (acc.map pqD),.ow (u.map .int),s4,s5,s6]
theorem BI.up {s:List Int} {n c b c' b':Nat} {ρ:Rho} (h:BI s n c b ρ) (h1:c≤c') (h2:b≤b'):BI s n c' b' ρ:=by
  obtain ⟨acc,u,s4,s5,s6,a1,a2,a3,a4,e⟩:=h
  exact ⟨acc,u,s4,s5,s6,by omega,a2,a3,fun x hx=>by have:=a4 x hx;omega,e⟩
theorem Zgx:∀ ds E Q,Zb3 ds E Q→ZcT E { nx:=fun _=>Q .non,rt:=Q } (rho Zej ds):=by
  rintro _ E Q ⟨⟨s,n⟩,rfl,h,q⟩
  dsimp only at h q
  have h5:=h.n5
  unfold ZcT
  show zSeq _ _ _ _ [.d (tblD s n),.un,.un,.un,.un,.un,.un]
  refine Zah (set_by (d:=.int n) (ρ':=[.d (tblD s n),.d (.int n),.un,.un,.un,.un,.un]) rfl (fun P h=>by walk_at "st";exact h) ?_)
  dsimp only
  refine Zah (ZeO (xs:=[]) (ρ':=[.d (tblD s n),.d (.int n),.ow [],.un,.un,.un,.un]) rfl (fun P h=>⟨by decide,h⟩) ?_)
  dsimp only
  refine Zah (ZeO (xs:=((List.range n).map fun k=>tT s n k k).map .int) (ρ':=[.d (tblD s n),.d (.int n),.ow [],.ow (((List.range n).map fun k=>tT s n k k).map .int),.un,.un,.un]) rfl (fun P hP=>?_) ?_)
  · walk_at "st"
    refine ⟨by omega,by omega,?_⟩
    rw [rng0]
    refine ZgT (g:=fun k:Nat=>D.int (k:Int)) (f:=fun k=>D.int (tT s n k k)) (List.range n) (fun k hk Q hq=>?_) .un [] (by simp [small];omega) (by rw [List.map_map] at hP;exact hP)
    have hk:=List.mem_range.mp hk
    walk_at "st"
    exact u_ix h hk hk hq
  dsimp only
  refine ZeG (BI s n 10 2550) (fun nx hnx=>?_) ?_
  · show zFor _ _ _ _ _ _
    walk_at "st"
    refine ⟨by omega,by omega,?_⟩
    refine ZeV (fun i ρ=>BI s n (tri i) (50+500*i) ρ) n ?_ ?_ _ ⟨[],(List.range n).map fun k=>tT s n k k,_,_,_,by simp [tri],(fun _ h=>nomatch h),by simp,fun x hx=>?_,rfl⟩
    · rintro i hi _ ⟨acc,u,s4,s5,s6,a1,a2,a3,a4,rfl⟩ nx2 hnx2
      show zFor _ _ _ _ _ [.d (tblD s n),.d (.int n),.ow (acc.map pqD),.ow (u.map .int),.d (.int i),s5,s6]
      walk_at "st"
      refine ⟨by omega,by omega,?_⟩
      refine ZeV (fun j ρ=>∃ (acc:List Pr) (u:List Int) (s5 s6:SV),acc.length≤tri i+j∧(∀ p∈acc,Pq 112 n p)∧u.length=n∧(∀ x∈u,-((50+500*i+100*j:Nat):Int)≤x∧x≤(50+500*i+100*j:Nat))∧ρ=[.d (tblD s n),.d (.int n),.ow (acc.map pqD),.ow (u.map .int),.d (.int i),s5,s6]) i ?_ ?_ _ ⟨acc,u,_,_,by omega,a2,a3,a4,rfl⟩
      · clear a1 a2 a3 a4 acc u
        rintro j hj _ ⟨acc,u,s5,s6,a1,a2,a3,a4,rfl⟩ nx3 hnx3
        have hjn:j < n:=by omega
        have hT:=tT_b h hi hjn
        show zIf _ _ _ _ _ [.d (tblD s n),.d (.int n),.ow (acc.map pqD),.ow (u.map .int),.d (.int i),.d (.int j),s6]
        refine ZeU (b:=!decide (tT s n i j=0)) (cmp_by (x:=.int (tT s n i j)) (y:=.int 0) (fun P hP=>?_) (fun P hP=>hP) (fun P hP=>gEq_int ?_)) (fun e=>?_) fun e=>?_
        · walk_at "st"
          exact u_ix h hi hjn hP
        · rw [if_pos rfl]
          exact hP
        · have hui:(u.map D.int)[i]? = some (.int (u.getD i 0)):=by rw [List.getD_eq_getElem?_getD,List.getElem?_map,List.getElem?_eq_getElem (by omega)];rfl
          have huj:∀ v:List Int,v.length=n→(v.map D.int)[j]? = some (.int (v.getD j 0)):=fun v hv=>by rw [List.getD_eq_getElem?_getD,List.getElem?_map,List.getElem?_eq_getElem (by omega)];rfl
          have bd:∀ (v:List Int) (k b:Nat),v.length=n→k < n→(∀ x∈v,-(b:Int)≤x∧x≤b)→∀ x∈v.set k (v.getD k 0 - tT s n i j),-((b+50:Nat):Int)≤x∧x≤(b+50:Nat):=fun v k b hv hk hb x hx=>by
            rcases List.mem_or_eq_of_mem_set hx with hx | rfl
            · have:=hb x hx;omega
            · rw [List.getD_eq_getElem?_getD,List.getElem?_eq_getElem (by omega)]
              have:=hb _ (List.getElem_mem (show k < v.length by omega))
              simp only [Option.getD_some]
              omega
          refine Zah (set_by (d:=rowq (bits (fun k=>[(i:Int),(j:Int)].contains (k:Int)) n)) (ρ':=[.d (tblD s n),.d (.int n),.ow (acc.map pqD),.ow (u.map .int),.d (.int i),.d (.int j),.d (rowq (bits (fun k=>[(i:Int),(j:Int)].contains (k:Int)) n))]) rfl (fun P hP=>?_) ?_)
          · walk_at "st"
            refine ⟨by omega,by omega,lc_bits (c:=fun k=>[(i:Int),(j:Int)].contains (k:Int)) h5 (fun k hk P hP=>?_) .un hP⟩
            walk_at "st"
            exact ⟨by decide,k,[(i:Int),(j:Int)],rfl,.inr rfl,by walk_at "st";exact ⟨by decide,hP⟩⟩
          dsimp only
          refine Zah (app_by (xs:=acc.map pqD) (d:=pqD ((tT s n i j:Rat),bits (fun k=>[(i:Int),(j:Int)].contains (k:Int)) n)) (ρ':=[.d (tblD s n),.d (.int n),.ow ((acc++[((tT s n i j:Rat),bits (fun k=>[(i:Int),(j:Int)].contains (k:Int)) n)]).map pqD),.ow (u.map .int),.d (.int i),.d (.int j),.d (rowq (bits (fun k=>[(i:Int),(j:Int)].contains (k:Int)) n))]) rfl ?_ (by rw [List.map_append];rfl) (fun P hP=>?_) ?_)
          · rw [List.length_map]
            have:tri i≤10:=by
              match i,(show i≤4 by omega) with
              | 0,_=>decide
              | 1,_=>decide
              | 2,_=>decide
              | 3,_=>decide
              | 4,_=>decide
            unfold small
            omega
          · unfold pqD at hP
            rw [ZdH] at hP
            walk_at "st"
            refine u_ix h hi hjn ⟨by decide,by decide,hP⟩
          dsimp only
          refine Zah (item_by (xs:=u.map .int) (k:=i) (d:=.int (u.getD i 0 - tT s n i j)) (ρ':=[.d (tblD s n),.d (.int n),.ow ((acc++[((tT s n i j:Rat),bits (fun k=>[(i:Int),(j:Int)].contains (k:Int)) n)]).map pqD),.ow ((u.set i (u.getD i 0 - tT s n i j)).map .int),.d (.int i),.d (.int j),.d (rowq (bits (fun k=>[(i:Int),(j:Int)].contains (k:Int)) n))]) rfl (by simpa [a3] using hi) (by rw [List.map_set];rfl) (fun P hP=>?_) (Zd9 rfl) ?_)
          · walk_at "st"
            exact ⟨_,atI_nat hui,u_ix h hi hjn ⟨trivial,rfl,hP⟩⟩
          dsimp only
          have hvl:(u.set i (u.getD i 0 - tT s n i j)).length=n:=by simpa using a3
          have hvb:=bd u i _ a3 hi a4
          generalize u.set i (u.getD i 0 - tT s n i j)=v at hvl hvb ⊢
          refine item_by (xs:=v.map .int) (k:=j) (d:=.int (v.getD j 0 - tT s n i j)) (ρ':=[.d (tblD s n),.d (.int n),.ow ((acc++[((tT s n i j:Rat),bits (fun k=>[(i:Int),(j:Int)].contains (k:Int)) n)]).map pqD),.ow ((v.set j (v.getD j 0 - tT s n i j)).map .int),.d (.int i),.d (.int j),.d (rowq (bits (fun k=>[(i:Int),(j:Int)].contains (k:Int)) n))]) rfl (by simpa [hvl] using hjn) (by rw [List.map_set];rfl) (fun P hP=>?_) (Zd9 rfl) ?_
          · walk_at "st"
            exact ⟨_,atI_nat (huj _ hvl),u_ix h hi hjn ⟨trivial,rfl,hP⟩⟩
          refine hnx3 _ ⟨_,_,_,_,by simp;omega,fun p hp=>?_,by simpa using hvl,fun x hx=>?_,rfl⟩
          · rcases List.mem_append.mp hp with hp | hp
            · exact a2 p hp
            · rw [List.mem_singleton.mp hp];exact bits_pq (by omega)
          · have:=bd v j _ hvl hjn hvb x hx
            omega
        · exact hnx3 _ ⟨acc,u,_,_,by omega,a2,a3,fun x hx=>by have:=a4 x hx;omega,rfl⟩
      · rintro _ ⟨acc,u,s5,s6,a1,a2,a3,a4,rfl⟩
        exact hnx2 _ ⟨acc,u,_,_,_,by rw [tri];omega,a2,a3,fun x hx=>by have:=a4 x hx;omega,rfl⟩
    · intro ρ hρ
      refine hnx ρ (hρ.up ?_ (by omega))
      match n,h5 with
      | 0,_=>decide
      | 1,_=>decide
      | 2,_=>decide
      | 3,_=>decide
      | 4,_=>decide
      | 5,_=>decide
    · obtain ⟨k,hk,rfl⟩:=List.mem_map.mp hx
      have:=tT_b h (List.mem_range.mp hk) (List.mem_range.mp hk)
      omega
  rintro _ ⟨acc,u,s4,s5,s6,a1,a2,a3,a4,rfl⟩
  refine Zah ?_
  show zFor _ _ _ _ _ _
  walk_at "st"
  refine ⟨by omega,by omega,?_⟩
  refine ZeV (fun i ρ=>∃ (acc:List Pr) (s4:SV),acc.length≤10+i∧(∀ p∈acc,Pq 112 n p)∧ρ=[.d (tblD s n),.d (.int n),.ow (acc.map pqD),.ow (u.map .int),s4,s5,s6]) n ?_ ?_ _ ⟨acc,_,by omega,a2,rfl⟩
  · clear a1 a2 acc
    rintro i hi _ ⟨acc,s4,a1,a2,rfl⟩ nx3 hnx3
    have hui:(u.map D.int)[i]? = some (.int (u.getD i 0)):=by rw [List.getD_eq_getElem?_getD,List.getElem?_map,List.getElem?_eq_getElem (by omega)];rfl
    have hb:-3000≤u.getD i 0∧u.getD i 0≤3000:=by
      rw [List.getD_eq_getElem?_getD,List.getElem?_eq_getElem (by omega)]
      have:=a4 _ (List.getElem_mem (show i < u.length by omega))
      simp only [Option.getD_some]
      omega
    show zIf _ _ _ _ _ [.d (tblD s n),.d (.int n),.ow (acc.map pqD),.ow (u.map .int),.d (.int i),s5,s6]
    refine ZeU (b:=!decide (u.getD i 0=0)) (fun P hP=>?_) (fun e=>?_) fun e=>?_
    · walk_at "st"
      refine ⟨_,atI_nat hui,?_⟩
      walk_at "st"
      exact hP
    · refine app_by (xs:=acc.map pqD) (d:=pqD ((u.getD i 0:Rat),bits (fun k=>(k:Int) == (i:Int)) n)) rfl (by rw [List.length_map];unfold small;omega) rfl (fun P hP=>?_) (hnx3 _ ⟨acc++[((u.getD i 0:Rat),bits (fun k=>(k:Int) == (i:Int)) n)],_,by simp;omega,fun p hp=>?_,by rw [List.map_append];rfl⟩)
      · unfold pqD at hP
        rw [ZdH] at hP
        walk_at "st"
        refine ⟨_,atI_nat hui,by decide,by omega,by omega,lc_bits (c:=fun k=>(k:Int) == (i:Int)) h5 (fun k hk P hP=>?_) .un ⟨by decide,?_,hP⟩⟩
        · walk_at "st"
          exact ⟨by decide,hP⟩
        · exact flat_pq _ _ _ rfl rfl
      · rcases List.mem_append.mp hp with hp | hp
        · exact a2 p hp
        · rw [List.mem_singleton.mp hp];exact bits_pq hb
    · exact hnx3 _ ⟨acc,_,by omega,a2,rfl⟩
  · rintro _ ⟨acc,s4,a1,a2,rfl⟩
    exact q _ ⟨acc,rfl,by omega,a2⟩
end B.C.Q0
namespace B.C.Q0
def lq (r:List Rat):D:=.lst (r.map shq)
theorem hdiv (x w:Rat) (h0:w≠0):Rat.divInt (x.num*(w.den:Int)) ((x.den:Int)*w.num)=x / w:=by
  have e:∀ q:Rat,(q.num:Rat) / ((q.den:Nat):Rat)=q:=fun q=>by
    have:=Rat.num_divInt_den q
    rw [Rat.divInt_eq_div,Rat.intCast_natCast] at this
    exact this
  have hd:∀ q:Rat,((q.den:Nat):Rat)≠0:=fun q=>by exact_mod_cast q.den_nz
  have hw:(w.num:Rat)≠0:=by
    intro z
    have:=e w
    rw [z] at this
    exact h0 (by rw [← this];grind)
  rw [Rat.divInt_eq_div,Rat.intCast_mul,Rat.intCast_mul,Rat.intCast_natCast,Rat.intCast_natCast]
  have e1:=e x
  have e2:=e w
  have d1:=hd x
  have d2:=hd w
  generalize (x.num:Rat)=a at *
  generalize ((x.den:Nat):Rat)=b at *
  generalize (w.num:Rat)=c at *
  generalize ((w.den:Nat):Rat)=d at *
  rw [← e1,← e2]
  grind
theorem bq6 {a:Nat} (h:a≤4):bq 6 a≤111:=by
  match a,h with
  | 0,_=>decide
  | 1,_=>decide
  | 2,_=>decide
  | 3,_=>decide
  | 4,_=>decide
theorem en_at {R:List (List Rat)} {n i j:Nat} (hl:R.length=n) (hr:∀ r∈R,r.length=n) (hi:i < n) (hj:j < n):R[i]? = some (R.getD i [])∧R.getD i []∈R∧(R.getD i []).length=n∧(R.getD i [])[j]? = some (en R i j):=by
  have e:R.getD i []=R[i]'(by omega):=by rw [List.getD_eq_getElem?_getD,List.getElem?_eq_getElem (by omega)];rfl
  have hm:R.getD i []∈R:=by rw [e];exact List.getElem_mem _
  refine ⟨by rw [e,List.getElem?_eq_getElem],hm,hr _ hm,?_⟩
  unfold en
  rw [List.getD_eq_getElem?_getD (l:=R.getD i []),List.getElem?_eq_getElem (l:=R.getD i []) (by rw [hr _ hm];exact hj)]
  rfl
def upd (R:List (List Rat)) (a k:Nat):List Rat:=lesF (R.getD k []) (en R a a*(byF (R.getD a []) (en R a a)).getD k 0) (byF (R.getD a []) (en R a a))
def RR (R:List (List Rat)) (a n i:Nat):List (List Rat):=(List.range n).map fun k=>if k < i then upd R a k else R.getD k []
theorem RR_zero {R:List (List Rat)} {a n:Nat} (hl:R.length=n):RR R a n 0=R:=by
  unfold RR
  refine List.ext_getElem (by simp [hl]) fun i h1 h2=>?_
  rw [List.getElem_map,List.getElem_range,if_neg (by omega),List.getD_eq_getElem?_getD,List.getElem?_eq_getElem h2]
  rfl
theorem RR_set {R:List (List Rat)} {a n i:Nat} (hi:i < n):(RR R a n i).set i (upd R a i)=RR R a n (i+1):=by
  unfold RR
  refine List.ext_getElem (by simp) fun k h1 h2=>?_
  rw [List.getElem_set]
  simp only [List.getElem_map,List.getElem_range]
  split
  · rename_i e
    subst e
    rw [if_pos (by omega)]
  · rename_i e
    by_cases hk:k < i
    · rw [if_pos hk,if_pos (by omega)]
    · rw [if_neg hk,if_neg (by omega)]
theorem RR_at {R:List (List Rat)} {a n i:Nat} (hi:i < n):(RR R a n i)[i]? = some (R.getD i []):=by
  unfold RR
  rw [List.getElem?_map,List.getElem?_range hi]
  simp
theorem by_at {r:List Rat} {s:Rat} {k:Nat} (hk:k < r.length):(byF r s)[k]? = some (r.getD k 0 / s):=by
  unfold byF
  rw [List.getElem?_map,List.getD_eq_getElem?_getD,List.getElem?_eq_getElem hk]
  rfl
theorem upd_eq {R:List (List Rat)} {n a k:Nat} (hl:R.length=n) (hr:∀ r∈R,r.length=n) (ha:a < n) (hk:k < n) (h0:en R a a≠0) (sy:en R a k=en R k a):upd R a k=lesF (R.getD k []) ((R.getD k []).getD a 0) (byF (R.getD a []) (en R a a)):=by
  have ea:=en_at hl hr ha hk
  unfold upd
  rw [show (byF (R.getD a []) (en R a a)).getD k 0=en R a k / en R a a by rw [List.getD_eq_getElem?_getD,by_at (by rw [ea.2.2.1];exact hk)];rfl]
  rw [show en R a a*(en R a k / en R a a)=(R.getD k []).getD a 0 by rw [sy];show _=en R k a;grind]
theorem upd_en {R:List (List Rat)} {n a i j:Nat} (hl:R.length=n) (hr:∀ r∈R,r.length=n) (ha:a < n) (hi:i < n) (hj:j < n) (h0:en R a a≠0):(upd R a i).getD j 0=en R i j - en R a i*(en R a j / en R a a):=by
  have ea:=en_at hl hr ha hi
  have ej:=en_at hl hr ha hj
  have ei:=en_at hl hr hi hj
  have lb:(byF (R.getD a []) (en R a a)).length=n:=by unfold byF;rw [List.length_map];exact ea.2.2.1
  have e1:(byF (R.getD a []) (en R a a))[j]? = some (en R a j / en R a a):=by_at (by rw [ea.2.2.1];exact hj)
  have e2:(byF (R.getD a []) (en R a a)).getD i 0=en R a i / en R a a:=by rw [List.getD_eq_getElem?_getD,by_at (by rw [ea.2.2.1];exact hi)];rfl
  unfold upd lesF
  rw [List.getD_eq_getElem?_getD,List.getElem?_zipWith,ei.2.2.2,e1,e2]
  show en R i j - en R a a*(en R a i / en R a a)*(en R a j / en R a a)=_
  grind
theorem flats_map (L:List Nat) (f:Nat→Rat):Zdq (L.map fun k=>shq (f k))=true:=by
  have:=ZeW (L.map f)
  rw [List.map_map] at this
  exact this
theorem ZfR:∀ ds E Q,Zbn ds E Q→Zcs E { nx:=fun _=>Q .non,rt:=Q } (rho ZdW ds):=by
  rintro _ E Q ⟨⟨⟨s,n⟩,m⟩,rfl,⟨h,he,hm,hst⟩,q⟩
  dsimp only at h he hm hst q
  have h5:=h.n5
  have ht:=Zcy s n
  unfold Zcs
  show zSeq _ _ _ _ [.d (tblD s n),.d (.int m),.un,.un,.un,.un,.un,.un,.un,.un]
  refine Zah (set_by (d:=.int n) (ρ':=[.d (tblD s n),.d (.int m),.d (.int n),.un,.un,.un,.un,.un,.un,.un]) rfl (fun P h=>by walk_at "st";exact h) ?_)
  dsimp only
  refine Zah (ZeO (xs:=[]) (ρ':=[.d (tblD s n),.d (.int m),.d (.int n),.ow [],.un,.un,.un,.un,.un,.un]) rfl (fun P h=>⟨by decide,h⟩) ?_)
  dsimp only
  refine Zah (ZeO (xs:=((tbl s n).map Zb).map lq) (ρ':=[.d (tblD s n),.d (.int m),.d (.int n),.ow [],.ow (((tbl s n).map Zb).map lq),.un,.un,.un,.un,.un]) rfl (fun P hP=>?_) ?_)
  · unfold tblD
    walk_at "st"
    refine ZgT (g:=Zaq) (f:=fun r=>lq (Zb r)) (tbl s n) (fun r hr Q hq=>?_) .un [] (by simp [small];omega) (by rw [List.map_map] at hP;exact hP)
    have hrl:=(Zcd h r hr).1
    unfold Zaq
    walk_at "st"
    refine ZgT (g:=D.int) (f:=fun x=>shq ((x:Int):Rat)) r (fun x hx Q hq=>?_) .un [] (by simp [small];omega) ?_
    · walk_at "st"
      rw [ZdH] at hq
      exact ⟨by decide,hq⟩
    · unfold lq Zb at hq
      rw [List.map_map] at hq
      exact hq
  dsimp only
  refine Zah ?_
  show zFor _ _ _ _ _ _
  walk_at "st"
  refine ⟨by omega,by omega,?_⟩
  refine ZeV (fun a ρ=>∃ (R:List (List Rat)) (acc:List Pr) (s5 s6 s7 s8 s9:SV),R.length=n∧(∀ r∈R,Lf (bq 6 a) n r)∧Nl s n a (en R)∧acc.length≤a∧(∀ p∈acc,Pq 112 n p)∧ρ=[.d (tblD s n),.d (.int m),.d (.int n),.ow (acc.map pqD),.ow (R.map lq),s5,s6,s7,s8,s9]) m ?_ ?_ _ ⟨(tbl s n).map Zb,[],_,_,_,_,_,by simp [ht],fun r hr=>?_,?_,by simp,(fun _ h=>nomatch h),rfl⟩
  · rintro a ha _ ⟨R,acc,s5,s6,s7,s8,s9,hRl,hRf,hN,hc,hp,rfl⟩ nx hnx
    have han:a < n:=by omega
    have hr:∀ r∈R,r.length=n:=fun r h=>(hRf r h).len
    have h0:=hN.piv h hm ha hst
    have ea:=en_at hRl hr han han
    have hb:=bq6 (a:=a) (by omega)
    have LfA:=hRf _ ea.2.1
    have LfN:Lf (bq 6 a) n (byF (R.getD a []) (en R a a)):=LfA.norm han h0
    have szW:Sz 111 (en R a a):=((LfA.get han).2).mono hb
    have szR:∀ y∈byF (R.getD a []) (en R a a),Sz 111 y:=fun y hy=>(LfN.sz y hy).mono hb
    have szA:∀ y∈R.getD a [],Sz 111 y:=fun y hy=>(LfA.sz y hy).mono hb
    have lB:(byF (R.getD a []) (en R a a)).length=n:=LfN.len
    show zSeq _ _ _ _ [.d (tblD s n),.d (.int m),.d (.int n),.ow (acc.map pqD),.ow (R.map lq),.d (.int a),s6,s7,s8,s9]
    refine Zah (set_by (d:=shq (en R a a)) (ρ':=[.d (tblD s n),.d (.int m),.d (.int n),.ow (acc.map pqD),.ow (R.map lq),.d (.int a),.d (shq (en R a a)),s7,s8,s9]) rfl (fun P hP=>?_) ?_)
    · walk_at "st"
      refine ⟨lq (R.getD a []),atI_nat (by rw [List.getElem?_map,ea.1];rfl),?_⟩
      unfold lq
      walk_at "st"
      exact ⟨shq (en R a a),atI_nat (by rw [List.getElem?_map,ea.2.2.2];rfl),rfl,hP⟩
    dsimp only
    refine Zah (set_by (d:=rowq (byF (R.getD a []) (en R a a))) (ρ':=[.d (tblD s n),.d (.int m),.d (.int n),.ow (acc.map pqD),.ow (R.map lq),.d (.int a),.d (shq (en R a a)),.d (rowq (byF (R.getD a []) (en R a a))),s8,s9]) rfl (fun P hP=>?_) ?_)
    · walk_at "st"
      refine ⟨lq (R.getD a []),atI_nat (by rw [List.getElem?_map,ea.1];rfl),?_⟩
      unfold lq
      walk_at "st"
      refine ZgT (g:=shq) (f:=fun x=>shq (x / en R a a)) (R.getD a []) (fun x hx Q hq=>?_) .un [] (by simp [small];have:=ea.2.2.1;rw [List.getD_eq_getElem?_getD] at this;omega) ?_
      · have bx:=(szA x hx).bd (by decide)
        have bw:=szW.bd (by decide)
        unfold shq
        walk_at "st"
        refine ⟨_,rfl,_,rfl,⟨⟨bx.1,bw.2⟩,_,rfl,_,rfl,⟨⟨bx.2,bw.1⟩,Zb6 ?_ ?_ ?_⟩⟩⟩
        · have:=x.den_nz
          have hn0:(en R a a).num≠0:=fun z=>h0 (Rat.num_eq_zero.mp z)
          exact Int.mul_ne_zero (by omega) hn0
        · unfold Bd
          rw [Int.natAbs_mul,Int.natAbs_natCast]
          exact Nat.lt_of_lt_of_le (ZfB (szA x hx).2 szW.1) (Nat.pow_le_pow_right (by decide) (by decide))
        · rw [hdiv x _ h0]
          exact hq
      · walk_at "st"
        refine ⟨?_,?_⟩
        · have:=ZeW (byF (R.getD a []) (en R a a))
          unfold byF at this
          rw [List.map_map] at this
          rw [flat]
          exact this
        · unfold rowq byF at hP
          rw [List.map_map] at hP
          exact hP
    dsimp only
    generalize hB:byF (R.getD a []) (en R a a)=B at *
    refine Zah (app_by (xs:=acc.map pqD) (d:=pqD (en R a a,B)) (ρ':=[.d (tblD s n),.d (.int m),.d (.int n),.ow ((acc++[(en R a a,B)]).map pqD),.ow (R.map lq),.d (.int a),.d (shq (en R a a)),.d (rowq B),s8,s9]) rfl (by rw [List.length_map];unfold small;omega) (by rw [List.map_append];rfl) (pair_at (Zd9 rfl) (Zd9 rfl)) ?_)
    dsimp only
    show zFor _ _ _ _ _ _
    walk_at "st"
    refine ⟨by omega,by omega,?_⟩
    refine ZeV (fun i ρ=>∃ (s8 s9:SV),ρ=[.d (tblD s n),.d (.int m),.d (.int n),.ow ((acc++[(en R a a,B)]).map pqD),.ow ((RR R a n i).map lq),.d (.int a),.d (shq (en R a a)),.d (rowq B),s8,s9]) n ?_ ?_ _ ⟨_,_,by rw [RR_zero hRl]⟩
    · rintro i hi _ ⟨s8,s9,rfl⟩ nx2 hnx2
      have bi:B[i]? = some (B.getD i 0):=by rw [List.getD_eq_getElem?_getD,List.getElem?_eq_getElem (by omega)];rfl
      have szB:∀ k,k < n→Sz 111 (B.getD k 0):=fun k hk=>by
        rw [List.getD_eq_getElem?_getD,List.getElem?_eq_getElem (by omega)]
        exact szR _ (List.getElem_mem _)
      have szT:Sz 222 (en R a a*B.getD i 0):=szW.mul (szB i hi)
      show zSeq _ _ _ _ [.d (tblD s n),.d (.int m),.d (.int n),.ow ((acc++[(en R a a,B)]).map pqD),.ow ((RR R a n i).map lq),.d (.int a),.d (shq (en R a a)),.d (rowq B),.d (.int i),s9]
      refine Zah (set_by (d:=shq (en R a a*B.getD i 0)) (ρ':=[.d (tblD s n),.d (.int m),.d (.int n),.ow ((acc++[(en R a a,B)]).map pqD),.ow ((RR R a n i).map lq),.d (.int a),.d (shq (en R a a)),.d (rowq B),.d (.int i),.d (shq (en R a a*B.getD i 0))]) rfl (fun P hP=>?_) ?_)
      · unfold rowq
        walk_at "st"
        exact ⟨by decide,_,atI_nat (by rw [List.getElem?_map,bi];rfl),by decide,u_dot1 szW (szB i hi) (by decide) hP⟩
      dsimp only
      have eu:(upd R a i).map shq=(List.range n).map fun j=>shq (en R i j + -(en R a a*B.getD i 0)*B.getD j 0):=by
        unfold upd
        rw [hB]
        have ei:=en_at hRl hr hi hi
        refine List.ext_getElem (by unfold lesF;rw [List.length_map,List.length_zipWith,ei.2.2.1,lB];simp) fun j h1 h2=>?_
        have hj:j < n:=by simpa using h2
        have ej:=en_at hRl hr hi hj
        rw [List.getElem_map,List.getElem_map,List.getElem_range]
        unfold lesF
        rw [List.getElem_zipWith]
        have e1:(R.getD i [])[j]'(by rw [ej.2.2.1];exact hj)=en R i j:=Option.some.inj ((List.getElem?_eq_getElem _).symm.trans ej.2.2.2)
        have e2:B[j]'(by omega)=B.getD j 0:=by rw [List.getD_eq_getElem?_getD,List.getElem?_eq_getElem (by omega)];rfl
        rw [e1,e2]
        congr 1
        grind
      refine item_by (xs:=(RR R a n i).map lq) (k:=i) (d:=lq (upd R a i)) rfl (by simp [RR];exact hi) rfl (fun P hP=>?_) (Zd9 rfl) (hnx2 _ ⟨_,_,by rw [← RR_set hi,List.map_set];rfl⟩)
      unfold lq at hP
      rw [eu] at hP
      walk_at "st"
      refine ⟨by omega,by omega,?_⟩
      rw [rng0]
      refine ZgT (g:=fun k:Nat=>D.int (k:Int)) (f:=fun j=>shq (en R i j + -(en R a a*B.getD i 0)*B.getD j 0)) (List.range n) (fun j hj Q hq=>?_) .un [] (by simp [small];omega) ⟨flats_map _ _,hP⟩
      have hj:=List.mem_range.mp hj
      have ej:=en_at hRl hr hi hj
      have bj:B[j]? = some (B.getD j 0):=by rw [List.getD_eq_getElem?_getD,List.getElem?_eq_getElem (by omega)];rfl
      have sz1:Sz 111 (en R i j):=((hRf _ ej.2.1).get hj).2.mono hb
      walk_at "st"
      refine ⟨lq (R.getD i []),atI_nat (by rw [List.getElem?_map,RR_at hi];rfl),?_⟩
      unfold lq
      walk_at "st"
      refine ⟨shq (en R i j),atI_nat (by rw [List.getElem?_map,ej.2.2.2];rfl),?_⟩
      generalize en R a a*B.getD i 0=T at *
      refine ⟨_,rfl,⟨trivial,_,rfl,by decide,by decide,by decide,_,atI_nat (by rw [List.getElem?_map,bj];rfl),by decide,?_⟩⟩
      have:=u__law_dot2 (E:=No) (Q:=Q) sz1 szT.neg (szB j hj) (by decide) hq
      rw [shq_neg] at this
      exact this
    · rintro _ ⟨s8,s9,rfl⟩
      refine hnx _ ⟨RR R a n n,acc++[(en R a a,B)],_,_,_,_,_,by simp [RR],fun r hr'=>?_,?_,by simp;omega,fun p hp'=>?_,rfl⟩
      · obtain ⟨k,hk,rfl⟩:=List.mem_map.mp hr'
        have hk:=List.mem_range.mp hk
        rw [if_pos hk,upd_eq hRl hr han hk h0 (hN.sym a k han hk),hB]
        exact (hRf _ (en_at hRl hr hk hk).2.1).less LfN han
      · refine hN.step han h0 fun i j hi hj=>?_
        rw [← upd_en hRl hr han hi hj h0]
        unfold en RR
        rw [List.getD_eq_getElem?_getD,List.getD_eq_getElem?_getD (l:=(List.range n).map _),List.getElem?_map,List.getElem?_range hi]
        simp only [Option.map_some,Option.getD_some,if_pos hi]
        rw [List.getD_eq_getElem?_getD]
      · rcases List.mem_append.mp hp' with hp' | hp'
        · exact hp p hp'
        · rw [List.mem_singleton.mp hp']
          exact ⟨lB,szW.mono (by decide),fun y hy=>(szR y hy).mono (by decide)⟩
  · rintro _ ⟨R,acc,s5,s6,s7,s8,s9,hRl,hRf,hN,hc,hp,rfl⟩
    exact q _ ⟨acc,rfl,by omega,hp⟩
  · obtain ⟨r0,hr0,rfl⟩:=List.mem_map.mp hr
    have:=Zcd h r0 hr0
    have L:=Lf.int (b:=6) (c:=r0) (by decide) fun x hx=>by have:=this.2 x hx;show x.natAbs < 64;omega
    rw [this.1] at L
    exact L
  · have e:∀ i j,i < n→j < n→en ((tbl s n).map Zb) i j=(tT s n i j:Rat):=fun i j hi hj=>by
      unfold en tT ga gr
      have hj':=(Zcd h _ (List.getElem_mem (show i < (tbl s n).length by omega))).1
      simp only [List.getD_eq_getElem?_getD]
      rw [List.getElem?_eq_getElem (l:=tbl s n) (by omega),List.getElem?_eq_getElem (l:=(tbl s n).map Zb) (by simp;omega),List.getElem_map]
      simp only [Option.getD_some]
      unfold Zb
      rw [List.getElem?_map,List.getElem?_eq_getElem (by omega)]
      rfl
    have N:=Nl.start h he
    exact ⟨fun i j hi hj=>by rw [e i j hi hj,e j i hj hi];exact N.sym i j hi hj,fun i j _ _ z=>absurd z (by omega),fun c hc hcn=>by
      obtain ⟨x,x1,x2,x3⟩:=N.vec c hc hcn
      exact ⟨x,x1,x2,fun i hi=>by rw [e i c hi hcn];exact x3 i hi⟩⟩
end B.C.Q0
end LP
set_option maxHeartbeats 8000000
namespace LP
open PySem PySem.Spec PyProof.Rows L2
namespace B.C.Q0
theorem law_start {K:PySem.W.Frag} {H:Hp} {a:Addr} {ns:List Int} (hl:ns.length≤63) (hO:Only H) (hS:SqL K H a (ns.map V.int)):spOf K S_law [.ref a] H (fun v _=>v = .bl true) fun _ _ _=>False:=by
  have rv:∀ W:Wd,Reps K W (ns.map V.int) (ns.map D.int):=fun W=>by
    clear hl hS
    induction ns with
    | nil=>exact .nil
    | cons n ns ih=>exact .cons (.int n) ih
  have ok:WOk ⟨H,fun _=>False⟩ H:=⟨fun _ _ e=>e,fun _ e=>e.elim⟩
  refine ⟨[.scr (ns.map .int)],⟨H,fun _=>False⟩,ok,.cons (.scr ?_ (rv _)) .nil,ns,rfl,hl,fun v W' H' _ r=>?_⟩
  · rcases hS with (h | h) | h
    · rcases hO a with z | ⟨o,xs,z⟩
      · rw [h] at z;cases z
      · rw [h] at z;cases z
    · exact .inl h
    · exact .inr h
  · cases r;rfl
def top (i:Nat):Stmt:=PySem.Challenge.pw_slanttables_k40_squares_by_anybody.main.body.getD i (.Pass ⟨0,0,0,0⟩)
structure Bs (K:PySem.W.Frag) (mg:Str→Option Value):Prop where
  f_is_whole:FnAt K mg "is_whole" (top 2)
  f_is_within:FnAt K mg "is_within" (top 3)
  f_are_within:FnAt K mg "are_within" (top 4)
  f_common_divisor:FnAt K mg "common_divisor" (top 5)
  f_is_share:FnAt K mg "is_share" (top 6)
  f_is_row_within:FnAt K mg "is_row_within" (top 7)
  f_is_row:FnAt K mg "is_row" (top 8)
  f_share_by:FnAt K mg "share_by" (top 9)
  f_minus:FnAt K mg "minus" (top 10)
  f_times:FnAt K mg "times" (top 11)
  f_row_of:FnAt K mg "row_of" (top 12)
  f_row_less:FnAt K mg "row_less" (top 13)
  f_size_of:FnAt K mg "size_of" (top 29)
  f_slants_good:FnAt K mg "slants_good" (top 30)
  f_need_slants:FnAt K mg "need_slants" (top 31)
  f_table_of:FnAt K mg "table_of" (top 32)
  f_turned_slants:FnAt K mg "turned_slants" (top 33)
  f_share_rows:FnAt K mg "share_rows" (top 34)
  f_is_even:FnAt K mg "is_even" (top 37)
  f_need_even:FnAt K mg "need_even" (top 38)
  f_is_weighed:FnAt K mg "is_weighed" (top 39)
  f_left_by:FnAt K mg "left_by" (top 40)
  f_squares_good:FnAt K mg "squares_good" (top 41)
  f__law_cell_at:FnAt K mg "_law_cell_at" (top 43)
  f__law_next:FnAt K mg "_law_next" (top 44)
  f__law_pen_of:FnAt K mg "_law_pen_of" (top 45)
  f__law_draw:FnAt K mg "_law_draw" (top 46)
  f__law_whole:FnAt K mg "_law_whole" (top 47)
  f__law_kind_of:FnAt K mg "_law_kind_of" (top 48)
  f__law_refused:FnAt K mg "_law_refused" (top 49)
  f__law_gcd:FnAt K mg "_law_gcd" (top 50)
  f__law_share:FnAt K mg "_law_share" (top 51)
  f__law_dot:FnAt K mg "_law_dot" (top 52)
  f__law_share_like:FnAt K mg "_law_share_like" (top 53)
  f__law_row_like:FnAt K mg "_law_row_like" (top 54)
  f__law_slants_of:FnAt K mg "_law_slants_of" (top 55)
  f__law_even_of:FnAt K mg "_law_even_of" (top 56)
  f__law_table_of:FnAt K mg "_law_table_of" (top 57)
  f__law_taken:FnAt K mg "_law_taken" (top 58)
  f__law_number_of:FnAt K mg "_law_number_of" (top 59)
  f__law_bent_row:FnAt K mg "_law_bent_row" (top 60)
  f__law_are_squares:FnAt K mg "_law_are_squares" (top 61)
  f__law_steps_of:FnAt K mg "_law_steps_of" (top 62)
  f__law_strong_to:FnAt K mg "_law_strong_to" (top 63)
  f__law_bent_squares:FnAt K mg "_law_bent_squares" (top 64)
  f__law_told:FnAt K mg "_law_told" (top 65)
  f__law_by_twos:FnAt K mg "_law_by_twos" (top 66)
  f__law_split:FnAt K mg "_law_split" (top 67)
  f__law_right_of:FnAt K mg "_law_right_of" (top 68)
  f_law:FnAt K mg "law" (top 69)
  b_len:mg "len" = none
  b_list:mg "list" = none
  b_tuple:mg "tuple" = none
  b_int:mg "int" = none
  b_range:mg "range" = none
  b_max:mg "max" = none
  b_abs:mg "abs" = none
  b_zip:mg "zip" = none
  b_bool:mg "bool" = none
  b_isinstance:mg "isinstance" = none
  b_all:mg "all" = none
  b_ValueError:mg "ValueError" = none
  k_NoLine:CC K mg "NoLine"
  k_NoNumber:CC K mg "NoNumber"
  k_NoRow:CC K mg "NoRow"
  k_NoSlants:CC K mg "NoSlants"
  k_NoText:CC K mg "NoText"
  k_NotEven:CC K mg "NotEven"
  k_NotFull:CC K mg "NotFull"
  k_NotStrong:CC K mg "NotStrong"
  k_TooGreat:CC K mg "TooGreat"
  xi:XI K LX MX
  c_NOUGHT:CT K mg "NOUGHT" [(D.int (0)),(D.int (1))]
  c_GREATEST_SIZE:CI mg "GREATEST_SIZE" (5)
  c_LEAST:CI mg "LEAST" (-50)
  c_MOST:CI mg "MOST" (50)
  x_NoSlants:XC K mg "NoSlants"
  x_NotEven:XC K mg "NotEven"
  c_MOST_SQUARES:CI mg "MOST_SQUARES" (10)
  t_SlantError:XT K mg "SlantError" LX
  b_repr:mg "repr" = none
  b_enumerate:mg "enumerate" = none
section
variable {P:Program} {w:World} {K:PySem.W.Frag} {mg:Str→Option Value} {base:Heap} (Z:Bs K mg)
include Z
theorem ZfC:Fp P w K mg base 1 "_law_next" ps__law_next ZcG:=mkp (z:=Zen) (N:=Zg3) Z.f__law_next (fun sc _ _ _ _ _ _ _ hr hx hw=>(Zae (Zan 0 (Zai o_mod (Zai ZaT (Zac 0) Zad) Zad) sc) (Zaf (Zaj (Zai o_mod (Zai ZaT (Zai ZaT (Zai Zbt (Zac 0) (Zac 0)) (Zai Zbt Zad (Zac 0))) Zad) Zad))))) rd__law_next
theorem Zas:Fp P w K mg base 2 "_law_draw" ps__law_draw Zar:=mkp (z:=Zeo) (N:=Zg4) Z.f__law_draw (fun sc _ _ _ _ _ _ _ hr hx hw=>(Zae (Za7 (Zaw (o_eq hr.units) (Zam i_pen (Zac 0) Zad) Zad) (Zae (Zan 2 (Zai o_mod (Zam i_pen (Zac 0) Zad) (Zac 1)) sc) (Zae (pz_ink 0 0 (Zai Zec (Zam i_pen (Zac 0) Zad) (Zac 1))) (Zaf (Zaj (Zac 2))))) Zaz) (Zae (pz_ink 0 2 (Zao (ZfC Z) hr hx (Za (Zai ZaT (Zao (ZfC Z) hr hx (Za (Zam i_pen (Zac 0) Zad) Zaa)) Zad) Zaa))) (Zaf (Zaj (Zai o_mod (Zai Zec (Zam i_pen (Zac 0) Zad) Zad) (Zac 1))))))) rd__law_draw
theorem Zf7:Fp P w K mg base 3 "_law_bent_row" Zf1 Zbp:=mkp (z:=Zcv) (N:=ZdZ) Z.f__law_bent_row (fun sc _ _ _ _ _ _ _ hr hx hw=>(Zae (Zan 2 (Zao (Zas Z) hr hx (Za (Zac 0) (Za (Zai ZaT (Zag Zb7 Z.b_len boot_len (Za (Zac 1) Zaa)) Zad) Zaa))) sc) (Zae (Zan 3 (PXL.px (Zal (Za (Zak (Za Zad (Za Zad Zaa))) (Za (Zak (Za Zad (Za Zad Zaa))) (Za (Zak (Za Zad (Za (px_un u_neg Zad) Zaa))) (Za (Zak (Za ZcI (Za Zad Zaa))) (Za (Zak (Za Zad (Za Zad Zaa))) (Za Zad (Za ZeM (Za ZcB (Za (PXL.px (Zal (Za Zad (Za Zad Zaa)))) (Za (Zak (Za Zad Zaa)) (Za (Zak (Za Zad (Za Zad (Za Zad Zaa)))) (Za (Zak (Za Zad (Za ZcI Zaa))) (Za (Zak (Za (Zai o_pow Zad Zad) (Za Zad Zaa))) Zaa))))))))))))))) sc) (Zae (Zan 3 (Zam i_ix (Zai ZaT (Zac 3) (PXL.px (Zal (Za (Zak (Za Zad (Za (Zai o_pow Zad Zad) Zaa))) (Za (Zak (Za Zad (Za Zad Zaa))) (Za (Zak (Za ZcB (Za Zad Zaa))) (Za px_dic0 Zaa))))))) (Zao (Zas Z) hr hx (Za (Zac 0) (Za Zad Zaa)))) sc) (Zae (Zan 4 (Zai ZaT (Zai ZaT (Zbs (Zac 1) ZaJ (ZaD (Zac 2))) (Zak (Za (Zac 3) Zaa))) (Zbs (Zac 1) (ZaD (Zai ZaT (Zac 2) Zad)) ZaJ)) sc) (Zae (Zan 5 (PXL.px (Zal (Za (Zac 4) (Za (Zac 4) (Za (Zac 4) (Za (Zbs (Zac 1) (ZaD Zad) ZaJ) (Za (Zai ZaT (Zac 1) (Zak (Za (Zak (Za Zad (Za Zad Zaa))) Zaa))) (Za (PXL.px (Zgz c_list Z.b_list boot_list (Za (Zac 1) Zaa))) (Za (Zak (Za (Zac 1) Zaa)) (Za (px_rev (Zac 1)) (Za ZeM (Za (Zak Zaa) (Za Zad (Za px_dic0 Zaa)))))))))))))) sc) (Zaf (Zaj (Zam i_ix (Zac 5) (Zao (Zas Z) hr hx (Za (Zac 0) (Za Zad Zaa)))))))))))) ZfU
theorem Zd8:Fp P w K mg base 4 "_law_bent_squares" Zd7 ZaV:=mkp (z:=Zbd) (N:=ZcH) Z.f__law_bent_squares (fun sc _ _ _ _ _ _ _ hr hx hw=>(Zae (Za7 (Zaw (o_eq hr.units) (Zac 1) (PXL.px (Zal Zaa))) (Zaf (Zaj (Zam i_ix (PXL.px (Zal (Za (PXL.px (Zal (Za (Zak (Za (Zak (Za Zad (Za Zad Zaa))) (Za (Zak (Za (Zak (Za Zad (Za Zad Zaa))) Zaa)) Zaa))) Zaa))) (Za (PXL.px (Zal (Za (Zak Zaa) Zaa))) (Za (Zak Zaa) (Za ZeM (Za px_dic0 (Za (PXL.px (Zal (Za ZeM Zaa))) Zaa)))))))) (Zao (Zas Z) hr hx (Za (Zac 0) (Za Zad Zaa)))))) Zaz) (Zae (Zan 2 (Zao (Zas Z) hr hx (Za (Zac 0) (Za (Zag Zb7 Z.b_len boot_len (Za (Zac 1) Zaa)) Zaa))) sc) (Zae (pz_asg (Zam i_ix (Zac 1) (Zac 2)) (ZcU rfl (ZaC (Zap 3 sc) (ZaC (Zap 4 sc) ZbY)))) (Zae (ZeJ 5 (Zal (Za (Zak (Za Zad (Za Zad Zaa))) (Za (Zak (Za (Zam i_ix (Zac 3) Zad) (Za (Zai ZcV Zad (Zam i_ix (Zac 3) Zad)) Zaa))) (Za (Zak (Za (Zai ZaT (Zam i_ix (Zac 3) Zad) (Zam i_ix (Zac 3) Zad)) (Za (Zam i_ix (Zac 3) Zad) Zaa))) (Za Zad (Za ZeM (Za (Zak (Za Zad (Za Zad Zaa))) Zaa))))))) sc) (Zae (ZdJ 5 (Zak (Za (Zai ZcV Zad (Zam i_ix (Zac 3) Zad)) (Za (Zam i_ix (Zac 3) Zad) Zaa)))) (Za4 5 (Zae (Zan 6 (PXL.px (Zal (Za (Zak (Za (Zam i_ix (Zac 5) (Zao (Zas Z) hr hx (Za (Zac 0) (Za Zad Zaa)))) (Za (Zac 4) Zaa))) (Za (Zak (Za (Zac 3) (Za (Zao (Zf7 Z) hr hx (Za (Zac 0) (Za (Zac 4) Zaa))) Zaa))) (Za (Zak (Za (Zac 3) (Za (Zac 4) (Za Zad Zaa)))) (Za (PXL.px (Zal (Za (Zac 3) (Za (Zac 4) Zaa)))) Zaa)))))) sc) (Za4 5 (Zae (Zan 6 (Zai ZaT (Zac 6) (PXL.px (Zal (Za (Zak (Za (Zac 4) (Za (Zac 3) Zaa))) (Za ZeM (Za (Zak (Za (Zac 3) Zaa)) Zaa)))))) sc) (Zae (Zan 7 (Zai ZaT (Zai ZaT (Zbs (Zac 1) ZaJ (ZaD (Zac 2))) (PXL.px (Zal (Za (Zam i_ix (Zac 6) (Zao (Zas Z) hr hx (Za (Zac 0) (Za Zad Zaa)))) Zaa)))) (Zbs (Zac 1) (ZaD (Zai ZaT (Zac 2) Zad)) ZaJ)) sc) (Zae (Zan 8 (PXL.px (Zal (Za (Zac 7) (Za (Zac 7) (Za (Zac 7) (Za (Zac 7) (Za (Zbs (Zac 1) (ZaD Zad) ZaJ) (Za (Zai ZaT (Zac 1) (Zbs (Zac 1) ZaJ (ZaD Zad))) (Za (Zbb ZeB Z.b_tuple boot_tuple (Za (Zac 1) Zaa)) (Za (PXL.px (Zal (Za (Zac 1) Zaa))) (Za ZeM (Za px_dic0 (Za (px_rev (Zac 1)) Zaa))))))))))))) sc) (Zaf (Zaj (Zam i_ix (Zai ZaT (Zac 8) (PXL.px (Zal (Za (Zai ZaT (Zac 1) (PXL.px (Zal (Za (Zak (Za (Zak (Za Zad (Za Zad Zaa))) (Za (Zac 4) Zaa))) (Za (Zak (Za (Zak (Za (px_un u_neg Zad) (Za Zad Zaa))) (Za (Zac 4) Zaa))) Zaa))))) (Za (Zai ZaT (Zac 1) (PXL.px (Zal (Za (Zak (Za (Zak (Za Zad (Za Zad Zaa))) (Za (Zac 4) Zaa))) Zaa)))) Zaa))))) (Zao (Zas Z) hr hx (Za (Zac 0) (Za Zad Zaa)))))))))))))))))) Zd6
theorem ZgO:Fp P w K mg base 1 "_law_by_twos" ZgF Zb3:=mkp (z:=ZcT) (N:=Zej) Z.f__law_by_twos (fun sc _ _ _ _ _ _ _ hr hx hw=>(Zae (Zan 1 (Zag Zb7 Z.b_len boot_len (Za (Zac 0) Zaa)) sc) (Zae (ZeJ 2 (Zal Zaa) sc) (Zae (pz_lc 3 ["_law_i"] [0] rfl sc (ZaB Z.b_range (Za (Zac 1) Zaa)) (fun _ _ _=>(Zap 0 (by decide +kernel:List.Nodup (["_law_i", "_law_table"]:List Str)))) (fun _ _ _=>ZaE) (fun _ _ _=>(Zam i_ix (Zam i_ix (Zac 1) (Zac 0)) (Zac 0)))) (Zae (Zbi (Zcg PassesOwn.never rfl (ZaB Z.b_range (Za (Zac 1) Zaa)) (Zap 4 sc) (Zaf (Zbi (Zcg PassesOwn.never rfl (ZaB Z.b_range (Za (Zac 4) Zaa)) (Zap 5 sc) (Zaf (Za7 (Zaw (o_ne hr.units) (Zam i_ix (Zam i_ix (Zac 0) (Zac 4)) (Zac 5)) Zad) (Zae (Zan 6 (Zbb ZeB Z.b_tuple boot_tuple (Za (PXL.px (Zbe ["_law_at"] [4,5] rfl (ZaB Z.b_range (Za (Zac 1) Zaa)) (fun _ _ _=>(Zap 0 (by decide +kernel:List.Nodup (["_law_at", "_law_i", "_law_j"]:List Str)))) (fun _ _ _=>ZaE) (fun _ _ _=>(Zak (Za (Zbb c_int Z.b_int boot_int (Za (Zch o_in (Zac 0) (Zak (Za (Zac 1) (Za (Zac 2) Zaa)))) Zaa)) (Za Zad Zaa)))))) Zaa)) sc) (Zae (ZdJ 2 (Zak (Za (Zak (Za (Zam i_ix (Zam i_ix (Zac 0) (Zac 4)) (Zac 5)) (Za Zad Zaa))) (Za (Zac 6) Zaa)))) (Zae (Zgy 3 (Zac 4) (ZfA 3 (Zai ZcV (Zam i_ix (Zac 3) (Zac 4)) (Zam i_ix (Zam i_ix (Zac 0) (Zac 4)) (Zac 5))))) (Zaf (Zgy 3 (Zac 5) (ZfA 3 (Zai ZcV (Zam i_ix (Zac 3) (Zac 5)) (Zam i_ix (Zam i_ix (Zac 0) (Zac 4)) (Zac 5))))))))) Zaz))))))) (Zae (Zbi (Zcg PassesOwn.never rfl (ZaB Z.b_range (Za (Zac 1) Zaa)) (Zap 4 sc) (Zaf (Za7 (pxt_bor 3 (Zaw (o_ne hr.units) (Zam i_ix (Zac 3) (Zac 4)) Zad)) (Zaf (ZdJ 2 (ZfA 3 (Zak (Za (Zak (Za (Zam i_ix (Zac 3) (Zac 4)) (Za Zad Zaa))) (Za (Zbb ZeB Z.b_tuple boot_tuple (Za (PXL.px (Zbe ["_law_at"] [4] rfl (ZaB Z.b_range (Za (Zac 1) Zaa)) (fun _ _ _=>(Zap 0 (by decide +kernel:List.Nodup (["_law_at", "_law_i"]:List Str)))) (fun _ _ _=>ZaE) (fun _ _ _=>(Zak (Za (Zbb c_int Z.b_int boot_int (Za (Zch (o_eq hr.units) (Zac 0) (Zac 1)) Zaa)) (Za Zad Zaa)))))) Zaa)) Zaa)))))) Zaz)))) (Za4 2 (Zaf (Zaj (Zac 2)))))))))) Zgx
theorem ZgN:Fp P w K mg base 1 "_law_cell_at" ZgE Zb2:=mkp (z:=ZcS) (N:=Zei) Z.f__law_cell_at (fun sc _ _ _ _ _ _ _ hr hx hw=>(Zae (Za7 (Zaw o_lt (Zac 1) (Zag Zb7 Z.b_len boot_len (Za (Zac 0) Zaa))) (Zaf (Zaj (Zam i_ix (Zac 0) (Zac 1)))) Zaz) (Zaf (Zaj Zad)))) Zgw
theorem Zc1:Fp P w K mg base 3 "_law_slants_of" Zfe ZaX:=mkp (z:=Zcc) (N:=Zdy) Z.f__law_slants_of (fun sc _ _ _ _ _ _ _ hr hx hw=>(Zae (Zan 1 (Zai ZaT Zad (Zao (Zas Z) hr hx (Za (Zac 0) (Za Zad Zaa)))) sc) (Zae (Zan 2 (Zam i_ix (PXL.px (Zal (Za Zad (Za Zad (Za Zad (Za Zad (Za Zad Zaa))))))) (Zao (Zas Z) hr hx (Za (Zac 0) (Za Zad Zaa)))) sc) (Zae (pz_lc 3 ["_law_turn"] [0,2] rfl sc (ZaB Z.b_range (Za (Zai ZcV (Zai Zbt Zad (Zac 1)) Zad) Zaa)) (fun _ _ _=>(Zap 0 (by decide +kernel:List.Nodup (["_law_turn", "_law_pen", "_law_most"]:List Str)))) (fun _ _ _=>ZaE) (fun _ _ _=>(Zai ZcV (Zao (Zas Z) hr Za5 (Za (Zac 1) (Za (Zai ZaT (Zai Zbt Zad (Zac 2)) Zad) Zaa))) (Zac 2)))) (Zae (Zan 4 (Zao (Zas Z) hr hx (Za (Zac 0) (Za Zad Zaa))) sc) (Zae (Zan 5 (Zai ZaT Zad (Zao (Zas Z) hr hx (Za (Zac 0) (Za Zad Zaa)))) sc) (Zae (Za7 (Zaw (o_eq hr.units) (Zac 4) Zad) (Zaf (ZeJ 3 (pxl_bor 3 (pxl_cut (Zai Zbt (Zbs (Zac 3) ZaJ (ZaD (Zac 5))) Zad) ZaJ (ZaD (Zag Zb7 Z.b_len boot_len (Za (Zac 3) Zaa))))) sc)) Zaz) (Zae (Za7 (Zaw (o_eq hr.units) (Zac 4) Zad) (Zaf (Zgy 3 (Zai ZcV (Zac 1) Zad) (Zam i_ix (PXL.px (Zal (Za Zad (Za (px_un u_neg Zad) (Za Zad Zaa))))) (Zao (Zas Z) hr hx (Za (Zac 0) (Za Zad Zaa)))))) Zaz) (Zae (Za7 (Zaw (o_eq hr.units) (Zac 4) Zad) (Zaf (pz_lcb 3 3 ["_law_number"] [0] rfl sc (ZaS (Zac 3)) (fun _ _ _=>(Zap 0 (by decide +kernel:List.Nodup (["_law_number", "_law_pen"]:List Str)))) (fun _ _ _=>ZaE) (fun _ _ _=>(Zai Zbt (Zac 0) (Zbb c_int Z.b_int boot_int (Za (Zch (o_eq hr.units) (Zao (Zas Z) hr Za5 (Za (Zac 1) (Za Zad Zaa))) Zad) Zaa)))))) Zaz) (Zae (Za7 (Zaw o_in (Zac 4) (Zak (Za Zad (Za Zad (Za Zad Zaa))))) (Zaf (ZeJ 3 (pxl_bor 3 (pxl_add (Zbs (Zac 3) ZaJ (ZaD (Zac 1))) (px_rev (Zbs (Zac 3) ZaJ (ZaD (Zai ZcV (Zac 1) Zad)))))) sc)) Zaz) (Za4 3 (Zaf (Zaj (Zbb ZeB Z.b_tuple boot_tuple (Za (Zac 3) Zaa))))))))))))))) Zfa
theorem ZgM:Fp P w K mg base 4 "_law_even_of" ZgD Zb1:=mkp (z:=ZcR) (N:=Zeh) Z.f__law_even_of (fun sc _ _ _ _ _ _ _ hr hx hw=>(Zae (Zan 1 (Zao (Zc1 Z) hr hx (Za (Zac 0) Zaa)) sc) (Zae (Zan 2 (Zai Zec (Zai ZaT (Zag Zb7 Z.b_len boot_len (Za (Zac 1) Zaa)) Zad) Zad) sc) (Zae (Za7 (Zaw (o_eq hr.units) (Zao (Zas Z) hr hx (Za (Zac 0) (Za Zad Zaa))) Zad) (Zaf (Zan 1 (Zai ZaT (Zbs (Zac 1) ZaJ (ZaD (Zai ZcV (Zac 2) Zad))) (Zak (Za Zad Zaa))) sc)) Zaz) (Zaf (Zaj (Zai ZaT (Zbs (Zac 1) ZaJ (ZaD (Zac 2))) (px_rev (Zbs (Zac 1) ZaJ (ZaD (Zai ZcV (Zac 2) Zad))))))))))) Zgv
theorem ok__law_pen_of:Fp P w K mg base 1 "_law_pen_of" ps__law_pen_of Zcl:=mkp (z:=Zdl) (N:=Ze2) Z.f__law_pen_of (fun sc _ _ _ _ _ _ _ hr hx hw=>(Zae (Zan 1 (Zag (c_max rfl) Z.b_max boot_max (Za (Zac 0) (Za (Zai ZcV Zad (Zac 0)) Zaa))) sc) (Zaf (Zaj (px_pen (Zal (Za (Zac 1) (Za (Zbb c_int Z.b_int boot_int (Za (Zch o_ge (Zac 1) (Zai o_pow Zad Zad)) Zaa)) (Za (Zai o_mod (Zac 1) Zad) Zaa))))))))) rd__law_pen_of
theorem ZgL:Fp P w K mg base 1 "_law_gcd" ps__law_gcd Zco:=mkp (z:=Ze7) (N:=N__law_gcd) Z.f__law_gcd (fun sc _ _ _ _ _ _ _ hr hx hw=>(Zae (Zan 0 (Zag c_abs Z.b_abs boot_abs (Za (Zac 0) Zaa)) sc) (Zae (Zan 1 (Zag c_abs Z.b_abs boot_abs (Za (Zac 1) Zaa)) sc) (Zae (Zbi (pz_while PassesOwn.never (Zaw (o_ne hr.units) (Zac 1) Zad) (Zaf (pz_par 0 1 sc (Za (Zac 1) (Za (Zai o_mod (Zac 0) (Zac 1)) Zaa)))))) (Zaf (Zaj (Zac 0))))))) rd__law_gcd
theorem Zdn:Fp P w K mg base 2 "_law_share" ps__law_share ZaQ:=mkp (z:=ZdF) (N:=ZfK) Z.f__law_share (fun sc _ _ _ _ _ _ _ hr hx hw=>(Zae (Zan 2 (Zao (ZgL Z) hr hx (Za (Zac 0) (Za (Zac 1) Zaa))) sc) (Zae (Za7 (Zaw o_lt (Zac 1) Zad) (Zaf (Zan 2 (px_un u_neg (Zac 2)) sc)) Zaz) (Zaf (Zaj (Zak (Za (Zai Zec (Zac 0) (Zac 2)) (Za (Zai Zec (Zac 1) (Zac 2)) Zaa)))))))) rd__law_share
theorem Zdo:Fp P w K mg base 3 "_law_dot" ps__law_dot Zbf:=mkp (z:=Ze8) (N:=N__law_dot) Z.f__law_dot (fun sc _ _ _ _ _ _ _ hr hx hw=>(Zae (Zan 2 Zad sc) (Zae (Zan 3 Zad sc) (Zae (Zbi (Zcg PassesOwn.never rfl (pxi_zip Z.b_zip (Za (Zac 0) (Za (Zac 1) Zaa))) (ZcU rfl (ZaC (Zap 4 sc) (ZaC (Zap 5 sc) ZbY))) (Zae (Zan 2 (Zai ZaT (Zai Zbt (Zai Zbt (Zac 2) (Zam i_ix (Zac 4) Zad)) (Zam i_ix (Zac 5) Zad)) (Zai Zbt (Zai Zbt (Zam i_ix (Zac 4) Zad) (Zam i_ix (Zac 5) Zad)) (Zac 3))) sc) (Zaf (Zan 3 (Zai Zbt (Zai Zbt (Zac 3) (Zam i_ix (Zac 4) Zad)) (Zam i_ix (Zac 5) Zad)) sc))))) (Zaf (Zaj (Zao (Zdn Z) hr hx (Za (Zac 2) (Za (Zac 3) Zaa))))))))) rd__law_dot
theorem ZeP:Fp P w K mg base 1 "_law_whole" ps__law_whole Zb9:=mkp (z:=Zfw) (N:=ZfH) Z.f__law_whole (fun sc _ _ _ _ _ _ _ hr hx hw=>(Zaf (Zaj (Zds (Zag Za1 Z.b_isinstance boot_isinstance (Za (Zac 0) (Za (ZcC Z.b_int boot_int) Zaa))) (ZeL (px_not (Zag Za1 Z.b_isinstance boot_isinstance (Za (Zac 0) (Za (ZcC Z.b_bool boot_bool) Zaa))))))))) rd__law_whole
theorem ZcK:Fp P w K mg base 2 "_law_share_like" ZeN ZaH:=mkp (z:=ZaL) (N:=Za6) Z.f__law_share_like (fun sc _ _ _ _ _ _ _ hr hx hw=>(Zae (Za7 (PXW.pxt (ZcA (ZaI (ZaK (Zag Za1 Z.b_isinstance boot_isinstance (Za (Zac 0) (Za (ZcC Z.b_tuple boot_tuple) Zaa))))) (ZcA (Zaw (o_ne hr.units) (Zag Zb7 Z.b_len boot_len (Za (Zac 0) Zaa)) Zad) (ZcA (ZaI (ZaK (Zao (ZeP Z) hr hx (Za (Zam i_ix (Zac 0) Zad) Zaa)))) (Zcz (ZaI (ZaK (Zao (ZeP Z) hr hx (Za (Zam i_ix (Zac 0) Zad) Zaa))))))))) (Zaf (Zaj ZcI)) Zaz) (Zaf (Zaj (Zds (Zch o_gt (Zam i_ix (Zac 0) Zad) Zad) (ZeL (Zch (o_eq hr.units) (Zao (ZgL Z) hr hx (Za (Zam i_ix (Zac 0) Zad) (Za (Zam i_ix (Zac 0) Zad) Zaa))) Zad))))))) rd__law_share_like
theorem Zf6:Fp P w K mg base 3 "_law_row_like" ZfZ Zbo:=mkp (z:=Zct) (N:=ZdX) Z.f__law_row_like (fun sc _ _ _ _ _ _ _ hr hx hw=>(Zaf (Zaj (Zds (Zag Za1 Z.b_isinstance boot_isinstance (Za (Zac 0) (Za (ZcC Z.b_tuple boot_tuple) Zaa))) (Zds (Zch (o_eq hr.units) (Zag Zb7 Z.b_len boot_len (Za (Zac 0) Zaa)) (Zac 1)) (ZeL (Zag (c_all rfl) Z.b_all boot_all (Za (PXL.px (Zbe ["_law_one"] [] rfl (ZaS (Zac 0)) (fun _ _ _=>(Zap 0 (by decide +kernel:List.Nodup (["_law_one"]:List Str)))) (fun _ _ _=>ZaE) (fun _ _ _=>(Zao (ZcK Z) hr Za5 (Za (Zac 0) Zaa))))) Zaa)))))))) ZfS
theorem Zex:Fp P w K mg base 4 "_law_are_squares" Zev Za2:=mkp (z:=Zbg) (N:=ZcN) Z.f__law_are_squares (fun sc _ _ _ _ _ _ _ hr hx hw=>(Zae (Za7 (PXW.pxt (ZcA (ZaI (ZaK (Zag Za1 Z.b_isinstance boot_isinstance (Za (Zac 1) (Za (ZcC Z.b_list boot_list) Zaa))))) (Zcz (Zaw o_gt (Zag Zb7 Z.b_len boot_len (Za (Zac 1) Zaa)) Zad)))) (Zaf (Zaj ZcI)) Zaz) (Zae (Zbi (Zcg PassesOwn.never rfl (ZaS (Zac 1)) (Zap 2 sc) (Zae (Za7 (PXW.pxt (ZcA (ZaI (ZaK (Zag Za1 Z.b_isinstance boot_isinstance (Za (Zac 2) (Za (ZcC Z.b_tuple boot_tuple) Zaa))))) (ZcA (Zaw (o_ne hr.units) (Zag Zb7 Z.b_len boot_len (Za (Zac 2) Zaa)) Zad) (ZcA (ZaI (ZaK (Zao (ZcK Z) hr Za5 (Za (Zam i_ix (Zac 2) Zad) Zaa)))) (Zcz (Zaw (o_eq hr.units) (Zam i_ix (Zac 2) Zad) (Zak (Za Zad (Za Zad Zaa))))))))) (Zaf (Zaj ZcI)) Zaz) (Zaf (Za7 (ZaI (ZaK (Zao (Zf6 Z) hr Za5 (Za (Zam i_ix (Zac 2) Zad) (Za (Zag Zb7 Z.b_len boot_len (Za (Zac 0) Zaa)) Zaa))))) (Zaf (Zaj ZcI)) Zaz))))) (Za4 5 (Zae (Zbi (Zcg PassesOwn.never rfl (ZaB Z.b_range (Za (Zag Zb7 Z.b_len boot_len (Za (Zac 0) Zaa)) Zaa)) (Zap 3 sc) (Za4 5 (Zaf (Zbi (Zcg PassesOwn.never rfl (ZaB Z.b_range (Za (Zai ZaT (Zac 3) Zad) Zaa)) (Zap 4 sc) (Zae (pz_lc 5 ["_law_weight", "_law_row"] [3,4] rfl sc (ZaS (Zac 1)) (fun _ _ _=>(ZcU rfl (ZaC (Zap 0 (by decide +kernel:List.Nodup (["_law_weight", "_law_row", "_law_i", "_law_j"]:List Str))) (ZaC (Zap 1 (by decide +kernel:List.Nodup (["_law_weight", "_law_row", "_law_i", "_law_j"]:List Str))) ZbY)))) (fun _ _ _=>ZaE) (fun _ _ _=>(Zao (Zdo Z) hr Za5 (Za (PXL.px (Zal (Za (Zam i_ix (Zac 1) (Zac 2)) Zaa))) (Za (PXL.px (Zal (Za (Zam i_ix (Zac 1) (Zac 3)) Zaa))) Zaa))))) (Za4 5 (Zaf (Za7 (Zaw (o_ne hr.units) (Zao (Zdo Z) hr Za5 (Za (PXL.px (Zbe ["_law_weight", "_law_row"] [] rfl (ZaS (Zac 1)) (fun _ _ _=>(ZcU rfl (ZaC (Zap 0 (by decide +kernel:List.Nodup (["_law_weight", "_law_row"]:List Str))) (ZaC (Zap 1 (by decide +kernel:List.Nodup (["_law_weight", "_law_row"]:List Str))) ZbY)))) (fun _ _ _=>ZaE) (fun _ _ _=>(Zac 0)))) (Za (Zac 5) Zaa))) (Zak (Za (Zam i_ix (Zam i_ix (Zac 0) (Zac 3)) (Zac 4)) (Za Zad Zaa)))) (Zaf (Zaj ZcI)) Zaz)))))))))) (Zaf (Zaj ZcI))))))) Zeu
theorem ZgK:FpU P w K mg base 1 "_law_kind_of" ZgC Zb0:=mkpU (z:=ZcQ) (N:=Zeg) Z.f__law_kind_of (fun sc _ _ _ _ _ _ hr=>(Zae (Zan 1 (PXL.px (Zal (Za (Zag (c_isX Z.xi) Z.b_isinstance boot_isinstance (Za (Zac 0) (Za (Zci Z.k_NoSlants) Zaa))) (Za (Zag (c_isX Z.xi) Z.b_isinstance boot_isinstance (Za (Zac 0) (Za (Zci Z.k_NoRow) Zaa))) (Za (Zag (c_isX Z.xi) Z.b_isinstance boot_isinstance (Za (Zac 0) (Za (Zci Z.k_NoNumber) Zaa))) (Za (Zag (c_isX Z.xi) Z.b_isinstance boot_isinstance (Za (Zac 0) (Za (Zci Z.k_NoLine) Zaa))) Zaa)))))) sc) (Zae (Zan 1 (Zai ZaT (Zac 1) (PXL.px (Zal (Za (Zag (c_isX Z.xi) Z.b_isinstance boot_isinstance (Za (Zac 0) (Za (Zci Z.k_NotEven) Zaa))) (Za (Zag (c_isX Z.xi) Z.b_isinstance boot_isinstance (Za (Zac 0) (Za (Zci Z.k_NotFull) Zaa))) (Za (Zag (c_isX Z.xi) Z.b_isinstance boot_isinstance (Za (Zac 0) (Za (Zci Z.k_NotStrong) Zaa))) Zaa)))))) sc) (Zae (Zan 1 (Zai ZaT (Zac 1) (PXL.px (Zal (Za (Zag (c_isX Z.xi) Z.b_isinstance boot_isinstance (Za (Zac 0) (Za (Zci Z.k_NoText) Zaa))) (Za (Zag (c_isX Z.xi) Z.b_isinstance boot_isinstance (Za (Zac 0) (Za (Zci Z.k_TooGreat) Zaa))) Zaa))))) sc) (Zae (Za7 (PXW.pxt (ZcA (ZaI (ZaK (Zag (c_isX Z.xi) Z.b_isinstance boot_isinstance (Za (Zac 0) (Za (ZcC Z.b_ValueError Zf9) Zaa))))) (Zcz (Zaw (o_ne hr.units) (px_lm PySem.F.slot_list_count PySem.F.type_list_count m_count (Zac 1) (Za ZcI Zaa)) Zad)))) (Zaf (Zaj ZcB)) Zaz) (Zaf (Zaj (Zam i_ix (PXL.px (Zal (Za ZcB (Za ZcB (Za ZcB (Za ZcB (Za ZcB (Za ZcB (Za ZcB (Za ZcB (Za ZcB Zaa))))))))))) (px_lm PySem.F.slot_list_index PySem.F.type_list_index m_index (Zac 1) (Za ZcI Zaa)))))))))) Zgu
theorem ZgJ:FpU P w K mg base 2 "_law_refused" ZgB ZbZ:=mkpU (z:=ZcP) (N:=Zef) Z.f__law_refused (fun sc _ _ _ _ _ _ hr=>(Zae (Zan 1 (px_fnU (ZgK Z) hr (Za (Zac 0) Zaa)) sc) (Zae (Za7 (Zaw (o_eq hr.units) (Zac 1) ZcB) (Zaf (Zaj (Zak (Za (Zac 1) (Za px_never Zaa))))) Zaz) (Zaf (Zaj (Zak (Za (Zac 1) Zaa))))))) Zgt
theorem Zc0:Fp P w K mg base 1 "common_divisor" Zfc ZaW:=mkp (z:=Zca) (N:=Zdw) Z.f_common_divisor (fun sc _ _ _ _ _ _ _ hr hx hw=>(Zae (Zbi (pz_while PassesOwn.never (Zaw (o_ne hr.units) (Zac 1) Zad) (Zaf (pz_par 0 1 sc (Za (Zac 1) (Za (Zai o_mod (Zac 0) (Zac 1)) Zaa)))))) (Zaf (Zaj (Zag c_abs Z.b_abs boot_abs (Za (Zac 0) Zaa)))))) Ze9
theorem Zew:Fp P w K mg base 1 "is_whole" ps_is_whole ZbW:=mkp (z:=Ze5) (N:=N_is_whole) Z.f_is_whole (fun sc _ _ _ _ _ _ _ hr hx hw=>(Zaf (Zaj (Zds (Zag Za1 Z.b_isinstance boot_isinstance (Za (Zac 0) (Za (ZcC Z.b_int boot_int) Zaa))) (ZeL (px_not (Zag Za1 Z.b_isinstance boot_isinstance (Za (Zac 0) (Za (ZcC Z.b_bool boot_bool) Zaa))))))))) Zgs
theorem ZgI:Fp P w K mg base 2 "is_share" ps_is_share Zcn:=mkp (z:=Ze6) (N:=N_is_share) Z.f_is_share (fun sc _ _ _ _ _ _ _ hr hx hw=>(Zae (Za7 (PXW.pxt (ZcA (ZaI (ZaK (Zag Za1 Z.b_isinstance boot_isinstance (Za (Zac 0) (Za (ZcC Z.b_tuple boot_tuple) Zaa))))) (Zcz (Zaw (o_ne hr.units) (Zag Zb7 Z.b_len boot_len (Za (Zac 0) Zaa)) Zad)))) (Zaf (Zaj ZcI)) Zaz) (Zae (pz_asg (Zac 0) (ZcU rfl (ZaC (Zap 1 sc) (ZaC (Zap 2 sc) ZbY)))) (Zae (Za7 (PXW.pxt (ZcA (ZaI (ZaK (Zao (Zew Z) hr hx (Za (Zac 1) Zaa)))) (Zcz (ZaI (ZaK (Zao (Zew Z) hr hx (Za (Zac 2) Zaa))))))) (Zaf (Zaj ZcI)) Zaz) (Zaf (Zaj (Zds (Zch o_gt (Zac 2) Zad) (ZeL (Zch (o_eq hr.units) (Zao (Zc0 Z) hr hx (Za (Zac 1) (Za (Zac 2) Zaa))) Zad))))))))) rd_is_share
theorem Zf3:Fp P w K mg base 3 "is_row_within" ZfW Zbl:=mkp (z:=Zcq) (N:=ZdU) Z.f_is_row_within (fun sc _ _ _ _ _ _ _ hr hx hw=>(Zae (Za7 (PXW.pxt (ZcA (ZaI (ZaK (Zag Za1 Z.b_isinstance boot_isinstance (Za (Zac 0) (Za (ZcC Z.b_tuple boot_tuple) Zaa))))) (Zcz (ZaI (pxt_of_cmp o_le o_le (Zac 1) (Zag Zb7 Z.b_len boot_len (Za (Zac 0) Zaa)) (Zac 2)))))) (Zaf (Zaj ZcI)) Zaz) (Zaf (Zaj (Zag (c_all rfl) Z.b_all boot_all (Za (PXL.px (Zbe ["part"] [] rfl (ZaS (Zac 0)) (fun _ _ _=>(Zap 0 (by decide +kernel:List.Nodup (["part"]:List Str)))) (fun _ _ _=>ZaE) (fun _ _ _=>(Zao (ZgI Z) hr Za5 (Za (Zac 0) Zaa))))) Zaa)))))) ZfP
theorem ok_is_row:Fp P w K mg base 4 "is_row" ps_is_row ZeZ:=mkp (z:=z_is_row) (N:=N_is_row) Z.f_is_row (fun sc _ _ _ _ _ _ _ hr hx hw=>(Zaf (Zaj (Zao (Zf3 Z) hr hx (Za (Zac 0) (Za (Zac 1) (Za (Zac 1) Zaa))))))) rd_is_row
theorem ok_is_weighed:Fp P w K mg base 5 "is_weighed" ps_is_weighed ZcL:=mkp (z:=ZdC) (N:=ZfF) Z.f_is_weighed (fun sc _ _ _ _ _ _ _ hr hx hw=>(Zae (Za7 (PXW.pxt (ZcA (ZaI (ZaK (Zag Za1 Z.b_isinstance boot_isinstance (Za (Zac 0) (Za (ZcC Z.b_tuple boot_tuple) Zaa))))) (Zcz (Zaw (o_ne hr.units) (Zag Zb7 Z.b_len boot_len (Za (Zac 0) Zaa)) Zad)))) (Zaf (Zaj ZcI)) Zaz) (Zaf (Zaj (Zds (Zao (ZgI Z) hr hx (Za (Zam i_ix (Zac 0) Zad) Zaa)) (Zds (Zch (o_ne hr.units) (Zam i_ix (Zac 0) Zad) (px_gtupE Z.c_NOUGHT)) (ZeL (Zao (ok_is_row Z) hr hx (Za (Zam i_ix (Zac 0) Zad) (Za (Zac 1) Zaa)))))))))) rd_is_weighed
theorem ZgH:Fp P w K mg base 2 "share_by" ps_share_by Zdh:=mkp (z:=Ze4) (N:=N_share_by) Z.f_share_by (fun sc _ _ _ _ _ _ _ hr hx hw=>(Zae (pz_assert (Zaw (o_ne hr.units) (Zac 1) Zad)) (Zae (Zan 2 (Zao (Zc0 Z) hr hx (Za (Zac 0) (Za (Zac 1) Zaa))) sc) (Zae (Za7 (Zaw o_lt (Zac 1) Zad) (Zaf (Zan 2 (px_un u_neg (Zac 2)) sc)) Zaz) (Zaf (Zaj (Zak (Za (Zai Zec (Zac 0) (Zac 2)) (Za (Zai Zec (Zac 1) (Zac 2)) Zaa))))))))) rd_share_by
theorem ok_minus:Fp P w K mg base 3 "minus" ps_minus S_minus:=mkp (z:=z_minus) (N:=N_minus) Z.f_minus (fun sc _ _ _ _ _ _ _ hr hx hw=>(Zaf (Zaj (Zao (ZgH Z) hr hx (Za (Zai ZcV (Zai Zbt (Zam i_ix (Zac 0) Zad) (Zam i_ix (Zac 1) Zad)) (Zai Zbt (Zam i_ix (Zac 1) Zad) (Zam i_ix (Zac 0) Zad))) (Za (Zai Zbt (Zam i_ix (Zac 0) Zad) (Zam i_ix (Zac 1) Zad)) Zaa)))))) rd_minus
theorem ok_times:Fp P w K mg base 3 "times" ps_times Zfv:=mkp (z:=z_times) (N:=N_times) Z.f_times (fun sc _ _ _ _ _ _ _ hr hx hw=>(Zaf (Zaj (Zao (ZgH Z) hr hx (Za (Zai Zbt (Zam i_ix (Zac 0) Zad) (Zam i_ix (Zac 1) Zad)) (Za (Zai Zbt (Zam i_ix (Zac 0) Zad) (Zam i_ix (Zac 1) Zad)) Zaa)))))) rd_times
theorem ok_row_less:Fp P w K mg base 4 "row_less" ps_row_less Zdi:=mkp (z:=Zd0) (N:=N_row_less) Z.f_row_less (fun sc _ _ _ _ _ _ _ hr hx hw=>(Zaf (Zaj (Zbb ZeB Z.b_tuple boot_tuple (Za (PXL.px (Zbe ["left", "right"] [1] rfl (pxi_zip Z.b_zip (Za (Zac 0) (Za (Zac 2) Zaa))) (fun _ _ _=>(ZcU rfl (ZaC (Zap 0 (by decide +kernel:List.Nodup (["left", "right", "share"]:List Str))) (ZaC (Zap 1 (by decide +kernel:List.Nodup (["left", "right", "share"]:List Str))) ZbY)))) (fun _ _ _=>ZaE) (fun _ _ _=>(Zao (ok_minus Z) hr Za5 (Za (Zac 0) (Za (Zao (ok_times Z) hr Za5 (Za (Zac 2) (Za (Zac 1) Zaa))) Zaa)))))) Zaa))))) rd_row_less
theorem ok_row_of:Fp P w K mg base 1 "row_of" ps_row_of Zge:=mkp (z:=z_row_of) (N:=N_row_of) Z.f_row_of (fun sc _ _ _ _ _ _ _ hr hx hw=>(Zaf (Zaj (Zbb ZeB Z.b_tuple boot_tuple (Za (PXL.px (Zbe ["number"] [] rfl (ZaS (Zac 0)) (fun _ _ _=>(Zap 0 (by decide +kernel:List.Nodup (["number"]:List Str)))) (fun _ _ _=>ZaE) (fun _ _ _=>(Zak (Za (Zac 0) (Za Zad Zaa)))))) Zaa))))) rd_row_of
theorem ok_is_within:Fp P w K mg base 2 "is_within" ps_is_within ZeD:=mkp (z:=Zel) (N:=Zg1) Z.f_is_within (fun sc _ _ _ _ _ _ _ hr hx hw=>(Zaf (Zaj (Zds (Zao (Zew Z) hr hx (Za (Zac 0) Zaa)) (ZeL (px_chain o_le o_le (Zac 1) (Zac 0) (Zac 2))))))) rd_is_within
theorem ok_are_within:Fp P w K mg base 3 "are_within" ps_are_within ZcM:=mkp (z:=ZdD) (N:=ZfG) Z.f_are_within (fun sc _ _ _ _ _ _ _ hr hx hw=>(Zaf (Zaj (Zds (Zag Za1 Z.b_isinstance boot_isinstance (Za (Zac 0) (Za (ZcC Z.b_tuple boot_tuple) Zaa))) (ZeL (Zag (c_all rfl) Z.b_all boot_all (Za (PXL.px (Zbe ["number"] [1,2] rfl (ZaS (Zac 0)) (fun _ _ _=>(Zap 0 (by decide +kernel:List.Nodup (["number", "least", "most"]:List Str)))) (fun _ _ _=>ZaE) (fun _ _ _=>(Zao (ok_is_within Z) hr Za5 (Za (Zac 0) (Za (Zac 1) (Za (Zac 2) Zaa))))))) Zaa))))))) rd_are_within
theorem Zfg:Fp P w K mg base 1 "size_of" ps_size_of ZcF:=mkp (z:=Zgf) (N:=N_size_of) Z.f_size_of (fun sc _ _ _ _ _ _ _ hr hx hw=>(Zaf (Zaj (Zai Zec (Zai ZaT (Zag Zb7 Z.b_len boot_len (Za (Zac 0) Zaa)) Zad) Zad)))) rd_size_of
theorem ok_slants_good:Fp P w K mg base 4 "slants_good" ps_slants_good Zck:=mkp (z:=Zdj) (N:=Ze0) Z.f_slants_good (fun sc _ _ _ _ _ _ _ hr hx hw=>(Zae (Za7 (PXW.pxt (ZcA (ZaI (ZaK (Zao (ok_are_within Z) hr hx (Za (Zac 0) (Za (Zg Z.c_LEAST) (Za (Zg Z.c_MOST) Zaa)))))) (Zcz (Zaw (o_eq hr.units) (Zai o_mod (Zag Zb7 Z.b_len boot_len (Za (Zac 0) Zaa)) Zad) Zad)))) (Zaf (Zaj ZcI)) Zaz) (Zaf (Zaj (Zch o_le (Zao (Zfg Z) hr hx (Za (Zac 0) Zaa)) (Zg Z.c_GREATEST_SIZE)))))) rd_slants_good
theorem Zeb:Fp P w K mg base 5 "need_slants" ps_need_slants ZaU:=mkp (z:=Zdk) (N:=Ze1) Z.f_need_slants (fun sc _ _ _ _ _ _ _ hr hx hw=>(Zaf (Za7 (ZaI (ZaK (Zao (ok_slants_good Z) hr hx (Za (Zac 0) Zaa)))) (Zaf (pz_raise hw Z.x_NoSlants)) Zaz))) rd_need_slants
theorem ok_table_of:Fp P w K mg base 6 "table_of" ps_table_of Zd5:=mkp (z:=Ze3) (N:=N_table_of) Z.f_table_of (fun sc _ _ _ _ _ _ _ hr hx hw=>(Zae (pz_expr (Zao (Zeb Z) hr hx (Za (Zac 0) Zaa))) (Zae (Zan 1 (Zao (Zfg Z) hr hx (Za (Zac 0) Zaa)) sc) (Zaf (Zaj (PXL.px (Zbe ["i"] [0,1] rfl (ZaB Z.b_range (Za (Zac 1) Zaa)) (fun _ _ _=>(Zap 0 (by decide +kernel:List.Nodup (["i", "slants", "size"]:List Str)))) (fun _ _ _=>ZaE) (fun _ _ _=>(PXL.px (Zgz c_list Z.b_list boot_list (Za (Zbs (Zac 1) (ZaD (Zai ZcV (Zai ZcV (Zac 2) Zad) (Zac 0))) (ZaD (Zai ZcV (Zai ZcV (Zai Zbt Zad (Zac 2)) Zad) (Zac 0)))) Zaa))))))))))) rd_table_of
theorem ok_share_rows:Fp P w K mg base 7 "share_rows" ps_share_rows Zb8:=mkp (z:=ZdB) (N:=ZfE) Z.f_share_rows (fun sc _ _ _ _ _ _ _ hr hx hw=>(Zaf (Zaj (PXL.px (Zbe ["numbers"] [] rfl (ZaS (Zao (ok_table_of Z) hr hx (Za (Zac 0) Zaa))) (fun _ _ _=>(Zap 0 (by decide +kernel:List.Nodup (["numbers"]:List Str)))) (fun _ _ _=>ZaE) (fun _ _ _=>(Zao (ok_row_of Z) hr Za5 (Za (Zac 0) Zaa)))))))) rd_share_rows
theorem ok_left_by:Fp P w K mg base 8 "left_by" ps_left_by ZeY:=mkp (z:=Zgg) (N:=N_left_by) Z.f_left_by (fun sc _ _ _ _ _ _ _ hr hx hw=>(Zae (Zan 2 (Zao (ok_share_rows Z) hr hx (Za (Zac 0) Zaa)) sc) (Za4 2 (Zae (Zbi (Zcg PassesOwn.never rfl (ZaS (Zac 1)) (ZcU rfl (ZaC (Zap 3 sc) (ZaC (Zap 4 sc) ZbY))) (Za4 2 (Zaf (pz_lc 2 ["row", "share"] [3,4] rfl sc (pxi_zip Z.b_zip (Za (Zac 2) (Za (Zac 4) Zaa))) (fun _ _ _=>(ZcU rfl (ZaC (Zap 0 (by decide +kernel:List.Nodup (["row", "share", "weight", "square"]:List Str))) (ZaC (Zap 1 (by decide +kernel:List.Nodup (["row", "share", "weight", "square"]:List Str))) ZbY)))) (fun _ _ _=>ZaE) (fun _ _ _=>(Zao (ok_row_less Z) hr Za5 (Za (Zac 0) (Za (Zao (ok_times Z) hr Za5 (Za (Zac 2) (Za (Zac 1) Zaa))) (Za (Zac 3) Zaa)))))))))) (Za4 2 (Zaf (Zaj (Zac 2)))))))) rd_left_by
theorem Zf2:Fp P w K mg base 6 "turned_slants" ZfV Zbk:=mkp (z:=Zcp) (N:=ZdT) Z.f_turned_slants (fun sc _ _ _ _ _ _ _ hr hx hw=>(Zae (pz_expr (Zao (Zeb Z) hr hx (Za (Zac 0) Zaa))) (Zaf (Zaj (px_rev (Zac 0)))))) ZfO
theorem ok_is_even:Fp P w K mg base 7 "is_even" ps_is_even ZgY:=mkp (z:=Zgh) (N:=N_is_even) Z.f_is_even (fun sc _ _ _ _ _ _ _ hr hx hw=>(Zaf (Zaj (Zch (o_eq hr.units) (Zao (Zf2 Z) hr hx (Za (Zac 0) Zaa)) (Zac 0))))) rd_is_even
theorem ok_need_even:Fp P w K mg base 8 "need_even" ps_need_even ZeC:=mkp (z:=Zek) (N:=Zg0) Z.f_need_even (fun sc _ _ _ _ _ _ _ hr hx hw=>(Zaf (Za7 (ZaI (ZaK (Zao (ok_is_even Z) hr hx (Za (Zac 0) Zaa)))) (Zaf (pz_raise hw Z.x_NotEven)) Zaz))) rd_need_even
theorem ZgG:Fp P w K mg base 9 "squares_good" ZgA ZcY:=mkp (z:=ZcO) (N:=Zee) Z.f_squares_good (fun sc _ _ _ _ _ _ _ hr hx hw=>(Zae (pz_expr (Zao (ok_need_even Z) hr hx (Za (Zac 0) Zaa))) (Zae (Zan 2 (Zao (Zfg Z) hr hx (Za (Zac 0) Zaa)) sc) (Zae (Za7 (PXW.pxt (ZcA (ZaI (ZaK (Zag Za1 Z.b_isinstance boot_isinstance (Za (Zac 1) (Za (ZcC Z.b_list boot_list) Zaa))))) (Zcz (Zaw o_gt (Zag Zb7 Z.b_len boot_len (Za (Zac 1) Zaa)) (Zg Z.c_MOST_SQUARES))))) (Zaf (Zaj ZcI)) Zaz) (Zae (Za7 (ZaI (ZaK (Zag (c_all rfl) Z.b_all boot_all (Za (PXL.px (Zbe ["part"] [2] rfl (ZaS (Zac 1)) (fun _ _ _=>(Zap 0 (by decide +kernel:List.Nodup (["part", "size"]:List Str)))) (fun _ _ _=>ZaE) (fun _ _ _=>(Zao (ok_is_weighed Z) hr Za5 (Za (Zac 0) (Za (Zac 1) Zaa)))))) Zaa)))) (Zaf (Zaj ZcI)) Zaz) (Zaf (Zaj (Zch (o_eq hr.units) (Zao (ok_left_by Z) hr hx (Za (Zac 0) (Za (Zac 1) Zaa))) (Zai Zbt (PXL.px (Zal (Za (Zai o_mulT (Zak (Za (px_gtupE Z.c_NOUGHT) Zaa)) (Zac 2)) Zaa))) (Zac 2)))))))))) Zgr
theorem ZdL:Fp P w K mg base 10 "_law_told" ps__law_told ZbX:=mkp (z:=Zem) (N:=Zg2) Z.f__law_told (fun sc _ _ _ _ _ _ _ hr hx hw=>(Zaf (pz_try LX 2 Z.t_SlantError sc (fun _ _ _ hx1=>(Zaf (Zaj (Zao (ZgG Z) hr hx1 (Za (Zac 0) (Za (Zac 1) Zaa)))))) (fun _ _=>(Zaf (Zaj (px_fnU (ZgJ Z) (hr.u.mark) (Za (Zac 2) Zaa)))))))) rd__law_told
theorem Zce:Fp P w K mg base 11 "_law_right_of" Zf0 ZaP:=mkp (z:=Zcu) (N:=ZdY) Z.f__law_right_of (fun sc _ _ _ _ _ _ _ hr hx hw=>(Zae (Zan 3 (Zag (c_repA hr.gd hr.units) Z.b_repr bootX_repr (Za (Zac 2) Zaa)) sc) (Zae (Zan 4 (Zao (ZdL Z) hr hx (Za (Zac 0) (Za (Zac 2) Zaa))) sc) (Zaf (Zaj (Zds (Zag Za1 Z.b_isinstance boot_isinstance (Za (Zac 4) (Za (ZcC Z.b_bool boot_bool) Zaa))) (Zds (Zch (o_eq hr.units) (Zac 4) (Zao (Zex Z) hr hx (Za (Zac 1) (Za (Zac 2) Zaa)))) (ZeL (Zch o_eqS (Zag (c_repA hr.gd hr.units) Z.b_repr bootX_repr (Za (Zac 2) Zaa)) (Zac 3)))))))))) ZfT
theorem ZeQ:Fp P w K mg base 3 "_law_split" ps__law_split Zc:=mkp (z:=ZdE) (N:=ZfJ) Z.f__law_split (fun sc _ _ _ _ _ _ _ hr hx hw=>(Zae (ZeJ 1 (Zal Zaa) sc) (Zae (Zbi (Zcg PassesOwn.never rfl (pxi_enum Z.b_enumerate (Za (Zac 0) Zaa)) (ZcU rfl (ZaC (Zap 2 sc) (ZaC (Zap 3 sc) ZbY))) (Zae (pz_asg (Zac 3) (ZcU rfl (ZaC (Zap 4 sc) (ZaC (Zap 5 sc) ZbY)))) (Zae (Zan 6 (Zao (Zdn Z) hr Za5 (Za (Zam i_ix (Zac 4) Zad) (Za (Zai Zbt Zad (Zam i_ix (Zac 4) Zad)) Zaa))) sc) (Zaf (pz_extend 1 (pxl_if (Zaw o_lt (Zai ZaT (Zag Zb7 Z.b_len boot_len (Za (Zac 0) Zaa)) (Zac 2)) Zad) (Zal (Za (Zak (Za (Zac 6) (Za (Zac 5) Zaa))) (Za (Zak (Za (Zac 6) (Za (Zac 5) Zaa))) Zaa))) (Zal (Za (Zac 3) Zaa))))))))) (Za4 1 (Zaf (Zaj (Zac 1))))))) rd__law_split
theorem Zf5:Fp P w K mg base 4 "_law_steps_of" ZfY Zbn:=mkp (z:=Zcs) (N:=ZdW) Z.f__law_steps_of (fun sc _ _ _ _ _ _ _ hr hx hw=>(Zae (Zan 2 (Zag Zb7 Z.b_len boot_len (Za (Zac 0) Zaa)) sc) (Zae (ZeJ 3 (Zal Zaa) sc) (Zae (ZeJ 4 (Zbe ["_law_line"] [] rfl (ZaS (Zac 0)) (fun _ _ _=>(Zap 0 (by decide +kernel:List.Nodup (["_law_line"]:List Str)))) (fun _ _ _=>ZaE) (fun _ _ _=>(PXL.px (Zbe ["_law_number"] [] rfl (ZaS (Zac 0)) (fun _ _ _=>(Zap 0 (by decide +kernel:List.Nodup (["_law_number"]:List Str)))) (fun _ _ _=>ZaE) (fun _ _ _=>(Zak (Za (Zac 0) (Za Zad Zaa)))))))) sc) (Zae (Zbi (Zcg PassesOwn.never rfl (ZaB Z.b_range (Za (Zac 1) Zaa)) (Zap 5 sc) (Zae (Zan 6 (ZfA 4 (Zam i_ix (Zam i_ix (Zac 4) (Zac 5)) (Zac 5))) sc) (Zae (Zan 7 (ZfA 4 (Zbb ZeB Z.b_tuple boot_tuple (Za (PXL.px (Zbe ["_law_one"] [6] rfl (ZaS (Zam i_ix (Zac 4) (Zac 5))) (fun _ _ _=>(Zap 0 (by decide +kernel:List.Nodup (["_law_one", "_law_weight"]:List Str)))) (fun _ _ _=>ZaE) (fun _ _ _=>(Zao (Zdn Z) hr Za5 (Za (Zai Zbt (Zam i_ix (Zac 0) Zad) (Zam i_ix (Zac 1) Zad)) (Za (Zai Zbt (Zam i_ix (Zac 0) Zad) (Zam i_ix (Zac 1) Zad)) Zaa)))))) Zaa))) sc) (Zae (ZdJ 3 (Zak (Za (Zac 6) (Za (Zac 7) Zaa)))) (Zaf (Zbi (Zcg PassesOwn.never rfl (ZaB Z.b_range (Za (Zac 2) Zaa)) (Zap 8 sc) (Zae (Zan 9 (Zao (Zdo Z) hr Za5 (Za (PXL.px (Zal (Za (Zac 6) Zaa))) (Za (PXL.px (Zal (Za (Zam i_ix (Zac 7) (Zac 8)) Zaa))) Zaa))) sc) (Zaf (Zgy 4 (Zac 8) (PXL.px (pxl_bor 4 (Zbe ["_law_j"] [4,7,8,9] rfl (ZaB Z.b_range (Za (Zac 2) Zaa)) (fun _ _ _=>(Zap 0 (by decide +kernel:List.Nodup (["_law_j", "_law_left", "_law_row", "_law_i", "_law_taken_here"]:List Str)))) (fun _ _ _=>ZaE) (fun _ _ _=>(Zao (Zdo Z) hr Za5 (Za (PXL.px (Zal (Za (Zam i_ix (Zam i_ix (Zac 1) (Zac 3)) (Zac 0)) (Za (Zak (Za (Zai ZcV Zad (Zam i_ix (Zac 4) Zad)) (Za (Zam i_ix (Zac 4) Zad) Zaa))) Zaa)))) (Za (PXL.px (Zal (Za (Zak (Za Zad (Za Zad Zaa))) (Za (Zam i_ix (Zac 2) (Zac 0)) Zaa)))) Zaa)))))))))))))))))) (Za4 3 (Zaf (Zaj (Zac 3))))))))) ZfR
theorem ok__law_taken:Fp P w K mg base 1 "_law_taken" ps__law_taken ZdS:=mkp (z:=ZcJ) (N:=ZfI) Z.f__law_taken (fun sc _ _ _ _ _ _ _ hr hx hw=>(Zae (ZeJ 4 (Zal Zaa) sc) (Zae (Zbi (Zcg PassesOwn.never rfl (ZaB Z.b_range (Za (Zag Zb7 Z.b_len boot_len (Za (Zac 0) Zaa)) Zaa)) (Zap 5 sc) (Zae (Zan 6 (Zai ZcV (Zai Zbt (Zam i_ix (Zac 0) (Zac 5)) (Zam i_ix (Zac 1) (Zac 2))) (Zai Zbt (Zam i_ix (Zac 0) (Zac 2)) (Zam i_ix (Zac 1) (Zac 5)))) sc) (Zaf (ZdJ 4 (Zai Zec (Zac 6) (Zac 3))))))) (Za4 4 (Zaf (Zaj (Zac 4))))))) rd__law_taken
theorem Zfi:Fp P w K mg base 2 "_law_number_of" Zff Zcf:=mkp (z:=Zba) (N:=Zdz) Z.f__law_number_of (fun sc _ _ _ _ _ _ _ hr hx hw=>(Zae (ZeJ 1 (Zbe ["_law_row"] [] rfl (ZaS (Zac 0)) (fun _ _ _=>(Zap 0 (by decide +kernel:List.Nodup (["_law_row"]:List Str)))) (fun _ _ _=>ZaE) (fun _ _ _=>(PXL.px (Zgz c_list Z.b_list boot_list (Za (Zac 0) Zaa))))) sc) (Zae (Zan 2 Zad sc) (Zae (Zan 3 Zad sc) (Za4 5 (Zae (Zbi (Zcg PassesOwn.never rfl (ZaB Z.b_range (Za (ZfA 1 (Zag Zb7 Z.b_len boot_len (Za (Zac 1) Zaa))) Zaa)) (Zap 4 sc) (Zae (pz_lcb 5 1 ["_law_k"] [1,4] rfl sc (pxi_range2 Z.b_range (Za (Zac 4) (Za (Zag Zb7 Z.b_len boot_len (Za (Zac 1) Zaa)) Zaa))) (fun _ _ _=>(Zap 0 (by decide +kernel:List.Nodup (["_law_k", "_law_rows", "_law_at"]:List Str)))) (fun _ _ _=>(pxf_one (Zaw (o_ne hr.units) (Zam i_ix (Zam i_ix (Zac 1) (Zac 0)) (Zac 2)) Zad))) (fun _ _ _=>(Zac 0))) (Za4 5 (Zae (Za7 (Zaw (o_eq hr.units) (Zac 5) (PXL.px (Zal Zaa))) (Zaf (Zaj Zad)) Zaz) (Za4 5 (Zae (pz_swap 1 (Zak (Za (px_ixO 1 (Zam i_ix (Zac 5) Zad)) (Za (px_ixO 1 (Zac 4)) Zaa))) (Zac 4) (Zam i_ix (Zac 5) Zad)) (Za4 5 (Zae (Zan 2 (Zai Zbt (Zac 2) (Zai ZcV Zad (Zai Zbt Zad (Zbb c_int Z.b_int boot_int (Za (Zch (o_ne hr.units) (Zam i_ix (Zac 5) Zad) (Zac 4)) Zaa))))) sc) (Zae (Zbi (Zcg PassesOwn.never rfl (pxi_range2 Z.b_range (Za (Zai ZaT (Zac 4) Zad) (Za (ZfA 1 (Zag Zb7 Z.b_len boot_len (Za (Zac 1) Zaa))) Zaa))) (Zap 6 sc) (Zaf (Zgy 1 (Zac 6) (Zao (ok__law_taken Z) hr Za5 (Za (px_ixO 1 (Zac 6)) (Za (px_ixO 1 (Zac 4)) (Za (Zac 4) (Za (Zac 3) Zaa))))))))) (Zaf (Zan 3 (ZfA 1 (Zam i_ix (Zam i_ix (Zac 1) (Zac 4)) (Zac 4))) sc)))))))))))) (Zaf (Zaj (Zai Zbt (Zac 2) (Zac 3)))))))))) Zfb
theorem Zfh:Fp P w K mg base 3 "_law_strong_to" Zfd Zbc:=mkp (z:=Zcb) (N:=Zdx) Z.f__law_strong_to (fun sc _ _ _ _ _ _ _ hr hx hw=>(Zae (Zan 1 Zad sc) (Zae (Zbi (pz_while PassesOwn.never (PXW.pxt (pxw_and (Zaw o_lt (Zac 1) (Zag Zb7 Z.b_len boot_len (Za (Zac 0) Zaa))) (pxw_and1 (Zaw (o_ne hr.units) (Zao (Zfi Z) hr Za5 (Za (PXL.px (Zbe ["_law_line"] [1] rfl (ZaS (Zbs (Zac 0) ZaJ (ZaD (Zai ZaT (Zac 1) Zad)))) (fun _ _ _=>(Zap 0 (by decide +kernel:List.Nodup (["_law_line", "_law_many"]:List Str)))) (fun _ _ _=>ZaE) (fun _ _ _=>(Zbs (Zac 0) ZaJ (ZaD (Zai ZaT (Zac 1) Zad)))))) Zaa)) Zad)))) (Zaf (Zan 1 (Zai ZaT (Zac 1) Zad) sc)))) (Zaf (Zaj (Zac 1)))))) Zf
theorem Zf4:Fp P w K mg base 1 "_law_table_of" ZfX Zbm:=mkp (z:=Zcr) (N:=ZdV) Z.f__law_table_of (fun sc _ _ _ _ _ _ _ hr hx hw=>(Zae (Zan 1 (Zai Zec (Zai ZaT (Zag Zb7 Z.b_len boot_len (Za (Zac 0) Zaa)) Zad) Zad) sc) (Zaf (Zaj (PXL.px (Zbe ["_law_i"] [0,1] rfl (ZaB Z.b_range (Za (Zac 1) Zaa)) (fun _ _ _=>(Zap 0 (by decide +kernel:List.Nodup (["_law_i", "_law_slants", "_law_size"]:List Str)))) (fun _ _ _=>ZaE) (fun _ _ _=>(PXL.px (Zbe ["_law_j"] [0,1,2] rfl (ZaB Z.b_range (Za (Zac 2) Zaa)) (fun _ _ _=>(Zap 0 (by decide +kernel:List.Nodup (["_law_j", "_law_i", "_law_slants", "_law_size"]:List Str)))) (fun _ _ _=>ZaE) (fun _ _ _=>(Zam i_ix (Zac 2) (Zai ZcV (Zai ZaT (Zai ZcV (Zac 0) (Zac 1)) (Zac 3)) Zad)))))))))))) ZfQ
theorem all_mk {l:PySem.W.OpenLaw} {fa:Addr} (hfa:mg "law" = some (.ref fa)):∃ fd:FuncData,(∀ (s:Shared) (v:Value),BindsTo s fd ⟨[v],[]⟩ [("_law_script",v)])∧∀ base:Heap,K.In base→base.Ns mainGlobals mg→FnOk l.prog w K mg base (CXv l.prog w) 12 fa fd ["_law_script"] (spOf K S_law):=
  mkl (z:=z_law) (N:=N_law) Z.f_law hfa (fun _ sc _ _ _ _ _ _ _ hr hx hw=>(Zae (Za7 (Zaw (o_ne hr.units) (Zao (ZdL Z) hr hx (Za (Zak (Za Zad (Za Zad (Za Zad Zaa)))) (Za ZeM Zaa))) (Zak (Za ZcB Zaa))) (Zaf (Zaj ZcI)) Zaz) (Zae (Za7 (PXW.pxt (ZcA (ZaI (ZaK (Zao (Zce Z) hr hx (Za (Zak (Za Zad Zaa)) (Za (PXL.px (Zal (Za (PXL.px (Zal (Za Zad Zaa))) Zaa))) (Za (PXL.px (Zal Zaa)) Zaa)))))) (Zcz (ZaI (ZaK (Zao (Zce Z) hr hx (Za (Zak (Za Zad Zaa)) (Za (PXL.px (Zal (Za (PXL.px (Zal (Za Zad Zaa))) Zaa))) (Za ZeM Zaa))))))))) (Zaf (Zaj ZcI)) Zaz) (Zae (Zbi (Zcg PassesOwn.never rfl (ZaS (Zai ZaT (PXL.px (Zal (Za (Zao (ZgN Z) hr Za5 (Za (Zac 0) (Za Zad Zaa))) Zaa))) (Zbs (Zac 0) (ZaD Zad) (ZaD Zad)))) (Zap 1 sc) (Zae (Zan 2 (Zao (ok__law_pen_of Z) hr Za5 (Za (Zac 1) Zaa)) sc) (Zae (Zan 3 (Zao (ZgM Z) hr Za5 (Za (Zac 2) Zaa)) sc) (Zae (Zan 4 (Zao (Zf4 Z) hr Za5 (Za (Zac 3) Zaa)) sc) (Zae (Zan 5 (Zao (Zfh Z) hr Za5 (Za (Zac 4) Zaa)) sc) (Zae (Zan 6 (Zao (Zf5 Z) hr Za5 (Za (Zac 4) (Za (Zac 5) Zaa))) sc) (Zae (Zan 7 (Zao (ZgO Z) hr Za5 (Za (Zac 4) Zaa)) sc) (Zae (Zan 8 (PXL.px (Zal (Za (Zac 6) (Za (Zac 7) (Za (Zao (ZeQ Z) hr Za5 (Za (Zac 6) Zaa)) (Za (Zao (ZeQ Z) hr Za5 (Za (Zbs (Zac 7) ZaJ (ZaD Zad)) Zaa)) (Za (PXL.px (Zal Zaa)) Zaa))))))) sc) (Zae (Zbi (Zcg PassesOwn.never rfl (ZaS (Zai ZaT (Zac 8) (PXL.px (Zbe ["_law_turn"] [2,8] rfl (ZaS (Zak (Za Zad (Za Zad (Za Zad (Za Zad (Za Zad Zaa))))))) (fun _ _ _=>(Zap 0 (by decide +kernel:List.Nodup (["_law_turn", "_law_pen", "_law_some"]:List Str)))) (fun _ _ _=>ZaE) (fun _ _ _=>(Zao (Zd8 Z) hr Za5 (Za (Zac 1) (Za (Zam i_ix (Zac 2) (Zac 0)) Zaa)))))))) (Zap 9 sc) (Zaf (Za7 (ZaI (ZaK (Zao (Zce Z) hr Za5 (Za (Zac 3) (Za (Zac 4) (Za (Zac 9) Zaa)))))) (Zaf (Zaj ZcI)) Zaz)))) (Zae (Zan 10 (Zao (Zc1 Z) hr Za5 (Za (Zac 2) Zaa)) sc) (Zaf (Za7 (PXW.pxt (pxw_and (Zaw (o_ne hr.units) (Zac 10) (px_rev (Zac 10))) (pxw_and1 (Zaw (o_ne hr.units) (Zao (ZdL Z) hr Za5 (Za (Zac 10) (Za (Zac 7) Zaa))) (Zak (Za ZcB Zaa)))))) (Zaf (Zaj ZcI)) Zaz))))))))))))) (Zaf (Zaj ZcI)))))) rd_law
end
theorem walk {l:PySem.W.OpenLaw} {q:Program} {loose:List Str} {XP:(Str→Option Value)→Heap→Prop} {YP:World→Heap→Prop} {d:DefRec} {K:Params→PySem.W.Frag} (hn:l.most=some 63) (hdf:d.params.defaults=[])
    (hY:∀ (w:World) (h:Heap),YP w h→(K w.params).In h)
    (F:∀ (w:World) (mg:Str→Option Value) (fa:Addr) (h:Heap),(K w.params).In h→h.Ns mainGlobals mg→mg d.name=some (.ref fa)→
      ∃ fd:FuncData,(∀ (s:Shared) (u:Value),BindsTo s fd ⟨[u],[]⟩ [("_law_script",u)])∧∀ base:Heap,(K w.params).In base→base.Ns mainGlobals mg→FnOk l.prog w (K w.params) mg base (CXv l.prog w) 12 fa fd ["_law_script"] (spOf (K w.params) S_law)) :
    PySem.W.WalkO q loose XP YP l.row.toRowW d [] (fun f vs=>PySem.call f vs):=
  L2.walk_of (n:=63) (k:=12) (x:= "_law_script") (CX:=fun w=>CXv l.prog w) (sp:=fun w=>spOf (K w.params) S_law) hn (by decide) hdf ⟨rfl,rfl,by decide,by decide⟩ hY F (fun _ _ a ns hl hO hS=>law_start hl hO hS) fun _ _ _ _ _ ⟨_,_,_,_,_,_,_,_,_,_,_,_,_,z⟩=>z
end B.C.Q0
end LP
namespace PySem.W.Fast
def tw17640345028131816531:=0
def tw12308409461396118656:=0
def tw14941850749697296544:=0
def tw13704805941357755648:=0
def tw18212916184861702400:=0
def tw8827538809829336384:=0
def tw7490777100656996672:=0
def tw6252643274921538880:=0
def tw7330781911927629152:=0
def tw12288962431368220064:=0
def tw15022623883584652768:=0
def tw806267859403572768:=0
def tw8634923173674268192:=0
def tw12273701018622687872:=0
def tw2727173413141218976:=0
def tw2581828415092454080:=0
def tw15472642010833562368:=0
def tw3608557720923602720:=0
def tw12292761005313117120:=0
def tw5912391925171119105:=0
def tw5072734338076147745:=0
def tw14292133486378990657:=0
def tw16361705974169046113:=0
def tw1513834352207040641:=0
def tw13403468244490159265:=0
def tw5094333951373632737:=0
def tw1273692343799823617:=0
def tw14970469211207585057:=0
def tw4196989696685415777:=0
def tw979138603511498081:=0
def tw15006684555748014529:=0
def tw12405180657719564769:=0
def tw11719360395565523425:=0
def tw12283987620807924289:=0
def tw10446101800663647873:=0
def tw15528713563997441665:=0
def tw12770654021995384513:=0
def tw12687821138838416065:=0
def tw3020198186575897313:=0
def tw4625130125433687809:=0
def tw217360388726223713:=0
def tw8776623248523503618:=0
def tw12819460926601315426:=0
def tw15709723333685016674:=0
def tw17704981617220818050:=0
def tw14501859997024275586:=0
def tw2391897370140737730:=0
def tw5996381014999638210:=0
def tw8578265009106433218:=0
def tw2682705224535234818:=0
def tw2008418927619037442:=0
def tw7373089630649707778:=0
def tw17978997802004267298:=0
def tw16588552827850876194:=0
def tw10825287819161613634:=0
def tw4722832485753578850:=0
def tw3703384881017497986:=0
def tw16672608134235173250:=0
def tw13850175454485740930:=0
def tw6916274905611870626:=0
def tw15734122480928794018:=0
def tw9079026928800315810:=0
def tw9767928637943150178:=0
def tw9848749627232435842:=0
def tw14850827547587373730:=0
def tw903811699333530338:=0
def tw259108881948091106:=0
def tw11128541266866152194:=0
def tw8716438589349890978:=0
def tw4790272973709314018:=0
def tw18074571926628016098:=0
def tw3488499684665552899:=0
def tw6009744387045665891:=0
def tw13605633605791008931:=0
def tw13213413293840328899:=0
def tw17725028246925145283:=0
def tw16503973932333453571:=0
def tw4708944649807334755:=0
def tw5000398635498013059:=0
def tw8628753410399203747:=0
def tw14970218278427741635:=0
def tw6343256037879643651:=0
def tw3532557446246695459:=0
def tw17016177614216843811:=0
def tw1596604991898714691:=0
def tw6099996325115046531:=0
def tw10610354974277892771:=0
def tw17878058339052024579:=0
def tw17458798085056206627:=0
def tw1385678253073004355:=0
def tw3272181730438666211:=0
def tw4388092461240914948:=0
def tw9205335567687829828:=0
def tw648965320777014628:=0
def tw12139735517415423396:=0
def tw7337620246893189604:=0
def tw8391878856071876260:=0
def tw4307845871294092996:=0
def tw8289724541379422916:=0
def tw14478005676764964580:=0
def tw5904018963095587620:=0
def tw16102483968291821444:=0
def tw14470208727420373956:=0
def tw13521981279112561636:=0
def tw4078104482657904901:=0
def tw2442421419048824069:=0
def tw10882476746900741477:=0
def tw162385350925076837:=0
def tw802971694166007141:=0
def tw11783817232872976805:=0
def tw18114268513722894821:=0
def tw4598052762371922437:=0
def tw17827412311164126757:=0
def tw7060509276936815205:=0
def tw15325766501447034469:=0
def tw9855937175555076869:=0
def tw9466846057189387109:=0
def tw4785051847883623397:=0
def tw13827394618917869541:=0
def tw6068948618089408646:=0
def tw17397423751840152070:=0
def tw11403195945765427750:=0
def tw12230712527209028166:=0
def tw14135748288531046022:=0
def tw17185612716304418438:=0
def tw986007549445495686:=0
def tw2792542536017267686:=0
def tw15628378304430512263:=0
def tw2894463624107842695:=0
def tw4312289631220142247:=0
def tw9927323621084807399:=0
def tw5255206512897385799:=0
def tw799065830598148551:=0
def tw3464200989809471015:=0
def tw875534262852397639:=0
def tw2798013009974998599:=0
def tw2670578270789106247:=0
def tw1797172758871356007:=0
def tw14089115703987085991:=0
def tw8606421868147339943:=0
def tw17263776786436519591:=0
def tw4457268740356166343:=0
def tw11866701108705233703:=0
def tw13297310476964088711:=0
def tw18209808396287777703:=0
def tw11418674955586621512:=0
def tw11956241544750751816:=0
def tw4006191895024744616:=0
def tw1312795508004512936:=0
def tw9816109148876244168:=0
def tw6565056066504498504:=0
def tw10932928227385215464:=0
def tw9443180088430592520:=0
def tw16176186453793523272:=0
def tw8624763512201408104:=0
def tw14269472390258767592:=0
def tw9580646648010130216:=0
def tw9995829401458457512:=0
def tw3311927181503302665:=0
def tw2286491590137146537:=0
def tw11479967031977661641:=0
def tw15985707549796160873:=0
def tw3168522975089972649:=0
def tw17049134295027775913:=0
def tw14977677888944402921:=0
def tw10922516619625436681:=0
def tw12869386449741557257:=0
def tw372145583011216937:=0
def tw4033944316645456457:=0
def tw4001267166717309673:=0
def tw13078534487028040746:=0
def tw18120481550711505962:=0
def tw15866436831202303018:=0
def tw63686639026071690:=0
def tw11493345103244750986:=0
def tw781192142383300842:=0
def tw2294469070425657674:=0
def tw12640389219188126090:=0
def tw18104315357466750410:=0
def tw6559792242786619914:=0
def tw9047554746294308394:=0
def tw17215482589724541514:=0
def tw10180036793380690506:=0
def tw10560504516245342890:=0
def tw18401452806446701290:=0
def tw9379613456032336650:=0
def tw12467100161468091146:=0
def tw4092246395407519594:=0
def tw2411258618073692042:=0
def tw7494492404483337227:=0
def tw10880007834420146251:=0
def tw17330332429632279787:=0
def tw17480302563978397931:=0
def tw5809808527433513227:=0
def tw12758341385198426379:=0
def tw13074007269761233227:=0
def tw5112940983566147947:=0
def tw15452620007775729035:=0
def tw10746706192056889771:=0
def tw2578015816573622763:=0
def tw7975281917793349131:=0
def tw13144434060464602635:=0
def tw9717456332417746507:=0
def tw3834946221346842251:=0
def tw11113756712882832139:=0
def tw3477503093174197003:=0
def tw15620171315697500011:=0
def tw4304498747765750763:=0
def tw15132787562731122732:=0
def tw15233532090789146668:=0
def tw11043043840920900684:=0
def tw11694901198461365356:=0
def tw16095362926293112012:=0
def tw17517868837906040044:=0
def tw17323613154905650476:=0
def tw11177003816276872588:=0
def tw16585617158445928908:=0
def tw15638857453608813068:=0
def tw6279777449064875596:=0
def tw10832901512144091756:=0
def tw15675579857343890092:=0
def tw2864348749342212876:=0
def tw16295436849186031372:=0
def tw3040989116687694636:=0
def tw16358406761610002220:=0
def tw16425154204126260140:=0
def tw16579473283008084013:=0
def tw11229907796970930381:=0
def tw10187610680111710573:=0
def tw2464846744812628397:=0
def tw2310786796957712845:=0
def tw6362976389030695597:=0
def tw5010977080131219149:=0
def tw17852218749987817261:=0
def tw1518256423349715853:=0
def tw9228541835592464398:=0
def tw17827656396214762542:=0
def tw7495075218858872910:=0
def tw3814979653848648142:=0
def tw6617830890077176302:=0
def tw15531369895245647374:=0
def tw17699341931357172270:=0
def tw7266280493236934318:=0
def tw12286761358788566766:=0
def tw14407246333240190766:=0
def tw6335733456734215022:=0
def tw18308884081539645487:=0
def tw14029271370208639311:=0
def tw3504216055138853295:=0
def tw7667211143532672431:=0
def tw12238240198823123407:=0
def tw5824963647308132815:=0
def tw3861522068292353551:=0
def tw11068279962803679791:=0
def tw12924178498937366095:=0
def tw17704083216483803823:=0
def tw15137532399727059727:=0
def tw10802000840465062703:=0
def tw1801331842732902255:=0
def tw9809430515561761679:=0
def tw16552441360598142927:=0
def tw13413439382257119183:=0
def tw303264098503197712:=0
def tw13225124648820267120:=0
def tw4049805179384310960:=0
def tw3068113570543451312:=0
def tw5235413139470567600:=0
def tw10347479892410948816:=0
def tw731114993645152560:=0
def tw1956068334289949200:=0
def tw6516107068702307888:=0
def tw7215371326912424656:=0
def tw15365491886053952336:=0
def tw7772873557525018448:=0
def tw13110426655594677168:=0
def tw13819543921823079473:=0
def tw10902921399308320945:=0
def tw9713757429148356785:=0
def tw17874660738729782481:=0
def tw6615825308501847249:=0
def tw41079598319293745:=0
def tw9112501451914636625:=0
def tw9786384015227176497:=0
def tw15802538893623297681:=0
def tw6612319703322814129:=0
def tw12629544706874247889:=0
def tw2139989333824947057:=0
def tw5434717014607027089:=0
def tw3620043308489533329:=0
def tw153218733283606449:=0
def tw542240685608500338:=0
def tw18428514948703199378:=0
def tw3394153439672488146:=0
def tw10361789697033131314:=0
def tw5503679201368539506:=0
def tw12605029477170124178:=0
def tw12337887811446982034:=0
def tw17303359764500841010:=0
def tw8592093047251547762:=0
def tw4274152864720635506:=0
def tw9420620292166332050:=0
def tw18005231628949696146:=0
def tw8808064781168726674:=0
def tw3656336019308686194:=0
def tw10990510385832451954:=0
def tw3648533779638642610:=0
def tw4111054932324739026:=0
def tw15327165528045995091:=0
def tw11401015675346542675:=0
def tw14177605266938336467:=0
def tw4865735051655383283:=0
def tw16910260955003893203:=0
def tw3488467720428895699:=0
def tw3674835460366248467:=0
def tw13397926775505203795:=0
def tw18206146687437191763:=0
def tw9134891052729629363:=0
def tw10403617510822043347:=0
def tw17791313870298810163:=0
def tw16481521764856451891:=0
def tw11424161794510439251:=0
def tw1334605590189743987:=0
def tw16353912568373969843:=0
def tw11431235870680179635:=0
def tw13665990111410643923:=0
def tw5364402254133575667:=0
def tw17101986571038933044:=0
def tw8058535342275927124:=0
def tw2926100215160279188:=0
def tw8289594776118568116:=0
def tw6510837460928189620:=0
def tw13412841576156646772:=0
def tw5138744831717007764:=0
def tw16996045048987835956:=0
def tw6831827350688789172:=0
def tw199771954765305556:=0
def tw13758353654742039316:=0
def tw13304842558657997684:=0
def tw9219688866835810164:=0
def tw2764406407979347860:=0
def tw18308600647380221940:=0
def tw10628596014406220885:=0
def tw15791693115750269013:=0
def tw5685932216765380725:=0
def tw14230964134912226485:=0
def tw14312688298237387061:=0
def tw9699416217653645717:=0
def tw14459354327345911253:=0
def tw10336071844266006101:=0
def tw15106237339746101845:=0
def tw16900033400487470741:=0
def tw12143861287943380693:=0
def tw683901552255348565:=0
def tw11758171802003603285:=0
def tw13875284560316944277:=0
def tw7694966230455151509:=0
def tw13918467426498292661:=0
def tw14169901592259227605:=0
def tw160287678640357430:=0
def tw977411419316894838:=0
def tw4000001119293164694:=0
def tw3504900622860169494:=0
def tw14484936094144683286:=0
def tw13109665980570853654:=0
def tw6302238811278641494:=0
def tw733794232197086582:=0
def tw14400954077784551830:=0
def tw1692611044437676438:=0
def tw1145830042031529462:=0
def tw4755297419433167414:=0
def tw8615155712778333750:=0
def tw5096412870820672118:=0
def tw3427745858373212886:=0
def tw7478083704421737174:=0
def tw16338230795056328534:=0
def tw3036478426807469974:=0
def tw14271308823494644630:=0
def tw12251735534965747606:=0
def tw12706069145033349110:=0
def tw13382882292763628663:=0
def tw16842453098408010903:=0
def tw18039513320791495959:=0
def tw193840353485783351:=0
def tw14724270404235617591:=0
def tw13662884690390934839:=0
def tw804401040640943447:=0
def tw9689104586669295991:=0
def tw17366664724063197591:=0
def tw8590755562522535351:=0
def tw4644718392395778519:=0
def tw9422205577588604503:=0
def tw1652266349922772599:=0
def tw5230784682903379607:=0
def tw17748140301347283607:=0
def tw17745950903455719095:=0
def tw692163657096926935:=0
def tw10771872168481163031:=0
def tw8716864633858071319:=0
def tw8737469782533094199:=0
def tw12496920994044898103:=0
def tw13611921769739027351:=0
def tw15294539135672597431:=0
def tw3944809647053709303:=0
def tw554172566004174936:=0
def tw16980732339582919768:=0
def tw6659084253520957560:=0
def tw2055845602047863128:=0
def tw4428632312282284408:=0
def tw17192876672338441592:=0
def tw5579550816745780792:=0
def tw8916671030202508952:=0
def tw10710124496649472664:=0
def tw6048145164992781016:=0
def tw18055545554884128536:=0
def tw3138691249755000921:=0
def tw7304742895058013337:=0
def tw16459265556430175513:=0
def tw2809157991917024825:=0
def tw5090725475406089849:=0
def tw6444344493779958393:=0
def tw16885940200553023129:=0
def tw8649798124453164729:=0
def tw4275795969988124377:=0
def tw10205001986813997913:=0
def tw10048683746118001497:=0
def tw8395876587779147769:=0
def tw525914098077455353:=0
def tw5642649719349891098:=0
def tw11869422040115943482:=0
def tw2404241037133057114:=0
def tw17892966408786374778:=0
def tw17655406816528478362:=0
def tw1631375301576234170:=0
def tw9612514865234844986:=0
def tw7492288180626020698:=0
def tw1546287998145848666:=0
def tw10888750253561518618:=0
def tw10289489177634228762:=0
def tw12421875405597937274:=0
def tw3540223924120525466:=0
def tw16583009270219236090:=0
def tw1644819919076719482:=0
def tw14637752725754624986:=0
def tw17250029516858857466:=0
def tw7259092163898502138:=0
def tw13682662908072244251:=0
def tw4565082204466639003:=0
def tw14749991644966616251:=0
def tw227575137855789275:=0
def tw13722610089392010491:=0
def tw10780506920677303579:=0
def tw13346341075404059963:=0
def tw6583248467160286587:=0
def tw4219984067299861915:=0
def tw2062036246913970587:=0
def tw9675639425185106363:=0
def tw8886634170117542331:=0
def tw11557706254917664219:=0
def tw2234141326289191483:=0
def tw12959112720661516891:=0
def tw10617027297042442843:=0
def tw16477886264887025307:=0
def tw958405475722063611:=0
def tw2362287076932745147:=0
def tw15107332310324915228:=0
def tw7228796769153938524:=0
def tw16330309120029083772:=0
def tw18346959172827678876:=0
def tw1924728002131059868:=0
def tw13024915117611672796:=0
def tw3111211380281421052:=0
def tw15061455393295657212:=0
def tw5789051736744778012:=0
def tw10780128150720714076:=0
def tw3123726726799858012:=0
def tw16104688836712470876:=0
def tw3493502857306122652:=0
def tw13461520167078528476:=0
def tw1253508768471878140:=0
def tw13945073182440935964:=0
def tw11092138277971288604:=0
def tw13032621851577524828:=0
def tw8161677722122475100:=0
def tw5976636731747508892:=0
def tw10931148746898104028:=0
def tw14719162741661329276:=0
def tw2355589835326575516:=0
def tw15829214494632724509:=0
def tw4681787067913540765:=0
def tw4591465980318327133:=0
def tw13592693713088083293:=0
def tw17362481145435565437:=0
def tw6969611562233847197:=0
def tw4894963462718365245:=0
def tw4459062801880413757:=0
def tw974782927278116477:=0
def tw12846268272508599933:=0
def tw9940949321083667101:=0
def tw2282709046001170077:=0
def tw5567003207727687389:=0
def tw2887268264450146077:=0
def tw2787494696575856445:=0
def tw9360818544517048253:=0
def tw767275759710489597:=0
def tw2928464293819645982:=0
def tw3096751739103684638:=0
def tw16109795926250347870:=0
def tw15911568186487569758:=0
def tw5896668542613079454:=0
def tw4403701728848821694:=0
def tw1191346745720028734:=0
def tw11654725672106413950:=0
def tw3669908894571758526:=0
def tw15306118570482829278:=0
def tw12154019469576845278:=0
def tw3231196331810423806:=0
def tw9356169582279653439:=0
def tw14298344860961555551:=0
def tw13481234642818610335:=0
def tw8803529417816314207:=0
def tw13605415454114635135:=0
def tw618784526147422623:=0
def tw3461172799725212255:=0
def tw6852610025172431519:=0
def tw2175592521395046143:=0
def tw5506228474569936639:=0
def tw14087855770556408639:=0
def tw17898661437811970911:=0
def tw10439291489236840415:=0
def tw18163932683508067327:=0
end PySem.W.Fast
open PySem PySem.W PyProof.Rows
set_option maxRecDepth 100000 in
set_option maxHeartbeats 0 in
theorem PySem.Challenge.cw_slanttables_k40_squares_by_anybody_holds : PySem.Challenge.rw_slanttables_k40_squares_by_anybody.Holds := by
  w_on;o_law;k_head;(case hw=>w_witness2)
  k_fill
  refine LP.B.C.Q0.walk (l:=PySem.Challenge.rw_slanttables_k40_squares_by_anybody) rfl rfl (fun w h Y=>PySem.W.kIn_of Y) ?F
  case F=>
    intro w mg fa h KX G hmg
    refine LP.B.C.Q0.all_mk ?_ hmg
    constructor
    all_goals first
      | (refine' LP.mkF KX G ?a ?l ?c ?k;(case a=>k_is);(case l=>k_is);(case c=>k_is);(case k=>k_is))
      | (refine' mg_none_of KX G ?a;case a=>k_is)
      | (refine' LP.mkC KX G ?a;case a=>k_is)
      | (refine' LP.mkI KX G ?a;case a=>k_is)
      | (refine' LP.mkT KX G ?a ?l;(case a=>k_is);(case l=>k_is))
      | (refine' LP.mkX KX G ?a ?e;(case a=>k_is);(case e=>k_exc))
      | (refine' LP.mkH KX G ?a ?e ?_;(case a=>k_is);(case e=>k_exc);intro n hn;simp only [LP.LX,List.mem_cons,List.not_mem_nil,or_false] at hn;first | (rcases hn with rfl | rfl | rfl | rfl | rfl | rfl | rfl | rfl | rfl | rfl | rfl<;>(refine' LP.exD ?a ?b;(case a=>k_is);(case b=>k_is))) | (rcases hn with rfl | rfl | rfl | rfl | rfl | rfl<;>(refine' LP.exD ?a ?b;(case a=>k_is);(case b=>k_is))) | (rcases hn with rfl | rfl | rfl<;>(refine' LP.exD ?a ?b;(case a=>k_is);(case b=>k_is))) | (subst hn;refine' LP.exD ?a ?b;(case a=>k_is);(case b=>k_is)))
      | (refine ⟨fun n hn=>?_⟩;simp only [LP.LX,List.mem_cons,List.not_mem_nil,or_false] at hn;rcases hn with rfl | rfl | rfl | rfl | rfl | rfl<;>
         (refine' LP.exX ?a (LP.clsX_of ?g ?n ?b ?h ?c ?d ?t ?o) ?k ?_;(case a=>k_is);(case g=>k_is);(case n=>k_is);(case b=>k_is);(case h=>k_is);(case c=>k_is);(case d=>k_is);(case t=>k_is);(case o=>k_is);(case k=>kit_is)
          intro m hm;simp only [LP.MX,LP.LX,List.mem_cons,List.not_mem_nil,or_false] at hm;rcases hm with rfl | rfl | rfl | rfl | rfl | rfl | rfl | rfl | rfl<;>
           (refine' LP.exC ?a ?b;(case a=>k_is);(case b=>first | (refine Eq.trans (b:=some true) ?_ (by decide +kernel);kit_is) | (refine Eq.trans (b:=some false) ?_ (by decide +kernel);kit_is)))))
